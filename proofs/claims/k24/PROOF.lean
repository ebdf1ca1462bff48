import PyProof.Rows.All
import Wide.All
import OpenK.AllK
import Wide.FinOn
import Lean
import PyProof.EqAt
import PyProof.EqKinds
import PyProof.TupleCall
import PyProof.NeKinds
import PyProof.EnumMake
import PyProof.EnumStmt
import PyProof.LayNew
import KE.KDictLaws
import KE.KDictSum
import KE.LcSums
import PyProof.Rows.SumAny
import PyProof.Rows.SortWalk
import PyProof.DictWalks
import PyProof.Rows.SortRev
import KE.KRevIter
import KE.KIntText
import PyProof.CallStr
import PyProof.StrCalls2
import PyProof.Rows.StrJoin2
import PyProof.StrWalks
import PyProof.Rows.Range3
import PyProof.Rows.MatchSeqLen
import PySem.Challenge.RW_frameland_k24_refused_stretches
set_option Elab.async false
set_option linter.all false
set_option genSizeOf false
set_option bootstrap.genMatcherCode false
set_option maxRecDepth 100000
local macro_rules | `(tactic| omega) => `(tactic| first | decide | lia | omega (config := {}))
namespace L2
open PySem PySem.Spec PyProof.Rows
noncomputable abbrev Key:=Sum Int Str
noncomputable def keyIs:Key→Value→Bool
 |.inl k,v=>Value.isInt k v
 |.inr x,v=>Value.isStrOf x v
noncomputable def keyH (w:World):Key→Int
 |.inl k=>hashInt k
 |.inr x=>hashStr w x
theorem abh:∀{k:Key} {v:Value},keyIs k v=true→(∃i t,k=Sum.inl i∧v=Value.int i t)∨(∃x t,k=Sum.inr x∧v=Value.str x t)
 |.inl i,v,h=>by
  obtain⟨t,e⟩:=Value.isInt_shape (k:=i) (v:=v) h
  exact .inl ⟨i,t,rfl,e⟩
 |.inr x,v,h=>by
  obtain⟨t,e⟩:=Value.isStrOf_shape (x:=x) (v:=v) h
  exact .inr ⟨x,t,rfl,e⟩
theorem key_ll (a b:Int):decide ((Sum.inl a:Key)=Sum.inl b)=(a == b):=by
 by_cases e:a=b
 ·subst e;simp
 ·have h:¬(Sum.inl a:Key)=Sum.inl b:=fun q=>e (Sum.inl.inj q)
  rw[decide_eq_false h]
  exact (beq_eq_false_iff_ne.mpr e).symm
theorem key_rr (a b:Str):decide ((Sum.inr a:Key)=Sum.inr b)=decide (a=b):=by
 by_cases e:a=b
 ·subst e;simp
 ·have h:¬(Sum.inr a:Key)=Sum.inr b:=fun q=>e (Sum.inr.inj q)
  rw[decide_eq_false h,decide_eq_false e]
theorem key_lr (a:Int) (b:Str):decide ((Sum.inl a:Key)=Sum.inr b)=false:=decide_eq_false (fun q=>nomatch q)
theorem key_rl (a:Str) (b:Int):decide ((Sum.inr a:Key)=Sum.inl b)=false:=decide_eq_false (fun q=>nomatch q)
noncomputable def mixKind (prog:Program) (w:World):PySem.KeyKind prog w Key where
 is:=keyIs
 hash:=keyH w
 inj:=fun v a b ha hb=>by
  rcases abh ha with ⟨i,t,rfl,rfl⟩|⟨x,t,rfl,rfl⟩
  ·rcases abh hb with ⟨j,u,rfl,e⟩|⟨y,u,rfl,e⟩
   ·injection e with e1 _;rw[e1]
   ·exact nomatch e
  ·rcases abh hb with ⟨j,u,rfl,e⟩|⟨y,u,rfl,e⟩
   ·exact nomatch e
   ·injection e with e1 _;rw[e1]
 byValue:=fun k v h=>by
  rcases abh h with ⟨i,t,rfl,rfl⟩|⟨x,t,rfl,rfl⟩<;>rfl
 pyHash:=fun hv h=>by
  rcases abh hv with ⟨i,t,rfl,rfl⟩|⟨x,t,rfl,rfl⟩
  ·exact wpAny_pyHash_int h
  ·exact wpAny_pyHash_str h
 eqBool:=fun hu hv h=>by
  rcases abh hu with ⟨i,t,rfl,rfl⟩|⟨x,t,rfl,rfl⟩
  ·rcases abh hv with ⟨j,u,rfl,rfl⟩|⟨y,u,rfl,rfl⟩
   ·rw[key_ll] at h;exact wpAny_eqBool_int h
   ·rw[key_lr] at h;exact SeqAt.EqAt.int_str i t y u _ _ _ _ h
  ·rcases abh hv with ⟨j,u,rfl,rfl⟩|⟨y,u,rfl,rfl⟩
   ·rw[key_rl] at h;exact SeqAt.EqAt.str_int x t j u _ _ _ _ h
   ·rw[key_rr] at h;exact wpAny_eqBool_str h
 «strs» :=fun k x t v h=>by
  rcases abh h with ⟨i,u,rfl,e⟩|⟨y,u,rfl,e⟩
  ·exact nomatch e
  ·injection e with e1 _
   subst e1
   cases v<;>rfl
end L2
namespace L2
open PySem PySem.Spec PyProof.Rows
inductive V where
 |non|bl (b:Bool)|int (i:Int)|str (x:Str)|byt (b:Array UInt8)|flt (b:UInt64)|ref (a:Addr)|ty (n:String)
 deriving DecidableEq
noncomputable def RelV:V→Value→Prop
 |.non,u=>u=Value.none
 |.bl b,u=>u=Value.bool b
 |.int i,u=>∃t,u=Value.int i t
 |.str x,u=>∃t,u=Value.str x t
 |.byt b,u=>∃t,u=Value.bytes b t
 |.flt b,u=>∃t,u=Value.float b t
 |.ref a,u=>u=Value.ref a
 |.ty n,u=>u=Value.type n
noncomputable abbrev Vals:List V→List Value→Prop:=Paired RelV
theorem Vals.length {xs:List V} {us:List Value} (r:Vals xs us):xs.length=us.length:=Paired.length r
theorem Vals.get:∀{xs:List V} {us:List Value} {i:Nat} {x:V},Vals xs us→xs[i]?=some x→∃u,us[i]?=some u∧RelV x u
 |_,_,_,_,.nil,e=>by simp at e
 |_,_,0,_,.cons r _,e=>by simp at e;subst e;exact⟨_,rfl,r⟩
 |_,_,i+1,x,.cons _ t,e=>by
  obtain⟨u,h1,h2⟩:=Vals.get (i:=i) (x:=x) t (by simpa using e)
  exact⟨u,by simpa using h1,h2⟩
theorem Vals.set {x:V} {u:Value} (r:RelV x u):∀{xs:List V} {us:List Value} (i:Nat),Vals xs us→Vals (xs.set i x) (us.set i u)
 |_,_,_,.nil=>.nil
 |_,_,0,.cons _ t=>.cons r t
 |_,_,i+1,.cons q t=>.cons q (Vals.set r i t)
theorem Vals.append:∀{xs ys:List V} {us ws:List Value},Vals xs us→Vals ys ws→Vals (xs++ys) (us++ws)
 |_,_,_,_,.nil,s=>s
 |_,_,_,_,.cons r t,s=>.cons r (Vals.append t s)
theorem Vals.take:∀{xs:List V} {us:List Value} (n:Nat),Vals xs us→Vals (xs.take n) (us.take n)
 |_,_,0,_=>.nil
 |_,_,_+1,.nil=>.nil
 |_,_,n+1,.cons r t=>.cons r (Vals.take n t)
theorem Vals.drop:∀{xs:List V} {us:List Value} (n:Nat),Vals xs us→Vals (xs.drop n) (us.drop n)
 |_,_,0,r=>r
 |_,_,_+1,.nil=>.nil
 |_,_,n+1,.cons _ t=>Vals.drop n t
noncomputable def RelO:Option V→Option Value→Prop
 |some v,some u=>RelV v u
 |none,none=>True
 |_,_=>False
noncomputable def KV {κ:Type}:List (κ×V)→List (κ×Value)→Prop:=Paired fun (p:κ×V) (q:κ×Value)=>p.1=q.1∧RelV p.2 q.2
noncomputable def kV:Key→V
 |.inl i=>.int i
 |.inr x=>.str x
inductive HO where
 |lst (xs:List V)
 |tup (xs:List V)
 |dK (kvs:List (Key×V))|dT (kvs:List (List Key×V))
 |set (S:Int→Bool) (n:Nat)
 |ins (C dx:Addr) (fs:List (Str×V))
 |own (x:Addr)
 |xd (fs:List (Str×V))
 |met (f x:Addr)
 |rng (lo hi:Int)
 |frz (o:Obj) (u:HO)
 |tbl (ps:Array Value)
 |ext (φ:Heap→Prop)
noncomputable abbrev Hp:=Addr→Option HO
noncomputable def upd (H:Hp) (a:Addr) (o:HO):Hp:=fun b=>if b=a then some o else H b
theorem aaf {H:Hp} {a:Addr} {o:HO}:upd H a o a=some o:=by unfold upd;rw[if_pos rfl]
theorem aaw {H:Hp} {a b:Addr} {o:HO} (h:b≠a):upd H a o b=H b:=by unfold upd;rw[if_neg h]
theorem ahk {H:Hp} {a b:Addr} {o u:HO} (h:H a=some o) (h':H b=some u) (d:o≠u):a≠b:=by
 intro e;subst e;rw[h] at h';exact d (Option.some.inj h')
theorem aau {H:Hp} {a b:Addr} {o:HO} (h:H a=some o) (h':H b=none):a≠b:=by
 intro e;subst e;rw[h] at h';cases h'
section
variable (P:Program) (w:World)
noncomputable def ObjOk (H:Hp) (h:Heap) (a:Addr):HO→Prop
 |.lst xs=>xs.length≤sizeLine∧∃(its:List Value) (n:Nat),Vals xs its∧h.get? a=some {cls:=.type "list",data:=.seq its.toArray n}
 |.tup xs=>xs.length≤sizeLine∧∃its:List Value,Vals xs its∧IsTup h a its.toArray
 |.dK kvs=>kvs.length≤sizeLine∧(a == sysModules)=false∧∃vs,KV kvs vs∧h.DictOf (mixKind P w) a vs
 |.dT kvs=>kvs.length≤sizeLine∧(a == sysModules)=false∧∃xs:List (List Key×Addr×Value),
  Paired (fun (p:List Key×V) (q:List Key×Addr×Value)=>p.1=q.1∧H q.2.1=some (.tup (p.1.map kV))∧RelV p.2 q.2.2) kvs xs∧
  ∃o es ep,h.get? a=some o∧o.ExactDict∧o.data=.dict es ep∧es.toList=xs.map (entryOfKey (tupleKind (mixKind P w)))∧(xs.map (·.1)).Nodup
 |.set S n=>h.SetOf (intKind P w) a S n
 |.ins C dx fs=>H dx=some (.own a)∧fs.length≤1000∧dx≠a∧h.get? a=some (PySem.W.instObj C dx)∧
  ∃mA,h.Ns1 dx mA∧(∀f,RelO (fs.lookup f) (mA f))∧PySem.Within mA (fs.map (·.1))
 |.own _=>∃o,h.get? a=some o
 |.xd fs=>∃mA,h.Ns1 a mA∧∀f,RelO (fs.lookup f) (mA f)
 |.rng lo hi=>∃t u v,h.get? a=some {cls:=.type "range",data:=.fields #[.int lo t,.int hi u,.int 1 v]}
 |.frz o u=>h.get? a=some o∧ObjOk H h a u
 |.tbl ps=>h.get? a=some {cls:=.none,data:=.fields ps}
 |.met f x=>h.get? a=some (PySem.W.methodObj (.ref f) (.ref x))
 |.ext φ=>φ h∧(∃o,h.get? a=some o)∧∀h1 h2:Heap,φ h1→(∀o,h1.get? a=some o→h2.get? a=some o)→φ h2
noncomputable def HOk (H:Hp) (h:Heap):Prop:=∀a o,H a=some o→ObjOk P w H h a o
end
section
variable {P:Program} {w:World} {H H':Hp} {h h':Heap} {a:Addr} {o:HO}
theorem ObjOk.lt (x:ObjOk P w H h a o):a < h.objs.size:=by
 cases o with
 |lst xs=>obtain⟨_,_,_,_,e⟩:=x;exact Heap.lt_size e
 |tup xs=>obtain⟨_,_,_,p⟩:=x;exact p.lt
 |dK kvs=>obtain⟨_,_,_,_,o,_,_,e,_⟩:=x;exact Heap.lt_size e
 |dT kvs=>obtain⟨_,_,_,_,o,_,_,e,_⟩:=x;exact Heap.lt_size e
 |set S n=>obtain⟨o,_,_,_,e,_⟩:=x;exact Heap.lt_size e
 |ins C dx fs=>obtain⟨_,_,_,e,_⟩:=x;exact Heap.lt_size e
 |own y=>obtain⟨_,e⟩:=x;exact Heap.lt_size e
 |xd fs=>obtain⟨_,⟨_,_,_,e,_⟩,_⟩:=x;exact Heap.lt_size e
 |rng lo hi=>obtain⟨_,_,_,e⟩:=x;exact Heap.lt_size e
 |frz ob u=>obtain⟨e,_⟩:=x;exact Heap.lt_size e
 |tbl ps=>exact Heap.lt_size (show h.get? a=some _ from x)
 |met f y=>exact Heap.lt_size (show h.get? a=some _ from x)
 |ext φ=>obtain⟨_,⟨_,e⟩,_⟩:=x;exact Heap.lt_size e
theorem Paired.mapP {α β:Type} {F G:α→β→Prop}:∀{l₁:List α} {l₂:List β},Paired F l₁ l₂→(∀a b,F a b→G a b)→Paired G l₁ l₂
 |_,_,.nil,_=>.nil
 |_,_,.cons r t,f=>.cons (f _ _ r) (Paired.mapP t f)
theorem ObjOk.stay (x:ObjOk P w H h a o) (k:∀b u,(b=a∨H b=some (.own a))→h.get? b=some u→h'.get? b=some u)
  (ho:∀b,H b=some (.own a)→H' b=some (.own a)) (ht:∀b xs,H b=some (.tup xs)→H' b=some (.tup xs)):ObjOk P w H' h' a o:=by
 induction o with
 |lst xs=>obtain⟨z,its,n,r,e⟩:=x;exact⟨z,its,n,r,k _ _ (.inl rfl) e⟩
 |tup xs=>obtain⟨z,its,r,ob,e,c⟩:=x;exact⟨z,its,r,ob,k _ _ (.inl rfl) e,c⟩
 |dK kvs=>obtain⟨z,y,vs,r,ob,es,ep,e,c⟩:=x;exact⟨z,y,vs,r,ob,es,ep,k _ _ (.inl rfl) e,c⟩
 |dT kvs=>
  obtain⟨z,y,xs,r,ob,es,ep,e,c⟩:=x
  exact⟨z,y,xs,Paired.mapP r fun p q z=>⟨z.1,ht _ _ z.2.1,z.2.2⟩,ob,es,ep,k _ _ (.inl rfl) e,c⟩
 |set S n=>obtain⟨ob,es,ep,t,e,c⟩:=x;exact⟨ob,es,ep,t,k _ _ (.inl rfl) e,c⟩
 |ins C dx fs=>
  obtain⟨d,z,ne,e,mA,⟨od,es,ep,e2,c⟩,r⟩:=x
  exact⟨ho _ d,z,ne,k _ _ (.inl rfl) e,mA,⟨od,es,ep,k _ _ (.inr d) e2,c⟩,r⟩
 |own y=>obtain⟨ob,e⟩:=x;exact⟨ob,k _ _ (.inl rfl) e⟩
 |xd fs=>obtain⟨mA,⟨od,es,ep,e,c⟩,r⟩:=x;exact⟨mA,⟨od,es,ep,k _ _ (.inl rfl) e,c⟩,r⟩
 |rng lo hi=>obtain⟨t,u,v,e⟩:=x;exact⟨t,u,v,k _ _ (.inl rfl) e⟩
 |frz ob u ih=>obtain⟨e,q⟩:=x;exact⟨k _ _ (.inl rfl) e,ih q⟩
 |tbl ps=>
  have e:h.get? a=some {cls:=.none,data:=.fields ps}:=x
  show h'.get? a=some {cls:=.none,data:=.fields ps}
  exact k a _ (.inl rfl) e
 |met f y=>
  have e:h.get? a=some (PySem.W.methodObj (.ref f) (.ref y)):=x
  show h'.get? a=some (PySem.W.methodObj (.ref f) (.ref y))
  exact k a _ (.inl rfl) e
 |ext φ=>obtain⟨p,⟨o,e⟩,st⟩:=x;exact⟨st _ _ p fun o q=>k _ _ (.inl rfl) q,⟨o,k _ _ (.inl rfl) e⟩,st⟩
theorem HOk.lt (x:HOk P w H h) (e:H a=some o):a < h.objs.size:=(x a o e).lt
theorem HOk.fresh (x:HOk P w H h) (e:h.objs.size≤a):H a=none:=by
 cases q:H a with
 |none=>rfl
 |some u=>exact absurd (Nat.lt_of_lt_of_le (x.lt q) e) (Nat.lt_irrefl _)
theorem HOk.kept (x:HOk P w H h) (k:∀b u,h.get? b=some u→h'.get? b=some u):HOk P w H h':=fun a o e=>
 (x a o e).stay (fun b u _ q=>k b u q) (fun _ q=>q) fun _ _ q=>q
theorem HOk.laid (x:HOk P w H h) (k:∀b u,h.get? b=some u→h'.get? b=some u) (hp:h.objs.size≤a) (new:ObjOk P w (upd H a o) h' a o):HOk P w (upd H a o) h':=fun b u e=>by
 have hn:=x.fresh hp
 by_cases hb:b=a
 ·subst hb;rw[aaf] at e;cases e;exact new
 ·rw[aaw hb] at e
  exact (x b u e).stay (fun c v _ q=>k c v q) (fun c q=>by rw[aaw (aau q hn)];exact q) fun c xs q=>by rw[aaw (aau q hn)];exact q
end
noncomputable def Rd (H:Hp) (a:Addr) (u:HO):Prop:=H a=some u∨∃o,H a=some (.frz o u)
theorem Rd.of {H:Hp} {a:Addr} {u:HO} (h:H a=some u):Rd H a u:=.inl h
theorem Rd.ok {P:Program} {w:World} {H:Hp} {h:Heap} {a:Addr} {u:HO} (r:Rd H a u) (x:HOk P w H h):ObjOk P w H h a u:=by
 rcases r with r|⟨o,r⟩
 ·exact x a u r
 ·obtain⟨_,q⟩:=x a _ r
  exact q
noncomputable def Mut:Option HO→Prop
 |some (.lst _)=>True
 |some (.dK _)=>True
 |some (.dT _)=>True
 |some (.set _ _)=>True
 |some (.ins _ _ _)=>True
 |some (.ext _)=>True
 |_=>False
section
variable {P:Program} {w:World} {H:Hp} {h h':Heap} {x e:Addr} {o':HO}
theorem HOk.write (ok:HOk P w H h) (mu:Mut (H x)) (he:e=x∨H e=some (.own x)) (k:∀b u,b≠e→h.get? b=some u→h'.get? b=some u) (heo:∃u,h'.get? e=some u)
  (new:ObjOk P w (upd H x o') h' x o'):HOk P w (upd H x o') h':=fun b u q=>by
 have nown:∀c y,H c=some (.own y)→c≠x:=fun c y r z=>by subst z;rw[r] at mu;exact mu
 have ntup:∀c xs,H c=some (.tup xs)→c≠x:=fun c xs r z=>by subst z;rw[r] at mu;exact mu
 by_cases hb:b=x
 ·subst hb;rw[aaf] at q;cases q;exact new
 ·rw[aaw hb] at q
  by_cases hbe:b=e
  ·have q':H b=some (.own x):=by
    rcases he with z|z
    ·exact absurd (hbe.trans z) hb
    ·rw[hbe];exact z
   rw[q] at q';cases q'
   obtain⟨v,hv⟩:=heo
   exact⟨v,by rw[hbe];exact hv⟩
  ·refine (ok b u q).stay (fun c v hc r=>k c v ?_ r) (fun c r=>by rw[aaw (nown c b r)];exact r) fun c xs r=>by rw[aaw (ntup c xs r)];exact r
   rcases hc with rfl|hc
   ·exact hbe
   ·rintro rfl
    rcases he with z|z
    ·exact nown c b hc z
    ·rw[hc] at z;cases z;exact hb rfl
end
structure Un (fs ex:List Addr) (H H':Hp) (h h':Heap):Prop where
 keep:∀b o,h.get? b=some o→H b=none→b∉fs→b∉ex→h'.get? b=some o
 slot:∀b o,h.get? b=some o→H b=none→b∈fs→b∉ex→∃sl,h'.get? b=some {o with slots:=sl}
 free:∀b o,h.get? b=some o→H b=none→b∉ex→H' b=none
 there:∀b o,h.get? b=some o→b∉ex→∃o',h'.get? b=some o'
 tups:∀b xs,H b=some (.tup xs)→H' b=some (.tup xs)
 frzs:∀b o u,H b=some (.frz o u)→H' b=some (.frz o u)
 tbls:∀b ps,H b=some (.tbl ps)→∃more,H' b=some (.tbl (ps++more))
section
variable {fs fs' ex ex':List Addr} {H H1 H2:Hp} {h h1 h2 h':Heap} {a x e:Addr} {o:HO}
theorem Un.any (u:Un fs ex H H1 h h1) {b:Addr} {ob:Obj} (q:h.get? b=some ob) (n:H b=none) (hx:b∉ex):∃sl,h1.get? b=some {ob with slots:=sl}:=by
 by_cases hb:b∈fs
 ·exact u.slot b ob q n hb hx
 ·exact⟨ob.slots,u.keep b ob q n hb hx⟩
theorem Un.trans (a:Un fs ex H H1 h h1) (b:Un fs ex H1 H2 h1 h2):Un fs ex H H2 h h2 where
 keep:=fun c ob q n hc hx=>b.keep c ob (a.keep c ob q n hc hx) (a.free c ob q n hx) hc hx
 slot:=fun c ob q n hc hx=>by
  obtain⟨sl,e1⟩:=a.slot c ob q n hc hx
  obtain⟨sl',e2⟩:=b.slot c _ e1 (a.free c ob q n hx) hc hx
  exact⟨sl',e2⟩
 free:=fun c ob q n hx=>by
  obtain⟨o',e1⟩:=a.there c ob q hx
  exact b.free c o' e1 (a.free c ob q n hx) hx
 there:=fun c ob q hx=>by
  obtain⟨o',e1⟩:=a.there c ob q hx
  exact b.there c o' e1 hx
 tups:=fun c xs q=>b.tups c xs (a.tups c xs q)
 frzs:=fun c ob xs q=>b.frzs c ob xs (a.frzs c ob xs q)
 tbls:=fun c ps q=>by
  obtain⟨m1,e1⟩:=a.tbls c ps q
  obtain⟨m2,e2⟩:=b.tbls c _ e1
  exact⟨m1++m2,by rw[e2,Array.append_assoc]⟩
theorem Un.kept (k:∀b u,h.get? b=some u→h'.get? b=some u):Un fs ex H H h h':=
 ⟨fun b ob q _ _ _=>k b ob q,fun b ob q _ _ _=>⟨ob.slots,k b ob q⟩,fun _ _ _ n _=>n,fun b ob q _=>⟨ob,k b ob q⟩,fun _ _ q=>q,fun _ _ _ q=>q,fun _ ps q=>⟨#[],by rw[q];simp⟩⟩
theorem Un.refl:Un fs ex H H h h:=Un.kept fun _ _ q=>q
theorem Un.laid (k:∀b u,h.get? b=some u→h'.get? b=some u) (hp:h.objs.size≤a) (hn:H a=none):Un fs ex H (upd H a o) h h' where
 keep:=fun b u q _ _ _=>k b u q
 slot:=fun b u q _ _ _=>⟨u.slots,k b u q⟩
 free:=fun b u q n _=>by rw[aaw (Nat.ne_of_lt (Nat.lt_of_lt_of_le (Heap.lt_size q) hp))];exact n
 there:=fun b u q _=>⟨u,k b u q⟩
 tups:=fun b xs q=>by rw[aaw (aau q hn)];exact q
 frzs:=fun b u xs q=>by rw[aaw (aau q hn)];exact q
 tbls:=fun b ps q=>⟨#[],by rw[aaw (aau q hn),q];simp⟩
theorem Un.write (mu:Mut (H x)) (he:e=x∨H e=some (.own x)) (k:∀b u,b≠e→h.get? b=some u→h'.get? b=some u) (heo:∃u,h'.get? e=some u):Un fs ex H (upd H x o) h h':=by
 have hx:∀b,H b=none→b≠x:=fun b n z=>by subst z;rw[n] at mu;exact mu
 have hb:∀b,H b=none→b≠e:=fun b n z=>by
  subst z
  rcases he with r|r
  ·exact hx b n r
  ·rw[n] at r;cases r
 have hm:∀b u,H b=some u→¬Mut (some u)→b≠x:=fun b u q nm z=>by subst z;rw[q] at mu;exact nm mu
 refine⟨fun b u q n _ _=>k b u (hb b n) q,fun b u q n _ _=>⟨u.slots,k b u (hb b n) q⟩,fun b u q n _=>by rw[aaw (hx b n)];exact n,fun b u q _=>?_,
  fun b xs q=>by rw[aaw (hm b _ q fun z=>z)];exact q,fun b u xs q=>by rw[aaw (hm b _ q fun z=>z)];exact q,fun b ps q=>⟨#[],by rw[aaw (hm b _ q fun z=>z),q];simp⟩⟩
 by_cases hbe:b=e
 ·subst hbe;exact heo
 ·exact⟨u,k b u hbe q⟩
end
noncomputable def trk (h:Heap) (H:Hp):List Addr:=(List.range h.objs.size).filter fun a=>(H a).isSome
noncomputable def hidT (h:Heap) (H:Hp):Heap:=PySem.W.hideAll h (trk h H)
theorem ahl (h:Heap) (H:Hp):(hidT h H).objs.size=h.objs.size:=PySem.W.hideAll_size _ _
theorem ai6 {h:Heap} {H:Hp} {b:Addr} {o:Obj} (e:h.get? b=some o) (n:H b=none):(hidT h H).get? b=some o:=
 PySem.W.hideAll_get _ e fun hm=>by
  have q:(H b).isSome=true:=(List.mem_filter.mp hm).2
  rw[n] at q;simp at q
theorem akf {h:Heap} {H:Hp} {b:Addr} {o:Obj} (e:(hidT h H).get? b=some o):h.get? b=some o∧H b=none:=by
 have e':h.get? b=some o:=PySem.W.of_hideAll (trk h H) e
 refine⟨e',?_⟩
 cases q:H b with
 |none=>rfl
 |some x=>
  have hm:b∈trk h H:=List.mem_filter.mpr ⟨List.mem_range.mpr (Heap.lt_size e'),by simp[q]⟩
  have z:(hidT h H).get? b=none:=PySem.W.hideAll_none (trk h H) hm
  rw[z] at e;cases e
noncomputable def allNews (g h:Heap) (L:Addr):List (Addr×Obj):=(List.range h.objs.size).filterMap fun a=>if a=L∨(g.get? a).isSome=true then none else (h.get? a).map fun o=>(a,o)
noncomputable def rest (g h:Heap) (L d:Addr):List (Addr×Obj):=(allNews g h L).filter fun p=>decide (p.1≠d)
end L2
namespace L2
open PySem PySem.Spec PyProof.Rows
structure Mod (K:PySem.W.Frag) (mg:Str→Option Value) (base:Heap):Prop where
 kin:K.In base
 glob:base.Ns mainGlobals mg
 blt:∃mb,base.Ns builtinsNs mb∧∀x:Str,x≠"__name__"→mb x=bootBuiltins x
 nolimit:base.NoLimit
structure Cx where
 prog:Program
 w:World
 K:PySem.W.Frag
 mg:Str→Option Value
 base:Heap
 A:Around
 N:List Str
 s₀:Shared
 H₀:Hp
 env:Env
 outer:List Env
 stack:List Env
 ex:List Addr
 fn:Str→Bool
 calm:Bool
 pn:List (Addr×Obj)
 xe:Value→Shared→Prop
noncomputable def frs (l:List Env):List Addr:=l.filterMap (·.frame)
noncomputable abbrev Cx.fs (X:Cx):List Addr:=frs X.outer
noncomputable def Vis (sc:Scope) (x:Str):Prop:=sc.names.lookup x=some .local∨sc.names.lookup x=some .cell∨sc.names.lookup x=some .free
noncomputable def Loc (sc:Scope) (x:Str):Prop:=sc.names.lookup x=some .local∨sc.names.lookup x=some .cell
noncomputable def Look (env:Env) (h:Heap) (m:Str→Option Value) (x:Str) (u:Value):Prop:=
 (env.kindOf x=some .local∧m x=some u)∨((env.kindOf x=some .cell∨env.kindOf x=some .free)∧∃c,env.cells.lookup x=some c∧h.IsCell c (some u))
structure Cx.Ok (X:Cx):Prop where
 mod:Mod X.K X.mg X.base
 kind:X.env.scope.kind=.function
 glob:X.env.globals=mainGlobals
 blt:X.env.builtins=builtinsNs
 above:X.s₀.heap.objs.size≤X.env.locals
 inj:∀x y c,X.env.cells.lookup x=some c→X.env.cells.lookup y=some c→x=y
 has:∀x,(X.env.kindOf x=some .cell∨X.env.kindOf x=some .free)→∃c,X.env.cells.lookup x=some c
 cab:∀x c,X.fn x=true→X.env.cells.lookup x=some c→X.s₀.heap.objs.size≤c
 hd:X.calm=true→X.A.handled=none
 frames:X.A.frames=some X.stack
 stk:X.stack=X.outer∨(X.stack=X.env::X.outer∧X.env.frame=some X.env.locals)
 exf:∀b∈X.ex,b≠X.env.locals∧∀x c,X.env.cells.lookup x=some c→c≠b
 bs:∀b o,X.base.get? b=some o→X.s₀.heap.get? b=some o∧X.H₀ b=none
 bsz:X.base.objs.size≤X.s₀.heap.objs.size
 noex:∀b o,X.base.get? b=some o→b∉X.ex
 exfs:∀b∈X.ex,b∉X.fs
 funs:X.s₀.heap.FunFrames X.base X.outer
 frf:∀b∈X.fs,X.H₀ b=none
structure Inv (X:Cx) (pins:List (Addr×Obj)) (σ:List (Option V)) (H:Hp) (s:Shared):Prop where
 ok:X.Ok
 os:s.os=X.s₀.os
 bare:AllBare s.gens
 base:Un X.fs X.ex X.H₀ H X.s₀.heap s.heap
 loc:∃m,s.heap.Ns X.env.locals m∧∀(i:Nat) (x:Str) (v:V),X.N[i]?=some x→σ[i]?=some (some v)→Vis X.env.scope x→∃u,RelV v u∧Look X.env s.heap m x u
 cell:∀x c,X.env.cells.lookup x=some c→∃v,s.heap.IsCell c v
 free:H X.env.locals=none
 freeC:∀x c,X.env.cells.lookup x=some c→H c=none
 pin:∀p∈X.pn++pins,s.heap.get? p.1=some p.2∧H p.1=none∧p.1≠X.env.locals∧p.1∉X.fs∧∀v,p.2.data≠.cell v
 hok:HOk X.prog X.w H s.heap
 len:σ.length=X.N.length
section
variable {X:Cx} {pins:List (Addr×Obj)} {σ:List (Option V)} {H H':Hp} {s:Shared} {h':Heap}
theorem Cx.Ok.nofr (ok:X.Ok) {b:Addr} {o:Obj} (e:X.base.get? b=some o):b∉X.fs:=fun hb=>by
 have:=(ok.funs.mem hb).1
 rw[e] at this;cases this
theorem Inv.bs (I:Inv X pins σ H s):∀b o,X.base.get? b=some o→s.heap.get? b=some o∧H b=none:=fun b o e=>
 ⟨I.base.keep b o (I.ok.bs b o e).1 (I.ok.bs b o e).2 (I.ok.nofr e) (I.ok.noex b o e),I.base.free b o (I.ok.bs b o e).1 (I.ok.bs b o e).2 (I.ok.noex b o e)⟩
theorem Inv.bk (I:Inv X pins σ H s):∀b o,X.base.get? b=some o→s.heap.get? b=some o:=fun b o e=>(I.bs b o e).1
theorem Inv.mod (I:Inv X pins σ H s):Mod X.K X.mg X.base:=I.ok.mod
theorem Inv.kIn (I:Inv X pins σ H s):X.K.In s.heap:=I.ok.mod.kin.keeps I.bk
theorem Inv.lt (I:Inv X pins σ H s):X.env.locals < s.heap.objs.size:=let ⟨_,hn,_⟩:=I.loc;hn.lt
theorem Inv.sz (I:Inv X pins σ H s):X.s₀.heap.objs.size≤s.heap.objs.size:=Nat.le_trans I.ok.above (Nat.le_of_lt I.lt)
theorem Inv.nofs (I:Inv X pins σ H s) {a:Addr} (h:s.heap.objs.size≤a):a∉X.fs:=fun hb=>by
 obtain⟨_,o,ho,_⟩:=I.ok.funs.mem hb
 exact absurd (Nat.lt_of_lt_of_le (Heap.lt_size ho) (Nat.le_trans I.sz h)) (Nat.lt_irrefl _)
theorem Inv.cne (I:Inv X pins σ H s):∀x c,X.env.cells.lookup x=some c→c≠X.env.locals:=fun x c e z=>by
 obtain⟨v,o,ho,hd⟩:=I.cell x c e
 obtain⟨m,⟨o',es,ep,ho',hd',_⟩,_⟩:=I.loc
 rw[z,ho'] at ho;cases ho;rw[hd'] at hd;cases hd
theorem Inv.funs (I:Inv X pins σ H s):s.heap.FunFrames X.base X.outer:=by
 have all:∀(l:List Env),(∀b∈frs l,b∈X.fs)→X.s₀.heap.FunFrames X.base l→s.heap.FunFrames X.base l:=by
  intro l
  induction l with
  |nil=>intro _ _;trivial
  |cons env r ih=>
   intro hs hl
   obtain⟨hk,⟨L,o,hf,hn,ho,hd⟩,hr⟩:=hl
   have hL:L∈X.fs:=hs L (by unfold frs;rw[List.filterMap_cons,hf];exact List.mem_cons_self)
   obtain⟨sl,e⟩:=I.base.slot L o ho (I.ok.frf L hL) hL fun z=>I.ok.exfs L z hL
   exact⟨hk,⟨L,_,hf,hn,e,hd⟩,ih (fun b hb=>hs b (by unfold frs;rw[List.filterMap_cons,hf];exact List.mem_cons_of_mem _ hb)) hr⟩
 exact all X.outer (fun _ hb=>hb) I.ok.funs
theorem Inv.stack (I:Inv X pins σ H s):s.heap.FunFrames X.base X.stack:=by
 rcases I.ok.stk with e|⟨e,hf⟩
 ·rw[e];exact I.funs
 ·rw[e]
  obtain⟨m,hn,_⟩:=I.loc
  refine .cons (by rw[I.ok.kind];decide) hf hn ?_ I.funs
  exact Heap.get?_none_of_le (Nat.le_trans I.ok.bsz I.ok.above)
theorem Inv.stkSub (I:Inv X pins σ H s):∀b∈frs X.stack,b∈X.env.locals::X.fs:=fun b hb=>by
 rcases I.ok.stk with e|⟨e,hf⟩
 ·rw[e] at hb;exact List.mem_cons_of_mem _ hb
 ·rw[e] at hb
  unfold frs at hb
  rw[List.filterMap_cons,hf] at hb
  exact hb
theorem Inv.stkFree (I:Inv X pins σ H s):∀b∈frs X.stack,H b=none:=fun b hb=>by
 rcases List.mem_cons.mp (I.stkSub b hb) with e|hb
 ·rw[e];exact I.free
 ·obtain⟨_,o,ho,_⟩:=I.ok.funs.mem hb
  exact I.base.free b o ho (I.ok.frf b hb) fun z=>I.ok.exfs b z hb
theorem Inv.step {g':Array GenState} {t':Nat} {d':Drawn} {ch:List Addr} (I:Inv X pins σ H s)
  (hch:∀b∈ch,(b∈X.ex∨X.s₀.heap.objs.size≤b)∧b≠X.env.locals∧(∀x c,X.env.cells.lookup x=some c→c≠b)∧∀p∈X.pn++pins,p.1≠b)
  (keep:∀b o,b≠X.env.locals→b∉X.fs→b∉ch→s.heap.get? b=some o→H b=none→h'.get? b=some o)
  (slot:∀b o,b≠X.env.locals→b∈X.fs→b∉ch→s.heap.get? b=some o→H b=none→∃sl,h'.get? b=some {o with slots:=sl}) (free:∀b o,b∉ch→s.heap.get? b=some o→H b=none→H' b=none)
  (there:∀b o,b∉ch→s.heap.get? b=some o→∃o',h'.get? b=some o')
  (tups:∀b xs,H b=some (.tup xs)→H' b=some (.tup xs)) (frzs:∀b o u,H b=some (.frz o u)→H' b=some (.frz o u)) (tbls:∀b ps,H b=some (.tbl ps)→∃more,H' b=some (.tbl (ps++more)))
  (ns:∀m,s.heap.Ns X.env.locals m→h'.Ns X.env.locals m) (hok:HOk X.prog X.w H' h') (hg:AllBare g'):
  Inv X pins σ H' {s with heap:=h',gens:=g',drawn:=d',toks:=t'}:=by
 have neL:∀b o,X.s₀.heap.get? b=some o→b≠X.env.locals:=fun b o e=>Nat.ne_of_lt (Nat.lt_of_lt_of_le (Heap.lt_size e) I.ok.above)
 have neC:∀b o,X.s₀.heap.get? b=some o→b∉X.ex→b∉ch:=fun b o e hx hb=>by
  rcases (hch b hb).1 with z|z
  ·exact hx z
  ·exact absurd (Nat.lt_of_lt_of_le (Heap.lt_size e) z) (Nat.lt_irrefl _)
 have cellK:∀x c,X.env.cells.lookup x=some c→∀v,s.heap.IsCell c v→h'.IsCell c v:=fun x c e v ⟨o,ho,hd⟩=>by
  have nch:c∉ch:=fun z=>(hch c z).2.2.1 x c e rfl
  by_cases hc:c∈X.fs
  ·obtain⟨sl,q⟩:=slot c o (I.cne x c e) hc nch ho (I.freeC x c e)
   exact⟨_,q,hd⟩
  ·exact⟨o,keep c o (I.cne x c e) hc nch ho (I.freeC x c e),hd⟩
 refine⟨I.ok,I.os,hg,⟨fun b o e n hb hx=>?_,fun b o e n hb hx=>?_,fun b o e n hx=>?_,fun b o e hx=>?_,fun b xs e=>tups b xs (I.base.tups b xs e),fun b o xs e=>frzs b o xs (I.base.frzs b o xs e),fun b ps e=>?_⟩,?_,fun x c e=>?_,?_,fun x c e=>?_,fun p hp=>?_,hok,I.len⟩
 ·exact keep b o (neL b o e) hb (neC b o e hx) (I.base.keep b o e n hb hx) (I.base.free b o e n hx)
 ·obtain⟨sl,e1⟩:=I.base.slot b o e n hb hx
  obtain⟨sl',e2⟩:=slot b _ (neL b o e) hb (neC b o e hx) e1 (I.base.free b o e n hx)
  exact⟨sl',e2⟩
 ·obtain⟨o',e1⟩:=I.base.there b o e hx
  exact free b o' (neC b o e hx) e1 (I.base.free b o e n hx)
 ·obtain⟨o',e1⟩:=I.base.there b o e hx
  exact there b o' (neC b o e hx) e1
 ·obtain⟨m1,e1⟩:=I.base.tbls b ps e
  obtain⟨m2,e2⟩:=tbls b _ e1
  exact⟨m1++m2,by rw[e2,Array.append_assoc]⟩
 ·obtain⟨m,hn,hl⟩:=I.loc
  refine⟨m,ns m hn,fun i x v e1 e2 e3=>?_⟩
  obtain⟨u,r,l⟩:=hl i x v e1 e2 e3
  refine⟨u,r,?_⟩
  rcases l with l|⟨k,c,e,z⟩
  ·exact .inl l
  ·exact .inr ⟨k,c,e,cellK x c e _ z⟩
 ·obtain⟨v,z⟩:=I.cell x c e
  exact⟨v,cellK x c e v z⟩
 ·obtain⟨m,⟨o,_,_,ho,_⟩,_⟩:=I.loc
  exact free _ o (fun z=>(hch _ z).2.1 rfl) ho I.free
 ·obtain⟨v,o,ho,hd⟩:=I.cell x c e
  exact free c o (fun z=>(hch c z).2.2.1 x c e rfl) ho (I.freeC x c e)
 ·obtain⟨e,n,ne,nf,d⟩:=I.pin p hp
  have nch:p.1∉ch:=fun z=>(hch p.1 z).2.2.2 p hp rfl
  exact⟨keep p.1 p.2 ne nf nch e n,free p.1 p.2 nch e n,ne,nf,d⟩
theorem Inv.un {t':Nat} (I:Inv X pins σ H s) (u:Un X.fs [] H H' s.heap h') (hok:HOk X.prog X.w H' h'):Inv X pins σ H' {s with heap:=h',toks:=t'}:=by
 obtain⟨m,⟨o,es,ep,ho,r⟩,_⟩:=id I.loc
 obtain⟨sl,hL⟩:=u.any ho I.free (by simp)
 exact I.step (g':=s.gens) (d':=s.drawn) (ch:=[]) (fun _ z=>nomatch z) (fun b o _ hb _ e n=>u.keep b o e n hb (by simp)) (fun b o _ hb _ e n=>u.slot b o e n hb (by simp)) (fun b o _ e n=>u.free b o e n (by simp)) (fun b o _ e=>u.there b o e (by simp)) u.tups u.frzs u.tbls (fun m' hm=>by
  obtain⟨o',es',ep',ho',r'⟩:=hm
  rw[ho] at ho';cases ho'
  exact⟨_,es',ep',hL,r'⟩) hok I.bare
theorem Inv.call {g':Array GenState} {t':Nat} {d':Drawn} {ch:List Addr} (I:Inv X pins σ H s) (u:Un (frs X.stack) ch H H' s.heap h') (hok:HOk X.prog X.w H' h') (hg:AllBare g')
  (hch:∀b∈ch,(b∈X.ex∨X.s₀.heap.objs.size≤b)∧b≠X.env.locals∧(∀x c,X.env.cells.lookup x=some c→c≠b)∧∀p∈X.pn++pins,p.1≠b):
  Inv X pins σ H' {s with heap:=h',gens:=g',drawn:=d',toks:=t'}:=by
 obtain⟨m,⟨o,es,ep,ho,r⟩,_⟩:=id I.loc
 obtain⟨sl,hL⟩:=u.any ho I.free fun z=>(hch _ z).2.1 rfl
 exact I.step (ch:=ch) hch (fun b o hL hb hc e n=>u.keep b o e n (fun z=>(List.mem_cons.mp (I.stkSub b z)).elim hL hb) hc) (fun b o _ _ hc e n=>u.any e n hc) (fun b o hc e n=>u.free b o e n hc) (fun b o hc e=>u.there b o e hc) u.tups u.frzs u.tbls (fun m' hm=>by
  obtain⟨o',es',ep',ho',r'⟩:=hm
  rw[ho] at ho';cases ho'
  exact⟨_,es',ep',hL,r'⟩) hok hg
theorem Inv.turned {t':Nat} {it:Addr} (I:Inv X pins σ H s) (k:∀b o,b≠it→s.heap.get? b=some o→h'.get? b=some o) (hn:H it=none) (hL:it≠X.env.locals)
  (h1:it∈X.ex∨X.s₀.heap.objs.size≤it) (h2:∀x c,X.env.cells.lookup x=some c→c≠it) (h3:∀p∈X.pn++pins,p.1≠it):Inv X pins σ H {s with heap:=h',toks:=t'}:=by
 have nit:∀b u,H b=some u→b≠it:=fun b u e z=>by rw[z,hn] at e;cases e
 refine I.step (g':=s.gens) (d':=s.drawn) (ch:=[it]) (fun b hb=>?_) (fun b o _ _ hc e _=>k b o (fun z=>hc (by simp[z])) e) (fun b o _ _ hc e _=>⟨o.slots,k b o (fun z=>hc (by simp[z])) e⟩) (fun _ _ _ _ n=>n)
  (fun b o hc e=>⟨o,k b o (fun z=>hc (by simp[z])) e⟩) (fun _ _ e=>e) (fun _ _ _ e=>e) (fun b ps e=>⟨#[],by rw[e];simp⟩) (fun m hm=>?_) (fun b u e=>?_) I.bare
 ·have e:b=it:=by simpa using hb
  subst e
  exact⟨h1,hL,h2,h3⟩
 ·obtain⟨o,es,ep,ho,r⟩:=hm
  exact⟨o,es,ep,k _ o (Ne.symm hL) ho,r⟩
 ·refine (I.hok b u e).stay (fun c v hc q=>k c v ?_ q) (fun _ q=>q) fun _ _ q=>q
  rcases hc with z|z
  ·rw[z];exact nit b u e
  ·exact nit c _ z
theorem Inv.tok (I:Inv X pins σ H s) (t:Nat):Inv X pins σ H {s with toks:=t}:=I.un (h':=s.heap) (t':=t) Un.refl I.hok
theorem Inv.kept {t':Nat} (I:Inv X pins σ H s) (k:∀b u,s.heap.get? b=some u→h'.get? b=some u):Inv X pins σ H {s with heap:=h',toks:=t'}:=I.un (Un.kept k) (I.hok.kept k)
theorem Inv.laid {a:Addr} {o:HO} {t':Nat} (I:Inv X pins σ H s) (k:∀b u,s.heap.get? b=some u→h'.get? b=some u) (hp:s.heap.objs.size≤a) (new:ObjOk X.prog X.w (upd H a o) h' a o):
 Inv X pins σ (upd H a o) {s with heap:=h',toks:=t'}:=I.un (Un.laid k hp (I.hok.fresh hp)) (I.hok.laid k hp new)
theorem Inv.write {x e:Addr} {o:HO} {t':Nat} (I:Inv X pins σ H s) (mu:Mut (H x)) (he:e=x∨H e=some (.own x)) (k:∀b u,b≠e→s.heap.get? b=some u→h'.get? b=some u) (heo:∃u,h'.get? e=some u)
 (new:ObjOk X.prog X.w (upd H x o) h' x o):Inv X pins σ (upd H x o) {s with heap:=h',toks:=t'}:=I.un (Un.write mu he k heo) (I.hok.write mu he k heo new)
theorem Inv.pins_of {pins':List (Addr×Obj)} (I:Inv X pins σ H s) (h:∀p∈pins',s.heap.get? p.1=some p.2∧H p.1=none∧p.1≠X.env.locals∧p.1∉X.fs∧∀v,p.2.data≠.cell v):Inv X pins' σ H s:=
 ⟨I.ok,I.os,I.bare,I.base,I.loc,I.cell,I.free,I.freeC,fun p hp=>(List.mem_append.mp hp).elim (fun z=>I.pin p (List.mem_append_left _ z)) (h p),I.hok,I.len⟩
theorem aen {N:List Str} (hN:N.Nodup) {i j:Nat} {x:Str} (a:N[i]?=some x) (b:N[j]?=some x):i=j:=by
 obtain⟨h1,e1⟩:=List.getElem?_eq_some_iff.mp a
 obtain⟨h2,e2⟩:=List.getElem?_eq_some_iff.mp b
 exact (List.getElem_inj hN).mp (e1.trans e2.symm)
theorem ae8 {M:Model} {A:Around} {E:Value→Shared→Prop} {i:Nat} {x:Str} {v:V} {u:Value} {Q:Unit→Shared→Prop} (I:Inv X pins σ H s) (hN:X.N.Nodup) (hi:X.N[i]?=some x) (hx:Loc X.env.scope x) (r:RelV v u)
  (h:∀s',Inv X pins (σ.set i (some v)) H s'→(∃a,Heap.SameBut a s.heap s'.heap∧(a=X.env.locals∨X.env.cells.lookup x=some a))→Q () s') (hf:X.fn x=true∨X.env.scope.names.lookup x=some .local:=by first|exact .inl rfl|exact .inr rfl|assumption):wpAny M A (storeName X.env x u) Q E s:=by
 obtain⟨m,hn,hl⟩:=id I.loc
 have hcls:(X.env.scope.kind == .class || (X.env.scope.kind == .module&&X.env.locals != X.env.globals))=false:=by rw[I.ok.kind];rfl
 have hiσ:i < σ.length:=by rw[I.len];exact (List.getElem?_eq_some_iff.mp hi).1
 have cne:=I.cne
 have tracked:∀{a:Addr} {h':Heap},(∃o,s.heap.get? a=some o∧H a=none)→Heap.SameBut a s.heap h'→HOk X.prog X.w H h':=fun {a h'} ha hs b ob e=>by
  obtain⟨_,_,hfree⟩:=ha
  refine (I.hok b ob e).stay (fun c w' hc q=>(hs.2 c ?_).trans q) (fun _ q=>q) fun _ _ q=>q
  rintro rfl
  rcases hc with rfl|hc
  ·rw[hfree] at e;cases e
  ·rw[hfree] at hc;cases hc
 rcases hx with hk|hk
 ·refine wpAny_storeName_local hk hn (fun h' hn' hs=>?_) hcls
  obtain⟨oL,_,_,hoL,_⟩:=id hn
  refine h _ ⟨I.ok,I.os,I.bare,⟨fun b o e n hb hx=>?_,fun b o e n hb hx=>?_,I.base.free,fun b o e hx=>?_,I.base.tups,I.base.frzs,I.base.tbls⟩,⟨_,hn',fun j y v' e1 e2 e3=>?_⟩,fun y c e=>?_,I.free,I.freeC,fun p hp=>?_,tracked ⟨oL,hoL,I.free⟩ hs,by simpa using I.len⟩ ⟨_,hs,.inl rfl⟩
  ·exact (hs.2 b (Nat.ne_of_lt (Nat.lt_of_lt_of_le (Heap.lt_size e) I.ok.above))).trans (I.base.keep b o e n hb hx)
  ·obtain⟨sl,e1⟩:=I.base.slot b o e n hb hx
   exact⟨sl,(hs.2 b (Nat.ne_of_lt (Nat.lt_of_lt_of_le (Heap.lt_size e) I.ok.above))).trans e1⟩
  ·obtain⟨o',e1⟩:=I.base.there b o e hx
   exact⟨o',(hs.2 b (Nat.ne_of_lt (Nat.lt_of_lt_of_le (Heap.lt_size e) I.ok.above))).trans e1⟩
  ·by_cases hj:j=i
   ·subst hj
    rw[hi] at e1;cases e1
    rw[List.getElem?_set_self hiσ] at e2
    cases e2
    exact⟨u,r,.inl ⟨hk,by simp⟩⟩
   ·rw[List.getElem?_set_ne (Ne.symm hj)] at e2
    obtain⟨u',r',q⟩:=hl j y v' e1 e2 e3
    refine⟨u',r',?_⟩
    rcases q with ⟨k,e⟩|⟨k,c,e,z⟩
    ·refine .inl ⟨k,?_⟩
     have:y≠x:=fun e=>hj (aen hN e1 (e ▸ hi))
     simp[this,e]
    ·exact .inr ⟨k,c,e,z.sameBut hs (cne y c e)⟩
  ·obtain⟨w',z⟩:=I.cell y c e
   exact⟨w',z.sameBut hs (cne y c e)⟩
  ·obtain⟨e,n,ne,nf,d⟩:=I.pin p hp
   exact⟨(hs.2 p.1 ne).trans e,n,ne,nf,d⟩
 ·have hfn:X.fn x=true:=by
   rcases hf with z|z
   ·exact z
   ·rw[z] at hk;cases hk
  obtain⟨c,hc⟩:=I.ok.has x (.inl hk)
  obtain⟨w',z⟩:=I.cell x c hc
  refine wpAny_storeName_cell I.ok.kind hk hc z (fun h' hc' hs=>?_)
  obtain⟨oc,hoc,hocd⟩:=id z
  refine h {s with heap:=h'} ⟨I.ok,I.os,I.bare,⟨fun b o e n hb hx=>?_,fun b o e n hb hx=>?_,I.base.free,fun b o e hx=>?_,I.base.tups,I.base.frzs,I.base.tbls⟩,⟨m,hn.sameBut hs (Ne.symm (cne x c hc)),fun j y v' e1 e2 e3=>?_⟩,fun y c' e=>?_,I.free,I.freeC,fun p hp=>?_,tracked ⟨oc,hoc,I.freeC x c hc⟩ hs,by simpa using I.len⟩ ⟨c,hs,.inr hc⟩
  ·exact (hs.2 b (Nat.ne_of_lt (Nat.lt_of_lt_of_le (Heap.lt_size e) (I.ok.cab x c hfn hc)))).trans (I.base.keep b o e n hb hx)
  ·obtain⟨sl,e1⟩:=I.base.slot b o e n hb hx
   exact⟨sl,(hs.2 b (Nat.ne_of_lt (Nat.lt_of_lt_of_le (Heap.lt_size e) (I.ok.cab x c hfn hc)))).trans e1⟩
  ·obtain⟨o',e1⟩:=I.base.there b o e hx
   exact⟨o',(hs.2 b (Nat.ne_of_lt (Nat.lt_of_lt_of_le (Heap.lt_size e) (I.ok.cab x c hfn hc)))).trans e1⟩
  ·by_cases hj:j=i
   ·subst hj
    rw[hi] at e1;cases e1
    rw[List.getElem?_set_self hiσ] at e2
    cases e2
    exact⟨u,r,.inr ⟨.inl hk,c,hc,hc'⟩⟩
   ·rw[List.getElem?_set_ne (Ne.symm hj)] at e2
    obtain⟨u',r',q⟩:=hl j y v' e1 e2 e3
    refine⟨u',r',?_⟩
    rcases q with q|⟨k,c',e,z'⟩
    ·exact .inl q
    ·refine .inr ⟨k,c',e,z'.sameBut hs ?_⟩
     rintro rfl
     exact hj (aen hN e1 (I.ok.inj _ _ _ e hc ▸ hi))
  ·by_cases hcc:c'=c
   ·subst hcc;exact⟨_,hc'⟩
   ·obtain⟨w2,z2⟩:=I.cell y c' e
    exact⟨w2,z2.sameBut hs hcc⟩
  ·obtain⟨e,n,ne,nf,d⟩:=I.pin p hp
   refine⟨(hs.2 p.1 ?_).trans e,n,ne,nf,d⟩
   intro q
   rw[q,hoc] at e
   have q':oc=p.2:=Option.some.inj e
   exact d w' (by rw[←q'];exact hocd)
theorem aeo {M:Model} {A:Around} {E:Value→Shared→Prop} {i:Nat} {x:Str} {v:V} {u:Value} {Q:Unit→Shared→Prop} (I:Inv X pins σ H s) (hN:X.N.Nodup) (hi:X.N[i]?=some x) (hx:Loc X.env.scope x) (r:RelV v u)
  (h:∀s',Inv X pins (σ.set i (some v)) H s'→Q () s') (hf:X.fn x=true∨X.env.scope.names.lookup x=some .local:=by first|exact .inl rfl|exact .inr rfl|assumption):wpAny M A (storeName X.env x u) Q E s:=
 ae8 I hN hi hx r (fun s' I' _=>h s' I') hf
theorem Inv.call' {s':Shared} {ch:List Addr} (I:Inv X pins σ H s) (ho:s'.os=s.os) (u:Un (frs X.stack) ch H H' s.heap s'.heap) (hok:HOk X.prog X.w H' s'.heap) (hg:AllBare s'.gens)
  (hch:∀b∈ch,(b∈X.ex∨X.s₀.heap.objs.size≤b)∧b≠X.env.locals∧(∀x c,X.env.cells.lookup x=some c→c≠b)∧∀p∈X.pn++pins,p.1≠b):Inv X pins σ H' s':=by
 obtain⟨h',g',d',t',o'⟩:=s'
 have e:o'=s.os:=ho
 subst e
 exact I.call (g':=g') (t':=t') (d':=d') u hok hg hch
end
noncomputable abbrev XK:=Value→Option Addr→Hp→Prop
noncomputable abbrev St:=List (Option V)
noncomputable abbrev VK:=V→Hp→Prop
noncomputable abbrev TE:=St→Hp→VK→Prop
noncomputable abbrev TT:=St→Hp→(Bool→Hp→Prop)→Prop
noncomputable abbrev TA:=St→Hp→(List V→Hp→Prop)→Prop
structure Ends where
 nx:St→Hp→Prop
 rt:VK
 bk:St→Hp→Prop:=fun _ _=>False
 ct:St→Hp→Prop:=fun _ _=>False
noncomputable abbrev TS:=Ends→St→Hp→Prop
noncomputable def EP (X:Cx) (pins:List (Addr×Obj)) (σ:St) (Q:VK) (u:Value) (s':Shared):Prop:=∃v H',Inv X pins σ H' s'∧RelV v u∧Q v H'
noncomputable def TP (X:Cx) (pins:List (Addr×Obj)) (σ:St) (Q:Bool→Hp→Prop) (b:Bool) (s':Shared):Prop:=∃H',Inv X pins σ H' s'∧Q b H'
noncomputable def AP (X:Cx) (pins:List (Addr×Obj)) (σ:St) (Q:List V→Hp→Prop) (us:List Value) (s':Shared):Prop:=∃vs H',Inv X pins σ H' s'∧Vals vs us∧Q vs H'
noncomputable def SP (X:Cx) (pins:List (Addr×Obj)) (D:Ends) (f:Flow) (s':Shared):Prop:=
 match f with
 |.next=>∃σ' H',Inv X pins σ' H' s'∧D.nx σ' H'
 |.brk=>∃σ' H',Inv X pins σ' H' s'∧D.bk σ' H'
 |.cont=>∃σ' H',Inv X pins σ' H' s'∧D.ct σ' H'
 |.ret u=>∃v σ' H',Inv X pins σ' H' s'∧RelV v u∧D.rt v H'
noncomputable def PE (X:Cx) (e:Expr) (t:TE):Prop:=
 ∀(pins:List (Addr×Obj)) (s:Shared) (σ:St) (H:Hp) (Q:VK),Inv X pins σ H s→t σ H Q→wpAny (model X.prog X.w) X.A (eval e X.env) (EP X pins σ Q) X.xe s
noncomputable def PT (X:Cx) (e:Expr) (t:TT):Prop:=
 ∀(pins:List (Addr×Obj)) (s:Shared) (σ:St) (H:Hp) (Q:Bool→Hp→Prop),Inv X pins σ H s→t σ H Q→wpAny (model X.prog X.w) X.A (isTrue e X.env (eval e X.env)) (TP X pins σ Q) X.xe s
noncomputable def PW (X:Cx) (e:Expr) (t:TT):Prop:=
 ∀(whole:Sem Value) (pins:List (Addr×Obj)) (s:Shared) (σ:St) (H:Hp) (Q:Bool→Hp→Prop),Inv X pins σ H s→t σ H Q→wpAny (model X.prog X.w) X.A (isTrue e X.env whole) (TP X pins σ Q) X.xe s
theorem PW.pt {X:Cx} {e:Expr} {t:TT} (h:PW X e t):PT X e t:=h _
noncomputable def PA (X:Cx) (es:List Expr) (t:TA):Prop:=
 ∀(pos:Pos) (pins:List (Addr×Obj)) (s:Shared) (σ:St) (H:Hp) (Q:List V→Hp→Prop),Inv X pins σ H s→t σ H Q→wpAny (model X.prog X.w) X.A (spliced (backTo pos (starEach es X.env))) (AP X pins σ Q) X.xe s
noncomputable def PS (X:Cx) (st:Stmt) (t:TS):Prop:=
 ∀(pins:List (Addr×Obj)) (s:Shared) (σ:St) (H:Hp) (D:Ends),Inv X pins σ H s→t D σ H→wpAny (model X.prog X.w) X.A (exec st X.env) (SP X pins D) X.xe s
noncomputable def PSs (X:Cx) (st:List Stmt) (t:TS):Prop:=
 ∀(pins:List (Addr×Obj)) (s:Shared) (σ:St) (H:Hp) (D:Ends),Inv X pins σ H s→t D σ H→wpAny (model X.prog X.w) X.A (execs st X.env) (SP X pins D) X.xe s
theorem thn {α:Type} {t:Sem α} {Q Q':α→Shared→Prop} {M:Model} {A:Around} {E:Value→Shared→Prop} {s:Shared} (h:wpAny M A t Q E s) (hQ:∀a s,Q a s→Q' a s):wpAny M A t Q' E s:=wpAny_mono h hQ fun _ _ x=>x
end L2
namespace L2
open PySem PySem.Spec PyProof.Rows
section
variable {X:Cx}
noncomputable def tVar (i:Nat):TE:=fun σ H Q=>∃v,σ[i]?=some (some v)∧Q v H
noncomputable def tC (v:V):TE:=fun _ H Q=>Q v H
theorem pe_var {i:Nat} {x:Str} {pos:Pos} (hN:X.N[i]?=some x) (hv:Vis X.env.scope x) (hd:(x == ("__debug__":Str))=false:=by decide) (hcd:(x == ("__classdict__":Str))=false:=by decide):PE X (.Name x pos) (tVar i):=by
 intro pins s σ H Q I h
 obtain⟨v,e,h⟩:=h
 obtain⟨m,hn,hl⟩:=I.loc
 obtain⟨u,r,l⟩:=hl i x v hN e hv
 have fin:EP X pins σ Q u s:=⟨v,H,I,r,h⟩
 rcases l with ⟨hk,hm⟩|⟨hk,c,hc,hcell⟩
 ·exact wpAny_Name (wpAny_loadName_local I.ok.kind hk hn hm fin) hd
 ·rcases hk with hk|hk
  ·exact wpAny_Name (wpAny_loadName_cell I.ok.kind hk hc hcell fin) hd
  ·exact wpAny_Name (wpAny_loadName_free I.ok.kind hk hc hcell fin hcd) hd
theorem aad {i j pos}:PE X (.Constant (.int i) j pos) (tC (.int i)):=fun _ _ _ H _ I h=>wpAny_Constant_int ⟨.int i,H,I.tok _,⟨_,rfl⟩,h⟩
theorem af2 {b j pos}:PE X (.Constant (.bool b) j pos) (tC (.bl b)):=fun _ _ _ H _ I h=>Constant_bool ⟨.bl b,H,I,rfl,h⟩
theorem ac3 {j pos}:PE X (.Constant .none j pos) (tC .non):=fun _ _ _ H _ I h=>Constant_none ⟨.non,H,I,rfl,h⟩
theorem abd {x j pos}:PE X (.Constant (.str x) j pos) (tC (.str x)):=fun _ _ _ H _ I h=>Calls.Constant_str ⟨.str x,H,I.tok _,⟨_,rfl⟩,h⟩
noncomputable def Gl (X:Cx) (x:Str):Prop:=X.env.kindOf x=some .globalImplicit
theorem ad1 {E:Value→Shared→Prop} {pins:List (Addr×Obj)} {s:Shared} {σ:St} {H:Hp} {x:Str} {u:Value} {pos:Pos} {Q:Value→Shared→Prop} (I:Inv X pins σ H s) (hg:Gl X x) (hm:X.mg x=some u) (h:Q u s)
  (hd:(x == ("__debug__":Str))=false:=by decide):wpAny (model X.prog X.w) X.A (eval (.Name x pos) X.env) Q E s:=
 Calls.Name_function_global I.ok.kind hg (Calls.loadGlobal_global (by rw[I.ok.glob];exact I.mod.glob.keeps I.bk) hm h) hd
theorem ahm {E:Value→Shared→Prop} {pins:List (Addr×Obj)} {s:Shared} {σ:St} {H:Hp} {x:Str} {u:Value} {pos:Pos} {Q:Value→Shared→Prop} (I:Inv X pins σ H s) (hg:Gl X x) (hm:X.mg x=none) (hv:bootBuiltins x=some u) (h:Q u s)
  (hn:x≠"__name__":=by decide) (hd:(x == ("__debug__":Str))=false:=by decide):wpAny (model X.prog X.w) X.A (eval (.Name x pos) X.env) Q E s:=by
 obtain⟨mb,h1,h2⟩:=I.mod.blt
 exact Calls.Name_function_global I.ok.kind hg (Calls.loadGlobal_builtin (by rw[I.ok.glob];exact I.mod.glob.keeps I.bk) hm (by rw[I.ok.blt];exact h1.keeps I.bk) ((h2 x hn).trans hv) h) hd
theorem akg {x:Str} {v:V} {u:Value} {pos:Pos} (hg:Gl X x) (hm:X.mg x=some u) (r:RelV v u) (hd:(x == ("__debug__":Str))=false:=by decide):PE X (.Name x pos) (tC v):=
 fun _ _ _ H _ I h=>ad1 I hg hm ⟨v,H,I,r,h⟩ hd
theorem akh {x:Str} {v:V} {u:Value} {pos:Pos} (hg:Gl X x) (hm:X.mg x=none) (hv:bootBuiltins x=some u) (r:RelV v u) (hn:x≠"__name__":=by decide) (hd:(x == ("__debug__":Str))=false:=by decide):PE X (.Name x pos) (tC v):=
 fun _ _ _ H _ I h=>ahm I hg hm hv ⟨v,H,I,r,h⟩ hn hd
variable {a b:Expr} {ta tb:TE} {pos:Pos}
noncomputable def PC (X:Cx) (op:CmpOp) (a b:Expr) (t:TE):Prop:=
 ∀(pins:List (Addr×Obj)) (s:Shared) (σ:St) (H:Hp) (Q:VK),Inv X pins σ H s→t σ H Q→
  wpAny (model X.prog X.w) X.A (eval a X.env) (fun v s₁=>wpAny (model X.prog X.w) X.A (eval b X.env) (fun u s₂=>wpAny (model X.prog X.w) X.A (compareOp op v u) (EP X pins σ Q) X.xe s₂) X.xe s₁) X.xe s
noncomputable def tB (t:TE):TT:=fun σ H Q=>t σ H fun x H1=>∃c,x=.bl c∧Q c H1
theorem adq {e:Expr} {t:TE} (h:PE X e t) (he:∀whole,isTrue e X.env whole=(do let v←whole;standAt e.pos;holding [v] (truthy v)):=by intro _;rfl):PT X e (tB t):=by
 intro pins s σ H Q I hw
 refine isTrue_plain (thn (h pins s σ H _ I hw) fun v s1 ⟨x,H1,I1,r1,q1⟩=>?_) (he _)
 obtain⟨d,rfl,q⟩:=q1
 cases r1
 exact wpAny_truthy_bool ⟨H1,I1,q⟩
variable {tA tB':TT} {rest:List Expr}
noncomputable def tAnd (t u:TT):TT:=fun σ H Q=>t σ H fun c H1=>if c=true then u σ H1 Q else Q false H1
noncomputable def tOr (t u:TT):TT:=fun σ H Q=>t σ H fun c H1=>if c=true then Q true H1 else u σ H1 Q
noncomputable def tNot (t:TT):TT:=fun σ H Q=>t σ H fun c H1=>Q (!c) H1
theorem aki (ha:PT X a tA):PW X (.BoolOp .And [a] pos) tA:=by
 intro wh pins s σ H Q I h
 refine isTrue_and (thn (ha pins s σ H Q I h) fun c s1 e=>?_)
 cases c with
 |true=>exact isTrue_and_nil e
 |false=>exact e
theorem age (ha:PT X a tA):PW X (.BoolOp .Or [a] pos) tA:=by
 intro wh pins s σ H Q I h
 refine isTrue_or (thn (ha pins s σ H Q I h) fun c s1 e=>?_)
 cases c with
 |false=>exact isTrue_or_nil e
 |true=>exact e
theorem pw_and (ha:PT X a tA) (hb:PW X (.BoolOp .And (b::rest) pos) tB'):PW X (.BoolOp .And (a::b::rest) pos) (tAnd tA tB'):=by
 intro wh pins s σ H Q I h
 refine isTrue_and (thn (ha pins s σ H _ I h) fun c s1 ⟨H1,I1,q1⟩=>?_)
 cases c with
 |true=>exact hb wh pins s1 σ H1 Q I1 q1
 |false=>exact⟨H1,I1,q1⟩
theorem ai7 (ha:PT X a tA) (hb:PW X (.BoolOp .Or (b::rest) pos) tB'):PW X (.BoolOp .Or (a::b::rest) pos) (tOr tA tB'):=by
 intro wh pins s σ H Q I h
 refine isTrue_or (thn (ha pins s σ H _ I h) fun c s1 ⟨H1,I1,q1⟩=>?_)
 cases c with
 |true=>exact⟨H1,I1,q1⟩
 |false=>exact hb wh pins s1 σ H1 Q I1 q1
theorem aed (ha:PT X a tA):PT X (.UnaryOp .Not a pos) (tNot tA):=by
 intro pins s σ H Q I h
 exact isTrue_not (ha pins s σ H (fun c H1=>Q (!c) H1) I h)
noncomputable def tAndV (ta tb:TE):TE:=fun σ H Q=>ta σ H fun x H1=>∃c,x=.bl c∧if c=true then tb σ H1 Q else Q (.bl false) H1
noncomputable def tNotV (ta:TE):TE:=fun σ H Q=>ta σ H fun x H1=>∃c,x=.bl c∧Q (.bl (!c)) H1
theorem agf {op} {t:TE} (h:PE X a t):PE X (.BoolOp op [a] pos) t:=fun pins s σ H Q I hw=>BoolOp_one (h pins s σ H Q I hw)
theorem ae9 (ha:PE X a ta) (hb:PE X (.BoolOp .And (b::rest) pos) tb):PE X (.BoolOp .And (a::b::rest) pos) (tAndV ta tb):=by
 intro pins s σ H Q I h
 refine BoolOp_and (thn (ha pins s σ H _ I h) fun v s1 ⟨x,H1,I1,r1,q1⟩=>?_)
 obtain⟨c,rfl,q1⟩:=q1
 cases r1
 refine wpAny_truthy_bool ?_
 cases c with
 |true=>exact hb pins s1 σ H1 Q I1 q1
 |false=>exact⟨.bl false,H1,I1,rfl,q1⟩
theorem pe_not (ha:PE X a ta):PE X (.UnaryOp .Not a pos) (tNotV ta):=by
 intro pins s σ H Q I h
 refine UnaryOp_ (thn (ha pins s σ H _ I h) fun v s1 ⟨x,H1,I1,r1,q1⟩=>?_)
 obtain⟨c,rfl,q1⟩:=q1
 cases r1
 exact not_of (wpAny_truthy_bool ⟨.bl (!c),H1,I1,rfl,q1⟩)
noncomputable def tIf (t:TT) (ta tb:TE):TE:=fun σ H Q=>t σ H fun c H1=>if c=true then ta σ H1 Q else tb σ H1 Q
theorem agg {c:Expr} (hc:PT X c tA) (ha:PE X a ta) (hb:PE X b tb):PE X (.IfExp c a b pos) (tIf tA ta tb):=by
 intro pins s σ H Q I h
 refine wpAny_IfExp (thn (hc pins s σ H _ I h) fun d s1 ⟨H1,I1,q1⟩=>?_)
 cases d with
 |true=>exact ha pins s1 σ H1 Q I1 q1
 |false=>exact hb pins s1 σ H1 Q I1 q1
end
end L2
namespace L2
open PySem PySem.Spec PyProof.Rows
noncomputable def SqL (K:PySem.W.Frag) (H:Hp) (a:Addr) (xs:List V):Prop:=
 Rd H a (.lst xs)∨
  ∃(o:Obj) (its:Array Value) (n:Nat),K.lookup a=some o∧o.cls=.type "list"∧o.dict=none∧o.data=.seq its n∧its.size≤sizeLine∧Vals xs its.toList
noncomputable def SqT (K:PySem.W.Frag) (H:Hp) (a:Addr) (xs:List V):Prop:=
 Rd H a (.tup xs)∨
  ∃(o:Obj) (its:Array Value) (n:Nat),K.lookup a=some o∧o.cls=.type "tuple"∧o.data=.seq its n∧its.size≤sizeLine∧Vals xs its.toList
noncomputable def absV:Value→Option V
 |.none=>some .non
 |.bool b=>some (.bl b)
 |.int i _=>some (.int i)
 |.str x _=>some (.str x)
 |.bytes b _=>some (.byt b)
 |.float b _=>some (.flt b)
 |.ref a=>some (.ref a)
 |.type n=>some (.ty n)
 |_=>none
theorem RelV.abs {x:V} {u:Value} (r:RelV x u):absV u=some x:=by
 cases x with
 |non=>cases r;rfl
 |bl _=>cases r;rfl
 |int _=>obtain⟨t,rfl⟩:=r;rfl
 |str _=>obtain⟨t,rfl⟩:=r;rfl
 |byt _=>obtain⟨t,rfl⟩:=r;rfl
 |flt _=>obtain⟨t,rfl⟩:=r;rfl
 |ref _=>cases r;rfl
 |ty _=>cases r;rfl
theorem RelV.inj {x y:V} {u:Value} (r:RelV x u) (q:RelV y u):x=y:=Option.some.inj (r.abs.symm.trans q.abs)
theorem Vals.inj:∀{xs ys:List V} {us:List Value},Vals xs us→Vals ys us→xs=ys
 |_,_,_,.nil,.nil=>rfl
 |_,_,_,.cons r t,.cons r' t'=>by rw[r.inj r',Vals.inj t t']
section
variable {X:Cx} {pins:List (Addr×Obj)} {σ:St} {H:Hp} {s:Shared} {a:Addr} {xs ys:List V}
theorem SqL.of {K:PySem.W.Frag} (h:H a=some (.lst xs)):SqL K H a xs:=.inl (.inl h)
theorem SqT.of {K:PySem.W.Frag} (h:H a=some (.tup xs)):SqT K H a xs:=.inl (.inl h)
theorem Inv.list (I:Inv X pins σ H s) (h:SqL X.K H a xs):∃its:List Value,Vals xs its∧PlainL s.heap a its.toArray∧xs.length≤sizeLine:=by
 rcases h with h|⟨o,its,n,hk,hc,hd,hs,hz,r⟩
 ·obtain⟨z,its,n,r,e⟩:=h.ok I.hok
  exact⟨its,r,⟨_,n,e,rfl,rfl,rfl⟩,z⟩
 ·refine⟨its.toList,r,⟨o,n,I.kIn a o hk,hc,hd,by simpa using hs⟩,?_⟩
  have e:=r.length
  simp only[Array.length_toList] at e
  omega
theorem Inv.tuple (I:Inv X pins σ H s) (h:SqT X.K H a xs):∃its:List Value,Vals xs its∧IsTup s.heap a its.toArray∧xs.length≤sizeLine:=by
 rcases h with h|⟨o,its,n,hk,hc,hs,hz,r⟩
 ·obtain⟨z,its,r,p⟩:=h.ok I.hok
  exact⟨its,r,p,z⟩
 ·refine⟨its.toList,r,⟨o,I.kIn a o hk,hc,n,by simpa using hs⟩,?_⟩
  have e:=r.length
  simp only[Array.length_toList] at e
  omega
theorem Inv.list_inj (I:Inv X pins σ H s) (h:SqL X.K H a xs) (h':SqL X.K H a ys):xs=ys:=by
 obtain⟨its,r,⟨o,n,e,_,_,d⟩,_⟩:=I.list h
 obtain⟨its',r',⟨o',n',e',_,_,d'⟩,_⟩:=I.list h'
 rw[e] at e';cases e'
 rw[d] at d'
 injection d' with d1 _
 have:its=its':=by simpa using congrArg Array.toList d1
 subst this
 exact r.inj r'
theorem Inv.tuple_inj (I:Inv X pins σ H s) (h:SqT X.K H a xs) (h':SqT X.K H a ys):xs=ys:=by
 obtain⟨its,r,⟨o,e,_,n,d⟩,_⟩:=I.tuple h
 obtain⟨its',r',⟨o',e',_,n',d'⟩,_⟩:=I.tuple h'
 rw[e] at e';cases e'
 rw[d] at d'
 injection d' with d1 _
 have:its=its':=by simpa using congrArg Array.toList d1
 subst this
 exact r.inj r'
end
noncomputable abbrev Cx.wish (X:Cx) (E:Value→Shared→Prop):Cx:={X with xe:=E}
noncomputable abbrev Cx.nox (X:Cx):Cx:=X.wish fun _ _=>False
theorem Cx.Ok.wish {X:Cx} (ok:X.Ok) (E:Value→Shared→Prop):(X.wish E).Ok:=
 ⟨ok.mod,ok.kind,ok.glob,ok.blt,ok.above,ok.inj,ok.has,ok.cab,ok.hd,ok.frames,ok.stk,ok.exf,ok.bs,ok.bsz,ok.noex,ok.exfs,ok.funs,ok.frf⟩
theorem Cx.Ok.unwish {X:Cx} {E:Value→Shared→Prop} (ok:(X.wish E).Ok):X.Ok:=
 ⟨ok.mod,ok.kind,ok.glob,ok.blt,ok.above,ok.inj,ok.has,ok.cab,ok.hd,ok.frames,ok.stk,ok.exf,ok.bs,ok.bsz,ok.noex,ok.exfs,ok.funs,ok.frf⟩
section
variable {X:Cx} {pins:List (Addr×Obj)} {σ:St} {H:Hp} {s:Shared} {E:Value→Shared→Prop}
theorem Inv.wish (I:Inv X pins σ H s) (E:Value→Shared→Prop):Inv (X.wish E) pins σ H s:=⟨I.ok.wish E,I.os,I.bare,I.base,I.loc,I.cell,I.free,I.freeC,I.pin,I.hok,I.len⟩
theorem Inv.unwish (I:Inv (X.wish E) pins σ H s):Inv X pins σ H s:=⟨I.ok.unwish,I.os,I.bare,I.base,I.loc,I.cell,I.free,I.freeC,I.pin,I.hok,I.len⟩
theorem SP.unwish {D:Ends} {f:Flow} {s':Shared} (h:SP (X.wish E) pins D f s'):SP X pins D f s':=by
 cases f with
 |next=>obtain⟨σ',H',I,q⟩:=h;exact⟨σ',H',I.unwish,q⟩
 |brk=>obtain⟨σ',H',I,q⟩:=h;exact⟨σ',H',I.unwish,q⟩
 |cont=>obtain⟨σ',H',I,q⟩:=h;exact⟨σ',H',I.unwish,q⟩
 |ret u=>obtain⟨v,σ',H',I,r,q⟩:=h;exact⟨v,σ',H',I.unwish,r,q⟩
theorem PE.nox {e:Expr} {t:TE} (h:PE X.nox e t):PE X e t:=fun pins s σ H Q I hw=>
 wpAny_mono (h pins s σ H Q (I.wish _) hw) (fun _ _ ⟨v,H',I',r,q⟩=>⟨v,H',I'.unwish,r,q⟩) fun _ _ z=>False.elim z
theorem PT.nox {e:Expr} {t:TT} (h:PT X.nox e t):PT X e t:=fun pins s σ H Q I hw=>
 wpAny_mono (h pins s σ H Q (I.wish _) hw) (fun _ _ ⟨H',I',q⟩=>⟨H',I'.unwish,q⟩) fun _ _ z=>False.elim z
theorem PSs.nox {st:List Stmt} {t:TS} (h:PSs X.nox st t):PSs X st t:=fun pins s σ H D I hw=>
 wpAny_mono (h pins s σ H D (I.wish _) hw) (fun _ _ q=>q.unwish) fun _ _ z=>False.elim z
end
section
variable {X:Cx} {st:Stmt} {rest:List Stmt} {t u:TS} {e:Expr} {te:TE} {pos:Pos}
noncomputable def tNext:TS:=fun D σ H=>D.nx σ H
noncomputable def tSeq (t u:TS):TS:=fun D σ H=>t {D with nx:=u D} σ H
theorem abg:PSs X [] tNext:=fun _ _ σ H _ I h=>wpAny_execs_nil ⟨σ,H,I,h⟩
theorem aak (h1:PS X st t) (h2:PSs X rest u):PSs X (st::rest) (tSeq t u):=by
 intro pins s σ H D I h
 refine wpAny_execs_cons (thn (h1 pins s σ H {D with nx:=u D} I h) fun f s1 q=>?_)
 cases f with
 |next=>
  obtain⟨σ',H',I',q⟩:=q
  exact h2 pins s1 σ' H' D I' q
 |ret v=>exact q
 |brk=>exact q
 |cont=>exact q
theorem aah (h1:PS X st t):PSs X [st] t:=by
 intro pins s σ H D I h
 refine wpAny_execs_cons (thn (h1 pins s σ H D I h) fun f s1 q=>?_)
 cases f with
 |next=>exact wpAny_execs_nil q
 |ret v=>exact q
 |brk=>exact q
 |cont=>exact q
theorem Inv.quiet {pins:List (Addr×Obj)} {σ:St} {H:Hp} {s:Shared} (I:Inv X pins σ H s):interactive X.env=false:=by simp[interactive,I.ok.kind]
noncomputable def tDrop (te:TE):TS:=fun D σ H=>te σ H fun _ H1=>D.nx σ H1
theorem abj (he:PE X e te) (hs:swapsWith e none pos.line X.env=pure false:=by rfl):PS X (.Expr e pos) (tDrop te):=by
 intro pins s σ H D I h
 exact wpAny_Expr_any (thn (he pins s σ H _ I h) fun v s1 ⟨x,H1,I1,r1,q1⟩=>⟨σ,H1,I1,q1⟩) I.quiet hs
noncomputable def tRet (te:TE):TS:=fun D σ H=>te σ H D.rt
theorem aa2 (he:PE X e te):PS X (.Return (some e) pos) (tRet te):=by
 intro pins s σ H D I h
 exact wpAny_Return_some (thn (he pins s σ H _ I h) fun v s1 ⟨x,H1,I1,r1,q1⟩=>⟨x,σ,H1,I1,r1,q1⟩)
noncomputable def tIfS (c:TT) (t u:TS):TS:=fun D σ H=>c σ H fun b H1=>if b=true then t D σ H1 else u D σ H1
theorem ab2 {c:Expr} {a b:List Stmt} {tc:TT} (hc:PT X c tc) (ha:PSs X a t) (hb:PSs X b u):PS X (.If c a b pos) (tIfS tc t u):=by
 intro pins s σ H D I h
 refine wpAny_If (thn (hc pins s σ H _ I h) fun d s1 ⟨H1,I1,q1⟩=>?_)
 cases d with
 |true=>exact ha pins s1 σ H1 D I1 q1
 |false=>exact hb pins s1 σ H1 D I1 q1
end
noncomputable abbrev TG:=V→St→Hp→(St→Hp→Prop)→Prop
noncomputable def PG (X:Cx) (target:Expr) (t:TG):Prop:=
 ∀(pins:List (Addr×Obj)) (s:Shared) (σ:St) (H:Hp) (v:V) (u:Value) (Q:St→Hp→Prop),Inv X pins σ H s→RelV v u→t v σ H Q→
  wpAny (model X.prog X.w) X.A (assign target X.env u) (fun _ s'=>∃σ' H',Inv X pins σ' H' s'∧Q σ' H') X.xe s
section
variable {X:Cx} {pos:Pos}
noncomputable def gName (i:Nat):TG:=fun v σ H Q=>Q (σ.set i (some v)) H
theorem aco {i:Nat} {x:Str} (hN:X.N.Nodup) (hi:X.N[i]?=some x) (hx:Loc X.env.scope x) (hf:X.fn x=true∨X.env.scope.names.lookup x=some .local:=by first|exact .inl rfl|exact .inr rfl|assumption):PG X (.Name x pos) (gName i):=by
 intro pins s σ H v u Q I r h
 exact wpAny_assign_Name (aeo I hN hi hx r (fun s' I'=>⟨_,H,I',h⟩) hf)
noncomputable def tAsg (te:TE) (g:TG):TS:=fun D σ H=>te σ H fun x H1=>g x σ H1 D.nx
theorem aa6 {i:Nat} {x:Str} {e:Expr} {te:TE} {pos':Pos} (hN:X.N.Nodup) (hi:X.N[i]?=some x) (hx:Loc X.env.scope x) (he:PE X e te) (hs:swapsWith e (some (.Name x pos')) pos.line X.env=pure false:=by rfl) (hf:X.fn x=true∨X.env.scope.names.lookup x=some .local:=by first|exact .inl rfl|exact .inr rfl|assumption):
  PS X (.Assign [.Name x pos'] e pos) (tAsg te (gName i)):=by
 intro pins s σ H D I h
 refine wpAny_Assign_Name (thn (he pins s σ H _ I h) fun v s1 ⟨y,H1,I1,r1,q1⟩=>?_) hs
 exact aeo I1 hN hi hx r1 (fun s2 I2=>⟨_,H1,I2,q1⟩) hf
end
section
variable {X:Cx} {pos:Pos}
noncomputable def tWhile (c:TT) (tb:TS):TS:=fun D σ H=>∃W:Nat→St→Hp→Prop,(∃m,W m σ H)∧∀m σ H,W m σ H→
 c σ H fun b H1=>if b=true then ∃N:St→Hp→Prop,(∀σ' H',N σ' H'→∃m',m' < m∧W m' σ' H')∧tb {D with nx:=N,ct:=N,bk:=D.nx} σ H1 else D.nx σ H1
theorem ai8 {c:Expr} {body:List Stmt} {tc:TT} {tb:TS} (hp:PassesOwn (model X.prog X.w) X.A X.env X.xe) (hc:PT X c tc) (hb:PSs X body tb):PS X (.While c body [] pos) (tWhile tc tb):=by
 intro pins s σ H D I h
 obtain⟨W,⟨m0,w0⟩,turn⟩:=h
 refine wpAny_While (codeAny_whileLoop (fun n s'=>∃σ' H',Inv X pins σ' H' s'∧W n σ' H') ?_ m0 ⟨σ,H,I,w0⟩)
 rintro n s1 ⟨σ1,H1,I1,w1⟩
 refine wpAny_passesOwn hp (thn (hc pins s1 σ1 H1 _ I1 (turn n σ1 H1 w1)) fun b s2 ⟨H2,I2,q2⟩=>?_)
 cases b with
 |true=>
  obtain⟨N,hN,q2⟩:=q2
  rw[if_pos rfl]
  refine wpAny_passesOwn hp (thn (hb pins s2 σ1 H2 _ I2 q2) fun f s3 q3=>?_)
  cases f with
  |next=>
   obtain⟨σ3,H3,I3,n3⟩:=q3
   obtain⟨m',hm,w3⟩:=hN σ3 H3 n3
   exact⟨m',hm,σ3,H3,I3,w3⟩
  |cont=>
   obtain⟨σ3,H3,I3,n3⟩:=q3
   obtain⟨m',hm,w3⟩:=hN σ3 H3 n3
   exact⟨m',hm,σ3,H3,I3,w3⟩
  |brk=>exact q3
  |ret v=>exact q3
 |false=>
  rw[if_neg Bool.false_ne_true]
  exact wpAny_execs_nil ⟨σ1,H2,I2,q2⟩
end
structure It where
 go:Nat→Hp→Prop
 yld:Nat→Hp→V→Hp→Prop
 stop:Nat→Hp→Prop
noncomputable def FpOk (X:Cx) (pins:List (Addr×Obj)) (H:Hp) (b:Addr):Prop:=
 H b=none∧b≠X.env.locals∧b∉X.fs∧(b∈X.ex∨X.s₀.heap.objs.size≤b)∧(∀x c,X.env.cells.lookup x=some c→c≠b)∧∀p∈X.pn++pins,p.1≠b
theorem Inv.fpOk {X:Cx} {pins:List (Addr×Obj)} {σ:St} {H H':Hp} {s:Shared} {b:Addr} (I:Inv X pins σ H s) (hb:s.heap.objs.size≤b) (hn:H' b=none):FpOk X pins H' b:=by
 refine⟨hn,Nat.ne_of_gt (Nat.lt_of_lt_of_le I.lt hb),I.nofs hb,.inr (Nat.le_trans I.sz hb),fun x c e z=>?_,fun p hp z=>?_⟩
 ·obtain⟨v,q⟩:=I.cell x c e
  exact absurd (Nat.lt_of_lt_of_le q.lt (by rw[z];exact hb)) (Nat.lt_irrefl _)
 ·exact absurd (Nat.lt_of_lt_of_le (Heap.lt_size (I.pin p hp).1) (by rw[z];exact hb)) (Nat.lt_irrefl _)
structure Turn (P:Program) (w:World) (K:PySem.W.Frag) (tg:Expr) (J:It) (fp:List Addr) (it:Addr) (tn:Nat→Heap→Prop):Prop where
 mem:it∈fp
 obj:∀i h,tn i h→∀b∈fp,∃o,h.get? b=some o∧∀v,o.data≠.cell v
 keep:∀i h h',tn i h→(∀b∈fp,∀o,h.get? b=some o→h'.get? b=some o)→tn i h'
 item:∀(X:Cx),X.prog=P→X.w=w→X.K=K→X.calm=true→∀(i:Nat) (pins:List (Addr×Obj)) (s:Shared) (σ:St) (H:Hp) (E:Value→Shared→Prop),Inv X pins σ H s→(∀b∈fp,FpOk X pins H b)→tn i s.heap→J.go i H→
  wpAny (model P w) X.A (pyNext (.ref it)) (fun r s1=>∃u,r=some u∧
   wpAny (model P w) X.A (letOwnedTupleGo tg (.ref it) u) (fun _ s2=>∃x H',Inv X pins σ H' s2∧RelV x u∧J.yld i H x H'∧tn (i+1) s2.heap∧∀b∈fp,H' b=none) E s1) E s
 done:∀(X:Cx),X.prog=P→X.w=w→X.K=K→X.calm=true→∀(i:Nat) (pins:List (Addr×Obj)) (s:Shared) (σ:St) (H:Hp) (E:Value→Shared→Prop),Inv X pins σ H s→(∀b∈fp,FpOk X pins H b)→tn i s.heap→J.stop i H→
  wpAny (model P w) X.A (pyNext (.ref it)) (fun r s1=>r=none∧Inv X pins σ H s1) E s
 self:∀(A:Around) (i:Nat) (s:Shared) (Q:Value→Shared→Prop) (E:Value→Shared→Prop),tn i s.heap→Q (.ref it) s→wpAny (model P w) A (pyIter (.ref it)) Q E s
noncomputable abbrev TI:=St→Hp→(It→Hp→Prop)→Prop
noncomputable def PIE (X:Cx) (pins:List (Addr×Obj)) (σ:St) (tg:Expr) (R:It→Hp→Prop) (itv:Value) (s2:Shared):Prop:=
 ∃(it:Addr) (fp:List Addr) (tn:Nat→Heap→Prop) (J:It) (H':Hp),itv=.ref it∧Inv X pins σ H' s2∧Turn X.prog X.w X.K tg J fp it tn∧tn 0 s2.heap∧(∀b∈fp,FpOk X pins H' b)∧R J H'
noncomputable def PI (X:Cx) (tg iter:Expr) (wi:TI):Prop:=
 ∀(pins:List (Addr×Obj)) (s:Shared) (σ:St) (H:Hp) (R:It→Hp→Prop),Inv X pins σ H s→wi σ H R→
  wpAny (model X.prog X.w) X.A (eval iter X.env) (fun v s1=>wpAny (model X.prog X.w) X.A (pyIter v) (PIE X pins σ tg R) X.xe s1) X.xe s
theorem go_of {M : Model} {A : Around} {E : Value → Shared → Prop} {s : Shared} {tg : Expr} {it : Addr} {u : Value} {o : Obj} {n : String} {vs : Array Value} {Q : Unit → Shared → Prop} (ho : s.heap.get? it = some o) (hc : o.cls = .type n) (hd : o.data = .fields vs)
    (hn : ["enumerate", "zip", "dict_itemiterator", "dict_reverseitemiterator", "odict_iterator", "itertools.zip_longest", "itertools.pairwise"].contains n = false) (hQ : Q () s) : wpAny M A (letOwnedTupleGo tg (.ref it) u) Q E s := by
  unfold letOwnedTupleGo
  cases tg <;> first
    | exact wpAny_pure hQ
    | (cases u <;> first
        | exact wpAny_pure hQ
        | (refine wpAny_bind (wpAny_load ho ?_)
           rw [hc, hd]
           show wpAny M A (if (["enumerate", "zip", "dict_itemiterator", "dict_reverseitemiterator", "odict_iterator", "itertools.zip_longest", "itertools.pairwise"].contains n && vs[0]? == some (rawInt _)) = true then _ else _) Q E s
           rw [if_neg (by intro h; rw [hn, Bool.false_and] at h; cases h)]
           exact wpAny_pure hQ))
noncomputable def Itl (K:PySem.W.Frag) (a:Addr):It:=
 ⟨fun i H=>∃xs x,SqL K H a xs∧xs[i]?=some x,fun i H x H'=>H'=H∧∀xs,SqL K H a xs→xs[i]?=some x,fun i H=>∃xs,SqL K H a xs∧xs.length≤i⟩
theorem ac4 {P:Program} {w:World} {K:PySem.W.Frag} {tg:Expr} (a it:Addr):Turn P w K tg (Itl K a) [it] it (fun i h=>h.IsListIter it a i) where
 mem:=by simp
 obj:=fun i h st b hb=>by
  have e:b=it:=by simpa using hb
  subst e
  obtain⟨o,e,c,d⟩:=st
  exact⟨o,e,fun v z=>by rw[d] at z;cases z⟩
 keep:=fun i h h' st k=>st.at fun o e=>k it (by simp) o e
 item:=by
  intro X hP hw hK hc i pins s σ H E I hf st hg
  subst hP hw hK
  obtain⟨xs,x,hq,hx⟩:=hg
  obtain⟨its,rv,p,hz⟩:=I.list hq
  obtain⟨u,hu,ru⟩:=rv.get hx
  obtain⟨f0,f1,f2,f3,f4,f5⟩:=hf it (by simp)
  refine wpAny_pyNext_list_item st p.isList (x:=u) (by simpa using hu) fun h' st' sb=>?_
  have I1:Inv X pins σ H {s with heap:=h'}:=I.turned (t':=s.toks) (fun b o hb e=>(sb.2 b hb).trans e) f0 f1 f3 f4 f5
  obtain⟨o,e,c,d⟩:=id st'
  exact⟨u,rfl,go_of (s:={s with heap:=h'}) e c d (by decide) ⟨x,H,I1,ru,⟨rfl,fun ys hy=>by rw[I.list_inj hy hq];exact hx⟩,st',fun b hb=>(hf b hb).1⟩⟩
 done:=by
  intro X hP hw hK hc i pins s σ H E I hf st hg
  subst hP hw hK
  obtain⟨xs,hq,hx⟩:=hg
  obtain⟨its,rv,p,hz⟩:=I.list hq
  obtain⟨f0,f1,f2,f3,f4,f5⟩:=hf it (by simp)
  have hl:=rv.length
  exact wpAny_pyNext_list_end (I.ok.hd hc) st p.isList (by simp;omega) fun h' eb=>⟨rfl,I.turned (t':=s.toks) (fun b o hb e=>eb b o hb e) f0 f1 f3 f4 f5⟩
 self:=fun _ _ _ _ _ st h=>wpAny_pyIter_listiter st h
end L2
namespace L2
open PySem PySem.Spec PyProof.Rows
section
variable {X:Cx} {tg:Expr}
noncomputable def iList (K:PySem.W.Frag) (tl:TE):TI:=fun σ H R=>tl σ H fun x H1=>∃a,x=.ref a∧(∃xs,SqL K H1 a xs)∧R (Itl K a) H1
theorem acx {l:Expr} {tl:TE} (hl:PE X l tl):PI X tg l (iList X.K tl):=by
 intro pins s σ H R I h
 refine thn (hl pins s σ H _ I h) fun v s1 ⟨x,H1,I1,r1,q1⟩=>?_
 obtain⟨a,e,⟨xs,hq⟩,q⟩:=q1
 subst e
 cases r1
 obtain⟨its,rv,p,hz⟩:=I1.list hq
 refine wpAny_pyIter_list p.isList ?_
 refine⟨s1.heap.objs.size,[s1.heap.objs.size],_,_,H1,rfl,I1.kept (t':=s1.toks) fun b o e=>Heap.get?_push_of_some _ e,ac4 a _,⟨_,Heap.get?_push_size _ rfl,rfl,rfl⟩,fun b hb=>?_,q⟩
 have e:b=s1.heap.objs.size:=by simpa using hb
 subst e
 exact I1.fpOk (Nat.le_refl _) (I1.hok.fresh (Nat.le_refl _))
noncomputable def tFor (wi:TI) (g:TG) (tb:TS):TS:=fun D σ H=>wi σ H fun J H1=>∃W:Nat→Nat→St→Hp→Prop,(∃m,W 0 m σ H1)∧∀i m σ H,W i m σ H→
 (J.stop i H∧D.nx σ H)∨(J.go i H∧∃N:St→Hp→Prop,(∀σ' H',N σ' H'→∃m',m' < m∧W (i+1) m' σ' H')∧∀x H',J.yld i H x H'→g x σ H' fun σ2 H2=>tb {D with nx:=N,ct:=N,bk:=D.nx} σ2 H2)
noncomputable def pinsAt (fp:List Addr) (h:Heap):List (Addr×Obj):=fp.filterMap fun b=>(h.get? b).map fun o=>(b,o)
theorem ab1 {fp:List Addr} {h:Heap} {b:Addr} {o:Obj} (hb:b∈fp) (e:h.get? b=some o):(b,o)∈pinsAt fp h:=List.mem_filterMap.mpr ⟨b,hb,by rw[e];rfl⟩
theorem ahn {fp:List Addr} {h:Heap} {p:Addr×Obj} (hp:p∈pinsAt fp h):p.1∈fp∧h.get? p.1=some p.2:=by
 obtain⟨b,hb,e⟩:=List.mem_filterMap.mp hp
 cases q:h.get? b with
 |none=>rw[q] at e;cases e
 |some o=>
  rw[q] at e
  have e':(b,o)=p:=Option.some.inj e
  subst e'
  exact⟨hb,q⟩
theorem Inv.pinned {pins:List (Addr×Obj)} {σ:St} {H:Hp} {s:Shared} {fp:List Addr} (I:Inv X pins σ H s) (hf:∀b∈fp,FpOk X pins H b) (ho:∀b∈fp,∃o,s.heap.get? b=some o∧∀v,o.data≠.cell v):Inv X (pins++pinsAt fp s.heap) σ H s:=
 I.pins_of fun p hp=>(List.mem_append.mp hp).elim (fun z=>I.pin p (List.mem_append_right _ z)) fun z=>by
  obtain⟨hb,e⟩:=ahn z
  obtain⟨f0,f1,f2,_⟩:=hf p.1 hb
  obtain⟨o,e',d⟩:=ho p.1 hb
  rw[e] at e';cases e'
  exact⟨e,f0,f1,f2,d⟩
theorem Inv.unpinned {pins pl:List (Addr×Obj)} {σ:St} {H:Hp} {s:Shared} (I:Inv X (pins++pl) σ H s):Inv X pins σ H s:=I.pins_of fun p hp=>I.pin p (List.mem_append_right _ (List.mem_append_left _ hp))
theorem ps_for {iter:Expr} {body:List Stmt} {wi:TI} {g:TG} {tb:TS} {pos:Pos} (hp:PassesOwn (model X.prog X.w) X.A X.env X.xe) (hc:X.calm=true) (hi:PI X tg iter wi) (hg:PG X tg g) (hb:PSs X body tb)
  (hs:∀x,foldedSetIterable iter X.env x=pure x:=by intro _;rfl):PS X (.For tg iter body [] pos) (tFor wi g tb):=by
 intro pins s σ H D I h
 refine wpAny_For (thn (hi pins s σ H _ I h) fun v s1 h1=>thn h1 fun itv s2 h2=>?_) hs
 obtain⟨it,fp,tn,J,H2,e,I2,T,st2,f2,W,⟨m0,w0⟩,turn⟩:=h2
 subst e
 have stat:∀{H':Hp},(∀b∈fp,H' b=none)→∀b∈fp,FpOk X pins H' b:=fun hn b hb=>⟨hn b hb,(f2 b hb).2⟩
 refine codeAny_forLoop_any (fun n s'=>∃i σ' H',Inv X pins σ' H' s'∧tn i s'.heap∧(∀b∈fp,H' b=none)∧W i n σ' H') ?_ m0 ⟨0,σ,H2,I2,st2,fun b hb=>(f2 b hb).1,w0⟩
 rintro n s3 ⟨i,σ3,H3,I3,st3,fr3,w3⟩
 rcases turn i n σ3 H3 w3 with ⟨stop,qn⟩|⟨go,N,hN,step⟩
 ·refine wpAny_passesOwn hp (thn (T.done X rfl rfl rfl hc i pins s3 σ3 H3 X.xe I3 (stat fr3) st3 stop) fun r s4 ⟨hr,I4⟩=>?_)
  subst hr
  exact wpAny_execs_nil ⟨σ3,H3,I4,qn⟩
 ·refine wpAny_passesOwn hp (thn (T.item X rfl rfl rfl hc i pins s3 σ3 H3 X.xe I3 (stat fr3) st3 go) fun r s4 ⟨u,hr,h4⟩=>?_)
  subst hr
  refine wpAny_passesOwn hp (thn h4 fun _ s5 ⟨x,H5,I5,r5,y5,st5,fr5⟩=>?_)
  have I5':=I5.pinned (stat fr5) (T.obj _ _ st5)
  refine wpAny_passesOwn hp (thn (hg _ s5 σ3 H5 x u _ I5' r5 (step x H5 y5)) fun _ s6 ⟨σ6,H6,I6,q6⟩=>?_)
  refine wpAny_passesOwn hp (thn (hb _ s6 σ6 H6 _ I6 q6) fun f s7 q7=>?_)
  have again:∀{σ7:St} {H7:Hp},Inv X (pins++pinsAt fp s5.heap) σ7 H7 s7→N σ7 H7→∃m,m < n∧∃i σ' H',Inv X pins σ' H' s7∧tn i s7.heap∧(∀b∈fp,H' b=none)∧W i m σ' H':=fun {σ7 H7} I7 n7=>by
   obtain⟨m',hm,w7⟩:=hN σ7 H7 n7
   refine⟨m',hm,i+1,σ7,H7,I7.unpinned,T.keep _ _ _ st5 fun b hb o e=>(I7.pin (b,o) (List.mem_append_right _ (List.mem_append_right _ (ab1 hb e)))).1,fun b hb=>?_,w7⟩
   obtain⟨o,e,d⟩:=T.obj _ _ st5 b hb
   exact (I7.pin (b,o) (List.mem_append_right _ (List.mem_append_right _ (ab1 hb e)))).2.1
  cases f with
  |next=>obtain⟨σ7,H7,I7,n7⟩:=q7;exact again I7 n7
  |cont=>obtain⟨σ7,H7,I7,n7⟩:=q7;exact again I7 n7
  |brk=>obtain⟨σ7,H7,I7,q7⟩:=q7;exact⟨σ7,H7,I7.unpinned,q7⟩
  |ret v=>obtain⟨x7,σ7,H7,I7,r7,q7⟩:=q7;exact⟨x7,σ7,H7,I7.unpinned,r7,q7⟩
end
theorem ai9 {K:PySem.W.Frag} {a:Addr} {xs:List V} {g:TG} {tb:TS} {D:Ends} {σ:St} {H:Hp} (Pv:Nat→St→Hp→Prop) (h0:Pv 0 σ H) (hl:∀i σ H,i≤xs.length→Pv i σ H→SqL K H a xs)
  (hs:∀i x σ H,xs[i]?=some x→Pv i σ H→g x σ H fun σ2 H2=>tb {D with nx:=Pv (i+1),ct:=Pv (i+1),bk:=D.nx} σ2 H2) (hd:∀σ H,Pv xs.length σ H→D.nx σ H):
  ∃W:Nat→Nat→St→Hp→Prop,(∃m,W 0 m σ H)∧∀i m σ H,W i m σ H→
   ((Itl K a).stop i H∧D.nx σ H)∨((Itl K a).go i H∧∃N:St→Hp→Prop,(∀σ' H',N σ' H'→∃m',m' < m∧W (i+1) m' σ' H')∧∀x H',(Itl K a).yld i H x H'→g x σ H' fun σ2 H2=>tb {D with nx:=N,ct:=N,bk:=D.nx} σ2 H2):=by
 refine⟨fun i m σ H=>m=xs.length - i∧i≤xs.length∧Pv i σ H,⟨xs.length,by simp,Nat.zero_le _,h0⟩,?_⟩
 rintro i m σ H ⟨rfl,hi,p⟩
 have q:=hl i σ H hi p
 by_cases hlt:i < xs.length
 ·refine .inr ⟨⟨xs,xs[i],q,by simp[hlt]⟩,Pv (i+1),fun σ' H' p'=>⟨xs.length - (i+1),by omega,rfl,hlt,p'⟩,fun x H' y=>?_⟩
  obtain⟨e,y⟩:=y
  subst e
  exact hs i x σ _ (y xs q) p
 ·have e:i=xs.length:=by omega
  subst e
  exact .inl ⟨⟨xs,q,Nat.le_refl _⟩,hd σ H p⟩
end L2
namespace L2
open PySem PySem.Spec PyProof.Rows
noncomputable abbrev R2:=V→V→Hp→VK→Prop
noncomputable def OpR (X:Cx) (f:Value→Value→Sem Value) (r:R2):Prop:=
 ∀(pins:List (Addr×Obj)) (s:Shared) (σ:St) (H:Hp) (x y:V) (v u:Value) (Q:VK),Inv X pins σ H s→RelV x v→RelV y u→r x y H Q→
  wpAny (model X.prog X.w) X.A (f v u) (EP X pins σ Q) X.xe s
noncomputable def UnR (X:Cx) (f:Value→Sem Value) (r:V→Hp→VK→Prop):Prop:=
 ∀(pins:List (Addr×Obj)) (s:Shared) (σ:St) (H:Hp) (x:V) (v:Value) (Q:VK),Inv X pins σ H s→RelV x v→r x H Q→
  wpAny (model X.prog X.w) X.A (f v) (EP X pins σ Q) X.xe s
noncomputable def CallR (X:Cx) (f:Value) (r:List V→Hp→VK→Prop):Prop:=
 ∀(pins:List (Addr×Obj)) (s:Shared) (σ:St) (H:Hp) (xs:List V) (us:List Value) (Q:VK),Inv X pins σ H s→Vals xs us→r xs H Q→
  wpAny (model X.prog X.w) X.A (call f us) (EP X pins σ Q) X.xe s
noncomputable def TruR (X:Cx) (r:V→Hp→(Bool→Hp→Prop)→Prop):Prop:=
 ∀(pins:List (Addr×Obj)) (s:Shared) (σ:St) (H:Hp) (x:V) (v:Value) (Q:Bool→Hp→Prop),Inv X pins σ H s→RelV x v→r x H Q→
  wpAny (model X.prog X.w) X.A (truthy v) (TP X pins σ Q) X.xe s
noncomputable def tOp (r:R2) (ta tb:TE):TE:=fun σ H Q=>ta σ H fun x H1=>tb σ H1 fun y H2=>r x y H2 Q
noncomputable def tUn (r:V→Hp→VK→Prop) (ta:TE):TE:=fun σ H Q=>ta σ H fun x H1=>r x H1 Q
noncomputable def rI (C:Int→Int→Prop) (g:Int→Int→V):R2:=fun x y H Q=>∃i j,x=.int i∧y=.int j∧C i j∧Q (g i j) H
noncomputable def rI0 (g:Int→Int→V):R2:=fun x y H Q=>∃i j,x=.int i∧y=.int j∧Q (g i j) H
noncomputable def rU (g:Int→V):V→Hp→VK→Prop:=fun x H Q=>∃i,x=.int i∧Q (g i) H
section
variable {X:Cx} {a b c:Expr} {ta tb tc:TE} {pos:Pos}
theorem binT (ha:PE X a ta) (hb:PE X b tb) {pins:List (Addr×Obj)} {s:Shared} {σ:St} {H:Hp} {R:V→V→Hp→Prop} (I:Inv X pins σ H s)
  (h:ta σ H fun x H1=>tb σ H1 fun y H2=>R x y H2) {Q:Value→Shared→Prop} {f:Value→Value→Sem Value}
  (hf:∀v u s2 x y H2,Inv X pins σ H2 s2→RelV x v→RelV y u→R x y H2→wpAny (model X.prog X.w) X.A (f v u) Q X.xe s2):
  wpAny (model X.prog X.w) X.A (eval a X.env) (fun v s₁=>wpAny (model X.prog X.w) X.A (eval b X.env) (fun u s₂=>wpAny (model X.prog X.w) X.A (f v u) Q X.xe s₂) X.xe s₁) X.xe s:=by
 refine thn (ha pins s σ H _ I h) fun v s1 ⟨x,H1,I1,r1,q1⟩=>?_
 refine thn (hb pins s1 σ H1 _ I1 q1) fun u s2 ⟨y,H2,I2,r2,q2⟩=>?_
 exact hf v u s2 x y H2 I2 r1 r2 q2
theorem aan {op:Operator} {r:R2} (ho:OpR X (binaryOp op) r) (ha:PE X a ta) (hb:PE X b tb):PE X (.BinOp a op b pos) (tOp r ta tb):=by
 intro pins s σ H Q I h
 exact wpAny_BinOp (binT ha hb I h fun v u s2 x y H2 I2 rx ry q=>ho pins s2 σ H2 x y v u Q I2 rx ry q)
theorem akj {op:UnaryOp} {r:V→Hp→VK→Prop} (ho:UnR X (unaryOp op) r) (ha:PE X a ta):PE X (.UnaryOp op a pos) (tUn r ta):=by
 intro pins s σ H Q I h
 exact UnaryOp_ (thn (ha pins s σ H _ I h) fun v s1 ⟨x,H1,I1,r1,q1⟩=>ho pins s1 σ H1 x v Q I1 r1 q1)
theorem opI {f:Value→Value→Sem Value} {C:Int→Int→Prop} {g:Int→Int→Int}
  (rule:∀(i j:Int) (t u:Tok) (s:Shared) (Q:Value→Shared→Prop) (E:Value→Shared→Prop),C i j→Q (.int (g i j) s.toks) {s with toks:=s.toks+1}→wpAny (model X.prog X.w) X.A (f (.int i t) (.int j u)) Q E s):
  OpR X f (rI C fun i j=>.int (g i j)):=by
 intro pins s σ H x y v u Q I rx ry h
 obtain⟨i,j,rfl,rfl,hc,q⟩:=h
 obtain⟨t,rfl⟩:=rx
 obtain⟨t',rfl⟩:=ry
 exact rule i j t t' s _ _ hc ⟨.int (g i j),H,I.tok _,⟨_,rfl⟩,q⟩
theorem opI0 {f:Value→Value→Sem Value} {g:Int→Int→Int}
  (rule:∀(i j:Int) (t u:Tok) (s:Shared) (Q:Value→Shared→Prop) (E:Value→Shared→Prop),Q (.int (g i j) s.toks) {s with toks:=s.toks+1}→wpAny (model X.prog X.w) X.A (f (.int i t) (.int j u)) Q E s):
  OpR X f (rI0 fun i j=>.int (g i j)):=by
 intro pins s σ H x y v u Q I rx ry h
 obtain⟨i,j,rfl,rfl,q⟩:=h
 obtain⟨t,rfl⟩:=rx
 obtain⟨t',rfl⟩:=ry
 exact rule i j t t' s _ _ ⟨.int (g i j),H,I.tok _,⟨_,rfl⟩,q⟩
theorem opB0 {f:Value→Value→Sem Value} {g:Int→Int→Bool}
  (rule:∀(i j:Int) (t u:Tok) (s:Shared) (Q:Value→Shared→Prop) (E:Value→Shared→Prop),Q (.bool (g i j)) s→wpAny (model X.prog X.w) X.A (f (.int i t) (.int j u)) Q E s):
  OpR X f (rI0 fun i j=>.bl (g i j)):=by
 intro pins s σ H x y v u Q I rx ry h
 obtain⟨i,j,rfl,rfl,q⟩:=h
 obtain⟨t,rfl⟩:=rx
 obtain⟨t',rfl⟩:=ry
 exact rule i j t t' s _ _ ⟨.bl (g i j),H,I,rfl,q⟩
noncomputable def CDiv (i j:Int):Prop:=0 < j∧j < 1073741824
noncomputable def CPow (i j:Int):Prop:=0≤j∧j≤1000000∧i.natAbs < 2 ^ 64
noncomputable def CMul (i j:Int):Prop:=(-(2 ^ 64) < i∧i < 2 ^ 64)∨(-(2 ^ 64) < j∧j < 2 ^ 64)
theorem CMul.ok {i j:Int} (h:CMul i j):IntMulOk i j:=by
 rcases h with ⟨h1,h2⟩|⟨h1,h2⟩
 ·exact .of_left (intBits_le_64 h1 h2)
 ·exact .of_right (intBits_le_64 h1 h2)
theorem aa7:OpR X (binaryOp .Add) (rI0 fun i j=>.int (i+j)):=opI0 fun _ _ _ _ _ _ _ q=>add_int q
theorem ab8:OpR X (binaryOp .Sub) (rI0 fun i j=>.int (i - j)):=opI0 fun _ _ _ _ _ _ _ q=>sub_int q
theorem adg:OpR X (binaryOp .FloorDiv) (rI CDiv fun i j=>.int (i / j)):=opI fun i j _ _ _ _ _ hc q=>by
 have h1:(0:Int) < j:=hc.1
 have h2:j < 1073741824:=hc.2
 exact floordiv_int (by omega) (by rw[Int.fdiv_eq_ediv_of_nonneg i (by omega)];exact q) (.inl (PyProof.noPylong_small (by omega)))
theorem ab3:OpR X (binaryOp .Mod) (rI (fun _ j=>0 < j) fun i j=>.int (i % j)):=opI fun i j _ _ _ _ _ hc q=>by
 have h1:(0:Int) < j:=hc
 exact mod_int' (by omega) (by rw[Int.fmod_eq_emod_of_nonneg i (by omega)];exact q)
theorem aee:OpR X (binaryOp .Pow) (rI CPow fun i j=>.int (i ^ j.toNat)):=opI fun _ _ _ _ _ _ _ hc q=>pow_int_small hc.1 hc.2.1 hc.2.2 q
end
noncomputable def scal:V→V→Bool
 |.non,.non=>true|.non,.int _=>true|.int _,.non=>true|.non,.bl _=>true|.bl _,.non=>true|.non,.str _=>true|.str _,.non=>true
 |.int _,.int _=>true|.bl _,.bl _=>true|.str _,.str _=>true|.byt _,.byt _=>true
 |.int _,.str _=>true|.str _,.int _=>true|.bl _,.str _=>true|.str _,.bl _=>true
 |_,_=>false
noncomputable def rEq:R2:=fun x y H Q=>scal x y=true∧Q (.bl (decide (x=y))) H
noncomputable def rNe:R2:=fun x y H Q=>scal x y=true∧Q (.bl (!decide (x=y))) H
theorem aho {i j:Int}:decide (V.int i=V.int j)=(i == j):=by
 rw[Bool.eq_iff_iff]
 simp
theorem aj1 {i j:Bool}:decide (V.bl i=V.bl j)=(i == j):=by
 rw[Bool.eq_iff_iff]
 simp
theorem ahp {i j:Str}:decide (V.str i=V.str j)=(i == j):=by
 rw[Bool.eq_iff_iff]
 simp
theorem ahq {i j:Array UInt8}:decide (V.byt i=V.byt j)=(i.toList == j.toList):=by
 rw[Bool.eq_iff_iff]
 cases i
 cases j
 simp
section
variable {X:Cx} {a b c:Expr} {ta tb tc:TE} {pos:Pos}
theorem aba {pins:List (Addr×Obj)} {σ:St} {H:Hp} {s:Shared} {Q:VK} {k k':Bool} (I:Inv X pins σ H s) (q:Q (.bl k) H) (e:k=k'):EP X pins σ Q (.bool k') s:=by
 subst e
 exact⟨.bl k,H,I,rfl,q⟩
theorem afa:OpR X (compareOp .Eq) rEq:=by
 intro pins s σ H x y v u Q I rx ry h
 obtain⟨hs,q⟩:=h
 cases x with
 |non=>
  cases rx
  cases y with
  |non=>cases ry;exact PySem.EqNone.eq_none_none (aba I q (by simp))
  |bl j=>cases ry;exact PySem.EqNone.eq_none_bool (aba I q (by simp))
  |int j=>obtain⟨t',rfl⟩:=ry;exact PySem.EqNone.eq_none_int (aba I q (by simp))
  |str j=>obtain⟨t',rfl⟩:=ry;exact PySem.EqNone.eq_none_str (aba I q (by simp))
  |_=>exact absurd (show false=true from hs) Bool.false_ne_true
 |bl i=>
  cases rx
  cases y with
  |non=>cases ry;exact PySem.EqNone.eq_bool_none (aba I q (by simp))
  |bl j=>cases ry;exact eq_bool (aba I q aj1)
  |str j=>obtain⟨t',rfl⟩:=ry;exact PySem.EqMixed.eq_bool_str (aba I q (by simp))
  |_=>exact absurd (show false=true from hs) Bool.false_ne_true
 |int i=>
  obtain⟨t,rfl⟩:=rx
  cases y with
  |non=>cases ry;exact PySem.EqNone.eq_int_none (aba I q (by simp))
  |int j=>obtain⟨t',rfl⟩:=ry;exact eq_int (aba I q aho)
  |str j=>obtain⟨t',rfl⟩:=ry;exact PySem.EqMixed.eq_int_str (aba I q (by simp))
  |_=>exact absurd (show false=true from hs) Bool.false_ne_true
 |str i=>
  obtain⟨t,rfl⟩:=rx
  cases y with
  |non=>cases ry;exact PySem.EqNone.eq_str_none (aba I q (by simp))
  |bl j=>cases ry;exact PySem.EqMixed.eq_str_bool (aba I q (by simp))
  |int j=>obtain⟨t',rfl⟩:=ry;exact PySem.EqMixed.eq_str_int (aba I q (by simp))
  |str j=>obtain⟨t',rfl⟩:=ry;exact eq_str (aba I q ahp)
  |_=>exact absurd (show false=true from hs) Bool.false_ne_true
 |byt i=>
  obtain⟨t,rfl⟩:=rx
  cases y with
  |byt j=>obtain⟨t',rfl⟩:=ry;exact PySem.W.eq_bytes (aba I q ahq)
  |_=>exact absurd (show false=true from hs) Bool.false_ne_true
 |_=>cases y<;>exact absurd (show false=true from hs) Bool.false_ne_true
theorem ag3:OpR X (compareOp .NotEq) rNe:=by
 intro pins s σ H x y v u Q I rx ry h
 obtain⟨hs,q⟩:=h
 cases x with
 |non=>
  cases rx
  cases y with
  |non=>cases ry;exact PySem.EqNone.ne_none_none (aba I q (by simp))
  |bl j=>cases ry;exact PySem.EqNone.ne_none_bool (aba I q (by simp))
  |int j=>obtain⟨t',rfl⟩:=ry;exact PySem.EqNone.ne_none_int (aba I q (by simp))
  |str j=>obtain⟨t',rfl⟩:=ry;exact PySem.EqNone.ne_none_str (aba I q (by simp))
  |_=>exact absurd (show false=true from hs) Bool.false_ne_true
 |bl i=>
  cases rx
  cases y with
  |non=>cases ry;exact PySem.EqNone.ne_bool_none (aba I q (by simp))
  |bl j=>cases ry;exact ne_bool (aba I q (congrArg not aj1))
  |str j=>obtain⟨t',rfl⟩:=ry;exact PySem.EqMixed.ne_bool_str (aba I q (by simp))
  |_=>exact absurd (show false=true from hs) Bool.false_ne_true
 |int i=>
  obtain⟨t,rfl⟩:=rx
  cases y with
  |non=>cases ry;exact PySem.EqNone.ne_int_none (aba I q (by simp))
  |int j=>obtain⟨t',rfl⟩:=ry;exact ne_int (aba I q (congrArg not aho))
  |str j=>obtain⟨t',rfl⟩:=ry;exact PySem.EqMixed.ne_int_str (aba I q (by simp))
  |_=>exact absurd (show false=true from hs) Bool.false_ne_true
 |str i=>
  obtain⟨t,rfl⟩:=rx
  cases y with
  |non=>cases ry;exact PySem.EqNone.ne_str_none (aba I q (by simp))
  |bl j=>cases ry;exact PySem.EqMixed.ne_str_bool (aba I q (by simp))
  |int j=>obtain⟨t',rfl⟩:=ry;exact PySem.EqMixed.ne_str_int (aba I q (by simp))
  |str j=>obtain⟨t',rfl⟩:=ry;exact ne_str (aba I q (congrArg not ahp))
  |_=>exact absurd (show false=true from hs) Bool.false_ne_true
 |byt i=>
  obtain⟨t,rfl⟩:=rx
  cases y with
  |byt j=>obtain⟨t',rfl⟩:=ry;exact PySem.W.ne_bytes (aba I q (congrArg not ahq))
  |_=>exact absurd (show false=true from hs) Bool.false_ne_true
 |_=>cases y<;>exact absurd (show false=true from hs) Bool.false_ne_true
theorem afb:OpR X (compareOp .Lt) (rI0 fun i j=>.bl (decide (i < j))):=opB0 fun _ _ _ _ _ _ _ q=>lt_int q
theorem op_le:OpR X (compareOp .LtE) (rI0 fun i j=>.bl (decide (i≤j))):=opB0 fun _ _ _ _ _ _ _ q=>le_int q
theorem aja:OpR X (compareOp .Gt) (rI0 fun i j=>.bl (decide (j < i))):=opB0 fun _ _ _ _ _ _ _ q=>gt_int q
theorem aj2:OpR X (compareOp .Is) (fun x y H Q=>y=.non∧Q (.bl (decide (x=.non))) H):=by
 intro pins s σ H x y v u Q I rx ry h
 obtain⟨rfl,q⟩:=h
 cases ry
 refine is_none_gen (aba I q ?_)
 cases x<;>first
  |(cases rx;rfl)
  |(obtain⟨t,rfl⟩:=rx;rfl)
theorem ahr:OpR X (compareOp .IsNot) (fun x y H Q=>y=.non∧Q (.bl (!decide (x=.non))) H):=by
 intro pins s σ H x y v u Q I rx ry h
 obtain⟨rfl,q⟩:=h
 cases ry
 refine isnot_none_gen (aba I q ?_)
 cases x<;>first
  |(cases rx;rfl)
  |(obtain⟨t,rfl⟩:=rx;rfl)
theorem OpR.or {f:Value→Value→Sem Value} {r r':R2} (h:OpR X f r) (h':OpR X f r'):OpR X f (fun x y H Q=>r x y H Q∨r' x y H Q):=by
 intro pins s σ H x y v u Q I rx ry q
 rcases q with q|q
 ·exact h pins s σ H x y v u Q I rx ry q
 ·exact h' pins s σ H x y v u Q I rx ry q
theorem nomark (b:Expr) {op:CmpOp} (h:op≠.In:=by decide) (h2:op≠.NotIn:=by decide):behindInMarks op b=false:=by
 have e1:(op == CmpOp.In)=false:=by cases op<;>first|rfl|exact absurd rfl h
 have e2:(op == CmpOp.NotIn)=false:=by cases op<;>first|rfl|exact absurd rfl h2
 cases b<;>simp[behindInMarks,e1,e2]
theorem adh {op:CmpOp} {r:R2} (ho:OpR X (compareOp op) r) (ha:PE X a ta) (hb:PE X b tb) (hm:behindInMarks op b=false):PE X (.Compare a [op] [b] pos) (tOp r ta tb):=by
 intro pins s σ H Q I h
 exact wpAny_Compare1 (binT ha hb I h fun v u s2 x y H2 I2 rx ry q=>ho pins s2 σ H2 x y v u Q I2 rx ry q) hm
noncomputable def tTest (t:TE):TT:=fun σ H Q=>t σ H fun x H'=>∃k,x=.bl k∧Q k H'
theorem aa5 {op:CmpOp} {r:R2} (ho:OpR X (compareOp op) r) (ha:PE X a ta) (hb:PE X b tb) (hm:behindInMarks op b=false):PT X (.Compare a [op] [b] pos) (tTest (tOp r ta tb)):=by
 intro pins s σ H Q I h
 refine wpAny_isTrue_Compare1 (thn (ha pins s σ H _ I h) fun v s1 ⟨x,H1,I1,r1,q1⟩=>thn (hb pins s1 σ H1 _ I1 q1) fun u s2 ⟨y,H2,I2,r2,q2⟩=>
  thn (ho pins s2 σ H2 x y v u _ I2 r1 r2 q2) fun c s3 ⟨z,H3,I3,r3,k,e,q3⟩=>?_) hm
 subst e
 cases r3
 exact wpAny_truthy_bool ⟨H3,I3,q3⟩
noncomputable def tChain (r r':R2) (ta tb tc:TE):TE:=fun σ H Q=>ta σ H fun x H1=>tb σ H1 fun y H2=>r x y H2 fun z H3=>∃k,z=.bl k∧
 (if k=true then tc σ H3 fun w' H4=>r' y w' H4 Q else Q (.bl false) H3)
theorem ajb {op op':CmpOp} {r r':R2} (ho:OpR X (compareOp op) r) (ho':OpR X (compareOp op') r') (ha:PE X a ta) (hb:PE X b tb) (hc:PE X c tc)
  (hm:lastMarks [op,op'] [b,c]=false:=by with_unfolding_all rfl):PE X (.Compare a [op,op'] [b,c] pos) (tChain r r' ta tb tc):=by
 intro pins s σ H Q I h
 refine Compare_chain (thn (ha pins s σ H _ I h) fun v s1 ⟨x,H1,I1,r1,q1⟩=>chain_link (thn (hb pins s1 σ H1 _ I1 q1) fun u s2 ⟨y,H2,I2,r2,q2⟩=>
  thn (ho pins s2 σ H2 x y v u _ I2 r1 r2 q2) fun d s3 ⟨z,H3,I3,r3,k,e,q3⟩=>?_)) hm
 subst e
 cases r3
 refine wpAny_truthy_bool ?_
 cases k with
 |false=>exact ite_ff ⟨.bl false,H3,I3,rfl,q3⟩
 |true=>exact ite_tt (chain_last (thn (hc pins s3 σ H3 _ I3 q3) fun w' s4 ⟨z',H4,I4,r4,q4⟩=>ho' pins s4 σ H4 y z' u w' Q I4 r2 r4 q4))
noncomputable def TruV (K:PySem.W.Frag) (x:V) (H:Hp) (k:Bool):Prop:=
 match x with
 |.non=>k=false
 |.bl b=>k=b
 |.int i=>k=(i != 0)
 |.str y=>y.length≤sizeLine∧k=((y.length:Int) != 0)
 |.byt y=>y.size≤sizeLine∧k=((y.size:Int) != 0)
 |.ref p=>(∃xs,SqL K H p xs∧k= !xs.isEmpty)∨(∃xs,SqT K H p xs∧k= !xs.isEmpty)∨∃kvs,H p=some (.dK kvs)∧k= !kvs.isEmpty
 |_=>False
theorem line63:(sizeLine:Nat) < 2 ^ 63:=by rw[sizeLine_eq];decide
theorem vals1 {x:V} {us:List Value} (r:Vals [x] us):∃u,us=[u]∧RelV x u:=by
 cases r with
 |cons r1 r2=>cases r2;exact⟨_,rfl,r1⟩
theorem vals2 {x y:V} {us:List Value} (r:Vals [x,y] us):∃u w',us=[u,w']∧RelV x u∧RelV y w':=by
 cases r with
 |cons r1 r2=>
  cases r2 with
  |cons r3 r4=>cases r4;exact⟨_,_,rfl,r1,r3⟩
theorem ahs (hc:X.calm=true):CallR X (.builtin "max") (fun xs H Q=>∃i j,xs=[.int i,.int j]∧Q (.int (if j > i then j else i)) H):=by
 intro pins s σ H xs us Q I r h
 obtain⟨i,j,rfl,q⟩:=h
 obtain⟨u,w',rfl,⟨t,rfl⟩,⟨t',rfl⟩⟩:=vals2 r
 refine max_two_ints (I.ok.hd hc) fun h' tk k=>⟨_,H,I.kept k,?_,q⟩
 by_cases hj:j > i
 ·rw[if_pos hj,if_pos hj];exact⟨_,rfl⟩
 ·rw[if_neg hj,if_neg hj];exact⟨_,rfl⟩
theorem afc (hc:X.calm=true):CallR X (.builtin "min") (fun xs H Q=>∃i j,xs=[.int i,.int j]∧Q (.int (if j < i then j else i)) H):=by
 intro pins s σ H xs us Q I r h
 obtain⟨i,j,rfl,q⟩:=h
 obtain⟨u,w',rfl,⟨t,rfl⟩,⟨t',rfl⟩⟩:=vals2 r
 refine min_two_ints (I.ok.hd hc) fun h' tk k=>⟨_,H,I.kept k,?_,q⟩
 by_cases hj:j < i
 ·rw[if_pos hj,if_pos hj];exact⟨_,rfl⟩
 ·rw[if_neg hj,if_neg hj];exact⟨_,rfl⟩
theorem aht:CallR X (.type "int") (fun xs H Q=>(∃i,xs=[.int i]∧Q (.int i) H)∨∃k,xs=[.bl k]∧Q (.int (if k then 1 else 0)) H):=by
 intro pins s σ H xs us Q I r h
 rcases h with ⟨i,rfl,q⟩|⟨k,rfl,q⟩
 ·obtain⟨u,rfl,t,rfl⟩:=vals1 r
  exact call_int_int ⟨.int i,H,I,⟨_,rfl⟩,q⟩
 ·obtain⟨u,rfl,r1⟩:=vals1 r
  cases r1
  exact call_int_bool ⟨.int (if k then 1 else 0),H,I.tok _,⟨_,rfl⟩,q⟩
noncomputable def LenV (K:PySem.W.Frag) (x:V) (H:Hp) (n:Nat):Prop:=
 match x with
 |.str y=>y.length≤sizeLine∧n=y.length
 |.byt y=>y.size≤sizeLine∧n=y.size
 |.ref p=>(∃xs,SqL K H p xs∧n=xs.length)∨∃xs,SqT K H p xs∧n=xs.length
 |_=>False
theorem ac5:CallR X (.builtin "len") (fun xs H Q=>∃x n,xs=[x]∧LenV X.K x H n∧Q (.int n) H):=by
 intro pins s σ H xs us Q I r h
 obtain⟨x,n,rfl,e,q⟩:=h
 obtain⟨u,rfl,rx⟩:=vals1 r
 have hl:=line63
 have hs:sizeLine=16777216:=sizeLine_eq
 cases x with
 |str y=>
  obtain⟨t,rfl⟩:=rx
  obtain⟨hy,e'⟩:y.length≤sizeLine∧n=y.length:=e
  subst e'
  exact len_str (by omega) ⟨.int _,H,I.tok _,⟨_,rfl⟩,q⟩
 |byt y=>
  obtain⟨t,rfl⟩:=rx
  obtain⟨hy,e'⟩:y.size≤sizeLine∧n=y.size:=e
  subst e'
  exact PySem.W.len_bytes (by omega) ⟨.int _,H,I.tok _,⟨_,rfl⟩,q⟩
 |ref p=>
  cases rx
  have e':(∃xs,SqL X.K H p xs∧n=xs.length)∨∃xs,SqT X.K H p xs∧n=xs.length:=e
  rcases e' with ⟨xs,hx,e'⟩|⟨xs,hx,e'⟩
  ·subst e'
   obtain⟨its,r',pl,hz⟩:=I.list hx
   have hlen:=r'.length
   exact Calls.call_len_list pl.isList (by simp only[List.size_toArray];omega) ⟨.int xs.length,H,I.tok _,⟨_,by simp only[List.size_toArray];rw[hlen]⟩,q⟩
  ·subst e'
   obtain⟨its,r',pl,hz⟩:=I.tuple hx
   have hlen:=r'.length
   exact len_tuple pl (by simp only[List.size_toArray];omega) ⟨.int xs.length,H,I.tok _,⟨_,by simp only[List.size_toArray];rw[hlen]⟩,q⟩
 |_=>exact (show False from e).elim
end
end L2
namespace L2
open PySem PySem.Spec PyProof.Rows
structure ObjM (h:Heap) (x dx C:Addr) (mA:Str→Option Value):Prop where
 obj:h.get? x=some (PySem.W.instObj C dx)
 ns:h.Ns1 dx mA
 ne:dx≠x
theorem ahu {h:Heap} {dx:Addr} {mA:Str→Option Value} (n:h.Ns1 dx mA):∃od,h.get? dx=some od∧∀name,PySem.W.lookIn name od=some (mA name):=by
 obtain⟨o,es,ep,ho,hd,hk,_,hm⟩:=n
 refine⟨o,ho,fun name=>?_⟩
 have e:=hm name
 unfold nsFind findBy at e
 rw[←Array.find?_toList] at e
 unfold PySem.W.lookIn
 rw[hd]
 dsimp only
 split
 ·rename_i y q
  rw[q] at e
  exact congrArg some e
 ·rename_i q
  rw[q] at e
  have a:es.toList.any (·.refKey)=false:=by
   rw[List.any_eq_false]
   intro y hy
   obtain⟨z,t,hkey⟩:=hk y (Array.mem_toList_iff.mp hy)
   simp[DictEntry.refKey,hkey]
  have a':¬es.toList.any (·.refKey)=true:=by rw[a];exact Bool.false_ne_true
  rw[if_neg a']
  exact congrArg some e
theorem ObjM.look {h:Heap} {x dx C:Addr} {mA:Str→Option Value} (I:ObjM h x dx C mA):∃od,PySem.W.InstAt h x (PySem.W.instObj C dx) C (some od)∧∀name,PySem.W.lookIn name od=some (mA name):=
 let ⟨od,ho,hl⟩:=ahu I.ns
 ⟨od,⟨I.obj,rfl,rfl,ho⟩,hl⟩
section
variable {prog:Program} {w:World} {A:Around} {E:Value→Shared→Prop} {s:Shared} {K:PySem.W.Frag} {x dx C f:Addr} {mA:Str→Option Value} {name:Str} {v:Value}
theorem akk {expr:Bool} {Q:Value→Shared→Prop} (X:K.In s.heap) (I:ObjM s.heap x dx C mA) (hg:PySem.W.plainGet K C name=true) (hh:PySem.W.hasDictIn K C=true)
  (ha:PySem.W.findIn K (.ref C) name=some none) (hv:mA name=some v) (hv':PySem.W.handedIn v=true) (h:Q v {s with toks:=s.toks+1}):
  wpAny (model prog w) A (getAttr (.ref x) name expr) Q E s:=by
 obtain⟨od,J,hl⟩:=I.look
 exact PySem.W.get_value X J (PySem.W.plainGet_of hg).1 (PySem.W.findObj_own hh ha rfl (by rw[hl,hv])) hv' h
theorem ajc {pl:Sem Bool} {Q:Value×List Value→Shared→Prop} (X:K.In s.heap) (I:ObjM s.heap x dx C mA) (hg:PySem.W.plainGet K C name=true)
  (hf:PySem.W.findIn K (.ref C) name=some (some (.ref f))) (ht:PySem.W.isFn K (.ref f)=true) (hv:mA name=none) (h:Q (.ref f,[.ref x]) s):
  wpAny (model prog w) A (getMethod (.ref x) name pl) Q E s:=by
 obtain⟨od,J,hl⟩:=I.look
 exact PySem.W.method_fn X J (PySem.W.plainGet_of hg).1 (PySem.W.plainGet_of hg).2 hf (beq_iff_eq.mp ht) (by show (PySem.W.lookIn name od).map (·.isSome)=some false;rw[hl,hv];rfl) h
theorem akl {ns:List Str} {Q:Unit→Shared→Prop} (X:K.In s.heap) (I:ObjM s.heap x dx C mA)
  (hs:PySem.W.findIn K (.ref C) "__setattr__"=some (some (.builtin "object.__setattr__"))) (hp:PySem.W.plainOver K C=true) (ht:PySem.W.takerIn K C name=some none) (hh:PySem.W.hasDictIn K C=true)
  (hw:PySem.Within mA ns) (hsz:ns.length≤sizeLine)
  (h:∀h',ObjM h' x dx C (fun y=>if y=name then some v else mA y)→Heap.SameBut dx s.heap h'→Q () {s with heap:=h',toks:=s.toks+2}):
  wpAny (model prog w) A (setAttr (.ref x) name v) Q E s:=by
 obtain⟨od,J,hl⟩:=I.look
 refine PySem.W.set_plain X J hs (PySem.W.osa_open (s:={s with toks:=s.toks+1}) (r:=none) X J hp ht fun b=>?_)
 obtain⟨cd,hc,hd'⟩:=PySem.W.any_some hh
 have hx:s.heap.get? x=some ⟨.ref C,some dx,.plain, #[]⟩:=I.obj
 refine wpAny_bind (wpAny_pure (wpAny_bind (wpAny_bind (wpAny_loadPart hx (wpAny_bind (PySem.W.Looks.here (s:={s with toks:=s.toks+1}) (PySem.W.looks_clsIn X hc) ?_))))))
 rw[hd']
 refine wpAny_pure (a:=some dx) (wpAny_bind (wpAny_pure (wpAny_bind ?_)))
 refine wpAny_nsSet1 (s:={s with toks:=s.toks+1}) I.ns fun h' hn2 hs2=>?_
 obtain⟨oD,esD,epD,hoD,hdD,hcD⟩:=hn2.count (PySem.Within.cons name v hw)
 refine wpAny_bind (wpAny_lookBehind hoD (by rw[hdD];exact pastItsLine_dict (Nat.le_trans hcD (by rw[List.length_cons];omega))) ?_)
 exact wpAny_pure (h _ ⟨(hs2.2 _ (Ne.symm I.ne)).trans I.obj,hn2,I.ne⟩ hs2)
theorem ajd {R:Result→Shared→Prop} {vs:List Value} {kw:List (Str×Value)} (X:K.In s.heap) (hm:PySem.W.makesIn K C=true)
  (hi:PySem.W.findIn K (.ref C) "__init__"=some (some (.ref f))) (hf:PySem.W.typeIn K (.ref f)=some (.type "function"))
  (h:codeAny (model prog w) (A.under (.builtin "type.__call__" ⟨.ref C::vs,kw⟩)) (.call (.ref f) ⟨.ref (s.heap.objs.size+1)::vs,kw⟩) (PySem.W.InitBack (s.heap.objs.size+1) R)
   {s with heap:=(s.heap.push PySem.W.emptyDict).push (PySem.W.instObj C s.heap.objs.size)}):
  codeAny (model prog w) A (.call (.ref C) ⟨vs,kw⟩) R s:=by
 obtain⟨hh,g,d,t,os⟩:=s
 exact PySem.W.make_core (PySem.W.makes_of X hm) (PySem.W.looks_findIn X hi) (fun self=>PySem.W.bind_fn X self hf) (.inl rfl) h
end
noncomputable def putF (f:Str) (v:V):List (Str×V)→List (Str×V)
 |[]=>[(f,v)]
 |(g,x)::r=>if g=f then (g,v)::r else (g,x)::putF f v r
theorem acy (f g:Str) (v:V):∀fs:List (Str×V),(putF f v fs).lookup g=if g=f then some v else fs.lookup g
 |[]=>by
  show List.lookup g [(f,v)]=_
  by_cases h:g=f
  ·have hb:(g == f)=true:=beq_iff_eq.mpr h
   simp only[List.lookup,hb,if_pos h]
  ·have hb:(g == f)=false:=beq_eq_false_iff_ne.mpr h
   simp only[List.lookup,hb,if_neg h]
 |(k,x)::r=>by
  have ih:=acy f g v r
  rw[show putF f v ((k,x)::r)=(if k=f then (k,v)::r else (k,x)::putF f v r) from rfl]
  by_cases hk:k=f
  ·rw[if_pos hk]
   by_cases h:g=k
   ·have hb:(g == k)=true:=beq_iff_eq.mpr h
    simp only[List.lookup,hb,if_pos (h.trans hk)]
   ·have hb:(g == k)=false:=beq_eq_false_iff_ne.mpr h
    simp only[List.lookup,hb,if_neg (fun e:g=f=>h (e.trans hk.symm))]
  ·rw[if_neg hk]
   by_cases h:g=k
   ·have hb:(g == k)=true:=beq_iff_eq.mpr h
    simp only[List.lookup,hb,if_neg (fun e:g=f=>hk (h.symm.trans e))]
   ·have hb:(g == k)=false:=beq_eq_false_iff_ne.mpr h
    simp only[List.lookup,hb]
    exact ih
theorem ad2 (f:Str) (v:V):∀fs:List (Str×V),f∈(putF f v fs).map (·.1)∧∀g,g∈fs.map (·.1)→g∈(putF f v fs).map (·.1)
 |[]=>⟨by simp[putF],fun g h=>by simp at h⟩
 |(k,x)::r=>by
  obtain⟨i1,i2⟩:=ad2 f v r
  rw[show putF f v ((k,x)::r)=(if k=f then (k,v)::r else (k,x)::putF f v r) from rfl]
  by_cases hk:k=f
  ·rw[if_pos hk]
   subst hk
   exact⟨by simp,fun g h=>by simpa using h⟩
  ·rw[if_neg hk]
   refine⟨?_,fun g h=>?_⟩
   ·rw[List.map_cons]
    exact List.mem_cons_of_mem _ i1
   ·rw[List.map_cons] at h ⊢
    rcases List.mem_cons.mp h with e|e
    ·exact List.mem_cons.mpr (.inl e)
    ·exact List.mem_cons_of_mem _ (i2 g e)
theorem ad3 (f:Str) (v:V):∀fs:List (Str×V),(putF f v fs).length≤fs.length+1
 |[]=>by simp[putF]
 |(k,x)::r=>by
  have ih:=ad3 f v r
  rw[show putF f v ((k,x)::r)=(if k=f then (k,v)::r else (k,x)::putF f v r) from rfl]
  by_cases hk:k=f
  ·rw[if_pos hk,List.length_cons,List.length_cons];omega
  ·rw[if_neg hk,List.length_cons,List.length_cons];omega
theorem RelO.some_of {v:V} {o:Option Value} (r:RelO (some v) o):∃u,o=some u∧RelV v u:=by
 cases o with
 |none=>exact (show False from r).elim
 |some u=>exact⟨u,rfl,r⟩
theorem RelO.none_of {o:Option Value} (r:RelO none o):o=none:=by
 cases o with
 |none=>rfl
 |some u=>exact (show False from r).elim
theorem ahv {v:V} {u:Value} (r:RelV v u):PySem.W.handedIn u=true:=by
 cases v with
 |non=>cases (show u=Value.none from r);rfl
 |bl b=>cases (show u=Value.bool b from r);rfl
 |int i=>obtain⟨t,e⟩:=(show ∃t,u=Value.int i t from r);cases e;rfl
 |str x=>obtain⟨t,e⟩:=(show ∃t,u=Value.str x t from r);cases e;rfl
 |byt b=>obtain⟨t,e⟩:=(show ∃t,u=Value.bytes b t from r);cases e;rfl
 |flt b=>obtain⟨t,e⟩:=(show ∃t,u=Value.float b t from r);cases e;rfl
 |ref a=>cases (show u=Value.ref a from r);rfl
 |ty n=>cases (show u=Value.type n from r);rfl
section
variable {P:Program} {w:World} {H H':Hp} {h h':Heap} {a C dx:Addr} {fs fs':List (Str×V)}
theorem aep (hok:HOk P w H h) (e:H a=some (.ins C dx fs)):∃mA,ObjM h a dx C mA∧(∀f,RelO (fs.lookup f) (mA f))∧PySem.Within mA (fs.map (·.1))∧fs.length≤1000∧H dx=some (.own a):=by
 obtain⟨d,z,ne,ob,mA,n,r,q⟩:=(show ObjOk P w H h a (.ins C dx fs) from hok a _ e)
 exact⟨mA,⟨ob,n,ne⟩,r,q,z,d⟩
end
structure Cls (K:PySem.W.Frag) (C:Addr):Prop where
 pg:PySem.W.plainGet K C Str.empty=true
 hd:PySem.W.hasDictIn K C=true
 po:PySem.W.plainOver K C=true
 sa:PySem.W.findIn K (.ref C) "__setattr__"=some (some (.builtin "object.__setattr__"))
theorem Cls.get {K:PySem.W.Frag} {C:Addr} (c:Cls K C) (f:Str):PySem.W.plainGet K C f=true:=c.pg
noncomputable def NoAttr (K:PySem.W.Frag) (C:Addr) (f:Str):Prop:=PySem.W.findIn K (.ref C) f=some none
theorem NoAttr.taker {K:PySem.W.Frag} {C:Addr} {f:Str} (n:NoAttr K C f):PySem.W.takerIn K C f=some none:=by
 unfold PySem.W.takerIn
 rw[show PySem.W.findIn K (.ref C) f=some none from n]
 rfl
structure Meth (K:PySem.W.Frag) (C:Addr) (m:Str) (f:Addr):Prop where
 at_:PySem.W.findIn K (.ref C) m=some (some (.ref f))
 fn:PySem.W.isFn K (.ref f)=true
 kp:PySem.W.keepIn K (.ref f)=true
section
variable {X:Cx} {pins:List (Addr×Obj)} {σ:St} {H:Hp} {s:Shared} {a C dx:Addr} {fs:List (Str×V)} {f:Str} {v:V} {A:Around} {E:Value→Shared→Prop}
theorem ag4 {b:Bool} {Q:Value→Shared→Prop} (I:Inv X pins σ H s) (e:H a=some (.ins C dx fs)) (c:Cls X.K C) (n:NoAttr X.K C f) (l:fs.lookup f=some v)
  (h:∀u s',Inv X pins σ H s'→RelV v u→Q u s'):wpAny (model X.prog X.w) A (getAttr (.ref a) f b) Q E s:=by
 obtain⟨mA,O,r,_,_,_⟩:=aep I.hok e
 obtain⟨u,hu,ru⟩:=RelO.some_of (v:=v) (o:=mA f) (by rw[←l];exact r f)
 exact akk I.kIn O (c.get f) c.hd n hu (ahv ru) (h u _ (I.tok _) ru)
theorem aef {m:Str} {g:Addr} {pl:Sem Bool} {Q:Value×List Value→Shared→Prop} (I:Inv X pins σ H s) (e:H a=some (.ins C dx fs)) (c:Cls X.K C) (k:Meth X.K C m g) (l:fs.lookup m=none)
  (h:Q (.ref g,[.ref a]) s):wpAny (model X.prog X.w) A (getMethod (.ref a) m pl) Q E s:=by
 obtain⟨mA,O,r,_,_,_⟩:=aep I.hok e
 have hn:mA m=none:=RelO.none_of (by rw[←l];exact r m)
 exact ajc I.kIn O (c.get m) k.at_ k.fn hn h
theorem ag5 {y:V} {u:Value} {Q:Unit→Shared→Prop} (I:Inv X pins σ H s) (e:H a=some (.ins C dx fs)) (c:Cls X.K C) (n:NoAttr X.K C f) (hl:fs.length < 1000) (ry:RelV y u)
  (h:∀s',Inv X pins σ (upd H a (.ins C dx (putF f y fs))) s'→Q () s'):wpAny (model X.prog X.w) A (setAttr (.ref a) f u) Q E s:=by
 obtain⟨mA,O,r,wi,_,ho⟩:=aep I.hok e
 have hz:(fs.map (·.1)).length≤sizeLine:=by rw[List.length_map,sizeLine_eq];omega
 refine akl I.kIn O c.sa c.po n.taker c.hd wi hz fun h' O' sb=>h _ ?_
 have hd:∃o,h'.get? dx=some o:=let ⟨o,_,_,e',_⟩:=O'.ns;⟨o,e'⟩
 refine I.write (x:=a) (e:=dx) (by rw[e];exact True.intro) (.inr ho) (fun b q hb z=>(sb.2 b hb).trans z) hd ?_
 refine⟨by rw[aaw O.ne];exact ho,?_,O.ne,O'.obj,_,O'.ns,fun g=>?_,fun g hg=>?_⟩
 ·have:=ad3 f y fs;omega
 ·show RelO ((putF f y fs).lookup g) (if g=f then some u else mA g)
  rw[acy]
  by_cases q:g=f
  ·rw[if_pos q,if_pos q];exact ry
  ·rw[if_neg q,if_neg q];exact r g
 ·by_cases q:g=f
  ·rw[q];exact (ad2 f y fs).1
  ·refine (ad2 f y fs).2 g (wi g fun z=>hg ?_)
   show (if g=f then some u else mA g)=none
   rw[if_neg q];exact z
theorem Inv.made (I:Inv X pins σ H s):Inv X pins σ (upd (upd H s.heap.objs.size (.own (s.heap.objs.size+1))) (s.heap.objs.size+1) (.ins C s.heap.objs.size []))
  {s with heap:=(s.heap.push PySem.W.emptyDict).push (PySem.W.instObj C s.heap.objs.size)}:=by
 have e1:(s.heap.push PySem.W.emptyDict).get? s.heap.objs.size=some PySem.W.emptyDict:=Heap.get?_push_size s.heap rfl
 have e2:((s.heap.push PySem.W.emptyDict).push (PySem.W.instObj C s.heap.objs.size)).get? (s.heap.objs.size+1)=some (PySem.W.instObj C s.heap.objs.size):=by
  have:=Heap.get?_push_size (s.heap.push PySem.W.emptyDict) (o:=PySem.W.instObj C s.heap.objs.size) rfl
  rwa[Heap.size_push] at this
 have e3:(s.heap.push PySem.W.emptyDict).Ns s.heap.objs.size (fun _=>none):=⟨PySem.W.emptyDict, #[],_,e1,rfl,(fun e he=>absurd he (by simp)),fun _=>rfl⟩
 have I1:=I.laid (a:=s.heap.objs.size) (o:=.own (s.heap.objs.size+1)) (h':=s.heap.push PySem.W.emptyDict) (t':=s.toks) (fun b u q=>Heap.get?_push_of_some _ q) (Nat.le_refl _) ⟨_,e1⟩
 refine I1.laid (a:=s.heap.objs.size+1) (o:=.ins C s.heap.objs.size []) (t':=s.toks) (fun b u q=>Heap.get?_push_of_some _ q) (Nat.le_of_eq (Heap.size_push _ _)) ?_
 have ne:s.heap.objs.size≠s.heap.objs.size+1:=Nat.ne_of_lt (Nat.lt_succ_self _)
 refine⟨by rw[aaw ne,aaf],Nat.zero_le _,ne,e2,fun _=>none,(Heap.Ns1.of_empty e3).at fun o q=>Heap.get?_push_of_some _ q,fun _=>True.intro,fun y hy=>absurd rfl hy⟩
theorem akm {prog:Program} {w:World} {env:Env} {e:Expr} {f:Str} {pos:Pos} {s:Shared} {Q:Value→Shared→Prop} (hb:attributeBase e f env (eval e env)=eval e env)
  (h:wpAny (model prog w) A (eval e env) (fun o s₁=>wpAny (model prog w) A (getAttr o f true) Q E s₁) E s):wpAny (model prog w) A (eval (.Attribute e f pos) env) Q E s:=
 Attribute_any_ h (by rw[arm_eval_Attribute,hb])
end
noncomputable def tFld (K:PySem.W.Frag) (ta:TE) (f:Str):TE:=fun σ H Q=>ta σ H fun x H1=>∃a C dx fs v,x=.ref a∧H1 a=some (.ins C dx fs)∧Cls K C∧NoAttr K C f∧fs.lookup f=some v∧Q v H1
noncomputable def sFld (K:PySem.W.Frag) (ta tv:TE) (f:Str):TS:=fun D σ H=>tv σ H fun y H1=>ta σ H1 fun x H2=>∃a C dx fs,x=.ref a∧H2 a=some (.ins C dx fs)∧Cls K C∧NoAttr K C f∧fs.length < 1000∧
 D.nx σ (upd H2 a (.ins C dx (putF f y fs)))
section
variable {X:Cx} {o e value:Expr} {f:Str} {pos pos' tpos:Pos} {ta tv:TE}
theorem ad4 (he:PE X e ta) (hb:attributeBase e f X.env (eval e X.env)=eval e X.env):PE X (.Attribute e f pos) (tFld X.K ta f):=by
 intro pins s σ H Q I h
 refine akm hb (thn (he pins s σ H _ I h) fun u s1 ⟨x,H1,I1,rx,a,C,dx,fs,v,ex,ea,c,n,l,q⟩=>?_)
 subst ex
 obtain rfl:u=Value.ref a:=rx
 exact ag4 I1 ea c n l fun u' s2 I2 ru=>⟨v,H1,I2,ru,q⟩
theorem aj3 (ha:PE X o ta) (hv:PE X value tv) (hs:swapsWith value (some (.Attribute o f pos')) pos.line X.env=pure false):PS X (.Assign [.Attribute o f pos'] value pos) (sFld X.K ta tv f):=by
 intro pins s σ H D I h
 refine plainObj_wpAny_Assign_Attribute (thn (hv pins s σ H _ I h) fun u s1 ⟨y,H1,I1,ry,q⟩=>thn (ha pins s1 σ H1 _ I1 q) fun ov s2 ⟨x,H2,I2,rx,a,C,dx,fs,ex,ea,c,n,l,q2⟩=>?_) hs
 subst ex
 obtain rfl:ov=Value.ref a:=rx
 exact ag5 I2 ea c n l ry fun s3 I3=>⟨σ,_,I3,q2⟩
end
section
variable {X:Cx} {pins:List (Addr×Obj)} {σ:St} {H:Hp} {s:Shared} {A:Around} {E:Value→Shared→Prop} {Q:Value→Shared→Prop} {c:Value} {b:Bool}
inductive TyOf (K:PySem.W.Frag) (H:Hp):V→Value→Prop where
 |non:TyOf K H .non (.type "NoneType")
 |bl (x:Bool):TyOf K H (.bl x) (.type "bool")
 |int (i:Int):TyOf K H (.int i) (.type "int")
 |str (x:Str):TyOf K H (.str x) (.type "str")
 |flt (x:UInt64):TyOf K H (.flt x) (.type "float")
 |lst {a:Addr} {xs:List V} (e:H a=some (.lst xs)):TyOf K H (.ref a) (.type "list")
 |frz {a:Addr} {o:Obj} {xs:List V} (e:H a=some (.frz o (.lst xs))):TyOf K H (.ref a) (.type "list")
 |tup {a:Addr} {xs:List V} (e:H a=some (.tup xs)):TyOf K H (.ref a) (.type "tuple")
 |dK {a:Addr} {kvs:List (Key×V)} (e:H a=some (.dK kvs)):TyOf K H (.ref a) (.type "dict")
 |dT {a:Addr} {kvs:List (List Key×V)} (e:H a=some (.dT kvs)):TyOf K H (.ref a) (.type "dict")
 |ins {a C dx:Addr} {fs:List (Str×V)} (e:H a=some (.ins C dx fs)) (cl:Cls K C) (ha:PySem.W.findIn K (.ref C) "__class__"=some (some (.builtin "object.__class__")))
  (hn:PySem.W.specialIn K (.builtin "object.__class__") "__get__"=some (some (.builtin "getset_descriptor.__get__"))) (htk:PySem.W.takesIn K (.builtin "object.__class__")=some true)
  (hm:PySem.W.mroIn K C (.type "object")=some true):TyOf K H (.ref a) (.ref C)
theorem ahw {x:V} {u t:Value} (I:Inv X pins σ H s) (rx:RelV x u) (ty:TyOf X.K H x t) (e:PySem.W.kitOne X.K t c=some b) (h:∀tk,Q (.bool b) {s with toks:=tk}):
  wpAny (model X.prog X.w) A (call (.builtin "isinstance") [u,c]) Q E s:=by
 cases ty with
 |non=>cases (show u=Value.none from rx);exact PySem.W.kia_one PySem.W.kitx_none I.kIn True.intro e (fun z=>nomatch z) h
 |bl y=>cases (show u=Value.bool y from rx);exact PySem.W.kia_one PySem.W.kitx_bool I.kIn True.intro e (fun z=>nomatch z) h
 |int i=>obtain⟨t,q⟩:=(show ∃t,u=Value.int i t from rx);cases q;exact PySem.W.kia_one PySem.W.kitx_int I.kIn True.intro e (fun z=>nomatch z) h
 |str y=>obtain⟨t,q⟩:=(show ∃t,u=Value.str y t from rx);cases q;exact PySem.W.kia_one PySem.W.kitx_str I.kIn True.intro e (fun z=>nomatch z) h
 |flt y=>obtain⟨t,q⟩:=(show ∃t,u=Value.float y t from rx);cases q;exact PySem.W.kia_one PySem.W.kitx_float I.kIn True.intro e (fun z=>nomatch z) h
 |@lst a xs ea=>
  cases (show u=Value.ref a from rx)
  obtain⟨_,_,n,_,h1⟩:=(show ObjOk X.prog X.w H s.heap a (.lst xs) from I.hok a _ ea)
  exact PySem.W.kia_one PySem.W.kitx_list I.kIn ⟨_,h1,rfl⟩ e (fun z=>nomatch z) h
 |@frz a ob xs ea=>
  cases (show u=Value.ref a from rx)
  obtain⟨_,_,_,n,_,h1⟩:=(show ObjOk X.prog X.w H s.heap a (.frz ob (.lst xs)) from I.hok a _ ea)
  exact PySem.W.kia_one PySem.W.kitx_list I.kIn ⟨_,h1,rfl⟩ e (fun z=>nomatch z) h
 |@tup a xs ea=>
  cases (show u=Value.ref a from rx)
  obtain⟨_,_,_,p⟩:=(show ObjOk X.prog X.w H s.heap a (.tup xs) from I.hok a _ ea)
  obtain⟨o,h1,h2,_⟩:=p
  exact PySem.W.kia_one PySem.W.kitx_tuple I.kIn ⟨o,h1,h2⟩ e (fun z=>nomatch z) h
 |@dK a kvs ea=>
  cases (show u=Value.ref a from rx)
  obtain⟨_,_,vs,_,p⟩:=(show ObjOk X.prog X.w H s.heap a (.dK kvs) from I.hok a _ ea)
  obtain⟨o,es,ep,h1,h2,_⟩:=p
  exact PySem.W.kia_one PySem.W.kitx_dict I.kIn ⟨o,h1,h2.1⟩ e (fun z=>nomatch z) h
 |@dT a kvs ea=>
  cases (show u=Value.ref a from rx)
  obtain⟨_,_,xs,_,o,es,ep,h1,h2,_⟩:=(show ObjOk X.prog X.w H s.heap a (.dT kvs) from I.hok a _ ea)
  exact PySem.W.kia_one PySem.W.kitx_dict I.kIn ⟨o,h1,h2.1⟩ e (fun z=>nomatch z) h
 |@ins a C dx fs ea cl ha hn htk hm=>
  cases (show u=Value.ref a from rx)
  obtain⟨mA,O,_⟩:=aep I.hok ea
  obtain⟨od,J,_⟩:=O.look
  exact PySem.W.kia_one (PySem.W.kitx_own (cl.get _) cl.hd ha hn htk hm) I.kIn J e (fun z=>nomatch z) h
end
end L2
namespace L2
open PySem PySem.Spec PyProof.Rows
structure Room (k:Nat) (A:Around):Prop where
 hd:A.handled=none
 dp:A.depth+3 * k+5 < recursionLimit
 un:A.units+16 * k+200 < cLine
theorem Room.mono {j k:Nat} {A:Around} (r:Room k A) (h:j≤k):Room j A:=⟨r.hd,by have:=r.dp;omega,by have:=r.un;omega⟩
theorem Room.deeper {k:Nat} {A:Around} (r:Room (k+1) A) (env:Env):Room k (A.deeper env):=
 ⟨r.hd,by have:=r.dp;show A.depth+1+3 * k+5 < _;omega,by have:=r.un;show A.units+3+16 * k+200 < _;omega⟩
theorem ag6 {A:Around} {C:Addr} {us:List Value} {kw:List (Str×Value)}:(A.under (.builtin "type.__call__" ⟨.ref C::us,kw⟩)).depth=A.depth+1:=by
 first|rfl|simp[Around.under,Code.weight,Code.isCreation,Code.isGuard,Code.isCaller,Code.frames,Code.isFrame,guardIds]
theorem ag7 {A:Around} {C:Addr} {us:List Value} {kw:List (Str×Value)}:(A.under (.builtin "type.__call__" ⟨.ref C::us,kw⟩)).units=A.units+1:=by
 first|rfl|simp[Around.under,Code.cUnits,Code.frames,Code.isFrame]
theorem Room.make {k:Nat} {A:Around} (r:Room (k+1) A) (C:Addr) (us:List Value) (kw:List (Str×Value)):Room k (A.under (.builtin "type.__call__" ⟨.ref C::us,kw⟩)):=
 ⟨r.hd,by have:=r.dp;rw[ag6];omega,by have:=r.un;rw[ag7];omega⟩
theorem Room.depth {k:Nat} {A:Around} (r:Room k A):A.depth < recursionLimit:=by have:=r.dp;omega
theorem Room.units {k:Nat} {A:Around} (r:Room k A):A.units+64 < cLine:=by have:=r.un;omega
noncomputable def tNil:TA:=fun _ H Q=>Q [] H
noncomputable def tCons (ta:TE) (tr:TA):TA:=fun σ H Q=>ta σ H fun x H1=>tr σ H1 fun xs H2=>Q (x::xs) H2
section
variable {X:Cx} {e:Expr} {es:List Expr} {te:TE} {t:TA} {pos:Pos}
theorem aac:PA X [] tNil:=fun _ _ _ _ H Q I h=>Calls.spliced_nil ⟨[],H,I,.nil,h⟩
theorem aaa (ha:PE X e te) (hr:PA X es t) (hs:starEach (e::es) X.env=(false,eval e X.env)::starEach es X.env:=by rfl):PA X (e::es) (tCons te t):=by
 intro pos pins s σ H Q I h
 rw[hs]
 show wpAny _ _ (spliced ((false,eval e X.env)::backTo pos (starEach es X.env))) _ _ s
 refine Calls.spliced_cons (thn (ha pins s σ H _ I h) fun u s1 ⟨x,H1,I1,r1,q1⟩=>?_)
 exact thn (hr pos pins s1 σ H1 _ I1 q1) fun us s2 ⟨xs,H2,I2,r2,q2⟩=>⟨x::xs,H2,I2,.cons r1 r2,q2⟩
noncomputable def tTup (t:TA):TE:=fun σ H Q=>t σ H fun xs H1=>xs.length≤sizeLine∧∀p,H1 p=none→Q (.ref p) (upd H1 p (.tup xs))
noncomputable def tLst (t:TA):TE:=fun σ H Q=>t σ H fun xs H1=>xs.length≤sizeLine∧∀p,H1 p=none→Q (.ref p) (upd H1 p (.lst xs))
theorem abz {x1} (h:PA X es t):PE X (.Tuple es x1 pos) (tTup t):=by
 intro pins s σ H Q I hq
 refine wpAny_Tuple_spliced (thn (h pos pins s σ H _ I hq) fun us s1 ⟨xs,H1,I1,r,z,q⟩=>⟨by rw[←r.length];exact z,?_⟩)
 have hf:H1 s1.heap.objs.size=none:=I1.hok.fresh (Nat.le_refl _)
 refine⟨.ref s1.heap.objs.size,upd H1 s1.heap.objs.size (.tup xs),I1.laid (t':=s1.toks) (fun b u e=>Heap.get?_push_of_some _ e) (Nat.le_refl _) ?_,rfl,q _ hf⟩
 exact⟨z,us,r,⟨_,Heap.get?_push_size _ rfl,rfl,_,rfl⟩⟩
theorem abx (h:PA X es t):PE X (.List es pos) (tLst t):=by
 intro pins s σ H Q I hq
 refine wpAny_List_spliced (thn (h pos pins s σ H _ I hq) fun us s1 ⟨xs,H1,I1,r,z,q⟩=>⟨by rw[←r.length];exact z,?_⟩)
 have hf:H1 s1.heap.objs.size=none:=I1.hok.fresh (Nat.le_refl _)
 refine⟨.ref s1.heap.objs.size,upd H1 s1.heap.objs.size (.lst xs),I1.laid (t':=s1.toks) (fun b u e=>Heap.get?_push_of_some _ e) (Nat.le_refl _) ?_,rfl,q _ hf⟩
 exact⟨z,us,0,r,Heap.get?_push_size _ rfl⟩
end
noncomputable abbrev Sp:=List V→Hp→VK→XK→Prop
noncomputable abbrev CXT:=List Env→Hp→Shared→XK→Value→Shared→Prop
structure Env0 (P:Program) (w:World) (K:PySem.W.Frag) (mg:Str→Option Value) (base:Heap) (A:Around) (outer:List Env) (s:Shared) (H:Hp):Prop where
 frames:A.frames=some outer
 mod:Mod K mg base
 bs:∀b o,base.get? b=some o→s.heap.get? b=some o∧H b=none
 bsz:base.objs.size≤s.heap.objs.size
 funs:s.heap.FunFrames base outer
 frf:∀b∈frs outer,H b=none
 hok:HOk P w H s.heap
 bare:AllBare s.gens
noncomputable def CE (outer:List Env) (P:Program) (w:World) (H:Hp) (s:Shared) (Q:VK) (u:Value) (s':Shared):Prop:=
 ∃v H',s'.os=s.os∧AllBare s'.gens∧Un (frs outer) [] H H' s.heap s'.heap∧HOk P w H' s'.heap∧RelV v u∧Q v H'
noncomputable def CR (CX:CXT) (outer:List Env) (P:Program) (w:World) (H:Hp) (s:Shared) (Q:VK) (E:XK) (r:Result) (s':Shared):Prop:=
 match r with
 |.ok (.ret u)=>CE outer P w H s Q u s'
 |.ok _=>False
 |.error e=>CX outer H s E e s'
structure FnOk (P:Program) (w:World) (K:PySem.W.Frag) (mg:Str→Option Value) (base:Heap) (CX:CXT) (k:Nat) (f:Addr) (fd:FuncData) (ps:List Str) (sp:Sp):Prop where
 len:∀vs H Q E,sp vs H Q E→vs.length=ps.length
 run:∀(A:Around) (outer:List Env) (s:Shared) (H:Hp) (args:Args) (us:List Value) (vs:List V) (Q:VK) (E:XK),Room k A→Env0 P w K mg base A outer s H→BindsTo s fd args (ps.zip us)→Vals vs us→sp vs H Q E→
  codeAny (model P w) A (.call (.ref f) args) (CR CX outer P w H s Q E) s
theorem Env0.make {P:Program} {w:World} {K:PySem.W.Frag} {mg:Str→Option Value} {base:Heap} {A:Around} {outer:List Env} {s:Shared} {H:Hp} (e:Env0 P w K mg base A outer s H) (C:Addr) (us:List Value) (kw:List (Str×Value)):
 Env0 P w K mg base (A.under (.builtin "type.__call__" ⟨.ref C::us,kw⟩)) outer s H:=⟨by first|exact e.frames|(simpa[Around.under,Code.envs,Code.isFrame,pushEnvs] using e.frames),e.mod,e.bs,e.bsz,e.funs,e.frf,e.hok,e.bare⟩
section
variable {X:Cx} {pins:List (Addr×Obj)} {σ:St} {H:Hp} {s s':Shared}
theorem Inv.env0 (I:Inv X pins σ H s):Env0 X.prog X.w X.K X.mg X.base X.A X.stack s H:=
 ⟨I.ok.frames,I.ok.mod,I.bs,Nat.le_trans I.ok.bsz I.sz,I.stack,I.stkFree,I.hok,I.bare⟩
theorem Inv.after {Q:VK} {u:Value} (I:Inv X pins σ H s) (h:CE X.stack X.prog X.w H s Q u s'):EP X pins σ Q u s':=by
 obtain⟨v,H',os,bare,un,hok,r,q⟩:=h
 obtain⟨hh,g,d,t,os'⟩:=s'
 obtain rfl:os'=s.os:=os
 exact⟨v,H',I.call (h':=hh) (g':=g) (d':=d) (t':=t) (ch:=[]) un hok bare (fun b z=>absurd z (by simp)),r,q⟩
end
noncomputable def Binds (K:PySem.W.Frag) (fd:FuncData) (ps:List Str) (ds:List Value):Prop:=
 ∀(s:Shared) (us:List Value),K.In s.heap→(us++ds).length=ps.length→BindsTo s fd ⟨us,[]⟩ (ps.zip (us++ds))
theorem Binds.all {K:PySem.W.Frag} {fd:FuncData} {ps:List Str} (h:∀us:List Value,us.length=ps.length→bindArgs fd ⟨us,[]⟩=pure (ps.zip us)):Binds K fd ps []:=fun s us _ hl=>by
 rw[List.append_nil] at hl ⊢
 exact .of_eq (h us hl)
section
variable {X:Cx} {CX:CXT} {k:Nat} {f C:Addr} {fd:FuncData} {ps:List Str} {sp:Sp} {dvs:List V} {ds:List Value} {E:XK} {x m:Str} {p pos apos:Pos} {e o:Expr} {es:List Expr} {ta:TE} {t:TA}
structure Mk (K:PySem.W.Frag) (C f:Addr):Prop where
 makes:PySem.W.makesIn K C=true
 init:PySem.W.findIn K (.ref C) "__init__"=some (some (.ref f))
 fn:PySem.W.isFn K (.ref f)=true
 kp:PySem.W.keepIn K (.ref C)=true
end
section
variable {X:Cx} {CX:CXT} {k:Nat} {f C:Addr} {fd:FuncData} {ps ks:List Str} {sp:Sp} {E:XK} {x m:Str} {p pos apos kpos:Pos} {e o:Expr} {es:List Expr} {kws:List Keyword} {te ta:TE} {t tk:TA} {nm:Option Str}
variable {g:List Value→List Value→List Value} {gV:List V→List V→List V}
end
structure FnScope (N P:List Str) (sc:Scope):Prop where
 kind:sc.kind=.function
 co:sc.isCoroutine=false
 gen:sc.isGenerator=false
 nd:N.Nodup
 pre:N.take P.length=P
 par:∀x∈P,sc.names.lookup x=some .local∨sc.names.lookup x=some .cell
 nofree:∀y∈sc.names,y.2≠.free
theorem afd {kindOf:Str→Option NameKind} {x:Str}:∀{binds:List (Str×Value)} {m:Str→Option Value},(∀v,(x,v)∉binds)→bindL kindOf binds m x=m x
 |[],_,_=>rfl
 |(n,v)::r,m,h=>by
  unfold bindL
  rw[afd fun w hw=>h w (List.mem_cons_of_mem _ hw)]
  split
  ·have:x≠n:=by rintro rfl;exact h v List.mem_cons_self
   simp[this]
  ·rfl
theorem afe {kindOf:Str→Option NameKind} {x:Str}:∀{binds:List (Str×Value)} {m:Str→Option Value},(∀v,(x,v)∉binds)→bindC kindOf binds m x=m x
 |[],_,_=>rfl
 |(n,v)::r,m,h=>by
  unfold bindC
  rw[afe fun w hw=>h w (List.mem_cons_of_mem _ hw)]
  split
  ·rfl
  ·have:x≠n:=by rintro rfl;exact h v List.mem_cons_self
   simp[this]
theorem aff {kindOf:Str→Option NameKind} {x:Str} {v:Value}:∀{P:List Str} {vs:List Value} {i:Nat} {m:Str→Option Value},P.Nodup→P[i]?=some x→vs[i]?=some v→kindOf x=some .local→
  bindL kindOf (P.zip vs) m x=some v
 |[],_,_,_,_,h,_,_=>by simp at h
 |_::_,[],_,_,_,_,h,_=>by simp at h
 |p::P,w::vs,0,m,nd,h1,h2,hk=>by
  simp at h1 h2;subst h1;subst h2
  show bindL kindOf ((p,w)::P.zip vs) m p=_
  unfold bindL
  rw[afd fun v hv=>(List.nodup_cons.mp nd).1 (List.of_mem_zip hv).1,if_pos hk]
  simp
 |p::P,w::vs,i+1,m,nd,h1,h2,hk=>by
  show bindL kindOf ((p,w)::P.zip vs) m x=_
  unfold bindL
  exact aff (i:=i) (List.nodup_cons.mp nd).2 (by simpa using h1) (by simpa using h2) hk
theorem afg {kindOf:Str→Option NameKind} {x:Str} {v:Value}:∀{P:List Str} {vs:List Value} {i:Nat} {m:Str→Option Value},P.Nodup→P[i]?=some x→vs[i]?=some v→kindOf x≠some .local→
  bindC kindOf (P.zip vs) m x=some v
 |[],_,_,_,_,h,_,_=>by simp at h
 |_::_,[],_,_,_,_,h,_=>by simp at h
 |p::P,w::vs,0,m,nd,h1,h2,hk=>by
  simp at h1 h2;subst h1;subst h2
  show bindC kindOf ((p,w)::P.zip vs) m p=_
  unfold bindC
  rw[afe fun v hv=>(List.nodup_cons.mp nd).1 (List.of_mem_zip hv).1,if_neg hk]
  simp
 |p::P,w::vs,i+1,m,nd,h1,h2,hk=>by
  show bindC kindOf ((p,w)::P.zip vs) m x=_
  unfold bindC
  exact afg (i:=i) (List.nodup_cons.mp nd).2 (by simpa using h1) (by simpa using h2) hk
noncomputable def start (N:List Str) (vs:List V):St:=vs.map some++List.replicate (N.length - vs.length) none
noncomputable def cxOf (CX:CXT) (P:Program) (w:World) (K:PySem.W.Frag) (mg:Str→Option Value) (base:Heap) (N:List Str) (qual:Str) (scope:Scope) (f:Addr) (cd:Value) (A:Around) (outer:List Env) (s:Shared) (H:Hp) (E:XK):Cx where
 prog:=P
 w:=w
 K:=K
 mg:=mg
 base:=base
 A:=A.deeper (envOfC qual scope s.heap.objs.size f cd)
 N:=N
 s₀:=s
 H₀:=H
 env:=envOfC qual scope s.heap.objs.size f cd
 outer:=outer
 stack:=envOfC qual scope s.heap.objs.size f cd::outer
 ex:=[]
 calm:=true
 fn:=fun _=>true
 pn:=[]
 xe:=fun e s'=>wpAny (model P w) (A.deeper (envOfC qual scope s.heap.objs.size f cd)) (leaving (envOfC qual scope s.heap.objs.size f cd) e) (fun _ s''=>CX outer H s E e s'') (fun e' s''=>CX outer H s E e' s'') s'
theorem agh {sc:Scope} {n:Nat} {x:Str} (h:sc.names.lookup x=some .cell):∃c,(cellsFrom n sc.names []).lookup x=some c:=by
 have q:=PySem.W.cellsFrom_some sc.names n [] (.inl h)
 exact Option.isSome_iff_exists.mp q
theorem ahx {CX:CXT} {P:Program} {w:World} {K:PySem.W.Frag} {mg:Str→Option Value} {base:Heap} {N ps:List Str} {qual:Str} {scope:Scope} {f:Addr} {cd:Value} {A:Around} {outer:List Env} {s s1:Shared} {H:Hp} {E:XK} {us:List Value} {vs:List V}
  (S:FnScope N ps scope) (hd:A.handled=none) (e0:Env0 P w K mg base A outer s H) (hl:vs.length=ps.length) (r:Vals vs us)
  (x:InCallC s s.heap.objs.size (bindL (envOfC qual scope s.heap.objs.size f cd).kindOf (ps.zip us) fun _=>none) (cellsFrom (s.heap.objs.size+1) scope.names []) (bindC (envOfC qual scope s.heap.objs.size f cd).kindOf (ps.zip us) fun _=>none) s1):
  Inv (cxOf CX P w K mg base N qual scope f cd A outer s H E) [] (start N vs) H s1:=by
 have hpl:ps.length≤N.length:=by have:=congrArg List.length S.pre;rw[List.length_take] at this;omega
 obtain⟨h1,tk,rfl,hk⟩:=x.done
 have noA:∀b:Addr,b∉(cxOf CX P w K mg base N qual scope f cd A outer s H E).ex:=fun b z=>absurd (show b∈([]:List Addr) from z) (by simp)
 refine⟨⟨e0.mod,S.kind,rfl,rfl,Nat.le_refl _,fun y z c h1 h2=>?_,fun y hy=>?_,fun y c _ h=>?_,fun _=>hd,Around.frames_deeper e0.frames,.inr ⟨rfl,rfl⟩,fun b z=>absurd z (noA b),e0.bs,e0.bsz,fun b _ _=>noA b,fun b z=>absurd z (noA b),e0.funs,e0.frf⟩,
  rfl,e0.bare,Un.kept hk,⟨_,x.toInCall.ns,fun i y v h1 h2 h3=>?_⟩,fun y c h=>⟨_,x.cell y c h⟩,e0.hok.fresh (Nat.le_refl _),fun y c h=>?_,fun p hp=>absurd (show p∈([]:List (Addr×Obj)) from hp) (by simp),e0.hok.kept hk,?_⟩
 ·exact name_of_addr x.apart (PySem.mem_of_lookup h1) (PySem.mem_of_lookup h2)
 ·have hy:scope.names.lookup y=some .cell∨scope.names.lookup y=some .free:=hy
  rcases hy with hy|hy
  ·exact agh hy
  ·exact absurd rfl (S.nofree _ (PySem.mem_of_lookup hy))
 ·exact Nat.le_of_lt (x.above y c (PySem.mem_of_lookup h))
 ·have hi:i < vs.length:=by
   unfold start at h2
   by_cases hi:i < vs.length
   ·exact hi
   ·rw[List.getElem?_append_right (by simpa using hi)] at h2
    rw[List.getElem?_replicate] at h2
    split at h2<;>cases h2
  have ha:vs[i]?=some v:=by
   unfold start at h2
   rw[List.getElem?_append_left (by simpa using hi),List.getElem?_map] at h2
   cases e:vs[i]? with
   |none=>rw[e] at h2;cases h2
   |some a=>rw[e] at h2;cases h2;rfl
  obtain⟨u,hu,rv⟩:=r.get ha
  have hp:ps[i]?=some y:=by
   rw[←S.pre,List.getElem?_take_of_lt (by omega)];exact h1
  have ndP:ps.Nodup:=by rw[←S.pre];exact S.nd.sublist (List.take_sublist _ _)
  refine⟨u,rv,?_⟩
  rcases S.par y (List.mem_of_getElem? hp) with k|k
  ·exact .inl ⟨k,aff ndP hp hu k⟩
  ·obtain⟨c,e⟩:=agh (n:=s.heap.objs.size+1) k
   refine .inr ⟨.inl k,c,e,?_⟩
   have q:=x.cell y c e
   rw[afg ndP hp hu (by show scope.names.lookup y≠_;rw[k];decide)] at q
   exact q
 ·exact e0.hok.fresh (Nat.le_of_lt (x.above y c (PySem.mem_of_lookup h)))
 ·unfold start
  show _=N.length
  rw[List.length_append,List.length_map,List.length_replicate]
  omega
theorem akn {CX:CXT} {P:Program} {w:World} {K:PySem.W.Frag} {mg:Str→Option Value} {base:Heap} {k:Nat} {f:Addr} {name qual:Str} {params:Arguments} {body:List Stmt} {scope:Scope} {dV kV doc pm cdv ct oc:Value} {an od:Option Addr}
  {osl:Array (Option Value)} {N ps:List Str} {sp:Sp} (lk:K.lookup f=some ⟨oc,od,.func (PySem.W.fnOf name qual params body scope dV kV doc pm an cdv ct),osl⟩) (hcd:PySem.W.codeIn K cdv qual=true) (S:FnScope N ps scope)
  (len:∀vs H Q E,sp vs H Q E→vs.length=ps.length)
  (hbody:∀(A:Around) (outer:List Env) (s:Shared) (H:Hp) (vs:List V) (Q:VK) (E:XK),Room k (A.deeper (envOfC qual scope s.heap.objs.size f cdv))→sp vs H Q E→
   ∃t,PSs (cxOf CX P w K mg base N qual scope f cdv A outer s H E) body t∧t {nx:=fun _ H'=>Q .non H',rt:=Q} (start N vs) H):
  FnOk P w K mg base CX (k+1) f (PySem.W.fnOf name qual params body scope dV kV doc pm an cdv ct) ps sp:=by
 refine⟨len,fun A outer s H args us vs Q E hr e0 hb r hsp=>?_⟩
 have hl:=len _ _ _ _ hsp
 have KX:K.In s.heap:=e0.mod.kin.keeps fun b o e=>(e0.bs b o e).1
 have lim:s.heap.NoLimit:=e0.mod.nolimit.keeps fun b o e=>(e0.bs b o e).1
 have hkind:∀y∈ps.zip us,scope.names.lookup y.1=some .local∨(scope.names.lookup y.1=some .cell∧((cellsFrom (s.heap.objs.size+1) scope.names []).lookup y.1).isSome=true):=fun ⟨n,v⟩ hy=>by
  rcases S.par n (List.of_mem_zip hy).1 with q|q
  ·exact .inl q
  ·exact .inr ⟨q,PySem.W.cellsFrom_some _ _ _ (.inl q)⟩
 refine codeAny_call_function hr.depth (KX _ _ lk) rfl S.co S.gen rfl (PySem.W.codeRec_of KX hcd) (hb _ _ _ _ ?_)
 refine wpAny_newFunctionEnv_cells S.kind hkind fun env he s1 x=>?_
 subst he
 refine⟨lim.keeps x.toInCall.keep,codeAny_func ?_⟩
 obtain⟨t,ht,hq⟩:=hbody A outer s H vs Q E (hr.deeper _) hsp
 have I:Inv (cxOf CX P w K mg base N qual scope f cdv A outer s H E) [] (start N vs) H s1:=ahx S hr.hd e0 hl r x
 refine wpAny_mono (ht [] s1 (start N vs) H _ I hq) (fun fl s' hs=>?_) fun e s' hs=>hs
 have fin:∀{σ':St} {H':Hp} {v:V} {u:Value},Inv (cxOf CX P w K mg base N qual scope f cdv A outer s H E) [] σ' H' s'→RelV v u→Q v H'→CE outer P w H s Q u s':=
  fun {σ' H' v u} J rv q=>⟨v,H',J.os,J.bare,J.base,J.hok,rv,q⟩
 cases fl with
 |ret u=>
  obtain⟨v,σ',H',J,rv,q⟩:=hs
  exact fin J rv q
 |next=>
  obtain⟨σ',H',J,q⟩:=hs
  exact fin (v:=V.non) (u:=Value.none) J rfl q
 |brk=>
  obtain⟨_,_,_,q⟩:=hs
  exact False.elim q
 |cont=>
  obtain⟨_,_,_,q⟩:=hs
  exact False.elim q
end L2
namespace L2
open PySem PySem.Spec PyProof.Rows
section
variable {X:Cx} {x:Str} {p pos:Pos} {e:Expr} {es:List Expr} {t:TA} {id T:String} {r:List V→Hp→VK→Prop}
noncomputable def tCB (r:List V→Hp→VK→Prop) (t:TA):TE:=fun σ H Q=>t σ H fun vs H1=>r vs H1 Q
theorem abc (hc:CallR X (.builtin id) r) (hg:Gl X x) (hm:X.mg x=none) (hv:bootBuiltins x=some (.builtin id)) (ha:PA X (e::es) t) (hn:x≠"__name__":=by decide) (hdb:(x == ("__debug__":Str))=false:=by decide)
  (he:starEach (e::es) X.env=(false,eval e X.env)::starEach es X.env:=by rfl) (hpl:(backTo pos (starEach es X.env)).any (·.1)=false:=by rfl):PE X (.Call (.Name x p) (e::es) [] pos) (tCB r t):=by
 intro pins s σ H Q I h
 refine wpAny_Call_Name_kw (ahm I hg hm hv ?_ hn hdb)
 exact PyProof.Rows.callWith_builtin1 (thn (ha pos pins s σ H _ I h) fun us s1 ⟨vs,H1,I1,r1,q1⟩=>hc pins s1 σ H1 vs us Q I1 r1 q1) he hpl
theorem afh (hc:CallR X (.type T) r) (hg:Gl X x) (hm:X.mg x=none) (hv:bootBuiltins x=some (.type T)) (ha:PA X (e::es) t) (hn:x≠"__name__":=by decide) (hdb:(x == ("__debug__":Str))=false:=by decide)
  (he:starEach (e::es) X.env=(false,eval e X.env)::starEach es X.env:=by rfl) (hpl:(backTo pos (starEach es X.env)).any (·.1)=false:=by rfl):PE X (.Call (.Name x p) (e::es) [] pos) (tCB r t):=by
 intro pins s σ H Q I h
 refine wpAny_Call_Name_kw (ahm I hg hm hv ?_ hn hdb)
 exact PyProof.Rows.callWith_type1 (thn (ha pos pins s σ H _ I h) fun us s1 ⟨vs,H1,I1,r1,q1⟩=>hc pins s1 σ H1 vs us Q I1 r1 q1) he hpl
end
end L2
namespace HT
open PySem PyProof.Rows
section
open PySem.SeqAt
open PySem.AutoSeq1 (wpAny_loadPart')
open PySem.MeetsSeq PySem.MeetsSeq2 PySem.MeetsSeq3
end
section
variable {prog:Program} {w:World} {A:Around} {E:Value→Shared→Prop} {s:Shared}
noncomputable def sIx (n d:Nat):Option Int→Nat
 |none=>d
 |some v=>if v < 0 then (v+(n:Int)).toNat else min v.toNat n
end
end HT
namespace L2
open PySem PySem.Spec PyProof.Rows
noncomputable abbrev TO:=St→Hp→(Option Int→Hp→Prop)→Prop
noncomputable def PO (X:Cx) (e:Option Expr) (t:TO):Prop:=
 ∀(pins:List (Addr×Obj)) (s:Shared) (σ:St) (H:Hp) (Q:Option Int→Hp→Prop),Inv X pins σ H s→t σ H Q→
  wpAny (model X.prog X.w) X.A (evalPart e X.env) (fun u s'=>∃o H',Inv X pins σ H' s'∧IsPart u o∧Q o H') X.xe s
noncomputable def tNoPart:TO:=fun _ H Q=>Q none H
noncomputable def tPart (t:TE):TO:=fun σ H Q=>t σ H fun x H1=>∃i,x=.int i∧Q (some i) H1
section
variable {X:Cx} {e:Expr} {te:TE} {lo hi:Option Expr} {tl th:TO} {pos p2:Pos}
theorem ahy:PO X none tNoPart:=by
 intro pins s σ H Q I h
 rw[evalPart_none]
 exact wpAny_pure ⟨none,H,I,.none,h⟩
theorem acp (h:PE X e te):PO X (some e) (tPart te):=by
 intro pins s σ H Q I hw
 rw[evalPart_some]
 refine thn (h pins s σ H _ I hw) fun u s1 ⟨x,H1,I1,r1,q1⟩=>?_
 obtain⟨i,rfl,q⟩:=q1
 obtain⟨t,rfl⟩:=r1
 exact⟨some i,H1,I1,.int i t,q⟩
noncomputable def SlR (X:Cx) (r:V→Option Int→Option Int→Hp→VK→Prop):Prop:=
 ∀(pins:List (Addr×Obj)) (s:Shared) (σ:St) (H:Hp) (x:V) (v vl vu:Value) (lo hi:Option Int) (sl:Addr) (Q:VK),Inv X pins σ H s→RelV x v→s.heap.IsSliceOf sl vl vu .none→IsPart vl lo→IsPart vu hi→r x lo hi H Q→
  ∃T id,typeLookup (.type T) "__getitem__"=pure (some (.builtin id))∧s.TypeIs v T∧wpAny (model X.prog X.w) X.A (getItem v (.ref sl)) (EP X pins σ Q) X.xe s
theorem SlR.or {r r':V→Option Int→Option Int→Hp→VK→Prop} (h:SlR X r) (h':SlR X r'):SlR X (fun x lo hi H Q=>r x lo hi H Q∨r' x lo hi H Q):=by
 intro pins s σ H x v vl vu lo hi sl Q I rx hs pl pu q
 rcases q with q|q
 ·exact h pins s σ H x v vl vu lo hi sl Q I rx hs pl pu q
 ·exact h' pins s σ H x v vl vu lo hi sl Q I rx hs pl pu q
noncomputable def tSl (r:V→Option Int→Option Int→Hp→VK→Prop) (te:TE) (tl th:TO):TE:=fun σ H Q=>te σ H fun x H1=>tl σ H1 fun l H2=>th σ H2 fun u H3=>r x l u H3 Q
theorem ac6 {r:V→Option Int→Option Int→Hp→VK→Prop} (hr:SlR X r) (he:PE X e te) (hl:PO X lo tl) (hu:PO X hi th):PE X (.Subscript e (.Slice lo hi none p2) pos) (tSl r te tl th):=by
 intro pins s σ H Q I h
 refine Subscript_ (thn (he pins s σ H _ I h) fun v s1 ⟨x,H1,I1,r1,q1⟩=>?_)
 refine wpAny_Slice (thn (hl pins s1 σ H1 _ I1 q1) fun vl s2 ⟨l,H2,I2,pl,q2⟩=>thn (hu pins s2 σ H2 _ I2 q2) fun vu s3 ⟨u,H3,I3,pu,q3⟩=>?_)
 rw[evalPart_none]
 refine wpAny_pure ?_
 have I4:Inv X pins σ H3 {s3 with heap:=s3.heap.push {cls:=.type "slice",data:=.fields #[vl,vu,.none]}}:=I3.kept (t':=s3.toks) fun b ob q=>Heap.get?_push_of_some _ q
 obtain⟨T,id,hT,ht,hg⟩:=hr pins {s3 with heap:=s3.heap.push {cls:=.type "slice",data:=.fields #[vl,vu,.none]}} σ H3 x v vl vu l u s3.heap.objs.size Q I4 r1 (Heap.IsSliceOf.new ..) pl pu q3
 show wpAny (model X.prog X.w) X.A (subscriptTail e (.Slice lo hi none p2) v (.ref s3.heap.objs.size)) (EP X pins σ Q) X.xe {s3 with heap:=s3.heap.push {cls:=.type "slice",data:=.fields #[vl,vu,.none]}}
 exact tail_any (ops:=[.ref s3.heap.objs.size,v]) ht hT hg (by with_unfolding_all rfl)
noncomputable def cutV (xs:List V) (lo hi:Option Int):List V:=(xs.drop (HT.sIx xs.length 0 lo)).take (HT.sIx xs.length xs.length hi - HT.sIx xs.length 0 lo)
theorem af3 (xs:List V) (lo hi:Option Int):(cutV xs lo hi).length≤xs.length:=by
 unfold cutV
 rw[List.length_take,List.length_drop]
 omega
end
end L2
namespace L2
open PySem PySem.Spec PyProof.Rows
noncomputable def ixN (n:Nat) (i:Int):Option Nat:=if 0≤i then (if i < n then some i.toNat else none) else if -(n:Int)≤i then some (i+n).toNat else none
noncomputable def atI {α:Type} (xs:List α) (i:Int):Option α:=(ixN xs.length i).bind fun j=>xs[j]?
theorem ako {n:Nat} {i:Int} {j:Nat} (h:ixN n i=some j):seqIndex? i n=some j∧j < n∧ -(n:Int)≤i∧i < n:=by
 unfold ixN at h
 by_cases h0:0≤i
 ·rw[if_pos h0] at h
  by_cases h1:i < n
  ·rw[if_pos h1] at h
   have e:i.toNat=j:=Option.some.inj h
   exact⟨by rw[seqIndex_of h0 h1,e],by omega,by omega,h1⟩
  ·rw[if_neg h1] at h;cases h
 ·rw[if_neg h0] at h
  by_cases h1: -(n:Int)≤i
  ·rw[if_pos h1] at h
   have e:(i+n).toNat=j:=Option.some.inj h
   exact⟨by rw[seqIndex_neg (by omega) h1,e],by omega,h1,by omega⟩
  ·rw[if_neg h1] at h;cases h
theorem ahz {α:Type} {xs:List α} {i:Int} {v:α} (h:atI xs i=some v):∃j,seqIndex? i xs.length=some j∧xs[j]?=some v∧j < xs.length∧ -(xs.length:Int)≤i∧i < xs.length:=by
 unfold atI at h
 cases e:ixN xs.length i with
 |none=>rw[e] at h;cases h
 |some j=>
  rw[e] at h
  obtain⟨h1,h2,h3,h4⟩:=ako e
  exact⟨j,h1,h,h2,h3,h4⟩
theorem aag {α:Type} {xs:List α} {j:Nat} {v:α} (h:xs[j]?=some v):atI xs (j:Int)=some v:=by
 have hj:j < xs.length:=(List.getElem?_eq_some_iff.mp h).1
 have e:ixN xs.length (j:Int)=some j:=by
  unfold ixN
  rw[if_pos (by omega),if_pos (by omega)];simp
 unfold atI;rw[e];exact h
noncomputable def PlainIx (b:Expr):Prop:=∀o i,subscripted b false o i=operate [o,i] (getItem o i)
noncomputable def IxR (X:Cx) (r:R2):Prop:=
 ∀(value slice:Expr) (pins:List (Addr×Obj)) (s:Shared) (σ:St) (H:Hp) (x y:V) (v u:Value) (Q:VK),Inv X pins σ H s→RelV x v→RelV y u→r x y H Q→
  subscripted slice false v u=operate [v,u] (getItem v u)→wpAny (model X.prog X.w) X.A (subscriptTail value slice v u) (EP X pins σ Q) X.xe s
noncomputable def MtR (X:Cx) (id:String) (r:V→List V→Hp→VK→Prop):Prop:=
 ∀(pins:List (Addr×Obj)) (s:Shared) (σ:St) (H:Hp) (x:V) (xs:List V) (v:Value) (us:List Value) (Q:VK),Inv X pins σ H s→RelV x v→Vals xs us→r x xs H Q→
  wpAny (model X.prog X.w) X.A (call (.builtin id) (v::us)) (EP X pins σ Q) X.xe s
section
variable {X:Cx} {a b:Expr} {ta tb:TE} {pos:Pos}
theorem IxR.or {r r':R2} (h:IxR X r) (h':IxR X r'):IxR X (fun x y H Q=>r x y H Q∨r' x y H Q):=by
 intro value slice pins s σ H x y v u Q I rx ry q hs
 rcases q with q|q
 ·exact h value slice pins s σ H x y v u Q I rx ry q hs
 ·exact h' value slice pins s σ H x y v u Q I rx ry q hs
theorem MtR.or {id:String} {r r':V→List V→Hp→VK→Prop} (h:MtR X id r) (h':MtR X id r'):MtR X id (fun x xs H Q=>r x xs H Q∨r' x xs H Q):=by
 intro pins s σ H x xs v us Q I rx rs q
 rcases q with q|q
 ·exact h pins s σ H x xs v us Q I rx rs q
 ·exact h' pins s σ H x xs v us Q I rx rs q
theorem aa0 {r:R2} (hr:IxR X r) (ha:PE X a ta) (hb:PE X b tb) (hs:PlainIx b):PE X (.Subscript a b pos) (tOp r ta tb):=by
 intro pins s σ H Q I h
 exact Subscript_ (binT ha hb I h fun v u s2 x y H2 I2 rx ry q=>hr a b pins s2 σ H2 x y v u Q I2 rx ry q (hs _ _))
noncomputable def rIxL (K:PySem.W.Frag):R2:=fun x y H Q=>∃p xs i v,x=.ref p∧y=.int i∧SqL K H p xs∧atI xs i=some v∧Q v H
noncomputable def rIxT (K:PySem.W.Frag):R2:=fun x y H Q=>∃p xs i v,x=.ref p∧y=.int i∧SqT K H p xs∧atI xs i=some v∧Q v H
theorem abn:IxR X (rIxL X.K):=by
 intro value slice pins s σ H x y v u Q I rx ry h hs
 obtain⟨p,xs,i,z,rfl,rfl,hq,he,q⟩:=h
 cases rx
 obtain⟨t,rfl⟩:=ry
 obtain⟨its,r,pl,hz⟩:=I.list hq
 obtain⟨j,h1,h2,h3,h4,h5⟩:=ahz he
 obtain⟨w,ew,rw'⟩:=r.get h2
 have hl:=r.length
 have hn:=line63
 have fin:EP X pins σ Q w s:=⟨z,H,I,rw',q⟩
 by_cases h0:0≤i
 ·have hj:i.toNat=j:=by
   rw[seqIndex_of h0 h5] at h1
   exact Option.some.inj h1
  exact item_listR pl.isList h0 (by omega) (by rw[hj];simpa using ew) fin hs
 ·have hj:(i+(its.toArray.size:Int)).toNat=j:=by
   rw[seqIndex_neg (by omega) h4] at h1
   rw[List.size_toArray,←hl]
   exact Option.some.inj h1
  exact subscriptTail_builtinR (x:=w) pl.isList.typeIs slot_list_getitem.lookup
   (wpAny_getItem_list_neg (Q:=fun r s'=>r=w∧EP X pins σ Q r s') pl.isList (by omega) (by rw[List.size_toArray]<;>omega) (by omega) (by rw[hj];simpa using ew) ⟨rfl,fin⟩) hs
theorem abq:IxR X (rIxT X.K):=by
 intro value slice pins s σ H x y v u Q I rx ry h hs
 obtain⟨p,xs,i,z,rfl,rfl,hq,he,q⟩:=h
 cases rx
 obtain⟨t,rfl⟩:=ry
 obtain⟨its,r,pl,hz⟩:=I.tuple hq
 obtain⟨j,h1,h2,h3,h4,h5⟩:=ahz he
 obtain⟨w,ew,rw'⟩:=r.get h2
 have hl:=r.length
 have hn:=line63
 have fin:EP X pins σ Q w s:=⟨z,H,I,rw',q⟩
 exact subscriptTail_builtinR (x:=w) pl.typeIs slot_tuple_getitem.lookup
  (getItem_tuple (j:=j) (Q:=fun r s'=>r=w∧EP X pins σ Q r s') pl (by omega) (by omega) (by rw[List.size_toArray,←hl];exact h1) (by simpa using ew) ⟨rfl,fin⟩) hs
theorem Inv.lst {pins:List (Addr×Obj)} {σ:St} {H:Hp} {s:Shared} {p:Addr} {xs:List V} (I:Inv X pins σ H s) (h:H p=some (.lst xs)):
  ∃(its:List Value) (n:Nat),Vals xs its∧s.heap.get? p=some {cls:=.type "list",data:=.seq its.toArray n}∧xs.length≤sizeLine:=by
 obtain⟨z,its,n,r,e⟩:=I.hok p _ h
 exact⟨its,n,r,e,z⟩
theorem afi (lo hi:Option Int) (n:Nat):(sliceBounds lo hi none n).1=((HT.sIx n 0 lo:Nat):Int)∧(sliceBounds lo hi none n).2.1=((HT.sIx n n hi:Nat):Int)∧(sliceBounds lo hi none n).2.2=1:=by
 refine⟨?_,?_,rfl⟩
 ·cases lo with
  |none=>simp[sliceBounds,HT.sIx]
  |some i=>
   simp only[sliceBounds,HT.sIx,Option.getD_none,show (1:Int) > 0 by decide,if_true]
   by_cases h:i < 0
   ·simp only[h,if_true]<;>omega
   ·simp only[h,if_false]<;>omega
 ·cases hi with
  |none=>simp[sliceBounds,HT.sIx]
  |some i=>
   simp only[sliceBounds,HT.sIx,Option.getD_none,show (1:Int) > 0 by decide,if_true]
   by_cases h:i < 0
   ·simp only[h,if_true]<;>omega
   ·simp only[h,if_false]<;>omega
theorem aeq (its:List Value) (lo hi:Option Int):slicePick its.toArray lo hi none=((its.drop (HT.sIx its.length 0 lo)).take (HT.sIx its.length its.length hi - HT.sIx its.length 0 lo)).toArray:=by
 obtain⟨h1,h2,h3⟩:=afi lo hi its.toArray.size
 unfold slicePick
 rw[h1,h2,h3]
 simp only[sliceRange_one,pick_run,List.size_toArray]<;>rfl
noncomputable def rSlL (K:PySem.W.Frag):V→Option Int→Option Int→Hp→VK→Prop:=fun x lo hi H Q=>∃a xs,x=.ref a∧SqL K H a xs∧∀p,H p=none→Q (.ref p) (upd H p (.lst (cutV xs lo hi)))
theorem ad5:SlR X (rSlL X.K):=by
 intro pins s σ H x v vl vu lo hi sl Q I rx hs pl pu h
 obtain⟨a,xs,rfl,hx,q⟩:=h
 cases rx
 obtain⟨its,r,ht,hz⟩:=I.list hx
 have hlen:=r.length
 refine⟨"list",_,slot_list_getitem.lookup,ht.isList.typeIs,?_⟩
 refine wpAny_getItem_list_slice ht.isList hs pl pu .none (by simp) ?_ (by rw[List.size_toArray]<;>omega)
 rw[aeq,←hlen]
 refine⟨.ref s.heap.objs.size,_,I.laid (t':=s.toks) (o:=.lst (cutV xs lo hi)) (fun b ob q=>Heap.get?_push_of_some _ q) (Nat.le_refl _) ?_,rfl,q _ (I.hok.fresh (Nat.le_refl _))⟩
 exact⟨Nat.le_trans (af3 xs lo hi) hz,_,0,(r.drop (HT.sIx xs.length 0 lo)).take (HT.sIx xs.length xs.length hi - HT.sIx xs.length 0 lo),Heap.get?_push_size _ rfl⟩
noncomputable def flatV:V→Bool
 |.non=>true
 |.bl _=>true
 |.int _=>true
 |.str _=>true
 |_=>false
noncomputable def eqV:V→V→Bool
 |.non,.non=>true
 |.bl a,.bl b=>a == b
 |.bl a,.int b=>(if a then 1 else 0) == b
 |.int a,.bl b=>a == (if b then 1 else 0)
 |.int a,.int b=>a == b
 |.str a,.str b=>a == b
 |_,_=>false
theorem aj4 {A:Around} {s:Shared} {y x:V} {u v:Value} (ry:RelV y u) (rx:RelV x v) (fy:flatV y=true) (fx:flatV x=true):SeqAt.EqAt A s u v (eqV y x):=by
 cases y with
 |non=>
  cases ry
  cases x with
  |non=>cases rx;exact SeqAt.EqAt.same _
  |bl b=>cases rx;exact SeqAt.EqAt.none_bool b
  |int b=>obtain⟨t,rfl⟩:=rx;exact SeqAt.EqAt.none_int b t
  |str b=>obtain⟨t,rfl⟩:=rx;exact SeqAt.EqAt.none_str b t
  |_=>exact absurd (show false=true from fx) Bool.false_ne_true
 |bl a=>
  cases ry
  cases x with
  |non=>cases rx;exact SeqAt.EqAt.bool_none a
  |bl b=>cases rx;exact SeqAt.EqAt.bool_bool a b
  |int b=>obtain⟨t,rfl⟩:=rx;exact SeqAt.EqAt.bool_int a b t
  |str b=>obtain⟨t,rfl⟩:=rx;exact SeqAt.EqAt.bool_str a b t
  |_=>exact absurd (show false=true from fx) Bool.false_ne_true
 |int a=>
  obtain⟨t',rfl⟩:=ry
  cases x with
  |non=>cases rx;exact SeqAt.EqAt.int_none a t'
  |bl b=>cases rx;exact SeqAt.EqAt.int_bool a t' b
  |int b=>obtain⟨t,rfl⟩:=rx;exact SeqAt.EqAt.int_int a t' b t
  |str b=>obtain⟨t,rfl⟩:=rx;exact SeqAt.EqAt.int_str a t' b t
  |_=>exact absurd (show false=true from fx) Bool.false_ne_true
 |str a=>
  obtain⟨t',rfl⟩:=ry
  cases x with
  |non=>cases rx;exact SeqAt.EqAt.str_none a t'
  |bl b=>cases rx;exact SeqAt.EqAt.str_bool a t' b
  |int b=>obtain⟨t,rfl⟩:=rx;exact SeqAt.EqAt.str_int a t' b t
  |str b=>obtain⟨t,rfl⟩:=rx;exact SeqAt.EqAt.str_str a t' b t
  |_=>exact absurd (show false=true from fx) Bool.false_ne_true
 |_=>exact absurd (show false=true from fy) Bool.false_ne_true
noncomputable def eqU (x:V) (u:Value):Bool:=match u with
 |.none=>eqV .non x
 |.bool b=>eqV (.bl b) x
 |.int i _=>eqV (.int i) x
 |.str z _=>eqV (.str z) x
 |_=>false
theorem aj5 {x y:V} {u:Value} (r:RelV y u) (f:flatV y=true):eqU x u=eqV y x:=by
 cases y with
 |non=>cases r;rfl
 |bl b=>cases r;rfl
 |int i=>obtain⟨t,rfl⟩:=r;rfl
 |str z=>obtain⟨t,rfl⟩:=r;rfl
 |_=>exact absurd (show false=true from f) Bool.false_ne_true
theorem agi {A:Around} {s:Shared} {x:V} {v:Value} (rx:RelV x v) (fx:flatV x=true):∀{xs:List V} {us:List Value},Vals xs us→xs.all flatV=true→∀u∈us,SeqAt.EqAt A s u v (eqU x u)
 |_,_,.nil,_=>fun u hu=>by cases hu
 |y::xs,u::us,.cons r t,f=>fun u' hu=>by
  rw[List.all_cons,Bool.and_eq_true] at f
  rcases List.mem_cons.mp hu with rfl|hu
  ·rw[aj5 r f.1];exact aj4 r rx f.1 fx
  ·exact agi rx fx t f.2 u' hu
theorem CallR.or {f:Value} {r r':List V→Hp→VK→Prop} (h:CallR X f r) (h':CallR X f r'):CallR X f (fun xs H Q=>r xs H Q∨r' xs H Q):=by
 intro pins s σ H xs us Q I rs q
 rcases q with q|q
 ·exact h pins s σ H xs us Q I rs q
 ·exact h' pins s σ H xs us Q I rs q
theorem afj:CallR X (.type "list") (fun xs H Q=>∃p ys,xs=[.ref p]∧(SqL X.K H p ys∨SqT X.K H p ys)∧∀l,H l=none→Q (.ref l) (upd H l (.lst ys))):=by
 intro pins s σ H xs us Q I r h
 obtain⟨p,ys,rfl,hq,q⟩:=h
 obtain⟨u,rfl,rx⟩:=vals1 r
 cases rx
 have fin:∀(its:List Value),Vals ys its→ys.length≤sizeLine→∀(h':Heap) (c':Nat),(∀b o',s.heap.get? b=some o'→h'.get? b=some o')→
   h'.get? s.heap.objs.size=some {cls:=.type "list",dict:=none,data:=.seq its.toArray c',slots:= #[]}→EP X pins σ Q (.ref s.heap.objs.size) {s with heap:=h'}:=fun its r' hz h' c' kp e=>
  ⟨.ref s.heap.objs.size,_,I.laid (t':=s.toks) kp (Nat.le_refl _) (show ObjOk X.prog X.w _ h' _ (.lst ys) from ⟨hz,its,c',r',e⟩),rfl,q _ (I.hok.fresh (Nat.le_refl _))⟩
 rcases hq with hq|hq
 ·obtain⟨its,r',pl,hz⟩:=I.list hq
  have hlen:=r'.length
  obtain⟨o,ho,hc,n,hd⟩:=pl.isList
  exact call_list_seq p (.inl rfl) ho hc hd (fun h' c' kp e=>fin its r' hz h' c' kp e) (by simp only[List.size_toArray]<;>omega)
 ·obtain⟨its,r',pl,hz⟩:=I.tuple hq
  have hlen:=r'.length
  obtain⟨o,ho,hc,n,hd⟩:=pl
  exact call_list_seq p (.inr rfl) ho hc hd (fun h' c' kp e=>fin its r' hz h' c' kp e) (by simp only[List.size_toArray]<;>omega)
noncomputable def tyV (K:PySem.W.Frag) (T:String) (x:V) (H:Hp):Prop:=match x with
 |.str _=>T="str"
 |.int _=>T="int"
 |.ref p=>(T="list"∧∃xs,SqL K H p xs)∨(T="tuple"∧∃o,K.lookup p=some o∧o.cls=.type "tuple"∧o.dict=none)∨
  (T="dict"∧((∃kvs,H p=some (.dK kvs))∨∃kvs,H p=some (.dT kvs)))∨(T="set"∧∃S n,H p=some (.set S n))
 |_=>False
theorem aj6 {pins:List (Addr×Obj)} {σ:St} {H:Hp} {s:Shared} {T:String} {x:V} {v:Value} (I:Inv X pins σ H s) (r:RelV x v) (ty:tyV X.K T x H):
  s.TypeIs v T∧∀a,v=.ref a→∃ob,s.heap.get? a=some ob∧ob.dict=none:=by
 cases x with
 |str z=>
  obtain⟨t,rfl⟩:=r
  cases (show T="str" from ty)
  exact⟨typeIs_str s z t,fun _ e=>nomatch e⟩
 |int i=>
  obtain⟨t,rfl⟩:=r
  cases (show T="int" from ty)
  exact⟨typeIs_int s i t,fun _ e=>nomatch e⟩
 |ref p=>
  cases r
  rcases ty with ⟨rfl,xs,hq⟩|⟨rfl,o,hk,hc,hd⟩|⟨rfl,hk⟩|⟨rfl,S,n,hk⟩
  ·obtain⟨its,_,pl,_⟩:=I.list hq
   refine⟨pl.isList.typeIs,fun a e=>?_⟩
   cases e
   obtain⟨o,n,e,c,hd,_⟩:=pl
   exact⟨o,e,hd⟩
  ·refine⟨⟨o,I.kIn p o hk,hc⟩,fun a e=>?_⟩
   cases e
   exact⟨o,I.kIn _ o hk,hd⟩
  ·have z:∃o,s.heap.get? p=some o∧o.ExactDict:=by
    rcases hk with ⟨kvs,hk⟩|⟨kvs,hk⟩
    ·obtain⟨_,_,_,_,o,_,_,e,ex,_⟩:=I.hok p _ hk
     exact⟨o,e,ex⟩
    ·obtain⟨_,_,_,_,o,_,_,e,ex,_⟩:=I.hok p _ hk
     exact⟨o,e,ex⟩
   obtain⟨o,e,ex⟩:=z
   refine⟨⟨o,e,ex.1⟩,fun a e2=>?_⟩
   cases e2
   exact⟨o,e,ex.2.1⟩
  ·obtain⟨o,_,_,_,e,ex,_⟩:=I.hok p _ hk
   refine⟨⟨o,e,ex.1⟩,fun a e2=>?_⟩
   cases e2
   exact⟨o,e,ex.2.1⟩
 |_=>exact False.elim ty
noncomputable def tBM0 (K:PySem.W.Frag) (T:String) (r:V→List V→Hp→VK→Prop) (to:TE):TE:=fun σ H Q=>to σ H fun x H1=>tyV K T x H1∧r x [] H1 Q
noncomputable def tBM (K:PySem.W.Frag) (T:String) (r:V→List V→Hp→VK→Prop) (to:TE) (t:TA):TE:=fun σ H Q=>to σ H fun x H1=>tyV K T x H1∧t σ H1 fun xs H2=>r x xs H2 Q
variable {o e:Expr} {es:List Expr} {to:TE} {t:TA} {name:Str} {apos cpos:Pos} {T id:String} {r:V→List V→Hp→VK→Prop}
theorem pe_bm0 (pa:PlainAttrs T) (slot:Slot T name id) (hty:typeOf (.builtin id)=pure (.type "method_descriptor")) (hm:MtR X id r) (ho:PE X o to)
  (hbase:attributeBase o name X.env (eval o X.env)=eval o X.env:=by rfl) (hline:(apos.endLine == cpos.line)=true:=by rfl):PE X (.Call (.Attribute o name apos) [] [] cpos) (tBM0 X.K T r to):=by
 intro pins s σ H Q I h
 refine wpAny_Call_method0_late hbase hline (thn (ho pins s σ H _ I h) fun v s1 ⟨x,H1,I1,r1,ty,q1⟩=>?_)
 obtain⟨h1,h2⟩:=aj6 I1 r1 ty
 exact⟨T,id,pa,slot,hty,h1,h2,Calls.callWith_builtin rfl (PySem.evalArgs_none (hm pins s1 σ H1 x [] v [] Q I1 r1 .nil q1))⟩
theorem akp (pa:PlainAttrs T) (slot:Slot T name id) (hty:typeOf (.builtin id)=pure (.type "method_descriptor")) (hm:MtR X id r) (ho:PE X o to) (ha:PA X (e::es) t)
  (hbase:attributeBase o name X.env (eval o X.env)=eval o X.env:=by rfl)
  (hfew:((backTo cpos (starEach (e::es) X.env)).all (fun x=> !x.1)&&(backToKw cpos (keywordEach [] X.env)).all (fun x=>x.1.isSome)
   &&decide ((e::es).length+([]:List Keyword).length+(if ([]:List Keyword).isEmpty then 0 else 1) < 30))=true:=by rfl)
  (hline:(apos.endLine == cpos.line)=true:=by rfl) (hs:starEach (e::es) X.env=(false,eval e X.env)::starEach es X.env:=by rfl) (hplain:(backTo cpos (starEach es X.env)).any (·.1)=false:=by rfl):
  PE X (.Call (.Attribute o name apos) (e::es) [] cpos) (tBM X.K T r to t):=by
 intro pins s σ H Q I h
 refine wpAny_Call_method_late hbase hfew hline rfl (thn (ho pins s σ H _ I h) fun v s1 ⟨x,H1,I1,r1,ty,q1⟩=>?_)
 obtain⟨h1,h2⟩:=aj6 I1 r1 ty
 refine⟨T,id,pa,slot,hty,h1,h2,?_⟩
 have hA:=ha cpos pins s1 σ H1 _ I1 q1
 rw[hs] at hA ⊢
 refine Calls.callWith_builtin (by show (false || (backTo cpos (starEach es X.env)).any (·.1))=false;rw[hplain]<;>rfl) (Calls.evalArgs_plain ?_)
 exact thn hA fun us s2 ⟨vs,H2,I2,r2,q2⟩=>hm pins s2 σ H2 x vs v us Q I2 r1 r2 q2
end
end L2
namespace L2
open PySem PySem.Spec PyProof.Rows
noncomputable def MtM (X:Cx) (id:String) (r:V→List V→Hp→VK→Prop):Prop:=
 ∀(pins:List (Addr×Obj)) (s:Shared) (σ:St) (H:Hp) (x:V) (xs:List V) (v:Value) (us:List Value) (Q:VK),Inv X pins σ H s→RelV x v→Vals xs us→r x xs H Q→
  wpAny (model X.prog X.w) X.A (call (.builtin id) (v::us)) (EP X pins σ Q) X.xe s
theorem Vals.one:∀{x:V} {us:List Value},Vals [x] us→∃u,us=[u]∧RelV x u
 |_,_,.cons r .nil=>⟨_,rfl,r⟩
theorem Vals.two:∀{x y:V} {us:List Value},Vals [x,y] us→∃u v,us=[u,v]∧RelV x u∧RelV y v
 |_,_,_,.cons r (.cons q .nil)=>⟨_,_,rfl,r,q⟩
theorem Vals.zero:∀{us:List Value},Vals [] us→us=[]
 |_,.nil=>rfl
theorem Vals.dropLast {xs:List V} {us:List Value} (h:Vals xs us):Vals xs.dropLast us.dropLast:=by
 induction h with
 |nil=>exact .nil
 |cons r t ih=>
  cases t with
  |nil=>exact .nil
  |cons q t'=>exact .cons r ih
theorem ag8 {α:Type} (l:List α):l.eraseIdx (l.length - 1)=l.dropLast:=by
 induction l with
 |nil=>rfl
 |cons a r ih=>
  cases r with
  |nil=>rfl
  |cons b r=>
   have e:(a::b::r).length - 1=((b::r).length - 1)+1:=by
    have h1:(a::b::r).length=r.length+2:=rfl
    have h2:(b::r).length=r.length+1:=rfl
    omega
   rw[e,List.eraseIdx_cons_succ,ih]
   all_goals rfl
section
variable {X:Cx} {pins:List (Addr×Obj)} {σ:St} {H:Hp} {s:Shared} {l b:Addr} {xs ys zs:List V}
theorem Inv.lset {its its':List Value} {n:Nat} {f:Array Value→Array Value} {t':Nat} (I:Inv X pins σ H s) (hH:H l=some (.lst xs))
  (e:s.heap.get? l=some {cls:=.type "list",data:=.seq its.toArray n}) (hf:f its.toArray=its'.toArray) (hv:Vals ys its') (hz:ys.length≤sizeLine):
  Inv X pins σ (upd H l (.lst ys)) {s with heap:=s.heap.update l (Obj.mapSeq f),toks:=t'}:=by
 have q:=PySem.IsL.update e f
 rw[hf] at q
 refine I.write (x:=l) (e:=l) (by rw[hH];exact trivial) (.inl rfl) (fun b' u hb hu=>(Heap.get?_update_other s.heap (Obj.mapSeq f) (Ne.symm hb)).trans hu) ⟨_,q⟩ ?_
 exact⟨hz,its',_,hv,q⟩
theorem Inv.lnew {its:List Value} {t':Nat} (I:Inv X pins σ H s) (hv:Vals ys its) (hz:ys.length≤sizeLine):
  Inv X pins σ (upd H s.heap.objs.size (.lst ys)) {s with heap:=s.heap.push {cls:=.type "list",data:=.seq its.toArray},toks:=t'}:=
 I.laid (fun _ _ q=>Heap.get?_push_of_some _ q) (Nat.le_refl _) ⟨hz,its,0,hv,Heap.get?_push_size _ rfl⟩
theorem Inv.fresh (I:Inv X pins σ H s):H s.heap.objs.size=none:=I.hok.fresh (Nat.le_refl _)
theorem Inv.lstM (I:Inv X pins σ H s) (hH:H l=some (.lst xs)):xs.length≤sizeLine∧∃(its:List Value) (n:Nat),Vals xs its∧xs.length=its.length∧s.heap.get? l=some {cls:=.type "list",data:=.seq its.toArray n}:=by
 obtain⟨z,its,n,r,e⟩:=I.hok l _ hH
 exact⟨z,its,n,r,r.length,e⟩
end
section
variable {X:Cx}
noncomputable def rAppend:V→List V→Hp→VK→Prop:=fun x vs H Q=>∃l xs y,x=.ref l∧vs=[y]∧H l=some (.lst xs)∧xs.length < sizeLine∧Q .non (upd H l (.lst (xs++[y])))
theorem ad6:MtM X "list.append" rAppend:=by
 intro pins s σ H x vs v us Q I rx rv h
 obtain⟨l,xs,y,rfl,rfl,hH,hz,q⟩:=h
 cases rx
 obtain⟨u,rfl,ru⟩:=rv.one
 obtain⟨z,its,n,r,hl,e⟩:=I.lstM hH
 refine call_meets F.slot_list_append ⟨_,e,rfl⟩ F.entry_list_append (F.args_list_append_2 _ _) (PySem.list_append l its.toArray n u (by rw[List.size_toArray];omega)) ⟨e,?_⟩
 refine⟨.non,_,I.lset (its':=its++[u]) hH e (by simp) (r.append (.cons ru .nil)) ?_,rfl,q⟩
 rw[List.length_append,List.length_singleton]
 omega
noncomputable def rExtend:V→List V→Hp→VK→Prop:=fun x vs H Q=>∃l b xs zs,x=.ref l∧vs=[.ref b]∧H l=some (.lst xs)∧H b=some (.lst zs)∧xs.length+zs.length≤sizeLine∧Q .non (upd H l (.lst (xs++zs)))
noncomputable def rPop:V→List V→Hp→VK→Prop:=fun x vs H Q=>∃l xs y,x=.ref l∧vs=[]∧H l=some (.lst xs)∧xs[xs.length - 1]?=some y∧Q y (upd H l (.lst xs.dropLast))
theorem mt_pop:MtM X "list.pop" rPop:=by
 intro pins s σ H x vs v us Q I rx rv h
 obtain⟨l,xs,y,rfl,rfl,hH,hy,q⟩:=h
 cases rx
 have hus:=rv.zero
 subst hus
 obtain⟨z,its,n,r,hl,e⟩:=I.lstM hH
 obtain⟨u,hu,ru⟩:=r.get hy
 have hy':its.toArray[its.toArray.size - 1]?=some u:=by
  show its.toArray[its.length - 1]?=some u
  rw[←Array.getElem?_toList,←hl]
  exact hu
 refine call_meets F.slot_list_pop ⟨_,e,rfl⟩ F.entry_list_pop (F.args_list_pop_1 _) (MeetsSeq.list_pop_last l its.toArray n u hy' (by rw[List.size_toArray];omega)) ⟨e,?_⟩
 refine⟨y,_,I.lset (its':=its.dropLast) hH e ?_ r.dropLast ?_,ru,q⟩
 ·show its.toArray.eraseIdxIfInBounds (its.toArray.size - 1)=its.dropLast.toArray
  rw[List.size_toArray,List.eraseIdxIfInBounds_toArray,ag8]
 ·rw[List.length_dropLast]
  omega
noncomputable def rCat:R2:=fun x y H Q=>∃l b xs zs,x=.ref l∧y=.ref b∧H l=some (.lst xs)∧H b=some (.lst zs)∧xs.length+zs.length≤sizeLine∧∀p,H p=none→Q (.ref p) (upd H p (.lst (xs++zs)))
theorem agj:OpR X (binaryOp .Add) rCat:=by
 intro pins s σ H x y v u Q I rx ry h
 obtain⟨l,b,xs,zs,rfl,rfl,hH,hB,hz,q⟩:=h
 cases rx
 cases ry
 obtain⟨z,its,n,r,hl,e⟩:=I.lstM hH
 obtain⟨z2,its2,n2,r2,hl2,e2⟩:=I.lstM hB
 refine PySem.P.add_list e e2 ?_ (by rw[List.size_toArray,List.size_toArray];omega)
 have ea:its.toArray++its2.toArray=(its++its2).toArray:=by simp
 rw[ea]
 exact⟨.ref _,_,I.lnew (t':=s.toks) (r.append r2) (by rw[List.length_append];omega),rfl,q _ I.fresh⟩
end
section
variable {prog:Program} {w:World} {A:Around} {E:Value→Shared→Prop} {s:Shared}
end
section
variable {X:Cx}
end
end L2
namespace L2
open PySem PySem.Spec PyProof.Rows
section
variable {κ:Type} [DecidableEq κ]
noncomputable def valV (kvs:List (κ×V)) (k:κ):Option V:=(kvs.find? fun kv=>decide (kv.1=k)).map (·.2)
noncomputable def putK (kvs:List (κ×V)) (k:κ) (v:V):List (κ×V):=
 if (kvs.any fun kv=>decide (kv.1=k))=true then kvs.map (fun kv=>if kv.1=k then (kv.1,v) else kv) else kvs++[(k,v)]
theorem aer {p:κ×V} {r:List (κ×V)} {k:κ} (e:p.1=k):valV (p::r) k=some p.2:=by simp[valV,List.find?_cons,e]
theorem aes {p:κ×V} {r:List (κ×V)} {k:κ} (e:¬p.1=k):valV (p::r) k=valV r k:=by simp[valV,List.find?_cons,e]
theorem agk (k:κ):∀kvs:List (κ×V),(kvs.any fun kv=>decide (kv.1=k))=(valV kvs k).isSome
 |[]=>rfl
 |p::r=>by
  rw[List.any_cons]
  by_cases e:p.1=k
  ·simp only[aer e,decide_eq_true e,Bool.true_or,Option.isSome_some]
  ·rw[aes e,decide_eq_false e,Bool.false_or];exact agk k r
theorem RelO.isSome_eq {o:Option V} {u:Option Value} (r:RelO o u):o.isSome=u.isSome:=by
 cases o with
 |none=>cases u with
  |none=>rfl
  |some _=>exact (show False from r).elim
 |some _=>cases u with
  |none=>exact (show False from r).elim
  |some _=>rfl
theorem RelO.getD {o:Option V} {u:Option Value} {d:V} {d':Value} (r:RelO o u) (rd:RelV d d'):RelV (o.getD d) (u.getD d'):=by
 cases o with
 |none=>cases u with
  |none=>exact rd
  |some _=>exact (show False from r).elim
 |some _=>cases u with
  |none=>exact (show False from r).elim
  |some _=>exact r
theorem KV.val {kvs:List (κ×V)} {vs:List (κ×Value)} (r:KV kvs vs) (k:κ):RelO (valV kvs k) (valueAt vs k):=by
 unfold KV at r
 induction r with
 |nil=>exact True.intro
 |@cons p q ps qs h t ih=>
  obtain⟨h1,h2⟩:=h
  by_cases e:p.1=k
  ·have e':q.1=k:=h1.symm.trans e
   have b:valueAt (q::qs) k=some q.2:=by simp[valueAt,List.find?_cons,e']
   rw[aer e,b];exact h2
  ·have e':¬q.1=k:=fun z=>e (h1.trans z)
   have b:valueAt (q::qs) k=valueAt qs k:=by simp[valueAt,List.find?_cons,e']
   rw[aes e,b];exact ih
theorem KV.any {kvs:List (κ×V)} {vs:List (κ×Value)} (r:KV kvs vs) (k:κ):(kvs.any fun kv=>decide (kv.1=k))=vs.any fun kv=>decide (kv.1=k):=by
 unfold KV at r
 induction r with
 |nil=>rfl
 |cons h t ih=>rw[List.any_cons,List.any_cons,ih,h.1]
theorem KV.repl {kvs:List (κ×V)} {vs:List (κ×Value)} (r:KV kvs vs) (k:κ) {y:V} {u:Value} (ry:RelV y u):
  KV (kvs.map fun kv=>if kv.1=k then (kv.1,y) else kv) (vs.map fun kv=>if kv.1=k then (kv.1,u) else kv):=by
 unfold KV at r ⊢
 induction r with
 |nil=>exact .nil
 |@cons p q ps qs h t ih=>
  rw[List.map_cons,List.map_cons]
  refine .cons ?_ ih
  obtain⟨h1,h2⟩:=h
  by_cases e:p.1=k
  ·rw[if_pos e,if_pos (h1.symm.trans e)];exact⟨h1,ry⟩
  ·rw[if_neg e,if_neg (fun z=>e (h1.trans z))];exact⟨h1,h2⟩
theorem KV.put {kvs:List (κ×V)} {vs:List (κ×Value)} (r:KV kvs vs) (k:κ) {y:V} {u:Value} (ry:RelV y u):KV (putK kvs k y) (stored vs k u):=by
 unfold putK stored
 rw[r.any k]
 by_cases e:(vs.any fun kv=>decide (kv.1=k))=true
 ·rw[if_pos e,if_pos e];exact r.repl k ry
 ·rw[if_neg e,if_neg e];exact Paired.snoc r ⟨rfl,ry⟩
theorem KV.length {kvs:List (κ×V)} {vs:List (κ×Value)} (r:KV kvs vs):kvs.length=vs.length:=Paired.length r
end
noncomputable abbrev KT (H:Hp):List (List Key×V)→List (List Key×Addr×Value)→Prop:=Paired fun p q=>p.1=q.1∧H q.2.1=some (.tup (p.1.map kV))∧RelV p.2 q.2.2
theorem KT.val {H:Hp} {kvs:List (List Key×V)} {xs:List (List Key×Addr×Value)} (r:KT H kvs xs) (k:List Key):RelO (valV kvs k) ((atKey xs k).map (·.2)):=by
 induction r with
 |nil=>exact True.intro
 |@cons p q ps qs h t ih=>
  obtain⟨h1,_,h2⟩:=h
  by_cases e:p.1=k
  ·have e':q.1=k:=h1.symm.trans e
   have b:atKey (q::qs) k=some q.2:=by simp[atKey,List.find?_cons,e']
   rw[aer e,b];exact h2
  ·have e':¬q.1=k:=fun z=>e (h1.trans z)
   have b:atKey (q::qs) k=atKey qs k:=by simp[atKey,List.find?_cons,e']
   rw[aes e,b];exact ih
theorem KT.repl {H:Hp} {kvs:List (List Key×V)} {xs:List (List Key×Addr×Value)} (r:KT H kvs xs) (k:List Key) {y:V} {u:Value} (ry:RelV y u):
  KT H (kvs.map fun kv=>if kv.1=k then (kv.1,y) else kv) (xs.map (putAt k u)):=by
 induction r with
 |nil=>exact .nil
 |@cons p q ps qs h t ih=>
  rw[List.map_cons,List.map_cons]
  refine .cons ?_ ih
  obtain⟨h1,h2,h3⟩:=h
  unfold putAt
  by_cases e:p.1=k
  ·rw[if_pos e,if_pos (h1.symm.trans e)];exact⟨h1,h2,ry⟩
  ·rw[if_neg e,if_neg (fun z=>e (h1.trans z))];exact⟨h1,h2,h3⟩
theorem KT.put {H:Hp} {kvs:List (List Key×V)} {xs:List (List Key×Addr×Value)} (r:KT H kvs xs) (k:List Key) {b:Addr} {y:V} {u:Value} (hb:H b=some (.tup (k.map kV))) (ry:RelV y u):
  KT H (putK kvs k y) (storedH xs k b u):=by
 have e:(kvs.any fun kv=>decide (kv.1=k))=(atKey xs k).isSome:=by
  rw[agk,(r.val k).isSome_eq,Option.isSome_map]
 unfold putK storedH
 rw[e]
 by_cases q:(atKey xs k).isSome=true
 ·rw[if_pos q,if_pos q];exact r.repl k ry
 ·rw[if_neg q,if_neg q];exact Paired.snoc r ⟨rfl,hb,ry⟩
section
variable {P:Program} {w:World} {H:Hp} {h:Heap} {a:Addr}
end
noncomputable def DGet (H:Hp) (a:Addr) (y:V) (r:Option V):Prop:=
 (∃kvs k,Rd H a (.dK kvs)∧y=kV k∧r=valV kvs k)∨∃kvs k b,Rd H a (.dT kvs)∧y=.ref b∧H b=some (.tup (k.map kV))∧r=valV kvs k
noncomputable def DPut (H:Hp) (a:Addr) (y v:V) (H':Hp):Prop:=
 (∃kvs k,H a=some (.dK kvs)∧y=kV k∧kvs.length < sizeLine∧H'=upd H a (.dK (putK kvs k v)))∨
 ∃kvs k b,H a=some (.dT kvs)∧y=.ref b∧H b=some (.tup (k.map kV))∧kvs.length < sizeLine∧H'=upd H a (.dT (putK kvs k v))
theorem DGet.k {H:Hp} {a:Addr} {kvs:List (Key×V)} {k:Key} (e:H a=some (.dK kvs)):DGet H a (kV k) (valV kvs k):=.inl ⟨kvs,k,.inl e,rfl,rfl⟩
theorem DGet.t {H:Hp} {a b:Addr} {kvs:List (List Key×V)} {k:List Key} (e:H a=some (.dT kvs)) (eb:H b=some (.tup (k.map kV))):DGet H a (.ref b) (valV kvs k):=.inr ⟨kvs,k,b,.inl e,rfl,eb,rfl⟩
theorem DPut.k {H:Hp} {a:Addr} {kvs:List (Key×V)} {k:Key} {v:V} (e:H a=some (.dK kvs)) (hl:kvs.length < sizeLine):DPut H a (kV k) v (upd H a (.dK (putK kvs k v))):=.inl ⟨kvs,k,e,rfl,hl,rfl⟩
theorem DPut.t {H:Hp} {a b:Addr} {kvs:List (List Key×V)} {k:List Key} {v:V} (e:H a=some (.dT kvs)) (eb:H b=some (.tup (k.map kV))) (hl:kvs.length < sizeLine):
 DPut H a (.ref b) v (upd H a (.dT (putK kvs k v))):=.inr ⟨kvs,k,b,e,rfl,eb,hl,rfl⟩
section
variable {X:Cx} {pins:List (Addr×Obj)} {σ:St} {H:Hp} {s:Shared} {a:Addr} {y v:V} {u r:Value} {o:Option V} {A:Around} {E:Value→Shared→Prop}
end
section
variable {X:Cx} {pins:List (Addr×Obj)} {σ:St} {H:Hp} {s:Shared} {a:Addr} {kvs:List (Key×V)} {k:Key} {u:Value} {A:Around} {E:Value→Shared→Prop}
end
section
variable {X:Cx} {o i e value:Expr} {pos pos' tpos:Pos} {td ty tv:TE}
end
section
variable {X:Cx} {pos:Pos}
end
section
variable {X:Cx} {pins:List (Addr×Obj)} {σ:St} {H:Hp} {s:Shared} {a:Addr} {y d:V} {u r:Value} {o:Option V} {A:Around} {E:Value→Shared→Prop}
end
section
variable {X:Cx} {o e f:Expr} {apos cpos:Pos} {td ty tx:TE}
end
section
variable {X:Cx} {pins:List (Addr×Obj)} {σ:St} {H:Hp} {s:Shared} {a:Addr} {kvs:List (Key×V)} {A:Around} {E:Value→Shared→Prop}
end
section
variable {X:Cx} {pins:List (Addr×Obj)} {σ:St} {H:Hp} {s:Shared} {a:Addr} {y:V} {u:Value} {A:Around} {E:Value→Shared→Prop}
end
end L2
namespace Att
open PySem PySem.W PySem.Calls PyProof.Rows
theorem ad7 {P:Params} {h:Heap}:∀(ns:List Int) (vs:List Value),WellAll P h vs (ns.map WData.int)→IntsAre vs ns:=by
 intro ns
 induction ns with
 |nil=>
  intro vs w
  rw[List.map_nil] at w
  cases w
  exact .nil
 |cons n ns ih=>
  intro vs w
  rw[List.map_cons] at w
  cases w with
  |cons a b=>
   cases a
   exact .cons _ _ (ih _ b)
theorem ah0 {l:OpenLaw} {n:Nat} (hn:l.most=some n) {P:Params} {h:Heap} {args:List WData} {vals:List Value}
  (hpre:l.row.toRowW.claim.pre args=true) (hwl:WellAll P h vals args):
  ∃a vs ns,vals=[Value.ref a]∧args=[WData.list (ns.map WData.int)]∧h.get? a=some {cls:=.type "list",data:=.seq vs.toArray}∧IntsAre vs ns∧ns.length≤n:=by
 have hsh:WShape.hasAll [] args [.list .int]=true:=(pre_splitW hpre).1
 have hc:l.pre.holds [] {args:=args}=true:=(pre_splitW hpre).2
 obtain⟨d,r,rfl,h1,h2⟩:=hasAllW_cons hsh
 obtain rfl:=hasAllW_nil h2
 obtain⟨xs,rfl,h3⟩:=hasW_list h1
 obtain⟨ns,rfl⟩:=items_int h3
 have hlen:ns.length≤n:=by
  unfold OpenLaw.pre at hc
  have h4:(WTm.not (.lt (.lit (.int (n:Int))) (.len (.arg 0)))).holds [] {args:=[.list (ns.map .int)]}=true:=by
   have h4:=(holds_andW hc).1
   rw[hn] at h4
   exact h4
  have h5:=condW_of h4 (w_not (w_lt w_lit (w_len_list (w_arg rfl))))
  rw[List.length_map] at h5
  refine Nat.le_of_not_lt fun q=>?_
  have q':(n:Int) < ((ns.length:Nat):Int):=by omega
  first
   |(rw[decide_eq_true q'] at h5;exact absurd h5 (by decide))
   |(simp at h5;omega)
 cases hwl with
 |cons w1 w2=>
  cases w2
  cases w1 with
  |list ho hall=>exact⟨_,_,ns,rfl,rfl,ho,ad7 ns _ hall,hlen⟩
theorem ah1 (l:OpenLaw) (args:List WData):l.row.toRowW.claim.post args (.bool true) args=true:=
 postW_of (r:=l.row.toRowW) (X:=(true == true))
  (show WShape.has [] (.bool true) .bool=true by first|rfl|decide|simp[WShape.has,WShape.arms,WShape.armsAll])
  (show (WTm.eq .res (.lit (.bool true))).value [] {args:=args,res:=some (.bool true),after:=args}=some (.bool (true == true)) from w_eq_bool (w_res rfl) w_lit) rfl
theorem af4 {l:OpenLaw} {n:Nat} {q:Program} {loose:List Str} {XP:(Str→Option Value)→Heap→Prop} {YP:World→Heap→Prop} {d:DefRec}
  (hn:l.most=some n) (hdf:d.params.defaults=[])
  (call:∀(w:World) (s₀ s₁:Shared) (mg mb:Str→Option Value) (fa:Addr) (o:Obj) (pm cd doc:Value) (a:Addr) (vs:List Value) (ns:List Int),
   Ground q loose [] XP w s₀ mg mb s₁.heap→YP w s₁.heap→
   s₁.heap.get? fa=some o→o.data=.func (docDef d.name d.params d.body d.scope pm cd doc)→s₁.heap.CodeRec cd d.name→mg d.name=some (.ref fa)→
   s₁.heap.get? a=some {cls:=.type "list",data:=.seq vs.toArray}→IntsAre vs ns→ns.length≤n→s₁.gens= #[]→
   codeAny (model l.prog w) callerA (.call (.ref fa) ⟨[.ref a],[]⟩) (fun r s'=>r=.ok (.ret (.bool true))∧OldK s₁.heap s'.heap∧s'.os=s₁.os∧AllBare s'.gens) s₁):
  WalkO q loose XP YP l.row.toRowW d [] (fun f vs=>PySem.call f vs):=by
 intro w s₀ s₁ mg mb G Y fa o pm cd doc dV kV ho hd hcd hD hmg hg args vals as hpre hlay hrd hwl hlo
 obtain rfl:dV=.none:=Dflts.none hD hdf
 obtain rfl:kV=.none:=Dflts.noKw hD
 obtain⟨a,vs,ns,rfl,rfl,hobj,hints,hlen⟩:=ah0 hn hpre hwl
 refine enter_call (codeAny_mono (call w s₀ s₁ mg mb fa o pm cd doc a vs ns G Y ho (fd_plain hd) hcd hmg hobj hints hlen hg) fun r s' hq=>?_)
 obtain⟨rfl,h2,h3,h4⟩:=hq
 exact⟨.inl ⟨.bool true,.bool true,[],rfl,fun _=>rfl,.bool true,ah1 l _,fun _=>⟨List.Pairwise.nil,fun _ hm=>(nomatch hm)⟩⟩,h2,h3,h4⟩
section
variable {prog:Program} {w:World} {A:Around} {E:Value→Shared→Prop} {s:Shared} {K:Frag}
noncomputable def ledger (h:Heap) (L d:Addr):List (Addr×Obj):=(List.range h.objs.size).filterMap fun a=>if a=L∨a=d then none else (h.get? a).map fun o=>(a,o)
end
end Att
namespace L2
open PySem PySem.Spec PyProof.Rows
theorem afk:∀{vs:List Value} {ns:List Int},IntsAre vs ns→Vals (ns.map V.int) vs
 |_,_,.nil=>.nil
 |_,_,.cons n t h=>.cons ⟨t,rfl⟩ (afk h)
noncomputable def Only (H:Hp):Prop:=∀b,H b=none∨∃o xs,H b=some (.frz o (.lst xs))
theorem aje {P:Program} {w:World} {K:PySem.W.Frag} {mg mb:Str→Option Value} {CX:CXT} {k:Nat} {fa a:Addr} {fd:FuncData} {x:Str} {sp:Sp} {s₁:Shared} {vs:List Value} {ns:List Int}
  (KX:K.In s₁.heap) (hns:s₁.heap.Ns mainGlobals mg) (hb:s₁.heap.Ns builtinsNs mb) (hbb:∀x:Str,x≠"__name__"→mb x=bootBuiltins x) (hlim:s₁.heap.NoLimit) (hg:s₁.gens= #[])
  (ha:s₁.heap.get? a=some {cls:=.type "list",data:=.seq vs.toArray}) (hi:IntsAre vs ns) (hl:ns.length≤sizeLine) (hr:Room k callerA)
  (F:∀base:Heap,K.In base→base.Ns mainGlobals mg→FnOk P w K mg base CX k fa fd [x] sp) (hbind:∀(s:Shared) (u:Value),BindsTo s fd ⟨[u],[]⟩ [(x,u)])
  (hsp:∀H:Hp,Only H→SqL K H a (ns.map V.int)→sp [.ref a] H (fun v _=>v=.bl true) fun _ _ _=>False)
  (hCX:∀H e s',CX [] H s₁ (fun _ _ _=>False) e s'→False):
  codeAny (model P w) callerA (.call (.ref fa) ⟨[.ref a],[]⟩) (fun r s'=>r=.ok (.ret (.bool true))∧OldK s₁.heap s'.heap∧s'.os=s₁.os∧AllBare s'.gens) s₁:=by
 have rv:=afk hi
 have lenV:=hi.length
 have core:∀H:Hp,Only H→SqL K H a (ns.map V.int)→HOk P w H s₁.heap→(∀b,H b≠none→b=a)→(H a≠none→K.lookup a=none)→
   codeAny (model P w) callerA (.call (.ref fa) ⟨[.ref a],[]⟩) (fun r s'=>r=.ok (.ret (.bool true))∧OldK s₁.heap s'.heap∧s'.os=s₁.os∧AllBare s'.gens) s₁:=by
  intro H hO hS hok hA hK
  have base_of:∀{b:Addr} {o:Obj},s₁.heap.get? b=some o→H b=none→(hidT s₁.heap H).get? b=some o:=fun e n=>ai6 e n
  have noA:∀{b:Addr} {o:Obj} {es:Array DictEntry} {ep:Nat},s₁.heap.get? b=some o→o.data=.dict es ep→H b=none:=fun {b o es ep} e d=>by
   cases q:H b with
   |none=>rfl
   |some u=>
    have e':b=a:=hA b (by rw[q];simp)
    subst e'
    rw[ha] at e;cases e
    have d':Data.seq vs.toArray _=Data.dict es ep:=d
    cases d'
  have nsK:∀{b:Addr} {m:Str→Option Value},s₁.heap.Ns b m→(hidT s₁.heap H).Ns b m:=fun {b m} ⟨o,es,ep,e,d,r⟩=>⟨o,es,ep,base_of e (noA e d),d,r⟩
  have hKb:K.In (hidT s₁.heap H):=fun b o e=>base_of (KX b o e) (by
   cases q:H b with
   |none=>rfl
   |some u=>
    have e':b=a:=hA b (by rw[q];simp)
    subst e'
    rw[hK (by rw[q];simp)] at e;cases e)
  have hM:Mod K mg (hidT s₁.heap H):=⟨hKb,nsK hns,⟨mb,nsK hb,hbb⟩,let ⟨mc,h1,h2⟩:=hlim;⟨mc,nsK h1,h2⟩⟩
  have e0:Env0 P w K mg (hidT s₁.heap H) callerA [] s₁ H:=⟨rfl,hM,fun b o e=>akf e,Nat.le_of_eq (ahl _ _),trivial,fun b hb=>absurd (show b∈([]:List Addr) from hb) (by simp),hok,.of_eq hg⟩
  refine codeAny_mono ((F _ hKb (nsK hns)).run callerA [] s₁ H ⟨[.ref a],[]⟩ [.ref a] [.ref a] _ _ hr e0 (hbind s₁ (.ref a)) (.cons rfl .nil) (hsp H hO hS)) fun r s' h=>?_
  cases r with
  |error e=>exact (hCX H e s' h).elim
  |ok fl=>
   cases fl with
   |next=>exact False.elim h
   |brk=>exact False.elim h
   |cont=>exact False.elim h
   |ret u=>
    obtain⟨v,H',os,bare,un,hok',r',q⟩:=h
    have q':v=.bl true:=q
    subst q'
    obtain rfl:u=Value.bool true:=r'
    refine⟨rfl,OldK.of_keep fun b o e=>?_,os,bare⟩
    cases q:H b with
    |none=>exact un.keep b o e q (by intro z;exact absurd (show b∈([]:List Addr) from z) (by simp)) (by simp)
    |some u=>
     rcases hO b with z|⟨ob,xs,z⟩
     ·rw[q] at z;cases z
     ·have z2:=un.frzs b ob _ z
      obtain⟨e1,_⟩:=hok b _ z
      obtain⟨e2,_⟩:=hok' b _ z2
      rw[e] at e1;cases e1
      exact e2
 cases hk:K.lookup a with
 |some o=>
  have e:=KX a o hk
  rw[ha] at e
  cases e
  refine core (fun _=>none) (fun _=>.inl rfl) (.inr ⟨_,vs.toArray,_,hk,rfl,rfl,rfl,by rw[List.size_toArray,lenV];exact hl,by simpa using rv⟩) (fun b u z=>by have z':(none:Option HO)=some u:=z;cases z') (fun b z=>absurd rfl z) fun z=>absurd rfl z
 |none=>
  refine core (fun b=>if b=a then some (.frz {cls:=.type "list",data:=.seq vs.toArray} (.lst (ns.map V.int))) else none) (fun b=>?_) (.inl (.inr ⟨{cls:=.type "list",data:=.seq vs.toArray},if_pos rfl⟩)) (fun b u z=>?_) (fun b z=>?_) fun _=>hk
  ·by_cases hb:b=a
   ·exact .inr ⟨_,_,if_pos hb⟩
   ·exact .inl (if_neg hb)
  ·by_cases hb:b=a
   ·have z':=(if_pos hb).symm.trans z
    cases z'
    subst hb
    exact⟨ha,by rw[List.length_map];exact hl,vs,_,rv,ha⟩
   ·have z':=(if_neg hb).symm.trans z
    cases z'
  ·by_cases hb:b=a
   ·exact hb
   ·exact absurd (if_neg hb) z
end L2
namespace L2
open PySem PySem.Spec PyProof.Rows
theorem akq {l:PySem.W.OpenLaw} {n k:Nat} {q:Program} {loose:List Str} {XP:(Str→Option Value)→Heap→Prop} {YP:World→Heap→Prop} {d:DefRec} {K:Params→PySem.W.Frag} {CX:World→CXT} {sp:World→Sp} {x:Str}
  (hn:l.most=some n) (hn2:n≤sizeLine) (hdf:d.params.defaults=[]) (hr:Room k callerA)
  (hY:∀(w:World) (h:Heap),YP w h→(K w.params).In h)
  (F:∀(w:World) (mg:Str→Option Value) (fa:Addr) (h:Heap),(K w.params).In h→h.Ns mainGlobals mg→mg d.name=some (.ref fa)→
   ∃fd:FuncData,(∀(s:Shared) (u:Value),BindsTo s fd ⟨[u],[]⟩ [(x,u)])∧
    ∀base:Heap,(K w.params).In base→base.Ns mainGlobals mg→FnOk l.prog w (K w.params) mg base (CX w) k fa fd [x] (sp w))
  (hsp:∀(w:World) (H:Hp) (a:Addr) (ns:List Int),ns.length≤n→Only H→SqL (K w.params) H a (ns.map V.int)→sp w [.ref a] H (fun v _=>v=.bl true) fun _ _ _=>False)
  (hCX:∀(w:World) (H:Hp) (s:Shared) (e:Value) (s':Shared),CX w [] H s (fun _ _ _=>False) e s'→False):
  PySem.W.WalkO q loose XP YP l.row.toRowW d [] (fun f vs=>PySem.call f vs):=by
 refine Att.af4 hn hdf fun w s₀ s₁ mg mb fa o pm cd doc a vs ns G Y ho hd hcd hmg hobj hints hlen hg=>?_
 have KX:=hY w _ Y
 obtain⟨fd,hb,hF⟩:=F w mg fa _ KX G.T.g hmg
 exact aje KX G.T.g G.T.b G.T.builtins G.T.nolimit hg hobj hints (Nat.le_trans hlen hn2) hr hF hb (fun H hO hS=>hsp w H a ns hlen hO hS) fun H e s'=>hCX w H s₁ e s'
end L2
namespace L2
open PySem PySem.Spec PyProof.Rows
noncomputable def inClass (s:Stmt) (j:Nat):Stmt:=match s with
 |.ClassDef _ _ _ body _ _ _ _ _ _ _=>body.getD j (.Pass ⟨0,0,0,0⟩)
 |_=>.Pass ⟨0,0,0,0⟩
noncomputable def defArgs (s:Stmt):Arguments:=match s with
 |.FunctionDef _ a _ _ _ _ _ _ _ _=>a
 |_=>{posonlyargs:=[],args:=[],vararg:=none,kwonlyargs:=[],kw_defaults:=[],kwarg:=none,defaults:=[]}
noncomputable def defBody (s:Stmt):List Stmt:=match s with
 |.FunctionDef _ _ b _ _ _ _ _ _ _=>b
 |_=>[]
noncomputable def defScope (s:Stmt):Scope:=match s with
 |.FunctionDef _ _ _ _ _ _ sc _ _ _=>sc
 |_=>{kind:=.function,names:=[],isGenerator:=false,isCoroutine:=false}
noncomputable abbrev CX0:CXT:=fun _ _ _ _ _ _=>False
structure Fun (K:PySem.W.Frag) (x qual:Str) (st:Stmt) (f:Addr) (fd:FuncData):Prop where
 ex:∃(oc:Value) (od:Option Addr) (kV doc pm:Value) (an:Option Addr) (cdv ct:Value) (osl:Array (Option Value)),
  fd=PySem.W.fnOf x qual (defArgs st) (defBody st) (defScope st) .none kV doc pm an cdv ct∧K.lookup f=some ⟨oc,od,.func fd,osl⟩∧PySem.W.codeIn K cdv qual=true
 kp:PySem.W.keepIn K (.ref f)=true
section
variable {P:Program} {w:World} {K:PySem.W.Frag} {mg:Str→Option Value} {base:Heap}
theorem Fun.ok {x qual:Str} {st:Stmt} {f:Addr} {fd:FuncData} {N ps:List Str} {k:Nat} {sp:Sp} (F:Fun K x qual st f fd) (S:FnScope N ps (defScope st)) (len:∀vs H Q E,sp vs H Q E→vs.length=ps.length)
  (hbody:∀(cdv:Value) (A:Around) (outer:List Env) (s:Shared) (H:Hp) (vs:List V) (Q:VK) (E:XK),Room k (A.deeper (envOfC qual (defScope st) s.heap.objs.size f cdv))→sp vs H Q E→
   ∃t,PSs (cxOf CX0 P w K mg base N qual (defScope st) f cdv A outer s H E).nox (defBody st) t∧t {nx:=fun _ H'=>Q .non H',rt:=Q} (start N vs) H):FnOk P w K mg base CX0 (k+1) f fd ps sp:=by
 obtain⟨oc,od,kV,doc,pm,an,cdv,ct,osl,rfl,lk,hcd⟩:=F.ex
 refine akn lk hcd S len fun A outer s H vs Q E hr hsp=>?_
 obtain⟨t,h,q⟩:=hbody cdv A outer s H vs Q E hr hsp
 exact⟨t,h.nox,q⟩
theorem Fun.binds {x qual:Str} {st:Stmt} {f:Addr} {fd:FuncData} {ps:List Str} (F:Fun K x qual st f fd)
  (h:∀(kV doc pm:Value) (an:Option Addr) (cdv ct:Value) (us:List Value),us.length=ps.length→bindArgs (PySem.W.fnOf x qual (defArgs st) (defBody st) (defScope st) .none kV doc pm an cdv ct) ⟨us,[]⟩=pure (ps.zip us)):Binds K fd ps []:=by
 obtain⟨oc,od,kV,doc,pm,an,cdv,ct,osl,rfl,lk,hcd⟩:=F.ex
 exact .all (h kV doc pm an cdv ct)
theorem aal {x qual:Str} {st:Stmt} {f:Addr} {oc:Value} {od an:Option Addr} {osl:Array (Option Value)} {kV doc pm cdv ct:Value} (l:K.lookup f=some ⟨oc,od,.func (PySem.W.fnOf x qual (defArgs st) (defBody st) (defScope st) .none kV doc pm an cdv ct),osl⟩)
 (c:PySem.W.codeIn K cdv qual=true) (k:PySem.W.keepIn K (.ref f)=true):Fun K x qual st f (PySem.W.fnOf x qual (defArgs st) (defBody st) (defScope st) .none kV doc pm an cdv ct):=⟨⟨oc,od,kV,doc,pm,an,cdv,ct,osl,rfl,l,c⟩,k⟩
end
section
variable {X:Cx}
end
theorem iteF {A B:Prop} (h:B):if false=true then A else B:=by
 rw[if_neg Bool.false_ne_true]
 exact h
theorem iteT {A B:Prop} (h:A):if true=true then A else B:=by
 rw[if_pos rfl]
 exact h
theorem ite2 {c A B:Prop} [Decidable c] (h1:c→A) (h2:¬c→B):if c then A else B:=by
 by_cases h:c
 ·rw[if_pos h]
  exact h1 h
 ·rw[if_neg h]
  exact h2 h
noncomputable def Same (H H':Hp):Prop:=∀b o,H b=some o→H' b=some o
theorem Same.trans {H H1 H2:Hp} (a:Same H H1) (b:Same H1 H2):Same H H2:=fun c o h=>b c o (a c o h)
theorem Same.free {H H':Hp} (e:Same H H') {l:Addr} (h:H' l=Option.none):H l=Option.none:=by
 cases q:H l with
 |none=>rfl
 |some o=>
  rw[e l o q] at h
  cases h
theorem Same.seq {K:PySem.W.Frag} {H H':Hp} {a:Addr} {xs:List V} (e:Same H H') (h:SqL K H a xs):SqL K H' a xs:=by
 rcases h with (h|⟨o,h⟩)|h
 ·exact .inl (.inl (e _ _ h))
 ·exact .inl (.inr ⟨o,e _ _ h⟩)
 ·exact .inr h
section
variable {κ:Type} [DecidableEq κ]
end
end L2
set_option maxHeartbeats 4000000
namespace L2
open PySem PySem.Spec PyProof.Rows
section
variable {M:Model} {A:Around} {E:Value→Shared→Prop} {s:Shared}
noncomputable def NoCx (e:Addr) (h:Heap):Prop:=∃o vs,h.get? e=some o∧o.data=.fields vs∧vs[2]?=some .none
theorem entryC {B:Heap} {env:Env} {ol:List Env} {L e:Addr} {oe:Obj} {vs:Array Value} {hd0 a0:Value} {nx:Bool} {Q:Unit→Shared→Prop}
  (fr:A.frames=some (env::ol)) (ff:s.heap.FunFrames B (env::ol)) (ef:env.frame=some L) (ge:s.heap.get? e=some oe) (st:B.StaysIn s.heap) (ne:B.get? e=none) (dd:oe.data=.fields vs) (sz:1 < vs.size) (v0:vs[0]?=some a0) (v2:vs[2]?=some .none)
  (q:∀h',Heap.NotedW B (env::ol) e oe.cls a0 (rawInt L) s.heap h'→NoCx e h'→Q () {s with heap:=h'}):
  wpAny M A (do let a←frameOf env;let pl←entryPlaceOf L nx;let b←EntryCells.newEntry hd0 a .none (rawInt L) .none pl;setField (.ref e) 1 b) Q E s:=by
 have notF:e∉(env::ol).filterMap (·.frame):=fun m=>by
  obtain⟨_,o,go,nf⟩:=ff.mem m
  rw[ge] at go
  cases go
  exact nf vs dd
 refine wpAny_bind (wpAny_frameOf_fun fr ff ef fun k1 z1=>wpAny_bind (wpAny_entryPlaceOf fun pl zp=>?_))
 unfold EntryCells.newEntry newFields
 refine wpAny_bind (wpAny_newObj_type ?_ (zp.sizeOk5 _ _ _ _ _))
 have g1:k1.get? e=some oe:=(z1.2.1 e notF).trans ge
 have st1:B.StaysIn k1:=fun b o hb=>(z1.2.1 b fun m=>by rw[(ff.mem m).1] at hb;cases hb).trans (st b o hb)
 generalize ho:({cls:=.type "traceback",dict:=none,data:=.fields ([hd0,.ref L,.none,rawInt L,.none]++(if pl.isEmpty then List.replicate 6 Value.none else pl)).toArray}:Obj)=nT
 have hdT:nT.data=.fields ([hd0,.ref L,.none,rawInt L,.none]++(if pl.isEmpty then List.replicate 6 Value.none else pl)).toArray:=by rw[←ho]
 have hfreed:nT.isFreed=false:=Obj.isFreed_of_fields hdT
 have g2:(k1.push nT).get? e=some oe:=Heap.get?_push_of_some nT g1
 have gT:(k1.push nT).get? k1.objs.size=some nT:=Heap.get?_push_size k1 hfreed
 refine wpAny_setField g2 dd sz ?_
 have dis:k1.objs.size≠e:=Nat.ne_of_gt (Heap.lt_size g1)
 have d3:=Obj.data_mapFields dd (·.setIfInBounds 1 (Value.ref k1.objs.size))
 have g3:=Heap.get?_update_self (Obj.mapFields (·.setIfInBounds 1 (Value.ref k1.objs.size))) g2 (Obj.isFreed_of_fields d3)
 have gT3:=(Heap.get?_update_other (k1.push nT) (Obj.mapFields (·.setIfInBounds 1 (Value.ref k1.objs.size))) (Ne.symm dis)).trans gT
 have kp:∀b o,b≠e→k1.get? b=some o→((k1.push nT).update e (Obj.mapFields (·.setIfInBounds 1 (Value.ref k1.objs.size)))).get? b=some o:=fun b o n g=>by
  rw[Heap.get?_update_other _ _ (Ne.symm n)]
  exact Heap.get?_push_of_some _ g
 have rcd:∀b o,s.heap.get? b=some o→(∀vs,o.data≠.fields vs)→b≠e:=fun b o g nf z=>by
  rw[z,ge] at g
  cases g
  exact nf vs dd
 have t3:([hd0,.ref L,.none,rawInt L,.none]++(if pl.isEmpty then List.replicate 6 Value.none else pl)).toArray[3]?=some (rawInt L):=by simp
 refine q _ ⟨fun b o hb=>kp b o (fun z=>by rw[z,ne] at hb;cases hb) (st1 b o hb),ff.of_keeps fun b o g nf=>?_,⟨_,_,k1.objs.size,nT,_,g3,⟨Obj.cls_mapFields _ _,?_⟩,d3,?_,st1.fresh,dis,gT3,hdT,t3⟩,fun b o g nf=>?_⟩ ⟨_,_,g3,d3,?_⟩
 ·obtain⟨sl,hs⟩:=z1.2.2 b o g
  exact⟨_,kp b _ (rcd b o g nf) hs,rfl⟩
 ·rw[Array.getElem?_setIfInBounds_ne (by decide)];exact v0
 ·simp[sz]
 ·obtain⟨sl,hs⟩:=z1.2.2 b o g
  exact⟨sl,kp b _ (rcd b o g nf) hs⟩
 ·rw[Array.getElem?_setIfInBounds_ne (by decide)];exact v2
theorem landsC {B:Heap} {l:List Env} {e:Addr} {cls a0 fl:Value} {Q:Unit→Shared→Prop} (st:B.StaysIn s.heap) (ff:s.heap.FunFrames B l) (tr:s.heap.TracedAtW B e cls a0 fl) (nc:NoCx e s.heap) (ne:B.get? e=none)
  (q:∀h',Heap.FlyingW B l e cls a0 h'→s.heap.UpToSlots h'→NoCx e h'→Q () {s with heap:=h'}):wpAny M A (setFlight (.ref e) none) Q E s:=by
 obtain⟨oe,vs,T,oT,ts,ge,hc,dd,v1,nT,dis,gT,dT,t3⟩:=tr
 have s3:3 < ts.size:=(Array.getElem?_eq_some_iff.mp t3).1
 unfold setFlight
 refine wpAny_bind (wpAny_field ge dd v1 ?_)
 rw[if_pos (show (Value.ref T != Value.none)=true by simp)]
 have oth:∀b,b≠T→(s.heap.update T (Obj.mapFields (·.setIfInBounds 3 ((none:Option Addr).elim Value.none fun f=>rawInt f)))).get? b=s.heap.get? b:=fun b n=>Heap.get?_update_other _ _ (Ne.symm n)
 have rcd:∀b o,s.heap.get? b=some o→(∀vs,o.data≠.fields vs)→b≠T:=fun b o g nf z=>by
  rw[z,gT] at g
  cases g
  exact nf ts dT
 refine wpAny_setField gT dT s3 (q _ ⟨fun b o hb=>(oth b fun z=>by rw[z,nT] at hb;cases hb).trans (st b o hb),ne,ff.of_keeps fun b o g nf=>⟨o,(oth b (rcd b o g nf)).trans g,rfl⟩,?_⟩ (fun b o g nf=>⟨o.slots,(oth b (rcd b o g nf)).trans g⟩) ?_)
 ·exact⟨oe,vs,T,_,_,(oth e (Ne.symm dis)).trans ge,hc,dd,v1,nT,dis,Heap.get?_update_self _ gT (Obj.isFreed_of_fields (Obj.data_mapFields dT _)),Obj.data_mapFields dT _,by simp[s3]⟩
 ·obtain⟨o,vs',g,d,v⟩:=nc
  exact⟨o,vs',(oth e (Ne.symm dis)).trans g,d,v⟩
theorem looksC {B:Heap} {env:Env} {ol:List Env} {L e:Addr} {cls a0:Value} {Q:Unit→Shared→Prop} (fr:A.frames=some (env::ol)) (ef:env.frame=some L) (fl:Heap.FlyingW B (env::ol) e cls a0 s.heap) (nc:NoCx e s.heap)
  (q:∀h',Heap.HeldW B (env::ol) e cls a0 L h'→s.heap.UpToSlots h'→NoCx e h'→Q () {s with heap:=h'}):wpAny M A (noteFrame (.ref e) env) Q E s:=by
 obtain⟨st,ne,ff,oe,vs,T,oT,ts,ge,⟨hc,v0⟩,dd,v1,nT,dis,gT,dT,t3⟩:=fl
 obtain⟨o',vs',g',d',v2⟩:=nc
 rw[ge] at g'
 cases g'
 rw[dd] at d'
 cases d'
 subst hc
 unfold noteFrame
 simp only[ef]
 refine wpAny_bind (wpAny_field ge dd v1 ?_)
 rw[if_pos (show (Value.ref T != Value.none)=true by simp)]
 refine wpAny_bind (wpAny_field gT dT t3 ?_)
 rw[if_neg (show ¬((Value.none == rawInt L)=true) by simp[rawInt])]
 refine wpAny_bind (wpAny_setField gT dT (Array.getElem?_eq_some_iff.mp t3).1 ?_)
 have oth:∀b,b≠T→(s.heap.update T (Obj.mapFields (·.setIfInBounds 3 Value.none))).get? b=s.heap.get? b:=fun b n=>Heap.get?_update_other _ _ (Ne.symm n)
 have rcd:∀b o,s.heap.get? b=some o→(∀vs,o.data≠.fields vs)→b≠T:=fun b o g nf z=>by
  rw[z,gT] at g
  cases g
  exact nf ts dT
 refine entryC fr (ff.of_keeps fun b o g nf=>⟨o,(oth b (rcd b o g nf)).trans g,rfl⟩) ef ((oth e (Ne.symm dis)).trans ge) (fun b o hb=>(oth b fun z=>by rw[z,nT] at hb;cases hb).trans (st b o hb)) ne dd (Array.getElem?_eq_some_iff.mp v1).1 v0 v2 fun h' ⟨x1,x2,x3,x4⟩ nc'=>?_
 exact q h' ⟨x1,ne,x2,x3⟩ (fun b o g nf=>x4 b o ((oth b (rcd b o g nf)).trans g) nf) nc'
theorem leavesC {B:Heap} {env:Env} {ol:List Env} {L e:Addr} {cls a0:Value} {Q:Unit→Shared→Prop} (fr:A.frames=some (env::ol)) (ef:env.frame=some L) (fl:Heap.FlyingW B (env::ol) e cls a0 s.heap) (nc:NoCx e s.heap)
  (q:∀h',Heap.FlyingW B ol e cls a0 h'→s.heap.UpToSlots h'→NoCx e h'→Q () {s with heap:=h'}):wpAny M A (leaving env (.ref e)) Q E s:=by
 unfold leaving
 refine wpAny_bind (looksC fr ef fl nc fun k ⟨h1,h2,h3,h4⟩ up nk=>?_)
 refine landsC (s:={s with heap:=k}) h1 h3 h4 nk h2 fun k' ⟨f1,f2,⟨_,_,f3⟩,f4⟩ up' nk'=>?_
 exact q k' ⟨f1,f2,f3,f4⟩ (up.trans up') nk'
theorem leavesMadeC {B h:Heap} {env:Env} {ol:List Env} {L e:Addr} {cls:Value} {args:List Value} {Q:Unit→Shared→Prop} (fr:A.frames=some (env::ol)) (ef:env.frame=some L) (st:B.StaysIn h) (ff:h.FunFrames B (env::ol)) (mk:Heap.MadeExcOf h s.heap e cls args)
  (q:∀h' t,Heap.FlyingW B ol e cls (.ref t) h'→s.heap.UpToSlots h'→NoCx e h'→Q () {s with heap:=h'}):wpAny M A (leaving env (.ref e)) Q E s:=by
 obtain⟨t,ge,_,_⟩:=mk.there
 have new:∀b,h.get? b=none→B.get? b=none:=fun b hb=>by
  cases z:B.get? b with
  |none=>rfl
  |some o=>have:=st b o z;rw[hb] at this;cases this
 unfold leaving noteFrame
 simp only[ef]
 refine wpAny_bind (wpAny_bind (wpAny_field ge rfl (x:=.none) rfl ?_))
 rw[if_neg (by decide)]
 refine entryC fr (ff.of_keeps fun b o hb _=>⟨o,mk.keeps b o hb,rfl⟩) ef ge (fun b o hb=>mk.keeps b o (st b o hb)) (new e mk.new) rfl (by simp) (a0:=.ref t) rfl rfl fun k ⟨x1,x2,x3,x4⟩ nk=>?_
 refine landsC (s:={s with heap:=k}) x1 x2 x3 nk (new e mk.new) fun k' ⟨f1,f2,⟨_,_,f3⟩,f4⟩ up' nk'=>?_
 exact q k' t ⟨f1,f2,f3,f4⟩ (Heap.UpToSlots.trans (fun b o g nf=>x4 b o g nf) up') nk'
end
end L2
namespace L2
open PySem PySem.Spec PyProof.Rows
structure Fly (B:Heap) (l:List Env) (h:Heap) (H H':Hp) (h':Heap) (ea:Addr) (cls:Value):Prop where
 fl:∃a0,Heap.FlyingW B l ea cls a0 h'
 trk:∀b u,H' b=some u→∃o,B.get? b=some o
 kept:∀b o,h.get? b=some o→H b=none→b∉frs l→B.get? b=some o
 alive:∀b o,h.get? b=some o→b∉frs l→∃o',B.get? b=some o'
 nc:NoCx ea h'
noncomputable def CXe (P:Program) (w:World):CXT:=fun outer H s E e s'=>∃ea cls H' B,e=.ref ea∧s'.os=s.os∧AllBare s'.gens∧Un (frs outer) [] H H' s.heap s'.heap∧HOk P w H' s'.heap∧Fly B outer s.heap H H' s'.heap ea cls∧E cls none H'
noncomputable abbrev XKs:=Value→St→Hp→Prop
noncomputable def XW (X:Cx) (K:XKs):Prop:=∀(pins:List (Addr×Obj)) (σ:St) (H:Hp) (s s':Shared) (ea:Addr) (cls:Value) (H':Hp) (B:Heap),Inv X pins σ H s→s'.os=s.os→AllBare s'.gens→
 Un (frs X.stack) [] H H' s.heap s'.heap→HOk X.prog X.w H' s'.heap→Fly B X.stack s.heap H H' s'.heap ea cls→K cls σ H'→X.xe (.ref ea) s'
theorem agl {env:Env} {l:List Env} {L:Addr} (h:env.frame=some L):frs (env::l)=L::frs l:=by
 unfold frs;rw[List.filterMap_cons,h]
theorem HOk.flown {P:Program} {w:World} {H:Hp} {B h h':Heap} (x:HOk P w H h) (t:∀b u,H b=some u→∃o,B.get? b=some o) (s:B.StaysIn h) (s':B.StaysIn h'):HOk P w H h':=fun a o e=>
 (x a o e).stay (fun b u hb q=>by
  have hB:∃o,B.get? b=some o:=by
   rcases hb with rfl|hb
   ·exact t _ _ e
   ·exact t _ _ hb
  obtain⟨o',ho⟩:=hB
  have e1:=s b o' ho
  rw[q] at e1;cases e1
  exact s' b _ ho) (fun _ q=>q) fun _ _ q=>q
theorem aaj {P:Program} {w:World} {K:PySem.W.Frag} {mg:Str→Option Value} {base:Heap} {N:List Str} {qual:Str} {scope:Scope} {f:Addr} {cd:Value} {A:Around} {outer:List Env} {s0:Shared} {H0:Hp} {E:XK}:
  XW (cxOf (CXe P w) P w K mg base N qual scope f cd A outer s0 H0 E) (fun c _ H'=>E c none H'):=by
 intro pins σ H s s' ea cls H' B I os bare un hok fly hK
 have I':=I.call' (s':=s') (ch:=[]) os un hok bare (fun b z=>absurd z (by simp))
 have hfr:=I.ok.frames
 have hstk:(cxOf (CXe P w) P w K mg base N qual scope f cd A outer s0 H0 E).stack=envOfC qual scope s0.heap.objs.size f cd::outer:=rfl
 rw[hstk] at hfr
 obtain⟨a0,hfl⟩:=fly.fl
 have hf:(envOfC qual scope s0.heap.objs.size f cd).frame=some s0.heap.objs.size:=rfl
 show wpAny _ _ (leaving (envOfC qual scope s0.heap.objs.size f cd) (.ref ea)) _ _ s'
 refine leavesC hfr hf hfl fly.nc fun h' fl' up nc'=>?_
 have hfs:frs (envOfC qual scope s0.heap.objs.size f cd::outer)=s0.heap.objs.size::frs outer:=agl hf
 have nf:∀b o,s0.heap.get? b=some o→b∉frs outer→b∉frs (envOfC qual scope s0.heap.objs.size f cd::outer):=fun b o e n z=>by
  rw[hfs] at z
  rcases List.mem_cons.mp z with z|z
  ·exact absurd (Heap.lt_size e) (by rw[z];exact Nat.lt_irrefl _)
  ·exact n z
 have stay:∀b o,s0.heap.get? b=some o→H0 b=none→b∉frs outer→B.get? b=some o:=fun b o e n hb=>
  fly.kept b o (I.base.keep b o e n hb (by intro z;exact absurd z (by simp[cxOf]))) (I.base.free b o e n (by intro z;exact absurd z (by simp[cxOf]))) (nf b o e hb)
 have live:∀b o,s0.heap.get? b=some o→b∉frs outer→∃o',B.get? b=some o':=fun b o e hb=>by
  obtain⟨o1,e1⟩:=I.base.there b o e (by intro z;exact absurd z (by simp[cxOf]))
  exact fly.alive b o1 e1 (nf b o e hb)
 refine⟨ea,cls,H',B,rfl,I'.os,bare,?_,hok.flown fly.trk hfl.1 fl'.1,⟨⟨a0,fl'⟩,fly.trk,stay,live,nc'⟩,hK⟩
 have noA:∀b:Addr,b∉(cxOf (CXe P w) P w K mg base N qual scope f cd A outer s0 H0 E).ex:=fun b z=>absurd z (by simp[cxOf])
 have slotOf:∀b,b∈frs outer→∀o,s'.heap.get? b=some o→∃sl,h'.get? b=some {o with slots:=sl}:=fun b hb o e=>by
  have hm:b∈frs (envOfC qual scope s0.heap.objs.size f cd::outer):=by rw[hfs];exact List.mem_cons_of_mem _ hb
  obtain⟨_,o',ho',hd⟩:=hfl.2.2.1.mem hm
  rw[e] at ho';cases ho'
  exact up b o e hd
 refine⟨fun b o e n hb _=>fl'.1 b o (stay b o e n hb),fun b o e n hb _=>?_,fun b o e n _=>I'.base.free b o e n (noA b),fun b o e _=>?_,I'.base.tups,I'.base.frzs,I'.base.tbls⟩
 ·obtain⟨sl,e1⟩:=I'.base.slot b o e n hb (noA b)
  obtain⟨sl',e2⟩:=slotOf b hb _ e1
  exact⟨sl',e2⟩
 ·by_cases hb:b∈frs outer
  ·obtain⟨o1,e1⟩:=I'.base.there b o e (noA b)
   obtain⟨sl,e2⟩:=slotOf b hb _ e1
   exact⟨_,e2⟩
  ·obtain⟨o1,e1⟩:=live b o e hb
   exact⟨o1,fl'.1 b o1 e1⟩
noncomputable def Have (P:Program) (w:World) (K:PySem.W.Frag) (mg:Str→Option Value) (base:Heap) (x:Str) (k:Nat) (ps:List Str) (dvs:List V) (sp:Sp):Prop:=
 ∃f fd ds,mg x=some (.ref f)∧PySem.W.keepIn K (.ref f)=true∧Binds K fd ps ds∧Vals dvs ds∧FnOk P w K mg base (CXe P w) k f fd ps sp
noncomputable def HaveM (P:Program) (w:World) (K:PySem.W.Frag) (mg:Str→Option Value) (base:Heap) (C:Addr) (m:Str) (k:Nat) (ps:List Str) (dvs:List V) (sp:Sp):Prop:=
 ∃f fd ds,Meth K C m f∧Binds K fd ps ds∧Vals dvs ds∧FnOk P w K mg base (CXe P w) k f fd ps sp
noncomputable def HaveI (P:Program) (w:World) (K:PySem.W.Frag) (mg:Str→Option Value) (base:Heap) (x:Str) (C:Addr) (k:Nat) (ps:List Str) (dvs:List V) (sp:Sp):Prop:=
 ∃f fd ds,mg x=some (.ref C)∧Mk K C f∧Binds K fd ps ds∧Vals dvs ds∧FnOk P w K mg base (CXe P w) k f fd ps sp
noncomputable def tCallE (Kx:XKs) (sp:Sp) (dvs:List V) (t:TA):TE:=fun σ H Q=>t σ H fun vs H1=>sp (vs++dvs) H1 Q (fun c _ H'=>Kx c σ H')
noncomputable def tMethE (Kx:XKs) (C:Addr) (m:Str) (sp:Sp) (dvs:List V) (ta:TE) (t:TA):TE:=fun σ H Q=>ta σ H fun x H1=>∃a dx fs,x=.ref a∧H1 a=some (.ins C dx fs)∧fs.lookup m=none∧
 t σ H1 fun vs H2=>sp (x::(vs++dvs)) H2 Q (fun c _ H'=>Kx c σ H')
noncomputable def tMakeE (Kx:XKs) (C:Addr) (sp:Sp) (dvs:List V) (t:TA):TE:=fun σ H Q=>t σ H fun vs H1=>∀x dx,H1 x=none→H1 dx=none→dx≠x→
 sp (.ref x::(vs++dvs)) (upd (upd H1 dx (.own x)) x (.ins C dx [])) (fun v H2=>v=.non∧Q (.ref x) H2) (fun c _ H'=>Kx c σ H')
section
variable {X:Cx} {Kx:XKs} {k:Nat} {f C:Addr} {fd:FuncData} {ps:List Str} {sp:Sp} {dvs:List V} {ds:List Value} {x m:Str} {p pos apos:Pos} {e o:Expr} {es:List Expr} {ta:TE} {t:TA}
theorem af5 {pins:List (Addr×Obj)} {σ:St} {H:Hp} {s:Shared} {Q:VK} {us:List Value} {vs:List V} (F:FnOk X.prog X.w X.K X.mg X.base (CXe X.prog X.w) k f fd ps sp) (hr:Room k X.A) (hb:Binds X.K fd ps ds) (hd:Vals dvs ds) (hx:XW X Kx)
  (I:Inv X pins σ H s) (r:Vals vs us) (h:sp (vs++dvs) H Q (fun c _ H'=>Kx c σ H')):wpAny (model X.prog X.w) X.A (call (.ref f) us) (EP X pins σ Q) X.xe s:=by
 have r2:Vals (vs++dvs) (us++ds):=r.append hd
 have hl:(us++ds).length=ps.length:=by rw[←r2.length];exact F.len _ _ _ _ h
 refine wpAny_call (codeAny_mono (F.run X.A X.stack s H ⟨us,[]⟩ (us++ds) (vs++dvs) Q _ hr I.env0 (hb s us I.kIn hl) r2 h) fun r s' hq=>?_)
 cases r with
 |error e=>
  obtain⟨ea,cls,H',B,rfl,os,bare,un,hok,fly,hK⟩:=hq
  exact hx pins σ H s s' ea cls H' B I os bare un hok fly hK
 |ok fl=>
  cases fl with
  |ret u=>exact I.after hq
  |next=>exact False.elim hq
  |brk=>exact False.elim hq
  |cont=>exact False.elim hq
theorem aai (F:Have X.prog X.w X.K X.mg X.base x k ps dvs sp) (hr:Room k X.A) (hx:XW X Kx) (ha:PA X (e::es) t) (hg:Gl X x:=by rfl) (hdb:(x == ("__debug__":Str))=false:=by decide)
  (he:starEach (e::es) X.env=(false,eval e X.env)::starEach es X.env:=by rfl) (hpl:(backTo pos (starEach es X.env)).any (·.1)=false:=by rfl):
  PE X (.Call (.Name x p) (e::es) [] pos) (tCallE Kx sp dvs t):=by
 obtain⟨f,fd,ds,hm,hk,hb,hd,F⟩:=F
 intro pins s σ H Q I h
 refine wpAny_Call_Name_kw (ad1 I hg hm ?_ hdb)
 refine PySem.W.callWith_K (h₀:=X.base) I.ok.mod.kin hk (thn (ha pos pins s σ H _ I h) fun us s1 ⟨vs,H1,I1,r,q⟩=>⟨I1.kIn,?_⟩) he hpl
 exact af5 F hr hb hd hx I1 r q
theorem aao {pl:Sem Bool} (ho:PE X o ta) (c:Cls X.K C) (F:HaveM X.prog X.w X.K X.mg X.base C m k ps dvs sp) (hr:Room k X.A) (hx:XW X Kx) (ha:PA X (e::es) t)
  (hst:starEach (e::es) X.env=(false,eval e X.env)::starEach es X.env:=by rfl) (hpl:(backTo pos (starEach es X.env)).any (·.1)=false:=by rfl)
  (ht:eval (.Call (.Attribute o m apos) (e::es) [] pos) X.env=(do
   let ov←eval o X.env
   standAt apos.atName
   let (f,first)←holding [ov] (getMethod ov m pl)
   callWith pos f first (backTo pos (starEach (e::es) X.env)) (backToKw pos (keywordEach [] X.env))):=by rfl):
  PE X (.Call (.Attribute o m apos) (e::es) [] pos) (tMethE Kx C m sp dvs ta t):=by
 obtain⟨f,fd,ds,hm,hb,hd,F⟩:=F
 intro pins s σ H Q I h
 refine PySem.W.methodCall_KW (pl:=pl) (thn (ho pins s σ H _ I h) fun u s1 ⟨x,H1,I1,rx,a,dx,fs,ex,ea,l,q⟩=>?_) ht
 subst ex
 obtain rfl:u=Value.ref a:=rx
 refine aef I1 ea c hm l ?_
 refine PySem.W.callWith_K (first:=[.ref a]) (h₀:=X.base) I.ok.mod.kin hm.kp (thn (ha pos pins s1 σ H1 _ I1 q) fun us s2 ⟨vs,H2,I2,r,q2⟩=>⟨I2.kIn,?_⟩) hst hpl
 exact af5 (us:=.ref a::us) (vs:=.ref a::vs) F hr hb hd hx I2 (.cons rfl r) q2
theorem ah2 {pl:Sem Bool} (ho:PE X o ta) (c:Cls X.K C) (F:HaveM X.prog X.w X.K X.mg X.base C m k ps dvs sp) (hr:Room k X.A) (hx:XW X Kx)
  (ht:eval (.Call (.Attribute o m apos) [] [] pos) X.env=(do
   let ov←eval o X.env
   standAt apos.atName
   let (f,first)←holding [ov] (getMethod ov m pl)
   callWith pos f first (backTo pos (starEach [] X.env)) (backToKw pos (keywordEach [] X.env))):=by rfl):
  PE X (.Call (.Attribute o m apos) [] [] pos) (tMethE Kx C m sp dvs ta tNil):=by
 obtain⟨f,fd,ds,hm,hb,hd,F⟩:=F
 intro pins s σ H Q I h
 refine PySem.W.methodCall_KW (pl:=pl) (thn (ho pins s σ H _ I h) fun u s1 ⟨x,H1,I1,rx,a,dx,fs,ex,ea,l,q⟩=>?_) ht
 subst ex
 obtain rfl:u=Value.ref a:=rx
 refine aef I1 ea c hm l ?_
 exact PySem.W.callWith_K0 (first:=[.ref a]) I1.kIn hm.kp (af5 (us:=[.ref a]) (vs:=[.ref a]) F hr hb hd hx I1 (.cons rfl .nil) q)
theorem ah3 {pins:List (Addr×Obj)} {σ:St} {H:Hp} {s:Shared} {Q:VK} {us:List Value} {vs:List V} (M:Mk X.K C f) (F:FnOk X.prog X.w X.K X.mg X.base (CXe X.prog X.w) k f fd ps sp) (hr:Room (k+1) X.A) (hb:Binds X.K fd ps ds) (hd:Vals dvs ds)
  (hx:XW X Kx) (I:Inv X pins σ H s) (r:Vals vs us)
  (h:∀x dx,H x=none→H dx=none→dx≠x→sp (.ref x::(vs++dvs)) (upd (upd H dx (.own x)) x (.ins C dx [])) (fun v H2=>v=.non∧Q (.ref x) H2) (fun c _ H'=>Kx c σ H')):
  wpAny (model X.prog X.w) X.A (call (.ref C) us) (EP X pins σ Q) X.xe s:=by
 have hq:=h (s.heap.objs.size+1) s.heap.objs.size (I.hok.fresh (Nat.le_succ _)) (I.hok.fresh (Nat.le_refl _)) (Nat.ne_of_lt (Nat.lt_succ_self _))
 have I2:=Inv.made (C:=C) I
 have r2:Vals (V.ref (s.heap.objs.size+1)::(vs++dvs)) (Value.ref (s.heap.objs.size+1)::(us++ds)):=.cons rfl (r.append hd)
 have hl:(Value.ref (s.heap.objs.size+1)::us++ds).length=ps.length:=by
  have e:=r2.length
  rw[F.len _ _ _ _ hq] at e
  exact e.symm
 refine wpAny_call (ajd (f:=f) I.kIn M.makes M.init (beq_iff_eq.mp M.fn) (codeAny_mono (F.run _ X.stack _ _ ⟨Value.ref (s.heap.objs.size+1)::us,[]⟩ (Value.ref (s.heap.objs.size+1)::(us++ds)) _ _ _ (hr.make C us [])
  (I2.env0.make C us []) (hb _ (Value.ref (s.heap.objs.size+1)::us) I2.kIn hl) r2 hq) fun r s' hq'=>?_))
 cases r with
 |error e=>
  obtain⟨ea,cls,H',B,rfl,os,bare,un,hok,fly,hK⟩:=hq'
  exact hx pins σ _ _ s' ea cls H' B I2 os bare un hok fly hK
 |ok fl=>
  cases fl with
  |ret u=>
   obtain⟨v,H',I3,rv,ev,q3⟩:=I2.after hq'
   subst ev
   exact⟨rv,⟨V.ref (s.heap.objs.size+1),H',I3,rfl,q3⟩⟩
  |next=>exact False.elim hq'
  |brk=>exact False.elim hq'
  |cont=>exact False.elim hq'
theorem ah4 (F:HaveI X.prog X.w X.K X.mg X.base x C k ps dvs sp) (hr:Room (k+1) X.A) (hx:XW X Kx) (hg:Gl X x:=by rfl) (hdb:(x == ("__debug__":Str))=false:=by decide):
  PE X (.Call (.Name x p) [] [] pos) (tMakeE Kx C sp dvs tNil):=by
 obtain⟨f,fd,ds,hm,M,hb,hd,F⟩:=F
 intro pins s σ H Q I h
 refine wpAny_Call_Name_kw (ad1 I hg hm ?_ hdb)
 exact PySem.W.callWith_K0 I.kIn M.kp (ah3 (us:=[]) M F hr hb hd hx I .nil h)
theorem acd {v:V} (hg:Gl X x) (hm:∃u,X.mg x=some u∧RelV v u) (hd:(x == ("__debug__":Str))=false:=by decide):PE X (.Name x pos) (tC v):=by
 obtain⟨u,hm,r⟩:=hm
 exact akg hg hm r hd
theorem adx {n:String} (hg:Gl X x) (hm:X.mg x=none) (hv:bootBuiltins x=some (.type n)) (hn:x≠"__name__":=by decide) (hd:(x == ("__debug__":Str))=false:=by decide):PE X (.Name x pos) (tC (.ty n)):=akh hg hm hv rfl hn hd
end
noncomputable def Raw (K:PySem.W.Frag) (mg:Str→Option Value) (x qual:Str) (st:Stmt) (ps:List Str) (dvs:List V):Prop:=∃f fd ds,mg x=some (.ref f)∧Fun K x qual st f fd∧Binds K fd ps ds∧Vals dvs ds
noncomputable def RawM (K:PySem.W.Frag) (C:Addr) (m qual:Str) (st:Stmt) (ps:List Str) (dvs:List V):Prop:=∃f fd ds,Meth K C m f∧Fun K m qual st f fd∧Binds K fd ps ds∧Vals dvs ds
noncomputable def RawI (K:PySem.W.Frag) (mg:Str→Option Value) (x:Str) (C:Addr) (qual:Str) (st:Stmt) (ps:List Str) (dvs:List V):Prop:=∃f fd ds,mg x=some (.ref C)∧Mk K C f∧Fun K "__init__" qual st f fd∧Binds K fd ps ds∧Vals dvs ds
section
variable {P:Program} {w:World} {K:PySem.W.Frag} {mg:Str→Option Value} {base:Heap}
noncomputable def Body (P:Program) (w:World) (K:PySem.W.Frag) (mg:Str→Option Value) (base:Heap) (qual:Str) (st:Stmt) (N:List Str) (k:Nat) (sp:Sp):Prop:=
 ∀(f:Addr) (cdv:Value) (A:Around) (outer:List Env) (s:Shared) (H:Hp) (vs:List V) (Q:VK) (E:XK),Room k (A.deeper (envOfC qual (defScope st) s.heap.objs.size f cdv))→sp vs H Q E→
  ∃t,PSs (cxOf (CXe P w) P w K mg base N qual (defScope st) f cdv A outer s H E) (defBody st) t∧t {nx:=fun _ H'=>Q .non H',rt:=Q} (start N vs) H
theorem Fun.okE {x qual:Str} {st:Stmt} {f:Addr} {fd:FuncData} {N ps:List Str} {k:Nat} {sp:Sp} (F:Fun K x qual st f fd) (S:FnScope N ps (defScope st)) (len:∀vs H Q E,sp vs H Q E→vs.length=ps.length)
  (hbody:Body P w K mg base qual st N k sp):FnOk P w K mg base (CXe P w) (k+1) f fd ps sp:=by
 obtain⟨oc,od,kV,doc,pm,an,cdv,ct,osl,rfl,lk,hcd⟩:=F.ex
 exact akn lk hcd S len fun A outer s H vs Q E hr hsp=>hbody f cdv A outer s H vs Q E hr hsp
theorem Raw.have {x qual:Str} {st:Stmt} {N ps:List Str} {dvs:List V} {k:Nat} {sp:Sp} (R:Raw K mg x qual st ps dvs) (S:FnScope N ps (defScope st)) (len:∀vs H Q E,sp vs H Q E→vs.length=ps.length)
  (hbody:Body P w K mg base qual st N k sp):Have P w K mg base x (k+1) ps dvs sp:=
 let ⟨f,fd,ds,hm,F,hb,hd⟩:=R
 ⟨f,fd,ds,hm,F.kp,hb,hd,F.okE S len hbody⟩
theorem RawM.have {C:Addr} {m qual:Str} {st:Stmt} {N ps:List Str} {dvs:List V} {k:Nat} {sp:Sp} (R:RawM K C m qual st ps dvs) (S:FnScope N ps (defScope st)) (len:∀vs H Q E,sp vs H Q E→vs.length=ps.length)
  (hbody:Body P w K mg base qual st N k sp):HaveM P w K mg base C m (k+1) ps dvs sp:=
 let ⟨f,fd,ds,hm,F,hb,hd⟩:=R
 ⟨f,fd,ds,hm,hb,hd,F.okE S len hbody⟩
theorem RawI.have {C:Addr} {x qual:Str} {st:Stmt} {N ps:List Str} {dvs:List V} {k:Nat} {sp:Sp} (R:RawI K mg x C qual st ps dvs) (S:FnScope N ps (defScope st)) (len:∀vs H Q E,sp vs H Q E→vs.length=ps.length)
  (hbody:Body P w K mg base qual st N k sp):HaveI P w K mg base x C (k+1) ps dvs sp:=
 let ⟨f,fd,ds,hm,M,F,hb,hd⟩:=R
 ⟨f,fd,ds,hm,M,hb,hd,F.okE S len hbody⟩
end
end L2
namespace L2
open PySem PySem.Spec PyProof.Rows
noncomputable def XR (X:Cx) (K:XKs):Prop:=∀(pins:List (Addr×Obj)) (σ:St) (H:Hp) (s:Shared) (h':Heap) (e:Addr) (cls:Value) (args:List Value),Inv X pins σ H s→Heap.MadeExcOf s.heap h' e cls args→K cls σ H→X.xe (.ref e) {s with heap:=h'}
theorem HOk.alive {P:Program} {w:World} {H:Hp} {h:Heap} (x:HOk P w H h) {b:Addr} {u:HO} (e:H b=some u):∃o,h.get? b=some o:=by
 have q:=x b u e
 cases u with
 |lst xs=>obtain⟨_,_,_,_,e⟩:=q;exact⟨_,e⟩
 |tup xs=>obtain⟨_,_,_,⟨o,e,_⟩⟩:=q;exact⟨_,e⟩
 |dK kvs=>obtain⟨_,_,_,_,o,_,_,e,_⟩:=q;exact⟨_,e⟩
 |dT kvs=>obtain⟨_,_,_,_,o,_,_,e,_⟩:=q;exact⟨_,e⟩
 |set S n=>obtain⟨o,_,_,_,e,_⟩:=q;exact⟨_,e⟩
 |ins C dx fs=>obtain⟨_,_,_,e,_⟩:=q;exact⟨_,e⟩
 |own y=>exact q
 |xd fs=>obtain⟨_,⟨_,_,_,e,_⟩,_⟩:=q;exact⟨_,e⟩
 |rng lo hi=>obtain⟨_,_,_,e⟩:=q;exact⟨_,e⟩
 |frz ob u=>obtain⟨e,_⟩:=q;exact⟨_,e⟩
 |tbl ps=>exact⟨_,q⟩
 |met f y=>exact⟨_,q⟩
 |ext φ=>obtain⟨_,e,_⟩:=q;exact e
theorem ah5 {P:Program} {w:World} {K:PySem.W.Frag} {mg:Str→Option Value} {base:Heap} {N:List Str} {qual:Str} {scope:Scope} {f:Addr} {cd:Value} {A:Around} {outer:List Env} {s0:Shared} {H0:Hp} {E:XK}:
  XR (cxOf (CXe P w) P w K mg base N qual scope f cd A outer s0 H0 E) (fun c _ H'=>E c none H'):=by
 intro pins σ H s h1 ea cls args I mk hK
 have hfr:=I.ok.frames
 have hstk:(cxOf (CXe P w) P w K mg base N qual scope f cd A outer s0 H0 E).stack=envOfC qual scope s0.heap.objs.size f cd::outer:=rfl
 have hfun:=I.stack
 have hfree:=I.stkFree
 rw[hstk] at hfr hfun hfree
 have hf:(envOfC qual scope s0.heap.objs.size f cd).frame=some s0.heap.objs.size:=rfl
 have hfs:frs (envOfC qual scope s0.heap.objs.size f cd::outer)=s0.heap.objs.size::frs outer:=agl hf
 have noA:∀b:Addr,b∉(cxOf (CXe P w) P w K mg base N qual scope f cd A outer s0 H0 E).ex:=fun b z=>absurd z (by simp[cxOf])
 have nf:∀b o,s0.heap.get? b=some o→b∉frs outer→b∉frs (envOfC qual scope s0.heap.objs.size f cd::outer):=fun b o e n z=>by
  rw[hfs] at z
  rcases List.mem_cons.mp z with z|z
  ·exact absurd (Heap.lt_size e) (by rw[z];exact Nat.lt_irrefl _)
  ·exact n z
 show wpAny _ _ (leaving (envOfC qual scope s0.heap.objs.size f cd) (.ref ea)) _ _ _
 refine leavesMadeC (B:=PySem.W.hideAll s.heap (frs (envOfC qual scope s0.heap.objs.size f cd::outer))) (h:=s.heap) hfr hf (fun b o q=>PySem.W.of_hideAll _ q)
  (PySem.W.funFrames_hide hfun fun env he b hb=>List.mem_filterMap.mpr ⟨env,he,hb⟩) mk fun h' t fl' up nc'=>?_
 have inB:∀b o,s.heap.get? b=some o→b∉frs (envOfC qual scope s0.heap.objs.size f cd::outer)→(PySem.W.hideAll s.heap (frs (envOfC qual scope s0.heap.objs.size f cd::outer))).get? b=some o:=fun b o e n=>PySem.W.hideAll_get _ e n
 have stay:∀b o,s0.heap.get? b=some o→H0 b=none→b∉frs outer→(PySem.W.hideAll s.heap (frs (envOfC qual scope s0.heap.objs.size f cd::outer))).get? b=some o:=fun b o e n hb=>
  inB b o (I.base.keep b o e n hb (noA b)) (nf b o e hb)
 have live:∀b o,s0.heap.get? b=some o→b∉frs outer→∃o',(PySem.W.hideAll s.heap (frs (envOfC qual scope s0.heap.objs.size f cd::outer))).get? b=some o':=fun b o e hb=>by
  obtain⟨o1,e1⟩:=I.base.there b o e (noA b)
  exact⟨o1,inB b o1 e1 (nf b o e hb)⟩
 have trk:∀b u,H b=some u→∃o,(PySem.W.hideAll s.heap (frs (envOfC qual scope s0.heap.objs.size f cd::outer))).get? b=some o:=fun b u e=>by
  obtain⟨o,ho⟩:=I.hok.alive e
  exact⟨o,inB b o ho fun z=>by rw[hfree b z] at e;cases e⟩
 have slotOf:∀b,b∈frs outer→∀o,s.heap.get? b=some o→∃sl,h'.get? b=some {o with slots:=sl}:=fun b hb o e=>by
  have hm:b∈frs (envOfC qual scope s0.heap.objs.size f cd::outer):=by rw[hfs];exact List.mem_cons_of_mem _ hb
  obtain⟨_,o',ho',hd⟩:=hfun.mem hm
  rw[e] at ho';cases ho'
  exact up b o (mk.keeps b o e) hd
 refine⟨ea,cls,H,_,rfl,I.os,I.bare,?_,I.hok.flown trk (fun b o q=>PySem.W.of_hideAll _ q) fl'.1,⟨⟨_,fl'⟩,trk,stay,live,nc'⟩,hK⟩
 refine⟨fun b o e n hb _=>fl'.1 b o (stay b o e n hb),fun b o e n hb _=>?_,fun b o e n _=>I.base.free b o e n (noA b),fun b o e _=>?_,I.base.tups,I.base.frzs,I.base.tbls⟩
 ·obtain⟨sl,e1⟩:=I.base.slot b o e n hb (noA b)
  obtain⟨sl',e2⟩:=slotOf b hb _ e1
  exact⟨sl',e2⟩
 ·by_cases hb:b∈frs outer
  ·obtain⟨o1,e1⟩:=I.base.there b o e (noA b)
   obtain⟨sl,e2⟩:=slotOf b hb _ e1
   exact⟨_,e2⟩
  ·obtain⟨o1,e1⟩:=live b o e hb
   exact⟨o1,fl'.1 b o1 e1⟩
abbrev mroVE:List Value:=[.type "ValueError",.type "Exception",.type "BaseException",.type "object"]
structure XC (K:PySem.W.Frag) (mg:Str→Option Value) (x:Str) (C:Addr):Prop where
 m:mg x=some (.ref C)
 ex:PySem.W.excIn K C mroVE "ValueError.__new__"=true
theorem akr {K:PySem.W.Frag} {h:Heap} {C:Addr} {l:List Value} {id:String} (hin:K.In h) (q:PySem.W.excIn K C l id=true):
  ∃bm N nm qn bs hdct sn sub ab col dd k0 k1 k2 k3 k5 mN,h.get? C=some (excClassObj nm qn C N bs bm hdct sn sub ab col dd k0 k1 k2 k3 k5 id)∧h.Ns N mN∧mN "__init__"=none∧OwnTail h l bm:=by
 unfold PySem.W.excIn at q
 split at q
 case h_2=>cases q
 case h_1 dd cd sl ho=>
  split at q
  case h_2=>cases q
  case h_1 C' bm k0 k1 k2 k3 n k5 hm hs=>
   rw[Bool.and_eq_true,Bool.and_eq_true,Bool.and_eq_true,Bool.and_eq_true,Bool.and_eq_true] at q
   obtain⟨⟨⟨⟨⟨q1,q2⟩,q3⟩,q4⟩,q5⟩,q6⟩:=q
   have e1:=beq_iff_eq.mp q1
   have e2:=beq_iff_eq.mp q2
   have e6:=beq_iff_eq.mp q6
   subst e1 e2
   obtain⟨nm,bs,mro,ns,qn,hd,sn,sub,ab,col,del⟩:=cd
   have e3:del=false:=by
    cases del with
    |false=>rfl
    |true=>cases q3
   have hm':mro=.ref C'::bm:=hm
   subst e3 hm'
   obtain⟨l'⟩:=sl
   have hs':l'=[k0,k1,k2,k3,some (.builtin n),k5]:=hs
   subst hs'
   exact⟨bm,ns,nm,qn,bs,hd,sn,sub,ab,col,dd,k0,k1,k2,k3,k5,_,hin _ _ ho,.of_isNs (PySem.W.isNs_of_in hin q5),PySem.W.nsMap_none_of_in hin q5 e6,PySem.W.tail_of_in hin q4⟩
noncomputable def tRaise (Kx:XKs) (C:Addr) (t:TA):TS:=fun _ σ H=>t σ H fun vs H1=>vs.length≤sizeLine∧Kx (.ref C) σ H1
theorem aet {X:Cx} {Kx:XKs} {C:Addr} {x:Str} {np cpos pos:Pos} {e:Expr} {es:List Expr} {t:TA} (hx:XR X Kx) (hc:X.calm=true) (c:XC X.K X.mg x C) (ha:PA X (e::es) t) (hg:Gl X x:=by rfl) (hd:(x == ("__debug__":Str))=false:=by decide)
  (he:starEach (e::es) X.env=(false,eval e X.env)::starEach es X.env:=by rfl) (hpl:(backTo cpos (starEach es X.env)).any (·.1)=false:=by rfl):
  PS X (.Raise (some (.Call (.Name x np) (e::es) [] cpos)) none pos) (tRaise Kx C t):=by
 intro pins s σ H D I h
 obtain⟨bm,N,nm,qn,bs,hdct,sn,sub,ab,col,dd,k0,k1,k2,k3,k5,mN,hC,hN,hni,T⟩:=akr I.mod.kin c.ex
 refine wpAny_Raise_call_subT (C:=C) (nm:=nm) (q:=qn) (N:=N) (bs:=bs) (bm:=bm) (hdct:=hdct) (sn:=sn) (sub:=sub) (ab:=ab) (col:=col) (dd:=dd) (k0:=k0) (k1:=k1) (k2:=k2) (k3:=k3) (k5:=k5) (mN:=mN) PySem.F.excBase_ValueError (T.hasType PySem.F.excBase_ValueError.hasBase) (I.ok.hd hc) (by rw[he];show (false || (backTo cpos (starEach es X.env)).any (·.1))=false;rw[hpl];rfl) hni
  (ad1 I hg c.m ⟨rfl,?_⟩ hd)
 have q:=ha cpos pins s σ H _ I h
 rw[he] at q ⊢
 refine Calls.evalArgs_plain (wpAny_mono q (fun us s2 hq=>?_) fun _ _ y=>y)
 obtain⟨vs,H1,I1,r,hl,hk⟩:=hq
 exact⟨rfl,by rw[←r.length];exact hl,I1.bk _ _ hC,hN.keeps I1.bk,T.keeps I1.bk,fun h' ea mk=>hx pins σ H1 s2 h' ea (.ref C) us I1 mk hk⟩
theorem Inv.flown {X:Cx} {pins:List (Addr×Obj)} {σ:St} {H H':Hp} {s s':Shared} {B h5:Heap} {ea:Addr} {cls:Value} (I:Inv X pins σ H s) (I':Inv X pins σ H' s') (fly:Fly B X.stack s.heap H H' s'.heap ea cls)
  (st:B.StaysIn h5) (up:s'.heap.UpToSlots h5):Inv X pins σ H' {s' with heap:=h5}:=by
 obtain⟨a0,hfl⟩:=fly.fl
 have nf:∀b,b∉X.fs→b≠X.env.locals→b∉frs X.stack:=fun b h1 h2 z=>by
  rcases List.mem_cons.mp (I.stkSub b z) with q|q
  ·exact h2 q
  ·exact h1 q
 have lt0:∀b o,X.s₀.heap.get? b=some o→b≠X.env.locals:=fun b o e=>Nat.ne_of_lt (Nat.lt_of_lt_of_le (Heap.lt_size e) I.ok.above)
 have cellK:∀{c:Addr} {v:Option Value},s'.heap.IsCell c v→h5.IsCell c v:=fun {c v} ⟨o,ho,hd⟩=>by
  obtain⟨sl,e⟩:=up c o ho fun vs z=>by rw[hd] at z;cases z
  exact⟨_,e,hd⟩
 have slotOf:∀b,b∈X.fs→∀o,s'.heap.get? b=some o→∃sl,h5.get? b=some {o with slots:=sl}:=fun b hb o e=>by
  obtain⟨_,o',ho',hd⟩:=I'.funs.mem hb
  rw[e] at ho';cases ho'
  exact up b o e hd
 refine⟨I'.ok,I'.os,I'.bare,⟨fun b o e n hb hx=>?_,fun b o e n hb hx=>?_,I'.base.free,fun b o e hx=>?_,I'.base.tups,I'.base.frzs,I'.base.tbls⟩,?_,fun x c e=>?_,I'.free,I'.freeC,fun p hp=>?_,I'.hok.flown fly.trk hfl.1 st,I'.len⟩
 ·exact st b o (fly.kept b o (I.base.keep b o e n hb hx) (I.base.free b o e n hx) (nf b hb (lt0 b o e)))
 ·obtain⟨sl,e1⟩:=I'.base.slot b o e n hb hx
  obtain⟨sl',e2⟩:=slotOf b hb _ e1
  exact⟨sl',e2⟩
 ·by_cases hb:b∈X.fs
  ·obtain⟨o1,e1⟩:=I'.base.there b o e hx
   obtain⟨sl,e2⟩:=slotOf b hb _ e1
   exact⟨_,e2⟩
  ·obtain⟨o1,e1⟩:=I.base.there b o e hx
   obtain⟨o2,e2⟩:=fly.alive b o1 e1 (nf b hb (lt0 b o e))
   exact⟨o2,st b o2 e2⟩
 ·obtain⟨m,hn,hl⟩:=I'.loc
  refine⟨m,up.ns hn,fun i x v e1 e2 e3=>?_⟩
  obtain⟨u,r,l⟩:=hl i x v e1 e2 e3
  refine⟨u,r,?_⟩
  rcases l with l|⟨k,c,e,z⟩
  ·exact .inl l
  ·exact .inr ⟨k,c,e,cellK z⟩
 ·obtain⟨v,z⟩:=I'.cell x c e
  exact⟨v,cellK z⟩
 ·obtain⟨e,n,ne,nfs,d⟩:=I.pin p hp
  obtain⟨_,n',_,_,_⟩:=I'.pin p hp
  exact⟨st _ _ (fly.kept p.1 p.2 e n (nf p.1 nfs ne)),n',ne,nfs,d⟩
noncomputable def excO (a:Addr) (C:Addr):HO:=.ext fun h=>∃o vs,h.get? a=some o∧o.cls=.ref C∧o.data=.fields vs∧vs[2]?=some .none
theorem Inv.track {X:Cx} {pins:List (Addr×Obj)} {σ:St} {H:Hp} {s:Shared} {a:Addr} {u:HO} (I:Inv X pins σ H s) (hn:H a=none) (hL:a≠X.env.locals) (h0:∀o,X.s₀.heap.get? a=some o→a∈X.ex)
  (hc:∀x c,X.env.cells.lookup x=some c→c≠a) (hp:∀p∈X.pn++pins,p.1≠a) (ok:∀H',ObjOk X.prog X.w H' s.heap a u):Inv X pins σ (upd H a u) s:=by
 refine⟨I.ok,I.os,I.bare,⟨I.base.keep,I.base.slot,fun b o e n hx=>?_,I.base.there,fun b xs e=>?_,fun b o xs e=>?_,fun b ps e=>?_⟩,I.loc,I.cell,?_,fun x c e=>?_,fun p hq=>?_,fun b o e=>?_,I.len⟩
 ·have hb:b≠a:=fun z=>hx (by rw[z] at e ⊢;exact h0 o e)
  rw[aaw hb]
  exact I.base.free b o e n hx
 ·have q:=I.base.tups b xs e
  rw[aaw (aau q hn)]
  exact q
 ·have q:=I.base.frzs b o xs e
  rw[aaw (aau q hn)]
  exact q
 ·obtain⟨more,q⟩:=I.base.tbls b ps e
  exact⟨more,by rw[aaw (aau q hn)];exact q⟩
 ·rw[aaw (Ne.symm hL)]
  exact I.free
 ·rw[aaw (hc x c e)]
  exact I.freeC x c e
 ·obtain⟨e,n,r⟩:=I.pin p hq
  exact⟨e,by rw[aaw (hp p hq)];exact n,r⟩
 ·by_cases hb:b=a
  ·subst hb;rw[aaf] at e;cases e;exact ok _
  ·rw[aaw hb] at e
   exact (I.hok b o e).stay (fun c v _ q=>q) (fun c q=>by rw[aaw (aau q hn)];exact q) fun c xs q=>by rw[aaw (aau q hn)];exact q
theorem Inv.nameGone {X:Cx} {pins:List (Addr×Obj)} {σ:St} {H:Hp} {s:Shared} {i:Nat} {n:Str} {pos:Pos} {M:Model} {A:Around} {E:Value→Shared→Prop} {Q:Unit→Shared→Prop} (I:Inv X pins σ H s) (hN:X.N.Nodup) (hi:X.N[i]?=some n)
  (hl:X.env.kindOf n=some .local) (h:∀s',Inv X pins (σ.set i none) H s'→Q () s'):wpAny M A (do bindName X.env n .none;unbindBehindTheSuite X.env n pos) Q E s:=by
 obtain⟨m,hn,hv⟩:=id I.loc
 have hcls:(X.env.scope.kind == .class || (X.env.scope.kind == .module&&X.env.locals != X.env.globals))=false:=by rw[I.ok.kind];rfl
 have cne:=I.cne
 have hiσ:i < σ.length:=by rw[I.len];exact (List.getElem?_eq_some_iff.mp hi).1
 refine wpAny_nameGoes_keeps hl hn hcls fun h' v hn' hs=>?_
 obtain⟨oL,_,_,hoL,_⟩:=id hn
 refine h _ ⟨I.ok,I.os,I.bare,⟨fun b o e n hb hx=>?_,fun b o e n hb hx=>?_,I.base.free,fun b o e hx=>?_,I.base.tups,I.base.frzs,I.base.tbls⟩,⟨_,hn',fun j y v' e1 e2 e3=>?_⟩,fun y c e=>?_,I.free,I.freeC,fun p hp=>?_,fun b ob e=>?_,by simpa using I.len⟩
 ·exact (hs.2 b (Nat.ne_of_lt (Nat.lt_of_lt_of_le (Heap.lt_size e) I.ok.above))).trans (I.base.keep b o e n hb hx)
 ·obtain⟨sl,e1⟩:=I.base.slot b o e n hb hx
  exact⟨sl,(hs.2 b (Nat.ne_of_lt (Nat.lt_of_lt_of_le (Heap.lt_size e) I.ok.above))).trans e1⟩
 ·obtain⟨o',e1⟩:=I.base.there b o e hx
  exact⟨o',(hs.2 b (Nat.ne_of_lt (Nat.lt_of_lt_of_le (Heap.lt_size e) I.ok.above))).trans e1⟩
 ·by_cases hj:j=i
  ·subst hj
   rw[List.getElem?_set_self hiσ] at e2
   cases e2
  ·rw[List.getElem?_set_ne (Ne.symm hj)] at e2
   obtain⟨u',r',q⟩:=hv j y v' e1 e2 e3
   refine⟨u',r',?_⟩
   rcases q with ⟨k,e⟩|⟨k,c,e,z⟩
   ·refine .inl ⟨k,?_⟩
    have:y≠n:=fun e=>hj (aen hN e1 (e ▸ hi))
    simp[this,e]
   ·exact .inr ⟨k,c,e,z.sameBut hs (cne y c e)⟩
 ·obtain⟨w',z⟩:=I.cell y c e
  exact⟨w',z.sameBut hs (cne y c e)⟩
 ·obtain⟨e,n,ne,nf,d⟩:=I.pin p hp
  exact⟨(hs.2 p.1 ne).trans e,n,ne,nf,d⟩
 ·refine (I.hok b ob e).stay (fun c w' hc q=>(hs.2 c ?_).trans q) (fun _ q=>q) fun _ _ q=>q
  rintro rfl
  rcases hc with rfl|hc
  ·rw[I.free] at e;cases e
  ·rw[I.free] at hc;cases hc
structure XH (K:PySem.W.Frag) (mg:Str→Option Value) (x:Str) (D:Addr):Prop where
 m:mg x=some (.ref D)
 ty:PySem.W.typeIn K (.ref D)=some (.type "type")
 cl:∃cd,PySem.W.clsIn K D=some cd
 be:PySem.W.mroIn K D (.type "BaseException")=some true
noncomputable def XSub (K:PySem.W.Frag) (C D:Addr):Prop:=PySem.W.mroIn K C (.ref D)=some true
theorem ah6 {K:PySem.W.Frag} {M:Model} {A:Around} {E:Value→Shared→Prop} {Q:Bool→Shared→Prop} {s:Shared} {mg:Str→Option Value} {x:Str} {ea C D:Addr} {o:Obj} (hin:K.In s.heap) (c:XH K mg x D) (sub:XSub K C D)
  (ho:s.heap.get? ea=some o) (hcl:o.cls=.ref C) (q:Q true s):wpAny M A (excMatches (.ref ea) (.ref D)) Q E s:=by
 obtain⟨cd,hcd⟩:=c.cl
 have L1:=PySem.W.looks_typeIn (M:=M) hin c.ty
 have L2':=PySem.W.looks_mroIn (M:=M) hin c.be
 have L3:=PySem.W.looks_mroIn (M:=M) hin sub
 have L4:PySem.W.Looks M s.heap (typeOf (.ref ea)) (.ref C):=hcl ▸ (PySem.W.Looks.ld ho).andThen .now
 have L5:PySem.W.Looks M s.heap (isType (.ref D)) true:=by
  unfold PySem.W.clsIn at hcd
  split at hcd
  ·rename_i ho'
   intro A' Q' E' s' k q'
   unfold isType loadHead
   exact wpAny_bind (wpAny_loadPart (k _ _ (hin _ _ ho')) (wpAny_pure q'))
  ·cases hcd
 have L6:PySem.W.Looks M s.heap (isExcClass (.ref D)) true:=L5.andThen L2'
 obtain⟨h,g,d,t,os⟩:=s
 have f:=tc_notTuple
 unfold excMatches isInstance
 refine wpAny_bind (wpAny_bind (L1.at ?_))
 rw[f]
 refine wpAny_pure ?_
 simp only[Bool.false_eq_true,if_false]
 refine wpAny_bind (wpAny_pure ?_)
 rw[List.forIn_cons]
 refine wpAny_bind (wpAny_bind (wpAny_bind (L6.at ?_)))
 simp only[Bool.not_true,Bool.false_eq_true,if_false]
 refine wpAny_pure ?_
 dsimp only
 rw[List.forIn_nil]
 refine wpAny_pure ?_
 refine wpAny_bind (L4.at ?_)
 rw[List.forIn_cons]
 refine wpAny_bind (wpAny_bind (wpAny_bind (L3.at ?_)))
 simp only[if_true]
 refine wpAny_pure ?_
 dsimp only
 refine wpAny_pure ?_
 exact wpAny_pure q
end L2
namespace L2
open PySem PySem.Spec PyProof.Rows
noncomputable def kdO:Option HO→String
 |some (.lst _)=>"list"
 |some (.frz _ (.lst _))=>"list"
 |some (.tup _)=>"tuple"
 |some (.dK _)=>"dict"
 |some (.dT _)=>"dict"
 |_=>""
noncomputable def kd (H:Hp):V→String
 |.non=>"NoneType"
 |.bl _=>"bool"
 |.int _=>"int"
 |.str _=>"str"
 |.ref a=>kdO (H a)
 |_=>""
noncomputable def Kn (H:Hp) (x:V):Prop:=kd H x≠""
noncomputable def isTy (n:String) (H:Hp) (x:V):Bool:=kd H x == n || (kd H x == "bool"&&n == "int")
theorem kd_ty {K:PySem.W.Frag} {H:Hp} {x:V} (h:Kn H x):TyOf K H x (.type (kd H x)):=by
 cases x with
 |non=>exact .non
 |bl b=>exact .bl b
 |int i=>exact .int i
 |str s=>exact .str s
 |ref a=>
  have h:kdO (H a)≠"":=h
  show TyOf K H (.ref a) (.type (kdO (H a)))
  cases e:H a with
  |none=>rw[e] at h;exact absurd rfl h
  |some o=>
   rw[e] at h
   cases o with
   |lst xs=>exact .lst e
   |tup xs=>exact .tup e
   |dK k=>exact .dK e
   |dT k=>exact .dT e
   |frz ob u=>
    cases u with
    |lst xs=>exact .frz e
    |_=>exact absurd rfl h
   |_=>exact absurd rfl h
 |_=>exact absurd rfl h
theorem afl (o:Option HO):kdO o=""∨kdO o="list"∨kdO o="tuple"∨kdO o="dict":=by
 unfold kdO
 split<;>simp
theorem Kn.cases {H:Hp} {x:V} (h:Kn H x):kd H x="NoneType"∨kd H x="bool"∨kd H x="int"∨kd H x="str"∨kd H x="list"∨kd H x="tuple"∨kd H x="dict":=by
 cases x with
 |ref a=>
  have h:kdO (H a)≠"":=h
  show kdO (H a)=_∨kdO (H a)=_∨kdO (H a)=_∨kdO (H a)=_∨kdO (H a)=_∨kdO (H a)=_∨kdO (H a)=_
  rcases afl (H a) with e|e|e|e
  ·exact absurd e h
  ·exact .inr (.inr (.inr (.inr (.inl e))))
  ·exact .inr (.inr (.inr (.inr (.inr (.inl e)))))
  ·exact .inr (.inr (.inr (.inr (.inr (.inr e)))))
 |non=>exact .inl rfl
 |bl b=>exact .inr (.inl rfl)
 |int i=>exact .inr (.inr (.inl rfl))
 |str z=>exact .inr (.inr (.inr (.inl rfl)))
 |_=>exact absurd rfl h
theorem ajf (K:PySem.W.Frag):∀k∈["NoneType","bool","int","str","list","tuple","dict"],∀n∈["bool","int","str","list","tuple","dict"],PySem.W.kitOne K (.type k) (.type n)=some (k == n || (k == "bool"&&n == "int")):=by
 have e:∀k∈["NoneType","bool","int","str","list","tuple","dict"],∀n∈["bool","int","str","list","tuple","dict"],(if (Value.type k == Value.type n)=true then some true else if PySem.W.kitMeta n=true then (fastBuiltinMro k).map (·.contains (.type n)) else none)=some (k == n || (k == "bool"&&n == "int")):=by decide+kernel
 exact fun k hk n hn=>e k hk n hn
theorem aeu {X:Cx}:CallR X (.builtin "isinstance") (fun xs H Q=>∃x n,xs=[x,.ty n]∧n∈["bool","int","str","list","tuple","dict"]∧Kn H x∧Q (.bl (isTy n H x)) H):=by
 intro pins s σ H xs us Q I r h
 obtain⟨x,n,rfl,hn,hk,q⟩:=h
 cases r with
 |cons r1 rr=>
  cases rr with
  |cons r2 rr=>
   cases rr
   cases r2
   refine ahw I r1 (kd_ty hk) (ajf X.K _ ?_ n hn) fun tk=>⟨.bl _,H,I.tok tk,rfl,q⟩
   rcases hk.cases with e|e|e|e|e|e|e<;>rw[e]<;>simp
theorem ah7 {X:Cx}:UnR X (unaryOp .USub) (rU fun i=>.int (-i)):=by
 intro pins s σ H x v Q I rx h
 obtain⟨i,rfl,q⟩:=h
 obtain⟨t,rfl⟩:=rx
 exact neg_int ⟨.int _,H,I.tok _,⟨_,rfl⟩,q⟩
end L2
namespace L2
open PySem PySem.Spec PyProof.Rows
theorem kn_int {H:Hp} {i:Int}:Kn H (.int i)↔True:=⟨fun _=>trivial,fun _=>(by decide:"int"≠"")⟩
theorem kn_lst {H:Hp} {a:Addr} {xs:List V} (h:H a=some (.lst xs)):Kn H (.ref a):=fun z=>by
 have z:kdO (H a)="":=z
 rw[h] at z;exact absurd z (show "list"≠"" by decide)
theorem cxOf_K {CX:CXT} {P:Program} {w:World} {K:PySem.W.Frag} {mg:Str→Option Value} {base:Heap} {N:List Str} {qual:Str} {scope:Scope} {f:Addr} {cd:Value} {A:Around} {outer:List Env} {s:Shared} {H:Hp} {E:XK}:
 (cxOf CX P w K mg base N qual scope f cd A outer s H E).K=K:=rfl
noncomputable def whole:V→Bool
 |.int _=>true
 |_=>false
noncomputable def within (x:V) (l h:Int):Bool:=match x with
 |.int i=>decide (l≤i)&&decide (i≤h)
 |_=>false
theorem ab9 {i l h:Int}:within (.int i) l h=(decide (l≤i)&&decide (i≤h)):=rfl
theorem ag9 {H:Hp} {x:V} (h:Kn H x):(isTy "int" H x&& !isTy "bool" H x)=whole x:=by
 cases x with
 |ref a=>
  have h:kdO (H a)≠"":=h
  have e:kd H (.ref a)=kdO (H a):=rfl
  unfold isTy
  rw[e]
  rcases afl (H a) with e|e|e|e<;>rw[e]<;>first|rfl|exact absurd e h
 |_=>first|rfl|exact absurd rfl h
end L2
namespace L2
open PySem PySem.Spec PyProof.Rows
inductive Hid (t u:TS):Type where
 |mk:Hid t u
noncomputable def tCut (t u:TS) (_:Hid t u):TS:=fun D σ H=>∃M:St→Hp→Prop,t {D with nx:=M} σ H∧∀σ' H',M σ' H'→u D σ' H'
theorem aa3 {X:Cx} {st:Stmt} {rest:List Stmt} {t u:TS} (h1:PS X st t) (h2:PSs X rest u):PSs X (st::rest) (tCut t u .mk):=by
 intro pins s σ H D I h
 obtain⟨M,h,hM⟩:=h
 refine wpAny_execs_cons (thn (h1 pins s σ H {D with nx:=M} I h) fun f s1 q=>?_)
 cases f with
 |next=>
  obtain⟨σ',H',I',q⟩:=q
  exact h2 pins s1 σ' H' D I' (hM σ' H' q)
 |ret v=>exact q
 |brk=>exact q
 |cont=>exact q
noncomputable def lstO:Option HO→Option (List V)
 |some (.lst xs)=>some xs
 |some (.frz _ (.lst xs))=>some xs
 |_=>none
noncomputable def tupO:Option HO→Option (List V)
 |some (.tup xs)=>some xs
 |some (.frz _ (.tup xs))=>some xs
 |_=>none
theorem ajg {xs:List V}:lstO (some (.lst xs))=some xs:=rfl
theorem ajh {xs:List V}:tupO (some (.tup xs))=some xs:=rfl
theorem aks {K:PySem.W.Frag} {H:Hp} {a:Addr} {xs:List V} (h:lstO (H a)=some xs):SqL K H a xs:=by
 unfold lstO at h
 split at h
 ·rename_i e;cases h;exact .inl (.inl e)
 ·rename_i e;cases h;exact .inl (.inr ⟨_,e⟩)
 ·cases h
theorem akt {K:PySem.W.Frag} {H:Hp} {a:Addr} {xs:List V} (h:tupO (H a)=some xs):SqT K H a xs:=by
 unfold tupO at h
 split at h
 ·rename_i e;cases h;exact .inl (.inl e)
 ·rename_i e;cases h;exact .inl (.inr ⟨_,e⟩)
 ·cases h
noncomputable def rIxH:R2:=fun x y H Q=>∃p xs i v,x=.ref p∧y=.int i∧lstO (H p)=some xs∧atI xs i=some v∧Q v H
theorem ac7 {X:Cx}:IxR X rIxH:=by
 intro value slice pins s σ H x y v u Q I rx ry h hs
 obtain⟨p,xs,i,w',e1,e2,e3,e4,q⟩:=h
 exact abn value slice pins s σ H x y v u Q I rx ry ⟨p,xs,i,w',e1,e2,aks e3,e4,q⟩ hs
theorem aku {i j:Int}:scal (.int i) (.int j)=true:=rfl
theorem akv {i j:Bool}:scal (.bl i) (.bl j)=true:=rfl
theorem akw {i j:Str}:scal (.str i) (.str j)=true:=rfl
theorem na10:Int.natAbs 10=10:=rfl
theorem aab {H:Hp}:Same H H:=fun _ _ h=>h
theorem aae {H H':Hp} {p:Addr} {o:HO} (s:Same H H') (h:H' p=none):Same H (upd H' p o):=fun b u e=>by
 have q:=s b u e
 rw[aaw (aau q h)]
 exact q
end L2
namespace L2
open PySem PySem.Spec PyProof.Rows
end L2
namespace L2
open PySem PySem.Spec PyProof.Rows
inductive HidF (g:TG) (tb:TS):Type where
 |mk:HidF g tb
noncomputable def Loop (g:TG) (tb:TS) (_:HidF g tb) (J:It):TS:=fun D σ H=>∃W:Nat→Nat→St→Hp→Prop,(∃m,W 0 m σ H)∧∀i m σ H,W i m σ H→
 (J.stop i H∧D.nx σ H)∨(J.go i H∧∃N:St→Hp→Prop,(∀σ' H',N σ' H'→∃m',m' < m∧W (i+1) m' σ' H')∧∀x H',J.yld i H x H'→g x σ H' fun σ2 H2=>tb {D with nx:=N,ct:=N,bk:=D.nx} σ2 H2)
noncomputable def tForE (wi:TI) (g:TG) (tb:TS) (h:HidF g tb):TS:=fun D σ H=>wi σ H fun J H1=>Loop g tb h J D σ H1
theorem ah8 {X:Cx} {tg iter:Expr} {body:List Stmt} {wi:TI} {g:TG} {tb:TS} {pos:Pos} (hp:PassesOwn (model X.prog X.w) X.A X.env X.xe) (hc:X.calm=true) (hi:PI X tg iter wi) (hg:PG X tg g) (hb:PSs X body tb)
 (hs:∀x,foldedSetIterable iter X.env x=pure x:=by intro _;rfl):PS X (.For tg iter body [] pos) (tForE wi g tb .mk):=ps_for hp hc hi hg hb hs
theorem afm {K:PySem.W.Frag} {a:Addr} {xs:List V} {g:TG} {tb:TS} {h:HidF g tb} {D:Ends} {σ:St} {H:Hp} (Pv:Nat→St→Hp→Prop) (h0:Pv 0 σ H) (hl:∀i σ H,i≤xs.length→Pv i σ H→SqL K H a xs)
 (hs:∀i x σ H,xs[i]?=some x→Pv i σ H→g x σ H fun σ2 H2=>tb {D with nx:=Pv (i+1),ct:=Pv (i+1),bk:=D.nx} σ2 H2) (hd:∀σ H,Pv xs.length σ H→D.nx σ H):Loop g tb h (Itl K a) D σ H:=ai9 Pv h0 hl hs hd
end L2
namespace L2
open PySem PySem.Spec PyProof.Rows
end L2
namespace L2
open PySem PySem.Spec PyProof.Rows
end L2
namespace L2
open PySem PySem.Spec PyProof.Rows
end L2
namespace L2
open PySem PySem.Spec PyProof.Rows
end L2
namespace L2
open PySem PySem.Spec PyProof.Rows
theorem aji {H:Hp} {a:Addr} {xs:List V} (h:H a=some (.lst xs)):isTy "list" H (.ref a)=true:=by
 unfold isTy
 rw[show kd H (.ref a)=kdO (H a) from rfl,h];rfl
end L2
namespace L2
open PySem PySem.Spec PyProof.Rows
section
variable {X:Cx} {pins pins2:List (Addr×Obj)} {σ:St} {H:Hp} {s:Shared} {E':Value→Shared→Prop}
theorem Cx.Ok.re {pn:List (Addr×Obj)} (ok:X.Ok):({X with xe:=E',pn:=pn}:Cx).Ok:=
 ⟨ok.mod,ok.kind,ok.glob,ok.blt,ok.above,ok.inj,ok.has,ok.cab,ok.hd,ok.frames,ok.stk,ok.exf,ok.bs,ok.bsz,ok.noex,ok.exfs,ok.funs,ok.frf⟩
theorem Inv.re (I:Inv X pins σ H s):Inv {X with xe:=E',pn:=X.pn++pins} [] σ H s:=
 ⟨I.ok.re,I.os,I.bare,I.base,I.loc,I.cell,I.free,I.freeC,fun p hp=>I.pin p (by rw[List.append_nil] at hp;exact hp),I.hok,I.len⟩
theorem Inv.unre (ok:X.Ok) (I:Inv {X with xe:=E',pn:=X.pn++pins} pins2 σ H s):Inv X pins σ H s:=
 ⟨ok,I.os,I.bare,I.base,I.loc,I.cell,I.free,I.freeC,fun p hp=>I.pin p (List.mem_append_left _ hp),I.hok,I.len⟩
theorem Inv.marked {v : Option Value} (I : Inv X pins σ H s) : Inv { X with A := X.A.mark v, calm := false, xe := E' } pins σ H s :=
  ⟨⟨I.ok.mod, I.ok.kind, I.ok.glob, I.ok.blt, I.ok.above, I.ok.inj, I.ok.has, I.ok.cab, fun z => Bool.noConfusion z, I.ok.frames, I.ok.stk, I.ok.exf, I.ok.bs, I.ok.bsz, I.ok.noex, I.ok.exfs, I.ok.funs, I.ok.frf⟩,
    I.os, I.bare, I.base, I.loc, I.cell, I.free, I.freeC, I.pin, I.hok, I.len⟩
theorem Inv.unmarked {v:Option Value} (ok:X.Ok) (I:Inv {X with A:=X.A.mark v,calm:=false,xe:=E'} pins σ H s):Inv X pins σ H s:=
 ⟨ok,I.os,I.bare,I.base,I.loc,I.cell,I.free,I.freeC,I.pin,I.hok,I.len⟩
end
end L2
namespace PySem.W
open PySem PySem.Spec PySem.Calls PyProof.Rows
open Builtin Builtin.ObjectAttr Builtin.Getset_descriptor
structure XIs (K:Frag) (C:Addr):Prop where
 g:findIn K (.ref C) "__getattribute__"=some (some (.builtin "BaseException.__getattribute__"))
 h:findIn K (.ref C) "__getattr__"=some none
 b:mroIn K C (.type "BaseException")=some true
 d:hasDictIn K C=true
 a:findIn K (.ref C) "__class__"=some (some (.builtin "object.__class__"))
 n:specialIn K (.builtin "object.__class__") "__get__"=some (some (.builtin "getset_descriptor.__get__"))
 t:takesIn K (.builtin "object.__class__")=some true
 m:mroIn K C (.type "object")=some true
noncomputable def ExcAt (e C:Addr) (h:Heap):Prop:=∃o,h.get? e=some o∧o.cls=.ref C
section
variable {K:Frag} {e C:Addr}
theorem ExcAt.ty {M:Model} {h:Heap} (p:ExcAt e C h):Looks M h (typeOf (.ref e)) (.ref C):=by
 obtain⟨o,h1,h2⟩:=p
 exact h2 ▸ (Looks.ld h1).andThen .now
theorem xcl {M:Model} {h:Heap} (hin:K.In h) (x:XIs K C):Looks M h (isType (.ref C)) true:=by
 obtain⟨cd,hcd,_⟩:=any_some x.d
 unfold clsIn at hcd
 split at hcd
 ·rename_i ho'
  intro A' Q' E' s' k q'
  unfold isType loadHead
  exact wpAny_bind (wpAny_loadPart (k _ _ (hin _ _ ho')) (wpAny_pure q'))
 ·cases hcd
theorem xfind {M:Model} {h:Heap} (hin:K.In h) (x:XIs K C):Looks M h (find (.ref e) (.ref C) "__class__") (.bind (.builtin "getset_descriptor.__get__") (.builtin "object.__class__")):=by
 have A1:=looks_findIn (M:=M) hin x.a
 have A2:Looks M h (getOf (some (.builtin "object.__class__"))) (some (.builtin "getset_descriptor.__get__")):=looks_specialIn hin x.n
 have A3:=looks_takesIn (M:=M) hin x.t
 exact A1.andThen (A2.andThen ((show Looks M h (dataDescriptor? (some (.builtin "object.__class__")) (some (.builtin "getset_descriptor.__get__"))) (some _) from A3.andThen .now).andThen (Looks.tag .now)))
variable {prog:Program} {w:World} {A:Around} {E:Value→Shared→Prop} {s:Shared}
theorem xget {R:Result→Shared→Prop} {tp:Value} (hin:K.In s.heap) (p:ExcAt e C s.heap) (x:XIs K C) (h:R (.ok (.ret (.ref C))) s):
  codeAny (model prog w) A (.call (.builtin "getset_descriptor.__get__") ⟨[.builtin "object.__class__",.ref e,tp],[]⟩) R s:=by
 obtain⟨hh,g,dr,t,os⟩:=s
 have B0:=p.ty (M:=model prog w)
 have B1:=looks_mroIn (M:=model prog w) hin x.m
 refine codeAny_call_builtin KF.slot_gs.plain KF.entry_gs (KF.slot_gs.check _ _ _ _ _ _ _ _ KF.type_class (KF.args_gs _ _ _) ?_)
 unfold Builtin.«getset_descriptor.__get__» descrGet
 rw[dga_obj]
 refine wpAny_bind (wpAny_pure ?_)
 unfold descrGetter descrCheckInstance descrNameAndClass isInstance
 simp only[KF.owner_class]
 repeat lk
 refine⟨Code.quiet_builtin _ (by decide+kernel),codeAny_builtin KF.entry_class ?_⟩
 unfold Builtin.«object.__class__» shownTypeOf
 repeat lk
 exact h
theorem xcheck {M:Model} {nameV:Value} {Q:Unit→Shared→Prop} (hin:K.In s.heap) (p:ExcAt e C s.heap) (x:XIs K C) (hq:Q () s):wpAny M A (checkBuiltinCall "BaseException.__getattribute__" ⟨[.ref e,nameV],[]⟩) Q E s:=by
 have c1:builtinKind "BaseException.__getattribute__"=some .slot:=by decide+kernel
 have c2:splitId "BaseException.__getattribute__"=some ("BaseException","__getattribute__"):=by decide+kernel
 have c3:=F.args_bexc_ga (.ref e) nameV
 obtain⟨hh,g,d,t,os⟩:=s
 have B0:=p.ty (M:=M)
 have B1:=looks_mroIn (M:=M) hin x.b
 have B2:Looks M hh (isInstance (.ref e) (.type "BaseException")) true:=B0.andThen B1
 simp only[checkBuiltinCall,c1,c2]
 refine wpAny_bind (B2.at ?_)
 simp only[Bool.not_true,Bool.false_eq_true,if_false]
 exact wpAny_of_eq c3 hq
theorem xentry {tk:Tok} {Q:Fin→Shared→Prop} (hin:K.In s.heap) (p:ExcAt e C s.heap) (x:XIs K C) (hq:Q (.done (.ret (.ref C))) s):wpAny (model prog w) A (Builtin.«object.__getattribute__» ⟨[.ref e,.str "__class__" tk],[]⟩) Q E s:=by
 obtain⟨hh,g,d,t,os⟩:=s
 have B0:=p.ty (M:=model prog w)
 have B2:=xfind (M:=model prog w) (e:=e) hin x
 unfold Builtin.«object.__getattribute__»
 refine wpAny_bind (wpAny_pure (a:=(Value.ref e,[Value.str "__class__" tk])) ?_)
 refine wpAny_bind (wpAny_pure (a:=("__class__":Str)) ?_)
 refine wpAny_bind (B0.at (wpAny_bind (B2.at ?_)))
 show wpAny _ _ (bindTo (Value.builtin "getset_descriptor.__get__") (Value.builtin "object.__class__") (Value.ref e) (Value.ref C)) _ _ _
 unfold bindTo
 dsimp only
 refine wpAny_bind (wpAny_holding (wpAny_call (xget (s:=⟨hh,g,d,t,os⟩) hin p x ?_)))
 exact wpAny_pure hq
theorem xca {Q:Option Value→Shared→Prop} (hin:K.In s.heap) (p:ExcAt e C s.heap) (x:XIs K C) (h:Q (some (.ref C)) {s with toks:=s.toks+1}):wpAny (model prog w) A (getAttr? (.ref e) "__class__") Q E s:=by
 obtain⟨hh,g,d,t,os⟩:=s
 have B0:=p.ty (M:=model prog w)
 have B1:=looks_findIn (M:=model prog w) hin x.g
 have B3:=looks_findIn (M:=model prog w) hin x.h
 unfold getAttr? getAttrBy? getAttrBy
 refine wpAny_bind (wpAny_mkText (wpAny_bind (wpAny_attempt (wpAny_holding (wpAny_bind (B0.at (wpAny_bind (B1.at ?_))))))))
 have c2:(Value.builtin "BaseException.__getattribute__" == Value.builtin "object.__getattribute__")=false:=by decide+kernel
 simp only[c2,Bool.and_false,Bool.false_eq_true,if_false]
 unfold getAttrByItsOwn hookBefore
 rw[if_pos (show onTheHeap (Value.ref C)=true from rfl)]
 refine wpAny_bind (B3.at (wpAny_bind (wpAny_attempt (wpAny_holding ?_))))
 unfold callGetattribute boundAndCalled
 simp only[Bool.false_and,Bool.false_eq_true,if_false]
 refine wpAny_bind (wpAny_of_eq (PySem.F.attr_ValueError.ga.bind (.ref e)) ?_)
 refine wpAny_call (codeAny_call_builtin PySem.F.attr_ValueError.ga.plain F.entry_bexc_ga (xcheck (s:=⟨hh,g,d,t+1,os⟩) hin p x (xentry (s:=⟨hh,g,d,t+1,os⟩) hin p x ?_)))
 exact handed_on rfl (wpAny_pure h)
theorem kitx_exc (x:XIs K C):KitX K (.ref e) (.ref C) (ExcAt e C) where
 ty:=fun _ _ _ p=>p.ty
 it:=fun _ _ hin _=>xcl hin x
 ne:=fun h tp dd its n sl hin htp=>by
  refine Bool.eq_false_iff.mpr fun q=>?_
  obtain⟨cd,hcd,_⟩:=any_some x.d
  have e1:C=tp:=Value.ref.inj (beq_iff_eq.mp q)
  rw[←e1] at htp
  unfold clsIn at hcd
  split at hcd
  ·rename_i ho'
   have z:=(hin _ _ ho').symm.trans htp
   cases z
  ·cases hcd
 ca:=fun hin p k=>xca hin p x k
end
end PySem.W
namespace L2
open PySem PySem.Spec PyProof.Rows
noncomputable abbrev XI (K:PySem.W.Frag) (C:Addr):Prop:=PySem.W.XIs K C
noncomputable def clsV:V→Value
 |.ref a=>.ref a
 |.ty n=>.type n
 |_=>.none
theorem acu {a:Addr}:clsV (.ref a)=.ref a:=rfl
theorem akx {n:String}:clsV (.ty n)=.type n:=rfl
theorem excAt {X:Cx} {pins:List (Addr×Obj)} {σ:St} {H:Hp} {s:Shared} {a C:Addr} (I:Inv X pins σ H s) (e:H a=some (excO a C)):PySem.W.ExcAt a C s.heap:=by
 obtain⟨⟨o,vs,h1,h2,_⟩,_⟩:=(show ObjOk X.prog X.w H s.heap a (excO a C) from I.hok a _ e)
 exact⟨o,h1,h2⟩
theorem ac8 {X:Cx} {K:PySem.W.Frag} (hK:X.K=K:=by rfl):CallR X (.builtin "isinstance") (fun xs H Q=>∃a y C b,xs=[.ref a,y]∧H a=some (excO a C)∧XI K C∧PySem.W.kitOne K (.ref C) (clsV y)=some b∧Q (.bl b) H):=by
 subst hK
 intro pins s σ H xs us Q I r h
 obtain⟨a,y,C,b,rfl,e,x,k,q⟩:=h
 cases r with
 |cons r1 rr=>
  cases rr with
  |cons r2 rr=>
   cases rr
   cases r1
   have c2:∀u,RelV y u→PySem.W.kitOne X.K (.ref C) (clsV y)=some b→PySem.W.kitOne X.K (.ref C) u=some b:=fun u ru k=>by
    cases y with
    |ref a=>cases ru;exact k
    |ty n=>cases ru;exact k
    |_=>exact absurd k (by unfold clsV PySem.W.kitOne PySem.W.kitCls;simp)
   exact PySem.W.kia_one (PySem.W.kitx_exc x) I.kIn (excAt I e) (c2 _ r2 k) (fun z=>nomatch z) fun tk=>⟨.bl b,H,I.tok tk,rfl,q⟩
theorem agm:∀{cs:List V} {its:List Value},Vals cs its→(∀y∈cs,(∃a,y=.ref a)∨∃n,y=.ty n)→its=cs.map clsV
 |_,_,.nil,_=>rfl
 |y::cs,u::us,.cons r t,h=>by
  have e:=agm t fun z hz=>h z (List.mem_cons_of_mem _ hz)
  rcases h y (List.mem_cons_self ..) with ⟨a,rfl⟩|⟨n,rfl⟩
  ·cases r;rw[e];rfl
  ·cases r;rw[e];rfl
theorem ah9 {X:Cx} {K:PySem.W.Frag} (hK:X.K=K:=by rfl):CallR X (.builtin "isinstance") (fun xs H Q=>∃a p cs C b,xs=[.ref a,.ref p]∧H a=some (excO a C)∧XI K C∧tupO (H p)=some cs∧(∀y∈cs,(∃a,y=.ref a)∨∃n,y=.ty n)∧PySem.W.kitAny K (.ref C) (cs.map clsV)=some b∧Q (.bl b) H):=by
 subst hK
 intro pins s σ H xs us Q I r h
 obtain⟨a,p,cs,C,b,rfl,e,x,ht,hc,k,q⟩:=h
 cases r with
 |cons r1 rr=>
  cases rr with
  |cons r2 rr=>
   cases rr
   cases r1
   cases r2
   obtain⟨its,rv,⟨o,ho,hcl,n,hd⟩,_⟩:=I.tuple (akt (K:=X.K) ht)
   obtain⟨oc,odd,oda,osl⟩:=o
   have hcl:oc=.type "tuple":=hcl
   have hd:oda=.seq its.toArray n:=hd
   subst hcl hd
   rw[←agm rv hc] at k
   exact PySem.W.kia_tup (PySem.W.kitx_exc x) I.kIn (excAt I e) ho k (fun z=>nomatch z) fun tk=>⟨.bl b,H,I.tok tk,rfl,q⟩
end L2
namespace L2
open PySem PySem.Spec PyProof.Rows
inductive Dv where
 |leaf (v:V)
 |seq (t:Bool) (ds:List Dv)
mutual
noncomputable def Sees (K:PySem.W.Frag) (H:Hp):Dv→V→Prop
 |.leaf v,x=>x=v∧flatV v=true
 |.seq t ds,x=>∃a xs,x=.ref a∧(if t=true then SqT K H a xs else SqL K H a xs)∧SeesL K H ds xs
noncomputable def SeesL (K:PySem.W.Frag) (H:Hp):List Dv→List V→Prop
 |[],xs=>xs=[]
 |d::ds,xs=>∃x r,xs=x::r∧Sees K H d x∧SeesL K H ds r
end
mutual
noncomputable def alike:Dv→Dv→Bool
 |.leaf _,.leaf _=>true
 |.seq t ds,.seq u es=>t == u&&alikeL ds es
 |_,_=>false
noncomputable def alikeL:List Dv→List Dv→Bool
 |d::ds,e::es=>alike d e&&alikeL ds es
 |_,_=>true
end
mutual
noncomputable def eqDv:Dv→Dv→Bool
 |.leaf v,.leaf w=>eqV v w
 |.seq _ ds,.seq _ es=>eqDvL ds es
 |_,_=>false
noncomputable def eqDvL:List Dv→List Dv→Bool
 |[],[]=>true
 |d::ds,e::es=>eqDv d e&&eqDvL ds es
 |_,_=>false
end
mutual
noncomputable def deep:Dv→Nat
 |.leaf _=>0
 |.seq _ ds=>deepL ds+1
noncomputable def deepL:List Dv→Nat
 |[]=>0
 |d::ds=>max (deep d) (deepL ds)
end
theorem SeesL.length {K:PySem.W.Frag} {H:Hp}:∀{ds:List Dv} {xs:List V},SeesL K H ds xs→ds.length=xs.length
 |[],xs,h=>by unfold SeesL at h;subst h;rfl
 |d::ds,xs,h=>by
  unfold SeesL at h
  obtain⟨x,r,rfl,_,h⟩:=h
  simp[h.length]
theorem aec (n:Nat) (f:Nat→Bool):(List.range (n+1)).all f=(f 0&&(List.range n).all fun j=>f (j+1)):=by
 rw[List.range_succ_eq_map,List.all_cons,List.all_map];rfl
theorem agn:∀(ds es:List Dv),eqDvL ds es=(decide (ds.length=es.length)&&(List.range (min ds.length es.length)).all fun j=>eqDv (ds.getD j (.leaf .non)) (es.getD j (.leaf .non)))
 |[],[]=>by simp[eqDvL]
 |[],e::es=>by simp[eqDvL]
 |d::ds,[]=>by simp[eqDvL]
 |d::ds,e::es=>by
  have ih:=agn ds es
  rw[eqDvL,ih]
  have hm:min (d::ds).length (e::es).length=min ds.length es.length+1:=by simp[Nat.succ_min_succ]
  rw[hm,aec]
  simp only[List.length_cons,Nat.add_right_cancel_iff,List.getD_cons_zero,List.getD_cons_succ]
  cases eqDv d e<;>cases decide (ds.length=es.length)<;>simp
theorem ago {v:V} (h:flatV v=true):eqV v v=true:=by
 cases v<;>first|rfl|(simp[eqV];done)|exact absurd h (by simp[flatV])
mutual
theorem afn {X:Cx} {pins:List (Addr×Obj)} {σ:St} {H:Hp} {s:Shared} (I:Inv X pins σ H s):∀(d e:Dv) (x:V),alike d e=true→Sees X.K H d x→Sees X.K H e x→eqDv d e=true
 |.leaf a,.leaf b,x,_,hx,hy=>by
  unfold Sees at hx hy
  obtain⟨rfl,fx⟩:=hx
  obtain⟨rfl,fy⟩:=hy
  rw[eqDv]
  exact ago fx
 |.leaf a,.seq t es,_,h,_,_=>by simp[alike] at h
 |.seq t ds,.leaf b,_,h,_,_=>by simp[alike] at h
 |.seq t ds,.seq t' es,x,h,hx,hy=>by
  rw[alike,Bool.and_eq_true] at h
  have ht:=beq_iff_eq.mp h.1
  subst ht
  unfold Sees at hx hy
  obtain⟨a,xs,rfl,hsx,hL⟩:=hx
  obtain⟨b,ys,e,hsy,hM⟩:=hy
  cases e
  rw[eqDv]
  have exy:xs=ys:=by
   cases t with
   |true=>exact I.tuple_inj (by simpa using hsx) (by simpa using hsy)
   |false=>exact I.list_inj (by simpa using hsx) (by simpa using hsy)
  subst exy
  exact aeg I ds es xs h.2 hL hM
theorem aeg {X:Cx} {pins:List (Addr×Obj)} {σ:St} {H:Hp} {s:Shared} (I:Inv X pins σ H s):∀(ds es:List Dv) (xs:List V),alikeL ds es=true→SeesL X.K H ds xs→SeesL X.K H es xs→eqDvL ds es=true
 |[],[],_,_,_,_=>by rw[eqDvL]
 |[],e::es,xs,_,hx,hy=>by
  unfold SeesL at hx hy
  obtain⟨x,r,e1,_⟩:=hy
  rw[hx] at e1;cases e1
 |d::ds,[],xs,_,hx,hy=>by
  unfold SeesL at hx hy
  obtain⟨x,r,e1,_⟩:=hx
  rw[hy] at e1;cases e1
 |d::ds,e::es,xs,h,hx,hy=>by
  rw[alikeL,Bool.and_eq_true] at h
  unfold SeesL at hx hy
  obtain⟨x,r,rfl,hx,hxr⟩:=hx
  obtain⟨y,r',e1,hy,hyr⟩:=hy
  cases e1
  rw[eqDvL,afn I d e x h.1 hx hy,aeg I ds es r h.2 hxr hyr]
  rfl
end
theorem aia {X:Cx} {pins:List (Addr×Obj)} {σ:St} {H:Hp} {s:Shared} (I:Inv X pins σ H s) {A:Around} {t:Bool} {ds es:List Dv} {a b:Addr} {xs ys:List V} (hu:A.units < cLine)
  (hsx:if t=true then SqT X.K H a xs else SqL X.K H a xs) (hsy:if t=true then SqT X.K H b ys else SqL X.K H b ys) (l1:ds.length=xs.length) (l2:es.length=ys.length)
  (ih:∀(j:Nat) (u v:Value) (us vs:List Value),Vals xs us→Vals ys vs→us[j]?=some u→vs[j]?=some v→SeqAt.EqAt A.in1 s u v (eqDv (ds.getD j (.leaf .non)) (es.getD j (.leaf .non)))):
  SeqAt.RcAt A s (.ref a) (.ref b) (eqDvL ds es):=by
 rw[agn]
 cases t with
 |false=>
  obtain⟨its,rv,pl,_⟩:=I.list (show SqL X.K H a xs by simpa using hsx)
  obtain⟨its2,rv2,pl2,_⟩:=I.list (show SqL X.K H b ys by simpa using hsy)
  have n1:=rv.length
  have n2:=rv2.length
  by_cases hl:ds.length=es.length
  ·have q:=SeqAt.RcAt.lists (e:=fun j=>eqDv (ds.getD j (.leaf .non)) (es.getD j (.leaf .non))) pl.isList pl2.isList (by simp;omega) (by omega:A.units < cLine) (fun j h1 h2=>by
    have h1:j < its.length:=by simpa using h1
    have h2:j < its2.length:=by simpa using h2
    have e:=ih j (its[j]) (its2[j]) its its2 rv rv2 (by simp[h1]) (by simp[h2])
    simpa using e)
   rw[decide_eq_true hl,Bool.true_and]
   have em:min ds.length es.length=its.toArray.size:=by simp;omega
   rw[em]
   exact q
  ·have q:=SeqAt.RcAt.lists_lengths (A:=A) pl.isList pl2.isList (by simp;omega) (by omega:A.units < cLine)
   rw[decide_eq_false hl,Bool.false_and]
   exact q
 |true=>
  obtain⟨its,rv,pl,_⟩:=I.tuple (show SqT X.K H a xs by simpa using hsx)
  obtain⟨its2,rv2,pl2,_⟩:=I.tuple (show SqT X.K H b ys by simpa using hsy)
  have n1:=rv.length
  have n2:=rv2.length
  have q:=SeqAt.RcAt.tuples (e:=fun j=>eqDv (ds.getD j (.leaf .non)) (es.getD j (.leaf .non))) (show s.heap.IsTuple a its.toArray from pl) (show s.heap.IsTuple b its2.toArray from pl2) (by omega:A.units < cLine) (fun j h1 h2=>by
    have h1:j < its.length:=by simpa using h1
    have h2:j < its2.length:=by simpa using h2
    have e:=ih j (its[j]) (its2[j]) its its2 rv rv2 (by simp[h1]) (by simp[h2])
    simpa using e)
  have em:min its.toArray.size its2.toArray.size=min ds.length es.length:=by simp;omega
  have eb:(its.toArray.size == its2.toArray.size)=decide (ds.length=es.length):=by
   rw[Bool.eq_iff_iff];simp;omega
  rw[em,eb,Bool.and_comm] at q
  exact q
mutual
theorem aib {X:Cx} {pins:List (Addr×Obj)} {σ:St} {H:Hp} {s:Shared} (I:Inv X pins σ H s):∀(d e:Dv) (A:Around) (x y:V) (u v:Value),A.units+deep d < cLine→alike d e=true→Sees X.K H d x→Sees X.K H e y→RelV x u→RelV y v→SeqAt.EqAt A s u v (eqDv d e)
 |.leaf a,.leaf b,A,x,y,u,v,_,_,hx,hy,rx,ry=>by
  unfold Sees at hx hy
  obtain⟨rfl,fx⟩:=hx
  obtain⟨rfl,fy⟩:=hy
  rw[eqDv]
  exact aj4 rx ry fx fy
 |.leaf a,.seq t es,A,x,y,u,v,_,h,_,_,_,_=>by simp[alike] at h
 |.seq t ds,.leaf b,A,x,y,u,v,_,h,_,_,_,_=>by simp[alike] at h
 |.seq t ds,.seq t' es,A,x,y,u,v,hu,h,hx,hy,rx,ry=>by
  have h0:=h
  rw[alike,Bool.and_eq_true] at h
  have ht:=beq_iff_eq.mp h.1
  subst ht
  have hx0:=hx
  have hy0:=hy
  unfold Sees at hx hy
  obtain⟨a,xs,rfl,hsx,hL⟩:=hx
  obtain⟨b,ys,rfl,hsy,hM⟩:=hy
  cases rx
  cases ry
  by_cases hab:a=b
  ·subst hab
   rw[afn I _ _ _ h0 hx0 hy0]
   exact SeqAt.EqAt.same _
  ·rw[deep] at hu
   have hu1:A.in1.units+deepL ds < cLine:=by show A.units+1+deepL ds < cLine;omega
   have ih:=adi I ds es A.in1 xs ys hu1 h.2 hL hM
   rw[eqDv]
   exact SeqAt.EqAt.of_refs hab (aia I (by omega) hsx hsy hL.length hM.length ih)
theorem adi {X:Cx} {pins:List (Addr×Obj)} {σ:St} {H:Hp} {s:Shared} (I:Inv X pins σ H s):∀(ds es:List Dv) (A:Around) (xs ys:List V),A.units+deepL ds < cLine→alikeL ds es=true→SeesL X.K H ds xs→SeesL X.K H es ys→
  ∀(j:Nat) (u v:Value) (us vs:List Value),Vals xs us→Vals ys vs→us[j]?=some u→vs[j]?=some v→SeqAt.EqAt A s u v (eqDv (ds.getD j (.leaf .non)) (es.getD j (.leaf .non)))
 |[],es,A,xs,ys,_,_,hx,hy,j,u,v,us,vs,rx,ry,e1,e2=>by
  unfold SeesL at hx
  subst hx
  cases rx
  simp at e1
 |d::ds,[],A,xs,ys,_,_,hx,hy,j,u,v,us,vs,rx,ry,e1,e2=>by
  unfold SeesL at hy
  subst hy
  cases ry
  simp at e2
 |d::ds,e::es,A,xs,ys,hu,h,hx,hy,j,u,v,us,vs,rx,ry,e1,e2=>by
  rw[alikeL,Bool.and_eq_true] at h
  rw[deepL] at hu
  unfold SeesL at hx hy
  obtain⟨x,r,rfl,hx,hxr⟩:=hx
  obtain⟨y,r',rfl,hy,hyr⟩:=hy
  cases rx with
  |cons p1 p2=>
   cases ry with
   |cons q1 q2=>
    cases j with
    |zero=>
     simp at e1 e2
     subst e1 e2
     exact aib I d e A x y _ _ (by omega) h.1 hx hy p1 q1
    |succ k=>
     have z:=adi I ds es A r r' (by omega) h.2 hxr hyr k u v _ _ p2 q2 (by simpa using e1) (by simpa using e2)
     simpa using z
end
theorem hu6 {A:Around} {k:Nat} (hr:Room k A):A.units+4+2 < cLine:=by have:=hr.units;omega
noncomputable def rEqD (K:PySem.W.Frag) (n:Nat):R2:=fun x y H Q=>∃t ds es,Sees K H (.seq t ds) x∧Sees K H (.seq t es) y∧alikeL ds es=true∧deepL ds≤n∧Q (.bl (eqDvL ds es)) H
theorem rc_of {X:Cx} {pins:List (Addr×Obj)} {σ:St} {H:Hp} {s:Shared} (I:Inv X pins σ H s) {A:Around} {n:Nat} (hu:A.units+n+2 < cLine) {t:Bool} {ds es:List Dv} {x y:V} {u v:Value} (hx:Sees X.K H (.seq t ds) x) (hy:Sees X.K H (.seq t es) y) (ha:alikeL ds es=true) (hd:deepL ds≤n)
  (rx:RelV x u) (ry:RelV y v):SeqAt.RcAt A s u v (eqDvL ds es):=by
 unfold Sees at hx hy
 obtain⟨a,xs,rfl,hsx,hL⟩:=hx
 obtain⟨b,ys,rfl,hsy,hM⟩:=hy
 cases rx
 cases ry
 exact aia I (by omega) hsx hsy hL.length hM.length (adi I ds es A.in1 xs ys (by show A.units+1+deepL ds < cLine;omega) ha hL hM)
theorem aj7 {X:Cx} {n:Nat} (hu:X.A.units+n+2 < cLine):OpR X (compareOp .Eq) (rEqD X.K n):=by
 intro pins s σ H x y v u Q I rx ry h
 obtain⟨t,ds,es,hx,hy,ha,hd,q⟩:=h
 exact rc_of I hu hx hy ha hd rx ry X.prog X.w X.xe _ ⟨.bl _,H,I,rfl,q⟩
noncomputable def dInts (ns:List Int):List Dv:=ns.map fun i=>.leaf (.int i)
theorem aeh {K:PySem.W.Frag} {H:Hp}:∀(ns:List Int),SeesL K H (dInts ns) (ns.map V.int)
 |[]=>by unfold dInts SeesL;rfl
 |n::ns=>by
  show SeesL K H (.leaf (.int n)::dInts ns) (.int n::ns.map V.int)
  unfold SeesL
  exact⟨_,_,rfl,by unfold Sees;exact⟨rfl,rfl⟩,aeh ns⟩
theorem agp {K:PySem.W.Frag} {H:Hp} {a:Addr} {ns:List Int} (h:SqT K H a (ns.map V.int)):Sees K H (.seq true (dInts ns)) (.ref a):=by
 unfold Sees
 exact⟨a,_,rfl,by simpa using h,aeh ns⟩
theorem aei:∀(ns ms:List Int),alikeL (dInts ns) (dInts ms)=true
 |[],_=>by unfold dInts;simp[alikeL]
 |_::_,[]=>by unfold dInts;simp[alikeL]
 |n::ns,m::ms=>by
  show alikeL (.leaf (.int n)::dInts ns) (.leaf (.int m)::dInts ms)=true
  rw[alikeL,alike,aei ns ms];rfl
theorem afo:∀(ns:List Int),deepL (dInts ns)=0
 |[]=>by unfold dInts;simp[deepL]
 |n::ns=>by
  show deepL (.leaf (.int n)::dInts ns)=0
  rw[deepL,deep,afo ns];rfl
theorem aic:∀(ns ms:List Int),eqDvL (dInts ns) (dInts ms)=decide (ns=ms)
 |[],[]=>by unfold dInts;simp[eqDvL]
 |[],_::_=>by unfold dInts;simp[eqDvL]
 |_::_,[]=>by unfold dInts;simp[eqDvL]
 |n::ns,m::ms=>by
  show eqDvL (.leaf (.int n)::dInts ns) (.leaf (.int m)::dInts ms)=_
  rw[eqDvL,eqDv,aic ns ms]
  show ((n == m)&&decide (ns=ms))=_
  rw[Bool.eq_iff_iff];simp
end L2
namespace L2
open PySem PySem.Spec PyProof.Rows
noncomputable def compChk (sc:Scope) (env:Env) (x:Str) (fs:List Str):Bool:=
 sc.kind == .function&&sc.names.all (fun y=>y.2 != .cell&&(y.2 != .local || sc.names.lookup y.1 == some .local)&&(y.2 != .free || env.kindOf y.1 == some .cell || env.kindOf y.1 == some .free))&&
  sc.names.lookup x == some .local&&fs.all (fun f=>sc.names.lookup f == some .free)
structure CompSc (sc:Scope) (env:Env) (x:Str) (fs:List Str):Prop where
 kind:sc.kind=.function
 nocell:∀y∈sc.names,y.2≠.cell
 own:∀y∈sc.names,y.2=.local→sc.names.lookup y.1=some .local
 fr:∀y∈sc.names,y.2=.free→env.kindOf y.1=some .cell∨env.kindOf y.1=some .free
 x:sc.names.lookup x=some .local
 fs:∀f∈fs,sc.names.lookup f=some .free
theorem CompSc.of {sc:Scope} {env:Env} {x:Str} {fs:List Str} (h:compChk sc env x fs=true):CompSc sc env x fs:=by
 unfold compChk at h
 simp only[Bool.and_eq_true,beq_iff_eq,List.all_eq_true,Bool.or_eq_true,bne_iff_ne,ne_eq] at h
 obtain⟨⟨⟨h1,h2⟩,h3⟩,h4⟩:=h
 refine⟨h1,fun y hy=>(h2 y hy).1.1,fun y hy e=>?_,fun y hy e=>?_,h3,h4⟩
 ·rcases (h2 y hy).1.2 with z|z
  ·exact absurd e z
  ·exact z
 ·rcases (h2 y hy).2 with (z|z)|z
  ·exact absurd e z
  ·exact .inl z
  ·exact .inr z
theorem adj {env:Env}:∀(names:List (Str×NameKind)) (acc:List (Str×Addr)),(∀n,(n,NameKind.free)∈names→∃c,env.cells.lookup n=some c)→
  ∃cl,(forIn names acc fun y r=>(do if (y.2 == NameKind.free)=true then do let c←cellOf env y.1;pure (ForInStep.yield ((y.1,c)::r)) else pure (ForInStep.yield r):Sem (ForInStep (List (Str×Addr)))))=pure cl∧
   (∀n c,cl.lookup n=some c→acc.lookup n=some c∨env.cells.lookup n=some c)∧∀n,(∃c,acc.lookup n=some c)∨(n,NameKind.free)∈names→∃c,cl.lookup n=some c
 |[],acc,_=>⟨acc,rfl,fun _ _ e=>.inl e,fun n h=>h.elim id fun z=>nomatch z⟩
 |(n,k)::r,acc,h=>by
  have hr:∀m,(m,NameKind.free)∈r→∃c,env.cells.lookup m=some c:=fun m hm=>h m (List.mem_cons_of_mem _ hm)
  by_cases hk:k=.free
  ·subst hk
   obtain⟨c,hc⟩:=h n List.mem_cons_self
   obtain⟨cl,e,h1,h2⟩:=adj r ((n,c)::acc) hr
   refine⟨cl,?_,fun m c' hm=>?_,fun m hm=>h2 m ?_⟩
   ·rw[List.forIn_cons]
    simp only[beq_self_eq_true,if_true,cellOf,hc,pure_bind]
    exact e
   ·rcases h1 m c' hm with z|z
    ·rw[List.lookup_cons] at z
     cases q:m == n with
     |true=>
      rw[q] at z
      cases z
      rw[beq_iff_eq.mp q]
      exact .inr hc
     |false=>rw[q] at z;exact .inl z
    ·exact .inr z
   ·rw[List.lookup_cons]
    rcases hm with ⟨c',z⟩|hm
    ·cases q:m == n with
     |true=>exact .inl ⟨c,rfl⟩
     |false=>exact .inl ⟨c',z⟩
    ·rcases List.mem_cons.mp hm with z|z
     ·cases z
      rw[beq_self_eq_true]
      exact .inl ⟨c,rfl⟩
     ·exact .inr z
  ·obtain⟨cl,e,h1,h2⟩:=adj r acc hr
   refine⟨cl,?_,h1,fun m hm=>h2 m ?_⟩
   ·rw[List.forIn_cons]
    have hb:(k == NameKind.free)=false:=by simpa using hk
    simp only[hb,Bool.false_eq_true,if_false,pure_bind]
    exact e
   ·rcases hm with z|hm
    ·exact .inl z
    ·rcases List.mem_cons.mp hm with z|z
     ·cases z;exact absurd rfl hk
     ·exact .inr z
theorem aha {env:Env} {sc:Scope} (h:∀n,(n,NameKind.free)∈sc.names→∃c,env.cells.lookup n=some c):
  ∃cl,closureFor sc env=pure cl∧(∀n c,cl.lookup n=some c→env.cells.lookup n=some c)∧∀n,(n,NameKind.free)∈sc.names→∃c,cl.lookup n=some c:=by
 obtain⟨cl,e,h1,h2⟩:=adj sc.names [] h
 refine⟨cl,?_,fun n c z=>(h1 n c z).elim (fun q=>nomatch q) id,fun n hn=>h2 n (.inr hn)⟩
 unfold closureFor
 simp only[bind_pure]
 exact e
theorem acq {env:Env}:∀{names:List (Str×NameKind)} {x:Str} {k:NameKind},(names.map fun (n,k)=>if (k == NameKind.free&&env.scope.kind == .function&&env.kindOf n == some .cell) then (n,NameKind.cell) else (n,k)).lookup x=some k→
  k=.cell∨k=.free→names.lookup x=some .free∨names.lookup x=some .cell
 |[],_,_,h,_=>by simp at h
 |(n,k0)::r,x,k,h,hk=>by
  have ih:=@acq env r x k
  have h:List.lookup x ((if (k0 == NameKind.free&&env.scope.kind == .function&&env.kindOf n == some .cell)=true then (n,NameKind.cell) else (n,k0))::(r.map fun (n,k)=>if (k == NameKind.free&&env.scope.kind == .function&&env.kindOf n == some .cell) then (n,NameKind.cell) else (n,k)))=some k:=h
  by_cases hc:(k0 == NameKind.free&&env.scope.kind == .function&&env.kindOf n == some .cell)=true
  ·rw[if_pos hc] at h
   simp only[List.lookup_cons] at h ⊢
   cases hx:x == n with
   |true=>
    simp only[Bool.and_eq_true,beq_iff_eq] at hc
    rw[hc.1.1]
    exact .inl rfl
   |false=>rw[hx] at h;exact ih h hk
  ·rw[if_neg hc] at h
   simp only[List.lookup_cons] at h ⊢
   cases hx:x == n with
   |true=>
    rw[hx] at h
    cases h
    rcases hk with rfl|rfl
    ·exact .inr rfl
    ·exact .inl rfl
   |false=>rw[hx] at h;exact ih h hk
theorem ads {env:Env}:∀{names:List (Str×NameKind)} {x:Str},names.lookup x=some .free→
  (names.map fun (n,k)=>if (k == NameKind.free&&env.scope.kind == .function&&env.kindOf n == some .cell) then (n,NameKind.cell) else (n,k)).lookup x=some .cell∨(names.map fun (n,k)=>if (k == NameKind.free&&env.scope.kind == .function&&env.kindOf n == some .cell) then (n,NameKind.cell) else (n,k)).lookup x=some .free
 |[],_,h=>by simp at h
 |(n,k0)::r,x,h=>by
  have ih:=@ads env r x
  show List.lookup x ((if (k0 == NameKind.free&&env.scope.kind == .function&&env.kindOf n == some .cell)=true then (n,NameKind.cell) else (n,k0))::_)=_∨List.lookup x ((if (k0 == NameKind.free&&env.scope.kind == .function&&env.kindOf n == some .cell)=true then (n,NameKind.cell) else (n,k0))::_)=_
  simp only[List.lookup_cons] at h
  by_cases hc:(k0 == NameKind.free&&env.scope.kind == .function&&env.kindOf n == some .cell)=true
  ·rw[if_pos hc]
   simp only[List.lookup_cons]
   cases hx:x == n with
   |true=>exact .inl rfl
   |false=>rw[hx] at h;exact ih h
  ·rw[if_neg hc]
   simp only[List.lookup_cons]
   cases hx:x == n with
   |true=>rw[hx] at h;exact .inr h
   |false=>rw[hx] at h;exact ih h
noncomputable def cxComp (X:Cx) (scope:Scope) (cl:List (Str×Addr)) (C:Addr) (N:List Str) (s₀:Shared) (H₀:Hp) (fp:List Addr) (xe:Value→Shared→Prop):Cx:=
 {X with N:=N,s₀:=s₀,H₀:=H₀,env:=compEnvC scope cl C X.env,outer:=X.stack,stack:=X.stack,ex:=fp,fn:=fun _=>false,pn:=[],xe:=xe}
theorem aid {X:Cx}:XW X (fun _ _ _=>False):=fun _ _ _ _ _ _ _ _ _ _ _ _ _ _ _ h=>h.elim
inductive HidC (g:TG) (tt:TT) (te:TE):Type where
 |mk:HidC g tt te
noncomputable def PF (X:Cx) (ifs:List Expr) (tt:TT):Prop:=
 ∀(pins:List (Addr×Obj)) (s:Shared) (σ:St) (H:Hp) (Q:Bool→Hp→Prop),Inv X pins σ H s→tt σ H Q→
  wpAny (model X.prog X.w) X.A (forIn ifs true fun c r=>if r=true then do let ok←isTrue c X.env (eval c X.env);pure (ForInStep.yield ok) else pure (ForInStep.yield r)) (TP X pins σ Q) X.xe s
noncomputable def tYes:TT:=fun _ H Q=>Q true H
theorem aie {X:Cx}:PF X [] tYes:=fun _ _ _ H _ I h=>by
 simp only[List.forIn_nil]
 exact wpAny_pure ⟨H,I,h⟩
theorem aif {X:Cx} {c:Expr} {tt:TT} (h:PT X c tt):PF X [c] tt:=fun pins s σ H Q I hw=>wpAny_tests_one (h pins s σ H Q I hw)
noncomputable def Comp (g:TG) (tt:TT) (te:TE) (_:HidC g tt te) (J:It) (σ0:St) (D:Addr) (Q:Hp→Prop) (H:Hp):Prop:=
 ∃W:Nat→Nat→List V→St→Hp→Prop,(∃m,W 0 m [] σ0 (upd H D (.lst [])))∧∀i m ys σ H,W i m ys σ H→
  (J.stop i H∧Q H)∨(J.go i H∧∃N:List V→St→Hp→Prop,(∀ys σ H,N ys σ H→∃m',m' < m∧W (i+1) m' ys σ H)∧
   ∀y H',J.yld i H y H'→g y σ H' fun σ2 H2=>tt σ2 H2 fun b H2'=>if b=true then te σ2 H2' fun v H3=>H3 D=some (.lst ys)∧ys.length < sizeLine∧N (ys++[v]) σ2 (upd H3 D (.lst (ys++[v]))) else N ys σ2 H2')
noncomputable def tComp (wi:TI) (ix:List Nat) (g:TG) (tt:TT) (te:TE) (h:HidC g tt te):TE:=fun σ H Q=>wi σ H fun J H1=>∀D,H1 D=none→Comp g tt te h J (none::ix.map fun i=>(σ[i]?).join) D (fun H'=>Q (.ref D) H') H1
theorem aca {K:PySem.W.Frag} {a:Addr} {xs:List V} {g:TG} {tt:TT} {te:TE} {h:HidC g tt te} {σ0:St} {D:Addr} {Q:Hp→Prop} {H:Hp} (Pv:Nat→List V→St→Hp→Prop) (h0:Pv 0 [] σ0 (upd H D (.lst []))) (hl:∀i ys σ H,i≤xs.length→Pv i ys σ H→SqL K H a xs)
  (hs:∀i x ys σ H,xs[i]?=some x→Pv i ys σ H→g x σ H fun σ2 H2=>tt σ2 H2 fun b H2'=>if b=true then te σ2 H2' fun v H3=>H3 D=some (.lst ys)∧ys.length < sizeLine∧Pv (i+1) (ys++[v]) σ2 (upd H3 D (.lst (ys++[v]))) else Pv (i+1) ys σ2 H2') (hd:∀ys σ H,Pv xs.length ys σ H→Q H):
  Comp g tt te h (Itl K a) σ0 D Q H:=by
 refine⟨fun i m ys σ H=>i+m=xs.length∧Pv i ys σ H,⟨xs.length,Nat.zero_add _,h0⟩,fun i m ys σ H ⟨e,p⟩=>?_⟩
 have hq:=hl i ys σ H (by omega) p
 by_cases hi:i < xs.length
 ·have ex:xs[i]?=some xs[i]:=List.getElem?_eq_getElem hi
  refine .inr ⟨⟨xs,_,hq,ex⟩,Pv (i+1),fun ys σ H q=>⟨m - 1,by omega,by omega,q⟩,?_⟩
  rintro y H' ⟨rfl,hy⟩
  exact hs i y ys σ H' (hy xs hq) p
 ·have e':i=xs.length:=by omega
  subst e'
  exact .inl ⟨⟨xs,hq,Nat.le_refl _⟩,hd ys σ H p⟩
theorem aev {prog:Program} {w:World} {A:Around} {R:Result→Shared→Prop} {s:Shared} {elt target iter:Expr} {ifs:List Expr} {scope:Scope} {pos:Pos} {it acc:Value} {env:Env} (I:Nat→Shared→Prop)
  (turn:∀n s,I n s→wpAny (model prog w) A (pyNext it) (fun r s₁=>match r with
   |none=>R (.ok .next) s₁
   |some v=>wpAny (model prog w) A (letOwnedTupleGo target it v) (fun _ s₁'=>wpAny (model prog w) A (assign target env v) (fun _ s₂=>
    wpAny (model prog w) A (forIn ifs true fun c r=>if r=true then do let ok←isTrue c env (eval c env);pure (ForInStep.yield ok) else pure (ForInStep.yield r)) (fun ok s₃=>
     if ok=true then wpAny (model prog w) A (eval elt env) (fun x s₄=>
      wpAny (model prog w) A (call (.builtin "list.append") [acc,x]) (fun _ s₅=>∃m,m < n∧I m s₅) (notedBy (model prog w) A env fun e s'=>R (.error e) s') s₄) (notedBy (model prog w) A env fun e s'=>R (.error e) s') s₃
     else ∃m,m < n∧I m s₃) (notedBy (model prog w) A env fun e s'=>R (.error e) s') s₂) (notedBy (model prog w) A env fun e s'=>R (.error e) s') s₁') (notedBy (model prog w) A env fun e s'=>R (.error e) s') s₁) (notedBy (model prog w) A env fun e s'=>R (.error e) s') s)
  (n:Nat) (h:I n s):codeAny (model prog w) A (.compLoop (.ListComp elt [⟨target,iter,ifs,0⟩] scope pos) 0 it acc env) R s:=by
 refine codeAny_loop rfl I (fun n s hI=>?_) n h
 show wpAny _ _ ((compTurn (.ListComp elt [⟨target,iter,ifs,0⟩] scope pos) 0 it acc env).onRaise (fun x=>do noteFrame x env;theTreesLotGoes x)) _ _ s
 refine wpAny_noted ?_
 rw[compTurn_list]
 refine wpAny_bind (wpAny_standAt (wpAny_bind (wpAny_mono (turn n s hI) (fun r s₁ h₁=>?_) fun _ _ h'=>h')))
 cases r with
 |none=>exact wpAny_pure h₁
 |some v=>
  refine wpAny_bind (wpAny_mono h₁ (fun _ s₁' h₁'=>?_) fun _ _ h'=>h')
  refine wpAny_bind (wpAny_mono h₁' (fun _ s₂ h₂=>wpAny_bind (wpAny_mono h₂ (fun ok s₃ h₃=>?_) fun _ _ h'=>h')) fun _ _ h'=>h')
  cases ok with
  |false=>exact wpAny_pure ⟨rfl,h₃⟩
  |true=>
   exact wpAny_bind (wpAny_bind (wpAny_mono h₃ (fun x s₄ h₄=>wpAny_bind (wpAny_mono h₄ (fun _ s₅ h₅=>wpAny_pure (wpAny_pure ⟨rfl,h₅⟩)) fun _ _ h'=>h')) fun _ _ h'=>h'))
structure TurnG (ck:Cx→Prop) (P:Program) (w:World) (K:PySem.W.Frag) (tg:Expr) (J:It) (fp:List Addr) (it:Addr) (tn:Nat→Heap→Prop):Prop where
 obj:∀i h,tn i h→∀b∈fp,∃o,h.get? b=some o∧∀v,o.data≠.cell v
 keep:∀i h h',tn i h→(∀b∈fp,∀o,h.get? b=some o→h'.get? b=some o)→tn i h'
 item:∀(X:Cx),X.prog=P→X.w=w→X.K=K→ck X→∀(i:Nat) (pins:List (Addr×Obj)) (s:Shared) (σ:St) (H:Hp) (E:Value→Shared→Prop),Inv X pins σ H s→(∀b∈fp,FpOk X pins H b)→tn i s.heap→J.go i H→
  wpAny (model P w) X.A (pyNext (.ref it)) (fun r s1=>∃u,r=some u∧wpAny (model P w) X.A (letOwnedTupleGo tg (.ref it) u) (fun _ s2=>∃x H',Inv X pins σ H' s2∧RelV x u∧J.yld i H x H'∧tn (i+1) s2.heap∧∀b∈fp,H' b=none) E s1) E s
 done:∀(X:Cx),X.prog=P→X.w=w→X.K=K→ck X→∀(i:Nat) (pins:List (Addr×Obj)) (s:Shared) (σ:St) (H:Hp) (E:Value→Shared→Prop),Inv X pins σ H s→(∀b∈fp,FpOk X pins H b)→tn i s.heap→J.stop i H→
  wpAny (model P w) X.A (pyNext (.ref it)) (fun r s1=>r=none∧Inv X pins σ H s1) E s
 self:∀(A:Around) (i:Nat) (s:Shared) (Q:Value→Shared→Prop) (E:Value→Shared→Prop),tn i s.heap→Q (.ref it) s→wpAny (model P w) A (pyIter (.ref it)) Q E s
theorem Turn.g {P:Program} {w:World} {K:PySem.W.Frag} {tg:Expr} {J:It} {fp:List Addr} {it:Addr} {tn:Nat→Heap→Prop} (T:Turn P w K tg J fp it tn):TurnG (fun X=>X.calm=true) P w K tg J fp it tn:=⟨T.obj,T.keep,T.item,T.done,T.self⟩
section
variable {X:Cx}
theorem adk {ck:Cx→Prop} {pins:List (Addr×Obj)} {σ:St} {H2:Hp} {s2:Shared} {it:Addr} {fp:List Addr} {tn:Nat→Heap→Prop} {J:It} {tg iter elt:Expr} {ifs:List Expr} {scope:Scope} {cl:List (Str×Addr)} {pos:Pos} {x:Str} {fs:List Str} {ix:List Nat} {g:TG} {tt:TT} {te:TE}
  {Qf:Addr→Hp→Prop} {E:Value→Shared→Prop} {RR:Value→Addr→Result→Shared→Prop}
  (I2:Inv X pins σ H2 s2) (T:TurnG ck X.prog X.w X.K tg J fp it tn) (st2:tn 0 s2.heap) (f2:∀b∈fp,FpOk X pins H2 b) (hc:∀C s₀ H₀ xe,ck (cxComp X scope cl C (x::fs) s₀ H₀ fp xe)) (S:CompSc scope X.env x fs)
  (c1:∀n c,cl.lookup n=some c→X.env.cells.lookup n=some c) (c2:∀n,(n,NameKind.free)∈scope.names→∃c,cl.lookup n=some c) (hix:ix.map (X.N[·]?)=fs.map some)
  (hg:∀C s₀ H₀ xe,PG (cxComp X scope cl C (x::fs) s₀ H₀ fp xe) tg g) (hf:∀C s₀ H₀ xe,PF (cxComp X scope cl C (x::fs) s₀ H₀ fp xe) ifs tt) (he:∀C s₀ H₀ xe,PE (cxComp X scope cl C (x::fs) s₀ H₀ fp xe) elt te)
  (h:∀D,H2 D=none→Comp g tt te .mk J (none::ix.map fun i=>(σ[i]?).join) D (Qf D) H2)
  (fin:∀D C H' s',Inv X pins σ H' s'→Qf D H'→(∃m,s'.heap.Ns C m)→FpOk X pins H' C→RR (.ref D) C (.ok .next) s'):
  wpAny (model X.prog X.w) X.A (newList []) (fun acc s₃=>wpAny (model X.prog X.w) X.A (newFunctionEnv scope X.env.globals cl [] X.env.qual none .none (some X.env)) (fun cenv s₄=>
   codeAny (model X.prog X.w) X.A (.compStart (.ListComp elt [⟨tg,iter,ifs,0⟩] scope pos) 0 (.ref it) acc {cenv with scope:=relabel scope X.env}) (RR acc cenv.locals) s₄) E s₃) E s2:=by
 have hD:H2 s2.heap.objs.size=none:=I2.hok.fresh (Nat.le_refl _)
 obtain⟨W,⟨m0,w0⟩,turn⟩:=h _ hD
 refine wpAny_newObj_type (wpAny_newFunctionEnv S.nocell (by intro y hy;simp at hy) (fun h₁ hns₁ hsb₁=>?_) S.kind)
 have I3:Inv X pins σ (upd H2 s2.heap.objs.size (.lst [])) {s2 with heap:=s2.heap.push {cls:=.type "list",dict:=none,data:=.seq ([]:List Value).toArray}}:=
  I2.laid (t':=s2.toks) (fun b u e=>Heap.get?_push_of_some _ e) (Nat.le_refl _) ⟨by decide,[],0,.nil,Heap.get?_push_size _ rfl⟩
 obtain⟨e3,he3⟩:∃s3:Shared,s3={s2 with heap:=s2.heap.push {cls:=.type "list",dict:=none,data:=.seq ([]:List Value).toArray}}:=⟨_,rfl⟩
 rw[←he3] at I3
 have hh3:s2.heap.push {cls:=.type "list",dict:=none,data:=.seq ([]:List Value).toArray}=e3.heap:=by rw[he3]
 have sz3:e3.heap.objs.size=s2.heap.objs.size+1:=by rw[←hh3,Heap.size_push]
 dsimp only at hns₁ hsb₁ ⊢
 rw[hh3] at hns₁ hsb₁ ⊢
 generalize hH3:upd H2 s2.heap.objs.size (.lst [])=H3 at *
 have live:∀b∈fp,b < s2.heap.objs.size:=fun b hb=>let ⟨_,e,_⟩:=T.obj _ _ st2 b hb;Heap.lt_size e
 have f3:∀b∈fp,FpOk X pins H3 b:=fun b hb=>by
  refine⟨?_,(f2 b hb).2⟩
  rw[←hH3,aaw (Nat.ne_of_lt (live b hb))]
  exact (f2 b hb).1
 have C0:FpOk X pins H3 e3.heap.objs.size:=I3.fpOk (Nat.le_refl _) (I3.hok.fresh (Nat.le_refl _))
 have old3:∀b o,e3.heap.get? b=some o→h₁.get? b=some o:=fun b o e=>hsb₁.extBut b o (Nat.ne_of_lt (Heap.lt_size e)) (Heap.get?_push_of_some _ e)
 have nofs:∀b∈fp,b∉frs X.stack:=fun b hb z=>(List.mem_cons.mp (I3.stkSub b z)).elim (f3 b hb).2.1 (f3 b hb).2.2.1
 have hst1:tn 0 h₁:=T.keep _ _ _ st2 fun b _ o e=>old3 b o (by rw[←hh3];exact Heap.get?_push_of_some _ e)
 have e0:=I3.env0
 have ok:∀xe,(cxComp X scope cl e3.heap.objs.size (x::fs) e3 H3 fp xe).Ok:=fun xe=>by
  refine⟨I3.ok.mod,S.kind,I3.ok.glob,I3.ok.blt,Nat.le_refl _,fun y z c h1 h2=>I3.ok.inj y z c (c1 _ _ h1) (c1 _ _ h2),fun y hy=>?_,fun y c z=>?_,I3.ok.hd,I3.ok.frames,.inl rfl,fun b hb=>⟨?_,fun y c e=>(f3 b hb).2.2.2.2.1 y c (c1 _ _ e)⟩,e0.bs,e0.bsz,fun b o e hb=>?_,nofs,e0.funs,e0.frf⟩
  ·have q:scope.names.lookup y=some .free∨scope.names.lookup y=some .cell:=by
    rcases hy with hy|hy
    ·exact acq hy (.inl rfl)
    ·exact acq hy (.inr rfl)
   rcases q with q|q
   ·exact c2 y (PySem.mem_of_lookup q)
   ·exact absurd rfl (S.nocell _ (PySem.mem_of_lookup q))
  ·cases z
  ·exact Nat.ne_of_lt (Nat.lt_of_lt_of_le (live b hb) (by rw[sz3];exact Nat.le_succ _))
  ·rcases (f3 b hb).2.2.2.1 with z|z
   ·exact I3.ok.noex b o e z
   ·exact absurd (Nat.lt_of_lt_of_le (Heap.lt_size e) (Nat.le_trans I3.ok.bsz z)) (Nat.lt_irrefl _)
 have cellUp:∀c v,e3.heap.IsCell c v→h₁.IsCell c v:=fun c v ⟨o,ho,hd⟩=>⟨o,old3 _ _ ho,hd⟩
 have J0:∀xe,Inv (cxComp X scope cl e3.heap.objs.size (x::fs) e3 H3 fp xe) [] (none::ix.map fun i=>(σ[i]?).join) H3 {e3 with heap:=h₁,toks:=e3.toks+([]:List (Str×Value)).length}:=fun xe=>by
  have hk:∀b o,e3.heap.get? b=some o→h₁.get? b=some o:=old3
  refine⟨ok xe,rfl,I3.bare,Un.kept hk,⟨_,hns₁,fun i y v h1 h2 h3=>?_⟩,fun y c e=>?_,I3.hok.fresh (Nat.le_refl _),fun y c e=>I3.freeC y c (c1 _ _ e),fun p hp=>absurd (show p∈([]:List (Addr×Obj)) from hp) (by simp),I3.hok.kept hk,?_⟩
  ·cases i with
   |zero=>cases h2
   |succ i=>
    have h1:fs[i]?=some y:=h1
    have h2:(ix.map fun i=>(σ[i]?).join)[i]?=some (some v):=h2
    have hy:=S.fs y (List.mem_of_getElem? h1)
    rw[List.getElem?_map] at h2
    cases ej:ix[i]? with
    |none=>rw[ej] at h2;cases h2
    |some j=>
     rw[ej] at h2
     have h2:(σ[j]?).join=some v:=Option.some.inj h2
     have hσ:σ[j]?=some (some v):=by
      cases q:σ[j]? with
      |none=>rw[q] at h2;cases h2
      |some o=>rw[q] at h2;cases o with
       |none=>cases h2
       |some o=>cases h2;rfl
     have hN:X.N[j]?=some y:=by
      have z:=congrArg (·[i]?) hix
      simp only[List.getElem?_map,ej,h1,Option.map_some] at z
      exact Option.some.inj z
     have kf:=S.fr _ (PySem.mem_of_lookup hy) rfl
     obtain⟨m,hn,hl⟩:=I3.loc
     obtain⟨u,r,l⟩:=hl j y v hN hσ (by rcases kf with k|k;exact .inr (.inl k);exact .inr (.inr k))
     refine⟨u,r,.inr ⟨ads hy,?_⟩⟩
     rcases l with ⟨l,_⟩|⟨_,c,e,z⟩
     ·rcases kf with k|k<;>(rw[l] at k;cases k)
     ·obtain⟨c',e'⟩:=c2 y (PySem.mem_of_lookup hy)
      have q:=c1 _ _ e'
      rw[e] at q;cases q
      exact⟨c,e',cellUp _ _ z⟩
  ·obtain⟨v,z⟩:=I3.cell y c (c1 _ _ e)
   exact⟨v,cellUp _ _ z⟩
  ·have z:=congrArg List.length hix
   simp only[List.length_map] at z
   show (none::_:St).length=(x::fs).length
   simp only[List.length_cons,List.length_map,z]
 have back:∀{xe σ' H' s'},Inv (cxComp X scope cl e3.heap.objs.size (x::fs) e3 H3 fp xe) [] σ' H' s'→Inv X pins σ H' s':=fun {xe σ' H' s'} J=>
  I3.call' (s':=s') (ch:=fp) J.os J.base J.hok J.bare fun b hb=>⟨(f3 b hb).2.2.2.1,(f3 b hb).2.1,(f3 b hb).2.2.2.2.1,(f3 b hb).2.2.2.2.2⟩
 have stat:∀{xe} {H':Hp},(∀b∈fp,H' b=none)→∀b∈fp,FpOk (cxComp X scope cl e3.heap.objs.size (x::fs) e3 H3 fp xe) [] H' b:=fun {xe H'} hn b hb=>
  ⟨hn b hb,Nat.ne_of_lt (Nat.lt_of_lt_of_le (live b hb) (by rw[sz3];exact Nat.le_succ _)),nofs b hb,.inl hb,fun y c e=>(f3 b hb).2.2.2.2.1 y c (c1 _ _ e),fun p hp=>absurd (show p∈([]:List (Addr×Obj)) from hp) (by simp)⟩
 have loop:∀s4:Shared,s4={e3 with heap:=h₁,toks:=e3.toks+([]:List (Str×Value)).length}→
   codeAny (model X.prog X.w) X.A (.compLoop (.ListComp elt [⟨tg,iter,ifs,0⟩] scope pos) 0 (.ref it) (.ref s2.heap.objs.size) (compEnvC scope cl e3.heap.objs.size X.env)) (RR (.ref s2.heap.objs.size) e3.heap.objs.size) s4:=by
  rintro s4 rfl
  let xe:=notedBy (model X.prog X.w) X.A (compEnvC scope cl e3.heap.objs.size X.env) fun e s'=>RR (.ref s2.heap.objs.size) e3.heap.objs.size (.error e) s'
  refine aev (fun n s'=>∃i ys σ' H',Inv (cxComp X scope cl e3.heap.objs.size (x::fs) e3 H3 fp xe) [] σ' H' s'∧tn i s'.heap∧(∀b∈fp,H' b=none)∧W i n ys σ' H') ?_ m0 ⟨0,[],_,_,J0 xe,hst1,fun b hb=>(f3 b hb).1,w0⟩
  rintro n s5 ⟨i,ys,σ5,H5,J5,st5,fr5,w5⟩
  rcases turn i n ys σ5 H5 w5 with ⟨stop,qn⟩|⟨go,N,hN,step⟩
  ·refine thn (T.done (cxComp X scope cl e3.heap.objs.size (x::fs) e3 H3 fp xe) rfl rfl rfl (hc _ _ _ _) i [] s5 σ5 H5 xe J5 (stat fr5) st5 stop) fun r s6 ⟨hr,J6⟩=>?_
   subst hr
   obtain⟨m,hn,_⟩:=J6.loc
   exact fin _ _ H5 s6 (back J6) qn ⟨m,hn⟩ ⟨J6.free,C0.2⟩
  ·refine thn (T.item (cxComp X scope cl e3.heap.objs.size (x::fs) e3 H3 fp xe) rfl rfl rfl (hc _ _ _ _) i [] s5 σ5 H5 xe J5 (stat fr5) st5 go) fun r s6 ⟨u,hr,h6⟩=>?_
   subst hr
   refine thn h6 fun _ s7 ⟨y,H7,J7,r7,y7,st7,fr7⟩=>?_
   have J7':=J7.pinned (stat fr7) (T.obj _ _ st7)
   refine thn (hg _ _ _ xe _ s7 σ5 H7 y u _ J7' r7 (step y H7 y7)) fun _ s8 ⟨σ8,H8,J8,q8⟩=>?_
   refine thn (hf _ _ _ xe _ s8 σ8 H8 _ J8 q8) fun ok s8' ⟨H8',J8',q8'⟩=>?_
   cases ok with
   |false=>
    obtain⟨m',hm',w9⟩:=hN _ _ _ (by simpa using q8')
    refine⟨m',hm',i+1,ys,σ8,_,J8'.unpinned,T.keep _ _ _ st7 fun b hb o e=>(J8'.pin (b,o) (List.mem_append_right _ (List.mem_append_right _ (ab1 hb e)))).1,fun b hb=>?_,w9⟩
    obtain⟨o,e,d⟩:=T.obj _ _ st7 b hb
    exact (J8'.pin (b,o) (List.mem_append_right _ (List.mem_append_right _ (ab1 hb e)))).2.1
   |true=>
   rw[if_pos rfl] at q8' ⊢
   refine thn (he _ _ _ xe _ s8' σ8 H8' _ J8' q8') fun uv s9 ⟨v,H9,J9,r9,hD9,hl9,n9⟩=>?_
   obtain⟨m',hm',w9⟩:=hN _ _ _ n9
   refine thn (ad6 (X:=cxComp X scope cl e3.heap.objs.size (x::fs) e3 H3 fp xe) _ s9 σ8 H9 (.ref s2.heap.objs.size) [v] _ [uv] (fun _ H'=>H'=upd H9 s2.heap.objs.size (.lst (ys++[v]))) J9 rfl (.cons r9 .nil) ⟨_,ys,v,rfl,rfl,hD9,hl9,rfl⟩) fun _ s10 ⟨_,H10,J10,_,eH⟩=>?_
   subst eH
   refine⟨m',hm',i+1,ys++[v],σ8,_,J10.unpinned,T.keep _ _ _ st7 fun b hb o e=>(J10.pin (b,o) (List.mem_append_right _ (List.mem_append_right _ (ab1 hb e)))).1,fun b hb=>?_,w9⟩
   obtain⟨o,e,d⟩:=T.obj _ _ st7 b hb
   exact (J10.pin (b,o) (List.mem_append_right _ (List.mem_append_right _ (ab1 hb e)))).2.1
 subst he3
 exact codeAny_compStart_list (loop _ rfl) (T.self X.A 0 _ _ _ hst1 (loop _ rfl))
theorem CompSc.clos {pins:List (Addr×Obj)} {σ:St} {H:Hp} {s:Shared} {scope:Scope} {x:Str} {fs:List Str} (S:CompSc scope X.env x fs) (I:Inv X pins σ H s):
  ∃cl,closureFor scope X.env=pure cl∧(∀n c,cl.lookup n=some c→X.env.cells.lookup n=some c)∧∀n,(n,NameKind.free)∈scope.names→∃c,cl.lookup n=some c:=
 aha fun n hn=>I.ok.has n (S.fr _ hn rfl)
theorem aig {tg iter elt:Expr} {ifs:List Expr} {scope:Scope} {pos:Pos} {x:Str} {fs:List Str} {ix:List Nat} {wi:TI} {g:TG} {tt:TT} {te:TE} (hc:X.calm=true) (hi:PI X tg iter wi) (hk:compChk scope X.env x fs=true) (hix:ix.map (X.N[·]?)=fs.map some)
  (hg:∀cl C s₀ H₀ fp xe,PG (cxComp X scope cl C (x::fs) s₀ H₀ fp xe) tg g) (hf:∀cl C s₀ H₀ fp xe,PF (cxComp X scope cl C (x::fs) s₀ H₀ fp xe) ifs tt) (he:∀cl C s₀ H₀ fp xe,PE (cxComp X scope cl C (x::fs) s₀ H₀ fp xe) elt te) (hs:∀x,foldedSetIterable iter X.env x=pure x:=by intro _;rfl):
  PE X (.ListComp elt [⟨tg,iter,ifs,0⟩] scope pos) (tComp wi ix g tt te .mk):=by
 intro pins s σ H Q I h
 have S:=CompSc.of hk
 obtain⟨cl,hcl,c1,c2⟩:=S.clos I
 rw[eval_ListComp]
 refine wpAny_comprehension_free (use:=none) rfl hs hcl S.kind S.own (thn (hi pins s σ H _ I h) fun v s1 h1=>thn h1 fun itv s2 h2=>?_)
 obtain⟨it,fp,tn,J,H2,e,I2,T,st2,f2,q⟩:=h2
 subst e
 refine adk (RR:=fun acc C=>compPost (model X.prog X.w) X.A X.xe none (EP X pins σ Q) acc C) I2 T.g st2 f2 (fun _ _ _ _=>hc) S c1 c2 hix (fun C s₀ H₀ xe=>hg cl C s₀ H₀ fp xe) (fun C s₀ H₀ xe=>hf cl C s₀ H₀ fp xe) (fun C s₀ H₀ xe=>he cl C s₀ H₀ fp xe) q fun D C H' s' I' q' ⟨m,hn⟩ ⟨f0,f1,_,f3,f4,f5⟩=>?_
 exact⟨m,hn,fun h' hs'=>⟨.ref D,H',I'.turned (t':=s'.toks) (fun b o hb e=>(hs'.2 b hb).trans e) f0 f1 f3 f4 f5,rfl,q'⟩⟩
theorem af6 {tg iter elt:Expr} {ifs:List Expr} {scope:Scope} {pos spos py:Pos} {x y:Str} {i:Nat} {fs:List Str} {ix:List Nat} {wi:TI} {g:TG} {tt:TT} {te:TE} (hN:X.N.Nodup) (hy:X.N[i]?=some y) (hl:X.env.kindOf y=some .local) (hc:X.calm=true) (hi:PI X tg iter wi)
  (hk:compChk scope X.env x fs=true) (hix:ix.map (X.N[·]?)=fs.map some)
  (hg:∀cl C s₀ H₀ fp xe,PG (cxComp X scope cl C (x::fs) s₀ H₀ fp xe) tg g) (hf:∀cl C s₀ H₀ fp xe,PF (cxComp X scope cl C (x::fs) s₀ H₀ fp xe) ifs tt) (he:∀cl C s₀ H₀ fp xe,PE (cxComp X scope cl C (x::fs) s₀ H₀ fp xe) elt te)
  (hsw:swapsWith (.ListComp elt [⟨tg,iter,ifs,0⟩] scope pos) (some (.Name y py)) spos.line X.env=pure true:=by rfl) (hs:∀x,foldedSetIterable iter X.env x=pure x:=by intro _;rfl):
  PS X (.Assign [.Name y py] (.ListComp elt [⟨tg,iter,ifs,0⟩] scope pos) spos) (tAsg (tComp wi ix g tt te .mk) (gName i)):=by
 intro pins s σ H D I h
 have S:=CompSc.of hk
 obtain⟨cl,hcl,c1,c2⟩:=S.clos I
 rw[exec_Assign_Name_used _ _ _ _ hsw]
 refine wpAny_bind (wpAny_standAt (wpAny_bind ?_))
 show wpAny _ X.A (do let _←comprehension (.ListComp elt [⟨tg,iter,ifs,0⟩] scope pos) scope X.env _ (newList []) false (eval iter X.env) (some (assign (.Name y py) X.env))) _ _ s
 refine wpAny_bind (wpAny_mono (wpAny_comprehension_free (use:=some (assign (.Name y py) X.env)) (Q:=fun _ s'=>SP X pins D .next s') rfl hs hcl S.kind S.own
  (thn (hi pins s σ H _ I h) fun v s1 h1=>thn h1 fun itv s2 h2=>?_)) (fun _ s' hq=>wpAny_pure (wpAny_pure hq)) fun _ _ e=>e)
 obtain⟨it,fp,tn,J,H2,e,I2,T,st2,f2,q⟩:=h2
 subst e
 refine adk (RR:=fun acc C=>compPost (model X.prog X.w) X.A X.xe (some (assign (.Name y py) X.env)) (fun _ s'=>SP X pins D .next s') acc C) I2 T.g st2 f2 (fun _ _ _ _=>hc) S c1 c2 hix (fun C s₀ H₀ xe=>hg cl C s₀ H₀ fp xe) (fun C s₀ H₀ xe=>hf cl C s₀ H₀ fp xe) (fun C s₀ H₀ xe=>he cl C s₀ H₀ fp xe) q
  fun D' C H' s' I' q' ⟨m,hn⟩ ⟨f0,f1,_,f3,f4,f5⟩=>?_
 show wpAny _ X.A (assign (.Name y py) X.env (.ref D')) _ _ _
 refine wpAny_assign_Name (ae8 (v:=.ref D') I' hN hy (.inl hl) rfl (fun s'' I'' ⟨a,sb,ha⟩=>?_) (.inr hl))
 have hne:C≠a:=by
  rcases ha with ha|ha
  ·rw[ha];exact f1
  ·exact fun z=>f4 _ _ ha z.symm
 exact⟨m,hn.sameBut sb hne,fun h' hs'=>⟨_,H',I''.turned (t':=s''.toks) (fun b o hb e=>(hs'.2 b hb).trans e) f0 f1 f3 f4 f5,q'⟩⟩
end
end L2
namespace L2
open PySem PySem.Spec PyProof.Rows
section
variable {X:Cx} {pins:List (Addr×Obj)} {σ:List (Option V)} {H H':Hp} {s:Shared} {h':Heap}
end
section
variable {X:Cx}
end
theorem af7:∀{ns:List Int} {us:List Value},Vals (ns.map V.int) us→IntsAre us ns
 |[],_,h=>by cases h;exact .nil
 |n::ns,_,h=>by
  cases h with
  |cons r rr=>
   obtain⟨t,rfl⟩:=r
   exact .cons _ _ (af7 rr)
end L2
namespace L2
open PySem PySem.Spec PyProof.Rows
section
variable {X:Cx} {pins:List (Addr×Obj)} {σ:St} {H:Hp} {s:Shared} {a:Addr} {kvs:List (Key×V)} {k:Key} {u r:Value} {z:V} {A:Around} {E:Value→Shared→Prop}
end
section
variable {X:Cx} {o e f:Expr} {apos cpos:Pos} {td ty tx:TE}
end
theorem ajj {X:Cx} (hc:X.calm=true):CallR X (.builtin "sum") (fun xs H Q=>∃(p:Addr) (ns:List Int),xs=[.ref p]∧SqL X.K H p (ns.map V.int)∧Q (.int ns.sum) H):=by
 intro pins s σ H xs us Q I r h
 obtain⟨p,ns,rfl,hq,q⟩:=h
 obtain⟨u,rfl,rx⟩:=vals1 r
 cases rx
 obtain⟨its,r',pl,hz⟩:=I.list hq
 have hi:=af7 r'
 obtain⟨ps,hx⟩:=hi.allInts.items
 have e:preSum (numAt ps) ps.size=ns.sum:=by
  have h1:=hi.numsOf
  rw[preSum_eq,List.take_of_length_le (by simp),←h1,←nums_intItems,←hx]
 have hl:=pl.isList
 rw[hx] at hl
 refine sum_intListG (I.ok.hd hc) hl fun h' tk t' hk=>?_
 rw[e]
 exact⟨.int ns.sum,H,I.kept (t':=tk) hk,⟨t',rfl⟩,q⟩
inductive HidW (c:TT) (tb:TS):Type where
 |mk:HidW c tb
inductive HidB (tb:TS):Type where
 |mk:HidB tb
noncomputable def LoopW (c:TT) (tb:TS) (_:HidW c tb):TS:=tWhile c tb
noncomputable def TurnW (tb:TS) (_:HidB tb) (Pv:Nat→St→Hp→Prop) (m:Nat) (D:Ends) (σ:St) (H:Hp):Prop:=
 ∃N:St→Hp→Prop,(∀σ' H',N σ' H'→∃m',m' < m∧Pv m' σ' H')∧tb {D with nx:=N,ct:=N,bk:=D.nx} σ H
theorem aih {X:Cx} {c:Expr} {body:List Stmt} {tc:TT} {tb:TS} {pos:Pos} (hp:PassesOwn (model X.prog X.w) X.A X.env X.xe) (hc:PT X c tc) (hb:PSs X body tb):PS X (.While c body [] pos) (LoopW tc tb .mk):=ai8 hp hc hb
theorem ahb {c:TT} {tb:TS} {h:HidW c tb} {D:Ends} {σ:St} {H:Hp} (Pv:Nat→St→Hp→Prop) (m0:Nat) (h0:Pv m0 σ H)
 (hs:∀m σ H,Pv m σ H→c σ H fun b H1=>if b=true then TurnW tb .mk Pv m D σ H1 else D.nx σ H1):LoopW c tb h D σ H:=⟨Pv,⟨m0,h0⟩,hs⟩
theorem turnW {tb:TS} {h:HidB tb} {Pv:Nat→St→Hp→Prop} {m:Nat} {D:Ends} {σ:St} {H:Hp}
 (q:tb {D with nx:=fun σ' H'=>∃m',m' < m∧Pv m' σ' H',ct:=fun σ' H'=>∃m',m' < m∧Pv m' σ' H',bk:=D.nx} σ H):TurnW tb h Pv m D σ H:=⟨_,fun _ _ h=>h,q⟩
end L2
namespace L2
open PySem PySem.Spec PyProof.Rows
section
variable {X:Cx} {pins:List (Addr×Obj)} {σ:List (Option V)} {H:Hp} {s:Shared} {a:Addr}
end
end L2
namespace L2
open PySem PySem.Spec PyProof.Rows
noncomputable def rEqN (K:PySem.W.Frag) (n:Nat):R2:=fun x y H Q=>(x=.non∧y=.non∧Q (.bl true) H)∨(x=.non∧(∃a xs,y=.ref a∧SqT K H a xs)∧Q (.bl false) H)∨((∃a xs,x=.ref a∧SqT K H a xs)∧y=.non∧Q (.bl false) H)∨rEqD K n x y H Q
theorem op_eqN {X:Cx} {n:Nat} (hu:X.A.units+n+2 < cLine):OpR X (compareOp .Eq) (rEqN X.K n):=by
 intro pins s σ H x y u v Q I rx ry h
 rcases h with ⟨rfl,rfl,q⟩|⟨rfl,⟨a,xs,rfl,hy⟩,q⟩|⟨⟨a,xs,rfl,hx⟩,rfl,q⟩|h
 ·cases rx;cases ry
  exact SeqAt.RcAt.none_none X.prog X.w X.xe _ ⟨.bl true,H,I,rfl,q⟩
 ·cases rx;cases ry
  obtain⟨its,r,p,hz⟩:=I.tuple hy
  exact SeqAt.RcAt.none_tuple (A:=X.A) (s:=s) (show s.heap.IsTuple a its.toArray from p) (by omega) X.prog X.w X.xe _ ⟨.bl false,H,I,rfl,q⟩
 ·cases rx;cases ry
  obtain⟨its,r,p,hz⟩:=I.tuple hx
  exact SeqAt.RcAt.tuple_none (A:=X.A) (s:=s) (show s.heap.IsTuple a its.toArray from p) (by omega) X.prog X.w X.xe _ ⟨.bl false,H,I,rfl,q⟩
 ·exact aj7 hu pins s σ H x y u v Q I rx ry h
end L2
namespace L2
open PySem PySem.Spec PyProof.Rows
end L2
namespace L2
open PySem PySem.Spec PyProof.Rows
end L2
namespace L2
open PySem PySem.Spec PyProof.Rows
theorem abk {X:Cx} {K:PySem.W.Frag} (h:X.K=K):IxR X (rIxT K):=h ▸ abq
end L2
namespace L2
open PySem PySem.Spec PyProof.Rows
structure FunD (K:PySem.W.Frag) (x qual:Str) (st:Stmt) (f:Addr) (fd:FuncData):Prop where
 ex:∃(oc:Value) (od:Option Addr) (dV kV doc pm:Value) (an:Option Addr) (cdv ct:Value) (osl:Array (Option Value)),
  fd=PySem.W.fnOf x qual (defArgs st) (defBody st) (defScope st) dV kV doc pm an cdv ct∧K.lookup f=some ⟨oc,od,.func fd,osl⟩∧PySem.W.codeIn K cdv qual=true
 kp:PySem.W.keepIn K (.ref f)=true
section
variable {P:Program} {w:World} {K:PySem.W.Frag} {mg:Str→Option Value} {base:Heap}
theorem aii {x qual:Str} {st:Stmt} {f:Addr} {oc:Value} {od an:Option Addr} {osl:Array (Option Value)} {dV kV doc pm cdv ct:Value} (l:K.lookup f=some ⟨oc,od,.func (PySem.W.fnOf x qual (defArgs st) (defBody st) (defScope st) dV kV doc pm an cdv ct),osl⟩)
 (c:PySem.W.codeIn K cdv qual=true) (k:PySem.W.keepIn K (.ref f)=true):FunD K x qual st f (PySem.W.fnOf x qual (defArgs st) (defBody st) (defScope st) dV kV doc pm an cdv ct):=⟨⟨oc,od,dV,kV,doc,pm,an,cdv,ct,osl,rfl,l,c⟩,k⟩
theorem FunD.okE {x qual:Str} {st:Stmt} {f:Addr} {fd:FuncData} {N ps:List Str} {k:Nat} {sp:Sp} (F:FunD K x qual st f fd) (S:FnScope N ps (defScope st)) (len:∀vs H Q E,sp vs H Q E→vs.length=ps.length)
  (hbody:Body P w K mg base qual st N k sp):FnOk P w K mg base (CXe P w) (k+1) f fd ps sp:=by
 obtain⟨oc,od,dV,kV,doc,pm,an,cdv,ct,osl,rfl,lk,hcd⟩:=F.ex
 exact akn lk hcd S len fun A outer s H vs Q E hr hsp=>hbody f cdv A outer s H vs Q E hr hsp
noncomputable def RawMD (K:PySem.W.Frag) (C:Addr) (m qual:Str) (st:Stmt) (ps:List Str) (dvs:List V):Prop:=∃f fd ds,Meth K C m f∧FunD K m qual st f fd∧Binds K fd ps ds∧Vals dvs ds
noncomputable def RawID (K:PySem.W.Frag) (mg:Str→Option Value) (x:Str) (C:Addr) (qual:Str) (st:Stmt) (ps:List Str) (dvs:List V):Prop:=∃f fd ds,mg x=some (.ref C)∧Mk K C f∧FunD K "__init__" qual st f fd∧Binds K fd ps ds∧Vals dvs ds
theorem RawMD.have {C:Addr} {m qual:Str} {st:Stmt} {N ps:List Str} {dvs:List V} {k:Nat} {sp:Sp} (R:RawMD K C m qual st ps dvs) (S:FnScope N ps (defScope st)) (len:∀vs H Q E,sp vs H Q E→vs.length=ps.length)
  (hbody:Body P w K mg base qual st N k sp):HaveM P w K mg base C m (k+1) ps dvs sp:=
 let ⟨f,fd,ds,hm,F,hb,hd⟩:=R
 ⟨f,fd,ds,hm,hb,hd,F.okE S len hbody⟩
theorem RawID.have {C:Addr} {x qual:Str} {st:Stmt} {N ps:List Str} {dvs:List V} {k:Nat} {sp:Sp} (R:RawID K mg x C qual st ps dvs) (S:FnScope N ps (defScope st)) (len:∀vs H Q E,sp vs H Q E→vs.length=ps.length)
  (hbody:Body P w K mg base qual st N k sp):HaveI P w K mg base x C (k+1) ps dvs sp:=
 let ⟨f,fd,ds,hm,M,F,hb,hd⟩:=R
 ⟨f,fd,ds,hm,M,hb,hd,F.okE S len hbody⟩
end
end L2
namespace L2
open PySem PySem.Spec PyProof.Rows
theorem aij {K:PySem.W.Frag} {fd:FuncData} {ps:List Str} {ds:List Value} (n:Nat) (hn:ps.length=n+ds.length) (h:∀(s:Shared) (us:List Value),K.In s.heap→us.length=n→BindsTo s fd ⟨us,[]⟩ (ps.zip (us++ds))):Binds K fd ps ds:=
 fun s us X hl=>h s us X (by rw[List.length_append,hn] at hl;omega)
end L2
namespace L2
open PySem PySem.Spec PyProof.Rows
end L2
namespace L2
open PySem PySem.Spec PyProof.Rows
section
variable {X:Cx}
end
noncomputable def rIndex (K:PySem.W.Frag):V→List V→Hp→VK→Prop:=fun x vs H Q=>∃l xs y j,x=.ref l∧vs=[y]∧SqL K H l xs∧flatV y=true∧xs.all flatV=true∧xs.findIdx? (fun z=>eqV z y)=some j∧Q (.int j) H
theorem Vals.at {xs:List V} {us:List Value} (r:Vals xs us) (m:Nat) (h1:m < xs.length) (h2:m < us.length):RelV xs[m] us[m]:=by
 obtain⟨u,hu,ru⟩:=r.get (List.getElem?_eq_getElem h1)
 rw[List.getElem?_eq_getElem h2] at hu
 cases hu
 exact ru
theorem ajk {X:Cx}:MtR X "list.index" (rIndex X.K):=by
 intro pins s σ H x vs v us Q I rx rv h
 obtain⟨l,xs,y,j,rfl,rfl,hq,fy,fs,hj,q⟩:=h
 cases rx
 obtain⟨u,rfl,ru⟩:=rv.one
 obtain⟨its,r,pl,hz⟩:=I.list hq
 obtain⟨⟨cls,dd,data,sl⟩,ho,hc,n,hd⟩:=pl.isList
 simp only at hc hd
 subst hc hd
 obtain⟨hjl,hit,hno⟩:=List.findIdx?_eq_some_iff_getElem.mp hj
 have hl:=r.length
 have eqx:∀m (h1:m < xs.length) (h2:m < its.length),eqU y its[m]=eqV xs[m] y:=fun m h1 h2=>aj5 (r.at m h1 h2) (List.all_eq_true.mp fs _ (List.getElem_mem h1))
 refine call_meets F.slot_list_index ⟨_,ho,rfl⟩ F.entry_list_index (F.args_list_index_2 _ _) (SeqAt.list_indexAt l its.toArray n dd sl u (eqU y) j (by simp;omega) (by have:=line63;omega) ?_ ?_) ⟨ho,fun w hw=>agi ru fy r fs w (by simpa using hw),⟨.int j,H,I.tok _,⟨_,rfl⟩,q⟩⟩
 ·simp only[List.getElem_toArray]
  rw[eqx j hjl (by omega)]
  exact hit
 ·intro m hm hmj
  simp only[List.size_toArray] at hm
  simp only[List.getElem_toArray]
  rw[eqx m (by omega) hm]
  simpa using hno m hmj
end L2
namespace L2
open PySem PySem.Spec PyProof.Rows
end L2
namespace L2
open PySem PySem.Spec PyProof.Rows
section
variable {prog:Program} {w:World} {K:Type} [DecidableEq K] {knd:HeapKind prog w K} {A:Around} {E:Value→Shared→Prop} {s:Shared}
end
end L2
namespace L2
open PySem PySem.Spec PyProof.Rows
noncomputable def RawD (h:Heap) (d:Addr) (es:Array DictEntry) (ep:Nat):Prop:=∃o,h.get? d=some o∧o.ExactDict∧o.data=.dict es ep
theorem RawD.ty {s:Shared} {d:Addr} {es:Array DictEntry} {ep:Nat} (r:RawD s.heap d es ep):s.TypeIs (.ref d) "dict":=let ⟨o,ho,hc,_⟩:=r;⟨o,ho,hc.1⟩
theorem RawD.lt {h:Heap} {d:Addr} {es:Array DictEntry} {ep:Nat} (r:RawD h d es ep):d < h.objs.size:=let ⟨_,ho,_⟩:=r;Heap.lt_size ho
section
variable {prog:Program} {w:World} {A:Around} {E:Value→Shared→Prop} {s:Shared} {d it:Addr} {es:Array DictEntry} {ep i:Nat}
end
end L2
namespace L2
open PySem PySem.Spec PyProof.Rows
section
variable {X:Cx}
end
end L2
namespace L2
open PySem PySem.Spec PyProof.Rows
end L2
namespace L2
open PySem PySem.Spec PyProof.Rows
end L2
namespace L2
open PySem PySem.Spec PyProof.Rows
section
variable {prog:Program} {w:World} {A:Around} {E:Value→Shared→Prop} {s:Shared}
end
end L2
namespace L2
open PySem PySem.Spec PyProof.Rows
noncomputable def tVarM (i:Nat):TE:=fun σ H Q=>match σ[i]? with
 |some (some v)=>Q v H
 |_=>False
theorem ajl {i:Nat} {σ:St} {H:Hp} {Q:VK} (h:tVarM i σ H Q):tVar i σ H Q:=by
 unfold tVarM at h
 split at h
 ·rename_i v e;exact⟨v,e,h⟩
 ·exact h.elim
theorem pvM {X:Cx} (i:Nat) {x:Str} {pos:Pos} (hN:X.N[i]?=some x:=by rfl) (hv:Vis X.env.scope x:=by first|exact Or.inl rfl|exact Or.inr (Or.inl rfl)|exact Or.inr (Or.inr rfl)) (hd:(x == ("__debug__":Str))=false:=by decide)
 (hcd:(x == ("__classdict__":Str))=false:=by decide):PE X (.Name x pos) (tVarM i):=fun pins s σ H Q I h=>pe_var hN hv hd hcd pins s σ H Q I (ajl h)
theorem rI0_ii {g:Int→Int→V} {i j:Int} {H:Hp} {Q:VK}:rI0 g (.int i) (.int j) H Q=Q (g i j) H:=propext ⟨fun ⟨_,_,e1,e2,h⟩=>by cases e1;cases e2;exact h,fun h=>⟨_,_,rfl,rfl,h⟩⟩
theorem rI_ii {C:Int→Int→Prop} {g:Int→Int→V} {i j:Int} {H:Hp} {Q:VK}:rI C g (.int i) (.int j) H Q=(C i j∧Q (g i j) H):=propext ⟨fun ⟨_,_,e1,e2,h⟩=>by cases e1;cases e2;exact h,fun h=>⟨_,_,rfl,rfl,h⟩⟩
theorem ex_int {c:Int} {P:Int→Prop}:(∃i,V.int c=V.int i∧P i)=P c:=propext ⟨fun ⟨_,e,h⟩=>by cases e;exact h,fun h=>⟨_,rfl,h⟩⟩
theorem ex_bl {c:Bool} {P:Bool→Prop}:(∃i,V.bl c=V.bl i∧P i)=P c:=propext ⟨fun ⟨_,e,h⟩=>by cases e;exact h,fun h=>⟨_,rfl,h⟩⟩
theorem ex_ref {c:Addr} {P:Addr→Prop}:(∃i,V.ref c=V.ref i∧P i)=P c:=propext ⟨fun ⟨_,e,h⟩=>by cases e;exact h,fun h=>⟨_,rfl,h⟩⟩
end L2
namespace L2
open PySem PySem.Spec PyProof.Rows
section
open PySem.Builtin PySem.Builtin.Str
end
end L2
namespace Hd
open PySem PySem.W PySem.Calls PyProof.Rows
noncomputable def runT (tb:String→Option Builtin) (p:Program) (w:World) (n0:Nat) (ann:Option Value):Nat→SharedT→Thread→Option SharedT
 |0,_,_=>none
 |n+1,s,t=>match through t with
  |true=>some s
  |false=>match stepOk n0 ann t with
   |false=>none
   |true=>match stepT (denote tb) p w s t with
    |some (s',t')=>runT tb p w n0 ann n s' t'
    |none=>none
theorem aik {tb:String→Option Builtin} {p:Program} {w:World} {n0:Nat} {ann:Option Value}:∀{n:Nat} {s r:SharedT} {t:Thread},runT tb p w n0 ann n s t=some r→topRun tb p w n0 ann n s.abs t=some r.abs
 |0,_,_,_,h=>by cases h
 |n+1,s,r,t,h=>by
  unfold runT at h
  unfold topRun
  cases he:through t with
  |true=>rw[he] at h;cases h;rfl
  |false=>
   rw[he] at h
   cases hk:stepOk n0 ann t with
   |false=>rw[hk] at h;cases h
   |true=>
    rw[hk] at h
    cases hs:stepT (denote tb) p w s t with
    |none=>rw[hs] at h;cases h
    |some x=>obtain⟨s2,t2⟩:=x;rw[hs] at h;rw[stepT_spec hs];exact aik h
noncomputable def grow:List Obj→Nat→BT→BT
 |[],_,t=>t
 |o::l,n,t=>grow l (n+1) (t.ins n o)
noncomputable def bootT (P:Params):BT:=grow (boot_heap P).objs.toList 0 .nil
noncomputable def bootS (w:World) (os:OsState):SharedT:=⟨bootT w.params,(boot_heap w.params).objs.size,(boot_heap w.params).life, #[],boot_drawn,boot_toks,os⟩
theorem ajm (w:World) (os:OsState):(bootS w os).abs=⟨boot_heap w.params, #[],boot_drawn,boot_toks,os⟩:=by kernel_rfl
theorem ail (w:World):((boot_heap w.params).isNs mainGlobals&&(#[]:Array GenState).size == 0)=true:=by kernel_rfl
noncomputable abbrev ann0 (w:World):Option Value:=(boot_heap w.params).nsMap mainGlobals "__annotations__"
noncomputable def look {α:Type} (p:Program) (Yf:Shared→α) (H0:Heap) (s:Shared):Bool×α:=
 (staticsOk (importedModules p.main.body) H0 s.heap&&namesBound p s.heap&&gensDone s&&laidKept H0 s.heap,Yf s)
noncomputable def ran (p:Program) (N:Nat) (w:World) (os:OsState):Option SharedT:=runT treeTable p w (boot_heap w.params).objs.size (ann0 w) N (bootS w os) (topStub p)
noncomputable def once {α:Type} (p:Program) (Yf:Shared→α) (N:Nat) (w:World) (os:OsState):=(ran p N w os).map fun s=>look p Yf (boot_heap w.params) s.abs
noncomputable def seen (p q:Program) (loose:List Str) (Xt:Shared→Bool) (N:Nat) (w:World) (os:OsState):=(ran p N w os).map fun s=>openSeen q loose (importedModules p.main.body) Xt true s.abs
theorem aim {p q:Program} {loose:List Str} {Xt:Shared→Bool} {α:Type} {Yf:Shared→α} {Ya:World→α} {N:Nat}
  (e:opening p=plainProg p.main.scope.names) (hN:Nat.ble 600 N=true) (f:∀s,fenceModules? p s=some s)
  (one:∀(w:World) (os:OsState),once p Yf N w os=some (true,Ya w)) (two:∀(w:World) (os:OsState),seen p q loose Xt N w os=some (openGood q loose)):LeftO p q loose Xt Yf Ya N:=fun w=>by
 obtain⟨⟨h,gs,d,k,os⟩,e1,e2⟩:=Option.map_eq_some_iff.mp (boot_open e hN f w)
 obtain⟨rfl,rfl,rfl,rfl⟩:h=boot_heap w.params∧gs= #[]∧d=boot_drawn∧k=boot_toks:=by simpa using e2
 obtain⟨sT,r,l⟩:=Option.map_eq_some_iff.mp (one w os)
 obtain⟨sT',r',l2⟩:=Option.map_eq_some_iff.mp (two w os)
 obtain rfl:sT=sT':=Option.some.inj (r.symm.trans r')
 have r:=aik r
 rw[ajm] at r
 obtain⟨l1,l3⟩:_∧_:=by simpa only[look,Prod.mk.injEq] using l
 have t:topFrom treeTable p w N ⟨boot_heap w.params, #[],boot_drawn,boot_toks,os⟩=some sT.abs:=by
  unfold topFrom
  dsimp only
  rw[ail w,r]
  show (match staticsOk (importedModules p.main.body) (boot_heap w.params) sT.abs.heap&&namesBound p sT.abs.heap&&gensDone sT.abs&&laidKept (boot_heap w.params) sT.abs.heap with|true=>_|false=>_)=_
  rw[l1]
 unfold openEnds
 rw[e1]
 show (topFrom treeTable p w N _).map _=_
 rw[t]
 exact congrArg some (Prod.ext l2 l3)
end Hd
namespace Hd
open PySem PySem.W
noncomputable def dig:Nat→Nat→List Nat
 |0,_=>[]
 |k+1,n=>match Nat.beq n 0 with
  |true=>[]
  |false=>Nat.sub (n % 256) 1::dig k (n / 256)
noncomputable def S (n:Nat):Str:=⟨⟨dig 200 n⟩⟩
noncomputable def ent (P:Params) (x:Str) (t:Nat) (v:Value):DictEntry:=⟨PyData.keyHash P x,.str x t,v⟩
noncomputable def dO (n:Nat) (l:List DictEntry):Obj:=⟨.type "dict",none,.dict ⟨l⟩ n, #[]⟩
noncomputable def tO (l:List Value):Obj:=⟨.type "tuple",none,.seq ⟨l⟩ 0, #[]⟩
noncomputable def cO (l:List Value):Obj:=⟨.type "code",none,.fields ⟨l⟩, #[]⟩
end Hd
namespace Hd
open PySem PySem.W PySem.Calls PyProof.Rows
noncomputable def goT (tb:String→Option Builtin) (p:Program) (w:World) (n0:Nat) (ann:Option Value):Nat→SharedT→Thread→Option (SharedT×Thread)
 |0,s,t=>some (s,t)
 |n+1,s,t=>match through t with
  |true=>none
  |false=>match stepOk n0 ann t with
   |false=>none
   |true=>match stepT (denote tb) p w s t with
    |some (s',t')=>goT tb p w n0 ann n s' t'
    |none=>none
end Hd
namespace Hd
open PySem PySem.W PySem.Calls PyProof.Rows
theorem tw_run:(fun (_:(String→Option Builtin)→Program→World→Nat→Option Value→Nat→SharedT→Thread→Option SharedT)=>true) runT=true:=by k_qdec
theorem tw_go:(fun (_:(String→Option Builtin)→Program→World→Nat→Option Value→Nat→SharedT→Thread→Option (SharedT×Thread))=>true) goT=true:=by k_qdec
theorem tw_boot:(fun (_:World→OsState→SharedT) (_:World→Option Value)=>true) bootS ann0=true:=by k_qdec
theorem tw_look:(fun (_:{α:Type}→Program→(Shared→α)→Heap→Shared→Bool×α)=>true) @look=true:=by k_qdec
theorem tw_once:(fun (_:{α:Type}→Program→(Shared→α)→Nat→World→OsState→Option (Bool×α))=>true) @once=true:=by k_qdec
theorem tw_seen:(fun (_:Program→Program→List Str→(Shared→Bool)→Nat→World→OsState→Option _)=>true) seen=true:=by k_qdec
end Hd
namespace L2
open PySem PySem.Spec PyProof.Rows
structure RoomH (k:Nat) (A:Around):Prop where
 dp:A.depth+3 * k+5 < recursionLimit
 un:A.units+16 * k+200 < cLine
theorem Room.h {k:Nat} {A:Around} (r:Room k A):RoomH k A:=⟨r.dp,r.un⟩
theorem RoomH.deeper {k:Nat} {A:Around} (r:RoomH (k+1) A) (env:Env):RoomH k (A.deeper env):=
 ⟨by have:=r.dp;show A.depth+1+3 * k+5 < _;omega,by have:=r.un;show A.units+3+16 * k+200 < _;omega⟩
noncomputable def cxOfH (P:Program) (w:World) (K:PySem.W.Frag) (mg:Str→Option Value) (base:Heap) (N:List Str) (qual:Str) (scope:Scope) (f:Addr) (cd:Value) (A:Around) (outer:List Env) (s:Shared) (H:Hp) (E:XK):Cx:=
 {cxOf (CXe P w) P w K mg base N qual scope f cd A outer s H E with calm:=false}
theorem aky {P:Program} {w:World} {K:PySem.W.Frag} {mg:Str→Option Value} {base:Heap} {N:List Str} {qual:Str} {scope:Scope} {f:Addr} {cd:Value} {A:Around} {outer:List Env} {s:Shared} {H:Hp} {E:XK}:(cxOfH P w K mg base N qual scope f cd A outer s H E).K=K:=rfl
end L2
namespace L2
open PySem PySem.Spec PyProof.Rows
noncomputable def BindsK (K:PySem.W.Frag) (fd:FuncData) (ps ks:List Str):Prop:=∀(s:Shared) (us:List Value) (a b:Value),K.In s.heap→us.length+2=ps.length→BindsTo s fd ⟨us,ks.zip [a,b]⟩ (ps.zip (us++[b,a]))
noncomputable def RawMK (K:PySem.W.Frag) (C:Addr) (m qual:Str) (st:Stmt) (ps ks:List Str):Prop:=∃f fd,Meth K C m f∧FunD K m qual st f fd∧BindsK K fd ps ks
noncomputable def HaveMK (P:Program) (w:World) (K:PySem.W.Frag) (mg:Str→Option Value) (base:Heap) (C:Addr) (m:Str) (k:Nat) (ps ks:List Str) (sp:Sp):Prop:=
 ∃f fd,Meth K C m f∧BindsK K fd ps ks∧FnOk P w K mg base (CXe P w) k f fd ps sp
theorem RawMK.have {P:Program} {w:World} {K:PySem.W.Frag} {mg:Str→Option Value} {base:Heap} {C:Addr} {m qual:Str} {st:Stmt} {N ps ks:List Str} {k:Nat} {sp:Sp} (R:RawMK K C m qual st ps ks) (S:FnScope N ps (defScope st)) (len:∀vs H Q E,sp vs H Q E→vs.length=ps.length)
  (hbody:Body P w K mg base qual st N k sp):HaveMK P w K mg base C m (k+1) ps ks sp:=
 let ⟨f,fd,hm,F,hb⟩:=R
 ⟨f,fd,hm,hb,F.okE S len hbody⟩
end L2
namespace L2
open PySem PySem.Spec PyProof.Rows
end L2
namespace L2
open PySem PySem.Spec PyProof.Rows
end L2
namespace L2
open PySem PySem.Spec PyProof.Rows
section
variable {prog:Program} {w:World} {A:Around} {E:Value→Shared→Prop} {s:Shared}
end
section
variable {X:Cx}
end
end L2
namespace L2
open PySem PySem.Spec PyProof.Rows
section
variable {prog:Program} {w:World} {A:Around} {E:Value→Shared→Prop} {s:Shared}
end
section
variable {X:Cx}
end
end L2
namespace L2
open PySem PySem.Spec PyProof.Rows
section
variable {X:Cx} {pins:List (Addr×Obj)} {σ:List (Option V)} {H:Hp} {s:Shared} {a:Addr}
end
end L2
namespace L2
open PySem PySem.Spec PyProof.Rows
section
open PySem.W
noncomputable def In (p:Array Nat) (n:Nat):Prop:=0 < n∧∀x∈p.toList,x < n
theorem In.at {p:Array Nat} {n:Nat} (h:In p n) (i:Nat):p.getD i 0 < n:=by
 rw[Array.getD_eq_getD_getElem?]
 cases e:p[i]? with
 |none=>exact h.1
 |some x=>exact h.2 x (List.mem_of_getElem? (by rw[Array.getElem?_toList];exact e))
structure Od (lt:Nat→Nat→Bool) (n:Nat):Prop where
 tr:∀i j k,i < n→j < n→k < n→lt i j=true→lt j k=true→lt i k=true
 ir:∀i,i < n→lt i i=false
 to:∀i j,i < n→j < n→i≠j→lt i j=true∨lt j i=true
variable {lt:Nat→Nat→Bool} {n:Nat}
structure Pm (p:Array Nat) (n:Nat):Prop where
 sz:p.size=n
 lt:∀i,i < n→p.getD i 0 < n
 ne:∀i j,i < n→j < n→i≠j→p.getD i 0≠p.getD j 0
 pe:p.Perm (List.range n).toArray
noncomputable def Dn (lt:Nat→Nat→Bool) (p:Array Nat) (m:Nat):Prop:=∀i j,i < j→j < m→lt (p.getD j 0) (p.getD i 0)=true
end
end L2
namespace L2
open PySem PySem.Spec PyProof.Rows
section
variable {prog:Program} {w:World} {A:Around} {E:Value→Shared→Prop} {s:Shared}
end
end L2
namespace L2
open PySem PySem.Spec PyProof.Rows
end L2
namespace L2
open PySem PySem.Spec PyProof.Rows
section
variable {prog:Program} {w:World} {K:Type} [DecidableEq K] {knd:HeapKind prog w K} {A:Around} {E:Value→Shared→Prop} {s:Shared}
end
end L2
namespace L2
open PySem PySem.Spec PyProof.Rows
end L2
namespace L2
open PySem PySem.Spec PyProof.Rows
end L2
namespace L2
open PySem PySem.Spec PyProof.Rows
section
variable {M:Model} {A:Around} {E:Value→Shared→Prop} {s:Shared} {env:Env}
end
section
variable {M:Model} {A:Around} {E:Value→Shared→Prop} {s:Shared} {env:Env}
end
section
variable {X:Cx}
end
end L2
namespace L2
open PySem PySem.Spec PyProof.Rows
section
variable {prog:Program} {w:World} {A:Around} {E:Value→Shared→Prop} {s:Shared}
theorem aew:entryFor table "proto.unchain"=some Builtin.«proto.unchain» :=entryFor_of_fast (by kernel_rfl)
theorem akz {α:Type} {ea a:Addr} {o:Obj} {vs:Array Value} {Q:α→Shared→Prop} (hh:A.handled=some (.ref ea)) (nc:NoCx ea s.heap) (ha:s.heap.get? a=some o) (hd:o.data=.fields vs) (hs:2 < vs.size) (hne:ea≠a)
  (h:E (.ref a) {s with heap:=s.heap.update a (Obj.mapFields (·.setIfInBounds 2 (.ref ea)))}):wpAny (model prog w) A (raiseNew (.ref a):Sem α) Q E s:=by
 obtain⟨oe,ws,ge,gd,g2⟩:=nc
 unfold raiseNew
 refine wpAny_bind (wpAny_handled ?_)
 rw[hh]
 show wpAny (model prog w) A _ Q E s
 dsimp only
 rw[if_pos (show (Value.ref ea != Value.ref a)=true by simp[hne])]
 refine wpAny_bind (wpAny_holding (runValue_entry aew ?_))
 unfold Builtin.«proto.unchain»
 refine wpAny_bind (wpAny_field ge gd g2 ?_)
 rw[if_pos (show (Value.none == Value.none)=true from rfl)]
 refine wpAny_pure ⟨_,rfl,?_⟩
 unfold updateField
 refine wpAny_bind (wpAny_bind (wpAny_load ha ?_))
 rw[hd]
 dsimp only
 rw[if_pos hs]
 exact wpAny_update ha (wpAny_throw h)
theorem aej {it l ea:Addr} {i:Nat} {items:Array Value} {Q:Option Value→Shared→Prop} (hh:A.handled=some (.ref ea)) (nc:NoCx ea s.heap) (hit:s.heap.IsListIter it l i) (hl:s.heap.IsList l items) (hx:items[i]?=none)
  (hQ:∀h',Heap.ExtBut it s.heap h'→Q none {s with heap:=h'}):wpAny (model prog w) A (pyNext (.ref it)) Q E s:=by
 obtain⟨o,ho,hc,hd⟩:=id hit
 obtain⟨ol,hol,_,nl,hdl⟩:=hl
 have hne:ea≠it:=fun z=>by
  obtain⟨o',vs,g,d,v⟩:=nc
  rw[z,ho] at g
  cases g
  rw[hd] at d
  cases d
  cases v
 unfold pyNext
 refine wpAny_bind (wpAny_attempt (wpAny_callSpecial?_slot (name:=Str.ofString "__next__") hit.typeIs slot_listiter_next (wpAny_call_entry slot_listiter_next hit.typeIs entry_listiter_next ?_ (args_listiter_next _))))
 show wpAny _ _ (field (.ref it) 0 >>= _) _ _ s
 refine wpAny_bind (wpAny_field ho hd (x:=.ref l) rfl ?_)
 show wpAny _ _ (if (Value.ref l == Value.none)=true then _ else _) _ _ s
 rw[if_neg (by exact Bool.false_ne_true)]
 show wpAny _ _ (field (.ref it) 1 >>= _) _ _ s
 refine wpAny_bind (wpAny_field ho hd (x:=.int i 0) rfl (wpAny_bind (wpAny_seqItems hol hdl ?_)))
 simp only[Int.toNat_natCast,hx]
 refine wpAny_bind (wpAny_rule (wpAny_bind (wpAny_setField ho hd (by simp) ?_)))
 show wpAny _ _ (newExc (.type "StopIteration") [] >>= _) _ _ _
 refine wpAny_bind ?_
 simp only[newExc,newTuple]
 refine wpAny_bind (wpAny_newObj_type ?_ (by size_fits))
 refine wpAny_bind (m:=firstArgMember _ _) (wpAny_of_eq (a:=Value.none) (by first|rfl|(simp only[firstArgMember];rfl)) ?_)
 refine wpAny_newObj_type ?_ (by size_fits)
 have keep:∀(h1:Heap) (x y:Obj),NoCx ea h1→NoCx ea ((h1.push x).push y):=fun h1 x y ⟨o',vs,g,d,v⟩=>⟨o',vs,Heap.get?_push_of_some _ (Heap.get?_push_of_some _ g),d,v⟩
 have ncu:∀f,NoCx ea (s.heap.update it f):=fun f=>by
  obtain⟨o',vs,g,d,v⟩:=nc
  exact⟨o',vs,(Heap.get?_update_other _ _ (Ne.symm hne)).trans g,d,v⟩
 have hlt:ea < s.heap.objs.size:=by obtain⟨o',vs,g,_⟩:=nc;exact Heap.lt_size g
 refine akz (s:={s with heap:=_}) hh (keep _ _ _ (ncu _)) (Heap.get?_push_size _ rfl) rfl (by simp;omega) ?_ ?_
 ·refine Nat.ne_of_lt (Nat.lt_of_lt_of_le hlt ?_)
  rw[Heap.size_push]
  exact Nat.le_succ_of_le (by simp)
 ·have gS:=Heap.get?_update_self (h:=_) (Obj.mapFields (·.setIfInBounds 2 (Value.ref ea))) (Heap.get?_push_size ((s.heap.update it (Obj.mapFields fun x=>x.setIfInBounds 0 Value.none)).push {cls:=.type "tuple",data:=.seq #[]}) (o:={cls:=.type "StopIteration",data:=.fields (#[Value.ref (s.heap.update it (Obj.mapFields fun x=>x.setIfInBounds 0 Value.none)).objs.size,.none,.none,.none,.bool false,.none]++ownMembersOf (.type "StopIteration") [])}) rfl) (Obj.isFreed_of_fields (Obj.data_mapFields rfl _))
  refine wpAny_bind (wpAny_isInstance (T:="StopIteration") (b:=true) ⟨_,gS,Obj.cls_mapFields _ _⟩ isSubtype_stop (wpAny_pure (hQ _ fun b o' hb e=>?_)))
  have hb':b < s.heap.objs.size:=Heap.lt_size e
  have e1:(s.heap.update it (Obj.mapFields fun x=>x.setIfInBounds 0 Value.none)).get? b=some o':=(Heap.get?_update_other _ _ (Ne.symm hb)).trans e
  refine (Heap.get?_update_other _ _ ?_).trans (Heap.get?_push_of_some _ (Heap.get?_push_of_some _ e1))
  refine Nat.ne_of_gt (Nat.lt_of_lt_of_le hb' ?_)
  rw[Heap.size_push]
  exact Nat.le_succ_of_le (by simp)
end
section
variable {prog:Program} {w:World} {A:Around} {E:Value→Shared→Prop} {s:Shared}
theorem ak0 {ea:Addr} (hh:A.handled=some (.ref ea)) (it ax:Addr) (h1:ax≠it) (h2:ea≠it) (items:Array Value):
  Walks prog w A it [it,ax,ea] [it] items.size (fun i v=>items[i]?=some v) (fun i h=>(h.IsListIter it ax i∧h.IsList ax items)∧NoCx ea h) where
 sub:=fun b hb=>by simp at hb;simp[hb]
 frame:=fun _ _ _ st k=>⟨⟨st.1.1.at fun o e=>k it (by simp) o e,st.1.2.at fun o e=>k ax (by simp) o e⟩,let ⟨o,vs,g,d⟩:=st.2;⟨o,vs,k ea (by simp) o g,d⟩⟩
 item:=fun i s Q E hi st q=>by
  refine wpAny_pyNext_list_item st.1.1 st.1.2 (x:=items[i]) (by simp[hi]) fun h' it' sb=>?_
  exact q _ h' s.toks (by simp[hi]) ⟨⟨it',st.1.2.extBut sb.extBut h1⟩,let ⟨o,vs,g,d⟩:=st.2;⟨o,vs,sb.extBut ea o h2 g,d⟩⟩ fun b o hb e=>sb.extBut b o (fun h=>hb (by simp[h])) e
 done:=fun s Q E st q=>aej hh st.2 st.1.1 st.1.2 (by simp) fun h' he=>q h' s.toks fun b o hb e=>he b o (fun h=>hb (by simp[h])) e
 self:=fun _ _ _ _ st q=>wpAny_pyIter_listiter st.1.1 q
theorem sum_h {ea l:Addr} {xs:Array (Int×Tok)} {Q:Value→Shared→Prop} (hh:A.handled=some (.ref ea)) (nc:NoCx ea s.heap) (hl:s.heap.IsList l (intItems xs))
  (h:∀h' tk t',(∀b o,s.heap.get? b=some o→h'.get? b=some o)→Q (.int (preSum (numAt xs) xs.size) t') {s with heap:=h',toks:=tk}):wpAny (model prog w) A (call (.builtin "sum") [.ref l]) Q E s:=by
 have hlt:ea < s.heap.objs.size:=by obtain⟨o',vs,g,_⟩:=nc;exact Heap.lt_size g
 refine call_sum_walkG (iter_intList hl fun s₂ e st hfp hlI=>?_)
 subst e
 refine⟨_,_,_,_,_,_,numAt xs,rfl,ak0 (A:=A.in1) hh _ l hlI (Nat.ne_of_lt hlt) (intItems xs),⟨st,let ⟨o,vs,g,d⟩:=nc;⟨o,vs,Heap.get?_push_of_some _ g,d⟩⟩,fun b hb=>?_,(fun _ _=>intItems_at),fun h' tk t' hk=>?_⟩
 ·simp only[List.mem_cons,List.not_mem_nil,or_false] at hb
  rcases hb with z|z|z
  ·exact hfp b (by simp[z])
  ·exact hfp b (by simp[z])
  ·rw[z]
   show ea < (s.heap.push _).objs.size
   rw[Heap.size_push]
   exact Nat.lt_succ_of_lt hlt
 ·have:=h h' tk t' (old_kept hk)
  simpa[intItems] using this
end
section
variable {X:Cx}
theorem nocx {pins:List (Addr×Obj)} {σ:St} {H:Hp} {s:Shared} {a C:Addr} (I:Inv X pins σ H s) (e:H a=some (excO a C)):NoCx a s.heap:=by
 obtain⟨⟨o,vs,h1,_,h3,h4⟩,_⟩:=(show ObjOk X.prog X.w H s.heap a (excO a C) from I.hok a _ e)
 exact⟨o,vs,h1,h3,h4⟩
theorem ain {ea:Addr} (hh:X.A.handled=some (.ref ea)):CallR X (.builtin "sum") (fun xs H Q=>∃(p C:Addr) (ns:List Int),xs=[.ref p]∧H ea=some (excO ea C)∧SqL X.K H p (ns.map V.int)∧Q (.int ns.sum) H):=by
 intro pins s σ H xs us Q I r h
 obtain⟨p,C,ns,rfl,hx,hq,q⟩:=h
 obtain⟨u,rfl,rx⟩:=vals1 r
 cases rx
 obtain⟨its,r',pl,hz⟩:=I.list hq
 have hi:=af7 r'
 obtain⟨ps,hp⟩:=hi.allInts.items
 have e:preSum (numAt ps) ps.size=ns.sum:=by
  have h1:=hi.numsOf
  rw[preSum_eq,List.take_of_length_le (by simp),←h1,←nums_intItems,←hp]
 have hl:=pl.isList
 rw[hp] at hl
 refine sum_h hh (nocx I hx) hl fun h' tk t' hk=>?_
 rw[e]
 exact⟨.int ns.sum,H,I.kept (t':=tk) hk,⟨t',rfl⟩,q⟩
noncomputable def ItlH (K:PySem.W.Frag) (a ea C:Addr):It:=⟨(Itl K a).go,(Itl K a).yld,fun i H=>(Itl K a).stop i H∧H ea=some (excO ea C)⟩
theorem ahc {P:Program} {w:World} {K:PySem.W.Frag} {tg:Expr} (a it ea C:Addr):TurnG (fun X=>X.A.handled=some (.ref ea)) P w K tg (ItlH K a ea C) [it] it (fun i h=>h.IsListIter it a i) where
 obj:=(ac4 (P:=P) (w:=w) (K:=K) (tg:=tg) a it).obj
 keep:=(ac4 (P:=P) (w:=w) (K:=K) (tg:=tg) a it).keep
 item:=by
  intro X hP hw hK _ i pins s σ H E I hf st hg
  subst hP hw hK
  obtain⟨xs,x,hq,hx⟩:=hg
  obtain⟨its,rv,p,hz⟩:=I.list hq
  obtain⟨u,hu,ru⟩:=rv.get hx
  obtain⟨f0,f1,f2,f3,f4,f5⟩:=hf it (by simp)
  refine wpAny_pyNext_list_item st p.isList (x:=u) (by simpa using hu) fun h' st' sb=>?_
  have I1:Inv X pins σ H {s with heap:=h'}:=I.turned (t':=s.toks) (fun b o hb e=>(sb.2 b hb).trans e) f0 f1 f3 f4 f5
  obtain⟨o,e,c,d⟩:=id st'
  exact⟨u,rfl,go_of (s:={s with heap:=h'}) e c d (by decide) ⟨x,H,I1,ru,⟨rfl,fun ys hy=>by rw[I.list_inj hy hq];exact hx⟩,st',fun b hb=>(hf b hb).1⟩⟩
 done:=by
  intro X hP hw hK hh i pins s σ H E I hf st hg
  subst hP hw hK
  obtain⟨⟨xs,hq,hx⟩,hx2⟩:=hg
  obtain⟨its,rv,p,hz⟩:=I.list hq
  obtain⟨f0,f1,f2,f3,f4,f5⟩:=hf it (by simp)
  have hl:=rv.length
  exact aej hh (nocx I hx2) st p.isList (by simp;omega) fun h' eb=>⟨rfl,I.turned (t':=s.toks) (fun b o hb e=>eb b o hb e) f0 f1 f3 f4 f5⟩
 self:=(ac4 (P:=P) (w:=w) (K:=K) (tg:=tg) a it).self
noncomputable def tCompH (K:PySem.W.Frag) (ea:Addr) (tl:TE) (ix:List Nat) (g:TG) (tt:TT) (te:TE) (h:HidC g tt te):TE:=fun σ H Q=>tl σ H fun x H1=>∃a C,x=.ref a∧(∃xs,SqL K H1 a xs)∧∀D,H1 D=none→Comp g tt te h (ItlH K a ea C) (none::ix.map fun i=>(σ[i]?).join) D (fun H'=>Q (.ref D) H') H1
theorem ahe {K:PySem.W.Frag} {a ea C:Addr} {xs:List V} {g:TG} {tt:TT} {te:TE} {h:HidC g tt te} {σ0:St} {D:Addr} {Q:Hp→Prop} {H:Hp} (Pv:Nat→List V→St→Hp→Prop) (h0:Pv 0 [] σ0 (upd H D (.lst []))) (hl:∀i ys σ H,i≤xs.length→Pv i ys σ H→SqL K H a xs∧H ea=some (excO ea C))
  (hs:∀i x ys σ H,xs[i]?=some x→Pv i ys σ H→g x σ H fun σ2 H2=>tt σ2 H2 fun b H2'=>if b=true then te σ2 H2' fun v H3=>H3 D=some (.lst ys)∧ys.length < sizeLine∧Pv (i+1) (ys++[v]) σ2 (upd H3 D (.lst (ys++[v]))) else Pv (i+1) ys σ2 H2') (hd:∀ys σ H,Pv xs.length ys σ H→Q H):
  Comp g tt te h (ItlH K a ea C) σ0 D Q H:=by
 obtain⟨W,w0,step⟩:=aca (K:=K) (a:=a) (h:=h) (Q:=fun H=>H ea=some (excO ea C)∧Q H) Pv h0 (fun i ys σ H hi p=>(hl i ys σ H hi p).1) hs (fun ys σ H p=>⟨(hl _ ys σ H (Nat.le_refl _) p).2,hd ys σ H p⟩)
 refine⟨W,w0,fun i m ys σ H wi=>?_⟩
 rcases step i m ys σ H wi with ⟨h1,h2,h3⟩|h1
 ·exact .inl ⟨⟨h1,h2⟩,h3⟩
 ·exact .inr h1
theorem ajn {ea:Addr} {tg iter elt:Expr} {ifs:List Expr} {scope:Scope} {pos:Pos} {x:Str} {fs:List Str} {ix:List Nat} {tl:TE} {g:TG} {tt:TT} {te:TE} (hh:X.A.handled=some (.ref ea)) (hl:PE X iter tl) (hk:compChk scope X.env x fs=true) (hix:ix.map (X.N[·]?)=fs.map some)
  (hg:∀cl C s₀ H₀ fp xe,PG (cxComp X scope cl C (x::fs) s₀ H₀ fp xe) tg g) (hf:∀cl C s₀ H₀ fp xe,PF (cxComp X scope cl C (x::fs) s₀ H₀ fp xe) ifs tt) (he:∀cl C s₀ H₀ fp xe,PE (cxComp X scope cl C (x::fs) s₀ H₀ fp xe) elt te) (hs:∀x,foldedSetIterable iter X.env x=pure x:=by intro _;rfl):
  PE X (.ListComp elt [⟨tg,iter,ifs,0⟩] scope pos) (tCompH X.K ea tl ix g tt te .mk):=by
 intro pins s σ H Q I h
 have S:=CompSc.of hk
 obtain⟨cl,hcl,c1,c2⟩:=S.clos I
 rw[eval_ListComp]
 refine wpAny_comprehension_free (use:=none) rfl hs hcl S.kind S.own (thn (hl pins s σ H _ I h) fun v s1 ⟨y,H1,I1,r1,q1⟩=>?_)
 obtain⟨a,C,e,⟨xs,hq⟩,q⟩:=q1
 subst e
 cases r1
 obtain⟨its,rv,p,hz⟩:=I1.list hq
 refine wpAny_pyIter_list p.isList ?_
 have f2:∀b∈[s1.heap.objs.size],FpOk X pins H1 b:=fun b hb=>by
  have e:b=s1.heap.objs.size:=by simpa using hb
  subst e
  exact I1.fpOk (Nat.le_refl _) (I1.hok.fresh (Nat.le_refl _))
 refine adk (RR:=fun acc C=>compPost (model X.prog X.w) X.A X.xe none (EP X pins σ Q) acc C) (I1.kept (t':=s1.toks) fun b o e=>Heap.get?_push_of_some _ e) (ahc a _ ea C) ⟨_,Heap.get?_push_size _ rfl,rfl,rfl⟩ f2 (fun _ _ _ _=>hh) S c1 c2 hix (fun C s₀ H₀ xe=>hg cl C s₀ H₀ _ xe) (fun C s₀ H₀ xe=>hf cl C s₀ H₀ _ xe) (fun C s₀ H₀ xe=>he cl C s₀ H₀ _ xe) q fun D C H' s' I' q' ⟨m,hn⟩ ⟨f0,f1,_,f3,f4,f5⟩=>?_
 exact⟨m,hn,fun h' hs'=>⟨.ref D,H',I'.turned (t':=s'.toks) (fun b o hb e=>(hs'.2 b hb).trans e) f0 f1 f3 f4 f5,rfl,q'⟩⟩
end
noncomputable def tTryAsE (K:PySem.W.Frag) (D:Addr) (i:Nat) (tb:XKs→TS) (to:TS) (th:Addr→TS):TS:=fun Dn σ H=>
 tb (fun cls σ' H'=>∃C,cls=.ref C∧XSub K C D∧∀ea,H' ea=none→th ea {nx:=fun σ2 H2=>Dn.nx (σ2.set i none) H2,rt:=Dn.rt,bk:=fun σ2 H2=>Dn.bk (σ2.set i none) H2,ct:=fun σ2 H2=>Dn.ct (σ2.set i none) H2}
  (σ'.set i (some (.ref ea))) (upd H' ea (excO ea C))) {Dn with nx:=to Dn} σ H
theorem ahf {X:Cx} {i:Nat} {n x:Str} {D:Addr} {body orelse:List Stmt} {b₀:Stmt} {suite:List Stmt} {np hpos pos:Pos} {tb:XKs→TS} {to:TS} {th:Addr→TS}
  (hN:X.N.Nodup) (hi:X.N[i]?=some n) (hlo:X.env.kindOf n=some .local) (c:XH X.K X.mg x D)
  (hb:∀(E':Value→Shared→Prop) (pn:List (Addr×Obj)) (Kx:XKs),PassesOwn (model X.prog X.w) X.A X.env E'→XW {X with xe:=E',pn:=pn} Kx→PSs {X with xe:=E',pn:=pn} body (tb Kx))
  (ho:PSs X orelse to) (hh:∀ea:Addr,PSs {X with A:=X.A.mark (some (.ref ea)),calm:=false,xe:=fun _ _=>False} (b₀::suite) (th ea))
  (hg:Gl X x:=by rfl) (hst:X.stack=X.env::X.outer:=by rfl) (hfm:X.env.frame=some X.env.locals:=by rfl) (hd:(x == ("__debug__":Str))=false:=by decide):
  PS X (.Try body [.ExceptHandler (some (.Name x np)) (some n) (b₀::suite) hpos] orelse [] pos) (tTryAsE X.K D i tb to th):=by
 intro pins s σ H Dn I h
 refine wpAny_Try_except ?_
 have xw:XW {X with xe:=(fun e s₁=>wpAny (model X.prog X.w) X.A (noteFrame e X.env) (fun _ s₂=>wpAny (model X.prog X.w) X.A (setFlight e none) (fun _ s₃=>
   wpAny (model X.prog X.w) X.A (handleBy e X.env [.ExceptHandler (some (.Name x np)) (some n) (b₀::suite) hpos]) (SP X pins Dn) X.xe s₃) X.xe s₂) X.xe s₁),pn:=X.pn++pins}
   (fun cls σ' H'=>∃C,cls=.ref C∧XSub X.K C D∧∀ea,H' ea=none→th ea {nx:=fun σ2 H2=>Dn.nx (σ2.set i none) H2,rt:=Dn.rt,bk:=fun σ2 H2=>Dn.bk (σ2.set i none) H2,ct:=fun σ2 H2=>Dn.ct (σ2.set i none) H2}
    (σ'.set i (some (.ref ea))) (upd H' ea (excO ea C))):=by
  intro pins2 σ2 H2 s2 s' ea cls H' B I2 os bare un hok fly hK
  obtain⟨C,rfl,hsub,hK⟩:=hK
  have J2:Inv X pins σ2 H2 s2:=I2.unre I.ok
  have J':Inv X pins σ2 H' s':=J2.call' (s':=s') (ch:=[]) os un hok bare (fun b z=>absurd z (by simp))
  have fly:Fly B X.stack s2.heap H2 H' s'.heap ea (.ref C):=fly
  obtain⟨a0,hfl⟩:=id fly.fl
  have hfr:=I.ok.frames
  rw[hst] at hfr hfl
  show wpAny (model X.prog X.w) X.A (noteFrame (.ref ea) X.env) _ X.xe s'
  refine looksC hfr hfm hfl fly.nc fun h4 held4 up4 nc4=>?_
  refine landsC (s:={s' with heap:=h4}) held4.1 held4.2.2.1 held4.2.2.2 nc4 held4.2.1 fun h5 fl5 up5 nc5=>?_
  have J5:Inv X pins σ2 H' {s' with heap:=h5}:=Inv.flown J2 J' fly fl5.1 (up4.trans up5)
  obtain⟨oe,vs5,hoe,hoc,hod,_⟩:=fl5.first
  refine wpAny_handleBy_cons (codeAny_handlers_test (ad1 (X:={X with A:=X.A.mark (some (.ref ea)),calm:=false,xe:=fun _ _=>False}) (J5.marked (v:=some (.ref ea))) hg c.m ?_ hd)) (by intro q;cases q)
  refine ah6 (x:=x) (mg:=X.mg) J5.kIn c hsub hoe hoc ?_
  refine codeAny_handlers_suite_as ?_
  refine landsC (s:={s' with heap:=h5}) fl5.1 fl5.2.2.1 fl5.2.2.2.at nc5 fl5.2.1 fun h6 fl6 up6 nc6=>?_
  have J6:Inv X pins σ2 H' {s' with heap:=h6}:=Inv.flown J2 J' fly fl6.1 ((up4.trans up5).trans up6)
  obtain⟨o6,vs6,ho6,hc6,hd6,_⟩:=fl6.first
  have v26:vs6[2]?=some .none:=by
   obtain⟨o',vs',g',d',v2⟩:=nc6
   rw[ho6] at g';cases g'
   rw[hd6] at d';cases d'
   exact v2
  have hne:H' ea=none:=by
   cases z:H' ea with
   |none=>rfl
   |some u=>
    obtain⟨o,e⟩:=fly.trk ea u z
    rw[fl6.2.1] at e;cases e
  have nB:∀b o,B.get? b=some o→b≠ea:=fun b o e z=>by rw[z,fl6.2.1] at e;cases e
  have J7:Inv X pins σ2 (upd H' ea (excO ea C)) {s' with heap:=h6}:=by
   refine J6.track hne ?_ ?_ ?_ ?_ ?_
   ·intro z
    obtain⟨m,⟨oL,es,ep,hoL,hdL,_⟩,_⟩:=J6.loc
    rw[←z] at hoL
    have e:=ho6.symm.trans hoL
    cases e
    rw[hd6] at hdL;cases hdL
   ·intro o e
    by_cases hx:ea∈X.ex
    ·exact hx
    ·exfalso
     by_cases hf:ea∈X.fs
     ·obtain⟨_,o',ho',hnf⟩:=J6.funs.mem hf
      have e:=ho6.symm.trans ho'
      cases e
      exact hnf _ hd6
     ·obtain⟨o1,e1⟩:=J2.base.there ea o e hx
      have hl:ea≠X.env.locals:=Nat.ne_of_lt (Nat.lt_of_lt_of_le (Heap.lt_size e) I.ok.above)
      obtain⟨o2,e2⟩:=fly.alive ea o1 e1 fun z=>by
       rcases List.mem_cons.mp (J2.stkSub ea z) with q|q
       ·exact hl q
       ·exact hf q
      exact nB ea o2 e2 rfl
   ·intro x' c' e z
    obtain⟨v,o,ho,hdc⟩:=J6.cell x' c' e
    rw[z] at ho
    have e:=ho6.symm.trans ho
    cases e
    rw[hd6] at hdc;cases hdc
   ·intro p hp
    obtain⟨e,nn,ne,nfs,_⟩:=J2.pin p hp
    exact nB p.1 p.2 (fly.kept p.1 p.2 e nn fun z=>by
     rcases List.mem_cons.mp (J2.stkSub p.1 z) with q|q
     ·exact ne q
     ·exact nfs q)
   ·intro H0
    exact⟨⟨o6,vs6,ho6,hc6,hd6,v26⟩,⟨o6,ho6⟩,fun h1 h2 ⟨o,vs,a1,a2,a3⟩ k=>⟨o,vs,k o a1,a2,a3⟩⟩
  refine aeo J7 hN hi (Or.inl hlo) (v:=.ref ea) rfl (fun s7 J8=>?_) (.inr hlo)
  refine wpAny_mono (hh ea pins s7 _ _ _ (J8.marked (v:=some (.ref ea))) (hK ea hne)) (fun f s8 hq=>?_) (fun _ _ z=>z.elim)
  show wpAny (model X.prog X.w) X.A (do bindName X.env n .none;unbindBehindTheSuite X.env n hpos) (fun _ s₃=>SP X pins Dn f s₃) X.xe s8
  cases f with
  |next=>
   obtain⟨σ',H2',I3,q⟩:=hq
   exact (I3.unmarked I.ok).nameGone hN hi hlo fun s9 I9=>⟨_,H2',I9,q⟩
  |brk=>
   obtain⟨σ',H2',I3,q⟩:=hq
   exact (I3.unmarked I.ok).nameGone hN hi hlo fun s9 I9=>⟨_,H2',I9,q⟩
  |cont=>
   obtain⟨σ',H2',I3,q⟩:=hq
   exact (I3.unmarked I.ok).nameGone hN hi hlo fun s9 I9=>⟨_,H2',I9,q⟩
  |ret u=>
   obtain⟨v,σ',H2',I3,r,q⟩:=hq
   exact (I3.unmarked I.ok).nameGone hN hi hlo fun s9 I9=>⟨v,_,H2',I9,r,q⟩
 have q:=hb _ (X.pn++pins) _ PassesOwn.looking xw [] s σ H {Dn with nx:=to Dn} I.re h
 refine wpAny_mono q (fun f s1 hq=>?_) (fun e s1 hq=>hq)
 cases f with
 |next=>
  obtain⟨σ',H',I1,q1⟩:=hq
  exact ho pins s1 σ' H' Dn (I1.unre I.ok) q1
 |brk=>obtain⟨σ',H',I1,q1⟩:=hq;exact⟨σ',H',I1.unre I.ok,q1⟩
 |cont=>obtain⟨σ',H',I1,q1⟩:=hq;exact⟨σ',H',I1.unre I.ok,q1⟩
 |ret u=>obtain⟨v,σ',H',I1,r,q1⟩:=hq;exact⟨v,σ',H',I1.unre I.ok,r,q1⟩
end L2
set_option hygiene false in
local macro_rules| `(tactic|walk_at "wp")=> `(tactic|simp only[↓L2.rI0_ii, ↓L2.rI_ii, ↓L2.ex_int, ↓L2.ex_bl, ↓L2.ex_ref,L2.tSeq,L2.tNext,L2.tAsg,L2.gName,L2.tRet,L2.tDrop,L2.tIfS,L2.tIf,L2.tTest,L2.tB,L2.tOp,L2.tUn,L2.tVar,L2.tVarM,L2.tC,L2.rI,L2.rI0,L2.rU,L2.tAnd,L2.tOr,L2.tNot,L2.tAndV,L2.tNotV,L2.tCallE,L2.tMethE,L2.tMakeE,L2.tCB,L2.tCons,L2.tNil,L2.tChain,L2.tLst,L2.tTup,L2.rIxL,L2.rIxT,L2.tFld,L2.sFld,L2.tRaise,L2.rEq,L2.rNe,L2.start,L2.CDiv,L2.CPow,L2.kn_int,L2.cxOf_K,L2.aky,L2.aku,L2.akv,L2.akw,L2.rIxH,L2.ajg,L2.ajh,L2.aaf,L2.HO.ins.injEq,L2.rCat,L2.rSlL,L2.tSl,L2.tPart,L2.tNoPart,L2.acu,L2.akx,L2.tForE,L2.iList,L2.tBM,L2.tBM0,L2.rAppend,L2.rPop,L2.tComp,L2.tYes,Option.join_some,Option.join_none,PySem.sizeLine_eq,Nat.reduceLeDiff,eq_self,decide_eq_true_eq,
 List.map_cons,List.map_nil,List.length_cons,List.length_nil,List.cons_append,List.nil_append,List.append_nil,List.replicate,Nat.reduceSub,Nat.reduceAdd,List.getElem?_cons_zero,List.getElem?_cons_succ,List.set_cons_zero,List.set_cons_succ,
 Option.some.injEq,List.cons.injEq,L2.V.int.injEq,L2.V.bl.injEq,L2.V.ref.injEq,L2.V.ty.injEq,L2.V.str.injEq,exists_eq_left,exists_eq_left',exists_and_left,exists_eq',exists_const,and_assoc,and_true,true_and, ↓reduceIte,Int.reduceLE,Int.reduceLT,Nat.reducePow,Int.reducePow,Int.reduceNeg,L2.na10,Nat.reduceLT,Int.reduceToNat,Int.reduceAdd,Int.reduceMul,Int.reduceSub,true_or,or_true,decide_true,decide_false])
namespace Pf
open PySem L2
noncomputable def top (i:Nat):Stmt:=PySem.Challenge.pw_frameland_k24_refused_stretches.main.body.getD i (.Pass ⟨0,0,0,0⟩)
noncomputable abbrev abt:Stmt:=top 10
theorem af8:FnScope ["thing"] ["thing"] (defScope abt):=⟨rfl,rfl,rfl,by decide+kernel,rfl,by decide+kernel,by decide+kernel⟩
noncomputable abbrev abo:Stmt:=top 11
theorem afp:FnScope ["thing","low","high"] ["thing","low","high"] (defScope abo):=⟨rfl,rfl,rfl,by decide+kernel,rfl,by decide+kernel,by decide+kernel⟩
noncomputable abbrev abf:Stmt:=top 14
theorem ad8:FnScope ["rights"] ["rights"] (defScope abf):=⟨rfl,rfl,rfl,by decide+kernel,rfl,by decide+kernel,by decide+kernel⟩
noncomputable abbrev ace:Stmt:=top 15
theorem aio:FnScope ["run"] ["run"] (defScope ace):=⟨rfl,rfl,rfl,by decide+kernel,rfl,by decide+kernel,by decide+kernel⟩
noncomputable abbrev abu:Stmt:=top 16
theorem ad9:FnScope ["run","page","tie"] ["run","page"] (defScope abu):=⟨rfl,rfl,rfl,by decide+kernel,rfl,by decide+kernel,by decide+kernel⟩
noncomputable abbrev ab4:Stmt:=top 17
theorem aek:FnScope ["run","low","high","first"] ["run","low","high"] (defScope ab4):=⟨rfl,rfl,rfl,by decide+kernel,rfl,by decide+kernel,by decide+kernel⟩
noncomputable abbrev ab5:Stmt:=top 18
theorem ahg:FnScope ["run","later"] ["run","later"] (defScope ab5):=⟨rfl,rfl,rfl,by decide+kernel,rfl,by decide+kernel,by decide+kernel⟩
noncomputable abbrev acf:Stmt:=top 19
theorem ac9:FnScope ["runs","fewer","run","last"] ["runs"] (defScope acf):=⟨rfl,rfl,rfl,by decide+kernel,rfl,by decide+kernel,by decide+kernel⟩
noncomputable abbrev aa8:Stmt:=inClass (top 20) 0
theorem adl:FnScope ["self"] ["self"] (defScope aa8):=⟨rfl,rfl,rfl,by decide+kernel,rfl,by decide+kernel,by decide+kernel⟩
noncomputable abbrev aa1:Stmt:=inClass (top 20) 1
theorem acm:FnScope ["self","first","many","rights","tie"] ["self","first","many","rights","tie"] (defScope aa1):=⟨rfl,rfl,rfl,by decide+kernel,rfl,by decide+kernel,by decide+kernel⟩
noncomputable abbrev abb:Stmt:=inClass (top 20) 2
theorem adw:FnScope ["self","first","many"] ["self","first","many"] (defScope abb):=⟨rfl,rfl,rfl,by decide+kernel,rfl,by decide+kernel,by decide+kernel⟩
noncomputable abbrev aa4:Stmt:=inClass (top 20) 3
theorem ab7:FnScope ["self","first","many","rights","parts"] ["self","first","many","rights"] (defScope aa4):=⟨rfl,rfl,rfl,by decide+kernel,rfl,by decide+kernel,by decide+kernel⟩
noncomputable abbrev aaq:Stmt:=inClass (top 20) 4
theorem acg:FnScope ["self","first","many"] ["self","first","many"] (defScope aaq):=⟨rfl,rfl,rfl,by decide+kernel,rfl,by decide+kernel,by decide+kernel⟩
noncomputable abbrev aas:Stmt:=inClass (top 20) 5
theorem abr:FnScope ["self","page","part"] ["self","page"] (defScope aas):=⟨rfl,rfl,rfl,by decide+kernel,rfl,by decide+kernel,by decide+kernel⟩
noncomputable abbrev aax:Stmt:=inClass (top 20) 7
theorem acv:FnScope ["self","first","many"] ["self","first","many"] (defScope aax):=⟨rfl,rfl,rfl,by decide+kernel,rfl,by decide+kernel,by decide+kernel⟩
noncomputable abbrev aay:Stmt:=inClass (top 20) 8
theorem acw:FnScope ["self","first","many"] ["self","first","many"] (defScope aay):=⟨rfl,rfl,rfl,by decide+kernel,rfl,by decide+kernel,by decide+kernel⟩
noncomputable abbrev aa9:Stmt:=inClass (top 20) 10
theorem adm:FnScope ["self"] ["self"] (defScope aa9):=⟨rfl,rfl,rfl,by decide+kernel,rfl,by decide+kernel,by decide+kernel⟩
noncomputable abbrev aam:Stmt:=inClass (top 20) 12
theorem aap:FnScope ["self","page","low","high","middle"] ["self","page"] (defScope aam):=⟨rfl,rfl,rfl,by decide+kernel,rfl,by decide+kernel,by decide+kernel⟩
noncomputable abbrev aar:Stmt:=inClass (top 20) 13
theorem abi:FnScope ["self","first","many","end","near"] ["self","first","many"] (defScope aar):=⟨rfl,rfl,rfl,by decide+kernel,rfl,by decide+kernel,by decide+kernel⟩
noncomputable abbrev aaz:Stmt:=inClass (top 20) 14
theorem ab0:FnScope ["self","page","parts"] ["self","page"] (defScope aaz):=⟨rfl,rfl,rfl,by decide+kernel,rfl,by decide+kernel,by decide+kernel⟩
noncomputable abbrev aav:Stmt:=inClass (top 20) 15
theorem aat:FnScope ["self","first","many","parts","end","low","high","near","ahead","behind"] ["self","first","many","parts"] (defScope aav):=⟨rfl,rfl,rfl,by decide+kernel,rfl,by decide+kernel,by decide+kernel⟩
noncomputable abbrev abp:Stmt:=top 22
theorem afq:FnScope ["_law_script","_law_k"] ["_law_script","_law_k"] (defScope abp):=⟨rfl,rfl,rfl,by decide+kernel,rfl,by decide+kernel,by decide+kernel⟩
noncomputable abbrev abv:Stmt:=top 23
theorem af9:FnScope ["_law_cell"] ["_law_cell"] (defScope abv):=⟨rfl,rfl,rfl,by decide+kernel,rfl,by decide+kernel,by decide+kernel⟩
noncomputable abbrev acz:Stmt:=top 24
theorem ajo:FnScope ["_law_cell"] ["_law_cell"] (defScope acz):=⟨rfl,rfl,rfl,by decide+kernel,rfl,by decide+kernel,by decide+kernel⟩
noncomputable abbrev ab6:Stmt:=top 25
theorem adn:FnScope ["_law_some","_law_deed_here","e","_law_named"] ["_law_some","_law_deed_here"] (defScope ab6):=⟨rfl,rfl,rfl,by decide+kernel,rfl,by decide+kernel,by decide+kernel⟩
noncomputable abbrev ach:Stmt:=top 26
theorem acb:FnScope ["_law_cell","_law_first","_law_many","_law_gap","_law_more","_law_way","_law_good","_law_step","_law_back","_law_every"] ["_law_cell","_law_first","_law_many","_law_gap","_law_more"] (defScope ach):=⟨rfl,rfl,rfl,by decide+kernel,rfl,by decide+kernel,by decide+kernel⟩
noncomputable abbrev ac0:Stmt:=top 27
theorem ajp:FnScope ["_law_cell"] ["_law_cell"] (defScope ac0):=⟨rfl,rfl,rfl,by decide+kernel,rfl,by decide+kernel,by decide+kernel⟩
noncomputable abbrev aci:Stmt:=top 28
theorem afr:FnScope ["_law_some","_law_due_here","_law_told_here"] ["_law_some","_law_due_here"] (defScope aci):=⟨rfl,rfl,rfl,by decide+kernel,rfl,by decide+kernel,by decide+kernel⟩
noncomputable abbrev aga:Stmt:=top 29
theorem acn:FnScope ["_law_script","_law_first","_law_many","_law_gap","_law_more","_law_rights","_law_tie","_law_last","_law_some","_law_due_here","_law_cell"] ["_law_script"] (defScope aga):=⟨rfl,rfl,rfl,by decide+kernel,rfl,by decide+kernel,by decide+kernel⟩
structure Adr where
 C_Stretches:Addr
 C_FrameError:Addr
 C_BadRights:Addr
 C_Taken:Addr
 C_NotMapped:Addr
 C_NoShape:Addr
 C_OutOfRoom:Addr
 C_NoRight:Addr
structure Txt (K:PySem.W.Frag) (mg:Str→Option Value) (A:Adr):Prop where
 b_ValueError:mg "ValueError"=none
 b_bool:mg "bool"=none
 b_int:mg "int"=none
 b_isinstance:mg "isinstance"=none
 b_len:mg "len"=none
 b_list:mg "list"=none
 b_max:mg "max"=none
 b_min:mg "min"=none
 b_sum:mg "sum"=none
 c_MOST_RIGHTS:∃u,mg "MOST_RIGHTS"=some u∧RelV (.int 3) u
 r_is_whole:Raw K mg "is_whole" "is_whole" abt ["thing"] []
 r_is_within:Raw K mg "is_within" "is_within" abo ["thing","low","high"] []
 r_check_rights:Raw K mg "check_rights" "check_rights" abf ["rights"] []
 r_end_of:Raw K mg "end_of" "end_of" ace ["run"] []
 r_tie_from:Raw K mg "tie_from" "tie_from" abu ["run","page"] []
 r_part_of:Raw K mg "part_of" "part_of" ab4 ["run","low","high"] []
 r_goes_on:Raw K mg "goes_on" "goes_on" ab5 ["run","later"] []
 r_joined:Raw K mg "joined" "joined" acf ["runs"] []
 r_l_cell_at:Raw K mg "_law_cell_at" "_law_cell_at" abp ["_law_script","_law_k"] []
 r_l_number:Raw K mg "_law_number" "_law_number" abv ["_law_cell"] []
 r_l_bad:Raw K mg "_law_bad" "_law_bad" acz ["_law_cell"] []
 r_l_tried:Raw K mg "_law_tried" "_law_tried" ab6 ["_law_some","_law_deed_here"] []
 r_l_deed:Raw K mg "_law_deed" "_law_deed" ach ["_law_cell","_law_first","_law_many","_law_gap","_law_more"] []
 r_l_due:Raw K mg "_law_due" "_law_due" ac0 ["_law_cell"] []
 r_l_told:Raw K mg "_law_told" "_law_told" aci ["_law_some","_law_due_here"] []
 cl_Stretches:Cls K A.C_Stretches
 na_Stretches_runs:NoAttr K A.C_Stretches "runs"
 r_Stretches_init:RawI K mg "Stretches" A.C_Stretches "Stretches.__init__" aa8 ["self"] []
 r_Stretches_put:RawMD K A.C_Stretches "put" "Stretches.put" aa1 ["self","first","many","rights","tie"] []
 r1_Stretches_put:RawMD K A.C_Stretches "put" "Stretches.put" aa1 ["self","first","many","rights","tie"] [.non]
 r_Stretches_cut:RawM K A.C_Stretches "cut" "Stretches.cut" abb ["self","first","many"] []
 r_Stretches_guard:RawM K A.C_Stretches "guard" "Stretches.guard" aa4 ["self","first","many","rights"] []
 r_Stretches_check_full:RawM K A.C_Stretches "check_full" "Stretches.check_full" aaq ["self","first","many"] []
 r_Stretches_rights_at:RawM K A.C_Stretches "rights_at" "Stretches.rights_at" aas ["self","page"] []
 r_Stretches_is_free:RawM K A.C_Stretches "is_free" "Stretches.is_free" aax ["self","first","many"] []
 r_Stretches_is_full:RawM K A.C_Stretches "is_full" "Stretches.is_full" aay ["self","first","many"] []
 r_Stretches_told:RawM K A.C_Stretches "told" "Stretches.told" aa9 ["self"] []
 r_Stretches_place_behind:RawM K A.C_Stretches "place_behind" "Stretches.place_behind" aam ["self","page"] []
 r_Stretches_parts_amid:RawM K A.C_Stretches "parts_amid" "Stretches.parts_amid" aar ["self","first","many"] []
 r_Stretches_part_at:RawM K A.C_Stretches "part_at" "Stretches.part_at" aaz ["self","page"] []
 r_Stretches_lay_amid:RawM K A.C_Stretches "lay_amid" "Stretches.lay_amid" aav ["self","first","many","parts"] []
 m_FrameError:∃u,mg "FrameError"=some u∧RelV (.ref A.C_FrameError) u
 h_FrameError:XH K mg "FrameError" A.C_FrameError
 m_BadRights:∃u,mg "BadRights"=some u∧RelV (.ref A.C_BadRights) u
 x_BadRights:XC K mg "BadRights" A.C_BadRights
 xi_BadRights:XI K A.C_BadRights
 m_Taken:∃u,mg "Taken"=some u∧RelV (.ref A.C_Taken) u
 x_Taken:XC K mg "Taken" A.C_Taken
 xi_Taken:XI K A.C_Taken
 m_NotMapped:∃u,mg "NotMapped"=some u∧RelV (.ref A.C_NotMapped) u
 x_NotMapped:XC K mg "NotMapped" A.C_NotMapped
 xi_NotMapped:XI K A.C_NotMapped
 m_NoShape:∃u,mg "NoShape"=some u∧RelV (.ref A.C_NoShape) u
 m_OutOfRoom:∃u,mg "OutOfRoom"=some u∧RelV (.ref A.C_OutOfRoom) u
 m_NoRight:∃u,mg "NoRight"=some u∧RelV (.ref A.C_NoRight) u
 sub_BadRights_FrameError:XSub K A.C_BadRights A.C_FrameError
 sub_Taken_FrameError:XSub K A.C_Taken A.C_FrameError
 sub_NotMapped_FrameError:XSub K A.C_NotMapped A.C_FrameError
 kit_BadRights_BadRights:PySem.W.kitOne K (.ref A.C_BadRights) (.ref A.C_BadRights)=some true
 kit_BadRights_Taken:PySem.W.kitOne K (.ref A.C_BadRights) (.ref A.C_Taken)=some false
 kit_BadRights_NotMapped:PySem.W.kitOne K (.ref A.C_BadRights) (.ref A.C_NotMapped)=some false
 kit_BadRights_NoShape:PySem.W.kitOne K (.ref A.C_BadRights) (.ref A.C_NoShape)=some false
 kit_BadRights_OutOfRoom:PySem.W.kitOne K (.ref A.C_BadRights) (.ref A.C_OutOfRoom)=some false
 kit_BadRights_NoRight:PySem.W.kitOne K (.ref A.C_BadRights) (.ref A.C_NoRight)=some false
 kit_Taken_BadRights:PySem.W.kitOne K (.ref A.C_Taken) (.ref A.C_BadRights)=some false
 kit_Taken_Taken:PySem.W.kitOne K (.ref A.C_Taken) (.ref A.C_Taken)=some true
 kit_Taken_NotMapped:PySem.W.kitOne K (.ref A.C_Taken) (.ref A.C_NotMapped)=some false
 kit_Taken_NoShape:PySem.W.kitOne K (.ref A.C_Taken) (.ref A.C_NoShape)=some false
 kit_Taken_OutOfRoom:PySem.W.kitOne K (.ref A.C_Taken) (.ref A.C_OutOfRoom)=some false
 kit_Taken_NoRight:PySem.W.kitOne K (.ref A.C_Taken) (.ref A.C_NoRight)=some false
 kit_NotMapped_BadRights:PySem.W.kitOne K (.ref A.C_NotMapped) (.ref A.C_BadRights)=some false
 kit_NotMapped_Taken:PySem.W.kitOne K (.ref A.C_NotMapped) (.ref A.C_Taken)=some false
 kit_NotMapped_NotMapped:PySem.W.kitOne K (.ref A.C_NotMapped) (.ref A.C_NotMapped)=some true
 kit_NotMapped_NoShape:PySem.W.kitOne K (.ref A.C_NotMapped) (.ref A.C_NoShape)=some false
 kit_NotMapped_OutOfRoom:PySem.W.kitOne K (.ref A.C_NotMapped) (.ref A.C_OutOfRoom)=some false
 kit_NotMapped_NoRight:PySem.W.kitOne K (.ref A.C_NotMapped) (.ref A.C_NoRight)=some false
 kit_BadRights_ValueError:PySem.W.kitOne K (.ref A.C_BadRights) (.type "ValueError")=some true
 kit_Taken_ValueError:PySem.W.kitOne K (.ref A.C_Taken) (.type "ValueError")=some true
 kit_NotMapped_ValueError:PySem.W.kitOne K (.ref A.C_NotMapped) (.type "ValueError")=some true
 r_law:∃f fd,mg "law"=some (.ref f)∧Fun K "law" "law" aga f fd∧∀(s:Shared) (u:Value),BindsTo s fd ⟨[u],[]⟩ [("_law_script",u)]
theorem el1 {P:List Value→Prop} (h:∀a0,P [a0]):∀us:List Value,us.length=1→P us
 |[a0],_=>h a0
theorem el2 {P:List Value→Prop} (h:∀a0 a1,P [a0,a1]):∀us:List Value,us.length=2→P us
 |[a0,a1],_=>h a0 a1
theorem el3 {P:List Value→Prop} (h:∀a0 a1 a2,P [a0,a1,a2]):∀us:List Value,us.length=3→P us
 |[a0,a1,a2],_=>h a0 a1 a2
theorem el4 {P:List Value→Prop} (h:∀a0 a1 a2 a3,P [a0,a1,a2,a3]):∀us:List Value,us.length=4→P us
 |[a0,a1,a2,a3],_=>h a0 a1 a2 a3
theorem el5 {P:List Value→Prop} (h:∀a0 a1 a2 a3 a4,P [a0,a1,a2,a3,a4]):∀us:List Value,us.length=5→P us
 |[a0,a1,a2,a3,a4],_=>h a0 a1 a2 a3 a4
theorem txt_mk {K:PySem.W.Frag} {h:Heap} {mg:Str→Option Value} (X:K.In h) (G:h.Ns mainGlobals mg)
 {C_NoRight:Addr}
 {C_OutOfRoom:Addr}
 {C_NoShape:Addr}
 {C_NotMapped:Addr}
 {C_Taken:Addr}
 {C_BadRights:Addr}
 {C_FrameError:Addr}
 {C_Stretches:Addr}
 {t_MOST_RIGHTS:Tok}
 {f_0:Addr} {od_0 an_0:Option Addr} {sl_0:Array (Option Value)} {oc_0 kV_0 dc_0 pm_0 cd_0 ct_0:Value}
 {f_1:Addr} {od_1 an_1:Option Addr} {sl_1:Array (Option Value)} {oc_1 kV_1 dc_1 pm_1 cd_1 ct_1:Value}
 {f_2:Addr} {od_2 an_2:Option Addr} {sl_2:Array (Option Value)} {oc_2 kV_2 dc_2 pm_2 cd_2 ct_2:Value}
 {f_3:Addr} {od_3 an_3:Option Addr} {sl_3:Array (Option Value)} {oc_3 kV_3 dc_3 pm_3 cd_3 ct_3:Value}
 {f_4:Addr} {od_4 an_4:Option Addr} {sl_4:Array (Option Value)} {oc_4 kV_4 dc_4 pm_4 cd_4 ct_4:Value}
 {f_5:Addr} {od_5 an_5:Option Addr} {sl_5:Array (Option Value)} {oc_5 kV_5 dc_5 pm_5 cd_5 ct_5:Value}
 {f_6:Addr} {od_6 an_6:Option Addr} {sl_6:Array (Option Value)} {oc_6 kV_6 dc_6 pm_6 cd_6 ct_6:Value}
 {f_7:Addr} {od_7 an_7:Option Addr} {sl_7:Array (Option Value)} {oc_7 kV_7 dc_7 pm_7 cd_7 ct_7:Value}
 {f_8:Addr} {od_8 an_8:Option Addr} {sl_8:Array (Option Value)} {oc_8 kV_8 dc_8 pm_8 cd_8 ct_8:Value}
 {f_9:Addr} {od_9 an_9:Option Addr} {sl_9:Array (Option Value)} {oc_9 kV_9 dc_9 pm_9 cd_9 ct_9:Value}
 {f_10:Addr} {od_10 an_10:Option Addr} {sl_10:Array (Option Value)} {oc_10 kV_10 dc_10 pm_10 cd_10 ct_10:Value}
 {f_11:Addr} {od_11 an_11:Option Addr} {sl_11:Array (Option Value)} {oc_11 kV_11 dc_11 pm_11 cd_11 ct_11:Value}
 {f_12:Addr} {od_12 an_12:Option Addr} {sl_12:Array (Option Value)} {oc_12 kV_12 dc_12 pm_12 cd_12 ct_12:Value}
 {f_13:Addr} {od_13 an_13:Option Addr} {sl_13:Array (Option Value)} {oc_13 kV_13 dc_13 pm_13 cd_13 ct_13:Value}
 {f_14:Addr} {od_14 an_14:Option Addr} {sl_14:Array (Option Value)} {oc_14 kV_14 dc_14 pm_14 cd_14 ct_14:Value}
 {f_15:Addr} {od_15 an_15:Option Addr} {sl_15:Array (Option Value)} {oc_15 kV_15 dc_15 pm_15 cd_15 ct_15:Value}
 {f_16 tu_16:Addr} {od_16 an_16 ud_16:Option Addr} {sl_16 us_16:Array (Option Value)} {oc_16 kV_16 dc_16 pm_16 cd_16 ct_16 uo_16:Value} {un_16:Nat}
 {f_17:Addr} {od_17 an_17:Option Addr} {sl_17:Array (Option Value)} {oc_17 kV_17 dc_17 pm_17 cd_17 ct_17:Value}
 {f_18:Addr} {od_18 an_18:Option Addr} {sl_18:Array (Option Value)} {oc_18 kV_18 dc_18 pm_18 cd_18 ct_18:Value}
 {f_19:Addr} {od_19 an_19:Option Addr} {sl_19:Array (Option Value)} {oc_19 kV_19 dc_19 pm_19 cd_19 ct_19:Value}
 {f_20:Addr} {od_20 an_20:Option Addr} {sl_20:Array (Option Value)} {oc_20 kV_20 dc_20 pm_20 cd_20 ct_20:Value}
 {f_21:Addr} {od_21 an_21:Option Addr} {sl_21:Array (Option Value)} {oc_21 kV_21 dc_21 pm_21 cd_21 ct_21:Value}
 {f_22:Addr} {od_22 an_22:Option Addr} {sl_22:Array (Option Value)} {oc_22 kV_22 dc_22 pm_22 cd_22 ct_22:Value}
 {f_23:Addr} {od_23 an_23:Option Addr} {sl_23:Array (Option Value)} {oc_23 kV_23 dc_23 pm_23 cd_23 ct_23:Value}
 {f_24:Addr} {od_24 an_24:Option Addr} {sl_24:Array (Option Value)} {oc_24 kV_24 dc_24 pm_24 cd_24 ct_24:Value}
 {f_25:Addr} {od_25 an_25:Option Addr} {sl_25:Array (Option Value)} {oc_25 kV_25 dc_25 pm_25 cd_25 ct_25:Value}
 {f_26:Addr} {od_26 an_26:Option Addr} {sl_26:Array (Option Value)} {oc_26 kV_26 dc_26 pm_26 cd_26 ct_26:Value}
 {f_27:Addr} {od_27 an_27:Option Addr} {sl_27:Array (Option Value)} {oc_27 kV_27 dc_27 pm_27 cd_27 ct_27:Value}
 {cd_FrameError:ClassData}
 {f_28:Addr} {od_28 an_28:Option Addr} {sl_28:Array (Option Value)} {oc_28 kV_28 dc_28 pm_28 cd_28 ct_28:Value}
 (a_NoRight:PySem.W.nsIn K mainGlobals "NoRight"=some (some (.ref C_NoRight)))
 (a_OutOfRoom:PySem.W.nsIn K mainGlobals "OutOfRoom"=some (some (.ref C_OutOfRoom)))
 (a_NoShape:PySem.W.nsIn K mainGlobals "NoShape"=some (some (.ref C_NoShape)))
 (a_NotMapped:PySem.W.nsIn K mainGlobals "NotMapped"=some (some (.ref C_NotMapped)))
 (a_Taken:PySem.W.nsIn K mainGlobals "Taken"=some (some (.ref C_Taken)))
 (a_BadRights:PySem.W.nsIn K mainGlobals "BadRights"=some (some (.ref C_BadRights)))
 (a_FrameError:PySem.W.nsIn K mainGlobals "FrameError"=some (some (.ref C_FrameError)))
 (a_Stretches:PySem.W.nsIn K mainGlobals "Stretches"=some (some (.ref C_Stretches)))
 (zb_ValueError:PySem.W.nsIn K mainGlobals "ValueError"=some none)
 (zb_bool:PySem.W.nsIn K mainGlobals "bool"=some none)
 (zb_int:PySem.W.nsIn K mainGlobals "int"=some none)
 (zb_isinstance:PySem.W.nsIn K mainGlobals "isinstance"=some none)
 (zb_len:PySem.W.nsIn K mainGlobals "len"=some none)
 (zb_list:PySem.W.nsIn K mainGlobals "list"=some none)
 (zb_max:PySem.W.nsIn K mainGlobals "max"=some none)
 (zb_min:PySem.W.nsIn K mainGlobals "min"=some none)
 (zb_sum:PySem.W.nsIn K mainGlobals "sum"=some none)
 (zc_MOST_RIGHTS:PySem.W.nsIn K mainGlobals "MOST_RIGHTS"=some (some (.int 3 t_MOST_RIGHTS)))
 (a_0_:PySem.W.nsIn K mainGlobals "is_whole"=some (some (.ref f_0)))
 (l_0_:K.lookup f_0=some ⟨oc_0,od_0,.func (PySem.W.fnOf "is_whole" "is_whole" (defArgs abt) (defBody abt) (defScope abt) .none kV_0 dc_0 pm_0 an_0 cd_0 ct_0),sl_0⟩)
 (c_0_:PySem.W.codeIn K cd_0 "is_whole"=true)
 (k_0_:PySem.W.keepIn K (.ref f_0)=true)
 (a_1_:PySem.W.nsIn K mainGlobals "is_within"=some (some (.ref f_1)))
 (l_1_:K.lookup f_1=some ⟨oc_1,od_1,.func (PySem.W.fnOf "is_within" "is_within" (defArgs abo) (defBody abo) (defScope abo) .none kV_1 dc_1 pm_1 an_1 cd_1 ct_1),sl_1⟩)
 (c_1_:PySem.W.codeIn K cd_1 "is_within"=true)
 (k_1_:PySem.W.keepIn K (.ref f_1)=true)
 (a_2_:PySem.W.nsIn K mainGlobals "check_rights"=some (some (.ref f_2)))
 (l_2_:K.lookup f_2=some ⟨oc_2,od_2,.func (PySem.W.fnOf "check_rights" "check_rights" (defArgs abf) (defBody abf) (defScope abf) .none kV_2 dc_2 pm_2 an_2 cd_2 ct_2),sl_2⟩)
 (c_2_:PySem.W.codeIn K cd_2 "check_rights"=true)
 (k_2_:PySem.W.keepIn K (.ref f_2)=true)
 (a_3_:PySem.W.nsIn K mainGlobals "end_of"=some (some (.ref f_3)))
 (l_3_:K.lookup f_3=some ⟨oc_3,od_3,.func (PySem.W.fnOf "end_of" "end_of" (defArgs ace) (defBody ace) (defScope ace) .none kV_3 dc_3 pm_3 an_3 cd_3 ct_3),sl_3⟩)
 (c_3_:PySem.W.codeIn K cd_3 "end_of"=true)
 (k_3_:PySem.W.keepIn K (.ref f_3)=true)
 (a_4_:PySem.W.nsIn K mainGlobals "tie_from"=some (some (.ref f_4)))
 (l_4_:K.lookup f_4=some ⟨oc_4,od_4,.func (PySem.W.fnOf "tie_from" "tie_from" (defArgs abu) (defBody abu) (defScope abu) .none kV_4 dc_4 pm_4 an_4 cd_4 ct_4),sl_4⟩)
 (c_4_:PySem.W.codeIn K cd_4 "tie_from"=true)
 (k_4_:PySem.W.keepIn K (.ref f_4)=true)
 (a_5_:PySem.W.nsIn K mainGlobals "part_of"=some (some (.ref f_5)))
 (l_5_:K.lookup f_5=some ⟨oc_5,od_5,.func (PySem.W.fnOf "part_of" "part_of" (defArgs ab4) (defBody ab4) (defScope ab4) .none kV_5 dc_5 pm_5 an_5 cd_5 ct_5),sl_5⟩)
 (c_5_:PySem.W.codeIn K cd_5 "part_of"=true)
 (k_5_:PySem.W.keepIn K (.ref f_5)=true)
 (a_6_:PySem.W.nsIn K mainGlobals "goes_on"=some (some (.ref f_6)))
 (l_6_:K.lookup f_6=some ⟨oc_6,od_6,.func (PySem.W.fnOf "goes_on" "goes_on" (defArgs ab5) (defBody ab5) (defScope ab5) .none kV_6 dc_6 pm_6 an_6 cd_6 ct_6),sl_6⟩)
 (c_6_:PySem.W.codeIn K cd_6 "goes_on"=true)
 (k_6_:PySem.W.keepIn K (.ref f_6)=true)
 (a_7_:PySem.W.nsIn K mainGlobals "joined"=some (some (.ref f_7)))
 (l_7_:K.lookup f_7=some ⟨oc_7,od_7,.func (PySem.W.fnOf "joined" "joined" (defArgs acf) (defBody acf) (defScope acf) .none kV_7 dc_7 pm_7 an_7 cd_7 ct_7),sl_7⟩)
 (c_7_:PySem.W.codeIn K cd_7 "joined"=true)
 (k_7_:PySem.W.keepIn K (.ref f_7)=true)
 (a_8_:PySem.W.nsIn K mainGlobals "_law_cell_at"=some (some (.ref f_8)))
 (l_8_:K.lookup f_8=some ⟨oc_8,od_8,.func (PySem.W.fnOf "_law_cell_at" "_law_cell_at" (defArgs abp) (defBody abp) (defScope abp) .none kV_8 dc_8 pm_8 an_8 cd_8 ct_8),sl_8⟩)
 (c_8_:PySem.W.codeIn K cd_8 "_law_cell_at"=true)
 (k_8_:PySem.W.keepIn K (.ref f_8)=true)
 (a_9_:PySem.W.nsIn K mainGlobals "_law_number"=some (some (.ref f_9)))
 (l_9_:K.lookup f_9=some ⟨oc_9,od_9,.func (PySem.W.fnOf "_law_number" "_law_number" (defArgs abv) (defBody abv) (defScope abv) .none kV_9 dc_9 pm_9 an_9 cd_9 ct_9),sl_9⟩)
 (c_9_:PySem.W.codeIn K cd_9 "_law_number"=true)
 (k_9_:PySem.W.keepIn K (.ref f_9)=true)
 (a_10_:PySem.W.nsIn K mainGlobals "_law_bad"=some (some (.ref f_10)))
 (l_10_:K.lookup f_10=some ⟨oc_10,od_10,.func (PySem.W.fnOf "_law_bad" "_law_bad" (defArgs acz) (defBody acz) (defScope acz) .none kV_10 dc_10 pm_10 an_10 cd_10 ct_10),sl_10⟩)
 (c_10_:PySem.W.codeIn K cd_10 "_law_bad"=true)
 (k_10_:PySem.W.keepIn K (.ref f_10)=true)
 (a_11_:PySem.W.nsIn K mainGlobals "_law_tried"=some (some (.ref f_11)))
 (l_11_:K.lookup f_11=some ⟨oc_11,od_11,.func (PySem.W.fnOf "_law_tried" "_law_tried" (defArgs ab6) (defBody ab6) (defScope ab6) .none kV_11 dc_11 pm_11 an_11 cd_11 ct_11),sl_11⟩)
 (c_11_:PySem.W.codeIn K cd_11 "_law_tried"=true)
 (k_11_:PySem.W.keepIn K (.ref f_11)=true)
 (a_12_:PySem.W.nsIn K mainGlobals "_law_deed"=some (some (.ref f_12)))
 (l_12_:K.lookup f_12=some ⟨oc_12,od_12,.func (PySem.W.fnOf "_law_deed" "_law_deed" (defArgs ach) (defBody ach) (defScope ach) .none kV_12 dc_12 pm_12 an_12 cd_12 ct_12),sl_12⟩)
 (c_12_:PySem.W.codeIn K cd_12 "_law_deed"=true)
 (k_12_:PySem.W.keepIn K (.ref f_12)=true)
 (a_13_:PySem.W.nsIn K mainGlobals "_law_due"=some (some (.ref f_13)))
 (l_13_:K.lookup f_13=some ⟨oc_13,od_13,.func (PySem.W.fnOf "_law_due" "_law_due" (defArgs ac0) (defBody ac0) (defScope ac0) .none kV_13 dc_13 pm_13 an_13 cd_13 ct_13),sl_13⟩)
 (c_13_:PySem.W.codeIn K cd_13 "_law_due"=true)
 (k_13_:PySem.W.keepIn K (.ref f_13)=true)
 (a_14_:PySem.W.nsIn K mainGlobals "_law_told"=some (some (.ref f_14)))
 (l_14_:K.lookup f_14=some ⟨oc_14,od_14,.func (PySem.W.fnOf "_law_told" "_law_told" (defArgs aci) (defBody aci) (defScope aci) .none kV_14 dc_14 pm_14 an_14 cd_14 ct_14),sl_14⟩)
 (c_14_:PySem.W.codeIn K cd_14 "_law_told"=true)
 (k_14_:PySem.W.keepIn K (.ref f_14)=true)
 (pg_Stretches:PySem.W.plainGet K C_Stretches Str.empty=true)
 (hd_Stretches:PySem.W.hasDictIn K C_Stretches=true)
 (po_Stretches:PySem.W.plainOver K C_Stretches=true)
 (sa_Stretches:PySem.W.findIn K (.ref C_Stretches) "__setattr__"=some (some (.builtin "object.__setattr__")))
 (zn_Stretches_runs:PySem.W.findIn K (.ref C_Stretches) "runs"=some none)
 (mk_Stretches:PySem.W.makesIn K C_Stretches=true)
 (kc_Stretches:PySem.W.keepIn K (.ref C_Stretches)=true)
 (a_15_:PySem.W.findIn K (.ref C_Stretches) "__init__"=some (some (.ref f_15)))
 (i_15_:PySem.W.isFn K (.ref f_15)=true)
 (l_15_:K.lookup f_15=some ⟨oc_15,od_15,.func (PySem.W.fnOf "__init__" "Stretches.__init__" (defArgs aa8) (defBody aa8) (defScope aa8) .none kV_15 dc_15 pm_15 an_15 cd_15 ct_15),sl_15⟩)
 (c_15_:PySem.W.codeIn K cd_15 "Stretches.__init__"=true)
 (k_15_:PySem.W.keepIn K (.ref f_15)=true)
 (a_16_:PySem.W.findIn K (.ref C_Stretches) "put"=some (some (.ref f_16)))
 (i_16_:PySem.W.isFn K (.ref f_16)=true)
 (l_16_:K.lookup f_16=some ⟨oc_16,od_16,.func (PySem.W.fnOf "put" "Stretches.put" (defArgs aa1) (defBody aa1) (defScope aa1) (.ref tu_16) kV_16 dc_16 pm_16 an_16 cd_16 ct_16),sl_16⟩)
 (u_16_:K.lookup tu_16=some ⟨uo_16,ud_16,.seq #[.none] un_16,us_16⟩)
 (c_16_:PySem.W.codeIn K cd_16 "Stretches.put"=true)
 (k_16_:PySem.W.keepIn K (.ref f_16)=true)
 (a_17_:PySem.W.findIn K (.ref C_Stretches) "cut"=some (some (.ref f_17)))
 (i_17_:PySem.W.isFn K (.ref f_17)=true)
 (l_17_:K.lookup f_17=some ⟨oc_17,od_17,.func (PySem.W.fnOf "cut" "Stretches.cut" (defArgs abb) (defBody abb) (defScope abb) .none kV_17 dc_17 pm_17 an_17 cd_17 ct_17),sl_17⟩)
 (c_17_:PySem.W.codeIn K cd_17 "Stretches.cut"=true)
 (k_17_:PySem.W.keepIn K (.ref f_17)=true)
 (a_18_:PySem.W.findIn K (.ref C_Stretches) "guard"=some (some (.ref f_18)))
 (i_18_:PySem.W.isFn K (.ref f_18)=true)
 (l_18_:K.lookup f_18=some ⟨oc_18,od_18,.func (PySem.W.fnOf "guard" "Stretches.guard" (defArgs aa4) (defBody aa4) (defScope aa4) .none kV_18 dc_18 pm_18 an_18 cd_18 ct_18),sl_18⟩)
 (c_18_:PySem.W.codeIn K cd_18 "Stretches.guard"=true)
 (k_18_:PySem.W.keepIn K (.ref f_18)=true)
 (a_19_:PySem.W.findIn K (.ref C_Stretches) "check_full"=some (some (.ref f_19)))
 (i_19_:PySem.W.isFn K (.ref f_19)=true)
 (l_19_:K.lookup f_19=some ⟨oc_19,od_19,.func (PySem.W.fnOf "check_full" "Stretches.check_full" (defArgs aaq) (defBody aaq) (defScope aaq) .none kV_19 dc_19 pm_19 an_19 cd_19 ct_19),sl_19⟩)
 (c_19_:PySem.W.codeIn K cd_19 "Stretches.check_full"=true)
 (k_19_:PySem.W.keepIn K (.ref f_19)=true)
 (a_20_:PySem.W.findIn K (.ref C_Stretches) "rights_at"=some (some (.ref f_20)))
 (i_20_:PySem.W.isFn K (.ref f_20)=true)
 (l_20_:K.lookup f_20=some ⟨oc_20,od_20,.func (PySem.W.fnOf "rights_at" "Stretches.rights_at" (defArgs aas) (defBody aas) (defScope aas) .none kV_20 dc_20 pm_20 an_20 cd_20 ct_20),sl_20⟩)
 (c_20_:PySem.W.codeIn K cd_20 "Stretches.rights_at"=true)
 (k_20_:PySem.W.keepIn K (.ref f_20)=true)
 (a_21_:PySem.W.findIn K (.ref C_Stretches) "is_free"=some (some (.ref f_21)))
 (i_21_:PySem.W.isFn K (.ref f_21)=true)
 (l_21_:K.lookup f_21=some ⟨oc_21,od_21,.func (PySem.W.fnOf "is_free" "Stretches.is_free" (defArgs aax) (defBody aax) (defScope aax) .none kV_21 dc_21 pm_21 an_21 cd_21 ct_21),sl_21⟩)
 (c_21_:PySem.W.codeIn K cd_21 "Stretches.is_free"=true)
 (k_21_:PySem.W.keepIn K (.ref f_21)=true)
 (a_22_:PySem.W.findIn K (.ref C_Stretches) "is_full"=some (some (.ref f_22)))
 (i_22_:PySem.W.isFn K (.ref f_22)=true)
 (l_22_:K.lookup f_22=some ⟨oc_22,od_22,.func (PySem.W.fnOf "is_full" "Stretches.is_full" (defArgs aay) (defBody aay) (defScope aay) .none kV_22 dc_22 pm_22 an_22 cd_22 ct_22),sl_22⟩)
 (c_22_:PySem.W.codeIn K cd_22 "Stretches.is_full"=true)
 (k_22_:PySem.W.keepIn K (.ref f_22)=true)
 (a_23_:PySem.W.findIn K (.ref C_Stretches) "told"=some (some (.ref f_23)))
 (i_23_:PySem.W.isFn K (.ref f_23)=true)
 (l_23_:K.lookup f_23=some ⟨oc_23,od_23,.func (PySem.W.fnOf "told" "Stretches.told" (defArgs aa9) (defBody aa9) (defScope aa9) .none kV_23 dc_23 pm_23 an_23 cd_23 ct_23),sl_23⟩)
 (c_23_:PySem.W.codeIn K cd_23 "Stretches.told"=true)
 (k_23_:PySem.W.keepIn K (.ref f_23)=true)
 (a_24_:PySem.W.findIn K (.ref C_Stretches) "place_behind"=some (some (.ref f_24)))
 (i_24_:PySem.W.isFn K (.ref f_24)=true)
 (l_24_:K.lookup f_24=some ⟨oc_24,od_24,.func (PySem.W.fnOf "place_behind" "Stretches.place_behind" (defArgs aam) (defBody aam) (defScope aam) .none kV_24 dc_24 pm_24 an_24 cd_24 ct_24),sl_24⟩)
 (c_24_:PySem.W.codeIn K cd_24 "Stretches.place_behind"=true)
 (k_24_:PySem.W.keepIn K (.ref f_24)=true)
 (a_25_:PySem.W.findIn K (.ref C_Stretches) "parts_amid"=some (some (.ref f_25)))
 (i_25_:PySem.W.isFn K (.ref f_25)=true)
 (l_25_:K.lookup f_25=some ⟨oc_25,od_25,.func (PySem.W.fnOf "parts_amid" "Stretches.parts_amid" (defArgs aar) (defBody aar) (defScope aar) .none kV_25 dc_25 pm_25 an_25 cd_25 ct_25),sl_25⟩)
 (c_25_:PySem.W.codeIn K cd_25 "Stretches.parts_amid"=true)
 (k_25_:PySem.W.keepIn K (.ref f_25)=true)
 (a_26_:PySem.W.findIn K (.ref C_Stretches) "part_at"=some (some (.ref f_26)))
 (i_26_:PySem.W.isFn K (.ref f_26)=true)
 (l_26_:K.lookup f_26=some ⟨oc_26,od_26,.func (PySem.W.fnOf "part_at" "Stretches.part_at" (defArgs aaz) (defBody aaz) (defScope aaz) .none kV_26 dc_26 pm_26 an_26 cd_26 ct_26),sl_26⟩)
 (c_26_:PySem.W.codeIn K cd_26 "Stretches.part_at"=true)
 (k_26_:PySem.W.keepIn K (.ref f_26)=true)
 (a_27_:PySem.W.findIn K (.ref C_Stretches) "lay_amid"=some (some (.ref f_27)))
 (i_27_:PySem.W.isFn K (.ref f_27)=true)
 (l_27_:K.lookup f_27=some ⟨oc_27,od_27,.func (PySem.W.fnOf "lay_amid" "Stretches.lay_amid" (defArgs aav) (defBody aav) (defScope aav) .none kV_27 dc_27 pm_27 an_27 cd_27 ct_27),sl_27⟩)
 (c_27_:PySem.W.codeIn K cd_27 "Stretches.lay_amid"=true)
 (k_27_:PySem.W.keepIn K (.ref f_27)=true)
 (zt_FrameError:PySem.W.typeIn K (.ref C_FrameError)=some (.type "type"))
 (zl_FrameError:PySem.W.clsIn K C_FrameError=some cd_FrameError)
 (zm_FrameError:PySem.W.mroIn K C_FrameError (.type "BaseException")=some true)
 (ze_BadRights:PySem.W.excIn K C_BadRights mroVE "ValueError.__new__"=true)
 (xg_BadRights:PySem.W.findIn K (.ref C_BadRights) "__getattribute__"=some (some (.builtin "BaseException.__getattribute__")))
 (xq_BadRights:PySem.W.findIn K (.ref C_BadRights) "__getattr__"=some none)
 (xb_BadRights:PySem.W.mroIn K C_BadRights (.type "BaseException")=some true)
 (xh_BadRights:PySem.W.hasDictIn K C_BadRights=true)
 (xa_BadRights:PySem.W.findIn K (.ref C_BadRights) "__class__"=some (some (.builtin "object.__class__")))
 (xn_BadRights:PySem.W.specialIn K (.builtin "object.__class__") "__get__"=some (some (.builtin "getset_descriptor.__get__")))
 (xt_BadRights:PySem.W.takesIn K (.builtin "object.__class__")=some true)
 (xm_BadRights:PySem.W.mroIn K C_BadRights (.type "object")=some true)
 (ze_Taken:PySem.W.excIn K C_Taken mroVE "ValueError.__new__"=true)
 (xg_Taken:PySem.W.findIn K (.ref C_Taken) "__getattribute__"=some (some (.builtin "BaseException.__getattribute__")))
 (xq_Taken:PySem.W.findIn K (.ref C_Taken) "__getattr__"=some none)
 (xb_Taken:PySem.W.mroIn K C_Taken (.type "BaseException")=some true)
 (xh_Taken:PySem.W.hasDictIn K C_Taken=true)
 (xa_Taken:PySem.W.findIn K (.ref C_Taken) "__class__"=some (some (.builtin "object.__class__")))
 (xn_Taken:PySem.W.specialIn K (.builtin "object.__class__") "__get__"=some (some (.builtin "getset_descriptor.__get__")))
 (xt_Taken:PySem.W.takesIn K (.builtin "object.__class__")=some true)
 (xm_Taken:PySem.W.mroIn K C_Taken (.type "object")=some true)
 (ze_NotMapped:PySem.W.excIn K C_NotMapped mroVE "ValueError.__new__"=true)
 (xg_NotMapped:PySem.W.findIn K (.ref C_NotMapped) "__getattribute__"=some (some (.builtin "BaseException.__getattribute__")))
 (xq_NotMapped:PySem.W.findIn K (.ref C_NotMapped) "__getattr__"=some none)
 (xb_NotMapped:PySem.W.mroIn K C_NotMapped (.type "BaseException")=some true)
 (xh_NotMapped:PySem.W.hasDictIn K C_NotMapped=true)
 (xa_NotMapped:PySem.W.findIn K (.ref C_NotMapped) "__class__"=some (some (.builtin "object.__class__")))
 (xn_NotMapped:PySem.W.specialIn K (.builtin "object.__class__") "__get__"=some (some (.builtin "getset_descriptor.__get__")))
 (xt_NotMapped:PySem.W.takesIn K (.builtin "object.__class__")=some true)
 (xm_NotMapped:PySem.W.mroIn K C_NotMapped (.type "object")=some true)
 (zs_BadRights_FrameError:PySem.W.mroIn K C_BadRights (.ref C_FrameError)=some true)
 (zs_Taken_FrameError:PySem.W.mroIn K C_Taken (.ref C_FrameError)=some true)
 (zs_NotMapped_FrameError:PySem.W.mroIn K C_NotMapped (.ref C_FrameError)=some true)
 (zk_BadRights_BadRights:PySem.W.kitOne K (.ref C_BadRights) (.ref C_BadRights)=some true)
 (zk_BadRights_Taken:PySem.W.kitOne K (.ref C_BadRights) (.ref C_Taken)=some false)
 (zk_BadRights_NotMapped:PySem.W.kitOne K (.ref C_BadRights) (.ref C_NotMapped)=some false)
 (zk_BadRights_NoShape:PySem.W.kitOne K (.ref C_BadRights) (.ref C_NoShape)=some false)
 (zk_BadRights_OutOfRoom:PySem.W.kitOne K (.ref C_BadRights) (.ref C_OutOfRoom)=some false)
 (zk_BadRights_NoRight:PySem.W.kitOne K (.ref C_BadRights) (.ref C_NoRight)=some false)
 (zk_Taken_BadRights:PySem.W.kitOne K (.ref C_Taken) (.ref C_BadRights)=some false)
 (zk_Taken_Taken:PySem.W.kitOne K (.ref C_Taken) (.ref C_Taken)=some true)
 (zk_Taken_NotMapped:PySem.W.kitOne K (.ref C_Taken) (.ref C_NotMapped)=some false)
 (zk_Taken_NoShape:PySem.W.kitOne K (.ref C_Taken) (.ref C_NoShape)=some false)
 (zk_Taken_OutOfRoom:PySem.W.kitOne K (.ref C_Taken) (.ref C_OutOfRoom)=some false)
 (zk_Taken_NoRight:PySem.W.kitOne K (.ref C_Taken) (.ref C_NoRight)=some false)
 (zk_NotMapped_BadRights:PySem.W.kitOne K (.ref C_NotMapped) (.ref C_BadRights)=some false)
 (zk_NotMapped_Taken:PySem.W.kitOne K (.ref C_NotMapped) (.ref C_Taken)=some false)
 (zk_NotMapped_NotMapped:PySem.W.kitOne K (.ref C_NotMapped) (.ref C_NotMapped)=some true)
 (zk_NotMapped_NoShape:PySem.W.kitOne K (.ref C_NotMapped) (.ref C_NoShape)=some false)
 (zk_NotMapped_OutOfRoom:PySem.W.kitOne K (.ref C_NotMapped) (.ref C_OutOfRoom)=some false)
 (zk_NotMapped_NoRight:PySem.W.kitOne K (.ref C_NotMapped) (.ref C_NoRight)=some false)
 (zk_BadRights_ValueError:PySem.W.kitOne K (.ref C_BadRights) (.type "ValueError")=some true)
 (zk_Taken_ValueError:PySem.W.kitOne K (.ref C_Taken) (.type "ValueError")=some true)
 (zk_NotMapped_ValueError:PySem.W.kitOne K (.ref C_NotMapped) (.type "ValueError")=some true)
 (a_28_:PySem.W.nsIn K mainGlobals "law"=some (some (.ref f_28)))
 (l_28_:K.lookup f_28=some ⟨oc_28,od_28,.func (PySem.W.fnOf "law" "law" (defArgs aga) (defBody aga) (defScope aga) .none kV_28 dc_28 pm_28 an_28 cd_28 ct_28),sl_28⟩)
 (c_28_:PySem.W.codeIn K cd_28 "law"=true)
 (k_28_:PySem.W.keepIn K (.ref f_28)=true)
 :∃A:Adr,Txt K mg A:=⟨⟨C_Stretches,C_FrameError,C_BadRights,C_Taken,C_NotMapped,C_NoShape,C_OutOfRoom,C_NoRight⟩,{
  b_ValueError:=PySem.W.mg_none_of X G zb_ValueError
  b_bool:=PySem.W.mg_none_of X G zb_bool
  b_int:=PySem.W.mg_none_of X G zb_int
  b_isinstance:=PySem.W.mg_none_of X G zb_isinstance
  b_len:=PySem.W.mg_none_of X G zb_len
  b_list:=PySem.W.mg_none_of X G zb_list
  b_max:=PySem.W.mg_none_of X G zb_max
  b_min:=PySem.W.mg_none_of X G zb_min
  b_sum:=PySem.W.mg_none_of X G zb_sum
  c_MOST_RIGHTS:=⟨_,PySem.W.mg_of X G zc_MOST_RIGHTS,⟨_,rfl⟩⟩
  r_is_whole:=⟨_,_,_,PySem.W.mg_of X G a_0_,aal (st:=abt) l_0_ c_0_ k_0_,(aal (st:=abt) l_0_ c_0_ k_0_).binds (ps:=["thing"]) fun _ _ _ _ _ _=>el1 (fun _=>rfl),.nil⟩
  r_is_within:=⟨_,_,_,PySem.W.mg_of X G a_1_,aal (st:=abo) l_1_ c_1_ k_1_,(aal (st:=abo) l_1_ c_1_ k_1_).binds (ps:=["thing","low","high"]) fun _ _ _ _ _ _=>el3 (fun _ _ _=>rfl),.nil⟩
  r_check_rights:=⟨_,_,_,PySem.W.mg_of X G a_2_,aal (st:=abf) l_2_ c_2_ k_2_,(aal (st:=abf) l_2_ c_2_ k_2_).binds (ps:=["rights"]) fun _ _ _ _ _ _=>el1 (fun _=>rfl),.nil⟩
  r_end_of:=⟨_,_,_,PySem.W.mg_of X G a_3_,aal (st:=ace) l_3_ c_3_ k_3_,(aal (st:=ace) l_3_ c_3_ k_3_).binds (ps:=["run"]) fun _ _ _ _ _ _=>el1 (fun _=>rfl),.nil⟩
  r_tie_from:=⟨_,_,_,PySem.W.mg_of X G a_4_,aal (st:=abu) l_4_ c_4_ k_4_,(aal (st:=abu) l_4_ c_4_ k_4_).binds (ps:=["run","page"]) fun _ _ _ _ _ _=>el2 (fun _ _=>rfl),.nil⟩
  r_part_of:=⟨_,_,_,PySem.W.mg_of X G a_5_,aal (st:=ab4) l_5_ c_5_ k_5_,(aal (st:=ab4) l_5_ c_5_ k_5_).binds (ps:=["run","low","high"]) fun _ _ _ _ _ _=>el3 (fun _ _ _=>rfl),.nil⟩
  r_goes_on:=⟨_,_,_,PySem.W.mg_of X G a_6_,aal (st:=ab5) l_6_ c_6_ k_6_,(aal (st:=ab5) l_6_ c_6_ k_6_).binds (ps:=["run","later"]) fun _ _ _ _ _ _=>el2 (fun _ _=>rfl),.nil⟩
  r_joined:=⟨_,_,_,PySem.W.mg_of X G a_7_,aal (st:=acf) l_7_ c_7_ k_7_,(aal (st:=acf) l_7_ c_7_ k_7_).binds (ps:=["runs"]) fun _ _ _ _ _ _=>el1 (fun _=>rfl),.nil⟩
  r_l_cell_at:=⟨_,_,_,PySem.W.mg_of X G a_8_,aal (st:=abp) l_8_ c_8_ k_8_,(aal (st:=abp) l_8_ c_8_ k_8_).binds (ps:=["_law_script","_law_k"]) fun _ _ _ _ _ _=>el2 (fun _ _=>rfl),.nil⟩
  r_l_number:=⟨_,_,_,PySem.W.mg_of X G a_9_,aal (st:=abv) l_9_ c_9_ k_9_,(aal (st:=abv) l_9_ c_9_ k_9_).binds (ps:=["_law_cell"]) fun _ _ _ _ _ _=>el1 (fun _=>rfl),.nil⟩
  r_l_bad:=⟨_,_,_,PySem.W.mg_of X G a_10_,aal (st:=acz) l_10_ c_10_ k_10_,(aal (st:=acz) l_10_ c_10_ k_10_).binds (ps:=["_law_cell"]) fun _ _ _ _ _ _=>el1 (fun _=>rfl),.nil⟩
  r_l_tried:=⟨_,_,_,PySem.W.mg_of X G a_11_,aal (st:=ab6) l_11_ c_11_ k_11_,(aal (st:=ab6) l_11_ c_11_ k_11_).binds (ps:=["_law_some","_law_deed_here"]) fun _ _ _ _ _ _=>el2 (fun _ _=>rfl),.nil⟩
  r_l_deed:=⟨_,_,_,PySem.W.mg_of X G a_12_,aal (st:=ach) l_12_ c_12_ k_12_,(aal (st:=ach) l_12_ c_12_ k_12_).binds (ps:=["_law_cell","_law_first","_law_many","_law_gap","_law_more"]) fun _ _ _ _ _ _=>el5 (fun _ _ _ _ _=>rfl),.nil⟩
  r_l_due:=⟨_,_,_,PySem.W.mg_of X G a_13_,aal (st:=ac0) l_13_ c_13_ k_13_,(aal (st:=ac0) l_13_ c_13_ k_13_).binds (ps:=["_law_cell"]) fun _ _ _ _ _ _=>el1 (fun _=>rfl),.nil⟩
  r_l_told:=⟨_,_,_,PySem.W.mg_of X G a_14_,aal (st:=aci) l_14_ c_14_ k_14_,(aal (st:=aci) l_14_ c_14_ k_14_).binds (ps:=["_law_some","_law_due_here"]) fun _ _ _ _ _ _=>el2 (fun _ _=>rfl),.nil⟩
  cl_Stretches:=⟨pg_Stretches,hd_Stretches,po_Stretches,sa_Stretches⟩
  na_Stretches_runs:=zn_Stretches_runs
  r_Stretches_init:=⟨_,_,_,PySem.W.mg_of X G a_Stretches,⟨mk_Stretches,a_15_,i_15_,kc_Stretches⟩,aal (st:=aa8) l_15_ c_15_ k_15_,(aal (st:=aa8) l_15_ c_15_ k_15_).binds (ps:=["self"]) fun _ _ _ _ _ _=>el1 (fun _=>rfl),.nil⟩
  r_Stretches_put:=⟨_,_,_,⟨a_16_,i_16_,k_16_⟩,aii (st:=aa1) l_16_ c_16_ k_16_,(aij 5 rfl fun _ us X_ hl=>match us,hl with|[_,_,_,_,_],_=>BindsTo.of_defaults rfl (X_ _ _ u_16_) rfl rfl rfl),.nil⟩
  r1_Stretches_put:=⟨_,_,_,⟨a_16_,i_16_,k_16_⟩,aii (st:=aa1) l_16_ c_16_ k_16_,(aij 4 rfl fun _ us X_ hl=>match us,hl with|[_,_,_,_],_=>BindsTo.of_defaults rfl (X_ _ _ u_16_) rfl rfl rfl),.cons rfl (.nil)⟩
  r_Stretches_cut:=⟨_,_,_,⟨a_17_,i_17_,k_17_⟩,aal (st:=abb) l_17_ c_17_ k_17_,(aal (st:=abb) l_17_ c_17_ k_17_).binds (ps:=["self","first","many"]) fun _ _ _ _ _ _=>el3 (fun _ _ _=>rfl),.nil⟩
  r_Stretches_guard:=⟨_,_,_,⟨a_18_,i_18_,k_18_⟩,aal (st:=aa4) l_18_ c_18_ k_18_,(aal (st:=aa4) l_18_ c_18_ k_18_).binds (ps:=["self","first","many","rights"]) fun _ _ _ _ _ _=>el4 (fun _ _ _ _=>rfl),.nil⟩
  r_Stretches_check_full:=⟨_,_,_,⟨a_19_,i_19_,k_19_⟩,aal (st:=aaq) l_19_ c_19_ k_19_,(aal (st:=aaq) l_19_ c_19_ k_19_).binds (ps:=["self","first","many"]) fun _ _ _ _ _ _=>el3 (fun _ _ _=>rfl),.nil⟩
  r_Stretches_rights_at:=⟨_,_,_,⟨a_20_,i_20_,k_20_⟩,aal (st:=aas) l_20_ c_20_ k_20_,(aal (st:=aas) l_20_ c_20_ k_20_).binds (ps:=["self","page"]) fun _ _ _ _ _ _=>el2 (fun _ _=>rfl),.nil⟩
  r_Stretches_is_free:=⟨_,_,_,⟨a_21_,i_21_,k_21_⟩,aal (st:=aax) l_21_ c_21_ k_21_,(aal (st:=aax) l_21_ c_21_ k_21_).binds (ps:=["self","first","many"]) fun _ _ _ _ _ _=>el3 (fun _ _ _=>rfl),.nil⟩
  r_Stretches_is_full:=⟨_,_,_,⟨a_22_,i_22_,k_22_⟩,aal (st:=aay) l_22_ c_22_ k_22_,(aal (st:=aay) l_22_ c_22_ k_22_).binds (ps:=["self","first","many"]) fun _ _ _ _ _ _=>el3 (fun _ _ _=>rfl),.nil⟩
  r_Stretches_told:=⟨_,_,_,⟨a_23_,i_23_,k_23_⟩,aal (st:=aa9) l_23_ c_23_ k_23_,(aal (st:=aa9) l_23_ c_23_ k_23_).binds (ps:=["self"]) fun _ _ _ _ _ _=>el1 (fun _=>rfl),.nil⟩
  r_Stretches_place_behind:=⟨_,_,_,⟨a_24_,i_24_,k_24_⟩,aal (st:=aam) l_24_ c_24_ k_24_,(aal (st:=aam) l_24_ c_24_ k_24_).binds (ps:=["self","page"]) fun _ _ _ _ _ _=>el2 (fun _ _=>rfl),.nil⟩
  r_Stretches_parts_amid:=⟨_,_,_,⟨a_25_,i_25_,k_25_⟩,aal (st:=aar) l_25_ c_25_ k_25_,(aal (st:=aar) l_25_ c_25_ k_25_).binds (ps:=["self","first","many"]) fun _ _ _ _ _ _=>el3 (fun _ _ _=>rfl),.nil⟩
  r_Stretches_part_at:=⟨_,_,_,⟨a_26_,i_26_,k_26_⟩,aal (st:=aaz) l_26_ c_26_ k_26_,(aal (st:=aaz) l_26_ c_26_ k_26_).binds (ps:=["self","page"]) fun _ _ _ _ _ _=>el2 (fun _ _=>rfl),.nil⟩
  r_Stretches_lay_amid:=⟨_,_,_,⟨a_27_,i_27_,k_27_⟩,aal (st:=aav) l_27_ c_27_ k_27_,(aal (st:=aav) l_27_ c_27_ k_27_).binds (ps:=["self","first","many","parts"]) fun _ _ _ _ _ _=>el4 (fun _ _ _ _=>rfl),.nil⟩
  m_FrameError:=⟨_,PySem.W.mg_of X G a_FrameError,rfl⟩
  h_FrameError:=⟨PySem.W.mg_of X G a_FrameError,zt_FrameError,⟨_,zl_FrameError⟩,zm_FrameError⟩
  m_BadRights:=⟨_,PySem.W.mg_of X G a_BadRights,rfl⟩
  x_BadRights:=⟨PySem.W.mg_of X G a_BadRights,ze_BadRights⟩
  xi_BadRights:=⟨xg_BadRights,xq_BadRights,xb_BadRights,xh_BadRights,xa_BadRights,xn_BadRights,xt_BadRights,xm_BadRights⟩
  m_Taken:=⟨_,PySem.W.mg_of X G a_Taken,rfl⟩
  x_Taken:=⟨PySem.W.mg_of X G a_Taken,ze_Taken⟩
  xi_Taken:=⟨xg_Taken,xq_Taken,xb_Taken,xh_Taken,xa_Taken,xn_Taken,xt_Taken,xm_Taken⟩
  m_NotMapped:=⟨_,PySem.W.mg_of X G a_NotMapped,rfl⟩
  x_NotMapped:=⟨PySem.W.mg_of X G a_NotMapped,ze_NotMapped⟩
  xi_NotMapped:=⟨xg_NotMapped,xq_NotMapped,xb_NotMapped,xh_NotMapped,xa_NotMapped,xn_NotMapped,xt_NotMapped,xm_NotMapped⟩
  m_NoShape:=⟨_,PySem.W.mg_of X G a_NoShape,rfl⟩
  m_OutOfRoom:=⟨_,PySem.W.mg_of X G a_OutOfRoom,rfl⟩
  m_NoRight:=⟨_,PySem.W.mg_of X G a_NoRight,rfl⟩
  sub_BadRights_FrameError:=zs_BadRights_FrameError
  sub_Taken_FrameError:=zs_Taken_FrameError
  sub_NotMapped_FrameError:=zs_NotMapped_FrameError
  kit_BadRights_BadRights:=zk_BadRights_BadRights
  kit_BadRights_Taken:=zk_BadRights_Taken
  kit_BadRights_NotMapped:=zk_BadRights_NotMapped
  kit_BadRights_NoShape:=zk_BadRights_NoShape
  kit_BadRights_OutOfRoom:=zk_BadRights_OutOfRoom
  kit_BadRights_NoRight:=zk_BadRights_NoRight
  kit_Taken_BadRights:=zk_Taken_BadRights
  kit_Taken_Taken:=zk_Taken_Taken
  kit_Taken_NotMapped:=zk_Taken_NotMapped
  kit_Taken_NoShape:=zk_Taken_NoShape
  kit_Taken_OutOfRoom:=zk_Taken_OutOfRoom
  kit_Taken_NoRight:=zk_Taken_NoRight
  kit_NotMapped_BadRights:=zk_NotMapped_BadRights
  kit_NotMapped_Taken:=zk_NotMapped_Taken
  kit_NotMapped_NotMapped:=zk_NotMapped_NotMapped
  kit_NotMapped_NoShape:=zk_NotMapped_NoShape
  kit_NotMapped_OutOfRoom:=zk_NotMapped_OutOfRoom
  kit_NotMapped_NoRight:=zk_NotMapped_NoRight
  kit_BadRights_ValueError:=zk_BadRights_ValueError
  kit_Taken_ValueError:=zk_Taken_ValueError
  kit_NotMapped_ValueError:=zk_NotMapped_ValueError
  r_law:=⟨_,_,PySem.W.mg_of X G a_28_,aal (st:=aga) l_28_ c_28_ k_28_,fun _ _=>.of_eq rfl⟩
 }⟩
section
variable {P:Program} {w:World} {K:PySem.W.Frag} {mg:Str→Option Value} {base:Heap} {A:Adr}
noncomputable def sp_is_whole:Sp:=fun vs H Q _=>∃x,vs=[x]∧Kn H x∧Q (.bl (whole x)) H
theorem ahh (T:Txt K mg A):Have P w K mg base "is_whole" 1 ["thing"] [] sp_is_whole:=by
 refine T.r_is_whole.have af8 (fun vs H Q E z=>?_) ?_
 ·obtain⟨x,rfl,_⟩:=z;rfl
 ·intro f cdv A' outer s H vs Q E hr z
  obtain⟨x,rfl,hk,q⟩:=z
  refine⟨_,(aah (aa2 (ae9 (abc aeu rfl T.b_isinstance PyProof.Rows.boot_isinstance (aaa (pvM 0) (aaa (adx (n:="int") rfl T.b_int PyProof.Rows.boot_int) aac))) (agf (pe_not (abc aeu rfl T.b_isinstance PyProof.Rows.boot_isinstance (aaa (pvM 0) (aaa (adx (n:="bool") rfl T.b_bool PyProof.Rows.boot_bool) aac)))))))),?_⟩
  walk_at "wp"
  rw[←ag9 hk] at q
  refine⟨by decide,hk,?_⟩
  cases e:isTy "int" H x with
  |true=>rw[e] at q;exact iteT ⟨by decide,hk,q⟩
  |false=>rw[e] at q;exact iteF q
noncomputable def sp_is_within:Sp:=fun vs H Q _=>∃x l h,vs=[x,.int l,.int h]∧Kn H x∧Q (.bl (within x l h)) H
theorem agb (T:Txt K mg A):Have P w K mg base "is_within" 2 ["thing","low","high"] [] sp_is_within:=by
 have H_is_whole:=ahh (P:=P) (w:=w) (base:=base) T
 refine T.r_is_within.have afp (fun vs H Q E z=>?_) ?_
 ·obtain⟨x,l,h,rfl,_⟩:=z;rfl
 ·intro f cdv A' outer s H vs Q E hr z
  obtain⟨x,l,h,rfl,hk,q⟩:=z
  refine⟨_,(aah (aa2 (ae9 (aai H_is_whole (hr.mono (by decide)) aaj (aaa (pvM 0) aac)) (agf (ajb op_le op_le (pvM 1) (pvM 0) (pvM 2)))))),?_⟩
  unfold sp_is_whole
  walk_at "wp"
  refine⟨hk,?_⟩
  cases x with
  |int i=>
   refine iteT ⟨i,rfl,?_⟩
   rw[ab9] at q
   by_cases c:l≤i
   ·rw[decide_eq_true c] at q
    rw[if_pos c]
    exact⟨i,rfl,q⟩
   ·rw[decide_eq_false c] at q
    rw[if_neg c]
    exact q
  |_=>exact iteF q
noncomputable def ac1 (K:PySem.W.Frag) (a:Addr) (ns:List Int):Sp:=fun vs H Q _=>∃(k:Int),vs=[.ref a,.int k]∧SqL K H a (ns.map V.int)∧0≤k∧Q (.int (ns.getD k.toNat 0)) H
theorem h_cell (T:Txt K mg A) (a:Addr) (ns:List Int):Have P w K mg base "_law_cell_at" 1 ["_law_script","_law_k"] [] (ac1 K a ns):=by
 refine T.r_l_cell_at.have afq (fun vs H Q E z=>?_) ?_
 ·obtain⟨k,rfl,_⟩:=z;rfl
 ·intro f cdv A' outer s H vs Q E hr z
  obtain⟨k,rfl,hs,hk,q⟩:=z
  refine⟨_,(aak (ab2 (aa5 afb (pvM 1) (abc ac5 rfl T.b_len PySem.boot_len (aaa (pvM 0) aac)) (nomark _)) (aah (aa2 (aa0 abn (pvM 0) (pvM 1) (fun _ _=>rfl)))) abg)
   (aah (aa2 aad))),?_⟩
  walk_at "wp"
  refine⟨ns.length,.inl ⟨_,hs,by simp⟩,?_⟩
  by_cases c:k < (ns.length:Int)
  ·rw[if_pos c]
   refine⟨_,hs,.int (ns.getD k.toNat 0),?_,q⟩
   have hlt:k.toNat < ns.length:=by omega
   have e:atI (ns.map V.int) ((k.toNat:Nat):Int)=some (.int (ns.getD k.toNat 0)):=aag (by simp[hlt])
   rw[show ((k.toNat:Nat):Int)=k by omega] at e
   exact e
  ·rw[if_neg c]
   have hge:ns.length≤k.toNat:=by omega
   rw[show ns.getD k.toNat 0=0 by simp[List.getD,hge]] at q
   exact q
theorem abw {H H':Hp} {t:Addr} {o:HO} (s:Same H H') (h:H t=none):Same H (upd H' t o):=fun b u e=>by
 rw[aaw (aau e h)];exact s b u e
theorem aip {H H':Hp} {p:Addr} (s:Same H H') (h:H' p=none):H p=none:=by
 cases e:H p with
 |none=>rfl
 |some o=>rw[s p o e] at h;cases h
structure Rn where
 f:Int
 m:Int
 r:Int
 t:Option (Int×Int)
 deriving DecidableEq
noncomputable def enR (r:Rn):Int:=r.f+r.m
noncomputable def tf (r:Rn) (p:Int):Option (Int×Int):=r.t.map fun t=>(t.1,t.2+p - r.f)
noncomputable def poR (r:Rn) (lo hi:Int):Rn:=⟨max r.f lo,min (enR r) hi - max r.f lo,r.r,tf r (max r.f lo)⟩
noncomputable def go (r s:Rn):Bool:=decide (enR r=s.f)&&decide (r.r=s.r)&&decide (tf r s.f=s.t)
noncomputable def jstep (acc:List Rn) (r:Rn):List Rn:=
 match acc.getLast? with
 |none=>acc++[r]
 |some l=>if go l r=true then acc.dropLast++[⟨l.f,l.m+r.m,l.r,l.t⟩] else acc++[r]
noncomputable def jn (rs:List Rn):List Rn:=rs.foldl jstep []
noncomputable def pb (rs:List Rn) (p:Int):Nat:=(rs.takeWhile fun r=>decide (enR r≤p)).length
noncomputable def cutR (rs:List Rn) (lo hi:Nat):List Rn:=(rs.take hi).drop lo
noncomputable def pam (rs:List Rn) (a n:Int):List Rn:=((cutR rs (pb rs a) (pb rs (a+n)+1)).filter fun r=>decide (r.f < a+n)).map fun r=>poR r a (a+n)
noncomputable def layR (rs:List Rn) (a n:Int) (parts:List Rn):List Rn:=
 let near:=cutR rs (pb rs (a - 1)) (pb rs (a+n)+1)
 rs.take (pb rs (a - 1))++jn ((near.filter fun r=>decide (r.f < a)).map (fun r=>poR r r.f a)++parts++(near.filter fun r=>decide (enR r > a+n)).map (fun r=>poR r (a+n) (enR r)))++rs.drop (pb rs (a+n)+1)
noncomputable def pm:List Rn→Int→Option (Int×Option (Int×Int))
 |[],_=>none
 |r::rs,p=>if r.f≤p∧p < enR r then some (r.r,tf r p) else pm rs p
noncomputable def OrdR (rs:List Rn):Prop:=rs.Pairwise (fun a b=>enR a≤b.f)∧∀r∈rs,0 < r.m
noncomputable def LstR:List Rn→Prop
 |[]=>True
 |[_]=>True
 |a::b::r=>go a b=false∧LstR (b::r)
theorem OrdR.tail {r:Rn} {rs:List Rn} (h:OrdR (r::rs)):OrdR rs:=⟨(List.pairwise_cons.mp h.1).2,fun x hx=>h.2 x (List.mem_cons_of_mem _ hx)⟩
theorem OrdR.head {r:Rn} {rs:List Rn} (h:OrdR (r::rs)):∀s∈rs,enR r≤s.f:=(List.pairwise_cons.mp h.1).1
theorem LstR.tail {r:Rn} {rs:List Rn} (h:LstR (r::rs)):LstR rs:=by
 cases rs with
 |nil=>exact True.intro
 |cons s rs=>exact h.2
theorem aex {p:Int}:∀{rs:List Rn},(∀r∈rs,¬(r.f≤p∧p < enR r))→pm rs p=none
 |[],_=>rfl
 |r::rs,h=>by
  unfold pm
  rw[if_neg (h r List.mem_cons_self)]
  exact aex fun s hs=>h s (List.mem_cons_of_mem _ hs)
theorem acj {p:Int} {rs:List Rn} (h:∀r∈rs,p < r.f):pm rs p=none:=aex fun r hr z=>by have:=h r hr;omega
theorem agq {p:Int} {rs:List Rn} (h:∀r∈rs,enR r≤p):pm rs p=none:=aex fun r hr z=>by have:=h r hr;omega
theorem adt {p:Int}:∀{rs:List Rn} {r:Rn},OrdR rs→r∈rs→r.f≤p→p < enR r→pm rs p=some (r.r,tf r p)
 |[],_,_,h,_,_=>by cases h
 |s::rs,r,o,h,h1,h2=>by
  unfold pm
  rcases List.mem_cons.mp h with rfl|h
  ·rw[if_pos ⟨h1,h2⟩]
  ·have:=o.head r h
   rw[if_neg (by omega)]
   exact adt o.tail h h1 h2
theorem aiq {p:Int} {x:Int×Option (Int×Int)}:∀{rs:List Rn},pm rs p=some x→∃r∈rs,r.f≤p∧p < enR r∧x=(r.r,tf r p)
 |[],h=>by cases h
 |s::rs,h=>by
  unfold pm at h
  by_cases c:s.f≤p∧p < enR s
  ·rw[if_pos c] at h
   exact⟨s,List.mem_cons_self,c.1,c.2,(Option.some.inj h).symm⟩
  ·rw[if_neg c] at h
   obtain⟨r,h1,h2⟩:=aiq h
   exact⟨r,List.mem_cons_of_mem _ h1,h2⟩
theorem abe {p:Int}:∀{rs ss:List Rn},pm (rs++ss) p=(pm rs p).or (pm ss p)
 |[],ss=>by rw[List.nil_append];rfl
 |r::rs,ss=>by
  show (if r.f≤p∧p < enR r then some (r.r,tf r p) else pm (rs++ss) p)=(if r.f≤p∧p < enR r then some (r.r,tf r p) else pm rs p).or (pm ss p)
  by_cases c:r.f≤p∧p < enR r
  ·rw[if_pos c,if_pos c];rfl
  ·rw[if_neg c,if_neg c];exact abe
theorem air {r:Rn}:tf r r.f=r.t:=by
 unfold tf
 cases r.t with
 |none=>rfl
 |some t=>simp
theorem aey {r:Rn} {p q:Int} {m x:Int}:tf ⟨p,m,x,tf r p⟩ q=tf r q:=by
 unfold tf
 cases r.t with
 |none=>rfl
 |some t=>simp;omega
theorem afs:∀{rs ss:List Rn},OrdR rs→OrdR ss→LstR rs→LstR ss→(∀p,pm rs p=pm ss p)→rs=ss
 |[],[],_,_,_,_,_=>rfl
 |[],b::ss,_,o2,_,_,h=>by
  have hb:=o2.2 b List.mem_cons_self
  have:=h b.f
  rw[adt o2 List.mem_cons_self (Int.le_refl _) (by unfold enR;omega)] at this
  cases this
 |a::rs,[],o1,_,_,_,h=>by
  have hb:=o1.2 a List.mem_cons_self
  have:=h a.f
  rw[adt o1 List.mem_cons_self (Int.le_refl _) (by unfold enR;omega)] at this
  cases this
 |a::rs,b::ss,o1,o2,l1,l2,h=>by
  have pa:=o1.2 a List.mem_cons_self
  have pb':=o2.2 b List.mem_cons_self
  have ha:=adt o1 (p:=a.f) List.mem_cons_self (Int.le_refl _) (by unfold enR;omega)
  have hb:=adt o2 (p:=b.f) List.mem_cons_self (Int.le_refl _) (by unfold enR;omega)
  have first:∀{x y:Rn} {xs ys:List Rn},OrdR (x::xs)→OrdR (y::ys)→(∀p,pm (x::xs) p=pm (y::ys) p)→¬x.f < y.f:=by
   intro x y xs ys ox oy hh hlt
   have px:=ox.2 x List.mem_cons_self
   have e1:=adt ox (p:=x.f) List.mem_cons_self (Int.le_refl _) (by unfold enR;omega)
   rw[hh,acj (fun r hr=>by
    rcases List.mem_cons.mp hr with rfl|hr
    ·exact hlt
    ·have:=oy.head r hr;have:=oy.2 y List.mem_cons_self;unfold enR at *; omega)] at e1
   cases e1
  have ef:a.f=b.f:=by
   have h1:=first o1 o2 h
   have h2:=first o2 o1 fun p=>(h p).symm
   omega
  have e0:=h a.f
  rw[ha,ef,hb] at e0
  have e1:=Option.some.inj e0
  have er:a.r=b.r:=congrArg Prod.fst e1
  have et:a.t=b.t:=by
   have:=congrArg Prod.snd e1
   simp only at this
   rw[←ef,air,ef,air] at this
   exact this
  have etf:∀p,tf a p=tf b p:=fun p=>by unfold tf;rw[et,ef]
  have nlt:∀{x y:Rn} {xs ys:List Rn},OrdR (x::xs)→OrdR (y::ys)→LstR (x::xs)→(∀p,pm (x::xs) p=pm (y::ys) p)→x.f=y.f→x.r=y.r→(∀p,tf x p=tf y p)→¬enR x < enR y:=by
   intro x y xs ys ox oy lx hh efx erx etx hlt
   have px:=ox.2 x List.mem_cons_self
   have e1:=adt oy (p:=enR x) List.mem_cons_self (by unfold enR at *; omega) hlt
   rw[←hh] at e1
   obtain⟨s,hs,h1,h2,h3⟩:=aiq e1
   rcases List.mem_cons.mp hs with rfl|hs
   ·omega
   ·cases xs with
    |nil=>cases hs
    |cons z zs=>
     have g:=lx.1
     have hz:=ox.head z List.mem_cons_self
     rcases List.mem_cons.mp hs with rfl|hs
     ·have hsf:enR x=s.f:=by omega
      unfold go at g
      rw[decide_eq_true hsf] at g
      have h4:=Prod.mk.inj h3
      rw[decide_eq_true (show x.r=s.r by rw[erx,h4.1])] at g
      rw[decide_eq_true (show tf x s.f=s.t by rw[etx,←hsf,h4.2,hsf,air])] at g
      cases g
     ·have:=ox.tail.head s hs
      have:=ox.2 z (by simp)
      unfold enR at *
      omega
  have ee:enR a=enR b:=by
   have h1:=nlt o1 o2 l1 h ef er etf
   have h2:=nlt o2 o1 l2 (fun p=>(h p).symm) ef.symm er.symm fun p=>(etf p).symm
   omega
  have eab:a=b:=by
   cases a;cases b
   simp only[enR] at *
   simp only[Rn.mk.injEq]
   exact⟨ef,by omega,er,et⟩
  subst eab
  refine congrArg (a::·) (afs o1.tail o2.tail l1.tail l2.tail fun p=>?_)
  by_cases c:p < enR a
  ·rw[acj fun r hr=>by have:=o1.head r hr;omega,acj fun r hr=>by have:=o2.head r hr;omega]
  ·have:=h p
   unfold pm at this
   rw[if_neg (by omega),if_neg (by omega)] at this
   exact this
noncomputable def sHd (a b:Rn):Prop:=a.f=b.f∧a.r=b.r∧a.t=b.t
noncomputable def sLs (a b:Rn):Prop:=enR a=enR b∧a.r=b.r∧∀p,tf a p=tf b p
theorem ak1 {l a b:Rn} (h:sHd a b):go l a=go l b:=by unfold go;rw[h.1,h.2.1,h.2.2]
theorem go_ls {l a b:Rn} (h:sLs a b):go a l=go b l:=by unfold go;rw[h.1,h.2.1,h.2.2]
theorem aez:∀{xs ys:List Rn},LstR xs→LstR ys→(∀a b,xs.getLast?=some a→ys.head?=some b→go a b=false)→LstR (xs++ys)
 |[],ys,_,h,_=>h
 |[a],[],h,_,_=>h
 |[a],b::ys,_,h,g=>⟨g a b rfl rfl,h⟩
 |a::b::xs,ys,h,h2,g=>⟨h.1,aez (xs:=b::xs) h.2 h2 fun x y e1 e2=>g x y (by rw[List.getLast?_cons_cons];exact e1) e2⟩
theorem agr:∀{xs ys:List Rn},LstR (xs++ys)→LstR xs
 |[],_,_=>True.intro
 |[a],_,_=>True.intro
 |a::b::xs,ys,h=>⟨h.1,agr (xs:=b::xs) (ys:=ys) h.2⟩
theorem ada:∀{xs ys:List Rn},LstR (xs++ys)→LstR ys
 |[],_,h=>h
 |a::xs,ys,h=>ada (xs:=xs) (LstR.tail (r:=a) h)
theorem ae0:∀{xs ys:List Rn} {a b:Rn},LstR (xs++ys)→xs.getLast?=some a→ys.head?=some b→go a b=false
 |[],_,_,_,_,h,_=>by cases h
 |[x],[],_,_,_,_,h=>by cases h
 |[x],y::ys,a,b,h,h1,h2=>by
  cases h1;cases h2;exact h.1
 |x::z::xs,ys,a,b,h,h1,h2=>ae0 (xs:=z::xs) h.2 (by rw[List.getLast?_cons_cons] at h1;exact h1) h2
theorem ags:∀{xs:List Rn} {a b:Rn},sHd a b→LstR (xs++[b])→LstR (xs++[a])
 |[],_,_,_,_=>True.intro
 |[x],a,b,h,l=>⟨by rw[ak1 h];exact l.1,True.intro⟩
 |x::z::xs,a,b,h,l=>⟨l.1,ags (xs:=z::xs) h l.2⟩
theorem ado {xs ys:List Rn} (h1:OrdR xs) (h2:OrdR ys) (h:∀x∈xs,∀y∈ys,enR x≤y.f):OrdR (xs++ys):=
 ⟨List.pairwise_append.mpr ⟨h1.1,h2.1,h⟩,fun r hr=>(List.mem_append.mp hr).elim (h1.2 r) (h2.2 r)⟩
theorem adb {xs ys:List Rn} (h:OrdR (xs++ys)):OrdR xs:=⟨(List.pairwise_append.mp h.1).1,fun r hr=>h.2 r (List.mem_append_left _ hr)⟩
theorem abm {xs ys:List Rn} (h:OrdR (xs++ys)):OrdR ys:=⟨(List.pairwise_append.mp h.1).2.1,fun r hr=>h.2 r (List.mem_append_right _ hr)⟩
theorem ack {xs ys:List Rn} (h:OrdR (xs++ys)):∀x∈xs,∀y∈ys,enR x≤y.f:=(List.pairwise_append.mp h.1).2.2
theorem aea {r:Rn} (h:0 < r.m):OrdR [r]:=⟨by simp,fun x hx=>by rw[List.mem_singleton.mp hx];exact h⟩
structure Jn (c acc:List Rn):Prop where
 ord:OrdR acc
 lst:LstR acc
 pg:∀p,pm acc p=pm c p
 hd:∀b,c.head?=some b→∃a,acc.head?=some a∧sHd a b
 ls:∀b,c.getLast?=some b→∃a,acc.getLast?=some a∧sLs a b
 lo:∀z,(∀y∈c,z≤y.f)→∀x∈acc,z≤x.f
 hi:∀z,(∀y∈c,enR y≤z)→∀x∈acc,enR x≤z
 no:c=[]→acc=[]
theorem ae1 {α:Type}:∀{l:List α} {a:α},l.getLast?=some a→∃i,l=i++[a]
 |[],_,h=>by cases h
 |[x],a,h=>⟨[],by cases h;rfl⟩
 |x::y::l,a,h=>by
  rw[List.getLast?_cons_cons] at h
  obtain⟨i,e⟩:=ae1 h
  exact⟨x::i,by rw[e];rfl⟩
theorem Jn.step {c acc:List Rn} {r:Rn} (J:Jn c acc) (o:OrdR (c++[r])):Jn (c++[r]) (jstep acc r):=by
 have hr:0 < r.m:=o.2 r (List.mem_append_right _ List.mem_cons_self)
 have hcr:∀y∈c,enR y≤r.f:=fun y hy=>ack o y hy r List.mem_cons_self
 rcases hc:c.getLast? with _|d
 ·have:c=[]:=List.getLast?_eq_none_iff.mp hc
  subst this
  have:=J.no rfl
  subst this
  exact⟨aea hr,True.intro,fun _=>rfl,fun b h=>⟨r,rfl,by cases h;exact⟨rfl,rfl,rfl⟩⟩,fun b h=>⟨r,rfl,by cases h;exact⟨rfl,rfl,fun _=>rfl⟩⟩,fun z h=>h,fun z h=>h,fun h=>by cases h⟩
 ·obtain⟨l,hl,sl⟩:=J.ls d hc
  obtain⟨i,rfl⟩:=ae1 hl
  have hcne:c≠[]:=fun e=>by rw[e] at hc;cases hc
  have hlr:enR l≤r.f:=J.hi r.f hcr l (by simp)
  have hil:∀x∈i,enR x≤l.f:=fun x hx=>ack J.ord x hx l List.mem_cons_self
  have hlm:0 < l.m:=J.ord.2 l (by simp)
  have hhd:∀{b:Rn} {x:List Rn},(c++x).head?=some b→c.head?=some b:=fun {b x} h=>by
   cases c with
   |nil=>exact absurd rfl hcne
   |cons y c=>exact h
  unfold jstep
  rw[hl]
  show Jn (c++[r]) (if go l r=true then (i++[l]).dropLast++[⟨l.f,l.m+r.m,l.r,l.t⟩] else (i++[l])++[r])
  cases g:go l r with
  |true=>
   rw[if_pos rfl,List.dropLast_concat]
   unfold go at g
   simp only[Bool.and_eq_true,decide_eq_true_eq] at g
   obtain⟨⟨g1,g2⟩,g3⟩:=g
   have etf:∀p,tf r p=tf l p:=fun p=>by
    unfold tf at g3 ⊢
    rw[←g3]
    cases l.t with
    |none=>rfl
    |some t=>simp;omega
   have etl:∀p,tf (⟨l.f,l.m+r.m,l.r,l.t⟩:Rn) p=tf l p:=fun p=>rfl
   refine⟨?_,?_,?_,?_,?_,?_,?_,?_⟩
   ·refine ado (adb J.ord) (aea (by show 0 < l.m+r.m;omega)) fun x hx y hy=>?_
    rw[List.mem_singleton.mp hy]
    exact hil x hx
   ·exact ags (b:=l) ⟨rfl,rfl,rfl⟩ J.lst
   ·intro p
    rw[abe,abe,←J.pg p,abe]
    cases pm i p with
    |some x=>rfl
    |none=>
     show (if l.f≤p∧p < l.f+(l.m+r.m) then some (l.r,tf l p) else none)=((if l.f≤p∧p < enR l then some (l.r,tf l p) else none).or (if r.f≤p∧p < enR r then some (r.r,tf r p) else none))
     unfold enR at *
     by_cases c1:l.f≤p∧p < l.f+l.m
     ·rw[if_pos c1,if_pos (by omega)];rfl
     ·rw[if_neg c1]
      by_cases c2:r.f≤p∧p < r.f+r.m
      ·rw[if_pos c2,if_pos (by omega),etf,g2];rfl
      ·rw[if_neg c2,if_neg (by omega)];rfl
   ·intro b hb
    obtain⟨a,ha,sa⟩:=J.hd b (hhd hb)
    cases i with
    |nil=>
     cases ha
     exact⟨_,rfl,sa.1,sa.2.1,sa.2.2⟩
    |cons x i=>exact⟨a,ha,sa⟩
   ·intro b hb
    rw[List.getLast?_concat] at hb
    cases hb
    exact⟨⟨l.f,l.m+r.m,l.r,l.t⟩,by rw[List.getLast?_concat],by show l.f+(l.m+r.m)=enR r;unfold enR at *; omega,g2,fun p=>(etl p).trans (etf p).symm⟩
   ·intro z hz x hx
    have hz':∀y∈c,z≤y.f:=fun y hy=>hz y (List.mem_append_left _ hy)
    rcases List.mem_append.mp hx with hx|hx
    ·exact J.lo z hz' x (List.mem_append_left _ hx)
    ·rw[List.mem_singleton.mp hx];exact J.lo z hz' l (by simp)
   ·intro z hz x hx
    have hz':∀y∈c,enR y≤z:=fun y hy=>hz y (List.mem_append_left _ hy)
    rcases List.mem_append.mp hx with hx|hx
    ·exact J.hi z hz' x (List.mem_append_left _ hx)
    ·rw[List.mem_singleton.mp hx]
     have:=hz r (by simp)
     show l.f+(l.m+r.m)≤z
     unfold enR at *
     omega
   ·intro h;simp at h
  |false=>
   rw[if_neg Bool.false_ne_true]
   refine⟨?_,?_,?_,?_,?_,?_,?_,?_⟩
   ·refine ado J.ord (aea hr) fun x hx y hy=>?_
    rw[List.mem_singleton.mp hy]
    exact J.hi r.f hcr x hx
   ·refine aez J.lst True.intro fun a b ha hb=>?_
    rw[List.getLast?_concat] at ha
    cases ha;cases hb;exact g
   ·intro p
    rw[abe,abe (rs:=c),J.pg p]
   ·intro b hb
    obtain⟨a,ha,sa⟩:=J.hd b (hhd hb)
    refine⟨a,?_,sa⟩
    rw[List.head?_append,ha];rfl
   ·intro b hb
    rw[List.getLast?_concat] at hb
    cases hb
    exact⟨_,by rw[List.getLast?_concat],rfl,rfl,fun _=>rfl⟩
   ·intro z hz x hx
    rcases List.mem_append.mp hx with hx|hx
    ·exact J.lo z (fun y hy=>hz y (List.mem_append_left _ hy)) x hx
    ·exact hz x (List.mem_append_right _ hx)
   ·intro z hz x hx
    rcases List.mem_append.mp hx with hx|hx
    ·exact J.hi z (fun y hy=>hz y (List.mem_append_left _ hy)) x hx
    ·exact hz x (List.mem_append_right _ hx)
   ·intro h;simp at h
theorem Jn.fold:∀{rs c acc:List Rn},Jn c acc→OrdR (c++rs)→Jn (c++rs) (rs.foldl jstep acc)
 |[],c,acc,J,_=>by rw[List.append_nil];exact J
 |r::rs,c,acc,J,o=>by
  have e:c++r::rs=(c++[r])++rs:=by simp
  rw[e] at o ⊢
  exact Jn.fold (J.step (adb o)) o
theorem jn_ok {rs:List Rn} (o:OrdR rs):Jn rs (jn rs):=by
 have:=Jn.fold (rs:=rs) (c:=[]) (acc:=[]) ⟨⟨by simp,fun _ h=>by simp at h⟩,True.intro,fun _=>rfl,fun _ h=>by simp at h,fun _ h=>by simp at h,fun _ _ _ h=>by simp at h,fun _ _ _ h=>by simp at h,fun _=>rfl⟩ o
 exact this
theorem agc {rs:List Rn} (o:OrdR rs) (p:Int):∃A R,rs=A++R∧pb rs p=A.length∧(∀x∈A,enR x≤p)∧(∀x∈R,p < enR x):=by
 refine⟨rs.takeWhile fun r=>decide (enR r≤p),rs.dropWhile fun r=>decide (enR r≤p),(List.takeWhile_append_dropWhile).symm,rfl,fun x hx=>?_,fun x hx=>?_⟩
 ·induction rs with
  |nil=>cases hx
  |cons y rs ih=>
   rw[List.takeWhile_cons] at hx
   by_cases c:enR y≤p
   ·rw[decide_eq_true c] at hx
    simp only[if_true] at hx
    rcases List.mem_cons.mp hx with rfl|hx
    ·exact c
    ·exact ih o.tail hx
   ·rw[decide_eq_false c] at hx
    simp at hx
 ·induction rs with
  |nil=>cases hx
  |cons y rs ih=>
   rw[List.dropWhile_cons] at hx
   by_cases c:enR y≤p
   ·rw[decide_eq_true c] at hx
    simp only[if_true] at hx
    exact ih o.tail hx
   ·rw[decide_eq_false c] at hx
    simp only[Bool.false_eq_true,if_false] at hx
    rcases List.mem_cons.mp hx with rfl|hx
    ·omega
    ·have h1:=o.head x hx
     have h2:=o.2 x (List.mem_cons_of_mem _ hx)
     unfold enR at *
     omega
theorem aj8 {rs:List Rn} (o:OrdR rs) {p q:Int} (h:p≤q):∃A M R,rs=A++M++R∧pb rs p=A.length∧pb rs q=A.length+M.length∧(∀x∈A,enR x≤p)∧(∀x∈M,p < enR x∧enR x≤q)∧(∀x∈R,q < enR x):=by
 obtain⟨A,R1,e1,h1,h2,h3⟩:=agc o p
 obtain⟨M,R,e2,h4,h5,h6⟩:=agc (rs:=R1) (by rw[e1] at o;exact abm o) q
 refine⟨A,M,R,by rw[e1,e2,List.append_assoc],h1,?_,h2,fun x hx=>⟨h3 x (by rw[e2];exact List.mem_append_left _ hx),h5 x hx⟩,h6⟩
 have:pb rs q=A.length+pb R1 q:=by
  rw[e1]
  clear e1 h1 e2 h4 o
  induction A with
  |nil=>simp
  |cons y A ih=>
   have hy:=h2 y List.mem_cons_self
   unfold pb at *
   rw[List.cons_append,List.takeWhile_cons,decide_eq_true (by omega)]
   simp only[if_true,List.length_cons]
   rw[ih fun x hx=>h2 x (List.mem_cons_of_mem _ hx)]
   omega
 rw[this,h4]
theorem aj9 {A M R:List Rn} {n m:Nat} (hn:n=A.length) (hm:m=A.length+M.length+1):cutR (A++M++R) n m=M++R.take 1:=by
 unfold cutR
 rw[hn,hm,List.append_assoc,List.take_append,List.take_of_length_le (by omega),List.drop_append,List.drop_length,Nat.sub_self,List.drop_zero,List.nil_append,
  List.take_append,List.take_of_length_le (by omega)]
 congr 2
 omega
theorem ak2 {A M R:List Rn} {m:Nat} (hm:m=A.length+M.length+1):(A++M++R).drop m=R.drop 1:=by
 rw[hm,←List.length_append,List.drop_append,List.drop_eq_nil_of_le (by omega),List.nil_append]
 congr 1
 omega
theorem ae2 {r:Rn} {a:Int} (h1:a≤enR r):poR r r.f a=⟨r.f,a - r.f,r.r,r.t⟩:=by
 unfold poR
 rw[Int.max_self,Int.min_eq_right h1,air]
theorem agt {a p:Int}:∀{N:List Rn},(∀x∈N,a≤enR x)→pm ((N.filter fun r=>decide (r.f < a)).map fun r=>poR r r.f a) p=if p < a then pm N p else none
 |[],_=>by simp[pm]
 |x::N,h=>by
  have ih:=agt (p:=p) (N:=N) fun y hy=>h y (List.mem_cons_of_mem _ hy)
  have hx:=h x List.mem_cons_self
  rw[List.filter_cons]
  by_cases c:x.f < a
  ·rw[decide_eq_true c]
   simp only[if_true,List.map_cons]
   rw[ae2 hx]
   show (if x.f≤p∧p < x.f+(a - x.f) then some (x.r,tf ⟨x.f,a - x.f,x.r,x.t⟩ p) else pm _ p)=if p < a then (if x.f≤p∧p < enR x then some (x.r,tf x p) else pm N p) else none
   rw[ih]
   have et:tf ⟨x.f,a - x.f,x.r,x.t⟩ p=tf x p:=rfl
   rw[et]
   by_cases c2:p < a
   ·rw[if_pos c2,if_pos c2]
    by_cases c3:x.f≤p
    ·rw[if_pos (by omega),if_pos (by omega)]
    ·rw[if_neg (by omega),if_neg (by omega)]
   ·rw[if_neg c2,if_neg c2,if_neg (by omega)]
  ·rw[decide_eq_false c]
   simp only[Bool.false_eq_true,if_false]
   rw[ih]
   show _=if p < a then (if x.f≤p∧p < enR x then some (x.r,tf x p) else pm N p) else none
   by_cases c2:p < a
   ·rw[if_pos c2,if_pos c2,if_neg (by omega)]
   ·rw[if_neg c2,if_neg c2]
theorem aft {e p:Int}:∀{N:List Rn},pm ((N.filter fun r=>decide (enR r > e)).map fun r=>poR r e (enR r)) p=if e≤p then pm N p else none
 |[]=>by simp[pm]
 |x::N=>by
  have ih:=aft (e:=e) (p:=p) (N:=N)
  rw[List.filter_cons]
  by_cases c:enR x > e
  ·rw[decide_eq_true c]
   simp only[if_true,List.map_cons]
   show (if max x.f e≤p∧p < max x.f e+(min (enR x) (enR x) - max x.f e) then some (x.r,tf ⟨_,_,_,tf x (max x.f e)⟩ p) else pm _ p)=if e≤p then (if x.f≤p∧p < enR x then some (x.r,tf x p) else pm N p) else none
   rw[ih,aey,Int.min_self]
   by_cases c2:e≤p
   ·rw[if_pos c2,if_pos c2]
    by_cases c3:x.f≤p∧p < enR x
    ·rw[if_pos c3,if_pos (by omega)]
    ·rw[if_neg c3,if_neg (by omega)]
   ·rw[if_neg c2,if_neg c2,if_neg (by omega)]
  ·rw[decide_eq_false c]
   simp only[Bool.false_eq_true,if_false]
   rw[ih]
   show _=if e≤p then (if x.f≤p∧p < enR x then some (x.r,tf x p) else pm N p) else none
   by_cases c2:e≤p
   ·rw[if_pos c2,if_pos c2,if_neg (by omega)]
   ·rw[if_neg c2,if_neg c2]
theorem agd {N:List Rn} {q:Rn→Bool} {g:Rn→Rn} (o:OrdR N) (h1:∀x∈N,q x=true→0 < (g x).m) (h2:∀x∈N,∀y∈N,q x=true→q y=true→enR x≤y.f→enR (g x)≤(g y).f):OrdR ((N.filter q).map g):=by
 refine⟨?_,fun r hr=>?_⟩
 ·rw[List.pairwise_map]
  have h3:((N.filter q)).Pairwise fun a b=>enR a≤b.f:=o.1.filter q
  refine List.Pairwise.imp_of_mem (fun {x y} hx hy h=>?_) h3
  have hx:=List.mem_filter.mp hx
  have hy:=List.mem_filter.mp hy
  exact h2 x hx.1 y hy.1 hx.2 hy.2 h
 ·obtain⟨x,hx,rfl⟩:=List.mem_map.mp hr
  have hx:=List.mem_filter.mp hx
  exact h1 x hx.1 hx.2
theorem ais {rs parts : List Rn} {a n : Int} (o : OrdR rs) (l : LstR rs) (hn : 0 < n) (op : OrdR parts) (hb : ∀ x ∈ parts, a ≤ x.f ∧ enR x ≤ a + n) :
    OrdR (layR rs a n parts) ∧ LstR (layR rs a n parts) ∧ ∀ p, pm (layR rs a n parts) p = if a ≤ p ∧ p < a + n then pm parts p else pm rs p := by
  obtain ⟨A, M, R, e, h1, h2, hA, hM, hR⟩ := aj8 o (p := a - 1) (q := a + n) (by omega)
  have eN : cutR rs (pb rs (a - 1)) (pb rs (a + n) + 1) = M ++ R.take 1 := by rw [h1, h2]; conv => lhs; rw [e]
                                                                              exact aj9 rfl rfl
  have eB : rs.drop (pb rs (a + n) + 1) = R.drop 1 := by rw [h2]; conv => lhs; rw [e]
                                                         exact ak2 rfl
  have eA : rs.take (pb rs (a - 1)) = A := by rw [h1]; conv => lhs; rw [e, List.append_assoc, List.take_left]
  unfold layR
  simp only []
  rw [eN, eB, eA]
  have hRs : R = R.take 1 ++ R.drop 1 := (List.take_append_drop 1 R).symm
  have o3 : OrdR (A ++ ((M ++ R.take 1) ++ R.drop 1)) := by rw [List.append_assoc M, ← hRs, ← List.append_assoc, ← e]; exact o
  have l3 : LstR (A ++ ((M ++ R.take 1) ++ R.drop 1)) := by rw [List.append_assoc M, ← hRs, ← List.append_assoc, ← e]; exact l
  have hN : ∀ x ∈ M ++ R.take 1, a ≤ enR x := fun x hx => by
    rcases List.mem_append.mp hx with hx | hx
    · have := hM x hx; omega
    · have := hR x (List.mem_of_mem_take hx); omega
  have hB : ∀ x ∈ R.drop 1, a + n < x.f := fun x hx => by
    cases R with
    | nil => cases hx
    | cons z B =>
      have h4 : enR z ≤ x.f := (abm (abm o3)) |> fun _ => by
        have h5 := ack (abm o3) z (by simp) x hx
        exact h5
      have := hR z List.mem_cons_self
      omega
  have hz : R.drop 1 ≠ [] → ∃ z, (M ++ R.take 1).getLast? = some z ∧ a + n < enR z := fun h => by
    cases R with
    | nil => exact absurd rfl h
    | cons z B => exact ⟨z, by simp, hR z List.mem_cons_self⟩
  have oN : OrdR (M ++ R.take 1) := adb (abm o3)
  have oB : OrdR (R.drop 1) := abm (abm o3)
  have oA : OrdR A := adb o3
  have ep : ∀ p, pm rs p = (pm A p).or ((pm (M ++ R.take 1) p).or (pm (R.drop 1) p)) := fun p => by
    rw [← abe, ← abe, List.append_assoc M, ← hRs, ← List.append_assoc, ← e]
  generalize hNN : M ++ R.take 1 = N at *
  generalize R.drop 1 = B at *
  have oa : OrdR ((N.filter fun r => decide (r.f < a)).map fun r => poR r r.f a) := agd oN (fun x hx c => by
      have c : x.f < a := by simpa using c
      rw [ae2 (hN x hx)]; show 0 < a - x.f; omega) fun x hx y hy c1 c2 h => by
    have c2 : y.f < a := by simpa using c2
    have := hN x hx
    omega
  have ob : OrdR ((N.filter fun r => decide (enR r > a + n)).map fun r => poR r (a + n) (enR r)) := agd oN (fun x hx c => by
      have c : enR x > a + n := by simpa using c
      have := oN.2 x hx
      show 0 < min (enR x) (enR x) - max x.f (a + n)
      rw [Int.min_self]
      unfold enR at *
      omega) fun x hx y hy c1 c2 h => by
    have c1 : enR x > a + n := by simpa using c1
    have := oN.2 x hx
    show max x.f (a + n) + (min (enR x) (enR x) - max x.f (a + n)) ≤ max y.f (a + n)
    rw [Int.min_self]
    omega
  have ahd : ∀ x ∈ (N.filter fun r => decide (r.f < a)).map fun r => poR r r.f a, enR x = a ∧ ∃ y ∈ N, y.f < a ∧ sHd x y := fun x hx => by
    obtain ⟨y, hy, rfl⟩ := List.mem_map.mp hx
    have hy := List.mem_filter.mp hy
    have c : y.f < a := by simpa using hy.2
    rw [ae2 (hN y hy.1)]
    exact ⟨by show y.f + (a - y.f) = a; omega, y, hy.1, c, rfl, rfl, rfl⟩
  have bhd : ∀ x ∈ (N.filter fun r => decide (enR r > a + n)).map fun r => poR r (a + n) (enR r), a + n ≤ x.f ∧ ∃ y ∈ N, enR x = enR y := fun x hx => by
    obtain ⟨y, hy, rfl⟩ := List.mem_map.mp hx
    have hy := List.mem_filter.mp hy
    refine ⟨by show a + n ≤ max y.f (a + n); omega, y, hy.1, ?_⟩
    show max y.f (a + n) + (min (enR y) (enR y) - max y.f (a + n)) = enR y
    rw [Int.min_self]; omega
  generalize hAH : (N.filter fun r => decide (r.f < a)).map (fun r => poR r r.f a) = ah at *
  generalize hBH : (N.filter fun r => decide (enR r > a + n)).map (fun r => poR r (a + n) (enR r)) = bh at *
  have oX : OrdR (ah ++ parts ++ bh) := by
    refine ado (ado oa op fun x hx y hy => ?_) ob fun x hx y hy => ?_
    · have := (ahd x hx).1; have := (hb y hy).1; omega
    · have h4 := (bhd y hy).1
      rcases List.mem_append.mp hx with hx | hx
      · have := (ahd x hx).1; omega
      · have := (hb x hx).2; omega
  have J := jn_ok oX
  have hXB : ∀ x ∈ jn (ah ++ parts ++ bh), ∀ y ∈ B, enR x ≤ y.f := fun x hx y hy => by
    refine J.hi y.f (fun w hw => ?_) x hx
    rcases List.mem_append.mp hw with hw | hw
    · rcases List.mem_append.mp hw with hw | hw
      · have := (ahd w hw).1; have := hB y hy; omega
      · have := (hb w hw).2; have := hB y hy; omega
    · obtain ⟨z, hz1, hz2⟩ := (bhd w hw).2
      rw [hz2]
      exact ack (abm o3) z hz1 y hy
  have hAX : ∀ x ∈ A, ∀ y ∈ jn (ah ++ parts ++ bh), enR x ≤ y.f := fun x hx y hy => by
    refine J.lo (enR x) (fun w hw => ?_) y hy
    have hx2 := hA x hx
    rcases List.mem_append.mp hw with hw | hw
    · rcases List.mem_append.mp hw with hw | hw
      · obtain ⟨z, hz1, _, hz2⟩ := (ahd w hw).2
        rw [hz2.1]
        exact ack o3 x hx z (List.mem_append_left _ hz1)
      · have := (hb w hw).1; omega
    · have := (bhd w hw).1; omega
  refine ⟨?_, ?_, ?_⟩
  · refine ado (ado oA J.ord hAX) oB fun x hx y hy => ?_
    rcases List.mem_append.mp hx with hx | hx
    · exact ack o3 x hx y (List.mem_append_right _ hy)
    · exact hXB x hx y hy
  · have lA : LstR A := agr l3
    have lB : LstR B := ada (ada l3)
    have lAX : LstR (A ++ jn (ah ++ parts ++ bh)) := aez lA J.lst fun u v hu hv => by
      cases hX : (ah ++ parts ++ bh).head? with
      | none =>
        have hX := List.head?_eq_none_iff.mp hX
        rw [hX, show jn [] = [] from rfl] at hv
        cases hv
      | some w =>
        obtain ⟨v', hv', sv⟩ := J.hd w hX
        rw [hv] at hv'
        cases hv'
        rw [ak1 sv]
        have hu2 := hA u (List.mem_of_getLast? hu)
        by_cases cw : a ≤ w.f
        · unfold go
          rw [decide_eq_false (by omega)]; rfl
        · cases ah with
          | nil =>
            exfalso
            have hw : w ∈ parts ++ bh := by
              rw [List.nil_append] at hX
              exact List.mem_of_head? hX
            rcases List.mem_append.mp hw with hw | hw
            · exact cw (hb w hw).1
            · have := (bhd w hw).1; omega
          | cons w' ah' =>
            obtain rfl : w' = w := by simpa using hX
            obtain ⟨y, hy, hya, sy⟩ := (ahd w' List.mem_cons_self).2
            rw [ak1 sy]
            refine ae0 l3 hu ?_
            rw [List.head?_append]
            cases N with
            | nil => cases hy
            | cons y0 N =>
              rcases List.mem_cons.mp hy with rfl | hy
              · rfl
              · have h5 := oN.head y hy
                have h6 := hN y0 List.mem_cons_self
                omega
    refine aez lAX lB fun u v hu hv => ?_
    have hBne : B ≠ [] := fun z => by rw [z] at hv; cases hv
    obtain ⟨z, hz1, hz2⟩ := hz hBne
    obtain ⟨N0, rfl⟩ := ae1 hz1
    have hlast : (ah ++ parts ++ bh).getLast? = some (poR z (a + n) (enR z)) := by
      rw [← hBH, List.filter_append, List.map_append]
      have : ([z].filter fun r => decide (enR r > a + n)) = [z] := by rw [List.filter_cons, decide_eq_true hz2]; rfl
      rw [this, ← List.append_assoc, List.map_cons, List.map_nil, List.getLast?_concat]
    obtain ⟨u', hu', su⟩ := J.ls _ hlast
    have hne : jn (ah ++ parts ++ bh) ≠ [] := fun z => by rw [z] at hu'; cases hu'
    rw [List.getLast?_append, hu'] at hu
    obtain rfl : u' = u := by simpa using hu
    rw [go_ls su]
    have sz : sLs (poR z (a + n) (enR z)) z := by
      refine ⟨?_, rfl, fun p => ?_⟩
      · show max z.f (a + n) + (min (enR z) (enR z) - max z.f (a + n)) = enR z
        rw [Int.min_self]; omega
      · exact aey
    rw [go_ls sz]
    exact ae0 (ada l3) hz1 hv
  · intro p
    rw [abe, abe, J.pg, abe, abe, ep p]
    have e1 : pm ah p = if p < a then pm N p else none := by rw [← hAH]; exact agt hN
    have e2 : pm bh p = if a + n ≤ p then pm N p else none := by rw [← hBH]; exact aft
    rw [e1, e2]
    by_cases c : a ≤ p ∧ p < a + n
    · rw [if_pos c, if_neg (by omega), if_neg (by omega), agq (rs := A) fun r hr => by have := hA r hr; omega, acj (rs := B) fun r hr => by have := hB r hr; omega]
      cases pm parts p <;> rfl
    · rw [if_neg c, aex (rs := parts) fun r hr z => by have := hb r hr; omega]
      by_cases c2 : p < a
      · rw [if_pos c2, if_neg (by omega)]
        cases pm A p <;> cases pm N p <;> rfl
      · rw [if_neg c2, if_pos (by omega)]
        cases pm A p <;> cases pm N p <;> rfl
theorem ait {r:Rn} {a e:Int} (h1:a < enR r) (h2:r.f < e) (h3:a < e) (h0:0 < r.m):a≤(poR r a e).f∧enR (poR r a e)≤e∧0 < (poR r a e).m:=by
 have e1:(poR r a e).f=max r.f a:=rfl
 have e2:(poR r a e).m=min (enR r) e - max r.f a:=rfl
 have e3:enR (poR r a e)=max r.f a+(min (enR r) e - max r.f a):=rfl
 rw[e3,e2,e1]
 unfold enR at *
 omega
theorem pm_po {a e p:Int}:∀{N:List Rn},(∀x∈N,0 < x.m)→pm ((N.filter fun r=>decide (r.f < e)).map fun r=>poR r a e) p=if a≤p∧p < e then pm N p else none
 |[],_=>by simp[pm]
 |x::N,h=>by
  have ih:=pm_po (a:=a) (e:=e) (p:=p) (N:=N) fun y hy=>h y (List.mem_cons_of_mem _ hy)
  have hx:=h x List.mem_cons_self
  rw[List.filter_cons]
  by_cases c:x.f < e
  ·rw[decide_eq_true c]
   simp only[if_true,List.map_cons]
   show (if max x.f a≤p∧p < max x.f a+(min (enR x) e - max x.f a) then some (x.r,tf ⟨_,_,_,tf x (max x.f a)⟩ p) else pm _ p)=if a≤p∧p < e then (if x.f≤p∧p < enR x then some (x.r,tf x p) else pm N p) else none
   rw[ih,aey]
   by_cases c2:a≤p∧p < e
   ·rw[if_pos c2,if_pos c2]
    by_cases c3:x.f≤p∧p < enR x
    ·rw[if_pos c3,if_pos (by omega)]
    ·rw[if_neg c3,if_neg (by omega)]
   ·rw[if_neg c2,if_neg c2,if_neg (by omega)]
  ·rw[decide_eq_false c]
   simp only[Bool.false_eq_true,if_false]
   rw[ih]
   show _=if a≤p∧p < e then (if x.f≤p∧p < enR x then some (x.r,tf x p) else pm N p) else none
   by_cases c2:a≤p∧p < e
   ·rw[if_pos c2,if_pos c2,if_neg (by omega)]
   ·rw[if_neg c2,if_neg c2]
theorem agu {rs : List Rn} {a n : Int} (o : OrdR rs) (hn : 0 < n) : OrdR (pam rs a n) ∧ (∀ x ∈ pam rs a n, a ≤ x.f ∧ enR x ≤ a + n) ∧ ∀ p, pm (pam rs a n) p = if a ≤ p ∧ p < a + n then pm rs p else none := by
  obtain ⟨A, M, R, e, h1, h2, hA, hM, hR⟩ := aj8 o (p := a) (q := a + n) (by omega)
  have eN : cutR rs (pb rs a) (pb rs (a + n) + 1) = M ++ R.take 1 := by rw [h1, h2]; conv => lhs; rw [e]
                                                                        exact aj9 rfl rfl
  unfold pam
  rw [eN]
  have hRs : R = R.take 1 ++ R.drop 1 := (List.take_append_drop 1 R).symm
  have o3 : OrdR (A ++ ((M ++ R.take 1) ++ R.drop 1)) := by rw [List.append_assoc M, ← hRs, ← List.append_assoc, ← e]; exact o
  have hN : ∀ x ∈ M ++ R.take 1, a < enR x := fun x hx => by
    rcases List.mem_append.mp hx with hx | hx
    · exact (hM x hx).1
    · have := hR x (List.mem_of_mem_take hx); omega
  have hB : ∀ x ∈ R.drop 1, a + n < x.f := fun x hx => by
    cases R with
    | nil => cases hx
    | cons z B =>
      have h5 := ack (abm o3) z (by simp) x hx
      have := hR z List.mem_cons_self
      omega
  have oN : OrdR (M ++ R.take 1) := adb (abm o3)
  have ep : ∀ p, pm rs p = (pm A p).or ((pm (M ++ R.take 1) p).or (pm (R.drop 1) p)) := fun p => by
    rw [← abe, ← abe, List.append_assoc M, ← hRs, ← List.append_assoc, ← e]
  generalize M ++ R.take 1 = N at *
  generalize R.drop 1 = B at *
  refine ⟨agd oN (fun x hx c => ?_) (fun x hx y hy c1 c2 h => ?_), fun x hx => ?_, fun p => ?_⟩
  · exact (ait (hN x hx) (by simpa using c) (by omega) (oN.2 x hx)).2.2
  · show max x.f a + (min (enR x) (a + n) - max x.f a) ≤ max y.f a
    omega
  · obtain ⟨y, hy, rfl⟩ := List.mem_map.mp hx
    have hy := List.mem_filter.mp hy
    have := ait (hN y hy.1) (by simpa using hy.2) (show a < a + n by omega) (oN.2 y hy.1)
    exact ⟨this.1, this.2.1⟩
  · rw [pm_po fun x hx => oN.2 x hx, ep p]
    by_cases c : a ≤ p ∧ p < a + n
    · rw [if_pos c, if_pos c, agq (rs := A) fun r hr => by have := hA r hr; omega, acj (rs := B) fun r hr => by have := hB r hr; omega]
      cases pm N p <;> rfl
    · rw [if_neg c, if_neg c]
theorem aka:∀{L:List Rn} {a e:Int},OrdR L→a≤e→(∀x∈L,a≤x.f∧enR x≤e)→0≤(L.map (·.m)).sum∧(L.map (·.m)).sum≤e - a∧((L.map (·.m)).sum=e - a↔∀p,a≤p→p < e→pm L p≠none)
 |[],a,e,_,h,_=>by
  refine⟨by simp,by simp;omega,?_⟩
  constructor
  ·intro h1 p h2 h3
   simp at h1
   omega
  ·intro h1
   simp
   rcases (by omega:a < e∨e≤a) with h2|h2
   ·exact absurd rfl (h1 a (Int.le_refl _) h2)
   ·omega
 |x::L,a,e,o,h,hb=>by
  have hx:=hb x List.mem_cons_self
  have pos:=o.2 x List.mem_cons_self
  have ih:=aka (L:=L) (a:=enR x) (e:=e) o.tail hx.2 fun y hy=>⟨o.head y hy,(hb y (List.mem_cons_of_mem _ hy)).2⟩
  rw[List.map_cons,List.sum_cons]
  have ex:enR x=x.f+x.m:=rfl
  refine⟨by omega,by omega,?_⟩
  constructor
  ·intro h1 p h2 h3
   have h4:(L.map (·.m)).sum=e - enR x:=by omega
   have h5:x.f=a:=by omega
   show (if x.f≤p∧p < enR x then some (x.r,tf x p) else pm L p)≠none
   by_cases c:p < enR x
   ·rw[if_pos (by omega)];exact fun z=>by cases z
   ·rw[if_neg (by omega)]
    exact ih.2.2.mp h4 p (by omega) h3
  ·intro h1
   have h5:x.f=a:=by
    rcases (by omega:a < x.f∨x.f≤a) with h2|h2
    ·refine absurd (acj (p:=a) (rs:=x::L) fun r hr=>?_) (h1 a (Int.le_refl _) (by omega))
     rcases List.mem_cons.mp hr with rfl|hr
     ·exact h2
     ·have:=o.head r hr;omega
    ·omega
   have h4:=ih.2.2.mpr fun p h2 h3=>by
    have:=h1 p (by omega) h3
    intro z
    apply this
    show (if x.f≤p∧p < enR x then some (x.r,tf x p) else pm L p)=none
    rw[if_neg (by omega)];exact z
   omega
theorem ae3 {rs:List Rn} {a n:Int} (o:OrdR rs) (hn:0 < n):((pam rs a n).map (·.m)).sum=n↔∀p,a≤p→p < a+n→pm rs p≠none:=by
 obtain⟨h1,h2,h3⟩:=agu (a:=a) o hn
 have:=(aka h1 (show a≤a+n by omega) h2).2.2
 rw[show a+n - a=n by omega] at this
 rw[this]
 refine⟨fun h p x y=>?_,fun h p x y=>?_⟩
 ·have:=h p x y;rw[h3,if_pos ⟨x,y⟩] at this;exact this
 ·rw[h3,if_pos ⟨x,y⟩];exact h p x y
theorem ae4 {rs:List Rn} {a n:Int} (o:OrdR rs) (hn:0 < n):pam rs a n=[]↔∀p,a≤p→p < a+n→pm rs p=none:=by
 obtain⟨h1,h2,h3⟩:=agu (a:=a) o hn
 refine⟨fun h p x y=>?_,fun h=>?_⟩
 ·have:=h3 p
  rw[h,if_pos ⟨x,y⟩] at this
  exact this.symm
 ·cases e:pam rs a n with
  |nil=>rfl
  |cons z L=>
   rw[e] at h1 h2 h3
   have hz:=h2 z List.mem_cons_self
   have hp:=h1.2 z List.mem_cons_self
   have ez:enR z=z.f+z.m:=rfl
   have h4:=adt h1 (p:=z.f) List.mem_cons_self (Int.le_refl _) (by omega)
   rw[h3,if_pos (by omega),h z.f hz.1 (by omega)] at h4
   cases h4
theorem ak3 {rs:List Rn} {p:Int} (o:OrdR rs):(pam rs p 1=[]∧pm rs p=none)∨∃x,pam rs p 1=[x]∧pm rs p=some (x.r,x.t):=by
 obtain⟨h1,h2,h3⟩:=agu (a:=p) o (show (0:Int) < 1 by decide)
 cases e:pam rs p 1 with
 |nil=>
  refine .inl ⟨rfl,?_⟩
  have:=h3 p
  rw[e,if_pos (by omega)] at this
  exact this.symm
 |cons x L=>
  rw[e] at h1 h2 h3
  have hx:=h2 x List.mem_cons_self
  have px:=h1.2 x List.mem_cons_self
  have ex:enR x=x.f+x.m:=rfl
  have hL:L=[]:=by
   cases L with
   |nil=>rfl
   |cons y L=>
    have h4:=h1.head y List.mem_cons_self
    have h5:=h2 y (by simp)
    have h6:=h1.2 y (by simp)
    have ey:enR y=y.f+y.m:=rfl
    omega
  subst hL
  refine .inr ⟨x,rfl,?_⟩
  have:=h3 p
  rw[if_pos (by omega)] at this
  rw[←this]
  have hf:x.f=p:=by omega
  show (if x.f≤p∧p < enR x then some (x.r,tf x p) else none)=_
  rw[if_pos (by omega),←hf,air]
theorem afu {q:Int}:∀{L:List Rn} {p:Int},pm (L.map fun x=>(⟨x.f,x.m,q,x.t⟩:Rn)) p=(pm L p).map fun y=>(q,y.2)
 |[],_=>rfl
 |x::L,p=>by
  show (if x.f≤p∧p < enR x then some (q,tf ⟨x.f,x.m,q,x.t⟩ p) else pm _ p)=(if x.f≤p∧p < enR x then some (x.r,tf x p) else pm L p).map _
  have e:tf ⟨x.f,x.m,q,x.t⟩ p=tf x p:=rfl
  rw[e,afu (L:=L)]
  by_cases c:x.f≤p∧p < enR x
  ·rw[if_pos c,if_pos c];rfl
  ·rw[if_neg c,if_neg c]
theorem ahi {q:Int} {L:List Rn} (o:OrdR L):OrdR (L.map fun x=>(⟨x.f,x.m,q,x.t⟩:Rn)):=by
 refine⟨?_,fun r hr=>?_⟩
 ·rw[List.pairwise_map];exact o.1
 ·obtain⟨x,hx,rfl⟩:=List.mem_map.mp hr
  exact o.2 x hx
theorem pb_le {rs:List Rn} {p:Int}:pb rs p≤rs.length:=by unfold pb;exact (List.takeWhile_prefix _).length_le
theorem pb_at {rs:List Rn} (o:OrdR rs) {p:Int} {i:Nat} {x:Rn} (h:rs[i]?=some x):i < pb rs p↔enR x≤p:=by
 obtain⟨A,R,e,h1,h2,h3⟩:=agc o p
 rw[h1]
 rw[e] at h
 constructor
 ·intro hi
  rw[List.getElem?_append_left hi] at h
  exact h2 x (List.mem_of_getElem? h)
 ·intro hx
  rcases Nat.lt_or_ge i A.length with hi|hi
  ·exact hi
  ·rw[List.getElem?_append_right hi] at h
   have:=h3 x (List.mem_of_getElem? h)
   omega
noncomputable def TieAt (H:Hp) (v:V):Option (Int×Int)→Prop
 |none=>v=.non
 |some (b,k)=>∃a,v=.ref a∧H a=some (.tup [.int b,.int k])
noncomputable def RunAt (H:Hp) (v:V) (r:Rn):Prop:=∃a tv,v=.ref a∧H a=some (.tup [.int r.f,.int r.m,.int r.r,tv])∧TieAt H tv r.t
theorem TieAt.same {H H':Hp} {v:V}:∀{t:Option (Int×Int)},TieAt H v t→Same H H'→TieAt H' v t
 |none,h,_=>h
 |some (b,k),⟨a,e,h⟩,s=>⟨a,e,s _ _ h⟩
theorem RunAt.same {H H':Hp} {v:V} {r:Rn} (h:RunAt H v r) (s:Same H H'):RunAt H' v r:=let ⟨a,tv,e,h1,h2⟩:=h;⟨a,tv,e,s _ _ h1,h2.same s⟩
theorem TieAt.same2 {H H':Hp} {a:Addr} {xs:List V} {o:HO} {v:V} (hx:H' a=some (.lst xs)):∀{t:Option (Int×Int)},TieAt H' v t→TieAt (upd H' a o) v t
 |none,h=>h
 |some (b,k),⟨c,e,h⟩=>⟨c,e,by rw[aaw (ahk h hx fun z=>nomatch z)];exact h⟩
theorem RunAt.same2 {H H':Hp} {a:Addr} {xs:List V} {o:HO} {v:V} {r:Rn} (h:RunAt H' v r) (hx:H' a=some (.lst xs)) (_:Same H H'):RunAt (upd H' a o) v r:=
 let ⟨c,tv,e,h1,h2⟩:=h
 ⟨c,tv,e,by rw[aaw (ahk h1 hx fun z=>nomatch z)];exact h1,TieAt.same2 (H:=H) hx h2⟩
noncomputable abbrev RunsAt (H:Hp):List V→List Rn→Prop:=Paired (RunAt H)
theorem RunsAt.same {H H':Hp} {vs:List V} {rs:List Rn} (h:RunsAt H vs rs) (s:Same H H'):RunsAt H' vs rs:=Paired.mapP h fun _ _ q=>q.same s
theorem RunsAt.same2 {H H':Hp} {a:Addr} {xs:List V} {o:HO} {vs:List V} {rs:List Rn} (h:RunsAt H' vs rs) (hx:H' a=some (.lst xs)) (s:Same H H'):RunsAt (upd H' a o) vs rs:=Paired.mapP h fun _ _ q=>q.same2 hx s
theorem acr {α β:Type} {F:α→β→Prop}:∀{xs:List α} {ys:List β} {i:Nat} {x:α},Paired F xs ys→xs[i]?=some x→∃y,ys[i]?=some y∧F x y
 |_,_,_,_,.nil,e=>by simp at e
 |_,_,0,_,.cons r _,e=>by simp at e;subst e;exact⟨_,rfl,r⟩
 |_,_,i+1,x,.cons _ t,e=>by
  obtain⟨u,h1,h2⟩:=acr (i:=i) (x:=x) t (by simpa using e)
  exact⟨u,by simpa using h1,h2⟩
theorem aby {α β:Type} {F:α→β→Prop}:∀{xs:List α} {ys:List β} {zs:List α} {ws:List β},Paired F xs ys→Paired F zs ws→Paired F (xs++zs) (ys++ws)
 |_,_,_,_,.nil,h=>h
 |_,_,_,_,.cons r t,h=>.cons r (aby t h)
theorem ady {α β:Type} {F:α→β→Prop}:∀{xs:List α} {ys:List β} (n:Nat),Paired F xs ys→Paired F (xs.take n) (ys.take n)
 |_,_,0,_=>.nil
 |_,_,_+1,.nil=>.nil
 |_,_,n+1,.cons r t=>.cons r (ady n t)
theorem adz {α β:Type} {F:α→β→Prop}:∀{xs:List α} {ys:List β} (n:Nat),Paired F xs ys→Paired F (xs.drop n) (ys.drop n)
 |_,_,0,h=>h
 |_,_,_+1,.nil=>.nil
 |_,_,n+1,.cons _ t=>adz n t
noncomputable def acs (K:PySem.W.Frag):Sp:=fun vs H Q _=>∃v r,vs=[v]∧RunAt H v r∧Q (.int (enR r)) H
theorem ad0 (T:Txt K mg A):Have P w K mg base "end_of" 1 ["run"] [] (acs K):=by
 refine T.r_end_of.have aio (fun vs H Q E z=>?_) ?_
 ·obtain⟨v,r,rfl,_⟩:=z;rfl
 ·intro f cdv A' outer s H vs Q E hr z
  obtain⟨v,r,rfl,⟨a,tv,rfl,ha,ht⟩,q⟩:=z
  refine⟨_,(aah (aa2 (aan aa7 (aa0 abq (pvM 0) aad (fun _ _=>rfl)) (aa0 abq (pvM 0) aad (fun _ _=>rfl))))),?_⟩
  walk_at "wp"
  exact⟨_,SqT.of ha,_,rfl,_,SqT.of ha,_,rfl,_,rfl,_,rfl,q⟩
noncomputable def ac2 (K:PySem.W.Frag):Sp:=fun vs H Q _=>∃v r p,vs=[v,.int p]∧RunAt H v r∧∀u H',Same H H'→TieAt H' u (tf r p)→Q u H'
theorem ael (T:Txt K mg A):Have P w K mg base "tie_from" 1 ["run","page"] [] (ac2 K):=by
 refine T.r_tie_from.have ad9 (fun vs H Q E z=>?_) ?_
 ·obtain⟨v,r,p,rfl,_⟩:=z;rfl
 ·intro f cdv A' outer s H vs Q E hr z
  obtain⟨v,r,p,rfl,⟨a,tv,rfl,ha,ht⟩,q⟩:=z
  refine⟨_,(aak (aa6 (i:=2) ad9.nd rfl (Or.inl rfl) (aa0 abq (pvM 0) aad (fun _ _=>rfl)))
   (aak (ab2 (aa5 aj2 (pvM 2) ac3 (nomark _)) (aah (aa2 ac3)) abg)
   (aah (aa2 (abz (aaa (aa0 abq (pvM 2) aad (fun _ _=>rfl)) (aaa (aan ab8 (aan aa7 (aa0 abq (pvM 2) aad (fun _ _=>rfl)) (pvM 1)) (aa0 abq (pvM 0) aad (fun _ _=>rfl))) aac))))))),?_⟩
  walk_at "wp"
  refine⟨_,SqT.of ha,_,rfl,?_⟩
  cases e:r.t with
  |none=>
   rw[e] at ht
   have ht:tv=.non:=ht
   subst ht
   rw[if_pos rfl]
   refine q _ _ aab ?_
   unfold tf
   rw[e]
   rfl
  |some t=>
   obtain⟨b,k⟩:=t
   rw[e] at ht
   obtain⟨c,rfl,hc⟩:=ht
   rw[if_neg (fun z=>nomatch z)]
   walk_at "wp"
   refine⟨_,SqT.of hc,_,rfl,_,SqT.of hc,_,rfl,_,rfl,_,SqT.of ha,_,rfl,_,rfl,fun p2 hp2=>?_⟩
   refine q _ _ (aae aab hp2) ?_
   unfold tf
   rw[e]
   exact⟨p2,rfl,aaf⟩
noncomputable def adp (K:PySem.W.Frag):Sp:=fun vs H Q _=>∃v r lo hi,vs=[v,.int lo,.int hi]∧RunAt H v r∧∀u H',Same H H'→RunAt H' u (poR r lo hi)→Q u H'
theorem afv (T:Txt K mg A):Have P w K mg base "part_of" 2 ["run","low","high"] [] (adp K):=by
 have H_end_of:=ad0 (P:=P) (w:=w) (base:=base) T
 have H_tie_from:=ael (P:=P) (w:=w) (base:=base) T
 refine T.r_part_of.have aek (fun vs H Q E z=>?_) ?_
 ·obtain⟨v,r,lo,hi,rfl,_⟩:=z;rfl
 ·intro f cdv A' outer s H vs Q E hr z
  obtain⟨v,r,lo,hi,rfl,hR,q⟩:=z
  obtain⟨a,tv,rfl,ha,ht⟩:=id hR
  refine⟨_,(aak (aa6 (i:=3) aek.nd rfl (Or.inl rfl) (abc (ahs rfl) rfl T.b_max PyProof.Rows.boot_max (aaa (aa0 abq (pvM 0) aad (fun _ _=>rfl)) (aaa (pvM 1) aac))))
   (aah (aa2 (abz (aaa (pvM 3) (aaa (aan ab8 (abc (afc rfl) rfl T.b_min PyProof.Rows.boot_min (aaa (aai H_end_of (hr.mono (by decide)) aaj (aaa (pvM 0) aac)) (aaa (pvM 2) aac))) (pvM 3)) (aaa (aa0 abq (pvM 0) aad (fun _ _=>rfl)) (aaa (aai H_tie_from (hr.mono (by decide)) aaj (aaa (pvM 0) (aaa (pvM 3) aac))) aac)))))))),?_⟩
  unfold acs ac2
  walk_at "wp"
  refine⟨_,SqT.of ha,_,rfl,_,rfl,r,hR,_,SqT.of ha,_,rfl,r,hR,fun u H1 s1 hu p hp=>?_⟩
  have e1:(if lo > r.f then lo else r.f)=max r.f lo:=by split<;>omega
  have e2:(if hi < enR r then hi else enR r)=min (enR r) hi:=by split<;>omega
  rw[e1,e2]
  rw[e1] at hu
  refine q _ _ (aae s1 hp) ⟨p,u,rfl,aaf,?_⟩
  exact hu.same (aae aab hp)
theorem ak4 {H:Hp} {u v:V} {t1 t2:Option (Int×Int)} {Q:VK} (h1:TieAt H u t1) (h2:TieAt H v t2) (q:Q (.bl (decide (t1=t2))) H):rEqN K 4 u v H Q:=by
 cases t1 with
 |none=>
  cases t2 with
  |none=>exact .inl ⟨h1,h2,q⟩
  |some t2=>
   obtain⟨b,k⟩:=t2
   obtain⟨a,e,h2⟩:=h2
   exact .inr (.inl ⟨h1,⟨a,_,e,SqT.of h2⟩,q⟩)
 |some t1=>
  obtain⟨b,k⟩:=t1
  obtain⟨a,e,h1⟩:=h1
  cases t2 with
  |none=>exact .inr (.inr (.inl ⟨⟨a,_,e,SqT.of h1⟩,h2,q⟩))
  |some t2=>
   obtain⟨b2,k2⟩:=t2
   obtain⟨a2,e2,h2⟩:=h2
   subst e e2
   refine .inr (.inr (.inr ⟨true,dInts [b,k],dInts [b2,k2],agp (ns:=[b,k]) (SqT.of h1),agp (ns:=[b2,k2]) (SqT.of h2),aei _ _,by rw[afo];decide,?_⟩))
   rw[aic]
   rw[show decide ([b,k]=[b2,k2])=decide (some (b,k)=some (b2,k2)) from by rw[decide_eq_decide];simp]
   exact q
noncomputable def aem (K:PySem.W.Frag):Sp:=fun vs H Q _=>∃v u r s,vs=[v,u]∧RunAt H v r∧RunAt H u s∧∀H',Same H H'→Q (.bl (go r s)) H'
theorem aiu (T:Txt K mg A):Have P w K mg base "goes_on" 2 ["run","later"] [] (aem K):=by
 have H_end_of:=ad0 (P:=P) (w:=w) (base:=base) T
 have H_tie_from:=ael (P:=P) (w:=w) (base:=base) T
 refine T.r_goes_on.have ahg (fun vs H Q E z=>?_) ?_
 ·obtain⟨v,u,r,s,rfl,_⟩:=z;rfl
 ·intro f cdv A' outer s H vs Q E hr z
  obtain⟨v,u,r,s',rfl,hR,hS,q⟩:=z
  obtain⟨a,tv,rfl,ha,ht⟩:=id hR
  obtain⟨b,uv,rfl,hb,hu⟩:=id hS
  refine⟨_,(aah (aa2 (ae9 (adh afa (aai H_end_of (hr.mono (by decide)) aaj (aaa (pvM 0) aac)) (aa0 abq (pvM 1) aad (fun _ _=>rfl)) (nomark _)) (ae9 (adh afa (aa0 abq (pvM 0) aad (fun _ _=>rfl)) (aa0 abq (pvM 1) aad (fun _ _=>rfl)) (nomark _)) (agf (adh (op_eqN (n:=4) (hu6 hr)) (aai H_tie_from (hr.mono (by decide)) aaj (aaa (pvM 0) (aaa (aa0 abq (pvM 1) aad (fun _ _=>rfl)) aac))) (aa0 abq (pvM 1) aad (fun _ _=>rfl)) (nomark _))))))),?_⟩
  unfold acs ac2
  walk_at "wp"
  refine⟨r,hR,_,SqT.of hb,.int s'.f,rfl,rfl,?_⟩
  by_cases c1:enR r=s'.f
  ·rw[if_pos (by rw[c1])]
   refine⟨_,SqT.of ha,.int r.r,rfl,_,SqT.of hb,.int s'.r,rfl,rfl,?_⟩
   by_cases c2:r.r=s'.r
   ·rw[if_pos (by rw[c2])]
    refine⟨_,SqT.of hb,_,rfl,r,_,rfl,hR,fun u H1 s1 hu1=>⟨_,SqT.of (s1 _ _ hb),uv,rfl,ak4 hu1 (hu.same s1) ?_⟩⟩
    have e:go r s'=decide (tf r s'.f=s'.t):=by unfold go;rw[decide_eq_true c1,decide_eq_true c2,Bool.true_and,Bool.true_and]
    have:=q _ s1
    rw[e] at this
    exact this
   ·rw[if_neg (fun z=>c2 (V.int.inj z))]
    have e:go r s'=false:=by unfold go;rw[decide_eq_false c2,Bool.and_false,Bool.false_and]
    have:=q _ aab
    rw[e] at this
    exact this
  ·rw[if_neg (fun z=>c1 (V.int.inj z))]
   have e:go r s'=false:=by unfold go;rw[decide_eq_false c1,Bool.false_and,Bool.false_and]
   have:=q _ aab
   rw[e] at this
   exact this
theorem agv {α β:Type} {F:α→β→Prop} {y:β}:∀{ys:List β} {xs:List α},Paired F xs (ys++[y])→∃zs z,xs=zs++[z]∧Paired F zs ys∧F z y
 |[],_,.cons r .nil=>⟨[],_,rfl,.nil,r⟩
 |_::_,_,.cons r t=>by
  obtain⟨zs,z,e,h1,h2⟩:=agv t
  exact⟨_::zs,z,by rw[e];rfl,.cons r h1,h2⟩
theorem agw:∀(l acc:List Rn),(l.foldl jstep acc).length≤acc.length+l.length
 |[],acc=>Nat.le_refl _
 |r::l,acc=>by
  rw[List.foldl_cons]
  refine Nat.le_trans (agw l _) ?_
  have:(jstep acc r).length≤acc.length+1:=by
   unfold jstep
   cases h:acc.getLast? with
   |none=>simp
   |some x=>
    simp only
    split
    ·rw[List.length_append,List.length_dropLast,List.length_singleton]
     cases acc with
     |nil=>cases h
     |cons a acc=>simp
    ·simp
  rw[List.length_cons]
  omega
theorem ajq {acc:List Rn} {l r:Rn} (h:go l r=false):jstep (acc++[l]) r=acc++[l]++[r]:=by
 unfold jstep
 rw[List.getLast?_concat]
 show (if go l r=true then _ else _)=_
 rw[h];rfl
theorem aiv {acc:List Rn} {l r:Rn} (h:go l r=true):jstep (acc++[l]) r=acc++[⟨l.f,l.m+r.m,l.r,l.t⟩]:=by
 unfold jstep
 rw[List.getLast?_concat]
 show (if go l r=true then _ else _)=_
 rw[if_pos h,List.dropLast_concat]
noncomputable def afw (K:PySem.W.Frag):Sp:=fun vs H Q _=>∃(a:Addr) (ws:List V) (rs:List Rn),vs=[.ref a]∧SqL K H a ws∧RunsAt H ws rs∧rs.length≤1000000∧∀t us H',Same H H'→H t=none→H' t=some (.lst us)→RunsAt H' us (jn rs)→Q (.ref t) H'
theorem ajr (T:Txt K mg A):Have P w K mg base "joined" 3 ["runs"] [] (afw K):=by
 have H_goes_on:=aiu (P:=P) (w:=w) (base:=base) T
 refine T.r_joined.have ac9 (fun vs H Q E z=>?_) ?_
 ·obtain⟨a,ws,rs,rfl,_⟩:=z;rfl
 ·intro f cdv A' outer s H vs Q E hr z
  obtain⟨a,ws,rs,rfl,ha,hR,hlen,q⟩:=z
  refine⟨_,(aak (aa6 (i:=1) ac9.nd rfl (Or.inl rfl) (abx aac))
   (aak (ah8 PassesOwn.leaving rfl (acx (pvM 0)) (aco (i:=2) ac9.nd rfl (Or.inl rfl)) (aah (ab2 (PW.pt (pw_and (aa5 aja (abc ac5 rfl T.b_len PySem.boot_len (aaa (pvM 1) aac)) aad (nomark _)) (aki (adq (aai H_goes_on (hr.mono (by decide)) aaj (aaa (aa0 abn (pvM 1) (akj ah7 aad) (fun _ _=>rfl)) (aaa (pvM 2) aac))))))) (aak (aa6 (i:=3) ac9.nd rfl (Or.inl rfl) (pe_bm0 PySem.F.plainAttrs_list PySem.F.slot_list_pop PySem.F.type_list_pop mt_pop (pvM 1)))
   (aah (abj (akp PySem.F.plainAttrs_list PySem.F.slot_list_append PySem.F.type_list_append ad6 (pvM 1) (aaa (abz (aaa (aa0 abq (pvM 3) aad (fun _ _=>rfl)) (aaa (aan aa7 (aa0 abq (pvM 3) aad (fun _ _=>rfl)) (aa0 abq (pvM 2) aad (fun _ _=>rfl))) (aaa (aa0 abq (pvM 3) aad (fun _ _=>rfl)) (aaa (aa0 abq (pvM 3) aad (fun _ _=>rfl)) aac))))) aac))))) (aah (abj (akp PySem.F.plainAttrs_list PySem.F.slot_list_append PySem.F.type_list_append ad6 (pvM 1) (aaa (pvM 2) aac)))))))
   (aah (aa2 (pvM 1))))),?_⟩
  unfold aem
  walk_at "wp"
  intro t ht
  have sm0:=aae (o:=.lst []) aab ht
  have hwl:ws.length=rs.length:=Paired.length hR
  refine⟨⟨_,sm0.seq ha⟩,afm (xs:=ws) (fun i σ H'=>∃us v2 v3,σ=[some (.ref a),some (.ref t),v2,v3]∧Same H H'∧H' t=some (.lst us)∧RunsAt H' us ((rs.take i).foldl jstep [])) ⟨[],_,_,rfl,sm0,aaf,.nil⟩ (fun i σ H' _ ⟨_,_,_,_,e,_⟩=>e.seq ha) (fun i x σ H' hi=>?_) (fun σ H'=>?_)⟩
  ·rintro⟨us,v2,v3,rfl,sm,ht',hU⟩
   obtain⟨r,hr1,hr2⟩:=acr hR hi
   have hrx:=hr2.same sm
   have htk:rs.take (i+1)=rs.take i++[r]:=by rw[List.take_add_one,hr1];rfl
   have hul:us.length≤i:=by
    have h1:=Paired.length hU
    have h2:=agw (rs.take i) []
    rw[List.length_take] at h2
    simp only[List.length_nil] at h2
    omega
   have hil:i < rs.length:=(List.getElem?_eq_some_iff.mp hr1).1
   rw[htk,List.foldl_append,List.foldl_cons,List.foldl_nil]
   generalize (rs.take i).foldl jstep []=acc at *
   walk_at "wp"
   refine⟨us.length,.inl ⟨_,SqL.of ht',rfl⟩,?_⟩
   rcases hacc:acc.getLast? with _|l
   ·have e0:acc=[]:=List.getLast?_eq_none_iff.mp hacc
    subst e0
    cases hU
    rw[if_neg (show ¬(0:Int) < (([]:List V).length:Int) from fun z=>absurd z (by decide))]
    refine iteF ⟨.inl ⟨rfl,_,SqL.of ht'⟩,_,ht',by show 0 < 16777216;decide,abw sm ht,_,rfl,?_⟩
    exact .cons (hrx.same2 ht' sm) .nil
   ·obtain⟨acc0,rfl⟩:=ae1 hacc
    obtain⟨us0,y,rfl,hU0,hy⟩:=agv hU
    have hpos:(0:Int) < ((us0++[y]).length:Int):=by rw[List.length_append,List.length_singleton];omega
    rw[if_pos hpos]
    refine⟨_,SqL.of ht',y,?_,l,hy,r,hrx,fun H1 s1=>?_⟩
    ·unfold atI ixN
     rw[if_neg (by decide),if_pos (by rw[List.length_append,List.length_singleton];omega)]
     show (us0++[y])[(-1+((us0++[y]).length:Int)).toNat]?=some y
     rw[List.length_append,List.length_singleton,show (-1+((us0.length+1:Nat):Int)).toNat=us0.length by omega,List.getElem?_append_right (Nat.le_refl _),Nat.sub_self]
     rfl
    have ht1:=s1 _ _ ht'
    have sm1:=sm.trans s1
    cases hg:go l r with
    |true=>
     refine iteT ⟨.inl ⟨rfl,_,SqL.of ht1⟩,_,ht1,y,by rw[List.length_append,List.length_singleton,Nat.add_sub_cancel,List.getElem?_append_right (Nat.le_refl _),Nat.sub_self];rfl,?_⟩
     rw[List.dropLast_concat]
     have hy2:RunAt (upd H1 t (.lst us0)) y l:=(hy.same s1).same2 ht1 sm1
     have hx2:RunAt (upd H1 t (.lst us0)) x r:=(hrx.same s1).same2 ht1 sm1
     obtain⟨c,cv,rfl,hc,hcv⟩:=id hy2
     obtain⟨d,dv,rfl,hd,hdv⟩:=id hx2
     walk_at "wp"
     refine⟨.inl ⟨rfl,_,SqL.of aaf⟩,_,SqT.of hc,_,rfl,_,SqT.of hc,_,rfl,_,SqT.of hd,_,rfl,_,rfl,_,rfl,_,SqT.of hc,_,rfl,_,SqT.of hc,_,rfl,fun e he=>?_⟩
     have se:=aae (o:=.tup [V.int l.f,V.int (l.m+r.m),V.int l.r,cv]) aab he
     have hte:=se _ _ (aaf (H:=H1) (a:=t) (o:=.lst us0))
     have sme:=aae (o:=.tup [V.int l.f,V.int (l.m+r.m),V.int l.r,cv]) (abw (o:=.lst us0) sm1 ht) he
     refine⟨us0,hte,by rw[List.length_append,List.length_singleton] at hul;omega,abw sme ht,_,rfl,?_⟩
     rw[aiv hg]
     refine aby (RunsAt.same2 (RunsAt.same (RunsAt.same2 (RunsAt.same hU0 s1) ht1 sm1) se) hte sme) (.cons ?_ .nil)
     exact RunAt.same2 (⟨e,cv,rfl,aaf,hcv.same se⟩:RunAt _ (.ref e) ⟨l.f,l.m+r.m,l.r,l.t⟩) hte sme
    |false=>
     refine iteF ⟨.inl ⟨rfl,_,SqL.of ht1⟩,_,ht1,by rw[List.length_append,List.length_singleton] at *; omega,abw sm1 ht,_,rfl,?_⟩
     rw[ajq hg]
     exact aby (aby (RunsAt.same2 (RunsAt.same hU0 s1) ht1 sm1) (.cons ((hy.same s1).same2 ht1 sm1) .nil)) (.cons ((hrx.same s1).same2 ht1 sm1) .nil)
  ·rintro⟨us,v2,v3,rfl,sm,ht',hU⟩
   walk_at "wp"
   rw[hwl,List.take_length] at hU
   exact q _ _ _ sm ht ht' hU
noncomputable def stF (a:Addr):List (Str×V):=putF "runs" (.ref a) []
theorem acl {a:Addr}:(stF a).lookup ("runs":Str)=some (.ref a):=by rfl
theorem abl {a:Addr} {m:Str} (h:¬m∈(["runs"]:List Str)):(stF a).lookup m=none:=by
 simp only[List.mem_cons,List.not_mem_nil,or_false] at h
 unfold stF
 simp only[acy,h,if_false]
 rfl
noncomputable def StAt (C:Addr) (H:Hp) (p a:Addr) (rs:List Rn):Prop:=∃dx vs,H p=some (.ins C dx (stF a))∧H a=some (.lst vs)∧RunsAt H vs rs
theorem StAt.same {C:Addr} {H H':Hp} {p a:Addr} {rs:List Rn} (h:StAt C H p a rs) (s:Same H H'):StAt C H' p a rs:=let ⟨dx,vs,h1,h2,h3⟩:=h;⟨dx,vs,s _ _ h1,s _ _ h2,RunsAt.same h3 s⟩
theorem StAt.obj {C:Addr} {H:Hp} {p a:Addr} {rs:List Rn} (h:StAt C H p a rs) {m:Str} (hm:¬m∈(["runs"]:List Str)):∃dx fs,H p=some (.ins C dx fs)∧fs.lookup m=none:=let ⟨dx,_,h1,_⟩:=h;⟨dx,_,h1,abl hm⟩
noncomputable def ae5 (K:PySem.W.Frag) (C:Addr):Sp:=fun vs H Q _=>∃(p a:Addr) (rs:List Rn) (x:Int),vs=[.ref p,.int x]∧StAt C H p a rs∧OrdR rs∧rs.length≤1000000∧Q (.int (pb rs x)) H
theorem aiw (T:Txt K mg A):HaveM P w K mg base A.C_Stretches "place_behind" 2 ["self","page"] [] (ae5 K A.C_Stretches):=by
 have H_end_of:=ad0 (P:=P) (w:=w) (base:=base) T
 refine T.r_Stretches_place_behind.have aap (fun vs H Q E z=>?_) ?_
 ·obtain⟨p,a,rs,x,rfl,_⟩:=z;rfl
 ·intro f cdv A' outer s H vs Q E hr z
  obtain⟨p,a,rs,x,rfl,⟨dx,vs,h1,h2,h3⟩,ho,hlen,q⟩:=z
  refine⟨_,(aak (aa6 (i:=2) aap.nd rfl (Or.inl rfl) aad)
   (aak (aa6 (i:=3) aap.nd rfl (Or.inl rfl) (abc ac5 rfl T.b_len PySem.boot_len (aaa (ad4 (pvM 0) rfl) aac)))
   (aak (aih PassesOwn.leaving (aa5 afb (pvM 2) (pvM 3) (nomark _)) (aak (aa6 (i:=4) aap.nd rfl (Or.inl rfl) (aan adg (aan aa7 (pvM 2) (pvM 3)) aad))
   (aah (ab2 (aa5 aja (aai H_end_of (hr.mono (by decide)) aaj (aaa (aa0 abn (ad4 (pvM 0) rfl) (pvM 4) (fun _ _=>rfl)) aac)) (pvM 1) (nomark _)) (aah (aa6 (i:=3) aap.nd rfl (Or.inl rfl) (pvM 4))) (aah (aa6 (i:=2) aap.nd rfl (Or.inl rfl) (aan aa7 (pvM 4) aad)))))))
   (aah (aa2 (pvM 2)))))),?_⟩
  have hvl:vs.length=rs.length:=Paired.length h3
  unfold acs
  walk_at "wp"
  simp only[h1]
  walk_at "wp"
  refine⟨T.cl_Stretches,T.na_Stretches_runs,_,acl,vs.length,.inl ⟨_,SqL.of h2,rfl⟩,?_⟩
  refine ahb (fun mm σ H'=>∃(lo hi:Nat) (v4:Option V),mm=hi - lo∧σ=[some (.ref p),some (.int x),some (.int lo),some (.int hi),v4]∧H'=H∧lo≤pb rs x∧pb rs x≤hi∧hi≤rs.length) vs.length ⟨0,vs.length,_,rfl,rfl,rfl,Nat.zero_le _,by rw[hvl];exact pb_le,by omega⟩ (fun mm σ H'=>?_)
  rintro⟨lo,hi,v4,rfl,rfl,rfl,k1,k2,k3⟩
  walk_at "wp"
  by_cases c:(lo:Int) < (hi:Int)
  ·rw[if_pos c]
   refine turnW ?_
   walk_at "wp"
   have hmid:(lo+hi) / 2 < vs.length:=by omega
   obtain⟨r,hr1,hr2⟩:=acr h3 (List.getElem?_eq_getElem hmid)
   have hat:=aag (List.getElem?_eq_getElem hmid)
   have em:((lo:Int)+(hi:Int)) / 2=(((lo+hi) / 2:Nat):Int):=by omega
   have hpb:=pb_at ho (p:=x) hr1
   rw[em]
   refine⟨_,dx,_,h1,T.cl_Stretches,T.na_Stretches_runs,_,acl,a,rfl,_,SqL.of h2,_,hat,r,hr2,?_⟩
   by_cases c2:x < enR r
   ·rw[if_pos c2]
    have:¬(lo+hi) / 2 < pb rs x:=fun z=>by have:=hpb.mp z;omega
    refine⟨(lo+hi) / 2 - lo,by omega,lo,(lo+hi) / 2,?_⟩
    first
     |exact⟨rfl,rfl,rfl,k1,by omega,by omega⟩
     |exact⟨rfl,k1,by omega,by omega⟩
     |(trace_state;exact⟨rfl,rfl,k1,by omega,by omega⟩)
   ·rw[if_neg c2]
    have:(lo+hi) / 2 < pb rs x:=hpb.mpr (by omega)
    refine⟨hi - ((lo+hi) / 2+1),by omega,(lo+hi) / 2+1,hi,?_⟩
    first
     |exact⟨rfl,rfl,rfl,by omega,k2,k3⟩
     |exact⟨rfl,by omega,k2,k3⟩
     |(trace_state;exact⟨rfl,by omega,rfl,by omega,k2,k3⟩)
  ·rw[if_neg c]
   have e:pb rs x=lo:=by omega
   rw[e] at q
   exact q
theorem ae6 {xs:List V} {lo hi:Nat}:cutV xs (some (lo:Int)) (some (hi:Int))=(xs.take hi).drop lo:=by
 unfold cutV
 show (xs.drop (if (lo:Int) < 0 then ((lo:Int)+(xs.length:Int)).toNat else min (lo:Int).toNat xs.length)).take ((if (hi:Int) < 0 then ((hi:Int)+(xs.length:Int)).toNat else min (hi:Int).toNat xs.length) - (if (lo:Int) < 0 then ((lo:Int)+(xs.length:Int)).toNat else min (lo:Int).toNat xs.length))=_
 rw[if_neg (by omega),if_neg (by omega),Int.toNat_natCast,Int.toNat_natCast,List.drop_take]
 refine List.ext_getElem? fun k=>?_
 rw[List.getElem?_take,List.getElem?_take,List.getElem?_drop,List.getElem?_drop]
 by_cases h1:k < hi - lo
 ·rw[if_pos h1]
  by_cases h2:k < min hi xs.length - min lo xs.length
  ·rw[if_pos h2,Nat.min_eq_left (by omega)]
  ·rw[if_neg h2,List.getElem?_eq_none_iff.mpr (by omega)]
 ·rw[if_neg h1]
  by_cases h2:k < min hi xs.length - min lo xs.length
  ·rw[if_pos h2,List.getElem?_eq_none_iff.mpr (by omega)]
  ·rw[if_neg h2]
theorem ak5 {xs:List V} {hi:Nat}:cutV xs none (some (hi:Int))=xs.take hi:=by
 unfold cutV
 show (xs.drop 0).take ((if (hi:Int) < 0 then ((hi:Int)+(xs.length:Int)).toNat else min (hi:Int).toNat xs.length) - 0)=_
 rw[if_neg (by omega),Int.toNat_natCast,List.drop_zero,Nat.sub_zero]
 rcases Nat.le_total hi xs.length with h|h
 ·rw[Nat.min_eq_left h]
 ·rw[Nat.min_eq_right h,List.take_length,List.take_of_length_le h]
theorem aix {xs:List V} {lo:Nat}:cutV xs (some (lo:Int)) none=xs.drop lo:=by
 unfold cutV
 show (xs.drop (if (lo:Int) < 0 then ((lo:Int)+(xs.length:Int)).toNat else min (lo:Int).toNat xs.length)).take (xs.length - (if (lo:Int) < 0 then ((lo:Int)+(xs.length:Int)).toNat else min (lo:Int).toNat xs.length))=_
 rw[if_neg (by omega),Int.toNat_natCast]
 rcases Nat.le_total lo xs.length with h|h
 ·rw[Nat.min_eq_left h]
  exact List.take_of_length_le (by rw[List.length_drop];omega)
 ·rw[Nat.min_eq_right h,Nat.sub_self,List.take_zero,List.drop_eq_nil_of_le h]
noncomputable def adc (K:PySem.W.Frag) (C:Addr):Sp:=fun vs H Q _=>∃(p a:Addr) (rs:List Rn) (x n:Int),vs=[.ref p,.int x,.int n]∧StAt C H p a rs∧OrdR rs∧rs.length≤1000000∧∀t us H',Same H H'→H t=none→H' t=some (.lst us)→RunsAt H' us (pam rs x n)→Q (.ref t) H'
theorem ae7 (T:Txt K mg A):HaveM P w K mg base A.C_Stretches "parts_amid" 4 ["self","first","many"] [] (adc K A.C_Stretches):=by
 have H_part_of:=afv (P:=P) (w:=w) (base:=base) T
 have H_Stretches_place_behind:=aiw (P:=P) (w:=w) (base:=base) T
 refine T.r_Stretches_parts_amid.have abi (fun vs H Q E z=>?_) ?_
 ·obtain⟨p,a,rs,x,n,rfl,_⟩:=z;rfl
 ·intro f cdv A' outer s H vs Q E hr z
  obtain⟨p,a,rs,x,n,rfl,hS,ho,hlen,q⟩:=z
  obtain⟨dx,vs,h1,h2,h3⟩:=id hS
  refine⟨_,(aak (aa6 (i:=3) abi.nd rfl (Or.inr rfl) (aan aa7 (pvM 1) (pvM 2)))
   (aak (aa6 (i:=4) abi.nd rfl (Or.inl rfl) (ac6 ad5 (ad4 (pvM 0) rfl) (acp (aao (pvM 0) T.cl_Stretches H_Stretches_place_behind (hr.mono (by decide)) aaj (aaa (pvM 1) aac))) (acp (aan aa7 (aao (pvM 0) T.cl_Stretches H_Stretches_place_behind (hr.mono (by decide)) aaj (aaa (pvM 3) aac)) aad))))
   (aah (aa2 (aig rfl (acx (pvM 4)) (x:="run") (fs:=["first","end"]) (ix:=[1,3]) rfl rfl (fun _ _ _ _ _ _=>(aco (i:=0) (show (["run","first","end"]:List Str).Nodup by decide+kernel) rfl (Or.inl rfl))) (fun _ _ _ _ _ _=>(aif (aa5 afb (aa0 (abk (K:=K) rfl) (pvM 0) aad (fun _ _=>rfl)) (pvM 2) (nomark _)))) (fun _ _ _ _ _ _=>(aai H_part_of (hr.mono (by decide)) aid (aaa (pvM 0) (aaa (pvM 1) (aaa (pvM 2) aac)))))))))),?_⟩
  unfold adp ae5
  walk_at "wp"
  simp only[h1]
  walk_at "wp"
  refine⟨T.cl_Stretches,T.na_Stretches_runs,_,acl,abl (by decide+kernel),a,rs,hS,ho,hlen,abl (by decide+kernel),a,rs,hS,ho,hlen,?_⟩
  refine⟨a,rfl,_,SqL.of h2,fun sl hsl=>⟨⟨_,SqL.of aaf⟩,?_⟩⟩
  have ecut:cutV vs (some ((pb rs x:Nat):Int)) (some (((pb rs (x+n):Nat):Int)+1))=(vs.take (pb rs (x+n)+1)).drop (pb rs x):=ae6 (hi:=pb rs (x+n)+1)
  rw[ecut]
  have hnear:RunsAt H ((vs.take (pb rs (x+n)+1)).drop (pb rs x)) (cutR rs (pb rs x) (pb rs (x+n)+1)):=adz _ (ady _ h3)
  have q':∀t us H',Same H H'→H t=none→H' t=some (.lst us)→RunsAt H' us (((cutR rs (pb rs x) (pb rs (x+n)+1)).filter fun r=>decide (r.f < x+n)).map fun r=>poR r x (x+n))→Q (.ref t) H':=q
  have hnl:(cutR rs (pb rs x) (pb rs (x+n)+1)).length≤1000000:=by
   unfold cutR
   rw[List.length_drop,List.length_take]
   omega
  generalize (vs.take (pb rs (x+n)+1)).drop (pb rs x)=nv at *
  generalize cutR rs (pb rs x) (pb rs (x+n)+1)=near at *
  intro D hD
  have s1:=aae (o:=.lst nv) aab hsl
  have hnvl:nv.length=near.length:=Paired.length hnear
  refine aca (xs:=nv) (fun i ys σ H'=>∃v,σ=[v,some (.int x),some (.int (x+n))]∧Same (upd H sl (.lst nv)) H'∧H' D=some (.lst ys)∧RunsAt H' ys (((near.take i).filter fun r=>decide (r.f < x+n)).map fun r=>poR r x (x+n))) ⟨_,rfl,aae aab hD,aaf,.nil⟩ (fun i ys σ H' _ ⟨_,_,s2,_⟩=>SqL.of (s2 _ _ aaf)) (fun i v ys σ H' hi=>?_) (fun ys σ H'=>?_)
  ·rintro⟨v0,rfl,s2,hDD,hys⟩
   obtain⟨r,hr1,hr2⟩:=acr hnear hi
   have hrx:=hr2.same (s1.trans s2)
   have htk:near.take (i+1)=near.take i++[r]:=by rw[List.take_add_one,hr1];rfl
   have hil:i < near.length:=(List.getElem?_eq_some_iff.mp hr1).1
   have hyl:ys.length≤i:=by
    have h4:=Paired.length hys
    rw[List.length_map] at h4
    have h5:=List.length_filter_le (fun r:Rn=>decide (r.f < x+n)) (near.take i)
    rw[List.length_take] at h5
    omega
   rw[htk,List.filter_append,List.map_append]
   obtain⟨c,cv,rfl,hc,hcv⟩:=id hrx
   walk_at "wp"
   refine⟨_,SqT.of hc,_,rfl,_,rfl,?_⟩
   by_cases c1:r.f < x+n
   ·rw[if_pos c1]
    refine⟨r,hrx,fun u H2 s3 hu=>?_⟩
    have hD2:=s3 _ _ hDD
    have hu2:RunAt (upd H2 D (.lst (ys++[u]))) u (poR r x (x+n)):=RunAt.same2 (H:=H2) hu hD2 aab
    have hys2:RunsAt (upd H2 D (.lst (ys++[u]))) ys (((near.take i).filter fun r=>decide (r.f < x+n)).map fun r=>poR r x (x+n)):=RunsAt.same2 (H:=H2) (RunsAt.same hys s3) hD2 aab
    refine⟨hD2,by omega,abw (s2.trans s3) hD,?_⟩
    have ef:[r].filter (fun r=>decide (r.f < x+n))=[r]:=by rw[List.filter_cons,decide_eq_true c1];rfl
    rw[ef]
    exact aby hys2 (.cons hu2 .nil)
   ·rw[if_neg c1]
    have ef:[r].filter (fun r=>decide (r.f < x+n))=[]:=by rw[List.filter_cons,decide_eq_false c1];rfl
    rw[ef,List.map_nil,List.append_nil]
    exact⟨s2,hDD,hys⟩
  ·rintro⟨v0,rfl,s2,hDD,hys⟩
   rw[hnvl,List.take_length] at hys
   exact q' _ _ _ (s1.trans s2) (aip s1 hD) hDD hys
noncomputable def aiy (C:Addr):Sp:=fun vs H Q _=>∃(p a:Addr) (rs:List Rn) (x n:Int),vs=[.ref p,.int x,.int n]∧StAt C H p a rs∧OrdR rs∧rs.length≤1000000∧∀H',Same H H'→Q (.bl (decide (pam rs x n=[]))) H'
theorem h_free (T:Txt K mg A):HaveM P w K mg base A.C_Stretches "is_free" 5 ["self","first","many"] [] (aiy A.C_Stretches):=by
 have H_Stretches_parts_amid:=ae7 (P:=P) (w:=w) (base:=base) T
 refine T.r_Stretches_is_free.have acv (fun vs H Q E z=>?_) ?_
 ·obtain⟨p,a,rs,x,n,rfl,_⟩:=z;rfl
 ·intro f cdv A' outer s H vs Q E hr z
  obtain⟨p,a,rs,x,n,rfl,hS,ho,hlen,q⟩:=z
  obtain⟨dx,vs,h1,h2,h3⟩:=id hS
  refine⟨_,(aah (aa2 (adh afa (abc ac5 rfl T.b_len PySem.boot_len (aaa (aao (pvM 0) T.cl_Stretches H_Stretches_parts_amid (hr.mono (by decide)) aaj (aaa (pvM 1) (aaa (pvM 2) aac))) aac)) aad (nomark _)))),?_⟩
  unfold adc
  walk_at "wp"
  simp only[h1]
  walk_at "wp"
  refine⟨abl (by decide+kernel),a,rs,hS,ho,hlen,fun t us H1 s1 ht0 ht hU=>⟨us.length,.inl ⟨_,SqL.of ht,rfl⟩,?_⟩⟩
  have hl:=Paired.length hU
  have e:decide ((us.length:Int)=0)=decide (pam rs x n=[]):=by
   rw[decide_eq_decide,←List.length_eq_zero_iff,←hl]
   omega
  rw[e]
  exact q _ s1
noncomputable def aiz (C:Addr):Sp:=fun vs H Q _=>∃(p a:Addr) (rs:List Rn) (x n:Int),vs=[.ref p,.int x,.int n]∧StAt C H p a rs∧OrdR rs∧rs.length≤1000000∧∀H',Same H H'→Q (.bl (decide (((pam rs x n).map (·.m)).sum=n))) H'
theorem h_full (T:Txt K mg A):HaveM P w K mg base A.C_Stretches "is_full" 5 ["self","first","many"] [] (aiz A.C_Stretches):=by
 have H_Stretches_parts_amid:=ae7 (P:=P) (w:=w) (base:=base) T
 refine T.r_Stretches_is_full.have acw (fun vs H Q E z=>?_) ?_
 ·obtain⟨p,a,rs,x,n,rfl,_⟩:=z;rfl
 ·intro f cdv A' outer s H vs Q E hr z
  obtain⟨p,a,rs,x,n,rfl,hS,ho,hlen,q⟩:=z
  obtain⟨dx,vs,h1,h2,h3⟩:=id hS
  refine⟨_,(aah (aa2 (adh afa (abc (ajj rfl) rfl T.b_sum (by decide+kernel) (aaa (aig rfl (acx (aao (pvM 0) T.cl_Stretches H_Stretches_parts_amid (hr.mono (by decide)) aaj (aaa (pvM 1) (aaa (pvM 2) aac)))) (x:="part") (fs:=[]) (ix:=[]) rfl rfl (fun _ _ _ _ _ _=>(aco (i:=0) (show (["part"]:List Str).Nodup by decide+kernel) rfl (Or.inl rfl))) (fun _ _ _ _ _ _=>aie) (fun _ _ _ _ _ _=>(aa0 (abk (K:=K) rfl) (pvM 0) aad (fun _ _=>rfl)))) aac)) (pvM 2) (nomark _)))),?_⟩
  unfold adc
  walk_at "wp"
  simp only[h1]
  walk_at "wp"
  refine⟨abl (by decide+kernel),a,rs,hS,ho,hlen,fun t us H1 s1 ht0 ht hU=>⟨⟨_,SqL.of ht⟩,fun D hD=>?_⟩⟩
  refine aca (xs:=us) (fun i ys σ H'=>∃v,σ=[v]∧Same H1 H'∧H' D=some (.lst ys)∧ys=(((pam rs x n).take i).map (·.m)).map V.int) ⟨_,rfl,aae aab hD,aaf,rfl⟩ (fun i ys σ H' _ ⟨_,_,s2,_⟩=>SqL.of (s2 _ _ ht)) (fun i v ys σ H' hi=>?_) (fun ys σ H'=>?_)
  ·rintro⟨v0,rfl,s2,hDD,rfl⟩
   obtain⟨r,hr1,hr2⟩:=acr hU hi
   obtain⟨c,cv,rfl,hc,hcv⟩:=hr2.same s2
   have htk:(pam rs x n).take (i+1)=(pam rs x n).take i++[r]:=by rw[List.take_add_one,hr1];rfl
   have hpl:(pam rs x n).length≤1000000:=by
    unfold pam cutR
    rw[List.length_map]
    refine Nat.le_trans (List.length_filter_le _ _) ?_
    rw[List.length_drop,List.length_take]
    omega
   walk_at "wp"
   refine⟨_,SqT.of hc,_,rfl,hDD,by rw[List.length_map,List.length_map,List.length_take];omega,abw s2 hD,?_⟩
   rw[htk,List.map_append,List.map_append];rfl
  ·rintro⟨v0,rfl,s2,hDD,rfl⟩
   rw[Paired.length hU,List.take_length] at hDD
   exact⟨_,SqL.of hDD,q _ (s1.trans s2)⟩
noncomputable def ahj (C:Addr):Sp:=fun vs H Q _=>∃(p a:Addr) (rs:List Rn),vs=[.ref p]∧StAt C H p a rs∧∀t us,H t=none→RunsAt (upd H t (.lst us)) us rs→Q (.ref t) (upd H t (.lst us))
theorem ai0 (T:Txt K mg A):HaveM P w K mg base A.C_Stretches "told" 1 ["self"] [] (ahj A.C_Stretches):=by
 refine T.r_Stretches_told.have adm (fun vs H Q E z=>?_) ?_
 ·obtain⟨p,a,rs,rfl,_⟩:=z;rfl
 ·intro f cdv A' outer s H vs Q E hr z
  obtain⟨p,a,rs,rfl,hS,q⟩:=z
  obtain⟨dx,vs,h1,h2,h3⟩:=id hS
  refine⟨_,(aah (aa2 (afh afj rfl T.b_list PyProof.Rows.boot_list (aaa (ad4 (pvM 0) rfl) aac)))),?_⟩
  walk_at "wp"
  simp only[h1]
  walk_at "wp"
  refine⟨T.cl_Stretches,T.na_Stretches_runs,_,acl,a,rfl,_,.inl (SqL.of h2),fun t ht=>?_⟩
  exact q t vs ht (RunsAt.same h3 (aae aab ht))
noncomputable def akb (C:Addr):Sp:=fun vs H Q _=>∃(p a:Addr) (rs:List Rn) (x:Int),vs=[.ref p,.int x]∧StAt C H p a rs∧OrdR rs∧rs.length≤1000000∧∀v H',Same H H'→((v=.non∧pm rs x=none)∨∃y,RunAt H' v y∧pm rs x=some (y.r,y.t))→Q v H'
theorem h_pat (T:Txt K mg A):HaveM P w K mg base A.C_Stretches "part_at" 5 ["self","page"] [] (akb A.C_Stretches):=by
 have H_Stretches_parts_amid:=ae7 (P:=P) (w:=w) (base:=base) T
 refine T.r_Stretches_part_at.have ab0 (fun vs H Q E z=>?_) ?_
 ·obtain⟨p,a,rs,x,rfl,_⟩:=z;rfl
 ·intro f cdv A' outer s H vs Q E hr z
  obtain⟨p,a,rs,x,rfl,hS,ho,hlen,q⟩:=z
  obtain⟨dx,vs,h1,h2,h3⟩:=id hS
  refine⟨_,(aak (aa6 (i:=2) ab0.nd rfl (Or.inl rfl) (aao (pvM 0) T.cl_Stretches H_Stretches_parts_amid (hr.mono (by decide)) aaj (aaa (pvM 1) (aaa aad aac))))
   (aah (aa2 (agg (aa5 aja (abc ac5 rfl T.b_len PySem.boot_len (aaa (pvM 2) aac)) aad (nomark _)) (aa0 abn (pvM 2) aad (fun _ _=>rfl)) ac3)))),?_⟩
  unfold adc
  walk_at "wp"
  simp only[h1]
  walk_at "wp"
  refine⟨abl (by decide+kernel),a,rs,hS,ho,hlen,fun t us H1 s1 ht0 ht hU=>⟨us.length,.inl ⟨_,SqL.of ht,rfl⟩,?_⟩⟩
  rcases ak3 (p:=x) ho with ⟨e1,e2⟩|⟨y,e1,e2⟩
  ·rw[e1] at hU
   cases hU
   rw[if_neg (show ¬(0:Int) < (([]:List V).length:Int) from fun z=>absurd z (by decide))]
   exact q _ _ s1 (.inl ⟨rfl,e2⟩)
  ·rw[e1] at hU
   cases hU with
   |cons hy hn=>
    cases hn
    rw[if_pos (show (0:Int) < (([_]:List V).length:Int) from by show (0:Int) < 1;decide)]
    exact⟨_,SqL.of ht,_,aag (j:=0) rfl,q _ _ s1 (.inr ⟨y,hy,e2⟩)⟩
noncomputable def oR:Option (Int×Option (Int×Int))→V
 |none=>.non
 |some (r,_)=>.int r
noncomputable def sp_rat (C:Addr):Sp:=fun vs H Q _=>∃(p a:Addr) (rs:List Rn) (x:Int),vs=[.ref p,.int x]∧StAt C H p a rs∧OrdR rs∧rs.length≤1000000∧∀H',Same H H'→Q (oR (pm rs x)) H'
theorem h_rat (T:Txt K mg A):HaveM P w K mg base A.C_Stretches "rights_at" 6 ["self","page"] [] (sp_rat A.C_Stretches):=by
 have H_Stretches_part_at:=h_pat (P:=P) (w:=w) (base:=base) T
 refine T.r_Stretches_rights_at.have abr (fun vs H Q E z=>?_) ?_
 ·obtain⟨p,a,rs,x,rfl,_⟩:=z;rfl
 ·intro f cdv A' outer s H vs Q E hr z
  obtain⟨p,a,rs,x,rfl,hS,ho,hlen,q⟩:=z
  obtain⟨dx,vs,h1,h2,h3⟩:=id hS
  refine⟨_,(aak (aa6 (i:=2) abr.nd rfl (Or.inl rfl) (aao (pvM 0) T.cl_Stretches H_Stretches_part_at (hr.mono (by decide)) aaj (aaa (pvM 1) aac)))
   (aah (aa2 (agg (aa5 aj2 (pvM 2) ac3 (nomark _)) ac3 (aa0 abq (pvM 2) aad (fun _ _=>rfl)))))),?_⟩
  unfold akb
  walk_at "wp"
  simp only[h1]
  walk_at "wp"
  refine⟨abl (by decide+kernel),a,rs,hS,ho,hlen,fun v H1 s1 h=>?_⟩
  rcases h with ⟨rfl,e⟩|⟨y,hy,e⟩
  ·rw[if_pos rfl]
   have:=q _ s1
   rw[e] at this
   exact this
  ·obtain⟨c,cv,rfl,hc,hcv⟩:=hy
   rw[if_neg (fun z=>nomatch z)]
   have:=q _ s1
   rw[e] at this
   first
    |exact⟨_,SqT.of hc,_,rfl,this⟩
    |(walk_at "wp";exact⟨_,SqT.of hc,_,rfl,this⟩)
noncomputable def ai1 (C:Addr):Sp:=fun vs H Q _=>∃(p dx:Addr),vs=[.ref p]∧H p=some (.ins C dx [])∧∀a,H a=none→Q .non (upd (upd H a (.lst [])) p (.ins C dx (stF a)))
theorem ai2 (T:Txt K mg A):HaveI P w K mg base "Stretches" A.C_Stretches 1 ["self"] [] (ai1 A.C_Stretches):=by
 refine T.r_Stretches_init.have adl (fun vs H Q E z=>?_) ?_
 ·obtain⟨p,dx,rfl,_⟩:=z;rfl
 ·intro f cdv A' outer s H vs Q E hr z
  obtain⟨p,dx,rfl,hp,q⟩:=z
  refine⟨_,(aah (aj3 (pvM 0) (abx aac) rfl)),?_⟩
  walk_at "wp"
  intro a ha
  have hpa:p≠a:=aau hp ha
  refine⟨_,dx,[],by rw[aaw hpa];exact hp,T.cl_Stretches,T.na_Stretches_runs,by show 0 < 1000;decide,?_⟩
  exact q a ha
noncomputable def ak6 (O:Addr):Sp:=fun vs H Q E=>∃x:V,vs=[x]∧Kn H x∧if within x 0 3=true then Q .non H else E (.ref O) none H
theorem h_cr (T:Txt K mg A):Have P w K mg base "check_rights" 3 ["rights"] [] (ak6 A.C_BadRights):=by
 have H_is_within:=agb (P:=P) (w:=w) (base:=base) T
 refine T.r_check_rights.have ad8 (fun vs H Q E z=>?_) ?_
 ·obtain⟨x,rfl,_⟩:=z;rfl
 ·intro f cdv A' outer s H vs Q E hr z
  obtain⟨x,rfl,hk,q⟩:=z
  refine⟨_,(aah (ab2 (aed (adq (aai H_is_within (hr.mono (by decide)) aaj (aaa (pvM 0) (aaa aad (aaa (acd rfl T.c_MOST_RIGHTS) aac)))))) (aah (aet ah5 rfl T.x_BadRights (aaa abd aac))) abg)),?_⟩
  unfold sp_is_within
  walk_at "wp"
  refine⟨hk,?_⟩
  cases e:within x 0 3 with
  |true=>rw[e,if_pos rfl] at q;exact iteF q
  |false=>rw[e,if_neg (show ¬false=true by decide)] at q;exact iteT q
noncomputable def Bu (p:Addr) (H H':Hp):Prop:=∀c o,H c=some o→c≠p→H' c=some o
noncomputable def agx (C:Addr):Sp:=fun vs H Q _=>∃(p a b:Addr) (rs parts:List Rn) (x n:Int) (ws:List V),vs=[.ref p,.int x,.int n,.ref b]∧StAt C H p a rs∧OrdR rs∧rs.length≤100000∧H b=some (.lst ws)∧RunsAt H ws parts∧parts.length≤100000∧∀a' H',StAt C H' p a' (layR rs x n parts)→Bu p H H'→Q .non H'
theorem ak7 (T:Txt K mg A):HaveM P w K mg base A.C_Stretches "lay_amid" 5 ["self","first","many","parts"] [] (agx A.C_Stretches):=by
 have H_part_of:=afv (P:=P) (w:=w) (base:=base) T
 have H_end_of:=ad0 (P:=P) (w:=w) (base:=base) T
 have H_joined:=ajr (P:=P) (w:=w) (base:=base) T
 have H_Stretches_place_behind:=aiw (P:=P) (w:=w) (base:=base) T
 refine T.r_Stretches_lay_amid.have aat (fun vs H Q E z=>?_) ?_
 ·obtain⟨p,a,b,rs,parts,x,n,ws,rfl,_⟩:=z;rfl
 ·intro f cdv A' outer s H vs Q E hr z
  obtain⟨p,a,b,rs,parts,x,n,ws,rfl,hS,ho,hlen,hb,hP,hpl,q⟩:=z
  obtain⟨dx,vs,h1,h2,h3⟩:=id hS
  refine⟨_,(aak (aa6 (i:=4) aat.nd rfl (Or.inr rfl) (aan aa7 (pvM 1) (pvM 2)))
   (aak (aa6 (i:=5) aat.nd rfl (Or.inl rfl) (aao (pvM 0) T.cl_Stretches H_Stretches_place_behind (hr.mono (by decide)) aaj (aaa (aan ab8 (pvM 1) aad) aac)))
   (aak (aa6 (i:=6) aat.nd rfl (Or.inl rfl) (aan aa7 (aao (pvM 0) T.cl_Stretches H_Stretches_place_behind (hr.mono (by decide)) aaj (aaa (pvM 4) aac)) aad))
   (aak (aa6 (i:=7) aat.nd rfl (Or.inl rfl) (ac6 ad5 (ad4 (pvM 0) rfl) (acp (pvM 5)) (acp (pvM 6))))
   (aak (af6 (i:=8) aat.nd rfl rfl rfl (acx (pvM 7)) (x:="run") (fs:=["first"]) (ix:=[1]) rfl rfl (fun _ _ _ _ _ _=>(aco (i:=0) (show (["run","first"]:List Str).Nodup by decide+kernel) rfl (Or.inl rfl))) (fun _ _ _ _ _ _=>(aif (aa5 afb (aa0 (abk (K:=K) rfl) (pvM 0) aad (fun _ _=>rfl)) (pvM 1) (nomark _)))) (fun _ _ _ _ _ _=>(aai H_part_of (hr.mono (by decide)) aid (aaa (pvM 0) (aaa (aa0 (abk (K:=K) rfl) (pvM 0) aad (fun _ _=>rfl)) (aaa (pvM 1) aac))))))
   (aak (af6 (i:=9) aat.nd rfl rfl rfl (acx (pvM 7)) (x:="run") (fs:=["end"]) (ix:=[4]) rfl rfl (fun _ _ _ _ _ _=>(aco (i:=0) (show (["run","end"]:List Str).Nodup by decide+kernel) rfl (Or.inl rfl))) (fun _ _ _ _ _ _=>(aif (aa5 aja (aai H_end_of (hr.mono (by decide)) aid (aaa (pvM 0) aac)) (pvM 1) (nomark _)))) (fun _ _ _ _ _ _=>(aai H_part_of (hr.mono (by decide)) aid (aaa (pvM 0) (aaa (pvM 1) (aaa (aai H_end_of (hr.mono (by decide)) aid (aaa (pvM 0) aac)) aac))))))
   (aah (aj3 (pvM 0) (aan agj (aan agj (ac6 ad5 (ad4 (pvM 0) rfl) ahy (acp (pvM 5))) (aai H_joined (hr.mono (by decide)) aaj (aaa (aan agj (aan agj (pvM 8) (pvM 3)) (pvM 9)) aac))) (ac6 ad5 (ad4 (pvM 0) rfl) (acp (pvM 6)) ahy)) rfl)))))))),?_⟩
  unfold adp acs afw ae5
  walk_at "wp"
  simp only[h1]
  walk_at "wp"
  refine⟨abl (by decide+kernel),a,rs,hS,ho,by omega,abl (by decide+kernel),a,rs,hS,ho,by omega,T.cl_Stretches,T.na_Stretches_runs,_,acl,a,rfl,_,SqL.of h2,fun sl hsl=>⟨⟨_,SqL.of aaf⟩,?_⟩⟩
  have ecut:cutV vs (some ((pb rs (x - 1):Nat):Int)) (some (((pb rs (x+n):Nat):Int)+1))=(vs.take (pb rs (x+n)+1)).drop (pb rs (x - 1)):=ae6 (hi:=pb rs (x+n)+1)
  rw[ecut]
  have hnear:RunsAt H ((vs.take (pb rs (x+n)+1)).drop (pb rs (x - 1))) (cutR rs (pb rs (x - 1)) (pb rs (x+n)+1)):=adz _ (ady _ h3)
  have hnl:(cutR rs (pb rs (x - 1)) (pb rs (x+n)+1)).length≤100000:=by
   unfold cutR
   rw[List.length_drop,List.length_take]
   omega
  have q':∀a' H',StAt A.C_Stretches H' p a' (rs.take (pb rs (x - 1))++jn (((cutR rs (pb rs (x - 1)) (pb rs (x+n)+1)).filter fun r=>decide (r.f < x)).map (fun r=>poR r r.f x)++parts++((cutR rs (pb rs (x - 1)) (pb rs (x+n)+1)).filter fun r=>decide (enR r > x+n)).map (fun r=>poR r (x+n) (enR r)))++rs.drop (pb rs (x+n)+1))→Bu p H H'→Q .non H':=q
  generalize (vs.take (pb rs (x+n)+1)).drop (pb rs (x - 1))=nv at *
  generalize cutR rs (pb rs (x - 1)) (pb rs (x+n)+1)=near at *
  intro D1 hD1
  have s1:=aae (o:=.lst nv) aab hsl
  have hnvl:nv.length=near.length:=Paired.length hnear
  have flen:∀(i:Nat) (g:Rn→Bool),((near.take i).filter g).length≤100000:=fun i g=>Nat.le_trans (List.length_filter_le _ _) (by rw[List.length_take];omega)
  refine aca (xs:=nv) (fun i ys σ H'=>∃v,σ=[v,some (.int x)]∧Same (upd H sl (.lst nv)) H'∧H' D1=some (.lst ys)∧RunsAt H' ys (((near.take i).filter fun r=>decide (r.f < x)).map fun r=>poR r r.f x)) ⟨_,rfl,aae aab hD1,aaf,.nil⟩ (fun i ys σ H' _ ⟨_,_,s2,_⟩=>SqL.of (s2 _ _ aaf)) (fun i v ys σ H' hi=>?_) (fun ys σ H'=>?_)
  ·rintro⟨v0,rfl,s2,hDD,hys⟩
   obtain⟨r,hr1,hr2⟩:=acr hnear hi
   have hrx:=hr2.same (s1.trans s2)
   have htk:near.take (i+1)=near.take i++[r]:=by rw[List.take_add_one,hr1];rfl
   have hyl:ys.length≤100000:=by
    have h4:=Paired.length hys
    rw[List.length_map] at h4
    have:=flen i fun r=>decide (r.f < x)
    omega
   rw[htk,List.filter_append,List.map_append]
   obtain⟨c,cv,rfl,hc,hcv⟩:=id hrx
   walk_at "wp"
   refine⟨_,SqT.of hc,_,rfl,_,rfl,?_⟩
   by_cases c1:r.f < x
   ·rw[if_pos c1]
    refine⟨_,SqT.of hc,_,rfl,r,_,rfl,hrx,fun u H2 s3 hu=>?_⟩
    have hD2:=s3 _ _ hDD
    refine⟨hD2,by omega,abw (s2.trans s3) hD1,?_⟩
    have ef:[r].filter (fun r=>decide (r.f < x))=[r]:=by rw[List.filter_cons,decide_eq_true c1];rfl
    rw[ef]
    exact aby (RunsAt.same2 (H:=H2) (RunsAt.same hys s3) hD2 aab) (.cons (RunAt.same2 (H:=H2) hu hD2 aab) .nil)
   ·rw[if_neg c1]
    have ef:[r].filter (fun r=>decide (r.f < x))=[]:=by rw[List.filter_cons,decide_eq_false c1];rfl
    rw[ef,List.map_nil,List.append_nil]
    exact⟨s2,hDD,hys⟩
  rintro⟨v0,rfl,s2,hA,hys⟩
  rw[hnvl,List.take_length] at hys
  have hsl1:=s2 _ _ (aaf (H:=H) (a:=sl) (o:=.lst nv))
  refine⟨⟨_,SqL.of hsl1⟩,fun D2 hD2=>?_⟩
  have s12:=s1.trans s2
  refine aca (xs:=nv) (fun i zs σ H2=>∃v,σ=[v,some (.int (x+n))]∧Same H' H2∧H2 D2=some (.lst zs)∧RunsAt H2 zs (((near.take i).filter fun r=>decide (enR r > x+n)).map fun r=>poR r (x+n) (enR r))) ⟨_,rfl,aae aab hD2,aaf,.nil⟩ (fun i ys σ H' _ ⟨_,_,s2,_⟩=>SqL.of (s2 _ _ hsl1)) (fun i v zs σ H2 hi=>?_) (fun zs σ H2=>?_)
  ·rintro⟨v0,rfl,s3,hDD,hzs⟩
   obtain⟨r,hr1,hr2⟩:=acr hnear hi
   have hrx:=hr2.same (s12.trans s3)
   have htk:near.take (i+1)=near.take i++[r]:=by rw[List.take_add_one,hr1];rfl
   have hyl:zs.length≤100000:=by
    have h4:=Paired.length hzs
    rw[List.length_map] at h4
    have:=flen i fun r=>decide (enR r > x+n)
    omega
   rw[htk,List.filter_append,List.map_append]
   walk_at "wp"
   refine⟨r,hrx,?_⟩
   by_cases c1:enR r > x+n
   ·rw[if_pos (show x+n < enR r from c1)]
    refine⟨r,hrx,r,hrx,fun u H3 s4 hu=>?_⟩
    have hD3:=s4 _ _ hDD
    refine⟨hD3,by omega,abw (s3.trans s4) hD2,?_⟩
    have ef:[r].filter (fun r=>decide (enR r > x+n))=[r]:=by rw[List.filter_cons,decide_eq_true c1];rfl
    rw[ef]
    exact aby (RunsAt.same2 (H:=H3) (RunsAt.same hzs s4) hD3 aab) (.cons (RunAt.same2 (H:=H3) hu hD3 aab) .nil)
   ·rw[if_neg (show ¬x+n < enR r from c1)]
    have ef:[r].filter (fun r=>decide (enR r > x+n))=[]:=by rw[List.filter_cons,decide_eq_false c1];rfl
    rw[ef,List.map_nil,List.append_nil]
    exact⟨s3,hDD,hzs⟩
  rintro⟨v0,rfl,s3,hB,hzs⟩
  rw[hnvl,List.take_length] at hzs
  have s13:=s12.trans s3
  have sH2:Same H H2:=s13
  refine⟨_,dx,_,s13 _ _ h1,T.cl_Stretches,T.na_Stretches_runs,_,acl,a,rfl,_,SqL.of (s13 _ _ h2),fun q1 hq1=>?_⟩
  rw[ak5]
  have s4:=aae (o:=.lst (vs.take (pb rs (x - 1)))) aab hq1
  have hq1':upd H2 q1 (.lst (vs.take (pb rs (x - 1)))) q1=some (.lst (vs.take (pb rs (x - 1)))):=aaf
  have hA4:=s4 _ _ (s3 _ _ hA)
  have hB4:=s4 _ _ hB
  have hb4:=s4 _ _ (s13 _ _ hb)
  have s14:=s13.trans s4
  generalize upd H2 q1 (.lst (vs.take (pb rs (x - 1))))=H4 at *
  have ly:ys.length≤100000:=by
   have h4:=Paired.length hys
   rw[List.length_map] at h4
   have:=List.length_filter_le (fun r:Rn=>decide (r.f < x)) near
   omega
  have lz:zs.length≤100000:=by
   have h4:=Paired.length hzs
   rw[List.length_map] at h4
   have:=List.length_filter_le (fun r:Rn=>decide (enR r > x+n)) near
   omega
  have lw:ws.length≤100000:=by rw[Paired.length hP];exact hpl
  refine⟨_,hA4,_,hb4,by omega,fun q2 hq2=>?_⟩
  have s5:=aae (o:=.lst (ys++ws)) aab hq2
  have hq2':upd H4 q2 (.lst (ys++ws)) q2=some (.lst (ys++ws)):=aaf
  have hB5:=s5 _ _ hB4
  have hq15:=s5 _ _ hq1'
  have s15:=s14.trans s5
  generalize upd H4 q2 (.lst (ys++ws))=H5 at *
  refine⟨_,rfl,_,hB5,by rw[List.length_append];omega,fun q3 hq3=>?_⟩
  have s6:=aae (o:=.lst (ys++ws++zs)) aab hq3
  have hq3':upd H5 q3 (.lst (ys++ws++zs)) q3=some (.lst (ys++ws++zs)):=aaf
  have hq16:=s6 _ _ hq15
  have s16:=s15.trans s6
  have s26:Same H2 (upd H5 q3 (.lst (ys++ws++zs))):=s4.trans (s5.trans s6)
  generalize upd H5 q3 (.lst (ys++ws++zs))=H6 at *
  have hall:RunsAt H6 (ys++ws++zs) ((near.filter fun r=>decide (r.f < x)).map (fun r=>poR r r.f x)++parts++(near.filter fun r=>decide (enR r > x+n)).map (fun r=>poR r (x+n) (enR r))):=
   aby (aby (RunsAt.same hys (s3.trans s26)) (RunsAt.same hP s16)) (RunsAt.same hzs s26)
  have hallL:((near.filter fun r=>decide (r.f < x)).map (fun r=>poR r r.f x)++parts++(near.filter fun r=>decide (enR r > x+n)).map (fun r=>poR r (x+n) (enR r))).length≤1000000:=by
   rw[←Paired.length hall,List.length_append,List.length_append];omega
  refine⟨_,SqL.of hq3',_,hall,hallL,fun t us H7 s7 ht0 ht hU=>?_⟩
  have s17:=s16.trans s7
  have hus:us.length≤1000000:=by
   rw[Paired.length hU]
   have:=agw ((near.filter fun r=>decide (r.f < x)).map (fun r=>poR r r.f x)++parts++(near.filter fun r=>decide (enR r > x+n)).map (fun r=>poR r (x+n) (enR r))) []
   unfold jn
   simp only[List.length_nil,Nat.zero_add] at this
   omega
  have lv:vs.length≤100000:=by rw[Paired.length h3];exact hlen
  refine⟨_,s7 _ _ hq16,_,ht,by rw[List.length_take];omega,fun q4 hq4=>?_⟩
  have s8:=aae (o:=.lst (vs.take (pb rs (x - 1))++us)) aab hq4
  have hq4':upd H7 q4 (.lst (vs.take (pb rs (x - 1))++us)) q4=some (.lst (vs.take (pb rs (x - 1))++us)):=aaf
  have s18:=s17.trans s8
  generalize upd H7 q4 (.lst (vs.take (pb rs (x - 1))++us))=H8 at *
  refine⟨_,dx,_,s18 _ _ h1,T.cl_Stretches,T.na_Stretches_runs,_,acl,a,rfl,_,SqL.of (s18 _ _ h2),fun q5 hq5=>?_⟩
  have ecf:cutV vs (some (((pb rs (x+n):Nat):Int)+1)) none=vs.drop (pb rs (x+n)+1):=aix (lo:=pb rs (x+n)+1)
  rw[ecf]
  have s9:=aae (o:=.lst (vs.drop (pb rs (x+n)+1))) aab hq5
  have hq5':upd H8 q5 (.lst (vs.drop (pb rs (x+n)+1))) q5=some (.lst (vs.drop (pb rs (x+n)+1))):=aaf
  have hq49:=s9 _ _ hq4'
  have s19:=s18.trans s9
  have s79:=s8.trans s9
  generalize upd H8 q5 (.lst (vs.drop (pb rs (x+n)+1)))=H9 at *
  refine⟨_,hq49,_,rfl,by rw[List.length_append,List.length_take,List.length_drop];omega,fun q6 hq6=>?_⟩
  have s10:=aae (o:=.lst (vs.take (pb rs (x - 1))++us++vs.drop (pb rs (x+n)+1))) aab hq6
  have hq6':upd H9 q6 (.lst (vs.take (pb rs (x - 1))++us++vs.drop (pb rs (x+n)+1))) q6=some (.lst (vs.take (pb rs (x - 1))++us++vs.drop (pb rs (x+n)+1))):=aaf
  have s110:=s19.trans s10
  have s710:=s79.trans s10
  generalize upd H9 q6 (.lst (vs.take (pb rs (x - 1))++us++vs.drop (pb rs (x+n)+1)))=H10 at *
  have hpq:q6≠p:=ahk hq6' (s110 _ _ h1) fun z=>nomatch z
  refine⟨_,dx,_,s110 _ _ h1,T.cl_Stretches,T.na_Stretches_runs,by show 1 < 1000;decide,?_⟩
  have hrun:∀{v:V} {r:Rn} {o:HO},RunAt H10 v r→RunAt (upd H10 p o) v r:=fun {v r o} h=>by
   obtain⟨c,cv,e,hc,hcv⟩:=h
   refine⟨c,cv,e,by rw[aaw (ahk hc (s110 _ _ h1) fun z=>nomatch z)];exact hc,?_⟩
   cases ht:r.t with
   |none=>rw[ht] at hcv;exact hcv
   |some tt=>
    obtain⟨b2,k2⟩:=tt
    rw[ht] at hcv
    obtain⟨c2,e2,h2⟩:=hcv
    exact⟨c2,e2,by rw[aaw (ahk h2 (s110 _ _ h1) fun z=>nomatch z)];exact h2⟩
  refine q' q6 _ ⟨dx,_,aaf,by rw[aaw hpq];exact hq6',?_⟩ fun c o hc hne=>by rw[aaw hne];exact s110 _ _ hc
  have hfin:RunsAt H10 (vs.take (pb rs (x - 1))++us++vs.drop (pb rs (x+n)+1)) (rs.take (pb rs (x - 1))++jn ((near.filter fun r=>decide (r.f < x)).map (fun r=>poR r r.f x)++parts++(near.filter fun r=>decide (enR r > x+n)).map (fun r=>poR r (x+n) (enR r)))++rs.drop (pb rs (x+n)+1)):=
   aby (aby (RunsAt.same (ady _ h3) s110) (RunsAt.same hU s710)) (RunsAt.same (adz _ h3) s110)
  exact Paired.mapP hfin fun _ _ h=>hrun h
noncomputable def add (C BR TK:Addr):Sp:=fun vs H Q E=>∃(p a:Addr) (rs:List Rn) (x n r:Int) (tv:V) (t:Option (Int×Int)),vs=[.ref p,.int x,.int n,.int r,tv]∧StAt C H p a rs∧OrdR rs∧rs.length≤100000∧TieAt H tv t∧
 if 0≤r∧r≤3 then (if pam rs x n=[] then ∀a' H',StAt C H' p a' (layR rs x n [⟨x,n,r,t⟩])→Bu p H H'→Q .non H' else ∀H',Same H H'→E (.ref TK) none H') else E (.ref BR) none H
theorem agy (T:Txt K mg A):Body P w K mg base "Stretches.put" aa1 ["self","first","many","rights","tie"] 5 (add A.C_Stretches A.C_BadRights A.C_Taken):=by
 have H_check_rights:=h_cr (P:=P) (w:=w) (base:=base) T
 have H_Stretches_is_free:=h_free (P:=P) (w:=w) (base:=base) T
 have H_Stretches_lay_amid:=ak7 (P:=P) (w:=w) (base:=base) T
 ·intro f cdv A' outer s H vs Q E hr z
  obtain⟨p,a,rs,x,n,r,tv,t,rfl,hS,ho,hlen,hT,q⟩:=z
  obtain⟨dx,vs,h1,h2,h3⟩:=id hS
  refine⟨_,(aak (abj (aai H_check_rights (hr.mono (by decide)) aaj (aaa (pvM 3) aac)))
   (aak (ab2 (aed (adq (aao (pvM 0) T.cl_Stretches H_Stretches_is_free (hr.mono (by decide)) aaj (aaa (pvM 1) (aaa (pvM 2) aac))))) (aah (aet ah5 rfl T.x_Taken (aaa abd aac))) abg)
   (aah (abj (aao (pvM 0) T.cl_Stretches H_Stretches_lay_amid (hr.mono (by decide)) aaj (aaa (pvM 1) (aaa (pvM 2) (aaa (abx (aaa (abz (aaa (pvM 1) (aaa (pvM 2) (aaa (pvM 3) (aaa (pvM 4) aac))))) aac)) aac)))))))),?_⟩
  unfold ak6 aiy agx
  walk_at "wp"
  simp only[h1]
  walk_at "wp"
  by_cases c:0≤r∧r≤3
  ·rw[if_pos c] at q
   rw[if_pos (by rw[ab9,decide_eq_true c.1,decide_eq_true c.2];rfl)]
   refine⟨abl (by decide+kernel),a,rs,hS,ho,by omega,fun H1 s1=>?_⟩
   by_cases c2:pam rs x n=[]
   ·rw[if_pos c2] at q
    rw[decide_eq_true c2]
    refine iteF ⟨dx,_,s1 _ _ h1,abl (by decide+kernel),fun tp htp lp hlp=>?_⟩
    have s2:=aae (o:=.tup [V.int x,V.int n,V.int r,tv]) s1 htp
    have s3:=aae (o:=.lst [V.ref tp]) s2 hlp
    have s23:=aae (o:=.lst [V.ref tp]) aab hlp
    exact⟨a,rs,hS.same s3,ho,hlen,[⟨x,n,r,t⟩],[.ref tp],rfl,.cons ⟨tp,tv,rfl,s23 _ _ aaf,hT.same s3⟩ .nil,by show 1≤100000;decide,fun a' H' hS' hB=>q a' H' hS' fun c o hc hne=>hB c o (s3 c o hc) hne⟩
   ·rw[if_neg c2] at q
    rw[decide_eq_false c2]
    exact iteT (q _ s1)
  ·rw[if_neg c] at q
   rw[if_neg (by rw[ab9];simpa using c)]
   exact q
theorem agz {C BR TK:Addr}:∀vs H Q E,add C BR TK vs H Q E→vs.length=5:=fun vs H Q E z=>by
 obtain⟨p,a,rs,x,n,r,tv,t,rfl,_⟩:=z;rfl
theorem ajs (T:Txt K mg A):HaveM P w K mg base A.C_Stretches "put" 6 ["self","first","many","rights","tie"] [] (add A.C_Stretches A.C_BadRights A.C_Taken):=T.r_Stretches_put.have acm agz (agy T)
theorem afx (T:Txt K mg A):HaveM P w K mg base A.C_Stretches "put" 6 ["self","first","many","rights","tie"] [.non] (add A.C_Stretches A.C_BadRights A.C_Taken):=T.r1_Stretches_put.have acm agz (agy T)
noncomputable def ak8 (C NM:Addr):Sp:=fun vs H Q E=>∃(p a:Addr) (rs:List Rn) (x n:Int),vs=[.ref p,.int x,.int n]∧StAt C H p a rs∧OrdR rs∧rs.length≤1000000∧∀H',Same H H'→if ((pam rs x n).map (·.m)).sum=n then Q .non H' else E (.ref NM) none H'
theorem h_cf (T:Txt K mg A):HaveM P w K mg base A.C_Stretches "check_full" 6 ["self","first","many"] [] (ak8 A.C_Stretches A.C_NotMapped):=by
 have H_Stretches_is_full:=h_full (P:=P) (w:=w) (base:=base) T
 refine T.r_Stretches_check_full.have acg (fun vs H Q E z=>?_) ?_
 ·obtain⟨p,a,rs,x,n,rfl,_⟩:=z;rfl
 ·intro f cdv A' outer s H vs Q E hr z
  obtain⟨p,a,rs,x,n,rfl,hS,ho,hlen,q⟩:=z
  obtain⟨dx,vs,h1,h2,h3⟩:=id hS
  refine⟨_,(aah (ab2 (aed (adq (aao (pvM 0) T.cl_Stretches H_Stretches_is_full (hr.mono (by decide)) aaj (aaa (pvM 1) (aaa (pvM 2) aac))))) (aah (aet ah5 rfl T.x_NotMapped (aaa abd aac))) abg)),?_⟩
  unfold aiz
  walk_at "wp"
  refine⟨dx,_,h1,abl (by decide+kernel),a,rs,hS,ho,hlen,fun H1 s1=>?_⟩
  have q1:=q _ s1
  by_cases c:((pam rs x n).map (·.m)).sum=n
  ·rw[if_pos c] at q1
   rw[decide_eq_true c]
   exact iteF q1
  ·rw[if_neg c] at q1
   rw[decide_eq_false c]
   exact iteT q1
noncomputable def sp_cut (C NM:Addr):Sp:=fun vs H Q E=>∃(p a:Addr) (rs:List Rn) (x n:Int),vs=[.ref p,.int x,.int n]∧StAt C H p a rs∧OrdR rs∧rs.length≤100000∧
 if ((pam rs x n).map (·.m)).sum=n then ∀a' H',StAt C H' p a' (layR rs x n [])→Bu p H H'→Q .non H' else ∀H',Same H H'→E (.ref NM) none H'
theorem h_cut (T:Txt K mg A):HaveM P w K mg base A.C_Stretches "cut" 7 ["self","first","many"] [] (sp_cut A.C_Stretches A.C_NotMapped):=by
 have H_Stretches_check_full:=h_cf (P:=P) (w:=w) (base:=base) T
 have H_Stretches_lay_amid:=ak7 (P:=P) (w:=w) (base:=base) T
 refine T.r_Stretches_cut.have adw (fun vs H Q E z=>?_) ?_
 ·obtain⟨p,a,rs,x,n,rfl,_⟩:=z;rfl
 ·intro f cdv A' outer s H vs Q E hr z
  obtain⟨p,a,rs,x,n,rfl,hS,ho,hlen,q⟩:=z
  obtain⟨dx,vs,h1,h2,h3⟩:=id hS
  refine⟨_,(aak (abj (aao (pvM 0) T.cl_Stretches H_Stretches_check_full (hr.mono (by decide)) aaj (aaa (pvM 1) (aaa (pvM 2) aac))))
   (aah (abj (aao (pvM 0) T.cl_Stretches H_Stretches_lay_amid (hr.mono (by decide)) aaj (aaa (pvM 1) (aaa (pvM 2) (aaa (abx aac) aac))))))),?_⟩
  unfold ak8 agx
  walk_at "wp"
  refine⟨dx,_,h1,abl (by decide+kernel),a,rs,hS,ho,by omega,fun H1 s1=>?_⟩
  by_cases c:((pam rs x n).map (·.m)).sum=n
  ·rw[if_pos c] at q
   rw[if_pos c]
   refine⟨dx,_,s1 _ _ h1,abl (by decide+kernel),fun lp hlp=>?_⟩
   have s2:=aae (o:=.lst []) s1 hlp
   exact⟨a,rs,hS.same s2,ho,hlen,[],[],rfl,.nil,by decide,fun a' H' hS' hB=>q a' H' hS' fun c o hc hne=>hB c o (s2 c o hc) hne⟩
  ·rw[if_neg c] at q
   rw[if_neg c]
   exact q _ s1
noncomputable def rRn (r:Int) (y:Rn):Rn:=⟨y.f,y.m,r,y.t⟩
noncomputable def ajt (C BR NM:Addr):Sp:=fun vs H Q E=>∃(p a:Addr) (rs:List Rn) (x n r:Int),vs=[.ref p,.int x,.int n,.int r]∧StAt C H p a rs∧OrdR rs∧rs.length≤100000∧
 if 0≤r∧r≤3 then (if ((pam rs x n).map (·.m)).sum=n then ∀a' H',StAt C H' p a' (layR rs x n ((pam rs x n).map (rRn r)))→Bu p H H'→Q .non H' else ∀H',Same H H'→E (.ref NM) none H') else E (.ref BR) none H
theorem ai3 {rs:List Rn} {x n:Int}:(pam rs x n).length≤rs.length:=by
 unfold pam cutR
 rw[List.length_map]
 refine Nat.le_trans (List.length_filter_le _ _) ?_
 rw[List.length_drop,List.length_take]
 omega
theorem ai4 (T:Txt K mg A):HaveM P w K mg base A.C_Stretches "guard" 7 ["self","first","many","rights"] [] (ajt A.C_Stretches A.C_BadRights A.C_NotMapped):=by
 have H_check_rights:=h_cr (P:=P) (w:=w) (base:=base) T
 have H_Stretches_check_full:=h_cf (P:=P) (w:=w) (base:=base) T
 have H_Stretches_parts_amid:=ae7 (P:=P) (w:=w) (base:=base) T
 have H_Stretches_lay_amid:=ak7 (P:=P) (w:=w) (base:=base) T
 refine T.r_Stretches_guard.have ab7 (fun vs H Q E z=>?_) ?_
 ·obtain⟨p,a,rs,x,n,r,rfl,_⟩:=z;rfl
 ·intro f cdv A' outer s H vs Q E hr z
  obtain⟨p,a,rs,x,n,r,rfl,hS,ho,hlen,q⟩:=z
  obtain⟨dx,vs,h1,h2,h3⟩:=id hS
  refine⟨_,(aak (abj (aai H_check_rights (hr.mono (by decide)) aaj (aaa (pvM 3) aac)))
   (aak (abj (aao (pvM 0) T.cl_Stretches H_Stretches_check_full (hr.mono (by decide)) aaj (aaa (pvM 1) (aaa (pvM 2) aac))))
   (aak (af6 (i:=4) ab7.nd rfl rfl rfl (acx (aao (pvM 0) T.cl_Stretches H_Stretches_parts_amid (hr.mono (by decide)) aaj (aaa (pvM 1) (aaa (pvM 2) aac)))) (x:="part") (fs:=["rights"]) (ix:=[3]) rfl rfl (fun _ _ _ _ _ _=>(aco (i:=0) (show (["part","rights"]:List Str).Nodup by decide+kernel) rfl (Or.inl rfl))) (fun _ _ _ _ _ _=>aie) (fun _ _ _ _ _ _=>(abz (aaa (aa0 (abk (K:=K) rfl) (pvM 0) aad (fun _ _=>rfl)) (aaa (aa0 (abk (K:=K) rfl) (pvM 0) aad (fun _ _=>rfl)) (aaa (pvM 1) (aaa (aa0 (abk (K:=K) rfl) (pvM 0) aad (fun _ _=>rfl)) aac)))))))
   (aah (abj (aao (pvM 0) T.cl_Stretches H_Stretches_lay_amid (hr.mono (by decide)) aaj (aaa (pvM 1) (aaa (pvM 2) (aaa (pvM 4) aac))))))))),?_⟩
  unfold ak6 ak8 adc agx
  walk_at "wp"
  by_cases c:0≤r∧r≤3
  ·rw[if_pos c] at q
   rw[if_pos (by rw[ab9,decide_eq_true c.1,decide_eq_true c.2];rfl)]
   refine⟨dx,_,h1,abl (by decide+kernel),a,rs,hS,ho,by omega,fun H1 s1=>?_⟩
   by_cases c2:((pam rs x n).map (·.m)).sum=n
   ·rw[if_pos c2] at q
    rw[if_pos c2]
    refine⟨dx,_,s1 _ _ h1,abl (by decide+kernel),a,rs,hS.same s1,ho,by omega,fun t us H2 s2 ht0 ht hU=>?_⟩
    have hul:us.length≤100000:=by
     rw[Paired.length hU]
     exact Nat.le_trans ai3 hlen
    generalize hpm:pam rs x n=pt at *
    have hptl:us.length=pt.length:=Paired.length hU
    refine⟨⟨_,SqL.of ht⟩,fun D hD=>?_⟩
    refine aca (xs:=us) (fun i ys σ H'=>∃v,σ=[v,some (.int r)]∧Same H2 H'∧H' D=some (.lst ys)∧RunsAt H' ys ((pt.take i).map (rRn r))) ⟨_,rfl,aae aab hD,aaf,.nil⟩ (fun i ys σ H' _ ⟨_,_,s3,_⟩=>SqL.of (s3 _ _ ht)) (fun i v ys σ H3 hi=>?_) (fun ys σ H3=>?_)
    ·rintro⟨v0,rfl,s3,hDD,hys⟩
     obtain⟨y,hy1,hy2⟩:=acr hU hi
     have hyx:=hy2.same s3
     have htk:pt.take (i+1)=pt.take i++[y]:=by rw[List.take_add_one,hy1];rfl
     have hyl:ys.length≤100000:=by
      have h4:=Paired.length hys
      rw[List.length_map,List.length_take] at h4
      omega
     rw[htk,List.map_append]
     obtain⟨c,cv,rfl,hc,hcv⟩:=id hyx
     walk_at "wp"
     refine⟨_,SqT.of hc,_,rfl,_,SqT.of hc,_,rfl,_,SqT.of hc,_,rfl,fun tp htp=>?_⟩
     have s4:=aae (o:=.tup [.int y.f,.int y.m,.int r,cv]) aab htp
     have hD2:=s4 _ _ hDD
     refine⟨hD2,by omega,abw (s3.trans s4) hD,?_⟩
     refine aby (RunsAt.same2 (RunsAt.same hys s4) hD2 aab) (.cons (RunAt.same2 ⟨tp,cv,rfl,aaf,hcv.same s4⟩ hD2 aab) .nil)
    ·rintro⟨v0,rfl,s3,hDD,hys⟩
     rw[hptl,List.take_length] at hys
     have s13:=s1.trans (s2.trans s3)
     refine⟨dx,_,s13 _ _ h1,abl (by decide+kernel),a,rs,hS.same s13,ho,hlen,_,ys,hDD,hys,by rw[List.length_map];omega,fun a' H4 hS4 hB4=>q _ _ hS4 fun c o hc hcp=>hB4 c o (s13 _ _ hc) hcp⟩
   ·rw[if_neg c2] at q
    rw[if_neg c2]
    exact q _ s1
  ·rw[if_neg c] at q
   rw[if_neg (by rw[ab9];simpa using c)]
   exact q
noncomputable def dvT:Option (Int×Int)→Dv
 |none=>.leaf .non
 |some (b,k)=>.seq true [.leaf (.int b),.leaf (.int k)]
noncomputable def dvR (r:Rn):Dv:=.seq true [.leaf (.int r.f),.leaf (.int r.m),.leaf (.int r.r),dvT r.t]
theorem ag0 {i:Int}:eqV (.int i) (.int i)=true:=ago rfl
theorem aju (t:Option (Int×Int)):alike (dvT t) (dvT t)=true∧eqDv (dvT t) (dvT t)=true∧deep (dvT t)≤1:=by
 cases t with
 |none=>exact⟨by simp[dvT,alike],by simp[dvT,eqDv,eqV],by simp[dvT,deep]⟩
 |some t=>
  obtain⟨b,k⟩:=t
  refine⟨by simp[dvT,alike,alikeL],by simp[dvT,eqDv,eqDvL,ag0],by simp[dvT,deep,deepL]⟩
theorem ajv (r:Rn):alike (dvR r) (dvR r)=true∧eqDv (dvR r) (dvR r)=true∧deep (dvR r)≤2:=by
 obtain⟨h1,h2,h3⟩:=aju r.t
 refine⟨by simp[dvR,alike,alikeL,h1],by simp[dvR,eqDv,eqDvL,ag0,h2],?_⟩
 simp only[dvR,deep,deepL]
 omega
theorem afy:∀rs:List Rn,alikeL (rs.map dvR) (rs.map dvR)=true∧eqDvL (rs.map dvR) (rs.map dvR)=true∧deepL (rs.map dvR)≤2
 |[]=>⟨by simp[alikeL],by simp[eqDvL],by simp[deepL]⟩
 |r::rs=>by
  obtain⟨h1,h2,h3⟩:=ajv r
  obtain⟨g1,g2,g3⟩:=afy rs
  refine⟨by simp[alikeL,h1,g1],by simp[eqDvL,h2,g2],?_⟩
  simp only[List.map_cons,deepL]
  omega
theorem ajw {H:Hp} {v:V}:∀{t:Option (Int×Int)},TieAt H v t→Sees K H (dvT t) v
 |none,h=>⟨h,rfl⟩
 |some (b,k),⟨a,e,h⟩=>⟨a,_,e,SqT.of h,_,_,rfl,⟨rfl,rfl⟩,_,_,rfl,⟨rfl,rfl⟩,rfl⟩
theorem ajx {H:Hp} {v:V} {r:Rn} (h:RunAt H v r):Sees K H (dvR r) v:=by
 obtain⟨a,tv,e,h1,h2⟩:=h
 exact⟨a,_,e,SqT.of h1,_,_,rfl,⟨rfl,rfl⟩,_,_,rfl,⟨rfl,rfl⟩,_,_,rfl,⟨rfl,rfl⟩,_,_,rfl,ajw h2,rfl⟩
theorem aeb {H:Hp}:∀{vs:List V} {rs:List Rn},RunsAt H vs rs→SeesL K H (rs.map dvR) vs
 |_,_,.nil=>rfl
 |_,_,.cons r t=>⟨_,_,rfl,ajx r,aeb t⟩
theorem ak9 {H:Hp} {a b:Addr} {us vs:List V} {rs:List Rn} {Q:VK} (h1:H a=some (.lst us)) (h2:H b=some (.lst vs)) (r1:RunsAt H us rs) (r2:RunsAt H vs rs) (q:Q (.bl true) H):rEqD K 4 (.ref a) (.ref b) H Q:=by
 obtain⟨g1,g2,g3⟩:=afy rs
 exact⟨false,_,_,⟨a,us,rfl,SqL.of h1,aeb r1⟩,⟨b,vs,rfl,SqL.of h2,aeb r2⟩,g1,by omega,by rw[g2];exact q⟩
theorem akc {rs ss parts:List Rn} {a n:Int} (o:OrdR rs) (l:LstR rs) (hn:0 < n) (op:OrdR parts) (hb:∀x∈parts,a≤x.f∧enR x≤a+n) (o':OrdR ss) (l':LstR ss) (h:∀p,pm ss p=if a≤p∧p < a+n then pm parts p else pm rs p):layR rs a n parts=ss:=by
 have L:=ais o l hn op hb
 exact afs L.1 o' L.2.1 l' fun p=>(L.2.2 p).trans (h p).symm
theorem akd {r:Rn} {p:Int}:pm [r] p=if r.f≤p∧p < r.f+r.m then some (r.r,tf r p) else none:=rfl
theorem act {r:Rn} {rs:List Rn} {p:Int}:pm (r::rs) p=if r.f≤p∧p < r.f+r.m then some (r.r,tf r p) else pm rs p:=rfl
theorem ala:OrdR []:=⟨List.Pairwise.nil,fun _ h=>nomatch h⟩
theorem ag1 {r:Rn} {a n:Int} (h1:r.f=a) (h2:r.m=n):∀x∈[r],a≤x.f∧enR x≤a+n:=fun x hx=>by
 rw[List.mem_singleton.mp hx]
 unfold enR
 omega
theorem st_new {C:Addr} {H:Hp} {x dx a:Addr} (h1:H x=none) (h2:H dx=none) (h4:upd (upd H dx (.own x)) x (.ins C dx []) a=none):
  StAt C (upd (upd (upd (upd H dx (.own x)) x (.ins C dx [])) a (.lst [])) x (.ins C dx (stF a))) x a []∧Same H (upd (upd (upd (upd H dx (.own x)) x (.ins C dx [])) a (.lst [])) x (.ins C dx (stF a))):=by
 have hax:a≠x:=fun e=>by subst e;rw[aaf] at h4;cases h4
 refine⟨⟨dx,[],aaf,by rw[aaw hax,aaf],.nil⟩,fun b o hb=>?_⟩
 have hbx:b≠x:=aau hb h1
 have hbd:b≠dx:=aau hb h2
 have hba:b≠a:=fun e=>by subst e;rw[aaw hbx,aaw hbd,hb] at h4;cases h4
 rw[aaw hbx,aaw hba,aaw hbx,aaw hbd]
 exact hb
noncomputable def SepR (rs:List Rn):Prop:=rs.Pairwise (fun a b=>enR a < b.f)∧∀r∈rs,0 < r.m
theorem SepR.ord {rs:List Rn} (h:SepR rs):OrdR rs:=⟨h.1.imp fun z=>Int.le_of_lt z,h.2⟩
theorem SepR.tail {r:Rn} {rs:List Rn} (h:SepR (r::rs)):SepR rs:=⟨(List.pairwise_cons.mp h.1).2,fun x hx=>h.2 x (List.mem_cons_of_mem _ hx)⟩
theorem SepR.lst:∀{rs:List Rn},SepR rs→LstR rs
 |[],_=>trivial
 |[_],_=>trivial
 |a::b::r,h=>by
  refine⟨?_,SepR.lst h.tail⟩
  have e:=(List.pairwise_cons.mp h.1).1 b (List.mem_cons_self ..)
  unfold go
  rw[decide_eq_false (by omega)]
  rfl
theorem afz {R:Rn} {rs:List Rn} (h:SepR (R::rs)):pam rs R.f R.m=[]∧layR rs R.f R.m [R]=R::rs:=by
 have hm:=h.2 R (List.mem_cons_self ..)
 have hb:=(List.pairwise_cons.mp h.1).1
 refine⟨(ae4 h.tail.ord hm).mpr fun p h1 h2=>acj fun r hr=>?_,akc h.tail.ord h.tail.lst hm (aea hm) (ag1 rfl rfl) h.ord h.lst fun p=>?_⟩
 ·have:=hb r hr;unfold enR at this;omega
 ·rw[act,akd]
  by_cases c:R.f≤p∧p < R.f+R.m
  ·simp only[if_pos c]
  ·simp only[if_neg c]
inductive Deed where
 |put (x n r:Int)
 |cut (x n:Int)
 |guard (x n r:Int)
noncomputable def DeedAt (H:Hp) (v:V):Deed→Prop
 |.put x n r=>∃a,v=.ref a∧H a=some (.tup [.str "put",.int x,.int n,.int r])
 |.cut x n=>∃a,v=.ref a∧H a=some (.tup [.str "cut",.int x,.int n])
 |.guard x n r=>∃a,v=.ref a∧H a=some (.tup [.str "guard",.int x,.int n,.int r])
inductive Rf (rs:List Rn):Deed→Nat→Prop where
 |pb {x n r:Int} (h:¬(0≤r∧r≤3)):Rf rs (.put x n r) 0
 |pt {x n r:Int} (h:0≤r∧r≤3) (h2:pam rs x n≠[]):Rf rs (.put x n r) 1
 |cn {x n:Int} (h:((pam rs x n).map (·.m)).sum≠n):Rf rs (.cut x n) 2
 |gb {x n r:Int} (h:¬(0≤r∧r≤3)):Rf rs (.guard x n r) 0
 |gn {x n r:Int} (h:0≤r∧r≤3) (h2:((pam rs x n).map (·.m)).sum≠n):Rf rs (.guard x n r) 2
noncomputable def nmT (k:Nat):Str:=if k=0 then "BadRights" else if k=1 then "Taken" else "NotMapped"
noncomputable def clsK (A:Adr) (k:Nat):Addr:=if k=0 then A.C_BadRights else if k=1 then A.C_Taken else A.C_NotMapped
theorem Rf.lt {rs:List Rn} {D:Deed} {k:Nat} (h:Rf rs D k):k < 3:=by cases h<;>decide
noncomputable def ajy (C:Addr):Sp:=fun vs H Q _=>∃(p a:Addr) (rs:List Rn) (v:V) (D:Deed) (k:Nat),vs=[.ref p,v]∧StAt C H p a rs∧OrdR rs∧rs.length≤100000∧DeedAt H v D∧Rf rs D k∧∀H',Same H H'→Q (.str (nmT k)) H'
theorem ck_ok (T:Txt K mg A) {k:Nat} (hk:k < 3):XSub K (clsK A k) A.C_FrameError∧XI K (clsK A k)∧PySem.W.kitOne K (.ref (clsK A k)) (.type "ValueError")=some true∧PySem.W.kitOne K (.ref (clsK A k)) (.ref A.C_BadRights)=some (decide (k=0))∧PySem.W.kitOne K (.ref (clsK A k)) (.ref A.C_Taken)=some (decide (k=1))∧PySem.W.kitOne K (.ref (clsK A k)) (.ref A.C_NotMapped)=some (decide (k=2))∧
  PySem.W.kitOne K (.ref (clsK A k)) (.ref A.C_NoShape)=some false∧PySem.W.kitOne K (.ref (clsK A k)) (.ref A.C_OutOfRoom)=some false∧PySem.W.kitOne K (.ref (clsK A k)) (.ref A.C_NoRight)=some false:=by
 obtain rfl|rfl|rfl:k=0∨k=1∨k=2:=by omega
 ·exact⟨T.sub_BadRights_FrameError,T.xi_BadRights,T.kit_BadRights_ValueError,T.kit_BadRights_BadRights,T.kit_BadRights_Taken,T.kit_BadRights_NotMapped,T.kit_BadRights_NoShape,T.kit_BadRights_OutOfRoom,T.kit_BadRights_NoRight⟩
 ·exact⟨T.sub_Taken_FrameError,T.xi_Taken,T.kit_Taken_ValueError,T.kit_Taken_BadRights,T.kit_Taken_Taken,T.kit_Taken_NotMapped,T.kit_Taken_NoShape,T.kit_Taken_OutOfRoom,T.kit_Taken_NoRight⟩
 ·exact⟨T.sub_NotMapped_FrameError,T.xi_NotMapped,T.kit_NotMapped_ValueError,T.kit_NotMapped_BadRights,T.kit_NotMapped_Taken,T.kit_NotMapped_NotMapped,T.kit_NotMapped_NoShape,T.kit_NotMapped_OutOfRoom,T.kit_NotMapped_NoRight⟩
theorem ade {ea l D Cx:Addr} {bs:List Bool} {G2:Hp} {Q':Hp→Prop} (hl:G2 l=some (.lst (bs.map V.bl))) (he:G2 ea=some (excO ea Cx)) (hD:G2 D=none) (hb:bs.length≤10)
  (q:∀H',Same G2 H'→H' D=some (.lst ((bs.map fun b=>if b=true then (1:Int) else 0).map V.int))→Q' H'):
  Comp (gName 0) tYes (tCB (fun xs H Q=>(∃i,xs=[V.int i]∧Q (V.int i) H)∨∃k,xs=[V.bl k]∧Q (V.int (if k=true then 1 else 0)) H) (tCons (tVarM 0) tNil)) HidC.mk (ItlH K l ea Cx) [none] D Q' G2:=by
 have hz:=PySem.sizeLine_eq
 refine ahe (xs:=bs.map V.bl) (fun i ys σ H'=>∃v0,σ=[v0]∧Same G2 H'∧H' D=some (.lst ys)∧ys=((bs.take i).map fun b=>if b=true then (1:Int) else 0).map V.int) ⟨_,rfl,aae aab hD,aaf,rfl⟩ (fun i ys σ H' _ ⟨_,_,s,_⟩=>⟨SqL.of (s _ _ hl),s _ _ he⟩) (fun i x ys σ H' hx=>?_) (fun ys σ H'=>?_)
 ·rintro⟨v0,rfl,s,hD1,rfl⟩
  rw[List.getElem?_map] at hx
  obtain⟨c,hc,rfl⟩:=Option.map_eq_some_iff.mp hx
  have hi:=(List.getElem?_eq_some_iff.mp hc).1
  walk_at "wp"
  exact .inr ⟨hD1,by rw[List.length_map,List.length_map,List.length_take];omega,abw s hD,by rw[List.take_add_one,hc,List.map_append,List.map_append];rfl⟩
 ·rintro⟨v0,rfl,s,hD1,rfl⟩
  rw[List.take_of_length_le (by rw[List.length_map];omega)] at hD1
  exact q _ s hD1
theorem alb (T:Txt K mg A):Have P w K mg base "_law_tried" 8 ["_law_some","_law_deed_here"] [] (ajy A.C_Stretches):=by
 have H1_Stretches_put:=afx (P:=P) (w:=w) (base:=base) T
 have H_Stretches_cut:=h_cut (P:=P) (w:=w) (base:=base) T
 have H_Stretches_guard:=ai4 (P:=P) (w:=w) (base:=base) T
 refine T.r_l_tried.have adn (fun vs H Q E z=>?_) ?_
 ·obtain⟨p,a,rs,v,D,nm,rfl,_⟩:=z;rfl
 ·intro f cdv A' outer s H vs Q E hr z
  obtain⟨p,a,rs,v,D,k,rfl,hS,ho,hl,hD,hR,q⟩:=z
  obtain⟨dx,vs0,h1,_⟩:=id hS
  refine⟨_,(aak (ahf (i:=2) adn.nd rfl rfl T.h_FrameError (fun _ _ _ po1 xw1=>(aah (ab2 (aa5 afa (aa0 (abk (K:=K) rfl) (pvM 1) aad (fun _ _=>rfl)) abd (nomark _)) (aah (abj (aao (pvM 0) T.cl_Stretches H1_Stretches_put (hr.mono (by decide)) xw1 (aaa (aa0 (abk (K:=K) rfl) (pvM 1) aad (fun _ _=>rfl)) (aaa (aa0 (abk (K:=K) rfl) (pvM 1) aad (fun _ _=>rfl)) (aaa (aa0 (abk (K:=K) rfl) (pvM 1) aad (fun _ _=>rfl)) aac)))))) (aah (ab2 (aa5 afa (aa0 (abk (K:=K) rfl) (pvM 1) aad (fun _ _=>rfl)) abd (nomark _)) (aah (abj (aao (pvM 0) T.cl_Stretches H_Stretches_cut (hr.mono (by decide)) xw1 (aaa (aa0 (abk (K:=K) rfl) (pvM 1) aad (fun _ _=>rfl)) (aaa (aa0 (abk (K:=K) rfl) (pvM 1) aad (fun _ _=>rfl)) aac))))) (aah (abj (aao (pvM 0) T.cl_Stretches H_Stretches_guard (hr.mono (by decide)) xw1 (aaa (aa0 (abk (K:=K) rfl) (pvM 1) aad (fun _ _=>rfl)) (aaa (aa0 (abk (K:=K) rfl) (pvM 1) aad (fun _ _=>rfl)) (aaa (aa0 (abk (K:=K) rfl) (pvM 1) aad (fun _ _=>rfl)) aac))))))))))) abg (fun ea=>(aa3 (ab2 (PW.pt (ai7 (aed (adq (abc ac8 rfl T.b_isinstance PyProof.Rows.boot_isinstance (aaa (pvM 2) (aaa (adx (n:="ValueError") rfl T.b_ValueError (by decide+kernel)) aac))))) (age (adq (abc ah9 rfl T.b_isinstance PyProof.Rows.boot_isinstance (aaa (pvM 2) (aaa (abz (aaa (acd rfl T.m_NoShape) (aaa (acd rfl T.m_OutOfRoom) (aaa (acd rfl T.m_NoRight) aac)))) aac))))))) (aah (aa2 abd)) abg)
   (aa3 (aa6 (i:=3) adn.nd rfl (Or.inl rfl) (abx (aaa (abc ac8 rfl T.b_isinstance PyProof.Rows.boot_isinstance (aaa (pvM 2) (aaa (acd rfl T.m_BadRights) aac))) (aaa (abc ac8 rfl T.b_isinstance PyProof.Rows.boot_isinstance (aaa (pvM 2) (aaa (acd rfl T.m_Taken) aac))) (aaa (abc ac8 rfl T.b_isinstance PyProof.Rows.boot_isinstance (aaa (pvM 2) (aaa (acd rfl T.m_NotMapped) aac))) aac)))))
   (aa3 (ab2 (aa5 ag3 (abc (ain (ea:=ea) rfl) rfl T.b_sum (by decide+kernel) (aaa (ajn (ea:=ea) rfl (pvM 3) (x:="_law_one") (fs:=[]) (ix:=[]) rfl rfl (fun _ _ _ _ _ _=>(aco (i:=0) (show (["_law_one"]:List Str).Nodup by decide+kernel) rfl (Or.inl rfl))) (fun _ _ _ _ _ _=>aie) (fun _ _ _ _ _ _=>(afh aht rfl T.b_int PyProof.Rows.boot_int (aaa (pvM 0) aac)))) aac)) aad (nomark _)) (aah (aa2 abd)) abg)
   (aah (aa2 (aa0 ac7 (abx (aaa abd (aaa abd (aaa abd aac)))) (akp PySem.F.plainAttrs_list PySem.F.slot_list_index PySem.F.type_list_index ajk (pvM 3) (aaa af2 aac)) (fun _ _=>rfl)))))))))
   (aah (aa2 abd))),?_⟩
  unfold tTryAsE
  walk_at "wp"
  have sub:=@ck_ok K mg A T
  cases hR with
  |pb h=>
   obtain⟨b,rfl,hb⟩:=hD
   refine⟨b,rfl,_,SqT.of hb,V.str (Str.ofString "put"),aag (j:=0) rfl,rfl,?_⟩
   rw[if_pos rfl]
   refine⟨_,_,h1,abl (by decide+kernel),b,rfl,_,SqT.of hb,_,aag (j:=1) rfl,b,rfl,_,SqT.of hb,_,aag (j:=2) rfl,b,rfl,_,SqT.of hb,_,aag (j:=3) rfl,p,a,rs,_,_,_,.non,none,rfl,hS,ho,hl,rfl,?_⟩
   rw[if_neg h]
   have s0:Same H H:=aab
   refine⟨clsK A 0,rfl,(sub (k:=0) (by decide)).1,fun ea hea=>?_⟩
   obtain⟨_,xi,kv,kb,kt,kn,k1,k2,k3⟩:=sub (k:=0) (by decide)
   have s1:=aae (o:=excO ea (clsK A 0)) s0 hea
   have e1:upd H ea (excO ea (clsK A 0)) ea=some (excO ea (clsK A 0)):=aaf
   generalize upd H ea (excO ea (clsK A 0))=G at *
   refine⟨fun σ G1=>σ=[some (.ref p),some (.ref b),some (.ref ea),none]∧Same G G1,?_,fun σ1 G1=>?_⟩
   ·walk_at "wp"
    refine⟨_,e1,xi,true,kv,iteF fun p1 hp1=>?_⟩
    have sp:=aae (o:=.tup [V.ref A.C_NoShape,V.ref A.C_OutOfRoom,V.ref A.C_NoRight]) (aab (H:=G)) hp1
    refine⟨_,_,sp _ _ e1,xi,rfl,fun v hv=>?_,false,?_,iteF sp⟩
    ·simp only[List.mem_cons,List.not_mem_nil,or_false] at hv
     rcases hv with rfl|rfl|rfl<;>exact .inl ⟨_,rfl⟩
    ·simp only[List.map_cons,List.map_nil,acu,PySem.W.kitAny,k1,k2,k3]
   rintro⟨rfl,s2⟩
   refine⟨fun σ G2=>∃l,σ=[some (.ref p),some (.ref b),some (.ref ea),some (.ref l)]∧Same G1 G2∧G2 l=some (.lst (([true,false,false]:List Bool).map V.bl)),?_,fun σ2 G2=>?_⟩
   ·walk_at "wp"
    exact⟨_,s2 _ _ e1,xi,_,kb,_,s2 _ _ e1,xi,_,kt,_,s2 _ _ e1,xi,_,kn,fun p1 hp1=>⟨aae aab hp1,rfl⟩⟩
   rintro⟨l,rfl,s3,hl3⟩
   have e3:=s3 _ _ (s2 _ _ e1)
   refine⟨fun σ G3=>σ=[some (.ref p),some (.ref b),some (.ref ea),some (.ref l)]∧Same G2 G3,?_,fun σ2 G3=>?_⟩
   ·walk_at "wp"
    unfold tCompH
    walk_at "wp"
    refine⟨⟨_,SqL.of hl3⟩,_,fun D hD=>ade hl3 e3 hD (by decide) fun H9 s9 h9=>⟨_,s9 _ _ e3,_,SqL.of h9,iteF s9⟩⟩
   rintro⟨rfl,s4⟩
   walk_at "wp"
   intro p1 hp1
   have s5:=aae (o:=.lst [V.str (Str.ofString "BadRights"),V.str (Str.ofString "Taken"),V.str (Str.ofString "NotMapped")]) (aab (H:=G3)) hp1
   have hl5:=s5 _ _ (s4 _ _ hl3)
   refine⟨.inl ⟨rfl,_,SqL.of hl5⟩,l,_,_,0,rfl,rfl,SqL.of hl5,rfl,by decide,by decide,?_⟩
   exact⟨_,_,rfl,by rw[aaf];rfl,_,aag (j:=0) rfl,q _ ((((s1.trans s2).trans s3).trans s4).trans s5)⟩
  |pt h h2=>
   obtain⟨b,rfl,hb⟩:=hD
   refine⟨b,rfl,_,SqT.of hb,V.str (Str.ofString "put"),aag (j:=0) rfl,rfl,?_⟩
   rw[if_pos rfl]
   refine⟨_,_,h1,abl (by decide+kernel),b,rfl,_,SqT.of hb,_,aag (j:=1) rfl,b,rfl,_,SqT.of hb,_,aag (j:=2) rfl,b,rfl,_,SqT.of hb,_,aag (j:=3) rfl,p,a,rs,_,_,_,.non,none,rfl,hS,ho,hl,rfl,?_⟩
   rw[if_pos h,if_neg h2]
   intro H' s0
   refine⟨clsK A 1,rfl,(sub (k:=1) (by decide)).1,fun ea hea=>?_⟩
   obtain⟨_,xi,kv,kb,kt,kn,k1,k2,k3⟩:=sub (k:=1) (by decide)
   have s1:=aae (o:=excO ea (clsK A 1)) s0 hea
   have e1:upd H' ea (excO ea (clsK A 1)) ea=some (excO ea (clsK A 1)):=aaf
   generalize upd H' ea (excO ea (clsK A 1))=G at *
   refine⟨fun σ G1=>σ=[some (.ref p),some (.ref b),some (.ref ea),none]∧Same G G1,?_,fun σ1 G1=>?_⟩
   ·walk_at "wp"
    refine⟨_,e1,xi,true,kv,iteF fun p1 hp1=>?_⟩
    have sp:=aae (o:=.tup [V.ref A.C_NoShape,V.ref A.C_OutOfRoom,V.ref A.C_NoRight]) (aab (H:=G)) hp1
    refine⟨_,_,sp _ _ e1,xi,rfl,fun v hv=>?_,false,?_,iteF sp⟩
    ·simp only[List.mem_cons,List.not_mem_nil,or_false] at hv
     rcases hv with rfl|rfl|rfl<;>exact .inl ⟨_,rfl⟩
    ·simp only[List.map_cons,List.map_nil,acu,PySem.W.kitAny,k1,k2,k3]
   rintro⟨rfl,s2⟩
   refine⟨fun σ G2=>∃l,σ=[some (.ref p),some (.ref b),some (.ref ea),some (.ref l)]∧Same G1 G2∧G2 l=some (.lst (([false,true,false]:List Bool).map V.bl)),?_,fun σ2 G2=>?_⟩
   ·walk_at "wp"
    exact⟨_,s2 _ _ e1,xi,_,kb,_,s2 _ _ e1,xi,_,kt,_,s2 _ _ e1,xi,_,kn,fun p1 hp1=>⟨aae aab hp1,rfl⟩⟩
   rintro⟨l,rfl,s3,hl3⟩
   have e3:=s3 _ _ (s2 _ _ e1)
   refine⟨fun σ G3=>σ=[some (.ref p),some (.ref b),some (.ref ea),some (.ref l)]∧Same G2 G3,?_,fun σ2 G3=>?_⟩
   ·walk_at "wp"
    unfold tCompH
    walk_at "wp"
    refine⟨⟨_,SqL.of hl3⟩,_,fun D hD=>ade hl3 e3 hD (by decide) fun H9 s9 h9=>⟨_,s9 _ _ e3,_,SqL.of h9,iteF s9⟩⟩
   rintro⟨rfl,s4⟩
   walk_at "wp"
   intro p1 hp1
   have s5:=aae (o:=.lst [V.str (Str.ofString "BadRights"),V.str (Str.ofString "Taken"),V.str (Str.ofString "NotMapped")]) (aab (H:=G3)) hp1
   have hl5:=s5 _ _ (s4 _ _ hl3)
   refine⟨.inl ⟨rfl,_,SqL.of hl5⟩,l,_,_,1,rfl,rfl,SqL.of hl5,rfl,by decide,by decide,?_⟩
   exact⟨_,_,rfl,by rw[aaf];rfl,_,aag (j:=1) rfl,q _ ((((s1.trans s2).trans s3).trans s4).trans s5)⟩
  |cn h=>
   obtain⟨b,rfl,hb⟩:=hD
   refine⟨b,rfl,_,SqT.of hb,V.str (Str.ofString "cut"),aag (j:=0) rfl,rfl,?_⟩
   rw[if_neg (by decide+kernel)]
   refine⟨b,rfl,_,SqT.of hb,V.str (Str.ofString "cut"),aag (j:=0) rfl,rfl,?_⟩
   rw[if_pos rfl]
   refine⟨_,_,h1,abl (by decide+kernel),b,rfl,_,SqT.of hb,_,aag (j:=1) rfl,b,rfl,_,SqT.of hb,_,aag (j:=2) rfl,p,a,rs,_,_,rfl,hS,ho,hl,?_⟩
   rw[if_neg h]
   intro H' s0
   refine⟨clsK A 2,rfl,(sub (k:=2) (by decide)).1,fun ea hea=>?_⟩
   obtain⟨_,xi,kv,kb,kt,kn,k1,k2,k3⟩:=sub (k:=2) (by decide)
   have s1:=aae (o:=excO ea (clsK A 2)) s0 hea
   have e1:upd H' ea (excO ea (clsK A 2)) ea=some (excO ea (clsK A 2)):=aaf
   generalize upd H' ea (excO ea (clsK A 2))=G at *
   refine⟨fun σ G1=>σ=[some (.ref p),some (.ref b),some (.ref ea),none]∧Same G G1,?_,fun σ1 G1=>?_⟩
   ·walk_at "wp"
    refine⟨_,e1,xi,true,kv,iteF fun p1 hp1=>?_⟩
    have sp:=aae (o:=.tup [V.ref A.C_NoShape,V.ref A.C_OutOfRoom,V.ref A.C_NoRight]) (aab (H:=G)) hp1
    refine⟨_,_,sp _ _ e1,xi,rfl,fun v hv=>?_,false,?_,iteF sp⟩
    ·simp only[List.mem_cons,List.not_mem_nil,or_false] at hv
     rcases hv with rfl|rfl|rfl<;>exact .inl ⟨_,rfl⟩
    ·simp only[List.map_cons,List.map_nil,acu,PySem.W.kitAny,k1,k2,k3]
   rintro⟨rfl,s2⟩
   refine⟨fun σ G2=>∃l,σ=[some (.ref p),some (.ref b),some (.ref ea),some (.ref l)]∧Same G1 G2∧G2 l=some (.lst (([false,false,true]:List Bool).map V.bl)),?_,fun σ2 G2=>?_⟩
   ·walk_at "wp"
    exact⟨_,s2 _ _ e1,xi,_,kb,_,s2 _ _ e1,xi,_,kt,_,s2 _ _ e1,xi,_,kn,fun p1 hp1=>⟨aae aab hp1,rfl⟩⟩
   rintro⟨l,rfl,s3,hl3⟩
   have e3:=s3 _ _ (s2 _ _ e1)
   refine⟨fun σ G3=>σ=[some (.ref p),some (.ref b),some (.ref ea),some (.ref l)]∧Same G2 G3,?_,fun σ2 G3=>?_⟩
   ·walk_at "wp"
    unfold tCompH
    walk_at "wp"
    refine⟨⟨_,SqL.of hl3⟩,_,fun D hD=>ade hl3 e3 hD (by decide) fun H9 s9 h9=>⟨_,s9 _ _ e3,_,SqL.of h9,iteF s9⟩⟩
   rintro⟨rfl,s4⟩
   walk_at "wp"
   intro p1 hp1
   have s5:=aae (o:=.lst [V.str (Str.ofString "BadRights"),V.str (Str.ofString "Taken"),V.str (Str.ofString "NotMapped")]) (aab (H:=G3)) hp1
   have hl5:=s5 _ _ (s4 _ _ hl3)
   refine⟨.inl ⟨rfl,_,SqL.of hl5⟩,l,_,_,2,rfl,rfl,SqL.of hl5,rfl,by decide,by decide,?_⟩
   exact⟨_,_,rfl,by rw[aaf];rfl,_,aag (j:=2) rfl,q _ ((((s1.trans s2).trans s3).trans s4).trans s5)⟩
  |gb h=>
   obtain⟨b,rfl,hb⟩:=hD
   refine⟨b,rfl,_,SqT.of hb,V.str (Str.ofString "guard"),aag (j:=0) rfl,rfl,?_⟩
   rw[if_neg (by decide+kernel)]
   refine⟨b,rfl,_,SqT.of hb,V.str (Str.ofString "guard"),aag (j:=0) rfl,rfl,?_⟩
   rw[if_neg (by decide+kernel)]
   refine⟨_,_,h1,abl (by decide+kernel),b,rfl,_,SqT.of hb,_,aag (j:=1) rfl,b,rfl,_,SqT.of hb,_,aag (j:=2) rfl,b,rfl,_,SqT.of hb,_,aag (j:=3) rfl,p,a,rs,_,_,_,rfl,hS,ho,hl,?_⟩
   rw[if_neg h]
   have s0:Same H H:=aab
   refine⟨clsK A 0,rfl,(sub (k:=0) (by decide)).1,fun ea hea=>?_⟩
   obtain⟨_,xi,kv,kb,kt,kn,k1,k2,k3⟩:=sub (k:=0) (by decide)
   have s1:=aae (o:=excO ea (clsK A 0)) s0 hea
   have e1:upd H ea (excO ea (clsK A 0)) ea=some (excO ea (clsK A 0)):=aaf
   generalize upd H ea (excO ea (clsK A 0))=G at *
   refine⟨fun σ G1=>σ=[some (.ref p),some (.ref b),some (.ref ea),none]∧Same G G1,?_,fun σ1 G1=>?_⟩
   ·walk_at "wp"
    refine⟨_,e1,xi,true,kv,iteF fun p1 hp1=>?_⟩
    have sp:=aae (o:=.tup [V.ref A.C_NoShape,V.ref A.C_OutOfRoom,V.ref A.C_NoRight]) (aab (H:=G)) hp1
    refine⟨_,_,sp _ _ e1,xi,rfl,fun v hv=>?_,false,?_,iteF sp⟩
    ·simp only[List.mem_cons,List.not_mem_nil,or_false] at hv
     rcases hv with rfl|rfl|rfl<;>exact .inl ⟨_,rfl⟩
    ·simp only[List.map_cons,List.map_nil,acu,PySem.W.kitAny,k1,k2,k3]
   rintro⟨rfl,s2⟩
   refine⟨fun σ G2=>∃l,σ=[some (.ref p),some (.ref b),some (.ref ea),some (.ref l)]∧Same G1 G2∧G2 l=some (.lst (([true,false,false]:List Bool).map V.bl)),?_,fun σ2 G2=>?_⟩
   ·walk_at "wp"
    exact⟨_,s2 _ _ e1,xi,_,kb,_,s2 _ _ e1,xi,_,kt,_,s2 _ _ e1,xi,_,kn,fun p1 hp1=>⟨aae aab hp1,rfl⟩⟩
   rintro⟨l,rfl,s3,hl3⟩
   have e3:=s3 _ _ (s2 _ _ e1)
   refine⟨fun σ G3=>σ=[some (.ref p),some (.ref b),some (.ref ea),some (.ref l)]∧Same G2 G3,?_,fun σ2 G3=>?_⟩
   ·walk_at "wp"
    unfold tCompH
    walk_at "wp"
    refine⟨⟨_,SqL.of hl3⟩,_,fun D hD=>ade hl3 e3 hD (by decide) fun H9 s9 h9=>⟨_,s9 _ _ e3,_,SqL.of h9,iteF s9⟩⟩
   rintro⟨rfl,s4⟩
   walk_at "wp"
   intro p1 hp1
   have s5:=aae (o:=.lst [V.str (Str.ofString "BadRights"),V.str (Str.ofString "Taken"),V.str (Str.ofString "NotMapped")]) (aab (H:=G3)) hp1
   have hl5:=s5 _ _ (s4 _ _ hl3)
   refine⟨.inl ⟨rfl,_,SqL.of hl5⟩,l,_,_,0,rfl,rfl,SqL.of hl5,rfl,by decide,by decide,?_⟩
   exact⟨_,_,rfl,by rw[aaf];rfl,_,aag (j:=0) rfl,q _ ((((s1.trans s2).trans s3).trans s4).trans s5)⟩
  |gn h h2=>
   obtain⟨b,rfl,hb⟩:=hD
   refine⟨b,rfl,_,SqT.of hb,V.str (Str.ofString "guard"),aag (j:=0) rfl,rfl,?_⟩
   rw[if_neg (by decide+kernel)]
   refine⟨b,rfl,_,SqT.of hb,V.str (Str.ofString "guard"),aag (j:=0) rfl,rfl,?_⟩
   rw[if_neg (by decide+kernel)]
   refine⟨_,_,h1,abl (by decide+kernel),b,rfl,_,SqT.of hb,_,aag (j:=1) rfl,b,rfl,_,SqT.of hb,_,aag (j:=2) rfl,b,rfl,_,SqT.of hb,_,aag (j:=3) rfl,p,a,rs,_,_,_,rfl,hS,ho,hl,?_⟩
   rw[if_pos h,if_neg h2]
   intro H' s0
   refine⟨clsK A 2,rfl,(sub (k:=2) (by decide)).1,fun ea hea=>?_⟩
   obtain⟨_,xi,kv,kb,kt,kn,k1,k2,k3⟩:=sub (k:=2) (by decide)
   have s1:=aae (o:=excO ea (clsK A 2)) s0 hea
   have e1:upd H' ea (excO ea (clsK A 2)) ea=some (excO ea (clsK A 2)):=aaf
   generalize upd H' ea (excO ea (clsK A 2))=G at *
   refine⟨fun σ G1=>σ=[some (.ref p),some (.ref b),some (.ref ea),none]∧Same G G1,?_,fun σ1 G1=>?_⟩
   ·walk_at "wp"
    refine⟨_,e1,xi,true,kv,iteF fun p1 hp1=>?_⟩
    have sp:=aae (o:=.tup [V.ref A.C_NoShape,V.ref A.C_OutOfRoom,V.ref A.C_NoRight]) (aab (H:=G)) hp1
    refine⟨_,_,sp _ _ e1,xi,rfl,fun v hv=>?_,false,?_,iteF sp⟩
    ·simp only[List.mem_cons,List.not_mem_nil,or_false] at hv
     rcases hv with rfl|rfl|rfl<;>exact .inl ⟨_,rfl⟩
    ·simp only[List.map_cons,List.map_nil,acu,PySem.W.kitAny,k1,k2,k3]
   rintro⟨rfl,s2⟩
   refine⟨fun σ G2=>∃l,σ=[some (.ref p),some (.ref b),some (.ref ea),some (.ref l)]∧Same G1 G2∧G2 l=some (.lst (([false,false,true]:List Bool).map V.bl)),?_,fun σ2 G2=>?_⟩
   ·walk_at "wp"
    exact⟨_,s2 _ _ e1,xi,_,kb,_,s2 _ _ e1,xi,_,kt,_,s2 _ _ e1,xi,_,kn,fun p1 hp1=>⟨aae aab hp1,rfl⟩⟩
   rintro⟨l,rfl,s3,hl3⟩
   have e3:=s3 _ _ (s2 _ _ e1)
   refine⟨fun σ G3=>σ=[some (.ref p),some (.ref b),some (.ref ea),some (.ref l)]∧Same G2 G3,?_,fun σ2 G3=>?_⟩
   ·walk_at "wp"
    unfold tCompH
    walk_at "wp"
    refine⟨⟨_,SqL.of hl3⟩,_,fun D hD=>ade hl3 e3 hD (by decide) fun H9 s9 h9=>⟨_,s9 _ _ e3,_,SqL.of h9,iteF s9⟩⟩
   rintro⟨rfl,s4⟩
   walk_at "wp"
   intro p1 hp1
   have s5:=aae (o:=.lst [V.str (Str.ofString "BadRights"),V.str (Str.ofString "Taken"),V.str (Str.ofString "NotMapped")]) (aab (H:=G3)) hp1
   have hl5:=s5 _ _ (s4 _ _ hl3)
   refine⟨.inl ⟨rfl,_,SqL.of hl5⟩,l,_,_,2,rfl,rfl,SqL.of hl5,rfl,by decide,by decide,?_⟩
   exact⟨_,_,rfl,by rw[aaf];rfl,_,aag (j:=2) rfl,q _ ((((s1.trans s2).trans s3).trans s4).trans s5)⟩
noncomputable def af0 (u:Nat):Sp:=fun vs H Q _=>∃c:Int,vs=[.int c]∧∀n:Int,0≤n→Q (.int n) H
theorem h_num (T:Txt K mg A):Have P w K mg base "_law_number" 1 ["_law_cell"] [] (af0 0):=by
 refine T.r_l_number.have af9 (fun vs H Q E z=>?_) ?_
 ·obtain⟨c,rfl,_⟩:=z;rfl
 ·intro f cdv A' outer s H vs Q E hr z
  obtain⟨c,rfl,q⟩:=z
  refine⟨_,(aak (ab2 (aa5 afa (aan ab3 (pvM 0) aad) aad (nomark _)) (aah (aa2 (aan ab3 (aan adg (pvM 0) aad) aad))) abg)
   (aah (aa2 (aan ab3 (aan adg (pvM 0) aad) (aan aee aad aad))))),?_⟩
  walk_at "wp"
  exact ite2 (fun _=>q _ (by omega)) (fun _=>q _ (by omega))
noncomputable def sp_bad:Sp:=fun vs H Q _=>∃c:Int,vs=[.int c]∧∀r H',¬(0≤r∧r≤3)→Same H H'→Q (.int r) H'
theorem h_bad (T:Txt K mg A):Have P w K mg base "_law_bad" 1 ["_law_cell"] [] sp_bad:=by
 refine T.r_l_bad.have ajo (fun vs H Q E z=>?_) ?_
 ·obtain⟨c,rfl,_⟩:=z;rfl
 ·intro f cdv A' outer s H vs Q E hr z
  obtain⟨c,rfl,q⟩:=z
  refine⟨_,(aah (aa2 (aa0 ac7 (abx (aaa (akj ah7 aad) (aaa aad (aaa (aan aa7 aad (aan ab3 (pvM 0) (aan aee aad aad))) (aaa (aan ab8 (akj ah7 aad) (aan ab3 (pvM 0) (aan aee aad aad))) aac))))) (aan ab3 (aan adg (pvM 0) aad) aad) (fun _ _=>rfl)))),?_⟩
  walk_at "wp"
  intro p hp
  have h0:0≤c / 11 % 4:=by omega
  have h4:c / 11 % 4 < 4:=by omega
  generalize c / 11 % 4=x at *
  have sp:=fun o=>aae (o:=o) (aab (H:=H)) hp
  obtain rfl|rfl|rfl|rfl:x=0∨x=1∨x=2∨x=3:=by omega
  ·exact⟨_,aag (j:=0) rfl,q _ _ (by omega) (sp _)⟩
  ·exact⟨_,aag (j:=1) rfl,q _ _ (by omega) (sp _)⟩
  ·exact⟨_,aag (j:=2) rfl,q _ _ (by omega) (sp _)⟩
  ·exact⟨_,aag (j:=3) rfl,q _ _ (by omega) (sp _)⟩
noncomputable def dueK (c:Int):Nat:=if c % 11 < 2 then 1 else if c % 11 < 4 then 0 else if c % 11 < 9 then 2 else 0
noncomputable def sp_due:Sp:=fun vs H Q _=>∃c:Int,vs=[.int c]∧∀H',Same H H'→Q (.str (nmT (dueK c))) H'
theorem h_due (T:Txt K mg A):Have P w K mg base "_law_due" 1 ["_law_cell"] [] sp_due:=by
 refine T.r_l_due.have ajp (fun vs H Q E z=>?_) ?_
 ·obtain⟨c,rfl,_⟩:=z;rfl
 ·intro f cdv A' outer s H vs Q E hr z
  obtain⟨c,rfl,q⟩:=z
  refine⟨_,(aah (aa2 (@aa0 _ _ _ _ _ _ _ ac7 (@abx _ _ _ _ (@aaa _ _ _ _ _ abd (@aaa _ _ _ _ _ abd (@aaa _ _ _ _ _ abd (@aaa _ _ _ _ _ abd (@aaa _ _ _ _ _ abd (@aaa _ _ _ _ _ abd (@aaa _ _ _ _ _ abd (@aaa _ _ _ _ _ abd (@aaa _ _ _ _ _ abd (@aaa _ _ _ _ _ abd (@aaa _ _ _ _ _ abd aac rfl) rfl) rfl) rfl) rfl) rfl) rfl) rfl) rfl) rfl) rfl)) (aan ab3 (pvM 0) aad) (fun _ _=>rfl)))),?_⟩
  walk_at "wp"
  intro p hp
  unfold dueK at q
  have h0:0≤c % 11:=by omega
  have h4:c % 11 < 11:=by omega
  generalize c % 11=x at *
  have sp:=fun o=>q _ (aae (o:=o) (aab (H:=H)) hp)
  obtain rfl|rfl|rfl|rfl|rfl|rfl|rfl|rfl|rfl|rfl|rfl:x=0∨x=1∨x=2∨x=3∨x=4∨x=5∨x=6∨x=7∨x=8∨x=9∨x=10:=by omega
  ·exact⟨_,aag (j:=0) rfl,sp _⟩
  ·exact⟨_,aag (j:=1) rfl,sp _⟩
  ·exact⟨_,aag (j:=2) rfl,sp _⟩
  ·exact⟨_,aag (j:=3) rfl,sp _⟩
  ·exact⟨_,aag (j:=4) rfl,sp _⟩
  ·exact⟨_,aag (j:=5) rfl,sp _⟩
  ·exact⟨_,aag (j:=6) rfl,sp _⟩
  ·exact⟨_,aag (j:=7) rfl,sp _⟩
  ·exact⟨_,aag (j:=8) rfl,sp _⟩
  ·exact⟨_,aag (j:=9) rfl,sp _⟩
  ·exact⟨_,aag (j:=10) rfl,sp _⟩
noncomputable def sp_lt (C:Addr) (K:PySem.W.Frag):Sp:=fun vs H Q _=>∃(p a l:Addr) (rs:List Rn) (us:List V),vs=[.ref p,.ref l]∧StAt C H p a rs∧H l=some (.lst us)∧RunsAt H us rs∧∀H',Same H H'→Q (.bl true) H'
theorem alc (T:Txt K mg A):Have P w K mg base "_law_told" 2 ["_law_some","_law_due_here"] [] (sp_lt A.C_Stretches K):=by
 have H_Stretches_told:=ai0 (P:=P) (w:=w) (base:=base) T
 refine T.r_l_told.have afr (fun vs H Q E z=>?_) ?_
 ·obtain⟨p,a,l,rs,us,rfl,_⟩:=z;rfl
 ·intro f cdv A' outer s H vs Q E hr z
  obtain⟨p,a,l,rs,us,rfl,hS,hl,hr2,q⟩:=z
  obtain⟨dx,vs0,h1,_⟩:=id hS
  refine⟨_,(aak (aa6 (i:=2) afr.nd rfl (Or.inl rfl) (ah2 (pvM 0) T.cl_Stretches H_Stretches_told (hr.mono (by decide)) aaj))
   (aah (aa2 (ae9 (abc aeu rfl T.b_isinstance PyProof.Rows.boot_isinstance (aaa (pvM 2) (aaa (adx (n:="list") rfl T.b_list PyProof.Rows.boot_list) aac))) (agf (adh (aj7 (n:=4) (hu6 hr)) (pvM 2) (pvM 1) (nomark _))))))),?_⟩
  walk_at "wp"
  refine⟨_,_,h1,abl (by decide+kernel),p,a,rs,rfl,hS,fun t us2 ht hu=>?_⟩
  have s1:=aae (o:=.lst us2) (aab (H:=H)) ht
  refine⟨by decide,kn_lst aaf,?_⟩
  rw[aji aaf]
  exact iteT (ak9 aaf (s1 _ _ hl) hu (hr2.same s1) (q _ s1))
theorem adu {H:Hp} {p:Addr} {o:HO} (h:H p=none):Same H (upd H p o)∧upd H p o p=some o:=⟨aae aab h,aaf⟩
noncomputable def two (x m g e r0 r1:Int) (t:Option (Int×Int)):List Rn:=[⟨x,m,r0,t⟩,⟨x+m+g,e,r1,none⟩]
theorem two_sep {x m g e r0 r1:Int} {t:Option (Int×Int)} (hm:0 < m) (hg:0 < g) (he:0 < e):SepR (two x m g e r0 r1 t):=by
 refine⟨List.pairwise_cons.mpr ⟨fun b hb=>?_,by simp⟩,fun r hr=>?_⟩
 ·rw[List.mem_singleton.mp hb]
  show x+m < x+m+g
  omega
 ·rcases List.mem_cons.mp hr with rfl|hr
  ·exact hm
  ·rw[List.mem_singleton.mp hr];exact he
theorem ajz {x m g e r0 r1 p:Int} {t:Option (Int×Int)} (h1:x≤p) (h2:p < x+m):pm (two x m g e r0 r1 t) p=some (r0,tf ⟨x,m,r0,t⟩ p):=by
 unfold two
 rw[act,if_pos ⟨h1,h2⟩]
theorem adv {x m g e r0 r1 p:Int} {t:Option (Int×Int)} (h1:x+m≤p) (h2:p < x+m+g):pm (two x m g e r0 r1 t) p=none:=by
 unfold two
 rw[act,if_neg (show ¬(x≤p∧p < x+m) by omega),act,if_neg (show ¬(x+m+g≤p∧p < x+m+g+e) by omega)]
 rfl
theorem ake {x m g e r0 r1 p:Int} {t:Option (Int×Int)} (h0:0 < m) (h:0 < g) (h1:x+m+g≤p) (h2:p < x+m+g+e):pm (two x m g e r0 r1 t) p=some (r1,none):=by
 unfold two
 rw[act,if_neg (show ¬(x≤p∧p < x+m) by omega),act,if_pos (show x+m+g≤p∧p < x+m+g+e from ⟨h1,h2⟩)]
 rfl
noncomputable def sp_deed:Sp:=fun vs H Q _=>∃(c x m g e r0 r1:Int) (t:Option (Int×Int)),vs=[.int c,.int x,.int m,.int g,.int e]∧0≤x∧0 < m∧0 < g∧0 < e∧∀v D H',DeedAt H' v D→Rf (two x m g e r0 r1 t) D (dueK c)→Same H H'→Q v H'
theorem ag2 {rs:List Rn} {a n p:Int} {y:Int×Option (Int×Int)} (o:OrdR rs) (hn:0 < n) (h1:a≤p) (h2:p < a+n) (h:pm rs p=some y):pam rs a n≠[]:=fun z=>by
 have:=(ae4 o hn).mp z p h1 h2
 rw[h] at this
 cases this
theorem adf {rs:List Rn} {a n p:Int} (o:OrdR rs) (hn:0 < n) (h1:a≤p) (h2:p < a+n) (h:pm rs p=none):((pam rs a n).map (·.m)).sum≠n:=fun z=>(ae3 o hn).mp z p h1 h2 h
theorem h_deed (T:Txt K mg A):Have P w K mg base "_law_deed" 2 ["_law_cell","_law_first","_law_many","_law_gap","_law_more"] [] sp_deed:=by
 have H_l_bad:=h_bad (P:=P) (w:=w) (base:=base) T
 refine T.r_l_deed.have acb (fun vs H Q E z=>?_) ?_
 ·obtain⟨c,x,m,g,e,r0,r1,t,rfl,_⟩:=z;rfl
 ·intro f cdv A' outer s H vs Q E hr z
  obtain⟨c,x,m,g,e,r0,r1,t,rfl,hx,hm,hg,he,q⟩:=z
  refine⟨_,(aak (aa6 (i:=5) acb.nd rfl (Or.inl rfl) (aan ab3 (pvM 0) aad))
   (aak (aa6 (i:=6) acb.nd rfl (Or.inl rfl) (aan ab3 (aan adg (pvM 0) aad) aad))
   (aak (aa6 (i:=7) acb.nd rfl (Or.inl rfl) (aan ab3 (aan adg (pvM 0) aad) (aan aee aad aad)))
   (aak (aa6 (i:=8) acb.nd rfl (Or.inl rfl) (abc (afc rfl) rfl T.b_min PyProof.Rows.boot_min (aaa (pvM 1) (aaa (pvM 7) aac))))
   (aak (aa6 (i:=9) acb.nd rfl (Or.inl rfl) (aan aa7 (aan aa7 (pvM 2) (pvM 3)) (pvM 4)))
   (aa3 (ab2 (aa5 afb (pvM 5) aad (nomark _)) (aah (aa2 (aa0 ac7 (abx (aaa (abz (aaa abd (aaa (aan ab8 (aan aa7 (pvM 1) (pvM 2)) aad) (aaa (aan aa7 aad (pvM 7)) (aaa (pvM 6) aac))))) (aaa (abz (aaa abd (aaa (aan ab8 (pvM 1) (pvM 8)) (aaa (aan aa7 (pvM 8) aad) (aaa (pvM 6) aac))))) aac))) (pvM 5) (fun _ _=>rfl)))) abg)
   (aa3 (ab2 (aa5 afb (pvM 5) aad (nomark _)) (aah (aa2 (aa0 ac7 (abx (aaa (abz (aaa abd (aaa (aan aa7 (pvM 1) (pvM 2)) (aaa aad (aaa (aai H_l_bad (hr.mono (by decide)) aaj (aaa (pvM 0) aac)) aac))))) (aaa (abz (aaa abd (aaa (pvM 1) (aaa (aan aa7 aad (pvM 7)) (aaa (aai H_l_bad (hr.mono (by decide)) aaj (aaa (pvM 0) aac)) aac))))) aac))) (aan ab8 (pvM 5) aad) (fun _ _=>rfl)))) abg)
   (aa3 (ab2 (aa5 afb (pvM 5) aad (nomark _)) (aah (aa2 (abz (aaa abd (aaa (aa0 ac7 (abx (aaa (pvM 1) (aaa (aan aa7 (pvM 1) (pvM 2)) (aaa (pvM 1) aac)))) (aan ab8 (pvM 5) aad) (fun _ _=>rfl)) (aaa (aa0 ac7 (abx (aaa (aan aa7 (pvM 2) aad) (aaa (pvM 3) (aaa (pvM 9) aac)))) (aan ab8 (pvM 5) aad) (fun _ _=>rfl)) aac)))))) abg)
   (aa3 (ab2 (aa5 afb (pvM 5) aad (nomark _)) (aah (aa2 (abz (aaa abd (aaa (pvM 1) (aaa (aa0 ac7 (abx (aaa (aan aa7 (pvM 2) aad) (aaa (pvM 9) aac))) (aan ab8 (pvM 5) aad) (fun _ _=>rfl)) (aaa (pvM 6) aac))))))) abg)
   (aah (aa2 (abz (aaa abd (aaa (pvM 1) (aaa (aa0 ac7 (abx (aaa (pvM 2) (aaa (aan aa7 (pvM 2) (pvM 3)) aac))) (aan ab8 (pvM 5) aad) (fun _ _=>rfl)) (aaa (aai H_l_bad (hr.mono (by decide)) aaj (aaa (pvM 0) aac)) aac)))))))))))))))),?_⟩
  unfold sp_bad
  walk_at "wp"
  have ho:=(two_sep (x:=x) (r0:=r0) (r1:=r1) (t:=t) hm hg he).ord
  unfold dueK at q
  have y0:0≤c % 11:=by omega
  have y1:c % 11 < 11:=by omega
  have g0:0≤c / 11 % 4∧c / 11 % 4≤3:=by omega
  have b0:0≤c / 44 % 100000000000000000000000000000000000000000000000000:=by omega
  have b1:0≤(if c / 44 % 100000000000000000000000000000000000000000000000000 < x then c / 44 % 100000000000000000000000000000000000000000000000000 else x)∧(if c / 44 % 100000000000000000000000000000000000000000000000000 < x then c / 44 % 100000000000000000000000000000000000000000000000000 else x)≤x:=by split<;>omega
  generalize (if c / 44 % 100000000000000000000000000000000000000000000000000 < x then c / 44 % 100000000000000000000000000000000000000000000000000 else x)=bk at *
  generalize c / 44 % 100000000000000000000000000000000000000000000000000=st at *
  generalize c / 11 % 4=gd at *
  generalize c % 11=y at *
  refine⟨fun σ G=>σ=[some (.int c),some (.int x),some (.int m),some (.int g),some (.int e),some (.int y),some (.int gd),some (.int st),some (.int bk),some (.int (m+g+e))]∧H=G∧2≤y,?_,fun σ1 G=>?_⟩
  ·walk_at "wp"
   refine ite2 (fun h=>?_) (fun h=>by omega)
   intro p1 e1
   obtain⟨s1,a1⟩:=adu (o:=.tup [V.str (Str.ofString "put"),V.int (x+m - 1),V.int (1+st),V.int gd]) e1
   generalize upd H p1 _=G1 at *
   intro p2 e2
   obtain⟨s2,a2⟩:=adu (o:=.tup [V.str (Str.ofString "put"),V.int (x - bk),V.int (bk+1),V.int gd]) e2
   generalize upd G1 p2 _=G2 at *
   intro p3 e3
   have s3:=fun o=>aae (o:=o) (aab (H:=G2)) e3
   rw[if_pos h] at q
   obtain rfl|rfl:y=0∨y=1:=by omega
   ·exact⟨_,aag (j:=0) rfl,q _ (.put _ _ _) _ ⟨p1,rfl,s3 _ _ _ (s2 _ _ a1)⟩ (.pt g0 (ag2 ho (by omega) (p:=x+m - 1) (by omega) (by omega) (ajz (by omega) (by omega)))) ((s1.trans s2).trans (s3 _))⟩
   ·exact⟨_,aag (j:=1) rfl,q _ (.put _ _ _) _ ⟨p2,rfl,s3 _ _ _ a2⟩ (.pt g0 (ag2 ho (by omega) (p:=x) (by omega) (by omega) (ajz (by omega) (by omega)))) ((s1.trans s2).trans (s3 _))⟩
  rintro⟨rfl,rfl,hy⟩
  rw[if_neg (by omega)] at q
  refine⟨fun σ G=>σ=[some (.int c),some (.int x),some (.int m),some (.int g),some (.int e),some (.int y),some (.int gd),some (.int st),some (.int bk),some (.int (m+g+e))]∧H=G∧4≤y,?_,fun σ1 G=>?_⟩
  ·walk_at "wp"
   refine ite2 (fun h=>?_) (fun h=>by omega)
   rw[if_pos h] at q
   intro r1' G1 hr1 s1 p1 e1
   obtain⟨s2,a1⟩:=adu (o:=.tup [V.str (Str.ofString "put"),V.int (x+m),V.int 1,V.int r1']) e1
   generalize upd G1 p1 _=G2 at *
   intro r2 G3 hr2 s3 p2 e2
   obtain⟨s4,a2⟩:=adu (o:=.tup [V.str (Str.ofString "put"),V.int x,V.int (1+st),V.int r2]) e2
   generalize upd G3 p2 _=G4 at *
   intro p3 e3
   have s5:=fun o=>aae (o:=o) (aab (H:=G4)) e3
   have sT:=((s1.trans s2).trans s3).trans s4
   obtain rfl|rfl:y=2∨y=3:=by omega
   ·exact⟨_,aag (j:=0) rfl,q _ (.put _ _ _) _ ⟨p1,rfl,s5 _ _ _ (s4 _ _ (s3 _ _ a1))⟩ (.pb hr1) (sT.trans (s5 _))⟩
   ·exact⟨_,aag (j:=1) rfl,q _ (.put _ _ _) _ ⟨p2,rfl,s5 _ _ _ a2⟩ (.pb hr2) (sT.trans (s5 _))⟩
  rintro⟨rfl,rfl,hy⟩
  rw[if_neg (by omega)] at q
  refine⟨fun σ G=>σ=[some (.int c),some (.int x),some (.int m),some (.int g),some (.int e),some (.int y),some (.int gd),some (.int st),some (.int bk),some (.int (m+g+e))]∧H=G∧7≤y,?_,fun σ1 G=>?_⟩
  ·walk_at "wp"
   refine ite2 (fun h=>?_) (fun h=>by omega)
   rw[if_pos (by omega)] at q
   intro p1 e1
   obtain⟨s1,_⟩:=adu (o:=.lst [V.int x,V.int (x+m),V.int x]) e1
   generalize upd H p1 _=G1 at *
   have fin:∀(a n:Int) (p2 p3:Addr) (e2:G1 p2=none),upd G1 p2 (.lst [V.int (m+1),V.int g,V.int (m+g+e)]) p3=none→((pam (two x m g e r0 r1 t) a n).map (·.m)).sum≠n→Q (V.ref p3) (upd (upd G1 p2 (.lst [V.int (m+1),V.int g,V.int (m+g+e)])) p3 (.tup [V.str (Str.ofString "cut"),V.int a,V.int n])):=fun a n p2 p3 e2 e3 hne=>q _ (.cut _ _) _ ⟨p3,rfl,aaf⟩ (.cn hne) (aae (aae s1 e2) e3)
   obtain rfl|rfl|rfl:y=4∨y=5∨y=6:=by omega
   ·exact⟨_,aag (j:=0) rfl,fun p2 e2=>⟨_,aag (j:=0) rfl,fun p3 e3=>fin _ _ _ _ e2 e3 (adf ho (by omega) (p:=x+m) (by omega) (by omega) (adv (by omega) (by omega)))⟩⟩
   ·exact⟨_,aag (j:=1) rfl,fun p2 e2=>⟨_,aag (j:=1) rfl,fun p3 e3=>fin _ _ _ _ e2 e3 (adf ho (by omega) (p:=x+m) (by omega) (by omega) (adv (by omega) (by omega)))⟩⟩
   ·exact⟨_,aag (j:=2) rfl,fun p2 e2=>⟨_,aag (j:=2) rfl,fun p3 e3=>fin _ _ _ _ e2 e3 (adf ho (by omega) (p:=x+m) (by omega) (by omega) (adv (by omega) (by omega)))⟩⟩
  rintro⟨rfl,rfl,hy⟩
  refine⟨fun σ G=>σ=[some (.int c),some (.int x),some (.int m),some (.int g),some (.int e),some (.int y),some (.int gd),some (.int st),some (.int bk),some (.int (m+g+e))]∧H=G∧9≤y,?_,fun σ1 G=>?_⟩
  ·walk_at "wp"
   refine ite2 (fun h=>?_) (fun h=>by omega)
   rw[if_pos (by omega)] at q
   intro p1 e1
   obtain rfl|rfl:y=7∨y=8:=by omega
   ·exact⟨_,aag (j:=0) rfl,fun p2 e2=>q _ (.guard _ _ _) _ ⟨p2,rfl,aaf⟩ (.gn g0 (adf ho (by omega) (p:=x+m) (by omega) (by omega) (adv (by omega) (by omega)))) (aae (aae aab e1) e2)⟩
   ·exact⟨_,aag (j:=1) rfl,fun p2 e2=>q _ (.guard _ _ _) _ ⟨p2,rfl,aaf⟩ (.gn g0 (adf ho (by omega) (p:=x+m) (by omega) (by omega) (adv (by omega) (by omega)))) (aae (aae aab e1) e2)⟩
  rintro⟨rfl,rfl,hy⟩
  walk_at "wp"
  rw[if_neg (by omega)] at q
  intro p1 e1
  obtain rfl|rfl:y=9∨y=10:=by omega
  ·exact⟨_,aag (j:=0) rfl,fun r H' hr s2 p2 e2=>q _ (.guard _ _ _) _ ⟨p2,rfl,aaf⟩ (.gb hr) (aae ((aae aab e1).trans s2) e2)⟩
  ·exact⟨_,aag (j:=1) rfl,fun r H' hr s2 p2 e2=>q _ (.guard _ _ _) _ ⟨p2,rfl,aaf⟩ (.gb hr) (aae ((aae aab e1).trans s2) e2)⟩
theorem ai5 (rs parts:List Rn) (a n:Int):(layR rs a n parts).length≤4 * rs.length+parts.length:=by
 unfold layR
 simp only[]
 have hN:(cutR rs (pb rs (a - 1)) (pb rs (a+n)+1)).length≤rs.length:=by
  unfold cutR
  simp only[List.length_drop,List.length_take]
  omega
 generalize cutR rs (pb rs (a - 1)) (pb rs (a+n)+1)=N at hN
 have h1:=agw ((N.filter fun r=>decide (r.f < a)).map (fun r=>poR r r.f a)++parts++(N.filter fun r=>decide (enR r > a+n)).map (fun r=>poR r (a+n) (enR r))) []
 have h2:=List.length_filter_le (fun r:Rn=>decide (r.f < a)) N
 have h3:=List.length_filter_le (fun r:Rn=>decide (enR r > a+n)) N
 have h4:(rs.take (pb rs (a - 1))).length≤rs.length:=by rw[List.length_take];omega
 have h5:(rs.drop (pb rs (a+n)+1)).length≤rs.length:=by rw[List.length_drop];omega
 simp only[List.length_append,List.length_map,List.length_nil,Nat.zero_add] at h1 ⊢
 have h1':(jn ((N.filter fun r=>decide (r.f < a)).map (fun r=>poR r r.f a)++parts++(N.filter fun r=>decide (enR r > a+n)).map (fun r=>poR r (a+n) (enR r)))).length≤(N.filter fun r=>decide (r.f < a)).length+parts.length+(N.filter fun r=>decide (enR r > a+n)).length:=h1
 omega
noncomputable def spLaw (K:PySem.W.Frag):Sp:=fun vs H Q _=>∃(a:Addr) (ns:List Int),vs=[.ref a]∧SqL K H a (ns.map V.int)∧ns.length≤63∧∀H',Q (.bl true) H'
theorem aj0 (T:Txt K mg A):Body P w K mg base "law" aga ["_law_script","_law_first","_law_many","_law_gap","_law_more","_law_rights","_law_tie","_law_last","_law_some","_law_due_here","_law_cell"] 11 (spLaw K):=by
 intro f' cdv A' outer s H vs Q E hr z
 obtain⟨a,ns,rfl,hs,hn,q⟩:=z
 have H_l_cell_at:=h_cell (P:=P) (w:=w) (base:=base) T a ns
 have H_l_number:=h_num (P:=P) (w:=w) (base:=base) T
 have H_l_told:=alc (P:=P) (w:=w) (base:=base) T
 have H_l_tried:=alb (P:=P) (w:=w) (base:=base) T
 have H_l_deed:=h_deed (P:=P) (w:=w) (base:=base) T
 have H_l_due:=h_due (P:=P) (w:=w) (base:=base) T
 have H_Stretches_init:=ai2 (P:=P) (w:=w) (base:=base) T
 have H_Stretches_put:=ajs (P:=P) (w:=w) (base:=base) T
 have H1_Stretches_put:=afx (P:=P) (w:=w) (base:=base) T
 have H_Stretches_cut:=h_cut (P:=P) (w:=w) (base:=base) T
 have H_Stretches_guard:=ai4 (P:=P) (w:=w) (base:=base) T
 have H_Stretches_rights_at:=h_rat (P:=P) (w:=w) (base:=base) T
 refine⟨_,(aa3 (aa6 (i:=1) acn.nd rfl (Or.inl rfl) (aai H_l_number (hr.mono (by decide)) aaj (aaa (aai H_l_cell_at (hr.mono (by decide)) aaj (aaa (pvM 0) (aaa aad aac))) aac)))
   (aa3 (aa6 (i:=2) acn.nd rfl (Or.inl rfl) (aan aa7 aad (aai H_l_number (hr.mono (by decide)) aaj (aaa (aai H_l_cell_at (hr.mono (by decide)) aaj (aaa (pvM 0) (aaa aad aac))) aac))))
   (aa3 (aa6 (i:=3) acn.nd rfl (Or.inl rfl) (aan aa7 aad (aai H_l_number (hr.mono (by decide)) aaj (aaa (aai H_l_cell_at (hr.mono (by decide)) aaj (aaa (pvM 0) (aaa aad aac))) aac))))
   (aa3 (aa6 (i:=4) acn.nd rfl (Or.inl rfl) (aan aa7 aad (aai H_l_number (hr.mono (by decide)) aaj (aaa (aai H_l_cell_at (hr.mono (by decide)) aaj (aaa (pvM 0) (aaa aad aac))) aac))))
   (aa3 (aa6 (i:=5) acn.nd rfl (Or.inl rfl) (abx (aaa (aan ab3 (aai H_l_cell_at (hr.mono (by decide)) aaj (aaa (pvM 0) (aaa aad aac))) aad) (aaa (aan ab3 (aai H_l_cell_at (hr.mono (by decide)) aaj (aaa (pvM 0) (aaa aad aac))) aad) aac))))
   (aa3 (aa6 (i:=6) acn.nd rfl (Or.inl rfl) ac3)
   (aa3 (ab2 (aa5 afa (aan ab3 (aai H_l_cell_at (hr.mono (by decide)) aaj (aaa (pvM 0) (aaa aad aac))) aad) aad (nomark _)) (aah (aa6 (i:=6) acn.nd rfl (Or.inl rfl) (abz (aaa (aan ab3 (aai H_l_cell_at (hr.mono (by decide)) aaj (aaa (pvM 0) (aaa aad aac))) (aan aee aad aad)) (aaa (aan ab3 (aai H_l_cell_at (hr.mono (by decide)) aaj (aaa (pvM 0) (aaa aad aac))) (aan aee aad aad)) aac))))) abg)
   (aa3 (aa6 (i:=7) acn.nd rfl (Or.inl rfl) (aan aa7 (aan aa7 (pvM 1) (pvM 2)) (pvM 3)))
   (aa3 (aa6 (i:=8) acn.nd rfl (Or.inl rfl) (ah4 H_Stretches_init (hr.mono (by decide)) aaj))
   (aa3 (abj (aao (pvM 8) T.cl_Stretches H1_Stretches_put (hr.mono (by decide)) aaj (aaa (pvM 7) (aaa (pvM 4) (aaa (aa0 abn (pvM 5) aad (fun _ _=>rfl)) aac)))))
   (aa3 (abj (aao (pvM 8) T.cl_Stretches H_Stretches_put (hr.mono (by decide)) aaj (aaa (pvM 1) (aaa (pvM 2) (aaa (aa0 abn (pvM 5) aad (fun _ _=>rfl)) (aaa (pvM 6) aac))))))
   (aa3 (aa6 (i:=9) acn.nd rfl (Or.inl rfl) (abx (aaa (abz (aaa (pvM 1) (aaa (pvM 2) (aaa (aa0 abn (pvM 5) aad (fun _ _=>rfl)) (aaa (pvM 6) aac))))) (aaa (abz (aaa (pvM 7) (aaa (pvM 4) (aaa (aa0 abn (pvM 5) aad (fun _ _=>rfl)) (aaa ac3 aac))))) aac))))
   (aa3 (ab2 (aed (adq (aai H_l_told (hr.mono (by decide)) aaj (aaa (pvM 8) (aaa (pvM 9) aac))))) (aah (aa2 af2)) abg)
   (aa3 (ah8 PassesOwn.leaving rfl (acx (ac6 ad5 (pvM 0) (acp aad) (acp aad))) (aco (i:=10) acn.nd rfl (Or.inl rfl)) (aak (ab2 (aa5 ag3 (aai H_l_tried (hr.mono (by decide)) aaj (aaa (pvM 8) (aaa (aai H_l_deed (hr.mono (by decide)) aaj (@aaa _ _ _ _ _ (pvM 10) (@aaa _ _ _ _ _ (pvM 1) (@aaa _ _ _ _ _ (pvM 2) (@aaa _ _ _ _ _ (pvM 3) (@aaa _ _ _ _ _ (pvM 4) aac rfl) rfl) rfl) rfl) rfl)) aac))) (aai H_l_due (hr.mono (by decide)) aaj (aaa (pvM 10) aac)) (nomark _)) (aah (aa2 af2)) abg)
   (aah (ab2 (aed (adq (aai H_l_told (hr.mono (by decide)) aaj (aaa (pvM 8) (aaa (pvM 9) aac))))) (aah (aa2 af2)) abg))))
   (aa3 (ab2 (PW.pt (ai7 (aa5 ag3 (aao (pvM 8) T.cl_Stretches H_Stretches_rights_at (hr.mono (by decide)) aaj (aaa (aan ab8 (aan aa7 (pvM 1) (pvM 2)) aad) aac)) (aa0 abn (pvM 5) aad (fun _ _=>rfl)) (nomark _)) (age (aa5 ahr (aao (pvM 8) T.cl_Stretches H_Stretches_rights_at (hr.mono (by decide)) aaj (aaa (aan aa7 (pvM 1) (pvM 2)) aac)) ac3 (nomark _))))) (aah (aa2 af2)) abg)
   (aa3 (ab2 (PW.pt (ai7 (aa5 ahr (aao (pvM 8) T.cl_Stretches H_Stretches_rights_at (hr.mono (by decide)) aaj (aaa (aan ab8 (pvM 7) aad) aac)) ac3 (nomark _)) (age (aa5 ag3 (aao (pvM 8) T.cl_Stretches H_Stretches_rights_at (hr.mono (by decide)) aaj (aaa (pvM 7) aac)) (aa0 abn (pvM 5) aad (fun _ _=>rfl)) (nomark _))))) (aah (aa2 af2)) abg)
   (aa3 (abj (aao (pvM 8) T.cl_Stretches H1_Stretches_put (hr.mono (by decide)) aaj (aaa (aan aa7 (pvM 1) (pvM 2)) (aaa (pvM 3) (aaa (aa0 abn (pvM 5) aad (fun _ _=>rfl)) aac)))))
   (aa3 (abj (aao (pvM 8) T.cl_Stretches H_Stretches_guard (hr.mono (by decide)) aaj (aaa (pvM 1) (aaa (aan aa7 (aan aa7 (pvM 2) (pvM 3)) (pvM 4)) (aaa (aa0 abn (pvM 5) aad (fun _ _=>rfl)) aac)))))
   (aa3 (ab2 (PW.pt (ai7 (aa5 ag3 (aao (pvM 8) T.cl_Stretches H_Stretches_rights_at (hr.mono (by decide)) aaj (aaa (pvM 7) aac)) (aa0 abn (pvM 5) aad (fun _ _=>rfl)) (nomark _)) (age (aa5 ag3 (aao (pvM 8) T.cl_Stretches H_Stretches_rights_at (hr.mono (by decide)) aaj (aaa (aan aa7 (pvM 1) (pvM 2)) aac)) (aa0 abn (pvM 5) aad (fun _ _=>rfl)) (nomark _))))) (aah (aa2 af2)) abg)
   (aa3 (abj (aao (pvM 8) T.cl_Stretches H_Stretches_cut (hr.mono (by decide)) aaj (aaa (pvM 1) (aaa (aan aa7 (aan aa7 (pvM 2) (pvM 3)) (pvM 4)) aac))))
   (aah (aa2 (aai H_l_told (hr.mono (by decide)) aaj (aaa (pvM 8) (aaa (abx aac) aac))))))))))))))))))))))))),?_⟩
 have em:∀z m:Int,0 < m→0≤z % m∧z % m < m:=fun z m hm=>⟨Int.emod_nonneg _ (by omega),Int.emod_lt_of_pos _ hm⟩
 refine⟨fun σ G=>∃x:Int,σ=[some (.ref a),some (.int x),none,none,none,none,none,none,none,none,none]∧H=G∧0≤x,?_,fun σ1 G=>?_⟩
 ·unfold ac1 af0
  walk_at "wp"
  exact⟨hs,fun x hx=>hx⟩
 rintro⟨x,rfl,rfl,hx⟩
 refine⟨fun σ G=>∃m:Int,σ=[some (.ref a),some (.int x),some (.int m),none,none,none,none,none,none,none,none]∧H=G∧0 < m,?_,fun σ1 G=>?_⟩
 ·unfold ac1 af0
  walk_at "wp"
  exact⟨hs,fun x hx=>by omega⟩
 rintro⟨m,rfl,rfl,hm⟩
 refine⟨fun σ G=>∃g:Int,σ=[some (.ref a),some (.int x),some (.int m),some (.int g),none,none,none,none,none,none,none]∧H=G∧0 < g,?_,fun σ1 G=>?_⟩
 ·unfold ac1 af0
  walk_at "wp"
  exact⟨hs,fun x hx=>by omega⟩
 rintro⟨g,rfl,rfl,hg⟩
 refine⟨fun σ G=>∃e:Int,σ=[some (.ref a),some (.int x),some (.int m),some (.int g),some (.int e),none,none,none,none,none,none]∧H=G∧0 < e,?_,fun σ1 G=>?_⟩
 ·unfold ac1 af0
  walk_at "wp"
  exact⟨hs,fun x hx=>by omega⟩
 rintro⟨e,rfl,rfl,he⟩
 refine⟨fun σ G=>∃(l:Addr) (r0 r1:Int),σ=[some (.ref a),some (.int x),some (.int m),some (.int g),some (.int e),some (.ref l),none,none,none,none,none]∧Same H G∧G l=some (.lst [.int r0,.int r1])∧(0≤r0∧r0≤3)∧(0≤r1∧r1≤3),?_,fun σ1 G=>?_⟩
 ·unfold ac1
  walk_at "wp"
  have h1:=em (ns.getD (4:Int).toNat 0) 4 (by decide)
  have h2:=em (ns.getD (5:Int).toNat 0) 4 (by decide)
  exact⟨hs,hs,fun p hp=>⟨aae aab hp,_,_,rfl,h1.1,by omega,h2.1,by omega⟩⟩
 rintro⟨l,r0,r1,rfl,s1,hl1,hr0,hr1⟩
 refine⟨fun σ G1=>σ=[some (.ref a),some (.int x),some (.int m),some (.int g),some (.int e),some (.ref l),some .non,none,none,none,none]∧G=G1,?_,fun σ1 G1=>?_⟩
 ·walk_at "wp"
 rintro⟨rfl,rfl⟩
 refine⟨fun σ G1=>∃(tv:V) (t:Option (Int×Int)),σ=[some (.ref a),some (.int x),some (.int m),some (.int g),some (.int e),some (.ref l),some tv,none,none,none,none]∧Same G G1∧TieAt G1 tv t,?_,fun σ1 G1=>?_⟩
 ·unfold ac1
  walk_at "wp"
  exact⟨s1.seq hs,ite2 (fun _=>⟨s1.seq hs,s1.seq hs,fun p hp=>⟨aae aab hp,some (_,_),p,rfl,aaf⟩⟩) (fun _=>⟨aab,none,rfl⟩)⟩
 rintro⟨tv,t,rfl,s2,hT⟩
 refine⟨fun σ G2=>σ=[some (.ref a),some (.int x),some (.int m),some (.int g),some (.int e),some (.ref l),some tv,some (.int (x+m+g)),none,none,none]∧G1=G2,?_,fun σ1 G2=>?_⟩
 ·walk_at "wp"
 rintro⟨rfl,rfl⟩
 have hl2:=s2 _ _ hl1
 have s12:=s1.trans s2
 refine⟨fun σ G2=>∃p a',σ=[some (.ref a),some (.int x),some (.int m),some (.int g),some (.int e),some (.ref l),some tv,some (.int (x+m+g)),some (.ref p),none,none]∧Same G1 G2∧G1 p=none∧StAt A.C_Stretches G2 p a' [],?_,fun σ1 G2=>?_⟩
 ·unfold ai1
  walk_at "wp"
  intro p dx h1 h2 hne a' ha'
  obtain⟨z1,z2⟩:=st_new h1 h2 ha'
  exact⟨z2,h1,a',z1⟩
 rintro⟨p,a0,rfl,s3,hpn,hS0⟩
 have R2:SepR [⟨x+m+g,e,r1,none⟩]:=(two_sep (x:=x) (r0:=r0) (r1:=r1) (t:=t) hm hg he).tail
 have R1:=two_sep (x:=x) (r0:=r0) (r1:=r1) (t:=t) hm hg he
 refine⟨fun σ G3=>∃a',σ=[some (.ref a),some (.int x),some (.int m),some (.int g),some (.int e),some (.ref l),some tv,some (.int (x+m+g)),some (.ref p),none,none]∧Same G1 G3∧StAt A.C_Stretches G3 p a' [⟨x+m+g,e,r1,none⟩],?_,fun σ1 G3=>?_⟩
 ·walk_at "wp"
  obtain⟨dx,fs,h1,h2⟩:=hS0.obj (m:="put") (by decide+kernel)
  refine⟨dx,fs,h1,h2,_,SqL.of (s3 _ _ hl2),_,aag (j:=1) rfl,p,a0,[],_,_,_,_,none,rfl,hS0,ala,by decide,rfl,?_⟩
  obtain⟨f1,f2⟩:=afz R2
  rw[if_pos hr1,if_pos f1]
  intro a' H' z1 z2
  rw[show layR [] (x+m+g) e [⟨x+m+g,e,r1,none⟩]=[⟨x+m+g,e,r1,none⟩] from f2] at z1
  exact⟨fun c o h=>z2 c o (s3 _ _ h) (aau h hpn),a',z1⟩
 rintro⟨a3,rfl,s4,hS1⟩
 refine⟨fun σ G4=>∃a',σ=[some (.ref a),some (.int x),some (.int m),some (.int g),some (.int e),some (.ref l),some tv,some (.int (x+m+g)),some (.ref p),none,none]∧Same G1 G4∧StAt A.C_Stretches G4 p a' (two x m g e r0 r1 t),?_,fun σ1 G4=>?_⟩
 ·walk_at "wp"
  obtain⟨dx,fs,h1,h2⟩:=hS1.obj (m:="put") (by decide+kernel)
  refine⟨dx,fs,h1,h2,_,SqL.of (s4 _ _ hl2),_,aag (j:=0) rfl,p,a3,_,_,_,_,tv,t,rfl,hS1,R2.ord,(by show 1≤100000;decide),hT.same s4,?_⟩
  obtain⟨f1,f2⟩:=afz R1
  rw[if_pos hr0,if_pos f1]
  intro a' H' z1 z2
  rw[show layR [⟨x+m+g,e,r1,none⟩] x m [⟨x,m,r0,t⟩]=two x m g e r0 r1 t from f2] at z1
  exact⟨fun c o h=>z2 c o (s4 _ _ h) (aau h hpn),a',z1⟩
 rintro⟨a4,rfl,s5,hS2⟩
 refine⟨fun σ G5=>∃dl us,σ=[some (.ref a),some (.int x),some (.int m),some (.int g),some (.int e),some (.ref l),some tv,some (.int (x+m+g)),some (.ref p),some (.ref dl),none]∧Same G4 G5∧G5 dl=some (.lst us)∧RunsAt G5 us (two x m g e r0 r1 t),?_,fun σ1 G5=>?_⟩
 ·walk_at "wp"
  refine⟨_,SqL.of (s5 _ _ hl2),_,aag (j:=0) rfl,fun p1 e1=>?_⟩
  obtain⟨z1,y1⟩:=adu (o:=.tup [V.int x,V.int m,V.int r0,tv]) e1
  generalize upd G4 p1 _=G5 at *
  refine⟨_,SqL.of (z1 _ _ (s5 _ _ hl2)),_,aag (j:=1) rfl,fun p2 e2=>?_⟩
  obtain⟨z2,y2⟩:=adu (o:=.tup [V.int (x+m+g),V.int e,V.int r1,V.non]) e2
  generalize upd G5 p2 _=G6 at *
  intro p3 e3
  have z3:=aae (o:=.lst [V.ref p1,V.ref p2]) (aab (H:=G6)) e3
  exact⟨(z1.trans z2).trans z3,_,rfl,.cons ⟨p1,tv,rfl,z3 _ _ (z2 _ _ y1),hT.same (((s5.trans z1).trans z2).trans z3)⟩ (.cons ⟨p2,.non,rfl,z3 _ _ y2,rfl⟩ .nil)⟩
 rintro⟨dl,us,rfl,s6,hdl,hus⟩
 have hS3:=hS2.same s6
 have s15:=s5.trans s6
 refine⟨fun σ G6=>σ=[some (.ref a),some (.int x),some (.int m),some (.int g),some (.int e),some (.ref l),some tv,some (.int (x+m+g)),some (.ref p),some (.ref dl),none]∧Same G5 G6,?_,fun σ1 G6=>?_⟩
 ·walk_at "wp"
  exact⟨p,a4,dl,_,us,rfl,hS3,hdl,hus,fun H' z=>⟨true,rfl,iteF z⟩⟩
 rintro⟨rfl,s7⟩
 refine⟨fun σ G7=>∃v9,σ=[some (.ref a),some (.int x),some (.int m),some (.int g),some (.int e),some (.ref l),some tv,some (.int (x+m+g)),some (.ref p),some (.ref dl),v9]∧Same G5 G7,?_,fun σ1 G7=>?_⟩
 ·walk_at "wp"
  refine⟨_,((s12.trans s15).trans s7).seq hs,fun p1 e1=>?_⟩
  rw[show cutV (ns.map V.int) (some 7) (some 27)=_ from ae6 (lo:=7) (hi:=27),←List.map_take,←List.map_drop]
  obtain⟨z1,y1⟩:=adu (o:=.lst (((ns.take 27).drop 7).map V.int)) e1
  generalize upd G6 p1 _=Gp at *
  refine⟨⟨_,SqL.of y1⟩,afm (K:=K) (xs:=((ns.take 27).drop 7).map V.int) (fun i σ G=>∃v9,σ=[some (.ref a),some (.int x),some (.int m),some (.int g),some (.int e),some (.ref l),some tv,some (.int (x+m+g)),some (.ref p),some (.ref dl),v9]∧Same Gp G) ⟨_,rfl,aab⟩ (fun i σ G _ ⟨_,_,z⟩=>SqL.of (z _ _ y1)) (fun i y σ G hy=>?_) (fun σ G=>?_)⟩
  ·rintro⟨v9,rfl,z2⟩
   rw[List.getElem?_map] at hy
   obtain⟨c,hc,rfl⟩:=Option.map_eq_some_iff.mp hy
   have z02:=(s7.trans z1).trans z2
   walk_at "wp"
   refine⟨c,x,m,g,e,r0,r1,t,rfl,hx,hm,hg,he,fun v D H' hD hR z3=>?_⟩
   refine⟨p,a4,_,v,D,_,rfl,hS3.same (z02.trans z3),R1.ord,(by show 2≤100000;decide),hD,hR,fun H2 z4=>?_⟩
   refine⟨c,rfl,fun H3 z5=>?_⟩
   refine⟨rfl,?_⟩
   rw[decide_eq_true rfl]
   have z25:=(z3.trans z4).trans z5
   refine iteF ⟨p,a4,dl,_,us,rfl,hS3.same (z02.trans z25),(z02.trans z25) _ _ hdl,hus.same (z02.trans z25),fun H4 z6=>⟨true,rfl,iteF ((z2.trans z25).trans z6)⟩⟩
  ·rintro⟨v9,rfl,z2⟩
   exact⟨_,rfl,(s7.trans z1).trans z2⟩
 rintro⟨v9,rfl,s8⟩
 have s18:=s15.trans s8
 have hS4:=hS3.same s8
 have ho:=R1.ord
 refine⟨fun σ G8=>σ=[some (.ref a),some (.int x),some (.int m),some (.int g),some (.int e),some (.ref l),some tv,some (.int (x+m+g)),some (.ref p),some (.ref dl),v9]∧Same G7 G8,?_,fun σ1 G8=>?_⟩
 ·walk_at "wp"
  obtain⟨dx,fs,h1,h2⟩:=hS4.obj (m:="rights_at") (by decide+kernel)
  refine⟨dx,fs,h1,h2,p,a4,_,_,rfl,hS4,ho,(by show 2≤1000000;decide),fun H' z1=>?_⟩
  rw[ajz (by omega) (by omega)]
  refine⟨_,SqL.of (z1 _ _ (s18 _ _ hl2)),_,aag (j:=0) rfl,rfl,?_⟩
  rw[show decide (oR (some (r0,tf ⟨x,m,r0,t⟩ (x+m - 1)))=V.int r0)=true from decide_eq_true rfl]
  refine iteF ⟨dx,fs,z1 _ _ h1,h2,p,a4,_,_,rfl,hS4.same z1,ho,(by show 2≤1000000;decide),fun H2 z2=>?_⟩
  rw[adv (by omega) (by omega)]
  show (if (!decide (oR none=V.non))=true then _ else _)
  rw[show decide (oR none=V.non)=true from decide_eq_true rfl]
  exact iteF (z1.trans z2)
 rintro⟨rfl,s9⟩
 refine⟨fun σ G9=>σ=[some (.ref a),some (.int x),some (.int m),some (.int g),some (.int e),some (.ref l),some tv,some (.int (x+m+g)),some (.ref p),some (.ref dl),v9]∧Same G8 G9,?_,fun σ1 G9=>?_⟩
 ·walk_at "wp"
  have hS4':=hS4.same s9
  obtain⟨dx,fs,h1,h2⟩:=hS4'.obj (m:="rights_at") (by decide+kernel)
  refine⟨dx,fs,h1,h2,p,a4,_,_,rfl,hS4',ho,(by show 2≤1000000;decide),fun H' z1=>?_⟩
  rw[adv (by omega) (by omega)]
  show (if (!decide (oR none=V.non))=true then _ else _)
  rw[show decide (oR none=V.non)=true from decide_eq_true rfl]
  refine iteF ⟨dx,fs,z1 _ _ h1,h2,p,a4,_,_,rfl,hS4'.same z1,ho,(by show 2≤1000000;decide),fun H2 z2=>?_⟩
  rw[ake hm hg (by omega) (by omega)]
  refine⟨_,SqL.of (z2 _ _ (z1 _ _ ((s18.trans s9) _ _ hl2))),_,aag (j:=1) rfl,rfl,?_⟩
  rw[show decide (oR (some (r1,none))=V.int r1)=true from decide_eq_true rfl]
  exact iteF (z1.trans z2)
 rintro⟨rfl,s10⟩
 have s1a:=(s18.trans s9).trans s10
 have hS5:=(hS4.same s9).same s10
 refine⟨fun σ G10=>∃a',σ=[some (.ref a),some (.int x),some (.int m),some (.int g),some (.int e),some (.ref l),some tv,some (.int (x+m+g)),some (.ref p),some (.ref dl),v9]∧Same G1 G10∧StAt A.C_Stretches G10 p a' (layR (two x m g e r0 r1 t) (x+m) g [⟨x+m,g,r1,none⟩]),?_,fun σ1 G10=>?_⟩
 ·walk_at "wp"
  obtain⟨dx,fs,h1,h2⟩:=hS5.obj (m:="put") (by decide+kernel)
  refine⟨dx,fs,h1,h2,_,SqL.of (s1a _ _ hl2),_,aag (j:=1) rfl,p,a4,_,_,_,_,_,none,rfl,hS5,ho,(by show 2≤100000;decide),rfl,?_⟩
  rw[if_pos hr1,if_pos ((ae4 ho hg).mpr fun p h1 h2=>adv h1 h2)]
  intro a' H' z1 z2
  exact⟨fun c o h=>z2 c o (s1a _ _ h) (aau h hpn),a',z1⟩
 rintro⟨a10,rfl,s11,hS6⟩
 obtain⟨o1,l1,pm1⟩:=ais ho R1.lst hg (aea (r:=⟨x+m,g,r1,none⟩) hg) (ag1 rfl rfl)
 have n1:(layR (two x m g e r0 r1 t) (x+m) g [⟨x+m,g,r1,none⟩]).length≤9:=ai5 _ _ _ _
 have f1:∀p,x≤p→p < x+(m+g+e)→pm (layR (two x m g e r0 r1 t) (x+m) g [⟨x+m,g,r1,none⟩]) p≠none:=fun p h1 h2=>by
  rw[pm1 p]
  by_cases c1:x+m≤p∧p < x+m+g
  ·rw[if_pos c1,akd,if_pos c1];exact fun z=>nomatch z
  ·rw[if_neg c1]
   by_cases c2:p < x+m
   ·rw[ajz h1 c2];exact fun z=>nomatch z
   ·rw[ake hm hg (by omega) (by omega)];exact fun z=>nomatch z
 have f2:∀p,¬(x≤p∧p < x+(m+g+e))→pm (layR (two x m g e r0 r1 t) (x+m) g [⟨x+m,g,r1,none⟩]) p=none:=fun p h=>by
  rw[pm1 p,if_neg (show ¬(x+m≤p∧p < x+m+g) by omega)]
  unfold two
  rw[act,if_neg (show ¬(x≤p∧p < x+m) by omega),act,if_neg (show ¬(x+m+g≤p∧p < x+m+g+e) by omega)]
  rfl
 generalize layR (two x m g e r0 r1 t) (x+m) g [⟨x+m,g,r1,none⟩]=rs1 at *
 have hn:0 < m+g+e:=by omega
 refine⟨fun σ G11=>∃a',σ=[some (.ref a),some (.int x),some (.int m),some (.int g),some (.int e),some (.ref l),some tv,some (.int (x+m+g)),some (.ref p),some (.ref dl),v9]∧Same G1 G11∧StAt A.C_Stretches G11 p a' (layR rs1 x (m+g+e) ((pam rs1 x (m+g+e)).map (rRn r0))),?_,fun σ1 G11=>?_⟩
 ·walk_at "wp"
  obtain⟨dx,fs,h1,h2⟩:=hS6.obj (m:="guard") (by decide+kernel)
  refine⟨dx,fs,h1,h2,_,SqL.of (s11 _ _ hl2),_,aag (j:=0) rfl,p,a10,_,_,_,_,rfl,hS6,o1,by omega,?_⟩
  rw[if_pos hr0,if_pos ((ae3 o1 hn).mpr f1)]
  intro a' H' z1 z2
  exact⟨fun c o h=>z2 c o (s11 _ _ h) (aau h hpn),a',z1⟩
 rintro⟨a11,rfl,s13,hS7⟩
 obtain⟨q1,q2,q3⟩:=agu o1 hn
 have q2':∀y∈(pam rs1 x (m+g+e)).map (rRn r0),x≤y.f∧enR y≤x+(m+g+e):=fun y hy=>by
  obtain⟨z,hz,rfl⟩:=List.mem_map.mp hy
  exact q2 z hz
 obtain⟨o2,l2,pm2⟩:OrdR (layR rs1 x (m+g+e) ((pam rs1 x (m+g+e)).map (rRn r0)))∧LstR (layR rs1 x (m+g+e) ((pam rs1 x (m+g+e)).map (rRn r0)))∧∀p,pm (layR rs1 x (m+g+e) ((pam rs1 x (m+g+e)).map (rRn r0))) p=if x≤p∧p < x+(m+g+e) then pm ((pam rs1 x (m+g+e)).map fun y=>(⟨y.f,y.m,r0,y.t⟩:Rn)) p else pm rs1 p:=ais o1 l1 hn (ahi (q:=r0) q1) q2'
 have n2:(layR rs1 x (m+g+e) ((pam rs1 x (m+g+e)).map (rRn r0))).length≤100:=by
  have z1:=ai5 rs1 ((pam rs1 x (m+g+e)).map (rRn r0)) x (m+g+e)
  have z2:=ai3 (rs:=rs1) (x:=x) (n:=m+g+e)
  rw[List.length_map] at z1
  omega
 have g1:∀p,x≤p→p < x+(m+g+e)→∃y,pm (layR rs1 x (m+g+e) ((pam rs1 x (m+g+e)).map (rRn r0))) p=some (r0,y):=fun p h1 h2=>by
  have z:=pm2 p
  rw[if_pos ⟨h1,h2⟩,afu,q3 p,if_pos ⟨h1,h2⟩] at z
  cases e1:pm rs1 p with
  |none=>exact absurd e1 (f1 p h1 h2)
  |some y=>rw[e1] at z;exact⟨y.2,z⟩
 have g2:∀p,¬(x≤p∧p < x+(m+g+e))→pm (layR rs1 x (m+g+e) ((pam rs1 x (m+g+e)).map (rRn r0))) p=none:=fun p h=>by
  have z:=pm2 p
  rw[if_neg h,f2 p h] at z
  exact z
 generalize layR rs1 x (m+g+e) ((pam rs1 x (m+g+e)).map (rRn r0))=rs2 at *
 refine⟨fun σ G12=>σ=[some (.ref a),some (.int x),some (.int m),some (.int g),some (.int e),some (.ref l),some tv,some (.int (x+m+g)),some (.ref p),some (.ref dl),v9]∧Same G11 G12,?_,fun σ1 G12=>?_⟩
 ·walk_at "wp"
  obtain⟨dx,fs,h1,h2⟩:=hS7.obj (m:="rights_at") (by decide+kernel)
  obtain⟨y1,e1⟩:=g1 (x+m+g) (by omega) (by omega)
  obtain⟨y2,e2⟩:=g1 (x+m) (by omega) (by omega)
  refine⟨dx,fs,h1,h2,p,a11,_,_,rfl,hS7,o2,by omega,fun H' z1=>?_⟩
  rw[e1]
  refine⟨_,SqL.of (z1 _ _ (s13 _ _ hl2)),_,aag (j:=0) rfl,rfl,?_⟩
  rw[show decide (oR (some (r0,y1))=V.int r0)=true from decide_eq_true rfl]
  refine iteF ⟨dx,fs,z1 _ _ h1,h2,p,a11,_,_,rfl,hS7.same z1,o2,by omega,fun H2 z2=>?_⟩
  rw[e2]
  refine⟨_,SqL.of (z2 _ _ (z1 _ _ (s13 _ _ hl2))),_,aag (j:=0) rfl,rfl,?_⟩
  rw[show decide (oR (some (r0,y2))=V.int r0)=true from decide_eq_true rfl]
  exact iteF (z1.trans z2)
 rintro⟨rfl,s14⟩
 have hS8:=hS7.same s14
 refine⟨fun σ G13=>∃a',σ=[some (.ref a),some (.int x),some (.int m),some (.int g),some (.int e),some (.ref l),some tv,some (.int (x+m+g)),some (.ref p),some (.ref dl),v9]∧StAt A.C_Stretches G13 p a' [],?_,fun σ1 G13=>?_⟩
 ·walk_at "wp"
  obtain⟨dx,fs,h1,h2⟩:=hS8.obj (m:="cut") (by decide+kernel)
  refine⟨dx,fs,h1,h2,p,a11,_,_,_,rfl,hS8,o2,by omega,?_⟩
  rw[if_pos ((ae3 o2 hn).mpr fun p h1 h2=>by obtain⟨y,e1⟩:=g1 p h1 h2;rw[e1];exact fun z=>nomatch z)]
  intro a' H' z1 z2
  rw[akc (ss:=[]) o2 l2 hn ala (fun _ h=>nomatch h) ala trivial fun p=>by
   by_cases c:x≤p∧p < x+(m+g+e)
   ·rw[if_pos c]
   ·rw[if_neg c,g2 p c];rfl] at z1
  exact⟨a',z1⟩
 rintro⟨a13,rfl,hS9⟩
 walk_at "wp"
 intro p1 e1
 exact⟨p,a13,p1,[],[],rfl,hS9.same (aae aab e1),aaf,.nil,fun H' _=>q _⟩
end
theorem walk {l:PySem.W.OpenLaw} {q:Program} {loose:List Str} {XP:(Str→Option Value)→Heap→Prop} {YP:World→Heap→Prop} {d:DefRec} {K:Params→PySem.W.Frag} (hn:l.most=some 63) (hdf:d.params.defaults=[]) (hdn:d.name="law")
  (hY:∀(w:World) (h:Heap),YP w h→(K w.params).In h)
  (F:∀(w:World) (mg:Str→Option Value) (h:Heap),(K w.params).In h→h.Ns mainGlobals mg→∃A:Adr,Txt (K w.params) mg A):
  PySem.W.WalkO q loose XP YP l.row.toRowW d [] (fun f vs=>PySem.call f vs):=by
 refine L2.akq (n:=63) (k:=11+1) (x:="_law_script") (CX:=fun w=>CXe l.prog w) (sp:=fun w=>spLaw (K w.params)) hn (by decide) hdf ⟨rfl,by decide,by decide⟩ hY ?_ (fun _ _ a ns hl _ hS=>⟨a,ns,rfl,hS,hl,fun _=>rfl⟩) fun _ _ _ _ _ ⟨_,_,_,_,_,_,_,_,_,_,z⟩=>z
 intro w mg fa h KX G hmg
 rw[hdn] at hmg
 obtain⟨A,T⟩:=F w mg h KX G
 obtain⟨f,fd,e,Fn,hb⟩:=T.r_law
 have e0:=hmg.symm.trans e
 cases e0
 exact⟨fd,hb,fun base _ _=>Fn.okE acn (fun vs H Q E z=>by obtain⟨a,ns,rfl,_⟩:=z;rfl) (aj0 (P:=l.prog) (w:=w) (base:=base) T)⟩
section
open Hd
noncomputable def o2 (_:Params):Obj:=⟨.none,none,.dict ⟨[]⟩ 0, #[]⟩
noncomputable def o3 (P:Params):Obj:=dO 35 [ent P (S 6944663249689206880) 165 (.str (S 883307608432031259752162760702153905388392507848665854178261712986184189739183661677) 532),ent P (S 27127582262911072) 166 .none,ent P (S 116512114954948911152848992) 167 .none,ent P (S 455126385231797511086176) 168 (.builtin "__main__.__loader__#opaque"),ent P (S 6944661016558198880) 169 .none,ent P (S 500416834696884185539869749159288928) 170 (.ref 6),ent P (S 29827167671303893903271485536) 171 (.ref 4),ent P (S 6944663245527933024) 173 (.str (S 9700865007064396754801562313776) 172),ent P (S 455125376429887381069920) 174 .none,ent P (S 469986605152) 193 (.ref 21),ent P (S 545146499936607105348423) 213 (.ref 31),ent P (S 28835115112362063) 229 (.ref 44),ent P (S 2037243915540886812240) 245 (.ref 56),ent P (S 2148282720731175150147) 261 (.ref 68),ent P (S 478459748949) 277 (.ref 80),ent P (S 1870502957375938719823) 293 (.ref 92),ent P (S 33048469456515151) 309 (.ref 104),ent P (S 7380678962623575146) 318 (.ref 113),ent P (S 2055256381122481779818) 327 (.ref 120),ent P (S 101952521820057743536705614) 331 (.int (3) 330),ent P (S 36042203234783605173055285604) 338 (.ref 127),ent P (S 113732351258470) 345 (.ref 134),ent P (S 7957987429399816821) 354 (.ref 141),ent P (S 29115482190865009) 364 (.ref 148),ent P (S 31367281986924648) 372 (.ref 155),ent P (S 111490630316139) 382 (.ref 162),ent P (S 2147201852470124049748) 531 (.ref 277),ent P (S 36328676245180164783460216160) 541 (.ref 288),ent P (S 139509984824270207699807584) 548 (.ref 295),ent P (S 7305510811536092512) 555 (.ref 302),ent P (S 478848253269000079961440) 561 (.ref 307),ent P (S 1870499847949168831840) 577 (.ref 314),ent P (S 7383200104131489120) 584 (.ref 321),ent P (S 1871007083449387478368) 593 (.ref 328),ent P (S 7889517) 610 (.ref 335)]
noncomputable def o15 (_:Params):Obj:=tO []
noncomputable def o17 (_:Params):Obj:=tO [(.str (S 108) 190)]
noncomputable def o20 (_:Params):Obj:=cO [(.str (S 469986605152) 187),(.str (S 469986605152) 188),(.str (S 9700865007064396754801562313776) 189),(.int (1) 0),(.int (1) 0),(.int (0) 0),(.int (0) 0),(.int (3) 0),(.ref 15),(.bool true),(.int (181) 0),(.ref 16),.none,(.ref 17),(.ref 18),(.ref 19),(.int (191) 0),(.int (1) 0),(.str (S 9700865007064396754801562313776) 192)]
noncomputable def o21 (_:Params):Obj:=⟨(.type "function"),none,.func (PySem.W.fnOf (Str.ofString "_wall") (Str.ofString "_wall") (defArgs (top 0)) (defBody (top 0)) (defScope (top 0)) .none .none .none (.str (S 6944673128113922144) 164) none (.ref 20) .none), #[]⟩
noncomputable def o22 (_:Params):Obj:=⟨(.type "tuple"),none,.seq #[(.type "ValueError")] 0, #[]⟩
noncomputable def o29 (_:Params):Obj:=⟨(.type "tuple"),none,.seq #[] 0, #[]⟩
noncomputable def o30 (P:Params):Obj:=dO 3 [ent P (S 455125450472104437637216) 203 (.str (S 154789842426610354947036250589871895399) 194),ent P (S 500416517772168279997240570217455712) 207 (.int (5) 206),ent P (S 140854816109632365363434125429399349832812124725344) 208 (.ref 29),ent P (S 116512133262362862868258912) 210 (.ref 32),ent P (S 27127582262911072) 211 .none]
noncomputable def o31 (_:Params):Obj:=⟨(.type "type"),none,.cls {name:=(Str.ofString "FrameError"),bases:=[(.type "ValueError")],mro:=[(.ref 31),(.type "ValueError"),(.type "Exception"),(.type "BaseException"),(.type "object")],ns:=30,qualname:=(Str.ofString "FrameError"),hasDict:=true,slotNames:=[],subclasses:=[(.ref 44),(.ref 56),(.ref 68),(.ref 80),(.ref 92),(.ref 104)],abstract:=false,collection:=none,hasDel:=false}, #[(some (.ref 22)),none,(some (.str (S 545146499936607105348423) 196)),(some (.str (S 545146499936607105348423) 204)),(some (.builtin "ValueError.__new__")),(some (.bool true))]⟩
noncomputable def o32 (_:Params):Obj:=⟨(.type "getset_descriptor"),none,.fields ⟨[(.str (S 116512133262362862868258912) 209),(.ref 31),(.builtin "ExceptionGroup.__weakref__"),.none]⟩, #[]⟩
noncomputable def o35 (_:Params):Obj:=⟨(.type "tuple"),none,.seq #[(.ref 31)] 0, #[]⟩
noncomputable def o43 (P:Params):Obj:=dO 2 [ent P (S 455125450472104437637216) 221 (.str (S 154789842426610354947036250589871895399) 194),ent P (S 500416517772168279997240570217455712) 225 (.int (7) 224),ent P (S 140854816109632365363434125429399349832812124725344) 226 (.ref 42),ent P (S 27127582262911072) 227 .none]
noncomputable def o44 (_:Params):Obj:=⟨(.type "type"),none,.cls {name:=(Str.ofString "NoShape"),bases:=[(.ref 31)],mro:=[(.ref 44),(.ref 31),(.type "ValueError"),(.type "Exception"),(.type "BaseException"),(.type "object")],ns:=43,qualname:=(Str.ofString "NoShape"),hasDict:=true,slotNames:=[],subclasses:=[],abstract:=false,collection:=none,hasDel:=false}, #[(some (.ref 35)),none,(some (.str (S 28835115112362063) 214)),(some (.str (S 28835115112362063) 222)),(some (.builtin "ValueError.__new__")),(some (.bool true))]⟩
noncomputable def o55 (P:Params):Obj:=dO 2 [ent P (S 455125450472104437637216) 237 (.str (S 154789842426610354947036250589871895399) 194),ent P (S 500416517772168279997240570217455712) 241 (.int (9) 240),ent P (S 140854816109632365363434125429399349832812124725344) 242 (.ref 54),ent P (S 27127582262911072) 243 .none]
noncomputable def o56 (_:Params):Obj:=⟨(.type "type"),none,.cls {name:=(Str.ofString "OutOfRoom"),bases:=[(.ref 31)],mro:=[(.ref 56),(.ref 31),(.type "ValueError"),(.type "Exception"),(.type "BaseException"),(.type "object")],ns:=55,qualname:=(Str.ofString "OutOfRoom"),hasDict:=true,slotNames:=[],subclasses:=[],abstract:=false,collection:=none,hasDel:=false}, #[(some (.ref 47)),none,(some (.str (S 2037243915540886812240) 230)),(some (.str (S 2037243915540886812240) 238)),(some (.builtin "ValueError.__new__")),(some (.bool true))]⟩
noncomputable def o67 (P:Params):Obj:=dO 2 [ent P (S 455125450472104437637216) 253 (.str (S 154789842426610354947036250589871895399) 194),ent P (S 500416517772168279997240570217455712) 257 (.int (11) 256),ent P (S 140854816109632365363434125429399349832812124725344) 258 (.ref 66),ent P (S 27127582262911072) 259 .none]
noncomputable def o68 (_:Params):Obj:=⟨(.type "type"),none,.cls {name:=(Str.ofString "BadRights"),bases:=[(.ref 31)],mro:=[(.ref 68),(.ref 31),(.type "ValueError"),(.type "Exception"),(.type "BaseException"),(.type "object")],ns:=67,qualname:=(Str.ofString "BadRights"),hasDict:=true,slotNames:=[],subclasses:=[],abstract:=false,collection:=none,hasDel:=false}, #[(some (.ref 59)),none,(some (.str (S 2148282720731175150147) 246)),(some (.str (S 2148282720731175150147) 254)),(some (.builtin "ValueError.__new__")),(some (.bool true))]⟩
noncomputable def o79 (P:Params):Obj:=dO 2 [ent P (S 455125450472104437637216) 269 (.str (S 154789842426610354947036250589871895399) 194),ent P (S 500416517772168279997240570217455712) 273 (.int (13) 272),ent P (S 140854816109632365363434125429399349832812124725344) 274 (.ref 78),ent P (S 27127582262911072) 275 .none]
noncomputable def o80 (_:Params):Obj:=⟨(.type "type"),none,.cls {name:=(Str.ofString "Taken"),bases:=[(.ref 31)],mro:=[(.ref 80),(.ref 31),(.type "ValueError"),(.type "Exception"),(.type "BaseException"),(.type "object")],ns:=79,qualname:=(Str.ofString "Taken"),hasDict:=true,slotNames:=[],subclasses:=[],abstract:=false,collection:=none,hasDel:=false}, #[(some (.ref 71)),none,(some (.str (S 478459748949) 262)),(some (.str (S 478459748949) 270)),(some (.builtin "ValueError.__new__")),(some (.bool true))]⟩
noncomputable def o91 (P:Params):Obj:=dO 2 [ent P (S 455125450472104437637216) 285 (.str (S 154789842426610354947036250589871895399) 194),ent P (S 500416517772168279997240570217455712) 289 (.int (15) 288),ent P (S 140854816109632365363434125429399349832812124725344) 290 (.ref 90),ent P (S 27127582262911072) 291 .none]
noncomputable def o92 (_:Params):Obj:=⟨(.type "type"),none,.cls {name:=(Str.ofString "NotMapped"),bases:=[(.ref 31)],mro:=[(.ref 92),(.ref 31),(.type "ValueError"),(.type "Exception"),(.type "BaseException"),(.type "object")],ns:=91,qualname:=(Str.ofString "NotMapped"),hasDict:=true,slotNames:=[],subclasses:=[],abstract:=false,collection:=none,hasDel:=false}, #[(some (.ref 83)),none,(some (.str (S 1870502957375938719823) 278)),(some (.str (S 1870502957375938719823) 286)),(some (.builtin "ValueError.__new__")),(some (.bool true))]⟩
noncomputable def o103 (P:Params):Obj:=dO 2 [ent P (S 455125450472104437637216) 301 (.str (S 154789842426610354947036250589871895399) 194),ent P (S 500416517772168279997240570217455712) 305 (.int (17) 304),ent P (S 140854816109632365363434125429399349832812124725344) 306 (.ref 102),ent P (S 27127582262911072) 307 .none]
noncomputable def o104 (_:Params):Obj:=⟨(.type "type"),none,.cls {name:=(Str.ofString "NoRight"),bases:=[(.ref 31)],mro:=[(.ref 104),(.ref 31),(.type "ValueError"),(.type "Exception"),(.type "BaseException"),(.type "object")],ns:=103,qualname:=(Str.ofString "NoRight"),hasDict:=true,slotNames:=[],subclasses:=[],abstract:=false,collection:=none,hasDel:=false}, #[(some (.ref 95)),none,(some (.str (S 33048469456515151) 294)),(some (.str (S 33048469456515151) 302)),(some (.builtin "ValueError.__new__")),(some (.bool true))]⟩
noncomputable def o109 (_:Params):Obj:=tO [(.str (S 448545843573) 315)]
noncomputable def o112 (_:Params):Obj:=cO [(.str (S 7380678962623575146) 312),(.str (S 7380678962623575146) 313),(.str (S 9700865007064396754801562313776) 314),(.int (20) 0),(.int (1) 0),(.int (0) 0),(.int (0) 0),(.int (3) 0),(.ref 107),(.bool true),(.int (181) 0),(.ref 108),.none,(.ref 109),(.ref 110),(.ref 111),(.int (316) 0),(.int (20) 0),(.str (S 9700865007064396754801562313776) 317)]
noncomputable def o113 (_:Params):Obj:=⟨(.type "function"),none,.func (PySem.W.fnOf (Str.ofString "is_whole") (Str.ofString "is_whole") (defArgs (top 10)) (defBody (top 10)) (defScope (top 10)) .none .none .none (.str (S 154722281479463014256600682153103225703) 310) none (.ref 112) .none), #[]⟩
noncomputable def o116 (_:Params):Obj:=tO [(.str (S 448545843573) 322),(.str (S 7893101) 323),(.str (S 1768450665) 324)]
noncomputable def o119 (_:Params):Obj:=cO [(.str (S 2055256381122481779818) 319),(.str (S 2055256381122481779818) 320),(.str (S 9700865007064396754801562313776) 321),(.int (22) 0),(.int (3) 0),(.int (0) 0),(.int (0) 0),(.int (3) 0),(.ref 114),(.bool true),(.int (181) 0),(.ref 115),.none,(.ref 116),(.ref 117),(.ref 118),(.int (325) 0),(.int (22) 0),(.str (S 9700865007064396754801562313776) 326)]
noncomputable def o120 (_:Params):Obj:=⟨(.type "function"),none,.func (PySem.W.fnOf (Str.ofString "is_within") (Str.ofString "is_within") (defArgs (top 11)) (defBody (top 11)) (defScope (top 11)) .none .none .none (.str (S 154722281479463014256600682153103225703) 310) none (.ref 119) .none), #[]⟩
noncomputable def o123 (_:Params):Obj:=tO [(.str (S 128047628446323) 335)]
noncomputable def o126 (_:Params):Obj:=cO [(.str (S 36042203234783605173055285604) 332),(.str (S 36042203234783605173055285604) 333),(.str (S 9700865007064396754801562313776) 334),(.int (26) 0),(.int (1) 0),(.int (0) 0),(.int (0) 0),(.int (3) 0),(.ref 121),(.bool true),(.int (181) 0),(.ref 122),.none,(.ref 123),(.ref 124),(.ref 125),(.int (336) 0),(.int (26) 0),(.str (S 9700865007064396754801562313776) 337)]
noncomputable def o127 (_:Params):Obj:=⟨(.type "function"),none,.func (PySem.W.fnOf (Str.ofString "check_rights") (Str.ofString "check_rights") (defArgs (top 14)) (defBody (top 14)) (defScope (top 14)) .none .none .none (.str (S 2595807759375494792423391711955702693320880999) 328) none (.ref 126) .none), #[]⟩
noncomputable def o130 (_:Params):Obj:=tO [(.str (S 7304819) 342)]
noncomputable def o133 (_:Params):Obj:=cO [(.str (S 113732351258470) 339),(.str (S 113732351258470) 340),(.str (S 9700865007064396754801562313776) 341),(.int (29) 0),(.int (1) 0),(.int (0) 0),(.int (0) 0),(.int (3) 0),(.ref 128),(.bool true),(.int (181) 0),(.ref 129),.none,(.ref 130),(.ref 131),(.ref 132),(.int (343) 0),(.int (29) 0),(.str (S 9700865007064396754801562313776) 344)]
noncomputable def o134 (_:Params):Obj:=⟨(.type "function"),none,.func (PySem.W.fnOf (Str.ofString "end_of") (Str.ofString "end_of") (defArgs (top 15)) (defBody (top 15)) (defScope (top 15)) .none .none .none (.str (S 2595807759375494792423391711955702693320880999) 328) none (.ref 133) .none), #[]⟩
noncomputable def o137 (_:Params):Obj:=tO [(.str (S 7304819) 349),(.str (S 1718116977) 350),(.str (S 6711925) 351)]
noncomputable def o140 (_:Params):Obj:=cO [(.str (S 7957987429399816821) 346),(.str (S 7957987429399816821) 347),(.str (S 9700865007064396754801562313776) 348),(.int (31) 0),(.int (2) 0),(.int (0) 0),(.int (0) 0),(.int (3) 0),(.ref 135),(.bool true),(.int (181) 0),(.ref 136),.none,(.ref 137),(.ref 138),(.ref 139),(.int (352) 0),(.int (31) 0),(.str (S 9700865007064396754801562313776) 353)]
noncomputable def o141 (_:Params):Obj:=⟨(.type "function"),none,.func (PySem.W.fnOf (Str.ofString "tie_from") (Str.ofString "tie_from") (defArgs (top 16)) (defBody (top 16)) (defScope (top 16)) .none .none .none (.str (S 2595807759375494792423391711955702693320880999) 328) none (.ref 140) .none), #[]⟩
noncomputable def o144 (_:Params):Obj:=tO [(.str (S 7304819) 358),(.str (S 7893101) 359),(.str (S 1768450665) 360),(.str (S 504464894567) 361)]
noncomputable def o147 (_:Params):Obj:=cO [(.str (S 29115482190865009) 355),(.str (S 29115482190865009) 356),(.str (S 9700865007064396754801562313776) 357),(.int (36) 0),(.int (3) 0),(.int (0) 0),(.int (0) 0),(.int (3) 0),(.ref 142),(.bool true),(.int (181) 0),(.ref 143),.none,(.ref 144),(.ref 145),(.ref 146),(.int (362) 0),(.int (36) 0),(.str (S 9700865007064396754801562313776) 363)]
noncomputable def o148 (_:Params):Obj:=⟨(.type "function"),none,.func (PySem.W.fnOf (Str.ofString "part_of") (Str.ofString "part_of") (defArgs (top 17)) (defBody (top 17)) (defScope (top 17)) .none .none .none (.str (S 2595807759375494792423391711955702693320880999) 328) none (.ref 147) .none), #[]⟩
noncomputable def o151 (_:Params):Obj:=tO [(.str (S 7304819) 368),(.str (S 495640207981) 369)]
noncomputable def o154 (_:Params):Obj:=cO [(.str (S 31367281986924648) 365),(.str (S 31367281986924648) 366),(.str (S 9700865007064396754801562313776) 367),(.int (39) 0),(.int (2) 0),(.int (0) 0),(.int (0) 0),(.int (3) 0),(.ref 149),(.bool true),(.int (181) 0),(.ref 150),.none,(.ref 151),(.ref 152),(.ref 153),(.int (370) 0),(.int (39) 0),(.str (S 9700865007064396754801562313776) 371)]
noncomputable def o155 (_:Params):Obj:=⟨(.type "function"),none,.func (PySem.W.fnOf (Str.ofString "goes_on") (Str.ofString "goes_on") (defArgs (top 18)) (defBody (top 18)) (defScope (top 18)) .none .none .none (.str (S 2595807759375494792423391711955702693320880999) 328) none (.ref 154) .none), #[]⟩
noncomputable def o158 (_:Params):Obj:=tO [(.str (S 1953461875) 376),(.str (S 495640405607) 377),(.str (S 7304819) 378),(.str (S 1970561645) 379)]
noncomputable def o161 (_:Params):Obj:=cO [(.str (S 111490630316139) 373),(.str (S 111490630316139) 374),(.str (S 9700865007064396754801562313776) 375),(.int (41) 0),(.int (1) 0),(.int (0) 0),(.int (0) 0),(.int (3) 0),(.ref 156),(.bool true),(.int (181) 0),(.ref 157),.none,(.ref 158),(.ref 159),(.ref 160),(.int (380) 0),(.int (41) 0),(.str (S 9700865007064396754801562313776) 381)]
noncomputable def o162 (_:Params):Obj:=⟨(.type "function"),none,.func (PySem.W.fnOf (Str.ofString "joined") (Str.ofString "joined") (defArgs (top 19)) (defBody (top 19)) (defScope (top 19)) .none .none .none (.str (S 2595807759375494792423391711955702693320880999) 328) none (.ref 161) .none), #[]⟩
noncomputable def o172 (_:Params):Obj:=tO [(.str (S 1735222900) 398)]
noncomputable def o175 (_:Params):Obj:=cO [(.str (S 6944679725401530464) 395),(.str (S 8395602628992143088491004079736651362039124) 396),(.str (S 9700865007064396754801562313776) 397),(.int (52) 0),(.int (1) 0),(.int (0) 0),(.int (0) 0),(.int (3) 0),(.ref 170),(.bool true),(.int (181) 0),(.ref 171),.none,(.ref 172),(.ref 173),(.ref 174),(.int (399) 0),(.int (52) 0),(.str (S 9700865007064396754801562313776) 400)]
noncomputable def o176 (_:Params):Obj:=⟨(.type "function"),none,.func (PySem.W.fnOf (Str.ofString "__init__") (Str.ofString "Stretches.__init__") (defArgs (inClass (top 20) 0)) (defBody (inClass (top 20) 0)) (defScope (inClass (top 20) 0)) .none .none .none (.str (S 2595807759375494792423391711955702693320880999) 328) none (.ref 175) .none), #[]⟩
noncomputable def o177 (_:Params):Obj:=⟨(.type "tuple"),none,.seq #[.none] 0, #[]⟩
noncomputable def o180 (_:Params):Obj:=tO [(.str (S 1735222900) 405),(.str (S 504464894567) 406),(.str (S 2054120046) 407),(.str (S 128047628446323) 408),(.str (S 6711925) 409)]
noncomputable def o183 (_:Params):Obj:=cO [(.str (S 7698033) 402),(.str (S 9306351078043889216994357245268) 403),(.str (S 9700865007064396754801562313776) 404),(.int (55) 0),(.int (5) 0),(.int (0) 0),(.int (0) 0),(.int (3) 0),(.ref 178),(.bool true),(.int (181) 0),(.ref 179),.none,(.ref 180),(.ref 181),(.ref 182),(.int (410) 0),(.int (55) 0),(.str (S 9700865007064396754801562313776) 411)]
noncomputable def o184 (_:Params):Obj:=⟨(.type "function"),none,.func (PySem.W.fnOf (Str.ofString "put") (Str.ofString "Stretches.put") (defArgs (inClass (top 20) 1)) (defBody (inClass (top 20) 1)) (defScope (inClass (top 20) 1)) (.ref 177) .none .none (.str (S 2595807759375494792423391711955702693320880999) 328) none (.ref 183) .none), #[]⟩
noncomputable def o187 (_:Params):Obj:=tO [(.str (S 1735222900) 416),(.str (S 504464894567) 417),(.str (S 2054120046) 418)]
noncomputable def o190 (_:Params):Obj:=cO [(.str (S 7698020) 413),(.str (S 9306335362008234226815086064980) 414),(.str (S 9700865007064396754801562313776) 415),(.int (61) 0),(.int (3) 0),(.int (0) 0),(.int (0) 0),(.int (3) 0),(.ref 185),(.bool true),(.int (181) 0),(.ref 186),.none,(.ref 187),(.ref 188),(.ref 189),(.int (419) 0),(.int (61) 0),(.str (S 9700865007064396754801562313776) 420)]
noncomputable def o191 (_:Params):Obj:=⟨(.type "function"),none,.func (PySem.W.fnOf (Str.ofString "cut") (Str.ofString "Stretches.cut") (defArgs (inClass (top 20) 2)) (defBody (inClass (top 20) 2)) (defScope (inClass (top 20) 2)) .none .none .none (.str (S 2595807759375494792423391711955702693320880999) 328) none (.ref 190) .none), #[]⟩
noncomputable def o195 (_:Params):Obj:=cO [(.str (S 435727529576) 422),(.str (S 526762260821547473070605117598954836) 423),(.str (S 9700865007064396754801562313776) 424),(.int (65) 0),(.int (4) 0),(.int (0) 0),(.int (0) 0),(.int (3) 0),(.ref 192),(.bool true),(.int (181) 0),(.ref 193),.none,.none,.none,(.ref 194),(.int (425) 0),(.int (65) 0),(.str (S 9700865007064396754801562313776) 426)]
noncomputable def o196 (_:Params):Obj:=⟨(.type "function"),none,.func (PySem.W.fnOf (Str.ofString "guard") (Str.ofString "Stretches.guard") (defArgs (inClass (top 20) 3)) (defBody (inClass (top 20) 3)) (defScope (inClass (top 20) 3)) .none .none .none (.str (S 2595807759375494792423391711955702693320880999) 328) none (.ref 195) .none), #[]⟩
noncomputable def o199 (_:Params):Obj:=tO [(.str (S 1735222900) 431),(.str (S 504464894567) 432),(.str (S 2054120046) 433)]
noncomputable def o202 (_:Params):Obj:=cO [(.str (S 516757173630863403280740) 428),(.str (S 624721089673430778640529783835705258327388943700) 429),(.str (S 9700865007064396754801562313776) 430),(.int (71) 0),(.int (3) 0),(.int (0) 0),(.int (0) 0),(.int (3) 0),(.ref 197),(.bool true),(.int (181) 0),(.ref 198),.none,(.ref 199),(.ref 200),(.ref 201),(.int (434) 0),(.int (71) 0),(.str (S 9700865007064396754801562313776) 435)]
noncomputable def o203 (_:Params):Obj:=⟨(.type "function"),none,.func (PySem.W.fnOf (Str.ofString "check_full") (Str.ofString "Stretches.check_full") (defArgs (inClass (top 20) 4)) (defBody (inClass (top 20) 4)) (defScope (inClass (top 20) 4)) .none .none .none (.str (S 2595807759375494792423391711955702693320880999) 328) none (.ref 202) .none), #[]⟩
noncomputable def o206 (_:Params):Obj:=tO [(.str (S 1735222900) 440),(.str (S 1718116977) 441),(.str (S 1970496113) 442)]
noncomputable def o209 (_:Params):Obj:=cO [(.str (S 2165357850485127146099) 437),(.str (S 2617757014156703991004303271023538183198700884) 438),(.str (S 9700865007064396754801562313776) 439),(.int (75) 0),(.int (2) 0),(.int (0) 0),(.int (0) 0),(.int (3) 0),(.ref 204),(.bool true),(.int (181) 0),(.ref 205),.none,(.ref 206),(.ref 207),(.ref 208),(.int (443) 0),(.int (75) 0),(.str (S 9700865007064396754801562313776) 444)]
noncomputable def o210 (_:Params):Obj:=⟨(.type "function"),none,.func (PySem.W.fnOf (Str.ofString "rights_at") (Str.ofString "Stretches.rights_at") (defArgs (inClass (top 20) 5)) (defBody (inClass (top 20) 5)) (defScope (inClass (top 20) 5)) .none .none .none (.str (S 2595807759375494792423391711955702693320880999) 328) none (.ref 209) .none), #[]⟩
noncomputable def o213 (_:Params):Obj:=tO [(.str (S 1735222900) 449),(.str (S 1718116977) 450)]
noncomputable def o216 (_:Params):Obj:=cO [(.str (S 129065384569461) 446),(.str (S 156030475824513176713048584412386784596) 447),(.str (S 9700865007064396754801562313776) 448),(.int (79) 0),(.int (2) 0),(.int (0) 0),(.int (0) 0),(.int (3) 0),(.ref 211),(.bool true),(.int (181) 0),(.ref 212),.none,(.ref 213),(.ref 214),(.ref 215),(.int (451) 0),(.int (79) 0),(.str (S 9700865007064396754801562313776) 452)]
noncomputable def o217 (_:Params):Obj:=⟨(.type "function"),none,.func (PySem.W.fnOf (Str.ofString "tie_at") (Str.ofString "Stretches.tie_at") (defArgs (inClass (top 20) 6)) (defBody (inClass (top 20) 6)) (defScope (inClass (top 20) 6)) .none .none .none (.str (S 2595807759375494792423391711955702693320880999) 328) none (.ref 216) .none), #[]⟩
noncomputable def o220 (_:Params):Obj:=tO [(.str (S 1735222900) 457),(.str (S 504464894567) 458),(.str (S 2054120046) 459)]
noncomputable def o223 (_:Params):Obj:=cO [(.str (S 28823093466133610) 454),(.str (S 34844981892374637606343691086821957268820) 455),(.str (S 9700865007064396754801562313776) 456),(.int (82) 0),(.int (3) 0),(.int (0) 0),(.int (0) 0),(.int (3) 0),(.ref 218),(.bool true),(.int (181) 0),(.ref 219),.none,(.ref 220),(.ref 221),(.ref 222),(.int (460) 0),(.int (82) 0),(.str (S 9700865007064396754801562313776) 461)]
noncomputable def o224 (_:Params):Obj:=⟨(.type "function"),none,.func (PySem.W.fnOf (Str.ofString "is_free") (Str.ofString "Stretches.is_free") (defArgs (inClass (top 20) 7)) (defBody (inClass (top 20) 7)) (defScope (inClass (top 20) 7)) .none .none .none (.str (S 2595807759375494792423391711955702693320880999) 328) none (.ref 223) .none), #[]⟩
noncomputable def o228 (_:Params):Obj:=cO [(.str (S 30801127769404522) 463),(.str (S 37236278633682276866180525579755284821332) 464),(.str (S 9700865007064396754801562313776) 465),(.int (85) 0),(.int (3) 0),(.int (0) 0),(.int (0) 0),(.int (3) 0),(.ref 225),(.bool true),(.int (181) 0),(.ref 226),.none,.none,.none,(.ref 227),(.int (466) 0),(.int (85) 0),(.str (S 9700865007064396754801562313776) 467)]
noncomputable def o229 (_:Params):Obj:=⟨(.type "function"),none,.func (PySem.W.fnOf (Str.ofString "is_full") (Str.ofString "Stretches.is_full") (defArgs (inClass (top 20) 8)) (defBody (inClass (top 20) 8)) (defScope (inClass (top 20) 8)) .none .none .none (.str (S 2595807759375494792423391711955702693320880999) 328) none (.ref 228) .none), #[]⟩
noncomputable def o232 (_:Params):Obj:=tO [(.str (S 1735222900) 472),(.str (S 1819239011) 473)]
noncomputable def o235 (_:Params):Obj:=cO [(.str (S 28541580069598314) 469),(.str (S 34504653078735706780555045640184744080724) 470),(.str (S 9700865007064396754801562313776) 471),(.int (88) 0),(.int (2) 0),(.int (0) 0),(.int (0) 0),(.int (3) 0),(.ref 230),(.bool true),(.int (181) 0),(.ref 231),.none,(.ref 232),(.ref 233),(.ref 234),(.int (474) 0),(.int (88) 0),(.str (S 9700865007064396754801562313776) 475)]
noncomputable def o236 (_:Params):Obj:=⟨(.type "function"),none,.func (PySem.W.fnOf (Str.ofString "is_tied") (Str.ofString "Stretches.is_tied") (defArgs (inClass (top 20) 9)) (defBody (inClass (top 20) 9)) (defScope (inClass (top 20) 9)) .none .none .none (.str (S 2595807759375494792423391711955702693320880999) 328) none (.ref 235) .none), #[]⟩
noncomputable def o239 (_:Params):Obj:=tO [(.str (S 1735222900) 480)]
noncomputable def o242 (_:Params):Obj:=cO [(.str (S 1701671029) 477),(.str (S 2057194043672392837723022735668564) 478),(.str (S 9700865007064396754801562313776) 479),(.int (91) 0),(.int (1) 0),(.int (0) 0),(.int (0) 0),(.int (3) 0),(.ref 237),(.bool true),(.int (181) 0),(.ref 238),.none,(.ref 239),(.ref 240),(.ref 241),(.int (481) 0),(.int (91) 0),(.str (S 9700865007064396754801562313776) 482)]
noncomputable def o243 (_:Params):Obj:=⟨(.type "function"),none,.func (PySem.W.fnOf (Str.ofString "told") (Str.ofString "Stretches.told") (defArgs (inClass (top 20) 10)) (defBody (inClass (top 20) 10)) (defScope (inClass (top 20) 10)) .none .none .none (.str (S 2595807759375494792423391711955702693320880999) 328) none (.ref 242) .none), #[]⟩
noncomputable def o246 (_:Params):Obj:=tO [(.str (S 1735222900) 487)]
noncomputable def o249 (_:Params):Obj:=cO [(.str (S 111490546888804) 484),(.str (S 134783800776830844550708368151093146964) 485),(.str (S 9700865007064396754801562313776) 486),(.int (94) 0),(.int (1) 0),(.int (0) 0),(.int (0) 0),(.int (3) 0),(.ref 244),(.bool true),(.int (181) 0),(.ref 245),.none,(.ref 246),(.ref 247),(.ref 248),(.int (488) 0),(.int (94) 0),(.str (S 9700865007064396754801562313776) 489)]
noncomputable def o250 (_:Params):Obj:=⟨(.type "function"),none,.func (PySem.W.fnOf (Str.ofString "copied") (Str.ofString "Stretches.copied") (defArgs (inClass (top 20) 11)) (defBody (inClass (top 20) 11)) (defScope (inClass (top 20) 11)) .none .none .none (.str (S 2595807759375494792423391711955702693320880999) 328) none (.ref 249) .none), #[]⟩
noncomputable def o253 (_:Params):Obj:=tO [(.str (S 1735222900) 494),(.str (S 1718116977) 495),(.str (S 7893101) 496),(.str (S 1768450665) 497),(.str (S 112620038613614) 498)]
noncomputable def o256 (_:Params):Obj:=cO [(.str (S 31392679273066234308940950897) 491),(.str (S 37951420520090778506602714804950266613495697467733332) 492),(.str (S 9700865007064396754801562313776) 493),(.int (97) 0),(.int (2) 0),(.int (0) 0),(.int (0) 0),(.int (3) 0),(.ref 251),(.bool true),(.int (181) 0),(.ref 252),.none,(.ref 253),(.ref 254),(.ref 255),(.int (499) 0),(.int (97) 0),(.str (S 9700865007064396754801562313776) 500)]
noncomputable def o257 (_:Params):Obj:=⟨(.type "function"),none,.func (PySem.W.fnOf (Str.ofString "place_behind") (Str.ofString "Stretches.place_behind") (defArgs (inClass (top 20) 12)) (defBody (inClass (top 20) 12)) (defScope (inClass (top 20) 12)) .none .none .none (.str (S 2595807759375494792423391711955702693320880999) 328) none (.ref 256) .none), #[]⟩
noncomputable def o261 (_:Params):Obj:=cO [(.str (S 478922323667592571740785) 502),(.str (S 578981562671587066094221509702201825946659681620) 503),(.str (S 9700865007064396754801562313776) 504),(.int (108) 0),(.int (3) 0),(.int (0) 0),(.int (0) 0),(.int (3) 0),(.ref 258),(.bool true),(.int (181) 0),(.ref 259),.none,.none,.none,(.ref 260),(.int (505) 0),(.int (108) 0),(.str (S 9700865007064396754801562313776) 506)]
noncomputable def o262 (_:Params):Obj:=⟨(.type "function"),none,.func (PySem.W.fnOf (Str.ofString "parts_amid") (Str.ofString "Stretches.parts_amid") (defArgs (inClass (top 20) 13)) (defBody (inClass (top 20) 13)) (defScope (inClass (top 20) 13)) .none .none .none (.str (S 2595807759375494792423391711955702693320880999) 328) none (.ref 261) .none), #[]⟩
noncomputable def o265 (_:Params):Obj:=tO [(.str (S 1735222900) 511),(.str (S 1718116977) 512),(.str (S 500186702449) 513)]
noncomputable def o268 (_:Params):Obj:=cO [(.str (S 33040738702025329) 508),(.str (S 39943802116018770004276114331333133825364) 509),(.str (S 9700865007064396754801562313776) 510),(.int (113) 0),(.int (2) 0),(.int (0) 0),(.int (0) 0),(.int (3) 0),(.ref 263),(.bool true),(.int (181) 0),(.ref 264),.none,(.ref 265),(.ref 266),(.ref 267),(.int (514) 0),(.int (113) 0),(.str (S 9700865007064396754801562313776) 515)]
noncomputable def o269 (_:Params):Obj:=⟨(.type "function"),none,.func (PySem.W.fnOf (Str.ofString "part_at") (Str.ofString "Stretches.part_at") (defArgs (inClass (top 20) 14)) (defBody (inClass (top 20) 14)) (defScope (inClass (top 20) 14)) .none .none .none (.str (S 2595807759375494792423391711955702693320880999) 328) none (.ref 268) .none), #[]⟩
noncomputable def o273 (_:Params):Obj:=cO [(.str (S 7307774714166534765) 517),(.str (S 8834557535882840484900534439152844413302100) 518),(.str (S 9700865007064396754801562313776) 519),(.int (117) 0),(.int (4) 0),(.int (0) 0),(.int (0) 0),(.int (3) 0),(.ref 270),(.bool true),(.int (181) 0),(.ref 271),.none,.none,.none,(.ref 272),(.int (520) 0),(.int (117) 0),(.str (S 9700865007064396754801562313776) 521)]
noncomputable def o274 (_:Params):Obj:=⟨(.type "function"),none,.func (PySem.W.fnOf (Str.ofString "lay_amid") (Str.ofString "Stretches.lay_amid") (defArgs (inClass (top 20) 15)) (defBody (inClass (top 20) 15)) (defScope (inClass (top 20) 15)) .none .none .none (.str (S 2595807759375494792423391711955702693320880999) 328) none (.ref 273) .none), #[]⟩
noncomputable def o275 (_:Params):Obj:=⟨(.type "tuple"),none,.seq #[(.str (Str.ofString "runs") 523)] 0, #[]⟩
noncomputable def o276 (P:Params):Obj:=dO 4 [ent P (S 455125450472104437637216) 390 (.str (S 2595807759375494792423391711955702693320880999) 328),ent P (S 500416517772168279997240570217455712) 394 (.int (50) 393),ent P (S 6944679725401530464) 401 (.ref 176),ent P (S 7698033) 412 (.ref 184),ent P (S 7698020) 421 (.ref 191),ent P (S 435727529576) 427 (.ref 196),ent P (S 516757173630863403280740) 436 (.ref 203),ent P (S 2165357850485127146099) 445 (.ref 210),ent P (S 129065384569461) 453 (.ref 217),ent P (S 28823093466133610) 462 (.ref 224),ent P (S 30801127769404522) 468 (.ref 229),ent P (S 28541580069598314) 476 (.ref 236),ent P (S 1701671029) 483 (.ref 243),ent P (S 111490546888804) 490 (.ref 250),ent P (S 31392679273066234308940950897) 501 (.ref 257),ent P (S 478922323667592571740785) 507 (.ref 262),ent P (S 33040738702025329) 516 (.ref 269),ent P (S 7307774714166534765) 522 (.ref 274),ent P (S 140854816109632365363434125429399349832812124725344) 524 (.ref 275),ent P (S 6944679699547512928) 526 (.ref 278),ent P (S 116512133262362862868258912) 528 (.ref 279),ent P (S 27127582262911072) 529 .none]
noncomputable def o277 (_:Params):Obj:=⟨(.type "type"),none,.cls {name:=(Str.ofString "Stretches"),bases:=[(.type "object")],mro:=[(.ref 277),(.type "object")],ns:=276,qualname:=(Str.ofString "Stretches"),hasDict:=true,slotNames:=[],subclasses:=[],abstract:=false,collection:=none,hasDel:=false}, #[none,none,(some (.str (S 2147201852470124049748) 383)),(some (.str (S 2147201852470124049748) 391)),(some (.builtin "object.__new__")),(some (.bool true))]⟩
noncomputable def o278 (_:Params):Obj:=⟨(.type "getset_descriptor"),none,.fields ⟨[(.str (S 6944679699547512928) 525),(.ref 277),(.builtin "function.__dict__"),(.builtin "function.__dict__#set")]⟩, #[]⟩
noncomputable def o279 (_:Params):Obj:=⟨(.type "getset_descriptor"),none,.fields ⟨[(.str (S 116512133262362862868258912) 527),(.ref 277),(.builtin "ExceptionGroup.__weakref__"),.none]⟩, #[]⟩
noncomputable def o284 (_:Params):Obj:=tO [(.str (S 141979911977246466280418656) 537),(.str (S 119161592376672) 538)]
noncomputable def o287 (_:Params):Obj:=cO [(.str (S 36328676245180164783460216160) 534),(.str (S 36328676245180164783460216160) 535),(.str (S 9700865007064396754801562313776) 536),(.int (126) 0),(.int (2) 0),(.int (0) 0),(.int (0) 0),(.int (3) 0),(.ref 282),(.bool true),(.int (181) 0),(.ref 283),.none,(.ref 284),(.ref 285),(.ref 286),(.int (539) 0),(.int (126) 0),(.str (S 9700865007064396754801562313776) 540)]
noncomputable def o288 (_:Params):Obj:=⟨(.type "function"),none,.func (PySem.W.fnOf (Str.ofString "_law_cell_at") (Str.ofString "_law_cell_at") (defArgs (top 22)) (defBody (top 22)) (defScope (top 22)) .none .none .none (.str (S 883307608432031259752162760702153905388392507848665854178261712986184189739183661677) 532) none (.ref 287) .none), #[]⟩
noncomputable def o291 (_:Params):Obj:=tO [(.str (S 2018578202597599112544) 545)]
noncomputable def o294 (_:Params):Obj:=cO [(.str (S 139509984824270207699807584) 542),(.str (S 139509984824270207699807584) 543),(.str (S 9700865007064396754801562313776) 544),(.int (130) 0),(.int (1) 0),(.int (0) 0),(.int (0) 0),(.int (3) 0),(.ref 289),(.bool true),(.int (181) 0),(.ref 290),.none,(.ref 291),(.ref 292),(.ref 293),(.int (546) 0),(.int (130) 0),(.str (S 9700865007064396754801562313776) 547)]
noncomputable def o295 (_:Params):Obj:=⟨(.type "function"),none,.func (PySem.W.fnOf (Str.ofString "_law_number") (Str.ofString "_law_number") (defArgs (top 23)) (defBody (top 23)) (defScope (top 23)) .none .none .none (.str (S 883307608432031259752162760702153905388392507848665854178261712986184189739183661677) 532) none (.ref 294) .none), #[]⟩
noncomputable def o298 (_:Params):Obj:=tO [(.str (S 2018578202597599112544) 552)]
noncomputable def o301 (_:Params):Obj:=cO [(.str (S 7305510811536092512) 549),(.str (S 7305510811536092512) 550),(.str (S 9700865007064396754801562313776) 551),(.int (134) 0),(.int (1) 0),(.int (0) 0),(.int (0) 0),(.int (3) 0),(.ref 296),(.bool true),(.int (181) 0),(.ref 297),.none,(.ref 298),(.ref 299),(.ref 300),(.int (553) 0),(.int (134) 0),(.str (S 9700865007064396754801562313776) 554)]
noncomputable def o302 (_:Params):Obj:=⟨(.type "function"),none,.func (PySem.W.fnOf (Str.ofString "_law_bad") (Str.ofString "_law_bad") (defArgs (top 24)) (defBody (top 24)) (defScope (top 24)) .none .none .none (.str (S 883307608432031259752162760702153905388392507848665854178261712986184189739183661677) 532) none (.ref 301) .none), #[]⟩
noncomputable def o306 (_:Params):Obj:=cO [(.str (S 478848253269000079961440) 556),(.str (S 478848253269000079961440) 557),(.str (S 9700865007064396754801562313776) 558),(.int (136) 0),(.int (2) 0),(.int (0) 0),(.int (0) 0),(.int (3) 0),(.ref 303),(.bool true),(.int (181) 0),(.ref 304),.none,.none,.none,(.ref 305),(.int (559) 0),(.int (136) 0),(.str (S 9700865007064396754801562313776) 560)]
noncomputable def o307 (_:Params):Obj:=⟨(.type "function"),none,.func (PySem.W.fnOf (Str.ofString "_law_tried") (Str.ofString "_law_tried") (defArgs (top 25)) (defBody (top 25)) (defScope (top 25)) .none .none .none (.str (S 883307608432031259752162760702153905388392507848665854178261712986184189739183661677) 532) none (.ref 306) .none), #[]⟩
noncomputable def o310 (_:Params):Obj:=tO [(.str (S 2018578202597599112544) 565),(.str (S 554665017381624725269856) 566),(.str (S 2258528875839108574560) 567),(.str (S 8170207437549366624) 568),(.str (S 1889886165390743203168) 569),(.str (S 8818743376076762464) 570),(.str (S 1871223241937850101088) 571),(.str (S 2091865015451008527712) 572),(.str (S 1999481813178129739104) 573),(.str (S 578257469961251934334304) 574)]
noncomputable def o313 (_:Params):Obj:=cO [(.str (S 1870499847949168831840) 562),(.str (S 1870499847949168831840) 563),(.str (S 9700865007064396754801562313776) 564),(.int (152) 0),(.int (5) 0),(.int (0) 0),(.int (0) 0),(.int (3) 0),(.ref 308),(.bool true),(.int (181) 0),(.ref 309),.none,(.ref 310),(.ref 311),(.ref 312),(.int (575) 0),(.int (152) 0),(.str (S 9700865007064396754801562313776) 576)]
noncomputable def o314 (_:Params):Obj:=⟨(.type "function"),none,.func (PySem.W.fnOf (Str.ofString "_law_deed") (Str.ofString "_law_deed") (defArgs (top 26)) (defBody (top 26)) (defScope (top 26)) .none .none .none (.str (S 883307608432031259752162760702153905388392507848665854178261712986184189739183661677) 532) none (.ref 313) .none), #[]⟩
noncomputable def o317 (_:Params):Obj:=tO [(.str (S 2018578202597599112544) 581)]
noncomputable def o320 (_:Params):Obj:=cO [(.str (S 7383200104131489120) 578),(.str (S 7383200104131489120) 579),(.str (S 9700865007064396754801562313776) 580),(.int (167) 0),(.int (1) 0),(.int (0) 0),(.int (0) 0),(.int (3) 0),(.ref 315),(.bool true),(.int (181) 0),(.ref 316),.none,(.ref 317),(.ref 318),(.ref 319),(.int (582) 0),(.int (167) 0),(.str (S 9700865007064396754801562313776) 583)]
noncomputable def o321 (_:Params):Obj:=⟨(.type "function"),none,.func (PySem.W.fnOf (Str.ofString "_law_due") (Str.ofString "_law_due") (defArgs (top 27)) (defBody (top 27)) (defScope (top 27)) .none .none .none (.str (S 883307608432031259752162760702153905388392507848665854178261712986184189739183661677) 532) none (.ref 320) .none), #[]⟩
noncomputable def o324 (_:Params):Obj:=tO [(.str (S 1889525884017623330144) 588),(.str (S 8116987160644769142113648668000) 589),(.str (S 2077948713125041808237885785271648) 590)]
noncomputable def o327 (_:Params):Obj:=cO [(.str (S 1871007083449387478368) 585),(.str (S 1871007083449387478368) 586),(.str (S 9700865007064396754801562313776) 587),(.int (169) 0),(.int (2) 0),(.int (0) 0),(.int (0) 0),(.int (3) 0),(.ref 322),(.bool true),(.int (181) 0),(.ref 323),.none,(.ref 324),(.ref 325),(.ref 326),(.int (591) 0),(.int (169) 0),(.str (S 9700865007064396754801562313776) 592)]
noncomputable def o328 (_:Params):Obj:=⟨(.type "function"),none,.func (PySem.W.fnOf (Str.ofString "_law_told") (Str.ofString "_law_told") (defArgs (top 28)) (defBody (top 28)) (defScope (top 28)) .none .none .none (.str (S 883307608432031259752162760702153905388392507848665854178261712986184189739183661677) 532) none (.ref 327) .none), #[]⟩
noncomputable def o331 (_:Params):Obj:=tO [(.str (S 141979911977246466280418656) 597),(.str (S 554665017381624725269856) 598),(.str (S 2258528875839108574560) 599),(.str (S 8170207437549366624) 600),(.str (S 1889886165390743203168) 601),(.str (S 140789856385873457908444512) 602),(.str (S 7379839996597005664) 603),(.str (S 2166655442341238828384) 604),(.str (S 1889525884017623330144) 605),(.str (S 8116987160644769142113648668000) 606),(.str (S 2018578202597599112544) 607)]
noncomputable def o334 (_:Params):Obj:=cO [(.str (S 7889517) 594),(.str (S 7889517) 595),(.str (S 9700865007064396754801562313776) 596),(.int (172) 0),(.int (1) 0),(.int (0) 0),(.int (0) 0),(.int (3) 0),(.ref 329),(.bool true),(.int (181) 0),(.ref 330),.none,(.ref 331),(.ref 332),(.ref 333),(.int (608) 0),(.int (172) 0),(.str (S 9700865007064396754801562313776) 609)]
noncomputable def o335 (_:Params):Obj:=⟨(.type "function"),none,.func (PySem.W.fnOf (Str.ofString "law") (Str.ofString "law") (defArgs (top 29)) (defBody (top 29)) (defScope (top 29)) .none .none .none (.str (S 883307608432031259752162760702153905388392507848665854178261712986184189739183661677) 532) none (.ref 334) .none), #[]⟩
noncomputable def Kf:Params→PySem.W.Frag:=fun P=>(nat_lit 2,o2 P)::(nat_lit 3,o3 P)::(nat_lit 15,o15 P)::(nat_lit 17,o17 P)::(nat_lit 18,o15 P)::(nat_lit 20,o20 P)::(nat_lit 21,o21 P)::(nat_lit 22,o22 P)::(nat_lit 29,o29 P)::(nat_lit 30,o30 P)::(nat_lit 31,o31 P)::(nat_lit 32,o32 P)::(nat_lit 35,o35 P)::(nat_lit 42,o29 P)::(nat_lit 43,o43 P)::(nat_lit 44,o44 P)::(nat_lit 47,o35 P)::(nat_lit 54,o29 P)::(nat_lit 55,o55 P)::(nat_lit 56,o56 P)::(nat_lit 59,o35 P)::(nat_lit 66,o29 P)::(nat_lit 67,o67 P)::(nat_lit 68,o68 P)::(nat_lit 71,o35 P)::(nat_lit 78,o29 P)::(nat_lit 79,o79 P)::(nat_lit 80,o80 P)::(nat_lit 83,o35 P)::(nat_lit 90,o29 P)::(nat_lit 91,o91 P)::(nat_lit 92,o92 P)::(nat_lit 95,o35 P)::(nat_lit 102,o29 P)::(nat_lit 103,o103 P)::(nat_lit 104,o104 P)::(nat_lit 107,o15 P)::(nat_lit 109,o109 P)::(nat_lit 110,o15 P)::(nat_lit 112,o112 P)::(nat_lit 113,o113 P)::(nat_lit 114,o15 P)::(nat_lit 116,o116 P)::(nat_lit 117,o15 P)::(nat_lit 119,o119 P)::(nat_lit 120,o120 P)::(nat_lit 121,o15 P)::(nat_lit 123,o123 P)::(nat_lit 124,o15 P)::(nat_lit 126,o126 P)::(nat_lit 127,o127 P)::(nat_lit 128,o15 P)::(nat_lit 130,o130 P)::(nat_lit 131,o15 P)::(nat_lit 133,o133 P)::(nat_lit 134,o134 P)::(nat_lit 135,o15 P)::(nat_lit 137,o137 P)::(nat_lit 138,o15 P)::(nat_lit 140,o140 P)::(nat_lit 141,o141 P)::(nat_lit 142,o15 P)::(nat_lit 144,o144 P)::(nat_lit 145,o15 P)::(nat_lit 147,o147 P)::(nat_lit 148,o148 P)::(nat_lit 149,o15 P)::(nat_lit 151,o151 P)::(nat_lit 152,o15 P)::(nat_lit 154,o154 P)::(nat_lit 155,o155 P)::(nat_lit 156,o15 P)::(nat_lit 158,o158 P)::(nat_lit 159,o15 P)::(nat_lit 161,o161 P)::(nat_lit 162,o162 P)::(nat_lit 170,o15 P)::(nat_lit 172,o172 P)::(nat_lit 173,o15 P)::(nat_lit 175,o175 P)::(nat_lit 176,o176 P)::(nat_lit 177,o177 P)::(nat_lit 178,o15 P)::(nat_lit 180,o180 P)::(nat_lit 181,o15 P)::(nat_lit 183,o183 P)::(nat_lit 184,o184 P)::(nat_lit 185,o15 P)::(nat_lit 187,o187 P)::(nat_lit 188,o15 P)::(nat_lit 190,o190 P)::(nat_lit 191,o191 P)::(nat_lit 192,o15 P)::(nat_lit 195,o195 P)::(nat_lit 196,o196 P)::(nat_lit 197,o15 P)::(nat_lit 199,o199 P)::(nat_lit 200,o15 P)::(nat_lit 202,o202 P)::(nat_lit 203,o203 P)::(nat_lit 204,o15 P)::(nat_lit 206,o206 P)::(nat_lit 207,o15 P)::(nat_lit 209,o209 P)::(nat_lit 210,o210 P)::(nat_lit 211,o15 P)::(nat_lit 213,o213 P)::(nat_lit 214,o15 P)::(nat_lit 216,o216 P)::(nat_lit 217,o217 P)::(nat_lit 218,o15 P)::(nat_lit 220,o220 P)::(nat_lit 221,o15 P)::(nat_lit 223,o223 P)::(nat_lit 224,o224 P)::(nat_lit 225,o15 P)::(nat_lit 228,o228 P)::(nat_lit 229,o229 P)::(nat_lit 230,o15 P)::(nat_lit 232,o232 P)::(nat_lit 233,o15 P)::(nat_lit 235,o235 P)::(nat_lit 236,o236 P)::(nat_lit 237,o15 P)::(nat_lit 239,o239 P)::(nat_lit 240,o15 P)::(nat_lit 242,o242 P)::(nat_lit 243,o243 P)::(nat_lit 244,o15 P)::(nat_lit 246,o246 P)::(nat_lit 247,o15 P)::(nat_lit 249,o249 P)::(nat_lit 250,o250 P)::(nat_lit 251,o15 P)::(nat_lit 253,o253 P)::(nat_lit 254,o15 P)::(nat_lit 256,o256 P)::(nat_lit 257,o257 P)::(nat_lit 258,o15 P)::(nat_lit 261,o261 P)::(nat_lit 262,o262 P)::(nat_lit 263,o15 P)::(nat_lit 265,o265 P)::(nat_lit 266,o15 P)::(nat_lit 268,o268 P)::(nat_lit 269,o269 P)::(nat_lit 270,o15 P)::(nat_lit 273,o273 P)::(nat_lit 274,o274 P)::(nat_lit 275,o275 P)::(nat_lit 276,o276 P)::(nat_lit 277,o277 P)::(nat_lit 278,o278 P)::(nat_lit 279,o279 P)::(nat_lit 282,o15 P)::(nat_lit 284,o284 P)::(nat_lit 285,o15 P)::(nat_lit 287,o287 P)::(nat_lit 288,o288 P)::(nat_lit 289,o15 P)::(nat_lit 291,o291 P)::(nat_lit 292,o15 P)::(nat_lit 294,o294 P)::(nat_lit 295,o295 P)::(nat_lit 296,o15 P)::(nat_lit 298,o298 P)::(nat_lit 299,o15 P)::(nat_lit 301,o301 P)::(nat_lit 302,o302 P)::(nat_lit 303,o15 P)::(nat_lit 306,o306 P)::(nat_lit 307,o307 P)::(nat_lit 308,o15 P)::(nat_lit 310,o310 P)::(nat_lit 311,o15 P)::(nat_lit 313,o313 P)::(nat_lit 314,o314 P)::(nat_lit 315,o15 P)::(nat_lit 317,o317 P)::(nat_lit 318,o15 P)::(nat_lit 320,o320 P)::(nat_lit 321,o321 P)::(nat_lit 322,o15 P)::(nat_lit 324,o324 P)::(nat_lit 325,o15 P)::(nat_lit 327,o327 P)::(nat_lit 328,o328 P)::(nat_lit 329,o15 P)::(nat_lit 331,o331 P)::(nat_lit 332,o15 P)::(nat_lit 334,o334 P)::(nat_lit 335,o335 P)::[]
noncomputable def Kc0 (P:Params):List (Option Obj):=[some (o2 P),some (o3 P),some (o15 P),some (o17 P),some (o15 P),some (o20 P),some (o21 P),some (o22 P),some (o29 P),some (o30 P),some (o31 P),some (o32 P),some (o35 P),some (o29 P)]
noncomputable def Kc1 (P:Params):List (Option Obj):=[some (o43 P),some (o44 P),some (o35 P),some (o29 P),some (o55 P),some (o56 P),some (o35 P),some (o29 P),some (o67 P),some (o68 P),some (o35 P),some (o29 P),some (o79 P),some (o80 P)]
noncomputable def Kc2 (P:Params):List (Option Obj):=[some (o35 P),some (o29 P),some (o91 P),some (o92 P),some (o35 P),some (o29 P),some (o103 P),some (o104 P),some (o15 P),some (o109 P),some (o15 P),some (o112 P),some (o113 P),some (o15 P)]
noncomputable def Kc3 (P:Params):List (Option Obj):=[some (o116 P),some (o15 P),some (o119 P),some (o120 P),some (o15 P),some (o123 P),some (o15 P),some (o126 P),some (o127 P),some (o15 P),some (o130 P),some (o15 P),some (o133 P),some (o134 P)]
noncomputable def Kc4 (P:Params):List (Option Obj):=[some (o15 P),some (o137 P),some (o15 P),some (o140 P),some (o141 P),some (o15 P),some (o144 P),some (o15 P),some (o147 P),some (o148 P),some (o15 P),some (o151 P),some (o15 P),some (o154 P)]
noncomputable def Kc5 (P:Params):List (Option Obj):=[some (o155 P),some (o15 P),some (o158 P),some (o15 P),some (o161 P),some (o162 P),some (o15 P),some (o172 P),some (o15 P),some (o175 P),some (o176 P),some (o177 P),some (o15 P),some (o180 P)]
noncomputable def Kc6 (P:Params):List (Option Obj):=[some (o15 P),some (o183 P),some (o184 P),some (o15 P),some (o187 P),some (o15 P),some (o190 P),some (o191 P),some (o15 P),some (o195 P),some (o196 P),some (o15 P),some (o199 P),some (o15 P)]
noncomputable def Kc7 (P:Params):List (Option Obj):=[some (o202 P),some (o203 P),some (o15 P),some (o206 P),some (o15 P),some (o209 P),some (o210 P),some (o15 P),some (o213 P),some (o15 P),some (o216 P),some (o217 P),some (o15 P),some (o220 P)]
noncomputable def Kc8 (P:Params):List (Option Obj):=[some (o15 P),some (o223 P),some (o224 P),some (o15 P),some (o228 P),some (o229 P),some (o15 P),some (o232 P),some (o15 P),some (o235 P),some (o236 P),some (o15 P),some (o239 P),some (o15 P)]
noncomputable def Kc9 (P:Params):List (Option Obj):=[some (o242 P),some (o243 P),some (o15 P),some (o246 P),some (o15 P),some (o249 P),some (o250 P),some (o15 P),some (o253 P),some (o15 P),some (o256 P),some (o257 P),some (o15 P),some (o261 P)]
noncomputable def Kc10 (P:Params):List (Option Obj):=[some (o262 P),some (o15 P),some (o265 P),some (o15 P),some (o268 P),some (o269 P),some (o15 P),some (o273 P),some (o274 P),some (o275 P),some (o276 P),some (o277 P),some (o278 P),some (o279 P)]
noncomputable def Kc11 (P:Params):List (Option Obj):=[some (o15 P),some (o284 P),some (o15 P),some (o287 P),some (o288 P),some (o15 P),some (o291 P),some (o15 P),some (o294 P),some (o295 P),some (o15 P),some (o298 P),some (o15 P),some (o301 P)]
noncomputable def Kc12 (P:Params):List (Option Obj):=[some (o302 P),some (o15 P),some (o306 P),some (o307 P),some (o15 P),some (o310 P),some (o15 P),some (o313 P),some (o314 P),some (o15 P),some (o317 P),some (o15 P),some (o320 P),some (o321 P)]
noncomputable def Kc13 (P:Params):List (Option Obj):=[some (o15 P),some (o324 P),some (o15 P),some (o327 P),some (o328 P),some (o15 P),some (o331 P),some (o15 P),some (o334 P),some (o335 P)]
noncomputable def Kc (P:Params):List (Option Obj):=Kc0 P++(Kc1 P++(Kc2 P++(Kc3 P++(Kc4 P++(Kc5 P++(Kc6 P++(Kc7 P++(Kc8 P++(Kc9 P++(Kc10 P++(Kc11 P++(Kc12 P++(Kc13 P)))))))))))))
noncomputable def adr:List Addr:=nat_lit 2::nat_lit 3::nat_lit 15::nat_lit 17::nat_lit 18::nat_lit 20::nat_lit 21::nat_lit 22::nat_lit 29::nat_lit 30::nat_lit 31::nat_lit 32::nat_lit 35::nat_lit 42::nat_lit 43::nat_lit 44::nat_lit 47::nat_lit 54::nat_lit 55::nat_lit 56::nat_lit 59::nat_lit 66::nat_lit 67::nat_lit 68::nat_lit 71::nat_lit 78::nat_lit 79::nat_lit 80::nat_lit 83::nat_lit 90::nat_lit 91::nat_lit 92::nat_lit 95::nat_lit 102::nat_lit 103::nat_lit 104::nat_lit 107::nat_lit 109::nat_lit 110::nat_lit 112::nat_lit 113::nat_lit 114::nat_lit 116::nat_lit 117::nat_lit 119::nat_lit 120::nat_lit 121::nat_lit 123::nat_lit 124::nat_lit 126::nat_lit 127::nat_lit 128::nat_lit 130::nat_lit 131::nat_lit 133::nat_lit 134::nat_lit 135::nat_lit 137::nat_lit 138::nat_lit 140::nat_lit 141::nat_lit 142::nat_lit 144::nat_lit 145::nat_lit 147::nat_lit 148::nat_lit 149::nat_lit 151::nat_lit 152::nat_lit 154::nat_lit 155::nat_lit 156::nat_lit 158::nat_lit 159::nat_lit 161::nat_lit 162::nat_lit 170::nat_lit 172::nat_lit 173::nat_lit 175::nat_lit 176::nat_lit 177::nat_lit 178::nat_lit 180::nat_lit 181::nat_lit 183::nat_lit 184::nat_lit 185::nat_lit 187::nat_lit 188::nat_lit 190::nat_lit 191::nat_lit 192::nat_lit 195::nat_lit 196::nat_lit 197::nat_lit 199::nat_lit 200::nat_lit 202::nat_lit 203::nat_lit 204::nat_lit 206::nat_lit 207::nat_lit 209::nat_lit 210::nat_lit 211::nat_lit 213::nat_lit 214::nat_lit 216::nat_lit 217::nat_lit 218::nat_lit 220::nat_lit 221::nat_lit 223::nat_lit 224::nat_lit 225::nat_lit 228::nat_lit 229::nat_lit 230::nat_lit 232::nat_lit 233::nat_lit 235::nat_lit 236::nat_lit 237::nat_lit 239::nat_lit 240::nat_lit 242::nat_lit 243::nat_lit 244::nat_lit 246::nat_lit 247::nat_lit 249::nat_lit 250::nat_lit 251::nat_lit 253::nat_lit 254::nat_lit 256::nat_lit 257::nat_lit 258::nat_lit 261::nat_lit 262::nat_lit 263::nat_lit 265::nat_lit 266::nat_lit 268::nat_lit 269::nat_lit 270::nat_lit 273::nat_lit 274::nat_lit 275::nat_lit 276::nat_lit 277::nat_lit 278::nat_lit 279::nat_lit 282::nat_lit 284::nat_lit 285::nat_lit 287::nat_lit 288::nat_lit 289::nat_lit 291::nat_lit 292::nat_lit 294::nat_lit 295::nat_lit 296::nat_lit 298::nat_lit 299::nat_lit 301::nat_lit 302::nat_lit 303::nat_lit 306::nat_lit 307::nat_lit 308::nat_lit 310::nat_lit 311::nat_lit 313::nat_lit 314::nat_lit 315::nat_lit 317::nat_lit 318::nat_lit 320::nat_lit 321::nat_lit 322::nat_lit 324::nat_lit 325::nat_lit 327::nat_lit 328::nat_lit 329::nat_lit 331::nat_lit 332::nat_lit 334::nat_lit 335::[]
theorem af1 (P:Params):adr=(Kf P).map (·.1):=by kernel_rfl
theorem kc_eq (P:Params):Kc P=(Kf P).map fun p=>some p.2:=by kernel_rfl
noncomputable def vw:Program:=PySem.W.view PySem.Challenge.pw_frameland_k24_refused_stretches [0,2,3,4,5,6,7,8,10,11,13,14,15,16,17,18,19,20,22,23,24,25,26,27,28,29]
noncomputable def lhs:=once PySem.Challenge.pw_frameland_k24_refused_stretches (fun s=>adr.map s.heap.get?) 5580
noncomputable def rhs (w:World):=some (true,Kc w.params)
noncomputable def lht:=seen PySem.Challenge.pw_frameland_k24_refused_stretches vw [] (fun s=>PySem.W.xlAt vw [] s&&PySem.W.recOk (PySem.W.RowW.records (PySem.Challenge.rw_frameland_k24_refused_stretches).row.toRowW) s) 5580
noncomputable def rht:=some (PySem.W.openGood vw [])
theorem twins:(fun (_:World→OsState→_) (_:World→_) (_:World→OsState→_) (_:Option _)=>true) lhs rhs lht rht=true:=by k_qdec
theorem ald:∀(w:World) (os:OsState),PySem.W.Fast.tw7128866508377749982 w os=PySem.W.Fast.tw12590348191598281069 w:=by intro w os;kernel_rfl
theorem ale:∀(w:World) (os:OsState),PySem.W.Fast.tw7374437481920917934 w os=PySem.W.Fast.tw10733892774512676622:=by intro w os;kernel_rfl
theorem left:PySem.W.LeftO PySem.Challenge.pw_frameland_k24_refused_stretches vw [] (fun s=>PySem.W.xlAt vw [] s&&PySem.W.recOk (PySem.W.RowW.records (PySem.Challenge.rw_frameland_k24_refused_stretches).row.toRowW) s) (fun s=>adr.map s.heap.get?) (fun w=>(Kf w.params).map fun p=>some p.2) (5580):=by
 refine aim (by kernel_rfl) (by kernel_rfl) (by intro s;kernel_rfl) (fun w os=>?_) fun w os=>?_
 ·rw[←kc_eq];exact (congrFun (congrFun PySem.W.Fast.te7128866508377749982 w) os).trans ((ald w os).trans (congrFun PySem.W.Fast.te12590348191598281069 w).symm)
 ·exact (congrFun (congrFun PySem.W.Fast.te7374437481920917934 w) os).trans ((ale w os).trans PySem.W.Fast.te10733892774512676622.symm)
end
end Pf
open PySem PySem.W PyProof.Rows
set_option maxRecDepth 100000 in
set_option maxHeartbeats 0 in
theorem PySem.Challenge.cw_frameland_k24_refused_stretches_holds : PySem.Challenge.rw_frameland_k24_refused_stretches.Holds := by
 w_on;o_law
 refine holds_open (q:=Pf.vw) (loose:=[]) (Xt:=fun s=>xlAt Pf.vw [] s&&recOk (RowW.records (PySem.Challenge.rw_frameland_k24_refused_stretches).row.toRowW) s) (XP:=XL Pf.vw []) (Yf:=Hook.obs (kHook Pf.Kf Pf.adr Pf.af1)) (Ya:=Hook.val (kHook Pf.Kf Pf.adr Pf.af1)) (YP:=Hook.says (kHook Pf.Kf Pf.adr Pf.af1)) (N:=(5580)) Pf.left (Hook.of (kHook Pf.Kf Pf.adr Pf.af1)) (Hook.keeps (kHook Pf.Kf Pf.adr Pf.af1)) (fun s e=>xl_of s (Bool.and_eq_true_iff.mp e).1) XL.keeps (by rfl) (by rfl) (by rfl) (fun s e=>recFacts_of (Bool.and_eq_true_iff.mp e).2) (by rfl) (by first|assumption|decide+kernel) (by decide+kernel) ⟨rfl,rfl,rfl,rfl,rfl,by decide+kernel⟩ ?hw ?hc
 case hw=>w_witness2
 k_fill
 refine Pf.walk (l:=PySem.Challenge.rw_frameland_k24_refused_stretches) rfl rfl rfl (fun w h Y=>PySem.W.kIn_of Y) ?F
 case F=>
  intro w mg h KX G
  refine' Pf.txt_mk KX G ?g0 ?g1 ?g2 ?g3 ?g4 ?g5 ?g6 ?g7 ?g8 ?g9 ?g10 ?g11 ?g12 ?g13 ?g14 ?g15 ?g16 ?g17 ?g18 ?g19 ?g20 ?g21 ?g22 ?g23 ?g24 ?g25 ?g26 ?g27 ?g28 ?g29 ?g30 ?g31 ?g32 ?g33 ?g34 ?g35 ?g36 ?g37 ?g38 ?g39 ?g40 ?g41 ?g42 ?g43 ?g44 ?g45 ?g46 ?g47 ?g48 ?g49 ?g50 ?g51 ?g52 ?g53 ?g54 ?g55 ?g56 ?g57 ?g58 ?g59 ?g60 ?g61 ?g62 ?g63 ?g64 ?g65 ?g66 ?g67 ?g68 ?g69 ?g70 ?g71 ?g72 ?g73 ?g74 ?g75 ?g76 ?g77 ?g78 ?g79 ?g80 ?g81 ?g82 ?g83 ?g84 ?g85 ?g86 ?g87 ?g88 ?g89 ?g90 ?g91 ?g92 ?g93 ?g94 ?g95 ?g96 ?g97 ?g98 ?g99 ?g100 ?g101 ?g102 ?g103 ?g104 ?g105 ?g106 ?g107 ?g108 ?g109 ?g110 ?g111 ?g112 ?g113 ?g114 ?g115 ?g116 ?g117 ?g118 ?g119 ?g120 ?g121 ?g122 ?g123 ?g124 ?g125 ?g126 ?g127 ?g128 ?g129 ?g130 ?g131 ?g132 ?g133 ?g134 ?g135 ?g136 ?g137 ?g138 ?g139 ?g140 ?g141 ?g142 ?g143 ?g144 ?g145 ?g146 ?g147 ?g148 ?g149 ?g150 ?g151 ?g152 ?g153 ?g154 ?g155 ?g156 ?g157 ?g158 ?g159 ?g160 ?g161 ?g162 ?g163 ?g164 ?g165 ?g166 ?g167 ?g168 ?g169 ?g170 ?g171 ?g172 ?g173 ?g174 ?g175 ?g176 ?g177 ?g178 ?g179 ?g180 ?g181 ?g182 ?g183 ?g184 ?g185 ?g186 ?g187 ?g188 ?g189 ?g190 ?g191 ?g192 ?g193 ?g194 ?g195 ?g196 ?g197 ?g198 ?g199 ?g200 ?g201 ?g202 ?g203 ?g204 ?g205 ?g206 ?g207 ?g208
  (case g0=>k_is);(case g1=>k_is);(case g2=>k_is);(case g3=>k_is);(case g4=>k_is);(case g5=>k_is)
  (case g6=>k_is);(case g7=>k_is);(case g8=>k_is);(case g9=>k_is);(case g10=>k_is);(case g11=>k_is)
  (case g12=>k_is);(case g13=>k_is);(case g14=>k_is);(case g15=>k_is);(case g16=>k_is);(case g17=>k_is)
  (case g18=>k_is);(case g19=>k_is);(case g20=>k_is);(case g21=>k_is);(case g22=>k_is);(case g23=>k_is)
  (case g24=>k_is);(case g25=>k_is);(case g26=>k_is);(case g27=>k_is);(case g28=>k_is);(case g29=>k_is)
  (case g30=>k_is);(case g31=>k_is);(case g32=>k_is);(case g33=>k_is);(case g34=>k_is);(case g35=>k_is)
  (case g36=>k_is);(case g37=>k_is);(case g38=>k_is);(case g39=>k_is);(case g40=>k_is);(case g41=>k_is)
  (case g42=>k_is);(case g43=>k_is);(case g44=>k_is);(case g45=>k_is);(case g46=>k_is);(case g47=>k_is)
  (case g48=>k_is);(case g49=>k_is);(case g50=>k_is);(case g51=>k_is);(case g52=>k_is);(case g53=>k_is)
  (case g54=>k_is);(case g55=>k_is);(case g56=>k_is);(case g57=>k_is);(case g58=>k_is);(case g59=>k_is)
  (case g60=>k_is);(case g61=>k_is);(case g62=>k_is);(case g63=>k_is);(case g64=>k_is);(case g65=>k_is)
  (case g66=>k_is);(case g67=>k_is);(case g68=>k_is);(case g69=>k_is);(case g70=>k_is);(case g71=>k_is)
  (case g72=>k_is);(case g73=>k_is);(case g74=>k_is);(case g75=>k_is);(case g76=>k_is);(case g77=>k_is)
  (case g78=>k_is);(case g79=>k_is);(case g80=>k_is);(case g81=>k_is);(case g82=>k_is);(case g83=>k_is)
  (case g84=>k_is);(case g85=>k_is);(case g86=>k_is);(case g87=>k_is);(case g88=>k_is);(case g89=>k_is)
  (case g90=>k_is);(case g91=>k_is);(case g92=>k_is);(case g93=>k_is);(case g94=>k_is);(case g95=>k_is)
  (case g96=>k_is);(case g97=>k_is);(case g98=>k_is);(case g99=>k_is);(case g100=>k_is);(case g101=>k_is)
  (case g102=>k_is);(case g103=>k_is);(case g104=>k_is);(case g105=>k_is);(case g106=>k_is);(case g107=>k_is)
  (case g108=>k_is);(case g109=>k_is);(case g110=>k_is);(case g111=>k_is);(case g112=>k_is);(case g113=>k_is)
  (case g114=>k_is);(case g115=>k_is);(case g116=>k_is);(case g117=>k_is);(case g118=>k_is);(case g119=>k_is)
  (case g120=>k_is);(case g121=>k_is);(case g122=>k_is);(case g123=>k_is);(case g124=>k_is);(case g125=>k_is)
  (case g126=>k_is);(case g127=>k_is);(case g128=>k_is);(case g129=>k_is);(case g130=>k_is);(case g131=>k_is)
  (case g132=>k_is);(case g133=>k_is);(case g134=>k_is);(case g135=>k_is);(case g136=>k_is);(case g137=>k_is)
  (case g138=>k_is);(case g139=>k_is);(case g140=>k_is);(case g141=>k_is);(case g142=>k_is);(case g143=>k_is)
  (case g144=>k_is);(case g145=>k_is);(case g146=>k_is);(case g147=>k_is);(case g148=>k_is);(case g149=>k_is)
  (case g150=>k_is);(case g151=>k_is);(case g152=>k_is);(case g153=>k_is);(case g154=>k_exc);(case g155=>k_is)
  (case g156=>k_is);(case g157=>k_is);(case g158=>k_is);(case g159=>k_is);(case g160=>k_is);(case g161=>k_is)
  (case g162=>k_is);(case g163=>k_exc);(case g164=>k_is);(case g165=>k_is);(case g166=>k_is);(case g167=>k_is)
  (case g168=>k_is);(case g169=>k_is);(case g170=>k_is);(case g171=>k_is);(case g172=>k_exc);(case g173=>k_is)
  (case g174=>k_is);(case g175=>k_is);(case g176=>k_is);(case g177=>k_is);(case g178=>k_is);(case g179=>k_is)
  (case g180=>k_is);(case g181=>k_is);(case g182=>k_is);(case g183=>k_is);(case g184=>kit_is);(case g185=>kit_is)
  (case g186=>kit_is);(case g187=>kit_is);(case g188=>kit_is);(case g189=>kit_is);(case g190=>kit_is);(case g191=>kit_is)
  (case g192=>kit_is);(case g193=>kit_is);(case g194=>kit_is);(case g195=>kit_is);(case g196=>kit_is);(case g197=>kit_is)
  (case g198=>kit_is);(case g199=>kit_is);(case g200=>kit_is);(case g201=>kit_is);(case g202=>kit_is);(case g203=>kit_is)
  (case g204=>kit_is);(case g205=>k_is);(case g206=>k_is);(case g207=>k_is);(case g208=>k_is)
