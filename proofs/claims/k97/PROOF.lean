import PyProof.Rows.All
import Wide.All
import OpenK.AllK
import Wide.FinOn
import Lean
import PyProof.EqAt
import PyProof.EqKinds
import PyProof.TupleCall
import PyProof.NeKinds
import PyProof.EnumMake
import PyProof.EnumStmt
import PyProof.LayNew
import KE.KDictLaws
import KE.KDictSum
import KE.LcSums
import PyProof.Rows.SumAny
import PyProof.Rows.SortWalk
import PyProof.DictWalks
import PyProof.Rows.SortRev
import KE.KRevIter
import KE.KIntText
import PyProof.CallStr
import PyProof.StrCalls2
import PyProof.Rows.StrJoin2
import PyProof.StrWalks
import PyProof.Rows.Range3
import PySem.Challenge.RW_frameland_k97_bad_rows
set_option Elab.async false
set_option linter.all false
set_option genSizeOf false
set_option bootstrap.genMatcherCode false
set_option maxRecDepth 100000
local macro_rules | `(tactic| omega) => `(tactic| first | decide | lia | omega (config := {}))
namespace L2
open PySem PySem.Spec PyProof.Rows
noncomputable abbrev Key:=Sum Int Str
noncomputable def keyIs:Key→Value→Bool
 |.inl k,v=>Value.isInt k v
 |.inr x,v=>Value.isStrOf x v
noncomputable def keyH (w:World):Key→Int
 |.inl k=>hashInt k
 |.inr x=>hashStr w x
theorem aa5:∀{k:Key} {v:Value},keyIs k v=true→(∃i t,k=Sum.inl i∧v=Value.int i t)∨(∃x t,k=Sum.inr x∧v=Value.str x t)
 |.inl i,v,h=>by
  obtain⟨t,e⟩:=Value.isInt_shape (k:=i) (v:=v) h
  exact .inl ⟨i,t,rfl,e⟩
 |.inr x,v,h=>by
  obtain⟨t,e⟩:=Value.isStrOf_shape (x:=x) (v:=v) h
  exact .inr ⟨x,t,rfl,e⟩
theorem key_ll (a b:Int):decide ((Sum.inl a:Key)=Sum.inl b)=(a == b):=by
 by_cases e:a=b
 ·subst e;simp
 ·have h:¬(Sum.inl a:Key)=Sum.inl b:=fun q=>e (Sum.inl.inj q)
  rw[decide_eq_false h]
  exact (beq_eq_false_iff_ne.mpr e).symm
theorem key_rr (a b:Str):decide ((Sum.inr a:Key)=Sum.inr b)=decide (a=b):=by
 by_cases e:a=b
 ·subst e;simp
 ·have h:¬(Sum.inr a:Key)=Sum.inr b:=fun q=>e (Sum.inr.inj q)
  rw[decide_eq_false h,decide_eq_false e]
theorem key_lr (a:Int) (b:Str):decide ((Sum.inl a:Key)=Sum.inr b)=false:=decide_eq_false (fun q=>nomatch q)
theorem key_rl (a:Str) (b:Int):decide ((Sum.inr a:Key)=Sum.inl b)=false:=decide_eq_false (fun q=>nomatch q)
noncomputable def mixKind (prog:Program) (w:World):PySem.KeyKind prog w Key where
 is:=keyIs
 hash:=keyH w
 inj:=fun v a b ha hb=>by
  rcases aa5 ha with ⟨i,t,rfl,rfl⟩|⟨x,t,rfl,rfl⟩
  ·rcases aa5 hb with ⟨j,u,rfl,e⟩|⟨y,u,rfl,e⟩
   ·injection e with e1 _;rw[e1]
   ·exact nomatch e
  ·rcases aa5 hb with ⟨j,u,rfl,e⟩|⟨y,u,rfl,e⟩
   ·exact nomatch e
   ·injection e with e1 _;rw[e1]
 byValue:=fun k v h=>by
  rcases aa5 h with ⟨i,t,rfl,rfl⟩|⟨x,t,rfl,rfl⟩<;>rfl
 pyHash:=fun hv h=>by
  rcases aa5 hv with ⟨i,t,rfl,rfl⟩|⟨x,t,rfl,rfl⟩
  ·exact wpAny_pyHash_int h
  ·exact wpAny_pyHash_str h
 eqBool:=fun hu hv h=>by
  rcases aa5 hu with ⟨i,t,rfl,rfl⟩|⟨x,t,rfl,rfl⟩
  ·rcases aa5 hv with ⟨j,u,rfl,rfl⟩|⟨y,u,rfl,rfl⟩
   ·rw[key_ll] at h;exact wpAny_eqBool_int h
   ·rw[key_lr] at h;exact SeqAt.EqAt.int_str i t y u _ _ _ _ h
  ·rcases aa5 hv with ⟨j,u,rfl,rfl⟩|⟨y,u,rfl,rfl⟩
   ·rw[key_rl] at h;exact SeqAt.EqAt.str_int x t j u _ _ _ _ h
   ·rw[key_rr] at h;exact wpAny_eqBool_str h
 «strs» :=fun k x t v h=>by
  rcases aa5 h with ⟨i,u,rfl,e⟩|⟨y,u,rfl,e⟩
  ·exact nomatch e
  ·injection e with e1 _
   subst e1
   cases v<;>rfl
end L2
namespace L2
open PySem PySem.Spec PyProof.Rows
inductive V where
 |non|bl (b:Bool)|int (i:Int)|str (x:Str)|byt (b:Array UInt8)|flt (b:UInt64)|ref (a:Addr)|ty (n:String)
 deriving DecidableEq
noncomputable def RelV:V→Value→Prop
 |.non,u=>u=Value.none
 |.bl b,u=>u=Value.bool b
 |.int i,u=>∃t,u=Value.int i t
 |.str x,u=>∃t,u=Value.str x t
 |.byt b,u=>∃t,u=Value.bytes b t
 |.flt b,u=>∃t,u=Value.float b t
 |.ref a,u=>u=Value.ref a
 |.ty n,u=>u=Value.type n
noncomputable abbrev Vals:List V→List Value→Prop:=Paired RelV
theorem Vals.length {xs:List V} {us:List Value} (r:Vals xs us):xs.length=us.length:=Paired.length r
theorem Vals.get:∀{xs:List V} {us:List Value} {i:Nat} {x:V},Vals xs us→xs[i]?=some x→∃u,us[i]?=some u∧RelV x u
 |_,_,_,_,.nil,e=>by simp at e
 |_,_,0,_,.cons r _,e=>by simp at e;subst e;exact⟨_,rfl,r⟩
 |_,_,i+1,x,.cons _ t,e=>by
  obtain⟨u,h1,h2⟩:=Vals.get (i:=i) (x:=x) t (by simpa using e)
  exact⟨u,by simpa using h1,h2⟩
theorem Vals.set {x:V} {u:Value} (r:RelV x u):∀{xs:List V} {us:List Value} (i:Nat),Vals xs us→Vals (xs.set i x) (us.set i u)
 |_,_,_,.nil=>.nil
 |_,_,0,.cons _ t=>.cons r t
 |_,_,i+1,.cons q t=>.cons q (Vals.set r i t)
theorem Vals.append:∀{xs ys:List V} {us ws:List Value},Vals xs us→Vals ys ws→Vals (xs++ys) (us++ws)
 |_,_,_,_,.nil,s=>s
 |_,_,_,_,.cons r t,s=>.cons r (Vals.append t s)
theorem Vals.take:∀{xs:List V} {us:List Value} (n:Nat),Vals xs us→Vals (xs.take n) (us.take n)
 |_,_,0,_=>.nil
 |_,_,_+1,.nil=>.nil
 |_,_,n+1,.cons r t=>.cons r (Vals.take n t)
theorem Vals.drop:∀{xs:List V} {us:List Value} (n:Nat),Vals xs us→Vals (xs.drop n) (us.drop n)
 |_,_,0,r=>r
 |_,_,_+1,.nil=>.nil
 |_,_,n+1,.cons _ t=>Vals.drop n t
noncomputable def RelO:Option V→Option Value→Prop
 |some v,some u=>RelV v u
 |none,none=>True
 |_,_=>False
noncomputable def KV {κ:Type}:List (κ×V)→List (κ×Value)→Prop:=Paired fun (p:κ×V) (q:κ×Value)=>p.1=q.1∧RelV p.2 q.2
noncomputable def kV:Key→V
 |.inl i=>.int i
 |.inr x=>.str x
inductive HO where
 |lst (xs:List V)
 |tup (xs:List V)
 |dK (kvs:List (Key×V))|dT (kvs:List (List Key×V))
 |set (S:Int→Bool) (n:Nat)
 |ins (C dx:Addr) (fs:List (Str×V))
 |own (x:Addr)
 |xd (fs:List (Str×V))
 |met (f x:Addr)
 |rng (lo hi:Int)
 |frz (o:Obj) (u:HO)
 |tbl (ps:Array Value)
 |ext (φ:Heap→Prop)
noncomputable abbrev Hp:=Addr→Option HO
noncomputable def upd (H:Hp) (a:Addr) (o:HO):Hp:=fun b=>if b=a then some o else H b
theorem aaj {H:Hp} {a:Addr} {o:HO}:upd H a o a=some o:=by unfold upd;rw[if_pos rfl]
theorem aa4 {H:Hp} {a b:Addr} {o:HO} (h:b≠a):upd H a o b=H b:=by unfold upd;rw[if_neg h]
theorem aa3 {H:Hp} {a b:Addr} {o:HO} (h:H a=some o) (h':H b=none):a≠b:=by
 intro e;subst e;rw[h] at h';cases h'
section
variable (P:Program) (w:World)
noncomputable def ObjOk (H:Hp) (h:Heap) (a:Addr):HO→Prop
 |.lst xs=>xs.length≤sizeLine∧∃(its:List Value) (n:Nat),Vals xs its∧h.get? a=some {cls:=.type "list",data:=.seq its.toArray n}
 |.tup xs=>xs.length≤sizeLine∧∃its:List Value,Vals xs its∧IsTup h a its.toArray
 |.dK kvs=>kvs.length≤sizeLine∧(a == sysModules)=false∧∃vs,KV kvs vs∧h.DictOf (mixKind P w) a vs
 |.dT kvs=>kvs.length≤sizeLine∧(a == sysModules)=false∧∃xs:List (List Key×Addr×Value),
  Paired (fun (p:List Key×V) (q:List Key×Addr×Value)=>p.1=q.1∧H q.2.1=some (.tup (p.1.map kV))∧RelV p.2 q.2.2) kvs xs∧
  ∃o es ep,h.get? a=some o∧o.ExactDict∧o.data=.dict es ep∧es.toList=xs.map (entryOfKey (tupleKind (mixKind P w)))∧(xs.map (·.1)).Nodup
 |.set S n=>h.SetOf (intKind P w) a S n
 |.ins C dx fs=>H dx=some (.own a)∧fs.length≤1000∧dx≠a∧h.get? a=some (PySem.W.instObj C dx)∧
  ∃mA,h.Ns1 dx mA∧(∀f,RelO (fs.lookup f) (mA f))∧PySem.Within mA (fs.map (·.1))
 |.own _=>∃o,h.get? a=some o
 |.xd fs=>∃mA,h.Ns1 a mA∧∀f,RelO (fs.lookup f) (mA f)
 |.rng lo hi=>∃t u v,h.get? a=some {cls:=.type "range",data:=.fields #[.int lo t,.int hi u,.int 1 v]}
 |.frz o u=>h.get? a=some o∧ObjOk H h a u
 |.tbl ps=>h.get? a=some {cls:=.none,data:=.fields ps}
 |.met f x=>h.get? a=some (PySem.W.methodObj (.ref f) (.ref x))
 |.ext φ=>φ h∧(∃o,h.get? a=some o)∧∀h1 h2:Heap,φ h1→(∀o,h1.get? a=some o→h2.get? a=some o)→φ h2
noncomputable def HOk (H:Hp) (h:Heap):Prop:=∀a o,H a=some o→ObjOk P w H h a o
end
section
variable {P:Program} {w:World} {H H':Hp} {h h':Heap} {a:Addr} {o:HO}
theorem ObjOk.lt (x:ObjOk P w H h a o):a < h.objs.size:=by
 cases o with
 |lst xs=>obtain⟨_,_,_,_,e⟩:=x;exact Heap.lt_size e
 |tup xs=>obtain⟨_,_,_,p⟩:=x;exact p.lt
 |dK kvs=>obtain⟨_,_,_,_,o,_,_,e,_⟩:=x;exact Heap.lt_size e
 |dT kvs=>obtain⟨_,_,_,_,o,_,_,e,_⟩:=x;exact Heap.lt_size e
 |set S n=>obtain⟨o,_,_,_,e,_⟩:=x;exact Heap.lt_size e
 |ins C dx fs=>obtain⟨_,_,_,e,_⟩:=x;exact Heap.lt_size e
 |own y=>obtain⟨_,e⟩:=x;exact Heap.lt_size e
 |xd fs=>obtain⟨_,⟨_,_,_,e,_⟩,_⟩:=x;exact Heap.lt_size e
 |rng lo hi=>obtain⟨_,_,_,e⟩:=x;exact Heap.lt_size e
 |frz ob u=>obtain⟨e,_⟩:=x;exact Heap.lt_size e
 |tbl ps=>exact Heap.lt_size (show h.get? a=some _ from x)
 |met f y=>exact Heap.lt_size (show h.get? a=some _ from x)
 |ext φ=>obtain⟨_,⟨_,e⟩,_⟩:=x;exact Heap.lt_size e
theorem Paired.mapP {α β:Type} {F G:α→β→Prop}:∀{l₁:List α} {l₂:List β},Paired F l₁ l₂→(∀a b,F a b→G a b)→Paired G l₁ l₂
 |_,_,.nil,_=>.nil
 |_,_,.cons r t,f=>.cons (f _ _ r) (Paired.mapP t f)
theorem ObjOk.stay (x:ObjOk P w H h a o) (k:∀b u,(b=a∨H b=some (.own a))→h.get? b=some u→h'.get? b=some u)
  (ho:∀b,H b=some (.own a)→H' b=some (.own a)) (ht:∀b xs,H b=some (.tup xs)→H' b=some (.tup xs)):ObjOk P w H' h' a o:=by
 induction o with
 |lst xs=>obtain⟨z,its,n,r,e⟩:=x;exact⟨z,its,n,r,k _ _ (.inl rfl) e⟩
 |tup xs=>obtain⟨z,its,r,ob,e,c⟩:=x;exact⟨z,its,r,ob,k _ _ (.inl rfl) e,c⟩
 |dK kvs=>obtain⟨z,y,vs,r,ob,es,ep,e,c⟩:=x;exact⟨z,y,vs,r,ob,es,ep,k _ _ (.inl rfl) e,c⟩
 |dT kvs=>
  obtain⟨z,y,xs,r,ob,es,ep,e,c⟩:=x
  exact⟨z,y,xs,Paired.mapP r fun p q z=>⟨z.1,ht _ _ z.2.1,z.2.2⟩,ob,es,ep,k _ _ (.inl rfl) e,c⟩
 |set S n=>obtain⟨ob,es,ep,t,e,c⟩:=x;exact⟨ob,es,ep,t,k _ _ (.inl rfl) e,c⟩
 |ins C dx fs=>
  obtain⟨d,z,ne,e,mA,⟨od,es,ep,e2,c⟩,r⟩:=x
  exact⟨ho _ d,z,ne,k _ _ (.inl rfl) e,mA,⟨od,es,ep,k _ _ (.inr d) e2,c⟩,r⟩
 |own y=>obtain⟨ob,e⟩:=x;exact⟨ob,k _ _ (.inl rfl) e⟩
 |xd fs=>obtain⟨mA,⟨od,es,ep,e,c⟩,r⟩:=x;exact⟨mA,⟨od,es,ep,k _ _ (.inl rfl) e,c⟩,r⟩
 |rng lo hi=>obtain⟨t,u,v,e⟩:=x;exact⟨t,u,v,k _ _ (.inl rfl) e⟩
 |frz ob u ih=>obtain⟨e,q⟩:=x;exact⟨k _ _ (.inl rfl) e,ih q⟩
 |tbl ps=>
  have e:h.get? a=some {cls:=.none,data:=.fields ps}:=x
  show h'.get? a=some {cls:=.none,data:=.fields ps}
  exact k a _ (.inl rfl) e
 |met f y=>
  have e:h.get? a=some (PySem.W.methodObj (.ref f) (.ref y)):=x
  show h'.get? a=some (PySem.W.methodObj (.ref f) (.ref y))
  exact k a _ (.inl rfl) e
 |ext φ=>obtain⟨p,⟨o,e⟩,st⟩:=x;exact⟨st _ _ p fun o q=>k _ _ (.inl rfl) q,⟨o,k _ _ (.inl rfl) e⟩,st⟩
theorem HOk.lt (x:HOk P w H h) (e:H a=some o):a < h.objs.size:=(x a o e).lt
theorem HOk.fresh (x:HOk P w H h) (e:h.objs.size≤a):H a=none:=by
 cases q:H a with
 |none=>rfl
 |some u=>exact absurd (Nat.lt_of_lt_of_le (x.lt q) e) (Nat.lt_irrefl _)
theorem HOk.kept (x:HOk P w H h) (k:∀b u,h.get? b=some u→h'.get? b=some u):HOk P w H h':=fun a o e=>
 (x a o e).stay (fun b u _ q=>k b u q) (fun _ q=>q) fun _ _ q=>q
theorem HOk.laid (x:HOk P w H h) (k:∀b u,h.get? b=some u→h'.get? b=some u) (hp:h.objs.size≤a) (new:ObjOk P w (upd H a o) h' a o):HOk P w (upd H a o) h':=fun b u e=>by
 have hn:=x.fresh hp
 by_cases hb:b=a
 ·subst hb;rw[aaj] at e;cases e;exact new
 ·rw[aa4 hb] at e
  exact (x b u e).stay (fun c v _ q=>k c v q) (fun c q=>by rw[aa4 (aa3 q hn)];exact q) fun c xs q=>by rw[aa4 (aa3 q hn)];exact q
end
noncomputable def Rd (H:Hp) (a:Addr) (u:HO):Prop:=H a=some u∨∃o,H a=some (.frz o u)
theorem Rd.of {H:Hp} {a:Addr} {u:HO} (h:H a=some u):Rd H a u:=.inl h
theorem Rd.ok {P:Program} {w:World} {H:Hp} {h:Heap} {a:Addr} {u:HO} (r:Rd H a u) (x:HOk P w H h):ObjOk P w H h a u:=by
 rcases r with r|⟨o,r⟩
 ·exact x a u r
 ·obtain⟨_,q⟩:=x a _ r
  exact q
noncomputable def Mut:Option HO→Prop
 |some (.lst _)=>True
 |some (.dK _)=>True
 |some (.dT _)=>True
 |some (.set _ _)=>True
 |some (.ins _ _ _)=>True
 |some (.ext _)=>True
 |_=>False
section
variable {P:Program} {w:World} {H:Hp} {h h':Heap} {x e:Addr} {o':HO}
theorem HOk.write (ok:HOk P w H h) (mu:Mut (H x)) (he:e=x∨H e=some (.own x)) (k:∀b u,b≠e→h.get? b=some u→h'.get? b=some u) (heo:∃u,h'.get? e=some u)
  (new:ObjOk P w (upd H x o') h' x o'):HOk P w (upd H x o') h':=fun b u q=>by
 have nown:∀c y,H c=some (.own y)→c≠x:=fun c y r z=>by subst z;rw[r] at mu;exact mu
 have ntup:∀c xs,H c=some (.tup xs)→c≠x:=fun c xs r z=>by subst z;rw[r] at mu;exact mu
 by_cases hb:b=x
 ·subst hb;rw[aaj] at q;cases q;exact new
 ·rw[aa4 hb] at q
  by_cases hbe:b=e
  ·have q':H b=some (.own x):=by
    rcases he with z|z
    ·exact absurd (hbe.trans z) hb
    ·rw[hbe];exact z
   rw[q] at q';cases q'
   obtain⟨v,hv⟩:=heo
   exact⟨v,by rw[hbe];exact hv⟩
  ·refine (ok b u q).stay (fun c v hc r=>k c v ?_ r) (fun c r=>by rw[aa4 (nown c b r)];exact r) fun c xs r=>by rw[aa4 (ntup c xs r)];exact r
   rcases hc with rfl|hc
   ·exact hbe
   ·rintro rfl
    rcases he with z|z
    ·exact nown c b hc z
    ·rw[hc] at z;cases z;exact hb rfl
end
structure Un (fs ex:List Addr) (H H':Hp) (h h':Heap):Prop where
 keep:∀b o,h.get? b=some o→H b=none→b∉fs→b∉ex→h'.get? b=some o
 slot:∀b o,h.get? b=some o→H b=none→b∈fs→b∉ex→∃sl,h'.get? b=some {o with slots:=sl}
 free:∀b o,h.get? b=some o→H b=none→b∉ex→H' b=none
 there:∀b o,h.get? b=some o→b∉ex→∃o',h'.get? b=some o'
 tups:∀b xs,H b=some (.tup xs)→H' b=some (.tup xs)
 frzs:∀b o u,H b=some (.frz o u)→H' b=some (.frz o u)
 tbls:∀b ps,H b=some (.tbl ps)→∃more,H' b=some (.tbl (ps++more))
section
variable {fs fs' ex ex':List Addr} {H H1 H2:Hp} {h h1 h2 h':Heap} {a x e:Addr} {o:HO}
theorem Un.any (u:Un fs ex H H1 h h1) {b:Addr} {ob:Obj} (q:h.get? b=some ob) (n:H b=none) (hx:b∉ex):∃sl,h1.get? b=some {ob with slots:=sl}:=by
 by_cases hb:b∈fs
 ·exact u.slot b ob q n hb hx
 ·exact⟨ob.slots,u.keep b ob q n hb hx⟩
theorem Un.trans (a:Un fs ex H H1 h h1) (b:Un fs ex H1 H2 h1 h2):Un fs ex H H2 h h2 where
 keep:=fun c ob q n hc hx=>b.keep c ob (a.keep c ob q n hc hx) (a.free c ob q n hx) hc hx
 slot:=fun c ob q n hc hx=>by
  obtain⟨sl,e1⟩:=a.slot c ob q n hc hx
  obtain⟨sl',e2⟩:=b.slot c _ e1 (a.free c ob q n hx) hc hx
  exact⟨sl',e2⟩
 free:=fun c ob q n hx=>by
  obtain⟨o',e1⟩:=a.there c ob q hx
  exact b.free c o' e1 (a.free c ob q n hx) hx
 there:=fun c ob q hx=>by
  obtain⟨o',e1⟩:=a.there c ob q hx
  exact b.there c o' e1 hx
 tups:=fun c xs q=>b.tups c xs (a.tups c xs q)
 frzs:=fun c ob xs q=>b.frzs c ob xs (a.frzs c ob xs q)
 tbls:=fun c ps q=>by
  obtain⟨m1,e1⟩:=a.tbls c ps q
  obtain⟨m2,e2⟩:=b.tbls c _ e1
  exact⟨m1++m2,by rw[e2,Array.append_assoc]⟩
theorem Un.kept (k:∀b u,h.get? b=some u→h'.get? b=some u):Un fs ex H H h h':=
 ⟨fun b ob q _ _ _=>k b ob q,fun b ob q _ _ _=>⟨ob.slots,k b ob q⟩,fun _ _ _ n _=>n,fun b ob q _=>⟨ob,k b ob q⟩,fun _ _ q=>q,fun _ _ _ q=>q,fun _ ps q=>⟨#[],by rw[q];simp⟩⟩
theorem Un.refl:Un fs ex H H h h:=Un.kept fun _ _ q=>q
theorem Un.laid (k:∀b u,h.get? b=some u→h'.get? b=some u) (hp:h.objs.size≤a) (hn:H a=none):Un fs ex H (upd H a o) h h' where
 keep:=fun b u q _ _ _=>k b u q
 slot:=fun b u q _ _ _=>⟨u.slots,k b u q⟩
 free:=fun b u q n _=>by rw[aa4 (Nat.ne_of_lt (Nat.lt_of_lt_of_le (Heap.lt_size q) hp))];exact n
 there:=fun b u q _=>⟨u,k b u q⟩
 tups:=fun b xs q=>by rw[aa4 (aa3 q hn)];exact q
 frzs:=fun b u xs q=>by rw[aa4 (aa3 q hn)];exact q
 tbls:=fun b ps q=>⟨#[],by rw[aa4 (aa3 q hn),q];simp⟩
theorem Un.write (mu:Mut (H x)) (he:e=x∨H e=some (.own x)) (k:∀b u,b≠e→h.get? b=some u→h'.get? b=some u) (heo:∃u,h'.get? e=some u):Un fs ex H (upd H x o) h h':=by
 have hx:∀b,H b=none→b≠x:=fun b n z=>by subst z;rw[n] at mu;exact mu
 have hb:∀b,H b=none→b≠e:=fun b n z=>by
  subst z
  rcases he with r|r
  ·exact hx b n r
  ·rw[n] at r;cases r
 have hm:∀b u,H b=some u→¬Mut (some u)→b≠x:=fun b u q nm z=>by subst z;rw[q] at mu;exact nm mu
 refine⟨fun b u q n _ _=>k b u (hb b n) q,fun b u q n _ _=>⟨u.slots,k b u (hb b n) q⟩,fun b u q n _=>by rw[aa4 (hx b n)];exact n,fun b u q _=>?_,
  fun b xs q=>by rw[aa4 (hm b _ q fun z=>z)];exact q,fun b u xs q=>by rw[aa4 (hm b _ q fun z=>z)];exact q,fun b ps q=>⟨#[],by rw[aa4 (hm b _ q fun z=>z),q];simp⟩⟩
 by_cases hbe:b=e
 ·subst hbe;exact heo
 ·exact⟨u,k b u hbe q⟩
end
noncomputable def trk (h:Heap) (H:Hp):List Addr:=(List.range h.objs.size).filter fun a=>(H a).isSome
noncomputable def hidT (h:Heap) (H:Hp):Heap:=PySem.W.hideAll h (trk h H)
theorem agj (h:Heap) (H:Hp):(hidT h H).objs.size=h.objs.size:=PySem.W.hideAll_size _ _
theorem aic {h:Heap} {H:Hp} {b:Addr} {o:Obj} (e:h.get? b=some o) (n:H b=none):(hidT h H).get? b=some o:=
 PySem.W.hideAll_get _ e fun hm=>by
  have q:(H b).isSome=true:=(List.mem_filter.mp hm).2
  rw[n] at q;simp at q
theorem ajp {h:Heap} {H:Hp} {b:Addr} {o:Obj} (e:(hidT h H).get? b=some o):h.get? b=some o∧H b=none:=by
 have e':h.get? b=some o:=PySem.W.of_hideAll (trk h H) e
 refine⟨e',?_⟩
 cases q:H b with
 |none=>rfl
 |some x=>
  have hm:b∈trk h H:=List.mem_filter.mpr ⟨List.mem_range.mpr (Heap.lt_size e'),by simp[q]⟩
  have z:(hidT h H).get? b=none:=PySem.W.hideAll_none (trk h H) hm
  rw[z] at e;cases e
noncomputable def allNews (g h:Heap) (L:Addr):List (Addr×Obj):=(List.range h.objs.size).filterMap fun a=>if a=L∨(g.get? a).isSome=true then none else (h.get? a).map fun o=>(a,o)
noncomputable def rest (g h:Heap) (L d:Addr):List (Addr×Obj):=(allNews g h L).filter fun p=>decide (p.1≠d)
end L2
namespace L2
open PySem PySem.Spec PyProof.Rows
structure Mod (K:PySem.W.Frag) (mg:Str→Option Value) (base:Heap):Prop where
 kin:K.In base
 glob:base.Ns mainGlobals mg
 blt:∃mb,base.Ns builtinsNs mb∧∀x:Str,x≠"__name__"→mb x=bootBuiltins x
 nolimit:base.NoLimit
structure Cx where
 prog:Program
 w:World
 K:PySem.W.Frag
 mg:Str→Option Value
 base:Heap
 A:Around
 N:List Str
 s₀:Shared
 H₀:Hp
 env:Env
 outer:List Env
 stack:List Env
 ex:List Addr
 fn:Str→Bool
 calm:Bool
 pn:List (Addr×Obj)
 xe:Value→Shared→Prop
noncomputable def frs (l:List Env):List Addr:=l.filterMap (·.frame)
noncomputable abbrev Cx.fs (X:Cx):List Addr:=frs X.outer
noncomputable def Vis (sc:Scope) (x:Str):Prop:=sc.names.lookup x=some .local∨sc.names.lookup x=some .cell∨sc.names.lookup x=some .free
noncomputable def Loc (sc:Scope) (x:Str):Prop:=sc.names.lookup x=some .local∨sc.names.lookup x=some .cell
noncomputable def Look (env:Env) (h:Heap) (m:Str→Option Value) (x:Str) (u:Value):Prop:=
 (env.kindOf x=some .local∧m x=some u)∨((env.kindOf x=some .cell∨env.kindOf x=some .free)∧∃c,env.cells.lookup x=some c∧h.IsCell c (some u))
structure Cx.Ok (X:Cx):Prop where
 mod:Mod X.K X.mg X.base
 kind:X.env.scope.kind=.function
 glob:X.env.globals=mainGlobals
 blt:X.env.builtins=builtinsNs
 above:X.s₀.heap.objs.size≤X.env.locals
 inj:∀x y c,X.env.cells.lookup x=some c→X.env.cells.lookup y=some c→x=y
 has:∀x,(X.env.kindOf x=some .cell∨X.env.kindOf x=some .free)→∃c,X.env.cells.lookup x=some c
 cab:∀x c,X.fn x=true→X.env.cells.lookup x=some c→X.s₀.heap.objs.size≤c
 hd:X.calm=true→X.A.handled=none
 frames:X.A.frames=some X.stack
 stk:X.stack=X.outer∨(X.stack=X.env::X.outer∧X.env.frame=some X.env.locals)
 exf:∀b∈X.ex,b≠X.env.locals∧∀x c,X.env.cells.lookup x=some c→c≠b
 bs:∀b o,X.base.get? b=some o→X.s₀.heap.get? b=some o∧X.H₀ b=none
 bsz:X.base.objs.size≤X.s₀.heap.objs.size
 noex:∀b o,X.base.get? b=some o→b∉X.ex
 exfs:∀b∈X.ex,b∉X.fs
 funs:X.s₀.heap.FunFrames X.base X.outer
 frf:∀b∈X.fs,X.H₀ b=none
structure Inv (X:Cx) (pins:List (Addr×Obj)) (σ:List (Option V)) (H:Hp) (s:Shared):Prop where
 ok:X.Ok
 os:s.os=X.s₀.os
 bare:AllBare s.gens
 base:Un X.fs X.ex X.H₀ H X.s₀.heap s.heap
 loc:∃m,s.heap.Ns X.env.locals m∧∀(i:Nat) (x:Str) (v:V),X.N[i]?=some x→σ[i]?=some (some v)→Vis X.env.scope x→∃u,RelV v u∧Look X.env s.heap m x u
 cell:∀x c,X.env.cells.lookup x=some c→∃v,s.heap.IsCell c v
 free:H X.env.locals=none
 freeC:∀x c,X.env.cells.lookup x=some c→H c=none
 pin:∀p∈X.pn++pins,s.heap.get? p.1=some p.2∧H p.1=none∧p.1≠X.env.locals∧p.1∉X.fs∧∀v,p.2.data≠.cell v
 hok:HOk X.prog X.w H s.heap
 len:σ.length=X.N.length
section
variable {X:Cx} {pins:List (Addr×Obj)} {σ:List (Option V)} {H H':Hp} {s:Shared} {h':Heap}
theorem Cx.Ok.nofr (ok:X.Ok) {b:Addr} {o:Obj} (e:X.base.get? b=some o):b∉X.fs:=fun hb=>by
 have:=(ok.funs.mem hb).1
 rw[e] at this;cases this
theorem Inv.bs (I:Inv X pins σ H s):∀b o,X.base.get? b=some o→s.heap.get? b=some o∧H b=none:=fun b o e=>
 ⟨I.base.keep b o (I.ok.bs b o e).1 (I.ok.bs b o e).2 (I.ok.nofr e) (I.ok.noex b o e),I.base.free b o (I.ok.bs b o e).1 (I.ok.bs b o e).2 (I.ok.noex b o e)⟩
theorem Inv.bk (I:Inv X pins σ H s):∀b o,X.base.get? b=some o→s.heap.get? b=some o:=fun b o e=>(I.bs b o e).1
theorem Inv.mod (I:Inv X pins σ H s):Mod X.K X.mg X.base:=I.ok.mod
theorem Inv.kIn (I:Inv X pins σ H s):X.K.In s.heap:=I.ok.mod.kin.keeps I.bk
theorem Inv.lt (I:Inv X pins σ H s):X.env.locals < s.heap.objs.size:=let ⟨_,hn,_⟩:=I.loc;hn.lt
theorem Inv.sz (I:Inv X pins σ H s):X.s₀.heap.objs.size≤s.heap.objs.size:=Nat.le_trans I.ok.above (Nat.le_of_lt I.lt)
theorem Inv.nofs (I:Inv X pins σ H s) {a:Addr} (h:s.heap.objs.size≤a):a∉X.fs:=fun hb=>by
 obtain⟨_,o,ho,_⟩:=I.ok.funs.mem hb
 exact absurd (Nat.lt_of_lt_of_le (Heap.lt_size ho) (Nat.le_trans I.sz h)) (Nat.lt_irrefl _)
theorem Inv.cne (I:Inv X pins σ H s):∀x c,X.env.cells.lookup x=some c→c≠X.env.locals:=fun x c e z=>by
 obtain⟨v,o,ho,hd⟩:=I.cell x c e
 obtain⟨m,⟨o',es,ep,ho',hd',_⟩,_⟩:=I.loc
 rw[z,ho'] at ho;cases ho;rw[hd'] at hd;cases hd
theorem Inv.funs (I:Inv X pins σ H s):s.heap.FunFrames X.base X.outer:=by
 have all:∀(l:List Env),(∀b∈frs l,b∈X.fs)→X.s₀.heap.FunFrames X.base l→s.heap.FunFrames X.base l:=by
  intro l
  induction l with
  |nil=>intro _ _;trivial
  |cons env r ih=>
   intro hs hl
   obtain⟨hk,⟨L,o,hf,hn,ho,hd⟩,hr⟩:=hl
   have hL:L∈X.fs:=hs L (by unfold frs;rw[List.filterMap_cons,hf];exact List.mem_cons_self)
   obtain⟨sl,e⟩:=I.base.slot L o ho (I.ok.frf L hL) hL fun z=>I.ok.exfs L z hL
   exact⟨hk,⟨L,_,hf,hn,e,hd⟩,ih (fun b hb=>hs b (by unfold frs;rw[List.filterMap_cons,hf];exact List.mem_cons_of_mem _ hb)) hr⟩
 exact all X.outer (fun _ hb=>hb) I.ok.funs
theorem Inv.stack (I:Inv X pins σ H s):s.heap.FunFrames X.base X.stack:=by
 rcases I.ok.stk with e|⟨e,hf⟩
 ·rw[e];exact I.funs
 ·rw[e]
  obtain⟨m,hn,_⟩:=I.loc
  refine .cons (by rw[I.ok.kind];decide) hf hn ?_ I.funs
  exact Heap.get?_none_of_le (Nat.le_trans I.ok.bsz I.ok.above)
theorem Inv.stkSub (I:Inv X pins σ H s):∀b∈frs X.stack,b∈X.env.locals::X.fs:=fun b hb=>by
 rcases I.ok.stk with e|⟨e,hf⟩
 ·rw[e] at hb;exact List.mem_cons_of_mem _ hb
 ·rw[e] at hb
  unfold frs at hb
  rw[List.filterMap_cons,hf] at hb
  exact hb
theorem Inv.stkFree (I:Inv X pins σ H s):∀b∈frs X.stack,H b=none:=fun b hb=>by
 rcases List.mem_cons.mp (I.stkSub b hb) with e|hb
 ·rw[e];exact I.free
 ·obtain⟨_,o,ho,_⟩:=I.ok.funs.mem hb
  exact I.base.free b o ho (I.ok.frf b hb) fun z=>I.ok.exfs b z hb
theorem Inv.step {g':Array GenState} {t':Nat} {d':Drawn} {ch:List Addr} (I:Inv X pins σ H s)
  (hch:∀b∈ch,(b∈X.ex∨X.s₀.heap.objs.size≤b)∧b≠X.env.locals∧(∀x c,X.env.cells.lookup x=some c→c≠b)∧∀p∈X.pn++pins,p.1≠b)
  (keep:∀b o,b≠X.env.locals→b∉X.fs→b∉ch→s.heap.get? b=some o→H b=none→h'.get? b=some o)
  (slot:∀b o,b≠X.env.locals→b∈X.fs→b∉ch→s.heap.get? b=some o→H b=none→∃sl,h'.get? b=some {o with slots:=sl}) (free:∀b o,b∉ch→s.heap.get? b=some o→H b=none→H' b=none)
  (there:∀b o,b∉ch→s.heap.get? b=some o→∃o',h'.get? b=some o')
  (tups:∀b xs,H b=some (.tup xs)→H' b=some (.tup xs)) (frzs:∀b o u,H b=some (.frz o u)→H' b=some (.frz o u)) (tbls:∀b ps,H b=some (.tbl ps)→∃more,H' b=some (.tbl (ps++more)))
  (ns:∀m,s.heap.Ns X.env.locals m→h'.Ns X.env.locals m) (hok:HOk X.prog X.w H' h') (hg:AllBare g'):
  Inv X pins σ H' {s with heap:=h',gens:=g',drawn:=d',toks:=t'}:=by
 have neL:∀b o,X.s₀.heap.get? b=some o→b≠X.env.locals:=fun b o e=>Nat.ne_of_lt (Nat.lt_of_lt_of_le (Heap.lt_size e) I.ok.above)
 have neC:∀b o,X.s₀.heap.get? b=some o→b∉X.ex→b∉ch:=fun b o e hx hb=>by
  rcases (hch b hb).1 with z|z
  ·exact hx z
  ·exact absurd (Nat.lt_of_lt_of_le (Heap.lt_size e) z) (Nat.lt_irrefl _)
 have cellK:∀x c,X.env.cells.lookup x=some c→∀v,s.heap.IsCell c v→h'.IsCell c v:=fun x c e v ⟨o,ho,hd⟩=>by
  have nch:c∉ch:=fun z=>(hch c z).2.2.1 x c e rfl
  by_cases hc:c∈X.fs
  ·obtain⟨sl,q⟩:=slot c o (I.cne x c e) hc nch ho (I.freeC x c e)
   exact⟨_,q,hd⟩
  ·exact⟨o,keep c o (I.cne x c e) hc nch ho (I.freeC x c e),hd⟩
 refine⟨I.ok,I.os,hg,⟨fun b o e n hb hx=>?_,fun b o e n hb hx=>?_,fun b o e n hx=>?_,fun b o e hx=>?_,fun b xs e=>tups b xs (I.base.tups b xs e),fun b o xs e=>frzs b o xs (I.base.frzs b o xs e),fun b ps e=>?_⟩,?_,fun x c e=>?_,?_,fun x c e=>?_,fun p hp=>?_,hok,I.len⟩
 ·exact keep b o (neL b o e) hb (neC b o e hx) (I.base.keep b o e n hb hx) (I.base.free b o e n hx)
 ·obtain⟨sl,e1⟩:=I.base.slot b o e n hb hx
  obtain⟨sl',e2⟩:=slot b _ (neL b o e) hb (neC b o e hx) e1 (I.base.free b o e n hx)
  exact⟨sl',e2⟩
 ·obtain⟨o',e1⟩:=I.base.there b o e hx
  exact free b o' (neC b o e hx) e1 (I.base.free b o e n hx)
 ·obtain⟨o',e1⟩:=I.base.there b o e hx
  exact there b o' (neC b o e hx) e1
 ·obtain⟨m1,e1⟩:=I.base.tbls b ps e
  obtain⟨m2,e2⟩:=tbls b _ e1
  exact⟨m1++m2,by rw[e2,Array.append_assoc]⟩
 ·obtain⟨m,hn,hl⟩:=I.loc
  refine⟨m,ns m hn,fun i x v e1 e2 e3=>?_⟩
  obtain⟨u,r,l⟩:=hl i x v e1 e2 e3
  refine⟨u,r,?_⟩
  rcases l with l|⟨k,c,e,z⟩
  ·exact .inl l
  ·exact .inr ⟨k,c,e,cellK x c e _ z⟩
 ·obtain⟨v,z⟩:=I.cell x c e
  exact⟨v,cellK x c e v z⟩
 ·obtain⟨m,⟨o,_,_,ho,_⟩,_⟩:=I.loc
  exact free _ o (fun z=>(hch _ z).2.1 rfl) ho I.free
 ·obtain⟨v,o,ho,hd⟩:=I.cell x c e
  exact free c o (fun z=>(hch c z).2.2.1 x c e rfl) ho (I.freeC x c e)
 ·obtain⟨e,n,ne,nf,d⟩:=I.pin p hp
  have nch:p.1∉ch:=fun z=>(hch p.1 z).2.2.2 p hp rfl
  exact⟨keep p.1 p.2 ne nf nch e n,free p.1 p.2 nch e n,ne,nf,d⟩
theorem Inv.un {t':Nat} (I:Inv X pins σ H s) (u:Un X.fs [] H H' s.heap h') (hok:HOk X.prog X.w H' h'):Inv X pins σ H' {s with heap:=h',toks:=t'}:=by
 obtain⟨m,⟨o,es,ep,ho,r⟩,_⟩:=id I.loc
 obtain⟨sl,hL⟩:=u.any ho I.free (by simp)
 exact I.step (g':=s.gens) (d':=s.drawn) (ch:=[]) (fun _ z=>nomatch z) (fun b o _ hb _ e n=>u.keep b o e n hb (by simp)) (fun b o _ hb _ e n=>u.slot b o e n hb (by simp)) (fun b o _ e n=>u.free b o e n (by simp)) (fun b o _ e=>u.there b o e (by simp)) u.tups u.frzs u.tbls (fun m' hm=>by
  obtain⟨o',es',ep',ho',r'⟩:=hm
  rw[ho] at ho';cases ho'
  exact⟨_,es',ep',hL,r'⟩) hok I.bare
theorem Inv.call {g':Array GenState} {t':Nat} {d':Drawn} {ch:List Addr} (I:Inv X pins σ H s) (u:Un (frs X.stack) ch H H' s.heap h') (hok:HOk X.prog X.w H' h') (hg:AllBare g')
  (hch:∀b∈ch,(b∈X.ex∨X.s₀.heap.objs.size≤b)∧b≠X.env.locals∧(∀x c,X.env.cells.lookup x=some c→c≠b)∧∀p∈X.pn++pins,p.1≠b):
  Inv X pins σ H' {s with heap:=h',gens:=g',drawn:=d',toks:=t'}:=by
 obtain⟨m,⟨o,es,ep,ho,r⟩,_⟩:=id I.loc
 obtain⟨sl,hL⟩:=u.any ho I.free fun z=>(hch _ z).2.1 rfl
 exact I.step (ch:=ch) hch (fun b o hL hb hc e n=>u.keep b o e n (fun z=>(List.mem_cons.mp (I.stkSub b z)).elim hL hb) hc) (fun b o _ _ hc e n=>u.any e n hc) (fun b o hc e n=>u.free b o e n hc) (fun b o hc e=>u.there b o e hc) u.tups u.frzs u.tbls (fun m' hm=>by
  obtain⟨o',es',ep',ho',r'⟩:=hm
  rw[ho] at ho';cases ho'
  exact⟨_,es',ep',hL,r'⟩) hok hg
theorem Inv.turned {t':Nat} {it:Addr} (I:Inv X pins σ H s) (k:∀b o,b≠it→s.heap.get? b=some o→h'.get? b=some o) (hn:H it=none) (hL:it≠X.env.locals)
  (h1:it∈X.ex∨X.s₀.heap.objs.size≤it) (h2:∀x c,X.env.cells.lookup x=some c→c≠it) (h3:∀p∈X.pn++pins,p.1≠it):Inv X pins σ H {s with heap:=h',toks:=t'}:=by
 have nit:∀b u,H b=some u→b≠it:=fun b u e z=>by rw[z,hn] at e;cases e
 refine I.step (g':=s.gens) (d':=s.drawn) (ch:=[it]) (fun b hb=>?_) (fun b o _ _ hc e _=>k b o (fun z=>hc (by simp[z])) e) (fun b o _ _ hc e _=>⟨o.slots,k b o (fun z=>hc (by simp[z])) e⟩) (fun _ _ _ _ n=>n)
  (fun b o hc e=>⟨o,k b o (fun z=>hc (by simp[z])) e⟩) (fun _ _ e=>e) (fun _ _ _ e=>e) (fun b ps e=>⟨#[],by rw[e];simp⟩) (fun m hm=>?_) (fun b u e=>?_) I.bare
 ·have e:b=it:=by simpa using hb
  subst e
  exact⟨h1,hL,h2,h3⟩
 ·obtain⟨o,es,ep,ho,r⟩:=hm
  exact⟨o,es,ep,k _ o (Ne.symm hL) ho,r⟩
 ·refine (I.hok b u e).stay (fun c v hc q=>k c v ?_ q) (fun _ q=>q) fun _ _ q=>q
  rcases hc with z|z
  ·rw[z];exact nit b u e
  ·exact nit c _ z
theorem Inv.tok (I:Inv X pins σ H s) (t:Nat):Inv X pins σ H {s with toks:=t}:=I.un (h':=s.heap) (t':=t) Un.refl I.hok
theorem Inv.kept {t':Nat} (I:Inv X pins σ H s) (k:∀b u,s.heap.get? b=some u→h'.get? b=some u):Inv X pins σ H {s with heap:=h',toks:=t'}:=I.un (Un.kept k) (I.hok.kept k)
theorem Inv.laid {a:Addr} {o:HO} {t':Nat} (I:Inv X pins σ H s) (k:∀b u,s.heap.get? b=some u→h'.get? b=some u) (hp:s.heap.objs.size≤a) (new:ObjOk X.prog X.w (upd H a o) h' a o):
 Inv X pins σ (upd H a o) {s with heap:=h',toks:=t'}:=I.un (Un.laid k hp (I.hok.fresh hp)) (I.hok.laid k hp new)
theorem Inv.write {x e:Addr} {o:HO} {t':Nat} (I:Inv X pins σ H s) (mu:Mut (H x)) (he:e=x∨H e=some (.own x)) (k:∀b u,b≠e→s.heap.get? b=some u→h'.get? b=some u) (heo:∃u,h'.get? e=some u)
 (new:ObjOk X.prog X.w (upd H x o) h' x o):Inv X pins σ (upd H x o) {s with heap:=h',toks:=t'}:=I.un (Un.write mu he k heo) (I.hok.write mu he k heo new)
theorem Inv.pins_of {pins':List (Addr×Obj)} (I:Inv X pins σ H s) (h:∀p∈pins',s.heap.get? p.1=some p.2∧H p.1=none∧p.1≠X.env.locals∧p.1∉X.fs∧∀v,p.2.data≠.cell v):Inv X pins' σ H s:=
 ⟨I.ok,I.os,I.bare,I.base,I.loc,I.cell,I.free,I.freeC,fun p hp=>(List.mem_append.mp hp).elim (fun z=>I.pin p (List.mem_append_left _ z)) (h p),I.hok,I.len⟩
theorem ad2 {N:List Str} (hN:N.Nodup) {i j:Nat} {x:Str} (a:N[i]?=some x) (b:N[j]?=some x):i=j:=by
 obtain⟨h1,e1⟩:=List.getElem?_eq_some_iff.mp a
 obtain⟨h2,e2⟩:=List.getElem?_eq_some_iff.mp b
 exact (List.getElem_inj hN).mp (e1.trans e2.symm)
theorem aeh {M:Model} {A:Around} {E:Value→Shared→Prop} {i:Nat} {x:Str} {v:V} {u:Value} {Q:Unit→Shared→Prop} (I:Inv X pins σ H s) (hN:X.N.Nodup) (hi:X.N[i]?=some x) (hx:Loc X.env.scope x) (r:RelV v u)
  (h:∀s',Inv X pins (σ.set i (some v)) H s'→(∃a,Heap.SameBut a s.heap s'.heap∧(a=X.env.locals∨X.env.cells.lookup x=some a))→Q () s') (hf:X.fn x=true∨X.env.scope.names.lookup x=some .local:=by first|exact .inl rfl|exact .inr rfl|assumption):wpAny M A (storeName X.env x u) Q E s:=by
 obtain⟨m,hn,hl⟩:=id I.loc
 have hcls:(X.env.scope.kind == .class || (X.env.scope.kind == .module&&X.env.locals != X.env.globals))=false:=by rw[I.ok.kind];rfl
 have hiσ:i < σ.length:=by rw[I.len];exact (List.getElem?_eq_some_iff.mp hi).1
 have cne:=I.cne
 have tracked:∀{a:Addr} {h':Heap},(∃o,s.heap.get? a=some o∧H a=none)→Heap.SameBut a s.heap h'→HOk X.prog X.w H h':=fun {a h'} ha hs b ob e=>by
  obtain⟨_,_,hfree⟩:=ha
  refine (I.hok b ob e).stay (fun c w' hc q=>(hs.2 c ?_).trans q) (fun _ q=>q) fun _ _ q=>q
  rintro rfl
  rcases hc with rfl|hc
  ·rw[hfree] at e;cases e
  ·rw[hfree] at hc;cases hc
 rcases hx with hk|hk
 ·refine wpAny_storeName_local hk hn (fun h' hn' hs=>?_) hcls
  obtain⟨oL,_,_,hoL,_⟩:=id hn
  refine h _ ⟨I.ok,I.os,I.bare,⟨fun b o e n hb hx=>?_,fun b o e n hb hx=>?_,I.base.free,fun b o e hx=>?_,I.base.tups,I.base.frzs,I.base.tbls⟩,⟨_,hn',fun j y v' e1 e2 e3=>?_⟩,fun y c e=>?_,I.free,I.freeC,fun p hp=>?_,tracked ⟨oL,hoL,I.free⟩ hs,by simpa using I.len⟩ ⟨_,hs,.inl rfl⟩
  ·exact (hs.2 b (Nat.ne_of_lt (Nat.lt_of_lt_of_le (Heap.lt_size e) I.ok.above))).trans (I.base.keep b o e n hb hx)
  ·obtain⟨sl,e1⟩:=I.base.slot b o e n hb hx
   exact⟨sl,(hs.2 b (Nat.ne_of_lt (Nat.lt_of_lt_of_le (Heap.lt_size e) I.ok.above))).trans e1⟩
  ·obtain⟨o',e1⟩:=I.base.there b o e hx
   exact⟨o',(hs.2 b (Nat.ne_of_lt (Nat.lt_of_lt_of_le (Heap.lt_size e) I.ok.above))).trans e1⟩
  ·by_cases hj:j=i
   ·subst hj
    rw[hi] at e1;cases e1
    rw[List.getElem?_set_self hiσ] at e2
    cases e2
    exact⟨u,r,.inl ⟨hk,by simp⟩⟩
   ·rw[List.getElem?_set_ne (Ne.symm hj)] at e2
    obtain⟨u',r',q⟩:=hl j y v' e1 e2 e3
    refine⟨u',r',?_⟩
    rcases q with ⟨k,e⟩|⟨k,c,e,z⟩
    ·refine .inl ⟨k,?_⟩
     have:y≠x:=fun e=>hj (ad2 hN e1 (e ▸ hi))
     simp[this,e]
    ·exact .inr ⟨k,c,e,z.sameBut hs (cne y c e)⟩
  ·obtain⟨w',z⟩:=I.cell y c e
   exact⟨w',z.sameBut hs (cne y c e)⟩
  ·obtain⟨e,n,ne,nf,d⟩:=I.pin p hp
   exact⟨(hs.2 p.1 ne).trans e,n,ne,nf,d⟩
 ·have hfn:X.fn x=true:=by
   rcases hf with z|z
   ·exact z
   ·rw[z] at hk;cases hk
  obtain⟨c,hc⟩:=I.ok.has x (.inl hk)
  obtain⟨w',z⟩:=I.cell x c hc
  refine wpAny_storeName_cell I.ok.kind hk hc z (fun h' hc' hs=>?_)
  obtain⟨oc,hoc,hocd⟩:=id z
  refine h {s with heap:=h'} ⟨I.ok,I.os,I.bare,⟨fun b o e n hb hx=>?_,fun b o e n hb hx=>?_,I.base.free,fun b o e hx=>?_,I.base.tups,I.base.frzs,I.base.tbls⟩,⟨m,hn.sameBut hs (Ne.symm (cne x c hc)),fun j y v' e1 e2 e3=>?_⟩,fun y c' e=>?_,I.free,I.freeC,fun p hp=>?_,tracked ⟨oc,hoc,I.freeC x c hc⟩ hs,by simpa using I.len⟩ ⟨c,hs,.inr hc⟩
  ·exact (hs.2 b (Nat.ne_of_lt (Nat.lt_of_lt_of_le (Heap.lt_size e) (I.ok.cab x c hfn hc)))).trans (I.base.keep b o e n hb hx)
  ·obtain⟨sl,e1⟩:=I.base.slot b o e n hb hx
   exact⟨sl,(hs.2 b (Nat.ne_of_lt (Nat.lt_of_lt_of_le (Heap.lt_size e) (I.ok.cab x c hfn hc)))).trans e1⟩
  ·obtain⟨o',e1⟩:=I.base.there b o e hx
   exact⟨o',(hs.2 b (Nat.ne_of_lt (Nat.lt_of_lt_of_le (Heap.lt_size e) (I.ok.cab x c hfn hc)))).trans e1⟩
  ·by_cases hj:j=i
   ·subst hj
    rw[hi] at e1;cases e1
    rw[List.getElem?_set_self hiσ] at e2
    cases e2
    exact⟨u,r,.inr ⟨.inl hk,c,hc,hc'⟩⟩
   ·rw[List.getElem?_set_ne (Ne.symm hj)] at e2
    obtain⟨u',r',q⟩:=hl j y v' e1 e2 e3
    refine⟨u',r',?_⟩
    rcases q with q|⟨k,c',e,z'⟩
    ·exact .inl q
    ·refine .inr ⟨k,c',e,z'.sameBut hs ?_⟩
     rintro rfl
     exact hj (ad2 hN e1 (I.ok.inj _ _ _ e hc ▸ hi))
  ·by_cases hcc:c'=c
   ·subst hcc;exact⟨_,hc'⟩
   ·obtain⟨w2,z2⟩:=I.cell y c' e
    exact⟨w2,z2.sameBut hs hcc⟩
  ·obtain⟨e,n,ne,nf,d⟩:=I.pin p hp
   refine⟨(hs.2 p.1 ?_).trans e,n,ne,nf,d⟩
   intro q
   rw[q,hoc] at e
   have q':oc=p.2:=Option.some.inj e
   exact d w' (by rw[←q'];exact hocd)
theorem ad3 {M:Model} {A:Around} {E:Value→Shared→Prop} {i:Nat} {x:Str} {v:V} {u:Value} {Q:Unit→Shared→Prop} (I:Inv X pins σ H s) (hN:X.N.Nodup) (hi:X.N[i]?=some x) (hx:Loc X.env.scope x) (r:RelV v u)
  (h:∀s',Inv X pins (σ.set i (some v)) H s'→Q () s') (hf:X.fn x=true∨X.env.scope.names.lookup x=some .local:=by first|exact .inl rfl|exact .inr rfl|assumption):wpAny M A (storeName X.env x u) Q E s:=
 aeh I hN hi hx r (fun s' I' _=>h s' I') hf
theorem Inv.call' {s':Shared} {ch:List Addr} (I:Inv X pins σ H s) (ho:s'.os=s.os) (u:Un (frs X.stack) ch H H' s.heap s'.heap) (hok:HOk X.prog X.w H' s'.heap) (hg:AllBare s'.gens)
  (hch:∀b∈ch,(b∈X.ex∨X.s₀.heap.objs.size≤b)∧b≠X.env.locals∧(∀x c,X.env.cells.lookup x=some c→c≠b)∧∀p∈X.pn++pins,p.1≠b):Inv X pins σ H' s':=by
 obtain⟨h',g',d',t',o'⟩:=s'
 have e:o'=s.os:=ho
 subst e
 exact I.call (g':=g') (t':=t') (d':=d') u hok hg hch
end
noncomputable abbrev XK:=Value→Option Addr→Hp→Prop
noncomputable abbrev St:=List (Option V)
noncomputable abbrev VK:=V→Hp→Prop
noncomputable abbrev TE:=St→Hp→VK→Prop
noncomputable abbrev TT:=St→Hp→(Bool→Hp→Prop)→Prop
noncomputable abbrev TA:=St→Hp→(List V→Hp→Prop)→Prop
structure Ends where
 nx:St→Hp→Prop
 rt:VK
 bk:St→Hp→Prop:=fun _ _=>False
 ct:St→Hp→Prop:=fun _ _=>False
noncomputable abbrev TS:=Ends→St→Hp→Prop
noncomputable def EP (X:Cx) (pins:List (Addr×Obj)) (σ:St) (Q:VK) (u:Value) (s':Shared):Prop:=∃v H',Inv X pins σ H' s'∧RelV v u∧Q v H'
noncomputable def TP (X:Cx) (pins:List (Addr×Obj)) (σ:St) (Q:Bool→Hp→Prop) (b:Bool) (s':Shared):Prop:=∃H',Inv X pins σ H' s'∧Q b H'
noncomputable def AP (X:Cx) (pins:List (Addr×Obj)) (σ:St) (Q:List V→Hp→Prop) (us:List Value) (s':Shared):Prop:=∃vs H',Inv X pins σ H' s'∧Vals vs us∧Q vs H'
noncomputable def SP (X:Cx) (pins:List (Addr×Obj)) (D:Ends) (f:Flow) (s':Shared):Prop:=
 match f with
 |.next=>∃σ' H',Inv X pins σ' H' s'∧D.nx σ' H'
 |.brk=>∃σ' H',Inv X pins σ' H' s'∧D.bk σ' H'
 |.cont=>∃σ' H',Inv X pins σ' H' s'∧D.ct σ' H'
 |.ret u=>∃v σ' H',Inv X pins σ' H' s'∧RelV v u∧D.rt v H'
noncomputable def PE (X:Cx) (e:Expr) (t:TE):Prop:=
 ∀(pins:List (Addr×Obj)) (s:Shared) (σ:St) (H:Hp) (Q:VK),Inv X pins σ H s→t σ H Q→wpAny (model X.prog X.w) X.A (eval e X.env) (EP X pins σ Q) X.xe s
noncomputable def PT (X:Cx) (e:Expr) (t:TT):Prop:=
 ∀(pins:List (Addr×Obj)) (s:Shared) (σ:St) (H:Hp) (Q:Bool→Hp→Prop),Inv X pins σ H s→t σ H Q→wpAny (model X.prog X.w) X.A (isTrue e X.env (eval e X.env)) (TP X pins σ Q) X.xe s
noncomputable def PW (X:Cx) (e:Expr) (t:TT):Prop:=
 ∀(whole:Sem Value) (pins:List (Addr×Obj)) (s:Shared) (σ:St) (H:Hp) (Q:Bool→Hp→Prop),Inv X pins σ H s→t σ H Q→wpAny (model X.prog X.w) X.A (isTrue e X.env whole) (TP X pins σ Q) X.xe s
theorem PW.pt {X:Cx} {e:Expr} {t:TT} (h:PW X e t):PT X e t:=h _
noncomputable def PA (X:Cx) (es:List Expr) (t:TA):Prop:=
 ∀(pos:Pos) (pins:List (Addr×Obj)) (s:Shared) (σ:St) (H:Hp) (Q:List V→Hp→Prop),Inv X pins σ H s→t σ H Q→wpAny (model X.prog X.w) X.A (spliced (backTo pos (starEach es X.env))) (AP X pins σ Q) X.xe s
noncomputable def PS (X:Cx) (st:Stmt) (t:TS):Prop:=
 ∀(pins:List (Addr×Obj)) (s:Shared) (σ:St) (H:Hp) (D:Ends),Inv X pins σ H s→t D σ H→wpAny (model X.prog X.w) X.A (exec st X.env) (SP X pins D) X.xe s
noncomputable def PSs (X:Cx) (st:List Stmt) (t:TS):Prop:=
 ∀(pins:List (Addr×Obj)) (s:Shared) (σ:St) (H:Hp) (D:Ends),Inv X pins σ H s→t D σ H→wpAny (model X.prog X.w) X.A (execs st X.env) (SP X pins D) X.xe s
theorem thn {α:Type} {t:Sem α} {Q Q':α→Shared→Prop} {M:Model} {A:Around} {E:Value→Shared→Prop} {s:Shared} (h:wpAny M A t Q E s) (hQ:∀a s,Q a s→Q' a s):wpAny M A t Q' E s:=wpAny_mono h hQ fun _ _ x=>x
end L2
namespace L2
open PySem PySem.Spec PyProof.Rows
section
variable {X:Cx}
noncomputable def tVar (i:Nat):TE:=fun σ H Q=>∃v,σ[i]?=some (some v)∧Q v H
noncomputable def tC (v:V):TE:=fun _ H Q=>Q v H
theorem pe_var {i:Nat} {x:Str} {pos:Pos} (hN:X.N[i]?=some x) (hv:Vis X.env.scope x) (hd:(x == ("__debug__":Str))=false:=by decide) (hcd:(x == ("__classdict__":Str))=false:=by decide):PE X (.Name x pos) (tVar i):=by
 intro pins s σ H Q I h
 obtain⟨v,e,h⟩:=h
 obtain⟨m,hn,hl⟩:=I.loc
 obtain⟨u,r,l⟩:=hl i x v hN e hv
 have fin:EP X pins σ Q u s:=⟨v,H,I,r,h⟩
 rcases l with ⟨hk,hm⟩|⟨hk,c,hc,hcell⟩
 ·exact wpAny_Name (wpAny_loadName_local I.ok.kind hk hn hm fin) hd
 ·rcases hk with hk|hk
  ·exact wpAny_Name (wpAny_loadName_cell I.ok.kind hk hc hcell fin) hd
  ·exact wpAny_Name (wpAny_loadName_free I.ok.kind hk hc hcell fin hcd) hd
theorem aae {i j pos}:PE X (.Constant (.int i) j pos) (tC (.int i)):=fun _ _ _ H _ I h=>wpAny_Constant_int ⟨.int i,H,I.tok _,⟨_,rfl⟩,h⟩
theorem ad4 {b j pos}:PE X (.Constant (.bool b) j pos) (tC (.bl b)):=fun _ _ _ H _ I h=>Constant_bool ⟨.bl b,H,I,rfl,h⟩
theorem aac {x j pos}:PE X (.Constant (.str x) j pos) (tC (.str x)):=fun _ _ _ H _ I h=>Calls.Constant_str ⟨.str x,H,I.tok _,⟨_,rfl⟩,h⟩
noncomputable def Gl (X:Cx) (x:Str):Prop:=X.env.kindOf x=some .globalImplicit
theorem ad5 {E:Value→Shared→Prop} {pins:List (Addr×Obj)} {s:Shared} {σ:St} {H:Hp} {x:Str} {u:Value} {pos:Pos} {Q:Value→Shared→Prop} (I:Inv X pins σ H s) (hg:Gl X x) (hm:X.mg x=some u) (h:Q u s)
  (hd:(x == ("__debug__":Str))=false:=by decide):wpAny (model X.prog X.w) X.A (eval (.Name x pos) X.env) Q E s:=
 Calls.Name_function_global I.ok.kind hg (Calls.loadGlobal_global (by rw[I.ok.glob];exact I.mod.glob.keeps I.bk) hm h) hd
theorem aei {E:Value→Shared→Prop} {pins:List (Addr×Obj)} {s:Shared} {σ:St} {H:Hp} {x:Str} {u:Value} {pos:Pos} {Q:Value→Shared→Prop} (I:Inv X pins σ H s) (hg:Gl X x) (hm:X.mg x=none) (hv:bootBuiltins x=some u) (h:Q u s)
  (hn:x≠"__name__":=by decide) (hd:(x == ("__debug__":Str))=false:=by decide):wpAny (model X.prog X.w) X.A (eval (.Name x pos) X.env) Q E s:=by
 obtain⟨mb,h1,h2⟩:=I.mod.blt
 exact Calls.Name_function_global I.ok.kind hg (Calls.loadGlobal_builtin (by rw[I.ok.glob];exact I.mod.glob.keeps I.bk) hm (by rw[I.ok.blt];exact h1.keeps I.bk) ((h2 x hn).trans hv) h) hd
theorem ajq {x:Str} {v:V} {u:Value} {pos:Pos} (hg:Gl X x) (hm:X.mg x=some u) (r:RelV v u) (hd:(x == ("__debug__":Str))=false:=by decide):PE X (.Name x pos) (tC v):=
 fun _ _ _ H _ I h=>ad5 I hg hm ⟨v,H,I,r,h⟩ hd
theorem ajr {x:Str} {v:V} {u:Value} {pos:Pos} (hg:Gl X x) (hm:X.mg x=none) (hv:bootBuiltins x=some u) (r:RelV v u) (hn:x≠"__name__":=by decide) (hd:(x == ("__debug__":Str))=false:=by decide):PE X (.Name x pos) (tC v):=
 fun _ _ _ H _ I h=>aei I hg hm hv ⟨v,H,I,r,h⟩ hn hd
variable {a b:Expr} {ta tb:TE} {pos:Pos}
noncomputable def PC (X:Cx) (op:CmpOp) (a b:Expr) (t:TE):Prop:=
 ∀(pins:List (Addr×Obj)) (s:Shared) (σ:St) (H:Hp) (Q:VK),Inv X pins σ H s→t σ H Q→
  wpAny (model X.prog X.w) X.A (eval a X.env) (fun v s₁=>wpAny (model X.prog X.w) X.A (eval b X.env) (fun u s₂=>wpAny (model X.prog X.w) X.A (compareOp op v u) (EP X pins σ Q) X.xe s₂) X.xe s₁) X.xe s
noncomputable def tB (t:TE):TT:=fun σ H Q=>t σ H fun x H1=>∃c,x=.bl c∧Q c H1
theorem ac3 {e:Expr} {t:TE} (h:PE X e t) (he:∀whole,isTrue e X.env whole=(do let v←whole;standAt e.pos;holding [v] (truthy v)):=by intro _;rfl):PT X e (tB t):=by
 intro pins s σ H Q I hw
 refine isTrue_plain (thn (h pins s σ H _ I hw) fun v s1 ⟨x,H1,I1,r1,q1⟩=>?_) (he _)
 obtain⟨d,rfl,q⟩:=q1
 cases r1
 exact wpAny_truthy_bool ⟨H1,I1,q⟩
variable {tA tB':TT} {rest:List Expr}
noncomputable def tAnd (t u:TT):TT:=fun σ H Q=>t σ H fun c H1=>if c=true then u σ H1 Q else Q false H1
noncomputable def tOr (t u:TT):TT:=fun σ H Q=>t σ H fun c H1=>if c=true then Q true H1 else u σ H1 Q
noncomputable def tNot (t:TT):TT:=fun σ H Q=>t σ H fun c H1=>Q (!c) H1
theorem ace (ha:PT X a tA):PW X (.BoolOp .And [a] pos) tA:=by
 intro wh pins s σ H Q I h
 refine isTrue_and (thn (ha pins s σ H Q I h) fun c s1 e=>?_)
 cases c with
 |true=>exact isTrue_and_nil e
 |false=>exact e
theorem agk (ha:PT X a tA):PW X (.BoolOp .Or [a] pos) tA:=by
 intro wh pins s σ H Q I h
 refine isTrue_or (thn (ha pins s σ H Q I h) fun c s1 e=>?_)
 cases c with
 |false=>exact isTrue_or_nil e
 |true=>exact e
theorem ac4 (ha:PT X a tA) (hb:PW X (.BoolOp .And (b::rest) pos) tB'):PW X (.BoolOp .And (a::b::rest) pos) (tAnd tA tB'):=by
 intro wh pins s σ H Q I h
 refine isTrue_and (thn (ha pins s σ H _ I h) fun c s1 ⟨H1,I1,q1⟩=>?_)
 cases c with
 |true=>exact hb wh pins s1 σ H1 Q I1 q1
 |false=>exact⟨H1,I1,q1⟩
theorem ajs (ha:PT X a tA) (hb:PW X (.BoolOp .Or (b::rest) pos) tB'):PW X (.BoolOp .Or (a::b::rest) pos) (tOr tA tB'):=by
 intro wh pins s σ H Q I h
 refine isTrue_or (thn (ha pins s σ H _ I h) fun c s1 ⟨H1,I1,q1⟩=>?_)
 cases c with
 |true=>exact⟨H1,I1,q1⟩
 |false=>exact hb wh pins s1 σ H1 Q I1 q1
theorem ads (ha:PT X a tA):PT X (.UnaryOp .Not a pos) (tNot tA):=by
 intro pins s σ H Q I h
 exact isTrue_not (ha pins s σ H (fun c H1=>Q (!c) H1) I h)
noncomputable def tAndV (ta tb:TE):TE:=fun σ H Q=>ta σ H fun x H1=>∃c,x=.bl c∧if c=true then tb σ H1 Q else Q (.bl false) H1
theorem pe_one {op} {t:TE} (h:PE X a t):PE X (.BoolOp op [a] pos) t:=fun pins s σ H Q I hw=>BoolOp_one (h pins s σ H Q I hw)
theorem pe_and (ha:PE X a ta) (hb:PE X (.BoolOp .And (b::rest) pos) tb):PE X (.BoolOp .And (a::b::rest) pos) (tAndV ta tb):=by
 intro pins s σ H Q I h
 refine BoolOp_and (thn (ha pins s σ H _ I h) fun v s1 ⟨x,H1,I1,r1,q1⟩=>?_)
 obtain⟨c,rfl,q1⟩:=q1
 cases r1
 refine wpAny_truthy_bool ?_
 cases c with
 |true=>exact hb pins s1 σ H1 Q I1 q1
 |false=>exact⟨.bl false,H1,I1,rfl,q1⟩
end
end L2
namespace L2
open PySem PySem.Spec PyProof.Rows
noncomputable def SqL (K:PySem.W.Frag) (H:Hp) (a:Addr) (xs:List V):Prop:=
 Rd H a (.lst xs)∨
  ∃(o:Obj) (its:Array Value) (n:Nat),K.lookup a=some o∧o.cls=.type "list"∧o.dict=none∧o.data=.seq its n∧its.size≤sizeLine∧Vals xs its.toList
noncomputable def SqT (K:PySem.W.Frag) (H:Hp) (a:Addr) (xs:List V):Prop:=
 Rd H a (.tup xs)∨
  ∃(o:Obj) (its:Array Value) (n:Nat),K.lookup a=some o∧o.cls=.type "tuple"∧o.data=.seq its n∧its.size≤sizeLine∧Vals xs its.toList
noncomputable def absV:Value→Option V
 |.none=>some .non
 |.bool b=>some (.bl b)
 |.int i _=>some (.int i)
 |.str x _=>some (.str x)
 |.bytes b _=>some (.byt b)
 |.float b _=>some (.flt b)
 |.ref a=>some (.ref a)
 |.type n=>some (.ty n)
 |_=>none
theorem RelV.abs {x:V} {u:Value} (r:RelV x u):absV u=some x:=by
 cases x with
 |non=>cases r;rfl
 |bl _=>cases r;rfl
 |int _=>obtain⟨t,rfl⟩:=r;rfl
 |str _=>obtain⟨t,rfl⟩:=r;rfl
 |byt _=>obtain⟨t,rfl⟩:=r;rfl
 |flt _=>obtain⟨t,rfl⟩:=r;rfl
 |ref _=>cases r;rfl
 |ty _=>cases r;rfl
theorem RelV.inj {x y:V} {u:Value} (r:RelV x u) (q:RelV y u):x=y:=Option.some.inj (r.abs.symm.trans q.abs)
theorem Vals.inj:∀{xs ys:List V} {us:List Value},Vals xs us→Vals ys us→xs=ys
 |_,_,_,.nil,.nil=>rfl
 |_,_,_,.cons r t,.cons r' t'=>by rw[r.inj r',Vals.inj t t']
section
variable {X:Cx} {pins:List (Addr×Obj)} {σ:St} {H:Hp} {s:Shared} {a:Addr} {xs ys:List V}
theorem SqL.of {K:PySem.W.Frag} (h:H a=some (.lst xs)):SqL K H a xs:=.inl (.inl h)
theorem SqT.of {K:PySem.W.Frag} (h:H a=some (.tup xs)):SqT K H a xs:=.inl (.inl h)
theorem Inv.list (I:Inv X pins σ H s) (h:SqL X.K H a xs):∃its:List Value,Vals xs its∧PlainL s.heap a its.toArray∧xs.length≤sizeLine:=by
 rcases h with h|⟨o,its,n,hk,hc,hd,hs,hz,r⟩
 ·obtain⟨z,its,n,r,e⟩:=h.ok I.hok
  exact⟨its,r,⟨_,n,e,rfl,rfl,rfl⟩,z⟩
 ·refine⟨its.toList,r,⟨o,n,I.kIn a o hk,hc,hd,by simpa using hs⟩,?_⟩
  have e:=r.length
  simp only[Array.length_toList] at e
  omega
theorem Inv.tuple (I:Inv X pins σ H s) (h:SqT X.K H a xs):∃its:List Value,Vals xs its∧IsTup s.heap a its.toArray∧xs.length≤sizeLine:=by
 rcases h with h|⟨o,its,n,hk,hc,hs,hz,r⟩
 ·obtain⟨z,its,r,p⟩:=h.ok I.hok
  exact⟨its,r,p,z⟩
 ·refine⟨its.toList,r,⟨o,I.kIn a o hk,hc,n,by simpa using hs⟩,?_⟩
  have e:=r.length
  simp only[Array.length_toList] at e
  omega
theorem Inv.list_inj (I:Inv X pins σ H s) (h:SqL X.K H a xs) (h':SqL X.K H a ys):xs=ys:=by
 obtain⟨its,r,⟨o,n,e,_,_,d⟩,_⟩:=I.list h
 obtain⟨its',r',⟨o',n',e',_,_,d'⟩,_⟩:=I.list h'
 rw[e] at e';cases e'
 rw[d] at d'
 injection d' with d1 _
 have:its=its':=by simpa using congrArg Array.toList d1
 subst this
 exact r.inj r'
theorem Inv.tuple_inj (I:Inv X pins σ H s) (h:SqT X.K H a xs) (h':SqT X.K H a ys):xs=ys:=by
 obtain⟨its,r,⟨o,e,_,n,d⟩,_⟩:=I.tuple h
 obtain⟨its',r',⟨o',e',_,n',d'⟩,_⟩:=I.tuple h'
 rw[e] at e';cases e'
 rw[d] at d'
 injection d' with d1 _
 have:its=its':=by simpa using congrArg Array.toList d1
 subst this
 exact r.inj r'
end
noncomputable abbrev Cx.wish (X:Cx) (E:Value→Shared→Prop):Cx:={X with xe:=E}
noncomputable abbrev Cx.nox (X:Cx):Cx:=X.wish fun _ _=>False
theorem Cx.Ok.wish {X:Cx} (ok:X.Ok) (E:Value→Shared→Prop):(X.wish E).Ok:=
 ⟨ok.mod,ok.kind,ok.glob,ok.blt,ok.above,ok.inj,ok.has,ok.cab,ok.hd,ok.frames,ok.stk,ok.exf,ok.bs,ok.bsz,ok.noex,ok.exfs,ok.funs,ok.frf⟩
theorem Cx.Ok.unwish {X:Cx} {E:Value→Shared→Prop} (ok:(X.wish E).Ok):X.Ok:=
 ⟨ok.mod,ok.kind,ok.glob,ok.blt,ok.above,ok.inj,ok.has,ok.cab,ok.hd,ok.frames,ok.stk,ok.exf,ok.bs,ok.bsz,ok.noex,ok.exfs,ok.funs,ok.frf⟩
section
variable {X:Cx} {pins:List (Addr×Obj)} {σ:St} {H:Hp} {s:Shared} {E:Value→Shared→Prop}
theorem Inv.wish (I:Inv X pins σ H s) (E:Value→Shared→Prop):Inv (X.wish E) pins σ H s:=⟨I.ok.wish E,I.os,I.bare,I.base,I.loc,I.cell,I.free,I.freeC,I.pin,I.hok,I.len⟩
theorem Inv.unwish (I:Inv (X.wish E) pins σ H s):Inv X pins σ H s:=⟨I.ok.unwish,I.os,I.bare,I.base,I.loc,I.cell,I.free,I.freeC,I.pin,I.hok,I.len⟩
theorem SP.unwish {D:Ends} {f:Flow} {s':Shared} (h:SP (X.wish E) pins D f s'):SP X pins D f s':=by
 cases f with
 |next=>obtain⟨σ',H',I,q⟩:=h;exact⟨σ',H',I.unwish,q⟩
 |brk=>obtain⟨σ',H',I,q⟩:=h;exact⟨σ',H',I.unwish,q⟩
 |cont=>obtain⟨σ',H',I,q⟩:=h;exact⟨σ',H',I.unwish,q⟩
 |ret u=>obtain⟨v,σ',H',I,r,q⟩:=h;exact⟨v,σ',H',I.unwish,r,q⟩
theorem PE.nox {e:Expr} {t:TE} (h:PE X.nox e t):PE X e t:=fun pins s σ H Q I hw=>
 wpAny_mono (h pins s σ H Q (I.wish _) hw) (fun _ _ ⟨v,H',I',r,q⟩=>⟨v,H',I'.unwish,r,q⟩) fun _ _ z=>False.elim z
theorem PT.nox {e:Expr} {t:TT} (h:PT X.nox e t):PT X e t:=fun pins s σ H Q I hw=>
 wpAny_mono (h pins s σ H Q (I.wish _) hw) (fun _ _ ⟨H',I',q⟩=>⟨H',I'.unwish,q⟩) fun _ _ z=>False.elim z
theorem PSs.nox {st:List Stmt} {t:TS} (h:PSs X.nox st t):PSs X st t:=fun pins s σ H D I hw=>
 wpAny_mono (h pins s σ H D (I.wish _) hw) (fun _ _ q=>q.unwish) fun _ _ z=>False.elim z
end
section
variable {X:Cx} {st:Stmt} {rest:List Stmt} {t u:TS} {e:Expr} {te:TE} {pos:Pos}
noncomputable def tNext:TS:=fun D σ H=>D.nx σ H
noncomputable def tSeq (t u:TS):TS:=fun D σ H=>t {D with nx:=u D} σ H
theorem aam:PSs X [] tNext:=fun _ _ σ H _ I h=>wpAny_execs_nil ⟨σ,H,I,h⟩
theorem aag (h1:PS X st t) (h2:PSs X rest u):PSs X (st::rest) (tSeq t u):=by
 intro pins s σ H D I h
 refine wpAny_execs_cons (thn (h1 pins s σ H {D with nx:=u D} I h) fun f s1 q=>?_)
 cases f with
 |next=>
  obtain⟨σ',H',I',q⟩:=q
  exact h2 pins s1 σ' H' D I' q
 |ret v=>exact q
 |brk=>exact q
 |cont=>exact q
theorem aaf (h1:PS X st t):PSs X [st] t:=by
 intro pins s σ H D I h
 refine wpAny_execs_cons (thn (h1 pins s σ H D I h) fun f s1 q=>?_)
 cases f with
 |next=>exact wpAny_execs_nil q
 |ret v=>exact q
 |brk=>exact q
 |cont=>exact q
theorem Inv.quiet {pins:List (Addr×Obj)} {σ:St} {H:Hp} {s:Shared} (I:Inv X pins σ H s):interactive X.env=false:=by simp[interactive,I.ok.kind]
noncomputable def tDrop (te:TE):TS:=fun D σ H=>te σ H fun _ H1=>D.nx σ H1
theorem agl (he:PE X e te) (hs:swapsWith e none pos.line X.env=pure false:=by rfl):PS X (.Expr e pos) (tDrop te):=by
 intro pins s σ H D I h
 exact wpAny_Expr_any (thn (he pins s σ H _ I h) fun v s1 ⟨x,H1,I1,r1,q1⟩=>⟨σ,H1,I1,q1⟩) I.quiet hs
noncomputable def tRet (te:TE):TS:=fun D σ H=>te σ H D.rt
theorem aak (he:PE X e te):PS X (.Return (some e) pos) (tRet te):=by
 intro pins s σ H D I h
 exact wpAny_Return_some (thn (he pins s σ H _ I h) fun v s1 ⟨x,H1,I1,r1,q1⟩=>⟨x,σ,H1,I1,r1,q1⟩)
noncomputable def tIfS (c:TT) (t u:TS):TS:=fun D σ H=>c σ H fun b H1=>if b=true then t D σ H1 else u D σ H1
theorem abc {c:Expr} {a b:List Stmt} {tc:TT} (hc:PT X c tc) (ha:PSs X a t) (hb:PSs X b u):PS X (.If c a b pos) (tIfS tc t u):=by
 intro pins s σ H D I h
 refine wpAny_If (thn (hc pins s σ H _ I h) fun d s1 ⟨H1,I1,q1⟩=>?_)
 cases d with
 |true=>exact ha pins s1 σ H1 D I1 q1
 |false=>exact hb pins s1 σ H1 D I1 q1
end
noncomputable abbrev TG:=V→St→Hp→(St→Hp→Prop)→Prop
noncomputable abbrev TGs:=List V→St→Hp→(St→Hp→Prop)→Prop
noncomputable def PG (X:Cx) (target:Expr) (t:TG):Prop:=
 ∀(pins:List (Addr×Obj)) (s:Shared) (σ:St) (H:Hp) (v:V) (u:Value) (Q:St→Hp→Prop),Inv X pins σ H s→RelV v u→t v σ H Q→
  wpAny (model X.prog X.w) X.A (assign target X.env u) (fun _ s'=>∃σ' H',Inv X pins σ' H' s'∧Q σ' H') X.xe s
noncomputable def PGs (X:Cx) (ts:List Expr) (t:TGs):Prop:=
 ∀(pins:List (Addr×Obj)) (s:Shared) (σ:St) (H:Hp) (vs:List V) (us:List Value) (Q:St→Hp→Prop),Inv X pins σ H s→Vals vs us→t vs σ H Q→
  wpAny (model X.prog X.w) X.A (assignInOrder ((assignEach ts X.env).map (·.2)) us) (fun _ s'=>∃σ' H',Inv X pins σ' H' s'∧Q σ' H') X.xe s
noncomputable abbrev TSet:=V→V→V→Hp→(Hp→Prop)→Prop
noncomputable def PSet (X:Cx) (t:TSet):Prop:=
 ∀(pins:List (Addr×Obj)) (s:Shared) (σ:St) (H:Hp) (o i v:V) (ov iv u:Value) (Q:Hp→Prop),Inv X pins σ H s→RelV o ov→RelV i iv→RelV v u→t o i v H Q→
  wpAny (model X.prog X.w) X.A (setItem ov iv u) (fun _ s'=>∃H',Inv X pins σ H' s'∧Q H') X.xe s
section
variable {X:Cx} {pos:Pos}
noncomputable def gName (i:Nat):TG:=fun v σ H Q=>Q (σ.set i (some v)) H
theorem abz {i:Nat} {x:Str} (hN:X.N.Nodup) (hi:X.N[i]?=some x) (hx:Loc X.env.scope x) (hf:X.fn x=true∨X.env.scope.names.lookup x=some .local:=by first|exact .inl rfl|exact .inr rfl|assumption):PG X (.Name x pos) (gName i):=by
 intro pins s σ H v u Q I r h
 exact wpAny_assign_Name (ad3 I hN hi hx r (fun s' I'=>⟨_,H,I',h⟩) hf)
noncomputable def gNil:TGs:=fun vs σ H Q=>vs=[]∧Q σ H
noncomputable def gCons (t:TG) (u:TGs):TGs:=fun vs σ H Q=>∃v r,vs=v::r∧t v σ H fun σ' H'=>u r σ' H' Q
theorem ae7:PGs X [] gNil:=by
 intro pins s σ H vs us Q I r h
 obtain⟨e,h⟩:=h
 subst e
 cases r
 exact assignInOrder_nil ⟨σ,H,I,h⟩
theorem acj {e:Expr} {es:List Expr} {t:TG} {u:TGs} (h1:PG X e t) (h2:PGs X es u)
  (hs:(assignEach (e::es) X.env).map (·.2)=assign e X.env::(assignEach es X.env).map (·.2):=by rfl):PGs X (e::es) (gCons t u):=by
 intro pins s σ H vs us Q I r h
 obtain⟨v,vr,e1,h⟩:=h
 subst e1
 cases r with
 |cons r rr=>
  rw[hs]
  refine assignInOrder_cons (thn (h1 pins s σ H _ _ _ I r h) fun _ s1 ⟨σ1,H1,I1,q1⟩=>?_)
  exact h2 pins s1 σ1 H1 _ _ Q I1 rr q1
noncomputable def gTup (K:PySem.W.Frag) (n:Nat) (t:TGs):TG:=fun v σ H Q=>∃a xs,v=.ref a∧SqT K H a xs∧xs.length=n∧t xs σ H Q
theorem ajc {es:List Expr} {k:Nat} {t:TGs} {n:Nat} (hc:X.calm=true) (h:PGs X es t)
  (hn:(assignEach es X.env).length=n:=by rfl) (hst:(assignEach es X.env).findIdx? (·.1)=none:=by rfl):PG X (.Tuple es k pos) (gTup X.K n t):=by
 intro pins s σ H v u Q I r hw
 obtain⟨a,xs,e1,hq,hl,hw⟩:=hw
 subst e1
 cases r
 obtain⟨its,rv,ht,hz⟩:=I.tuple hq
 refine assign_Tuple_tuple (I.ok.hd hc) ht (by simp[hn,←hl,rv.length]) hst fun h' hx=>?_
 have I1:Inv X pins σ H {s with heap:=h'}:=I.kept (t':=s.toks) fun b o e=>hx b o (Nat.ne_of_lt (Heap.lt_size e)) e
 exact h pins _ σ H xs _ Q I1 (by simpa using rv) hw
noncomputable def gSub (to ti:TE) (t:TSet):TG:=fun v σ H Q=>to σ H fun o H1=>ti σ H1 fun i H2=>t o i v H2 fun H3=>Q σ H3
theorem ajd {o i:Expr} {to ti:TE} {t:TSet} (ho:PE X o to) (hi:PE X i ti) (hs:PSet X t)
  (ha:∀v,assign (.Subscript o i pos) X.env v=(do
   let ov←holding [v] (eval o X.env)
   let iv←holding [v,ov] (eval i X.env)
   standAt pos
   holding [v,ov,iv] (setItem ov iv v)
   release [v,ov,iv] []):=by intro _;rfl):PG X (.Subscript o i pos) (gSub to ti t):=by
 intro pins s σ H v u Q I r h
 rw[ha]
 refine wpAny_bind (wpAny_holding (thn (ho pins s σ H _ I h) fun ov s1 ⟨x,H1,I1,r1,q1⟩=>?_))
 refine wpAny_bind (wpAny_holding (thn (hi pins s1 σ H1 _ I1 q1) fun iv s2 ⟨y,H2,I2,r2,q2⟩=>?_))
 refine wpAny_bind (wpAny_standAt (wpAny_bind (wpAny_holding (thn (hs pins s2 σ H2 x y v ov iv u _ I2 r1 r2 r q2) fun _ s3 ⟨H3,I3,q3⟩=>?_))))
 exact wpAny_release ⟨σ,H3,I3,q3⟩
noncomputable def tAsg (te:TE) (g:TG):TS:=fun D σ H=>te σ H fun x H1=>g x σ H1 D.nx
theorem agm {tg e:Expr} {te:TE} {g:TG} (he:PE X e te) (hg:PG X tg g) (hs:swapsWithSole [tg] e pos.line X.env=pure false:=by rfl) (hw:swappedStores [tg] e X.env=pure none:=by rfl)
  (h1:(assignEach [tg] X.env).map (·.2)=[assign tg X.env]:=by rfl):PS X (.Assign [tg] e pos) (tAsg te g):=by
 intro pins s σ H D I h
 refine wpAny_Assign_stores (thn (he pins s σ H _ I h) fun v s1 ⟨x,H1,I1,r1,q1⟩=>?_) hs hw
 rw[h1]
 exact thn (hg pins s1 σ H1 x v _ I1 r1 q1) fun _ s2 q=>q
theorem aa0 {i:Nat} {x:Str} {e:Expr} {te:TE} {pos':Pos} (hN:X.N.Nodup) (hi:X.N[i]?=some x) (hx:Loc X.env.scope x) (he:PE X e te) (hs:swapsWith e (some (.Name x pos')) pos.line X.env=pure false:=by rfl) (hf:X.fn x=true∨X.env.scope.names.lookup x=some .local:=by first|exact .inl rfl|exact .inr rfl|assumption):
  PS X (.Assign [.Name x pos'] e pos) (tAsg te (gName i)):=by
 intro pins s σ H D I h
 refine wpAny_Assign_Name (thn (he pins s σ H _ I h) fun v s1 ⟨y,H1,I1,r1,q1⟩=>?_) hs
 exact ad3 I1 hN hi hx r1 (fun s2 I2=>⟨_,H1,I2,q1⟩) hf
end
section
variable {X:Cx} {pos:Pos}
end
structure It where
 go:Nat→Hp→Prop
 yld:Nat→Hp→V→Hp→Prop
 stop:Nat→Hp→Prop
noncomputable def FpOk (X:Cx) (pins:List (Addr×Obj)) (H:Hp) (b:Addr):Prop:=
 H b=none∧b≠X.env.locals∧b∉X.fs∧(b∈X.ex∨X.s₀.heap.objs.size≤b)∧(∀x c,X.env.cells.lookup x=some c→c≠b)∧∀p∈X.pn++pins,p.1≠b
theorem Inv.fpOk {X:Cx} {pins:List (Addr×Obj)} {σ:St} {H H':Hp} {s:Shared} {b:Addr} (I:Inv X pins σ H s) (hb:s.heap.objs.size≤b) (hn:H' b=none):FpOk X pins H' b:=by
 refine⟨hn,Nat.ne_of_gt (Nat.lt_of_lt_of_le I.lt hb),I.nofs hb,.inr (Nat.le_trans I.sz hb),fun x c e z=>?_,fun p hp z=>?_⟩
 ·obtain⟨v,q⟩:=I.cell x c e
  exact absurd (Nat.lt_of_lt_of_le q.lt (by rw[z];exact hb)) (Nat.lt_irrefl _)
 ·exact absurd (Nat.lt_of_lt_of_le (Heap.lt_size (I.pin p hp).1) (by rw[z];exact hb)) (Nat.lt_irrefl _)
structure Turn (P:Program) (w:World) (K:PySem.W.Frag) (tg:Expr) (J:It) (fp:List Addr) (it:Addr) (tn:Nat→Heap→Prop):Prop where
 mem:it∈fp
 obj:∀i h,tn i h→∀b∈fp,∃o,h.get? b=some o∧∀v,o.data≠.cell v
 keep:∀i h h',tn i h→(∀b∈fp,∀o,h.get? b=some o→h'.get? b=some o)→tn i h'
 item:∀(X:Cx),X.prog=P→X.w=w→X.K=K→X.calm=true→∀(i:Nat) (pins:List (Addr×Obj)) (s:Shared) (σ:St) (H:Hp) (E:Value→Shared→Prop),Inv X pins σ H s→(∀b∈fp,FpOk X pins H b)→tn i s.heap→J.go i H→
  wpAny (model P w) X.A (pyNext (.ref it)) (fun r s1=>∃u,r=some u∧
   wpAny (model P w) X.A (letOwnedTupleGo tg (.ref it) u) (fun _ s2=>∃x H',Inv X pins σ H' s2∧RelV x u∧J.yld i H x H'∧tn (i+1) s2.heap∧∀b∈fp,H' b=none) E s1) E s
 done:∀(X:Cx),X.prog=P→X.w=w→X.K=K→X.calm=true→∀(i:Nat) (pins:List (Addr×Obj)) (s:Shared) (σ:St) (H:Hp) (E:Value→Shared→Prop),Inv X pins σ H s→(∀b∈fp,FpOk X pins H b)→tn i s.heap→J.stop i H→
  wpAny (model P w) X.A (pyNext (.ref it)) (fun r s1=>r=none∧Inv X pins σ H s1) E s
 self:∀(A:Around) (i:Nat) (s:Shared) (Q:Value→Shared→Prop) (E:Value→Shared→Prop),tn i s.heap→Q (.ref it) s→wpAny (model P w) A (pyIter (.ref it)) Q E s
noncomputable abbrev TI:=St→Hp→(It→Hp→Prop)→Prop
noncomputable def PIE (X:Cx) (pins:List (Addr×Obj)) (σ:St) (tg:Expr) (R:It→Hp→Prop) (itv:Value) (s2:Shared):Prop:=
 ∃(it:Addr) (fp:List Addr) (tn:Nat→Heap→Prop) (J:It) (H':Hp),itv=.ref it∧Inv X pins σ H' s2∧Turn X.prog X.w X.K tg J fp it tn∧tn 0 s2.heap∧(∀b∈fp,FpOk X pins H' b)∧R J H'
noncomputable def PI (X:Cx) (tg iter:Expr) (wi:TI):Prop:=
 ∀(pins:List (Addr×Obj)) (s:Shared) (σ:St) (H:Hp) (R:It→Hp→Prop),Inv X pins σ H s→wi σ H R→
  wpAny (model X.prog X.w) X.A (eval iter X.env) (fun v s1=>wpAny (model X.prog X.w) X.A (pyIter v) (PIE X pins σ tg R) X.xe s1) X.xe s
theorem agn {M : Model} {A : Around} {E : Value → Shared → Prop} {s : Shared} {tg : Expr} {it : Addr} {u : Value} {o : Obj} {n : String} {vs : Array Value} {Q : Unit → Shared → Prop} (ho : s.heap.get? it = some o) (hc : o.cls = .type n) (hd : o.data = .fields vs)
    (hn : ["enumerate", "zip", "dict_itemiterator", "dict_reverseitemiterator", "odict_iterator", "itertools.zip_longest", "itertools.pairwise"].contains n = false) (hQ : Q () s) : wpAny M A (letOwnedTupleGo tg (.ref it) u) Q E s := by
  unfold letOwnedTupleGo
  cases tg <;> first
    | exact wpAny_pure hQ
    | (cases u <;> first
        | exact wpAny_pure hQ
        | (refine wpAny_bind (wpAny_load ho ?_)
           rw [hc, hd]
           show wpAny M A (if (["enumerate", "zip", "dict_itemiterator", "dict_reverseitemiterator", "odict_iterator", "itertools.zip_longest", "itertools.pairwise"].contains n && vs[0]? == some (rawInt _)) = true then _ else _) Q E s
           rw [if_neg (by intro h; rw [hn, Bool.false_and] at h; cases h)]
           exact wpAny_pure hQ))
noncomputable def Itl (K:PySem.W.Frag) (a:Addr):It:=
 ⟨fun i H=>∃xs x,SqL K H a xs∧xs[i]?=some x,fun i H x H'=>H'=H∧∀xs,SqL K H a xs→xs[i]?=some x,fun i H=>∃xs,SqL K H a xs∧xs.length≤i⟩
noncomputable def Itt (K:PySem.W.Frag) (a:Addr):It:=
 ⟨fun i H=>∃xs x,SqT K H a xs∧xs[i]?=some x,fun i H x H'=>H'=H∧∀xs,SqT K H a xs→xs[i]?=some x,fun i H=>∃xs,SqT K H a xs∧xs.length≤i⟩
noncomputable def Itr (lo:Int) (n:Nat):It:=⟨fun i _=>i < n,fun i H x H'=>H'=H∧x=.int (lo+i),fun i _=>n≤i⟩
theorem ago {P:Program} {w:World} {K:PySem.W.Frag} {tg:Expr} (a it:Addr):Turn P w K tg (Itl K a) [it] it (fun i h=>h.IsListIter it a i) where
 mem:=by simp
 obj:=fun i h st b hb=>by
  have e:b=it:=by simpa using hb
  subst e
  obtain⟨o,e,c,d⟩:=st
  exact⟨o,e,fun v z=>by rw[d] at z;cases z⟩
 keep:=fun i h h' st k=>st.at fun o e=>k it (by simp) o e
 item:=by
  intro X hP hw hK hc i pins s σ H E I hf st hg
  subst hP hw hK
  obtain⟨xs,x,hq,hx⟩:=hg
  obtain⟨its,rv,p,hz⟩:=I.list hq
  obtain⟨u,hu,ru⟩:=rv.get hx
  obtain⟨f0,f1,f2,f3,f4,f5⟩:=hf it (by simp)
  refine wpAny_pyNext_list_item st p.isList (x:=u) (by simpa using hu) fun h' st' sb=>?_
  have I1:Inv X pins σ H {s with heap:=h'}:=I.turned (t':=s.toks) (fun b o hb e=>(sb.2 b hb).trans e) f0 f1 f3 f4 f5
  obtain⟨o,e,c,d⟩:=id st'
  exact⟨u,rfl,agn (s:={s with heap:=h'}) e c d (by decide) ⟨x,H,I1,ru,⟨rfl,fun ys hy=>by rw[I.list_inj hy hq];exact hx⟩,st',fun b hb=>(hf b hb).1⟩⟩
 done:=by
  intro X hP hw hK hc i pins s σ H E I hf st hg
  subst hP hw hK
  obtain⟨xs,hq,hx⟩:=hg
  obtain⟨its,rv,p,hz⟩:=I.list hq
  obtain⟨f0,f1,f2,f3,f4,f5⟩:=hf it (by simp)
  have hl:=rv.length
  exact wpAny_pyNext_list_end (I.ok.hd hc) st p.isList (by simp;omega) fun h' eb=>⟨rfl,I.turned (t':=s.toks) (fun b o hb e=>eb b o hb e) f0 f1 f3 f4 f5⟩
 self:=fun _ _ _ _ _ st h=>wpAny_pyIter_listiter st h
theorem af8 {P:Program} {w:World} {K:PySem.W.Frag} {tg:Expr} (a it:Addr):Turn P w K tg (Itt K a) [it] it (fun i h=>h.IsTupleIter it a i) where
 mem:=by simp
 obj:=fun i h st b hb=>by
  have e:b=it:=by simpa using hb
  subst e
  obtain⟨o,e,c,d⟩:=st
  exact⟨o,e,fun v z=>by rw[d] at z;cases z⟩
 keep:=fun i h h' st k=>st.at fun o e=>k it (by simp) o e
 item:=by
  intro X hP hw hK hc i pins s σ H E I hf st hg
  subst hP hw hK
  obtain⟨xs,x,hq,hx⟩:=hg
  obtain⟨its,rv,p,hz⟩:=I.tuple hq
  obtain⟨u,hu,ru⟩:=rv.get hx
  obtain⟨f0,f1,f2,f3,f4,f5⟩:=hf it (by simp)
  refine wpAny_pyNext_tuple_item st (show s.heap.IsTuple a its.toArray from p) (x:=u) (by simpa using hu) fun h' st' sb=>?_
  have I1:Inv X pins σ H {s with heap:=h'}:=I.turned (t':=s.toks) (fun b o hb e=>(sb.2 b hb).trans e) f0 f1 f3 f4 f5
  obtain⟨o,e,c,d⟩:=id st'
  exact⟨u,rfl,agn (s:={s with heap:=h'}) e c d (by decide) ⟨x,H,I1,ru,⟨rfl,fun ys hy=>by rw[I.tuple_inj hy hq];exact hx⟩,st',fun b hb=>(hf b hb).1⟩⟩
 done:=by
  intro X hP hw hK hc i pins s σ H E I hf st hg
  subst hP hw hK
  obtain⟨xs,hq,hx⟩:=hg
  obtain⟨its,rv,p,hz⟩:=I.tuple hq
  obtain⟨f0,f1,f2,f3,f4,f5⟩:=hf it (by simp)
  have hl:=rv.length
  exact wpAny_pyNext_tuple_end (I.ok.hd hc) st (show s.heap.IsTuple a its.toArray from p) (by simp;omega) fun h' eb=>⟨rfl,I.turned (t':=s.toks) (fun b o hb e=>eb b o hb e) f0 f1 f3 f4 f5⟩
 self:=fun _ _ _ _ _ st h=>wpAny_pyIter_tupleiter st h
theorem af9 {P:Program} {w:World} {K:PySem.W.Frag} {tg:Expr} (it:Addr) (lo:Int) (n:Nat):Turn P w K tg (Itr lo n) [it] it (fun i h=>IsRangeIter h it (lo+(i:Nat) * 1) ((n:Int) - (i:Nat)) 1) where
 mem:=by simp
 obj:=fun i h st b hb=>by
  have e:b=it:=by simpa using hb
  subst e
  exact⟨_,st,fun v z=>by
   have z':Data.fields _=Data.cell v:=z
   cases z'⟩
 keep:=fun i h h' st k=>k it (by simp) _ st
 item:=by
  intro X hP hw hK hc i pins s σ H E I hf st hg
  subst hP hw hK
  obtain⟨f0,f1,f2,f3,f4,f5⟩:=hf it (by simp)
  have W:=Walks.range (prog:=X.prog) (w:=X.w) (I.ok.hd hc) it lo 1 n
  refine W.item i s _ _ hg st fun v h' tk hv st' kk=>?_
  obtain⟨t,rfl⟩:=hv
  have I1:Inv X pins σ H {s with heap:=h',toks:=tk}:=I.turned (fun b o hb e=>kk b o (by simpa using hb) e) f0 f1 f3 f4 f5
  refine⟨_,rfl,agn (s:={s with heap:=h',toks:=tk}) (n:="range_iterator") st' rfl rfl (by decide) ⟨.int (lo+i),H,I1,⟨t,?_⟩,⟨rfl,rfl⟩,st',fun b hb=>(hf b hb).1⟩⟩
  rw[Int.mul_one]
 done:=by
  intro X hP hw hK hc i pins s σ H E I hf st hg
  subst hP hw hK
  obtain⟨f0,f1,f2,f3,f4,f5⟩:=hf it (by simp)
  exact wpAny_pyNext_range_end (I.ok.hd hc) st (by have:n≤i:=hg;omega) fun h' eb=>⟨rfl,I.turned (t':=s.toks) (fun b o hb e=>eb b o hb e) f0 f1 f3 f4 f5⟩
 self:=fun _ _ _ _ _ st h=>wpAny_pyIter_rangeiter st h
end L2
namespace L2
open PySem PySem.Spec PyProof.Rows
section
variable {X:Cx} {tg:Expr}
noncomputable def iList (K:PySem.W.Frag) (tl:TE):TI:=fun σ H R=>tl σ H fun x H1=>∃a,x=.ref a∧(∃xs,SqL K H1 a xs)∧R (Itl K a) H1
noncomputable def iTup (K:PySem.W.Frag) (tl:TE):TI:=fun σ H R=>tl σ H fun x H1=>∃a,x=.ref a∧(∃xs,SqT K H1 a xs)∧R (Itt K a) H1
theorem ajt {l:Expr} {tl:TE} (hl:PE X l tl):PI X tg l (iList X.K tl):=by
 intro pins s σ H R I h
 refine thn (hl pins s σ H _ I h) fun v s1 ⟨x,H1,I1,r1,q1⟩=>?_
 obtain⟨a,e,⟨xs,hq⟩,q⟩:=q1
 subst e
 cases r1
 obtain⟨its,rv,p,hz⟩:=I1.list hq
 refine wpAny_pyIter_list p.isList ?_
 refine⟨s1.heap.objs.size,[s1.heap.objs.size],_,_,H1,rfl,I1.kept (t':=s1.toks) fun b o e=>Heap.get?_push_of_some _ e,ago a _,⟨_,Heap.get?_push_size _ rfl,rfl,rfl⟩,fun b hb=>?_,q⟩
 have e:b=s1.heap.objs.size:=by simpa using hb
 subst e
 exact I1.fpOk (Nat.le_refl _) (I1.hok.fresh (Nat.le_refl _))
theorem pi_tup {l:Expr} {tl:TE} (hl:PE X l tl):PI X tg l (iTup X.K tl):=by
 intro pins s σ H R I h
 refine thn (hl pins s σ H _ I h) fun v s1 ⟨x,H1,I1,r1,q1⟩=>?_
 obtain⟨a,e,⟨xs,hq⟩,q⟩:=q1
 subst e
 cases r1
 obtain⟨its,rv,p,hz⟩:=I1.tuple hq
 refine wpAny_pyIter_tuple (show s1.heap.IsTuple a its.toArray from p) ?_
 refine⟨s1.heap.objs.size,[s1.heap.objs.size],_,_,H1,rfl,I1.kept (t':=s1.toks) fun b o e=>Heap.get?_push_of_some _ e,af8 a _,⟨_,Heap.get?_push_size _ rfl,rfl,rfl⟩,fun b hb=>?_,q⟩
 have e:b=s1.heap.objs.size:=by simpa using hb
 subst e
 exact I1.fpOk (Nat.le_refl _) (I1.hok.fresh (Nat.le_refl _))
theorem aid {pins:List (Addr×Obj)} {σ:St} {H:Hp} {s:Shared} {R:It→Hp→Prop} {E:Value→Shared→Prop} {lo hi:Int} {t u v:Tok} {tk:Nat} (I:Inv X pins σ H s) (h1: -(2 ^ 62)≤lo) (h2:lo < 2 ^ 62) (h3: -(2 ^ 62)≤hi) (h4:hi < 2 ^ 62)
  (q:R (Itr lo (hi - lo).toNat) H):wpAny (model X.prog X.w) X.A (pyIter (.ref s.heap.objs.size)) (PIE X pins σ tg R) E {s with heap:=s.heap.push {cls:=.type "range",data:=.fields #[.int lo t,.int hi u,.int 1 v]},toks:=tk}:=by
 refine wpAny_pyIter_range (IsRange.new ..) (small_one h1 h2 h3 h4) ?_
 have I1:Inv X pins σ H {s with heap:=s.heap.push {cls:=.type "range",data:=.fields #[.int lo t,.int hi u,.int 1 v]},toks:=tk}:=I.kept fun b o e=>Heap.get?_push_of_some _ e
 refine⟨(s.heap.push {cls:=.type "range",data:=.fields #[.int lo t,.int hi u,.int 1 v]}).objs.size,[(s.heap.push {cls:=.type "range",data:=.fields #[.int lo t,.int hi u,.int 1 v]}).objs.size],_,_,H,rfl,
  I1.kept (t':=tk) fun b o e=>Heap.get?_push_of_some _ e,af9 _ lo (hi - lo).toNat,?_,fun b hb=>?_,q⟩
 ·have e1:lo+((0:Nat):Int) * 1=lo:=by simp
  have e2:(((hi - lo).toNat:Nat):Int) - ((0:Nat):Int)=Builtin.Range.rangeSize lo hi 1:=by rw[rangeSize_one];split<;>omega
  show IsRangeIter _ _ (lo+((0:Nat):Int) * 1) ((((hi - lo).toNat:Nat):Int) - ((0:Nat):Int)) 1
  rw[e1,e2]
  exact Heap.get?_push_size _ rfl
 ·have e:b=(s.heap.push {cls:=.type "range",data:=.fields #[.int lo t,.int hi u,.int 1 v]}).objs.size:=by simpa using hb
  subst e
  exact I1.fpOk (Nat.le_refl _) (I1.hok.fresh (Nat.le_refl _))
noncomputable def iRng1 (ta:TA):TI:=fun σ H R=>ta σ H fun vs H1=>∃j:Int,vs=[.int j]∧ -(2 ^ 62)≤j∧j < 2 ^ 62∧R (Itr 0 j.toNat) H1
theorem aej {a:Expr} {ta:TA} {p pos:Pos} (hg:Gl X "range") (hm:X.mg "range"=none) (ha:PA X [a] ta) (hs:starEach [a] X.env=[(false,eval a X.env)]:=by rfl):PI X tg (.Call (.Name "range" p) [a] [] pos) (iRng1 ta):=by
 intro pins s σ H R I h
 refine Call_ (aei I hg hm boot_range (PyProof.Rows.callWith_type1 (thn (ha pos pins s σ H _ I h) fun us s1 ⟨vs,H1,I1,r1,q1⟩=>?_) hs rfl))
 obtain⟨j,e,q1,q2,q⟩:=q1
 subst e
 cases r1 with
 |cons r rr=>
  cases rr
  obtain⟨t,rfl⟩:=r
  exact call_range_1 (aid I1 (by omega) (by omega) q1 q2 (by simpa using q))
noncomputable def tFor (wi:TI) (g:TG) (tb:TS):TS:=fun D σ H=>wi σ H fun J H1=>∃W:Nat→Nat→St→Hp→Prop,(∃m,W 0 m σ H1)∧∀i m σ H,W i m σ H→
 (J.stop i H∧D.nx σ H)∨(J.go i H∧∃N:St→Hp→Prop,(∀σ' H',N σ' H'→∃m',m' < m∧W (i+1) m' σ' H')∧∀x H',J.yld i H x H'→g x σ H' fun σ2 H2=>tb {D with nx:=N,ct:=N,bk:=D.nx} σ2 H2)
noncomputable def pinsAt (fp:List Addr) (h:Heap):List (Addr×Obj):=fp.filterMap fun b=>(h.get? b).map fun o=>(b,o)
theorem aa8 {fp:List Addr} {h:Heap} {b:Addr} {o:Obj} (hb:b∈fp) (e:h.get? b=some o):(b,o)∈pinsAt fp h:=List.mem_filterMap.mpr ⟨b,hb,by rw[e];rfl⟩
theorem agp {fp:List Addr} {h:Heap} {p:Addr×Obj} (hp:p∈pinsAt fp h):p.1∈fp∧h.get? p.1=some p.2:=by
 obtain⟨b,hb,e⟩:=List.mem_filterMap.mp hp
 cases q:h.get? b with
 |none=>rw[q] at e;cases e
 |some o=>
  rw[q] at e
  have e':(b,o)=p:=Option.some.inj e
  subst e'
  exact⟨hb,q⟩
theorem Inv.pinned {pins:List (Addr×Obj)} {σ:St} {H:Hp} {s:Shared} {fp:List Addr} (I:Inv X pins σ H s) (hf:∀b∈fp,FpOk X pins H b) (ho:∀b∈fp,∃o,s.heap.get? b=some o∧∀v,o.data≠.cell v):Inv X (pins++pinsAt fp s.heap) σ H s:=
 I.pins_of fun p hp=>(List.mem_append.mp hp).elim (fun z=>I.pin p (List.mem_append_right _ z)) fun z=>by
  obtain⟨hb,e⟩:=agp z
  obtain⟨f0,f1,f2,_⟩:=hf p.1 hb
  obtain⟨o,e',d⟩:=ho p.1 hb
  rw[e] at e';cases e'
  exact⟨e,f0,f1,f2,d⟩
theorem Inv.unpinned {pins pl:List (Addr×Obj)} {σ:St} {H:Hp} {s:Shared} (I:Inv X (pins++pl) σ H s):Inv X pins σ H s:=I.pins_of fun p hp=>I.pin p (List.mem_append_right _ (List.mem_append_left _ hp))
theorem ps_for {iter:Expr} {body:List Stmt} {wi:TI} {g:TG} {tb:TS} {pos:Pos} (hp:PassesOwn (model X.prog X.w) X.A X.env X.xe) (hc:X.calm=true) (hi:PI X tg iter wi) (hg:PG X tg g) (hb:PSs X body tb)
  (hs:∀x,foldedSetIterable iter X.env x=pure x:=by intro _;rfl):PS X (.For tg iter body [] pos) (tFor wi g tb):=by
 intro pins s σ H D I h
 refine wpAny_For (thn (hi pins s σ H _ I h) fun v s1 h1=>thn h1 fun itv s2 h2=>?_) hs
 obtain⟨it,fp,tn,J,H2,e,I2,T,st2,f2,W,⟨m0,w0⟩,turn⟩:=h2
 subst e
 have stat:∀{H':Hp},(∀b∈fp,H' b=none)→∀b∈fp,FpOk X pins H' b:=fun hn b hb=>⟨hn b hb,(f2 b hb).2⟩
 refine codeAny_forLoop_any (fun n s'=>∃i σ' H',Inv X pins σ' H' s'∧tn i s'.heap∧(∀b∈fp,H' b=none)∧W i n σ' H') ?_ m0 ⟨0,σ,H2,I2,st2,fun b hb=>(f2 b hb).1,w0⟩
 rintro n s3 ⟨i,σ3,H3,I3,st3,fr3,w3⟩
 rcases turn i n σ3 H3 w3 with ⟨stop,qn⟩|⟨go,N,hN,step⟩
 ·refine wpAny_passesOwn hp (thn (T.done X rfl rfl rfl hc i pins s3 σ3 H3 X.xe I3 (stat fr3) st3 stop) fun r s4 ⟨hr,I4⟩=>?_)
  subst hr
  exact wpAny_execs_nil ⟨σ3,H3,I4,qn⟩
 ·refine wpAny_passesOwn hp (thn (T.item X rfl rfl rfl hc i pins s3 σ3 H3 X.xe I3 (stat fr3) st3 go) fun r s4 ⟨u,hr,h4⟩=>?_)
  subst hr
  refine wpAny_passesOwn hp (thn h4 fun _ s5 ⟨x,H5,I5,r5,y5,st5,fr5⟩=>?_)
  have I5':=I5.pinned (stat fr5) (T.obj _ _ st5)
  refine wpAny_passesOwn hp (thn (hg _ s5 σ3 H5 x u _ I5' r5 (step x H5 y5)) fun _ s6 ⟨σ6,H6,I6,q6⟩=>?_)
  refine wpAny_passesOwn hp (thn (hb _ s6 σ6 H6 _ I6 q6) fun f s7 q7=>?_)
  have again:∀{σ7:St} {H7:Hp},Inv X (pins++pinsAt fp s5.heap) σ7 H7 s7→N σ7 H7→∃m,m < n∧∃i σ' H',Inv X pins σ' H' s7∧tn i s7.heap∧(∀b∈fp,H' b=none)∧W i m σ' H':=fun {σ7 H7} I7 n7=>by
   obtain⟨m',hm,w7⟩:=hN σ7 H7 n7
   refine⟨m',hm,i+1,σ7,H7,I7.unpinned,T.keep _ _ _ st5 fun b hb o e=>(I7.pin (b,o) (List.mem_append_right _ (List.mem_append_right _ (aa8 hb e)))).1,fun b hb=>?_,w7⟩
   obtain⟨o,e,d⟩:=T.obj _ _ st5 b hb
   exact (I7.pin (b,o) (List.mem_append_right _ (List.mem_append_right _ (aa8 hb e)))).2.1
  cases f with
  |next=>obtain⟨σ7,H7,I7,n7⟩:=q7;exact again I7 n7
  |cont=>obtain⟨σ7,H7,I7,n7⟩:=q7;exact again I7 n7
  |brk=>obtain⟨σ7,H7,I7,q7⟩:=q7;exact⟨σ7,H7,I7.unpinned,q7⟩
  |ret v=>obtain⟨x7,σ7,H7,I7,r7,q7⟩:=q7;exact⟨x7,σ7,H7,I7.unpinned,r7,q7⟩
end
theorem aie {K:PySem.W.Frag} {a:Addr} {xs:List V} {g:TG} {tb:TS} {D:Ends} {σ:St} {H:Hp} (Pv:Nat→St→Hp→Prop) (h0:Pv 0 σ H) (hl:∀i σ H,i≤xs.length→Pv i σ H→SqL K H a xs)
  (hs:∀i x σ H,xs[i]?=some x→Pv i σ H→g x σ H fun σ2 H2=>tb {D with nx:=Pv (i+1),ct:=Pv (i+1),bk:=D.nx} σ2 H2) (hd:∀σ H,Pv xs.length σ H→D.nx σ H):
  ∃W:Nat→Nat→St→Hp→Prop,(∃m,W 0 m σ H)∧∀i m σ H,W i m σ H→
   ((Itl K a).stop i H∧D.nx σ H)∨((Itl K a).go i H∧∃N:St→Hp→Prop,(∀σ' H',N σ' H'→∃m',m' < m∧W (i+1) m' σ' H')∧∀x H',(Itl K a).yld i H x H'→g x σ H' fun σ2 H2=>tb {D with nx:=N,ct:=N,bk:=D.nx} σ2 H2):=by
 refine⟨fun i m σ H=>m=xs.length - i∧i≤xs.length∧Pv i σ H,⟨xs.length,by simp,Nat.zero_le _,h0⟩,?_⟩
 rintro i m σ H ⟨rfl,hi,p⟩
 have q:=hl i σ H hi p
 by_cases hlt:i < xs.length
 ·refine .inr ⟨⟨xs,xs[i],q,by simp[hlt]⟩,Pv (i+1),fun σ' H' p'=>⟨xs.length - (i+1),by omega,rfl,hlt,p'⟩,fun x H' y=>?_⟩
  obtain⟨e,y⟩:=y
  subst e
  exact hs i x σ _ (y xs q) p
 ·have e:i=xs.length:=by omega
  subst e
  exact .inl ⟨⟨xs,q,Nat.le_refl _⟩,hd σ H p⟩
theorem aju {K:PySem.W.Frag} {a:Addr} {xs:List V} {g:TG} {tb:TS} {D:Ends} {σ:St} {H:Hp} (Pv:Nat→St→Hp→Prop) (h0:Pv 0 σ H) (hl:∀i σ H,i≤xs.length→Pv i σ H→SqT K H a xs)
  (hs:∀i x σ H,xs[i]?=some x→Pv i σ H→g x σ H fun σ2 H2=>tb {D with nx:=Pv (i+1),ct:=Pv (i+1),bk:=D.nx} σ2 H2) (hd:∀σ H,Pv xs.length σ H→D.nx σ H):
  ∃W:Nat→Nat→St→Hp→Prop,(∃m,W 0 m σ H)∧∀i m σ H,W i m σ H→
   ((Itt K a).stop i H∧D.nx σ H)∨((Itt K a).go i H∧∃N:St→Hp→Prop,(∀σ' H',N σ' H'→∃m',m' < m∧W (i+1) m' σ' H')∧∀x H',(Itt K a).yld i H x H'→g x σ H' fun σ2 H2=>tb {D with nx:=N,ct:=N,bk:=D.nx} σ2 H2):=by
 refine⟨fun i m σ H=>m=xs.length - i∧i≤xs.length∧Pv i σ H,⟨xs.length,by simp,Nat.zero_le _,h0⟩,?_⟩
 rintro i m σ H ⟨rfl,hi,p⟩
 have q:=hl i σ H hi p
 by_cases hlt:i < xs.length
 ·refine .inr ⟨⟨xs,xs[i],q,by simp[hlt]⟩,Pv (i+1),fun σ' H' p'=>⟨xs.length - (i+1),by omega,rfl,hlt,p'⟩,fun x H' y=>?_⟩
  obtain⟨e,y⟩:=y
  subst e
  exact hs i x σ _ (y xs q) p
 ·have e:i=xs.length:=by omega
  subst e
  exact .inl ⟨⟨xs,q,Nat.le_refl _⟩,hd σ H p⟩
theorem agq {lo:Int} {n:Nat} {g:TG} {tb:TS} {D:Ends} {σ:St} {H:Hp} (Pv:Nat→St→Hp→Prop) (h0:Pv 0 σ H)
  (hs:∀i σ H,i < n→Pv i σ H→g (.int (lo+i)) σ H fun σ2 H2=>tb {D with nx:=Pv (i+1),ct:=Pv (i+1),bk:=D.nx} σ2 H2) (hd:∀σ H,Pv n σ H→D.nx σ H):
  ∃W:Nat→Nat→St→Hp→Prop,(∃m,W 0 m σ H)∧∀i m σ H,W i m σ H→
   ((Itr lo n).stop i H∧D.nx σ H)∨((Itr lo n).go i H∧∃N:St→Hp→Prop,(∀σ' H',N σ' H'→∃m',m' < m∧W (i+1) m' σ' H')∧∀x H',(Itr lo n).yld i H x H'→g x σ H' fun σ2 H2=>tb {D with nx:=N,ct:=N,bk:=D.nx} σ2 H2):=by
 refine⟨fun i m σ H=>m=n - i∧i≤n∧Pv i σ H,⟨n,by simp,Nat.zero_le _,h0⟩,?_⟩
 rintro i m σ H ⟨rfl,hi,p⟩
 by_cases hlt:i < n
 ·refine .inr ⟨hlt,Pv (i+1),fun σ' H' p'=>⟨n - (i+1),by omega,rfl,hlt,p'⟩,fun x H' y=>?_⟩
  obtain⟨e,y⟩:=y
  subst e y
  exact hs i σ _ hlt p
 ·have e:i=n:=by omega
  subst e
  exact .inl ⟨Nat.le_refl _,hd σ H p⟩
end L2
namespace L2
open PySem PySem.Spec PyProof.Rows
noncomputable abbrev R2:=V→V→Hp→VK→Prop
noncomputable def OpR (X:Cx) (f:Value→Value→Sem Value) (r:R2):Prop:=
 ∀(pins:List (Addr×Obj)) (s:Shared) (σ:St) (H:Hp) (x y:V) (v u:Value) (Q:VK),Inv X pins σ H s→RelV x v→RelV y u→r x y H Q→
  wpAny (model X.prog X.w) X.A (f v u) (EP X pins σ Q) X.xe s
noncomputable def UnR (X:Cx) (f:Value→Sem Value) (r:V→Hp→VK→Prop):Prop:=
 ∀(pins:List (Addr×Obj)) (s:Shared) (σ:St) (H:Hp) (x:V) (v:Value) (Q:VK),Inv X pins σ H s→RelV x v→r x H Q→
  wpAny (model X.prog X.w) X.A (f v) (EP X pins σ Q) X.xe s
noncomputable def CallR (X:Cx) (f:Value) (r:List V→Hp→VK→Prop):Prop:=
 ∀(pins:List (Addr×Obj)) (s:Shared) (σ:St) (H:Hp) (xs:List V) (us:List Value) (Q:VK),Inv X pins σ H s→Vals xs us→r xs H Q→
  wpAny (model X.prog X.w) X.A (call f us) (EP X pins σ Q) X.xe s
noncomputable def TruR (X:Cx) (r:V→Hp→(Bool→Hp→Prop)→Prop):Prop:=
 ∀(pins:List (Addr×Obj)) (s:Shared) (σ:St) (H:Hp) (x:V) (v:Value) (Q:Bool→Hp→Prop),Inv X pins σ H s→RelV x v→r x H Q→
  wpAny (model X.prog X.w) X.A (truthy v) (TP X pins σ Q) X.xe s
noncomputable def tOp (r:R2) (ta tb:TE):TE:=fun σ H Q=>ta σ H fun x H1=>tb σ H1 fun y H2=>r x y H2 Q
noncomputable def tUn (r:V→Hp→VK→Prop) (ta:TE):TE:=fun σ H Q=>ta σ H fun x H1=>r x H1 Q
noncomputable def rI (C:Int→Int→Prop) (g:Int→Int→V):R2:=fun x y H Q=>∃i j,x=.int i∧y=.int j∧C i j∧Q (g i j) H
noncomputable def rI0 (g:Int→Int→V):R2:=fun x y H Q=>∃i j,x=.int i∧y=.int j∧Q (g i j) H
noncomputable def rU (g:Int→V):V→Hp→VK→Prop:=fun x H Q=>∃i,x=.int i∧Q (g i) H
section
variable {X:Cx} {a b c:Expr} {ta tb tc:TE} {pos:Pos}
theorem binT (ha:PE X a ta) (hb:PE X b tb) {pins:List (Addr×Obj)} {s:Shared} {σ:St} {H:Hp} {R:V→V→Hp→Prop} (I:Inv X pins σ H s)
  (h:ta σ H fun x H1=>tb σ H1 fun y H2=>R x y H2) {Q:Value→Shared→Prop} {f:Value→Value→Sem Value}
  (hf:∀v u s2 x y H2,Inv X pins σ H2 s2→RelV x v→RelV y u→R x y H2→wpAny (model X.prog X.w) X.A (f v u) Q X.xe s2):
  wpAny (model X.prog X.w) X.A (eval a X.env) (fun v s₁=>wpAny (model X.prog X.w) X.A (eval b X.env) (fun u s₂=>wpAny (model X.prog X.w) X.A (f v u) Q X.xe s₂) X.xe s₁) X.xe s:=by
 refine thn (ha pins s σ H _ I h) fun v s1 ⟨x,H1,I1,r1,q1⟩=>?_
 refine thn (hb pins s1 σ H1 _ I1 q1) fun u s2 ⟨y,H2,I2,r2,q2⟩=>?_
 exact hf v u s2 x y H2 I2 r1 r2 q2
theorem aao {op:Operator} {r:R2} (ho:OpR X (binaryOp op) r) (ha:PE X a ta) (hb:PE X b tb):PE X (.BinOp a op b pos) (tOp r ta tb):=by
 intro pins s σ H Q I h
 exact wpAny_BinOp (binT ha hb I h fun v u s2 x y H2 I2 rx ry q=>ho pins s2 σ H2 x y v u Q I2 rx ry q)
theorem pe_un {op:UnaryOp} {r:V→Hp→VK→Prop} (ho:UnR X (unaryOp op) r) (ha:PE X a ta):PE X (.UnaryOp op a pos) (tUn r ta):=by
 intro pins s σ H Q I h
 exact UnaryOp_ (thn (ha pins s σ H _ I h) fun v s1 ⟨x,H1,I1,r1,q1⟩=>ho pins s1 σ H1 x v Q I1 r1 q1)
theorem opI {f:Value→Value→Sem Value} {C:Int→Int→Prop} {g:Int→Int→Int}
  (rule:∀(i j:Int) (t u:Tok) (s:Shared) (Q:Value→Shared→Prop) (E:Value→Shared→Prop),C i j→Q (.int (g i j) s.toks) {s with toks:=s.toks+1}→wpAny (model X.prog X.w) X.A (f (.int i t) (.int j u)) Q E s):
  OpR X f (rI C fun i j=>.int (g i j)):=by
 intro pins s σ H x y v u Q I rx ry h
 obtain⟨i,j,rfl,rfl,hc,q⟩:=h
 obtain⟨t,rfl⟩:=rx
 obtain⟨t',rfl⟩:=ry
 exact rule i j t t' s _ _ hc ⟨.int (g i j),H,I.tok _,⟨_,rfl⟩,q⟩
theorem opI0 {f:Value→Value→Sem Value} {g:Int→Int→Int}
  (rule:∀(i j:Int) (t u:Tok) (s:Shared) (Q:Value→Shared→Prop) (E:Value→Shared→Prop),Q (.int (g i j) s.toks) {s with toks:=s.toks+1}→wpAny (model X.prog X.w) X.A (f (.int i t) (.int j u)) Q E s):
  OpR X f (rI0 fun i j=>.int (g i j)):=by
 intro pins s σ H x y v u Q I rx ry h
 obtain⟨i,j,rfl,rfl,q⟩:=h
 obtain⟨t,rfl⟩:=rx
 obtain⟨t',rfl⟩:=ry
 exact rule i j t t' s _ _ ⟨.int (g i j),H,I.tok _,⟨_,rfl⟩,q⟩
theorem opB0 {f:Value→Value→Sem Value} {g:Int→Int→Bool}
  (rule:∀(i j:Int) (t u:Tok) (s:Shared) (Q:Value→Shared→Prop) (E:Value→Shared→Prop),Q (.bool (g i j)) s→wpAny (model X.prog X.w) X.A (f (.int i t) (.int j u)) Q E s):
  OpR X f (rI0 fun i j=>.bl (g i j)):=by
 intro pins s σ H x y v u Q I rx ry h
 obtain⟨i,j,rfl,rfl,q⟩:=h
 obtain⟨t,rfl⟩:=rx
 obtain⟨t',rfl⟩:=ry
 exact rule i j t t' s _ _ ⟨.bl (g i j),H,I,rfl,q⟩
noncomputable def CDiv (i j:Int):Prop:=0 < j∧j < 1073741824
noncomputable def CPow (i j:Int):Prop:=0≤j∧j≤1000000∧i.natAbs < 2 ^ 64
noncomputable def CMul (i j:Int):Prop:=(-(2 ^ 64) < i∧i < 2 ^ 64)∨(-(2 ^ 64) < j∧j < 2 ^ 64)
theorem CMul.ok {i j:Int} (h:CMul i j):IntMulOk i j:=by
 rcases h with ⟨h1,h2⟩|⟨h1,h2⟩
 ·exact .of_left (intBits_le_64 h1 h2)
 ·exact .of_right (intBits_le_64 h1 h2)
theorem aek:OpR X (binaryOp .Add) (rI0 fun i j=>.int (i+j)):=opI0 fun _ _ _ _ _ _ _ q=>add_int q
theorem agr:OpR X (binaryOp .Sub) (rI0 fun i j=>.int (i - j)):=opI0 fun _ _ _ _ _ _ _ q=>sub_int q
theorem ab6:OpR X (binaryOp .FloorDiv) (rI CDiv fun i j=>.int (i / j)):=opI fun i j _ _ _ _ _ hc q=>by
 have h1:(0:Int) < j:=hc.1
 have h2:j < 1073741824:=hc.2
 exact floordiv_int (by omega) (by rw[Int.fdiv_eq_ediv_of_nonneg i (by omega)];exact q) (.inl (PyProof.noPylong_small (by omega)))
theorem abl:OpR X (binaryOp .Mod) (rI (fun _ j=>0 < j) fun i j=>.int (i % j)):=opI fun i j _ _ _ _ _ hc q=>by
 have h1:(0:Int) < j:=hc
 exact mod_int' (by omega) (by rw[Int.fmod_eq_emod_of_nonneg i (by omega)];exact q)
theorem op_pow:OpR X (binaryOp .Pow) (rI CPow fun i j=>.int (i ^ j.toNat)):=opI fun _ _ _ _ _ _ _ hc q=>pow_int_small hc.1 hc.2.1 hc.2.2 q
end
noncomputable def scal:V→V→Bool
 |.non,.non=>true|.non,.int _=>true|.int _,.non=>true|.non,.bl _=>true|.bl _,.non=>true|.non,.str _=>true|.str _,.non=>true
 |.int _,.int _=>true|.bl _,.bl _=>true|.str _,.str _=>true|.byt _,.byt _=>true
 |.int _,.str _=>true|.str _,.int _=>true|.bl _,.str _=>true|.str _,.bl _=>true
 |_,_=>false
noncomputable def rEq:R2:=fun x y H Q=>scal x y=true∧Q (.bl (decide (x=y))) H
noncomputable def rNe:R2:=fun x y H Q=>scal x y=true∧Q (.bl (!decide (x=y))) H
theorem ags {i j:Int}:decide (V.int i=V.int j)=(i == j):=by
 rw[Bool.eq_iff_iff]
 simp
theorem aje {i j:Bool}:decide (V.bl i=V.bl j)=(i == j):=by
 rw[Bool.eq_iff_iff]
 simp
theorem agt {i j:Str}:decide (V.str i=V.str j)=(i == j):=by
 rw[Bool.eq_iff_iff]
 simp
theorem agu {i j:Array UInt8}:decide (V.byt i=V.byt j)=(i.toList == j.toList):=by
 rw[Bool.eq_iff_iff]
 cases i
 cases j
 simp
section
variable {X:Cx} {a b c:Expr} {ta tb tc:TE} {pos:Pos}
theorem aa1 {pins:List (Addr×Obj)} {σ:St} {H:Hp} {s:Shared} {Q:VK} {k k':Bool} (I:Inv X pins σ H s) (q:Q (.bl k) H) (e:k=k'):EP X pins σ Q (.bool k') s:=by
 subst e
 exact⟨.bl k,H,I,rfl,q⟩
theorem abu:OpR X (compareOp .Eq) rEq:=by
 intro pins s σ H x y v u Q I rx ry h
 obtain⟨hs,q⟩:=h
 cases x with
 |non=>
  cases rx
  cases y with
  |non=>cases ry;exact PySem.EqNone.eq_none_none (aa1 I q (by simp))
  |bl j=>cases ry;exact PySem.EqNone.eq_none_bool (aa1 I q (by simp))
  |int j=>obtain⟨t',rfl⟩:=ry;exact PySem.EqNone.eq_none_int (aa1 I q (by simp))
  |str j=>obtain⟨t',rfl⟩:=ry;exact PySem.EqNone.eq_none_str (aa1 I q (by simp))
  |_=>exact absurd (show false=true from hs) Bool.false_ne_true
 |bl i=>
  cases rx
  cases y with
  |non=>cases ry;exact PySem.EqNone.eq_bool_none (aa1 I q (by simp))
  |bl j=>cases ry;exact eq_bool (aa1 I q aje)
  |str j=>obtain⟨t',rfl⟩:=ry;exact PySem.EqMixed.eq_bool_str (aa1 I q (by simp))
  |_=>exact absurd (show false=true from hs) Bool.false_ne_true
 |int i=>
  obtain⟨t,rfl⟩:=rx
  cases y with
  |non=>cases ry;exact PySem.EqNone.eq_int_none (aa1 I q (by simp))
  |int j=>obtain⟨t',rfl⟩:=ry;exact eq_int (aa1 I q ags)
  |str j=>obtain⟨t',rfl⟩:=ry;exact PySem.EqMixed.eq_int_str (aa1 I q (by simp))
  |_=>exact absurd (show false=true from hs) Bool.false_ne_true
 |str i=>
  obtain⟨t,rfl⟩:=rx
  cases y with
  |non=>cases ry;exact PySem.EqNone.eq_str_none (aa1 I q (by simp))
  |bl j=>cases ry;exact PySem.EqMixed.eq_str_bool (aa1 I q (by simp))
  |int j=>obtain⟨t',rfl⟩:=ry;exact PySem.EqMixed.eq_str_int (aa1 I q (by simp))
  |str j=>obtain⟨t',rfl⟩:=ry;exact eq_str (aa1 I q agt)
  |_=>exact absurd (show false=true from hs) Bool.false_ne_true
 |byt i=>
  obtain⟨t,rfl⟩:=rx
  cases y with
  |byt j=>obtain⟨t',rfl⟩:=ry;exact PySem.W.eq_bytes (aa1 I q agu)
  |_=>exact absurd (show false=true from hs) Bool.false_ne_true
 |_=>cases y<;>exact absurd (show false=true from hs) Bool.false_ne_true
theorem op_ne:OpR X (compareOp .NotEq) rNe:=by
 intro pins s σ H x y v u Q I rx ry h
 obtain⟨hs,q⟩:=h
 cases x with
 |non=>
  cases rx
  cases y with
  |non=>cases ry;exact PySem.EqNone.ne_none_none (aa1 I q (by simp))
  |bl j=>cases ry;exact PySem.EqNone.ne_none_bool (aa1 I q (by simp))
  |int j=>obtain⟨t',rfl⟩:=ry;exact PySem.EqNone.ne_none_int (aa1 I q (by simp))
  |str j=>obtain⟨t',rfl⟩:=ry;exact PySem.EqNone.ne_none_str (aa1 I q (by simp))
  |_=>exact absurd (show false=true from hs) Bool.false_ne_true
 |bl i=>
  cases rx
  cases y with
  |non=>cases ry;exact PySem.EqNone.ne_bool_none (aa1 I q (by simp))
  |bl j=>cases ry;exact ne_bool (aa1 I q (congrArg not aje))
  |str j=>obtain⟨t',rfl⟩:=ry;exact PySem.EqMixed.ne_bool_str (aa1 I q (by simp))
  |_=>exact absurd (show false=true from hs) Bool.false_ne_true
 |int i=>
  obtain⟨t,rfl⟩:=rx
  cases y with
  |non=>cases ry;exact PySem.EqNone.ne_int_none (aa1 I q (by simp))
  |int j=>obtain⟨t',rfl⟩:=ry;exact ne_int (aa1 I q (congrArg not ags))
  |str j=>obtain⟨t',rfl⟩:=ry;exact PySem.EqMixed.ne_int_str (aa1 I q (by simp))
  |_=>exact absurd (show false=true from hs) Bool.false_ne_true
 |str i=>
  obtain⟨t,rfl⟩:=rx
  cases y with
  |non=>cases ry;exact PySem.EqNone.ne_str_none (aa1 I q (by simp))
  |bl j=>cases ry;exact PySem.EqMixed.ne_str_bool (aa1 I q (by simp))
  |int j=>obtain⟨t',rfl⟩:=ry;exact PySem.EqMixed.ne_str_int (aa1 I q (by simp))
  |str j=>obtain⟨t',rfl⟩:=ry;exact ne_str (aa1 I q (congrArg not agt))
  |_=>exact absurd (show false=true from hs) Bool.false_ne_true
 |byt i=>
  obtain⟨t,rfl⟩:=rx
  cases y with
  |byt j=>obtain⟨t',rfl⟩:=ry;exact PySem.W.ne_bytes (aa1 I q (congrArg not agu))
  |_=>exact absurd (show false=true from hs) Bool.false_ne_true
 |_=>cases y<;>exact absurd (show false=true from hs) Bool.false_ne_true
theorem op_lt:OpR X (compareOp .Lt) (rI0 fun i j=>.bl (decide (i < j))):=opB0 fun _ _ _ _ _ _ _ q=>lt_int q
theorem op_le:OpR X (compareOp .LtE) (rI0 fun i j=>.bl (decide (i≤j))):=opB0 fun _ _ _ _ _ _ _ q=>le_int q
theorem aif:OpR X (compareOp .Gt) (rI0 fun i j=>.bl (decide (j < i))):=opB0 fun _ _ _ _ _ _ _ q=>gt_int q
theorem OpR.or {f:Value→Value→Sem Value} {r r':R2} (h:OpR X f r) (h':OpR X f r'):OpR X f (fun x y H Q=>r x y H Q∨r' x y H Q):=by
 intro pins s σ H x y v u Q I rx ry q
 rcases q with q|q
 ·exact h pins s σ H x y v u Q I rx ry q
 ·exact h' pins s σ H x y v u Q I rx ry q
theorem nomark (b:Expr) {op:CmpOp} (h:op≠.In:=by decide) (h2:op≠.NotIn:=by decide):behindInMarks op b=false:=by
 have e1:(op == CmpOp.In)=false:=by cases op<;>first|rfl|exact absurd rfl h
 have e2:(op == CmpOp.NotIn)=false:=by cases op<;>first|rfl|exact absurd rfl h2
 cases b<;>simp[behindInMarks,e1,e2]
theorem agv {op:CmpOp} {r:R2} (ho:OpR X (compareOp op) r) (ha:PE X a ta) (hb:PE X b tb) (hm:behindInMarks op b=false):PE X (.Compare a [op] [b] pos) (tOp r ta tb):=by
 intro pins s σ H Q I h
 exact wpAny_Compare1 (binT ha hb I h fun v u s2 x y H2 I2 rx ry q=>ho pins s2 σ H2 x y v u Q I2 rx ry q) hm
noncomputable def tTest (t:TE):TT:=fun σ H Q=>t σ H fun x H'=>∃k,x=.bl k∧Q k H'
theorem aal {op:CmpOp} {r:R2} (ho:OpR X (compareOp op) r) (ha:PE X a ta) (hb:PE X b tb) (hm:behindInMarks op b=false):PT X (.Compare a [op] [b] pos) (tTest (tOp r ta tb)):=by
 intro pins s σ H Q I h
 refine wpAny_isTrue_Compare1 (thn (ha pins s σ H _ I h) fun v s1 ⟨x,H1,I1,r1,q1⟩=>thn (hb pins s1 σ H1 _ I1 q1) fun u s2 ⟨y,H2,I2,r2,q2⟩=>
  thn (ho pins s2 σ H2 x y v u _ I2 r1 r2 q2) fun c s3 ⟨z,H3,I3,r3,k,e,q3⟩=>?_) hm
 subst e
 cases r3
 exact wpAny_truthy_bool ⟨H3,I3,q3⟩
noncomputable def tChain (r r':R2) (ta tb tc:TE):TE:=fun σ H Q=>ta σ H fun x H1=>tb σ H1 fun y H2=>r x y H2 fun z H3=>∃k,z=.bl k∧
 (if k=true then tc σ H3 fun w' H4=>r' y w' H4 Q else Q (.bl false) H3)
theorem aig {op op':CmpOp} {r r':R2} (ho:OpR X (compareOp op) r) (ho':OpR X (compareOp op') r') (ha:PE X a ta) (hb:PE X b tb) (hc:PE X c tc)
  (hm:lastMarks [op,op'] [b,c]=false:=by with_unfolding_all rfl):PT X (.Compare a [op,op'] [b,c] pos) (tTest (tChain r r' ta tb tc)):=by
 intro pins s σ H Q I h
 refine isTrue_chain (thn (ha pins s σ H _ I h) fun v s1 ⟨x,H1,I1,r1,q1⟩=>test_link (thn (hb pins s1 σ H1 _ I1 q1) fun u s2 ⟨y,H2,I2,r2,q2⟩=>
  thn (ho pins s2 σ H2 x y v u _ I2 r1 r2 q2) fun d s3 ⟨z,H3,I3,r3,k,e,q3⟩=>?_)) hm
 subst e
 cases r3
 refine wpAny_truthy_bool ?_
 cases k with
 |false=>
  obtain⟨k',e',q'⟩:=q3
  cases e'
  exact ite_ff ⟨H3,I3,q'⟩
 |true=>
  refine ite_tt (test_last (thn (hc pins s3 σ H3 _ I3 q3) fun w' s4 ⟨z',H4,I4,r4,q4⟩=>thn (ho' pins s4 σ H4 y z' u w' _ I4 r2 r4 q4) fun d' s5 ⟨z2,H5,I5,r5,k2,e2,q5⟩=>?_))
  subst e2
  cases r5
  exact wpAny_truthy_bool ⟨H5,I5,q5⟩
noncomputable def TruV (K:PySem.W.Frag) (x:V) (H:Hp) (k:Bool):Prop:=
 match x with
 |.non=>k=false
 |.bl b=>k=b
 |.int i=>k=(i != 0)
 |.str y=>y.length≤sizeLine∧k=((y.length:Int) != 0)
 |.byt y=>y.size≤sizeLine∧k=((y.size:Int) != 0)
 |.ref p=>(∃xs,SqL K H p xs∧k= !xs.isEmpty)∨(∃xs,SqT K H p xs∧k= !xs.isEmpty)∨∃kvs,H p=some (.dK kvs)∧k= !kvs.isEmpty
 |_=>False
theorem line63:(sizeLine:Nat) < 2 ^ 63:=by rw[sizeLine_eq];decide
theorem vals1 {x:V} {us:List Value} (r:Vals [x] us):∃u,us=[u]∧RelV x u:=by
 cases r with
 |cons r1 r2=>cases r2;exact⟨_,rfl,r1⟩
noncomputable def LenV (K:PySem.W.Frag) (x:V) (H:Hp) (n:Nat):Prop:=
 match x with
 |.str y=>y.length≤sizeLine∧n=y.length
 |.byt y=>y.size≤sizeLine∧n=y.size
 |.ref p=>(∃xs,SqL K H p xs∧n=xs.length)∨∃xs,SqT K H p xs∧n=xs.length
 |_=>False
theorem aay:CallR X (.builtin "len") (fun xs H Q=>∃x n,xs=[x]∧LenV X.K x H n∧Q (.int n) H):=by
 intro pins s σ H xs us Q I r h
 obtain⟨x,n,rfl,e,q⟩:=h
 obtain⟨u,rfl,rx⟩:=vals1 r
 have hl:=line63
 have hs:sizeLine=16777216:=sizeLine_eq
 cases x with
 |str y=>
  obtain⟨t,rfl⟩:=rx
  obtain⟨hy,e'⟩:y.length≤sizeLine∧n=y.length:=e
  subst e'
  exact len_str (by omega) ⟨.int _,H,I.tok _,⟨_,rfl⟩,q⟩
 |byt y=>
  obtain⟨t,rfl⟩:=rx
  obtain⟨hy,e'⟩:y.size≤sizeLine∧n=y.size:=e
  subst e'
  exact PySem.W.len_bytes (by omega) ⟨.int _,H,I.tok _,⟨_,rfl⟩,q⟩
 |ref p=>
  cases rx
  have e':(∃xs,SqL X.K H p xs∧n=xs.length)∨∃xs,SqT X.K H p xs∧n=xs.length:=e
  rcases e' with ⟨xs,hx,e'⟩|⟨xs,hx,e'⟩
  ·subst e'
   obtain⟨its,r',pl,hz⟩:=I.list hx
   have hlen:=r'.length
   exact Calls.call_len_list pl.isList (by simp only[List.size_toArray];omega) ⟨.int xs.length,H,I.tok _,⟨_,by simp only[List.size_toArray];rw[hlen]⟩,q⟩
  ·subst e'
   obtain⟨its,r',pl,hz⟩:=I.tuple hx
   have hlen:=r'.length
   exact len_tuple pl (by simp only[List.size_toArray];omega) ⟨.int xs.length,H,I.tok _,⟨_,by simp only[List.size_toArray];rw[hlen]⟩,q⟩
 |_=>exact (show False from e).elim
end
end L2
namespace L2
open PySem PySem.Spec PyProof.Rows
structure ObjM (h:Heap) (x dx C:Addr) (mA:Str→Option Value):Prop where
 obj:h.get? x=some (PySem.W.instObj C dx)
 ns:h.Ns1 dx mA
 ne:dx≠x
theorem agw {h:Heap} {dx:Addr} {mA:Str→Option Value} (n:h.Ns1 dx mA):∃od,h.get? dx=some od∧∀name,PySem.W.lookIn name od=some (mA name):=by
 obtain⟨o,es,ep,ho,hd,hk,_,hm⟩:=n
 refine⟨o,ho,fun name=>?_⟩
 have e:=hm name
 unfold nsFind findBy at e
 rw[←Array.find?_toList] at e
 unfold PySem.W.lookIn
 rw[hd]
 dsimp only
 split
 ·rename_i y q
  rw[q] at e
  exact congrArg some e
 ·rename_i q
  rw[q] at e
  have a:es.toList.any (·.refKey)=false:=by
   rw[List.any_eq_false]
   intro y hy
   obtain⟨z,t,hkey⟩:=hk y (Array.mem_toList_iff.mp hy)
   simp[DictEntry.refKey,hkey]
  have a':¬es.toList.any (·.refKey)=true:=by rw[a];exact Bool.false_ne_true
  rw[if_neg a']
  exact congrArg some e
theorem ObjM.look {h:Heap} {x dx C:Addr} {mA:Str→Option Value} (I:ObjM h x dx C mA):∃od,PySem.W.InstAt h x (PySem.W.instObj C dx) C (some od)∧∀name,PySem.W.lookIn name od=some (mA name):=
 let ⟨od,ho,hl⟩:=agw I.ns
 ⟨od,⟨I.obj,rfl,rfl,ho⟩,hl⟩
section
variable {prog:Program} {w:World} {A:Around} {E:Value→Shared→Prop} {s:Shared} {K:PySem.W.Frag} {x dx C f:Addr} {mA:Str→Option Value} {name:Str} {v:Value}
end
section
variable {P:Program} {w:World} {H H':Hp} {h h':Heap} {a C dx:Addr} {fs fs':List (Str×V)}
theorem ajv (hok:HOk P w H h) (e:H a=some (.ins C dx fs)):∃mA,ObjM h a dx C mA∧(∀f,RelO (fs.lookup f) (mA f))∧PySem.Within mA (fs.map (·.1))∧fs.length≤1000∧H dx=some (.own a):=by
 obtain⟨d,z,ne,ob,mA,n,r,q⟩:=(show ObjOk P w H h a (.ins C dx fs) from hok a _ e)
 exact⟨mA,⟨ob,n,ne⟩,r,q,z,d⟩
end
structure Cls (K:PySem.W.Frag) (C:Addr):Prop where
 pg:PySem.W.plainGet K C Str.empty=true
 hd:PySem.W.hasDictIn K C=true
 po:PySem.W.plainOver K C=true
 sa:PySem.W.findIn K (.ref C) "__setattr__"=some (some (.builtin "object.__setattr__"))
theorem Cls.get {K:PySem.W.Frag} {C:Addr} (c:Cls K C) (f:Str):PySem.W.plainGet K C f=true:=c.pg
structure Meth (K:PySem.W.Frag) (C:Addr) (m:Str) (f:Addr):Prop where
 at_:PySem.W.findIn K (.ref C) m=some (some (.ref f))
 fn:PySem.W.isFn K (.ref f)=true
 kp:PySem.W.keepIn K (.ref f)=true
section
variable {X:Cx} {pins:List (Addr×Obj)} {σ:St} {H:Hp} {s:Shared} {a C dx:Addr} {fs:List (Str×V)} {f:Str} {v:V} {A:Around} {E:Value→Shared→Prop}
end
section
variable {X:Cx} {o e value:Expr} {f:Str} {pos pos' tpos:Pos} {ta tv:TE}
end
section
variable {X:Cx} {pins:List (Addr×Obj)} {σ:St} {H:Hp} {s:Shared} {A:Around} {E:Value→Shared→Prop} {Q:Value→Shared→Prop} {c:Value} {b:Bool}
inductive TyOf (K:PySem.W.Frag) (H:Hp):V→Value→Prop where
 |non:TyOf K H .non (.type "NoneType")
 |bl (x:Bool):TyOf K H (.bl x) (.type "bool")
 |int (i:Int):TyOf K H (.int i) (.type "int")
 |str (x:Str):TyOf K H (.str x) (.type "str")
 |flt (x:UInt64):TyOf K H (.flt x) (.type "float")
 |lst {a:Addr} {xs:List V} (e:H a=some (.lst xs)):TyOf K H (.ref a) (.type "list")
 |frz {a:Addr} {o:Obj} {xs:List V} (e:H a=some (.frz o (.lst xs))):TyOf K H (.ref a) (.type "list")
 |tup {a:Addr} {xs:List V} (e:H a=some (.tup xs)):TyOf K H (.ref a) (.type "tuple")
 |dK {a:Addr} {kvs:List (Key×V)} (e:H a=some (.dK kvs)):TyOf K H (.ref a) (.type "dict")
 |dT {a:Addr} {kvs:List (List Key×V)} (e:H a=some (.dT kvs)):TyOf K H (.ref a) (.type "dict")
 |ins {a C dx:Addr} {fs:List (Str×V)} (e:H a=some (.ins C dx fs)) (cl:Cls K C) (ha:PySem.W.findIn K (.ref C) "__class__"=some (some (.builtin "object.__class__")))
  (hn:PySem.W.specialIn K (.builtin "object.__class__") "__get__"=some (some (.builtin "getset_descriptor.__get__"))) (htk:PySem.W.takesIn K (.builtin "object.__class__")=some true)
  (hm:PySem.W.mroIn K C (.type "object")=some true):TyOf K H (.ref a) (.ref C)
theorem agx {x:V} {u t:Value} (I:Inv X pins σ H s) (rx:RelV x u) (ty:TyOf X.K H x t) (e:PySem.W.kitOne X.K t c=some b) (h:∀tk,Q (.bool b) {s with toks:=tk}):
  wpAny (model X.prog X.w) A (call (.builtin "isinstance") [u,c]) Q E s:=by
 cases ty with
 |non=>cases (show u=Value.none from rx);exact PySem.W.kia_one PySem.W.kitx_none I.kIn True.intro e (fun z=>nomatch z) h
 |bl y=>cases (show u=Value.bool y from rx);exact PySem.W.kia_one PySem.W.kitx_bool I.kIn True.intro e (fun z=>nomatch z) h
 |int i=>obtain⟨t,q⟩:=(show ∃t,u=Value.int i t from rx);cases q;exact PySem.W.kia_one PySem.W.kitx_int I.kIn True.intro e (fun z=>nomatch z) h
 |str y=>obtain⟨t,q⟩:=(show ∃t,u=Value.str y t from rx);cases q;exact PySem.W.kia_one PySem.W.kitx_str I.kIn True.intro e (fun z=>nomatch z) h
 |flt y=>obtain⟨t,q⟩:=(show ∃t,u=Value.float y t from rx);cases q;exact PySem.W.kia_one PySem.W.kitx_float I.kIn True.intro e (fun z=>nomatch z) h
 |@lst a xs ea=>
  cases (show u=Value.ref a from rx)
  obtain⟨_,_,n,_,h1⟩:=(show ObjOk X.prog X.w H s.heap a (.lst xs) from I.hok a _ ea)
  exact PySem.W.kia_one PySem.W.kitx_list I.kIn ⟨_,h1,rfl⟩ e (fun z=>nomatch z) h
 |@frz a ob xs ea=>
  cases (show u=Value.ref a from rx)
  obtain⟨_,_,_,n,_,h1⟩:=(show ObjOk X.prog X.w H s.heap a (.frz ob (.lst xs)) from I.hok a _ ea)
  exact PySem.W.kia_one PySem.W.kitx_list I.kIn ⟨_,h1,rfl⟩ e (fun z=>nomatch z) h
 |@tup a xs ea=>
  cases (show u=Value.ref a from rx)
  obtain⟨_,_,_,p⟩:=(show ObjOk X.prog X.w H s.heap a (.tup xs) from I.hok a _ ea)
  obtain⟨o,h1,h2,_⟩:=p
  exact PySem.W.kia_one PySem.W.kitx_tuple I.kIn ⟨o,h1,h2⟩ e (fun z=>nomatch z) h
 |@dK a kvs ea=>
  cases (show u=Value.ref a from rx)
  obtain⟨_,_,vs,_,p⟩:=(show ObjOk X.prog X.w H s.heap a (.dK kvs) from I.hok a _ ea)
  obtain⟨o,es,ep,h1,h2,_⟩:=p
  exact PySem.W.kia_one PySem.W.kitx_dict I.kIn ⟨o,h1,h2.1⟩ e (fun z=>nomatch z) h
 |@dT a kvs ea=>
  cases (show u=Value.ref a from rx)
  obtain⟨_,_,xs,_,o,es,ep,h1,h2,_⟩:=(show ObjOk X.prog X.w H s.heap a (.dT kvs) from I.hok a _ ea)
  exact PySem.W.kia_one PySem.W.kitx_dict I.kIn ⟨o,h1,h2.1⟩ e (fun z=>nomatch z) h
 |@ins a C dx fs ea cl ha hn htk hm=>
  cases (show u=Value.ref a from rx)
  obtain⟨mA,O,_⟩:=ajv I.hok ea
  obtain⟨od,J,_⟩:=O.look
  exact PySem.W.kia_one (PySem.W.kitx_own (cl.get _) cl.hd ha hn htk hm) I.kIn J e (fun z=>nomatch z) h
end
end L2
namespace L2
open PySem PySem.Spec PyProof.Rows
structure Room (k:Nat) (A:Around):Prop where
 hd:A.handled=none
 dp:A.depth+3 * k+5 < recursionLimit
 un:A.units+16 * k+200 < cLine
theorem Room.mono {j k:Nat} {A:Around} (r:Room k A) (h:j≤k):Room j A:=⟨r.hd,by have:=r.dp;omega,by have:=r.un;omega⟩
theorem Room.deeper {k:Nat} {A:Around} (r:Room (k+1) A) (env:Env):Room k (A.deeper env):=
 ⟨r.hd,by have:=r.dp;show A.depth+1+3 * k+5 < _;omega,by have:=r.un;show A.units+3+16 * k+200 < _;omega⟩
theorem Room.depth {k:Nat} {A:Around} (r:Room k A):A.depth < recursionLimit:=by have:=r.dp;omega
theorem Room.units {k:Nat} {A:Around} (r:Room k A):A.units+64 < cLine:=by have:=r.un;omega
noncomputable def tNil:TA:=fun _ H Q=>Q [] H
noncomputable def tCons (ta:TE) (tr:TA):TA:=fun σ H Q=>ta σ H fun x H1=>tr σ H1 fun xs H2=>Q (x::xs) H2
section
variable {X:Cx} {e:Expr} {es:List Expr} {te:TE} {t:TA} {pos:Pos}
theorem aab:PA X [] tNil:=fun _ _ _ _ H Q I h=>Calls.spliced_nil ⟨[],H,I,.nil,h⟩
theorem aaa (ha:PE X e te) (hr:PA X es t) (hs:starEach (e::es) X.env=(false,eval e X.env)::starEach es X.env:=by rfl):PA X (e::es) (tCons te t):=by
 intro pos pins s σ H Q I h
 rw[hs]
 show wpAny _ _ (spliced ((false,eval e X.env)::backTo pos (starEach es X.env))) _ _ s
 refine Calls.spliced_cons (thn (ha pins s σ H _ I h) fun u s1 ⟨x,H1,I1,r1,q1⟩=>?_)
 exact thn (hr pos pins s1 σ H1 _ I1 q1) fun us s2 ⟨xs,H2,I2,r2,q2⟩=>⟨x::xs,H2,I2,.cons r1 r2,q2⟩
noncomputable def tTup (t:TA):TE:=fun σ H Q=>t σ H fun xs H1=>xs.length≤sizeLine∧∀p,H1 p=none→Q (.ref p) (upd H1 p (.tup xs))
noncomputable def tLst (t:TA):TE:=fun σ H Q=>t σ H fun xs H1=>xs.length≤sizeLine∧∀p,H1 p=none→Q (.ref p) (upd H1 p (.lst xs))
theorem abm {x1} (h:PA X es t):PE X (.Tuple es x1 pos) (tTup t):=by
 intro pins s σ H Q I hq
 refine wpAny_Tuple_spliced (thn (h pos pins s σ H _ I hq) fun us s1 ⟨xs,H1,I1,r,z,q⟩=>⟨by rw[←r.length];exact z,?_⟩)
 have hf:H1 s1.heap.objs.size=none:=I1.hok.fresh (Nat.le_refl _)
 refine⟨.ref s1.heap.objs.size,upd H1 s1.heap.objs.size (.tup xs),I1.laid (t':=s1.toks) (fun b u e=>Heap.get?_push_of_some _ e) (Nat.le_refl _) ?_,rfl,q _ hf⟩
 exact⟨z,us,r,⟨_,Heap.get?_push_size _ rfl,rfl,_,rfl⟩⟩
theorem acd (h:PA X es t):PE X (.List es pos) (tLst t):=by
 intro pins s σ H Q I hq
 refine wpAny_List_spliced (thn (h pos pins s σ H _ I hq) fun us s1 ⟨xs,H1,I1,r,z,q⟩=>⟨by rw[←r.length];exact z,?_⟩)
 have hf:H1 s1.heap.objs.size=none:=I1.hok.fresh (Nat.le_refl _)
 refine⟨.ref s1.heap.objs.size,upd H1 s1.heap.objs.size (.lst xs),I1.laid (t':=s1.toks) (fun b u e=>Heap.get?_push_of_some _ e) (Nat.le_refl _) ?_,rfl,q _ hf⟩
 exact⟨z,us,0,r,Heap.get?_push_size _ rfl⟩
end
noncomputable abbrev Sp:=List V→Hp→VK→XK→Prop
noncomputable abbrev CXT:=List Env→Hp→Shared→XK→Value→Shared→Prop
structure Env0 (P:Program) (w:World) (K:PySem.W.Frag) (mg:Str→Option Value) (base:Heap) (A:Around) (outer:List Env) (s:Shared) (H:Hp):Prop where
 frames:A.frames=some outer
 mod:Mod K mg base
 bs:∀b o,base.get? b=some o→s.heap.get? b=some o∧H b=none
 bsz:base.objs.size≤s.heap.objs.size
 funs:s.heap.FunFrames base outer
 frf:∀b∈frs outer,H b=none
 hok:HOk P w H s.heap
 bare:AllBare s.gens
noncomputable def CE (outer:List Env) (P:Program) (w:World) (H:Hp) (s:Shared) (Q:VK) (u:Value) (s':Shared):Prop:=
 ∃v H',s'.os=s.os∧AllBare s'.gens∧Un (frs outer) [] H H' s.heap s'.heap∧HOk P w H' s'.heap∧RelV v u∧Q v H'
noncomputable def CR (CX:CXT) (outer:List Env) (P:Program) (w:World) (H:Hp) (s:Shared) (Q:VK) (E:XK) (r:Result) (s':Shared):Prop:=
 match r with
 |.ok (.ret u)=>CE outer P w H s Q u s'
 |.ok _=>False
 |.error e=>CX outer H s E e s'
structure FnOk (P:Program) (w:World) (K:PySem.W.Frag) (mg:Str→Option Value) (base:Heap) (CX:CXT) (k:Nat) (f:Addr) (fd:FuncData) (ps:List Str) (sp:Sp):Prop where
 len:∀vs H Q E,sp vs H Q E→vs.length=ps.length
 run:∀(A:Around) (outer:List Env) (s:Shared) (H:Hp) (args:Args) (us:List Value) (vs:List V) (Q:VK) (E:XK),Room k A→Env0 P w K mg base A outer s H→BindsTo s fd args (ps.zip us)→Vals vs us→sp vs H Q E→
  codeAny (model P w) A (.call (.ref f) args) (CR CX outer P w H s Q E) s
section
variable {X:Cx} {pins:List (Addr×Obj)} {σ:St} {H:Hp} {s s':Shared}
theorem Inv.env0 (I:Inv X pins σ H s):Env0 X.prog X.w X.K X.mg X.base X.A X.stack s H:=
 ⟨I.ok.frames,I.ok.mod,I.bs,Nat.le_trans I.ok.bsz I.sz,I.stack,I.stkFree,I.hok,I.bare⟩
theorem Inv.after {Q:VK} {u:Value} (I:Inv X pins σ H s) (h:CE X.stack X.prog X.w H s Q u s'):EP X pins σ Q u s':=by
 obtain⟨v,H',os,bare,un,hok,r,q⟩:=h
 obtain⟨hh,g,d,t,os'⟩:=s'
 obtain rfl:os'=s.os:=os
 exact⟨v,H',I.call (h':=hh) (g':=g) (d':=d) (t':=t) (ch:=[]) un hok bare (fun b z=>absurd z (by simp)),r,q⟩
end
noncomputable def Binds (K:PySem.W.Frag) (fd:FuncData) (ps:List Str) (ds:List Value):Prop:=
 ∀(s:Shared) (us:List Value),K.In s.heap→(us++ds).length=ps.length→BindsTo s fd ⟨us,[]⟩ (ps.zip (us++ds))
theorem Binds.all {K:PySem.W.Frag} {fd:FuncData} {ps:List Str} (h:∀us:List Value,us.length=ps.length→bindArgs fd ⟨us,[]⟩=pure (ps.zip us)):Binds K fd ps []:=fun s us _ hl=>by
 rw[List.append_nil] at hl ⊢
 exact .of_eq (h us hl)
section
variable {X:Cx} {CX:CXT} {k:Nat} {f C:Addr} {fd:FuncData} {ps:List Str} {sp:Sp} {dvs:List V} {ds:List Value} {E:XK} {x m:Str} {p pos apos:Pos} {e o:Expr} {es:List Expr} {ta:TE} {t:TA}
structure Mk (K:PySem.W.Frag) (C f:Addr):Prop where
 makes:PySem.W.makesIn K C=true
 init:PySem.W.findIn K (.ref C) "__init__"=some (some (.ref f))
 fn:PySem.W.isFn K (.ref f)=true
 kp:PySem.W.keepIn K (.ref C)=true
end
section
variable {X:Cx} {CX:CXT} {k:Nat} {f C:Addr} {fd:FuncData} {ps ks:List Str} {sp:Sp} {E:XK} {x m:Str} {p pos apos kpos:Pos} {e o:Expr} {es:List Expr} {kws:List Keyword} {te ta:TE} {t tk:TA} {nm:Option Str}
variable {g:List Value→List Value→List Value} {gV:List V→List V→List V}
end
structure FnScope (N P:List Str) (sc:Scope):Prop where
 kind:sc.kind=.function
 co:sc.isCoroutine=false
 gen:sc.isGenerator=false
 nd:N.Nodup
 pre:N.take P.length=P
 par:∀x∈P,sc.names.lookup x=some .local∨sc.names.lookup x=some .cell
 nofree:∀y∈sc.names,y.2≠.free
theorem ael {kindOf:Str→Option NameKind} {x:Str}:∀{binds:List (Str×Value)} {m:Str→Option Value},(∀v,(x,v)∉binds)→bindL kindOf binds m x=m x
 |[],_,_=>rfl
 |(n,v)::r,m,h=>by
  unfold bindL
  rw[ael fun w hw=>h w (List.mem_cons_of_mem _ hw)]
  split
  ·have:x≠n:=by rintro rfl;exact h v List.mem_cons_self
   simp[this]
  ·rfl
theorem aem {kindOf:Str→Option NameKind} {x:Str}:∀{binds:List (Str×Value)} {m:Str→Option Value},(∀v,(x,v)∉binds)→bindC kindOf binds m x=m x
 |[],_,_=>rfl
 |(n,v)::r,m,h=>by
  unfold bindC
  rw[aem fun w hw=>h w (List.mem_cons_of_mem _ hw)]
  split
  ·rfl
  ·have:x≠n:=by rintro rfl;exact h v List.mem_cons_self
   simp[this]
theorem aen {kindOf:Str→Option NameKind} {x:Str} {v:Value}:∀{P:List Str} {vs:List Value} {i:Nat} {m:Str→Option Value},P.Nodup→P[i]?=some x→vs[i]?=some v→kindOf x=some .local→
  bindL kindOf (P.zip vs) m x=some v
 |[],_,_,_,_,h,_,_=>by simp at h
 |_::_,[],_,_,_,_,h,_=>by simp at h
 |p::P,w::vs,0,m,nd,h1,h2,hk=>by
  simp at h1 h2;subst h1;subst h2
  show bindL kindOf ((p,w)::P.zip vs) m p=_
  unfold bindL
  rw[ael fun v hv=>(List.nodup_cons.mp nd).1 (List.of_mem_zip hv).1,if_pos hk]
  simp
 |p::P,w::vs,i+1,m,nd,h1,h2,hk=>by
  show bindL kindOf ((p,w)::P.zip vs) m x=_
  unfold bindL
  exact aen (i:=i) (List.nodup_cons.mp nd).2 (by simpa using h1) (by simpa using h2) hk
theorem aeo {kindOf:Str→Option NameKind} {x:Str} {v:Value}:∀{P:List Str} {vs:List Value} {i:Nat} {m:Str→Option Value},P.Nodup→P[i]?=some x→vs[i]?=some v→kindOf x≠some .local→
  bindC kindOf (P.zip vs) m x=some v
 |[],_,_,_,_,h,_,_=>by simp at h
 |_::_,[],_,_,_,_,h,_=>by simp at h
 |p::P,w::vs,0,m,nd,h1,h2,hk=>by
  simp at h1 h2;subst h1;subst h2
  show bindC kindOf ((p,w)::P.zip vs) m p=_
  unfold bindC
  rw[aem fun v hv=>(List.nodup_cons.mp nd).1 (List.of_mem_zip hv).1,if_neg hk]
  simp
 |p::P,w::vs,i+1,m,nd,h1,h2,hk=>by
  show bindC kindOf ((p,w)::P.zip vs) m x=_
  unfold bindC
  exact aeo (i:=i) (List.nodup_cons.mp nd).2 (by simpa using h1) (by simpa using h2) hk
noncomputable def start (N:List Str) (vs:List V):St:=vs.map some++List.replicate (N.length - vs.length) none
noncomputable def cxOf (CX:CXT) (P:Program) (w:World) (K:PySem.W.Frag) (mg:Str→Option Value) (base:Heap) (N:List Str) (qual:Str) (scope:Scope) (f:Addr) (cd:Value) (A:Around) (outer:List Env) (s:Shared) (H:Hp) (E:XK):Cx where
 prog:=P
 w:=w
 K:=K
 mg:=mg
 base:=base
 A:=A.deeper (envOfC qual scope s.heap.objs.size f cd)
 N:=N
 s₀:=s
 H₀:=H
 env:=envOfC qual scope s.heap.objs.size f cd
 outer:=outer
 stack:=envOfC qual scope s.heap.objs.size f cd::outer
 ex:=[]
 calm:=true
 fn:=fun _=>true
 pn:=[]
 xe:=fun e s'=>wpAny (model P w) (A.deeper (envOfC qual scope s.heap.objs.size f cd)) (leaving (envOfC qual scope s.heap.objs.size f cd) e) (fun _ s''=>CX outer H s E e s'') (fun e' s''=>CX outer H s E e' s'') s'
theorem afm {sc:Scope} {n:Nat} {x:Str} (h:sc.names.lookup x=some .cell):∃c,(cellsFrom n sc.names []).lookup x=some c:=by
 have q:=PySem.W.cellsFrom_some sc.names n [] (.inl h)
 exact Option.isSome_iff_exists.mp q
theorem agy {CX:CXT} {P:Program} {w:World} {K:PySem.W.Frag} {mg:Str→Option Value} {base:Heap} {N ps:List Str} {qual:Str} {scope:Scope} {f:Addr} {cd:Value} {A:Around} {outer:List Env} {s s1:Shared} {H:Hp} {E:XK} {us:List Value} {vs:List V}
  (S:FnScope N ps scope) (hd:A.handled=none) (e0:Env0 P w K mg base A outer s H) (hl:vs.length=ps.length) (r:Vals vs us)
  (x:InCallC s s.heap.objs.size (bindL (envOfC qual scope s.heap.objs.size f cd).kindOf (ps.zip us) fun _=>none) (cellsFrom (s.heap.objs.size+1) scope.names []) (bindC (envOfC qual scope s.heap.objs.size f cd).kindOf (ps.zip us) fun _=>none) s1):
  Inv (cxOf CX P w K mg base N qual scope f cd A outer s H E) [] (start N vs) H s1:=by
 have hpl:ps.length≤N.length:=by have:=congrArg List.length S.pre;rw[List.length_take] at this;omega
 obtain⟨h1,tk,rfl,hk⟩:=x.done
 have noA:∀b:Addr,b∉(cxOf CX P w K mg base N qual scope f cd A outer s H E).ex:=fun b z=>absurd (show b∈([]:List Addr) from z) (by simp)
 refine⟨⟨e0.mod,S.kind,rfl,rfl,Nat.le_refl _,fun y z c h1 h2=>?_,fun y hy=>?_,fun y c _ h=>?_,fun _=>hd,Around.frames_deeper e0.frames,.inr ⟨rfl,rfl⟩,fun b z=>absurd z (noA b),e0.bs,e0.bsz,fun b _ _=>noA b,fun b z=>absurd z (noA b),e0.funs,e0.frf⟩,
  rfl,e0.bare,Un.kept hk,⟨_,x.toInCall.ns,fun i y v h1 h2 h3=>?_⟩,fun y c h=>⟨_,x.cell y c h⟩,e0.hok.fresh (Nat.le_refl _),fun y c h=>?_,fun p hp=>absurd (show p∈([]:List (Addr×Obj)) from hp) (by simp),e0.hok.kept hk,?_⟩
 ·exact name_of_addr x.apart (PySem.mem_of_lookup h1) (PySem.mem_of_lookup h2)
 ·have hy:scope.names.lookup y=some .cell∨scope.names.lookup y=some .free:=hy
  rcases hy with hy|hy
  ·exact afm hy
  ·exact absurd rfl (S.nofree _ (PySem.mem_of_lookup hy))
 ·exact Nat.le_of_lt (x.above y c (PySem.mem_of_lookup h))
 ·have hi:i < vs.length:=by
   unfold start at h2
   by_cases hi:i < vs.length
   ·exact hi
   ·rw[List.getElem?_append_right (by simpa using hi)] at h2
    rw[List.getElem?_replicate] at h2
    split at h2<;>cases h2
  have ha:vs[i]?=some v:=by
   unfold start at h2
   rw[List.getElem?_append_left (by simpa using hi),List.getElem?_map] at h2
   cases e:vs[i]? with
   |none=>rw[e] at h2;cases h2
   |some a=>rw[e] at h2;cases h2;rfl
  obtain⟨u,hu,rv⟩:=r.get ha
  have hp:ps[i]?=some y:=by
   rw[←S.pre,List.getElem?_take_of_lt (by omega)];exact h1
  have ndP:ps.Nodup:=by rw[←S.pre];exact S.nd.sublist (List.take_sublist _ _)
  refine⟨u,rv,?_⟩
  rcases S.par y (List.mem_of_getElem? hp) with k|k
  ·exact .inl ⟨k,aen ndP hp hu k⟩
  ·obtain⟨c,e⟩:=afm (n:=s.heap.objs.size+1) k
   refine .inr ⟨.inl k,c,e,?_⟩
   have q:=x.cell y c e
   rw[aeo ndP hp hu (by show scope.names.lookup y≠_;rw[k];decide)] at q
   exact q
 ·exact e0.hok.fresh (Nat.le_of_lt (x.above y c (PySem.mem_of_lookup h)))
 ·unfold start
  show _=N.length
  rw[List.length_append,List.length_map,List.length_replicate]
  omega
theorem ajw {CX:CXT} {P:Program} {w:World} {K:PySem.W.Frag} {mg:Str→Option Value} {base:Heap} {k:Nat} {f:Addr} {name qual:Str} {params:Arguments} {body:List Stmt} {scope:Scope} {dV kV doc pm cdv ct oc:Value} {an od:Option Addr}
  {osl:Array (Option Value)} {N ps:List Str} {sp:Sp} (lk:K.lookup f=some ⟨oc,od,.func (PySem.W.fnOf name qual params body scope dV kV doc pm an cdv ct),osl⟩) (hcd:PySem.W.codeIn K cdv qual=true) (S:FnScope N ps scope)
  (len:∀vs H Q E,sp vs H Q E→vs.length=ps.length)
  (hbody:∀(A:Around) (outer:List Env) (s:Shared) (H:Hp) (vs:List V) (Q:VK) (E:XK),Room k (A.deeper (envOfC qual scope s.heap.objs.size f cdv))→sp vs H Q E→
   ∃t,PSs (cxOf CX P w K mg base N qual scope f cdv A outer s H E) body t∧t {nx:=fun _ H'=>Q .non H',rt:=Q} (start N vs) H):
  FnOk P w K mg base CX (k+1) f (PySem.W.fnOf name qual params body scope dV kV doc pm an cdv ct) ps sp:=by
 refine⟨len,fun A outer s H args us vs Q E hr e0 hb r hsp=>?_⟩
 have hl:=len _ _ _ _ hsp
 have KX:K.In s.heap:=e0.mod.kin.keeps fun b o e=>(e0.bs b o e).1
 have lim:s.heap.NoLimit:=e0.mod.nolimit.keeps fun b o e=>(e0.bs b o e).1
 have hkind:∀y∈ps.zip us,scope.names.lookup y.1=some .local∨(scope.names.lookup y.1=some .cell∧((cellsFrom (s.heap.objs.size+1) scope.names []).lookup y.1).isSome=true):=fun ⟨n,v⟩ hy=>by
  rcases S.par n (List.of_mem_zip hy).1 with q|q
  ·exact .inl q
  ·exact .inr ⟨q,PySem.W.cellsFrom_some _ _ _ (.inl q)⟩
 refine codeAny_call_function hr.depth (KX _ _ lk) rfl S.co S.gen rfl (PySem.W.codeRec_of KX hcd) (hb _ _ _ _ ?_)
 refine wpAny_newFunctionEnv_cells S.kind hkind fun env he s1 x=>?_
 subst he
 refine⟨lim.keeps x.toInCall.keep,codeAny_func ?_⟩
 obtain⟨t,ht,hq⟩:=hbody A outer s H vs Q E (hr.deeper _) hsp
 have I:Inv (cxOf CX P w K mg base N qual scope f cdv A outer s H E) [] (start N vs) H s1:=agy S hr.hd e0 hl r x
 refine wpAny_mono (ht [] s1 (start N vs) H _ I hq) (fun fl s' hs=>?_) fun e s' hs=>hs
 have fin:∀{σ':St} {H':Hp} {v:V} {u:Value},Inv (cxOf CX P w K mg base N qual scope f cdv A outer s H E) [] σ' H' s'→RelV v u→Q v H'→CE outer P w H s Q u s':=
  fun {σ' H' v u} J rv q=>⟨v,H',J.os,J.bare,J.base,J.hok,rv,q⟩
 cases fl with
 |ret u=>
  obtain⟨v,σ',H',J,rv,q⟩:=hs
  exact fin J rv q
 |next=>
  obtain⟨σ',H',J,q⟩:=hs
  exact fin (v:=V.non) (u:=Value.none) J rfl q
 |brk=>
  obtain⟨_,_,_,q⟩:=hs
  exact False.elim q
 |cont=>
  obtain⟨_,_,_,q⟩:=hs
  exact False.elim q
end L2
namespace L2
open PySem PySem.Spec PyProof.Rows
section
variable {X:Cx} {x:Str} {p pos:Pos} {e:Expr} {es:List Expr} {t:TA} {id T:String} {r:List V→Hp→VK→Prop}
noncomputable def tCB (r:List V→Hp→VK→Prop) (t:TA):TE:=fun σ H Q=>t σ H fun vs H1=>r vs H1 Q
theorem aaq (hc:CallR X (.builtin id) r) (hg:Gl X x) (hm:X.mg x=none) (hv:bootBuiltins x=some (.builtin id)) (ha:PA X (e::es) t) (hn:x≠"__name__":=by decide) (hdb:(x == ("__debug__":Str))=false:=by decide)
  (he:starEach (e::es) X.env=(false,eval e X.env)::starEach es X.env:=by rfl) (hpl:(backTo pos (starEach es X.env)).any (·.1)=false:=by rfl):PE X (.Call (.Name x p) (e::es) [] pos) (tCB r t):=by
 intro pins s σ H Q I h
 refine wpAny_Call_Name_kw (aei I hg hm hv ?_ hn hdb)
 exact PyProof.Rows.callWith_builtin1 (thn (ha pos pins s σ H _ I h) fun us s1 ⟨vs,H1,I1,r1,q1⟩=>hc pins s1 σ H1 vs us Q I1 r1 q1) he hpl
theorem ab0 (hc:CallR X (.type T) r) (hg:Gl X x) (hm:X.mg x=none) (hv:bootBuiltins x=some (.type T)) (ha:PA X (e::es) t) (hn:x≠"__name__":=by decide) (hdb:(x == ("__debug__":Str))=false:=by decide)
  (he:starEach (e::es) X.env=(false,eval e X.env)::starEach es X.env:=by rfl) (hpl:(backTo pos (starEach es X.env)).any (·.1)=false:=by rfl):PE X (.Call (.Name x p) (e::es) [] pos) (tCB r t):=by
 intro pins s σ H Q I h
 refine wpAny_Call_Name_kw (aei I hg hm hv ?_ hn hdb)
 exact PyProof.Rows.callWith_type1 (thn (ha pos pins s σ H _ I h) fun us s1 ⟨vs,H1,I1,r1,q1⟩=>hc pins s1 σ H1 vs us Q I1 r1 q1) he hpl
end
end L2
namespace HT
open PySem PyProof.Rows
section
open PySem.SeqAt
open PySem.AutoSeq1 (wpAny_loadPart')
open PySem.MeetsSeq PySem.MeetsSeq2 PySem.MeetsSeq3
end
section
variable {prog:Program} {w:World} {A:Around} {E:Value→Shared→Prop} {s:Shared}
theorem ajx {t b:Addr} {vs ws:List Value} {Q:Value→Shared→Prop} (ht:IsTup s.heap t vs.toArray) (hb:IsTup s.heap b ws.toArray) (hv:vs≠[])
  (h1:ws=[]→Q (.ref t) s) (h2:ws≠[]→Q (.ref s.heap.objs.size) {s with heap:=s.heap.push {cls:=.type "tuple",data:=.seq (vs++ws).toArray}})
  (hsz:vs.length+ws.length≤sizeLine):wpAny (model prog w) A (binaryOp .Add (.ref t) (.ref b)) Q E s:=by
 obtain⟨⟨cls,dd,data,sl⟩,ho,hc,n,hd⟩:=id ht
 obtain⟨⟨cls2,dd2,data2,sl2⟩,ho2,hc2,n2,hd2⟩:=id hb
 simp only at hc hd hc2 hd2
 subst hc hd hc2 hd2
 have e:vs.toArray++ws.toArray=(vs++ws).toArray:=by simp
 by_cases hw:ws=[]
 ·exact concat_meets ⟨_,ho,rfl⟩ ⟨_,ho2,rfl⟩ noFill_tuple_add seq_tuple_add PySem.F.slot_tuple_add PySem.F.entry_tuple_add (PySem.F.args_tuple_add_2 _ _)
   (tuple_addW1 t b vs.toArray ws.toArray n n2 dd dd2 sl sl2 (by simpa using hv) (by simp[hw])) ⟨ho,ho2,h1 hw⟩
 ·refine concat_meets ⟨_,ho,rfl⟩ ⟨_,ho2,rfl⟩ noFill_tuple_add seq_tuple_add PySem.F.slot_tuple_add PySem.F.entry_tuple_add (PySem.F.args_tuple_add_2 _ _)
   (tuple_addW2 t b vs.toArray ws.toArray n n2 dd dd2 sl sl2 (by simpa using hv) (by simpa using hw) (by rw[List.size_toArray,List.size_toArray];exact hsz)) ⟨ho,ho2,?_⟩
  rw[e]
  exact h2 hw
noncomputable def sIx (n d:Nat):Option Int→Nat
 |none=>d
 |some v=>if v < 0 then (v+(n:Int)).toNat else min v.toNat n
theorem sIx_le (n d:Nat) (hd:d≤n) (o:Option Int):sIx n d o≤n:=by
 cases o with
 |none=>exact hd
 |some v=>
  show (if v < 0 then (v+(n:Int)).toNat else min v.toNat n)≤n
  by_cases hv:v < 0
  ·rw[if_pos hv];omega
  ·rw[if_neg hv];exact Nat.min_le_right _ _
theorem agz (v:Int) (n d:Nat):(if v < 0 then max (v+(n:Int)) 0 else min v (n:Int))=((sIx n d (some v):Nat):Int):=by
 show (if v < 0 then max (v+(n:Int)) 0 else min v (n:Int))=(((if v < 0 then (v+(n:Int)).toNat else min v.toNat n):Nat):Int)
 by_cases hv:v < 0
 ·simp only[if_pos hv];omega
 ·simp only[if_neg hv];omega
theorem aga (lo hi:Option Int) (n:Nat):Builtin.Slice.sliceAdjust lo hi 1 (n:Int)=(((sIx n 0 lo:Nat):Int),((sIx n n hi:Nat):Int)):=by
 have h1:¬((1:Int) < 0):=by omega
 unfold Builtin.Slice.sliceAdjust
 simp only[h1,if_false]
 refine Prod.ext ?_ ?_
 ·cases lo with
  |none=>rfl
  |some v=>exact agz v n 0
 ·cases hi with
  |none=>rfl
  |some v=>exact agz v n n
theorem agb (i j:Nat):Builtin.Slice.slicePlaces (i:Int) (j:Int) 1=j - i:=by
 unfold Builtin.Slice.slicePlaces
 have h1:(1:Int) > 0:=by omega
 simp only[h1,if_true,Int.ediv_one]
 split<;>omega
theorem adt {v:Value} {o:Option Int} {Q:Option Int→Shared→Prop} (p:IsPart v o) (h:Q o s):wpAny (model prog w) A (Builtin.Slice.slicePartIndex v) Q E s:=by
 cases p with
 |none=>exact slicePart_none h
 |int i t=>exact slicePart_int h
theorem ac9 {sl:Addr} {vl vu:Value} {lo hi:Option Int} {n:Nat} {Q:Int×Int×Nat→Shared→Prop} (hs:s.heap.IsSliceOf sl vl vu .none) (pl:IsPart vl lo) (pu:IsPart vu hi)
  (h:Q (((sIx n 0 lo:Nat):Int),1,sIx n n hi - sIx n 0 lo) s):wpAny (model prog w) A (Builtin.Slice.sliceApplied (.ref sl) (pure (n:Int))) Q E s:=by
 obtain⟨os,hos,hcs,hds⟩:=id hs
 unfold Builtin.Slice.sliceApplied Builtin.Slice.sliceFields
 refine wpAny_bind (wpAny_bind (wpAny_field hos hds (x:=vl) rfl (wpAny_bind (wpAny_field hos hds (x:=vu) rfl (wpAny_bind (wpAny_field hos hds (x:=.none) rfl (wpAny_pure ?_)))))))
 refine wpAny_bind (slicePart_none ?_)
 show wpAny _ _ (if ((1:Int) == 0)=true then _ else _) _ _ s
 rw[if_neg (by decide)]
 refine wpAny_bind (adt pl (wpAny_bind (adt pu (wpAny_bind (wpAny_pure ?_)))))
 show wpAny _ _ (match Builtin.Slice.sliceAdjust lo hi 1 (n:Int) with|(lo,hi)=>pure (lo,(1:Int),Builtin.Slice.slicePlaces lo hi 1)) _ _ s
 rw[aga lo hi n]
 show wpAny _ _ (pure (((sIx n 0 lo:Nat):Int),(1:Int),Builtin.Slice.slicePlaces ((sIx n 0 lo:Nat):Int) ((sIx n n hi:Nat):Int) 1)) _ _ s
 rw[agb]
 exact wpAny_pure h
theorem aih (xs:Array Value) (i k:Nat):((List.range k).filterMap fun (m:Nat)=>xs[((i:Int)+(m:Int) * 1).toNat]?).toArray=((xs.toList.drop i).take k).toArray:=by
 have e:(fun (m:Nat)=>xs[((i:Int)+(m:Int) * 1).toNat]?)=fun m=>xs[i+m]?:=by
  funext m
  have:((i:Int)+(m:Int) * 1).toNat=i+m:=by omega
  rw[this]
 rw[e]
 have:=pick_run xs i k
 rw[List.filterMap_map] at this
 have e2:((fun x=>xs[x]?) ∘ fun x=>i+x)=fun m=>xs[i+m]?:=rfl
 rw[e2] at this
 rw[this]
theorem acv {t sl:Addr} {items:Array Value} {vl vu:Value} {lo hi:Option Int} {Q:Value→Shared→Prop} (ht:IsTup s.heap t items) (hs:s.heap.IsSliceOf sl vl vu .none) (pl:IsPart vl lo) (pu:IsPart vu hi)
  (hw:¬(sIx items.size 0 lo=0∧sIx items.size items.size hi=items.size))
  (h:Q (.ref s.heap.objs.size) {s with heap:=s.heap.push {cls:=.type "tuple",data:=.seq ((items.toList.drop (sIx items.size 0 lo)).take (sIx items.size items.size hi - sIx items.size 0 lo)).toArray}})
  (hsz:items.size≤sizeLine):wpAny (model prog w) A (getItem (.ref t) (.ref sl)) Q E s:=by
 have htake:sizeOk (.seq ((items.toList.drop (sIx items.size 0 lo)).take (sIx items.size items.size hi - sIx items.size 0 lo)).toArray):=by
  show ((items.toList.drop (sIx items.size 0 lo)).take (sIx items.size items.size hi - sIx items.size 0 lo)).toArray.size≤sizeLine
  rw[List.size_toArray,List.length_take,List.length_drop,Array.length_toList]
  omega
 have hj:sIx items.size items.size hi≤items.size:=sIx_le _ _ (Nat.le_refl _) hi
 obtain⟨os,hos,hcs,hds⟩:=id hs
 have hTs:s.TypeIs (.ref sl) "slice":=⟨os,hos,hcs⟩
 unfold getItem
 try with_reducible refine wpAny_holding ?_
 first|refine wpAny_bind (wpAny_pure ?_)|skip
 refine wpAny_bind (wpAny_sequenceKey ht.typeIs (by decide) ?_)
 refine wpAny_bind (wpAny_callSpecial?_slot (name:=Str.ofString "__getitem__") ht.typeIs PyProof.Rows.slot_tuple_getitem
  (wpAny_call_entry PyProof.Rows.slot_tuple_getitem ht.typeIs entry_tuple_getitem ?_ (args_tuple_getitem _ _)))
 show wpAny _ _ (Builtin.Tuple.tupleItemsOf (.ref t) >>= _) _ _ s
 refine wpAny_bind (tupleItemsOf_ ht ?_)
 refine wpAny_bind (wpAny_typeOf hTs ?_)
 rw[if_pos (by decide)]
 refine wpAny_bind (ac9 hs pl pu ?_)
 have hno:¬((((sIx items.size 0 lo:Nat):Int) == 0&&(1:Int) == 1&&(sIx items.size items.size hi - sIx items.size 0 lo) == items.size)=true):=by
  intro q
  rw[Bool.and_eq_true,Bool.and_eq_true] at q
  have q1:((sIx items.size 0 lo:Nat):Int)=0:=eq_of_beq q.1.1
  have q2:sIx items.size items.size hi - sIx items.size 0 lo=items.size:=eq_of_beq q.2
  exact hw ⟨by omega,by omega⟩
 show wpAny _ _ (if (((sIx items.size 0 lo:Nat):Int) == 0&&(1:Int) == 1&&(sIx items.size items.size hi - sIx items.size 0 lo) == items.size)=true then _ else _) _ _ s
 rw[if_neg hno,aih]
 first
  |exact wpAny_bind (m:=Builtin.Tuple.tupleExact _) (wpAny_newObj_type (wpAny_pure ⟨_,rfl,wpAny_pure h⟩) htake)
  |exact wpAny_bind (m:=Builtin.Tuple.tupleExact _) (wpAny_newObj_type (wpAny_bind (wpAny_pure (wpAny_pure ⟨_,rfl,wpAny_pure h⟩))) htake)
  |exact wpAny_bind (wpAny_bind (m:=Builtin.Tuple.tupleExact _) (wpAny_newObj_type (wpAny_pure (wpAny_pure ⟨_,rfl,wpAny_pure h⟩)) htake))
  |exact wpAny_bind (wpAny_bind (m:=Builtin.Tuple.tupleExact _) (wpAny_newObj_type (wpAny_pure ⟨_,rfl,wpAny_pure h⟩) htake))
end
end HT
namespace L2
open PySem PySem.Spec PyProof.Rows
noncomputable abbrev TO:=St→Hp→(Option Int→Hp→Prop)→Prop
noncomputable def PO (X:Cx) (e:Option Expr) (t:TO):Prop:=
 ∀(pins:List (Addr×Obj)) (s:Shared) (σ:St) (H:Hp) (Q:Option Int→Hp→Prop),Inv X pins σ H s→t σ H Q→
  wpAny (model X.prog X.w) X.A (evalPart e X.env) (fun u s'=>∃o H',Inv X pins σ H' s'∧IsPart u o∧Q o H') X.xe s
noncomputable def tNoPart:TO:=fun _ H Q=>Q none H
noncomputable def tPart (t:TE):TO:=fun σ H Q=>t σ H fun x H1=>∃i,x=.int i∧Q (some i) H1
section
variable {X:Cx} {e:Expr} {te:TE} {lo hi:Option Expr} {tl th:TO} {pos p2:Pos}
theorem abw:PO X none tNoPart:=by
 intro pins s σ H Q I h
 rw[evalPart_none]
 exact wpAny_pure ⟨none,H,I,.none,h⟩
theorem abn (h:PE X e te):PO X (some e) (tPart te):=by
 intro pins s σ H Q I hw
 rw[evalPart_some]
 refine thn (h pins s σ H _ I hw) fun u s1 ⟨x,H1,I1,r1,q1⟩=>?_
 obtain⟨i,rfl,q⟩:=q1
 obtain⟨t,rfl⟩:=r1
 exact⟨some i,H1,I1,.int i t,q⟩
noncomputable def SlR (X:Cx) (r:V→Option Int→Option Int→Hp→VK→Prop):Prop:=
 ∀(pins:List (Addr×Obj)) (s:Shared) (σ:St) (H:Hp) (x:V) (v vl vu:Value) (lo hi:Option Int) (sl:Addr) (Q:VK),Inv X pins σ H s→RelV x v→s.heap.IsSliceOf sl vl vu .none→IsPart vl lo→IsPart vu hi→r x lo hi H Q→
  ∃T id,typeLookup (.type T) "__getitem__"=pure (some (.builtin id))∧s.TypeIs v T∧wpAny (model X.prog X.w) X.A (getItem v (.ref sl)) (EP X pins σ Q) X.xe s
theorem SlR.or {r r':V→Option Int→Option Int→Hp→VK→Prop} (h:SlR X r) (h':SlR X r'):SlR X (fun x lo hi H Q=>r x lo hi H Q∨r' x lo hi H Q):=by
 intro pins s σ H x v vl vu lo hi sl Q I rx hs pl pu q
 rcases q with q|q
 ·exact h pins s σ H x v vl vu lo hi sl Q I rx hs pl pu q
 ·exact h' pins s σ H x v vl vu lo hi sl Q I rx hs pl pu q
noncomputable def tSl (r:V→Option Int→Option Int→Hp→VK→Prop) (te:TE) (tl th:TO):TE:=fun σ H Q=>te σ H fun x H1=>tl σ H1 fun l H2=>th σ H2 fun u H3=>r x l u H3 Q
theorem abd {r:V→Option Int→Option Int→Hp→VK→Prop} (hr:SlR X r) (he:PE X e te) (hl:PO X lo tl) (hu:PO X hi th):PE X (.Subscript e (.Slice lo hi none p2) pos) (tSl r te tl th):=by
 intro pins s σ H Q I h
 refine Subscript_ (thn (he pins s σ H _ I h) fun v s1 ⟨x,H1,I1,r1,q1⟩=>?_)
 refine wpAny_Slice (thn (hl pins s1 σ H1 _ I1 q1) fun vl s2 ⟨l,H2,I2,pl,q2⟩=>thn (hu pins s2 σ H2 _ I2 q2) fun vu s3 ⟨u,H3,I3,pu,q3⟩=>?_)
 rw[evalPart_none]
 refine wpAny_pure ?_
 have I4:Inv X pins σ H3 {s3 with heap:=s3.heap.push {cls:=.type "slice",data:=.fields #[vl,vu,.none]}}:=I3.kept (t':=s3.toks) fun b ob q=>Heap.get?_push_of_some _ q
 obtain⟨T,id,hT,ht,hg⟩:=hr pins {s3 with heap:=s3.heap.push {cls:=.type "slice",data:=.fields #[vl,vu,.none]}} σ H3 x v vl vu l u s3.heap.objs.size Q I4 r1 (Heap.IsSliceOf.new ..) pl pu q3
 show wpAny (model X.prog X.w) X.A (subscriptTail e (.Slice lo hi none p2) v (.ref s3.heap.objs.size)) (EP X pins σ Q) X.xe {s3 with heap:=s3.heap.push {cls:=.type "slice",data:=.fields #[vl,vu,.none]}}
 exact tail_any (ops:=[.ref s3.heap.objs.size,v]) ht hT hg (by with_unfolding_all rfl)
noncomputable def cutV (xs:List V) (lo hi:Option Int):List V:=(xs.drop (HT.sIx xs.length 0 lo)).take (HT.sIx xs.length xs.length hi - HT.sIx xs.length 0 lo)
theorem adf (xs:List V) (lo hi:Option Int):(cutV xs lo hi).length≤xs.length:=by
 unfold cutV
 rw[List.length_take,List.length_drop]
 omega
noncomputable def rSlT (K:PySem.W.Frag):V→Option Int→Option Int→Hp→VK→Prop:=fun x lo hi H Q=>∃a xs,x=.ref a∧SqT K H a xs∧
 ¬(HT.sIx xs.length 0 lo=0∧HT.sIx xs.length xs.length hi=xs.length)∧∀p,H p=none→Q (.ref p) (upd H p (.tup (cutV xs lo hi)))
theorem ajf:SlR X (rSlT X.K):=by
 intro pins s σ H x v vl vu lo hi sl Q I rx hs pl pu h
 obtain⟨a,xs,rfl,hx,hw,q⟩:=h
 cases rx
 obtain⟨its,r,ht,hz⟩:=I.tuple hx
 have hlen:its.toArray.size=xs.length:=by rw[List.size_toArray];exact r.length.symm
 refine⟨"tuple",_,PyProof.Rows.slot_tuple_getitem.lookup,ht.typeIs,?_⟩
 refine HT.acv ht hs pl pu (by rw[hlen];exact hw) ?_ (by rw[hlen];exact hz)
 rw[hlen]
 refine⟨.ref s.heap.objs.size,_,I.laid (t':=s.toks) (o:=.tup (cutV xs lo hi)) (fun b ob q=>Heap.get?_push_of_some _ q) (Nat.le_refl _) ?_,rfl,q _ (I.hok.fresh (Nat.le_refl _))⟩
 exact⟨Nat.le_trans (adf xs lo hi) hz,_,(r.drop (HT.sIx xs.length 0 lo)).take (HT.sIx xs.length xs.length hi - HT.sIx xs.length 0 lo),IsTup.new _ _⟩
noncomputable def rCatT (K:PySem.W.Frag):R2:=fun x y H Q=>∃a b xs ys,x=.ref a∧y=.ref b∧SqT K H a xs∧SqT K H b ys∧xs≠[]∧xs.length+ys.length≤sizeLine∧
 (ys=[]→Q (.ref a) H)∧(ys≠[]→∀p,H p=none→Q (.ref p) (upd H p (.tup (xs++ys))))
theorem Vals.nil_iff {xs:List V} {us:List Value} (r:Vals xs us):us=[]↔xs=[]:=by
 cases r with
 |nil=>simp
 |cons _ _=>simp
theorem ad6:OpR X (binaryOp .Add) (rCatT X.K):=by
 intro pins s σ H x y v u Q I rx ry h
 obtain⟨a,b,xs,ys,rfl,rfl,ha,hb,hx,hz,q1,q2⟩:=h
 cases rx
 cases ry
 obtain⟨its,r1,p1,_⟩:=I.tuple ha
 obtain⟨its2,r2,p2,_⟩:=I.tuple hb
 refine HT.ajx p1 p2 (fun z=>hx (r1.nil_iff.mp z)) (fun z=>⟨.ref a,H,I,rfl,q1 (r2.nil_iff.mp z)⟩) (fun z=>?_) (by rw[←r1.length,←r2.length];exact hz)
 refine⟨.ref s.heap.objs.size,_,I.laid (t':=s.toks) (o:=.tup (xs++ys)) (fun b ob q=>Heap.get?_push_of_some _ q) (Nat.le_refl _) ?_,rfl,q2 (fun w=>z (r2.nil_iff.mpr w)) _ (I.hok.fresh (Nat.le_refl _))⟩
 exact⟨by rw[List.length_append];exact hz,_,r1.append r2,IsTup.new _ _⟩
end
end L2
namespace L2
open PySem PySem.Spec PyProof.Rows
noncomputable def ixN (n:Nat) (i:Int):Option Nat:=if 0≤i then (if i < n then some i.toNat else none) else if -(n:Int)≤i then some (i+n).toNat else none
noncomputable def atI {α:Type} (xs:List α) (i:Int):Option α:=(ixN xs.length i).bind fun j=>xs[j]?
theorem ag0 {n:Nat} {i:Int} {j:Nat} (h:ixN n i=some j):seqIndex? i n=some j∧j < n∧ -(n:Int)≤i∧i < n:=by
 unfold ixN at h
 by_cases h0:0≤i
 ·rw[if_pos h0] at h
  by_cases h1:i < n
  ·rw[if_pos h1] at h
   have e:i.toNat=j:=Option.some.inj h
   exact⟨by rw[seqIndex_of h0 h1,e],by omega,by omega,h1⟩
  ·rw[if_neg h1] at h;cases h
 ·rw[if_neg h0] at h
  by_cases h1: -(n:Int)≤i
  ·rw[if_pos h1] at h
   have e:(i+n).toNat=j:=Option.some.inj h
   exact⟨by rw[seqIndex_neg (by omega) h1,e],by omega,h1,by omega⟩
  ·rw[if_neg h1] at h;cases h
theorem ae8 {α:Type} {xs:List α} {i:Int} {v:α} (h:atI xs i=some v):∃j,seqIndex? i xs.length=some j∧xs[j]?=some v∧j < xs.length∧ -(xs.length:Int)≤i∧i < xs.length:=by
 unfold atI at h
 cases e:ixN xs.length i with
 |none=>rw[e] at h;cases h
 |some j=>
  rw[e] at h
  obtain⟨h1,h2,h3,h4⟩:=ag0 e
  exact⟨j,h1,h,h2,h3,h4⟩
theorem aan {α:Type} {xs:List α} {j:Nat} {v:α} (h:xs[j]?=some v):atI xs (j:Int)=some v:=by
 have hj:j < xs.length:=(List.getElem?_eq_some_iff.mp h).1
 have e:ixN xs.length (j:Int)=some j:=by
  unfold ixN
  rw[if_pos (by omega),if_pos (by omega)];simp
 unfold atI;rw[e];exact h
noncomputable def PlainIx (b:Expr):Prop:=∀o i,subscripted b false o i=operate [o,i] (getItem o i)
noncomputable def IxR (X:Cx) (r:R2):Prop:=
 ∀(value slice:Expr) (pins:List (Addr×Obj)) (s:Shared) (σ:St) (H:Hp) (x y:V) (v u:Value) (Q:VK),Inv X pins σ H s→RelV x v→RelV y u→r x y H Q→
  subscripted slice false v u=operate [v,u] (getItem v u)→wpAny (model X.prog X.w) X.A (subscriptTail value slice v u) (EP X pins σ Q) X.xe s
noncomputable def MtR (X:Cx) (id:String) (r:V→List V→Hp→VK→Prop):Prop:=
 ∀(pins:List (Addr×Obj)) (s:Shared) (σ:St) (H:Hp) (x:V) (xs:List V) (v:Value) (us:List Value) (Q:VK),Inv X pins σ H s→RelV x v→Vals xs us→r x xs H Q→
  wpAny (model X.prog X.w) X.A (call (.builtin id) (v::us)) (EP X pins σ Q) X.xe s
section
variable {X:Cx} {a b:Expr} {ta tb:TE} {pos:Pos}
theorem IxR.or {r r':R2} (h:IxR X r) (h':IxR X r'):IxR X (fun x y H Q=>r x y H Q∨r' x y H Q):=by
 intro value slice pins s σ H x y v u Q I rx ry q hs
 rcases q with q|q
 ·exact h value slice pins s σ H x y v u Q I rx ry q hs
 ·exact h' value slice pins s σ H x y v u Q I rx ry q hs
theorem MtR.or {id:String} {r r':V→List V→Hp→VK→Prop} (h:MtR X id r) (h':MtR X id r'):MtR X id (fun x xs H Q=>r x xs H Q∨r' x xs H Q):=by
 intro pins s σ H x xs v us Q I rx rs q
 rcases q with q|q
 ·exact h pins s σ H x xs v us Q I rx rs q
 ·exact h' pins s σ H x xs v us Q I rx rs q
theorem abg {r:R2} (hr:IxR X r) (ha:PE X a ta) (hb:PE X b tb) (hs:PlainIx b):PE X (.Subscript a b pos) (tOp r ta tb):=by
 intro pins s σ H Q I h
 exact Subscript_ (binT ha hb I h fun v u s2 x y H2 I2 rx ry q=>hr a b pins s2 σ H2 x y v u Q I2 rx ry q (hs _ _))
noncomputable def rIxL (K:PySem.W.Frag):R2:=fun x y H Q=>∃p xs i v,x=.ref p∧y=.int i∧SqL K H p xs∧atI xs i=some v∧Q v H
noncomputable def rIxT (K:PySem.W.Frag):R2:=fun x y H Q=>∃p xs i v,x=.ref p∧y=.int i∧SqT K H p xs∧atI xs i=some v∧Q v H
noncomputable def rIxS:R2:=fun x y H Q=>∃z i c,x=.str z∧y=.int i∧z.length≤sizeLine∧atI z.cps.toList i=some c∧Q (.str ⟨#[c]⟩) H
theorem abf:IxR X (rIxL X.K):=by
 intro value slice pins s σ H x y v u Q I rx ry h hs
 obtain⟨p,xs,i,z,rfl,rfl,hq,he,q⟩:=h
 cases rx
 obtain⟨t,rfl⟩:=ry
 obtain⟨its,r,pl,hz⟩:=I.list hq
 obtain⟨j,h1,h2,h3,h4,h5⟩:=ae8 he
 obtain⟨w,ew,rw'⟩:=r.get h2
 have hl:=r.length
 have hn:=line63
 have fin:EP X pins σ Q w s:=⟨z,H,I,rw',q⟩
 by_cases h0:0≤i
 ·have hj:i.toNat=j:=by
   rw[seqIndex_of h0 h5] at h1
   exact Option.some.inj h1
  exact item_listR pl.isList h0 (by omega) (by rw[hj];simpa using ew) fin hs
 ·have hj:(i+(its.toArray.size:Int)).toNat=j:=by
   rw[seqIndex_neg (by omega) h4] at h1
   rw[List.size_toArray,←hl]
   exact Option.some.inj h1
  exact subscriptTail_builtinR (x:=w) pl.isList.typeIs slot_list_getitem.lookup
   (wpAny_getItem_list_neg (Q:=fun r s'=>r=w∧EP X pins σ Q r s') pl.isList (by omega) (by rw[List.size_toArray]<;>omega) (by omega) (by rw[hj];simpa using ew) ⟨rfl,fin⟩) hs
theorem afn:IxR X (rIxT X.K):=by
 intro value slice pins s σ H x y v u Q I rx ry h hs
 obtain⟨p,xs,i,z,rfl,rfl,hq,he,q⟩:=h
 cases rx
 obtain⟨t,rfl⟩:=ry
 obtain⟨its,r,pl,hz⟩:=I.tuple hq
 obtain⟨j,h1,h2,h3,h4,h5⟩:=ae8 he
 obtain⟨w,ew,rw'⟩:=r.get h2
 have hl:=r.length
 have hn:=line63
 have fin:EP X pins σ Q w s:=⟨z,H,I,rw',q⟩
 exact subscriptTail_builtinR (x:=w) pl.typeIs slot_tuple_getitem.lookup
  (getItem_tuple (j:=j) (Q:=fun r s'=>r=w∧EP X pins σ Q r s') pl (by omega) (by omega) (by rw[List.size_toArray,←hl];exact h1) (by simpa using ew) ⟨rfl,fin⟩) hs
theorem ac5:IxR X rIxS:=by
 intro value slice pins s σ H x y v u Q I rx ry h hs
 obtain⟨z,i,c,rfl,rfl,hz,he,q⟩:=h
 obtain⟨t,rfl⟩:=rx
 obtain⟨t',rfl⟩:=ry
 obtain⟨j,h1,h2,h3,h4,h5⟩:=ae8 he
 have hl:z.cps.toList.length=z.length:=by simp[Str.length]
 rw[hl] at h1 h4 h5
 have hn:=line63
 exact tail_any (typeIs_str s z t) slot_str_getitem.lookup (getItem_str (c:=c) (by
  have e1:decide (i < -(2 ^ 63:Int))=false:=decide_eq_false (by omega)
  have e2:decide (i≥2 ^ 63)=false:=decide_eq_false (by omega)
  rw[e1,e2,Bool.or_false]) (by rw[h1];simpa using h2) ⟨.str ⟨#[c]⟩,H,I.tok _,⟨_,rfl⟩,q⟩) hs
theorem agc (its:List Value) (n j:Nat) (u:Value):Obj.mapSeq (·.setIfInBounds j u) {cls:=.type "list",data:=.seq its.toArray n}={cls:=.type "list",data:=.seq (its.set j u).toArray n}:=by
 simp[Obj.mapSeq]
theorem Inv.lst {pins:List (Addr×Obj)} {σ:St} {H:Hp} {s:Shared} {p:Addr} {xs:List V} (I:Inv X pins σ H s) (h:H p=some (.lst xs)):
  ∃(its:List Value) (n:Nat),Vals xs its∧s.heap.get? p=some {cls:=.type "list",data:=.seq its.toArray n}∧xs.length≤sizeLine:=by
 obtain⟨z,its,n,r,e⟩:=I.hok p _ h
 exact⟨its,n,r,e,z⟩
theorem Inv.lstUpd {pins:List (Addr×Obj)} {σ:St} {H:Hp} {s:Shared} {p:Addr} {xs ys:List V} {its its':List Value} {n n':Nat} {f:Obj→Obj} (I:Inv X pins σ H s) (h:H p=some (.lst xs))
  (ho:s.heap.get? p=some {cls:=.type "list",data:=.seq its.toArray n}) (hf:f {cls:=.type "list",data:=.seq its.toArray n}={cls:=.type "list",data:=.seq its'.toArray n'}) (r:Vals ys its') (hz:ys.length≤sizeLine) (t:Nat):
  Inv X pins σ (upd H p (.lst ys)) {s with heap:=s.heap.update p f,toks:=t}:=by
 have e:(s.heap.update p f).get? p=some {cls:=.type "list",data:=.seq its'.toArray n'}:=by
  rw[Heap.get?_update_self f ho (by rw[hf]<;>rfl),hf]
 refine I.write (x:=p) (e:=p) (by rw[h];trivial) (.inl rfl) (fun b u hb q=>(Heap.get?_update_other _ _ (Ne.symm hb)).trans q) ⟨_,e⟩ ?_
 exact⟨hz,its',n',r,e⟩
noncomputable def rSetL:V→V→V→Hp→(Hp→Prop)→Prop:=fun o i v H Q=>∃p xs k j,o=.ref p∧i=.int k∧H p=some (.lst xs)∧ixN xs.length k=some j∧Q (upd H p (.lst (xs.set j v)))
theorem afo:PSet X rSetL:=by
 intro pins s σ H o i v ov iv u Q I ro ri rv h
 obtain⟨p,xs,k,j,rfl,rfl,hp,hj,q⟩:=h
 cases ro
 obtain⟨t,rfl⟩:=ri
 obtain⟨its,n,r,ho,hz⟩:=I.lst hp
 obtain⟨h1,h2,h3,h4⟩:=ag0 hj
 have hl:=r.length
 have hn:=line63
 have I':Inv X pins σ (upd H p (.lst (xs.set j v))) {s with heap:=s.heap.update p (Obj.mapSeq (·.setIfInBounds j u))}:=
  I.lstUpd hp ho (agc its n j u) (r.set rv j) (by rw[List.length_set];exact hz) s.toks
 by_cases h0:0≤k
 ·have hk:k.toNat=j:=by
   rw[seqIndex_of h0 h4] at h1
   exact Option.some.inj h1
  exact PySem.W.ki_setAt ho h0 (by omega) (by rw[List.size_toArray,←hl];exact h4) (by rw[hk];exact⟨_,I',q⟩)
 ·have hk:(k+(its.toArray.size:Int)).toNat=j:=by
   rw[seqIndex_neg (by omega) h3] at h1
   rw[List.size_toArray,←hl]
   exact Option.some.inj h1
  exact PySem.W.ki_setBack ho (by omega) (by rw[List.size_toArray,←hl];exact h3) (by omega) (by rw[hk];exact⟨_,I',q⟩)
theorem aep (lo hi:Option Int) (n:Nat):(sliceBounds lo hi none n).1=((HT.sIx n 0 lo:Nat):Int)∧(sliceBounds lo hi none n).2.1=((HT.sIx n n hi:Nat):Int)∧(sliceBounds lo hi none n).2.2=1:=by
 refine⟨?_,?_,rfl⟩
 ·cases lo with
  |none=>simp[sliceBounds,HT.sIx]
  |some i=>
   simp only[sliceBounds,HT.sIx,Option.getD_none,show (1:Int) > 0 by decide,if_true]
   by_cases h:i < 0
   ·simp only[h,if_true]<;>omega
   ·simp only[h,if_false]<;>omega
 ·cases hi with
  |none=>simp[sliceBounds,HT.sIx]
  |some i=>
   simp only[sliceBounds,HT.sIx,Option.getD_none,show (1:Int) > 0 by decide,if_true]
   by_cases h:i < 0
   ·simp only[h,if_true]<;>omega
   ·simp only[h,if_false]<;>omega
theorem ad7 (its:List Value) (lo hi:Option Int):slicePick its.toArray lo hi none=((its.drop (HT.sIx its.length 0 lo)).take (HT.sIx its.length its.length hi - HT.sIx its.length 0 lo)).toArray:=by
 obtain⟨h1,h2,h3⟩:=aep lo hi its.toArray.size
 unfold slicePick
 rw[h1,h2,h3]
 simp only[sliceRange_one,pick_run,List.size_toArray]<;>rfl
noncomputable def rSlL (K:PySem.W.Frag):V→Option Int→Option Int→Hp→VK→Prop:=fun x lo hi H Q=>∃a xs,x=.ref a∧SqL K H a xs∧∀p,H p=none→Q (.ref p) (upd H p (.lst (cutV xs lo hi)))
theorem acw:SlR X (rSlL X.K):=by
 intro pins s σ H x v vl vu lo hi sl Q I rx hs pl pu h
 obtain⟨a,xs,rfl,hx,q⟩:=h
 cases rx
 obtain⟨its,r,ht,hz⟩:=I.list hx
 have hlen:=r.length
 refine⟨"list",_,slot_list_getitem.lookup,ht.isList.typeIs,?_⟩
 refine wpAny_getItem_list_slice ht.isList hs pl pu .none (by simp) ?_ (by rw[List.size_toArray]<;>omega)
 rw[ad7,←hlen]
 refine⟨.ref s.heap.objs.size,_,I.laid (t':=s.toks) (o:=.lst (cutV xs lo hi)) (fun b ob q=>Heap.get?_push_of_some _ q) (Nat.le_refl _) ?_,rfl,q _ (I.hok.fresh (Nat.le_refl _))⟩
 exact⟨Nat.le_trans (adf xs lo hi) hz,_,0,(r.drop (HT.sIx xs.length 0 lo)).take (HT.sIx xs.length xs.length hi - HT.sIx xs.length 0 lo),Heap.get?_push_size _ rfl⟩
noncomputable def flatV:V→Bool
 |.non=>true
 |.bl _=>true
 |.int _=>true
 |.str _=>true
 |_=>false
noncomputable def eqV:V→V→Bool
 |.non,.non=>true
 |.bl a,.bl b=>a == b
 |.bl a,.int b=>(if a then 1 else 0) == b
 |.int a,.bl b=>a == (if b then 1 else 0)
 |.int a,.int b=>a == b
 |.str a,.str b=>a == b
 |_,_=>false
theorem ajg {A:Around} {s:Shared} {y x:V} {u v:Value} (ry:RelV y u) (rx:RelV x v) (fy:flatV y=true) (fx:flatV x=true):SeqAt.EqAt A s u v (eqV y x):=by
 cases y with
 |non=>
  cases ry
  cases x with
  |non=>cases rx;exact SeqAt.EqAt.same _
  |bl b=>cases rx;exact SeqAt.EqAt.none_bool b
  |int b=>obtain⟨t,rfl⟩:=rx;exact SeqAt.EqAt.none_int b t
  |str b=>obtain⟨t,rfl⟩:=rx;exact SeqAt.EqAt.none_str b t
  |_=>exact absurd (show false=true from fx) Bool.false_ne_true
 |bl a=>
  cases ry
  cases x with
  |non=>cases rx;exact SeqAt.EqAt.bool_none a
  |bl b=>cases rx;exact SeqAt.EqAt.bool_bool a b
  |int b=>obtain⟨t,rfl⟩:=rx;exact SeqAt.EqAt.bool_int a b t
  |str b=>obtain⟨t,rfl⟩:=rx;exact SeqAt.EqAt.bool_str a b t
  |_=>exact absurd (show false=true from fx) Bool.false_ne_true
 |int a=>
  obtain⟨t',rfl⟩:=ry
  cases x with
  |non=>cases rx;exact SeqAt.EqAt.int_none a t'
  |bl b=>cases rx;exact SeqAt.EqAt.int_bool a t' b
  |int b=>obtain⟨t,rfl⟩:=rx;exact SeqAt.EqAt.int_int a t' b t
  |str b=>obtain⟨t,rfl⟩:=rx;exact SeqAt.EqAt.int_str a t' b t
  |_=>exact absurd (show false=true from fx) Bool.false_ne_true
 |str a=>
  obtain⟨t',rfl⟩:=ry
  cases x with
  |non=>cases rx;exact SeqAt.EqAt.str_none a t'
  |bl b=>cases rx;exact SeqAt.EqAt.str_bool a t' b
  |int b=>obtain⟨t,rfl⟩:=rx;exact SeqAt.EqAt.str_int a t' b t
  |str b=>obtain⟨t,rfl⟩:=rx;exact SeqAt.EqAt.str_str a t' b t
  |_=>exact absurd (show false=true from fx) Bool.false_ne_true
 |_=>exact absurd (show false=true from fy) Bool.false_ne_true
noncomputable def eqU (x:V) (u:Value):Bool:=match u with
 |.none=>eqV .non x
 |.bool b=>eqV (.bl b) x
 |.int i _=>eqV (.int i) x
 |.str z _=>eqV (.str z) x
 |_=>false
theorem ag1 {x y:V} {u:Value} (r:RelV y u) (f:flatV y=true):eqU x u=eqV y x:=by
 cases y with
 |non=>cases r;rfl
 |bl b=>cases r;rfl
 |int i=>obtain⟨t,rfl⟩:=r;rfl
 |str z=>obtain⟨t,rfl⟩:=r;rfl
 |_=>exact absurd (show false=true from f) Bool.false_ne_true
theorem ae9 {x:V}:∀{xs:List V} {us:List Value},Vals xs us→xs.all flatV=true→us.any (eqU x)=xs.any fun y=>eqV y x
 |_,_,.nil,_=>rfl
 |y::xs,u::us,.cons r t,f=>by
  rw[List.all_cons,Bool.and_eq_true] at f
  rw[List.any_cons,List.any_cons,ag1 r f.1,ae9 t f.2]
theorem ada {A:Around} {s:Shared} {x:V} {v:Value} (rx:RelV x v) (fx:flatV x=true):∀{xs:List V} {us:List Value},Vals xs us→xs.all flatV=true→∀u∈us,SeqAt.EqAt A s u v (eqU x u)
 |_,_,.nil,_=>fun u hu=>by cases hu
 |y::xs,u::us,.cons r t,f=>fun u' hu=>by
  rw[List.all_cons,Bool.and_eq_true] at f
  rcases List.mem_cons.mp hu with rfl|hu
  ·rw[ag1 r f.1];exact ajg r rx f.1 fx
  ·exact ada rx fx t f.2 u' hu
noncomputable def inV (x:V) (xs:List V):Bool:=xs.any fun y=>eqV y x
noncomputable def rIn (K:PySem.W.Frag) (neg:Bool):R2:=fun x y H Q=>∃p xs,y=.ref p∧(SqL K H p xs∨SqT K H p xs)∧flatV x=true∧xs.all flatV=true∧Q (.bl (if neg then !inV x xs else inV x xs)) H
theorem aeq:OpR X (compareOp .NotIn) (rIn X.K true):=by
 intro pins s σ H x y v u Q I rx ry h
 obtain⟨p,xs,rfl,hq,fx,fs,q⟩:=h
 cases ry
 rcases hq with hq|hq
 ·obtain⟨its,r,pl,hz⟩:=I.list hq
  refine SeqAt.notIn_listAt (eqU x) pl.isList (fun w hw=>ada rx fx r fs w (by simpa using hw)) ⟨.bl _,H,I,rfl,?_⟩
  rw[show its.toArray.any (eqU x)=its.any (eqU x) by simp,ae9 r fs]
  exact q
 ·obtain⟨its,r,pl,hz⟩:=I.tuple hq
  refine SeqAt.notIn_tupleAt (eqU x) pl (fun w hw=>ada rx fx r fs w (by simpa using hw)) ⟨.bl _,H,I,rfl,?_⟩
  rw[show its.toArray.any (eqU x)=its.any (eqU x) by simp,ae9 r fs]
  exact q
theorem CallR.or {f:Value} {r r':List V→Hp→VK→Prop} (h:CallR X f r) (h':CallR X f r'):CallR X f (fun xs H Q=>r xs H Q∨r' xs H Q):=by
 intro pins s σ H xs us Q I rs q
 rcases q with q|q
 ·exact h pins s σ H xs us Q I rs q
 ·exact h' pins s σ H xs us Q I rs q
theorem ac6:CallR X (.type "list") (fun xs H Q=>∃p ys,xs=[.ref p]∧(SqL X.K H p ys∨SqT X.K H p ys)∧∀l,H l=none→Q (.ref l) (upd H l (.lst ys))):=by
 intro pins s σ H xs us Q I r h
 obtain⟨p,ys,rfl,hq,q⟩:=h
 obtain⟨u,rfl,rx⟩:=vals1 r
 cases rx
 have fin:∀(its:List Value),Vals ys its→ys.length≤sizeLine→∀(h':Heap) (c':Nat),(∀b o',s.heap.get? b=some o'→h'.get? b=some o')→
   h'.get? s.heap.objs.size=some {cls:=.type "list",dict:=none,data:=.seq its.toArray c',slots:= #[]}→EP X pins σ Q (.ref s.heap.objs.size) {s with heap:=h'}:=fun its r' hz h' c' kp e=>
  ⟨.ref s.heap.objs.size,_,I.laid (t':=s.toks) kp (Nat.le_refl _) (show ObjOk X.prog X.w _ h' _ (.lst ys) from ⟨hz,its,c',r',e⟩),rfl,q _ (I.hok.fresh (Nat.le_refl _))⟩
 rcases hq with hq|hq
 ·obtain⟨its,r',pl,hz⟩:=I.list hq
  have hlen:=r'.length
  obtain⟨o,ho,hc,n,hd⟩:=pl.isList
  exact call_list_seq p (.inl rfl) ho hc hd (fun h' c' kp e=>fin its r' hz h' c' kp e) (by simp only[List.size_toArray]<;>omega)
 ·obtain⟨its,r',pl,hz⟩:=I.tuple hq
  have hlen:=r'.length
  obtain⟨o,ho,hc,n,hd⟩:=pl
  exact call_list_seq p (.inr rfl) ho hc hd (fun h' c' kp e=>fin its r' hz h' c' kp e) (by simp only[List.size_toArray]<;>omega)
theorem aco:CallR X (.type "tuple") (fun xs H Q=>∃p ys,xs=[.ref p]∧((SqL X.K H p ys∧∀l,H l=none→Q (.ref l) (upd H l (.tup ys)))∨(SqT X.K H p ys∧Q (.ref p) H))):=by
 intro pins s σ H xs us Q I r h
 obtain⟨p,ys,rfl,h⟩:=h
 obtain⟨u,rfl,rx⟩:=vals1 r
 cases rx
 rcases h with ⟨hq,q⟩|⟨hq,q⟩
 ·obtain⟨its,r',pl,hz⟩:=I.list hq
  have hlen:=r'.length
  refine call_tuple_list pl.isList (fun h' kp=>?_) (by simp only[List.size_toArray]<;>omega)
  have I1:Inv X pins σ H {s with heap:=h'}:=I.kept (t':=s.toks) kp
  have I2:Inv X pins σ (upd H h'.objs.size (.tup ys)) {s with heap:=h'.push {cls:=.type "tuple",data:=.seq its.toArray}}:=
   I1.laid (t':=s.toks) (fun b o e=>Heap.get?_push_of_some _ e) (Nat.le_refl _) (show ObjOk X.prog X.w _ _ _ (.tup ys) from ⟨hz,its,r',IsTup.new _ _⟩)
  exact⟨.ref h'.objs.size,_,I2,rfl,q _ (I1.hok.fresh (Nat.le_refl _))⟩
 ·obtain⟨its,r',pl,hz⟩:=I.tuple hq
  exact call_tuple_same pl ⟨.ref p,H,I,rfl,q⟩
noncomputable def tyV (K:PySem.W.Frag) (T:String) (x:V) (H:Hp):Prop:=match x with
 |.str _=>T="str"
 |.int _=>T="int"
 |.ref p=>(T="list"∧∃xs,SqL K H p xs)∨(T="tuple"∧∃o,K.lookup p=some o∧o.cls=.type "tuple"∧o.dict=none)∨
  (T="dict"∧((∃kvs,H p=some (.dK kvs))∨∃kvs,H p=some (.dT kvs)))∨(T="set"∧∃S n,H p=some (.set S n))
 |_=>False
theorem tyV_is {pins:List (Addr×Obj)} {σ:St} {H:Hp} {s:Shared} {T:String} {x:V} {v:Value} (I:Inv X pins σ H s) (r:RelV x v) (ty:tyV X.K T x H):
  s.TypeIs v T∧∀a,v=.ref a→∃ob,s.heap.get? a=some ob∧ob.dict=none:=by
 cases x with
 |str z=>
  obtain⟨t,rfl⟩:=r
  cases (show T="str" from ty)
  exact⟨typeIs_str s z t,fun _ e=>nomatch e⟩
 |int i=>
  obtain⟨t,rfl⟩:=r
  cases (show T="int" from ty)
  exact⟨typeIs_int s i t,fun _ e=>nomatch e⟩
 |ref p=>
  cases r
  rcases ty with ⟨rfl,xs,hq⟩|⟨rfl,o,hk,hc,hd⟩|⟨rfl,hk⟩|⟨rfl,S,n,hk⟩
  ·obtain⟨its,_,pl,_⟩:=I.list hq
   refine⟨pl.isList.typeIs,fun a e=>?_⟩
   cases e
   obtain⟨o,n,e,c,hd,_⟩:=pl
   exact⟨o,e,hd⟩
  ·refine⟨⟨o,I.kIn p o hk,hc⟩,fun a e=>?_⟩
   cases e
   exact⟨o,I.kIn _ o hk,hd⟩
  ·have z:∃o,s.heap.get? p=some o∧o.ExactDict:=by
    rcases hk with ⟨kvs,hk⟩|⟨kvs,hk⟩
    ·obtain⟨_,_,_,_,o,_,_,e,ex,_⟩:=I.hok p _ hk
     exact⟨o,e,ex⟩
    ·obtain⟨_,_,_,_,o,_,_,e,ex,_⟩:=I.hok p _ hk
     exact⟨o,e,ex⟩
   obtain⟨o,e,ex⟩:=z
   refine⟨⟨o,e,ex.1⟩,fun a e2=>?_⟩
   cases e2
   exact⟨o,e,ex.2.1⟩
  ·obtain⟨o,_,_,_,e,ex,_⟩:=I.hok p _ hk
   refine⟨⟨o,e,ex.1⟩,fun a e2=>?_⟩
   cases e2
   exact⟨o,e,ex.2.1⟩
 |_=>exact False.elim ty
noncomputable def tBM (K:PySem.W.Frag) (T:String) (r:V→List V→Hp→VK→Prop) (to:TE) (t:TA):TE:=fun σ H Q=>to σ H fun x H1=>tyV K T x H1∧t σ H1 fun xs H2=>r x xs H2 Q
variable {o e:Expr} {es:List Expr} {to:TE} {t:TA} {name:Str} {apos cpos:Pos} {T id:String} {r:V→List V→Hp→VK→Prop}
theorem acx (pa:PlainAttrs T) (slot:Slot T name id) (hty:typeOf (.builtin id)=pure (.type "method_descriptor")) (hm:MtR X id r) (ho:PE X o to) (ha:PA X (e::es) t)
  (hbase:attributeBase o name X.env (eval o X.env)=eval o X.env:=by rfl)
  (hfew:((backTo cpos (starEach (e::es) X.env)).all (fun x=> !x.1)&&(backToKw cpos (keywordEach [] X.env)).all (fun x=>x.1.isSome)
   &&decide ((e::es).length+([]:List Keyword).length+(if ([]:List Keyword).isEmpty then 0 else 1) < 30))=true:=by rfl)
  (hline:(apos.endLine == cpos.line)=true:=by rfl) (hs:starEach (e::es) X.env=(false,eval e X.env)::starEach es X.env:=by rfl) (hplain:(backTo cpos (starEach es X.env)).any (·.1)=false:=by rfl):
  PE X (.Call (.Attribute o name apos) (e::es) [] cpos) (tBM X.K T r to t):=by
 intro pins s σ H Q I h
 refine wpAny_Call_method_late hbase hfew hline rfl (thn (ho pins s σ H _ I h) fun v s1 ⟨x,H1,I1,r1,ty,q1⟩=>?_)
 obtain⟨h1,h2⟩:=tyV_is I1 r1 ty
 refine⟨T,id,pa,slot,hty,h1,h2,?_⟩
 have hA:=ha cpos pins s1 σ H1 _ I1 q1
 rw[hs] at hA ⊢
 refine Calls.callWith_builtin (by show (false || (backTo cpos (starEach es X.env)).any (·.1))=false;rw[hplain]<;>rfl) (Calls.evalArgs_plain ?_)
 exact thn hA fun us s2 ⟨vs,H2,I2,r2,q2⟩=>hm pins s2 σ H2 x vs v us Q I2 r1 r2 q2
end
end L2
namespace L2
open PySem PySem.Spec PyProof.Rows
noncomputable def MtM (X:Cx) (id:String) (r:V→List V→Hp→VK→Prop):Prop:=
 ∀(pins:List (Addr×Obj)) (s:Shared) (σ:St) (H:Hp) (x:V) (xs:List V) (v:Value) (us:List Value) (Q:VK),Inv X pins σ H s→RelV x v→Vals xs us→r x xs H Q→
  wpAny (model X.prog X.w) X.A (call (.builtin id) (v::us)) (EP X pins σ Q) X.xe s
theorem Vals.one:∀{x:V} {us:List Value},Vals [x] us→∃u,us=[u]∧RelV x u
 |_,_,.cons r .nil=>⟨_,rfl,r⟩
theorem Vals.two:∀{x y:V} {us:List Value},Vals [x,y] us→∃u v,us=[u,v]∧RelV x u∧RelV y v
 |_,_,_,.cons r (.cons q .nil)=>⟨_,_,rfl,r,q⟩
section
variable {X:Cx} {pins:List (Addr×Obj)} {σ:St} {H:Hp} {s:Shared} {l b:Addr} {xs ys zs:List V}
theorem Inv.lset {its its':List Value} {n:Nat} {f:Array Value→Array Value} {t':Nat} (I:Inv X pins σ H s) (hH:H l=some (.lst xs))
  (e:s.heap.get? l=some {cls:=.type "list",data:=.seq its.toArray n}) (hf:f its.toArray=its'.toArray) (hv:Vals ys its') (hz:ys.length≤sizeLine):
  Inv X pins σ (upd H l (.lst ys)) {s with heap:=s.heap.update l (Obj.mapSeq f),toks:=t'}:=by
 have q:=PySem.IsL.update e f
 rw[hf] at q
 refine I.write (x:=l) (e:=l) (by rw[hH];exact trivial) (.inl rfl) (fun b' u hb hu=>(Heap.get?_update_other s.heap (Obj.mapSeq f) (Ne.symm hb)).trans hu) ⟨_,q⟩ ?_
 exact⟨hz,its',_,hv,q⟩
theorem Inv.lnew {its:List Value} {t':Nat} (I:Inv X pins σ H s) (hv:Vals ys its) (hz:ys.length≤sizeLine):
  Inv X pins σ (upd H s.heap.objs.size (.lst ys)) {s with heap:=s.heap.push {cls:=.type "list",data:=.seq its.toArray},toks:=t'}:=
 I.laid (fun _ _ q=>Heap.get?_push_of_some _ q) (Nat.le_refl _) ⟨hz,its,0,hv,Heap.get?_push_size _ rfl⟩
theorem Inv.fresh (I:Inv X pins σ H s):H s.heap.objs.size=none:=I.hok.fresh (Nat.le_refl _)
theorem Inv.lstM (I:Inv X pins σ H s) (hH:H l=some (.lst xs)):xs.length≤sizeLine∧∃(its:List Value) (n:Nat),Vals xs its∧xs.length=its.length∧s.heap.get? l=some {cls:=.type "list",data:=.seq its.toArray n}:=by
 obtain⟨z,its,n,r,e⟩:=I.hok l _ hH
 exact⟨z,its,n,r,r.length,e⟩
end
section
variable {X:Cx}
noncomputable def rAppend:V→List V→Hp→VK→Prop:=fun x vs H Q=>∃l xs y,x=.ref l∧vs=[y]∧H l=some (.lst xs)∧xs.length < sizeLine∧Q .non (upd H l (.lst (xs++[y])))
theorem adg:MtM X "list.append" rAppend:=by
 intro pins s σ H x vs v us Q I rx rv h
 obtain⟨l,xs,y,rfl,rfl,hH,hz,q⟩:=h
 cases rx
 obtain⟨u,rfl,ru⟩:=rv.one
 obtain⟨z,its,n,r,hl,e⟩:=I.lstM hH
 refine call_meets F.slot_list_append ⟨_,e,rfl⟩ F.entry_list_append (F.args_list_append_2 _ _) (PySem.list_append l its.toArray n u (by rw[List.size_toArray];omega)) ⟨e,?_⟩
 refine⟨.non,_,I.lset (its':=its++[u]) hH e (by simp) (r.append (.cons ru .nil)) ?_,rfl,q⟩
 rw[List.length_append,List.length_singleton]
 omega
noncomputable def rExtend:V→List V→Hp→VK→Prop:=fun x vs H Q=>∃l b xs zs,x=.ref l∧vs=[.ref b]∧H l=some (.lst xs)∧H b=some (.lst zs)∧xs.length+zs.length≤sizeLine∧Q .non (upd H l (.lst (xs++zs)))
noncomputable def rCat:R2:=fun x y H Q=>∃l b xs zs,x=.ref l∧y=.ref b∧H l=some (.lst xs)∧H b=some (.lst zs)∧xs.length+zs.length≤sizeLine∧∀p,H p=none→Q (.ref p) (upd H p (.lst (xs++zs)))
theorem afp:OpR X (binaryOp .Add) rCat:=by
 intro pins s σ H x y v u Q I rx ry h
 obtain⟨l,b,xs,zs,rfl,rfl,hH,hB,hz,q⟩:=h
 cases rx
 cases ry
 obtain⟨z,its,n,r,hl,e⟩:=I.lstM hH
 obtain⟨z2,its2,n2,r2,hl2,e2⟩:=I.lstM hB
 refine PySem.P.add_list e e2 ?_ (by rw[List.size_toArray,List.size_toArray];omega)
 have ea:its.toArray++its2.toArray=(its++its2).toArray:=by simp
 rw[ea]
 exact⟨.ref _,_,I.lnew (t':=s.toks) (r.append r2) (by rw[List.length_append];omega),rfl,q _ I.fresh⟩
end
section
variable {prog:Program} {w:World} {A:Around} {E:Value→Shared→Prop} {s:Shared}
end
section
variable {X:Cx}
end
end L2
namespace L2
open PySem PySem.Spec PyProof.Rows
section
variable {κ:Type} [DecidableEq κ]
noncomputable def valV (kvs:List (κ×V)) (k:κ):Option V:=(kvs.find? fun kv=>decide (kv.1=k)).map (·.2)
noncomputable def putK (kvs:List (κ×V)) (k:κ) (v:V):List (κ×V):=
 if (kvs.any fun kv=>decide (kv.1=k))=true then kvs.map (fun kv=>if kv.1=k then (kv.1,v) else kv) else kvs++[(k,v)]
noncomputable def dropK (kvs:List (κ×V)) (k:κ):List (κ×V):=kvs.filter fun kv=>decide (kv.1≠k)
theorem RelO.getD {o:Option V} {u:Option Value} {d:V} {d':Value} (r:RelO o u) (rd:RelV d d'):RelV (o.getD d) (u.getD d'):=by
 cases o with
 |none=>cases u with
  |none=>exact rd
  |some _=>exact (show False from r).elim
 |some _=>cases u with
  |none=>exact (show False from r).elim
  |some _=>exact r
theorem KV.any {kvs:List (κ×V)} {vs:List (κ×Value)} (r:KV kvs vs) (k:κ):(kvs.any fun kv=>decide (kv.1=k))=vs.any fun kv=>decide (kv.1=k):=by
 unfold KV at r
 induction r with
 |nil=>rfl
 |cons h t ih=>rw[List.any_cons,List.any_cons,ih,h.1]
theorem KV.drop {kvs:List (κ×V)} {vs:List (κ×Value)} (r:KV kvs vs) (k:κ):KV (dropK kvs k) (without vs k):=by
 unfold KV at r ⊢
 unfold dropK without
 induction r with
 |nil=>exact .nil
 |@cons p q ps qs h t ih=>
  obtain⟨h1,h2⟩:=h
  rw[List.filter_cons,List.filter_cons]
  by_cases e:p.1=k
  ·have a:¬decide (p.1≠k)=true:=by simp[e]
   have b:¬decide (q.1≠k)=true:=by simp[h1.symm.trans e]
   rw[if_neg a,if_neg b];exact ih
  ·have e':¬q.1=k:=fun z=>e (h1.trans z)
   have a:decide (p.1≠k)=true:=by simp[e]
   have b:decide (q.1≠k)=true:=by simp[e']
   rw[if_pos a,if_pos b];exact .cons ⟨h1,h2⟩ ih
theorem KV.length {kvs:List (κ×V)} {vs:List (κ×Value)} (r:KV kvs vs):kvs.length=vs.length:=Paired.length r
end
section
variable {P:Program} {w:World} {H:Hp} {h:Heap} {a:Addr}
end
noncomputable def DGet (H:Hp) (a:Addr) (y:V) (r:Option V):Prop:=
 (∃kvs k,Rd H a (.dK kvs)∧y=kV k∧r=valV kvs k)∨∃kvs k b,Rd H a (.dT kvs)∧y=.ref b∧H b=some (.tup (k.map kV))∧r=valV kvs k
noncomputable def DPut (H:Hp) (a:Addr) (y v:V) (H':Hp):Prop:=
 (∃kvs k,H a=some (.dK kvs)∧y=kV k∧kvs.length < sizeLine∧H'=upd H a (.dK (putK kvs k v)))∨
 ∃kvs k b,H a=some (.dT kvs)∧y=.ref b∧H b=some (.tup (k.map kV))∧kvs.length < sizeLine∧H'=upd H a (.dT (putK kvs k v))
theorem DGet.k {H:Hp} {a:Addr} {kvs:List (Key×V)} {k:Key} (e:H a=some (.dK kvs)):DGet H a (kV k) (valV kvs k):=.inl ⟨kvs,k,.inl e,rfl,rfl⟩
theorem DGet.t {H:Hp} {a b:Addr} {kvs:List (List Key×V)} {k:List Key} (e:H a=some (.dT kvs)) (eb:H b=some (.tup (k.map kV))):DGet H a (.ref b) (valV kvs k):=.inr ⟨kvs,k,b,.inl e,rfl,eb,rfl⟩
theorem DPut.k {H:Hp} {a:Addr} {kvs:List (Key×V)} {k:Key} {v:V} (e:H a=some (.dK kvs)) (hl:kvs.length < sizeLine):DPut H a (kV k) v (upd H a (.dK (putK kvs k v))):=.inl ⟨kvs,k,e,rfl,hl,rfl⟩
theorem DPut.t {H:Hp} {a b:Addr} {kvs:List (List Key×V)} {k:List Key} {v:V} (e:H a=some (.dT kvs)) (eb:H b=some (.tup (k.map kV))) (hl:kvs.length < sizeLine):
 DPut H a (.ref b) v (upd H a (.dT (putK kvs k v))):=.inr ⟨kvs,k,b,e,rfl,eb,hl,rfl⟩
section
variable {X:Cx} {pins:List (Addr×Obj)} {σ:St} {H:Hp} {s:Shared} {a:Addr} {y v:V} {u r:Value} {o:Option V} {A:Around} {E:Value→Shared→Prop}
end
section
variable {X:Cx} {pins:List (Addr×Obj)} {σ:St} {H:Hp} {s:Shared} {a:Addr} {kvs:List (Key×V)} {k:Key} {u:Value} {A:Around} {E:Value→Shared→Prop}
end
section
variable {X:Cx} {o i e value:Expr} {pos pos' tpos:Pos} {td ty tv:TE}
end
section
variable {X:Cx} {pos:Pos}
end
section
variable {X:Cx} {pins:List (Addr×Obj)} {σ:St} {H:Hp} {s:Shared} {a:Addr} {y d:V} {u r:Value} {o:Option V} {A:Around} {E:Value→Shared→Prop}
end
section
variable {X:Cx} {o e f:Expr} {apos cpos:Pos} {td ty tx:TE}
end
section
variable {X:Cx} {pins:List (Addr×Obj)} {σ:St} {H:Hp} {s:Shared} {a:Addr} {kvs:List (Key×V)} {A:Around} {E:Value→Shared→Prop}
end
section
variable {X:Cx} {pins:List (Addr×Obj)} {σ:St} {H:Hp} {s:Shared} {a:Addr} {y:V} {u:Value} {A:Around} {E:Value→Shared→Prop}
end
end L2
namespace Att
open PySem PySem.W PySem.Calls PyProof.Rows
theorem adh {P:Params} {h:Heap}:∀(ns:List Int) (vs:List Value),WellAll P h vs (ns.map WData.int)→IntsAre vs ns:=by
 intro ns
 induction ns with
 |nil=>
  intro vs w
  rw[List.map_nil] at w
  cases w
  exact .nil
 |cons n ns ih=>
  intro vs w
  rw[List.map_cons] at w
  cases w with
  |cons a b=>
   cases a
   exact .cons _ _ (ih _ b)
theorem ag2 {l:OpenLaw} {n:Nat} (hn:l.most=some n) {P:Params} {h:Heap} {args:List WData} {vals:List Value}
  (hpre:l.row.toRowW.claim.pre args=true) (hwl:WellAll P h vals args):
  ∃a vs ns,vals=[Value.ref a]∧args=[WData.list (ns.map WData.int)]∧h.get? a=some {cls:=.type "list",data:=.seq vs.toArray}∧IntsAre vs ns∧ns.length≤n:=by
 have hsh:WShape.hasAll [] args [.list .int]=true:=(pre_splitW hpre).1
 have hc:l.pre.holds [] {args:=args}=true:=(pre_splitW hpre).2
 obtain⟨d,r,rfl,h1,h2⟩:=hasAllW_cons hsh
 obtain rfl:=hasAllW_nil h2
 obtain⟨xs,rfl,h3⟩:=hasW_list h1
 obtain⟨ns,rfl⟩:=items_int h3
 have hlen:ns.length≤n:=by
  unfold OpenLaw.pre at hc
  have h4:(WTm.not (.lt (.lit (.int (n:Int))) (.len (.arg 0)))).holds [] {args:=[.list (ns.map .int)]}=true:=by
   have h4:=(holds_andW hc).1
   rw[hn] at h4
   exact h4
  have h5:=condW_of h4 (w_not (w_lt w_lit (w_len_list (w_arg rfl))))
  rw[List.length_map] at h5
  refine Nat.le_of_not_lt fun q=>?_
  have q':(n:Int) < ((ns.length:Nat):Int):=by omega
  first
   |(rw[decide_eq_true q'] at h5;exact absurd h5 (by decide))
   |(simp at h5;omega)
 cases hwl with
 |cons w1 w2=>
  cases w2
  cases w1 with
  |list ho hall=>exact⟨_,_,ns,rfl,rfl,ho,adh ns _ hall,hlen⟩
theorem ag3 (l:OpenLaw) (args:List WData):l.row.toRowW.claim.post args (.bool true) args=true:=
 postW_of (r:=l.row.toRowW) (X:=(true == true))
  (show WShape.has [] (.bool true) .bool=true by first|rfl|decide|simp[WShape.has,WShape.arms,WShape.armsAll])
  (show (WTm.eq .res (.lit (.bool true))).value [] {args:=args,res:=some (.bool true),after:=args}=some (.bool (true == true)) from w_eq_bool (w_res rfl) w_lit) rfl
theorem afa {l:OpenLaw} {n:Nat} {q:Program} {loose:List Str} {XP:(Str→Option Value)→Heap→Prop} {YP:World→Heap→Prop} {d:DefRec}
  (hn:l.most=some n) (hdf:d.params.defaults=[])
  (call:∀(w:World) (s₀ s₁:Shared) (mg mb:Str→Option Value) (fa:Addr) (o:Obj) (pm cd doc:Value) (a:Addr) (vs:List Value) (ns:List Int),
   Ground q loose [] XP w s₀ mg mb s₁.heap→YP w s₁.heap→
   s₁.heap.get? fa=some o→o.data=.func (docDef d.name d.params d.body d.scope pm cd doc)→s₁.heap.CodeRec cd d.name→mg d.name=some (.ref fa)→
   s₁.heap.get? a=some {cls:=.type "list",data:=.seq vs.toArray}→IntsAre vs ns→ns.length≤n→s₁.gens= #[]→
   codeAny (model l.prog w) callerA (.call (.ref fa) ⟨[.ref a],[]⟩) (fun r s'=>r=.ok (.ret (.bool true))∧OldK s₁.heap s'.heap∧s'.os=s₁.os∧AllBare s'.gens) s₁):
  WalkO q loose XP YP l.row.toRowW d [] (fun f vs=>PySem.call f vs):=by
 intro w s₀ s₁ mg mb G Y fa o pm cd doc dV kV ho hd hcd hD hmg hg args vals as hpre hlay hrd hwl hlo
 obtain rfl:dV=.none:=Dflts.none hD hdf
 obtain rfl:kV=.none:=Dflts.noKw hD
 obtain⟨a,vs,ns,rfl,rfl,hobj,hints,hlen⟩:=ag2 hn hpre hwl
 refine enter_call (codeAny_mono (call w s₀ s₁ mg mb fa o pm cd doc a vs ns G Y ho (fd_plain hd) hcd hmg hobj hints hlen hg) fun r s' hq=>?_)
 obtain⟨rfl,h2,h3,h4⟩:=hq
 exact⟨.inl ⟨.bool true,.bool true,[],rfl,fun _=>rfl,.bool true,ag3 l _,fun _=>⟨List.Pairwise.nil,fun _ hm=>(nomatch hm)⟩⟩,h2,h3,h4⟩
section
variable {prog:Program} {w:World} {A:Around} {E:Value→Shared→Prop} {s:Shared} {K:Frag}
noncomputable def ledger (h:Heap) (L d:Addr):List (Addr×Obj):=(List.range h.objs.size).filterMap fun a=>if a=L∨a=d then none else (h.get? a).map fun o=>(a,o)
end
end Att
namespace L2
open PySem PySem.Spec PyProof.Rows
theorem aer:∀{vs:List Value} {ns:List Int},IntsAre vs ns→Vals (ns.map V.int) vs
 |_,_,.nil=>.nil
 |_,_,.cons n t h=>.cons ⟨t,rfl⟩ (aer h)
noncomputable def Only (H:Hp):Prop:=∀b,H b=none∨∃o xs,H b=some (.frz o (.lst xs))
theorem aii {P:Program} {w:World} {K:PySem.W.Frag} {mg mb:Str→Option Value} {CX:CXT} {k:Nat} {fa a:Addr} {fd:FuncData} {x:Str} {sp:Sp} {s₁:Shared} {vs:List Value} {ns:List Int}
  (KX:K.In s₁.heap) (hns:s₁.heap.Ns mainGlobals mg) (hb:s₁.heap.Ns builtinsNs mb) (hbb:∀x:Str,x≠"__name__"→mb x=bootBuiltins x) (hlim:s₁.heap.NoLimit) (hg:s₁.gens= #[])
  (ha:s₁.heap.get? a=some {cls:=.type "list",data:=.seq vs.toArray}) (hi:IntsAre vs ns) (hl:ns.length≤sizeLine) (hr:Room k callerA)
  (F:∀base:Heap,K.In base→base.Ns mainGlobals mg→FnOk P w K mg base CX k fa fd [x] sp) (hbind:∀(s:Shared) (u:Value),BindsTo s fd ⟨[u],[]⟩ [(x,u)])
  (hsp:∀H:Hp,Only H→SqL K H a (ns.map V.int)→sp [.ref a] H (fun v _=>v=.bl true) fun _ _ _=>False)
  (hCX:∀H e s',CX [] H s₁ (fun _ _ _=>False) e s'→False):
  codeAny (model P w) callerA (.call (.ref fa) ⟨[.ref a],[]⟩) (fun r s'=>r=.ok (.ret (.bool true))∧OldK s₁.heap s'.heap∧s'.os=s₁.os∧AllBare s'.gens) s₁:=by
 have rv:=aer hi
 have lenV:=hi.length
 have core:∀H:Hp,Only H→SqL K H a (ns.map V.int)→HOk P w H s₁.heap→(∀b,H b≠none→b=a)→(H a≠none→K.lookup a=none)→
   codeAny (model P w) callerA (.call (.ref fa) ⟨[.ref a],[]⟩) (fun r s'=>r=.ok (.ret (.bool true))∧OldK s₁.heap s'.heap∧s'.os=s₁.os∧AllBare s'.gens) s₁:=by
  intro H hO hS hok hA hK
  have base_of:∀{b:Addr} {o:Obj},s₁.heap.get? b=some o→H b=none→(hidT s₁.heap H).get? b=some o:=fun e n=>aic e n
  have noA:∀{b:Addr} {o:Obj} {es:Array DictEntry} {ep:Nat},s₁.heap.get? b=some o→o.data=.dict es ep→H b=none:=fun {b o es ep} e d=>by
   cases q:H b with
   |none=>rfl
   |some u=>
    have e':b=a:=hA b (by rw[q];simp)
    subst e'
    rw[ha] at e;cases e
    have d':Data.seq vs.toArray _=Data.dict es ep:=d
    cases d'
  have nsK:∀{b:Addr} {m:Str→Option Value},s₁.heap.Ns b m→(hidT s₁.heap H).Ns b m:=fun {b m} ⟨o,es,ep,e,d,r⟩=>⟨o,es,ep,base_of e (noA e d),d,r⟩
  have hKb:K.In (hidT s₁.heap H):=fun b o e=>base_of (KX b o e) (by
   cases q:H b with
   |none=>rfl
   |some u=>
    have e':b=a:=hA b (by rw[q];simp)
    subst e'
    rw[hK (by rw[q];simp)] at e;cases e)
  have hM:Mod K mg (hidT s₁.heap H):=⟨hKb,nsK hns,⟨mb,nsK hb,hbb⟩,let ⟨mc,h1,h2⟩:=hlim;⟨mc,nsK h1,h2⟩⟩
  have e0:Env0 P w K mg (hidT s₁.heap H) callerA [] s₁ H:=⟨rfl,hM,fun b o e=>ajp e,Nat.le_of_eq (agj _ _),trivial,fun b hb=>absurd (show b∈([]:List Addr) from hb) (by simp),hok,.of_eq hg⟩
  refine codeAny_mono ((F _ hKb (nsK hns)).run callerA [] s₁ H ⟨[.ref a],[]⟩ [.ref a] [.ref a] _ _ hr e0 (hbind s₁ (.ref a)) (.cons rfl .nil) (hsp H hO hS)) fun r s' h=>?_
  cases r with
  |error e=>exact (hCX H e s' h).elim
  |ok fl=>
   cases fl with
   |next=>exact False.elim h
   |brk=>exact False.elim h
   |cont=>exact False.elim h
   |ret u=>
    obtain⟨v,H',os,bare,un,hok',r',q⟩:=h
    have q':v=.bl true:=q
    subst q'
    obtain rfl:u=Value.bool true:=r'
    refine⟨rfl,OldK.of_keep fun b o e=>?_,os,bare⟩
    cases q:H b with
    |none=>exact un.keep b o e q (by intro z;exact absurd (show b∈([]:List Addr) from z) (by simp)) (by simp)
    |some u=>
     rcases hO b with z|⟨ob,xs,z⟩
     ·rw[q] at z;cases z
     ·have z2:=un.frzs b ob _ z
      obtain⟨e1,_⟩:=hok b _ z
      obtain⟨e2,_⟩:=hok' b _ z2
      rw[e] at e1;cases e1
      exact e2
 cases hk:K.lookup a with
 |some o=>
  have e:=KX a o hk
  rw[ha] at e
  cases e
  refine core (fun _=>none) (fun _=>.inl rfl) (.inr ⟨_,vs.toArray,_,hk,rfl,rfl,rfl,by rw[List.size_toArray,lenV];exact hl,by simpa using rv⟩) (fun b u z=>by have z':(none:Option HO)=some u:=z;cases z') (fun b z=>absurd rfl z) fun z=>absurd rfl z
 |none=>
  refine core (fun b=>if b=a then some (.frz {cls:=.type "list",data:=.seq vs.toArray} (.lst (ns.map V.int))) else none) (fun b=>?_) (.inl (.inr ⟨{cls:=.type "list",data:=.seq vs.toArray},if_pos rfl⟩)) (fun b u z=>?_) (fun b z=>?_) fun _=>hk
  ·by_cases hb:b=a
   ·exact .inr ⟨_,_,if_pos hb⟩
   ·exact .inl (if_neg hb)
  ·by_cases hb:b=a
   ·have z':=(if_pos hb).symm.trans z
    cases z'
    subst hb
    exact⟨ha,by rw[List.length_map];exact hl,vs,_,rv,ha⟩
   ·have z':=(if_neg hb).symm.trans z
    cases z'
  ·by_cases hb:b=a
   ·exact hb
   ·exact absurd (if_neg hb) z
end L2
namespace L2
open PySem PySem.Spec PyProof.Rows
theorem ajy {l:PySem.W.OpenLaw} {n k:Nat} {q:Program} {loose:List Str} {XP:(Str→Option Value)→Heap→Prop} {YP:World→Heap→Prop} {d:DefRec} {K:Params→PySem.W.Frag} {CX:World→CXT} {sp:World→Sp} {x:Str}
  (hn:l.most=some n) (hn2:n≤sizeLine) (hdf:d.params.defaults=[]) (hr:Room k callerA)
  (hY:∀(w:World) (h:Heap),YP w h→(K w.params).In h)
  (F:∀(w:World) (mg:Str→Option Value) (fa:Addr) (h:Heap),(K w.params).In h→h.Ns mainGlobals mg→mg d.name=some (.ref fa)→
   ∃fd:FuncData,(∀(s:Shared) (u:Value),BindsTo s fd ⟨[u],[]⟩ [(x,u)])∧
    ∀base:Heap,(K w.params).In base→base.Ns mainGlobals mg→FnOk l.prog w (K w.params) mg base (CX w) k fa fd [x] (sp w))
  (hsp:∀(w:World) (H:Hp) (a:Addr) (ns:List Int),ns.length≤n→Only H→SqL (K w.params) H a (ns.map V.int)→sp w [.ref a] H (fun v _=>v=.bl true) fun _ _ _=>False)
  (hCX:∀(w:World) (H:Hp) (s:Shared) (e:Value) (s':Shared),CX w [] H s (fun _ _ _=>False) e s'→False):
  PySem.W.WalkO q loose XP YP l.row.toRowW d [] (fun f vs=>PySem.call f vs):=by
 refine Att.afa hn hdf fun w s₀ s₁ mg mb fa o pm cd doc a vs ns G Y ho hd hcd hmg hobj hints hlen hg=>?_
 have KX:=hY w _ Y
 obtain⟨fd,hb,hF⟩:=F w mg fa _ KX G.T.g hmg
 exact aii KX G.T.g G.T.b G.T.builtins G.T.nolimit hg hobj hints (Nat.le_trans hlen hn2) hr hF hb (fun H hO hS=>hsp w H a ns hlen hO hS) fun H e s'=>hCX w H s₁ e s'
end L2
namespace L2
open PySem PySem.Spec PyProof.Rows
noncomputable def defArgs (s:Stmt):Arguments:=match s with
 |.FunctionDef _ a _ _ _ _ _ _ _ _=>a
 |_=>{posonlyargs:=[],args:=[],vararg:=none,kwonlyargs:=[],kw_defaults:=[],kwarg:=none,defaults:=[]}
noncomputable def defBody (s:Stmt):List Stmt:=match s with
 |.FunctionDef _ _ b _ _ _ _ _ _ _=>b
 |_=>[]
noncomputable def defScope (s:Stmt):Scope:=match s with
 |.FunctionDef _ _ _ _ _ _ sc _ _ _=>sc
 |_=>{kind:=.function,names:=[],isGenerator:=false,isCoroutine:=false}
noncomputable abbrev CX0:CXT:=fun _ _ _ _ _ _=>False
structure Fun (K:PySem.W.Frag) (x qual:Str) (st:Stmt) (f:Addr) (fd:FuncData):Prop where
 ex:∃(oc:Value) (od:Option Addr) (kV doc pm:Value) (an:Option Addr) (cdv ct:Value) (osl:Array (Option Value)),
  fd=PySem.W.fnOf x qual (defArgs st) (defBody st) (defScope st) .none kV doc pm an cdv ct∧K.lookup f=some ⟨oc,od,.func fd,osl⟩∧PySem.W.codeIn K cdv qual=true
 kp:PySem.W.keepIn K (.ref f)=true
section
variable {P:Program} {w:World} {K:PySem.W.Frag} {mg:Str→Option Value} {base:Heap}
theorem Fun.ok {x qual:Str} {st:Stmt} {f:Addr} {fd:FuncData} {N ps:List Str} {k:Nat} {sp:Sp} (F:Fun K x qual st f fd) (S:FnScope N ps (defScope st)) (len:∀vs H Q E,sp vs H Q E→vs.length=ps.length)
  (hbody:∀(cdv:Value) (A:Around) (outer:List Env) (s:Shared) (H:Hp) (vs:List V) (Q:VK) (E:XK),Room k (A.deeper (envOfC qual (defScope st) s.heap.objs.size f cdv))→sp vs H Q E→
   ∃t,PSs (cxOf CX0 P w K mg base N qual (defScope st) f cdv A outer s H E).nox (defBody st) t∧t {nx:=fun _ H'=>Q .non H',rt:=Q} (start N vs) H):FnOk P w K mg base CX0 (k+1) f fd ps sp:=by
 obtain⟨oc,od,kV,doc,pm,an,cdv,ct,osl,rfl,lk,hcd⟩:=F.ex
 refine ajw lk hcd S len fun A outer s H vs Q E hr hsp=>?_
 obtain⟨t,h,q⟩:=hbody cdv A outer s H vs Q E hr hsp
 exact⟨t,h.nox,q⟩
theorem Fun.binds {x qual:Str} {st:Stmt} {f:Addr} {fd:FuncData} {ps:List Str} (F:Fun K x qual st f fd)
  (h:∀(kV doc pm:Value) (an:Option Addr) (cdv ct:Value) (us:List Value),us.length=ps.length→bindArgs (PySem.W.fnOf x qual (defArgs st) (defBody st) (defScope st) .none kV doc pm an cdv ct) ⟨us,[]⟩=pure (ps.zip us)):Binds K fd ps []:=by
 obtain⟨oc,od,kV,doc,pm,an,cdv,ct,osl,rfl,lk,hcd⟩:=F.ex
 exact .all (h kV doc pm an cdv ct)
theorem aas {x qual:Str} {st:Stmt} {f:Addr} {oc:Value} {od an:Option Addr} {osl:Array (Option Value)} {kV doc pm cdv ct:Value} (l:K.lookup f=some ⟨oc,od,.func (PySem.W.fnOf x qual (defArgs st) (defBody st) (defScope st) .none kV doc pm an cdv ct),osl⟩)
 (c:PySem.W.codeIn K cdv qual=true) (k:PySem.W.keepIn K (.ref f)=true):Fun K x qual st f (PySem.W.fnOf x qual (defArgs st) (defBody st) (defScope st) .none kV doc pm an cdv ct):=⟨⟨oc,od,kV,doc,pm,an,cdv,ct,osl,rfl,l,c⟩,k⟩
end
section
variable {X:Cx}
end
theorem iteF {A B:Prop} (h:B):if false=true then A else B:=by
 rw[if_neg Bool.false_ne_true]
 exact h
theorem iteT {A B:Prop} (h:A):if true=true then A else B:=by
 rw[if_pos rfl]
 exact h
theorem ite2 {c A B:Prop} [Decidable c] (h1:c→A) (h2:¬c→B):if c then A else B:=by
 by_cases h:c
 ·rw[if_pos h]
  exact h1 h
 ·rw[if_neg h]
  exact h2 h
noncomputable def Same (H H':Hp):Prop:=∀b o,H b=some o→H' b=some o
theorem Same.trans {H H1 H2:Hp} (a:Same H H1) (b:Same H1 H2):Same H H2:=fun c o h=>b c o (a c o h)
theorem Same.free {H H':Hp} (e:Same H H') {l:Addr} (h:H' l=Option.none):H l=Option.none:=by
 cases q:H l with
 |none=>rfl
 |some o=>
  rw[e l o q] at h
  cases h
theorem Same.seq {K:PySem.W.Frag} {H H':Hp} {a:Addr} {xs:List V} (e:Same H H') (h:SqL K H a xs):SqL K H' a xs:=by
 rcases h with (h|⟨o,h⟩)|h
 ·exact .inl (.inl (e _ _ h))
 ·exact .inl (.inr ⟨o,e _ _ h⟩)
 ·exact .inr h
section
variable {κ:Type} [DecidableEq κ]
end
end L2
set_option maxHeartbeats 4000000
namespace L2
open PySem PySem.Spec PyProof.Rows
structure Fly (B:Heap) (l:List Env) (h:Heap) (H H':Hp) (h':Heap) (ea:Addr) (cls:Value):Prop where
 fl:∃a0,Heap.FlyingW B l ea cls a0 h'
 trk:∀b u,H' b=some u→∃o,B.get? b=some o
 kept:∀b o,h.get? b=some o→H b=none→b∉frs l→B.get? b=some o
 alive:∀b o,h.get? b=some o→b∉frs l→∃o',B.get? b=some o'
noncomputable def CXe (P:Program) (w:World):CXT:=fun outer H s E e s'=>∃ea cls H' B,e=.ref ea∧s'.os=s.os∧AllBare s'.gens∧Un (frs outer) [] H H' s.heap s'.heap∧HOk P w H' s'.heap∧Fly B outer s.heap H H' s'.heap ea cls∧E cls none H'
noncomputable abbrev XKs:=Value→St→Hp→Prop
noncomputable def XW (X:Cx) (K:XKs):Prop:=∀(pins:List (Addr×Obj)) (σ:St) (H:Hp) (s s':Shared) (ea:Addr) (cls:Value) (H':Hp) (B:Heap),Inv X pins σ H s→s'.os=s.os→AllBare s'.gens→
 Un (frs X.stack) [] H H' s.heap s'.heap→HOk X.prog X.w H' s'.heap→Fly B X.stack s.heap H H' s'.heap ea cls→K cls σ H'→X.xe (.ref ea) s'
theorem acp {env:Env} {l:List Env} {L:Addr} (h:env.frame=some L):frs (env::l)=L::frs l:=by
 unfold frs;rw[List.filterMap_cons,h]
theorem HOk.flown {P:Program} {w:World} {H:Hp} {B h h':Heap} (x:HOk P w H h) (t:∀b u,H b=some u→∃o,B.get? b=some o) (s:B.StaysIn h) (s':B.StaysIn h'):HOk P w H h':=fun a o e=>
 (x a o e).stay (fun b u hb q=>by
  have hB:∃o,B.get? b=some o:=by
   rcases hb with rfl|hb
   ·exact t _ _ e
   ·exact t _ _ hb
  obtain⟨o',ho⟩:=hB
  have e1:=s b o' ho
  rw[q] at e1;cases e1
  exact s' b _ ho) (fun _ q=>q) fun _ _ q=>q
theorem aar {P:Program} {w:World} {K:PySem.W.Frag} {mg:Str→Option Value} {base:Heap} {N:List Str} {qual:Str} {scope:Scope} {f:Addr} {cd:Value} {A:Around} {outer:List Env} {s0:Shared} {H0:Hp} {E:XK}:
  XW (cxOf (CXe P w) P w K mg base N qual scope f cd A outer s0 H0 E) (fun c _ H'=>E c none H'):=by
 intro pins σ H s s' ea cls H' B I os bare un hok fly hK
 have I':=I.call' (s':=s') (ch:=[]) os un hok bare (fun b z=>absurd z (by simp))
 have hfr:=I.ok.frames
 have hstk:(cxOf (CXe P w) P w K mg base N qual scope f cd A outer s0 H0 E).stack=envOfC qual scope s0.heap.objs.size f cd::outer:=rfl
 rw[hstk] at hfr
 obtain⟨a0,hfl⟩:=fly.fl
 have hf:(envOfC qual scope s0.heap.objs.size f cd).frame=some s0.heap.objs.size:=rfl
 show wpAny _ _ (leaving (envOfC qual scope s0.heap.objs.size f cd) (.ref ea)) _ _ s'
 refine wpAny_leaves_onW hfr hf hfl fun h' fl' up=>?_
 have hfs:frs (envOfC qual scope s0.heap.objs.size f cd::outer)=s0.heap.objs.size::frs outer:=acp hf
 have nf:∀b o,s0.heap.get? b=some o→b∉frs outer→b∉frs (envOfC qual scope s0.heap.objs.size f cd::outer):=fun b o e n z=>by
  rw[hfs] at z
  rcases List.mem_cons.mp z with z|z
  ·exact absurd (Heap.lt_size e) (by rw[z];exact Nat.lt_irrefl _)
  ·exact n z
 have stay:∀b o,s0.heap.get? b=some o→H0 b=none→b∉frs outer→B.get? b=some o:=fun b o e n hb=>
  fly.kept b o (I.base.keep b o e n hb (by intro z;exact absurd z (by simp[cxOf]))) (I.base.free b o e n (by intro z;exact absurd z (by simp[cxOf]))) (nf b o e hb)
 have live:∀b o,s0.heap.get? b=some o→b∉frs outer→∃o',B.get? b=some o':=fun b o e hb=>by
  obtain⟨o1,e1⟩:=I.base.there b o e (by intro z;exact absurd z (by simp[cxOf]))
  exact fly.alive b o1 e1 (nf b o e hb)
 refine⟨ea,cls,H',B,rfl,I'.os,bare,?_,hok.flown fly.trk hfl.1 fl'.1,⟨⟨a0,fl'⟩,fly.trk,stay,live⟩,hK⟩
 have noA:∀b:Addr,b∉(cxOf (CXe P w) P w K mg base N qual scope f cd A outer s0 H0 E).ex:=fun b z=>absurd z (by simp[cxOf])
 have slotOf:∀b,b∈frs outer→∀o,s'.heap.get? b=some o→∃sl,h'.get? b=some {o with slots:=sl}:=fun b hb o e=>by
  have hm:b∈frs (envOfC qual scope s0.heap.objs.size f cd::outer):=by rw[hfs];exact List.mem_cons_of_mem _ hb
  obtain⟨_,o',ho',hd⟩:=hfl.2.2.1.mem hm
  rw[e] at ho';cases ho'
  exact up b o e hd
 refine⟨fun b o e n hb _=>fl'.1 b o (stay b o e n hb),fun b o e n hb _=>?_,fun b o e n _=>I'.base.free b o e n (noA b),fun b o e _=>?_,I'.base.tups,I'.base.frzs,I'.base.tbls⟩
 ·obtain⟨sl,e1⟩:=I'.base.slot b o e n hb (noA b)
  obtain⟨sl',e2⟩:=slotOf b hb _ e1
  exact⟨sl',e2⟩
 ·by_cases hb:b∈frs outer
  ·obtain⟨o1,e1⟩:=I'.base.there b o e (noA b)
   obtain⟨sl,e2⟩:=slotOf b hb _ e1
   exact⟨_,e2⟩
  ·obtain⟨o1,e1⟩:=live b o e hb
   exact⟨o1,fl'.1 b o1 e1⟩
noncomputable def Have (P:Program) (w:World) (K:PySem.W.Frag) (mg:Str→Option Value) (base:Heap) (x:Str) (k:Nat) (ps:List Str) (dvs:List V) (sp:Sp):Prop:=
 ∃f fd ds,mg x=some (.ref f)∧PySem.W.keepIn K (.ref f)=true∧Binds K fd ps ds∧Vals dvs ds∧FnOk P w K mg base (CXe P w) k f fd ps sp
noncomputable def HaveM (P:Program) (w:World) (K:PySem.W.Frag) (mg:Str→Option Value) (base:Heap) (C:Addr) (m:Str) (k:Nat) (ps:List Str) (dvs:List V) (sp:Sp):Prop:=
 ∃f fd ds,Meth K C m f∧Binds K fd ps ds∧Vals dvs ds∧FnOk P w K mg base (CXe P w) k f fd ps sp
noncomputable def HaveI (P:Program) (w:World) (K:PySem.W.Frag) (mg:Str→Option Value) (base:Heap) (x:Str) (C:Addr) (k:Nat) (ps:List Str) (dvs:List V) (sp:Sp):Prop:=
 ∃f fd ds,mg x=some (.ref C)∧Mk K C f∧Binds K fd ps ds∧Vals dvs ds∧FnOk P w K mg base (CXe P w) k f fd ps sp
noncomputable def tCallE (Kx:XKs) (sp:Sp) (dvs:List V) (t:TA):TE:=fun σ H Q=>t σ H fun vs H1=>sp (vs++dvs) H1 Q (fun c _ H'=>Kx c σ H')
section
variable {X:Cx} {Kx:XKs} {k:Nat} {f C:Addr} {fd:FuncData} {ps:List Str} {sp:Sp} {dvs:List V} {ds:List Value} {x m:Str} {p pos apos:Pos} {e o:Expr} {es:List Expr} {ta:TE} {t:TA}
theorem ajz {pins:List (Addr×Obj)} {σ:St} {H:Hp} {s:Shared} {Q:VK} {us:List Value} {vs:List V} (F:FnOk X.prog X.w X.K X.mg X.base (CXe X.prog X.w) k f fd ps sp) (hr:Room k X.A) (hb:Binds X.K fd ps ds) (hd:Vals dvs ds) (hx:XW X Kx)
  (I:Inv X pins σ H s) (r:Vals vs us) (h:sp (vs++dvs) H Q (fun c _ H'=>Kx c σ H')):wpAny (model X.prog X.w) X.A (call (.ref f) us) (EP X pins σ Q) X.xe s:=by
 have r2:Vals (vs++dvs) (us++ds):=r.append hd
 have hl:(us++ds).length=ps.length:=by rw[←r2.length];exact F.len _ _ _ _ h
 refine wpAny_call (codeAny_mono (F.run X.A X.stack s H ⟨us,[]⟩ (us++ds) (vs++dvs) Q _ hr I.env0 (hb s us I.kIn hl) r2 h) fun r s' hq=>?_)
 cases r with
 |error e=>
  obtain⟨ea,cls,H',B,rfl,os,bare,un,hok,fly,hK⟩:=hq
  exact hx pins σ H s s' ea cls H' B I os bare un hok fly hK
 |ok fl=>
  cases fl with
  |ret u=>exact I.after hq
  |next=>exact False.elim hq
  |brk=>exact False.elim hq
  |cont=>exact False.elim hq
theorem aai (F:Have X.prog X.w X.K X.mg X.base x k ps dvs sp) (hr:Room k X.A) (hx:XW X Kx) (ha:PA X (e::es) t) (hg:Gl X x:=by rfl) (hdb:(x == ("__debug__":Str))=false:=by decide)
  (he:starEach (e::es) X.env=(false,eval e X.env)::starEach es X.env:=by rfl) (hpl:(backTo pos (starEach es X.env)).any (·.1)=false:=by rfl):
  PE X (.Call (.Name x p) (e::es) [] pos) (tCallE Kx sp dvs t):=by
 obtain⟨f,fd,ds,hm,hk,hb,hd,F⟩:=F
 intro pins s σ H Q I h
 refine wpAny_Call_Name_kw (ad5 I hg hm ?_ hdb)
 refine PySem.W.callWith_K (h₀:=X.base) I.ok.mod.kin hk (thn (ha pos pins s σ H _ I h) fun us s1 ⟨vs,H1,I1,r,q⟩=>⟨I1.kIn,?_⟩) he hpl
 exact ajz F hr hb hd hx I1 r q
theorem aaw {v:V} (hg:Gl X x) (hm:∃u,X.mg x=some u∧RelV v u) (hd:(x == ("__debug__":Str))=false:=by decide):PE X (.Name x pos) (tC v):=by
 obtain⟨u,hm,r⟩:=hm
 exact ajq hg hm r hd
theorem afq {n:String} (hg:Gl X x) (hm:X.mg x=none) (hv:bootBuiltins x=some (.type n)) (hn:x≠"__name__":=by decide) (hd:(x == ("__debug__":Str))=false:=by decide):PE X (.Name x pos) (tC (.ty n)):=ajr hg hm hv rfl hn hd
end
noncomputable def Raw (K:PySem.W.Frag) (mg:Str→Option Value) (x qual:Str) (st:Stmt) (ps:List Str) (dvs:List V):Prop:=∃f fd ds,mg x=some (.ref f)∧Fun K x qual st f fd∧Binds K fd ps ds∧Vals dvs ds
noncomputable def RawM (K:PySem.W.Frag) (C:Addr) (m qual:Str) (st:Stmt) (ps:List Str) (dvs:List V):Prop:=∃f fd ds,Meth K C m f∧Fun K m qual st f fd∧Binds K fd ps ds∧Vals dvs ds
noncomputable def RawI (K:PySem.W.Frag) (mg:Str→Option Value) (x:Str) (C:Addr) (qual:Str) (st:Stmt) (ps:List Str) (dvs:List V):Prop:=∃f fd ds,mg x=some (.ref C)∧Mk K C f∧Fun K "__init__" qual st f fd∧Binds K fd ps ds∧Vals dvs ds
section
variable {P:Program} {w:World} {K:PySem.W.Frag} {mg:Str→Option Value} {base:Heap}
noncomputable def Body (P:Program) (w:World) (K:PySem.W.Frag) (mg:Str→Option Value) (base:Heap) (qual:Str) (st:Stmt) (N:List Str) (k:Nat) (sp:Sp):Prop:=
 ∀(f:Addr) (cdv:Value) (A:Around) (outer:List Env) (s:Shared) (H:Hp) (vs:List V) (Q:VK) (E:XK),Room k (A.deeper (envOfC qual (defScope st) s.heap.objs.size f cdv))→sp vs H Q E→
  ∃t,PSs (cxOf (CXe P w) P w K mg base N qual (defScope st) f cdv A outer s H E) (defBody st) t∧t {nx:=fun _ H'=>Q .non H',rt:=Q} (start N vs) H
theorem Fun.okE {x qual:Str} {st:Stmt} {f:Addr} {fd:FuncData} {N ps:List Str} {k:Nat} {sp:Sp} (F:Fun K x qual st f fd) (S:FnScope N ps (defScope st)) (len:∀vs H Q E,sp vs H Q E→vs.length=ps.length)
  (hbody:Body P w K mg base qual st N k sp):FnOk P w K mg base (CXe P w) (k+1) f fd ps sp:=by
 obtain⟨oc,od,kV,doc,pm,an,cdv,ct,osl,rfl,lk,hcd⟩:=F.ex
 exact ajw lk hcd S len fun A outer s H vs Q E hr hsp=>hbody f cdv A outer s H vs Q E hr hsp
theorem Raw.have {x qual:Str} {st:Stmt} {N ps:List Str} {dvs:List V} {k:Nat} {sp:Sp} (R:Raw K mg x qual st ps dvs) (S:FnScope N ps (defScope st)) (len:∀vs H Q E,sp vs H Q E→vs.length=ps.length)
  (hbody:Body P w K mg base qual st N k sp):Have P w K mg base x (k+1) ps dvs sp:=
 let ⟨f,fd,ds,hm,F,hb,hd⟩:=R
 ⟨f,fd,ds,hm,F.kp,hb,hd,F.okE S len hbody⟩
theorem RawM.have {C:Addr} {m qual:Str} {st:Stmt} {N ps:List Str} {dvs:List V} {k:Nat} {sp:Sp} (R:RawM K C m qual st ps dvs) (S:FnScope N ps (defScope st)) (len:∀vs H Q E,sp vs H Q E→vs.length=ps.length)
  (hbody:Body P w K mg base qual st N k sp):HaveM P w K mg base C m (k+1) ps dvs sp:=
 let ⟨f,fd,ds,hm,F,hb,hd⟩:=R
 ⟨f,fd,ds,hm,hb,hd,F.okE S len hbody⟩
theorem RawI.have {C:Addr} {x qual:Str} {st:Stmt} {N ps:List Str} {dvs:List V} {k:Nat} {sp:Sp} (R:RawI K mg x C qual st ps dvs) (S:FnScope N ps (defScope st)) (len:∀vs H Q E,sp vs H Q E→vs.length=ps.length)
  (hbody:Body P w K mg base qual st N k sp):HaveI P w K mg base x C (k+1) ps dvs sp:=
 let ⟨f,fd,ds,hm,M,F,hb,hd⟩:=R
 ⟨f,fd,ds,hm,M,hb,hd,F.okE S len hbody⟩
end
end L2
namespace L2
open PySem PySem.Spec PyProof.Rows
noncomputable def XR (X:Cx) (K:XKs):Prop:=∀(pins:List (Addr×Obj)) (σ:St) (H:Hp) (s:Shared) (h':Heap) (e:Addr) (cls:Value) (args:List Value),Inv X pins σ H s→Heap.MadeExcOf s.heap h' e cls args→K cls σ H→X.xe (.ref e) {s with heap:=h'}
theorem HOk.alive {P:Program} {w:World} {H:Hp} {h:Heap} (x:HOk P w H h) {b:Addr} {u:HO} (e:H b=some u):∃o,h.get? b=some o:=by
 have q:=x b u e
 cases u with
 |lst xs=>obtain⟨_,_,_,_,e⟩:=q;exact⟨_,e⟩
 |tup xs=>obtain⟨_,_,_,⟨o,e,_⟩⟩:=q;exact⟨_,e⟩
 |dK kvs=>obtain⟨_,_,_,_,o,_,_,e,_⟩:=q;exact⟨_,e⟩
 |dT kvs=>obtain⟨_,_,_,_,o,_,_,e,_⟩:=q;exact⟨_,e⟩
 |set S n=>obtain⟨o,_,_,_,e,_⟩:=q;exact⟨_,e⟩
 |ins C dx fs=>obtain⟨_,_,_,e,_⟩:=q;exact⟨_,e⟩
 |own y=>exact q
 |xd fs=>obtain⟨_,⟨_,_,_,e,_⟩,_⟩:=q;exact⟨_,e⟩
 |rng lo hi=>obtain⟨_,_,_,e⟩:=q;exact⟨_,e⟩
 |frz ob u=>obtain⟨e,_⟩:=q;exact⟨_,e⟩
 |tbl ps=>exact⟨_,q⟩
 |met f y=>exact⟨_,q⟩
 |ext φ=>obtain⟨_,e,_⟩:=q;exact e
theorem afr {P:Program} {w:World} {K:PySem.W.Frag} {mg:Str→Option Value} {base:Heap} {N:List Str} {qual:Str} {scope:Scope} {f:Addr} {cd:Value} {A:Around} {outer:List Env} {s0:Shared} {H0:Hp} {E:XK}:
  XR (cxOf (CXe P w) P w K mg base N qual scope f cd A outer s0 H0 E) (fun c _ H'=>E c none H'):=by
 intro pins σ H s h1 ea cls args I mk hK
 have hfr:=I.ok.frames
 have hstk:(cxOf (CXe P w) P w K mg base N qual scope f cd A outer s0 H0 E).stack=envOfC qual scope s0.heap.objs.size f cd::outer:=rfl
 have hfun:=I.stack
 have hfree:=I.stkFree
 rw[hstk] at hfr hfun hfree
 have hf:(envOfC qual scope s0.heap.objs.size f cd).frame=some s0.heap.objs.size:=rfl
 have hfs:frs (envOfC qual scope s0.heap.objs.size f cd::outer)=s0.heap.objs.size::frs outer:=acp hf
 have noA:∀b:Addr,b∉(cxOf (CXe P w) P w K mg base N qual scope f cd A outer s0 H0 E).ex:=fun b z=>absurd z (by simp[cxOf])
 have nf:∀b o,s0.heap.get? b=some o→b∉frs outer→b∉frs (envOfC qual scope s0.heap.objs.size f cd::outer):=fun b o e n z=>by
  rw[hfs] at z
  rcases List.mem_cons.mp z with z|z
  ·exact absurd (Heap.lt_size e) (by rw[z];exact Nat.lt_irrefl _)
  ·exact n z
 show wpAny _ _ (leaving (envOfC qual scope s0.heap.objs.size f cd) (.ref ea)) _ _ _
 refine wpAny_leaves_madeW (base:=PySem.W.hideAll s.heap (frs (envOfC qual scope s0.heap.objs.size f cd::outer))) (h:=s.heap) hfr hf (fun b o q=>PySem.W.of_hideAll _ q)
  (PySem.W.funFrames_hide hfun fun env he b hb=>List.mem_filterMap.mpr ⟨env,he,hb⟩) mk fun h' t fl' _ _ up=>?_
 have inB:∀b o,s.heap.get? b=some o→b∉frs (envOfC qual scope s0.heap.objs.size f cd::outer)→(PySem.W.hideAll s.heap (frs (envOfC qual scope s0.heap.objs.size f cd::outer))).get? b=some o:=fun b o e n=>PySem.W.hideAll_get _ e n
 have stay:∀b o,s0.heap.get? b=some o→H0 b=none→b∉frs outer→(PySem.W.hideAll s.heap (frs (envOfC qual scope s0.heap.objs.size f cd::outer))).get? b=some o:=fun b o e n hb=>
  inB b o (I.base.keep b o e n hb (noA b)) (nf b o e hb)
 have live:∀b o,s0.heap.get? b=some o→b∉frs outer→∃o',(PySem.W.hideAll s.heap (frs (envOfC qual scope s0.heap.objs.size f cd::outer))).get? b=some o':=fun b o e hb=>by
  obtain⟨o1,e1⟩:=I.base.there b o e (noA b)
  exact⟨o1,inB b o1 e1 (nf b o e hb)⟩
 have trk:∀b u,H b=some u→∃o,(PySem.W.hideAll s.heap (frs (envOfC qual scope s0.heap.objs.size f cd::outer))).get? b=some o:=fun b u e=>by
  obtain⟨o,ho⟩:=I.hok.alive e
  exact⟨o,inB b o ho fun z=>by rw[hfree b z] at e;cases e⟩
 have slotOf:∀b,b∈frs outer→∀o,s.heap.get? b=some o→∃sl,h'.get? b=some {o with slots:=sl}:=fun b hb o e=>by
  have hm:b∈frs (envOfC qual scope s0.heap.objs.size f cd::outer):=by rw[hfs];exact List.mem_cons_of_mem _ hb
  obtain⟨_,o',ho',hd⟩:=hfun.mem hm
  rw[e] at ho';cases ho'
  exact up b o (mk.keeps b o e) hd
 refine⟨ea,cls,H,_,rfl,I.os,I.bare,?_,I.hok.flown trk (fun b o q=>PySem.W.of_hideAll _ q) fl'.1,⟨⟨_,fl'⟩,trk,stay,live⟩,hK⟩
 refine⟨fun b o e n hb _=>fl'.1 b o (stay b o e n hb),fun b o e n hb _=>?_,fun b o e n _=>I.base.free b o e n (noA b),fun b o e _=>?_,I.base.tups,I.base.frzs,I.base.tbls⟩
 ·obtain⟨sl,e1⟩:=I.base.slot b o e n hb (noA b)
  obtain⟨sl',e2⟩:=slotOf b hb _ e1
  exact⟨sl',e2⟩
 ·by_cases hb:b∈frs outer
  ·obtain⟨o1,e1⟩:=I.base.there b o e (noA b)
   obtain⟨sl,e2⟩:=slotOf b hb _ e1
   exact⟨_,e2⟩
  ·obtain⟨o1,e1⟩:=live b o e hb
   exact⟨o1,fl'.1 b o1 e1⟩
abbrev mroVE:List Value:=[.type "ValueError",.type "Exception",.type "BaseException",.type "object"]
structure XC (K:PySem.W.Frag) (mg:Str→Option Value) (x:Str) (C:Addr):Prop where
 m:mg x=some (.ref C)
 ex:PySem.W.excIn K C mroVE "ValueError.__new__"=true
theorem aj0 {K:PySem.W.Frag} {h:Heap} {C:Addr} {l:List Value} {id:String} (hin:K.In h) (q:PySem.W.excIn K C l id=true):
  ∃bm N nm qn bs hdct sn sub ab col dd k0 k1 k2 k3 k5 mN,h.get? C=some (excClassObj nm qn C N bs bm hdct sn sub ab col dd k0 k1 k2 k3 k5 id)∧h.Ns N mN∧mN "__init__"=none∧OwnTail h l bm:=by
 unfold PySem.W.excIn at q
 split at q
 case h_2=>cases q
 case h_1 dd cd sl ho=>
  split at q
  case h_2=>cases q
  case h_1 C' bm k0 k1 k2 k3 n k5 hm hs=>
   rw[Bool.and_eq_true,Bool.and_eq_true,Bool.and_eq_true,Bool.and_eq_true,Bool.and_eq_true] at q
   obtain⟨⟨⟨⟨⟨q1,q2⟩,q3⟩,q4⟩,q5⟩,q6⟩:=q
   have e1:=beq_iff_eq.mp q1
   have e2:=beq_iff_eq.mp q2
   have e6:=beq_iff_eq.mp q6
   subst e1 e2
   obtain⟨nm,bs,mro,ns,qn,hd,sn,sub,ab,col,del⟩:=cd
   have e3:del=false:=by
    cases del with
    |false=>rfl
    |true=>cases q3
   have hm':mro=.ref C'::bm:=hm
   subst e3 hm'
   obtain⟨l'⟩:=sl
   have hs':l'=[k0,k1,k2,k3,some (.builtin n),k5]:=hs
   subst hs'
   exact⟨bm,ns,nm,qn,bs,hd,sn,sub,ab,col,dd,k0,k1,k2,k3,k5,_,hin _ _ ho,.of_isNs (PySem.W.isNs_of_in hin q5),PySem.W.nsMap_none_of_in hin q5 e6,PySem.W.tail_of_in hin q4⟩
noncomputable def tRaise (Kx:XKs) (C:Addr) (t:TA):TS:=fun _ σ H=>t σ H fun vs H1=>vs.length≤sizeLine∧Kx (.ref C) σ H1
theorem adb {X:Cx} {Kx:XKs} {C:Addr} {x:Str} {np cpos pos:Pos} {e:Expr} {es:List Expr} {t:TA} (hx:XR X Kx) (hc:X.calm=true) (c:XC X.K X.mg x C) (ha:PA X (e::es) t) (hg:Gl X x:=by rfl) (hd:(x == ("__debug__":Str))=false:=by decide)
  (he:starEach (e::es) X.env=(false,eval e X.env)::starEach es X.env:=by rfl) (hpl:(backTo cpos (starEach es X.env)).any (·.1)=false:=by rfl):
  PS X (.Raise (some (.Call (.Name x np) (e::es) [] cpos)) none pos) (tRaise Kx C t):=by
 intro pins s σ H D I h
 obtain⟨bm,N,nm,qn,bs,hdct,sn,sub,ab,col,dd,k0,k1,k2,k3,k5,mN,hC,hN,hni,T⟩:=aj0 I.mod.kin c.ex
 refine wpAny_Raise_call_subT (C:=C) (nm:=nm) (q:=qn) (N:=N) (bs:=bs) (bm:=bm) (hdct:=hdct) (sn:=sn) (sub:=sub) (ab:=ab) (col:=col) (dd:=dd) (k0:=k0) (k1:=k1) (k2:=k2) (k3:=k3) (k5:=k5) (mN:=mN) PySem.F.excBase_ValueError (T.hasType PySem.F.excBase_ValueError.hasBase) (I.ok.hd hc) (by rw[he];show (false || (backTo cpos (starEach es X.env)).any (·.1))=false;rw[hpl];rfl) hni
  (ad5 I hg c.m ⟨rfl,?_⟩ hd)
 have q:=ha cpos pins s σ H _ I h
 rw[he] at q ⊢
 refine Calls.evalArgs_plain (wpAny_mono q (fun us s2 hq=>?_) fun _ _ y=>y)
 obtain⟨vs,H1,I1,r,hl,hk⟩:=hq
 exact⟨rfl,by rw[←r.length];exact hl,I1.bk _ _ hC,hN.keeps I1.bk,T.keeps I1.bk,fun h' ea mk=>hx pins σ H1 s2 h' ea (.ref C) us I1 mk hk⟩
theorem Inv.flown {X:Cx} {pins:List (Addr×Obj)} {σ:St} {H H':Hp} {s s':Shared} {B h5:Heap} {ea:Addr} {cls:Value} (I:Inv X pins σ H s) (I':Inv X pins σ H' s') (fly:Fly B X.stack s.heap H H' s'.heap ea cls)
  (st:B.StaysIn h5) (up:s'.heap.UpToSlots h5):Inv X pins σ H' {s' with heap:=h5}:=by
 obtain⟨a0,hfl⟩:=fly.fl
 have nf:∀b,b∉X.fs→b≠X.env.locals→b∉frs X.stack:=fun b h1 h2 z=>by
  rcases List.mem_cons.mp (I.stkSub b z) with q|q
  ·exact h2 q
  ·exact h1 q
 have lt0:∀b o,X.s₀.heap.get? b=some o→b≠X.env.locals:=fun b o e=>Nat.ne_of_lt (Nat.lt_of_lt_of_le (Heap.lt_size e) I.ok.above)
 have cellK:∀{c:Addr} {v:Option Value},s'.heap.IsCell c v→h5.IsCell c v:=fun {c v} ⟨o,ho,hd⟩=>by
  obtain⟨sl,e⟩:=up c o ho fun vs z=>by rw[hd] at z;cases z
  exact⟨_,e,hd⟩
 have slotOf:∀b,b∈X.fs→∀o,s'.heap.get? b=some o→∃sl,h5.get? b=some {o with slots:=sl}:=fun b hb o e=>by
  obtain⟨_,o',ho',hd⟩:=I'.funs.mem hb
  rw[e] at ho';cases ho'
  exact up b o e hd
 refine⟨I'.ok,I'.os,I'.bare,⟨fun b o e n hb hx=>?_,fun b o e n hb hx=>?_,I'.base.free,fun b o e hx=>?_,I'.base.tups,I'.base.frzs,I'.base.tbls⟩,?_,fun x c e=>?_,I'.free,I'.freeC,fun p hp=>?_,I'.hok.flown fly.trk hfl.1 st,I'.len⟩
 ·exact st b o (fly.kept b o (I.base.keep b o e n hb hx) (I.base.free b o e n hx) (nf b hb (lt0 b o e)))
 ·obtain⟨sl,e1⟩:=I'.base.slot b o e n hb hx
  obtain⟨sl',e2⟩:=slotOf b hb _ e1
  exact⟨sl',e2⟩
 ·by_cases hb:b∈X.fs
  ·obtain⟨o1,e1⟩:=I'.base.there b o e hx
   obtain⟨sl,e2⟩:=slotOf b hb _ e1
   exact⟨_,e2⟩
  ·obtain⟨o1,e1⟩:=I.base.there b o e hx
   obtain⟨o2,e2⟩:=fly.alive b o1 e1 (nf b hb (lt0 b o e))
   exact⟨o2,st b o2 e2⟩
 ·obtain⟨m,hn,hl⟩:=I'.loc
  refine⟨m,up.ns hn,fun i x v e1 e2 e3=>?_⟩
  obtain⟨u,r,l⟩:=hl i x v e1 e2 e3
  refine⟨u,r,?_⟩
  rcases l with l|⟨k,c,e,z⟩
  ·exact .inl l
  ·exact .inr ⟨k,c,e,cellK z⟩
 ·obtain⟨v,z⟩:=I'.cell x c e
  exact⟨v,cellK z⟩
 ·obtain⟨e,n,ne,nfs,d⟩:=I.pin p hp
  obtain⟨_,n',_,_,_⟩:=I'.pin p hp
  exact⟨st _ _ (fly.kept p.1 p.2 e n (nf p.1 nfs ne)),n',ne,nfs,d⟩
noncomputable def excO (a:Addr) (C:Addr):HO:=.ext fun h=>∃o vs,h.get? a=some o∧o.cls=.ref C∧o.data=.fields vs
theorem Inv.track {X:Cx} {pins:List (Addr×Obj)} {σ:St} {H:Hp} {s:Shared} {a:Addr} {u:HO} (I:Inv X pins σ H s) (hn:H a=none) (hL:a≠X.env.locals) (h0:∀o,X.s₀.heap.get? a=some o→a∈X.ex)
  (hc:∀x c,X.env.cells.lookup x=some c→c≠a) (hp:∀p∈X.pn++pins,p.1≠a) (ok:∀H',ObjOk X.prog X.w H' s.heap a u):Inv X pins σ (upd H a u) s:=by
 refine⟨I.ok,I.os,I.bare,⟨I.base.keep,I.base.slot,fun b o e n hx=>?_,I.base.there,fun b xs e=>?_,fun b o xs e=>?_,fun b ps e=>?_⟩,I.loc,I.cell,?_,fun x c e=>?_,fun p hq=>?_,fun b o e=>?_,I.len⟩
 ·have hb:b≠a:=fun z=>hx (by rw[z] at e ⊢;exact h0 o e)
  rw[aa4 hb]
  exact I.base.free b o e n hx
 ·have q:=I.base.tups b xs e
  rw[aa4 (aa3 q hn)]
  exact q
 ·have q:=I.base.frzs b o xs e
  rw[aa4 (aa3 q hn)]
  exact q
 ·obtain⟨more,q⟩:=I.base.tbls b ps e
  exact⟨more,by rw[aa4 (aa3 q hn)];exact q⟩
 ·rw[aa4 (Ne.symm hL)]
  exact I.free
 ·rw[aa4 (hc x c e)]
  exact I.freeC x c e
 ·obtain⟨e,n,r⟩:=I.pin p hq
  exact⟨e,by rw[aa4 (hp p hq)];exact n,r⟩
 ·by_cases hb:b=a
  ·subst hb;rw[aaj] at e;cases e;exact ok _
  ·rw[aa4 hb] at e
   exact (I.hok b o e).stay (fun c v _ q=>q) (fun c q=>by rw[aa4 (aa3 q hn)];exact q) fun c xs q=>by rw[aa4 (aa3 q hn)];exact q
theorem Inv.nameGone {X:Cx} {pins:List (Addr×Obj)} {σ:St} {H:Hp} {s:Shared} {i:Nat} {n:Str} {pos:Pos} {M:Model} {A:Around} {E:Value→Shared→Prop} {Q:Unit→Shared→Prop} (I:Inv X pins σ H s) (hN:X.N.Nodup) (hi:X.N[i]?=some n)
  (hl:X.env.kindOf n=some .local) (h:∀s',Inv X pins (σ.set i none) H s'→Q () s'):wpAny M A (do bindName X.env n .none;unbindBehindTheSuite X.env n pos) Q E s:=by
 obtain⟨m,hn,hv⟩:=id I.loc
 have hcls:(X.env.scope.kind == .class || (X.env.scope.kind == .module&&X.env.locals != X.env.globals))=false:=by rw[I.ok.kind];rfl
 have cne:=I.cne
 have hiσ:i < σ.length:=by rw[I.len];exact (List.getElem?_eq_some_iff.mp hi).1
 refine wpAny_nameGoes_keeps hl hn hcls fun h' v hn' hs=>?_
 obtain⟨oL,_,_,hoL,_⟩:=id hn
 refine h _ ⟨I.ok,I.os,I.bare,⟨fun b o e n hb hx=>?_,fun b o e n hb hx=>?_,I.base.free,fun b o e hx=>?_,I.base.tups,I.base.frzs,I.base.tbls⟩,⟨_,hn',fun j y v' e1 e2 e3=>?_⟩,fun y c e=>?_,I.free,I.freeC,fun p hp=>?_,fun b ob e=>?_,by simpa using I.len⟩
 ·exact (hs.2 b (Nat.ne_of_lt (Nat.lt_of_lt_of_le (Heap.lt_size e) I.ok.above))).trans (I.base.keep b o e n hb hx)
 ·obtain⟨sl,e1⟩:=I.base.slot b o e n hb hx
  exact⟨sl,(hs.2 b (Nat.ne_of_lt (Nat.lt_of_lt_of_le (Heap.lt_size e) I.ok.above))).trans e1⟩
 ·obtain⟨o',e1⟩:=I.base.there b o e hx
  exact⟨o',(hs.2 b (Nat.ne_of_lt (Nat.lt_of_lt_of_le (Heap.lt_size e) I.ok.above))).trans e1⟩
 ·by_cases hj:j=i
  ·subst hj
   rw[List.getElem?_set_self hiσ] at e2
   cases e2
  ·rw[List.getElem?_set_ne (Ne.symm hj)] at e2
   obtain⟨u',r',q⟩:=hv j y v' e1 e2 e3
   refine⟨u',r',?_⟩
   rcases q with ⟨k,e⟩|⟨k,c,e,z⟩
   ·refine .inl ⟨k,?_⟩
    have:y≠n:=fun e=>hj (ad2 hN e1 (e ▸ hi))
    simp[this,e]
   ·exact .inr ⟨k,c,e,z.sameBut hs (cne y c e)⟩
 ·obtain⟨w',z⟩:=I.cell y c e
  exact⟨w',z.sameBut hs (cne y c e)⟩
 ·obtain⟨e,n,ne,nf,d⟩:=I.pin p hp
  exact⟨(hs.2 p.1 ne).trans e,n,ne,nf,d⟩
 ·refine (I.hok b ob e).stay (fun c w' hc q=>(hs.2 c ?_).trans q) (fun _ q=>q) fun _ _ q=>q
  rintro rfl
  rcases hc with rfl|hc
  ·rw[I.free] at e;cases e
  ·rw[I.free] at hc;cases hc
structure XH (K:PySem.W.Frag) (mg:Str→Option Value) (x:Str) (D:Addr):Prop where
 m:mg x=some (.ref D)
 ty:PySem.W.typeIn K (.ref D)=some (.type "type")
 cl:∃cd,PySem.W.clsIn K D=some cd
 be:PySem.W.mroIn K D (.type "BaseException")=some true
noncomputable def XSub (K:PySem.W.Frag) (C D:Addr):Prop:=PySem.W.mroIn K C (.ref D)=some true
theorem ag4 {K:PySem.W.Frag} {M:Model} {A:Around} {E:Value→Shared→Prop} {Q:Bool→Shared→Prop} {s:Shared} {mg:Str→Option Value} {x:Str} {ea C D:Addr} {o:Obj} (hin:K.In s.heap) (c:XH K mg x D) (sub:XSub K C D)
  (ho:s.heap.get? ea=some o) (hcl:o.cls=.ref C) (q:Q true s):wpAny M A (excMatches (.ref ea) (.ref D)) Q E s:=by
 obtain⟨cd,hcd⟩:=c.cl
 have L1:=PySem.W.looks_typeIn (M:=M) hin c.ty
 have L2':=PySem.W.looks_mroIn (M:=M) hin c.be
 have L3:=PySem.W.looks_mroIn (M:=M) hin sub
 have L4:PySem.W.Looks M s.heap (typeOf (.ref ea)) (.ref C):=hcl ▸ (PySem.W.Looks.ld ho).andThen .now
 have L5:PySem.W.Looks M s.heap (isType (.ref D)) true:=by
  unfold PySem.W.clsIn at hcd
  split at hcd
  ·rename_i ho'
   intro A' Q' E' s' k q'
   unfold isType loadHead
   exact wpAny_bind (wpAny_loadPart (k _ _ (hin _ _ ho')) (wpAny_pure q'))
  ·cases hcd
 have L6:PySem.W.Looks M s.heap (isExcClass (.ref D)) true:=L5.andThen L2'
 obtain⟨h,g,d,t,os⟩:=s
 have f:=tc_notTuple
 unfold excMatches isInstance
 refine wpAny_bind (wpAny_bind (L1.at ?_))
 rw[f]
 refine wpAny_pure ?_
 simp only[Bool.false_eq_true,if_false]
 refine wpAny_bind (wpAny_pure ?_)
 rw[List.forIn_cons]
 refine wpAny_bind (wpAny_bind (wpAny_bind (L6.at ?_)))
 simp only[Bool.not_true,Bool.false_eq_true,if_false]
 refine wpAny_pure ?_
 dsimp only
 rw[List.forIn_nil]
 refine wpAny_pure ?_
 refine wpAny_bind (L4.at ?_)
 rw[List.forIn_cons]
 refine wpAny_bind (wpAny_bind (wpAny_bind (L3.at ?_)))
 simp only[if_true]
 refine wpAny_pure ?_
 dsimp only
 refine wpAny_pure ?_
 exact wpAny_pure q
end L2
namespace L2
open PySem PySem.Spec PyProof.Rows
noncomputable def kdO:Option HO→String
 |some (.lst _)=>"list"
 |some (.frz _ (.lst _))=>"list"
 |some (.tup _)=>"tuple"
 |some (.dK _)=>"dict"
 |some (.dT _)=>"dict"
 |_=>""
noncomputable def kd (H:Hp):V→String
 |.non=>"NoneType"
 |.bl _=>"bool"
 |.int _=>"int"
 |.str _=>"str"
 |.ref a=>kdO (H a)
 |_=>""
noncomputable def Kn (H:Hp) (x:V):Prop:=kd H x≠""
noncomputable def isTy (n:String) (H:Hp) (x:V):Bool:=kd H x == n || (kd H x == "bool"&&n == "int")
theorem kd_ty {K:PySem.W.Frag} {H:Hp} {x:V} (h:Kn H x):TyOf K H x (.type (kd H x)):=by
 cases x with
 |non=>exact .non
 |bl b=>exact .bl b
 |int i=>exact .int i
 |str s=>exact .str s
 |ref a=>
  have h:kdO (H a)≠"":=h
  show TyOf K H (.ref a) (.type (kdO (H a)))
  cases e:H a with
  |none=>rw[e] at h;exact absurd rfl h
  |some o=>
   rw[e] at h
   cases o with
   |lst xs=>exact .lst e
   |tup xs=>exact .tup e
   |dK k=>exact .dK e
   |dT k=>exact .dT e
   |frz ob u=>
    cases u with
    |lst xs=>exact .frz e
    |_=>exact absurd rfl h
   |_=>exact absurd rfl h
 |_=>exact absurd rfl h
theorem ag5 (o:Option HO):kdO o=""∨kdO o="list"∨kdO o="tuple"∨kdO o="dict":=by
 unfold kdO
 split<;>simp
theorem Kn.cases {H:Hp} {x:V} (h:Kn H x):kd H x="NoneType"∨kd H x="bool"∨kd H x="int"∨kd H x="str"∨kd H x="list"∨kd H x="tuple"∨kd H x="dict":=by
 cases x with
 |ref a=>
  have h:kdO (H a)≠"":=h
  show kdO (H a)=_∨kdO (H a)=_∨kdO (H a)=_∨kdO (H a)=_∨kdO (H a)=_∨kdO (H a)=_∨kdO (H a)=_
  rcases ag5 (H a) with e|e|e|e
  ·exact absurd e h
  ·exact .inr (.inr (.inr (.inr (.inl e))))
  ·exact .inr (.inr (.inr (.inr (.inr (.inl e)))))
  ·exact .inr (.inr (.inr (.inr (.inr (.inr e)))))
 |non=>exact .inl rfl
 |bl b=>exact .inr (.inl rfl)
 |int i=>exact .inr (.inr (.inl rfl))
 |str z=>exact .inr (.inr (.inr (.inl rfl)))
 |_=>exact absurd rfl h
theorem aij (K:PySem.W.Frag):∀k∈["NoneType","bool","int","str","list","tuple","dict"],∀n∈["bool","int","str","list","tuple","dict"],PySem.W.kitOne K (.type k) (.type n)=some (k == n || (k == "bool"&&n == "int")):=by
 have e:∀k∈["NoneType","bool","int","str","list","tuple","dict"],∀n∈["bool","int","str","list","tuple","dict"],(if (Value.type k == Value.type n)=true then some true else if PySem.W.kitMeta n=true then (fastBuiltinMro k).map (·.contains (.type n)) else none)=some (k == n || (k == "bool"&&n == "int")):=by decide+kernel
 exact fun k hk n hn=>e k hk n hn
theorem aik {X:Cx}:CallR X (.builtin "isinstance") (fun xs H Q=>∃x n,xs=[x,.ty n]∧n∈["bool","int","str","list","tuple","dict"]∧Kn H x∧Q (.bl (isTy n H x)) H):=by
 intro pins s σ H xs us Q I r h
 obtain⟨x,n,rfl,hn,hk,q⟩:=h
 cases r with
 |cons r1 rr=>
  cases rr with
  |cons r2 rr=>
   cases rr
   cases r2
   refine agx I r1 (kd_ty hk) (aij X.K _ ?_ n hn) fun tk=>⟨.bl _,H,I.tok tk,rfl,q⟩
   rcases hk.cases with e|e|e|e|e|e|e<;>rw[e]<;>simp
theorem op_neg {X:Cx}:UnR X (unaryOp .USub) (rU fun i=>.int (-i)):=by
 intro pins s σ H x v Q I rx h
 obtain⟨i,rfl,q⟩:=h
 obtain⟨t,rfl⟩:=rx
 exact neg_int ⟨.int _,H,I.tok _,⟨_,rfl⟩,q⟩
end L2
namespace L2
open PySem PySem.Spec PyProof.Rows
theorem kn_tup {H:Hp} {a:Addr} {xs:List V} (h:H a=some (.tup xs)):Kn H (.ref a):=fun z=>by
 have z:kdO (H a)="":=z
 rw[h] at z;exact absurd z (show "tuple"≠"" by decide)
theorem cxOf_K {CX:CXT} {P:Program} {w:World} {K:PySem.W.Frag} {mg:Str→Option Value} {base:Heap} {N:List Str} {qual:Str} {scope:Scope} {f:Addr} {cd:Value} {A:Around} {outer:List Env} {s:Shared} {H:Hp} {E:XK}:
 (cxOf CX P w K mg base N qual scope f cd A outer s H E).K=K:=rfl
noncomputable def whole:V→Bool
 |.int _=>true
 |_=>false
noncomputable def within (x:V) (l h:Int):Bool:=match x with
 |.int i=>decide (l≤i)&&decide (i≤h)
 |_=>false
end L2
namespace L2
open PySem PySem.Spec PyProof.Rows
inductive Hid (t u:TS):Type where
 |mk:Hid t u
noncomputable def tCut (t u:TS) (_:Hid t u):TS:=fun D σ H=>∃M:St→Hp→Prop,t {D with nx:=M} σ H∧∀σ' H',M σ' H'→u D σ' H'
theorem aax {X:Cx} {st:Stmt} {rest:List Stmt} {t u:TS} (h1:PS X st t) (h2:PSs X rest u):PSs X (st::rest) (tCut t u .mk):=by
 intro pins s σ H D I h
 obtain⟨M,h,hM⟩:=h
 refine wpAny_execs_cons (thn (h1 pins s σ H {D with nx:=M} I h) fun f s1 q=>?_)
 cases f with
 |next=>
  obtain⟨σ',H',I',q⟩:=q
  exact h2 pins s1 σ' H' D I' (hM σ' H' q)
 |ret v=>exact q
 |brk=>exact q
 |cont=>exact q
noncomputable def lstO:Option HO→Option (List V)
 |some (.lst xs)=>some xs
 |some (.frz _ (.lst xs))=>some xs
 |_=>none
noncomputable def tupO:Option HO→Option (List V)
 |some (.tup xs)=>some xs
 |some (.frz _ (.tup xs))=>some xs
 |_=>none
theorem ail {xs:List V}:lstO (some (.lst xs))=some xs:=rfl
theorem aim {xs:List V}:tupO (some (.tup xs))=some xs:=rfl
theorem aj1 {K:PySem.W.Frag} {H:Hp} {a:Addr} {xs:List V} (h:lstO (H a)=some xs):SqL K H a xs:=by
 unfold lstO at h
 split at h
 ·rename_i e;cases h;exact .inl (.inl e)
 ·rename_i e;cases h;exact .inl (.inr ⟨_,e⟩)
 ·cases h
theorem aj2 {K:PySem.W.Frag} {H:Hp} {a:Addr} {xs:List V} (h:tupO (H a)=some xs):SqT K H a xs:=by
 unfold tupO at h
 split at h
 ·rename_i e;cases h;exact .inl (.inl e)
 ·rename_i e;cases h;exact .inl (.inr ⟨_,e⟩)
 ·cases h
noncomputable def rIxH:R2:=fun x y H Q=>∃p xs i v,x=.ref p∧y=.int i∧lstO (H p)=some xs∧atI xs i=some v∧Q v H
theorem afs {X:Cx}:IxR X rIxH:=by
 intro value slice pins s σ H x y v u Q I rx ry h hs
 obtain⟨p,xs,i,w',e1,e2,e3,e4,q⟩:=h
 exact abf value slice pins s σ H x y v u Q I rx ry ⟨p,xs,i,w',e1,e2,aj1 e3,e4,q⟩ hs
theorem aj3 {i j:Int}:scal (.int i) (.int j)=true:=rfl
theorem aj4 {i j:Bool}:scal (.bl i) (.bl j)=true:=rfl
theorem aj5 {i j:Str}:scal (.str i) (.str j)=true:=rfl
theorem na10:Int.natAbs 10=10:=rfl
theorem aad {H:Hp}:Same H H:=fun _ _ h=>h
theorem aah {H H':Hp} {p:Addr} {o:HO} (s:Same H H') (h:H' p=none):Same H (upd H' p o):=fun b u e=>by
 have q:=s b u e
 rw[aa4 (aa3 q h)]
 exact q
end L2
namespace L2
open PySem PySem.Spec PyProof.Rows
end L2
namespace L2
open PySem PySem.Spec PyProof.Rows
inductive HidF (g:TG) (tb:TS):Type where
 |mk:HidF g tb
noncomputable def Loop (g:TG) (tb:TS) (_:HidF g tb) (J:It):TS:=fun D σ H=>∃W:Nat→Nat→St→Hp→Prop,(∃m,W 0 m σ H)∧∀i m σ H,W i m σ H→
 (J.stop i H∧D.nx σ H)∨(J.go i H∧∃N:St→Hp→Prop,(∀σ' H',N σ' H'→∃m',m' < m∧W (i+1) m' σ' H')∧∀x H',J.yld i H x H'→g x σ H' fun σ2 H2=>tb {D with nx:=N,ct:=N,bk:=D.nx} σ2 H2)
noncomputable def tForE (wi:TI) (g:TG) (tb:TS) (h:HidF g tb):TS:=fun D σ H=>wi σ H fun J H1=>Loop g tb h J D σ H1
theorem afb {X:Cx} {tg iter:Expr} {body:List Stmt} {wi:TI} {g:TG} {tb:TS} {pos:Pos} (hp:PassesOwn (model X.prog X.w) X.A X.env X.xe) (hc:X.calm=true) (hi:PI X tg iter wi) (hg:PG X tg g) (hb:PSs X body tb)
 (hs:∀x,foldedSetIterable iter X.env x=pure x:=by intro _;rfl):PS X (.For tg iter body [] pos) (tForE wi g tb .mk):=ps_for hp hc hi hg hb hs
theorem agd {lo:Int} {n:Nat} {g:TG} {tb:TS} {h:HidF g tb} {D:Ends} {σ:St} {H:Hp} (Pv:Nat→St→Hp→Prop) (h0:Pv 0 σ H)
 (hs:∀i σ H,i < n→Pv i σ H→g (.int (lo+i)) σ H fun σ2 H2=>tb {D with nx:=Pv (i+1),ct:=Pv (i+1),bk:=D.nx} σ2 H2) (hd:∀σ H,Pv n σ H→D.nx σ H):Loop g tb h (Itr lo n) D σ H:=agq Pv h0 hs hd
theorem ag6 {K:PySem.W.Frag} {a:Addr} {xs:List V} {g:TG} {tb:TS} {h:HidF g tb} {D:Ends} {σ:St} {H:Hp} (Pv:Nat→St→Hp→Prop) (h0:Pv 0 σ H) (hl:∀i σ H,i≤xs.length→Pv i σ H→SqL K H a xs)
 (hs:∀i x σ H,xs[i]?=some x→Pv i σ H→g x σ H fun σ2 H2=>tb {D with nx:=Pv (i+1),ct:=Pv (i+1),bk:=D.nx} σ2 H2) (hd:∀σ H,Pv xs.length σ H→D.nx σ H):Loop g tb h (Itl K a) D σ H:=aie Pv h0 hl hs hd
theorem ain {K:PySem.W.Frag} {a:Addr} {xs:List V} {g:TG} {tb:TS} {h:HidF g tb} {D:Ends} {σ:St} {H:Hp} (Pv:Nat→St→Hp→Prop) (h0:Pv 0 σ H) (hl:∀i σ H,i≤xs.length→Pv i σ H→SqT K H a xs)
 (hs:∀i x σ H,xs[i]?=some x→Pv i σ H→g x σ H fun σ2 H2=>tb {D with nx:=Pv (i+1),ct:=Pv (i+1),bk:=D.nx} σ2 H2) (hd:∀σ H,Pv xs.length σ H→D.nx σ H):Loop g tb h (Itt K a) D σ H:=aju Pv h0 hl hs hd
end L2
namespace L2
open PySem PySem.Spec PyProof.Rows
end L2
namespace L2
open PySem PySem.Spec PyProof.Rows
end L2
namespace L2
open PySem PySem.Spec PyProof.Rows
end L2
namespace L2
open PySem PySem.Spec PyProof.Rows
end L2
namespace L2
open PySem PySem.Spec PyProof.Rows
theorem aio {H:Hp} {a:Addr} {xs:List V} (h:H a=some (.tup xs)):isTy "tuple" H (.ref a)=true:=by
 unfold isTy
 rw[show kd H (.ref a)=kdO (H a) from rfl,h];rfl
end L2
namespace L2
open PySem PySem.Spec PyProof.Rows
section
variable {X:Cx} {pins pins2:List (Addr×Obj)} {σ:St} {H:Hp} {s:Shared} {E':Value→Shared→Prop}
theorem Cx.Ok.re {pn:List (Addr×Obj)} (ok:X.Ok):({X with xe:=E',pn:=pn}:Cx).Ok:=
 ⟨ok.mod,ok.kind,ok.glob,ok.blt,ok.above,ok.inj,ok.has,ok.cab,ok.hd,ok.frames,ok.stk,ok.exf,ok.bs,ok.bsz,ok.noex,ok.exfs,ok.funs,ok.frf⟩
theorem Inv.re (I:Inv X pins σ H s):Inv {X with xe:=E',pn:=X.pn++pins} [] σ H s:=
 ⟨I.ok.re,I.os,I.bare,I.base,I.loc,I.cell,I.free,I.freeC,fun p hp=>I.pin p (by rw[List.append_nil] at hp;exact hp),I.hok,I.len⟩
theorem Inv.unre (ok:X.Ok) (I:Inv {X with xe:=E',pn:=X.pn++pins} pins2 σ H s):Inv X pins σ H s:=
 ⟨ok,I.os,I.bare,I.base,I.loc,I.cell,I.free,I.freeC,fun p hp=>I.pin p (List.mem_append_left _ hp),I.hok,I.len⟩
theorem Inv.marked {v : Option Value} (I : Inv X pins σ H s) : Inv { X with A := X.A.mark v, calm := false, xe := E' } pins σ H s :=
  ⟨⟨I.ok.mod, I.ok.kind, I.ok.glob, I.ok.blt, I.ok.above, I.ok.inj, I.ok.has, I.ok.cab, fun z => Bool.noConfusion z, I.ok.frames, I.ok.stk, I.ok.exf, I.ok.bs, I.ok.bsz, I.ok.noex, I.ok.exfs, I.ok.funs, I.ok.frf⟩,
    I.os, I.bare, I.base, I.loc, I.cell, I.free, I.freeC, I.pin, I.hok, I.len⟩
theorem Inv.unmarked {v:Option Value} (ok:X.Ok) (I:Inv {X with A:=X.A.mark v,calm:=false,xe:=E'} pins σ H s):Inv X pins σ H s:=
 ⟨ok,I.os,I.bare,I.base,I.loc,I.cell,I.free,I.freeC,I.pin,I.hok,I.len⟩
end
noncomputable def tTryAs (K:PySem.W.Frag) (D:Addr) (i:Nat) (tb:XKs→TS) (to th:TS):TS:=fun Dn σ H=>
 tb (fun cls σ' H'=>∃C,cls=.ref C∧XSub K C D∧∀ea,H' ea=none→th {nx:=fun σ2 H2=>Dn.nx (σ2.set i none) H2,rt:=Dn.rt,bk:=fun σ2 H2=>Dn.bk (σ2.set i none) H2,ct:=fun σ2 H2=>Dn.ct (σ2.set i none) H2}
  (σ'.set i (some (.ref ea))) (upd H' ea (excO ea C))) {Dn with nx:=to Dn} σ H
theorem ag7 {X:Cx} {i:Nat} {n x:Str} {D:Addr} {body orelse:List Stmt} {b₀:Stmt} {suite:List Stmt} {np hpos pos:Pos} {tb:XKs→TS} {to th:TS}
  (hN:X.N.Nodup) (hi:X.N[i]?=some n) (hlo:X.env.kindOf n=some .local) (c:XH X.K X.mg x D)
  (hb:∀(E':Value→Shared→Prop) (pn:List (Addr×Obj)) (Kx:XKs),PassesOwn (model X.prog X.w) X.A X.env E'→XW {X with xe:=E',pn:=pn} Kx→PSs {X with xe:=E',pn:=pn} body (tb Kx))
  (ho:PSs X orelse to) (hh:∀ea:Addr,PSs {X with A:=X.A.mark (some (.ref ea)),calm:=false,xe:=fun _ _=>False} (b₀::suite) th)
  (hg:Gl X x:=by rfl) (hst:X.stack=X.env::X.outer:=by rfl) (hfm:X.env.frame=some X.env.locals:=by rfl) (hd:(x == ("__debug__":Str))=false:=by decide):
  PS X (.Try body [.ExceptHandler (some (.Name x np)) (some n) (b₀::suite) hpos] orelse [] pos) (tTryAs X.K D i tb to th):=by
 intro pins s σ H Dn I h
 refine wpAny_Try_except ?_
 have xw:XW {X with xe:=(fun e s₁=>wpAny (model X.prog X.w) X.A (noteFrame e X.env) (fun _ s₂=>wpAny (model X.prog X.w) X.A (setFlight e none) (fun _ s₃=>
   wpAny (model X.prog X.w) X.A (handleBy e X.env [.ExceptHandler (some (.Name x np)) (some n) (b₀::suite) hpos]) (SP X pins Dn) X.xe s₃) X.xe s₂) X.xe s₁),pn:=X.pn++pins}
   (fun cls σ' H'=>∃C,cls=.ref C∧XSub X.K C D∧∀ea,H' ea=none→th {nx:=fun σ2 H2=>Dn.nx (σ2.set i none) H2,rt:=Dn.rt,bk:=fun σ2 H2=>Dn.bk (σ2.set i none) H2,ct:=fun σ2 H2=>Dn.ct (σ2.set i none) H2}
    (σ'.set i (some (.ref ea))) (upd H' ea (excO ea C))):=by
  intro pins2 σ2 H2 s2 s' ea cls H' B I2 os bare un hok fly hK
  obtain⟨C,rfl,hsub,hK⟩:=hK
  have J2:Inv X pins σ2 H2 s2:=I2.unre I.ok
  have J':Inv X pins σ2 H' s':=J2.call' (s':=s') (ch:=[]) os un hok bare (fun b z=>absurd z (by simp))
  have fly:Fly B X.stack s2.heap H2 H' s'.heap ea (.ref C):=fly
  obtain⟨a0,hfl⟩:=id fly.fl
  have hfr:=I.ok.frames
  rw[hst] at hfr hfl
  show wpAny (model X.prog X.w) X.A (noteFrame (.ref ea) X.env) _ X.xe s'
  refine wpAny_looks_onW hfr hfm hfl fun h4 held4 up4=>?_
  refine wpAny_landsW held4 fun h5 fl5 up5=>?_
  have J5:Inv X pins σ2 H' {s' with heap:=h5}:=Inv.flown J2 J' fly fl5.1 (up4.trans up5)
  obtain⟨oe,vs5,hoe,hoc,hod,_⟩:=fl5.first
  refine wpAny_handleBy_cons (codeAny_handlers_test (ad5 (X:={X with A:=X.A.mark (some (.ref ea)),calm:=false,xe:=fun _ _=>False}) (J5.marked (v:=some (.ref ea))) hg c.m ?_ hd)) (by intro q;cases q)
  refine ag4 (x:=x) (mg:=X.mg) J5.kIn c hsub hoe hoc ?_
  refine codeAny_handlers_suite_as ?_
  refine lands_againW fl5 fun h6 fl6 up6=>?_
  have J6:Inv X pins σ2 H' {s' with heap:=h6}:=Inv.flown J2 J' fly fl6.1 ((up4.trans up5).trans up6)
  obtain⟨o6,vs6,ho6,hc6,hd6,_⟩:=fl6.first
  have hne:H' ea=none:=by
   cases z:H' ea with
   |none=>rfl
   |some u=>
    obtain⟨o,e⟩:=fly.trk ea u z
    rw[fl6.2.1] at e;cases e
  have nB:∀b o,B.get? b=some o→b≠ea:=fun b o e z=>by rw[z,fl6.2.1] at e;cases e
  have J7:Inv X pins σ2 (upd H' ea (excO ea C)) {s' with heap:=h6}:=by
   refine J6.track hne ?_ ?_ ?_ ?_ ?_
   ·intro z
    obtain⟨m,⟨oL,es,ep,hoL,hdL,_⟩,_⟩:=J6.loc
    rw[←z] at hoL
    have e:=ho6.symm.trans hoL
    cases e
    rw[hd6] at hdL;cases hdL
   ·intro o e
    by_cases hx:ea∈X.ex
    ·exact hx
    ·exfalso
     by_cases hf:ea∈X.fs
     ·obtain⟨_,o',ho',hnf⟩:=J6.funs.mem hf
      have e:=ho6.symm.trans ho'
      cases e
      exact hnf _ hd6
     ·obtain⟨o1,e1⟩:=J2.base.there ea o e hx
      have hl:ea≠X.env.locals:=Nat.ne_of_lt (Nat.lt_of_lt_of_le (Heap.lt_size e) I.ok.above)
      obtain⟨o2,e2⟩:=fly.alive ea o1 e1 fun z=>by
       rcases List.mem_cons.mp (J2.stkSub ea z) with q|q
       ·exact hl q
       ·exact hf q
      exact nB ea o2 e2 rfl
   ·intro x' c' e z
    obtain⟨v,o,ho,hdc⟩:=J6.cell x' c' e
    rw[z] at ho
    have e:=ho6.symm.trans ho
    cases e
    rw[hd6] at hdc;cases hdc
   ·intro p hp
    obtain⟨e,nn,ne,nfs,_⟩:=J2.pin p hp
    exact nB p.1 p.2 (fly.kept p.1 p.2 e nn fun z=>by
     rcases List.mem_cons.mp (J2.stkSub p.1 z) with q|q
     ·exact ne q
     ·exact nfs q)
   ·intro H0
    exact⟨⟨o6,vs6,ho6,hc6,hd6⟩,⟨o6,ho6⟩,fun h1 h2 ⟨o,vs,a1,a2,a3⟩ k=>⟨o,vs,k o a1,a2,a3⟩⟩
  refine ad3 J7 hN hi (Or.inl hlo) (v:=.ref ea) rfl (fun s7 J8=>?_) (.inr hlo)
  refine wpAny_mono (hh ea pins s7 _ _ _ (J8.marked (v:=some (.ref ea))) (hK ea hne)) (fun f s8 hq=>?_) (fun _ _ z=>z.elim)
  show wpAny (model X.prog X.w) X.A (do bindName X.env n .none;unbindBehindTheSuite X.env n hpos) (fun _ s₃=>SP X pins Dn f s₃) X.xe s8
  cases f with
  |next=>
   obtain⟨σ',H2',I3,q⟩:=hq
   exact (I3.unmarked I.ok).nameGone hN hi hlo fun s9 I9=>⟨_,H2',I9,q⟩
  |brk=>
   obtain⟨σ',H2',I3,q⟩:=hq
   exact (I3.unmarked I.ok).nameGone hN hi hlo fun s9 I9=>⟨_,H2',I9,q⟩
  |cont=>
   obtain⟨σ',H2',I3,q⟩:=hq
   exact (I3.unmarked I.ok).nameGone hN hi hlo fun s9 I9=>⟨_,H2',I9,q⟩
  |ret u=>
   obtain⟨v,σ',H2',I3,r,q⟩:=hq
   exact (I3.unmarked I.ok).nameGone hN hi hlo fun s9 I9=>⟨v,_,H2',I9,r,q⟩
 have q:=hb _ (X.pn++pins) _ PassesOwn.looking xw [] s σ H {Dn with nx:=to Dn} I.re h
 refine wpAny_mono q (fun f s1 hq=>?_) (fun e s1 hq=>hq)
 cases f with
 |next=>
  obtain⟨σ',H',I1,q1⟩:=hq
  exact ho pins s1 σ' H' Dn (I1.unre I.ok) q1
 |brk=>obtain⟨σ',H',I1,q1⟩:=hq;exact⟨σ',H',I1.unre I.ok,q1⟩
 |cont=>obtain⟨σ',H',I1,q1⟩:=hq;exact⟨σ',H',I1.unre I.ok,q1⟩
 |ret u=>obtain⟨v,σ',H',I1,r,q1⟩:=hq;exact⟨v,σ',H',I1.unre I.ok,r,q1⟩
end L2
namespace PySem.W
open PySem PySem.Spec PySem.Calls PyProof.Rows
open Builtin Builtin.ObjectAttr Builtin.Getset_descriptor
structure XIs (K:Frag) (C:Addr):Prop where
 g:findIn K (.ref C) "__getattribute__"=some (some (.builtin "BaseException.__getattribute__"))
 h:findIn K (.ref C) "__getattr__"=some none
 b:mroIn K C (.type "BaseException")=some true
 d:hasDictIn K C=true
 a:findIn K (.ref C) "__class__"=some (some (.builtin "object.__class__"))
 n:specialIn K (.builtin "object.__class__") "__get__"=some (some (.builtin "getset_descriptor.__get__"))
 t:takesIn K (.builtin "object.__class__")=some true
 m:mroIn K C (.type "object")=some true
noncomputable def ExcAt (e C:Addr) (h:Heap):Prop:=∃o,h.get? e=some o∧o.cls=.ref C
section
variable {K:Frag} {e C:Addr}
theorem ExcAt.ty {M:Model} {h:Heap} (p:ExcAt e C h):Looks M h (typeOf (.ref e)) (.ref C):=by
 obtain⟨o,h1,h2⟩:=p
 exact h2 ▸ (Looks.ld h1).andThen .now
theorem xcl {M:Model} {h:Heap} (hin:K.In h) (x:XIs K C):Looks M h (isType (.ref C)) true:=by
 obtain⟨cd,hcd,_⟩:=any_some x.d
 unfold clsIn at hcd
 split at hcd
 ·rename_i ho'
  intro A' Q' E' s' k q'
  unfold isType loadHead
  exact wpAny_bind (wpAny_loadPart (k _ _ (hin _ _ ho')) (wpAny_pure q'))
 ·cases hcd
theorem xfind {M:Model} {h:Heap} (hin:K.In h) (x:XIs K C):Looks M h (find (.ref e) (.ref C) "__class__") (.bind (.builtin "getset_descriptor.__get__") (.builtin "object.__class__")):=by
 have A1:=looks_findIn (M:=M) hin x.a
 have A2:Looks M h (getOf (some (.builtin "object.__class__"))) (some (.builtin "getset_descriptor.__get__")):=looks_specialIn hin x.n
 have A3:=looks_takesIn (M:=M) hin x.t
 exact A1.andThen (A2.andThen ((show Looks M h (dataDescriptor? (some (.builtin "object.__class__")) (some (.builtin "getset_descriptor.__get__"))) (some _) from A3.andThen .now).andThen (Looks.tag .now)))
variable {prog:Program} {w:World} {A:Around} {E:Value→Shared→Prop} {s:Shared}
theorem xget {R:Result→Shared→Prop} {tp:Value} (hin:K.In s.heap) (p:ExcAt e C s.heap) (x:XIs K C) (h:R (.ok (.ret (.ref C))) s):
  codeAny (model prog w) A (.call (.builtin "getset_descriptor.__get__") ⟨[.builtin "object.__class__",.ref e,tp],[]⟩) R s:=by
 obtain⟨hh,g,dr,t,os⟩:=s
 have B0:=p.ty (M:=model prog w)
 have B1:=looks_mroIn (M:=model prog w) hin x.m
 refine codeAny_call_builtin KF.slot_gs.plain KF.entry_gs (KF.slot_gs.check _ _ _ _ _ _ _ _ KF.type_class (KF.args_gs _ _ _) ?_)
 unfold Builtin.«getset_descriptor.__get__» descrGet
 rw[dga_obj]
 refine wpAny_bind (wpAny_pure ?_)
 unfold descrGetter descrCheckInstance descrNameAndClass isInstance
 simp only[KF.owner_class]
 repeat lk
 refine⟨Code.quiet_builtin _ (by decide+kernel),codeAny_builtin KF.entry_class ?_⟩
 unfold Builtin.«object.__class__» shownTypeOf
 repeat lk
 exact h
theorem xcheck {M:Model} {nameV:Value} {Q:Unit→Shared→Prop} (hin:K.In s.heap) (p:ExcAt e C s.heap) (x:XIs K C) (hq:Q () s):wpAny M A (checkBuiltinCall "BaseException.__getattribute__" ⟨[.ref e,nameV],[]⟩) Q E s:=by
 have c1:builtinKind "BaseException.__getattribute__"=some .slot:=by decide+kernel
 have c2:splitId "BaseException.__getattribute__"=some ("BaseException","__getattribute__"):=by decide+kernel
 have c3:=F.args_bexc_ga (.ref e) nameV
 obtain⟨hh,g,d,t,os⟩:=s
 have B0:=p.ty (M:=M)
 have B1:=looks_mroIn (M:=M) hin x.b
 have B2:Looks M hh (isInstance (.ref e) (.type "BaseException")) true:=B0.andThen B1
 simp only[checkBuiltinCall,c1,c2]
 refine wpAny_bind (B2.at ?_)
 simp only[Bool.not_true,Bool.false_eq_true,if_false]
 exact wpAny_of_eq c3 hq
theorem xentry {tk:Tok} {Q:Fin→Shared→Prop} (hin:K.In s.heap) (p:ExcAt e C s.heap) (x:XIs K C) (hq:Q (.done (.ret (.ref C))) s):wpAny (model prog w) A (Builtin.«object.__getattribute__» ⟨[.ref e,.str "__class__" tk],[]⟩) Q E s:=by
 obtain⟨hh,g,d,t,os⟩:=s
 have B0:=p.ty (M:=model prog w)
 have B2:=xfind (M:=model prog w) (e:=e) hin x
 unfold Builtin.«object.__getattribute__»
 refine wpAny_bind (wpAny_pure (a:=(Value.ref e,[Value.str "__class__" tk])) ?_)
 refine wpAny_bind (wpAny_pure (a:=("__class__":Str)) ?_)
 refine wpAny_bind (B0.at (wpAny_bind (B2.at ?_)))
 show wpAny _ _ (bindTo (Value.builtin "getset_descriptor.__get__") (Value.builtin "object.__class__") (Value.ref e) (Value.ref C)) _ _ _
 unfold bindTo
 dsimp only
 refine wpAny_bind (wpAny_holding (wpAny_call (xget (s:=⟨hh,g,d,t,os⟩) hin p x ?_)))
 exact wpAny_pure hq
theorem xca {Q:Option Value→Shared→Prop} (hin:K.In s.heap) (p:ExcAt e C s.heap) (x:XIs K C) (h:Q (some (.ref C)) {s with toks:=s.toks+1}):wpAny (model prog w) A (getAttr? (.ref e) "__class__") Q E s:=by
 obtain⟨hh,g,d,t,os⟩:=s
 have B0:=p.ty (M:=model prog w)
 have B1:=looks_findIn (M:=model prog w) hin x.g
 have B3:=looks_findIn (M:=model prog w) hin x.h
 unfold getAttr? getAttrBy? getAttrBy
 refine wpAny_bind (wpAny_mkText (wpAny_bind (wpAny_attempt (wpAny_holding (wpAny_bind (B0.at (wpAny_bind (B1.at ?_))))))))
 have c2:(Value.builtin "BaseException.__getattribute__" == Value.builtin "object.__getattribute__")=false:=by decide+kernel
 simp only[c2,Bool.and_false,Bool.false_eq_true,if_false]
 unfold getAttrByItsOwn hookBefore
 rw[if_pos (show onTheHeap (Value.ref C)=true from rfl)]
 refine wpAny_bind (B3.at (wpAny_bind (wpAny_attempt (wpAny_holding ?_))))
 unfold callGetattribute boundAndCalled
 simp only[Bool.false_and,Bool.false_eq_true,if_false]
 refine wpAny_bind (wpAny_of_eq (PySem.F.attr_ValueError.ga.bind (.ref e)) ?_)
 refine wpAny_call (codeAny_call_builtin PySem.F.attr_ValueError.ga.plain F.entry_bexc_ga (xcheck (s:=⟨hh,g,d,t+1,os⟩) hin p x (xentry (s:=⟨hh,g,d,t+1,os⟩) hin p x ?_)))
 exact handed_on rfl (wpAny_pure h)
theorem kitx_exc (x:XIs K C):KitX K (.ref e) (.ref C) (ExcAt e C) where
 ty:=fun _ _ _ p=>p.ty
 it:=fun _ _ hin _=>xcl hin x
 ne:=fun h tp dd its n sl hin htp=>by
  refine Bool.eq_false_iff.mpr fun q=>?_
  obtain⟨cd,hcd,_⟩:=any_some x.d
  have e1:C=tp:=Value.ref.inj (beq_iff_eq.mp q)
  rw[←e1] at htp
  unfold clsIn at hcd
  split at hcd
  ·rename_i ho'
   have z:=(hin _ _ ho').symm.trans htp
   cases z
  ·cases hcd
 ca:=fun hin p k=>xca hin p x k
end
end PySem.W
namespace L2
open PySem PySem.Spec PyProof.Rows
noncomputable abbrev XI (K:PySem.W.Frag) (C:Addr):Prop:=PySem.W.XIs K C
noncomputable def clsV:V→Value
 |.ref a=>.ref a
 |.ty n=>.type n
 |_=>.none
theorem ad8 {a:Addr}:clsV (.ref a)=.ref a:=rfl
theorem aj6 {n:String}:clsV (.ty n)=.type n:=rfl
theorem excAt {X:Cx} {pins:List (Addr×Obj)} {σ:St} {H:Hp} {s:Shared} {a C:Addr} (I:Inv X pins σ H s) (e:H a=some (excO a C)):PySem.W.ExcAt a C s.heap:=by
 obtain⟨⟨o,vs,h1,h2,_⟩,_⟩:=(show ObjOk X.prog X.w H s.heap a (excO a C) from I.hok a _ e)
 exact⟨o,h1,h2⟩
theorem aes {X:Cx} {K:PySem.W.Frag} (hK:X.K=K:=by rfl):CallR X (.builtin "isinstance") (fun xs H Q=>∃a y C b,xs=[.ref a,y]∧H a=some (excO a C)∧XI K C∧PySem.W.kitOne K (.ref C) (clsV y)=some b∧Q (.bl b) H):=by
 subst hK
 intro pins s σ H xs us Q I r h
 obtain⟨a,y,C,b,rfl,e,x,k,q⟩:=h
 cases r with
 |cons r1 rr=>
  cases rr with
  |cons r2 rr=>
   cases rr
   cases r1
   have c2:∀u,RelV y u→PySem.W.kitOne X.K (.ref C) (clsV y)=some b→PySem.W.kitOne X.K (.ref C) u=some b:=fun u ru k=>by
    cases y with
    |ref a=>cases ru;exact k
    |ty n=>cases ru;exact k
    |_=>exact absurd k (by unfold clsV PySem.W.kitOne PySem.W.kitCls;simp)
   exact PySem.W.kia_one (PySem.W.kitx_exc x) I.kIn (excAt I e) (c2 _ r2 k) (fun z=>nomatch z) fun tk=>⟨.bl b,H,I.tok tk,rfl,q⟩
theorem aft:∀{cs:List V} {its:List Value},Vals cs its→(∀y∈cs,(∃a,y=.ref a)∨∃n,y=.ty n)→its=cs.map clsV
 |_,_,.nil,_=>rfl
 |y::cs,u::us,.cons r t,h=>by
  have e:=aft t fun z hz=>h z (List.mem_cons_of_mem _ hz)
  rcases h y (List.mem_cons_self ..) with ⟨a,rfl⟩|⟨n,rfl⟩
  ·cases r;rw[e];rfl
  ·cases r;rw[e];rfl
theorem aet {X:Cx} {K:PySem.W.Frag} (hK:X.K=K:=by rfl):CallR X (.builtin "isinstance") (fun xs H Q=>∃a p cs C b,xs=[.ref a,.ref p]∧H a=some (excO a C)∧XI K C∧tupO (H p)=some cs∧(∀y∈cs,(∃a,y=.ref a)∨∃n,y=.ty n)∧PySem.W.kitAny K (.ref C) (cs.map clsV)=some b∧Q (.bl b) H):=by
 subst hK
 intro pins s σ H xs us Q I r h
 obtain⟨a,p,cs,C,b,rfl,e,x,ht,hc,k,q⟩:=h
 cases r with
 |cons r1 rr=>
  cases rr with
  |cons r2 rr=>
   cases rr
   cases r1
   cases r2
   obtain⟨its,rv,⟨o,ho,hcl,n,hd⟩,_⟩:=I.tuple (aj2 (K:=X.K) ht)
   obtain⟨oc,odd,oda,osl⟩:=o
   have hcl:oc=.type "tuple":=hcl
   have hd:oda=.seq its.toArray n:=hd
   subst hcl hd
   rw[←aft rv hc] at k
   exact PySem.W.kia_tup (PySem.W.kitx_exc x) I.kIn (excAt I e) ho k (fun z=>nomatch z) fun tk=>⟨.bl b,H,I.tok tk,rfl,q⟩
end L2
namespace L2
open PySem PySem.Spec PyProof.Rows
inductive Dv where
 |leaf (v:V)
 |seq (t:Bool) (ds:List Dv)
mutual
noncomputable def Sees (K:PySem.W.Frag) (H:Hp):Dv→V→Prop
 |.leaf v,x=>x=v∧flatV v=true
 |.seq t ds,x=>∃a xs,x=.ref a∧(if t=true then SqT K H a xs else SqL K H a xs)∧SeesL K H ds xs
noncomputable def SeesL (K:PySem.W.Frag) (H:Hp):List Dv→List V→Prop
 |[],xs=>xs=[]
 |d::ds,xs=>∃x r,xs=x::r∧Sees K H d x∧SeesL K H ds r
end
mutual
noncomputable def alike:Dv→Dv→Bool
 |.leaf _,.leaf _=>true
 |.seq t ds,.seq u es=>t == u&&alikeL ds es
 |_,_=>false
noncomputable def alikeL:List Dv→List Dv→Bool
 |d::ds,e::es=>alike d e&&alikeL ds es
 |_,_=>true
end
mutual
noncomputable def eqDv:Dv→Dv→Bool
 |.leaf v,.leaf w=>eqV v w
 |.seq _ ds,.seq _ es=>eqDvL ds es
 |_,_=>false
noncomputable def eqDvL:List Dv→List Dv→Bool
 |[],[]=>true
 |d::ds,e::es=>eqDv d e&&eqDvL ds es
 |_,_=>false
end
mutual
noncomputable def deep:Dv→Nat
 |.leaf _=>0
 |.seq _ ds=>deepL ds+1
noncomputable def deepL:List Dv→Nat
 |[]=>0
 |d::ds=>max (deep d) (deepL ds)
end
theorem SeesL.length {K:PySem.W.Frag} {H:Hp}:∀{ds:List Dv} {xs:List V},SeesL K H ds xs→ds.length=xs.length
 |[],xs,h=>by unfold SeesL at h;subst h;rfl
 |d::ds,xs,h=>by
  unfold SeesL at h
  obtain⟨x,r,rfl,_,h⟩:=h
  simp[h.length]
theorem adn (n:Nat) (f:Nat→Bool):(List.range (n+1)).all f=(f 0&&(List.range n).all fun j=>f (j+1)):=by
 rw[List.range_succ_eq_map,List.all_cons,List.all_map];rfl
theorem afu:∀(ds es:List Dv),eqDvL ds es=(decide (ds.length=es.length)&&(List.range (min ds.length es.length)).all fun j=>eqDv (ds.getD j (.leaf .non)) (es.getD j (.leaf .non)))
 |[],[]=>by simp[eqDvL]
 |[],e::es=>by simp[eqDvL]
 |d::ds,[]=>by simp[eqDvL]
 |d::ds,e::es=>by
  have ih:=afu ds es
  rw[eqDvL,ih]
  have hm:min (d::ds).length (e::es).length=min ds.length es.length+1:=by simp[Nat.succ_min_succ]
  rw[hm,adn]
  simp only[List.length_cons,Nat.add_right_cancel_iff,List.getD_cons_zero,List.getD_cons_succ]
  cases eqDv d e<;>cases decide (ds.length=es.length)<;>simp
theorem afv {v:V} (h:flatV v=true):eqV v v=true:=by
 cases v<;>first|rfl|(simp[eqV];done)|exact absurd h (by simp[flatV])
mutual
theorem aeu {X:Cx} {pins:List (Addr×Obj)} {σ:St} {H:Hp} {s:Shared} (I:Inv X pins σ H s):∀(d e:Dv) (x:V),alike d e=true→Sees X.K H d x→Sees X.K H e x→eqDv d e=true
 |.leaf a,.leaf b,x,_,hx,hy=>by
  unfold Sees at hx hy
  obtain⟨rfl,fx⟩:=hx
  obtain⟨rfl,fy⟩:=hy
  rw[eqDv]
  exact afv fx
 |.leaf a,.seq t es,_,h,_,_=>by simp[alike] at h
 |.seq t ds,.leaf b,_,h,_,_=>by simp[alike] at h
 |.seq t ds,.seq t' es,x,h,hx,hy=>by
  rw[alike,Bool.and_eq_true] at h
  have ht:=beq_iff_eq.mp h.1
  subst ht
  unfold Sees at hx hy
  obtain⟨a,xs,rfl,hsx,hL⟩:=hx
  obtain⟨b,ys,e,hsy,hM⟩:=hy
  cases e
  rw[eqDv]
  have exy:xs=ys:=by
   cases t with
   |true=>exact I.tuple_inj (by simpa using hsx) (by simpa using hsy)
   |false=>exact I.list_inj (by simpa using hsx) (by simpa using hsy)
  subst exy
  exact adu I ds es xs h.2 hL hM
theorem adu {X:Cx} {pins:List (Addr×Obj)} {σ:St} {H:Hp} {s:Shared} (I:Inv X pins σ H s):∀(ds es:List Dv) (xs:List V),alikeL ds es=true→SeesL X.K H ds xs→SeesL X.K H es xs→eqDvL ds es=true
 |[],[],_,_,_,_=>by rw[eqDvL]
 |[],e::es,xs,_,hx,hy=>by
  unfold SeesL at hx hy
  obtain⟨x,r,e1,_⟩:=hy
  rw[hx] at e1;cases e1
 |d::ds,[],xs,_,hx,hy=>by
  unfold SeesL at hx hy
  obtain⟨x,r,e1,_⟩:=hx
  rw[hy] at e1;cases e1
 |d::ds,e::es,xs,h,hx,hy=>by
  rw[alikeL,Bool.and_eq_true] at h
  unfold SeesL at hx hy
  obtain⟨x,r,rfl,hx,hxr⟩:=hx
  obtain⟨y,r',e1,hy,hyr⟩:=hy
  cases e1
  rw[eqDvL,aeu I d e x h.1 hx hy,adu I ds es r h.2 hxr hyr]
  rfl
end
theorem ag8 {X:Cx} {pins:List (Addr×Obj)} {σ:St} {H:Hp} {s:Shared} (I:Inv X pins σ H s) {A:Around} {t:Bool} {ds es:List Dv} {a b:Addr} {xs ys:List V} (hu:A.units < cLine)
  (hsx:if t=true then SqT X.K H a xs else SqL X.K H a xs) (hsy:if t=true then SqT X.K H b ys else SqL X.K H b ys) (l1:ds.length=xs.length) (l2:es.length=ys.length)
  (ih:∀(j:Nat) (u v:Value) (us vs:List Value),Vals xs us→Vals ys vs→us[j]?=some u→vs[j]?=some v→SeqAt.EqAt A.in1 s u v (eqDv (ds.getD j (.leaf .non)) (es.getD j (.leaf .non)))):
  SeqAt.RcAt A s (.ref a) (.ref b) (eqDvL ds es):=by
 rw[afu]
 cases t with
 |false=>
  obtain⟨its,rv,pl,_⟩:=I.list (show SqL X.K H a xs by simpa using hsx)
  obtain⟨its2,rv2,pl2,_⟩:=I.list (show SqL X.K H b ys by simpa using hsy)
  have n1:=rv.length
  have n2:=rv2.length
  by_cases hl:ds.length=es.length
  ·have q:=SeqAt.RcAt.lists (e:=fun j=>eqDv (ds.getD j (.leaf .non)) (es.getD j (.leaf .non))) pl.isList pl2.isList (by simp;omega) (by omega:A.units < cLine) (fun j h1 h2=>by
    have h1:j < its.length:=by simpa using h1
    have h2:j < its2.length:=by simpa using h2
    have e:=ih j (its[j]) (its2[j]) its its2 rv rv2 (by simp[h1]) (by simp[h2])
    simpa using e)
   rw[decide_eq_true hl,Bool.true_and]
   have em:min ds.length es.length=its.toArray.size:=by simp;omega
   rw[em]
   exact q
  ·have q:=SeqAt.RcAt.lists_lengths (A:=A) pl.isList pl2.isList (by simp;omega) (by omega:A.units < cLine)
   rw[decide_eq_false hl,Bool.false_and]
   exact q
 |true=>
  obtain⟨its,rv,pl,_⟩:=I.tuple (show SqT X.K H a xs by simpa using hsx)
  obtain⟨its2,rv2,pl2,_⟩:=I.tuple (show SqT X.K H b ys by simpa using hsy)
  have n1:=rv.length
  have n2:=rv2.length
  have q:=SeqAt.RcAt.tuples (e:=fun j=>eqDv (ds.getD j (.leaf .non)) (es.getD j (.leaf .non))) (show s.heap.IsTuple a its.toArray from pl) (show s.heap.IsTuple b its2.toArray from pl2) (by omega:A.units < cLine) (fun j h1 h2=>by
    have h1:j < its.length:=by simpa using h1
    have h2:j < its2.length:=by simpa using h2
    have e:=ih j (its[j]) (its2[j]) its its2 rv rv2 (by simp[h1]) (by simp[h2])
    simpa using e)
  have em:min its.toArray.size its2.toArray.size=min ds.length es.length:=by simp;omega
  have eb:(its.toArray.size == its2.toArray.size)=decide (ds.length=es.length):=by
   rw[Bool.eq_iff_iff];simp;omega
  rw[em,eb,Bool.and_comm] at q
  exact q
mutual
theorem ag9 {X:Cx} {pins:List (Addr×Obj)} {σ:St} {H:Hp} {s:Shared} (I:Inv X pins σ H s):∀(d e:Dv) (A:Around) (x y:V) (u v:Value),A.units+deep d < cLine→alike d e=true→Sees X.K H d x→Sees X.K H e y→RelV x u→RelV y v→SeqAt.EqAt A s u v (eqDv d e)
 |.leaf a,.leaf b,A,x,y,u,v,_,_,hx,hy,rx,ry=>by
  unfold Sees at hx hy
  obtain⟨rfl,fx⟩:=hx
  obtain⟨rfl,fy⟩:=hy
  rw[eqDv]
  exact ajg rx ry fx fy
 |.leaf a,.seq t es,A,x,y,u,v,_,h,_,_,_,_=>by simp[alike] at h
 |.seq t ds,.leaf b,A,x,y,u,v,_,h,_,_,_,_=>by simp[alike] at h
 |.seq t ds,.seq t' es,A,x,y,u,v,hu,h,hx,hy,rx,ry=>by
  have h0:=h
  rw[alike,Bool.and_eq_true] at h
  have ht:=beq_iff_eq.mp h.1
  subst ht
  have hx0:=hx
  have hy0:=hy
  unfold Sees at hx hy
  obtain⟨a,xs,rfl,hsx,hL⟩:=hx
  obtain⟨b,ys,rfl,hsy,hM⟩:=hy
  cases rx
  cases ry
  by_cases hab:a=b
  ·subst hab
   rw[aeu I _ _ _ h0 hx0 hy0]
   exact SeqAt.EqAt.same _
  ·rw[deep] at hu
   have hu1:A.in1.units+deepL ds < cLine:=by show A.units+1+deepL ds < cLine;omega
   have ih:=acy I ds es A.in1 xs ys hu1 h.2 hL hM
   rw[eqDv]
   exact SeqAt.EqAt.of_refs hab (ag8 I (by omega) hsx hsy hL.length hM.length ih)
theorem acy {X:Cx} {pins:List (Addr×Obj)} {σ:St} {H:Hp} {s:Shared} (I:Inv X pins σ H s):∀(ds es:List Dv) (A:Around) (xs ys:List V),A.units+deepL ds < cLine→alikeL ds es=true→SeesL X.K H ds xs→SeesL X.K H es ys→
  ∀(j:Nat) (u v:Value) (us vs:List Value),Vals xs us→Vals ys vs→us[j]?=some u→vs[j]?=some v→SeqAt.EqAt A s u v (eqDv (ds.getD j (.leaf .non)) (es.getD j (.leaf .non)))
 |[],es,A,xs,ys,_,_,hx,hy,j,u,v,us,vs,rx,ry,e1,e2=>by
  unfold SeesL at hx
  subst hx
  cases rx
  simp at e1
 |d::ds,[],A,xs,ys,_,_,hx,hy,j,u,v,us,vs,rx,ry,e1,e2=>by
  unfold SeesL at hy
  subst hy
  cases ry
  simp at e2
 |d::ds,e::es,A,xs,ys,hu,h,hx,hy,j,u,v,us,vs,rx,ry,e1,e2=>by
  rw[alikeL,Bool.and_eq_true] at h
  rw[deepL] at hu
  unfold SeesL at hx hy
  obtain⟨x,r,rfl,hx,hxr⟩:=hx
  obtain⟨y,r',rfl,hy,hyr⟩:=hy
  cases rx with
  |cons p1 p2=>
   cases ry with
   |cons q1 q2=>
    cases j with
    |zero=>
     simp at e1 e2
     subst e1 e2
     exact ag9 I d e A x y _ _ (by omega) h.1 hx hy p1 q1
    |succ k=>
     have z:=acy I ds es A r r' (by omega) h.2 hxr hyr k u v _ _ p2 q2 (by simpa using e1) (by simpa using e2)
     simpa using z
end
theorem hu6 {A:Around} {k:Nat} (hr:Room k A):A.units+4+2 < cLine:=by have:=hr.units;omega
noncomputable def rEqD (K:PySem.W.Frag) (n:Nat):R2:=fun x y H Q=>∃t ds es,Sees K H (.seq t ds) x∧Sees K H (.seq t es) y∧alikeL ds es=true∧deepL ds≤n∧Q (.bl (eqDvL ds es)) H
theorem rc_of {X:Cx} {pins:List (Addr×Obj)} {σ:St} {H:Hp} {s:Shared} (I:Inv X pins σ H s) {A:Around} {n:Nat} (hu:A.units+n+2 < cLine) {t:Bool} {ds es:List Dv} {x y:V} {u v:Value} (hx:Sees X.K H (.seq t ds) x) (hy:Sees X.K H (.seq t es) y) (ha:alikeL ds es=true) (hd:deepL ds≤n)
  (rx:RelV x u) (ry:RelV y v):SeqAt.RcAt A s u v (eqDvL ds es):=by
 unfold Sees at hx hy
 obtain⟨a,xs,rfl,hsx,hL⟩:=hx
 obtain⟨b,ys,rfl,hsy,hM⟩:=hy
 cases rx
 cases ry
 exact ag8 I (by omega) hsx hsy hL.length hM.length (acy I ds es A.in1 xs ys (by show A.units+1+deepL ds < cLine;omega) ha hL hM)
theorem op_eqD {X:Cx} {n:Nat} (hu:X.A.units+n+2 < cLine):OpR X (compareOp .Eq) (rEqD X.K n):=by
 intro pins s σ H x y v u Q I rx ry h
 obtain⟨t,ds,es,hx,hy,ha,hd,q⟩:=h
 exact rc_of I hu hx hy ha hd rx ry X.prog X.w X.xe _ ⟨.bl _,H,I,rfl,q⟩
end L2
namespace L2
open PySem PySem.Spec PyProof.Rows
noncomputable def compChk (sc:Scope) (env:Env) (x:Str) (fs:List Str):Bool:=
 sc.kind == .function&&sc.names.all (fun y=>y.2 != .cell&&(y.2 != .local || sc.names.lookup y.1 == some .local)&&(y.2 != .free || env.kindOf y.1 == some .cell || env.kindOf y.1 == some .free))&&
  sc.names.lookup x == some .local&&fs.all (fun f=>sc.names.lookup f == some .free)
structure CompSc (sc:Scope) (env:Env) (x:Str) (fs:List Str):Prop where
 kind:sc.kind=.function
 nocell:∀y∈sc.names,y.2≠.cell
 own:∀y∈sc.names,y.2=.local→sc.names.lookup y.1=some .local
 fr:∀y∈sc.names,y.2=.free→env.kindOf y.1=some .cell∨env.kindOf y.1=some .free
 x:sc.names.lookup x=some .local
 fs:∀f∈fs,sc.names.lookup f=some .free
theorem CompSc.of {sc:Scope} {env:Env} {x:Str} {fs:List Str} (h:compChk sc env x fs=true):CompSc sc env x fs:=by
 unfold compChk at h
 simp only[Bool.and_eq_true,beq_iff_eq,List.all_eq_true,Bool.or_eq_true,bne_iff_ne,ne_eq] at h
 obtain⟨⟨⟨h1,h2⟩,h3⟩,h4⟩:=h
 refine⟨h1,fun y hy=>(h2 y hy).1.1,fun y hy e=>?_,fun y hy e=>?_,h3,h4⟩
 ·rcases (h2 y hy).1.2 with z|z
  ·exact absurd e z
  ·exact z
 ·rcases (h2 y hy).2 with (z|z)|z
  ·exact absurd e z
  ·exact .inl z
  ·exact .inr z
theorem acz {env:Env}:∀(names:List (Str×NameKind)) (acc:List (Str×Addr)),(∀n,(n,NameKind.free)∈names→∃c,env.cells.lookup n=some c)→
  ∃cl,(forIn names acc fun y r=>(do if (y.2 == NameKind.free)=true then do let c←cellOf env y.1;pure (ForInStep.yield ((y.1,c)::r)) else pure (ForInStep.yield r):Sem (ForInStep (List (Str×Addr)))))=pure cl∧
   (∀n c,cl.lookup n=some c→acc.lookup n=some c∨env.cells.lookup n=some c)∧∀n,(∃c,acc.lookup n=some c)∨(n,NameKind.free)∈names→∃c,cl.lookup n=some c
 |[],acc,_=>⟨acc,rfl,fun _ _ e=>.inl e,fun n h=>h.elim id fun z=>nomatch z⟩
 |(n,k)::r,acc,h=>by
  have hr:∀m,(m,NameKind.free)∈r→∃c,env.cells.lookup m=some c:=fun m hm=>h m (List.mem_cons_of_mem _ hm)
  by_cases hk:k=.free
  ·subst hk
   obtain⟨c,hc⟩:=h n List.mem_cons_self
   obtain⟨cl,e,h1,h2⟩:=acz r ((n,c)::acc) hr
   refine⟨cl,?_,fun m c' hm=>?_,fun m hm=>h2 m ?_⟩
   ·rw[List.forIn_cons]
    simp only[beq_self_eq_true,if_true,cellOf,hc,pure_bind]
    exact e
   ·rcases h1 m c' hm with z|z
    ·rw[List.lookup_cons] at z
     cases q:m == n with
     |true=>
      rw[q] at z
      cases z
      rw[beq_iff_eq.mp q]
      exact .inr hc
     |false=>rw[q] at z;exact .inl z
    ·exact .inr z
   ·rw[List.lookup_cons]
    rcases hm with ⟨c',z⟩|hm
    ·cases q:m == n with
     |true=>exact .inl ⟨c,rfl⟩
     |false=>exact .inl ⟨c',z⟩
    ·rcases List.mem_cons.mp hm with z|z
     ·cases z
      rw[beq_self_eq_true]
      exact .inl ⟨c,rfl⟩
     ·exact .inr z
  ·obtain⟨cl,e,h1,h2⟩:=acz r acc hr
   refine⟨cl,?_,h1,fun m hm=>h2 m ?_⟩
   ·rw[List.forIn_cons]
    have hb:(k == NameKind.free)=false:=by simpa using hk
    simp only[hb,Bool.false_eq_true,if_false,pure_bind]
    exact e
   ·rcases hm with z|hm
    ·exact .inl z
    ·rcases List.mem_cons.mp hm with z|z
     ·cases z;exact absurd rfl hk
     ·exact .inr z
theorem age {env:Env} {sc:Scope} (h:∀n,(n,NameKind.free)∈sc.names→∃c,env.cells.lookup n=some c):
  ∃cl,closureFor sc env=pure cl∧(∀n c,cl.lookup n=some c→env.cells.lookup n=some c)∧∀n,(n,NameKind.free)∈sc.names→∃c,cl.lookup n=some c:=by
 obtain⟨cl,e,h1,h2⟩:=acz sc.names [] h
 refine⟨cl,?_,fun n c z=>(h1 n c z).elim (fun q=>nomatch q) id,fun n hn=>h2 n (.inr hn)⟩
 unfold closureFor
 simp only[bind_pure]
 exact e
theorem abv {env:Env}:∀{names:List (Str×NameKind)} {x:Str} {k:NameKind},(names.map fun (n,k)=>if (k == NameKind.free&&env.scope.kind == .function&&env.kindOf n == some .cell) then (n,NameKind.cell) else (n,k)).lookup x=some k→
  k=.cell∨k=.free→names.lookup x=some .free∨names.lookup x=some .cell
 |[],_,_,h,_=>by simp at h
 |(n,k0)::r,x,k,h,hk=>by
  have ih:=@abv env r x k
  have h:List.lookup x ((if (k0 == NameKind.free&&env.scope.kind == .function&&env.kindOf n == some .cell)=true then (n,NameKind.cell) else (n,k0))::(r.map fun (n,k)=>if (k == NameKind.free&&env.scope.kind == .function&&env.kindOf n == some .cell) then (n,NameKind.cell) else (n,k)))=some k:=h
  by_cases hc:(k0 == NameKind.free&&env.scope.kind == .function&&env.kindOf n == some .cell)=true
  ·rw[if_pos hc] at h
   simp only[List.lookup_cons] at h ⊢
   cases hx:x == n with
   |true=>
    simp only[Bool.and_eq_true,beq_iff_eq] at hc
    rw[hc.1.1]
    exact .inl rfl
   |false=>rw[hx] at h;exact ih h hk
  ·rw[if_neg hc] at h
   simp only[List.lookup_cons] at h ⊢
   cases hx:x == n with
   |true=>
    rw[hx] at h
    cases h
    rcases hk with rfl|rfl
    ·exact .inr rfl
    ·exact .inl rfl
   |false=>rw[hx] at h;exact ih h hk
theorem acf {env:Env}:∀{names:List (Str×NameKind)} {x:Str},names.lookup x=some .free→
  (names.map fun (n,k)=>if (k == NameKind.free&&env.scope.kind == .function&&env.kindOf n == some .cell) then (n,NameKind.cell) else (n,k)).lookup x=some .cell∨(names.map fun (n,k)=>if (k == NameKind.free&&env.scope.kind == .function&&env.kindOf n == some .cell) then (n,NameKind.cell) else (n,k)).lookup x=some .free
 |[],_,h=>by simp at h
 |(n,k0)::r,x,h=>by
  have ih:=@acf env r x
  show List.lookup x ((if (k0 == NameKind.free&&env.scope.kind == .function&&env.kindOf n == some .cell)=true then (n,NameKind.cell) else (n,k0))::_)=_∨List.lookup x ((if (k0 == NameKind.free&&env.scope.kind == .function&&env.kindOf n == some .cell)=true then (n,NameKind.cell) else (n,k0))::_)=_
  simp only[List.lookup_cons] at h
  by_cases hc:(k0 == NameKind.free&&env.scope.kind == .function&&env.kindOf n == some .cell)=true
  ·rw[if_pos hc]
   simp only[List.lookup_cons]
   cases hx:x == n with
   |true=>exact .inl rfl
   |false=>rw[hx] at h;exact ih h
  ·rw[if_neg hc]
   simp only[List.lookup_cons]
   cases hx:x == n with
   |true=>rw[hx] at h;exact .inr h
   |false=>rw[hx] at h;exact ih h
noncomputable def cxComp (X:Cx) (scope:Scope) (cl:List (Str×Addr)) (C:Addr) (N:List Str) (s₀:Shared) (H₀:Hp) (fp:List Addr) (xe:Value→Shared→Prop):Cx:=
 {X with N:=N,s₀:=s₀,H₀:=H₀,env:=compEnvC scope cl C X.env,outer:=X.stack,stack:=X.stack,ex:=fp,fn:=fun _=>false,pn:=[],xe:=xe}
inductive HidC (g:TG) (tt:TT) (te:TE):Type where
 |mk:HidC g tt te
noncomputable def PF (X:Cx) (ifs:List Expr) (tt:TT):Prop:=
 ∀(pins:List (Addr×Obj)) (s:Shared) (σ:St) (H:Hp) (Q:Bool→Hp→Prop),Inv X pins σ H s→tt σ H Q→
  wpAny (model X.prog X.w) X.A (forIn ifs true fun c r=>if r=true then do let ok←isTrue c X.env (eval c X.env);pure (ForInStep.yield ok) else pure (ForInStep.yield r)) (TP X pins σ Q) X.xe s
noncomputable def tYes:TT:=fun _ H Q=>Q true H
theorem aha {X:Cx}:PF X [] tYes:=fun _ _ _ H _ I h=>by
 simp only[List.forIn_nil]
 exact wpAny_pure ⟨H,I,h⟩
theorem pf_one {X:Cx} {c:Expr} {tt:TT} (h:PT X c tt):PF X [c] tt:=fun pins s σ H Q I hw=>wpAny_tests_one (h pins s σ H Q I hw)
noncomputable def Comp (g:TG) (tt:TT) (te:TE) (_:HidC g tt te) (J:It) (σ0:St) (D:Addr) (Q:Hp→Prop) (H:Hp):Prop:=
 ∃W:Nat→Nat→List V→St→Hp→Prop,(∃m,W 0 m [] σ0 (upd H D (.lst [])))∧∀i m ys σ H,W i m ys σ H→
  (J.stop i H∧Q H)∨(J.go i H∧∃N:List V→St→Hp→Prop,(∀ys σ H,N ys σ H→∃m',m' < m∧W (i+1) m' ys σ H)∧
   ∀y H',J.yld i H y H'→g y σ H' fun σ2 H2=>tt σ2 H2 fun b H2'=>if b=true then te σ2 H2' fun v H3=>H3 D=some (.lst ys)∧ys.length < sizeLine∧N (ys++[v]) σ2 (upd H3 D (.lst (ys++[v]))) else N ys σ2 H2')
noncomputable def tComp (wi:TI) (ix:List Nat) (g:TG) (tt:TT) (te:TE) (h:HidC g tt te):TE:=fun σ H Q=>wi σ H fun J H1=>∀D,H1 D=none→Comp g tt te h J (none::ix.map fun i=>(σ[i]?).join) D (fun H'=>Q (.ref D) H') H1
theorem agf {lo:Int} {n:Nat} {g:TG} {tt:TT} {te:TE} {h:HidC g tt te} {σ0:St} {D:Addr} {Q:Hp→Prop} {H:Hp} (Pv:Nat→List V→St→Hp→Prop) (h0:Pv 0 [] σ0 (upd H D (.lst [])))
  (hs:∀i ys σ H,i < n→Pv i ys σ H→g (.int (lo+i)) σ H fun σ2 H2=>tt σ2 H2 fun b H2'=>if b=true then te σ2 H2' fun v H3=>H3 D=some (.lst ys)∧ys.length < sizeLine∧Pv (i+1) (ys++[v]) σ2 (upd H3 D (.lst (ys++[v]))) else Pv (i+1) ys σ2 H2') (hd:∀ys σ H,Pv n ys σ H→Q H):
  Comp g tt te h (Itr lo n) σ0 D Q H:=by
 refine⟨fun i m ys σ H=>i+m=n∧Pv i ys σ H,⟨n,Nat.zero_add n,h0⟩,fun i m ys σ H ⟨e,p⟩=>?_⟩
 by_cases hi:i < n
 ·refine .inr ⟨hi,Pv (i+1),fun ys σ H q=>⟨m - 1,by omega,by omega,q⟩,?_⟩
  rintro y H' ⟨rfl,rfl⟩
  exact hs i ys σ H' hi p
 ·have e':i=n:=by omega
  subst e'
  exact .inl ⟨Nat.le_refl _,hd ys σ H p⟩
theorem acq {prog:Program} {w:World} {A:Around} {R:Result→Shared→Prop} {s:Shared} {elt target iter:Expr} {ifs:List Expr} {scope:Scope} {pos:Pos} {it acc:Value} {env:Env} (I:Nat→Shared→Prop)
  (turn:∀n s,I n s→wpAny (model prog w) A (pyNext it) (fun r s₁=>match r with
   |none=>R (.ok .next) s₁
   |some v=>wpAny (model prog w) A (letOwnedTupleGo target it v) (fun _ s₁'=>wpAny (model prog w) A (assign target env v) (fun _ s₂=>
    wpAny (model prog w) A (forIn ifs true fun c r=>if r=true then do let ok←isTrue c env (eval c env);pure (ForInStep.yield ok) else pure (ForInStep.yield r)) (fun ok s₃=>
     if ok=true then wpAny (model prog w) A (eval elt env) (fun x s₄=>
      wpAny (model prog w) A (call (.builtin "list.append") [acc,x]) (fun _ s₅=>∃m,m < n∧I m s₅) (notedBy (model prog w) A env fun e s'=>R (.error e) s') s₄) (notedBy (model prog w) A env fun e s'=>R (.error e) s') s₃
     else ∃m,m < n∧I m s₃) (notedBy (model prog w) A env fun e s'=>R (.error e) s') s₂) (notedBy (model prog w) A env fun e s'=>R (.error e) s') s₁') (notedBy (model prog w) A env fun e s'=>R (.error e) s') s₁) (notedBy (model prog w) A env fun e s'=>R (.error e) s') s)
  (n:Nat) (h:I n s):codeAny (model prog w) A (.compLoop (.ListComp elt [⟨target,iter,ifs,0⟩] scope pos) 0 it acc env) R s:=by
 refine codeAny_loop rfl I (fun n s hI=>?_) n h
 show wpAny _ _ ((compTurn (.ListComp elt [⟨target,iter,ifs,0⟩] scope pos) 0 it acc env).onRaise (fun x=>do noteFrame x env;theTreesLotGoes x)) _ _ s
 refine wpAny_noted ?_
 rw[compTurn_list]
 refine wpAny_bind (wpAny_standAt (wpAny_bind (wpAny_mono (turn n s hI) (fun r s₁ h₁=>?_) fun _ _ h'=>h')))
 cases r with
 |none=>exact wpAny_pure h₁
 |some v=>
  refine wpAny_bind (wpAny_mono h₁ (fun _ s₁' h₁'=>?_) fun _ _ h'=>h')
  refine wpAny_bind (wpAny_mono h₁' (fun _ s₂ h₂=>wpAny_bind (wpAny_mono h₂ (fun ok s₃ h₃=>?_) fun _ _ h'=>h')) fun _ _ h'=>h')
  cases ok with
  |false=>exact wpAny_pure ⟨rfl,h₃⟩
  |true=>
   exact wpAny_bind (wpAny_bind (wpAny_mono h₃ (fun x s₄ h₄=>wpAny_bind (wpAny_mono h₄ (fun _ s₅ h₅=>wpAny_pure (wpAny_pure ⟨rfl,h₅⟩)) fun _ _ h'=>h')) fun _ _ h'=>h'))
section
variable {X:Cx}
theorem adv {pins:List (Addr×Obj)} {σ:St} {H2:Hp} {s2:Shared} {it:Addr} {fp:List Addr} {tn:Nat→Heap→Prop} {J:It} {tg iter elt:Expr} {ifs:List Expr} {scope:Scope} {cl:List (Str×Addr)} {pos:Pos} {x:Str} {fs:List Str} {ix:List Nat} {g:TG} {tt:TT} {te:TE}
  {Qf:Addr→Hp→Prop} {E:Value→Shared→Prop} {RR:Value→Addr→Result→Shared→Prop}
  (I2:Inv X pins σ H2 s2) (T:Turn X.prog X.w X.K tg J fp it tn) (st2:tn 0 s2.heap) (f2:∀b∈fp,FpOk X pins H2 b) (hc:X.calm=true) (S:CompSc scope X.env x fs)
  (c1:∀n c,cl.lookup n=some c→X.env.cells.lookup n=some c) (c2:∀n,(n,NameKind.free)∈scope.names→∃c,cl.lookup n=some c) (hix:ix.map (X.N[·]?)=fs.map some)
  (hg:∀C s₀ H₀ xe,PG (cxComp X scope cl C (x::fs) s₀ H₀ fp xe) tg g) (hf:∀C s₀ H₀ xe,PF (cxComp X scope cl C (x::fs) s₀ H₀ fp xe) ifs tt) (he:∀C s₀ H₀ xe,PE (cxComp X scope cl C (x::fs) s₀ H₀ fp xe) elt te)
  (h:∀D,H2 D=none→Comp g tt te .mk J (none::ix.map fun i=>(σ[i]?).join) D (Qf D) H2)
  (fin:∀D C H' s',Inv X pins σ H' s'→Qf D H'→(∃m,s'.heap.Ns C m)→FpOk X pins H' C→RR (.ref D) C (.ok .next) s'):
  wpAny (model X.prog X.w) X.A (newList []) (fun acc s₃=>wpAny (model X.prog X.w) X.A (newFunctionEnv scope X.env.globals cl [] X.env.qual none .none (some X.env)) (fun cenv s₄=>
   codeAny (model X.prog X.w) X.A (.compStart (.ListComp elt [⟨tg,iter,ifs,0⟩] scope pos) 0 (.ref it) acc {cenv with scope:=relabel scope X.env}) (RR acc cenv.locals) s₄) E s₃) E s2:=by
 have hD:H2 s2.heap.objs.size=none:=I2.hok.fresh (Nat.le_refl _)
 obtain⟨W,⟨m0,w0⟩,turn⟩:=h _ hD
 refine wpAny_newObj_type (wpAny_newFunctionEnv S.nocell (by intro y hy;simp at hy) (fun h₁ hns₁ hsb₁=>?_) S.kind)
 have I3:Inv X pins σ (upd H2 s2.heap.objs.size (.lst [])) {s2 with heap:=s2.heap.push {cls:=.type "list",dict:=none,data:=.seq ([]:List Value).toArray}}:=
  I2.laid (t':=s2.toks) (fun b u e=>Heap.get?_push_of_some _ e) (Nat.le_refl _) ⟨by decide,[],0,.nil,Heap.get?_push_size _ rfl⟩
 obtain⟨e3,he3⟩:∃s3:Shared,s3={s2 with heap:=s2.heap.push {cls:=.type "list",dict:=none,data:=.seq ([]:List Value).toArray}}:=⟨_,rfl⟩
 rw[←he3] at I3
 have hh3:s2.heap.push {cls:=.type "list",dict:=none,data:=.seq ([]:List Value).toArray}=e3.heap:=by rw[he3]
 have sz3:e3.heap.objs.size=s2.heap.objs.size+1:=by rw[←hh3,Heap.size_push]
 dsimp only at hns₁ hsb₁ ⊢
 rw[hh3] at hns₁ hsb₁ ⊢
 generalize hH3:upd H2 s2.heap.objs.size (.lst [])=H3 at *
 have live:∀b∈fp,b < s2.heap.objs.size:=fun b hb=>let ⟨_,e,_⟩:=T.obj _ _ st2 b hb;Heap.lt_size e
 have f3:∀b∈fp,FpOk X pins H3 b:=fun b hb=>by
  refine⟨?_,(f2 b hb).2⟩
  rw[←hH3,aa4 (Nat.ne_of_lt (live b hb))]
  exact (f2 b hb).1
 have C0:FpOk X pins H3 e3.heap.objs.size:=I3.fpOk (Nat.le_refl _) (I3.hok.fresh (Nat.le_refl _))
 have old3:∀b o,e3.heap.get? b=some o→h₁.get? b=some o:=fun b o e=>hsb₁.extBut b o (Nat.ne_of_lt (Heap.lt_size e)) (Heap.get?_push_of_some _ e)
 have nofs:∀b∈fp,b∉frs X.stack:=fun b hb z=>(List.mem_cons.mp (I3.stkSub b z)).elim (f3 b hb).2.1 (f3 b hb).2.2.1
 have hst1:tn 0 h₁:=T.keep _ _ _ st2 fun b _ o e=>old3 b o (by rw[←hh3];exact Heap.get?_push_of_some _ e)
 have e0:=I3.env0
 have ok:∀xe,(cxComp X scope cl e3.heap.objs.size (x::fs) e3 H3 fp xe).Ok:=fun xe=>by
  refine⟨I3.ok.mod,S.kind,I3.ok.glob,I3.ok.blt,Nat.le_refl _,fun y z c h1 h2=>I3.ok.inj y z c (c1 _ _ h1) (c1 _ _ h2),fun y hy=>?_,fun y c z=>?_,I3.ok.hd,I3.ok.frames,.inl rfl,fun b hb=>⟨?_,fun y c e=>(f3 b hb).2.2.2.2.1 y c (c1 _ _ e)⟩,e0.bs,e0.bsz,fun b o e hb=>?_,nofs,e0.funs,e0.frf⟩
  ·have q:scope.names.lookup y=some .free∨scope.names.lookup y=some .cell:=by
    rcases hy with hy|hy
    ·exact abv hy (.inl rfl)
    ·exact abv hy (.inr rfl)
   rcases q with q|q
   ·exact c2 y (PySem.mem_of_lookup q)
   ·exact absurd rfl (S.nocell _ (PySem.mem_of_lookup q))
  ·cases z
  ·exact Nat.ne_of_lt (Nat.lt_of_lt_of_le (live b hb) (by rw[sz3];exact Nat.le_succ _))
  ·rcases (f3 b hb).2.2.2.1 with z|z
   ·exact I3.ok.noex b o e z
   ·exact absurd (Nat.lt_of_lt_of_le (Heap.lt_size e) (Nat.le_trans I3.ok.bsz z)) (Nat.lt_irrefl _)
 have cellUp:∀c v,e3.heap.IsCell c v→h₁.IsCell c v:=fun c v ⟨o,ho,hd⟩=>⟨o,old3 _ _ ho,hd⟩
 have J0:∀xe,Inv (cxComp X scope cl e3.heap.objs.size (x::fs) e3 H3 fp xe) [] (none::ix.map fun i=>(σ[i]?).join) H3 {e3 with heap:=h₁,toks:=e3.toks+([]:List (Str×Value)).length}:=fun xe=>by
  have hk:∀b o,e3.heap.get? b=some o→h₁.get? b=some o:=old3
  refine⟨ok xe,rfl,I3.bare,Un.kept hk,⟨_,hns₁,fun i y v h1 h2 h3=>?_⟩,fun y c e=>?_,I3.hok.fresh (Nat.le_refl _),fun y c e=>I3.freeC y c (c1 _ _ e),fun p hp=>absurd (show p∈([]:List (Addr×Obj)) from hp) (by simp),I3.hok.kept hk,?_⟩
  ·cases i with
   |zero=>cases h2
   |succ i=>
    have h1:fs[i]?=some y:=h1
    have h2:(ix.map fun i=>(σ[i]?).join)[i]?=some (some v):=h2
    have hy:=S.fs y (List.mem_of_getElem? h1)
    rw[List.getElem?_map] at h2
    cases ej:ix[i]? with
    |none=>rw[ej] at h2;cases h2
    |some j=>
     rw[ej] at h2
     have h2:(σ[j]?).join=some v:=Option.some.inj h2
     have hσ:σ[j]?=some (some v):=by
      cases q:σ[j]? with
      |none=>rw[q] at h2;cases h2
      |some o=>rw[q] at h2;cases o with
       |none=>cases h2
       |some o=>cases h2;rfl
     have hN:X.N[j]?=some y:=by
      have z:=congrArg (·[i]?) hix
      simp only[List.getElem?_map,ej,h1,Option.map_some] at z
      exact Option.some.inj z
     have kf:=S.fr _ (PySem.mem_of_lookup hy) rfl
     obtain⟨m,hn,hl⟩:=I3.loc
     obtain⟨u,r,l⟩:=hl j y v hN hσ (by rcases kf with k|k;exact .inr (.inl k);exact .inr (.inr k))
     refine⟨u,r,.inr ⟨acf hy,?_⟩⟩
     rcases l with ⟨l,_⟩|⟨_,c,e,z⟩
     ·rcases kf with k|k<;>(rw[l] at k;cases k)
     ·obtain⟨c',e'⟩:=c2 y (PySem.mem_of_lookup hy)
      have q:=c1 _ _ e'
      rw[e] at q;cases q
      exact⟨c,e',cellUp _ _ z⟩
  ·obtain⟨v,z⟩:=I3.cell y c (c1 _ _ e)
   exact⟨v,cellUp _ _ z⟩
  ·have z:=congrArg List.length hix
   simp only[List.length_map] at z
   show (none::_:St).length=(x::fs).length
   simp only[List.length_cons,List.length_map,z]
 have back:∀{xe σ' H' s'},Inv (cxComp X scope cl e3.heap.objs.size (x::fs) e3 H3 fp xe) [] σ' H' s'→Inv X pins σ H' s':=fun {xe σ' H' s'} J=>
  I3.call' (s':=s') (ch:=fp) J.os J.base J.hok J.bare fun b hb=>⟨(f3 b hb).2.2.2.1,(f3 b hb).2.1,(f3 b hb).2.2.2.2.1,(f3 b hb).2.2.2.2.2⟩
 have stat:∀{xe} {H':Hp},(∀b∈fp,H' b=none)→∀b∈fp,FpOk (cxComp X scope cl e3.heap.objs.size (x::fs) e3 H3 fp xe) [] H' b:=fun {xe H'} hn b hb=>
  ⟨hn b hb,Nat.ne_of_lt (Nat.lt_of_lt_of_le (live b hb) (by rw[sz3];exact Nat.le_succ _)),nofs b hb,.inl hb,fun y c e=>(f3 b hb).2.2.2.2.1 y c (c1 _ _ e),fun p hp=>absurd (show p∈([]:List (Addr×Obj)) from hp) (by simp)⟩
 have loop:∀s4:Shared,s4={e3 with heap:=h₁,toks:=e3.toks+([]:List (Str×Value)).length}→
   codeAny (model X.prog X.w) X.A (.compLoop (.ListComp elt [⟨tg,iter,ifs,0⟩] scope pos) 0 (.ref it) (.ref s2.heap.objs.size) (compEnvC scope cl e3.heap.objs.size X.env)) (RR (.ref s2.heap.objs.size) e3.heap.objs.size) s4:=by
  rintro s4 rfl
  let xe:=notedBy (model X.prog X.w) X.A (compEnvC scope cl e3.heap.objs.size X.env) fun e s'=>RR (.ref s2.heap.objs.size) e3.heap.objs.size (.error e) s'
  refine acq (fun n s'=>∃i ys σ' H',Inv (cxComp X scope cl e3.heap.objs.size (x::fs) e3 H3 fp xe) [] σ' H' s'∧tn i s'.heap∧(∀b∈fp,H' b=none)∧W i n ys σ' H') ?_ m0 ⟨0,[],_,_,J0 xe,hst1,fun b hb=>(f3 b hb).1,w0⟩
  rintro n s5 ⟨i,ys,σ5,H5,J5,st5,fr5,w5⟩
  rcases turn i n ys σ5 H5 w5 with ⟨stop,qn⟩|⟨go,N,hN,step⟩
  ·refine thn (T.done (cxComp X scope cl e3.heap.objs.size (x::fs) e3 H3 fp xe) rfl rfl rfl hc i [] s5 σ5 H5 xe J5 (stat fr5) st5 stop) fun r s6 ⟨hr,J6⟩=>?_
   subst hr
   obtain⟨m,hn,_⟩:=J6.loc
   exact fin _ _ H5 s6 (back J6) qn ⟨m,hn⟩ ⟨J6.free,C0.2⟩
  ·refine thn (T.item (cxComp X scope cl e3.heap.objs.size (x::fs) e3 H3 fp xe) rfl rfl rfl hc i [] s5 σ5 H5 xe J5 (stat fr5) st5 go) fun r s6 ⟨u,hr,h6⟩=>?_
   subst hr
   refine thn h6 fun _ s7 ⟨y,H7,J7,r7,y7,st7,fr7⟩=>?_
   have J7':=J7.pinned (stat fr7) (T.obj _ _ st7)
   refine thn (hg _ _ _ xe _ s7 σ5 H7 y u _ J7' r7 (step y H7 y7)) fun _ s8 ⟨σ8,H8,J8,q8⟩=>?_
   refine thn (hf _ _ _ xe _ s8 σ8 H8 _ J8 q8) fun ok s8' ⟨H8',J8',q8'⟩=>?_
   cases ok with
   |false=>
    obtain⟨m',hm',w9⟩:=hN _ _ _ (by simpa using q8')
    refine⟨m',hm',i+1,ys,σ8,_,J8'.unpinned,T.keep _ _ _ st7 fun b hb o e=>(J8'.pin (b,o) (List.mem_append_right _ (List.mem_append_right _ (aa8 hb e)))).1,fun b hb=>?_,w9⟩
    obtain⟨o,e,d⟩:=T.obj _ _ st7 b hb
    exact (J8'.pin (b,o) (List.mem_append_right _ (List.mem_append_right _ (aa8 hb e)))).2.1
   |true=>
   rw[if_pos rfl] at q8' ⊢
   refine thn (he _ _ _ xe _ s8' σ8 H8' _ J8' q8') fun uv s9 ⟨v,H9,J9,r9,hD9,hl9,n9⟩=>?_
   obtain⟨m',hm',w9⟩:=hN _ _ _ n9
   refine thn (adg (X:=cxComp X scope cl e3.heap.objs.size (x::fs) e3 H3 fp xe) _ s9 σ8 H9 (.ref s2.heap.objs.size) [v] _ [uv] (fun _ H'=>H'=upd H9 s2.heap.objs.size (.lst (ys++[v]))) J9 rfl (.cons r9 .nil) ⟨_,ys,v,rfl,rfl,hD9,hl9,rfl⟩) fun _ s10 ⟨_,H10,J10,_,eH⟩=>?_
   subst eH
   refine⟨m',hm',i+1,ys++[v],σ8,_,J10.unpinned,T.keep _ _ _ st7 fun b hb o e=>(J10.pin (b,o) (List.mem_append_right _ (List.mem_append_right _ (aa8 hb e)))).1,fun b hb=>?_,w9⟩
   obtain⟨o,e,d⟩:=T.obj _ _ st7 b hb
   exact (J10.pin (b,o) (List.mem_append_right _ (List.mem_append_right _ (aa8 hb e)))).2.1
 subst he3
 exact codeAny_compStart_list (loop _ rfl) (T.self X.A 0 _ _ _ hst1 (loop _ rfl))
theorem CompSc.clos {pins:List (Addr×Obj)} {σ:St} {H:Hp} {s:Shared} {scope:Scope} {x:Str} {fs:List Str} (S:CompSc scope X.env x fs) (I:Inv X pins σ H s):
  ∃cl,closureFor scope X.env=pure cl∧(∀n c,cl.lookup n=some c→X.env.cells.lookup n=some c)∧∀n,(n,NameKind.free)∈scope.names→∃c,cl.lookup n=some c:=
 age fun n hn=>I.ok.has n (S.fr _ hn rfl)
theorem aj7 {tg iter elt:Expr} {ifs:List Expr} {scope:Scope} {pos:Pos} {x:Str} {fs:List Str} {ix:List Nat} {wi:TI} {g:TG} {tt:TT} {te:TE} (hc:X.calm=true) (hi:PI X tg iter wi) (hk:compChk scope X.env x fs=true) (hix:ix.map (X.N[·]?)=fs.map some)
  (hg:∀cl C s₀ H₀ fp xe,PG (cxComp X scope cl C (x::fs) s₀ H₀ fp xe) tg g) (hf:∀cl C s₀ H₀ fp xe,PF (cxComp X scope cl C (x::fs) s₀ H₀ fp xe) ifs tt) (he:∀cl C s₀ H₀ fp xe,PE (cxComp X scope cl C (x::fs) s₀ H₀ fp xe) elt te) (hs:∀x,foldedSetIterable iter X.env x=pure x:=by intro _;rfl):
  PE X (.ListComp elt [⟨tg,iter,ifs,0⟩] scope pos) (tComp wi ix g tt te .mk):=by
 intro pins s σ H Q I h
 have S:=CompSc.of hk
 obtain⟨cl,hcl,c1,c2⟩:=S.clos I
 rw[eval_ListComp]
 refine wpAny_comprehension_free (use:=none) rfl hs hcl S.kind S.own (thn (hi pins s σ H _ I h) fun v s1 h1=>thn h1 fun itv s2 h2=>?_)
 obtain⟨it,fp,tn,J,H2,e,I2,T,st2,f2,q⟩:=h2
 subst e
 refine adv (RR:=fun acc C=>compPost (model X.prog X.w) X.A X.xe none (EP X pins σ Q) acc C) I2 T st2 f2 hc S c1 c2 hix (fun C s₀ H₀ xe=>hg cl C s₀ H₀ fp xe) (fun C s₀ H₀ xe=>hf cl C s₀ H₀ fp xe) (fun C s₀ H₀ xe=>he cl C s₀ H₀ fp xe) q fun D C H' s' I' q' ⟨m,hn⟩ ⟨f0,f1,_,f3,f4,f5⟩=>?_
 exact⟨m,hn,fun h' hs'=>⟨.ref D,H',I'.turned (t':=s'.toks) (fun b o hb e=>(hs'.2 b hb).trans e) f0 f1 f3 f4 f5,rfl,q'⟩⟩
theorem aj8 {tg iter elt:Expr} {ifs:List Expr} {scope:Scope} {pos spos py:Pos} {x y:Str} {i:Nat} {fs:List Str} {ix:List Nat} {wi:TI} {g:TG} {tt:TT} {te:TE} (hN:X.N.Nodup) (hy:X.N[i]?=some y) (hl:X.env.kindOf y=some .local) (hc:X.calm=true) (hi:PI X tg iter wi)
  (hk:compChk scope X.env x fs=true) (hix:ix.map (X.N[·]?)=fs.map some)
  (hg:∀cl C s₀ H₀ fp xe,PG (cxComp X scope cl C (x::fs) s₀ H₀ fp xe) tg g) (hf:∀cl C s₀ H₀ fp xe,PF (cxComp X scope cl C (x::fs) s₀ H₀ fp xe) ifs tt) (he:∀cl C s₀ H₀ fp xe,PE (cxComp X scope cl C (x::fs) s₀ H₀ fp xe) elt te)
  (hsw:swapsWith (.ListComp elt [⟨tg,iter,ifs,0⟩] scope pos) (some (.Name y py)) spos.line X.env=pure true:=by rfl) (hs:∀x,foldedSetIterable iter X.env x=pure x:=by intro _;rfl):
  PS X (.Assign [.Name y py] (.ListComp elt [⟨tg,iter,ifs,0⟩] scope pos) spos) (tAsg (tComp wi ix g tt te .mk) (gName i)):=by
 intro pins s σ H D I h
 have S:=CompSc.of hk
 obtain⟨cl,hcl,c1,c2⟩:=S.clos I
 rw[exec_Assign_Name_used _ _ _ _ hsw]
 refine wpAny_bind (wpAny_standAt (wpAny_bind ?_))
 show wpAny _ X.A (do let _←comprehension (.ListComp elt [⟨tg,iter,ifs,0⟩] scope pos) scope X.env _ (newList []) false (eval iter X.env) (some (assign (.Name y py) X.env))) _ _ s
 refine wpAny_bind (wpAny_mono (wpAny_comprehension_free (use:=some (assign (.Name y py) X.env)) (Q:=fun _ s'=>SP X pins D .next s') rfl hs hcl S.kind S.own
  (thn (hi pins s σ H _ I h) fun v s1 h1=>thn h1 fun itv s2 h2=>?_)) (fun _ s' hq=>wpAny_pure (wpAny_pure hq)) fun _ _ e=>e)
 obtain⟨it,fp,tn,J,H2,e,I2,T,st2,f2,q⟩:=h2
 subst e
 refine adv (RR:=fun acc C=>compPost (model X.prog X.w) X.A X.xe (some (assign (.Name y py) X.env)) (fun _ s'=>SP X pins D .next s') acc C) I2 T st2 f2 hc S c1 c2 hix (fun C s₀ H₀ xe=>hg cl C s₀ H₀ fp xe) (fun C s₀ H₀ xe=>hf cl C s₀ H₀ fp xe) (fun C s₀ H₀ xe=>he cl C s₀ H₀ fp xe) q
  fun D' C H' s' I' q' ⟨m,hn⟩ ⟨f0,f1,_,f3,f4,f5⟩=>?_
 show wpAny _ X.A (assign (.Name y py) X.env (.ref D')) _ _ _
 refine wpAny_assign_Name (aeh (v:=.ref D') I' hN hy (.inl hl) rfl (fun s'' I'' ⟨a,sb,ha⟩=>?_) (.inr hl))
 have hne:C≠a:=by
  rcases ha with ha|ha
  ·rw[ha];exact f1
  ·exact fun z=>f4 _ _ ha z.symm
 exact⟨m,hn.sameBut sb hne,fun h' hs'=>⟨_,H',I''.turned (t':=s''.toks) (fun b o hb e=>(hs'.2 b hb).trans e) f0 f1 f3 f4 f5,q'⟩⟩
end
end L2
namespace L2
open PySem PySem.Spec PyProof.Rows
section
variable {X:Cx} {pins:List (Addr×Obj)} {σ:List (Option V)} {H H':Hp} {s:Shared} {h':Heap}
theorem Inv.turnedL {t':Nat} {ch:List Addr} (I:Inv X pins σ H s) (k:∀b o,b∉ch→s.heap.get? b=some o→h'.get? b=some o) (hf:∀b∈ch,FpOk X pins H b):Inv X pins σ H {s with heap:=h',toks:=t'}:=by
 have nit:∀b u,H b=some u→b∉ch:=fun b u e z=>by rw[(hf b z).1] at e;cases e
 refine I.step (g':=s.gens) (d':=s.drawn) (ch:=ch) (fun b hb=>⟨(hf b hb).2.2.2.1,(hf b hb).2.1,(hf b hb).2.2.2.2.1,(hf b hb).2.2.2.2.2⟩) (fun b o _ _ hc e _=>k b o hc e) (fun b o _ _ hc e _=>⟨o.slots,k b o hc e⟩) (fun _ _ _ _ n=>n)
  (fun b o hc e=>⟨o,k b o hc e⟩) (fun _ _ e=>e) (fun _ _ _ e=>e) (fun b ps e=>⟨#[],by rw[e];simp⟩) (fun m hm=>?_) (fun b u e=>?_) I.bare
 ·obtain⟨o,es,ep,ho,r⟩:=hm
  exact⟨o,es,ep,k _ o (fun z=>(hf _ z).2.1 rfl) ho,r⟩
 ·refine (I.hok b u e).stay (fun c v hc q=>k c v ?_ q) (fun _ q=>q) fun _ _ q=>q
  rcases hc with z|z
  ·rw[z];exact nit b u e
  ·exact nit c _ z
end
section
variable {X:Cx}
end
end L2
namespace L2
open PySem PySem.Spec PyProof.Rows
section
variable {X:Cx} {pins:List (Addr×Obj)} {σ:St} {H:Hp} {s:Shared} {a:Addr} {kvs:List (Key×V)} {k:Key} {u r:Value} {z:V} {A:Around} {E:Value→Shared→Prop}
end
section
variable {X:Cx} {o e f:Expr} {apos cpos:Pos} {td ty tx:TE}
end
theorem afw:∀{bs:List Bool} {us:List Value},Vals (bs.map V.bl) us→LSm.BoolsAre us bs
 |[],_,h=>by cases h;exact .nil
 |b::bs,_,h=>by
  cases h with
  |cons r rr=>
   cases r
   exact .cons _ (afw rr)
theorem aip {X:Cx} (hc:X.calm=true):CallR X (.builtin "all") (fun xs H Q=>∃(p:Addr) (bs:List Bool),xs=[.ref p]∧SqL X.K H p (bs.map V.bl)∧Q (.bl (bs.all id)) H):=by
 intro pins s σ H xs us Q I r h
 obtain⟨p,bs,rfl,hq,q⟩:=h
 obtain⟨u,rfl,rx⟩:=vals1 r
 cases rx
 obtain⟨its,r',pl,hz⟩:=I.list hq
 have hb:=afw r'
 have hl:=pl.isList
 have hlt:p < s.heap.objs.size:=by obtain⟨_,e,_⟩:=id hl;exact Heap.lt_size e
 refine call_all_walk (wpAny_pyIter_list hl ?_)
 refine⟨s.heap.objs.size,[s.heap.objs.size,p],[s.heap.objs.size],its.toArray.size,_,_,fun i=>(bs[i]?).getD true,rfl,Walks.list (A:=X.A.in1) (I.ok.hd hc) _ p (Nat.ne_of_lt hlt) its.toArray,
  ⟨⟨_,Heap.get?_push_size _ rfl,rfl,rfl⟩,hl.push _⟩,fun i v s' Q' E' hP hQ=>?_,fun h' tk hk=>?_⟩
 ·obtain⟨b,e,rfl⟩:=hb.get i v (by simpa using hP)
  simp only[e,Option.getD_some] at hQ
  exact wpAny_truthy_bool hQ
 ·have e:((List.range its.toArray.size).all fun i=>(bs[i]?).getD true)=bs.all id:=by
   rw[List.size_toArray,hb.length];exact LSm.range_all bs
  rw[e]
  exact⟨.bl (bs.all id),H,I.kept (t':=tk) (LSm.kept_iter hk),rfl,q⟩
end L2
namespace L2
open PySem PySem.Spec PyProof.Rows
section
variable {X:Cx} {pins:List (Addr×Obj)} {σ:List (Option V)} {H:Hp} {s:Shared} {a:Addr}
end
end L2
namespace L2
open PySem PySem.Spec PyProof.Rows
end L2
namespace L2
open PySem PySem.Spec PyProof.Rows
noncomputable def dFl (xs:List V):List Dv:=xs.map .leaf
theorem afx {K:PySem.W.Frag} {H:Hp}:∀(xs:List V),xs.all flatV=true→SeesL K H (dFl xs) xs
 |[],_=>by unfold dFl SeesL;rfl
 |x::xs,h=>by
  rw[List.all_cons,Bool.and_eq_true] at h
  show SeesL K H (.leaf x::dFl xs) (x::xs)
  unfold SeesL
  exact⟨_,_,rfl,by unfold Sees;exact⟨rfl,h.1⟩,afx xs h.2⟩
theorem afy {K:PySem.W.Frag} {H:Hp} {a:Addr} {xs:List V} (h:SqT K H a xs) (hf:xs.all flatV=true):Sees K H (.seq true (dFl xs)) (.ref a):=by
 unfold Sees
 exact⟨a,_,rfl,by simpa using h,afx xs hf⟩
theorem afz:∀(xs ys:List V),alikeL (dFl xs) (dFl ys)=true
 |[],_=>by unfold dFl;simp[alikeL]
 |_::_,[]=>by unfold dFl;simp[alikeL]
 |x::xs,y::ys=>by
  show alikeL (.leaf x::dFl xs) (.leaf y::dFl ys)=true
  rw[alikeL,alike,afz xs ys];rfl
theorem ahb:∀(xs:List V),deepL (dFl xs)=0
 |[]=>by unfold dFl;simp[deepL]
 |x::xs=>by
  show deepL (.leaf x::dFl xs)=0
  rw[deepL,deep,ahb xs];rfl
theorem eq_fl:∀(xs:List V),xs.all flatV=true→eqDvL (dFl xs) (dFl xs)=true
 |[],_=>by unfold dFl;simp[eqDvL]
 |x::xs,h=>by
  rw[List.all_cons,Bool.and_eq_true] at h
  show eqDvL (.leaf x::dFl xs) (.leaf x::dFl xs)=true
  rw[eqDvL,eqDv,eq_fl xs h.2,afv h.1];rfl
theorem ahc (bs:List Int):(bs.map V.int).all flatV=true:=by
 rw[List.all_eq_true]
 intro x hx
 obtain⟨b,_,rfl⟩:=List.mem_map.mp hx
 rfl
end L2
namespace L2
open PySem PySem.Spec PyProof.Rows
end L2
namespace L2
open PySem PySem.Spec PyProof.Rows
end L2
namespace L2
open PySem PySem.Spec PyProof.Rows
structure FunD (K:PySem.W.Frag) (x qual:Str) (st:Stmt) (f:Addr) (fd:FuncData):Prop where
 ex:∃(oc:Value) (od:Option Addr) (dV kV doc pm:Value) (an:Option Addr) (cdv ct:Value) (osl:Array (Option Value)),
  fd=PySem.W.fnOf x qual (defArgs st) (defBody st) (defScope st) dV kV doc pm an cdv ct∧K.lookup f=some ⟨oc,od,.func fd,osl⟩∧PySem.W.codeIn K cdv qual=true
 kp:PySem.W.keepIn K (.ref f)=true
section
variable {P:Program} {w:World} {K:PySem.W.Frag} {mg:Str→Option Value} {base:Heap}
theorem FunD.okE {x qual:Str} {st:Stmt} {f:Addr} {fd:FuncData} {N ps:List Str} {k:Nat} {sp:Sp} (F:FunD K x qual st f fd) (S:FnScope N ps (defScope st)) (len:∀vs H Q E,sp vs H Q E→vs.length=ps.length)
  (hbody:Body P w K mg base qual st N k sp):FnOk P w K mg base (CXe P w) (k+1) f fd ps sp:=by
 obtain⟨oc,od,dV,kV,doc,pm,an,cdv,ct,osl,rfl,lk,hcd⟩:=F.ex
 exact ajw lk hcd S len fun A outer s H vs Q E hr hsp=>hbody f cdv A outer s H vs Q E hr hsp
noncomputable def RawMD (K:PySem.W.Frag) (C:Addr) (m qual:Str) (st:Stmt) (ps:List Str) (dvs:List V):Prop:=∃f fd ds,Meth K C m f∧FunD K m qual st f fd∧Binds K fd ps ds∧Vals dvs ds
noncomputable def RawID (K:PySem.W.Frag) (mg:Str→Option Value) (x:Str) (C:Addr) (qual:Str) (st:Stmt) (ps:List Str) (dvs:List V):Prop:=∃f fd ds,mg x=some (.ref C)∧Mk K C f∧FunD K "__init__" qual st f fd∧Binds K fd ps ds∧Vals dvs ds
theorem RawMD.have {C:Addr} {m qual:Str} {st:Stmt} {N ps:List Str} {dvs:List V} {k:Nat} {sp:Sp} (R:RawMD K C m qual st ps dvs) (S:FnScope N ps (defScope st)) (len:∀vs H Q E,sp vs H Q E→vs.length=ps.length)
  (hbody:Body P w K mg base qual st N k sp):HaveM P w K mg base C m (k+1) ps dvs sp:=
 let ⟨f,fd,ds,hm,F,hb,hd⟩:=R
 ⟨f,fd,ds,hm,hb,hd,F.okE S len hbody⟩
theorem RawID.have {C:Addr} {x qual:Str} {st:Stmt} {N ps:List Str} {dvs:List V} {k:Nat} {sp:Sp} (R:RawID K mg x C qual st ps dvs) (S:FnScope N ps (defScope st)) (len:∀vs H Q E,sp vs H Q E→vs.length=ps.length)
  (hbody:Body P w K mg base qual st N k sp):HaveI P w K mg base x C (k+1) ps dvs sp:=
 let ⟨f,fd,ds,hm,M,F,hb,hd⟩:=R
 ⟨f,fd,ds,hm,M,hb,hd,F.okE S len hbody⟩
end
end L2
namespace L2
open PySem PySem.Spec PyProof.Rows
end L2
namespace L2
open PySem PySem.Spec PyProof.Rows
end L2
namespace L2
open PySem PySem.Spec PyProof.Rows
section
variable {X:Cx}
end
theorem Vals.at {xs:List V} {us:List Value} (r:Vals xs us) (m:Nat) (h1:m < xs.length) (h2:m < us.length):RelV xs[m] us[m]:=by
 obtain⟨u,hu,ru⟩:=r.get (List.getElem?_eq_getElem h1)
 rw[List.getElem?_eq_getElem h2] at hu
 cases hu
 exact ru
end L2
namespace L2
open PySem PySem.Spec PyProof.Rows
end L2
namespace L2
open PySem PySem.Spec PyProof.Rows
section
variable {prog:Program} {w:World} {K:Type} [DecidableEq K] {knd:HeapKind prog w K} {A:Around} {E:Value→Shared→Prop} {s:Shared}
end
end L2
namespace L2
open PySem PySem.Spec PyProof.Rows
noncomputable def RawD (h:Heap) (d:Addr) (es:Array DictEntry) (ep:Nat):Prop:=∃o,h.get? d=some o∧o.ExactDict∧o.data=.dict es ep
theorem RawD.ty {s:Shared} {d:Addr} {es:Array DictEntry} {ep:Nat} (r:RawD s.heap d es ep):s.TypeIs (.ref d) "dict":=let ⟨o,ho,hc,_⟩:=r;⟨o,ho,hc.1⟩
theorem RawD.lt {h:Heap} {d:Addr} {es:Array DictEntry} {ep:Nat} (r:RawD h d es ep):d < h.objs.size:=let ⟨_,ho,_⟩:=r;Heap.lt_size ho
section
variable {prog:Program} {w:World} {A:Around} {E:Value→Shared→Prop} {s:Shared} {d it:Addr} {es:Array DictEntry} {ep i:Nat}
end
end L2
namespace L2
open PySem PySem.Spec PyProof.Rows
section
variable {X:Cx}
end
theorem ahd {X:Cx} {K:PySem.W.Frag} {es:List Expr} {k:Nat} {pos:Pos} {t:TGs} {n:Nat} (h:X.K=K) (hc:X.calm=true) (hs:PGs X es t) (hn:(assignEach es X.env).length=n:=by rfl) (hst:(assignEach es X.env).findIdx? (·.1)=none:=by rfl):PG X (.Tuple es k pos) (gTup K n t):=h ▸ ajc hc hs hn hst
end L2
namespace L2
open PySem PySem.Spec PyProof.Rows
end L2
namespace L2
open PySem PySem.Spec PyProof.Rows
end L2
namespace L2
open PySem PySem.Spec PyProof.Rows
section
variable {prog:Program} {w:World} {A:Around} {E:Value→Shared→Prop} {s:Shared}
end
end L2
namespace L2
open PySem PySem.Spec PyProof.Rows
noncomputable def tVarM (i:Nat):TE:=fun σ H Q=>match σ[i]? with
 |some (some v)=>Q v H
 |_=>False
theorem aiq {i:Nat} {σ:St} {H:Hp} {Q:VK} (h:tVarM i σ H Q):tVar i σ H Q:=by
 unfold tVarM at h
 split at h
 ·rename_i v e;exact⟨v,e,h⟩
 ·exact h.elim
theorem pvM {X:Cx} (i:Nat) {x:Str} {pos:Pos} (hN:X.N[i]?=some x:=by rfl) (hv:Vis X.env.scope x:=by first|exact Or.inl rfl|exact Or.inr (Or.inl rfl)|exact Or.inr (Or.inr rfl)) (hd:(x == ("__debug__":Str))=false:=by decide)
 (hcd:(x == ("__classdict__":Str))=false:=by decide):PE X (.Name x pos) (tVarM i):=fun pins s σ H Q I h=>pe_var hN hv hd hcd pins s σ H Q I (aiq h)
theorem rI0_ii {g:Int→Int→V} {i j:Int} {H:Hp} {Q:VK}:rI0 g (.int i) (.int j) H Q=Q (g i j) H:=propext ⟨fun ⟨_,_,e1,e2,h⟩=>by cases e1;cases e2;exact h,fun h=>⟨_,_,rfl,rfl,h⟩⟩
theorem rI_ii {C:Int→Int→Prop} {g:Int→Int→V} {i j:Int} {H:Hp} {Q:VK}:rI C g (.int i) (.int j) H Q=(C i j∧Q (g i j) H):=propext ⟨fun ⟨_,_,e1,e2,h⟩=>by cases e1;cases e2;exact h,fun h=>⟨_,_,rfl,rfl,h⟩⟩
theorem ex_int {c:Int} {P:Int→Prop}:(∃i,V.int c=V.int i∧P i)=P c:=propext ⟨fun ⟨_,e,h⟩=>by cases e;exact h,fun h=>⟨_,rfl,h⟩⟩
theorem ex_bl {c:Bool} {P:Bool→Prop}:(∃i,V.bl c=V.bl i∧P i)=P c:=propext ⟨fun ⟨_,e,h⟩=>by cases e;exact h,fun h=>⟨_,rfl,h⟩⟩
theorem ex_ref {c:Addr} {P:Addr→Prop}:(∃i,V.ref c=V.ref i∧P i)=P c:=propext ⟨fun ⟨_,e,h⟩=>by cases e;exact h,fun h=>⟨_,rfl,h⟩⟩
end L2
namespace L2
open PySem PySem.Spec PyProof.Rows
theorem ad9 {X:Cx}:MtR X "str.startswith" (fun x xs H Q=>∃a b,x=.str a∧xs=[.str b]∧Q (.bl (Txt.startswith a b)) H):=by
 intro pins s σ H x xs v us Q I rx rv h
 obtain⟨a,b,rfl,rfl,q⟩:=h
 obtain⟨t,rfl⟩:=rx
 obtain⟨u,rfl,rb⟩:=vals1 rv
 obtain⟨t2,rfl⟩:=rb
 exact PySem.SC.startswith ⟨.bl _,H,I,rfl,q⟩
theorem ahe:∀{ys:List Str} {us:List Value},Vals (ys.map V.str) us→StrsAre us ys
 |[],_,h=>by cases h;exact .nil
 |y::ys,_,h=>by
  cases h with
  |cons r rr=>
   obtain⟨t,rfl⟩:=r
   exact .cons y t (ahe rr)
theorem ahf:∀{l:List (Str×Tok)},Vals ((l.map (·.1)).map V.str) (strValues l)
 |[]=>.nil
 |p::l=>.cons ⟨p.2,rfl⟩ ahf
theorem acg {X:Cx}:MtR X "str.join" (fun x xs H Q=>∃a p ys,x=.str a∧xs=[.ref p]∧SqL X.K H p (ys.map V.str)∧(ys.map (·.length)).sum+ys.length * a.length≤16777216∧Q (.str (Txt.join a ys)) H):=by
 intro pins s σ H x xs v us Q I rx rv h
 obtain⟨a,p,ys,rfl,rfl,hq,hk,q⟩:=h
 obtain⟨t,rfl⟩:=rx
 obtain⟨u,rfl,rb⟩:=vals1 rv
 cases rb
 obtain⟨its,r',pl,hz⟩:=I.list hq
 exact join_list pl.isList (by simpa using ahe r') hk fun t' k=>⟨.str _,H,I.tok _,⟨t',rfl⟩,q⟩
section
open PySem.Builtin PySem.Builtin.Str
theorem ahg {prog:Program} {w:World} {A:Around} {E:Value→Shared→Prop} {s:Shared} {x y:Str} {t u:Tok} {Q:Value→Shared→Prop} (hy:(y.length == 0)=false)
  (hq:∀(l:List (Str×Tok)) k,l.map (·.1)=Txt.split x y→Q (.ref s.heap.objs.size) {s with heap:=s.heap.push {cls:=.type "list",data:=.seq (strValues l).toArray},toks:=k})
  (hsz:x.length≤sizeLine) (hsz2:(partsBetween x (occurrences x y 0 x.length (x.length+1)) y.length).length≤sizeLine):
  wpAny (model prog w) A (call (.builtin "str.split") [.str x t,.str y u]) Q E s:=by
 cases h1:(decide (x.length < y.length) || decide (strKind x < strKind y))
 ·cases hf:(occurrences x y 0 x.length (x.length+1)).isEmpty
  ·refine call_meets F.slot_str_split (typeIs_str _ _ _) F.entry_str_split (F.args_str_split_2 _ _) (meets_str_split_sep x y t u h1 hy hf hsz hsz2) ?_
   show wants Q E _ {s with toks:=_,heap:=s.heap.push {cls:=.type "list",data:=.seq (strsFrom s.toks (partsBetween x (occurrences x y 0 x.length (x.length+1)) y.length)).toArray}}
   rw[strsFrom_eq]
   exact hq (numbered s.toks _) _ ((numbered_texts _ _).trans ((if_neg (ne_true_of_eq_false h1)).trans (if_neg (ne_true_of_eq_false hf))).symm)
  ·exact call_meets F.slot_str_split (typeIs_str _ _ _) F.entry_str_split (F.args_str_split_2 _ _) (meets_str_split_not_found x y t u h1 hy hf) (hq [(x,t)] _ ((if_neg (ne_true_of_eq_false h1)).trans (if_pos hf)).symm)
 ·exact call_meets F.slot_str_split (typeIs_str _ _ _) F.entry_str_split (F.args_str_split_2 _ _) (meets_str_split_cannot_occur x y t u h1) (hq [(x,t)] _ (if_pos h1).symm)
theorem af0 {X:Cx}:MtR X "str.split" (fun x xs H Q=>∃a b,x=.str a∧xs=[.str b]∧(b.length == 0)=false∧a.length≤sizeLine∧(partsBetween a (occurrences a b 0 a.length (a.length+1)) b.length).length≤sizeLine∧(Txt.split a b).length≤sizeLine∧
  ∀l,H l=none→Q (.ref l) (upd H l (.lst ((Txt.split a b).map V.str)))):=by
 intro pins s σ H x xs v us Q I rx rv h
 obtain⟨a,b,rfl,rfl,hb,h1,h2,h3,q⟩:=h
 obtain⟨t,rfl⟩:=rx
 obtain⟨u,rfl,rb⟩:=vals1 rv
 obtain⟨t2,rfl⟩:=rb
 refine ahg hb (fun l k e=>?_) h1 h2
 exact⟨.ref s.heap.objs.size,_,I.laid (t':=k) (fun b o e=>Heap.get?_push_of_some _ e) (Nat.le_refl _) (show ObjOk X.prog X.w _ _ _ (.lst ((Txt.split a b).map V.str)) from ⟨by rw[List.length_map];exact h3,strValues l,0,by rw[←e];exact ahf,Heap.get?_push_size _ rfl⟩),rfl,q _ (I.hok.fresh (Nat.le_refl _))⟩
end
theorem ahh {X:Cx}:CallR X (.type "int") (fun xs H Q=>∃a n,xs=[.str a]∧PySem.intText? a=some n∧a.length≤640∧Q (.int n) H):=by
 intro pins s σ H xs us Q I r h
 obtain⟨a,n,rfl,hn,hl,q⟩:=h
 obtain⟨u,rfl,rx⟩:=vals1 r
 obtain⟨t,rfl⟩:=rx
 exact PySem.W.KIN.call_text hn hl ⟨.int n,H,I.tok _,⟨_,rfl⟩,q⟩
theorem aev {X:Cx}:CallR X (.type "str") (fun xs H Q=>∃i:Int,xs=[.int i]∧i.natAbs.log2 < 1920∧Q (.str (toString i)) H):=by
 intro pins s σ H xs us Q I r h
 obtain⟨i,rfl,hl,q⟩:=h
 obtain⟨u,rfl,rx⟩:=vals1 r
 obtain⟨t,rfl⟩:=rx
 exact PySem.P.str_of_int hl ⟨.str _,H,I.tok _,⟨_,rfl⟩,q⟩
noncomputable def Its (x:Str):It:=⟨fun i _=>i < x.cps.size,fun i H v H'=>H'=H∧∃c,x.cps[i]?=some c∧v=.str ⟨#[c]⟩,fun i _=>x.cps.size≤i⟩
theorem ahi {P:Program} {w:World} {K:PySem.W.Frag} {tg:Expr} (it:Addr) (x:Str) (t:Tok):Turn P w K tg (Its x) [it] it (fun i h=>h.IsStrIter it "str_ascii_iterator" x t i) where
 mem:=by simp
 obj:=fun i h st b hb=>by
  have e:b=it:=by simpa using hb
  subst e
  obtain⟨o,e,c,d⟩:=st
  exact⟨o,e,fun v z=>by rw[d] at z;cases z⟩
 keep:=fun i h h' st k=>let ⟨o,ho,r⟩:=st;⟨o,k it (by simp) o ho,r⟩
 item:=by
  intro X hP hw hK hc i pins s σ H E I hf st hg
  subst hP hw hK
  have hg:i < x.cps.size:=hg
  obtain⟨f0,f1,f2,f3,f4,f5⟩:=hf it (by simp)
  refine wpAny_pyNext_ascii_item st (c:=x.cps[i]) (by simp[hg]) fun h' st' sb=>?_
  have I1:Inv X pins σ H {s with heap:=h',toks:=s.toks+1}:=I.turned (t':=s.toks+1) (fun b o hb e=>(sb.2 b hb).trans e) f0 f1 f3 f4 f5
  obtain⟨ob,e,c,d⟩:=id st'
  exact⟨_,rfl,agn (s:={s with heap:=h',toks:=s.toks+1}) e c d (by decide) ⟨.str ⟨#[x.cps[i]]⟩,H,I1,⟨_,rfl⟩,⟨rfl,_,by simp[hg],rfl⟩,st',fun b hb=>(hf b hb).1⟩⟩
 done:=by
  intro X hP hw hK hc i pins s σ H E I hf st hg
  subst hP hw hK
  have hg:x.cps.size≤i:=hg
  obtain⟨f0,f1,f2,f3,f4,f5⟩:=hf it (by simp)
  exact wpAny_pyNext_ascii_end (I.ok.hd hc) st (by simp[hg]) fun h' eb=>⟨rfl,I.turned (t':=s.toks) (fun b o hb e=>eb b o hb e) f0 f1 f3 f4 f5⟩
 self:=fun _ _ _ _ _ st h=>wpAny_pyIter_striter_ascii st h
theorem ahj {P:Program} {w:World} {K:PySem.W.Frag} {tg:Expr} (it:Addr) (x:Str) (t:Tok):Turn P w K tg (Its x) [it] it (fun i h=>h.IsStrIter it "str_iterator" x t i) where
 mem:=by simp
 obj:=fun i h st b hb=>by
  have e:b=it:=by simpa using hb
  subst e
  obtain⟨o,e,c,d⟩:=st
  exact⟨o,e,fun v z=>by rw[d] at z;cases z⟩
 keep:=fun i h h' st k=>let ⟨o,ho,r⟩:=st;⟨o,k it (by simp) o ho,r⟩
 item:=by
  intro X hP hw hK hc i pins s σ H E I hf st hg
  subst hP hw hK
  have hg:i < x.cps.size:=hg
  obtain⟨f0,f1,f2,f3,f4,f5⟩:=hf it (by simp)
  refine wpAny_pyNext_wide_item st (c:=x.cps[i]) (by simp[hg]) fun h' st' sb=>?_
  have I1:Inv X pins σ H {s with heap:=h',toks:=s.toks+1}:=I.turned (t':=s.toks+1) (fun b o hb e=>(sb.2 b hb).trans e) f0 f1 f3 f4 f5
  obtain⟨ob,e,c,d⟩:=id st'
  exact⟨_,rfl,agn (s:={s with heap:=h',toks:=s.toks+1}) e c d (by decide) ⟨.str ⟨#[x.cps[i]]⟩,H,I1,⟨_,rfl⟩,⟨rfl,_,by simp[hg],rfl⟩,st',fun b hb=>(hf b hb).1⟩⟩
 done:=by
  intro X hP hw hK hc i pins s σ H E I hf st hg
  subst hP hw hK
  have hg:x.cps.size≤i:=hg
  obtain⟨f0,f1,f2,f3,f4,f5⟩:=hf it (by simp)
  exact wpAny_pyNext_wide_end (I.ok.hd hc) st (by simp[hg]) fun h' eb=>⟨rfl,I.turned (t':=s.toks) (fun b o hb e=>eb b o hb e) f0 f1 f3 f4 f5⟩
 self:=fun _ _ _ _ _ st h=>wpAny_pyIter_striter_wide st h
noncomputable def iStr (tl:TE):TI:=fun σ H R=>tl σ H fun x H1=>∃a,x=.str a∧R (Its a) H1
theorem pi_str {X:Cx} {tg l:Expr} {tl:TE} (hl:PE X l tl):PI X tg l (iStr tl):=by
 intro pins s σ H R I h
 refine thn (hl pins s σ H _ I h) fun v s1 ⟨x,H1,I1,r1,q1⟩=>?_
 obtain⟨a,e,q⟩:=q1
 subst e
 obtain⟨t,rfl⟩:=r1
 have hfr:H1 s1.heap.objs.size=none:=I1.hok.fresh (Nat.le_refl _)
 have fp:∀b∈[s1.heap.objs.size],FpOk X pins H1 b:=fun b hb=>by
  have e:b=s1.heap.objs.size:=by simpa using hb
  subst e
  exact I1.fpOk (Nat.le_refl _) hfr
 cases ha:a.cps.all (· < 128)
 ·exact wpAny_pyIter_wide ha ⟨s1.heap.objs.size,[s1.heap.objs.size],_,_,H1,rfl,I1.kept (t':=s1.toks) fun b o e=>Heap.get?_push_of_some _ e,ahj _ a t,⟨_,Heap.get?_push_size _ rfl,rfl,rfl⟩,fp,q⟩
 ·exact wpAny_pyIter_ascii ha ⟨s1.heap.objs.size,[s1.heap.objs.size],_,_,H1,rfl,I1.kept (t':=s1.toks) fun b o e=>Heap.get?_push_of_some _ e,ahi _ a t,⟨_,Heap.get?_push_size _ rfl,rfl,rfl⟩,fp,q⟩
theorem air {x:Str} {g:TG} {tt:TT} {te:TE} {h:HidC g tt te} {σ0:St} {D:Addr} {Q:Hp→Prop} {H:Hp} (Pv:Nat→List V→St→Hp→Prop) (h0:Pv 0 [] σ0 (upd H D (.lst [])))
  (hs:∀i c ys σ H,x.cps[i]?=some c→Pv i ys σ H→g (.str ⟨#[c]⟩) σ H fun σ2 H2=>tt σ2 H2 fun b H2'=>if b=true then te σ2 H2' fun v H3=>H3 D=some (.lst ys)∧ys.length < sizeLine∧Pv (i+1) (ys++[v]) σ2 (upd H3 D (.lst (ys++[v]))) else Pv (i+1) ys σ2 H2') (hd:∀ys σ H,Pv x.cps.size ys σ H→Q H):
  Comp g tt te h (Its x) σ0 D Q H:=by
 refine⟨fun i m ys σ H=>i+m=x.cps.size∧Pv i ys σ H,⟨x.cps.size,Nat.zero_add _,h0⟩,fun i m ys σ H ⟨e,p⟩=>?_⟩
 by_cases hi:i < x.cps.size
 ·refine .inr ⟨hi,Pv (i+1),fun ys σ H q=>⟨m - 1,by omega,by omega,q⟩,?_⟩
  rintro y H' ⟨rfl,c,hc,rfl⟩
  exact hs i c ys σ H' hc p
 ·have e':i=x.cps.size:=by omega
  subst e'
  exact .inl ⟨Nat.le_refl _,hd ys σ H p⟩
theorem ahk {X:Cx}:OpR X (compareOp .In) (fun x y H Q=>∃a b,x=.str a∧y=.str b∧Q (.bl (!(Builtin.Str.occurrences b a 0 b.length 1).isEmpty)) H):=by
 intro pins s σ H x y u v Q I rx ry h
 obtain⟨a,b,rfl,rfl,q⟩:=h
 obtain⟨t,rfl⟩:=rx
 obtain⟨t2,rfl⟩:=ry
 exact PySem.P.in_str ⟨.bl _,H,I,rfl,q⟩
theorem aew {X:Cx}:SlR X (fun x lo hi H Q=>∃a,x=.str a∧a.length≤sizeLine∧Q (.str (Txt.slice a lo hi)) H):=by
 intro pins s σ H x v vl vu lo hi sl Q I rx hs pl pu h
 obtain⟨a,rfl,hl,q⟩:=h
 obtain⟨t,rfl⟩:=rx
 refine⟨"str",_,PySem.F.slot_str_getitem.lookup,typeIs_str _ _ _,?_⟩
 have fin:∀(l u:Option (Int×Tok)),l.map (·.1)=lo→u.map (·.1)=hi→s.heap.IsSlice sl l u none→wpAny (model X.prog X.w) X.A (getItem (.str a t) (.ref sl)) (EP X pins σ Q) X.xe s:=fun l u e1 e2 hS=>by
  subst e1 e2
  refine wpAny_getItem_str_slice (l:=l) (u:=u) (st:=none) hS rfl ?_
  exact post_val_or_str ⟨Nat.le_trans (Txt.slice_le a _ _) hl,fun t' k=>⟨.str _,H,I.tok _,⟨t',rfl⟩,q⟩⟩
 cases pl with
 |none=>cases pu with
  |none=>exact fin none none rfl rfl hs
  |int j t2=>exact fin none (some (j,t2)) rfl rfl hs
 |int i t1=>cases pu with
  |none=>exact fin (some (i,t1)) none rfl rfl hs
  |int j t2=>exact fin (some (i,t1)) (some (j,t2)) rfl rfl hs
end L2
namespace Hd
open PySem PySem.W PySem.Calls PyProof.Rows
noncomputable def runT (tb:String→Option Builtin) (p:Program) (w:World) (n0:Nat) (ann:Option Value):Nat→SharedT→Thread→Option SharedT
 |0,_,_=>none
 |n+1,s,t=>match through t with
  |true=>some s
  |false=>match stepOk n0 ann t with
   |false=>none
   |true=>match stepT (denote tb) p w s t with
    |some (s',t')=>runT tb p w n0 ann n s' t'
    |none=>none
theorem ahl {tb:String→Option Builtin} {p:Program} {w:World} {n0:Nat} {ann:Option Value}:∀{n:Nat} {s r:SharedT} {t:Thread},runT tb p w n0 ann n s t=some r→topRun tb p w n0 ann n s.abs t=some r.abs
 |0,_,_,_,h=>by cases h
 |n+1,s,r,t,h=>by
  unfold runT at h
  unfold topRun
  cases he:through t with
  |true=>rw[he] at h;cases h;rfl
  |false=>
   rw[he] at h
   cases hk:stepOk n0 ann t with
   |false=>rw[hk] at h;cases h
   |true=>
    rw[hk] at h
    cases hs:stepT (denote tb) p w s t with
    |none=>rw[hs] at h;cases h
    |some x=>obtain⟨s2,t2⟩:=x;rw[hs] at h;rw[stepT_spec hs];exact ahl h
noncomputable def grow:List Obj→Nat→BT→BT
 |[],_,t=>t
 |o::l,n,t=>grow l (n+1) (t.ins n o)
noncomputable def bootT (P:Params):BT:=grow (boot_heap P).objs.toList 0 .nil
noncomputable def bootS (w:World) (os:OsState):SharedT:=⟨bootT w.params,(boot_heap w.params).objs.size,(boot_heap w.params).life, #[],boot_drawn,boot_toks,os⟩
theorem ais (w:World) (os:OsState):(bootS w os).abs=⟨boot_heap w.params, #[],boot_drawn,boot_toks,os⟩:=by kernel_rfl
theorem ahm (w:World):((boot_heap w.params).isNs mainGlobals&&(#[]:Array GenState).size == 0)=true:=by kernel_rfl
noncomputable abbrev ann0 (w:World):Option Value:=(boot_heap w.params).nsMap mainGlobals "__annotations__"
noncomputable def look {α:Type} (p:Program) (Yf:Shared→α) (H0:Heap) (s:Shared):Bool×α:=
 (staticsOk (importedModules p.main.body) H0 s.heap&&namesBound p s.heap&&gensDone s&&laidKept H0 s.heap,Yf s)
noncomputable def ran (p:Program) (N:Nat) (w:World) (os:OsState):Option SharedT:=runT treeTable p w (boot_heap w.params).objs.size (ann0 w) N (bootS w os) (topStub p)
noncomputable def once {α:Type} (p:Program) (Yf:Shared→α) (N:Nat) (w:World) (os:OsState):=(ran p N w os).map fun s=>look p Yf (boot_heap w.params) s.abs
noncomputable def seen (p q:Program) (loose:List Str) (Xt:Shared→Bool) (N:Nat) (w:World) (os:OsState):=(ran p N w os).map fun s=>openSeen q loose (importedModules p.main.body) Xt true s.abs
theorem ahn {p q:Program} {loose:List Str} {Xt:Shared→Bool} {α:Type} {Yf:Shared→α} {Ya:World→α} {N:Nat}
  (e:opening p=plainProg p.main.scope.names) (hN:Nat.ble 600 N=true) (f:∀s,fenceModules? p s=some s)
  (one:∀(w:World) (os:OsState),once p Yf N w os=some (true,Ya w)) (two:∀(w:World) (os:OsState),seen p q loose Xt N w os=some (openGood q loose)):LeftO p q loose Xt Yf Ya N:=fun w=>by
 obtain⟨⟨h,gs,d,k,os⟩,e1,e2⟩:=Option.map_eq_some_iff.mp (boot_open e hN f w)
 obtain⟨rfl,rfl,rfl,rfl⟩:h=boot_heap w.params∧gs= #[]∧d=boot_drawn∧k=boot_toks:=by simpa using e2
 obtain⟨sT,r,l⟩:=Option.map_eq_some_iff.mp (one w os)
 obtain⟨sT',r',l2⟩:=Option.map_eq_some_iff.mp (two w os)
 obtain rfl:sT=sT':=Option.some.inj (r.symm.trans r')
 have r:=ahl r
 rw[ais] at r
 obtain⟨l1,l3⟩:_∧_:=by simpa only[look,Prod.mk.injEq] using l
 have t:topFrom treeTable p w N ⟨boot_heap w.params, #[],boot_drawn,boot_toks,os⟩=some sT.abs:=by
  unfold topFrom
  dsimp only
  rw[ahm w,r]
  show (match staticsOk (importedModules p.main.body) (boot_heap w.params) sT.abs.heap&&namesBound p sT.abs.heap&&gensDone sT.abs&&laidKept (boot_heap w.params) sT.abs.heap with|true=>_|false=>_)=_
  rw[l1]
 unfold openEnds
 rw[e1]
 show (topFrom treeTable p w N _).map _=_
 rw[t]
 exact congrArg some (Prod.ext l2 l3)
end Hd
namespace Hd
open PySem PySem.W
noncomputable def dig:Nat→Nat→List Nat
 |0,_=>[]
 |k+1,n=>match Nat.beq n 0 with
  |true=>[]
  |false=>Nat.sub (n % 256) 1::dig k (n / 256)
noncomputable def S (n:Nat):Str:=⟨⟨dig 200 n⟩⟩
noncomputable def ent (P:Params) (x:Str) (t:Nat) (v:Value):DictEntry:=⟨PyData.keyHash P x,.str x t,v⟩
noncomputable def dO (n:Nat) (l:List DictEntry):Obj:=⟨.type "dict",none,.dict ⟨l⟩ n, #[]⟩
noncomputable def tO (l:List Value):Obj:=⟨.type "tuple",none,.seq ⟨l⟩ 0, #[]⟩
noncomputable def cO (l:List Value):Obj:=⟨.type "code",none,.fields ⟨l⟩, #[]⟩
end Hd
namespace Hd
open PySem PySem.W PySem.Calls PyProof.Rows
noncomputable def goT (tb:String→Option Builtin) (p:Program) (w:World) (n0:Nat) (ann:Option Value):Nat→SharedT→Thread→Option (SharedT×Thread)
 |0,s,t=>some (s,t)
 |n+1,s,t=>match through t with
  |true=>none
  |false=>match stepOk n0 ann t with
   |false=>none
   |true=>match stepT (denote tb) p w s t with
    |some (s',t')=>goT tb p w n0 ann n s' t'
    |none=>none
end Hd
namespace Hd
open PySem PySem.W PySem.Calls PyProof.Rows
theorem tw_run:(fun (_:(String→Option Builtin)→Program→World→Nat→Option Value→Nat→SharedT→Thread→Option SharedT)=>true) runT=true:=by k_qdec
theorem tw_go:(fun (_:(String→Option Builtin)→Program→World→Nat→Option Value→Nat→SharedT→Thread→Option (SharedT×Thread))=>true) goT=true:=by k_qdec
theorem tw_boot:(fun (_:World→OsState→SharedT) (_:World→Option Value)=>true) bootS ann0=true:=by k_qdec
theorem tw_look:(fun (_:{α:Type}→Program→(Shared→α)→Heap→Shared→Bool×α)=>true) @look=true:=by k_qdec
theorem tw_once:(fun (_:{α:Type}→Program→(Shared→α)→Nat→World→OsState→Option (Bool×α))=>true) @once=true:=by k_qdec
theorem tw_seen:(fun (_:Program→Program→List Str→(Shared→Bool)→Nat→World→OsState→Option _)=>true) seen=true:=by k_qdec
end Hd
namespace L2
open PySem PySem.Spec PyProof.Rows
structure RoomH (k:Nat) (A:Around):Prop where
 dp:A.depth+3 * k+5 < recursionLimit
 un:A.units+16 * k+200 < cLine
theorem Room.h {k:Nat} {A:Around} (r:Room k A):RoomH k A:=⟨r.dp,r.un⟩
theorem RoomH.deeper {k:Nat} {A:Around} (r:RoomH (k+1) A) (env:Env):RoomH k (A.deeper env):=
 ⟨by have:=r.dp;show A.depth+1+3 * k+5 < _;omega,by have:=r.un;show A.units+3+16 * k+200 < _;omega⟩
noncomputable def cxOfH (P:Program) (w:World) (K:PySem.W.Frag) (mg:Str→Option Value) (base:Heap) (N:List Str) (qual:Str) (scope:Scope) (f:Addr) (cd:Value) (A:Around) (outer:List Env) (s:Shared) (H:Hp) (E:XK):Cx:=
 {cxOf (CXe P w) P w K mg base N qual scope f cd A outer s H E with calm:=false}
noncomputable def rCatS:R2:=fun x y H Q=>∃a b,x=.str a∧y=.str b∧a.length+b.length≤16777216∧Q (.str (a++b)) H
theorem aa2 {X:Cx}:OpR X (binaryOp .Add) rCatS:=by
 intro pins s σ H x y v u Q I rx ry h
 obtain⟨a,b,rfl,rfl,hz,q⟩:=h
 obtain⟨t,rfl⟩:=rx
 obtain⟨t2,rfl⟩:=ry
 exact add_str (fun t' tk=>⟨.str (a++b),H,I.tok _,⟨_,rfl⟩,q⟩) (by rw[sizeLine_eq];omega)
theorem aj9 {P:Program} {w:World} {K:PySem.W.Frag} {mg:Str→Option Value} {base:Heap} {N:List Str} {qual:Str} {scope:Scope} {f:Addr} {cd:Value} {A:Around} {outer:List Env} {s:Shared} {H:Hp} {E:XK}:(cxOfH P w K mg base N qual scope f cd A outer s H E).K=K:=rfl
end L2
namespace L2
open PySem PySem.Spec PyProof.Rows
noncomputable def BindsK (K:PySem.W.Frag) (fd:FuncData) (ps ks:List Str):Prop:=∀(s:Shared) (us:List Value) (a b:Value),K.In s.heap→us.length+2=ps.length→BindsTo s fd ⟨us,ks.zip [a,b]⟩ (ps.zip (us++[b,a]))
noncomputable def RawMK (K:PySem.W.Frag) (C:Addr) (m qual:Str) (st:Stmt) (ps ks:List Str):Prop:=∃f fd,Meth K C m f∧FunD K m qual st f fd∧BindsK K fd ps ks
noncomputable def HaveMK (P:Program) (w:World) (K:PySem.W.Frag) (mg:Str→Option Value) (base:Heap) (C:Addr) (m:Str) (k:Nat) (ps ks:List Str) (sp:Sp):Prop:=
 ∃f fd,Meth K C m f∧BindsK K fd ps ks∧FnOk P w K mg base (CXe P w) k f fd ps sp
theorem RawMK.have {P:Program} {w:World} {K:PySem.W.Frag} {mg:Str→Option Value} {base:Heap} {C:Addr} {m qual:Str} {st:Stmt} {N ps ks:List Str} {k:Nat} {sp:Sp} (R:RawMK K C m qual st ps ks) (S:FnScope N ps (defScope st)) (len:∀vs H Q E,sp vs H Q E→vs.length=ps.length)
  (hbody:Body P w K mg base qual st N k sp):HaveMK P w K mg base C m (k+1) ps ks sp:=
 let ⟨f,fd,hm,F,hb⟩:=R
 ⟨f,fd,hm,hb,F.okE S len hbody⟩
end L2
namespace L2
open PySem PySem.Spec PyProof.Rows
end L2
namespace L2
open PySem PySem.Spec PyProof.Rows
end L2
namespace L2
open PySem PySem.Spec PyProof.Rows
section
variable {prog:Program} {w:World} {A:Around} {E:Value→Shared→Prop} {s:Shared}
theorem agg {it t:Addr} {i:Nat} {items:Array Value} {x:Value} {Q:Value→Shared→Prop} (hit:s.heap.IsTupleIter it t i) (ht:s.heap.IsTuple t items) (hx:items[i]?=some x)
  (hQ:∀h',h'.IsTupleIter it t (i+1)→Heap.SameBut it s.heap h'→Q x {s with heap:=h'}):wpAny (model prog w) A (Builtin.SmallTypes.nextOf (.ref it)) Q E s:=by
 obtain⟨o,ho,hc,hd⟩:=id hit
 obtain⟨ol,hol,_,nl,hdl⟩:=ht
 unfold Builtin.SmallTypes.nextOf
 refine wpAny_bind (wpAny_callSpecial?_slot (name:=Str.ofString "__next__") hit.typeIs F.slot_tuple_iterator_next (wpAny_call_entry F.slot_tuple_iterator_next hit.typeIs F.entry_tuple_iterator_next ?_ (F.args_tuple_iterator_next_1 _)))
 show wpAny _ _ (field (.ref it) 0 >>= _) _ _ s
 refine wpAny_bind (wpAny_field ho hd (x:=.ref t) rfl ?_)
 show wpAny _ _ (if (Value.ref t == Value.none)=true then _ else _) _ _ s
 rw[if_neg (show ¬((Value.ref t == Value.none)=true) from Bool.false_ne_true)]
 show wpAny _ _ (field (.ref it) 1 >>= _) _ _ s
 refine wpAny_bind (wpAny_field ho hd (x:=.int i 0) rfl ?_)
 show wpAny _ _ (seqItems? (.ref t) >>= _) _ _ s
 refine wpAny_bind (wpAny_seqItems hol hdl ?_)
 simp only[Int.toNat_natCast,hx]
 refine wpAny_bind (wpAny_setField ho hd (by simp) (wpAny_pure ⟨x,rfl,wpAny_pure (hQ _ ?_ (Heap.SameBut.update ..))⟩))
 exact⟨_,Heap.get?_update_self _ ho (Obj.isFreed_of_fields (Obj.data_mapFields hd _)),(Obj.cls_mapFields ..).trans hc,by rw[Obj.data_mapFields hd];simp[rawInt]⟩
theorem ado {it t:Addr} {i:Nat} {items:Array Value} {Q:Value→Shared→Prop} (hh:A.handled=none) (hit:s.heap.IsTupleIter it t i) (ht:s.heap.IsTuple t items) (hx:items[i]?=none)
  (hE:∀h' e,Heap.ExtBut it s.heap h'→(∃o,h'.get? e=some o∧o.cls=.type "StopIteration")→E (.ref e) {s with heap:=h'}):wpAny (model prog w) A (Builtin.SmallTypes.nextOf (.ref it)) Q E s:=by
 obtain⟨o,ho,hc,hd⟩:=id hit
 obtain⟨ol,hol,_,nl,hdl⟩:=ht
 unfold Builtin.SmallTypes.nextOf
 refine wpAny_bind (wpAny_callSpecial?_slot (name:=Str.ofString "__next__") hit.typeIs F.slot_tuple_iterator_next (wpAny_call_entry F.slot_tuple_iterator_next hit.typeIs F.entry_tuple_iterator_next ?_ (F.args_tuple_iterator_next_1 _)))
 show wpAny _ _ (field (.ref it) 0 >>= _) _ _ s
 refine wpAny_bind (wpAny_field ho hd (x:=.ref t) rfl ?_)
 show wpAny _ _ (if (Value.ref t == Value.none)=true then _ else _) _ _ s
 rw[if_neg (show ¬((Value.ref t == Value.none)=true) from Bool.false_ne_true)]
 show wpAny _ _ (field (.ref it) 1 >>= _) _ _ s
 refine wpAny_bind (wpAny_field ho hd (x:=.int i 0) rfl ?_)
 show wpAny _ _ (seqItems? (.ref t) >>= _) _ _ s
 refine wpAny_bind (wpAny_seqItems hol hdl ?_)
 simp only[Int.toNat_natCast,hx]
 refine wpAny_bind (wpAny_rule (wpAny_bind (wpAny_setField ho hd (by simp) ?_)))
 show wpAny _ _ (newExc (.type "StopIteration") [] >>= _) _ _ _
 refine wpAny_bind ?_
 simp only[newExc,newTuple]
 refine wpAny_bind (wpAny_newObj_type ?_ (by size_fits))
 refine wpAny_bind (m:=firstArgMember _ _) (wpAny_of_eq (a:=Value.none) (by first|rfl|(simp only[firstArgMember];rfl)) ?_)
 refine wpAny_newObj_type ?_ (by size_fits)
 simp only[raiseNew]
 refine wpAny_bind (wpAny_handled ?_)
 first|rw[show A.in1.handled=none from hh]|rw[hh]
 refine wpAny_bind (wpAny_pure (wpAny_throw ?_))
 exact hE _ _ (((Heap.SameBut.update ..).extBut.push _).push _) ⟨_,Heap.get?_push_size _ rfl,rfl⟩
structure ZipSt (h:Heap) (z TI TO i1 i2 l1 l2:Addr) (k:Nat):Prop where
 z:IsZip h z TI TO .none
 ti:IsPair h TI (.ref i1) (.ref i2)
 to:∃a b,IsPair h TO a b
 i1:h.IsTupleIter i1 l1 k
 i2:h.IsListIter i2 l2 k
theorem ait {z TI TO i1 i2 l1 l2:Addr} {k:Nat} {xs ys:Array Value} {x y:Value} {Q:Option Value→Shared→Prop} (D:ZipApart z TI TO i1 i2 l1 l2) (S:ZipSt s.heap z TI TO i1 i2 l1 l2 k) (hl1:s.heap.IsTuple l1 xs) (hl2:s.heap.IsList l2 ys) (hx:xs[k]?=some x) (hy:ys[k]?=some y)
  (hQ:∀h',IsZip h' z TI TO (rawInt s.heap.objs.size)→IsPair h' TO x y→h'.IsTupleIter i1 l1 (k+1)→h'.IsListIter i2 l2 (k+1)→IsPair h' s.heap.objs.size x y→h'.objs.size=s.heap.objs.size+1→
   (∀c o,c≠z→c≠TO→c≠i1→c≠i2→s.heap.get? c=some o→h'.get? c=some o)→Q (some (.ref s.heap.objs.size)) {s with heap:=h'}):wpAny (model prog w) A (pyNext (.ref z)) Q E s:=by
 obtain⟨hz,hTI,⟨a,b,hTO⟩,h1,h2⟩:=S
 have hT:s.TypeIs (.ref z) "zip":=⟨_,hz,rfl⟩
 unfold pyNext
 refine wpAny_bind (wpAny_attempt (wpAny_callSpecial?_slot (name:=Str.ofString "__next__") hT F.slot_zip_next (wpAny_call_entry F.slot_zip_next hT F.entry_zip_next ?_ (F.args_zip_next_1 _))))
 show wpAny _ _ (field (.ref z) 2 >>= _) _ _ _
 refine wpAny_bind (wpAny_field hz rfl (x:=.bool false) rfl ?_)
 show wpAny _ _ (field (.ref z) 3 >>= _) _ _ _
 refine wpAny_bind (wpAny_field hz rfl (x:=.ref TI) rfl ?_)
 refine wpAny_bind (wpAny_seqItems hTI rfl ?_)
 show wpAny _ _ (Builtin.SmallTypes.ownedTupleIsFree (.ref z) >>= _) _ _ _
 refine wpAny_bind ?_
 unfold Builtin.SmallTypes.ownedTupleIsFree
 refine wpAny_bind (wpAny_field hz rfl (x:=.none) rfl (wpAny_pure ?_))
 simp only[if_true]
 refine wpAny_bind (wpAny_rule ?_)
 refine wpAny_bind (wpAny_field hz rfl (x:=.ref TO) rfl ?_)
 refine wpAny_bind (wpAny_setField_rec hz (by simp) fun g1 hz1 e1=>?_)
 replace hz1:IsZip g1 z TI TO .ellipsis:=hz1
 refine wpAny_bind ?_
 simp only[List.zipIdx_cons,List.zipIdx_nil,List.forIn_cons,List.forIn_nil]
 refine wpAny_bind (wpAny_bind (wpAny_onRaise ?_))
 show wpAny _ _ (Builtin.SmallTypes.nextOf (.ref i1) >>= _) _ _ _
 refine wpAny_bind (agg (h1.extBut e1.extBut D.i1z) (hl1.extBut e1.extBut D.l1z) hx fun g2 h1' e2=>wpAny_pure ?_)
 have hTO2:IsPair g2 TO a b:=e2.extBut _ _ D.TOi1 (e1.extBut _ _ D.TOz hTO)
 refine wpAny_bind (wpAny_seqItems hTO2 rfl ?_)
 refine wpAny_bind (wpAny_updateSeq_pair hTO2 fun g3 hTO3 e3=>?_)
 replace hTO3:IsPair g3 TO x b:=hTO3
 refine wpAny_bind (wpAny_letGo (wpAny_pure ?_))
 refine wpAny_bind (wpAny_bind (wpAny_onRaise ?_))
 show wpAny _ _ (Builtin.SmallTypes.nextOf (.ref i2) >>= _) _ _ _
 refine wpAny_bind (wpAny_nextOf_list_item (((h2.extBut e1.extBut D.i2z).extBut e2.extBut D.i12.symm).extBut e3.extBut D.TOi2.symm) (((hl2.extBut e1.extBut D.l2z).extBut e2.extBut D.l2i1).extBut e3.extBut D.l2TO) hy fun g4 h2' e4=>wpAny_pure ?_)
 have hTO4:IsPair g4 TO x b:=e4.extBut _ _ D.TOi2 hTO3
 refine wpAny_bind (wpAny_seqItems hTO4 rfl ?_)
 refine wpAny_bind (wpAny_updateSeq_pair hTO4 fun g5 hTO5 e5=>?_)
 replace hTO5:IsPair g5 TO x y:=hTO5
 refine wpAny_bind (wpAny_letGo (wpAny_pure (wpAny_pure ?_)))
 refine wpAny_bind (wpAny_seqItems hTO5 rfl ?_)
 refine wpAny_bind (wpAny_newTuple ?_)
 have hsz:g5.objs.size=s.heap.objs.size:=by rw[e5.1,e4.1,e3.1,e2.1,e1.1]
 have hz5:IsZip g5 z TI TO .ellipsis:=e5.extBut _ _ D.TOz.symm (e4.extBut _ _ D.i2z.symm (e3.extBut _ _ D.TOz.symm (e2.extBut _ _ D.i1z.symm hz1)))
 have hk5:∀c o,c≠z→c≠TO→c≠i1→c≠i2→s.heap.get? c=some o→g5.get? c=some o:=fun c o c1 c2 c3 c4 e=>e5.extBut _ _ c2 (e4.extBut _ _ c4 (e3.extBut _ _ c2 (e2.extBut _ _ c3 (e1.extBut _ _ c1 e))))
 have h15:g5.IsTupleIter i1 l1 (k+1):=((h1'.extBut e3.extBut D.TOi1.symm).extBut e4.extBut D.i12).extBut e5.extBut D.TOi1.symm
 have h25:g5.IsListIter i2 l2 (k+1):=h2'.extBut e5.extBut D.TOi2.symm
 have hzlt:z < g5.objs.size:=Heap.lt_size hz5
 show wpAny _ _ (Builtin.SmallTypes.ownedTupleHandOut (.ref z) (.ref g5.objs.size) >>= _) _ _ _
 refine wpAny_bind ?_
 unfold Builtin.SmallTypes.ownedTupleHandOut
 have hz6:IsZip (g5.push {cls:=.type "tuple",data:=.seq #[x,y]}) z TI TO .ellipsis:=Heap.get?_push_of_some _ hz5
 refine wpAny_bind (wpAny_setField_rec hz6 (by simp) fun g7 hz7 e7=>?_)
 replace hz7:IsZip g7 z TI TO (rawInt g5.objs.size):=hz7
 refine wpAny_setField_rec hz7 (by simp) fun g8 hz8 e8=>?_
 replace hz8:IsZip g8 z TI TO (rawInt g5.objs.size):=hz8
 have up:∀c o,c≠z→g5.get? c=some o→g8.get? c=some o:=fun c o c1 e=>e8.extBut _ _ c1 (e7.extBut _ _ c1 (Heap.get?_push_of_some _ e))
 have hT8:IsPair g8 g5.objs.size x y:=e8.extBut _ _ (Nat.ne_of_gt hzlt) (e7.extBut _ _ (Nat.ne_of_gt hzlt) (Heap.get?_push_size _ rfl))
 have hs8:g8.objs.size=g5.objs.size+1:=by rw[e8.1,e7.1,Heap.size_push]
 rw[hsz] at hz8 hT8 hs8
 refine wpAny_pure ⟨_,rfl,wpAny_pure ?_⟩
 show Q (some (.ref g5.objs.size)) _
 rw[hsz]
 exact hQ g8 hz8 (up _ _ D.TOz hTO5) (let ⟨o,ho,r⟩:=h15;⟨o,up _ o D.i1z ho,r⟩) (let ⟨o,ho,r⟩:=h25;⟨o,up _ o D.i2z ho,r⟩) hT8 hs8 fun c o c1 c2 c3 c4 e=>up c o c1 (hk5 c o c1 c2 c3 c4 e)
theorem aiu {z TI TO i1 i2 l1 l2:Addr} {k:Nat} {xs:Array Value} {Q:Option Value→Shared→Prop} (hh:A.handled=none) (D:ZipApart z TI TO i1 i2 l1 l2) (S:ZipSt s.heap z TI TO i1 i2 l1 l2 k) (hl1:s.heap.IsTuple l1 xs) (hx:xs[k]?=none)
  (hQ:∀h',(∀c o,c≠z→c≠i1→s.heap.get? c=some o→h'.get? c=some o)→Q none {s with heap:=h'}):wpAny (model prog w) A (pyNext (.ref z)) Q E s:=by
 obtain⟨hz,hTI,⟨a,b,hTO⟩,h1,h2⟩:=S
 have hT:s.TypeIs (.ref z) "zip":=⟨_,hz,rfl⟩
 unfold pyNext
 refine wpAny_bind (wpAny_attempt (wpAny_callSpecial?_slot (name:=Str.ofString "__next__") hT F.slot_zip_next (wpAny_call_entry F.slot_zip_next hT F.entry_zip_next ?_ (F.args_zip_next_1 _))))
 show wpAny _ _ (field (.ref z) 2 >>= _) _ _ _
 refine wpAny_bind (wpAny_field hz rfl (x:=.bool false) rfl ?_)
 show wpAny _ _ (field (.ref z) 3 >>= _) _ _ _
 refine wpAny_bind (wpAny_field hz rfl (x:=.ref TI) rfl ?_)
 refine wpAny_bind (wpAny_seqItems hTI rfl ?_)
 show wpAny _ _ (Builtin.SmallTypes.ownedTupleIsFree (.ref z) >>= _) _ _ _
 refine wpAny_bind ?_
 unfold Builtin.SmallTypes.ownedTupleIsFree
 refine wpAny_bind (wpAny_field hz rfl (x:=.none) rfl (wpAny_pure ?_))
 simp only[if_true]
 refine wpAny_bind (wpAny_rule ?_)
 refine wpAny_bind (wpAny_field hz rfl (x:=.ref TO) rfl ?_)
 refine wpAny_bind (wpAny_setField_rec hz (by simp) fun g1 hz1 e1=>?_)
 replace hz1:IsZip g1 z TI TO .ellipsis:=hz1
 refine wpAny_bind ?_
 simp only[List.zipIdx_cons,List.zipIdx_nil,List.forIn_cons,List.forIn_nil]
 refine wpAny_bind (wpAny_bind (wpAny_onRaise ?_))
 show wpAny _ _ (Builtin.SmallTypes.nextOf (.ref i1) >>= _) _ _ _
 refine wpAny_bind (ado hh (h1.extBut e1.extBut D.i1z) (hl1.extBut e1.extBut D.l1z) hx fun g2 e e2 he=>?_)
 obtain⟨oe,hoe,hce⟩:=he
 have hz2:IsZip g2 z TI TO .ellipsis:=e2 _ _ D.i1z.symm hz1
 have hez:e≠z:=fun x=>by subst x;rw[hz2] at hoe;cases hoe;simp at hce
 refine wpAny_setField_rec hz2 (by simp) fun g3 _ e3=>?_
 refine wpAny_bind (wpAny_isInstance (T:="StopIteration") (b:=true) ⟨oe,e3.extBut _ _ hez hoe,hce⟩ isSubtype_stop ?_)
 exact wpAny_pure (hQ _ fun c o c1 c3 x=>e3.extBut _ _ c1 (e2 _ _ c3 (e1.extBut _ _ c1 x)))
noncomputable abbrev zH1 (h:Heap) (l1:Addr):Heap:=h.push {cls:=.type "tuple_iterator",data:=.fields #[.ref l1,.int 0 0]}
noncomputable abbrev zH2 (h:Heap) (l1 l2:Addr):Heap:=(zH1 h l1).push {cls:=.type "list_iterator",data:=.fields #[.ref l2,.int 0 0]}
noncomputable abbrev zH3 (h:Heap) (l1 l2:Addr):Heap:=(zH2 h l1 l2).push {cls:=.type "tuple",data:=.seq #[.ref h.objs.size,.ref (zH1 h l1).objs.size]}
noncomputable abbrev zH4 (h:Heap) (l1 l2:Addr):Heap:=(zH3 h l1 l2).push {cls:=.type "tuple",data:=.seq #[.none,.none]}
noncomputable abbrev zH5 (h:Heap) (l1 l2:Addr):Heap:=(zH4 h l1 l2).push {cls:=.type "zip",data:=.fields #[.none,.bool false,.bool false,.ref (zH2 h l1 l2).objs.size,.ref (zH3 h l1 l2).objs.size]}
theorem aho (l1 l2:Addr) (xs ys:Array Value):
  Meets (Builtin.«zip.__new__» ⟨[.type "zip",.ref l1,.ref l2],[]⟩) (fun _ R s=>s.heap.IsTuple l1 xs∧s.heap.IsList l2 ys∧R (.ok (.ret (.ref (zH4 s.heap l1 l2).objs.size))) {s with heap:=zH5 s.heap l1 l2}):=
 .of_wp fun prog w A R s h=>by
  obtain⟨hp,g,d,tk,os⟩:=s;obtain⟨hl1,hl2,h⟩:=h
  have hsub:=sub_zip
  have hL1:Heap.IsTuple (Shared.heap ⟨hp,g,d,tk,os⟩) l1 xs:=hl1
  have hL2:Heap.IsList (Shared.heap ⟨hp.push {cls:=.type "tuple_iterator",data:=.fields #[.ref l1,.int 0 0]},g,d,tk,os⟩) l2 ys:=Heap.IsList.push hl2 _
  wp_walk using wpAny_pyIter_tuple hL1,wpAny_pyIter_list hL2
  exact⟨_,rfl,h⟩
theorem aiv {l1 l2:Addr} {xs ys:Array Value} {Q:Value→Shared→Prop} (hl1:s.heap.IsTuple l1 xs) (hl2:s.heap.IsList l2 ys)
  (h:∀h',ZipSt h' (s.heap.objs.size+4) (s.heap.objs.size+2) (s.heap.objs.size+3) s.heap.objs.size (s.heap.objs.size+1) l1 l2 0→(∀c o,s.heap.get? c=some o→h'.get? c=some o)→Q (.ref (s.heap.objs.size+4)) {s with heap:=h'}):
  wpAny (model prog w) A (call (.type "zip") [.ref l1,.ref l2]) Q E s:=by
 refine callType_new F.called_zip (by decide) (F.typeCall_zip_2 _ _) (F.newCall_zip_2 _ _) (fun obj=>F.args_object_init_3 obj _ _) F.entry_zip_new (aho l1 l2 xs ys) ⟨hl1,hl2,?_⟩
 have z1:(zH1 s.heap l1).objs.size=s.heap.objs.size+1:=Heap.size_push ..
 have z2:(zH2 s.heap l1 l2).objs.size=s.heap.objs.size+2:=by rw[Heap.size_push,z1]
 have z3:(zH3 s.heap l1 l2).objs.size=s.heap.objs.size+3:=by rw[Heap.size_push,z2]
 have z4:(zH4 s.heap l1 l2).objs.size=s.heap.objs.size+4:=by rw[Heap.size_push,z3]
 have g5:(zH5 s.heap l1 l2).get? (zH4 s.heap l1 l2).objs.size=some _:=Heap.get?_push_size _ rfl
 have g4:(zH5 s.heap l1 l2).get? (zH3 s.heap l1 l2).objs.size=some _:=Heap.get?_push_of_some _ (Heap.get?_push_size _ rfl)
 have g3:(zH5 s.heap l1 l2).get? (zH2 s.heap l1 l2).objs.size=some _:=Heap.get?_push_of_some _ (Heap.get?_push_of_some _ (Heap.get?_push_size _ rfl))
 have g2:(zH5 s.heap l1 l2).get? (zH1 s.heap l1).objs.size=some _:=Heap.get?_push_of_some _ (Heap.get?_push_of_some _ (Heap.get?_push_of_some _ (Heap.get?_push_size _ rfl)))
 have g1:(zH5 s.heap l1 l2).get? s.heap.objs.size=some _:=Heap.get?_push_of_some _ (Heap.get?_push_of_some _ (Heap.get?_push_of_some _ (Heap.get?_push_of_some _ (Heap.get?_push_size _ rfl))))
 show _∧_
 rw[z2,z3,z4] at g5
 rw[z1,z2] at g3
 rw[z3] at g4
 rw[z1] at g2
 rw[z4]
 exact⟨⟨_,g5,rfl⟩,h _ ⟨g5,g3,⟨_,_,g4⟩,⟨_,g1,rfl,rfl⟩,⟨_,g2,rfl,rfl⟩⟩ fun c o x=>Heap.get?_push_of_some _ (Heap.get?_push_of_some _ (Heap.get?_push_of_some _ (Heap.get?_push_of_some _ (Heap.get?_push_of_some _ x))))⟩
end
noncomputable def Itz (K:PySem.W.Frag) (a b:Addr):It:=
 ⟨fun i H=>∃xs ys x y,SqT K H a xs∧SqL K H b ys∧xs[i]?=some x∧ys[i]?=some y,fun i H v H'=>∃t x y,v=.ref t∧H t=none∧H'=upd H t (.tup [x,y])∧∀xs ys,SqT K H a xs→SqL K H b ys→xs[i]?=some x∧ys[i]?=some y,fun i H=>∃xs,SqT K H a xs∧xs.length≤i⟩
theorem aiw {P:Program} {w:World} {K:PySem.W.Frag} {elts:List Expr} {x1} {pos:Pos} (a b z TI TO i1 i2:Addr) (D:ZipApart z TI TO i1 i2 a b):
  Turn P w K (.Tuple elts x1 pos) (Itz K a b) [z,TI,TO,i1,i2] z (fun i h=>ZipSt h z TI TO i1 i2 a b i) where
 mem:=by simp
 obj:=fun i h st c hc=>by
  have cell_no:∀{v:Option Value} {ys:Array Value},Data.fields ys≠Data.cell v:=fun z=>by cases z
  have cell_no2:∀{v:Option Value} {ys:Array Value} {n:Nat},Data.seq ys n≠Data.cell v:=fun z=>by cases z
  have hc:c=z∨c=TI∨c=TO∨c=i1∨c=i2:=by simpa using hc
  obtain⟨hz,hTI,⟨u,v,hTO⟩,⟨o1,h1,_,d1⟩,⟨o2,h2,_,d2⟩⟩:=st
  rcases hc with rfl|rfl|rfl|rfl|rfl
  ·exact⟨_,hz,fun v=>cell_no⟩
  ·exact⟨_,hTI,fun v=>cell_no2⟩
  ·exact⟨_,hTO,fun v=>cell_no2⟩
  ·exact⟨o1,h1,fun v z=>cell_no (d1.symm.trans z)⟩
  ·exact⟨o2,h2,fun v z=>cell_no (d2.symm.trans z)⟩
 keep:=fun i h h' st k=>⟨k z (by simp) _ st.z,k TI (by simp) _ st.ti,let ⟨u,v,e⟩:=st.to;⟨u,v,k TO (by simp) _ e⟩,let ⟨o,e,r⟩:=st.i1;⟨o,k i1 (by simp) _ e,r⟩,let ⟨o,e,r⟩:=st.i2;⟨o,k i2 (by simp) _ e,r⟩⟩
 item:=by
  intro X hP hw hK hc i pins s σ H E I hf st hg
  subst hP hw hK
  obtain⟨xs,ys,x,y,hq,hq2,hx,hy⟩:=hg
  obtain⟨its,rv,p,hz⟩:=I.tuple hq
  obtain⟨its2,rv2,p2,hz2⟩:=I.list hq2
  obtain⟨u,hu,ru⟩:=rv.get hx
  obtain⟨u2,hu2,ru2⟩:=rv2.get hy
  refine ait D st (show s.heap.IsTuple a its.toArray from p) p2.isList (x:=u) (y:=u2) (by simpa using hu) (by simpa using hu2) fun h1 ez eto e1 e2 ht hsz kk=>?_
  refine⟨_,rfl,wpAny_letOwnedTupleGo_zip ez fun h2 en sb=>?_⟩
  have hT:H s.heap.objs.size=none:=I.hok.fresh (Nat.le_refl _)
  have lt:∀{c o},s.heap.get? c=some o→c≠s.heap.objs.size:=fun e=>Nat.ne_of_lt (Heap.lt_size e)
  have hzf:=lt st.z
  have hTIf:=lt st.ti
  have hTOf:=let ⟨_,_,e⟩:=st.to;lt e
  have h1f:=let ⟨_,e,_⟩:=st.i1;lt e
  have h2f:=let ⟨_,e,_⟩:=st.i2;lt e
  have ht2:h2.get? s.heap.objs.size=some {cls:=.type "tuple",data:=.seq #[u,u2]}:=(sb.2 _ (Ne.symm hzf)).trans ht
  have I1:Inv X pins σ (upd H s.heap.objs.size (.tup [x,y])) {s with heap:=s.heap.push {cls:=.type "tuple",data:=.seq #[u,u2]}}:=
   I.laid (t':=s.toks) (fun b o q=>Heap.get?_push_of_some _ q) (Nat.le_refl _) ⟨by show 2≤sizeLine;decide,[u,u2],.cons ru (.cons ru2 .nil),⟨_,Heap.get?_push_size _ rfl,rfl,_,rfl⟩⟩
  have hf1:∀c∈[z,TI,TO,i1,i2],FpOk X pins (upd H s.heap.objs.size (.tup [x,y])) c:=fun c hc=>by
   refine⟨?_,(hf c hc).2⟩
   have hc':c=z∨c=TI∨c=TO∨c=i1∨c=i2:=by simpa using hc
   rw[aa4 (by rcases hc' with rfl|rfl|rfl|rfl|rfl;exact hzf;exact hTIf;exact hTOf;exact h1f;exact h2f)]
   exact (hf c hc).1
  have I2:Inv X pins σ (upd H s.heap.objs.size (.tup [x,y])) {s with heap:=h2,toks:=s.toks}:=by
   have J:=Inv.turnedL (t':=s.toks) (h':=h2) (ch:=[z,TI,TO,i1,i2]) I1 ?k hf1
   ·exact J
   intro c o hc q
   dsimp only at q
   simp only[List.mem_cons,List.not_mem_nil,or_false,not_or] at hc
   rcases PySem.Heap.get?_push_cases q with ⟨rfl,rfl⟩|q
   ·exact ht2
   ·exact (sb.2 c hc.1).trans (kk c o hc.1 hc.2.2.1 hc.2.2.2.1 hc.2.2.2.2 q)
  refine⟨.ref s.heap.objs.size,_,I2,rfl,⟨_,x,y,rfl,hT,rfl,fun vs us h1 h2=>⟨by rw[I.tuple_inj h1 hq];exact hx,by rw[I.list_inj h2 hq2];exact hy⟩⟩,⟨en,sb.extBut _ _ D.TIz (kk _ _ D.TIz D.TITO D.TIi1 D.TIi2 st.ti),⟨_,_,sb.extBut _ _ D.TOz eto⟩,e1.extBut sb.extBut D.i1z,e2.extBut sb.extBut D.i2z⟩,fun b hb=>(hf1 b hb).1⟩
 done:=by
  intro X hP hw hK hc i pins s σ H E I hf st hg
  subst hP hw hK
  obtain⟨xs,hq,hx⟩:=hg
  obtain⟨its,rv,p,hz⟩:=I.tuple hq
  have hl:=rv.length
  refine aiu (I.ok.hd hc) D st (show s.heap.IsTuple a its.toArray from p) (by simp;omega) fun h' kk=>⟨rfl,?_⟩
  exact Inv.turnedL (t':=s.toks) (h':=h') (ch:=[z,i1]) I (fun c o hc q=>by
   simp only[List.mem_cons,List.not_mem_nil,or_false,not_or] at hc
   exact kk c o hc.1 hc.2 q) (fun c hc=>hf c (by
   have hc:c=z∨c=i1:=by simpa using hc
   rcases hc with rfl|rfl<;>simp))
 self:=fun _ _ _ _ _ st h=>wpAny_pyIter_zip st.z h
section
variable {X:Cx}
noncomputable def iZip (K:PySem.W.Frag) (ta:TA):TI:=fun σ H R=>ta σ H fun vs H1=>∃a b xs ys,vs=[.ref a,.ref b]∧SqT K H1 a xs∧SqL K H1 b ys∧R (Itz K a b) H1
theorem aix:bootBuiltins "zip"=some (.type "zip"):=by decide+kernel
theorem ahp (n a b:Nat) (ha:a < n) (hb:b < n):ZipApart (n+4) (n+2) (n+3) n (n+1) a b:=by
 constructor<;>(show ¬((_:Nat)=_))<;>omega
theorem zip_le (n c:Nat) (h:c=n+4∨c=n+2∨c=n+3∨c=n∨c=n+1):n≤c:=by omega
theorem ajh {e e2:Expr} {ta:TA} {p pos tpos:Pos} {elts:List Expr} {x1} (hg:Gl X "zip") (hm:X.mg "zip"=none) (ha:PA X [e,e2] ta) (hs:starEach [e,e2] X.env=(false,eval e X.env)::starEach [e2] X.env:=by rfl) (hp:(backTo pos (starEach [e2] X.env)).any (·.1)=false:=by rfl):
  PI X (.Tuple elts x1 tpos) (.Call (.Name "zip" p) [e,e2] [] pos) (iZip X.K ta):=by
 intro pins s σ H R I h
 refine Call_ (aei I hg hm aix (PyProof.Rows.callWith_type1 (thn (ha pos pins s σ H _ I h) fun us s1 ⟨vs,H1,I1,r1,q1⟩=>?_) hs hp))
 obtain⟨a,b,xs,ys,ev,hq,hq2,q⟩:=q1
 subst ev
 obtain⟨u,u2,rfl,ru,ru2⟩:∃u u2,us=[u,u2]∧RelV (.ref a) u∧RelV (.ref b) u2:=by
  cases r1 with
  |cons r rr=>
   cases rr with
   |cons r2 rr2=>cases rr2;exact⟨_,_,rfl,r,r2⟩
 cases ru
 cases ru2
 obtain⟨its,rv,pl,hz⟩:=I1.tuple hq
 obtain⟨its2,rv2,pl2,hz2⟩:=I1.list hq2
 have hta:a < s1.heap.objs.size:=let ⟨_,e,_⟩:=(show s1.heap.IsTuple a its.toArray from pl);Heap.lt_size e
 have htb:b < s1.heap.objs.size:=let ⟨_,e,_⟩:=pl2.isList;Heap.lt_size e
 refine aiv (show s1.heap.IsTuple a its.toArray from pl) pl2.isList fun h' st kk=>wpAny_pyIter_zip st.z ?_
 have I2:Inv X pins σ H1 {s1 with heap:=h'}:=I1.kept (t':=s1.toks) kk
 have D:=ahp s1.heap.objs.size a b hta htb
 refine⟨s1.heap.objs.size+4,[s1.heap.objs.size+4,s1.heap.objs.size+2,s1.heap.objs.size+3,s1.heap.objs.size,s1.heap.objs.size+1],_,_,H1,rfl,I2,aiw a b _ _ _ _ _ D,st,fun c hc=>?_,q⟩
 have hle:s1.heap.objs.size≤c:=by
  simp only[List.mem_cons,List.not_mem_nil,or_false] at hc
  exact zip_le _ c hc
 exact I1.fpOk hle (I1.hok.fresh hle)
end
theorem af1 {K:PySem.W.Frag} {a b:Addr} {xs ys:List V} {g:TG} {tt:TT} {te:TE} {h:HidC g tt te} {σ0:St} {D:Addr} {Q:Hp→Prop} {H:Hp} (Pv:Nat→List V→St→Hp→Prop) (hn:xs.length=ys.length) (h0:Pv 0 [] σ0 (upd H D (.lst []))) (hl:∀i zs σ H,i≤xs.length→Pv i zs σ H→SqT K H a xs∧SqL K H b ys)
  (hs:∀i x y t zs σ H,xs[i]?=some x→ys[i]?=some y→Pv i zs σ H→H t=none→g (.ref t) σ (upd H t (.tup [x,y])) fun σ2 H2=>tt σ2 H2 fun b H2'=>if b=true then te σ2 H2' fun v H3=>H3 D=some (.lst zs)∧zs.length < sizeLine∧Pv (i+1) (zs++[v]) σ2 (upd H3 D (.lst (zs++[v]))) else Pv (i+1) zs σ2 H2') (hd:∀zs σ H,Pv xs.length zs σ H→Q H):
  Comp g tt te h (Itz K a b) σ0 D Q H:=by
 refine⟨fun i m zs σ H=>i+m=xs.length∧Pv i zs σ H,⟨xs.length,Nat.zero_add _,h0⟩,fun i m zs σ H ⟨e,p⟩=>?_⟩
 obtain⟨hq,hq2⟩:=hl i zs σ H (by omega) p
 by_cases hi:i < xs.length
 ·have ex:xs[i]?=some xs[i]:=List.getElem?_eq_getElem hi
  have ey:ys[i]?=some (ys[i]'(by omega)):=List.getElem?_eq_getElem (by omega)
  refine .inr ⟨⟨xs,ys,_,_,hq,hq2,ex,ey⟩,Pv (i+1),fun zs σ H q=>⟨m - 1,by omega,by omega,q⟩,?_⟩
  rintro v H' ⟨t,x,y,rfl,ht,rfl,hy⟩
  exact hs i x y t zs σ H (hy xs ys hq hq2).1 (hy xs ys hq hq2).2 p ht
 ·have e':i=xs.length:=by omega
  subst e'
  exact .inl ⟨⟨xs,hq,Nat.le_refl _⟩,hd zs σ H p⟩
theorem aea (l:Addr) (items:Array Value) (n:Nat) (dd:Option Addr) (sl:Array (Option Value)) (x:Value) (e:Value→Bool) (j:Nat) (hj:j < items.size) (hit:e items[j]=true) (hno:∀m (hm:m < items.size),m < j→e items[m]=false):
  Meets (Builtin.«tuple.index» ⟨[.ref l,x],[]⟩)
   (fun A R s=>s.heap.get? l=some {cls:=.type "tuple",dict:=dd,data:=.seq items n,slots:=sl}∧(∀y,y∈items→SeqAt.EqAt A.in1 s y x (e y))∧R (.ok (.ret (.int j s.toks))) {s with toks:=s.toks+1}):=by
 intro prog w A R s h
 obtain⟨hl,he,h⟩:=h
 show wpAny _ _ (Builtin.Tuple.tupleItemsOf (.ref l) >>= _) _ _ s
 refine wpAny_bind (wpAny_tupleItemsOf hl rfl ?_)
 simp only[pure_bind]
 refine wpAny_bind ?_
 rw[Std.Legacy.Range.forIn_eq_forIn_range']
 have hsz:(List.range' ([:min items.size items.size]:Std.Legacy.Range).start ([:min items.size items.size]:Std.Legacy.Range).size ([:min items.size items.size]:Std.Legacy.Range).step)=List.range' 0 items.size 1:=by
  simp[Std.Legacy.Range.size]
 rw[hsz]
 refine wpAny_forIn_list _ (fun rest r s'=>r.1=none∧s'=s∧∃m,rest=List.range' m (items.size - m) 1∧m≤j) _ ?_ ?_ _ _ ⟨rfl,rfl,0,by simp,Nat.zero_le _⟩
 ·rintro i rest r s' ⟨hr,rfl,m,hm,hmj⟩
  obtain⟨k,hk⟩:∃k,items.size - m=k+1:=⟨items.size - m - 1,by omega⟩
  rw[hk,List.range'_succ] at hm
  obtain⟨rfl,rfl⟩:=List.cons.inj hm
  have hi:i < items.size:=by omega
  rw[Array.getElem?_eq_getElem hi]
  refine wpAny_bind (he _ (Array.getElem_mem hi) prog w _ _ ?_)
  by_cases c:i=j
  ·subst c
   rw[hit]
   simp only[if_true]
   refine wpAny_bind (wpAny_mono (show wpAny _ _ (retInt (i:Int)) _ (fun e s'=>R (.error e) s') _ from wpAny_ret_mkInt (Q:=fun v s2=>v=.int i s'.toks∧s2={s' with toks:=s'.toks+1}) ⟨rfl,rfl⟩) ?_ (fun _ _ z=>z))
   rintro _ _ ⟨v,rfl,rfl,rfl⟩
   exact wpAny_pure (wpAny_pure h)
  ·rw[hno i hi (by omega)]
   simp only[Bool.false_eq_true,if_false]
   exact wpAny_pure ⟨rfl,rfl,i+1,by rw[show items.size - (i+1)=k by omega],by omega⟩
 ·rintro r s' ⟨hr,rfl,m,hm,hmj⟩
  have:=congrArg List.length hm
  rw[List.length_range'] at this
  simp only[List.length_nil] at this
  omega
theorem ahq {X:Cx}:MtR X "tuple.index" (fun x vs H Q=>∃l xs y j,x=.ref l∧vs=[y]∧SqT X.K H l xs∧flatV y=true∧xs.all flatV=true∧xs.findIdx? (fun z=>eqV z y)=some j∧Q (.int j) H):=by
 intro pins s σ H x vs v us Q I rx rv h
 obtain⟨l,xs,y,j,rfl,rfl,hq,fy,fs,hj,q⟩:=h
 cases rx
 obtain⟨u,rfl,ru⟩:=rv.one
 obtain⟨its,r,pl,hz⟩:=I.tuple hq
 obtain⟨⟨cls,dd,data,sl⟩,ho,hc,n,hd⟩:=(show s.heap.IsTuple l its.toArray from pl)
 simp only at hc hd
 subst hc hd
 obtain⟨hjl,hit,hno⟩:=List.findIdx?_eq_some_iff_getElem.mp hj
 have hl:=r.length
 have eqx:∀m (h1:m < xs.length) (h2:m < its.length),eqU y its[m]=eqV xs[m] y:=fun m h1 h2=>ag1 (r.at m h1 h2) (List.all_eq_true.mp fs _ (List.getElem_mem h1))
 refine call_meets F.slot_tuple_index ⟨_,ho,rfl⟩ F.entry_tuple_index (F.args_tuple_index_2 _ _) (aea l its.toArray n dd sl u (eqU y) j (by simp;omega) ?_ ?_) ⟨ho,fun w hw=>ada ru fy r fs w (by simpa using hw),⟨.int j,H,I.tok _,⟨_,rfl⟩,q⟩⟩
 ·simp only[List.getElem_toArray]
  rw[eqx j hjl (by omega)]
  exact hit
 ·intro m hm hmj
  simp only[List.size_toArray] at hm
  simp only[List.getElem_toArray]
  rw[eqx m (by omega) hm]
  simpa using hno m hmj
end L2
namespace L2
open PySem PySem.Spec PyProof.Rows
section
variable {prog:Program} {w:World} {A:Around} {E:Value→Shared→Prop} {s:Shared}
end
section
variable {X:Cx}
end
end L2
namespace L2
open PySem PySem.Spec PyProof.Rows
section
variable {X:Cx} {pins:List (Addr×Obj)} {σ:List (Option V)} {H:Hp} {s:Shared} {a:Addr}
end
end L2
namespace L2
open PySem PySem.Spec PyProof.Rows
section
open PySem.W
noncomputable def In (p:Array Nat) (n:Nat):Prop:=0 < n∧∀x∈p.toList,x < n
theorem In.at {p:Array Nat} {n:Nat} (h:In p n) (i:Nat):p.getD i 0 < n:=by
 rw[Array.getD_eq_getD_getElem?]
 cases e:p[i]? with
 |none=>exact h.1
 |some x=>exact h.2 x (List.mem_of_getElem? (by rw[Array.getElem?_toList];exact e))
structure Od (lt:Nat→Nat→Bool) (n:Nat):Prop where
 tr:∀i j k,i < n→j < n→k < n→lt i j=true→lt j k=true→lt i k=true
 ir:∀i,i < n→lt i i=false
 to:∀i j,i < n→j < n→i≠j→lt i j=true∨lt j i=true
variable {lt:Nat→Nat→Bool} {n:Nat}
structure Pm (p:Array Nat) (n:Nat):Prop where
 sz:p.size=n
 lt:∀i,i < n→p.getD i 0 < n
 ne:∀i j,i < n→j < n→i≠j→p.getD i 0≠p.getD j 0
 pe:p.Perm (List.range n).toArray
noncomputable def Dn (lt:Nat→Nat→Bool) (p:Array Nat) (m:Nat):Prop:=∀i j,i < j→j < m→lt (p.getD j 0) (p.getD i 0)=true
end
end L2
namespace L2
open PySem PySem.Spec PyProof.Rows
section
variable {prog:Program} {w:World} {A:Around} {E:Value→Shared→Prop} {s:Shared}
end
end L2
namespace L2
open PySem PySem.Spec PyProof.Rows
end L2
namespace L2
open PySem PySem.Spec PyProof.Rows
section
variable {prog:Program} {w:World} {K:Type} [DecidableEq K] {knd:HeapKind prog w K} {A:Around} {E:Value→Shared→Prop} {s:Shared}
end
end L2
namespace L2
open PySem PySem.Spec PyProof.Rows
end L2
namespace L2
open PySem PySem.Spec PyProof.Rows
end L2
namespace L2
open PySem PySem.Spec PyProof.Rows
theorem wiped (B:Heap) (C:Addr):∃B':Heap,B'.get? C=none∧∀b,b≠C→B'.get? b=B.get? b:=by
 refine⟨{B with objs:=B.objs.setIfInBounds C {cls:=.none,dict:=none,data:=.freed}},?_,fun b hb=>?_⟩
 ·unfold Heap.get?
  by_cases h:C < B.objs.size<;>simp[h,Array.getElem?_setIfInBounds]
 ·unfold Heap.get?
  simp[Array.getElem?_setIfInBounds,Ne.symm hb]
theorem adw {h h' B B':Heap} {C:Addr} (k:∀b,b≠C→h'.get? b=h.get? b) (k0:B'.get? C=none) (kb:∀b,b≠C→B'.get? b=B.get? b):∀{l:List Env},h.FunFrames B l→C∉frs l→h'.FunFrames B' l
 |[],_,_=>trivial
 |env::r,⟨h1,⟨L,o,e,n,g,d⟩,h3⟩,hc=>by
  have hf:=acp (l:=r) e
  rw[hf] at hc
  have hL:L≠C:=fun z=>hc (by rw[z];exact List.mem_cons_self)
  exact⟨h1,⟨L,o,e,(kb L hL).trans n,(k L hL).trans g,d⟩,adw k k0 kb h3 fun z=>hc (List.mem_cons_of_mem _ z)⟩
theorem aiy {B h h':Heap} {l:List Env} {e C L:Addr} {cls a0:Value} {m:Str→Option Value} (R:Heap.HeldW B l e cls a0 L h) (hn:h.Ns C m) (hc:C∉frs l) (sb:Heap.SameBut C h h'):
  ∃B',B'.get? C=none∧(∀b,b≠C→B'.get? b=B.get? b)∧Heap.HeldW B' l e cls a0 L h':=by
 obtain⟨B',k0,kb⟩:=wiped B C
 obtain⟨f1,f2,f3,oe,vs,T,oT,ts,he,hcl,hd,h1,hnT,hTe,hT,hdT,h3⟩:=R
 obtain⟨oc,es,ep,ho,hdc,_⟩:=hn
 have nE:e≠C:=fun z=>by
  rw[z,ho] at he;cases he
  rw[hdc] at hd;cases hd
 have nT:T≠C:=fun z=>by
  rw[z,ho] at hT;cases hT
  rw[hdc] at hdT;cases hdT
 refine⟨B',k0,kb,fun b o q=>?_,(kb e nE).trans f2,adw (fun b hb=>sb.2 b hb) k0 kb f3 hc,oe,vs,T,oT,ts,(sb.2 e nE).trans he,hcl,hd,h1,(kb T nT).trans hnT,hTe,(sb.2 T nT).trans hT,hdT,h3⟩
 have hb:b≠C:=fun z=>by rw[z,k0] at q;cases q
 exact (sb.2 b hb).trans (f1 b o ((kb b hb).symm.trans q))
section
variable {M:Model} {A:Around} {E:Value→Shared→Prop} {s:Shared} {env:Env}
theorem afc {α:Type} {B:Heap} {l:List Env} {e L:Addr} {cls a0:Value} {what:String} {Q:α→Shared→Prop} (R:Heap.HeldW B l e cls a0 L s.heap) (hf:env.frame=some L) (h:E (.ref e) s):
  wpAny M A (passOn what (.ref e) env:Sem α) Q E s:=by
 obtain⟨_,_,_,oe,vs,T,oT,ts,he,hcl,hd,h1,hnT,hTe,hT,hdT,h3⟩:=R
 have hsz:3 < ts.size:=(Array.getElem?_eq_some_iff.mp h3).1
 have step:wpAny M A (do setFlight (.ref e) env.frame;throw (.ref e):Sem α) Q E s:=by
  rw[hf]
  unfold setFlight
  refine wpAny_bind (wpAny_bind (wpAny_field he hd h1 ?_))
  rw[if_pos (show (Value.ref T != Value.none)=true from by simp)]
  show wpAny M A (setField (.ref T) 3 (rawInt L)) _ _ s
  refine wpAny_setField hT hdT hsz ?_
  rw[Heap.update_setField_same s.heap T oT ts 3 (rawInt L) hT hdT h3]
  exact wpAny_throw h
 unfold PySem.passOn
 refine wpAny_bind (wpAny_field he hd h1 ?_)
 rw[if_neg (show ¬((Value.ref T == Value.none)=true) from by simp)]
 first
  |exact wpAny_bind (wpAny_pure step)
  |exact step
theorem aex {B:Heap} {l:List Env} {e L:Addr} {cls a0:Value} {Q:Unit→Shared→Prop} (R:Heap.HeldW B l e cls a0 L s.heap) (hf:env.frame=some L)
  (hQ:∀h',Heap.FlyingW B l e cls a0 h'→s.heap.UpToSlots h'→Q () {s with heap:=h'}):wpAny M A (leaving env (.ref e)) Q E s:=by
 obtain⟨_,_,_,oe,vs,T,oT,ts,he,hcl,hd,h1,hnT,hTe,hT,hdT,h3⟩:=id R
 unfold leaving
 exact wpAny_bind (wpAny_noteFrame_inFlight hf he hd h1 hT hdT h3 (wpAny_landsW R hQ))
end
structure Hld (B:Heap) (X:Cx) (H':Hp) (h':Heap) (ea:Addr) (cls:Value):Prop where
 fl:∃a0,Heap.HeldW B X.stack ea cls a0 X.env.locals h'
 trk:∀b u,H' b=some u→∃o,B.get? b=some o
 kept:∀b o,X.s₀.heap.get? b=some o→X.H₀ b=none→b∉X.fs→b∉X.ex→B.get? b=some o
 alive:∀b o,X.s₀.heap.get? b=some o→b∉X.fs→b∉X.ex→∃o',B.get? b=some o'
noncomputable def XWH (X:Cx) (K:XKs):Prop:=∀(pins:List (Addr×Obj)) (σ:St) (H':Hp) (s':Shared) (ea:Addr) (cls:Value) (B:Heap),Inv X pins σ H' s'→Hld B X H' s'.heap ea cls→K cls σ H'→X.xe (.ref ea) s'
theorem ahr {P:Program} {w:World} {K:PySem.W.Frag} {mg:Str→Option Value} {base:Heap} {N:List Str} {qual:Str} {scope:Scope} {f:Addr} {cd:Value} {A:Around} {outer:List Env} {s0:Shared} {H0:Hp} {E:XK}:
  XWH (cxOf (CXe P w) P w K mg base N qual scope f cd A outer s0 H0 E) (fun c _ H'=>E c none H'):=by
 intro pins σ H' s' ea cls B I hld hK
 obtain⟨a0,hh⟩:=hld.fl
 have hf:(envOfC qual scope s0.heap.objs.size f cd).frame=some s0.heap.objs.size:=rfl
 show wpAny _ _ (leaving (envOfC qual scope s0.heap.objs.size f cd) (.ref ea)) _ _ s'
 have hh:Heap.HeldW B (envOfC qual scope s0.heap.objs.size f cd::outer) ea cls a0 s0.heap.objs.size s'.heap:=hh
 refine aex hh hf fun h' fl up=>?_
 have fl':Heap.FlyingW B outer ea cls a0 h':=⟨fl.1,fl.2.1,fl.2.2.1.2.2,fl.2.2.2⟩
 have noA:∀b:Addr,b∉(cxOf (CXe P w) P w K mg base N qual scope f cd A outer s0 H0 E).ex:=fun b z=>absurd z (by simp[cxOf])
 have stay:∀b o,s0.heap.get? b=some o→H0 b=none→b∉frs outer→B.get? b=some o:=fun b o e n hb=>hld.kept b o e n hb (noA b)
 have live:∀b o,s0.heap.get? b=some o→b∉frs outer→∃o',B.get? b=some o':=fun b o e hb=>hld.alive b o e hb (noA b)
 have hfs:frs (envOfC qual scope s0.heap.objs.size f cd::outer)=s0.heap.objs.size::frs outer:=acp hf
 have slotOf:∀b,b∈frs outer→∀o,s'.heap.get? b=some o→∃sl,h'.get? b=some {o with slots:=sl}:=fun b hb o e=>by
  have hm:b∈frs (envOfC qual scope s0.heap.objs.size f cd::outer):=by rw[hfs];exact List.mem_cons_of_mem _ hb
  obtain⟨_,o',ho',hd⟩:=hh.2.2.1.mem hm
  rw[e] at ho';cases ho'
  exact up b o e hd
 refine⟨ea,cls,H',B,rfl,I.os,I.bare,?_,I.hok.flown hld.trk hh.1 fl'.1,⟨⟨a0,fl'⟩,hld.trk,stay,live⟩,hK⟩
 refine⟨fun b o e n hb _=>fl'.1 b o (stay b o e n hb),fun b o e n hb _=>?_,fun b o e n _=>I.base.free b o e n (noA b),fun b o e _=>?_,I.base.tups,I.base.frzs,I.base.tbls⟩
 ·obtain⟨sl,e1⟩:=I.base.slot b o e n hb (noA b)
  obtain⟨sl',e2⟩:=slotOf b hb _ e1
  exact⟨sl',e2⟩
 ·by_cases hb:b∈frs outer
  ·obtain⟨o1,e1⟩:=I.base.there b o e (noA b)
   obtain⟨sl,e2⟩:=slotOf b hb _ e1
   exact⟨_,e2⟩
  ·obtain⟨o1,e1⟩:=live b o e hb
   exact⟨o1,fl'.1 b o1 e1⟩
section
variable {M:Model} {A:Around} {E:Value→Shared→Prop} {s:Shared} {env:Env}
noncomputable def cpX (M:Model) (A:Around) (E:Value→Shared→Prop) (Q:Value→Shared→Prop) (acc:Value) (ce:Env) (r:Result) (s':Shared):Prop:=
 match r with
 |.ok _=>∃m,s'.heap.Ns ce.locals m∧∀h',Heap.SameBut ce.locals s'.heap h'→Q acc {s' with heap:=h'}
 |.error x=>∃m,s'.heap.Ns ce.locals m∧∀h',Heap.SameBut ce.locals s'.heap h'→wpAny M A (PySem.passOn "comprehension.variables-let-go" x ce:Sem Value) (fun _ _=>False) E {s' with heap:=h'}
theorem ahs {e:Expr} {scope:Scope} {pos:Pos} {newAcc first:Sem Value} {g:Comprehension} {gs:List Comprehension} {cl:List (Str×Addr)} {Q:Value→Shared→Prop}
  (hcl:clausesOf e=g::gs) (hs:∀x,foldedSetIterable g.iter env x=pure x) (hclos:closureFor scope env=pure cl) (hkind:scope.kind=.function) (hnames:∀x∈scope.names,x.2=.local→scope.names.lookup x.1=some .local)
  (h:wpAny M A first (fun x s₁=>wpAny M A (pyIter x) (fun it s₂=>wpAny M A newAcc (fun acc s₃=>wpAny M A (newFunctionEnv scope env.globals cl [] env.qual none .none (some env)) (fun cenv s₄=>
   codeAny M A (.compStart e 0 it acc {cenv with scope:=relabel scope env}) (cpX M A E Q acc {cenv with scope:=relabel scope env}) s₄) E s₃) E s₂) E s₁) E s):
  wpAny M A (comprehension e scope env pos newAcc false first none) Q E s:=by
 unfold comprehension
 rw[hclos,hcl]
 refine wpAny_bind (thn h fun x s₁ h₁=>wpAny_bind (wpAny_standAt (wpAny_bind (wpAny_of_eq (hs x) (wpAny_bind (wpAny_holding (thn h₁ fun it s₂ h₂=>
  wpAny_standIf (wpAny_bind (thn h₂ fun acc s₃ h₃=>wpAny_bind (wpAny_pure (wpAny_bind (thn h₃ fun cenv s₄ h₄=>?_))))))))))))
 dsimp only
 have hv:∀x∈(scope.names.filter fun x=>(x.2 == .local || x.2 == .cell)&&x.1 != (".0":Str)).reverse,x.2=.local→Env.kindOf {cenv with scope:=relabel scope env} x.1=some .local:=
  fun x hx hl=>lookup_relabel_local (hnames x (List.mem_filter.mp (List.mem_reverse.mp hx)).1 hl)
 refine wpAny_holding (wpAny_bind (wpAny_attempt (wpAny_holding (wpAny_run (codeAny_mono h₄ fun r s' hr=>?_)))))
 cases r with
 |ok f=>
  obtain⟨m,hn,hr⟩:=hr
  exact wpAny_bind (wpAny_holding (wpAny_comp_letGo (cenv:={cenv with scope:=relabel scope env}) hkind _ s' m hv hn fun h' m' _ hs'=>wpAny_pure (hr h' hs')))
 |error x=>
  obtain⟨m,hn,hr⟩:=hr
  exact wpAny_bind (wpAny_holding (wpAny_comp_letGo (cenv:={cenv with scope:=relabel scope env}) hkind _ s' m hv hn fun h' m' _ hs'=>wpAny_mono (hr h' hs') (fun _ _ f=>f.elim) fun _ _ y=>y))
end
section
variable {X:Cx}
theorem aka {K:XKs} {pins:List (Addr×Obj)} {σ:St} {scope:Scope} {cl:List (Str×Addr)} {C:Addr} {N:List Str} {s₀:Shared} {H₀ H:Hp} {fp:List Addr} {Q:Value→Shared→Prop} {acc:Value} (hX:XWH X K)
  (hst:X.stack=X.env::X.outer) (hfm:X.env.frame=some X.env.locals) (back:∀{xe pins' σ' H' s'},Inv (cxComp X scope cl C N s₀ H₀ fp xe) pins' σ' H' s'→Inv X pins σ H' s') (cfr:C∉frs X.stack) (csz:X.s₀.heap.objs.size≤C) (hC:FpOk X pins H C):
  XW (cxComp X scope cl C N s₀ H₀ fp (notedBy (model X.prog X.w) X.A (compEnvC scope cl C X.env) fun e s'=>cpX (model X.prog X.w) X.A X.xe Q acc (compEnvC scope cl C X.env) (.error e) s')) (fun c _ H'=>K c σ H'):=by
 intro pins2 σ2 H2 s2 s' ea cls H' B I2 os bare un hok fly hK
 have J2:Inv X pins σ H2 s2:=back I2
 have J':Inv X pins σ H' s':=J2.call' (s':=s') (ch:=[]) os un hok bare (fun b z=>absurd z (by simp))
 have I':=I2.call' (s':=s') (ch:=[]) os un hok bare (fun b z=>absurd z (by simp))
 have fly:Fly B X.stack s2.heap H2 H' s'.heap ea cls:=fly
 obtain⟨a0,hfl⟩:=id fly.fl
 have hfr:=J2.ok.frames
 rw[hst] at hfr hfl
 show wpAny (model X.prog X.w) X.A (noteFrame (.ref ea) X.env) _ _ s'
 refine wpAny_looks_onW hfr hfm hfl fun h4 held4 up4=>?_
 have J4:Inv X pins σ H' {s' with heap:=h4}:=Inv.flown J2 J' fly held4.1 up4
 obtain⟨m,hn,_⟩:=I'.loc
 have hn4:h4.Ns C m:=up4.ns hn
 have hC':H' C=none:=I'.free
 refine⟨m,hn4,fun h5 sb=>?_⟩
 rw[hst] at cfr
 obtain⟨B',k0,kb,R⟩:=aiy held4 hn4 cfr sb
 have nf:∀b o,X.s₀.heap.get? b=some o→b∉X.fs→b∉frs X.stack:=fun b o e hb z=>by
  rw[hst,acp hfm] at z
  rcases List.mem_cons.mp z with z|z
  ·exact absurd (Nat.lt_of_lt_of_le (Heap.lt_size e) J2.ok.above) (by rw[z];exact Nat.lt_irrefl _)
  ·exact hb z
 have nC:∀b o,X.s₀.heap.get? b=some o→b≠C:=fun b o e=>Nat.ne_of_lt (Nat.lt_of_lt_of_le (Heap.lt_size e) csz)
 refine afc (env:=compEnvC scope cl C X.env) (s:={s' with heap:=h5}) R hfm ?_
 refine hX pins σ H' _ ea cls B' (J4.turned (t':=s'.toks) (fun b o hb e=>(sb.2 b hb).trans e) hC' hC.2.1 (.inr csz) hC.2.2.2.2.1 hC.2.2.2.2.2) ⟨⟨a0,by rw[hst];exact R⟩,fun b u e=>?_,fun b o e n hb hx=>?_,fun b o e hb hx=>?_⟩ hK
 ·have nb:b≠C:=fun z=>by rw[z,hC'] at e;cases e
  obtain⟨o,q⟩:=fly.trk b u e
  exact⟨o,(kb b nb).trans q⟩
 ·exact (kb b (nC b o e)).trans (fly.kept b o (J2.base.keep b o e n hb hx) (J2.base.free b o e n hx) (nf b o e hb))
 ·obtain⟨o1,e1⟩:=J2.base.there b o e hx
  obtain⟨o2,e2⟩:=fly.alive b o1 e1 (nf b o e hb)
  exact⟨o2,(kb b (nC b o e)).trans e2⟩
theorem afd {pins:List (Addr×Obj)} {σ:St} {H2:Hp} {s2:Shared} {it:Addr} {fp:List Addr} {tn:Nat→Heap→Prop} {J:It} {tg iter elt:Expr} {ifs:List Expr} {scope:Scope} {cl:List (Str×Addr)} {pos:Pos} {x:Str} {xs fs:List Str} {ix:List Nat} {g:TG} {tt:TT} {te:TE}
  {Qf:Addr→Hp→Prop} {E:Value→Shared→Prop} {RR:Value→Env→Result→Shared→Prop} {Kx:XKs}
  (I2:Inv X pins σ H2 s2) (T:Turn X.prog X.w X.K tg J fp it tn) (st2:tn 0 s2.heap) (f2:∀b∈fp,FpOk X pins H2 b) (hc:X.calm=true) (S:CompSc scope X.env x fs)
  (c1:∀n c,cl.lookup n=some c→X.env.cells.lookup n=some c) (c2:∀n,(n,NameKind.free)∈scope.names→∃c,cl.lookup n=some c) (hix:ix.map (X.N[·]?)=fs.map some)
  (hg:∀C s₀ H₀ xe,PG (cxComp X scope cl C (xs++fs) s₀ H₀ fp xe) tg g) (hf:∀C s₀ H₀ xe,PF (cxComp X scope cl C (xs++fs) s₀ H₀ fp xe) ifs tt) (he:∀C s₀ H₀ xe,XW (cxComp X scope cl C (xs++fs) s₀ H₀ fp xe) Kx→PE (cxComp X scope cl C (xs++fs) s₀ H₀ fp xe) elt te)
  (hxw:∀D C s₀ H₀,(∀{xe pins' σ' H' s'},Inv (cxComp X scope cl C (xs++fs) s₀ H₀ fp xe) pins' σ' H' s'→Inv X pins σ H' s')→C∉frs X.stack→X.s₀.heap.objs.size≤C→(∃H,FpOk X pins H C)→
   XW (cxComp X scope cl C (xs++fs) s₀ H₀ fp (notedBy (model X.prog X.w) X.A (compEnvC scope cl C X.env) fun e s'=>RR (.ref D) (compEnvC scope cl C X.env) (.error e) s')) Kx)
  (h:∀D,H2 D=none→Comp g tt te .mk J (List.replicate xs.length none++ix.map fun i=>(σ[i]?).join) D (Qf D) H2)
  (fin:∀D C H' s',Inv X pins σ H' s'→Qf D H'→(∃m,s'.heap.Ns C m)→FpOk X pins H' C→RR (.ref D) (compEnvC scope cl C X.env) (.ok .next) s'):
  wpAny (model X.prog X.w) X.A (newList []) (fun acc s₃=>wpAny (model X.prog X.w) X.A (newFunctionEnv scope X.env.globals cl [] X.env.qual none .none (some X.env)) (fun cenv s₄=>
   codeAny (model X.prog X.w) X.A (.compStart (.ListComp elt [⟨tg,iter,ifs,0⟩] scope pos) 0 (.ref it) acc {cenv with scope:=relabel scope X.env}) (RR acc {cenv with scope:=relabel scope X.env}) s₄) E s₃) E s2:=by
 have hD:H2 s2.heap.objs.size=none:=I2.hok.fresh (Nat.le_refl _)
 obtain⟨W,⟨m0,w0⟩,turn⟩:=h _ hD
 refine wpAny_newObj_type (wpAny_newFunctionEnv S.nocell (by intro y hy;simp at hy) (fun h₁ hns₁ hsb₁=>?_) S.kind)
 have I3:Inv X pins σ (upd H2 s2.heap.objs.size (.lst [])) {s2 with heap:=s2.heap.push {cls:=.type "list",dict:=none,data:=.seq ([]:List Value).toArray}}:=
  I2.laid (t':=s2.toks) (fun b u e=>Heap.get?_push_of_some _ e) (Nat.le_refl _) ⟨by decide,[],0,.nil,Heap.get?_push_size _ rfl⟩
 obtain⟨e3,he3⟩:∃s3:Shared,s3={s2 with heap:=s2.heap.push {cls:=.type "list",dict:=none,data:=.seq ([]:List Value).toArray}}:=⟨_,rfl⟩
 rw[←he3] at I3
 have hh3:s2.heap.push {cls:=.type "list",dict:=none,data:=.seq ([]:List Value).toArray}=e3.heap:=by rw[he3]
 have sz3:e3.heap.objs.size=s2.heap.objs.size+1:=by rw[←hh3,Heap.size_push]
 dsimp only at hns₁ hsb₁ ⊢
 rw[hh3] at hns₁ hsb₁ ⊢
 generalize hH3:upd H2 s2.heap.objs.size (.lst [])=H3 at *
 have live:∀b∈fp,b < s2.heap.objs.size:=fun b hb=>let ⟨_,e,_⟩:=T.obj _ _ st2 b hb;Heap.lt_size e
 have f3:∀b∈fp,FpOk X pins H3 b:=fun b hb=>by
  refine⟨?_,(f2 b hb).2⟩
  rw[←hH3,aa4 (Nat.ne_of_lt (live b hb))]
  exact (f2 b hb).1
 have C0:FpOk X pins H3 e3.heap.objs.size:=I3.fpOk (Nat.le_refl _) (I3.hok.fresh (Nat.le_refl _))
 have old3:∀b o,e3.heap.get? b=some o→h₁.get? b=some o:=fun b o e=>hsb₁.extBut b o (Nat.ne_of_lt (Heap.lt_size e)) (Heap.get?_push_of_some _ e)
 have nofs:∀b∈fp,b∉frs X.stack:=fun b hb z=>(List.mem_cons.mp (I3.stkSub b z)).elim (f3 b hb).2.1 (f3 b hb).2.2.1
 have hst1:tn 0 h₁:=T.keep _ _ _ st2 fun b _ o e=>old3 b o (by rw[←hh3];exact Heap.get?_push_of_some _ e)
 have e0:=I3.env0
 have ok:∀xe,(cxComp X scope cl e3.heap.objs.size (xs++fs) e3 H3 fp xe).Ok:=fun xe=>by
  refine⟨I3.ok.mod,S.kind,I3.ok.glob,I3.ok.blt,Nat.le_refl _,fun y z c h1 h2=>I3.ok.inj y z c (c1 _ _ h1) (c1 _ _ h2),fun y hy=>?_,fun y c z=>?_,I3.ok.hd,I3.ok.frames,.inl rfl,fun b hb=>⟨?_,fun y c e=>(f3 b hb).2.2.2.2.1 y c (c1 _ _ e)⟩,e0.bs,e0.bsz,fun b o e hb=>?_,nofs,e0.funs,e0.frf⟩
  ·have q:scope.names.lookup y=some .free∨scope.names.lookup y=some .cell:=by
    rcases hy with hy|hy
    ·exact abv hy (.inl rfl)
    ·exact abv hy (.inr rfl)
   rcases q with q|q
   ·exact c2 y (PySem.mem_of_lookup q)
   ·exact absurd rfl (S.nocell _ (PySem.mem_of_lookup q))
  ·cases z
  ·exact Nat.ne_of_lt (Nat.lt_of_lt_of_le (live b hb) (by rw[sz3];exact Nat.le_succ _))
  ·rcases (f3 b hb).2.2.2.1 with z|z
   ·exact I3.ok.noex b o e z
   ·exact absurd (Nat.lt_of_lt_of_le (Heap.lt_size e) (Nat.le_trans I3.ok.bsz z)) (Nat.lt_irrefl _)
 have cellUp:∀c v,e3.heap.IsCell c v→h₁.IsCell c v:=fun c v ⟨o,ho,hd⟩=>⟨o,old3 _ _ ho,hd⟩
 have J0:∀xe,Inv (cxComp X scope cl e3.heap.objs.size (xs++fs) e3 H3 fp xe) [] (List.replicate xs.length none++ix.map fun i=>(σ[i]?).join) H3 {e3 with heap:=h₁,toks:=e3.toks+([]:List (Str×Value)).length}:=fun xe=>by
  have hk:∀b o,e3.heap.get? b=some o→h₁.get? b=some o:=old3
  refine⟨ok xe,rfl,I3.bare,Un.kept hk,⟨_,hns₁,fun i y v h1 h2 h3=>?_⟩,fun y c e=>?_,I3.hok.fresh (Nat.le_refl _),fun y c e=>I3.freeC y c (c1 _ _ e),fun p hp=>absurd (show p∈([]:List (Addr×Obj)) from hp) (by simp),I3.hok.kept hk,?_⟩
  ·by_cases hlt:i < xs.length
   ·have h2:(List.replicate xs.length (none:Option V)++ix.map fun i=>(σ[i]?).join)[i]?=some (some v):=h2
    rw[List.getElem?_append_left (by rw[List.length_replicate];exact hlt)] at h2
    have z:=List.eq_of_mem_replicate (List.mem_of_getElem? h2)
    cases z
   ·have h1:(xs++fs)[i]?=some y:=h1
    have h2:(List.replicate xs.length (none:Option V)++ix.map fun i=>(σ[i]?).join)[i]?=some (some v):=h2
    rw[List.getElem?_append_right (by omega)] at h1
    rw[List.getElem?_append_right (by rw[List.length_replicate];omega),List.length_replicate] at h2
    generalize i - xs.length=i at h1 h2
    have hy:=S.fs y (List.mem_of_getElem? h1)
    rw[List.getElem?_map] at h2
    cases ej:ix[i]? with
    |none=>rw[ej] at h2;cases h2
    |some j=>
     rw[ej] at h2
     have h2:(σ[j]?).join=some v:=Option.some.inj h2
     have hσ:σ[j]?=some (some v):=by
      cases q:σ[j]? with
      |none=>rw[q] at h2;cases h2
      |some o=>rw[q] at h2;cases o with
       |none=>cases h2
       |some o=>cases h2;rfl
     have hN:X.N[j]?=some y:=by
      have z:=congrArg (·[i]?) hix
      simp only[List.getElem?_map,ej,h1,Option.map_some] at z
      exact Option.some.inj z
     have kf:=S.fr _ (PySem.mem_of_lookup hy) rfl
     obtain⟨m,hn,hl⟩:=I3.loc
     obtain⟨u,r,l⟩:=hl j y v hN hσ (by rcases kf with k|k;exact .inr (.inl k);exact .inr (.inr k))
     refine⟨u,r,.inr ⟨acf hy,?_⟩⟩
     rcases l with ⟨l,_⟩|⟨_,c,e,z⟩
     ·rcases kf with k|k<;>(rw[l] at k;cases k)
     ·obtain⟨c',e'⟩:=c2 y (PySem.mem_of_lookup hy)
      have q:=c1 _ _ e'
      rw[e] at q;cases q
      exact⟨c,e',cellUp _ _ z⟩
  ·obtain⟨v,z⟩:=I3.cell y c (c1 _ _ e)
   exact⟨v,cellUp _ _ z⟩
  ·have z:=congrArg List.length hix
   simp only[List.length_map] at z
   show (List.replicate xs.length none++_:St).length=(xs++fs).length
   rw[List.length_append,List.length_append,List.length_replicate,List.length_map,z]
 have back:∀{xe pins' σ' H' s'},Inv (cxComp X scope cl e3.heap.objs.size (xs++fs) e3 H3 fp xe) pins' σ' H' s'→Inv X pins σ H' s':=fun {xe pins' σ' H' s'} J=>
  I3.call' (s':=s') (ch:=fp) J.os J.base J.hok J.bare fun b hb=>⟨(f3 b hb).2.2.2.1,(f3 b hb).2.1,(f3 b hb).2.2.2.2.1,(f3 b hb).2.2.2.2.2⟩
 have stat:∀{xe} {H':Hp},(∀b∈fp,H' b=none)→∀b∈fp,FpOk (cxComp X scope cl e3.heap.objs.size (xs++fs) e3 H3 fp xe) [] H' b:=fun {xe H'} hn b hb=>
  ⟨hn b hb,Nat.ne_of_lt (Nat.lt_of_lt_of_le (live b hb) (by rw[sz3];exact Nat.le_succ _)),nofs b hb,.inl hb,fun y c e=>(f3 b hb).2.2.2.2.1 y c (c1 _ _ e),fun p hp=>absurd (show p∈([]:List (Addr×Obj)) from hp) (by simp)⟩
 have loop:∀s4:Shared,s4={e3 with heap:=h₁,toks:=e3.toks+([]:List (Str×Value)).length}→
   codeAny (model X.prog X.w) X.A (.compLoop (.ListComp elt [⟨tg,iter,ifs,0⟩] scope pos) 0 (.ref it) (.ref s2.heap.objs.size) (compEnvC scope cl e3.heap.objs.size X.env)) (RR (.ref s2.heap.objs.size) (compEnvC scope cl e3.heap.objs.size X.env)) s4:=by
  rintro s4 rfl
  let xe:=notedBy (model X.prog X.w) X.A (compEnvC scope cl e3.heap.objs.size X.env) fun e s'=>RR (.ref s2.heap.objs.size) (compEnvC scope cl e3.heap.objs.size X.env) (.error e) s'
  refine acq (fun n s'=>∃i ys σ' H',Inv (cxComp X scope cl e3.heap.objs.size (xs++fs) e3 H3 fp xe) [] σ' H' s'∧tn i s'.heap∧(∀b∈fp,H' b=none)∧W i n ys σ' H') ?_ m0 ⟨0,[],_,_,J0 xe,hst1,fun b hb=>(f3 b hb).1,w0⟩
  have xw:XW (cxComp X scope cl e3.heap.objs.size (xs++fs) e3 H3 fp xe) Kx:=hxw s2.heap.objs.size e3.heap.objs.size e3 H3 back (fun z=>(List.mem_cons.mp (I3.stkSub _ z)).elim C0.2.1 C0.2.2.1) (Nat.le_trans I3.sz (Nat.le_refl _)) ⟨_,C0⟩
  rintro n s5 ⟨i,ys,σ5,H5,J5,st5,fr5,w5⟩
  rcases turn i n ys σ5 H5 w5 with ⟨stop,qn⟩|⟨go,N,hN,step⟩
  ·refine thn (T.done (cxComp X scope cl e3.heap.objs.size (xs++fs) e3 H3 fp xe) rfl rfl rfl hc i [] s5 σ5 H5 xe J5 (stat fr5) st5 stop) fun r s6 ⟨hr,J6⟩=>?_
   subst hr
   obtain⟨m,hn,_⟩:=J6.loc
   exact fin _ _ H5 s6 (back J6) qn ⟨m,hn⟩ ⟨J6.free,C0.2⟩
  ·refine thn (T.item (cxComp X scope cl e3.heap.objs.size (xs++fs) e3 H3 fp xe) rfl rfl rfl hc i [] s5 σ5 H5 xe J5 (stat fr5) st5 go) fun r s6 ⟨u,hr,h6⟩=>?_
   subst hr
   refine thn h6 fun _ s7 ⟨y,H7,J7,r7,y7,st7,fr7⟩=>?_
   have J7':=J7.pinned (stat fr7) (T.obj _ _ st7)
   refine thn (hg _ _ _ xe _ s7 σ5 H7 y u _ J7' r7 (step y H7 y7)) fun _ s8 ⟨σ8,H8,J8,q8⟩=>?_
   refine thn (hf _ _ _ xe _ s8 σ8 H8 _ J8 q8) fun ok s8' ⟨H8',J8',q8'⟩=>?_
   cases ok with
   |false=>
    obtain⟨m',hm',w9⟩:=hN _ _ _ (by simpa using q8')
    refine⟨m',hm',i+1,ys,σ8,_,J8'.unpinned,T.keep _ _ _ st7 fun b hb o e=>(J8'.pin (b,o) (List.mem_append_right _ (List.mem_append_right _ (aa8 hb e)))).1,fun b hb=>?_,w9⟩
    obtain⟨o,e,d⟩:=T.obj _ _ st7 b hb
    exact (J8'.pin (b,o) (List.mem_append_right _ (List.mem_append_right _ (aa8 hb e)))).2.1
   |true=>
   rw[if_pos rfl] at q8' ⊢
   refine thn (he _ _ _ xe xw _ s8' σ8 H8' _ J8' q8') fun uv s9 ⟨v,H9,J9,r9,hD9,hl9,n9⟩=>?_
   obtain⟨m',hm',w9⟩:=hN _ _ _ n9
   refine thn (adg (X:=cxComp X scope cl e3.heap.objs.size (xs++fs) e3 H3 fp xe) _ s9 σ8 H9 (.ref s2.heap.objs.size) [v] _ [uv] (fun _ H'=>H'=upd H9 s2.heap.objs.size (.lst (ys++[v]))) J9 rfl (.cons r9 .nil) ⟨_,ys,v,rfl,rfl,hD9,hl9,rfl⟩) fun _ s10 ⟨_,H10,J10,_,eH⟩=>?_
   subst eH
   refine⟨m',hm',i+1,ys++[v],σ8,_,J10.unpinned,T.keep _ _ _ st7 fun b hb o e=>(J10.pin (b,o) (List.mem_append_right _ (List.mem_append_right _ (aa8 hb e)))).1,fun b hb=>?_,w9⟩
   obtain⟨o,e,d⟩:=T.obj _ _ st7 b hb
   exact (J10.pin (b,o) (List.mem_append_right _ (List.mem_append_right _ (aa8 hb e)))).2.1
 subst he3
 exact codeAny_compStart_list (loop _ rfl) (T.self X.A 0 _ _ _ hst1 (loop _ rfl))
inductive HidX (g:TG) (tt:TT) (te:XKs→TE):Type where
 |mk:HidX g tt te
noncomputable def tCompX (Kx:XKs) (wi:TI) (k:Nat) (ix:List Nat) (g:TG) (tt:TT) (te:XKs→TE) (_:HidX g tt te):TE:=fun σ H Q=>wi σ H fun J H1=>∀D,H1 D=none→Comp g tt (te fun c _ H'=>Kx c σ H') .mk J (List.replicate k none++ix.map fun i=>(σ[i]?).join) D (fun H'=>Q (.ref D) H') H1
theorem af2 {tg iter elt:Expr} {ifs:List Expr} {scope:Scope} {pos:Pos} {x:Str} {xs fs:List Str} {ix:List Nat} {wi:TI} {g:TG} {tt:TT} {te:XKs→TE} {Kx:XKs} (hX:XWH X Kx) (hc:X.calm=true) (hi:PI X tg iter wi) (hk:compChk scope X.env x fs=true) (hix:ix.map (X.N[·]?)=fs.map some)
  (hg:∀cl C s₀ H₀ fp xe,PG (cxComp X scope cl C (xs++fs) s₀ H₀ fp xe) tg g) (hf:∀cl C s₀ H₀ fp xe,PF (cxComp X scope cl C (xs++fs) s₀ H₀ fp xe) ifs tt)
  (he:∀cl C s₀ H₀ fp xe K',XW (cxComp X scope cl C (xs++fs) s₀ H₀ fp xe) K'→PE (cxComp X scope cl C (xs++fs) s₀ H₀ fp xe) elt (te K')) (hs:∀x,foldedSetIterable iter X.env x=pure x:=by intro _;rfl)
  (hst:X.stack=X.env::X.outer:=by rfl) (hfm:X.env.frame=some X.env.locals:=by rfl):PE X (.ListComp elt [⟨tg,iter,ifs,0⟩] scope pos) (tCompX Kx wi xs.length ix g tt te .mk):=by
 intro pins s σ H Q I h
 have S:=CompSc.of hk
 obtain⟨cl,hcl,c1,c2⟩:=S.clos I
 rw[eval_ListComp]
 refine ahs rfl hs hcl S.kind S.own (thn (hi pins s σ H _ I h) fun v s1 h1=>thn h1 fun itv s2 h2=>?_)
 obtain⟨it,fp,tn,J,H2,e,I2,T,st2,f2,q⟩:=h2
 subst e
 refine afd (xs:=xs) (RR:=fun acc ce=>cpX (model X.prog X.w) X.A X.xe (EP X pins σ Q) acc ce) (Kx:=fun c _ H'=>Kx c σ H') I2 T st2 f2 hc S c1 c2 hix (fun C s₀ H₀ xe=>hg cl C s₀ H₀ fp xe) (fun C s₀ H₀ xe=>hf cl C s₀ H₀ fp xe) (fun C s₀ H₀ xe=>he cl C s₀ H₀ fp xe _)
  (fun D C s₀ H₀ back cfr csz ⟨_,hC⟩=>aka hX hst hfm back cfr csz hC) q fun D C H' s' I' q' ⟨m,hn⟩ ⟨f0,f1,_,f3,f4,f5⟩=>?_
 exact⟨m,hn,fun h' hs'=>⟨.ref D,H',I'.turned (t':=s'.toks) (fun b o hb e=>(hs'.2 b hb).trans e) f0 f1 f3 f4 f5,rfl,q'⟩⟩
end
noncomputable def repS (a:Str) (n:Int):Str:=⟨(List.replicate n.toNat a.cps).foldl (·++·) #[]⟩
theorem af3:∀(n:Nat) (x acc:Array Nat),((List.replicate n x).foldl (·++·) acc).toList=acc.toList++(List.replicate n x.toList).flatten
 |0,x,acc=>by simp
 |n+1,x,acc=>by
  rw[List.replicate_succ,List.foldl_cons,af3 n x,List.replicate_succ,List.flatten_cons,Array.toList_append,List.append_assoc]
theorem aey (a:Str) (n:Int):(repS a n).cps.toList=(List.replicate n.toNat a.cps.toList).flatten:=by
 unfold repS
 rw[af3]
 rfl
theorem aeb (a:Str) (n:Int):(repS a n).length=n.toNat * a.length:=by
 have e:=congrArg List.length (aey a n)
 rw[Array.length_toList,List.length_flatten,List.map_replicate,List.sum_replicate_nat,Array.length_toList] at e
 exact e
noncomputable def rRepS:R2:=fun x y H Q=>∃(a:Str) (n:Int),x=.str a∧y=.int n∧2≤n∧n≤100∧1≤a.length∧a.length≤1000∧Q (.str (repS a n)) H
theorem akb {X:Cx}:OpR X (binaryOp .Mult) rRepS:=by
 intro pins s σ H x y v u Q I rx ry h
 obtain⟨a,n,rfl,rfl,h1,h2,h3,h4,q⟩:=h
 obtain⟨t,rfl⟩:=rx
 obtain⟨t2,rfl⟩:=ry
 have hm:a.length * n.toNat≤1000 * 100:=Nat.mul_le_mul h4 (by omega)
 have hd:(1000:Int)≤(2 ^ 63 - 1) / n:=Int.le_ediv_of_mul_le (by omega) (by omega)
 have hz:=sizeLine_eq
 refine PySem.P.mul_str ?_ (fun _ _=>by omega) (fun _ _=>?_) ?_
 ·rw[decide_eq_false (by omega),decide_eq_false (by omega)];rfl
 ·simp[Builtin.Str.tooLong];omega
 ·rw[if_neg (by omega),if_neg (by simp;omega)]
  refine⟨?_,.str (repS a n),H,I.tok _,⟨_,rfl⟩,q⟩
  show (repS a n).length≤_
  rw[aeb,Nat.mul_comm]
  exact Nat.le_trans hm (by decide)
end L2
set_option hygiene false in
local macro_rules| `(tactic|walk_at "wp")=> `(tactic|simp only[↓L2.rI0_ii, ↓L2.rI_ii, ↓L2.ex_int, ↓L2.ex_bl, ↓L2.ex_ref,L2.tSeq,L2.tNext,L2.tAsg,L2.gName,L2.tRet,L2.tDrop,L2.tIfS,L2.tTest,L2.tB,L2.tOp,L2.tUn,L2.tVar,L2.tVarM,L2.tC,L2.rI,L2.rI0,L2.rU,L2.tAnd,L2.tOr,L2.tNot,L2.tAndV,L2.tCallE,L2.tCB,L2.tCons,L2.tNil,L2.tChain,L2.tLst,L2.tTup,L2.rIxL,L2.rIxT,L2.rSlT,L2.rCatT,L2.rIn,L2.tRaise,L2.rEq,L2.rNe,L2.start,L2.CDiv,L2.CPow,L2.cxOf_K,L2.aj9,L2.rCatS,L2.aj3,L2.aj4,L2.aj5,L2.rIxH,L2.ail,L2.aim,L2.aaj,L2.HO.ins.injEq,L2.tTryAs,L2.rCat,L2.rSlL,L2.tSl,L2.tPart,L2.tNoPart,L2.ad8,L2.aj6,L2.tForE,L2.iRng1,L2.iList,L2.iTup,L2.iZip,L2.gTup,L2.gNil,L2.gCons,L2.tBM,L2.rAppend,L2.gSub,L2.rSetL,L2.tComp,L2.iStr,L2.tYes,Option.join_some,Option.join_none,PySem.sizeLine_eq,Nat.reduceLeDiff,eq_self,decide_eq_true_eq,
 List.map_cons,List.map_nil,List.length_cons,List.length_nil,List.cons_append,List.nil_append,List.append_nil,List.replicate,Nat.reduceSub,Nat.reduceAdd,List.getElem?_cons_zero,List.getElem?_cons_succ,List.set_cons_zero,List.set_cons_succ,
 Option.some.injEq,List.cons.injEq,L2.V.int.injEq,L2.V.bl.injEq,L2.V.ref.injEq,L2.V.ty.injEq,L2.V.str.injEq,exists_eq_left,exists_eq_left',exists_and_left,exists_eq',exists_const,and_assoc,and_true,true_and, ↓reduceIte,Int.reduceLE,Int.reduceLT,Nat.reducePow,Int.reducePow,Int.reduceNeg,L2.na10,Nat.reduceLT,Int.reduceToNat,Int.reduceAdd,Int.reduceMul,Int.reduceSub,true_or,or_true,decide_true,decide_false])
namespace Pf
open PySem L2
noncomputable def top (i:Nat):Stmt:=PySem.Challenge.pw_frameland_k97_bad_rows.main.body.getD i (.Pass ⟨0,0,0,0⟩)
noncomputable abbrev abh:Stmt:=top 21
theorem aez:FnScope ["word"] ["word"] (defScope abh):=⟨rfl,rfl,rfl,by decide+kernel,rfl,by decide+kernel,by decide+kernel⟩
noncomputable abbrev aa6:Stmt:=top 22
theorem adp:FnScope ["word"] ["word"] (defScope aa6):=⟨rfl,rfl,rfl,by decide+kernel,rfl,by decide+kernel,by decide+kernel⟩
noncomputable abbrev aa9:Stmt:=top 23
theorem acr:FnScope ["word","number"] ["word"] (defScope aa9):=⟨rfl,rfl,rfl,by decide+kernel,rfl,by decide+kernel,by decide+kernel⟩
noncomputable abbrev aa7:Stmt:=top 24
theorem adq:FnScope ["word"] ["word"] (defScope aa7):=⟨rfl,rfl,rfl,by decide+kernel,rfl,by decide+kernel,by decide+kernel⟩
noncomputable abbrev abi:Stmt:=top 25
theorem ae0:FnScope ["kind","word"] ["kind","word"] (defScope abi):=⟨rfl,rfl,rfl,by decide+kernel,rfl,by decide+kernel,by decide+kernel⟩
noncomputable abbrev ab1:Stmt:=top 20
theorem adx:FnScope ["first_word","length","form"] ["first_word","length"] (defScope ab1):=⟨rfl,rfl,rfl,by decide+kernel,rfl,by decide+kernel,by decide+kernel⟩
noncomputable abbrev abq:Stmt:=top 26
theorem aba:FnScope ["text","words","form","deed"] ["text"] (defScope abq):=⟨rfl,rfl,rfl,by decide+kernel,rfl,by decide+kernel,by decide+kernel⟩
noncomputable abbrev abj:Stmt:=top 28
theorem ae1:FnScope ["_law_script","_law_k"] ["_law_script","_law_k"] (defScope abj):=⟨rfl,rfl,rfl,by decide+kernel,rfl,by decide+kernel,by decide+kernel⟩
noncomputable abbrev ab7:Stmt:=top 29
theorem acs:FnScope ["_law_cell","_law_forms"] ["_law_cell"] (defScope ab7):=⟨rfl,rfl,rfl,by decide+kernel,rfl,by decide+kernel,by decide+kernel⟩
noncomputable abbrev ab8:Stmt:=top 30
theorem adi:FnScope ["_law_cell","_law_some"] ["_law_cell"] (defScope ab8):=⟨rfl,rfl,rfl,by decide+kernel,rfl,by decide+kernel,by decide+kernel⟩
noncomputable abbrev ab2:Stmt:=top 31
theorem ady:FnScope ["_law_sign_here","_law_cell","_law_barred","_law_other_here"] ["_law_sign_here","_law_cell","_law_barred"] (defScope ab2):=⟨rfl,rfl,rfl,by decide+kernel,rfl,by decide+kernel,by decide+kernel⟩
noncomputable abbrev ab9:Stmt:=top 32
theorem adj:FnScope ["_law_cell","_law_kind","_law_number"] ["_law_cell","_law_kind"] (defScope ab9):=⟨rfl,rfl,rfl,by decide+kernel,rfl,by decide+kernel,by decide+kernel⟩
noncomputable abbrev acm:Stmt:=top 33
theorem aiz:FnScope ["_law_word_here","_law_at","_law_sign_here"] ["_law_word_here","_law_at","_law_sign_here"] (defScope acm):=⟨rfl,rfl,rfl,by decide+kernel,rfl,by decide+kernel,by decide+kernel⟩
noncomputable abbrev abk:Stmt:=top 38
theorem ac7:FnScope ["_law_row","e"] ["_law_row"] (defScope abk):=⟨rfl,rfl,rfl,by decide+kernel,rfl,by decide+kernel,by decide+kernel⟩
noncomputable abbrev acn:Stmt:=top 36
theorem adc:FnScope ["_law_cell","_law_odd_here"] ["_law_cell"] (defScope acn):=⟨rfl,rfl,rfl,by decide+kernel,rfl,by decide+kernel,by decide+kernel⟩
noncomputable abbrev aat:Stmt:=top 35
theorem abo:FnScope ["_law_word_here","_law_cell","_law_at","_law_menu"] ["_law_word_here","_law_cell"] (defScope aat):=⟨rfl,rfl,rfl,by decide+kernel,rfl,by decide+kernel,by decide+kernel⟩
noncomputable abbrev aau:Stmt:=top 34
theorem ab3:FnScope ["_law_word_here","_law_kind","_law_way","_law_cell","_law_at"] ["_law_word_here","_law_kind","_law_way","_law_cell"] (defScope aau):=⟨rfl,rfl,rfl,by decide+kernel,rfl,by decide+kernel,by decide+kernel⟩
noncomputable abbrev abr:Stmt:=top 37
theorem abb:FnScope ["_law_words","_law_kinds","_law_way","_law_cell","_law_row","_law_numbers","_law_at","_law_made"] ["_law_words","_law_kinds","_law_way","_law_cell"] (defScope abr):=⟨rfl,rfl,rfl,by decide+kernel,rfl,by decide+kernel,by decide+kernel⟩
noncomputable abbrev afe:Stmt:=top 39
theorem ac8:FnScope ["_law_script","_law_word_here","_law_kinds","_law_words","_law_k","_law_row","_law_cell","_law_lead"] ["_law_script"] (defScope afe):=⟨rfl,rfl,rfl,by decide+kernel,rfl,by decide+kernel,by decide+kernel⟩
structure Adr where
 C_FrameError:Addr
 C_NoRow:Addr
 C_NoShape:Addr
 C_OutOfRoom:Addr
 C_BadRights:Addr
 C_NoTask:Addr
 C_NoBank:Addr
 C_OutOfBank:Addr
 C_Taken:Addr
 C_NotMapped:Addr
 C_NoRight:Addr
 C_NoRoom:Addr
 C_Busy:Addr
 C_RIGHTS:Addr
 C_FORMS:Addr
 C_FORMS_0:Addr
 C_FORMS_1:Addr
 C_FORMS_2:Addr
 C_FORMS_3:Addr
 C_FORMS_4:Addr
 C_FORMS_5:Addr
 C_FORMS_6:Addr
 C_FORMS_7:Addr
 C_FORMS_8:Addr
 C_FORMS_9:Addr
 C_FORMS_10:Addr
 C_FORMS_11:Addr
 C_FORMS_12:Addr
 C_FORMS_13:Addr
 C_FORMS_14:Addr
 C_NO_BANK:Addr
structure Txt (K:PySem.W.Frag) (mg:Str→Option Value) (A:Adr):Prop where
 b_ValueError:mg "ValueError"=none
 b_all:mg "all"=none
 b_int:mg "int"=none
 b_isinstance:mg "isinstance"=none
 b_len:mg "len"=none
 b_list:mg "list"=none
 b_range:mg "range"=none
 b_str:mg "str"=none
 b_tuple:mg "tuple"=none
 b_zip:mg "zip"=none
 c_FIGURES:∃u,mg "FIGURES"=some u∧RelV (.str "0123456789") u
 c_MOST_FIGURES:∃u,mg "MOST_FIGURES"=some u∧RelV (.int 60) u
 c_RIGHTS:∃u,mg "RIGHTS"=some u∧RelV (.ref A.C_RIGHTS) u
 q_RIGHTS:∀H,SqT K H A.C_RIGHTS [V.str "--",V.str "r-",V.str "-w",V.str "rw"]
 d_RIGHTS:∃o,K.lookup A.C_RIGHTS=some o∧o.cls=.type "tuple"∧o.dict=none
 c_FORMS:∃u,mg "FORMS"=some u∧RelV (.ref A.C_FORMS) u
 q_FORMS:∀H,SqT K H A.C_FORMS [V.ref A.C_FORMS_0,V.ref A.C_FORMS_1,V.ref A.C_FORMS_2,V.ref A.C_FORMS_3,V.ref A.C_FORMS_4,V.ref A.C_FORMS_5,V.ref A.C_FORMS_6,V.ref A.C_FORMS_7,V.ref A.C_FORMS_8,V.ref A.C_FORMS_9,V.ref A.C_FORMS_10,V.ref A.C_FORMS_11,V.ref A.C_FORMS_12,V.ref A.C_FORMS_13,V.ref A.C_FORMS_14]
 d_FORMS:∃o,K.lookup A.C_FORMS=some o∧o.cls=.type "tuple"∧o.dict=none
 q_FORMS_0:∀H,SqT K H A.C_FORMS_0 [V.str "new"]
 q_FORMS_1:∀H,SqT K H A.C_FORMS_1 [V.str "fork",V.str "number"]
 q_FORMS_2:∀H,SqT K H A.C_FORMS_2 [V.str "end",V.str "number"]
 q_FORMS_3:∀H,SqT K H A.C_FORMS_3 [V.str "bank",V.str "number"]
 q_FORMS_4:∀H,SqT K H A.C_FORMS_4 [V.str "drop",V.str "number"]
 q_FORMS_5:∀H,SqT K H A.C_FORMS_5 [V.str "lay",V.str "number",V.str "number",V.str "number",V.str "rights"]
 q_FORMS_6:∀H,SqT K H A.C_FORMS_6 [V.str "lay",V.str "number",V.str "number",V.str "number",V.str "rights",V.str "number",V.str "number"]
 q_FORMS_7:∀H,SqT K H A.C_FORMS_7 [V.str "lift",V.str "number",V.str "number",V.str "number"]
 q_FORMS_8:∀H,SqT K H A.C_FORMS_8 [V.str "guard",V.str "number",V.str "number",V.str "number",V.str "rights"]
 q_FORMS_9:∀H,SqT K H A.C_FORMS_9 [V.str "read",V.str "number",V.str "number"]
 q_FORMS_10:∀H,SqT K H A.C_FORMS_10 [V.str "write",V.str "number",V.str "number",V.str "value"]
 q_FORMS_11:∀H,SqT K H A.C_FORMS_11 [V.str "fold"]
 q_FORMS_12:∀H,SqT K H A.C_FORMS_12 [V.str "see",V.str "number",V.str "number"]
 q_FORMS_13:∀H,SqT K H A.C_FORMS_13 [V.str "laid",V.str "number"]
 q_FORMS_14:∀H,SqT K H A.C_FORMS_14 [V.str "live"]
 c_NO_BANK:∃u,mg "NO_BANK"=some u∧RelV (.ref A.C_NO_BANK) u
 q_NO_BANK:∀H,SqT K H A.C_NO_BANK [V.non,V.int 0]
 d_NO_BANK:∃o,K.lookup A.C_NO_BANK=some o∧o.cls=.type "tuple"∧o.dict=none
 r_is_number:Raw K mg "is_number" "is_number" abh ["word"] []
 r_read_number:Raw K mg "read_number" "read_number" aa6 ["word"] []
 r_read_value:Raw K mg "read_value" "read_value" aa9 ["word"] []
 r_read_rights:Raw K mg "read_rights" "read_rights" aa7 ["word"] []
 r_read_word:Raw K mg "read_word" "read_word" abi ["kind","word"] []
 r_form_of:Raw K mg "form_of" "form_of" ab1 ["first_word","length"] []
 r_read_row:Raw K mg "read_row" "read_row" abq ["text"] []
 r_l_cell_at:Raw K mg "_law_cell_at" "_law_cell_at" abj ["_law_script","_law_k"] []
 r_l_form:Raw K mg "_law_form" "_law_form" ab7 ["_law_cell"] []
 r_l_sign:Raw K mg "_law_sign" "_law_sign" ab8 ["_law_cell"] []
 r_l_other:Raw K mg "_law_other" "_law_other" ab2 ["_law_sign_here","_law_cell","_law_barred"] []
 r_l_word:Raw K mg "_law_word" "_law_word" ab9 ["_law_cell","_law_kind"] []
 r_l_put:Raw K mg "_law_put" "_law_put" acm ["_law_word_here","_law_at","_law_sign_here"] []
 r_l_refused:Raw K mg "_law_refused" "_law_refused" abk ["_law_row"] []
 r_l_odd:Raw K mg "_law_odd" "_law_odd" acn ["_law_cell"] []
 r_l_rights_spoilt:Raw K mg "_law_rights_spoilt" "_law_rights_spoilt" aat ["_law_word_here","_law_cell"] []
 r_l_number_spoilt:Raw K mg "_law_number_spoilt" "_law_number_spoilt" aau ["_law_word_here","_law_kind","_law_way","_law_cell"] []
 r_l_spoilt:Raw K mg "_law_spoilt" "_law_spoilt" abr ["_law_words","_law_kinds","_law_way","_law_cell"] []
 m_FrameError:∃u,mg "FrameError"=some u∧RelV (.ref A.C_FrameError) u
 h_FrameError:XH K mg "FrameError" A.C_FrameError
 m_NoRow:∃u,mg "NoRow"=some u∧RelV (.ref A.C_NoRow) u
 x_NoRow:XC K mg "NoRow" A.C_NoRow
 xi_NoRow:XI K A.C_NoRow
 m_NoShape:∃u,mg "NoShape"=some u∧RelV (.ref A.C_NoShape) u
 m_OutOfRoom:∃u,mg "OutOfRoom"=some u∧RelV (.ref A.C_OutOfRoom) u
 m_BadRights:∃u,mg "BadRights"=some u∧RelV (.ref A.C_BadRights) u
 m_NoTask:∃u,mg "NoTask"=some u∧RelV (.ref A.C_NoTask) u
 m_NoBank:∃u,mg "NoBank"=some u∧RelV (.ref A.C_NoBank) u
 m_OutOfBank:∃u,mg "OutOfBank"=some u∧RelV (.ref A.C_OutOfBank) u
 m_Taken:∃u,mg "Taken"=some u∧RelV (.ref A.C_Taken) u
 m_NotMapped:∃u,mg "NotMapped"=some u∧RelV (.ref A.C_NotMapped) u
 m_NoRight:∃u,mg "NoRight"=some u∧RelV (.ref A.C_NoRight) u
 m_NoRoom:∃u,mg "NoRoom"=some u∧RelV (.ref A.C_NoRoom) u
 m_Busy:∃u,mg "Busy"=some u∧RelV (.ref A.C_Busy) u
 sub_NoRow_FrameError:XSub K A.C_NoRow A.C_FrameError
 kit_NoRow_NoShape:PySem.W.kitOne K (.ref A.C_NoRow) (.ref A.C_NoShape)=some false
 kit_NoRow_OutOfRoom:PySem.W.kitOne K (.ref A.C_NoRow) (.ref A.C_OutOfRoom)=some false
 kit_NoRow_BadRights:PySem.W.kitOne K (.ref A.C_NoRow) (.ref A.C_BadRights)=some false
 kit_NoRow_NoTask:PySem.W.kitOne K (.ref A.C_NoRow) (.ref A.C_NoTask)=some false
 kit_NoRow_NoBank:PySem.W.kitOne K (.ref A.C_NoRow) (.ref A.C_NoBank)=some false
 kit_NoRow_OutOfBank:PySem.W.kitOne K (.ref A.C_NoRow) (.ref A.C_OutOfBank)=some false
 kit_NoRow_Taken:PySem.W.kitOne K (.ref A.C_NoRow) (.ref A.C_Taken)=some false
 kit_NoRow_NotMapped:PySem.W.kitOne K (.ref A.C_NoRow) (.ref A.C_NotMapped)=some false
 kit_NoRow_NoRight:PySem.W.kitOne K (.ref A.C_NoRow) (.ref A.C_NoRight)=some false
 kit_NoRow_NoRoom:PySem.W.kitOne K (.ref A.C_NoRow) (.ref A.C_NoRoom)=some false
 kit_NoRow_Busy:PySem.W.kitOne K (.ref A.C_NoRow) (.ref A.C_Busy)=some false
 kit_NoRow_NoRow:PySem.W.kitOne K (.ref A.C_NoRow) (.ref A.C_NoRow)=some true
 kit_NoRow_ValueError:PySem.W.kitOne K (.ref A.C_NoRow) (.type "ValueError")=some true
 r_law:∃f fd,mg "law"=some (.ref f)∧Fun K "law" "law" afe f fd∧∀(s:Shared) (u:Value),BindsTo s fd ⟨[u],[]⟩ [("_law_script",u)]
theorem el1 {P:List Value→Prop} (h:∀a0,P [a0]):∀us:List Value,us.length=1→P us
 |[a0],_=>h a0
theorem el2 {P:List Value→Prop} (h:∀a0 a1,P [a0,a1]):∀us:List Value,us.length=2→P us
 |[a0,a1],_=>h a0 a1
theorem el3 {P:List Value→Prop} (h:∀a0 a1 a2,P [a0,a1,a2]):∀us:List Value,us.length=3→P us
 |[a0,a1,a2],_=>h a0 a1 a2
theorem el4 {P:List Value→Prop} (h:∀a0 a1 a2 a3,P [a0,a1,a2,a3]):∀us:List Value,us.length=4→P us
 |[a0,a1,a2,a3],_=>h a0 a1 a2 a3
theorem txt_mk {K:PySem.W.Frag} {h:Heap} {mg:Str→Option Value} (X:K.In h) (G:h.Ns mainGlobals mg)
 {C_Busy:Addr}
 {C_NoRoom:Addr}
 {C_NoRight:Addr}
 {C_NotMapped:Addr}
 {C_Taken:Addr}
 {C_OutOfBank:Addr}
 {C_NoBank:Addr}
 {C_NoTask:Addr}
 {C_BadRights:Addr}
 {C_OutOfRoom:Addr}
 {C_NoShape:Addr}
 {C_NoRow:Addr}
 {C_FrameError:Addr}
 {C_NO_BANK:Addr}
 {C_FORMS_14:Addr}
 {C_FORMS_13:Addr}
 {C_FORMS_12:Addr}
 {C_FORMS_11:Addr}
 {C_FORMS_10:Addr}
 {C_FORMS_9:Addr}
 {C_FORMS_8:Addr}
 {C_FORMS_7:Addr}
 {C_FORMS_6:Addr}
 {C_FORMS_5:Addr}
 {C_FORMS_4:Addr}
 {C_FORMS_3:Addr}
 {C_FORMS_2:Addr}
 {C_FORMS_1:Addr}
 {C_FORMS_0:Addr}
 {C_FORMS:Addr}
 {C_RIGHTS:Addr}
 {t_FIGURES:Tok}
 {t_MOST_FIGURES:Tok}
 {t_RIGHTS_0:Tok}
 {t_RIGHTS_1:Tok}
 {t_RIGHTS_2:Tok}
 {t_RIGHTS_3:Tok}
 {un_RIGHTS:Nat} {sl_RIGHTS:Array (Option Value)}
 {un_FORMS:Nat} {sl_FORMS:Array (Option Value)}
 {t_FORMS_0_0:Tok}
 {un_FORMS_0:Nat} {sl_FORMS_0:Array (Option Value)}
 {t_FORMS_1_0:Tok}
 {t_FORMS_1_1:Tok}
 {un_FORMS_1:Nat} {sl_FORMS_1:Array (Option Value)}
 {t_FORMS_2_0:Tok}
 {t_FORMS_2_1:Tok}
 {un_FORMS_2:Nat} {sl_FORMS_2:Array (Option Value)}
 {t_FORMS_3_0:Tok}
 {t_FORMS_3_1:Tok}
 {un_FORMS_3:Nat} {sl_FORMS_3:Array (Option Value)}
 {t_FORMS_4_0:Tok}
 {t_FORMS_4_1:Tok}
 {un_FORMS_4:Nat} {sl_FORMS_4:Array (Option Value)}
 {t_FORMS_5_0:Tok}
 {t_FORMS_5_1:Tok}
 {t_FORMS_5_2:Tok}
 {t_FORMS_5_3:Tok}
 {t_FORMS_5_4:Tok}
 {un_FORMS_5:Nat} {sl_FORMS_5:Array (Option Value)}
 {t_FORMS_6_0:Tok}
 {t_FORMS_6_1:Tok}
 {t_FORMS_6_2:Tok}
 {t_FORMS_6_3:Tok}
 {t_FORMS_6_4:Tok}
 {t_FORMS_6_5:Tok}
 {t_FORMS_6_6:Tok}
 {un_FORMS_6:Nat} {sl_FORMS_6:Array (Option Value)}
 {t_FORMS_7_0:Tok}
 {t_FORMS_7_1:Tok}
 {t_FORMS_7_2:Tok}
 {t_FORMS_7_3:Tok}
 {un_FORMS_7:Nat} {sl_FORMS_7:Array (Option Value)}
 {t_FORMS_8_0:Tok}
 {t_FORMS_8_1:Tok}
 {t_FORMS_8_2:Tok}
 {t_FORMS_8_3:Tok}
 {t_FORMS_8_4:Tok}
 {un_FORMS_8:Nat} {sl_FORMS_8:Array (Option Value)}
 {t_FORMS_9_0:Tok}
 {t_FORMS_9_1:Tok}
 {t_FORMS_9_2:Tok}
 {un_FORMS_9:Nat} {sl_FORMS_9:Array (Option Value)}
 {t_FORMS_10_0:Tok}
 {t_FORMS_10_1:Tok}
 {t_FORMS_10_2:Tok}
 {t_FORMS_10_3:Tok}
 {un_FORMS_10:Nat} {sl_FORMS_10:Array (Option Value)}
 {t_FORMS_11_0:Tok}
 {un_FORMS_11:Nat} {sl_FORMS_11:Array (Option Value)}
 {t_FORMS_12_0:Tok}
 {t_FORMS_12_1:Tok}
 {t_FORMS_12_2:Tok}
 {un_FORMS_12:Nat} {sl_FORMS_12:Array (Option Value)}
 {t_FORMS_13_0:Tok}
 {t_FORMS_13_1:Tok}
 {un_FORMS_13:Nat} {sl_FORMS_13:Array (Option Value)}
 {t_FORMS_14_0:Tok}
 {un_FORMS_14:Nat} {sl_FORMS_14:Array (Option Value)}
 {t_NO_BANK_1:Tok}
 {un_NO_BANK:Nat} {sl_NO_BANK:Array (Option Value)}
 {f_0:Addr} {od_0 an_0:Option Addr} {sl_0:Array (Option Value)} {oc_0 kV_0 dc_0 pm_0 cd_0 ct_0:Value}
 {f_1:Addr} {od_1 an_1:Option Addr} {sl_1:Array (Option Value)} {oc_1 kV_1 dc_1 pm_1 cd_1 ct_1:Value}
 {f_2:Addr} {od_2 an_2:Option Addr} {sl_2:Array (Option Value)} {oc_2 kV_2 dc_2 pm_2 cd_2 ct_2:Value}
 {f_3:Addr} {od_3 an_3:Option Addr} {sl_3:Array (Option Value)} {oc_3 kV_3 dc_3 pm_3 cd_3 ct_3:Value}
 {f_4:Addr} {od_4 an_4:Option Addr} {sl_4:Array (Option Value)} {oc_4 kV_4 dc_4 pm_4 cd_4 ct_4:Value}
 {f_5:Addr} {od_5 an_5:Option Addr} {sl_5:Array (Option Value)} {oc_5 kV_5 dc_5 pm_5 cd_5 ct_5:Value}
 {f_6:Addr} {od_6 an_6:Option Addr} {sl_6:Array (Option Value)} {oc_6 kV_6 dc_6 pm_6 cd_6 ct_6:Value}
 {f_7:Addr} {od_7 an_7:Option Addr} {sl_7:Array (Option Value)} {oc_7 kV_7 dc_7 pm_7 cd_7 ct_7:Value}
 {f_8:Addr} {od_8 an_8:Option Addr} {sl_8:Array (Option Value)} {oc_8 kV_8 dc_8 pm_8 cd_8 ct_8:Value}
 {f_9:Addr} {od_9 an_9:Option Addr} {sl_9:Array (Option Value)} {oc_9 kV_9 dc_9 pm_9 cd_9 ct_9:Value}
 {f_10:Addr} {od_10 an_10:Option Addr} {sl_10:Array (Option Value)} {oc_10 kV_10 dc_10 pm_10 cd_10 ct_10:Value}
 {f_11:Addr} {od_11 an_11:Option Addr} {sl_11:Array (Option Value)} {oc_11 kV_11 dc_11 pm_11 cd_11 ct_11:Value}
 {f_12:Addr} {od_12 an_12:Option Addr} {sl_12:Array (Option Value)} {oc_12 kV_12 dc_12 pm_12 cd_12 ct_12:Value}
 {f_13:Addr} {od_13 an_13:Option Addr} {sl_13:Array (Option Value)} {oc_13 kV_13 dc_13 pm_13 cd_13 ct_13:Value}
 {f_14:Addr} {od_14 an_14:Option Addr} {sl_14:Array (Option Value)} {oc_14 kV_14 dc_14 pm_14 cd_14 ct_14:Value}
 {f_15:Addr} {od_15 an_15:Option Addr} {sl_15:Array (Option Value)} {oc_15 kV_15 dc_15 pm_15 cd_15 ct_15:Value}
 {f_16:Addr} {od_16 an_16:Option Addr} {sl_16:Array (Option Value)} {oc_16 kV_16 dc_16 pm_16 cd_16 ct_16:Value}
 {f_17:Addr} {od_17 an_17:Option Addr} {sl_17:Array (Option Value)} {oc_17 kV_17 dc_17 pm_17 cd_17 ct_17:Value}
 {cd_FrameError:ClassData}
 {f_18:Addr} {od_18 an_18:Option Addr} {sl_18:Array (Option Value)} {oc_18 kV_18 dc_18 pm_18 cd_18 ct_18:Value}
 (a_Busy:PySem.W.nsIn K mainGlobals "Busy"=some (some (.ref C_Busy)))
 (a_NoRoom:PySem.W.nsIn K mainGlobals "NoRoom"=some (some (.ref C_NoRoom)))
 (a_NoRight:PySem.W.nsIn K mainGlobals "NoRight"=some (some (.ref C_NoRight)))
 (a_NotMapped:PySem.W.nsIn K mainGlobals "NotMapped"=some (some (.ref C_NotMapped)))
 (a_Taken:PySem.W.nsIn K mainGlobals "Taken"=some (some (.ref C_Taken)))
 (a_OutOfBank:PySem.W.nsIn K mainGlobals "OutOfBank"=some (some (.ref C_OutOfBank)))
 (a_NoBank:PySem.W.nsIn K mainGlobals "NoBank"=some (some (.ref C_NoBank)))
 (a_NoTask:PySem.W.nsIn K mainGlobals "NoTask"=some (some (.ref C_NoTask)))
 (a_BadRights:PySem.W.nsIn K mainGlobals "BadRights"=some (some (.ref C_BadRights)))
 (a_OutOfRoom:PySem.W.nsIn K mainGlobals "OutOfRoom"=some (some (.ref C_OutOfRoom)))
 (a_NoShape:PySem.W.nsIn K mainGlobals "NoShape"=some (some (.ref C_NoShape)))
 (a_NoRow:PySem.W.nsIn K mainGlobals "NoRow"=some (some (.ref C_NoRow)))
 (a_FrameError:PySem.W.nsIn K mainGlobals "FrameError"=some (some (.ref C_FrameError)))
 (zb_ValueError:PySem.W.nsIn K mainGlobals "ValueError"=some none)
 (zb_all:PySem.W.nsIn K mainGlobals "all"=some none)
 (zb_int:PySem.W.nsIn K mainGlobals "int"=some none)
 (zb_isinstance:PySem.W.nsIn K mainGlobals "isinstance"=some none)
 (zb_len:PySem.W.nsIn K mainGlobals "len"=some none)
 (zb_list:PySem.W.nsIn K mainGlobals "list"=some none)
 (zb_range:PySem.W.nsIn K mainGlobals "range"=some none)
 (zb_str:PySem.W.nsIn K mainGlobals "str"=some none)
 (zb_tuple:PySem.W.nsIn K mainGlobals "tuple"=some none)
 (zb_zip:PySem.W.nsIn K mainGlobals "zip"=some none)
 (zc_FIGURES:PySem.W.nsIn K mainGlobals "FIGURES"=some (some (.str "0123456789" t_FIGURES)))
 (zc_MOST_FIGURES:PySem.W.nsIn K mainGlobals "MOST_FIGURES"=some (some (.int 60 t_MOST_FIGURES)))
 (a_RIGHTS:PySem.W.nsIn K mainGlobals "RIGHTS"=some (some (.ref C_RIGHTS)))
 (zq_RIGHTS:K.lookup C_RIGHTS=some ⟨.type "tuple",none,.seq #[.str "--" t_RIGHTS_0,.str "r-" t_RIGHTS_1,.str "-w" t_RIGHTS_2,.str "rw" t_RIGHTS_3] un_RIGHTS,sl_RIGHTS⟩)
 (a_FORMS:PySem.W.nsIn K mainGlobals "FORMS"=some (some (.ref C_FORMS)))
 (zq_FORMS:K.lookup C_FORMS=some ⟨.type "tuple",none,.seq #[.ref C_FORMS_0,.ref C_FORMS_1,.ref C_FORMS_2,.ref C_FORMS_3,.ref C_FORMS_4,.ref C_FORMS_5,.ref C_FORMS_6,.ref C_FORMS_7,.ref C_FORMS_8,.ref C_FORMS_9,.ref C_FORMS_10,.ref C_FORMS_11,.ref C_FORMS_12,.ref C_FORMS_13,.ref C_FORMS_14] un_FORMS,sl_FORMS⟩)
 (zq_FORMS_0:K.lookup C_FORMS_0=some ⟨.type "tuple",none,.seq #[.str "new" t_FORMS_0_0] un_FORMS_0,sl_FORMS_0⟩)
 (zq_FORMS_1:K.lookup C_FORMS_1=some ⟨.type "tuple",none,.seq #[.str "fork" t_FORMS_1_0,.str "number" t_FORMS_1_1] un_FORMS_1,sl_FORMS_1⟩)
 (zq_FORMS_2:K.lookup C_FORMS_2=some ⟨.type "tuple",none,.seq #[.str "end" t_FORMS_2_0,.str "number" t_FORMS_2_1] un_FORMS_2,sl_FORMS_2⟩)
 (zq_FORMS_3:K.lookup C_FORMS_3=some ⟨.type "tuple",none,.seq #[.str "bank" t_FORMS_3_0,.str "number" t_FORMS_3_1] un_FORMS_3,sl_FORMS_3⟩)
 (zq_FORMS_4:K.lookup C_FORMS_4=some ⟨.type "tuple",none,.seq #[.str "drop" t_FORMS_4_0,.str "number" t_FORMS_4_1] un_FORMS_4,sl_FORMS_4⟩)
 (zq_FORMS_5:K.lookup C_FORMS_5=some ⟨.type "tuple",none,.seq #[.str "lay" t_FORMS_5_0,.str "number" t_FORMS_5_1,.str "number" t_FORMS_5_2,.str "number" t_FORMS_5_3,.str "rights" t_FORMS_5_4] un_FORMS_5,sl_FORMS_5⟩)
 (zq_FORMS_6:K.lookup C_FORMS_6=some ⟨.type "tuple",none,.seq #[.str "lay" t_FORMS_6_0,.str "number" t_FORMS_6_1,.str "number" t_FORMS_6_2,.str "number" t_FORMS_6_3,.str "rights" t_FORMS_6_4,.str "number" t_FORMS_6_5,.str "number" t_FORMS_6_6] un_FORMS_6,sl_FORMS_6⟩)
 (zq_FORMS_7:K.lookup C_FORMS_7=some ⟨.type "tuple",none,.seq #[.str "lift" t_FORMS_7_0,.str "number" t_FORMS_7_1,.str "number" t_FORMS_7_2,.str "number" t_FORMS_7_3] un_FORMS_7,sl_FORMS_7⟩)
 (zq_FORMS_8:K.lookup C_FORMS_8=some ⟨.type "tuple",none,.seq #[.str "guard" t_FORMS_8_0,.str "number" t_FORMS_8_1,.str "number" t_FORMS_8_2,.str "number" t_FORMS_8_3,.str "rights" t_FORMS_8_4] un_FORMS_8,sl_FORMS_8⟩)
 (zq_FORMS_9:K.lookup C_FORMS_9=some ⟨.type "tuple",none,.seq #[.str "read" t_FORMS_9_0,.str "number" t_FORMS_9_1,.str "number" t_FORMS_9_2] un_FORMS_9,sl_FORMS_9⟩)
 (zq_FORMS_10:K.lookup C_FORMS_10=some ⟨.type "tuple",none,.seq #[.str "write" t_FORMS_10_0,.str "number" t_FORMS_10_1,.str "number" t_FORMS_10_2,.str "value" t_FORMS_10_3] un_FORMS_10,sl_FORMS_10⟩)
 (zq_FORMS_11:K.lookup C_FORMS_11=some ⟨.type "tuple",none,.seq #[.str "fold" t_FORMS_11_0] un_FORMS_11,sl_FORMS_11⟩)
 (zq_FORMS_12:K.lookup C_FORMS_12=some ⟨.type "tuple",none,.seq #[.str "see" t_FORMS_12_0,.str "number" t_FORMS_12_1,.str "number" t_FORMS_12_2] un_FORMS_12,sl_FORMS_12⟩)
 (zq_FORMS_13:K.lookup C_FORMS_13=some ⟨.type "tuple",none,.seq #[.str "laid" t_FORMS_13_0,.str "number" t_FORMS_13_1] un_FORMS_13,sl_FORMS_13⟩)
 (zq_FORMS_14:K.lookup C_FORMS_14=some ⟨.type "tuple",none,.seq #[.str "live" t_FORMS_14_0] un_FORMS_14,sl_FORMS_14⟩)
 (a_NO_BANK:PySem.W.nsIn K mainGlobals "NO_BANK"=some (some (.ref C_NO_BANK)))
 (zq_NO_BANK:K.lookup C_NO_BANK=some ⟨.type "tuple",none,.seq #[.none,.int 0 t_NO_BANK_1] un_NO_BANK,sl_NO_BANK⟩)
 (a_0_:PySem.W.nsIn K mainGlobals "is_number"=some (some (.ref f_0)))
 (l_0_:K.lookup f_0=some ⟨oc_0,od_0,.func (PySem.W.fnOf "is_number" "is_number" (defArgs abh) (defBody abh) (defScope abh) .none kV_0 dc_0 pm_0 an_0 cd_0 ct_0),sl_0⟩)
 (c_0_:PySem.W.codeIn K cd_0 "is_number"=true)
 (k_0_:PySem.W.keepIn K (.ref f_0)=true)
 (a_1_:PySem.W.nsIn K mainGlobals "read_number"=some (some (.ref f_1)))
 (l_1_:K.lookup f_1=some ⟨oc_1,od_1,.func (PySem.W.fnOf "read_number" "read_number" (defArgs aa6) (defBody aa6) (defScope aa6) .none kV_1 dc_1 pm_1 an_1 cd_1 ct_1),sl_1⟩)
 (c_1_:PySem.W.codeIn K cd_1 "read_number"=true)
 (k_1_:PySem.W.keepIn K (.ref f_1)=true)
 (a_2_:PySem.W.nsIn K mainGlobals "read_value"=some (some (.ref f_2)))
 (l_2_:K.lookup f_2=some ⟨oc_2,od_2,.func (PySem.W.fnOf "read_value" "read_value" (defArgs aa9) (defBody aa9) (defScope aa9) .none kV_2 dc_2 pm_2 an_2 cd_2 ct_2),sl_2⟩)
 (c_2_:PySem.W.codeIn K cd_2 "read_value"=true)
 (k_2_:PySem.W.keepIn K (.ref f_2)=true)
 (a_3_:PySem.W.nsIn K mainGlobals "read_rights"=some (some (.ref f_3)))
 (l_3_:K.lookup f_3=some ⟨oc_3,od_3,.func (PySem.W.fnOf "read_rights" "read_rights" (defArgs aa7) (defBody aa7) (defScope aa7) .none kV_3 dc_3 pm_3 an_3 cd_3 ct_3),sl_3⟩)
 (c_3_:PySem.W.codeIn K cd_3 "read_rights"=true)
 (k_3_:PySem.W.keepIn K (.ref f_3)=true)
 (a_4_:PySem.W.nsIn K mainGlobals "read_word"=some (some (.ref f_4)))
 (l_4_:K.lookup f_4=some ⟨oc_4,od_4,.func (PySem.W.fnOf "read_word" "read_word" (defArgs abi) (defBody abi) (defScope abi) .none kV_4 dc_4 pm_4 an_4 cd_4 ct_4),sl_4⟩)
 (c_4_:PySem.W.codeIn K cd_4 "read_word"=true)
 (k_4_:PySem.W.keepIn K (.ref f_4)=true)
 (a_5_:PySem.W.nsIn K mainGlobals "form_of"=some (some (.ref f_5)))
 (l_5_:K.lookup f_5=some ⟨oc_5,od_5,.func (PySem.W.fnOf "form_of" "form_of" (defArgs ab1) (defBody ab1) (defScope ab1) .none kV_5 dc_5 pm_5 an_5 cd_5 ct_5),sl_5⟩)
 (c_5_:PySem.W.codeIn K cd_5 "form_of"=true)
 (k_5_:PySem.W.keepIn K (.ref f_5)=true)
 (a_6_:PySem.W.nsIn K mainGlobals "read_row"=some (some (.ref f_6)))
 (l_6_:K.lookup f_6=some ⟨oc_6,od_6,.func (PySem.W.fnOf "read_row" "read_row" (defArgs abq) (defBody abq) (defScope abq) .none kV_6 dc_6 pm_6 an_6 cd_6 ct_6),sl_6⟩)
 (c_6_:PySem.W.codeIn K cd_6 "read_row"=true)
 (k_6_:PySem.W.keepIn K (.ref f_6)=true)
 (a_7_:PySem.W.nsIn K mainGlobals "_law_cell_at"=some (some (.ref f_7)))
 (l_7_:K.lookup f_7=some ⟨oc_7,od_7,.func (PySem.W.fnOf "_law_cell_at" "_law_cell_at" (defArgs abj) (defBody abj) (defScope abj) .none kV_7 dc_7 pm_7 an_7 cd_7 ct_7),sl_7⟩)
 (c_7_:PySem.W.codeIn K cd_7 "_law_cell_at"=true)
 (k_7_:PySem.W.keepIn K (.ref f_7)=true)
 (a_8_:PySem.W.nsIn K mainGlobals "_law_form"=some (some (.ref f_8)))
 (l_8_:K.lookup f_8=some ⟨oc_8,od_8,.func (PySem.W.fnOf "_law_form" "_law_form" (defArgs ab7) (defBody ab7) (defScope ab7) .none kV_8 dc_8 pm_8 an_8 cd_8 ct_8),sl_8⟩)
 (c_8_:PySem.W.codeIn K cd_8 "_law_form"=true)
 (k_8_:PySem.W.keepIn K (.ref f_8)=true)
 (a_9_:PySem.W.nsIn K mainGlobals "_law_sign"=some (some (.ref f_9)))
 (l_9_:K.lookup f_9=some ⟨oc_9,od_9,.func (PySem.W.fnOf "_law_sign" "_law_sign" (defArgs ab8) (defBody ab8) (defScope ab8) .none kV_9 dc_9 pm_9 an_9 cd_9 ct_9),sl_9⟩)
 (c_9_:PySem.W.codeIn K cd_9 "_law_sign"=true)
 (k_9_:PySem.W.keepIn K (.ref f_9)=true)
 (a_10_:PySem.W.nsIn K mainGlobals "_law_other"=some (some (.ref f_10)))
 (l_10_:K.lookup f_10=some ⟨oc_10,od_10,.func (PySem.W.fnOf "_law_other" "_law_other" (defArgs ab2) (defBody ab2) (defScope ab2) .none kV_10 dc_10 pm_10 an_10 cd_10 ct_10),sl_10⟩)
 (c_10_:PySem.W.codeIn K cd_10 "_law_other"=true)
 (k_10_:PySem.W.keepIn K (.ref f_10)=true)
 (a_11_:PySem.W.nsIn K mainGlobals "_law_word"=some (some (.ref f_11)))
 (l_11_:K.lookup f_11=some ⟨oc_11,od_11,.func (PySem.W.fnOf "_law_word" "_law_word" (defArgs ab9) (defBody ab9) (defScope ab9) .none kV_11 dc_11 pm_11 an_11 cd_11 ct_11),sl_11⟩)
 (c_11_:PySem.W.codeIn K cd_11 "_law_word"=true)
 (k_11_:PySem.W.keepIn K (.ref f_11)=true)
 (a_12_:PySem.W.nsIn K mainGlobals "_law_put"=some (some (.ref f_12)))
 (l_12_:K.lookup f_12=some ⟨oc_12,od_12,.func (PySem.W.fnOf "_law_put" "_law_put" (defArgs acm) (defBody acm) (defScope acm) .none kV_12 dc_12 pm_12 an_12 cd_12 ct_12),sl_12⟩)
 (c_12_:PySem.W.codeIn K cd_12 "_law_put"=true)
 (k_12_:PySem.W.keepIn K (.ref f_12)=true)
 (a_13_:PySem.W.nsIn K mainGlobals "_law_refused"=some (some (.ref f_13)))
 (l_13_:K.lookup f_13=some ⟨oc_13,od_13,.func (PySem.W.fnOf "_law_refused" "_law_refused" (defArgs abk) (defBody abk) (defScope abk) .none kV_13 dc_13 pm_13 an_13 cd_13 ct_13),sl_13⟩)
 (c_13_:PySem.W.codeIn K cd_13 "_law_refused"=true)
 (k_13_:PySem.W.keepIn K (.ref f_13)=true)
 (a_14_:PySem.W.nsIn K mainGlobals "_law_odd"=some (some (.ref f_14)))
 (l_14_:K.lookup f_14=some ⟨oc_14,od_14,.func (PySem.W.fnOf "_law_odd" "_law_odd" (defArgs acn) (defBody acn) (defScope acn) .none kV_14 dc_14 pm_14 an_14 cd_14 ct_14),sl_14⟩)
 (c_14_:PySem.W.codeIn K cd_14 "_law_odd"=true)
 (k_14_:PySem.W.keepIn K (.ref f_14)=true)
 (a_15_:PySem.W.nsIn K mainGlobals "_law_rights_spoilt"=some (some (.ref f_15)))
 (l_15_:K.lookup f_15=some ⟨oc_15,od_15,.func (PySem.W.fnOf "_law_rights_spoilt" "_law_rights_spoilt" (defArgs aat) (defBody aat) (defScope aat) .none kV_15 dc_15 pm_15 an_15 cd_15 ct_15),sl_15⟩)
 (c_15_:PySem.W.codeIn K cd_15 "_law_rights_spoilt"=true)
 (k_15_:PySem.W.keepIn K (.ref f_15)=true)
 (a_16_:PySem.W.nsIn K mainGlobals "_law_number_spoilt"=some (some (.ref f_16)))
 (l_16_:K.lookup f_16=some ⟨oc_16,od_16,.func (PySem.W.fnOf "_law_number_spoilt" "_law_number_spoilt" (defArgs aau) (defBody aau) (defScope aau) .none kV_16 dc_16 pm_16 an_16 cd_16 ct_16),sl_16⟩)
 (c_16_:PySem.W.codeIn K cd_16 "_law_number_spoilt"=true)
 (k_16_:PySem.W.keepIn K (.ref f_16)=true)
 (a_17_:PySem.W.nsIn K mainGlobals "_law_spoilt"=some (some (.ref f_17)))
 (l_17_:K.lookup f_17=some ⟨oc_17,od_17,.func (PySem.W.fnOf "_law_spoilt" "_law_spoilt" (defArgs abr) (defBody abr) (defScope abr) .none kV_17 dc_17 pm_17 an_17 cd_17 ct_17),sl_17⟩)
 (c_17_:PySem.W.codeIn K cd_17 "_law_spoilt"=true)
 (k_17_:PySem.W.keepIn K (.ref f_17)=true)
 (zt_FrameError:PySem.W.typeIn K (.ref C_FrameError)=some (.type "type"))
 (zl_FrameError:PySem.W.clsIn K C_FrameError=some cd_FrameError)
 (zm_FrameError:PySem.W.mroIn K C_FrameError (.type "BaseException")=some true)
 (ze_NoRow:PySem.W.excIn K C_NoRow mroVE "ValueError.__new__"=true)
 (xg_NoRow:PySem.W.findIn K (.ref C_NoRow) "__getattribute__"=some (some (.builtin "BaseException.__getattribute__")))
 (xq_NoRow:PySem.W.findIn K (.ref C_NoRow) "__getattr__"=some none)
 (xb_NoRow:PySem.W.mroIn K C_NoRow (.type "BaseException")=some true)
 (xh_NoRow:PySem.W.hasDictIn K C_NoRow=true)
 (xa_NoRow:PySem.W.findIn K (.ref C_NoRow) "__class__"=some (some (.builtin "object.__class__")))
 (xn_NoRow:PySem.W.specialIn K (.builtin "object.__class__") "__get__"=some (some (.builtin "getset_descriptor.__get__")))
 (xt_NoRow:PySem.W.takesIn K (.builtin "object.__class__")=some true)
 (xm_NoRow:PySem.W.mroIn K C_NoRow (.type "object")=some true)
 (zs_NoRow_FrameError:PySem.W.mroIn K C_NoRow (.ref C_FrameError)=some true)
 (zk_NoRow_NoShape:PySem.W.kitOne K (.ref C_NoRow) (.ref C_NoShape)=some false)
 (zk_NoRow_OutOfRoom:PySem.W.kitOne K (.ref C_NoRow) (.ref C_OutOfRoom)=some false)
 (zk_NoRow_BadRights:PySem.W.kitOne K (.ref C_NoRow) (.ref C_BadRights)=some false)
 (zk_NoRow_NoTask:PySem.W.kitOne K (.ref C_NoRow) (.ref C_NoTask)=some false)
 (zk_NoRow_NoBank:PySem.W.kitOne K (.ref C_NoRow) (.ref C_NoBank)=some false)
 (zk_NoRow_OutOfBank:PySem.W.kitOne K (.ref C_NoRow) (.ref C_OutOfBank)=some false)
 (zk_NoRow_Taken:PySem.W.kitOne K (.ref C_NoRow) (.ref C_Taken)=some false)
 (zk_NoRow_NotMapped:PySem.W.kitOne K (.ref C_NoRow) (.ref C_NotMapped)=some false)
 (zk_NoRow_NoRight:PySem.W.kitOne K (.ref C_NoRow) (.ref C_NoRight)=some false)
 (zk_NoRow_NoRoom:PySem.W.kitOne K (.ref C_NoRow) (.ref C_NoRoom)=some false)
 (zk_NoRow_Busy:PySem.W.kitOne K (.ref C_NoRow) (.ref C_Busy)=some false)
 (zk_NoRow_NoRow:PySem.W.kitOne K (.ref C_NoRow) (.ref C_NoRow)=some true)
 (zk_NoRow_ValueError:PySem.W.kitOne K (.ref C_NoRow) (.type "ValueError")=some true)
 (a_18_:PySem.W.nsIn K mainGlobals "law"=some (some (.ref f_18)))
 (l_18_:K.lookup f_18=some ⟨oc_18,od_18,.func (PySem.W.fnOf "law" "law" (defArgs afe) (defBody afe) (defScope afe) .none kV_18 dc_18 pm_18 an_18 cd_18 ct_18),sl_18⟩)
 (c_18_:PySem.W.codeIn K cd_18 "law"=true)
 (k_18_:PySem.W.keepIn K (.ref f_18)=true)
 :∃A:Adr,Txt K mg A:=⟨⟨C_FrameError,C_NoRow,C_NoShape,C_OutOfRoom,C_BadRights,C_NoTask,C_NoBank,C_OutOfBank,C_Taken,C_NotMapped,C_NoRight,C_NoRoom,C_Busy,C_RIGHTS,C_FORMS,C_FORMS_0,C_FORMS_1,C_FORMS_2,C_FORMS_3,C_FORMS_4,C_FORMS_5,C_FORMS_6,C_FORMS_7,C_FORMS_8,C_FORMS_9,C_FORMS_10,C_FORMS_11,C_FORMS_12,C_FORMS_13,C_FORMS_14,C_NO_BANK⟩,{
  b_ValueError:=PySem.W.mg_none_of X G zb_ValueError
  b_all:=PySem.W.mg_none_of X G zb_all
  b_int:=PySem.W.mg_none_of X G zb_int
  b_isinstance:=PySem.W.mg_none_of X G zb_isinstance
  b_len:=PySem.W.mg_none_of X G zb_len
  b_list:=PySem.W.mg_none_of X G zb_list
  b_range:=PySem.W.mg_none_of X G zb_range
  b_str:=PySem.W.mg_none_of X G zb_str
  b_tuple:=PySem.W.mg_none_of X G zb_tuple
  b_zip:=PySem.W.mg_none_of X G zb_zip
  c_FIGURES:=⟨_,PySem.W.mg_of X G zc_FIGURES,⟨_,rfl⟩⟩
  c_MOST_FIGURES:=⟨_,PySem.W.mg_of X G zc_MOST_FIGURES,⟨_,rfl⟩⟩
  c_RIGHTS:=⟨_,PySem.W.mg_of X G a_RIGHTS,rfl⟩
  q_RIGHTS:=fun _=>.inr ⟨_,_,_,zq_RIGHTS,rfl,rfl,by show 4≤sizeLine;rw[sizeLine_eq];decide,.cons ⟨_,rfl⟩ (.cons ⟨_,rfl⟩ (.cons ⟨_,rfl⟩ (.cons ⟨_,rfl⟩ (.nil))))⟩
  d_RIGHTS:=⟨_,zq_RIGHTS,rfl,rfl⟩
  c_FORMS:=⟨_,PySem.W.mg_of X G a_FORMS,rfl⟩
  q_FORMS:=fun _=>.inr ⟨_,_,_,zq_FORMS,rfl,rfl,by show 15≤sizeLine;rw[sizeLine_eq];decide,.cons rfl (.cons rfl (.cons rfl (.cons rfl (.cons rfl (.cons rfl (.cons rfl (.cons rfl (.cons rfl (.cons rfl (.cons rfl (.cons rfl (.cons rfl (.cons rfl (.cons rfl (.nil)))))))))))))))⟩
  d_FORMS:=⟨_,zq_FORMS,rfl,rfl⟩
  q_FORMS_0:=fun _=>.inr ⟨_,_,_,zq_FORMS_0,rfl,rfl,by show 1≤sizeLine;rw[sizeLine_eq];decide,.cons ⟨_,rfl⟩ (.nil)⟩
  q_FORMS_1:=fun _=>.inr ⟨_,_,_,zq_FORMS_1,rfl,rfl,by show 2≤sizeLine;rw[sizeLine_eq];decide,.cons ⟨_,rfl⟩ (.cons ⟨_,rfl⟩ (.nil))⟩
  q_FORMS_2:=fun _=>.inr ⟨_,_,_,zq_FORMS_2,rfl,rfl,by show 2≤sizeLine;rw[sizeLine_eq];decide,.cons ⟨_,rfl⟩ (.cons ⟨_,rfl⟩ (.nil))⟩
  q_FORMS_3:=fun _=>.inr ⟨_,_,_,zq_FORMS_3,rfl,rfl,by show 2≤sizeLine;rw[sizeLine_eq];decide,.cons ⟨_,rfl⟩ (.cons ⟨_,rfl⟩ (.nil))⟩
  q_FORMS_4:=fun _=>.inr ⟨_,_,_,zq_FORMS_4,rfl,rfl,by show 2≤sizeLine;rw[sizeLine_eq];decide,.cons ⟨_,rfl⟩ (.cons ⟨_,rfl⟩ (.nil))⟩
  q_FORMS_5:=fun _=>.inr ⟨_,_,_,zq_FORMS_5,rfl,rfl,by show 5≤sizeLine;rw[sizeLine_eq];decide,.cons ⟨_,rfl⟩ (.cons ⟨_,rfl⟩ (.cons ⟨_,rfl⟩ (.cons ⟨_,rfl⟩ (.cons ⟨_,rfl⟩ (.nil)))))⟩
  q_FORMS_6:=fun _=>.inr ⟨_,_,_,zq_FORMS_6,rfl,rfl,by show 7≤sizeLine;rw[sizeLine_eq];decide,.cons ⟨_,rfl⟩ (.cons ⟨_,rfl⟩ (.cons ⟨_,rfl⟩ (.cons ⟨_,rfl⟩ (.cons ⟨_,rfl⟩ (.cons ⟨_,rfl⟩ (.cons ⟨_,rfl⟩ (.nil)))))))⟩
  q_FORMS_7:=fun _=>.inr ⟨_,_,_,zq_FORMS_7,rfl,rfl,by show 4≤sizeLine;rw[sizeLine_eq];decide,.cons ⟨_,rfl⟩ (.cons ⟨_,rfl⟩ (.cons ⟨_,rfl⟩ (.cons ⟨_,rfl⟩ (.nil))))⟩
  q_FORMS_8:=fun _=>.inr ⟨_,_,_,zq_FORMS_8,rfl,rfl,by show 5≤sizeLine;rw[sizeLine_eq];decide,.cons ⟨_,rfl⟩ (.cons ⟨_,rfl⟩ (.cons ⟨_,rfl⟩ (.cons ⟨_,rfl⟩ (.cons ⟨_,rfl⟩ (.nil)))))⟩
  q_FORMS_9:=fun _=>.inr ⟨_,_,_,zq_FORMS_9,rfl,rfl,by show 3≤sizeLine;rw[sizeLine_eq];decide,.cons ⟨_,rfl⟩ (.cons ⟨_,rfl⟩ (.cons ⟨_,rfl⟩ (.nil)))⟩
  q_FORMS_10:=fun _=>.inr ⟨_,_,_,zq_FORMS_10,rfl,rfl,by show 4≤sizeLine;rw[sizeLine_eq];decide,.cons ⟨_,rfl⟩ (.cons ⟨_,rfl⟩ (.cons ⟨_,rfl⟩ (.cons ⟨_,rfl⟩ (.nil))))⟩
  q_FORMS_11:=fun _=>.inr ⟨_,_,_,zq_FORMS_11,rfl,rfl,by show 1≤sizeLine;rw[sizeLine_eq];decide,.cons ⟨_,rfl⟩ (.nil)⟩
  q_FORMS_12:=fun _=>.inr ⟨_,_,_,zq_FORMS_12,rfl,rfl,by show 3≤sizeLine;rw[sizeLine_eq];decide,.cons ⟨_,rfl⟩ (.cons ⟨_,rfl⟩ (.cons ⟨_,rfl⟩ (.nil)))⟩
  q_FORMS_13:=fun _=>.inr ⟨_,_,_,zq_FORMS_13,rfl,rfl,by show 2≤sizeLine;rw[sizeLine_eq];decide,.cons ⟨_,rfl⟩ (.cons ⟨_,rfl⟩ (.nil))⟩
  q_FORMS_14:=fun _=>.inr ⟨_,_,_,zq_FORMS_14,rfl,rfl,by show 1≤sizeLine;rw[sizeLine_eq];decide,.cons ⟨_,rfl⟩ (.nil)⟩
  c_NO_BANK:=⟨_,PySem.W.mg_of X G a_NO_BANK,rfl⟩
  q_NO_BANK:=fun _=>.inr ⟨_,_,_,zq_NO_BANK,rfl,rfl,by show 2≤sizeLine;rw[sizeLine_eq];decide,.cons rfl (.cons ⟨_,rfl⟩ (.nil))⟩
  d_NO_BANK:=⟨_,zq_NO_BANK,rfl,rfl⟩
  r_is_number:=⟨_,_,_,PySem.W.mg_of X G a_0_,aas (st:=abh) l_0_ c_0_ k_0_,(aas (st:=abh) l_0_ c_0_ k_0_).binds (ps:=["word"]) fun _ _ _ _ _ _=>el1 (fun _=>rfl),.nil⟩
  r_read_number:=⟨_,_,_,PySem.W.mg_of X G a_1_,aas (st:=aa6) l_1_ c_1_ k_1_,(aas (st:=aa6) l_1_ c_1_ k_1_).binds (ps:=["word"]) fun _ _ _ _ _ _=>el1 (fun _=>rfl),.nil⟩
  r_read_value:=⟨_,_,_,PySem.W.mg_of X G a_2_,aas (st:=aa9) l_2_ c_2_ k_2_,(aas (st:=aa9) l_2_ c_2_ k_2_).binds (ps:=["word"]) fun _ _ _ _ _ _=>el1 (fun _=>rfl),.nil⟩
  r_read_rights:=⟨_,_,_,PySem.W.mg_of X G a_3_,aas (st:=aa7) l_3_ c_3_ k_3_,(aas (st:=aa7) l_3_ c_3_ k_3_).binds (ps:=["word"]) fun _ _ _ _ _ _=>el1 (fun _=>rfl),.nil⟩
  r_read_word:=⟨_,_,_,PySem.W.mg_of X G a_4_,aas (st:=abi) l_4_ c_4_ k_4_,(aas (st:=abi) l_4_ c_4_ k_4_).binds (ps:=["kind","word"]) fun _ _ _ _ _ _=>el2 (fun _ _=>rfl),.nil⟩
  r_form_of:=⟨_,_,_,PySem.W.mg_of X G a_5_,aas (st:=ab1) l_5_ c_5_ k_5_,(aas (st:=ab1) l_5_ c_5_ k_5_).binds (ps:=["first_word","length"]) fun _ _ _ _ _ _=>el2 (fun _ _=>rfl),.nil⟩
  r_read_row:=⟨_,_,_,PySem.W.mg_of X G a_6_,aas (st:=abq) l_6_ c_6_ k_6_,(aas (st:=abq) l_6_ c_6_ k_6_).binds (ps:=["text"]) fun _ _ _ _ _ _=>el1 (fun _=>rfl),.nil⟩
  r_l_cell_at:=⟨_,_,_,PySem.W.mg_of X G a_7_,aas (st:=abj) l_7_ c_7_ k_7_,(aas (st:=abj) l_7_ c_7_ k_7_).binds (ps:=["_law_script","_law_k"]) fun _ _ _ _ _ _=>el2 (fun _ _=>rfl),.nil⟩
  r_l_form:=⟨_,_,_,PySem.W.mg_of X G a_8_,aas (st:=ab7) l_8_ c_8_ k_8_,(aas (st:=ab7) l_8_ c_8_ k_8_).binds (ps:=["_law_cell"]) fun _ _ _ _ _ _=>el1 (fun _=>rfl),.nil⟩
  r_l_sign:=⟨_,_,_,PySem.W.mg_of X G a_9_,aas (st:=ab8) l_9_ c_9_ k_9_,(aas (st:=ab8) l_9_ c_9_ k_9_).binds (ps:=["_law_cell"]) fun _ _ _ _ _ _=>el1 (fun _=>rfl),.nil⟩
  r_l_other:=⟨_,_,_,PySem.W.mg_of X G a_10_,aas (st:=ab2) l_10_ c_10_ k_10_,(aas (st:=ab2) l_10_ c_10_ k_10_).binds (ps:=["_law_sign_here","_law_cell","_law_barred"]) fun _ _ _ _ _ _=>el3 (fun _ _ _=>rfl),.nil⟩
  r_l_word:=⟨_,_,_,PySem.W.mg_of X G a_11_,aas (st:=ab9) l_11_ c_11_ k_11_,(aas (st:=ab9) l_11_ c_11_ k_11_).binds (ps:=["_law_cell","_law_kind"]) fun _ _ _ _ _ _=>el2 (fun _ _=>rfl),.nil⟩
  r_l_put:=⟨_,_,_,PySem.W.mg_of X G a_12_,aas (st:=acm) l_12_ c_12_ k_12_,(aas (st:=acm) l_12_ c_12_ k_12_).binds (ps:=["_law_word_here","_law_at","_law_sign_here"]) fun _ _ _ _ _ _=>el3 (fun _ _ _=>rfl),.nil⟩
  r_l_refused:=⟨_,_,_,PySem.W.mg_of X G a_13_,aas (st:=abk) l_13_ c_13_ k_13_,(aas (st:=abk) l_13_ c_13_ k_13_).binds (ps:=["_law_row"]) fun _ _ _ _ _ _=>el1 (fun _=>rfl),.nil⟩
  r_l_odd:=⟨_,_,_,PySem.W.mg_of X G a_14_,aas (st:=acn) l_14_ c_14_ k_14_,(aas (st:=acn) l_14_ c_14_ k_14_).binds (ps:=["_law_cell"]) fun _ _ _ _ _ _=>el1 (fun _=>rfl),.nil⟩
  r_l_rights_spoilt:=⟨_,_,_,PySem.W.mg_of X G a_15_,aas (st:=aat) l_15_ c_15_ k_15_,(aas (st:=aat) l_15_ c_15_ k_15_).binds (ps:=["_law_word_here","_law_cell"]) fun _ _ _ _ _ _=>el2 (fun _ _=>rfl),.nil⟩
  r_l_number_spoilt:=⟨_,_,_,PySem.W.mg_of X G a_16_,aas (st:=aau) l_16_ c_16_ k_16_,(aas (st:=aau) l_16_ c_16_ k_16_).binds (ps:=["_law_word_here","_law_kind","_law_way","_law_cell"]) fun _ _ _ _ _ _=>el4 (fun _ _ _ _=>rfl),.nil⟩
  r_l_spoilt:=⟨_,_,_,PySem.W.mg_of X G a_17_,aas (st:=abr) l_17_ c_17_ k_17_,(aas (st:=abr) l_17_ c_17_ k_17_).binds (ps:=["_law_words","_law_kinds","_law_way","_law_cell"]) fun _ _ _ _ _ _=>el4 (fun _ _ _ _=>rfl),.nil⟩
  m_FrameError:=⟨_,PySem.W.mg_of X G a_FrameError,rfl⟩
  h_FrameError:=⟨PySem.W.mg_of X G a_FrameError,zt_FrameError,⟨_,zl_FrameError⟩,zm_FrameError⟩
  m_NoRow:=⟨_,PySem.W.mg_of X G a_NoRow,rfl⟩
  x_NoRow:=⟨PySem.W.mg_of X G a_NoRow,ze_NoRow⟩
  xi_NoRow:=⟨xg_NoRow,xq_NoRow,xb_NoRow,xh_NoRow,xa_NoRow,xn_NoRow,xt_NoRow,xm_NoRow⟩
  m_NoShape:=⟨_,PySem.W.mg_of X G a_NoShape,rfl⟩
  m_OutOfRoom:=⟨_,PySem.W.mg_of X G a_OutOfRoom,rfl⟩
  m_BadRights:=⟨_,PySem.W.mg_of X G a_BadRights,rfl⟩
  m_NoTask:=⟨_,PySem.W.mg_of X G a_NoTask,rfl⟩
  m_NoBank:=⟨_,PySem.W.mg_of X G a_NoBank,rfl⟩
  m_OutOfBank:=⟨_,PySem.W.mg_of X G a_OutOfBank,rfl⟩
  m_Taken:=⟨_,PySem.W.mg_of X G a_Taken,rfl⟩
  m_NotMapped:=⟨_,PySem.W.mg_of X G a_NotMapped,rfl⟩
  m_NoRight:=⟨_,PySem.W.mg_of X G a_NoRight,rfl⟩
  m_NoRoom:=⟨_,PySem.W.mg_of X G a_NoRoom,rfl⟩
  m_Busy:=⟨_,PySem.W.mg_of X G a_Busy,rfl⟩
  sub_NoRow_FrameError:=zs_NoRow_FrameError
  kit_NoRow_NoShape:=zk_NoRow_NoShape
  kit_NoRow_OutOfRoom:=zk_NoRow_OutOfRoom
  kit_NoRow_BadRights:=zk_NoRow_BadRights
  kit_NoRow_NoTask:=zk_NoRow_NoTask
  kit_NoRow_NoBank:=zk_NoRow_NoBank
  kit_NoRow_OutOfBank:=zk_NoRow_OutOfBank
  kit_NoRow_Taken:=zk_NoRow_Taken
  kit_NoRow_NotMapped:=zk_NoRow_NotMapped
  kit_NoRow_NoRight:=zk_NoRow_NoRight
  kit_NoRow_NoRoom:=zk_NoRow_NoRoom
  kit_NoRow_Busy:=zk_NoRow_Busy
  kit_NoRow_NoRow:=zk_NoRow_NoRow
  kit_NoRow_ValueError:=zk_NoRow_ValueError
  r_law:=⟨_,_,PySem.W.mg_of X G a_18_,aas (st:=afe) l_18_ c_18_ k_18_,fun _ _=>.of_eq rfl⟩
 }⟩
section
variable {P:Program} {w:World} {K:PySem.W.Frag} {mg:Str→Option Value} {base:Heap} {A:Adr}
theorem aca {H H':Hp} {t:Addr} {o:HO} (s:Same H H') (h:H t=none):Same H (upd H' t o):=fun b u e=>by
 rw[aa4 (aa3 e h)];exact s b u e
theorem adk {H H':Hp} {p:Addr} (s:Same H H') (h:H' p=none):H p=none:=by
 cases e:H p with
 |none=>rfl
 |some o=>rw[s p o e] at h;cases h
theorem ai0 {xs:List V} {lo hi:Nat}:cutV xs (some (lo:Int)) (some (hi:Int))=(xs.take hi).drop lo:=by
 unfold cutV
 show (xs.drop (if (lo:Int) < 0 then ((lo:Int)+(xs.length:Int)).toNat else min (lo:Int).toNat xs.length)).take ((if (hi:Int) < 0 then ((hi:Int)+(xs.length:Int)).toNat else min (hi:Int).toNat xs.length) - (if (lo:Int) < 0 then ((lo:Int)+(xs.length:Int)).toNat else min (lo:Int).toNat xs.length))=_
 rw[if_neg (by omega),if_neg (by omega),Int.toNat_natCast,Int.toNat_natCast,List.drop_take]
 refine List.ext_getElem? fun k=>?_
 rw[List.getElem?_take,List.getElem?_take,List.getElem?_drop,List.getElem?_drop]
 by_cases h1:k < hi - lo
 ·rw[if_pos h1]
  by_cases h2:k < min hi xs.length - min lo xs.length
  ·rw[if_pos h2,Nat.min_eq_left (by omega)]
  ·rw[if_neg h2,List.getElem?_eq_none_iff.mpr (by omega)]
 ·rw[if_neg h1]
  by_cases h2:k < min hi xs.length - min lo xs.length
  ·rw[if_pos h2,List.getElem?_eq_none_iff.mpr (by omega)]
  ·rw[if_neg h2]
theorem akc {xs:List V} {hi:Nat}:cutV xs none (some (hi:Int))=xs.take hi:=by
 unfold cutV
 show (xs.drop 0).take ((if (hi:Int) < 0 then ((hi:Int)+(xs.length:Int)).toNat else min (hi:Int).toNat xs.length) - 0)=_
 rw[if_neg (by omega),Int.toNat_natCast,List.drop_zero,Nat.sub_zero]
 rcases Nat.le_total hi xs.length with h|h
 ·rw[Nat.min_eq_left h]
 ·rw[Nat.min_eq_right h,List.take_length,List.take_of_length_le h]
theorem ae2 {xs:List V} {lo:Nat}:cutV xs (some (lo:Int)) none=xs.drop lo:=by
 unfold cutV
 show (xs.drop (if (lo:Int) < 0 then ((lo:Int)+(xs.length:Int)).toNat else min (lo:Int).toNat xs.length)).take (xs.length - (if (lo:Int) < 0 then ((lo:Int)+(xs.length:Int)).toNat else min (lo:Int).toNat xs.length))=_
 rw[if_neg (by omega),Int.toNat_natCast]
 rcases Nat.le_total lo xs.length with h|h
 ·rw[Nat.min_eq_left h]
  exact List.take_of_length_le (by rw[List.length_drop];omega)
 ·rw[Nat.min_eq_right h,Nat.sub_self,List.take_zero,List.drop_eq_nil_of_le h]
structure Good (a:Str):Prop where
 l1:1≤a.length
 l2:a.length≤60
 z:a.cps[0]?=some 48→a.length=1
 d:∀(i:Nat) c,a.cps[i]?=some c→48≤c∧c≤57
theorem ai1:∀m:Nat,1≤m→((Nat.toDigits 10 m).map Char.toNat)[0]?≠some 48:=fun m=>by
 induction m using Nat.strongRecOn with
 |_ m ih=>
  intro h1
  by_cases h:m < 10
  ·rw[Nat.toDigits_of_lt_base h]
   have:m=1∨m=2∨m=3∨m=4∨m=5∨m=6∨m=7∨m=8∨m=9:=by omega
   rcases this with rfl|rfl|rfl|rfl|rfl|rfl|rfl|rfl|rfl<;>decide
  ·have hm:m % 10 < 10:=Nat.mod_lt m (by decide)
   have t:Nat.toDigits 10 (m / 10)++Nat.toDigits 10 (m % 10)=Nat.toDigits 10 (10 * (m / 10)+m % 10):=Nat.toDigits_append_toDigits (by decide) (by omega) hm
   rw[Nat.div_add_mod] at t
   rw[←t,List.map_append]
   have hne:0 < ((Nat.toDigits 10 (m / 10)).map Char.toNat).length:=by
    rw[List.length_map]
    exact toDigits_len_ge 10 (m / 10)
   rw[List.getElem?_append_left hne]
   exact ih (m / 10) (by omega) (by omega)
theorem ab4 {n:Int} (h0:0≤n) (h1:n < 10 ^ 60):Good (Str.ofString (toString n))∧PySem.intText? (Str.ofString (toString n))=some n:=by
 have hl:(Str.ofString (toString n)).length≤60:=PyProof.Rows.toString_length_le h0 (by decide) h1
 obtain⟨m,rfl⟩:=Int.eq_ofNat_of_zero_le h0
 have hs:=PySem.W.KIN.signs_num m
 have hd:PySem.NumText.AllDigits (PySem.Str.ofString (toString ((m:Nat):Int))).cps.toList:=by
  intro c hc
  rw[hs] at hc
  obtain⟨ch,hch,e⟩:=List.mem_map.mp hc
  have r:=PyProof.Rows.digit_range (Nat.isDigit_of_mem_toDigits (by decide) (by decide) hch)
  rw[←e]
  exact r
 have hne:(PySem.Str.ofString (toString ((m:Nat):Int))).cps.toList≠[]:=by
  rw[hs]
  intro e
  have h:=toDigits_len_ge 10 m
  rw[List.map_eq_nil_iff.mp e] at h
  exact absurd h (by decide)
 have e:=PySem.intText_digits hd hne (by omega)
 rw[hs,PySem.W.KIN.val_back] at e
 have hll:(PySem.Str.ofString (toString ((m:Nat):Int))).cps.toList.length=(PySem.Str.ofString (toString ((m:Nat):Int))).length:=Array.length_toList
 refine⟨⟨?_,hl,fun h=>?_,fun i c hc=>hd c ?_⟩,e⟩
 ·have:=List.length_pos_iff.mpr hne
  omega
 ·rw[←Array.getElem?_toList,hs] at h
  have hm:¬1≤m:=fun z=>ai1 m z h
  obtain rfl:m=0:=by omega
  rw[←hll,hs];rfl
 ·rw[←Array.getElem?_toList] at hc
  exact List.mem_of_getElem? hc
theorem aht {c:Nat}:∀{p q u v:List Nat},c∉p→c∉q→p++c::u=q++c::v→p=q∧u=v
 |[],[],u,v,_,_,e=>by cases e;exact⟨rfl,rfl⟩
 |[],y::q,u,v,_,h,e=>by cases e;exact absurd (List.mem_cons_self ..) h
 |x::p,[],u,v,h,_,e=>by cases e;exact absurd (List.mem_cons_self ..) h
 |x::p,y::q,u,v,h1,h2,e=>by
  obtain⟨rfl,e2⟩:=List.cons.inj e
  obtain⟨rfl,rfl⟩:=aht (fun z=>h1 (List.mem_cons_of_mem _ z)) (fun z=>h2 (List.mem_cons_of_mem _ z)) e2
  exact⟨rfl,rfl⟩
theorem abp {a b:Str} (h:a.cps.toList=b.cps.toList):a=b:=by
 cases a;cases b
 simp only at h
 rw[Array.toList_inj] at h
 rw[h]
theorem af4 {c:Nat}:∀{ps qs:List Str},ps≠[]→qs≠[]→(∀p∈ps,c∉p.cps.toList)→(∀p∈qs,c∉p.cps.toList)→Str.join ⟨#[c]⟩ ps=Str.join ⟨#[c]⟩ qs→ps=qs
 |[],_,h,_,_,_,_=>absurd rfl h
 |_,[],_,h,_,_,_=>absurd rfl h
 |[p],[q],_,_,_,_,e=>by rw[show p=q from e]
 |[p],q::q2::r,_,_,h1,h2,e=>by
  have e1:p=q++⟨#[c]⟩++Str.join ⟨#[c]⟩ (q2::r):=e
  exact absurd (by rw[e1];simp[Str.cps_append]) (h1 p (List.mem_cons_self ..))
 |p::p2::r,[q],_,_,h1,h2,e=>by
  have e1:p++⟨#[c]⟩++Str.join ⟨#[c]⟩ (p2::r)=q:=e
  exact absurd (by rw[←e1];simp[Str.cps_append]) (h2 q (List.mem_cons_self ..))
 |p::p2::r,q::q2::t,_,_,h1,h2,e=>by
  have e1:p++⟨#[c]⟩++Str.join ⟨#[c]⟩ (p2::r)=q++⟨#[c]⟩++Str.join ⟨#[c]⟩ (q2::t):=e
  have e2:=congrArg (fun z:Str=>z.cps.toList) e1
  simp only[Str.cps_append,Array.toList_append,List.append_assoc] at e2
  obtain⟨e3,e4⟩:=aht (h1 p (List.mem_cons_self ..)) (h2 q (List.mem_cons_self ..)) (show p.cps.toList++c::(Str.join ⟨#[c]⟩ (p2::r)).cps.toList=q.cps.toList++c::(Str.join ⟨#[c]⟩ (q2::t)).cps.toList from e2)
  rw[abp e3,af4 (by simp) (by simp) (fun z hz=>h1 z (List.mem_cons_of_mem _ hz)) (fun z hz=>h2 z (List.mem_cons_of_mem _ hz)) (abp e4)]
theorem ae3:(Str.ofString " ":Str)=⟨#[32]⟩:=by decide+kernel
theorem aaz (c:Str) (ws:List Str):Txt.join c ws=Str.join c ws:=PySem.StrLaws.glued_eq_join c ws
theorem ack {ws:List Str} (h0:ws≠[]) (h:∀p∈ws,32∉p.cps.toList):Txt.split (Txt.join (Str.ofString " ") ws) (Str.ofString " ")=ws:=by
 rw[aaz,ae3]
 have e:=PySem.StrLaws.join_split (Str.join ⟨#[32]⟩ ws) ⟨#[32]⟩
 have hf:=PySem.StrLaws.split_free (Str.join ⟨#[32]⟩ ws) 32
 have hn:=PyProof.Rows.split_pos (Str.join ⟨#[32]⟩ ws) ⟨#[32]⟩
 exact af4 (fun z=>by rw[z] at hn;exact absurd hn (by decide)) h0 hf h e
inductive Fk where
 |n|v|r
structure Fm where
 w:Str
 ks:List Fk
noncomputable def fkW:Fk→Str
 |.n=>"number"
 |.v=>"value"
 |.r=>"rights"
noncomputable def fms:List Fm:=[⟨"new",[]⟩,⟨"fork",[.n]⟩,⟨"end",[.n]⟩,⟨"bank",[.n]⟩,⟨"drop",[.n]⟩,⟨"lay",[.n,.n,.n,.r]⟩,⟨"lay",[.n,.n,.n,.r,.n,.n]⟩,⟨"lift",[.n,.n,.n]⟩,⟨"guard",[.n,.n,.n,.r]⟩,⟨"read",[.n,.n]⟩,⟨"write",[.n,.n,.v]⟩,⟨"fold",[]⟩,⟨"see",[.n,.n]⟩,⟨"laid",[.n]⟩,⟨"live",[]⟩]
noncomputable def fA (A:Adr):List Addr:=[A.C_FORMS_0,A.C_FORMS_1,A.C_FORMS_2,A.C_FORMS_3,A.C_FORMS_4,A.C_FORMS_5,A.C_FORMS_6,A.C_FORMS_7,A.C_FORMS_8,A.C_FORMS_9,A.C_FORMS_10,A.C_FORMS_11,A.C_FORMS_12,A.C_FORMS_13,A.C_FORMS_14]
noncomputable def fI (f:Fm):List V:=V.str f.w::f.ks.map fun k=>V.str (fkW k)
theorem f_at (T:Txt K mg A):∀(i:Nat) (f:Fm),fms[i]?=some f→∃a,(fA A)[i]?=some a∧∀H,SqT K H a (fI f)
 |0,_,e=>by cases e;exact⟨_,rfl,T.q_FORMS_0⟩
 |1,_,e=>by cases e;exact⟨_,rfl,T.q_FORMS_1⟩
 |2,_,e=>by cases e;exact⟨_,rfl,T.q_FORMS_2⟩
 |3,_,e=>by cases e;exact⟨_,rfl,T.q_FORMS_3⟩
 |4,_,e=>by cases e;exact⟨_,rfl,T.q_FORMS_4⟩
 |5,_,e=>by cases e;exact⟨_,rfl,T.q_FORMS_5⟩
 |6,_,e=>by cases e;exact⟨_,rfl,T.q_FORMS_6⟩
 |7,_,e=>by cases e;exact⟨_,rfl,T.q_FORMS_7⟩
 |8,_,e=>by cases e;exact⟨_,rfl,T.q_FORMS_8⟩
 |9,_,e=>by cases e;exact⟨_,rfl,T.q_FORMS_9⟩
 |10,_,e=>by cases e;exact⟨_,rfl,T.q_FORMS_10⟩
 |11,_,e=>by cases e;exact⟨_,rfl,T.q_FORMS_11⟩
 |12,_,e=>by cases e;exact⟨_,rfl,T.q_FORMS_12⟩
 |13,_,e=>by cases e;exact⟨_,rfl,T.q_FORMS_13⟩
 |14,_,e=>by cases e;exact⟨_,rfl,T.q_FORMS_14⟩
 |n+15,_,e=>by cases e
noncomputable def fkey:List (Str×Nat):=fms.map fun f=>(f.w,f.ks.length)
theorem akd:fkey.Nodup:=by decide+kernel
theorem f_one {i j:Nat} {f g:Fm} (hf:fms[i]?=some f) (hg:fms[j]?=some g) (e1:f.w=g.w) (e2:f.ks.length=g.ks.length):i=j:=by
 have h1:fkey[i]?=some (f.w,f.ks.length):=by unfold fkey;rw[List.getElem?_map,hf];rfl
 have h2:fkey[j]?=some (f.w,f.ks.length):=by unfold fkey;rw[List.getElem?_map,hg,e1,e2];rfl
 exact (List.getElem?_inj (List.getElem?_eq_some_iff.mp h1).1 akd).mp (h1.trans h2.symm)
noncomputable def okF:Fk→Int→Prop
 |.n,x=>0≤x∧x < 10 ^ 60
 |.v,x=> -(10 ^ 60) < x∧x < 10 ^ 60
 |.r,x=>0≤x∧x < 4
noncomputable def rts:List Str:=["--","r-","-w","rw"]
noncomputable def wtF:Fk→Int→Str
 |.r,x=>rts.getD x.toNat ""
 |_,x=>Str.ofString (toString x)
theorem slice1 (a:Str) (h:1≤a.length):Txt.slice a (some 1) none=⟨(a.cps.toList.drop 1).toArray⟩:=by
 have e:=PySem.StrLaws.sliceText_from (x:=a) (i:=1) ⟨by decide,by show (1:Int)≤((a.cps.toList.length:Nat):Int);rw[Array.length_toList];show (1:Int)≤((a.length:Nat):Int);omega⟩
 have e2:Txt.slice a (some 1) none=PySem.StrLaws.sliceText a (some 1) none:=rfl
 rw[e2,e]
 refine abp ?_
 show (List.take _ (List.drop 1 a.cps.toList))=List.drop 1 a.cps.toList
 exact List.take_of_length_le (by rw[List.length_drop];omega)
theorem aec {a:Str}:Txt.startswith a (Str.ofString "-")=decide (a.cps.toList[0]?=some 45):=by
 have e:(Str.ofString "-":Str)=⟨#[45]⟩:=by decide+kernel
 rw[e]
 have h:=PySem.StrLaws.subAt_one a 45 0
 unfold Txt.startswith
 rw[Bool.eq_iff_iff,Bool.and_eq_true,decide_eq_true_eq,decide_eq_true_eq]
 exact h
theorem ake {a:Str} (h:Good a):Txt.startswith a (Str.ofString "-")=false:=by
 rw[aec,decide_eq_false]
 intro z
 rw[Array.getElem?_toList] at z
 have:=h.d 0 45 z
 omega
theorem aff {n:Int} (h0:0 < n):(Str.ofString (toString (-n))).cps.toList=45::(Str.ofString (toString n)).cps.toList:=by
 obtain⟨m,rfl⟩:∃m:Nat,n=((m+1:Nat):Int):=⟨n.toNat - 1,by omega⟩
 have e:toString (-((m+1:Nat):Int))="-"++toString ((m+1:Nat):Int):=rfl
 rw[e,PyProof.Rows.signs_ofString,PyProof.Rows.signs_ofString,String.toList_append,List.map_append]
 rfl
theorem ahu {x:Int} (h:okF .v x):(Str.ofString (toString x)).length≤61∧((Txt.startswith (Str.ofString (toString x)) (Str.ofString "-")=false∧Good (Str.ofString (toString x))∧PySem.intText? (Str.ofString (toString x))=some x)∨∃m,Txt.startswith (Str.ofString (toString x)) (Str.ofString "-")=true∧Good (Txt.slice (Str.ofString (toString x)) (some 1) none)∧PySem.intText? (Txt.slice (Str.ofString (toString x)) (some 1) none)=some m∧m≠0∧x=0 - m):=by
 by_cases c:0≤x
 ·obtain⟨g,e⟩:=ab4 c h.2
  exact⟨by have:=g.l2;omega,.inl ⟨ake g,g,e⟩⟩
 ·obtain⟨m,rfl⟩:∃m,x= -m:=⟨-x,by omega⟩
  have hm:0 < m:=by omega
  have h1:=h.1
  obtain⟨g,e⟩:=ab4 (n:=m) (by omega) (by omega)
  have hn:=aff hm
  have hl:(Str.ofString (toString (-m))).length=1+(Str.ofString (toString m)).length:=by
   have:=congrArg List.length hn
   rw[List.length_cons,Array.length_toList,Array.length_toList] at this
   show (Str.ofString (toString (-m))).cps.size=1+(Str.ofString (toString m)).cps.size
   omega
  have hs:Txt.slice (Str.ofString (toString (-m))) (some 1) none=Str.ofString (toString m):=by
   rw[slice1 _ (by omega),hn]
   exact abp (by simp)
  refine⟨by have:=g.l2;omega,.inr ⟨m,?_,by rw[hs];exact g,by rw[hs];exact e,by omega,by omega⟩⟩
  rw[aec,hn]
  rfl
theorem adl {k:Fk} {x:Int} (h:okF k x):32∉(wtF k x).cps.toList∧(wtF k x).length≤61:=by
 have num:∀{n:Int},0≤n→n < 10 ^ 60→32∉(Str.ofString (toString n)).cps.toList∧(Str.ofString (toString n)).length≤60:=fun h0 h1=>by
  obtain⟨g,_⟩:=ab4 h0 h1
  refine⟨fun z=>?_,g.l2⟩
  obtain⟨i,hi⟩:=List.mem_iff_getElem?.mp z
  rw[Array.getElem?_toList] at hi
  have:=g.d i 32 hi
  omega
 cases k with
 |n=>obtain⟨a,b⟩:=num h.1 h.2;exact⟨a,by show (Str.ofString (toString x)).length≤61;omega⟩
 |v=>
  refine⟨?_,(ahu h).1⟩
  show 32∉(Str.ofString (toString x)).cps.toList
  by_cases c:0≤x
  ·exact (num c h.2).1
  ·obtain⟨m,rfl⟩:∃m,x= -m:=⟨-x,by omega⟩
   have h1:=h.1
   rw[aff (by omega),List.mem_cons,not_or]
   exact⟨by decide,(num (by omega) (by omega)).1⟩
 |r=>
  have h0:=h.1
  have h1:=h.2
  obtain rfl|rfl|rfl|rfl:x=0∨x=1∨x=2∨x=3:=by omega
  ·decide+kernel
  ·decide+kernel
  ·decide+kernel
  ·decide+kernel
noncomputable def due (f:Fm) (xs:List Int):List V:=V.str f.w::xs.map V.int++if f.w="lay"∧f.ks.length=4 then [V.non,V.int 0] else []
noncomputable def rowT (f:Fm) (xs:List Int):Str:=Txt.join (Str.ofString " ") (f.w::List.zipWith wtF f.ks xs)
noncomputable def Ok (f:Fm) (xs:List Int):Prop:=(∃k:Nat,fms[k]?=some f)∧xs.length=f.ks.length∧∀(i:Nat) k x,f.ks[i]?=some k→xs[i]?=some x→okF k x
theorem afg:∀f∈fms,32∉f.w.cps.toList∧f.w.length≤5∧f.ks.length≤6:=by decide+kernel
noncomputable def wsF (f:Fm) (xs:List Int):List Str:=f.w::List.zipWith wtF f.ks xs
theorem akf {f:Fm} {xs:List Int} (h:Ok f xs):(∀p∈wsF f xs,32∉p.cps.toList∧p.length≤61)∧(wsF f xs).length=f.ks.length+1∧f.ks.length≤6:=by
 obtain⟨⟨k,hk⟩,hl,hx⟩:=h
 obtain⟨h1,h2,h3⟩:=afg f (List.mem_of_getElem? hk)
 refine⟨fun p hp=>?_,?_,h3⟩
 ·rcases List.mem_cons.mp hp with rfl|hp
  ·exact⟨h1,by omega⟩
  ·obtain⟨i,hi⟩:=List.mem_iff_getElem?.mp hp
   rw[List.getElem?_zipWith] at hi
   cases e1:f.ks[i]? with
   |none=>rw[e1] at hi;cases hi
   |some k=>
    cases e2:xs[i]? with
    |none=>rw[e1,e2] at hi;cases hi
    |some x=>
     rw[e1,e2] at hi
     obtain rfl:wtF k x=p:=Option.some.inj hi
     exact adl (hx i k x e1 e2)
 ·unfold wsF
  rw[List.length_cons,List.length_zipWith,hl,Nat.min_self]
theorem aed {f:Fm} {xs:List Int} (h:Ok f xs):(rowT f xs).length≤1000∧((wsF f xs).map (·.length)).sum+(wsF f xs).length * (Str.ofString " ").length≤16777216:=by
 obtain⟨h1,h2,h3⟩:=akf h
 have h4:=PySem.StrLaws.sumLen_le (B:=61) (wsF f xs) (fun y hy=>(h1 y hy).2)
 have h5:=PySem.StrLaws.join_length_le (Str.ofString " ") (wsF f xs)
 have h6:(Str.ofString " ":Str).length=1:=by decide+kernel
 rw[h6] at h5 ⊢
 have h7:(wsF f xs).length * 61≤7 * 61:=Nat.mul_le_mul_right _ (by omega)
 refine⟨?_,by omega⟩
 show (Txt.join (Str.ofString " ") (wsF f xs)).length≤1000
 rw[aaz]
 omega
theorem cut1 {x:V} {xs:List V}:cutV (x::xs) (some 1) none=xs:=ae2 (lo:=1)
noncomputable def Asc (a:Str):Prop:=∀(i:Nat) c,a.cps[i]?=some c→c < 128
noncomputable def figB (c:Nat):Bool:=decide (48≤c∧c≤57)
theorem akg:∀c:Fin 128,(!(Builtin.Str.occurrences (Str.ofString "0123456789") ⟨#[c.1]⟩ 0 (Str.ofString "0123456789").length 1).isEmpty)=figB c.1:=by decide+kernel
theorem ai2 {a:Str} (h:Good a):∃n,PySem.intText? a=some n:=by
 have hl:a.cps.toList.length=a.length:=Array.length_toList
 have h1:=h.l1
 have h2:=h.l2
 refine⟨_,PySem.intText_digits (fun c hc=>?_) (fun z=>by rw[z] at hl;simp at hl;omega) (by omega)⟩
 obtain⟨i,hi⟩:=List.mem_iff_getElem?.mp hc
 rw[Array.getElem?_toList] at hi
 exact h.d i c hi
noncomputable def sp_isnum:Sp:=fun vs H Q _=>∃a,vs=[.str a]∧a.length≤2000∧Asc a∧∀b H',(b=true↔Good a)→Same H H'→Q (.bl b) H'
theorem akh (T:Txt K mg A):Have P w K mg base "is_number" 1 ["word"] [] sp_isnum:=by
 refine T.r_is_number.have aez (fun vs H Q E z=>?_) ?_
 ·obtain⟨a,rfl,_⟩:=z;rfl
 ·intro f cdv A' outer s H vs Q E hr z
  obtain⟨a,rfl,hL,hA,q⟩:=z
  refine⟨_,(aag (abc (PW.pt (ajs (aal op_lt (aaq aay rfl T.b_len PySem.boot_len (aaa (pvM 0) aab)) aae (nomark _)) (agk (aal aif (aaq aay rfl T.b_len PySem.boot_len (aaa (pvM 0) aab)) (aaw rfl T.c_MOST_FIGURES) (nomark _))))) (aaf (aak ad4)) aam)
   (aag (abc (PW.pt (ac4 (aal abu (abg ac5 (pvM 0) aae (fun _ _=>rfl)) aac (nomark _)) (ace (aal aif (aaq aay rfl T.b_len PySem.boot_len (aaa (pvM 0) aab)) aae (nomark _))))) (aaf (aak ad4)) aam)
   (aaf (aak (aaq (aip rfl) rfl T.b_all (by decide+kernel) (aaa (aj7 rfl (pi_str (pvM 0)) (x:="sign") (fs:=[]) (ix:=[]) rfl rfl (fun _ _ _ _ _ _=>(abz (i:=0) (show (["sign"]:List Str).Nodup by decide+kernel) rfl (Or.inl rfl))) (fun _ _ _ _ _ _=>aha) (fun _ _ _ _ _ _=>(agv ahk (pvM 0) (aaw rfl T.c_FIGURES) (by with_unfolding_all rfl)))) aab)))))),?_⟩
  unfold rIxS
  walk_at "wp"
  have hz:=PySem.sizeLine_eq
  have hsz:a.cps.size=a.length:=rfl
  have no:¬Good a→∀H',Same H H'→Q (.bl false) H':=fun h H' s=>q false H' ⟨fun z=>absurd z (by decide),fun z=>absurd z h⟩ s
  refine⟨_,⟨by omega,rfl⟩,ite2 (fun e=>no (fun z=>by have:=z.l1;omega) _ aad) (fun e1=>?_)⟩
  refine⟨_,⟨by omega,rfl⟩,ite2 (fun e=>no (fun z=>by have:=z.l2;omega) _ aad) (fun e2=>?_)⟩
  obtain⟨c,hc⟩:∃c,a.cps[0]?=some c:=⟨_,Array.getElem?_eq_getElem (by omega)⟩
  have fin:(c=48→a.length=1)→∀D,H D=none→Comp (gName 0) tYes (tOp (fun x y H Q=>∃a b,x=V.str a∧y=V.str b∧Q (V.bl !(Builtin.Str.occurrences b a 0 b.length 1).isEmpty) H) (tVarM 0) (tC (V.str (Str.ofString "0123456789")))) HidC.mk (Its a) [none] D (fun H'=>∃x,SqL K H' D (List.map V.bl x)∧Q (V.bl (x.all id)) H') H:=fun hc48 D hD=>by
   refine air (fun i ys σ H'=>∃v,σ=[v]∧Same H H'∧H' D=some (.lst ys)∧ys=((a.cps.toList.take i).map figB).map V.bl) ⟨_,rfl,aah aad hD,aaj,rfl⟩ (fun i c ys σ H' hi=>?_) (fun ys σ H'=>?_)
   ·rintro⟨v,rfl,s1,hD1,rfl⟩
    have hil:i < a.cps.size:=(Array.getElem?_eq_some_iff.mp hi).1
    walk_at "wp"
    rw[akg ⟨c,hA i c hi⟩]
    exact⟨hD1,by rw[List.length_map,List.length_map,List.length_take];omega,aca s1 hD,by rw[List.take_add_one,Array.getElem?_toList,hi,List.map_append,List.map_append];rfl⟩
   ·rintro⟨v,rfl,s1,hD1,rfl⟩
    rw[List.take_of_length_le (by rw[Array.length_toList];omega)] at hD1
    refine⟨a.cps.toList.map figB,SqL.of hD1,q _ _ ?_ s1⟩
    rw[List.all_eq_true]
    refine⟨fun z=>⟨by omega,by omega,fun z0=>hc48 (by rw[hc] at z0;exact Option.some.inj z0),fun i c hi=>?_⟩,fun z b hb=>?_⟩
    ·have:=z (figB c) (List.mem_map.mpr ⟨c,List.mem_of_getElem? (by rw[Array.getElem?_toList];exact hi),rfl⟩)
     exact of_decide_eq_true this
    ·obtain⟨c,hc,rfl⟩:=List.mem_map.mp hb
     obtain⟨i,hi⟩:=List.mem_iff_getElem?.mp hc
     rw[Array.getElem?_toList] at hi
     exact decide_eq_true (z.d i c hi)
  refine⟨by omega,c,aan (j:=0) (by rw[Array.getElem?_toList];exact hc),ite2 (fun e=>?_) (fun e=>iteF (fin fun z=>absurd (by rw[z];decide+kernel) e))⟩
  have hc48:c=48:=by
   have h1:(⟨#[c]⟩:Str).cps= #[48]:=by rw[e];decide+kernel
   simpa using h1
  refine⟨_,⟨by omega,rfl⟩,ite2 (fun e=>?_) (fun e=>fin fun _=>by omega)⟩
  exact no (fun z=>by have:=z.z (by rw[hc,hc48]);omega) _ aad
noncomputable def ahv (A:Adr):Sp:=fun vs H Q E=>∃a,vs=[.str a]∧a.length≤2000∧Asc a∧(¬Good a→∀H',Same H H'→E (.ref A.C_NoRow) none H')∧(∀n,Good a→PySem.intText? a=some n→∀H',Same H H'→Q (.int n) H')
theorem aji (T:Txt K mg A):Have P w K mg base "read_number" 2 ["word"] [] (ahv A):=by
 have H_is_number:=akh (P:=P) (w:=w) (base:=base) T
 refine T.r_read_number.have adp (fun vs H Q E z=>?_) ?_
 ·obtain⟨a,rfl,_⟩:=z;rfl
 ·intro f cdv A' outer s H vs Q E hr z
  obtain⟨a,rfl,hL,hA,qn,qy⟩:=z
  refine⟨_,(aag (abc (ads (ac3 (aai H_is_number (hr.mono (by decide)) aar (aaa (pvM 0) aab)))) (aaf (adb afr rfl T.x_NoRow (aaa aac aab))) aam)
   (aaf (aak (ab0 ahh rfl T.b_int PyProof.Rows.boot_int (aaa (pvM 0) aab))))),?_⟩
  unfold sp_isnum
  walk_at "wp"
  refine⟨hL,hA,fun b H' hb s1=>?_⟩
  cases b with
  |false=>exact iteT (qn (fun z=>absurd (hb.mpr z) (by decide)) _ s1)
  |true=>
   have hG:=hb.mp rfl
   obtain⟨n,hn⟩:=ai2 hG
   have hl2:=hG.l2
   exact iteF ⟨n,hn,by omega,qy n hG hn _ s1⟩
noncomputable def dash (a:Str):Bool:=Txt.startswith a (Str.ofString "-")
noncomputable def tail1 (a:Str):Str:=Txt.slice a (some 1) none
noncomputable def BadW:Fk→Str→Prop
 |.n,a=>¬Good a
 |.v,a=>(dash a=false∧¬Good a)∨(dash a=true∧(¬Good (tail1 a)∨PySem.intText? (tail1 a)=some 0))
 |.r,a=>a∉rts
noncomputable def valW:Fk→Str→Int→Prop
 |.n,a,n=>PySem.intText? a=some n
 |.v,a,n=>(dash a=false∧PySem.intText? a=some n)∨(dash a=true∧∃m,PySem.intText? (tail1 a)=some m∧n=0 - m)
 |.r,a,n=>∃j:Nat,n=j∧rts[j]?=some a
theorem ai3 {a:Str} (h:Asc a) (h1:1≤a.length):Asc (tail1 a)∧(tail1 a).length≤a.length:=by
 have e:tail1 a=⟨(a.cps.toList.drop 1).toArray⟩:=slice1 a h1
 rw[e]
 refine⟨fun i c hi=>?_,?_⟩
 ·simp only[List.getElem?_toArray,List.getElem?_drop,Array.getElem?_toList] at hi
  exact h _ c hi
 ·show (a.cps.toList.drop 1).toArray.size≤a.cps.size
  simp
theorem ai4 {a:Str} (h:dash a=true):1≤a.length:=by
 unfold dash at h
 rw[aec,decide_eq_true_eq,Array.getElem?_toList] at h
 exact (Array.getElem?_eq_some_iff.mp h).1
noncomputable def aki (A:Adr):Sp:=fun vs H Q E=>∃a,vs=[.str a]∧a.length≤2000∧Asc a∧(BadW .v a→∀H',Same H H'→E (.ref A.C_NoRow) none H')∧(∀n,¬BadW .v a→valW .v a n→∀H',Same H H'→Q (.int n) H')
theorem h_rval (T:Txt K mg A):Have P w K mg base "read_value" 3 ["word"] [] (aki A):=by
 have H_read_number:=aji (P:=P) (w:=w) (base:=base) T
 refine T.r_read_value.have acr (fun vs H Q E z=>?_) ?_
 ·obtain⟨a,rfl,_⟩:=z;rfl
 ·intro f cdv A' outer s H vs Q E hr z
  obtain⟨a,rfl,hL,hA,qn,qy⟩:=z
  refine⟨_,(aag (abc (ads (ac3 (acx PySem.F.plainAttrs_str PySem.F.slot_str_startswith PySem.F.type_str_startswith ad9 (pvM 0) (aaa aac aab)))) (aaf (aak (aai H_read_number (hr.mono (by decide)) aar (aaa (pvM 0) aab)))) aam)
   (aag (aa0 (i:=1) acr.nd rfl (Or.inl rfl) (aai H_read_number (hr.mono (by decide)) aar (aaa (abd aew (pvM 0) (abn aae) abw) aab)))
   (aag (abc (aal abu (pvM 1) aae (nomark _)) (aaf (adb afr rfl T.x_NoRow (aaa aac aab))) aam)
   (aaf (aak (aao agr aae (pvM 1))))))),?_⟩
  unfold ahv
  walk_at "wp"
  refine⟨rfl,?_⟩
  cases hd:dash a with
  |false=>
   rw[show Txt.startswith a (Str.ofString "-")=false from hd]
   exact iteT ⟨hL,hA,fun h=>qn (.inl ⟨hd,h⟩),fun n hG hn=>qy n (fun z=>z.elim (fun z=>z.2 hG) fun z=>by rw[hd] at z;cases z.1) (.inl ⟨hd,hn⟩)⟩
  |true=>
   rw[show Txt.startswith a (Str.ofString "-")=true from hd]
   have h1:=ai4 hd
   obtain⟨t1,t2⟩:=ai3 hA h1
   refine iteF ⟨by omega,by show (tail1 a).length≤2000;omega,t1,fun h=>qn (.inr ⟨hd,.inl h⟩),fun n hG hn H' s1=>?_⟩
   refine ite2 (fun e=>?_) (fun e=>?_)
   ·exact qn (.inr ⟨hd,.inr (by rw[show PySem.intText? (tail1 a)=some n from hn,e])⟩) _ s1
   ·exact qy _ (fun z=>z.elim (fun z=>by rw[hd] at z;cases z.1) fun z=>z.2.elim (fun y=>y hG) fun y=>e (by rw[show PySem.intText? (tail1 a)=some n from hn] at y;exact Option.some.inj y)) (.inr ⟨hd,n,hn,rfl⟩) _ s1
theorem rts_in (a:Str):inV (V.str a) (rts.map V.str)=decide (a∈rts):=by
 unfold inV rts
 rw[Bool.eq_iff_iff,decide_eq_true_eq]
 simp only[List.map_cons,List.map_nil,List.any_cons,List.any_nil,Bool.or_false,Bool.or_eq_true,eqV,beq_iff_eq,List.mem_cons,List.not_mem_nil,or_false]
 exact⟨fun z=>by rcases z with z|z|z|z<;>simp[z],fun z=>by rcases z with z|z|z|z<;>simp[z]⟩
noncomputable def sp_rrt (A:Adr):Sp:=fun vs H Q E=>∃a,vs=[.str a]∧(BadW .r a→E (.ref A.C_NoRow) none H)∧(∀n,¬BadW .r a→valW .r a n→Q (.int n) H)
theorem h_rrt (T:Txt K mg A):Have P w K mg base "read_rights" 1 ["word"] [] (sp_rrt A):=by
 refine T.r_read_rights.have adq (fun vs H Q E z=>?_) ?_
 ·obtain⟨a,rfl,_⟩:=z;rfl
 ·intro f cdv A' outer s H vs Q E hr z
  obtain⟨a,rfl,qn,qy⟩:=z
  refine⟨_,(aag (abc (aal aeq (pvM 0) (aaw rfl T.c_RIGHTS) (by with_unfolding_all rfl)) (aaf (adb afr rfl T.x_NoRow (aaa aac aab))) aam)
   (aaf (aak (acx PySem.F.plainAttrs_tuple PySem.F.slot_tuple_index PySem.F.type_tuple_index ahq (aaw rfl T.c_RIGHTS) (aaa (pvM 0) aab))))),?_⟩
  walk_at "wp"
  refine⟨_,.inr (T.q_RIGHTS H),rfl,rfl,?_⟩
  have hr:=rts_in a
  by_cases h:a∈rts
  ·rw[show inV (V.str a) [V.str "--",V.str "r-",V.str "-w",V.str "rw"]=true from hr.trans (decide_eq_true h)]
   have h':=h
   unfold rts at h'
   simp only[List.mem_cons,List.not_mem_nil,or_false] at h'
   rcases h' with rfl|rfl|rfl|rfl
   ·exact iteF ⟨.inr (.inl ⟨rfl,T.d_RIGHTS⟩),_,T.q_RIGHTS H,rfl,rfl,0,by decide+kernel,qy _ (fun z=>z h) ⟨0,rfl,rfl⟩⟩
   ·exact iteF ⟨.inr (.inl ⟨rfl,T.d_RIGHTS⟩),_,T.q_RIGHTS H,rfl,rfl,1,by decide+kernel,qy _ (fun z=>z h) ⟨1,rfl,rfl⟩⟩
   ·exact iteF ⟨.inr (.inl ⟨rfl,T.d_RIGHTS⟩),_,T.q_RIGHTS H,rfl,rfl,2,by decide+kernel,qy _ (fun z=>z h) ⟨2,rfl,rfl⟩⟩
   ·exact iteF ⟨.inr (.inl ⟨rfl,T.d_RIGHTS⟩),_,T.q_RIGHTS H,rfl,rfl,3,by decide+kernel,qy _ (fun z=>z h) ⟨3,rfl,rfl⟩⟩
  ·rw[show inV (V.str a) [V.str "--",V.str "r-",V.str "-w",V.str "rw"]=false from hr.trans (decide_eq_false h)]
   exact iteT (qn h)
noncomputable def akj (A:Adr):Sp:=fun vs H Q E=>∃k a,vs=[.str (fkW k),.str a]∧a.length≤2000∧Asc a∧(BadW k a→∀H',Same H H'→E (.ref A.C_NoRow) none H')∧(∀n,¬BadW k a→valW k a n→∀H',Same H H'→Q (.int n) H')
theorem h_rw (T:Txt K mg A):Have P w K mg base "read_word" 4 ["kind","word"] [] (akj A):=by
 have H_read_rights:=h_rrt (P:=P) (w:=w) (base:=base) T
 have H_read_value:=h_rval (P:=P) (w:=w) (base:=base) T
 have H_read_number:=aji (P:=P) (w:=w) (base:=base) T
 refine T.r_read_word.have ae0 (fun vs H Q E z=>?_) ?_
 ·obtain⟨k,a,rfl,_⟩:=z;rfl
 ·intro f cdv A' outer s H vs Q E hr z
  obtain⟨k,a,rfl,hL,hA,qn,qy⟩:=z
  refine⟨_,(aag (abc (aal abu (pvM 0) aac (nomark _)) (aaf (aak (aai H_read_rights (hr.mono (by decide)) aar (aaa (pvM 1) aab)))) aam)
   (aag (abc (aal abu (pvM 0) aac (nomark _)) (aaf (aak (aai H_read_value (hr.mono (by decide)) aar (aaa (pvM 1) aab)))) aam)
   (aaf (aak (aai H_read_number (hr.mono (by decide)) aar (aaa (pvM 1) aab)))))),?_⟩
  walk_at "wp"
  cases k with
  |n=>
   rw[if_neg (by decide+kernel),if_neg (by decide+kernel)]
   exact⟨_,rfl,hL,hA,qn,fun n hG hn=>qy n (fun z=>z hG) hn⟩
  |v=>
   rw[if_neg (by decide+kernel),if_pos (by decide+kernel)]
   exact⟨_,rfl,hL,hA,qn,qy⟩
  |r=>
   rw[if_pos (by decide+kernel)]
   exact⟨a,rfl,fun h=>qn h _ aad,fun n h hv=>qy n h hv _ aad⟩
noncomputable def wsT (a:Str):List Str:=Txt.split a (Str.ofString " ")
noncomputable def isF (f:Fm) (u:Str) (L:Int):Prop:=f.w=u∧L=1+f.ks.length
noncomputable def afh (A:Adr) (K:PySem.W.Frag):Sp:=fun vs H Q E=>∃(u:Str) (L:Int),vs=[.str u,.int L]∧((∀f∈fms,¬isF f u L)→E (.ref A.C_NoRow) none H)∧∀f∈fms,isF f u L→∀a,(∀H,SqT K H a (fI f))→Q (.ref a) H
theorem ajj (T:Txt K mg A):Have P w K mg base "form_of" 1 ["first_word","length"] [] (afh A K):=by
 refine T.r_form_of.have adx (fun vs H Q E z=>?_) ?_
 ·obtain⟨u,L,rfl,_⟩:=z;rfl
 ·intro f cdv A' outer s H vs Q E hr z
  obtain⟨u,L,rfl,qn,qy⟩:=z
  refine⟨_,(aag (afb PassesOwn.leaving rfl (pi_tup (aaw rfl T.c_FORMS)) (abz (i:=2) adx.nd rfl (Or.inl rfl)) (aaf (abc (PW.pt (ac4 (aal abu (abg afn (pvM 2) aae (fun _ _=>rfl)) (pvM 0) (nomark _)) (ace (aal abu (aaq aay rfl T.b_len PySem.boot_len (aaa (pvM 2) aab)) (pvM 1) (nomark _))))) (aaf (aak (pvM 2))) aam)))
   (aaf (adb afr rfl T.x_NoRow (aaa aac aab)))),?_⟩
  walk_at "wp"
  refine⟨⟨_,T.q_FORMS H⟩,ain (K:=K) (xs:=(fA A).map V.ref) (fun i σ H'=>∃v2,σ=[some (.str u),some (.int L),v2]∧H'=H∧∀(j:Nat) f,j < i→fms[j]?=some f→¬isF f u L) ⟨_,rfl,rfl,fun j f h=>absurd h (Nat.not_lt_zero _)⟩ (fun i σ H' _ _=>T.q_FORMS H') (fun i x σ H' hi=>?_) (fun σ H'=>?_)⟩
  ·rintro⟨v2,rfl,rfl,hik⟩
   have hi15:i < 15:=by
    have:=(List.getElem?_eq_some_iff.mp hi).1
    rw[List.length_map] at this
    exact this
   obtain⟨g,hg⟩:∃g,fms[i]?=some g:=⟨_,List.getElem?_eq_getElem (show i < fms.length by show i < 15;omega)⟩
   obtain⟨a,ha,hq⟩:=f_at T i g hg
   rw[List.getElem?_map,ha] at hi
   obtain rfl:V.ref a=x:=Option.some.inj hi
   have on:¬isF g u L→∀(j:Nat) f,j < i+1→fms[j]?=some f→¬isF f u L:=fun h j f hj e=>by
    by_cases c:j=i
    ·rw[c,hg] at e;cases e;exact h
    ·exact hik j f (by omega) e
   walk_at "wp"
   refine⟨_,hq H',V.str g.w,aan (j:=0) rfl,?_⟩
   refine⟨rfl,?_⟩
   by_cases e1:g.w=u
   ·rw[if_pos (by rw[e1])]
    refine⟨_,.inr ⟨_,hq H',rfl⟩,?_⟩
    have hln:(fI g).length=g.ks.length+1:=by unfold fI;rw[List.length_cons,List.length_map]
    by_cases e2:L=1+g.ks.length
    ·rw[if_pos (by omega)]
     exact qy g (List.mem_of_getElem? hg) ⟨e1,e2⟩ a hq
    ·rw[if_neg (by omega)]
     exact on fun z=>e2 z.2
   ·rw[if_neg (fun z=>e1 (V.str.inj z))]
    refine iteF ?_
    exact on fun z=>e1 z.1
  ·rintro⟨v2,rfl,rfl,hik⟩
   walk_at "wp"
   refine qn fun f hf=>?_
   obtain⟨j,hj⟩:=List.mem_iff_getElem?.mp hf
   exact hik j f (List.getElem?_eq_some_iff.mp hj).1 hj
noncomputable def BadRow (a:Str):Prop:=∀f∈fms,∀u us,wsT a=u::us→f.w=u→us.length=f.ks.length→∃(i:Nat) (k:Fk) (x:Str),f.ks[i]?=some k∧us[i]?=some x∧BadW k x
noncomputable def ajk (A:Adr):Sp:=fun vs H _ E=>∃a,vs=[.str a]∧a.length≤1000∧Asc a∧BadRow a∧∀H',Same H H'→E (.ref A.C_NoRow) none H'
theorem aee {s:Str}:∀{ps:List Str} {p:Str},p∈ps→(∀c∈p.cps.toList,c∈(Str.join s ps).cps.toList)∧p.length≤(Str.join s ps).length
 |[q],p,h=>by
  rw[List.mem_singleton.mp h]
  exact⟨fun c z=>z,Nat.le_refl _⟩
 |q::q2::r,p,h=>by
  have e:Str.join s (q::q2::r)=q++s++Str.join s (q2::r):=rfl
  have hl:(q++s++Str.join s (q2::r)).length=q.length+s.length+(Str.join s (q2::r)).length:=by
   show (q++s++Str.join s (q2::r)).cps.size=q.cps.size+s.cps.size+(Str.join s (q2::r)).cps.size
   simp[Str.cps_append,Nat.add_assoc]
  rw[e]
  rcases List.mem_cons.mp h with rfl|h
  ·exact⟨fun c z=>by simp only[Str.cps_append,Array.toList_append,List.mem_append];exact .inl (.inl z),by omega⟩
  ·obtain⟨h1,h2⟩:=aee (s:=s) h
   exact⟨fun c z=>by simp only[Str.cps_append,Array.toList_append,List.mem_append];exact .inr (h1 c z),by omega⟩
theorem adz:∀ps:List Str,ps.length≤(Str.join ⟨#[32]⟩ ps).length+1
 |[]=>Nat.zero_le _
 |[_]=>Nat.le_add_left _ _
 |q::q2::r=>by
  have e:Str.join ⟨#[32]⟩ (q::q2::r)=q++⟨#[32]⟩++Str.join ⟨#[32]⟩ (q2::r):=rfl
  have hl:(q++⟨#[32]⟩++Str.join ⟨#[32]⟩ (q2::r)).length=q.length+1+(Str.join ⟨#[32]⟩ (q2::r)).length:=by
   show (q++⟨#[32]⟩++Str.join ⟨#[32]⟩ (q2::r)).cps.size=q.cps.size+1+(Str.join ⟨#[32]⟩ (q2::r)).cps.size
   simp[Str.cps_append,Nat.add_assoc]
  have ih:=adz (q2::r)
  rw[e,hl,List.length_cons]
  omega
theorem ws_in {a:Str} (h:Asc a):∀p∈wsT a,Asc p∧p.length≤a.length:=fun p hp=>by
 have e:=PySem.StrLaws.join_split a ⟨#[32]⟩
 have hp:p∈Txt.split a ⟨#[32]⟩:=by
  have z:=hp
  unfold wsT at z
  rw[ae3] at z
  exact z
 obtain⟨h1,h2⟩:=aee (s:=⟨#[32]⟩) hp
 rw[e] at h1 h2
 refine⟨fun i c hi=>?_,h2⟩
 have z:=h1 c (List.mem_of_getElem? (by rw[Array.getElem?_toList];exact hi))
 obtain⟨j,hj⟩:=List.mem_iff_getElem?.mp z
 rw[Array.getElem?_toList] at hj
 exact h j c hj
theorem h_bad (T:Txt K mg A):Have P w K mg base "read_row" 5 ["text"] [] (ajk A):=by
 have H_form_of:=ajj (P:=P) (w:=w) (base:=base) T
 have H_read_word:=h_rw (P:=P) (w:=w) (base:=base) T
 refine T.r_read_row.have aba (fun vs H Q E z=>?_) ?_
 ·obtain⟨a,rfl,_⟩:=z;rfl
 ·intro f cdv A' outer s H vs Q E hr z
  obtain⟨a,rfl,hL,hA,hB,q⟩:=z
  refine⟨_,(aag (aa0 (i:=1) aba.nd rfl (Or.inl rfl) (acx PySem.F.plainAttrs_str PySem.F.slot_str_split PySem.F.type_str_split af0 (pvM 0) (aaa aac aab)))
   (aag (aa0 (i:=2) aba.nd rfl (Or.inl rfl) (aai H_form_of (hr.mono (by decide)) aar (aaa (abg abf (pvM 1) aae (fun _ _=>rfl)) (aaa (aaq aay rfl T.b_len PySem.boot_len (aaa (pvM 1) aab)) aab))))
   (aax (aa0 (i:=3) aba.nd rfl (Or.inl rfl) (aao ad6 (abm (aaa (abg abf (pvM 1) aae (fun _ _=>rfl)) aab)) (ab0 aco rfl T.b_tuple PyProof.Rows.boot_tuple (aaa (af2 ahr rfl (ajh rfl T.b_zip (aaa (abd ajf (pvM 2) (abn aae) abw) (aaa (abd acw (pvM 1) (abn aae) abw) aab))) (x:="kind") (xs:=["kind","word"]) (fs:=[]) (ix:=[]) rfl rfl (fun _ _ _ _ _ _=>(ahd (K:=K) (n:=2) rfl rfl (acj (abz (i:=0) (show (["kind","word"]:List Str).Nodup by decide+kernel) rfl (Or.inl rfl)) (acj (abz (i:=1) (show (["kind","word"]:List Str).Nodup by decide+kernel) rfl (Or.inl rfl)) ae7)))) (fun _ _ _ _ _ _=>aha) (fun _ _ _ _ _ _ _ xwc=>(aai H_read_word (hr.mono (by decide)) xwc (aaa (pvM 0) (aaa (pvM 1) aab))))) aab))))
   (aag (abc (PW.pt (ac4 (aal abu (abg afn (pvM 3) aae (fun _ _=>rfl)) aac (nomark _)) (ace (aal abu (aaq aay rfl T.b_len PySem.boot_len (aaa (pvM 3) aab)) aae (nomark _))))) (aaf (aak (aao ad6 (pvM 3) (aaw rfl T.c_NO_BANK)))) aam)
   (aaf (aak (pvM 3))))))),?_⟩
  unfold afh akj
  walk_at "wp"
  have hoc:=PySem.StrLaws.occ_length_le a (Str.ofString " ") 0 a.length (a.length+1)
  have hn:=PyProof.Rows.split_pos a (Str.ofString " ")
  obtain⟨u,us,hws⟩:∃u us,wsT a=u::us:=by
   cases e:wsT a with
   |nil=>unfold wsT at e;rw[e] at hn;simp at hn
   |cons u us=>exact⟨u,us,rfl⟩
  have hin:=ws_in hA
  rw[hws] at hin
  have hlen:(Txt.split a (Str.ofString " ")).length≤1002:=by
   have z:=adz (Txt.split a ⟨#[32]⟩)
   rw[PySem.StrLaws.join_split a ⟨#[32]⟩] at z
   rw[ae3];omega
  have hsp:Txt.split a (Str.ofString " ")=u::us:=hws
  refine⟨rfl,by decide+kernel,by omega,by rw[PySem.length_partsBetween];omega,by omega,fun l hl=>?_⟩
  rw[hsp] at hlen ⊢
  rw[List.length_cons] at hlen
  have s1:=aah (o:=.lst ((u::us).map V.str)) (aad (H:=H)) hl
  have hl1':upd H l (.lst ((u::us).map V.str)) l=some (.lst ((u::us).map V.str)):=aaj
  generalize upd H l (.lst ((u::us).map V.str))=H1 at *
  refine⟨_,SqL.of hl1',V.str u,aan (j:=0) rfl,_,.inl ⟨_,SqL.of hl1',rfl⟩,u,rfl,fun _=>q _ s1,fun f hf hF a4 hq=>?_⟩
  have hul:us.length=f.ks.length:=by
   have:=hF.2
   rw[List.length_map,List.length_cons] at this
   omega
  obtain⟨i0,k0,x0,hk0,hx0,hbad⟩:=hB f hf u us hws hF.1 hul
  refine⟨fun _ _=>False,?_,fun _ _ z=>z.elim⟩
  walk_at "wp"
  refine⟨_,SqL.of hl1',V.str u,aan (j:=0) rfl,fun p hp=>?_⟩
  have s2:=aah (o:=.tup [V.str u]) (aad (H:=H1)) hp
  generalize upd H1 p (.tup [V.str u])=H2 at *
  unfold tCompX
  walk_at "wp"
  refine⟨_,hq H2,(fun z=>absurd z.1 (by
   have:HT.sIx (fI f).length 0 (some 1)=min 1 (fI f).length:=by simp[HT.sIx]
   rw[this]
   unfold fI
   rw[List.length_cons]
   omega)),fun p1 hp1=>?_⟩
  rw[show cutV (fI f) (some 1) none=f.ks.map (fun k=>V.str (fkW k)) from cut1]
  have s3:=aah (o:=.tup (f.ks.map fun k=>V.str (fkW k))) (aad (H:=H2)) hp1
  have hp3:upd H2 p1 (.tup (f.ks.map fun k=>V.str (fkW k))) p1=some (.tup (f.ks.map fun k=>V.str (fkW k))):=aaj
  generalize upd H2 p1 (.tup (f.ks.map fun k=>V.str (fkW k)))=H3 at *
  refine⟨_,SqL.of (s3 _ _ (s2 _ _ hl1')),fun p2 hp2'=>?_⟩
  rw[show cutV ((u::us).map V.str) (some 1) none=us.map V.str from cut1]
  have s4:=aah (o:=.lst (us.map V.str)) (aad (H:=H3)) hp2'
  have hp4:upd H3 p2 (.lst (us.map V.str)) p2=some (.lst (us.map V.str)):=aaj
  generalize upd H3 p2 (.lst (us.map V.str))=H4 at *
  have hp34:=s4 _ _ hp3
  have s14:=((s1.trans s2).trans s3).trans s4
  refine⟨_,SqT.of hp34,_,SqL.of hp4,fun D hD=>?_⟩
  refine af1 (K:=K) (xs:=f.ks.map fun k=>V.str (fkW k)) (ys:=us.map V.str) (fun i zs σ H'=>∃v0 v1,σ=[v0,v1]∧Same H4 H'∧H' D=some (.lst zs)∧zs.length=i∧i≤i0) (by rw[List.length_map,List.length_map];omega) ⟨_,_,rfl,aah aad hD,aaj,rfl,Nat.zero_le _⟩ (fun i zs σ H' _ ⟨_,_,_,e,_⟩=>⟨SqT.of (e _ _ hp34),SqL.of (e _ _ hp4)⟩) (fun i x y t zs σ H' hi1 hi2=>?_) (fun zs σ H'=>?_)
  ·rintro⟨v0,v1,rfl,s5,hD5,hzl,hi0⟩ ht
   walk_at "wp"
   rw[List.getElem?_map] at hi1 hi2
   cases e1:f.ks[i]? with
   |none=>rw[e1] at hi1;cases hi1
   |some k'=>
    cases e2:us[i]? with
    |none=>rw[e2] at hi2;cases hi2
    |some x'=>
     rw[e1] at hi1
     rw[e2] at hi2
     obtain rfl:V.str (fkW k')=x:=Option.some.inj hi1
     obtain rfl:V.str x'=y:=Option.some.inj hi2
     obtain⟨ha',hl'⟩:=hin x' (List.mem_cons_of_mem _ (List.mem_of_getElem? e2))
     have s7:=aah (o:=.tup [V.str (fkW k'),V.str x']) (aad (H:=H')) ht
     refine⟨_,SqT.of aaj,rfl,_,_,rfl,_,_,rfl,rfl,k',rfl,x',rfl,by omega,ha',fun _ H6 s6=>q _ (((s14.trans s5).trans s7).trans s6),fun n hnb _ H6 s6=>?_⟩
     have hne:i≠i0:=fun z=>by
      rw[z,hk0] at e1;cases e1
      rw[z,hx0] at e2;cases e2
      exact hnb hbad
     have hz:=PySem.sizeLine_eq
     have hiu:i < us.length:=(List.getElem?_eq_some_iff.mp e2).1
     exact⟨s6 _ _ (s7 _ _ hD5),by omega,aca ((s5.trans s7).trans s6) hD,by rw[List.length_append,hzl];rfl,by omega⟩
  ·rintro⟨v0,v1,rfl,s5,hD5,hzl,hi0⟩
   have:=(List.getElem?_eq_some_iff.mp hk0).1
   rw[List.length_map] at hi0
   omega
theorem ac0 {a:Str} (h:Good a):Asc a:=fun i c hi=>by
 have:=h.d i c hi
 omega
theorem w_asc {k:Fk} {x:Int} (h:okF k x):Asc (wtF k x):=by
 cases k with
 |n=>exact ac0 (ab4 h.1 h.2).1
 |v=>
  show Asc (Str.ofString (toString x))
  by_cases c:0≤x
  ·exact ac0 (ab4 c h.2).1
  ·obtain⟨m,rfl⟩:∃m,x= -m:=⟨-x,by omega⟩
   have h1:=h.1
   have hn:=aff (n:=m) (by omega)
   have ha:=ac0 (ab4 (n:=m) (by omega) (by omega)).1
   intro i c hi
   rw[←Array.getElem?_toList,hn] at hi
   cases i with
   |zero=>cases hi;decide
   |succ i=>rw[List.getElem?_cons_succ,Array.getElem?_toList] at hi;exact ha i c hi
 |r=>
  have h0:=h.1
  have h1:=h.2
  have key:∀s∈rts,Asc s:=fun s hs i c hi=>by
   have z:∀s∈rts,∀c∈s.cps.toList,c < 128:=by decide+kernel
   exact z s hs c (List.mem_of_getElem? (by rw[Array.getElem?_toList];exact hi))
  obtain rfl|rfl|rfl|rfl:x=0∨x=1∨x=2∨x=3:=by omega
  all_goals exact key _ (by decide+kernel)
theorem ajl {k:Fk} {x:Int} (h:okF k x):¬BadW k (wtF k x)∧∀n,valW k (wtF k x) n→n=x:=by
 cases k with
 |n=>
  obtain⟨g,e⟩:=ab4 h.1 h.2
  exact⟨fun z=>z g,fun n hn=>by
   have hn:PySem.intText? (Str.ofString (toString x))=some n:=hn
   rw[e] at hn;exact (Option.some.inj hn).symm⟩
 |v=>
  obtain⟨_,⟨h1,h2,h3⟩|⟨m,h1,h2,h3,h4,h5⟩⟩:=ahu h
  ·have hd:dash (wtF .v x)=false:=h1
   refine⟨fun z=>z.elim (fun z=>z.2 h2) (fun z=>by rw[hd] at z;cases z.1),fun n z=>z.elim (fun z=>?_) (fun z=>by rw[hd] at z;cases z.1)⟩
   have:=z.2
   rw[show PySem.intText? (wtF .v x)=some x from h3] at this
   exact (Option.some.inj this).symm
  ·have hd:dash (wtF .v x)=true:=h1
   have h3:PySem.intText? (tail1 (wtF .v x))=some m:=h3
   refine⟨fun z=>z.elim (fun z=>by rw[hd] at z;cases z.1) (fun z=>z.2.elim (fun y=>y h2) (fun y=>h4 (by rw[h3] at y;exact Option.some.inj y))),fun n z=>z.elim (fun z=>by rw[hd] at z;cases z.1) fun z=>?_⟩
   obtain⟨m',e,rfl⟩:=z.2
   rw[h3] at e
   cases e
   omega
 |r=>
  have h0:=h.1
  have h1:=h.2
  have key:∀j:Nat,j < 4→x=j→¬BadW .r (wtF .r x)∧∀n,valW .r (wtF .r x) n→n=x:=fun j hj e=>by
   subst e
   have hq:rts[j]?=some (wtF .r j):=by
    obtain rfl|rfl|rfl|rfl:j=0∨j=1∨j=2∨j=3:=by omega
    all_goals rfl
   refine⟨fun z=>z (List.mem_of_getElem? hq),fun n ⟨i,e,hi⟩=>?_⟩
   rw[e,(List.getElem?_inj (List.getElem?_eq_some_iff.mp hi).1 (show rts.Nodup by decide+kernel)).mp (hi.trans hq.symm)]
  exact key x.toNat (by omega) (by omega)
noncomputable def sp_row:Sp:=fun vs H Q _=>∃f xs,vs=[.str (rowT f xs)]∧Ok f xs∧∀p H',Same H H'→H' p=some (.tup (due f xs))→Q (.ref p) H'
theorem h_row (T:Txt K mg A):Have P w K mg base "read_row" 5 ["text"] [] sp_row:=by
 have H_form_of:=ajj (P:=P) (w:=w) (base:=base) T
 have H_read_word:=h_rw (P:=P) (w:=w) (base:=base) T
 refine T.r_read_row.have aba (fun vs H Q E z=>?_) ?_
 ·obtain⟨f,xs,rfl,_⟩:=z;rfl
 ·intro f cdv A' outer s H vs Q E hr z
  obtain⟨f,xs,rfl,hO,q⟩:=z
  refine⟨_,(aag (aa0 (i:=1) aba.nd rfl (Or.inl rfl) (acx PySem.F.plainAttrs_str PySem.F.slot_str_split PySem.F.type_str_split af0 (pvM 0) (aaa aac aab)))
   (aag (aa0 (i:=2) aba.nd rfl (Or.inl rfl) (aai H_form_of (hr.mono (by decide)) aar (aaa (abg abf (pvM 1) aae (fun _ _=>rfl)) (aaa (aaq aay rfl T.b_len PySem.boot_len (aaa (pvM 1) aab)) aab))))
   (aax (aa0 (i:=3) aba.nd rfl (Or.inl rfl) (aao ad6 (abm (aaa (abg abf (pvM 1) aae (fun _ _=>rfl)) aab)) (ab0 aco rfl T.b_tuple PyProof.Rows.boot_tuple (aaa (af2 ahr rfl (ajh rfl T.b_zip (aaa (abd ajf (pvM 2) (abn aae) abw) (aaa (abd acw (pvM 1) (abn aae) abw) aab))) (x:="kind") (xs:=["kind","word"]) (fs:=[]) (ix:=[]) rfl rfl (fun _ _ _ _ _ _=>(ahd (K:=K) (n:=2) rfl rfl (acj (abz (i:=0) (show (["kind","word"]:List Str).Nodup by decide+kernel) rfl (Or.inl rfl)) (acj (abz (i:=1) (show (["kind","word"]:List Str).Nodup by decide+kernel) rfl (Or.inl rfl)) ae7)))) (fun _ _ _ _ _ _=>aha) (fun _ _ _ _ _ _ _ xwc=>(aai H_read_word (hr.mono (by decide)) xwc (aaa (pvM 0) (aaa (pvM 1) aab))))) aab))))
   (aag (abc (PW.pt (ac4 (aal abu (abg afn (pvM 3) aae (fun _ _=>rfl)) aac (nomark _)) (ace (aal abu (aaq aay rfl T.b_len PySem.boot_len (aaa (pvM 3) aab)) aae (nomark _))))) (aaf (aak (aao ad6 (pvM 3) (aaw rfl T.c_NO_BANK)))) aam)
   (aaf (aak (pvM 3))))))),?_⟩
  unfold afh akj
  walk_at "wp"
  obtain⟨hw1,hw2,hw3⟩:=akf hO
  obtain⟨hl1,hl2⟩:=aed hO
  have hsp:Txt.split (rowT f xs) (Str.ofString " ")=wsF f xs:=ack (fun z=>nomatch z) (fun p hp=>(hw1 p hp).1)
  have hoc:=PySem.StrLaws.occ_length_le (rowT f xs) (Str.ofString " ") 0 (rowT f xs).length ((rowT f xs).length+1)
  obtain⟨⟨k,hk⟩,hxl,hxo⟩:=id hO
  refine⟨rfl,by decide+kernel,by omega,by rw[PySem.length_partsBetween];omega,by rw[hsp];omega,fun l hl=>?_⟩
  rw[hsp]
  have s1:=aah (o:=.lst ((wsF f xs).map V.str)) (aad (H:=H)) hl
  have hl1':upd H l (.lst ((wsF f xs).map V.str)) l=some (.lst ((wsF f xs).map V.str)):=aaj
  generalize upd H l (.lst ((wsF f xs).map V.str))=H1 at *
  refine⟨_,SqL.of hl1',V.str f.w,aan (j:=0) rfl,_,.inl ⟨_,SqL.of hl1',rfl⟩,f.w,rfl,fun z=>absurd ⟨rfl,by rw[List.length_map];omega⟩ (z f (List.mem_of_getElem? hk)),fun g hg hG a hq=>?_⟩
  obtain⟨j,hj⟩:=List.mem_iff_getElem?.mp hg
  obtain rfl:j=k:=f_one hj hk hG.1 (by have:=hG.2;rw[List.length_map] at this;omega)
  rw[hk] at hj
  obtain rfl:f=g:=Option.some.inj hj
  refine⟨fun σ G=>∃v1 v2 d,σ=[some (.str (rowT f xs)),v1,v2,some (.ref d)]∧Same H G∧G d=some (.tup (V.str f.w::xs.map V.int)),?_,fun σ' G=>?_⟩
  rotate_left
  ·rintro⟨u1,u2,d,rfl,s7,hd7⟩
   walk_at "wp"
   refine⟨_,SqT.of hd7,V.str f.w,aan (j:=0) rfl,rfl,?_⟩
   by_cases c1:f.w=Str.ofString "lay"
   ·rw[if_pos (by rw[c1])]
    refine⟨_,.inr ⟨_,SqT.of hd7,rfl⟩,?_⟩
    by_cases c2:f.ks.length=4
    ·rw[if_pos (by rw[List.length_cons,List.length_map];omega)]
     refine⟨_,SqT.of hd7,_,T.q_NO_BANK G,(fun z=>nomatch z),by rw[List.length_cons,List.length_map];show xs.length+1+2≤16777216;omega,(fun z=>nomatch z),fun _ p7 hp7=>q p7 _ (aah s7 hp7) ?_⟩
     unfold due
     rw[if_pos ⟨c1,c2⟩]
     exact aaj
    ·rw[if_neg (by rw[List.length_cons,List.length_map];omega)]
     refine q d G s7 ?_
     unfold due
     rw[if_neg (fun z=>c2 z.2),List.append_nil]
     exact hd7
   ·rw[if_neg (fun z=>c1 (V.str.inj z))]
    refine iteF (q d G s7 ?_)
    unfold due
    rw[if_neg (fun z=>c1 z.1),List.append_nil]
    exact hd7
  walk_at "wp"
  refine⟨_,SqL.of hl1',V.str f.w,aan (j:=0) rfl,fun p hp=>?_⟩
  have s2:=aah (o:=.tup [V.str f.w]) (aad (H:=H1)) hp
  have hp2:upd H1 p (.tup [V.str f.w]) p=some (.tup [V.str f.w]):=aaj
  generalize upd H1 p (.tup [V.str f.w])=H2 at *
  unfold tCompX
  walk_at "wp"
  refine⟨_,hq H2,(fun z=>absurd z.1 (by
   have:HT.sIx (fI f).length 0 (some 1)=min 1 (fI f).length:=by simp[HT.sIx]
   rw[this]
   unfold fI
   rw[List.length_cons]
   omega)),fun p1 hp1=>?_⟩
  rw[show cutV (fI f) (some 1) none=f.ks.map (fun k=>V.str (fkW k)) from cut1]
  have s3:=aah (o:=.tup (f.ks.map fun k=>V.str (fkW k))) (aad (H:=H2)) hp1
  have hp3:upd H2 p1 (.tup (f.ks.map fun k=>V.str (fkW k))) p1=some (.tup (f.ks.map fun k=>V.str (fkW k))):=aaj
  generalize upd H2 p1 (.tup (f.ks.map fun k=>V.str (fkW k)))=H3 at *
  refine⟨_,SqL.of (s3 _ _ (s2 _ _ hl1')),fun p2 hp2'=>?_⟩
  rw[show cutV ((wsF f xs).map V.str) (some 1) none=(List.zipWith wtF f.ks xs).map V.str from cut1]
  have s4:=aah (o:=.lst ((List.zipWith wtF f.ks xs).map V.str)) (aad (H:=H3)) hp2'
  have hp4:upd H3 p2 (.lst ((List.zipWith wtF f.ks xs).map V.str)) p2=some (.lst ((List.zipWith wtF f.ks xs).map V.str)):=aaj
  generalize upd H3 p2 (.lst ((List.zipWith wtF f.ks xs).map V.str))=H4 at *
  have hp34:=s4 _ _ hp3
  have s14:=((s1.trans s2).trans s3).trans s4
  have hw4:=s4 _ _ (s3 _ _ hp2)
  clear hl hl1' hp hp2 hp1 hp3 hp2' s1 s2 s3 s4
  refine⟨_,SqT.of hp34,_,SqL.of hp4,fun D hD=>?_⟩
  refine af1 (K:=K) (xs:=f.ks.map fun k=>V.str (fkW k)) (ys:=(List.zipWith wtF f.ks xs).map V.str) (fun i zs σ H'=>∃v0 v1,σ=[v0,v1]∧Same H4 H'∧H' D=some (.lst zs)∧zs=(xs.take i).map V.int) (by rw[List.length_map,List.length_map,List.length_zipWith];omega) ⟨_,_,rfl,aah aad hD,aaj,rfl⟩ (fun i zs σ H' _ ⟨_,_,_,e,_⟩=>⟨SqT.of (e _ _ hp34),SqL.of (e _ _ hp4)⟩) (fun i x y t zs σ H' hi1 hi2=>?_) (fun zs σ H'=>?_)
  ·rintro⟨v0,v1,rfl,s5,hD5,rfl⟩ ht
   walk_at "wp"
   rw[List.getElem?_map] at hi1 hi2
   rw[List.getElem?_zipWith] at hi2
   cases e1:f.ks[i]? with
   |none=>rw[e1] at hi1;cases hi1
   |some k'=>
    cases e2:xs[i]? with
    |none=>rw[e1,e2] at hi2;cases hi2
    |some x'=>
     rw[e1] at hi1
     rw[e1,e2] at hi2
     obtain rfl:V.str (fkW k')=x:=Option.some.inj hi1
     obtain rfl:V.str (wtF k' x')=y:=Option.some.inj hi2
     refine⟨_,SqT.of aaj,rfl,_,_,rfl,_,_,rfl,rfl,k',rfl,wtF k' x',rfl,by have:=(adl (hxo i k' x' e1 e2)).2;omega,w_asc (hxo i k' x' e1 e2),fun z=>absurd z (ajl (hxo i k' x' e1 e2)).1,fun n _ hv H6 s6=>?_⟩
     obtain rfl:x'=n:=((ajl (hxo i k' x' e1 e2)).2 n hv).symm
     have s7:=aah (o:=.tup [V.str (fkW k'),V.str (wtF k' x')]) (aad (H:=H')) ht
     exact⟨s6 _ _ (s7 _ _ hD5),by rw[List.length_map,List.length_take];omega,aca ((s5.trans s7).trans s6) hD,by rw[List.take_add_one,e2,List.map_append];rfl⟩
  ·rintro⟨v0,v1,rfl,s5,hD5,rfl⟩
   rw[List.length_map,←hxl,List.take_length] at hD5
   have hw5:=s5 _ _ hw4
   have s15:=s14.trans s5
   refine⟨_,.inl ⟨SqL.of hD5,fun l2 hl2=>?_⟩⟩
   have s6:=aah (o:=.tup (xs.map V.int)) (aad (H:=H')) hl2
   have hl6:upd H' l2 (.tup (xs.map V.int)) l2=some (.tup (xs.map V.int)):=aaj
   generalize upd H' l2 (.tup (xs.map V.int))=H6 at *
   have s16:=s15.trans s6
   have hz:=PySem.sizeLine_eq
   exact⟨_,SqT.of (s6 _ _ hw5),_,SqT.of hl6,(fun z=>nomatch z),by rw[List.length_map];show 1+xs.length≤16777216;omega,fun h0=>⟨s16,by rw[h0];exact s6 _ _ hw5⟩,fun h0 p6 hp6=>⟨aah s16 hp6,rfl⟩⟩
noncomputable def fkC:Fk→Nat
 |.n=>110
 |.v=>118
 |.r=>114
noncomputable def kst (f:Fm):Str:=⟨(f.ks.map fkC).toArray⟩
theorem abe {H:Hp} {p:Addr} {o:HO} (h:H p=none):Same H (upd H p o)∧upd H p o p=some o:=⟨aah aad h,aaj⟩
inductive LF (H:Hp):List V→List Fm→Prop where
 |nil:LF H [] []
 |cons {t:Addr} {f:Fm} {us:List V} {fs:List Fm}:H t=some (.tup [.str f.w,.str (kst f)])→LF H us fs→LF H (.ref t::us) (f::fs)
theorem LF.same {H H':Hp} {us:List V} {fs:List Fm} (h:LF H us fs) (s:Same H H'):LF H' us fs:=by
 induction h with
 |nil=>exact .nil
 |cons e _ ih=>exact .cons (s _ _ e) ih
theorem LF.app {H:Hp} {us vs:List V} {fs gs:List Fm} (h:LF H us fs) (h2:LF H vs gs):LF H (us++vs) (fs++gs):=by
 induction h with
 |nil=>exact h2
 |cons e _ ih=>exact .cons e ih
theorem LF.get {H:Hp} {us:List V} {fs:List Fm} (h:LF H us fs):∀{i:Nat} {f:Fm},fs[i]?=some f→∃t,us[i]?=some (.ref t)∧H t=some (.tup [.str f.w,.str (kst f)]):=by
 induction h with
 |nil=>intro i f e;cases e
 |cons e _ ih=>
  intro i f h
  cases i with
  |zero=>cases h;exact⟨_,rfl,e⟩
  |succ i=>exact ih h
theorem LF.len {H:Hp} {us:List V} {fs:List Fm} (h:LF H us fs):us.length=fs.length:=by
 induction h with
 |nil=>rfl
 |cons _ _ ih=>rw[List.length_cons,List.length_cons,ih]
noncomputable def sp_lform:Sp:=fun vs H Q _=>∃(c:Int),vs=[.int c]∧∀(k:Nat) f t H',fms[k]?=some f→Same H H'→H' t=some (.tup [.str f.w,.str (kst f)])→Q (.ref t) H'
theorem akk (T:Txt K mg A):Have P w K mg base "_law_form" 1 ["_law_cell"] [] sp_lform:=by
 refine T.r_l_form.have acs (fun vs H Q E z=>?_) ?_
 ·obtain⟨c,rfl,_⟩:=z;rfl
 ·intro f cdv A' outer s H vs Q E hr z
  obtain⟨c,rfl,q⟩:=z
  refine⟨_,(@aax _ _ _ _ _ (@aa0 _ _ 1 _ _ _ _ acs.nd rfl (Or.inl rfl) (@acd _ _ _ _ (@aaa _ _ _ _ _ (abm (aaa aac (aaa aac aab))) (@aaa _ _ _ _ _ (abm (aaa aac (aaa aac aab))) (@aaa _ _ _ _ _ (abm (aaa aac (aaa aac aab))) (@aaa _ _ _ _ _ (abm (aaa aac (aaa aac aab))) (@aaa _ _ _ _ _ (abm (aaa aac (aaa aac aab))) (@aaa _ _ _ _ _ (abm (aaa aac (aaa aac aab))) aab rfl) rfl) rfl) rfl) rfl) rfl)) rfl (Or.inl rfl))
   (@aax _ _ _ _ _ (@aa0 _ _ 1 _ _ _ _ acs.nd rfl (Or.inl rfl) (aao afp (pvM 1) (@acd _ _ _ _ (@aaa _ _ _ _ _ (abm (aaa aac (aaa aac aab))) (@aaa _ _ _ _ _ (abm (aaa aac (aaa aac aab))) (@aaa _ _ _ _ _ (abm (aaa aac (aaa aac aab))) (@aaa _ _ _ _ _ (abm (aaa aac (aaa aac aab))) (@aaa _ _ _ _ _ (abm (aaa aac (aaa aac aab))) aab rfl) rfl) rfl) rfl) rfl))) rfl (Or.inl rfl))
   (aax (aa0 (i:=1) acs.nd rfl (Or.inl rfl) (aao afp (pvM 1) (acd (aaa (abm (aaa aac (aaa aac aab))) (aaa (abm (aaa aac (aaa aac aab))) (aaa (abm (aaa aac (aaa aac aab))) (aaa (abm (aaa aac (aaa aac aab))) aab)))))))
   (aaf (aak (abg abf (pvM 1) (aao abl (pvM 0) aae) (fun _ _=>rfl))))))),?_⟩
  have hz:=PySem.sizeLine_eq
  refine⟨fun σ H'=>∃l us,σ=[some (.int c),some (.ref l)]∧Same H H'∧H' l=some (.lst us)∧LF H' us (fms.take 6),?_,fun σ1 H1=>?_⟩
  ·walk_at "wp"
   intro p0 e0
   obtain⟨t0,g0⟩:=abe (o:=.tup [V.str (Str.ofString "new"),V.str (Str.ofString "")]) e0
   generalize upd H p0 _=G0 at *
   rw[show (Str.ofString "":Str)=kst fms[0] by decide+kernel] at g0
   intro p1 e1
   obtain⟨t1,g1⟩:=abe (o:=.tup [V.str (Str.ofString "fork"),V.str (Str.ofString "n")]) e1
   generalize upd G0 p1 _=G1 at *
   rw[show (Str.ofString "n":Str)=kst fms[1] by decide+kernel] at g1
   intro p2 e2
   obtain⟨t2,g2⟩:=abe (o:=.tup [V.str (Str.ofString "end"),V.str (Str.ofString "n")]) e2
   generalize upd G1 p2 _=G2 at *
   rw[show (Str.ofString "n":Str)=kst fms[2] by decide+kernel] at g2
   intro p3 e3
   obtain⟨t3,g3⟩:=abe (o:=.tup [V.str (Str.ofString "bank"),V.str (Str.ofString "n")]) e3
   generalize upd G2 p3 _=G3 at *
   rw[show (Str.ofString "n":Str)=kst fms[3] by decide+kernel] at g3
   intro p4 e4
   obtain⟨t4,g4⟩:=abe (o:=.tup [V.str (Str.ofString "drop"),V.str (Str.ofString "n")]) e4
   generalize upd G3 p4 _=G4 at *
   rw[show (Str.ofString "n":Str)=kst fms[4] by decide+kernel] at g4
   intro p5 e5
   obtain⟨t5,g5⟩:=abe (o:=.tup [V.str (Str.ofString "lay"),V.str (Str.ofString "nnnr")]) e5
   generalize upd G4 p5 _=G5 at *
   rw[show (Str.ofString "nnnr":Str)=kst fms[5] by decide+kernel] at g5
   intro l el
   obtain⟨tl,gl⟩:=abe (o:=.lst [V.ref p0,V.ref p1,V.ref p2,V.ref p3,V.ref p4,V.ref p5]) el
   exact⟨((((((t0).trans t1).trans t2).trans t3).trans t4).trans t5).trans tl,_,rfl,.cons (f:=fms[0]) (tl _ _ (t5 _ _ (t4 _ _ (t3 _ _ (t2 _ _ (t1 _ _ (g0))))))) (.cons (f:=fms[1]) (tl _ _ (t5 _ _ (t4 _ _ (t3 _ _ (t2 _ _ (g1)))))) (.cons (f:=fms[2]) (tl _ _ (t5 _ _ (t4 _ _ (t3 _ _ (g2))))) (.cons (f:=fms[3]) (tl _ _ (t5 _ _ (t4 _ _ (g3)))) (.cons (f:=fms[4]) (tl _ _ (t5 _ _ (g4))) (.cons (f:=fms[5]) (tl _ _ (g5)) (.nil))))))⟩
  rintro⟨l1,us1,rfl,s1,hl1,hF1⟩
  refine⟨fun σ H'=>∃l us,σ=[some (.int c),some (.ref l)]∧Same H H'∧H' l=some (.lst us)∧LF H' us (fms.take 11),?_,fun σ2 H2=>?_⟩
  ·walk_at "wp"
   intro p6 e6
   obtain⟨t6,g6⟩:=abe (o:=.tup [V.str (Str.ofString "lay"),V.str (Str.ofString "nnnrnn")]) e6
   generalize upd H1 p6 _=G6 at *
   rw[show (Str.ofString "nnnrnn":Str)=kst fms[6] by decide+kernel] at g6
   intro p7 e7
   obtain⟨t7,g7⟩:=abe (o:=.tup [V.str (Str.ofString "lift"),V.str (Str.ofString "nnn")]) e7
   generalize upd G6 p7 _=G7 at *
   rw[show (Str.ofString "nnn":Str)=kst fms[7] by decide+kernel] at g7
   intro p8 e8
   obtain⟨t8,g8⟩:=abe (o:=.tup [V.str (Str.ofString "guard"),V.str (Str.ofString "nnnr")]) e8
   generalize upd G7 p8 _=G8 at *
   rw[show (Str.ofString "nnnr":Str)=kst fms[8] by decide+kernel] at g8
   intro p9 e9
   obtain⟨t9,g9⟩:=abe (o:=.tup [V.str (Str.ofString "read"),V.str (Str.ofString "nn")]) e9
   generalize upd G8 p9 _=G9 at *
   rw[show (Str.ofString "nn":Str)=kst fms[9] by decide+kernel] at g9
   intro p10 e10
   obtain⟨t10,g10⟩:=abe (o:=.tup [V.str (Str.ofString "write"),V.str (Str.ofString "nnv")]) e10
   generalize upd G9 p10 _=G10 at *
   rw[show (Str.ofString "nnv":Str)=kst fms[10] by decide+kernel] at g10
   intro l el
   obtain⟨tl,gl⟩:=abe (o:=.lst [V.ref p6,V.ref p7,V.ref p8,V.ref p9,V.ref p10]) el
   have sa:=(((((t6).trans t7).trans t8).trans t9).trans t10).trans tl
   have hF:=(hF1.same sa).app (LF.cons (f:=fms[6]) (tl _ _ (t10 _ _ (t9 _ _ (t8 _ _ (t7 _ _ (g6)))))) (.cons (f:=fms[7]) (tl _ _ (t10 _ _ (t9 _ _ (t8 _ _ (g7))))) (.cons (f:=fms[8]) (tl _ _ (t10 _ _ (t9 _ _ (g8)))) (.cons (f:=fms[9]) (tl _ _ (t10 _ _ (g9))) (.cons (f:=fms[10]) (tl _ _ (g10)) (.nil))))))
   exact⟨_,sa _ _ hl1,_,rfl,by rw[hF1.len];show 6+5≤16777216;decide,fun p hp=>⟨aah (s1.trans sa) hp,_,rfl,hF.same (aah aad hp)⟩⟩
  rintro⟨l2,us2,rfl,s2,hl2,hF2⟩
  refine⟨fun σ H'=>∃l us,σ=[some (.int c),some (.ref l)]∧Same H H'∧H' l=some (.lst us)∧LF H' us fms,?_,fun σ3 H3=>?_⟩
  ·walk_at "wp"
   intro p11 e11
   obtain⟨t11,g11⟩:=abe (o:=.tup [V.str (Str.ofString "fold"),V.str (Str.ofString "")]) e11
   generalize upd H2 p11 _=G11 at *
   rw[show (Str.ofString "":Str)=kst fms[11] by decide+kernel] at g11
   intro p12 e12
   obtain⟨t12,g12⟩:=abe (o:=.tup [V.str (Str.ofString "see"),V.str (Str.ofString "nn")]) e12
   generalize upd G11 p12 _=G12 at *
   rw[show (Str.ofString "nn":Str)=kst fms[12] by decide+kernel] at g12
   intro p13 e13
   obtain⟨t13,g13⟩:=abe (o:=.tup [V.str (Str.ofString "laid"),V.str (Str.ofString "n")]) e13
   generalize upd G12 p13 _=G13 at *
   rw[show (Str.ofString "n":Str)=kst fms[13] by decide+kernel] at g13
   intro p14 e14
   obtain⟨t14,g14⟩:=abe (o:=.tup [V.str (Str.ofString "live"),V.str (Str.ofString "")]) e14
   generalize upd G13 p14 _=G14 at *
   rw[show (Str.ofString "":Str)=kst fms[14] by decide+kernel] at g14
   intro l el
   obtain⟨tl,gl⟩:=abe (o:=.lst [V.ref p11,V.ref p12,V.ref p13,V.ref p14]) el
   have sa:=((((t11).trans t12).trans t13).trans t14).trans tl
   have hF:=(hF2.same sa).app (LF.cons (f:=fms[11]) (tl _ _ (t14 _ _ (t13 _ _ (t12 _ _ (g11))))) (.cons (f:=fms[12]) (tl _ _ (t14 _ _ (t13 _ _ (g12)))) (.cons (f:=fms[13]) (tl _ _ (t14 _ _ (g13))) (.cons (f:=fms[14]) (tl _ _ (g14)) (.nil)))))
   exact⟨_,sa _ _ hl2,_,rfl,by rw[hF2.len];show 11+4≤16777216;decide,fun p hp=>⟨aah (s2.trans sa) hp,_,rfl,hF.same (aah aad hp)⟩⟩
  rintro⟨l3,us3,rfl,s3,hl3,hF3⟩
  walk_at "wp"
  obtain⟨j,hj⟩:∃j:Nat,c % 15=(j:Int):=⟨(c % 15).toNat,by omega⟩
  have hj15:j < 15:=by omega
  obtain⟨f,hf⟩:∃f,fms[j]?=some f:=⟨_,List.getElem?_eq_getElem (show j < fms.length from hj15)⟩
  obtain⟨t,ht,hT⟩:=hF3.get hf
  rw[hj]
  exact⟨_,SqL.of hl3,_,aan ht,q j f t H3 hf s3 hT⟩
noncomputable def akl (K:PySem.W.Frag) (a:Addr) (ns:List Int):Sp:=fun vs H Q _=>∃(k:Int),vs=[.ref a,.int k]∧SqL K H a (ns.map V.int)∧0≤k∧Q (.int (ns.getD k.toNat 0)) H
theorem h_cell (T:Txt K mg A) (a:Addr) (ns:List Int):Have P w K mg base "_law_cell_at" 1 ["_law_script","_law_k"] [] (akl K a ns):=by
 refine T.r_l_cell_at.have ae1 (fun vs H Q E z=>?_) ?_
 ·obtain⟨k,rfl,_⟩:=z;rfl
 ·intro f cdv A' outer s H vs Q E hr z
  obtain⟨k,rfl,hs,hk,q⟩:=z
  refine⟨_,(aag (abc (aal op_lt (pvM 1) (aaq aay rfl T.b_len PySem.boot_len (aaa (pvM 0) aab)) (nomark _)) (aaf (aak (abg abf (pvM 0) (pvM 1) (fun _ _=>rfl)))) aam)
   (aaf (aak aae))),?_⟩
  walk_at "wp"
  refine⟨ns.length,.inl ⟨_,hs,by simp⟩,?_⟩
  by_cases c:k < (ns.length:Int)
  ·rw[if_pos c]
   refine⟨_,hs,.int (ns.getD k.toNat 0),?_,q⟩
   have hlt:k.toNat < ns.length:=by omega
   have e:atI (ns.map V.int) ((k.toNat:Nat):Int)=some (.int (ns.getD k.toNat 0)):=aan (by simp[hlt])
   rw[show ((k.toNat:Nat):Int)=k by omega] at e
   exact e
  ·rw[if_neg c]
   have hge:ns.length≤k.toNat:=by omega
   rw[show ns.getD k.toNat 0=0 by simp[List.getD,hge]] at q
   exact q
noncomputable def sgs:Str:=Str.ofString " !\"#$&'()*+,-./0123456789:;<=>?@ABCDEFGHIJKLMNOPQRSTUVWXYZ[\\]^_`"++Str.ofString "abcdefghijklmnopqrstuvwxyz{|}~"
theorem ajm:sgs.cps.size=94∧∀c∈sgs.cps.toList,32≤c∧c≤126:=by decide+kernel
noncomputable def sp_sign:Sp:=fun vs H Q _=>∃c:Int,vs=[.int c]∧∀x:Nat,32≤x→x≤126→Q (.str ⟨#[x]⟩) H
theorem h_sign (T:Txt K mg A):Have P w K mg base "_law_sign" 1 ["_law_cell"] [] sp_sign:=by
 refine T.r_l_sign.have adi (fun vs H Q E z=>?_) ?_
 ·obtain⟨c,rfl,_⟩:=z;rfl
 ·intro f cdv A' outer s H vs Q E hr z
  obtain⟨c,rfl,q⟩:=z
  refine⟨_,(aag (aa0 (i:=1) adi.nd rfl (Or.inl rfl) aac)
   (aag (aa0 (i:=1) adi.nd rfl (Or.inl rfl) (aao aa2 (pvM 1) aac))
   (aaf (aak (abg ac5 (pvM 1) (aao abl (pvM 0) aae) (fun _ _=>rfl)))))),?_⟩
  unfold rIxS rCatS
  walk_at "wp"
  obtain⟨j,hj,e⟩:∃j:Nat,j < 94∧c % 94=j:=⟨(c % 94).toNat,by omega,by omega⟩
  have hs:j < sgs.cps.size:=by rw[ajm.1];exact hj
  have hg:sgs.cps.toList[j]?=some sgs.cps[j]:=by rw[Array.getElem?_toList];exact Array.getElem?_eq_getElem hs
  obtain⟨h1,h2⟩:=ajm.2 _ (List.mem_of_getElem? hg)
  rw[e]
  exact⟨by decide+kernel,by decide+kernel,sgs.cps[j],aan hg,q _ h1 h2⟩
theorem in_all:∀b∈[Str.ofString "-0123456789",Str.ofString "",Str.ofString "r-",Str.ofString "w-"],∀c:Fin 128,(!(Builtin.Str.occurrences b ⟨#[c.1]⟩ 0 b.length 1).isEmpty)=decide (c.1∈b.cps.toList):=by decide+kernel
noncomputable def sp_oth:Sp:=fun vs H Q _=>∃(s b:Str) (c:Int),vs=[.str s,.int c,.str b]∧b∈[Str.ofString "-0123456789",Str.ofString "",Str.ofString "r-",Str.ofString "w-"]∧∀x:Nat,32≤x→x≤126→(x=63∨(⟨#[x]⟩≠s∧x∉b.cps.toList))→Q (.str ⟨#[x]⟩) H
theorem akm (T:Txt K mg A):Have P w K mg base "_law_other" 2 ["_law_sign_here","_law_cell","_law_barred"] [] sp_oth:=by
 have H_l_sign:=h_sign (P:=P) (w:=w) (base:=base) T
 refine T.r_l_other.have ady (fun vs H Q E z=>?_) ?_
 ·obtain⟨s',b,c,rfl,_⟩:=z;rfl
 ·intro f cdv A' outer s H vs Q E hr z
  obtain⟨s',b,c,rfl,hb,q⟩:=z
  refine⟨_,(aag (aa0 (i:=3) ady.nd rfl (Or.inl rfl) (aai H_l_sign (hr.mono (by decide)) aar (aaa (pvM 1) aab)))
   (aag (abc (PW.pt (ajs (aal abu (pvM 3) (pvM 0) (nomark _)) (agk (aal ahk (pvM 3) (pvM 2) (by with_unfolding_all rfl))))) (aaf (aak aac)) aam)
   (aaf (aak (pvM 3))))),?_⟩
  unfold sp_sign
  walk_at "wp"
  intro x h1 h2
  rw[show Str.ofString "?"=⟨#[63]⟩ by decide+kernel]
  refine ite2 (fun _=>q 63 (by decide) (by decide) (.inl rfl)) (fun e=>ite2 (fun _=>q 63 (by decide) (by decide) (.inl rfl)) (fun e2=>q x h1 h2 (.inr ⟨e,fun z=>e2 ?_⟩)))
  rw[in_all b hb ⟨x,by omega⟩]
  exact decide_eq_true z
theorem ajn {x:Int} (h0: -(10 ^ 60) < x) (h1:x < 10 ^ 60):x.natAbs.log2 < 1920:=by
 by_cases c:x.natAbs=0
 ·rw[c];decide
 ·have h2:x.natAbs < 10 ^ 60:=by omega
  have h3:x.natAbs < 2 ^ 200:=Nat.lt_trans h2 (by decide+kernel)
  have:=(Nat.log2_lt c).mpr h3
  omega
noncomputable def sp_lword:Sp:=fun vs H Q _=>∃(k:Fk) (c:Int),vs=[.int c,.str ⟨#[fkC k]⟩]∧∀x H',okF k x→0≤x→Same H H'→Q (.str (wtF k x)) H'
theorem ahw (T:Txt K mg A):Have P w K mg base "_law_word" 1 ["_law_cell","_law_kind"] [] sp_lword:=by
 refine T.r_l_word.have adj (fun vs H Q E z=>?_) ?_
 ·obtain⟨k,c,rfl,_⟩:=z;rfl
 ·intro f cdv A' outer s H vs Q E hr z
  obtain⟨k,c,rfl,q⟩:=z
  refine⟨_,(aag (abc (aal abu (pvM 1) aac (nomark _)) (aaf (aak (abg afs (acd (aaa aac (aaa aac (aaa aac (aaa aac aab))))) (aao abl (pvM 0) aae) (fun _ _=>rfl)))) aam)
   (aag (aa0 (i:=2) adj.nd rfl (Or.inl rfl) (aao abl (aao ab6 (pvM 0) aae) (aao op_pow aae aae)))
   (aag (abc (aal abu (aao abl (pvM 0) aae) aae (nomark _)) (aaf (aa0 (i:=2) adj.nd rfl (Or.inl rfl) (aao abl (aao ab6 (pvM 0) aae) aae))) aam)
   (aaf (aak (ab0 aev rfl T.b_str PyProof.Rows.boot_str (aaa (pvM 2) aab))))))),?_⟩
  walk_at "wp"
  have num:∀n:Int,0≤n→n < 10 ^ 60→n.natAbs.log2 < 1920:=fun n h0 h1=>ajn (by omega) h1
  cases k with
  |n=>
   rw[if_neg (by decide+kernel)]
   exact ite2 (fun _=>⟨num _ (by omega) (by omega),q _ _ ⟨by omega,by omega⟩ (by omega) aad⟩) (fun _=>⟨num _ (by omega) (by omega),q _ _ ⟨by omega,by omega⟩ (by omega) aad⟩)
  |v=>
   rw[if_neg (by decide+kernel)]
   exact ite2 (fun _=>⟨num _ (by omega) (by omega),q _ _ ⟨by omega,by omega⟩ (by omega) aad⟩) (fun _=>⟨num _ (by omega) (by omega),q _ _ ⟨by omega,by omega⟩ (by omega) aad⟩)
  |r=>
   rw[if_pos (by decide+kernel)]
   intro p hp
   have h0:0≤c % 4:=by omega
   have h1:c % 4 < 4:=by omega
   generalize c % 4=x at *
   obtain rfl|rfl|rfl|rfl:x=0∨x=1∨x=2∨x=3:=by omega
   ·exact⟨_,aan (j:=0) rfl,q 0 _ ⟨h0,h1⟩ h0 (aah aad hp)⟩
   ·exact⟨_,aan (j:=1) rfl,q 1 _ ⟨h0,h1⟩ h0 (aah aad hp)⟩
   ·exact⟨_,aan (j:=2) rfl,q 2 _ ⟨h0,h1⟩ h0 (aah aad hp)⟩
   ·exact⟨_,aan (j:=3) rfl,q 3 _ ⟨h0,h1⟩ h0 (aah aad hp)⟩
theorem sl_to {a:Str} {i:Nat} (h:i≤a.length):Txt.slice a none (some (i:Int))=⟨(a.cps.toList.take i).toArray⟩:=by
 have hl:a.cps.toList.length=a.length:=Array.length_toList
 have e:=PySem.StrLaws.sliceText_to (x:=a) (j:=(i:Int)) ⟨by omega,by omega⟩
 have e2:Txt.slice a none (some (i:Int))=PySem.StrLaws.sliceText a none (some (i:Int)):=rfl
 rw[e2,e]
 refine abp ?_
 show List.take (((i:Int) - 0).toNat) (List.drop 0 a.cps.toList)=List.take i a.cps.toList
 rw[List.drop_zero,show ((i:Int) - 0).toNat=i by omega]
theorem afi {a:Str} {i:Nat} (h:i≤a.length):Txt.slice a (some (i:Int)) none=⟨(a.cps.toList.drop i).toArray⟩:=by
 have hl:a.cps.toList.length=a.length:=Array.length_toList
 have e:=PySem.StrLaws.sliceText_from (x:=a) (i:=(i:Int)) ⟨by omega,by omega⟩
 have e2:Txt.slice a (some (i:Int)) none=PySem.StrLaws.sliceText a (some (i:Int)) none:=rfl
 rw[e2,e]
 refine abp ?_
 show List.take _ (List.drop ((i:Int).toNat) a.cps.toList)=List.drop i a.cps.toList
 rw[show ((i:Int)).toNat=i by omega]
 exact List.take_of_length_le (by rw[List.length_drop];omega)
noncomputable def putS (a:Str) (i:Nat) (s:Str):Str:=⟨(a.cps.toList.take i++s.cps.toList++a.cps.toList.drop (i+1)).toArray⟩
noncomputable def sp_put:Sp:=fun vs H Q _=>∃(a s:Str) (i:Nat),vs=[.str a,.int i,.str s]∧a.length≤2000∧s.length≤2000∧i < a.length∧Q (.str (putS a i s)) H
theorem akn (T:Txt K mg A):Have P w K mg base "_law_put" 1 ["_law_word_here","_law_at","_law_sign_here"] [] sp_put:=by
 refine T.r_l_put.have aiz (fun vs H Q E z=>?_) ?_
 ·obtain⟨a,s',i,rfl,_⟩:=z;rfl
 ·intro f cdv A' outer s H vs Q E hr z
  obtain⟨a,s',i,rfl,hL,hS,hi,q⟩:=z
  refine⟨_,(aaf (aak (aao aa2 (aao aa2 (abd aew (pvM 0) abw (abn (pvM 1))) (pvM 2)) (abd aew (pvM 0) (abn (aao aek (pvM 1) aae)) abw)))),?_⟩
  unfold rCatS
  walk_at "wp"
  have e1:=sl_to (a:=a) (i:=i) (by omega)
  have e2:=afi (a:=a) (i:=i+1) (by omega)
  rw[show (((i+1:Nat):Int))=(i:Int)+1 by omega] at e2
  rw[e1,e2]
  have l1:(⟨(a.cps.toList.take i).toArray⟩:Str).length≤2000:=by
   show (a.cps.toList.take i).toArray.size≤2000
   rw[List.size_toArray,List.length_take];omega
  have l2:(⟨(a.cps.toList.drop (i+1)).toArray⟩:Str).length≤2000:=by
   show (a.cps.toList.drop (i+1)).toArray.size≤2000
   rw[List.size_toArray,List.length_drop,Array.length_toList]
   have:a.cps.size=a.length:=rfl
   omega
  have l3:((⟨(a.cps.toList.take i).toArray⟩:Str)++s').length=(⟨(a.cps.toList.take i).toArray⟩:Str).length+s'.length:=by
   show ((⟨(a.cps.toList.take i).toArray⟩:Str)++s').cps.size=(a.cps.toList.take i).toArray.size+s'.cps.size
   simp[Str.cps_append]
  have ee:(⟨(a.cps.toList.take i).toArray⟩:Str)++s'++⟨(a.cps.toList.drop (i+1)).toArray⟩=putS a i s':=abp (by unfold putS;simp[Str.cps_append])
  rw[ee]
  exact⟨by omega,by omega,by omega,by omega,q⟩
noncomputable def sp_ref:Sp:=fun vs H Q _=>∃a,vs=[.str a]∧a.length≤1000∧Asc a∧BadRow a∧∀H',Same H H'→Q (.bl true) H'
theorem h_ref (T:Txt K mg A):Have P w K mg base "_law_refused" 6 ["_law_row"] [] sp_ref:=by
 have H_read_row:=h_bad (P:=P) (w:=w) (base:=base) T
 refine T.r_l_refused.have ac7 (fun vs H Q E z=>?_) ?_
 ·obtain⟨a,rfl,_⟩:=z;rfl
 ·intro f cdv A' outer s H vs Q E hr z
  obtain⟨a,rfl,hL,hA,hB,q⟩:=z
  refine⟨_,(aag (ag7 (i:=1) ac7.nd rfl rfl T.h_FrameError (fun _ _ _ po1 xw1=>(aaf (agl (aai H_read_row (hr.mono (by decide)) xw1 (aaa (pvM 0) aab))))) aam (fun _=>(aag (abc (ac3 (aaq aet rfl T.b_isinstance PyProof.Rows.boot_isinstance (aaa (pvM 1) (aaa (abm (@aaa _ _ _ _ _ (aaw rfl T.m_NoShape) (@aaa _ _ _ _ _ (aaw rfl T.m_OutOfRoom) (@aaa _ _ _ _ _ (aaw rfl T.m_BadRights) (@aaa _ _ _ _ _ (aaw rfl T.m_NoTask) (@aaa _ _ _ _ _ (aaw rfl T.m_NoBank) (@aaa _ _ _ _ _ (aaw rfl T.m_OutOfBank) (@aaa _ _ _ _ _ (aaw rfl T.m_Taken) aab rfl) rfl) rfl) rfl) rfl) rfl) rfl)) aab)))) (aaf (aak ad4)) aam)
   (aag (abc (ac3 (aaq aet rfl T.b_isinstance PyProof.Rows.boot_isinstance (aaa (pvM 1) (aaa (abm (aaa (aaw rfl T.m_NotMapped) (aaa (aaw rfl T.m_NoRight) (aaa (aaw rfl T.m_NoRoom) (aaa (aaw rfl T.m_Busy) aab))))) aab)))) (aaf (aak ad4)) aam)
   (aaf (aak (pe_and (aaq aes rfl T.b_isinstance PyProof.Rows.boot_isinstance (aaa (pvM 1) (aaa (aaw rfl T.m_NoRow) aab))) (pe_one (aaq aes rfl T.b_isinstance PyProof.Rows.boot_isinstance (aaa (pvM 1) (aaa (afq (n:="ValueError") rfl T.b_ValueError (by decide+kernel)) aab)))))))))))
   (aaf (aak ad4))),?_⟩
  unfold ajk
  walk_at "wp"
  refine⟨hL,hA,hB,fun H' s0=>⟨A.C_NoRow,rfl,T.sub_NoRow_FrameError,fun ea hea p1 h1=>?_⟩⟩
  have sa:=s0.trans (aah (o:=excO ea A.C_NoRow) aad hea)
  have sb:=aah (o:=.tup [V.ref A.C_NoShape,V.ref A.C_OutOfRoom,V.ref A.C_BadRights,V.ref A.C_NoTask,V.ref A.C_NoBank,V.ref A.C_OutOfBank,V.ref A.C_Taken]) aad h1
  refine⟨_,A.C_NoRow,sb _ _ aaj,T.xi_NoRow,rfl,fun v hv=>?_,false,?_,iteF fun p2 h2=>?_⟩
  ·simp only[List.mem_cons,List.not_mem_nil,or_false] at hv
   rcases hv with rfl|rfl|rfl|rfl|rfl|rfl|rfl<;>exact .inl ⟨_,rfl⟩
  ·simp only[List.map_cons,List.map_nil,ad8,PySem.W.kitAny,T.kit_NoRow_NoShape,T.kit_NoRow_OutOfRoom,T.kit_NoRow_BadRights,T.kit_NoRow_NoTask,T.kit_NoRow_NoBank,T.kit_NoRow_OutOfBank,T.kit_NoRow_Taken]
  have sc:=aah (o:=.tup [V.ref A.C_NotMapped,V.ref A.C_NoRight,V.ref A.C_NoRoom,V.ref A.C_Busy]) aad h2
  refine⟨_,A.C_NoRow,(sb.trans sc) _ _ aaj,T.xi_NoRow,rfl,fun v hv=>?_,false,?_,iteF ?_⟩
  ·simp only[List.mem_cons,List.not_mem_nil,or_false] at hv
   rcases hv with rfl|rfl|rfl|rfl<;>exact .inl ⟨_,rfl⟩
  ·simp only[List.map_cons,List.map_nil,ad8,PySem.W.kitAny,T.kit_NoRow_NotMapped,T.kit_NoRow_NoRight,T.kit_NoRow_NoRoom,T.kit_NoRow_Busy]
  exact⟨A.C_NoRow,(sb.trans sc) _ _ aaj,T.xi_NoRow,true,T.kit_NoRow_NoRow,iteT ⟨A.C_NoRow,(sb.trans sc) _ _ aaj,T.xi_NoRow,true,T.kit_NoRow_ValueError,q _ ((sa.trans sb).trans sc)⟩⟩
noncomputable def goodB (a:Str):Bool:=decide (1≤a.length∧a.length≤60)&&(decide (a.cps[0]?≠some 48) || decide (a.length=1))&&a.cps.toList.all figB
theorem ai5 {a:Str}:goodB a=true↔Good a:=by
 unfold goodB
 simp only[Bool.and_eq_true,Bool.or_eq_true,decide_eq_true_eq,List.all_eq_true]
 constructor
 ·rintro⟨⟨⟨h1,h2⟩,h3⟩,h4⟩
  refine⟨h1,h2,fun z=>h3.elim (fun q=>absurd z q) id,fun i c hi=>?_⟩
  exact of_decide_eq_true (h4 c (List.mem_of_getElem? (by rw[Array.getElem?_toList];exact hi)))
 ·rintro⟨h1,h2,h3,h4⟩
  refine⟨⟨⟨h1,h2⟩,?_⟩,fun c hc=>?_⟩
  ·by_cases z:a.cps[0]?=some 48
   ·exact .inr (h3 z)
   ·exact .inl z
  ·obtain⟨i,hi⟩:=List.mem_iff_getElem?.mp hc
   rw[Array.getElem?_toList] at hi
   exact decide_eq_true (h4 i c hi)
noncomputable def badB:Fk→Str→Bool
 |.n,a=> !goodB a
 |.v,a=>if dash a=true then !goodB (tail1 a) || decide (PySem.intText? (tail1 a)=some 0) else !goodB a
 |.r,a=>decide (a∉rts)
theorem ahx {k:Fk} {a:Str} (h:badB k a=true):BadW k a:=by
 have ng:∀{x:Str},(!goodB x)=true→¬Good x:=fun e z=>by rw[ai5.mpr z] at e;cases e
 cases k with
 |n=>exact ng h
 |v=>
  have h:(if dash a=true then !goodB (tail1 a) || decide (PySem.intText? (tail1 a)=some 0) else !goodB a)=true:=h
  by_cases c:dash a=true
  ·rw[if_pos c,Bool.or_eq_true,decide_eq_true_eq] at h
   exact .inr ⟨c,h.imp ng id⟩
  ·rw[if_neg c] at h
   exact .inl ⟨by simpa using c,ng h⟩
 |r=>exact (of_decide_eq_true (show decide (a∉rts)=true from h):a∉rts)
noncomputable def rowB (a:Str):Bool:=fms.all fun f=>match wsT a with
 |[]=>true
 |u::us=> !(decide (f.w=u∧us.length=f.ks.length)) || (List.zip f.ks us).any fun p=>badB p.1 p.2
theorem row_of {a:Str} (h:rowB a=true):BadRow a:=fun f hf u us e e1 e2=>by
 have z:=List.all_eq_true.mp h f hf
 rw[e] at z
 simp only at z
 rw[decide_eq_true ⟨e1,e2⟩,Bool.not_true,Bool.false_or,List.any_eq_true] at z
 obtain⟨p,hp,hb⟩:=z
 obtain⟨i,hi⟩:=List.mem_iff_getElem?.mp hp
 rw[List.getElem?_zip_eq_some] at hi
 exact⟨i,p.1,p.2,hi.1,hi.2,ahx hb⟩
noncomputable def odds:List Str:=[""," ","NEW","New","new 0","news","fork","fork 1 2","lay 0 0 1","lay 0 0 1 rw 0","fold 0","write 0 0 -0","write 0 7 -00","write 0 0 --1","lay 0 0 1 rw 0 0 0","live ","write 0 0","read 0","laid","hold","read 0,0","see  0 0"]
theorem ako:∀a∈odds,rowB a=true∧a.length≤1000∧∀c∈a.cps.toList,c < 128:=by decide+kernel
noncomputable def sp_odd:Sp:=fun vs H Q _=>∃c:Int,vs=[.int c]∧∀a H',a.length≤1000→Asc a→BadRow a→Same H H'→Q (.str a) H'
theorem h_odd (T:Txt K mg A):Have P w K mg base "_law_odd" 1 ["_law_cell"] [] sp_odd:=by
 refine T.r_l_odd.have adc (fun vs H Q E z=>?_) ?_
 ·obtain⟨c,rfl,_⟩:=z;rfl
 ·intro f cdv A' outer s H vs Q E hr z
  obtain⟨c,rfl,q⟩:=z
  refine⟨_,(@aag _ _ _ _ _ (@aa0 _ _ 1 _ _ _ _ adc.nd rfl (Or.inl rfl) (@acd _ _ _ _ (@aaa _ _ _ _ _ aac (@aaa _ _ _ _ _ aac (@aaa _ _ _ _ _ aac (@aaa _ _ _ _ _ aac (@aaa _ _ _ _ _ aac (@aaa _ _ _ _ _ aac (@aaa _ _ _ _ _ aac (@aaa _ _ _ _ _ aac (@aaa _ _ _ _ _ aac (@aaa _ _ _ _ _ aac (@aaa _ _ _ _ _ aac aab rfl) rfl) rfl) rfl) rfl) rfl) rfl) rfl) rfl) rfl) rfl)) rfl (Or.inl rfl))
   (aag (aa0 (i:=1) adc.nd rfl (Or.inl rfl) (aao afp (pvM 1) (acd (aaa aac (aaa aac (aaa aac aab))))))
   (@aag _ _ _ _ _ (@aa0 _ _ 1 _ _ _ _ adc.nd rfl (Or.inl rfl) (aao afp (pvM 1) (@acd _ _ _ _ (@aaa _ _ _ _ _ aac (@aaa _ _ _ _ _ aac (@aaa _ _ _ _ _ aac (@aaa _ _ _ _ _ aac (@aaa _ _ _ _ _ aac (@aaa _ _ _ _ _ aac (@aaa _ _ _ _ _ aac (@aaa _ _ _ _ _ aac aab rfl) rfl) rfl) rfl) rfl) rfl) rfl) rfl))) rfl (Or.inl rfl))
   (aaf (aak (abg abf (pvM 1) (aao abl (pvM 0) aae) (fun _ _=>rfl))))))),?_⟩
  walk_at "wp"
  intro p hp p1 h1
  refine⟨_,(aah aad h1) _ _ aaj,_,rfl,by decide,fun p2 h2 p3 h3=>⟨_,((aah aad h3)) _ _ aaj,_,rfl,by decide,fun p4 h4=>?_⟩⟩
  obtain⟨j,hj,e⟩:∃j:Nat,j < odds.length∧c % 22=j:=⟨(c % 22).toNat,by show _ < 22;omega,by omega⟩
  have hq:odds[j]?=some odds[j]:=List.getElem?_eq_getElem hj
  obtain⟨r1,r2,r3⟩:=ako _ (List.mem_of_getElem? hq)
  rw[e]
  exact⟨_,SqL.of aaj,V.str odds[j],aan (show (odds.map V.str)[j]?=_ by rw[List.getElem?_map,hq];rfl),q _ _ r2 (fun i c hi=>r3 c (List.mem_of_getElem? (by rw[Array.getElem?_toList];exact hi))) (row_of r1) (aah (aah (aah (aah (aah aad hp) h1) h2) h3) h4)⟩
noncomputable def Fre (p:Str):Prop:=32∉p.cps.toList
theorem add (s:Str):∀(ws1 ps ws2:List Str),ps≠[]→Str.join s (ws1++Str.join s ps::ws2)=Str.join s (ws1++ps++ws2)
 |[],[],_,h=>absurd rfl h
 |[],[p],ws2,_=>rfl
 |[],p::p2::r,ws2,_=>by
  have e1:Str.join s (p::p2::r)=p++s++Str.join s (p2::r):=rfl
  have ih:=add s [] (p2::r) ws2 (fun z=>nomatch z)
  cases ws2 with
  |nil=>rw[List.append_nil];rfl
  |cons w t=>
   have e2:Str.join s (Str.join s (p::p2::r)::w::t)=Str.join s (p::p2::r)++s++Str.join s (w::t):=rfl
   have e3:Str.join s (Str.join s (p2::r)::w::t)=Str.join s (p2::r)++s++Str.join s (w::t):=rfl
   have e4:Str.join s ([]++p::p2::r++w::t)=p++s++Str.join s ([]++p2::r++w::t):=rfl
   rw[List.nil_append,e2,e4,←ih,List.nil_append,e3,e1]
   exact abp (by simp[Str.cps_append])
 |[x],ps,ws2,h=>by
  have ih:=add s [] ps ws2 h
  obtain⟨y,t,e⟩:∃y t,ps++ws2=y::t:=by
   cases ps with
   |nil=>exact absurd rfl h
   |cons y t=>exact⟨y,t++ws2,rfl⟩
  have e1:Str.join s ([x]++Str.join s ps::ws2)=x++s++Str.join s ([]++Str.join s ps::ws2):=rfl
  have e2:Str.join s ([x]++ps++ws2)=x++s++Str.join s ([]++ps++ws2):=by
   rw[List.append_assoc,List.append_assoc,e];rfl
  rw[e1,e2,ih]
 |x::x2::r,ps,ws2,h=>by
  have ih:=add s (x2::r) ps ws2 h
  have e1:Str.join s (x::x2::r++Str.join s ps::ws2)=x++s++Str.join s (x2::r++Str.join s ps::ws2):=rfl
  have e2:Str.join s (x::x2::r++ps++ws2)=x++s++Str.join s (x2::r++ps++ws2):=rfl
  rw[e1,e2,ih]
theorem ae4 {ws1 ws2:List Str} {b:Str} (h1:∀p∈ws1,Fre p) (h2:∀p∈ws2,Fre p):wsT (Txt.join (Str.ofString " ") (ws1++b::ws2))=ws1++wsT b++ws2:=by
 have hn:wsT b≠[]:=fun z=>by
  have:=PyProof.Rows.split_pos b (Str.ofString " ")
  rw[show Txt.split b (Str.ofString " ")=[] from z] at this
  exact absurd this (by decide)
 have e:Txt.join (Str.ofString " ") (ws1++b::ws2)=Txt.join (Str.ofString " ") (ws1++wsT b++ws2):=by
  have eb:Str.join ⟨#[32]⟩ (wsT b)=b:=by
   unfold wsT
   rw[ae3]
   exact PySem.StrLaws.join_split b ⟨#[32]⟩
  rw[aaz,aaz,ae3,←add _ _ _ _ hn,eb]
 rw[e]
 refine ack (fun z=>?_) (fun p hp=>?_)
 ·exact hn (List.append_eq_nil_iff.mp (List.append_eq_nil_iff.mp z).1).2
 ·rcases List.mem_append.mp hp with hp|hp
  ·rcases List.mem_append.mp hp with hp|hp
   ·exact h1 p hp
   ·have hf:=PySem.StrLaws.split_free b 32
    unfold wsT at hp
    rw[ae3] at hp
    exact hf p hp
  ·exact h2 p hp
theorem apart:∀f∈fms,∀g∈fms,f.w=g.w→g.ks.length≠f.ks.length+1∧f.ks.length≠g.ks.length+1:=by decide+kernel
theorem none_w:∀f∈fms,f.w≠Str.ofString "":=by decide+kernel
theorem act {f:Fm} {a u:Str} {us:List Str} (hf:f∈fms) (e:wsT a=u::us) (h:u=f.w) (hc:us.length=f.ks.length+1∨us.length+1=f.ks.length):BadRow a:=fun g hg u' us' e' e1 e2=>by
 rw[e] at e'
 obtain⟨rfl,rfl⟩:=List.cons.inj e'
 have:=apart f hf g hg (by rw[←h,e1])
 omega
theorem ae5 {a:Str} {us:List Str} (e:wsT a=Str.ofString ""::us):BadRow a:=fun g hg u' us' e' e1 _=>by
 rw[e] at e'
 obtain⟨rfl,rfl⟩:=List.cons.inj e'
 exact absurd e1 (none_w g hg)
noncomputable def menu:List Str:=["wr","r","w","rwx","RW","w-","-r","rr","ww","-","---","3"]
noncomputable def barR (i:Nat):Str:=if i=0 then Str.ofString "r-" else Str.ofString "w-"
noncomputable def RtS (a b:Str):Prop:=b∈menu∨∃i x:Nat,i < 2∧32≤x∧x≤126∧(x=63∨(some x≠a.cps[i]?∧x∉(barR i).cps.toList))∧b=putS a i ⟨#[x]⟩
noncomputable def rtB (a:Str) (i x:Nat):Bool:=decide (¬(x=63∨(some x≠a.cps[i]?∧x∉(barR i).cps.toList))) || (decide (putS a i ⟨#[x]⟩∉rts)&&decide ((putS a i ⟨#[x]⟩).length≤3)&&(putS a i ⟨#[x]⟩).cps.toList.all fun c=>decide (c < 128))
theorem rt_all:∀a∈rts,∀i:Fin 2,∀x:Fin 128,rtB a i.1 x.1=true:=by decide+kernel
theorem akp:∀b∈menu,b∉rts∧b.length≤3∧∀c∈b.cps.toList,c < 128:=by decide+kernel
theorem ab5 {b:Str} (h:∀c∈b.cps.toList,c < 128):Asc b:=fun i c hi=>h c (List.mem_of_getElem? (by rw[Array.getElem?_toList];exact hi))
theorem akq {a b:Str} (ha:a∈rts) (h:RtS a b):BadW .r b∧b.length≤3∧Asc b:=by
 rcases h with h|⟨i,x,hi,h1,h2,hx,rfl⟩
 ·obtain⟨z1,z2,z3⟩:=akp b h
  exact⟨z1,z2,ab5 z3⟩
 ·have z:=rt_all a ha ⟨i,hi⟩ ⟨x,by omega⟩
  unfold rtB at z
  rw[decide_eq_false (fun q=>q hx),Bool.false_or,Bool.and_eq_true,Bool.and_eq_true,decide_eq_true_eq,decide_eq_true_eq,List.all_eq_true] at z
  exact⟨z.1.1,z.1.2,ab5 fun c hc=>of_decide_eq_true (z.2 c hc)⟩
noncomputable def sp_rsp:Sp:=fun vs H Q _=>∃(a:Str) (c:Int),vs=[.str a,.int c]∧a∈rts∧∀b H',RtS a b→Same H H'→Q (.str b) H'
theorem h_rsp (T:Txt K mg A):Have P w K mg base "_law_rights_spoilt" 3 ["_law_word_here","_law_cell"] [] sp_rsp:=by
 have H_l_put:=akn (P:=P) (w:=w) (base:=base) T
 have H_l_other:=akm (P:=P) (w:=w) (base:=base) T
 refine T.r_l_rights_spoilt.have abo (fun vs H Q E z=>?_) ?_
 ·obtain⟨a,c,rfl,_⟩:=z;rfl
 ·intro f cdv A' outer s H vs Q E hr z
  obtain⟨a,c,rfl,ha,q⟩:=z
  refine⟨_,(aag (aa0 (i:=2) abo.nd rfl (Or.inl rfl) (aao abl (pvM 1) aae))
   (@aag _ _ _ _ _ (@aa0 _ _ 3 _ _ _ _ abo.nd rfl (Or.inl rfl) (@acd _ _ _ _ (@aaa _ _ _ _ _ aac (@aaa _ _ _ _ _ aac (@aaa _ _ _ _ _ aac (@aaa _ _ _ _ _ aac (@aaa _ _ _ _ _ aac (@aaa _ _ _ _ _ aac (@aaa _ _ _ _ _ aac (@aaa _ _ _ _ _ aac (@aaa _ _ _ _ _ aac (@aaa _ _ _ _ _ aac (@aaa _ _ _ _ _ aac (@aaa _ _ _ _ _ aac aab rfl) rfl) rfl) rfl) rfl) rfl) rfl) rfl) rfl) rfl) rfl) rfl)) rfl (Or.inl rfl))
   (aag (abc (aal abu (aao abl (aao ab6 (pvM 1) aae) aae) aae (nomark _)) (aaf (aak (abg abf (pvM 3) (aao abl (aao ab6 (pvM 1) aae) aae) (fun _ _=>rfl)))) aam)
   (aaf (aak (aai H_l_put (hr.mono (by decide)) aar (aaa (pvM 0) (aaa (pvM 2) (aaa (aai H_l_other (hr.mono (by decide)) aar (aaa (abg ac5 (pvM 0) (pvM 2) (fun _ _=>rfl)) (aaa (aao ab6 (pvM 1) aae) (aaa (abg afs (acd (aaa aac (aaa aac aab))) (pvM 2) (fun _ _=>rfl)) aab)))) aab))))))))),?_⟩
  unfold sp_put sp_oth rIxS
  walk_at "wp"
  intro p hp
  have hal:a.length=2:=(show ∀a∈rts,a.length=2 by decide+kernel) a ha
  refine ite2 (fun _=>?_) (fun _=>?_)
  ·obtain⟨j,hj,e⟩:∃j:Nat,j < menu.length∧c / 6 % 12=j:=⟨(c / 6 % 12).toNat,by show _ < 12;omega,by omega⟩
   have hq:menu[j]?=some menu[j]:=List.getElem?_eq_getElem hj
   rw[e]
   exact⟨_,SqL.of aaj,V.str menu[j],aan (show (menu.map V.str)[j]?=_ by rw[List.getElem?_map,hq];rfl),q _ _ (.inl (List.mem_of_getElem? hq)) (aah aad hp)⟩
  ·obtain⟨j,hj,e⟩:∃j:Nat,j < 2∧c % 2=j:=⟨(c % 2).toNat,by omega,by omega⟩
   have hsz:a.cps.size=a.length:=rfl
   have hg:a.cps[j]?=some (a.cps[j]'(by omega)):=Array.getElem?_eq_getElem (by omega)
   rw[e]
   refine⟨by omega,a.cps[j]'(by omega),aan (by rw[Array.getElem?_toList];exact hg),fun p1 h1=>⟨V.str (barR j),aan ?_,barR j,rfl,?_,fun x x1 x2 hx=>⟨_,j,rfl,rfl,by omega,(show (1:Nat)≤2000 by omega),by omega,q _ _ (.inr ⟨j,x,hj,x1,x2,hx.imp id (fun z=>⟨fun y=>z.1 (by rw[hg] at y;rw[Option.some.inj y]),z.2⟩),rfl⟩) (aah (aah aad hp) h1)⟩⟩⟩
   ·obtain rfl|rfl:j=0∨j=1:=by omega
    all_goals rfl
   ·obtain rfl|rfl:j=0∨j=1:=by omega
    all_goals decide+kernel
theorem aav (a b:Str):(a++b).cps.toList=a.cps.toList++b.cps.toList:=by simp[Str.cps_append]
theorem aap (a b:Str):(a++b).length=a.length+b.length:=by
 show (a++b).cps.size=a.cps.size+b.cps.size
 simp[Str.cps_append]
theorem abt (a:Str):a.cps.toList.length=a.length:=Array.length_toList
noncomputable def TwoW (b:Str):Prop:=∃p q,Fre p∧Fre q∧b=Txt.join (Str.ofString " ") [p,q]
noncomputable def Hurt (k:Fk) (b:Str):Prop:=b.length≤64∧Asc b∧((Fre b∧BadW k b)∨TwoW b)
theorem aef {a b:Str} (h1:Asc a) (h2:Asc b):Asc (a++b):=by
 have toL:∀{x:Str},Asc x→∀c∈x.cps.toList,c < 128:=fun h c hc=>by
  obtain⟨i,hi⟩:=List.mem_iff_getElem?.mp hc
  rw[Array.getElem?_toList] at hi
  exact h i c hi
 refine ab5 fun c hc=>?_
 rw[aav,List.mem_append] at hc
 exact hc.elim (toL h1 c) (toL h2 c)
theorem ade {a:Str} (h:Good a):Fre a:=fun z=>by
 obtain⟨i,hi⟩:=List.mem_iff_getElem?.mp z
 rw[Array.getElem?_toList] at hi
 have:=h.d i 32 hi
 omega
theorem ahy {a b:Str} (h1:Fre a) (h2:Fre b):Fre (a++b):=fun z=>by
 rw[aav,List.mem_append] at z
 exact z.elim h1 h2
theorem abx {a b:Str} (h:1≤a.length):(a++b).cps[0]?=a.cps[0]?:=by
 rw[←Array.getElem?_toList,←Array.getElem?_toList,aav,List.getElem?_append_left (by rw[abt];omega)]
theorem ac1 {a:Str} {c:Nat} (h:a.cps[0]?=some c):dash a=decide (c=45):=by
 unfold dash
 rw[aec,Array.getElem?_toList,h]
 simp
theorem ad0 {k:Fk} {b:Str} (hk:k≠.r) (h:¬Good b) (hd:k=.n∨dash b=false):BadW k b:=by
 cases k with
 |n=>exact h
 |v=>exact .inl ⟨hd.elim (fun z=>nomatch z) id,h⟩
 |r=>exact absurd rfl hk
theorem af5 {b x:Str} (e:b=Str.ofString "-"++x) (h:¬Good x):BadW .v b:=by
 have e45:(Str.ofString "-":Str)=⟨#[45]⟩:=by decide+kernel
 have h0:b.cps[0]?=some 45:=by rw[e,abx (by decide+kernel),e45];rfl
 have hl:1≤b.length:=by
  rw[e,aap,e45]
  show 1≤1+x.length
  omega
 refine .inr ⟨by rw[ac1 h0];rfl,.inl ?_⟩
 have:tail1 b=x:=by
  show Txt.slice b (some 1) none=x
  rw[slice1 b hl,e]
  refine abp ?_
  show List.drop 1 (Str.ofString "-"++x).cps.toList=_
  rw[aav,e45]
  rfl
 rw[this]
 exact h
theorem acu {b:Str} {c:Nat} (h:b.cps[0]?=some c) (hc:¬(48≤c∧c≤57)):¬Good b:=fun g=>hc (g.d 0 c h)
theorem af6 {a:Str} (h:Good a):¬Good (Str.ofString "0"++a):=fun g=>by
 have:=g.z (by rw[abx (by decide+kernel)];decide+kernel)
 rw[aap,show (Str.ofString "0":Str).length=1 by decide+kernel] at this
 have:=h.l1
 omega
theorem ach {a:Str} {i:Nat} {s:Str}:(putS a i s).cps.toList=a.cps.toList.take i++s.cps.toList++a.cps.toList.drop (i+1):=rfl
theorem afj {a:Str} {i:Nat} (h:Fre a):putS a i ⟨#[32]⟩=Txt.join (Str.ofString " ") [⟨(a.cps.toList.take i).toArray⟩,⟨(a.cps.toList.drop (i+1)).toArray⟩]∧Fre ⟨(a.cps.toList.take i).toArray⟩∧Fre ⟨(a.cps.toList.drop (i+1)).toArray⟩:=by
 refine⟨?_,fun z=>h (List.mem_of_mem_take z),fun z=>h (List.mem_of_mem_drop z)⟩
 rw[aaz,ae3]
 refine abp ?_
 show _=((⟨(a.cps.toList.take i).toArray⟩:Str)++⟨#[32]⟩++⟨(a.cps.toList.drop (i+1)).toArray⟩).cps.toList
 rw[aav,aav]
 rfl
theorem afk {a:Str} {i x:Nat} (h:Fre a) (hx:x≠32):Fre (putS a i ⟨#[x]⟩):=fun z=>by
 rw[ach,List.mem_append,List.mem_append] at z
 rcases z with (z|z)|z
 ·exact h (List.mem_of_mem_take z)
 ·exact hx (List.mem_singleton.mp z).symm
 ·exact h (List.mem_of_mem_drop z)
theorem ahz {a:Str} {i x:Nat} (h:Asc a) (hx:x≤126):Asc (putS a i ⟨#[x]⟩):=by
 have toL:∀c∈a.cps.toList,c < 128:=fun c hc=>by
  obtain⟨i,hi⟩:=List.mem_iff_getElem?.mp hc
  rw[Array.getElem?_toList] at hi
  exact h i c hi
 refine ab5 fun c z=>?_
 rw[ach,List.mem_append,List.mem_append] at z
 rcases z with (z|z)|z
 ·exact toL c (List.mem_of_mem_take z)
 ·rw[List.mem_singleton.mp z];omega
 ·exact toL c (List.mem_of_mem_drop z)
theorem acl {a:Str} {i x:Nat} (h:i < a.length):(putS a i ⟨#[x]⟩).length=a.length:=by
 have e:=congrArg List.length (ach (a:=a) (i:=i) (s:=⟨#[x]⟩))
 rw[abt,List.length_append,List.length_append,List.length_take,List.length_drop,abt] at e
 rw[e]
 show min i a.length+1+_=_
 omega
theorem ah0 {a:Str} {i x:Nat} (h:i < a.length):(putS a i ⟨#[x]⟩).cps[i]?=some x:=by
 rw[←Array.getElem?_toList,ach,List.append_assoc,List.getElem?_append_right (by rw[List.length_take];omega),List.length_take,abt,show i - min i a.length=0 by omega]
 rfl
theorem put_0 {a:Str} {i x:Nat} (h:i < a.length):(putS a i ⟨#[x]⟩).cps[0]?=some x∨(putS a i ⟨#[x]⟩).cps[0]?=a.cps[0]?:=by
 cases i with
 |zero=>exact .inl (ah0 h)
 |succ i=>
  refine .inr ?_
  rw[←Array.getElem?_toList,←Array.getElem?_toList,ach,List.append_assoc,List.getElem?_append_left (by rw[List.length_take,abt];omega),List.getElem?_take,if_pos (by omega)]
theorem ai6 {k:Fk} {a:Str} {i x:Nat} (hk:k≠.r) (h:Good a) (hi:i < a.length) (hx:32≤x∧x≤126) (hn:¬(48≤x∧x≤57)) (h45:x≠45):Hurt k (putS a i ⟨#[x]⟩):=by
 have h2:=h.l2
 refine⟨by rw[acl hi];omega,ahz (ac0 h) hx.2,?_⟩
 by_cases c:x=32
 ·subst c
  obtain⟨e,f1,f2⟩:=afj (i:=i) (ade h)
  exact .inr ⟨_,_,f1,f2,e⟩
 ·refine .inl ⟨afk (ade h) c,ad0 hk (fun g=>hn (g.d i x (ah0 hi))) (.inr ?_)⟩
  rcases put_0 (x:=x) hi with e|e
  ·rw[ac1 e];simpa using h45
  ·have hsz:a.cps.size=a.length:=rfl
   have e0:a.cps[0]?=some (a.cps[0]'(by omega)):=Array.getElem?_eq_getElem (by omega)
   have:=h.d 0 _ e0
   rw[ac1 (e.trans e0)]
   simp only[decide_eq_false_iff_not]
   omega
theorem aby {k:Fk} {a p:Str} (hk:k≠.r) (h:Good a) (hp:p.length≤2∧(∀c∈p.cps.toList,c < 128∧c≠32)) (hb:BadW k (p++a)):Hurt k (p++a):=by
 have h2:=h.l2
 exact⟨by rw[aap];omega,aef (ab5 fun c hc=>(hp.2 c hc).1) (ac0 h),.inl ⟨ahy (fun z=>(hp.2 32 z).2 rfl) (ade h),hb⟩⟩
theorem ai7 {a:Str} (h:Good a) (c:Nat) (hc:c∈(repS a 60).cps.toList):48≤c∧c≤57:=by
 rw[aey,List.mem_flatten] at hc
 obtain⟨l,hl,hc⟩:=hc
 rw[List.eq_of_mem_replicate hl] at hc
 obtain⟨i,hi⟩:=List.mem_iff_getElem?.mp hc
 rw[Array.getElem?_toList] at hi
 exact h.d i c hi
theorem ah1 {k:Fk} {a:Str} {n:Int} (hk:k≠.r) (h:Good a) (h1:1≤n) (h9:n≤9):Hurt k (Str.ofString (toString n)++⟨((repS a 60).cps.toList.take 60).toArray⟩):=by
 obtain⟨g,_⟩:=ab4 (n:=n) (by omega) (by omega)
 have hl1:(Str.ofString (toString n)).length=1:=by
  have z:∀m:Fin 10,(Str.ofString (toString ((m.1:Nat):Int))).length=1:=by decide+kernel
  have:=z ⟨n.toNat,by omega⟩
  rw[show ((n.toNat:Nat):Int)=n by omega] at this
  exact this
 have hr:60≤(repS a 60).length:=by
  rw[aeb]
  have:=Nat.mul_le_mul_left 60 h.l1
  show 60≤60 * a.length
  omega
 have hl:(⟨((repS a 60).cps.toList.take 60).toArray⟩:Str).length=60:=by
  show ((repS a 60).cps.toList.take 60).toArray.size=60
  rw[List.size_toArray,List.length_take,abt]
  omega
 have hf:∀c∈(⟨((repS a 60).cps.toList.take 60).toArray⟩:Str).cps.toList,48≤c∧c≤57:=fun c hc=>ai7 h c (List.mem_of_mem_take hc)
 have hll:(Str.ofString (toString n)++⟨((repS a 60).cps.toList.take 60).toArray⟩).length=61:=by rw[aap,hl1,hl]
 refine⟨by omega,aef (ac0 g) (ab5 fun c hc=>by have:=hf c hc;omega),.inl ⟨ahy (ade g) (fun z=>by have:=hf 32 z;omega),ad0 hk (fun z=>by have:=z.l2;omega) (.inr ?_)⟩⟩
 have hsz:(Str.ofString (toString n)).cps.size=1:=hl1
 have e0:(Str.ofString (toString n)).cps[0]?=some ((Str.ofString (toString n)).cps[0]'(by omega)):=Array.getElem?_eq_getElem (by omega)
 have:=g.d 0 _ e0
 rw[ac1 ((abx (by omega)).trans e0)]
 simp only[decide_eq_false_iff_not]
 omega
noncomputable def sp_nsp:Sp:=fun vs H Q _=>∃(k:Fk) (a:Str) (y c:Int),vs=[.str a,.str ⟨#[fkC k]⟩,.int y,.int c]∧k≠.r∧Good a∧∀b H',Hurt k b→Same H H'→Q (.str b) H'
theorem h_nsp (T:Txt K mg A):Have P w K mg base "_law_number_spoilt" 3 ["_law_word_here","_law_kind","_law_way","_law_cell"] [] sp_nsp:=by
 have H_l_put:=akn (P:=P) (w:=w) (base:=base) T
 have H_l_other:=akm (P:=P) (w:=w) (base:=base) T
 refine T.r_l_number_spoilt.have ab3 (fun vs H Q E z=>?_) ?_
 ·obtain⟨k,a,y,c,rfl,_⟩:=z;rfl
 ·intro f cdv A' outer s H vs Q E hr z
  obtain⟨k,a,y,c,rfl,hk,hG,q⟩:=z
  refine⟨_,(aag (abc (aal abu (pvM 2) aae (nomark _)) (aaf (aak (aao aa2 aac (pvM 0)))) aam)
   (aag (abc (PW.pt (ac4 (aal abu (pvM 2) aae (nomark _)) (ace (aal abu (pvM 1) aac (nomark _))))) (aaf (aak (abg afs (acd (aaa (aao aa2 aac (pvM 0)) (aaa aac (aaa (aao aa2 aac (pvM 0)) (aaa (aao aa2 aac (pvM 0)) aab))))) (aao abl (pvM 3) aae) (fun _ _=>rfl)))) aam)
   (aag (abc (aal abu (pvM 2) aae (nomark _)) (aaf (aak (aao aa2 (abg afs (acd (aaa aac (aaa aac aab))) (aao abl (pvM 3) aae) (fun _ _=>rfl)) (pvM 0)))) aam)
   (aag (abc (aal abu (pvM 2) aae (nomark _)) (aaf (aak (aao aa2 (ab0 aev rfl T.b_str PyProof.Rows.boot_str (aaa (aao aek aae (aao abl (pvM 3) aae)) aab)) (abd aew (aao akb (pvM 0) aae) abw (abn aae))))) aam)
   (aag (aa0 (i:=4) ab3.nd rfl (Or.inl rfl) (aao abl (pvM 3) (aaq aay rfl T.b_len PySem.boot_len (aaa (pvM 0) aab))))
   (aaf (aak (aai H_l_put (hr.mono (by decide)) aar (aaa (pvM 0) (aaa (pvM 4) (aaa (aai H_l_other (hr.mono (by decide)) aar (aaa (abg ac5 (pvM 0) (pvM 4) (fun _ _=>rfl)) (aaa (aao ab6 (pvM 3) aae) (aaa aac aab)))) aab))))))))))),?_⟩
  unfold sp_put sp_oth rIxS rCatS rRepS
  walk_at "wp"
  have hl1:=hG.l1
  have hl2:=hG.l2
  have lc:(Str.ofString "0").length=1∧(Str.ofString "+").length=1∧(Str.ofString "-").length=1∧(Str.ofString "--").length=2∧(Str.ofString "-0").length=2:=by decide+kernel
  obtain⟨lc1,lc2,lc3,lc4,lc5⟩:=lc
  by_cases y6:y=6
  ·rw[if_pos y6]
   exact⟨by omega,q _ _ (aby hk hG (by decide+kernel) (ad0 hk (af6 hG) (.inr (by rw[ac1 (c:=48) ((abx (by omega)).trans (by decide+kernel))];rfl)))) aad⟩
  rw[if_neg y6]
  by_cases y7:y=7
  ·rw[if_pos y7]
   cases k with
   |r=>exact absurd rfl hk
   |v=>
    rw[if_pos (by decide+kernel)]
    refine⟨by omega,by omega,by omega,fun p hp=>?_⟩
    have h0:0≤c % 4:=by omega
    have h4:c % 4 < 4:=by omega
    generalize c % 4=x at *
    have sp:=fun o=>aah (o:=o) (aad (H:=H)) hp
    obtain rfl|rfl|rfl|rfl:x=0∨x=1∨x=2∨x=3:=by omega
    ·exact⟨_,aan (j:=0) rfl,q _ _ (aby hk hG (by decide+kernel) (ad0 hk (acu (c:=43) ((abx (by omega)).trans (by decide+kernel)) (by decide)) (.inr (by rw[ac1 (c:=43) ((abx (by omega)).trans (by decide+kernel))];rfl)))) (sp _)⟩
    ·exact⟨_,aan (j:=1) rfl,q _ _ ⟨by omega,ab5 (by decide+kernel),.inl ⟨show 32∉(Str.ofString "-0").cps.toList by decide+kernel,ahx (by decide+kernel)⟩⟩ (sp _)⟩
    ·have e:Str.ofString "--"++a=Str.ofString "-"++(Str.ofString "-"++a):=abp (by rw[aav,aav,aav,←List.append_assoc];exact congrArg (·++a.cps.toList) (by decide+kernel))
     exact⟨_,aan (j:=2) rfl,q _ _ (aby hk hG (by decide+kernel) (af5 e (acu (c:=45) ((abx (by omega)).trans (by decide+kernel)) (by decide)))) (sp _)⟩
    ·have e:Str.ofString "-0"++a=Str.ofString "-"++(Str.ofString "0"++a):=abp (by rw[aav,aav,aav,←List.append_assoc];exact congrArg (·++a.cps.toList) (by decide+kernel))
     exact⟨_,aan (j:=3) rfl,q _ _ (aby hk hG (by decide+kernel) (af5 e (af6 hG))) (sp _)⟩
   |n=>
    rw[if_neg (by decide+kernel),if_pos y7]
    intro p hp
    have h0:0≤c % 2:=by omega
    have h4:c % 2 < 2:=by omega
    generalize c % 2=x at *
    have sp:=fun o=>aah (o:=o) (aad (H:=H)) hp
    obtain rfl|rfl:x=0∨x=1:=by omega
    ·exact⟨_,aan (j:=0) rfl,_,rfl,by omega,q _ _ (aby hk hG (by decide+kernel) (ad0 hk (acu (c:=43) ((abx (by omega)).trans (by decide+kernel)) (by decide)) (.inl rfl))) (sp _)⟩
    ·exact⟨_,aan (j:=1) rfl,_,rfl,by omega,q _ _ (aby hk hG (by decide+kernel) (ad0 hk (acu (c:=45) ((abx (by omega)).trans (by decide+kernel)) (by decide)) (.inl rfl))) (sp _)⟩
  rw[if_neg y7,if_neg (fun z=>nomatch z),if_neg y7]
  have hrl:(repS a 60).length=60 * a.length:=aeb a 60
  refine ite2 (fun _=>?_) (fun _=>?_)
  ·have e:=sl_to (a:=repS a 60) (i:=60) (by omega)
   rw[show Txt.slice (repS a 60) none (some 60)=_ from e]
   have hh:=ah1 (n:=1+c % 9) hk hG (by omega) (by omega)
   have:=hh.1
   rw[aap] at this
   exact⟨ajn (by omega) (by omega),hl1,by omega,by omega,by omega,q _ _ hh aad⟩
  ·obtain⟨j,hj,e⟩:∃j:Nat,j < a.length∧c % (a.length:Int)=j:=⟨(c % (a.length:Int)).toNat,by have:=Int.emod_lt_of_pos c (show (0:Int) < a.length by omega);have:=Int.emod_nonneg c (show (a.length:Int)≠0 by omega);omega,by have:=Int.emod_nonneg c (show (a.length:Int)≠0 by omega);omega⟩
   have hsz:a.cps.size=a.length:=rfl
   have hz:=PySem.sizeLine_eq
   have hg:a.cps[j]?=some (a.cps[j]'(by omega)):=Array.getElem?_eq_getElem (by omega)
   refine⟨_,⟨by omega,rfl⟩,by omega,by omega,a.cps[j]'(by omega),by rw[e];exact aan (by rw[Array.getElem?_toList];exact hg),by decide+kernel,fun x x1 x2 hx=>⟨_,j,e,rfl,by omega,(show (1:Nat)≤2000 by omega),hj,q _ _ (ai6 hk hG hj ⟨x1,x2⟩ ?_ ?_) aad⟩⟩
   ·rcases hx with rfl|⟨_,hx⟩
    ·omega
    ·intro z
     obtain⟨d,hd,rfl⟩:∃d:Nat,d < 10∧x=48+d:=⟨x - 48,by omega,by omega⟩
     exact hx ((show ∀d:Fin 10,48+d.1∈(Str.ofString "-0123456789").cps.toList by decide+kernel) ⟨d,hd⟩)
   ·rcases hx with rfl|⟨_,hx⟩
    ·omega
    ·rintro rfl
     exact hx (by decide+kernel)
theorem aci (s:Str):∀(ws1 ws2:List Str),ws1≠[]→ws2≠[]→Str.join s (ws1++ws2)=Str.join s ws1++s++Str.join s ws2
 |[],_,h,_=>absurd rfl h
 |[_],_::_,_,_=>rfl
 |[_],[],_,h=>absurd rfl h
 |p::p2::r,ws2,_,h=>by
  have ih:=aci s (p2::r) ws2 (List.cons_ne_nil _ _) h
  have e1:Str.join s (p::p2::r++ws2)=p++s++Str.join s (p2::r++ws2):=rfl
  have e2:Str.join s (p::p2::r)=p++s++Str.join s (p2::r):=rfl
  rw[e1,e2,ih]
  exact abp (by simp only[aav,List.append_assoc])
noncomputable def WOk (p:Str):Prop:=Asc p∧p.length≤64
structure RowS (a:Str):Prop where
 l:a.length≤1000
 c:Asc a
 b:BadRow a
noncomputable abbrev jn (ws:List Str):Str:=Txt.join (Str.ofString " ") ws
theorem ajo:∀{ws:List Str},(∀p∈ws,WOk p)→Asc (Str.join ⟨#[32]⟩ ws)
 |[],_=>ab5 (by decide+kernel)
 |[p],h=>(h p (List.mem_cons_self ..)).1
 |p::q::r,h=>by
  have e:Str.join ⟨#[32]⟩ (p::q::r)=p++⟨#[32]⟩++Str.join ⟨#[32]⟩ (q::r):=rfl
  rw[e]
  exact aef (aef (h p (List.mem_cons_self ..)).1 (ab5 (by decide+kernel))) (ajo fun z hz=>h z (List.mem_cons_of_mem _ hz))
theorem agh {ws:List Str} (h:∀p∈ws,WOk p) (hn:ws.length≤9):(jn ws).length≤1000∧Asc (jn ws)∧(ws.map (·.length)).sum+ws.length * (Str.ofString " ").length≤16777216:=by
 have h4:=PySem.StrLaws.sumLen_le (B:=64) ws (fun y hy=>(h y hy).2)
 have h5:=PySem.StrLaws.join_length_le (Str.ofString " ") ws
 have h6:(Str.ofString " ":Str).length=1:=by decide+kernel
 rw[h6] at h5 ⊢
 refine⟨?_,?_,by omega⟩
 ·show (Txt.join (Str.ofString " ") ws).length≤1000
  rw[aaz]
  omega
 ·show Asc (Txt.join (Str.ofString " ") ws)
  rw[aaz,ae3]
  exact ajo h
theorem ac2 {ws:List Str} (h:∀p∈ws,WOk p) (hn:ws.length≤9) (hb:BadRow (jn ws)):RowS (jn ws):=by
 obtain⟨h1,h2,_⟩:=agh h hn
 exact⟨h1,h2,hb⟩
theorem ah2:∀f∈fms,∀c∈f.w.cps.toList,c < 128∧c≠63:=by decide+kernel
theorem wk_ok {k:Fk} {x:Int} (h:okF k x):WOk (wtF k x)∧Fre (wtF k x):=by
 obtain⟨h1,h2⟩:=adl h
 exact⟨⟨w_asc h,by omega⟩,h1⟩
theorem afl {f:Fm} {xs:List Int} (h:Ok f xs):(∀p∈wsF f xs,WOk p∧Fre p)∧(wsF f xs).length=f.ks.length+1∧f.ks.length≤6∧f∈fms:=by
 obtain⟨h1,h2,h3⟩:=akf h
 obtain⟨⟨k,hk⟩,hl,hx⟩:=h
 have hf:=List.mem_of_getElem? hk
 refine⟨fun p hp=>?_,h2,h3,hf⟩
 rcases List.mem_cons.mp hp with rfl|hp
 ·exact⟨⟨ab5 fun c hc=>(ah2 f hf c hc).1,by have:=(afg f hf).2.1;omega⟩,(afg f hf).1⟩
 ·obtain⟨i,hi⟩:=List.mem_iff_getElem?.mp hp
  rw[List.getElem?_zipWith] at hi
  cases e1:f.ks[i]? with
  |none=>rw[e1] at hi;cases hi
  |some k=>
   cases e2:xs[i]? with
   |none=>rw[e1,e2] at hi;cases hi
   |some x=>
    rw[e1,e2] at hi
    obtain rfl:wtF k x=p:=Option.some.inj hi
    exact wk_ok (hx i k x e1 e2)
theorem acb {ws:List Str} (h0:ws≠[]) (h:∀p∈ws,Fre p):wsT (jn ws)=ws:=ack h0 h
theorem ah3:WOk (Str.ofString "")∧Fre (Str.ofString ""):=⟨⟨ab5 (by decide+kernel),by decide+kernel⟩,show 32∉(Str.ofString "").cps.toList by decide+kernel⟩
theorem ah4 {f:Fm} {xs:List Int} (h:Ok f xs):RowS (Str.ofString " "++rowT f xs):=by
 obtain⟨h1,h2,h3,_⟩:=afl h
 have e:Str.ofString " "++rowT f xs=jn (Str.ofString ""::wsF f xs):=by
  show _=Txt.join (Str.ofString " ") ([Str.ofString ""]++wsF f xs)
  rw[aaz,aci _ [Str.ofString ""] (wsF f xs) (List.cons_ne_nil _ _) (List.cons_ne_nil _ _),←aaz _ (wsF f xs)]
  refine abp ?_
  rw[aav,aav,aav]
  rfl
 rw[e]
 have ha:∀p∈Str.ofString ""::wsF f xs,WOk p∧Fre p:=fun p hp=>(List.mem_cons.mp hp).elim (fun z=>z ▸ ah3) (h1 p)
 exact ac2 (fun p hp=>(ha p hp).1) (by rw[List.length_cons];omega) (ae5 (acb (List.cons_ne_nil _ _) fun p hp=>(ha p hp).2))
theorem af7 {f:Fm} {xs:List Int} {b:Str} (h:Ok f xs) (hb:WOk b∧Fre b):RowS (rowT f xs++Str.ofString " "++b):=by
 obtain⟨h1,h2,h3,hf⟩:=afl h
 have e:rowT f xs++Str.ofString " "++b=jn (wsF f xs++[b]):=by
  show _=Txt.join (Str.ofString " ") (wsF f xs++[b])
  rw[aaz,aci _ (wsF f xs) [b] (List.cons_ne_nil _ _) (List.cons_ne_nil _ _),←aaz _ (wsF f xs)]
  rfl
 rw[e]
 have ha:∀p∈wsF f xs++[b],WOk p∧Fre p:=fun p hp=>(List.mem_append.mp hp).elim (h1 p) (fun z=>by rw[List.mem_singleton.mp z];exact hb)
 have hs:=acb (ws:=wsF f xs++[b]) (List.cons_ne_nil _ _) fun p hp=>(ha p hp).2
 refine ac2 (fun p hp=>(ha p hp).1) (by rw[List.length_append,h2];show f.ks.length+1+1≤9;omega) (act (u:=f.w) (us:=List.zipWith wtF f.ks xs++[b]) hf hs rfl (.inl ?_))
 have:(List.zipWith wtF f.ks xs).length+1=f.ks.length+1:=h2
 rw[List.length_append]
 show _+1=_
 omega
theorem agi {f:Fm} {xs:List Int} (h:Ok f xs):RowS (rowT f xs++Str.ofString " "):=by
 have z:=af7 h ah3
 have e:rowT f xs++Str.ofString " "++Str.ofString ""=rowT f xs++Str.ofString " ":=abp (by rw[aav,aav];exact List.append_nil _)
 rw[e] at z
 exact z
theorem akr {f:Fm} {xs:List Int} {i:Nat} (h:Ok f xs) (hi:1≤i) (hi2:i < (wsF f xs).length):RowS (jn ((wsF f xs).take i)++Str.ofString "  "++jn ((wsF f xs).drop i)):=by
 obtain⟨h1,h2,h3,hf⟩:=afl h
 obtain⟨j,rfl⟩:∃j,i=j+1:=⟨i - 1,by omega⟩
 have e1:(wsF f xs).take (j+1)=f.w::(List.zipWith wtF f.ks xs).take j:=rfl
 have hd:(wsF f xs).drop (j+1)≠[]:=fun z=>by
  have:=congrArg List.length z
  rw[List.length_drop] at this
  simp at this
  omega
 have e:jn ((wsF f xs).take (j+1))++Str.ofString "  "++jn ((wsF f xs).drop (j+1))=jn ((wsF f xs).take (j+1)++Str.ofString ""::(wsF f xs).drop (j+1)):=by
  show _=Txt.join (Str.ofString " ") ((wsF f xs).take (j+1)++Str.ofString ""::(wsF f xs).drop (j+1))
  rw[aaz,aci _ ((wsF f xs).take (j+1)) _ (by rw[e1];exact List.cons_ne_nil _ _) (List.cons_ne_nil _ _),show Str.ofString ""::(wsF f xs).drop (j+1)=[Str.ofString ""]++(wsF f xs).drop (j+1) from rfl,aci _ [Str.ofString ""] _ (List.cons_ne_nil _ _) hd,←aaz,←aaz _ ((wsF f xs).drop (j+1))]
  refine abp ?_
  simp only[aav]
  show _=_++_++((Str.ofString "").cps.toList++_++_)
  simp only[List.append_assoc]
  refine congrArg (_++·) ?_
  show (Str.ofString "  ").cps.toList++_=_
  rw[show (Str.ofString "  ").cps.toList=(Str.ofString " ").cps.toList++((Str.ofString "").cps.toList++(Str.ofString " ").cps.toList) by decide+kernel,List.append_assoc,List.append_assoc]
 rw[e]
 have ha:∀p∈(wsF f xs).take (j+1)++Str.ofString ""::(wsF f xs).drop (j+1),WOk p∧Fre p:=fun p hp=>by
  rcases List.mem_append.mp hp with z|z
  ·exact h1 p (List.mem_of_mem_take z)
  ·rcases List.mem_cons.mp z with rfl|z
   ·exact ah3
   ·exact h1 p (List.mem_of_mem_drop z)
 have hl:((wsF f xs).take (j+1)++Str.ofString ""::(wsF f xs).drop (j+1)).length=f.ks.length+2:=by
  rw[List.length_append,List.length_cons,List.length_take,List.length_drop,h2]
  omega
 have hs:=acb (ws:=(wsF f xs).take (j+1)++Str.ofString ""::(wsF f xs).drop (j+1)) (by rw[e1];exact List.cons_ne_nil _ _) fun p hp=>(ha p hp).2
 refine ac2 (fun p hp=>(ha p hp).1) (by omega) (act (u:=f.w) (us:=(List.zipWith wtF f.ks xs).take j++Str.ofString ""::(wsF f xs).drop (j+1)) hf hs rfl (.inl ?_))
 rw[e1,List.cons_append,List.length_cons] at hl
 omega
theorem ai8 {f:Fm} {xs:List Int} (h:Ok f xs):RowS (jn ((wsF f xs).take (f.ks.length))):=by
 obtain⟨h1,h2,h3,hf⟩:=afl h
 have ha:∀p∈(wsF f xs).take f.ks.length,WOk p∧Fre p:=fun p hp=>h1 p (List.mem_of_mem_take hp)
 refine ac2 (fun p hp=>(ha p hp).1) (by rw[List.length_take];omega) ?_
 cases hk:f.ks with
 |nil=>exact ae5 (us:=[]) (show wsT (jn [])=_ by decide+kernel)
 |cons k ks=>
  rw[hk] at ha
  have e1:(wsF f xs).take (ks.length+1)=f.w::(List.zipWith wtF f.ks xs).take ks.length:=rfl
  have hs:=acb (ws:=(wsF f xs).take (k::ks).length) (by rw[List.length_cons,e1];exact List.cons_ne_nil _ _) fun p hp=>(ha p hp).2
  refine act (u:=f.w) (us:=(List.zipWith wtF f.ks xs).take ks.length) hf hs rfl (.inr ?_)
  have:(List.zipWith wtF f.ks xs).length+1=f.ks.length+1:=h2
  have h7:f.ks.length=ks.length+1:=by rw[hk];rfl
  rw[List.length_take]
  omega
theorem ah5:∀f∈fms,∀g∈fms,∀i:Fin 5,g.w.cps.toList.length=f.w.cps.toList.length→g.w.cps.toList.take i=f.w.cps.toList.take i→g.w.cps.toList.drop (i+1)=f.w.cps.toList.drop (i+1)→f.w=g.w:=by decide+kernel
theorem ah6:∀f∈fms,∀g∈fms,∀i:Fin 5,i.1 < f.w.length→g.w.cps.toList≠f.w.cps.toList.take i:=by decide+kernel
theorem ah7 {f:Fm} {xs:List Int} {i x:Nat} {c:Nat} (h:Ok f xs) (hi:i < f.w.length) (hc:f.w.cps[i]?=some c) (hx:32≤x∧x≤126) (hn:x=63∨x≠c):RowS (putS f.w i ⟨#[x]⟩++⟨((rowT f xs).cps.toList.drop f.w.length).toArray⟩):=by
 obtain⟨h1,h2,h3,hf⟩:=afl h
 have h5:=(afg f hf).2.1
 have ff:=(afg f hf).1
 have e:putS f.w i ⟨#[x]⟩++⟨((rowT f xs).cps.toList.drop f.w.length).toArray⟩=jn (putS f.w i ⟨#[x]⟩::List.zipWith wtF f.ks xs):=by
  show _++(⟨((Txt.join (Str.ofString " ") (f.w::List.zipWith wtF f.ks xs)).cps.toList.drop f.w.length).toArray⟩:Str)=Txt.join (Str.ofString " ") (_::List.zipWith wtF f.ks xs)
  rw[aaz,aaz]
  refine abp ?_
  rw[aav]
  cases List.zipWith wtF f.ks xs with
  |nil=>
   show _++List.drop f.w.length f.w.cps.toList=_
   rw[List.drop_of_length_le (by rw[abt];omega),List.append_nil]
   rfl
  |cons p r=>
   have e1:∀q:Str,Str.join (Str.ofString " ") (q::p::r)=q++Str.ofString " "++Str.join (Str.ofString " ") (p::r):=fun _=>rfl
   rw[e1,e1]
   show _++List.drop f.w.length (f.w++Str.ofString " "++Str.join (Str.ofString " ") (p::r)).cps.toList=_
   rw[aav,aav,aav,aav,List.append_assoc,List.drop_append_of_le_length (by rw[abt];omega),List.drop_of_length_le (by rw[abt];omega),List.nil_append,List.append_assoc]
 rw[e]
 have hus:∀p∈List.zipWith wtF f.ks xs,WOk p∧Fre p:=fun p hp=>h1 p (List.mem_cons_of_mem _ hp)
 have hpa:WOk (putS f.w i ⟨#[x]⟩):=⟨ahz (ab5 fun c hc=>(ah2 f hf c hc).1) hx.2,by rw[acl hi];omega⟩
 refine ac2 (fun p hp=>(List.mem_cons.mp hp).elim (fun z=>z ▸ hpa) fun z=>(hus p z).1) (by rw[List.length_cons];have:(List.zipWith wtF f.ks xs).length+1=f.ks.length+1:=h2;omega) ?_
 have hsp:=ae4 (ws1:=[]) (ws2:=List.zipWith wtF f.ks xs) (b:=putS f.w i ⟨#[x]⟩) (fun p hp=>by cases hp) (fun p hp=>(hus p hp).2)
 rw[List.nil_append,List.nil_append] at hsp
 by_cases c32:x=32
 ·subst c32
  obtain⟨e2,f1,f2⟩:=afj (i:=i) ff
  rw[e2,show wsT (Txt.join (Str.ofString " ") _)=_ from acb (ws:=[_,_]) (List.cons_ne_nil _ _) (fun p hp=>by
   rcases List.mem_cons.mp hp with rfl|hp
   ·exact f1
   ·rw[List.mem_singleton.mp hp];exact f2)] at hsp
  rw[e2]
  intro g hg u us eu eg _
  rw[hsp] at eu
  obtain⟨e3,_⟩:=List.cons.inj eu
  exact absurd (by rw[eg,←e3]) (ah6 f hf g hg ⟨i,by omega⟩ hi)
 ·have hfre:=afk (i:=i) ff c32
  rw[show wsT (putS f.w i ⟨#[x]⟩)=[putS f.w i ⟨#[x]⟩] from ack (ws:=[putS f.w i ⟨#[x]⟩]) (List.cons_ne_nil _ _) (fun p hp=>by rw[List.mem_singleton.mp hp];exact hfre)] at hsp
  intro g hg u us eu eg _
  rw[hsp] at eu
  obtain⟨e3,_⟩:=List.cons.inj eu
  have eg:g.w=putS f.w i ⟨#[x]⟩:=by rw[eg,←e3]
  have hx63:x≠63:=fun z=>(ah2 g hg x (by rw[eg,ach,List.mem_append,List.mem_append];exact .inl (.inr (List.mem_singleton.mpr rfl)))).2 z
  have tk:(f.w.cps.toList.take i).length=i:=by rw[List.length_take,abt];omega
  have e4:=ah5 f hf g hg ⟨i,by omega⟩ (by rw[eg,abt,abt,acl hi]) (by
   show List.take i _=List.take i _
   rw[eg,ach,List.append_assoc,List.take_append_of_le_length (by omega),List.take_take,Nat.min_self]) (by
   show List.drop (i+1) _=List.drop (i+1) _
   rw[eg,ach]
   refine (List.drop_append_of_le_length ?_).trans ?_
   ·rw[List.length_append,tk];exact Nat.le_refl _
   ·rw[List.drop_of_length_le (by rw[List.length_append,tk];exact Nat.le_refl _),List.nil_append])
  have e5:=ah0 (x:=x) hi
  rw[←eg,←e4,hc] at e5
  exact hn.elim (fun z=>absurd z hx63) (fun z=>absurd (Option.some.inj e5).symm z)
theorem adm {f:Fm} {xs:List Int} {i:Nat} {k:Fk} {b:Str} (h:Ok f xs) (hk:f.ks[i]?=some k) (hb:Hurt k b):RowS (jn ((wsF f xs).set (i+1) b))∧∀p∈(wsF f xs).set (i+1) b,WOk p:=by
 obtain⟨h1,h2,h3,hf⟩:=afl h
 obtain⟨b1,b2,b3⟩:=hb
 have hi:i < f.ks.length:=(List.getElem?_eq_some_iff.mp hk).1
 have ha:∀p∈(wsF f xs).set (i+1) b,WOk p:=fun p hp=>(List.mem_or_eq_of_mem_set hp).elim (fun z=>(h1 p z).1) fun z=>z ▸ ⟨b2,b1⟩
 refine⟨ac2 ha (by rw[List.length_set];omega) ?_,ha⟩
 have hz:(List.zipWith wtF f.ks xs).length=f.ks.length:=by
  have:(List.zipWith wtF f.ks xs).length+1=f.ks.length+1:=h2
  omega
 have hset:(wsF f xs).set (i+1) b=f.w::(List.zipWith wtF f.ks xs).set i b:=rfl
 rcases b3 with ⟨hfre,hbad⟩|⟨p,q,hp,hq,rfl⟩
 ·have hs:=acb (ws:=(wsF f xs).set (i+1) b) (by rw[hset];exact List.cons_ne_nil _ _) (fun p hp=>(List.mem_or_eq_of_mem_set hp).elim (fun z=>(h1 p z).2) fun z=>z ▸ hfre)
  intro g hg u us eu eg el
  rw[hs,hset] at eu
  obtain⟨rfl,rfl⟩:=List.cons.inj eu
  obtain⟨m,hm⟩:=List.mem_iff_getElem?.mp hf
  obtain⟨n,hn⟩:=List.mem_iff_getElem?.mp hg
  rw[List.length_set,hz] at el
  obtain rfl:=f_one hm hn eg.symm el
  rw[hm] at hn
  obtain rfl:=Option.some.inj hn
  exact⟨i,k,b,hk,List.getElem?_set_self (by omega),hbad⟩
 ·have e:(wsF f xs).set (i+1) (Txt.join (Str.ofString " ") [p,q])=(wsF f xs).take (i+1)++Txt.join (Str.ofString " ") [p,q]::(wsF f xs).drop (i+2):=List.set_eq_take_append_cons_drop.trans (by rw[if_pos (by rw[h2];omega)])
  have hsp:=ae4 (ws1:=(wsF f xs).take (i+1)) (ws2:=(wsF f xs).drop (i+2)) (b:=Txt.join (Str.ofString " ") [p,q]) (fun p hp=>(h1 p (List.mem_of_mem_take hp)).2) (fun p hp=>(h1 p (List.mem_of_mem_drop hp)).2)
  rw[show wsT (Txt.join (Str.ofString " ") [p,q])=[p,q] from acb (ws:=[p,q]) (List.cons_ne_nil _ _) (fun z hz=>by
   rcases List.mem_cons.mp hz with rfl|hz
   ·exact hp
   ·rw[List.mem_singleton.mp hz];exact hq)] at hsp
  rw[e]
  refine act (u:=f.w) (us:=(List.zipWith wtF f.ks xs).take i++[p,q]++(wsF f xs).drop (i+2)) hf (hsp.trans rfl) rfl (.inl ?_)
  rw[List.length_append,List.length_append,List.length_take,hz,List.length_drop,h2]
  show min i f.ks.length+2+_=_
  omega
theorem ah8 {a b:Str} (ha:a∈rts) (h:RtS a b):Hurt .r b:=by
 obtain⟨h1,h2,h3⟩:=akq ha h
 refine⟨by omega,h3,?_⟩
 have hfa:Fre a:=(show ∀a∈rts,32∉a.cps.toList by decide+kernel) a ha
 rcases h with h|⟨i,x,hi,_,_,_,rfl⟩
 ·exact .inl ⟨(show ∀a∈menu,32∉a.cps.toList by decide+kernel) b h,h1⟩
 ·by_cases c:x=32
  ·subst c
   obtain⟨e,f1,f2⟩:=afj (i:=i) hfa
   exact .inr ⟨_,_,f1,f2,e⟩
  ·exact .inl ⟨afk hfa c,h1⟩
noncomputable def sp_spo:Sp:=fun vs H Q _=>∃(f:Fm) (xs:List Int) (l:Addr) (y c:Int),vs=[.ref l,.str (kst f),.int y,.int c]∧Ok f xs∧(∀x∈xs,0≤x)∧H l=some (.lst ((wsF f xs).map V.str))∧∀b H',RowS b→Same H H'→Q (.str b) H'
theorem ah9 (f:Fm):(kst f).length=f.ks.length:=by show ((f.ks.map fkC).toArray).size=_;rw[List.size_toArray,List.length_map]
theorem aia {f:Fm} {m:Nat} {k:Fk} (e:f.ks[m]?=some k):(kst f).cps[m]?=some (fkC k):=by
 show ((f.ks.map fkC).toArray)[m]?=_
 rw[List.getElem?_toArray,List.getElem?_map,e];rfl
theorem r_hit:∀f∈fms,(!(Builtin.Str.occurrences (kst f) (Str.ofString "r") 0 (kst f).length 1).isEmpty)=true→(f.ks.map fkC)[3]?=some 114:=by decide+kernel
theorem aib {n j:Nat} (h:j < n):ixN n (j:Int)=some j:=by
 unfold ixN
 rw[if_pos (by omega),if_pos (by omega),Int.toNat_natCast]
theorem ws_at {f:Fm} {xs:List Int} {m:Nat} {k:Fk} (h:Ok f xs) (e:f.ks[m]?=some k):∃x,xs[m]?=some x∧okF k x∧(wsF f xs)[m+1]?=some (wtF k x):=by
 have hm:m < xs.length:=by rw[h.2.1];exact (List.getElem?_eq_some_iff.mp e).1
 have ex:xs[m]?=some xs[m]:=List.getElem?_eq_getElem hm
 refine⟨_,ex,h.2.2 m k _ e ex,?_⟩
 show (List.zipWith wtF f.ks xs)[m]?=_
 rw[List.getElem?_zipWith,e,ex]
theorem h_spo (T:Txt K mg A):Have P w K mg base "_law_spoilt" 4 ["_law_words","_law_kinds","_law_way","_law_cell"] [] sp_spo:=by
 have H_l_put:=akn (P:=P) (w:=w) (base:=base) T
 have H_l_other:=akm (P:=P) (w:=w) (base:=base) T
 have H_l_word:=ahw (P:=P) (w:=w) (base:=base) T
 have H_l_number_spoilt:=h_nsp (P:=P) (w:=w) (base:=base) T
 have H_l_rights_spoilt:=h_rsp (P:=P) (w:=w) (base:=base) T
 have H_l_odd:=h_odd (P:=P) (w:=w) (base:=base) T
 refine T.r_l_spoilt.have abb (fun vs H Q E z=>?_) ?_
 ·obtain⟨f,xs,l,y,c,rfl,_⟩:=z;rfl
 ·intro f' cdv A' outer s H vs Q E hr z
  obtain⟨f,xs,l,y,c,rfl,hO,hpos,hl,q⟩:=z
  obtain⟨h1,h2,h3,hf⟩:=afl hO
  have hz:=PySem.sizeLine_eq
  have hks:=ah9 f
  have hwl:((wsF f xs).map V.str).length=f.ks.length+1:=by rw[List.length_map,h2]
  have hrl:=(aed hO).1
  have l1:(Str.ofString " ").length=1:=by decide+kernel
  have l2:(Str.ofString "  ").length=2:=by decide+kernel
  have jo:=fun (ws:List Str) (hw:∀p∈ws,p∈wsF f xs) (hn:ws.length≤9)=>(agh (fun p hp=>(h1 p (hw p hp)).1) hn).2.2
  refine⟨_,(aag (aa0 (i:=4) abb.nd rfl (Or.inl rfl) (acx PySem.F.plainAttrs_str PySem.F.slot_str_join PySem.F.type_str_join acg aac (aaa (pvM 0) aab)))
   (aax (aj8 (i:=5) abb.nd rfl rfl rfl (aej rfl T.b_range (aaa (aaq aay rfl T.b_len PySem.boot_len (aaa (pvM 1) aab)) aab)) (x:="_law_k") (fs:=["_law_kinds"]) (ix:=[1]) rfl rfl (fun _ _ _ _ _ _=>(abz (i:=0) (show (["_law_k","_law_kinds"]:List Str).Nodup by decide+kernel) rfl (Or.inl rfl))) (fun _ _ _ _ _ _=>(pf_one (aal op_ne (abg ac5 (pvM 1) (pvM 0) (fun _ _=>rfl)) aac (nomark _)))) (fun _ _ _ _ _ _=>(aao aek (pvM 0) aae)))
   (aax (abc (aal abu (pvM 2) aae (nomark _)) (aaf (aak (aao aa2 aac (pvM 4)))) aam)
   (aax (abc (PW.pt (ac4 (aal abu (pvM 2) aae (nomark _)) (ace (aal aif (aaq aay rfl T.b_len PySem.boot_len (aaa (pvM 0) aab)) aae (nomark _))))) (aag (aa0 (i:=6) abb.nd rfl (Or.inl rfl) (aao aek aae (aao abl (pvM 3) (aao agr (aaq aay rfl T.b_len PySem.boot_len (aaa (pvM 0) aab)) aae))))
   (aaf (aak (aao aa2 (aao aa2 (acx PySem.F.plainAttrs_str PySem.F.slot_str_join PySem.F.type_str_join acg aac (aaa (abd acw (pvM 0) abw (abn (pvM 6))) aab)) aac) (acx PySem.F.plainAttrs_str PySem.F.slot_str_join PySem.F.type_str_join acg aac (aaa (abd acw (pvM 0) (abn (pvM 6)) abw) aab)))))) aam)
   (aax (abc (aal abu (pvM 2) aae (nomark _)) (aaf (aak (acx PySem.F.plainAttrs_str PySem.F.slot_str_join PySem.F.type_str_join acg aac (aaa (abd acw (pvM 0) abw (abn (pe_un op_neg aae))) aab)))) aam)
   (aax (abc (aal abu (pvM 2) aae (nomark _)) (aaf (aak (aao aa2 (aao aa2 (pvM 4) aac) (aai H_l_word (hr.mono (by decide)) aar (aaa (pvM 3) (aaa aac aab)))))) aam)
   (aax (abc (aal abu (pvM 2) aae (nomark _)) (aag (aa0 (i:=6) abb.nd rfl (Or.inl rfl) (aao abl (pvM 3) (aaq aay rfl T.b_len PySem.boot_len (aaa (abg abf (pvM 0) aae (fun _ _=>rfl)) aab))))
   (aaf (aak (aao aa2 (aai H_l_put (hr.mono (by decide)) aar (aaa (abg abf (pvM 0) aae (fun _ _=>rfl)) (aaa (pvM 6) (aaa (aai H_l_other (hr.mono (by decide)) aar (aaa (abg ac5 (abg abf (pvM 0) aae (fun _ _=>rfl)) (pvM 6) (fun _ _=>rfl)) (aaa (aao ab6 (pvM 3) aae) (aaa aac aab)))) aab)))) (abd aew (pvM 4) (abn (aaq aay rfl T.b_len PySem.boot_len (aaa (abg abf (pvM 0) aae (fun _ _=>rfl)) aab))) abw))))) aam)
   (aax (abc (PW.pt (ac4 (aig op_le op_le aae (pvM 2) aae) (ace (aal aif (aaq aay rfl T.b_len PySem.boot_len (aaa (pvM 5) aab)) aae (nomark _))))) (aag (aa0 (i:=6) abb.nd rfl (Or.inl rfl) (abg abf (pvM 5) (aao abl (pvM 3) (aaq aay rfl T.b_len PySem.boot_len (aaa (pvM 5) aab))) (fun _ _=>rfl)))
   (aag (aa0 (i:=7) abb.nd rfl (Or.inl rfl) (ab0 ac6 rfl T.b_list PyProof.Rows.boot_list (aaa (pvM 0) aab)))
   (aag (agm (aai H_l_number_spoilt (hr.mono (by decide)) aar (aaa (abg abf (pvM 0) (pvM 6) (fun _ _=>rfl)) (aaa (abg ac5 (pvM 1) (aao agr (pvM 6) aae) (fun _ _=>rfl)) (aaa (pvM 2) (aaa (aao ab6 (pvM 3) aae) aab))))) (ajd (pvM 7) (pvM 6) afo))
   (aaf (aak (acx PySem.F.plainAttrs_str PySem.F.slot_str_join PySem.F.type_str_join acg aac (aaa (pvM 7) aab))))))) aam)
   (aax (abc (PW.pt (ac4 (aal abu (pvM 2) aae (nomark _)) (ace (aal ahk aac (pvM 1) (by with_unfolding_all rfl))))) (aag (aa0 (i:=7) abb.nd rfl (Or.inl rfl) (ab0 ac6 rfl T.b_list PyProof.Rows.boot_list (aaa (pvM 0) aab)))
   (aag (agm (aai H_l_rights_spoilt (hr.mono (by decide)) aar (aaa (abg abf (pvM 0) aae (fun _ _=>rfl)) (aaa (pvM 3) aab))) (ajd (pvM 7) aae afo))
   (aaf (aak (acx PySem.F.plainAttrs_str PySem.F.slot_str_join PySem.F.type_str_join acg aac (aaa (pvM 7) aab)))))) aam)
   (aax (abc (aal abu (pvM 2) aae (nomark _)) (aaf (aak (aai H_l_odd (hr.mono (by decide)) aar (aaa (pvM 3) aab)))) aam)
   (aaf (aak (aao aa2 (pvM 4) aac))))))))))))),?_⟩
  unfold sp_put sp_oth sp_lword sp_nsp sp_rsp sp_odd rIxS rCatS
  walk_at "wp"
  refine⟨rfl,wsF f xs,SqL.of hl,jo _ (fun _ h=>h) (by omega),?_⟩
  refine⟨fun σ G=>∃(D:Addr) (ns:List Nat),σ=[some (.ref l),some (.str (kst f)),some (.int y),some (.int c),some (.str (rowT f xs)),some (.ref D),none,none]∧Same H G∧G D=some (.lst (ns.map fun n:Nat=>V.int ((n:Int)+1)))∧ns.length≤6∧∀n∈ns,∃k,f.ks[n]?=some k∧k≠.r,?_,fun σ1 G=>?_⟩
  ·walk_at "wp"
   refine⟨_,⟨by omega,rfl⟩,by omega,by omega,fun D hD=>?_⟩
   refine agf (fun m ys σ G=>∃(v0:Option V) (ns:List Nat),σ=[v0,some (.str (kst f))]∧Same H G∧G D=some (.lst ys)∧ys=(ns.map fun n:Nat=>V.int ((n:Int)+1))∧ns.length≤m∧∀n∈ns,∃k,f.ks[n]?=some k∧k≠.r) ⟨_,[],rfl,aah aad hD,aaj,rfl,Nat.le_refl _,fun n hn=>by cases hn⟩ (fun m ys σ G hm=>?_) (fun ys σ G=>?_)
   ·rintro⟨v0,ns,rfl,sg,hD1,rfl,hnl,hno⟩
    have hmk:m < f.ks.length:=by omega
    have ek:f.ks[m]?=some f.ks[m]:=List.getElem?_eq_getElem hmk
    generalize f.ks[m]=k' at ek
    walk_at "wp"
    refine⟨by omega,fkC k',by rw[Int.zero_add];exact aan (by rw[Array.getElem?_toList];exact aia ek),ite2 (fun e=>?_) (fun _=>⟨sg,hD1,ns,rfl,by omega,hno⟩)⟩
    refine⟨hD1,by rw[List.length_map];omega,aca sg hD,ns++[m],by rw[List.map_append,Int.zero_add];rfl,by rw[List.length_append];exact Nat.succ_le_succ hnl,fun n hn=>?_⟩
    rcases List.mem_append.mp hn with hn|hn
    ·exact hno n hn
    ·rw[List.mem_singleton.mp hn]
     refine⟨k',ek,fun z=>?_⟩
     rw[z] at e
     exact absurd e (by decide+kernel)
   ·rintro⟨v0,ns,rfl,sg,hD1,rfl,hnl,hno⟩
    exact⟨rfl,sg,ns,hD1,by omega,hno⟩
  rintro⟨D,ns,rfl,sG,hD,hnl,hno⟩
  have hlG:=sG _ _ hl
  refine⟨fun σ G1=>σ=[some (.ref l),some (.str (kst f)),some (.int y),some (.int c),some (.str (rowT f xs)),some (.ref D),none,none]∧G=G1,?_,fun σ1 G1=>?_⟩
  ·walk_at "wp"
   exact ite2 (fun _=>⟨by omega,q _ _ (ah4 hO) sG⟩) (fun _=>trivial)
  rintro⟨rfl,rfl⟩
  refine⟨fun σ G1=>σ=[some (.ref l),some (.str (kst f)),some (.int y),some (.int c),some (.str (rowT f xs)),some (.ref D),none,none]∧G=G1,?_,fun σ1 G1=>?_⟩
  ·walk_at "wp"
   by_cases y2:y=2
   ·rw[if_pos y2]
    refine⟨_,.inl ⟨_,SqL.of hlG,rfl⟩,ite2 (fun h9=>⟨_,.inl ⟨_,SqL.of hlG,rfl⟩,by omega,rfl,_,SqL.of hlG,fun p hp=>?_⟩) (fun _=>trivial)⟩
    obtain⟨j,e,hj1,hj2⟩:∃j:Nat,1+c % ((((wsF f xs).map V.str).length:Int) - 1)=j∧1≤j∧j < (wsF f xs).length:=by
     have g1:=Int.emod_lt_of_pos c (show (0:Int) < (((wsF f xs).map V.str).length:Int) - 1 by omega)
     have g2:=Int.emod_nonneg c (show (((wsF f xs).map V.str).length:Int) - 1≠0 by omega)
     exact⟨(1+c % ((((wsF f xs).map V.str).length:Int) - 1)).toNat,by omega,by omega,by omega⟩
    rw[e,akc,←List.map_take]
    obtain⟨s1,g1⟩:=abe (o:=.lst (((wsF f xs).take j).map V.str)) hp
    generalize upd G p _=Gp at *
    have b1:=jo ((wsF f xs).take j) (fun p hp=>List.mem_of_mem_take hp) (by rw[List.length_take];omega)
    have b2:=jo ((wsF f xs).drop j) (fun p hp=>List.mem_of_mem_drop hp) (by rw[List.length_drop];omega)
    have b3:=(agh (ws:=(wsF f xs).take j) (fun p hp=>(h1 p (List.mem_of_mem_take hp)).1) (by rw[List.length_take];omega)).1
    have b4:=(agh (ws:=(wsF f xs).drop j) (fun p hp=>(h1 p (List.mem_of_mem_drop hp)).1) (by rw[List.length_drop];omega)).1
    refine⟨_,SqL.of g1,b1,by show (jn _).length+_≤_;omega,rfl,_,SqL.of (s1 _ _ hlG),fun p2 hp2=>?_⟩
    rw[ae2,←List.map_drop]
    refine⟨_,SqL.of aaj,b2,by rw[aap];show (jn _).length+_+(jn _).length≤_;omega,q _ _ (akr hO hj1 hj2) (aah (sG.trans s1) hp2)⟩
   ·rw[if_neg y2,if_neg (fun z=>nomatch z)]
    trivial
  rintro⟨rfl,rfl⟩
  refine⟨fun σ G1=>σ=[some (.ref l),some (.str (kst f)),some (.int y),some (.int c),some (.str (rowT f xs)),some (.ref D),none,none]∧G=G1,?_,fun σ1 G1=>?_⟩
  ·walk_at "wp"
   refine ite2 (fun _=>⟨rfl,_,SqL.of hlG,fun p hp=>?_⟩) (fun _=>trivial)
   have e:cutV ((wsF f xs).map V.str) none (some (-1))=((wsF f xs).take f.ks.length).map V.str:=by
    unfold cutV
    show (((wsF f xs).map V.str).drop 0).take ((if (-1:Int) < 0 then ((-1:Int)+(((wsF f xs).map V.str).length:Int)).toNat else min (-1:Int).toNat ((wsF f xs).map V.str).length) - 0)=_
    rw[if_pos (by omega),hwl,List.drop_zero,Nat.sub_zero,←List.map_take]
    congr 2
    omega
   rw[e]
   exact⟨_,SqL.of aaj,jo _ (fun p hp=>List.mem_of_mem_take hp) (by rw[List.length_take];omega),q _ _ (ai8 hO) (aah sG hp)⟩
  rintro⟨rfl,rfl⟩
  refine⟨fun σ G1=>σ=[some (.ref l),some (.str (kst f)),some (.int y),some (.int c),some (.str (rowT f xs)),some (.ref D),none,none]∧G=G1,?_,fun σ1 G1=>?_⟩
  ·walk_at "wp"
   refine ite2 (fun _=>⟨by omega,.n,by decide+kernel,fun x H' hx _ s2=>?_⟩) (fun _=>trivial)
   have hw:=wk_ok hx
   have:=hw.1.2
   exact⟨by rw[aap];omega,q _ _ (af7 hO hw) (sG.trans s2)⟩
  rintro⟨rfl,rfl⟩
  refine⟨fun σ G1=>σ=[some (.ref l),some (.str (kst f)),some (.int y),some (.int c),some (.str (rowT f xs)),some (.ref D),none,none]∧G=G1,?_,fun σ1 G1=>?_⟩
  ·walk_at "wp"
   refine ite2 (fun _=>?_) (fun _=>trivial)
   have hfl:=(afg f hf).2.1
   have hf1:1≤f.w.length:=(show ∀f∈fms,1≤f.w.length by decide+kernel) f hf
   have a0:atI ((wsF f xs).map V.str) 0=some (V.str f.w):=aan (j:=0) rfl
   obtain⟨j,hj,e⟩:∃j:Nat,j < f.w.length∧c % (f.w.length:Int)=j:=by
    have g1:=Int.emod_lt_of_pos c (show (0:Int) < f.w.length by omega)
    have g2:=Int.emod_nonneg c (show (f.w.length:Int)≠0 by omega)
    exact⟨(c % (f.w.length:Int)).toNat,by omega,by omega⟩
   have hsz:f.w.cps.size=f.w.length:=rfl
   have hg:f.w.cps[j]?=some (f.w.cps[j]'(by omega)):=Array.getElem?_eq_getElem (by omega)
   have hrw:f.w.length≤(rowT f xs).length:=Nat.le_trans (aee (s:=Str.ofString " ") (ps:=wsF f xs) (p:=f.w) (List.mem_cons_self ..)).2 (by rw[←aaz];exact Nat.le_refl _)
   refine⟨_,SqL.of hlG,_,a0,_,⟨by omega,rfl⟩,by omega,_,SqL.of hlG,_,a0,_,SqL.of hlG,_,a0,_,rfl,by omega,f.w.cps[j]'(by omega),by rw[e];exact aan (by rw[Array.getElem?_toList];exact hg),by decide+kernel,fun x x1 x2 hx=>⟨_,rfl,_,j,e,rfl,by omega,(show (1:Nat)≤2000 by omega),hj,_,SqL.of hlG,_,a0,_,⟨by omega,rfl⟩,by omega,?_,?_⟩⟩
   ·rw[afi hrw,acl hj]
    show _+((rowT f xs).cps.toList.drop f.w.length).toArray.size≤_
    rw[List.size_toArray,List.length_drop,abt]
    omega
   ·rw[afi hrw]
    exact q _ _ (ah7 hO hj hg ⟨x1,x2⟩ (hx.imp id fun z y=>z.1 (by rw[y]))) sG
  rintro⟨rfl,rfl⟩
  refine⟨fun σ G1=>σ=[some (.ref l),some (.str (kst f)),some (.int y),some (.int c),some (.str (rowT f xs)),some (.ref D),none,none]∧G=G1,?_,fun σ1 G1=>?_⟩
  ·walk_at "wp"
   by_cases y6:6≤y
   ·rw[if_pos y6]
    by_cases y9:y≤9
    ·rw[if_pos y9]
     refine⟨_,.inl ⟨_,SqL.of hD,rfl⟩,ite2 (fun h9=>⟨_,.inl ⟨_,SqL.of hD,rfl⟩,h9,_,SqL.of hD,?_⟩) (fun _=>trivial)⟩
     rw[List.length_map] at h9 ⊢
     obtain⟨j,hj,e⟩:∃j:Nat,j < ns.length∧c % (ns.length:Int)=j:=by
      have g1:=Int.emod_lt_of_pos c h9
      have g2:=Int.emod_nonneg c (show (ns.length:Int)≠0 by omega)
      exact⟨(c % (ns.length:Int)).toNat,by omega,by omega⟩
     have hnj:ns[j]?=some ns[j]:=List.getElem?_eq_getElem hj
     obtain⟨k,hk,hkr⟩:=hno _ (List.mem_of_getElem? hnj)
     generalize ns[j]=n at *
     rw[e]
     obtain⟨x,hx,hox,hwx⟩:=ws_at hO hk
     have hx0:=hpos x (List.mem_of_getElem? hx)
     have hGd:Good (wtF k x):=by
      cases k with
      |n=>exact (ab4 hox.1 hox.2).1
      |v=>exact (ab4 (n:=x) hx0 hox.2).1
      |r=>exact absurd rfl hkr
     have hnk:=(List.getElem?_eq_some_iff.mp hk).1
     refine⟨_,aan (by rw[List.getElem?_map,hnj];rfl),_,.inl (SqL.of hlG),fun p hp=>?_⟩
     obtain⟨s1,g1⟩:=abe (o:=.lst ((wsF f xs).map V.str)) hp
     generalize upd G p _=Gp at *
     refine⟨_,_,rfl,SqL.of (s1 _ _ hlG),V.str (wtF k x),?_,_,rfl,by omega,fkC k,by rw[show (n:Int)+1 - 1=n by omega];exact aan (by rw[Array.getElem?_toList];exact aia hk),k,_,rfl,rfl,hkr,hGd,fun b H' hb s2=>⟨_,_,rfl,s2 _ _ g1,n+1,?_,rfl,(wsF f xs).set (n+1) b,?_,?_,q _ _ (adm hO hk hb).1 ?_⟩⟩
     ·exact aan (j:=n+1) (by rw[List.getElem?_map,hwx];rfl)
     ·have:=aib (n:=((wsF f xs).map V.str).length) (j:=n+1) (by omega)
      exact this
     ·rw[List.map_set]
      exact SqL.of aaj
     ·exact (agh (adm hO hk hb).2 (by rw[List.length_set];omega)).2.2
     ·exact aca ((sG.trans s1).trans s2) (adk sG hp)
    ·rw[if_neg y9,if_neg (fun z=>nomatch z)]
     trivial
   ·rw[if_neg y6]
    simp
  rintro⟨rfl,rfl⟩
  refine⟨fun σ G1=>σ=[some (.ref l),some (.str (kst f)),some (.int y),some (.int c),some (.str (rowT f xs)),some (.ref D),none,none]∧G=G1,?_,fun σ1 G1=>?_⟩
  ·walk_at "wp"
   by_cases y10:y=10
   ·rw[if_pos y10]
    refine ite2 (fun hh=>?_) (fun _=>trivial)
    have h3':=r_hit f hf hh
    obtain⟨hk3,hkr⟩:f.ks[3]?=some .r∧True:=by
     rw[List.getElem?_map] at h3'
     cases e:f.ks[3]? with
     |none=>rw[e] at h3';cases h3'
     |some k=>
      rw[e] at h3'
      cases k with
      |n=>exact absurd (Option.some.inj h3') (by decide)
      |v=>exact absurd (Option.some.inj h3') (by decide)
      |r=>exact⟨rfl,trivial⟩
    obtain⟨x,hx,hox,hwx⟩:=ws_at hO hk3
    have hrt:wtF .r x∈rts:=by
     have h0:=hox.1
     have h4:=hox.2
     obtain rfl|rfl|rfl|rfl:x=0∨x=1∨x=2∨x=3:=by omega
     all_goals decide+kernel
    have hnk:=(List.getElem?_eq_some_iff.mp hk3).1
    refine⟨_,.inl (SqL.of hlG),fun p hp=>?_⟩
    obtain⟨s1,g1⟩:=abe (o:=.lst ((wsF f xs).map V.str)) hp
    generalize upd G p _=Gp at *
    refine⟨_,SqL.of (s1 _ _ hlG),V.str (wtF .r x),aan (j:=4) (by rw[List.getElem?_map,hwx];rfl),_,rfl,hrt,fun b H' hb s2=>⟨_,s2 _ _ g1,4,aib (j:=4) (by omega),rfl,(wsF f xs).set 4 b,?_,?_,q _ _ (adm hO hk3 (ah8 hrt hb)).1 ?_⟩⟩
    ·rw[List.map_set]
     exact SqL.of aaj
    ·exact (agh (adm hO hk3 (ah8 hrt hb)).2 (by rw[List.length_set];omega)).2.2
    ·exact aca ((sG.trans s1).trans s2) (adk sG hp)
   ·rw[if_neg y10,if_neg (fun z=>nomatch z)]
    trivial
  rintro⟨rfl,rfl⟩
  refine⟨fun σ G1=>σ=[some (.ref l),some (.str (kst f)),some (.int y),some (.int c),some (.str (rowT f xs)),some (.ref D),none,none]∧G=G1,?_,fun σ1 G1=>?_⟩
  ·walk_at "wp"
   exact ite2 (fun _=>fun b H' l1 l2 l3 s2=>q _ _ ⟨l1,l2,l3⟩ (sG.trans s2)) (fun _=>trivial)
  rintro⟨rfl,rfl⟩
  walk_at "wp"
  exact⟨by omega,q _ _ (agi hO) sG⟩
theorem aeg {f:Fm} {xs:List Int}:(due f xs).all flatV=true:=by
 unfold due
 rw[List.all_append,List.all_cons,ahc]
 split<;>rfl
theorem ad1 {x y:Int} {b:Str}:Str.ofString "write "++Str.ofString (toString x)++Str.ofString " "++Str.ofString (toString y)++Str.ofString " "++b=jn [Str.ofString "write",Str.ofString (toString x),Str.ofString (toString y),b]:=by
 show _=Txt.join (Str.ofString " ") _
 rw[aaz]
 show _=Str.ofString "write"++Str.ofString " "++(Str.ofString (toString x)++Str.ofString " "++(Str.ofString (toString y)++Str.ofString " "++b))
 refine abp ?_
 simp only[aav,List.append_assoc]
 rw[show (Str.ofString "write ").cps.toList=(Str.ofString "write").cps.toList++(Str.ofString " ").cps.toList by decide+kernel,List.append_assoc]
noncomputable def fW:Fm:=⟨"write",[.n,.n,.v]⟩
theorem fW_in:fms[10]?=some fW:=rfl
theorem fW_ok {x y z:Int} (hx:okF .n x) (hy:okF .n y) (hz:okF .v z):Ok fW [x,y,z]:=by
 refine⟨⟨10,fW_in⟩,rfl,fun i k u e1 e2=>?_⟩
 match i,e1,e2 with
 |0,e1,e2=>cases e1;cases e2;exact hx
 |1,e1,e2=>cases e1;cases e2;exact hy
 |2,e1,e2=>cases e1;cases e2;exact hz
 |i+3,e1,e2=>cases e1
theorem ai9 {x y z:Int}:Str.ofString "write "++wtF .n x++Str.ofString " "++wtF .n y++Str.ofString " "++wtF .v z=rowT fW [x,y,z]:=ad1
theorem aja {x y:Int} (hx:okF .n x) (hy:okF .n y):RowS (Str.ofString "write "++wtF .n x++Str.ofString " "++wtF .n y++Str.ofString " "++Str.ofString "-0"):=by
 have z:=(adm (i:=2) (k:=.v) (b:=Str.ofString "-0") (fW_ok (z:=0) hx hy ⟨by decide,by decide⟩) rfl ⟨by decide+kernel,ab5 (by decide+kernel),.inl ⟨show 32∉(Str.ofString "-0").cps.toList by decide+kernel,ahx (by decide+kernel)⟩⟩).1
 rw[show Str.ofString "write "++wtF .n x++Str.ofString " "++wtF .n y++Str.ofString " "++Str.ofString "-0"=_ from ad1]
 exact z
noncomputable def spLaw (K:PySem.W.Frag):Sp:=fun vs H Q _=>∃(a:Addr) (ns:List Int),vs=[.ref a]∧SqL K H a (ns.map V.int)∧ns.length≤63∧∀H',Q (.bl true) H'
theorem ajb (T:Txt K mg A):Body P w K mg base "law" afe ["_law_script","_law_word_here","_law_kinds","_law_words","_law_k","_law_row","_law_cell","_law_lead"] 12 (spLaw K):=by
 intro f' cdv A' outer s H vs Q E hr z
 obtain⟨a,ns,rfl,hs,hn,q⟩:=z
 have H_l_cell_at:=h_cell (P:=P) (w:=w) (base:=base) T a ns
 have H_l_form:=akk (P:=P) (w:=w) (base:=base) T
 have H_l_word:=ahw (P:=P) (w:=w) (base:=base) T
 have H_l_spoilt:=h_spo (P:=P) (w:=w) (base:=base) T
 have H_l_refused:=h_ref (P:=P) (w:=w) (base:=base) T
 have H_read_row:=h_row (P:=P) (w:=w) (base:=base) T
 refine⟨_,(aax (agm (aai H_l_form (hr.mono (by decide)) aar (aaa (aai H_l_cell_at (hr.mono (by decide)) aar (aaa (pvM 0) (aaa aae aab))) aab)) (ajc (n:=2) rfl (acj (abz (i:=1) ac8.nd rfl (Or.inl rfl)) (acj (abz (i:=2) ac8.nd rfl (Or.inl rfl)) ae7))))
   (aax (aa0 (i:=3) ac8.nd rfl (Or.inl rfl) (acd (aaa (pvM 1) aab)))
   (aax (afb PassesOwn.leaving rfl (aej rfl T.b_range (aaa (aaq aay rfl T.b_len PySem.boot_len (aaa (pvM 2) aab)) aab)) (abz (i:=4) ac8.nd rfl (Or.inl rfl)) (aaf (agl (acx PySem.F.plainAttrs_list PySem.F.slot_list_append PySem.F.type_list_append adg (pvM 3) (aaa (aai H_l_word (hr.mono (by decide)) aar (aaa (aai H_l_cell_at (hr.mono (by decide)) aar (aaa (pvM 0) (aaa (aao aek aae (pvM 4)) aab))) (aaa (abg ac5 (pvM 2) (pvM 4) (fun _ _=>rfl)) aab))) aab)))))
   (aax (aa0 (i:=5) ac8.nd rfl (Or.inl rfl) (acx PySem.F.plainAttrs_str PySem.F.slot_str_join PySem.F.type_str_join acg aac (aaa (pvM 3) aab)))
   (aax (abc (ads (ac3 (aaq aik rfl T.b_isinstance PyProof.Rows.boot_isinstance (aaa (aai H_read_row (hr.mono (by decide)) aar (aaa (pvM 5) aab)) (aaa (afq (n:="tuple") rfl T.b_tuple PyProof.Rows.boot_tuple) aab))))) (aaf (aak ad4)) aam)
   (aax (abc (ads (ac3 (aai H_l_refused (hr.mono (by decide)) aar (aaa (aai H_l_spoilt (hr.mono (by decide)) aar (aaa (pvM 3) (aaa (pvM 2) (aaa (aao abl (aai H_l_cell_at (hr.mono (by decide)) aar (aaa (pvM 0) (aaa aae aab))) aae) (aaa (aai H_l_cell_at (hr.mono (by decide)) aar (aaa (pvM 0) (aaa aae aab))) aab))))) aab)))) (aaf (aak ad4)) aam)
   (aax (afb PassesOwn.leaving rfl (ajt (abd acw (pvM 0) (abn aae) (abn aae))) (abz (i:=6) ac8.nd rfl (Or.inl rfl)) (aaf (abc (ads (ac3 (aai H_l_refused (hr.mono (by decide)) aar (aaa (aai H_l_spoilt (hr.mono (by decide)) aar (aaa (pvM 3) (aaa (pvM 2) (aaa (aao abl (pvM 6) aae) (aaa (aao ab6 (pvM 6) aae) aab))))) aab)))) (aaf (aak ad4)) aam)))
   (aax (aa0 (i:=7) ac8.nd rfl (Or.inl rfl) (aao aa2 (aao aa2 (aao aa2 (aao aa2 aac (aai H_l_word (hr.mono (by decide)) aar (aaa (aai H_l_cell_at (hr.mono (by decide)) aar (aaa (pvM 0) (aaa aae aab))) (aaa aac aab)))) aac) (aai H_l_word (hr.mono (by decide)) aar (aaa (aai H_l_cell_at (hr.mono (by decide)) aar (aaa (pvM 0) (aaa aae aab))) (aaa aac aab)))) aac))
   (aax (abc (PW.pt (ajs (ads (ac3 (aai H_l_refused (hr.mono (by decide)) aar (aaa (aao aa2 (pvM 7) aac) aab)))) (agk (aal op_ne (abg afn (aai H_read_row (hr.mono (by decide)) aar (aaa (aao aa2 (pvM 7) aac) aab)) aae (fun _ _=>rfl)) aae (nomark _))))) (aaf (aak ad4)) aam)
   (aaf (aak (agv (op_eqD (n:=4) (hu6 hr)) (aai H_read_row (hr.mono (by decide)) aar (aaa (pvM 5) aab)) (aai H_read_row (hr.mono (by decide)) aar (aaa (acx PySem.F.plainAttrs_str PySem.F.slot_str_join PySem.F.type_str_join acg aac (aaa (pvM 3) aab)) aab)) (nomark _))))))))))))),?_⟩
 have hz:=PySem.sizeLine_eq
 refine⟨fun σ G=>∃(k:Nat) (f:Fm),σ=[some (.ref a),some (.str f.w),some (.str (kst f)),none,none,none,none,none]∧fms[k]?=some f∧Same H G,?_,fun σ1 G1=>?_⟩
 ·walk_at "wp"
  refine⟨_,rfl,hs,by omega,?_⟩
  walk_at "wp"
  refine⟨_,rfl,fun k f t G hf sG ht=>?_⟩
  walk_at "wp"
  exact⟨_,SqT.of ht,rfl,_,_,rfl,_,_,rfl,rfl,k,f,rfl,rfl,hf,sG⟩
 rintro⟨k,f,rfl,hf,sg1⟩
 have hks:=ah9 f
 have hk6:f.ks.length≤6:=(afg f (List.mem_of_getElem? hf)).2.2
 refine⟨fun σ G=>∃l,σ=[some (.ref a),some (.str f.w),some (.str (kst f)),some (.ref l),none,none,none,none]∧Same H G∧H l=none∧G l=some (.lst [V.str f.w]),?_,fun σ2 G2=>?_⟩
 ·walk_at "wp"
  intro p hp
  exact⟨aah sg1 hp,adk sg1 hp⟩
 rintro⟨l,rfl,sg2,hln,hl2⟩
 refine⟨fun σ G=>∃v4 xs,σ=[some (.ref a),some (.str f.w),some (.str (kst f)),some (.ref l),v4,none,none,none]∧Same H G∧Ok f xs∧(∀x∈xs,0≤x)∧G l=some (.lst ((wsF f xs).map V.str)),?_,fun σ3 G3=>?_⟩
 ·unfold rIxS
  walk_at "wp"
  refine⟨_,⟨by omega,rfl⟩,by omega,by omega,agd (fun i σ G=>∃(v4:Option V) (xs:List Int),σ=[some (.ref a),some (.str f.w),some (.str (kst f)),some (.ref l),v4,none,none,none]∧Same H G∧xs.length=i∧(∀(j:Nat) k x,f.ks[j]?=some k→xs[j]?=some x→okF k x)∧(∀x∈xs,0≤x)∧G l=some (.lst ((wsF f xs).map V.str))) ⟨_,[],rfl,sg2,rfl,(fun j k x _ e=>by cases e),(fun x h=>by cases h),by rw[hl2];unfold wsF;rw[List.zipWith_nil_right];rfl⟩ (fun i σ G hi=>?_) (fun σ G=>?_)⟩
  ·rintro⟨v4,xs,rfl,sg,hxl,hxo,hpos,hlg⟩
   have hik:i < f.ks.length:=by omega
   have ek:f.ks[i]?=some f.ks[i]:=List.getElem?_eq_getElem hik
   generalize f.ks[i]=k' at ek
   walk_at "wp"
   refine⟨.inl ⟨rfl,_,SqL.of hlg⟩,_,rfl,sg.seq hs,by omega,?_⟩
   walk_at "wp"
   refine⟨by omega,fkC k',by rw[Int.zero_add];exact aan (by rw[Array.getElem?_toList];exact aia ek),k',_,rfl,fun x H' hx hx0 s9=>?_⟩
   have hwx:wsF f (xs++[x])=wsF f xs++[wtF k' x]:=by
    unfold wsF
    rw[List.cons_append]
    refine congrArg (f.w::·) (List.ext_getElem? fun j=>?_)
    have hzl:(List.zipWith wtF f.ks xs).length=i:=by rw[List.length_zipWith];omega
    by_cases c:j < i
    ·rw[List.getElem?_append_left (by omega),List.getElem?_zipWith,List.getElem?_zipWith,List.getElem?_append_left (by omega)]
    ·by_cases c2:j=i
     ·subst c2
      rw[List.getElem?_append_right (by omega),hzl,Nat.sub_self,List.getElem?_zipWith,ek,List.getElem?_append_right (by omega),hxl,Nat.sub_self]
      rfl
     ·rw[List.getElem?_eq_none (by rw[List.length_zipWith,List.length_append];show min _ (xs.length+1)≤j;omega),List.getElem?_eq_none (by rw[List.length_append,hzl];show i+1≤j;omega)]
   refine⟨_,s9 _ _ hlg,by rw[List.length_map,wsF,List.length_cons,List.length_zipWith];omega,aca (sg.trans s9) hln,xs++[x],by rw[List.length_append,hxl];rfl,fun j k x' e1 e2=>?_,fun x' hx'=>?_,by rw[hwx,List.map_append];rfl⟩
   ·by_cases c:j < i
    ·rw[List.getElem?_append_left (by omega)] at e2;exact hxo j k x' e1 e2
    ·have hj:=(List.getElem?_eq_some_iff.mp e2).1
     rw[List.length_append,hxl] at hj
     have hj:j < i+1:=hj
     obtain rfl:j=i:=by omega
     rw[List.getElem?_append_right (by omega),hxl,Nat.sub_self] at e2
     cases e2
     rw[ek] at e1
     cases e1
     exact hx
   ·rcases List.mem_append.mp hx' with h|h
    ·exact hpos x' h
    ·rw[List.mem_singleton.mp h];exact hx0
  ·rintro⟨v4,xs,rfl,sg,hxl,hxo,hpos,hlg⟩
   exact⟨v4,rfl,sg,xs,⟨⟨k,hf⟩,by omega,hxo⟩,hpos,hlg⟩
 rintro⟨v4,xs,rfl,sg3,hO,hpos,hl3⟩
 refine⟨fun σ G=>σ=[some (.ref a),some (.str f.w),some (.str (kst f)),some (.ref l),v4,some (.str (rowT f xs)),none,none]∧G3=G,?_,fun σ4 G4=>?_⟩
 ·walk_at "wp"
  exact⟨rfl,_,SqL.of hl3,(aed hO).2,rfl⟩
 rintro⟨rfl,rfl⟩
 refine⟨fun σ G=>σ=[some (.ref a),some (.str f.w),some (.str (kst f)),some (.ref l),v4,some (.str (rowT f xs)),none,none]∧Same G3 G,?_,fun σ4 G4=>?_⟩
 ·walk_at "wp"
  refine⟨f,xs,rfl,hO,fun p G sG hp=>?_⟩
  refine⟨by decide,kn_tup hp,?_⟩
  rw[aio hp]
  exact iteF sG
 rintro⟨rfl,sg4⟩
 refine⟨fun σ G=>σ=[some (.ref a),some (.str f.w),some (.str (kst f)),some (.ref l),v4,some (.str (rowT f xs)),none,none]∧Same G3 G,?_,fun σ5 G5=>?_⟩
 ·walk_at "wp"
  refine⟨_,rfl,(sg3.trans sg4).seq hs,by omega,_,rfl,_,rfl,(sg3.trans sg4).seq hs,by omega,f,xs,l,_,_,rfl,hO,hpos,sg4 _ _ hl3,fun b H' hb s2=>⟨b,rfl,hb.l,hb.c,hb.b,fun H2 s3=>⟨true,rfl,iteF ((sg4.trans s2).trans s3)⟩⟩⟩
 rintro⟨rfl,sg5⟩
 refine⟨fun σ G=>∃v6,σ=[some (.ref a),some (.str f.w),some (.str (kst f)),some (.ref l),v4,some (.str (rowT f xs)),v6,none]∧Same G3 G,?_,fun σ6 G6=>?_⟩
 ·walk_at "wp"
  refine⟨_,(sg3.trans sg5).seq hs,fun p hp=>?_⟩
  rw[show cutV (ns.map V.int) (some 9) (some 19)=_ from ai0 (lo:=9) (hi:=19),←List.map_take,←List.map_drop]
  obtain⟨s1,g1⟩:=abe (o:=.lst (((ns.take 19).drop 9).map V.int)) hp
  generalize upd G5 p _=Gp at *
  refine⟨⟨_,SqL.of g1⟩,ag6 (K:=K) (xs:=((ns.take 19).drop 9).map V.int) (fun i σ G=>∃v6,σ=[some (.ref a),some (.str f.w),some (.str (kst f)),some (.ref l),v4,some (.str (rowT f xs)),v6,none]∧Same Gp G) ⟨_,rfl,aad⟩ (fun i σ G _ ⟨_,_,e⟩=>SqL.of (e _ _ g1)) (fun i x σ G hx=>?_) (fun σ G=>?_)⟩
  ·rintro⟨v6,rfl,s2⟩
   rw[List.getElem?_map] at hx
   obtain⟨c,hc,rfl⟩:=Option.map_eq_some_iff.mp hx
   walk_at "wp"
   refine⟨f,xs,l,_,_,rfl,hO,hpos,s2 _ _ (s1 _ _ (sg5 _ _ hl3)),fun b H' hb s3=>⟨b,rfl,hb.l,hb.c,hb.b,fun H2 s4=>⟨true,rfl,iteF ((s2.trans s3).trans s4)⟩⟩⟩
  ·rintro⟨v6,rfl,s2⟩
   exact⟨_,rfl,(sg5.trans s1).trans s2⟩
 rintro⟨v6,rfl,sg6⟩
 refine⟨fun σ G=>∃x y,σ=[some (.ref a),some (.str f.w),some (.str (kst f)),some (.ref l),v4,some (.str (rowT f xs)),v6,some (.str (Str.ofString "write "++wtF .n x++Str.ofString " "++wtF .n y++Str.ofString " "))]∧okF .n x∧okF .n y∧Same G3 G,?_,fun σ7 G7=>?_⟩
 ·unfold rCatS
  walk_at "wp"
  have l1:(Str.ofString "write ").length=6∧(Str.ofString " ").length=1:=by decide+kernel
  refine⟨_,rfl,(sg3.trans sg6).seq hs,by omega,.n,_,rfl,fun x G hx _ s2=>?_⟩
  have hx61:=(adl hx).2
  refine⟨_,rfl,by omega,by rw[aap];omega,_,rfl,((sg3.trans sg6).trans s2).seq hs,by omega,.n,_,rfl,fun y G' hy _ s3=>?_⟩
  have hy61:=(adl hy).2
  exact⟨_,rfl,by rw[aap,aap];omega,by rw[aap,aap,aap];omega,x,y,rfl,hx,hy,(sg6.trans s2).trans s3⟩
 rintro⟨x,y,rfl,hx,hy,sg7⟩
 refine⟨fun σ G=>σ=[some (.ref a),some (.str f.w),some (.str (kst f)),some (.ref l),v4,some (.str (rowT f xs)),v6,some (.str (Str.ofString "write "++wtF .n x++Str.ofString " "++wtF .n y++Str.ofString " "))]∧Same G3 G,?_,fun σ8 G8=>?_⟩
 ·unfold rCatS
  walk_at "wp"
  have l1:(Str.ofString "write ").length=6∧(Str.ofString " ").length=1∧(Str.ofString "-0").length=2∧(Str.ofString "0").length=1:=by decide+kernel
  have hx61:=(adl hx).2
  have hy61:=(adl hy).2
  have hb:=aja hx hy
  have hll:(Str.ofString "write "++wtF Fk.n x++Str.ofString " "++wtF Fk.n y++Str.ofString " ").length≤1000:=by
   rw[aap,aap,aap,aap]
   omega
  refine⟨by omega,_,rfl,hb.l,hb.c,hb.b,fun H2 s3=>⟨true,rfl,iteF ⟨by omega,fW,[x,y,0],?_,fW_ok hx hy ⟨by decide,by decide⟩,fun p H3 s4 hp=>⟨p,rfl,_,SqT.of hp,V.int 0,aan (j:=3) rfl,rfl,iteF ((sg7.trans s3).trans s4)⟩⟩⟩⟩
  rw[←ai9]
  rfl
 rintro⟨rfl,sg8⟩
 walk_at "wp"
 refine⟨f,xs,rfl,hO,fun p G s1 hp=>⟨rfl,wsF f xs,SqL.of (s1 _ _ (sg8 _ _ hl3)),(aed hO).2,f,xs,rfl,hO,fun p2 G2 s2 hp2=>?_⟩⟩
 refine⟨true,dFl (due f xs),dFl (due f xs),afy (SqT.of (s2 _ _ hp)) aeg,afy (SqT.of hp2) aeg,afz _ _,by rw[ahb];omega,?_⟩
 rw[eq_fl _ aeg]
 exact q _
end
theorem walk {l:PySem.W.OpenLaw} {q:Program} {loose:List Str} {XP:(Str→Option Value)→Heap→Prop} {YP:World→Heap→Prop} {d:DefRec} {K:Params→PySem.W.Frag} (hn:l.most=some 63) (hdf:d.params.defaults=[]) (hdn:d.name="law")
  (hY:∀(w:World) (h:Heap),YP w h→(K w.params).In h)
  (F:∀(w:World) (mg:Str→Option Value) (h:Heap),(K w.params).In h→h.Ns mainGlobals mg→∃A:Adr,Txt (K w.params) mg A):
  PySem.W.WalkO q loose XP YP l.row.toRowW d [] (fun f vs=>PySem.call f vs):=by
 refine L2.ajy (n:=63) (k:=12+1) (x:="_law_script") (CX:=fun w=>CXe l.prog w) (sp:=fun w=>spLaw (K w.params)) hn (by decide) hdf ⟨rfl,by decide,by decide⟩ hY ?_ (fun _ _ a ns hl _ hS=>⟨a,ns,rfl,hS,hl,fun _=>rfl⟩) fun _ _ _ _ _ ⟨_,_,_,_,_,_,_,_,_,_,z⟩=>z
 intro w mg fa h KX G hmg
 rw[hdn] at hmg
 obtain⟨A,T⟩:=F w mg h KX G
 obtain⟨f,fd,e,Fn,hb⟩:=T.r_law
 have e0:=hmg.symm.trans e
 cases e0
 exact⟨fd,hb,fun base _ _=>Fn.okE ac8 (fun vs H Q E z=>by obtain⟨a,ns,rfl,_⟩:=z;rfl) (ajb (P:=l.prog) (w:=w) (base:=base) T)⟩
section
open Hd
noncomputable def o2 (_:Params):Obj:=⟨.none,none,.dict ⟨[]⟩ 0, #[]⟩
noncomputable def o3 (P:Params):Obj:=dO 46 [ent P (S 6944663249689206880) 165 (.str (S 187160822625176242902604164674112609653591785893934420702290541) 508),ent P (S 27127582262911072) 166 .none,ent P (S 116512114954948911152848992) 167 .none,ent P (S 455126385231797511086176) 168 (.builtin "__main__.__loader__#opaque"),ent P (S 6944661016558198880) 169 .none,ent P (S 500416834696884185539869749159288928) 170 (.ref 6),ent P (S 29827167671303893903271485536) 171 (.ref 4),ent P (S 6944663245527933024) 173 (.str (S 9700865007064396754801562313776) 172),ent P (S 455125376429887381069920) 174 .none,ent P (S 545146499936607105348423) 206 (.ref 24),ent P (S 28835115112362063) 222 (.ref 37),ent P (S 2037243915540886812240) 238 (.ref 49),ent P (S 2148282720731175150147) 254 (.ref 61),ent P (S 119247121772623) 270 (.ref 73),ent P (S 119225645756495) 286 (.ref 85),ent P (S 2000274411557569787472) 302 (.ref 97),ent P (S 478459748949) 318 (.ref 109),ent P (S 1870502957375938719823) 334 (.ref 121),ent P (S 33048469456515151) 350 (.ref 133),ent P (S 121429199908943) 366 (.ref 145),ent P (S 2054452803) 382 (.ref 157),ent P (S 517280591951) 398 (.ref 169),ent P (S 23721221787503175) 402 (.str (S 274952771184632846823985) 401),ent P (S 26081759180413132732766638158) 404 (.int (60) 403),ent P (S 92725278427731) 409 (.ref 172),ent P (S 362091335751) 454 (.ref 188),ent P (S 21479244246831183) 456 (.ref 189),ent P (S 29115482073428071) 465 (.ref 196),ent P (S 2128753430546115228778) 471 (.ref 201),ent P (S 139509984824270207381038707) 478 (.ref 208),ent P (S 483865979046955292190323) 486 (.ref 215),ent P (S 140789856385873457589675635) 493 (.ref 222),ent P (S 1871439432311831160435) 501 (.ref 229),ent P (S 8678563339797948019) 507 (.ref 234),ent P (S 36328676245180164783460216160) 517 (.ref 241),ent P (S 2037460110283838221664) 525 (.ref 248),ent P (S 2055112546266921463136) 533 (.ref 255),ent P (S 544961312529033470307680) 543 (.ref 262),ent P (S 1871439432312149929312) 552 (.ref 269),ent P (S 8464077208839941472) 561 (.ref 276),ent P (S 10229369714016265109290947367434058566102368) 572 (.ref 283),ent P (S 10229369714016265110570818929037308774739296) 582 (.ref 290),ent P (S 7306369530117385568) 590 (.ref 297),ent P (S 141961022298801380283018592) 596 (.ref 302),ent P (S 31381846404235127185299631456) 604 (.ref 309),ent P (S 7889517) 618 (.ref 316)]
noncomputable def o15 (_:Params):Obj:=⟨(.type "tuple"),none,.seq #[(.type "ValueError")] 0, #[]⟩
noncomputable def o22 (_:Params):Obj:=⟨(.type "tuple"),none,.seq #[] 0, #[]⟩
noncomputable def o23 (P:Params):Obj:=dO 3 [ent P (S 455125450472104437637216) 196 (.str (S 154789842426610354947036250589871895399) 187),ent P (S 500416517772168279997240570217455712) 200 (.int (2) 199),ent P (S 140854816109632365363434125429399349832812124725344) 201 (.ref 22),ent P (S 116512133262362862868258912) 203 (.ref 25),ent P (S 27127582262911072) 204 .none]
noncomputable def o24 (_:Params):Obj:=⟨(.type "type"),none,.cls {name:=(Str.ofString "FrameError"),bases:=[(.type "ValueError")],mro:=[(.ref 24),(.type "ValueError"),(.type "Exception"),(.type "BaseException"),(.type "object")],ns:=23,qualname:=(Str.ofString "FrameError"),hasDict:=true,slotNames:=[],subclasses:=[(.ref 37),(.ref 49),(.ref 61),(.ref 73),(.ref 85),(.ref 97),(.ref 109),(.ref 121),(.ref 133),(.ref 145),(.ref 157),(.ref 169)],abstract:=false,collection:=none,hasDel:=false}, #[(some (.ref 15)),none,(some (.str (S 545146499936607105348423) 189)),(some (.str (S 545146499936607105348423) 197)),(some (.builtin "ValueError.__new__")),(some (.bool true))]⟩
noncomputable def o25 (_:Params):Obj:=⟨(.type "getset_descriptor"),none,.fields ⟨[(.str (S 116512133262362862868258912) 202),(.ref 24),(.builtin "ExceptionGroup.__weakref__"),.none]⟩, #[]⟩
noncomputable def o28 (_:Params):Obj:=⟨(.type "tuple"),none,.seq #[(.ref 24)] 0, #[]⟩
noncomputable def o36 (P:Params):Obj:=dO 2 [ent P (S 455125450472104437637216) 214 (.str (S 154789842426610354947036250589871895399) 187),ent P (S 500416517772168279997240570217455712) 218 (.int (4) 217),ent P (S 140854816109632365363434125429399349832812124725344) 219 (.ref 35),ent P (S 27127582262911072) 220 .none]
noncomputable def o37 (_:Params):Obj:=⟨(.type "type"),none,.cls {name:=(Str.ofString "NoShape"),bases:=[(.ref 24)],mro:=[(.ref 37),(.ref 24),(.type "ValueError"),(.type "Exception"),(.type "BaseException"),(.type "object")],ns:=36,qualname:=(Str.ofString "NoShape"),hasDict:=true,slotNames:=[],subclasses:=[],abstract:=false,collection:=none,hasDel:=false}, #[(some (.ref 28)),none,(some (.str (S 28835115112362063) 207)),(some (.str (S 28835115112362063) 215)),(some (.builtin "ValueError.__new__")),(some (.bool true))]⟩
noncomputable def o48 (P:Params):Obj:=dO 2 [ent P (S 455125450472104437637216) 230 (.str (S 154789842426610354947036250589871895399) 187),ent P (S 500416517772168279997240570217455712) 234 (.int (6) 233),ent P (S 140854816109632365363434125429399349832812124725344) 235 (.ref 47),ent P (S 27127582262911072) 236 .none]
noncomputable def o49 (_:Params):Obj:=⟨(.type "type"),none,.cls {name:=(Str.ofString "OutOfRoom"),bases:=[(.ref 24)],mro:=[(.ref 49),(.ref 24),(.type "ValueError"),(.type "Exception"),(.type "BaseException"),(.type "object")],ns:=48,qualname:=(Str.ofString "OutOfRoom"),hasDict:=true,slotNames:=[],subclasses:=[],abstract:=false,collection:=none,hasDel:=false}, #[(some (.ref 40)),none,(some (.str (S 2037243915540886812240) 223)),(some (.str (S 2037243915540886812240) 231)),(some (.builtin "ValueError.__new__")),(some (.bool true))]⟩
noncomputable def o60 (P:Params):Obj:=dO 2 [ent P (S 455125450472104437637216) 246 (.str (S 154789842426610354947036250589871895399) 187),ent P (S 500416517772168279997240570217455712) 250 (.int (8) 249),ent P (S 140854816109632365363434125429399349832812124725344) 251 (.ref 59),ent P (S 27127582262911072) 252 .none]
noncomputable def o61 (_:Params):Obj:=⟨(.type "type"),none,.cls {name:=(Str.ofString "BadRights"),bases:=[(.ref 24)],mro:=[(.ref 61),(.ref 24),(.type "ValueError"),(.type "Exception"),(.type "BaseException"),(.type "object")],ns:=60,qualname:=(Str.ofString "BadRights"),hasDict:=true,slotNames:=[],subclasses:=[],abstract:=false,collection:=none,hasDel:=false}, #[(some (.ref 52)),none,(some (.str (S 2148282720731175150147) 239)),(some (.str (S 2148282720731175150147) 247)),(some (.builtin "ValueError.__new__")),(some (.bool true))]⟩
noncomputable def o72 (P:Params):Obj:=dO 2 [ent P (S 455125450472104437637216) 262 (.str (S 154789842426610354947036250589871895399) 187),ent P (S 500416517772168279997240570217455712) 266 (.int (10) 265),ent P (S 140854816109632365363434125429399349832812124725344) 267 (.ref 71),ent P (S 27127582262911072) 268 .none]
noncomputable def o73 (_:Params):Obj:=⟨(.type "type"),none,.cls {name:=(Str.ofString "NoTask"),bases:=[(.ref 24)],mro:=[(.ref 73),(.ref 24),(.type "ValueError"),(.type "Exception"),(.type "BaseException"),(.type "object")],ns:=72,qualname:=(Str.ofString "NoTask"),hasDict:=true,slotNames:=[],subclasses:=[],abstract:=false,collection:=none,hasDel:=false}, #[(some (.ref 64)),none,(some (.str (S 119247121772623) 255)),(some (.str (S 119247121772623) 263)),(some (.builtin "ValueError.__new__")),(some (.bool true))]⟩
noncomputable def o84 (P:Params):Obj:=dO 2 [ent P (S 455125450472104437637216) 278 (.str (S 154789842426610354947036250589871895399) 187),ent P (S 500416517772168279997240570217455712) 282 (.int (12) 281),ent P (S 140854816109632365363434125429399349832812124725344) 283 (.ref 83),ent P (S 27127582262911072) 284 .none]
noncomputable def o85 (_:Params):Obj:=⟨(.type "type"),none,.cls {name:=(Str.ofString "NoBank"),bases:=[(.ref 24)],mro:=[(.ref 85),(.ref 24),(.type "ValueError"),(.type "Exception"),(.type "BaseException"),(.type "object")],ns:=84,qualname:=(Str.ofString "NoBank"),hasDict:=true,slotNames:=[],subclasses:=[],abstract:=false,collection:=none,hasDel:=false}, #[(some (.ref 76)),none,(some (.str (S 119225645756495) 271)),(some (.str (S 119225645756495) 279)),(some (.builtin "ValueError.__new__")),(some (.bool true))]⟩
noncomputable def o96 (P:Params):Obj:=dO 2 [ent P (S 455125450472104437637216) 294 (.str (S 154789842426610354947036250589871895399) 187),ent P (S 500416517772168279997240570217455712) 298 (.int (14) 297),ent P (S 140854816109632365363434125429399349832812124725344) 299 (.ref 95),ent P (S 27127582262911072) 300 .none]
noncomputable def o97 (_:Params):Obj:=⟨(.type "type"),none,.cls {name:=(Str.ofString "OutOfBank"),bases:=[(.ref 24)],mro:=[(.ref 97),(.ref 24),(.type "ValueError"),(.type "Exception"),(.type "BaseException"),(.type "object")],ns:=96,qualname:=(Str.ofString "OutOfBank"),hasDict:=true,slotNames:=[],subclasses:=[],abstract:=false,collection:=none,hasDel:=false}, #[(some (.ref 88)),none,(some (.str (S 2000274411557569787472) 287)),(some (.str (S 2000274411557569787472) 295)),(some (.builtin "ValueError.__new__")),(some (.bool true))]⟩
noncomputable def o108 (P:Params):Obj:=dO 2 [ent P (S 455125450472104437637216) 310 (.str (S 154789842426610354947036250589871895399) 187),ent P (S 500416517772168279997240570217455712) 314 (.int (16) 313),ent P (S 140854816109632365363434125429399349832812124725344) 315 (.ref 107),ent P (S 27127582262911072) 316 .none]
noncomputable def o109 (_:Params):Obj:=⟨(.type "type"),none,.cls {name:=(Str.ofString "Taken"),bases:=[(.ref 24)],mro:=[(.ref 109),(.ref 24),(.type "ValueError"),(.type "Exception"),(.type "BaseException"),(.type "object")],ns:=108,qualname:=(Str.ofString "Taken"),hasDict:=true,slotNames:=[],subclasses:=[],abstract:=false,collection:=none,hasDel:=false}, #[(some (.ref 100)),none,(some (.str (S 478459748949) 303)),(some (.str (S 478459748949) 311)),(some (.builtin "ValueError.__new__")),(some (.bool true))]⟩
noncomputable def o120 (P:Params):Obj:=dO 2 [ent P (S 455125450472104437637216) 326 (.str (S 154789842426610354947036250589871895399) 187),ent P (S 500416517772168279997240570217455712) 330 (.int (18) 329),ent P (S 140854816109632365363434125429399349832812124725344) 331 (.ref 119),ent P (S 27127582262911072) 332 .none]
noncomputable def o121 (_:Params):Obj:=⟨(.type "type"),none,.cls {name:=(Str.ofString "NotMapped"),bases:=[(.ref 24)],mro:=[(.ref 121),(.ref 24),(.type "ValueError"),(.type "Exception"),(.type "BaseException"),(.type "object")],ns:=120,qualname:=(Str.ofString "NotMapped"),hasDict:=true,slotNames:=[],subclasses:=[],abstract:=false,collection:=none,hasDel:=false}, #[(some (.ref 112)),none,(some (.str (S 1870502957375938719823) 319)),(some (.str (S 1870502957375938719823) 327)),(some (.builtin "ValueError.__new__")),(some (.bool true))]⟩
noncomputable def o132 (P:Params):Obj:=dO 2 [ent P (S 455125450472104437637216) 342 (.str (S 154789842426610354947036250589871895399) 187),ent P (S 500416517772168279997240570217455712) 346 (.int (20) 345),ent P (S 140854816109632365363434125429399349832812124725344) 347 (.ref 131),ent P (S 27127582262911072) 348 .none]
noncomputable def o133 (_:Params):Obj:=⟨(.type "type"),none,.cls {name:=(Str.ofString "NoRight"),bases:=[(.ref 24)],mro:=[(.ref 133),(.ref 24),(.type "ValueError"),(.type "Exception"),(.type "BaseException"),(.type "object")],ns:=132,qualname:=(Str.ofString "NoRight"),hasDict:=true,slotNames:=[],subclasses:=[],abstract:=false,collection:=none,hasDel:=false}, #[(some (.ref 124)),none,(some (.str (S 33048469456515151) 335)),(some (.str (S 33048469456515151) 343)),(some (.builtin "ValueError.__new__")),(some (.bool true))]⟩
noncomputable def o144 (P:Params):Obj:=dO 2 [ent P (S 455125450472104437637216) 358 (.str (S 154789842426610354947036250589871895399) 187),ent P (S 500416517772168279997240570217455712) 362 (.int (22) 361),ent P (S 140854816109632365363434125429399349832812124725344) 363 (.ref 143),ent P (S 27127582262911072) 364 .none]
noncomputable def o145 (_:Params):Obj:=⟨(.type "type"),none,.cls {name:=(Str.ofString "NoRoom"),bases:=[(.ref 24)],mro:=[(.ref 145),(.ref 24),(.type "ValueError"),(.type "Exception"),(.type "BaseException"),(.type "object")],ns:=144,qualname:=(Str.ofString "NoRoom"),hasDict:=true,slotNames:=[],subclasses:=[],abstract:=false,collection:=none,hasDel:=false}, #[(some (.ref 136)),none,(some (.str (S 121429199908943) 351)),(some (.str (S 121429199908943) 359)),(some (.builtin "ValueError.__new__")),(some (.bool true))]⟩
noncomputable def o156 (P:Params):Obj:=dO 2 [ent P (S 455125450472104437637216) 374 (.str (S 154789842426610354947036250589871895399) 187),ent P (S 500416517772168279997240570217455712) 378 (.int (24) 377),ent P (S 140854816109632365363434125429399349832812124725344) 379 (.ref 155),ent P (S 27127582262911072) 380 .none]
noncomputable def o157 (_:Params):Obj:=⟨(.type "type"),none,.cls {name:=(Str.ofString "Busy"),bases:=[(.ref 24)],mro:=[(.ref 157),(.ref 24),(.type "ValueError"),(.type "Exception"),(.type "BaseException"),(.type "object")],ns:=156,qualname:=(Str.ofString "Busy"),hasDict:=true,slotNames:=[],subclasses:=[],abstract:=false,collection:=none,hasDel:=false}, #[(some (.ref 148)),none,(some (.str (S 2054452803) 367)),(some (.str (S 2054452803) 375)),(some (.builtin "ValueError.__new__")),(some (.bool true))]⟩
noncomputable def o168 (P:Params):Obj:=dO 2 [ent P (S 455125450472104437637216) 390 (.str (S 154789842426610354947036250589871895399) 187),ent P (S 500416517772168279997240570217455712) 394 (.int (26) 393),ent P (S 140854816109632365363434125429399349832812124725344) 395 (.ref 167),ent P (S 27127582262911072) 396 .none]
noncomputable def o169 (_:Params):Obj:=⟨(.type "type"),none,.cls {name:=(Str.ofString "NoRow"),bases:=[(.ref 24)],mro:=[(.ref 169),(.ref 24),(.type "ValueError"),(.type "Exception"),(.type "BaseException"),(.type "object")],ns:=168,qualname:=(Str.ofString "NoRow"),hasDict:=true,slotNames:=[],subclasses:=[],abstract:=false,collection:=none,hasDel:=false}, #[(some (.ref 160)),none,(some (.str (S 517280591951) 383)),(some (.str (S 517280591951) 391)),(some (.builtin "ValueError.__new__")),(some (.bool true))]⟩
noncomputable def o172 (_:Params):Obj:=⟨(.type "tuple"),none,.seq #[(.str (Str.ofString "--") 405),(.str (Str.ofString "r-") 406),(.str (Str.ofString "-w") 407),(.str (Str.ofString "rw") 408)] 0, #[]⟩
noncomputable def o173 (_:Params):Obj:=⟨(.type "tuple"),none,.seq #[(.str (Str.ofString "new") 410)] 0, #[]⟩
noncomputable def o174 (_:Params):Obj:=⟨(.type "tuple"),none,.seq #[(.str (Str.ofString "fork") 411),(.str (Str.ofString "number") 412)] 0, #[]⟩
noncomputable def o175 (_:Params):Obj:=⟨(.type "tuple"),none,.seq #[(.str (Str.ofString "end") 413),(.str (Str.ofString "number") 414)] 0, #[]⟩
noncomputable def o176 (_:Params):Obj:=⟨(.type "tuple"),none,.seq #[(.str (Str.ofString "bank") 415),(.str (Str.ofString "number") 416)] 0, #[]⟩
noncomputable def o177 (_:Params):Obj:=⟨(.type "tuple"),none,.seq #[(.str (Str.ofString "drop") 417),(.str (Str.ofString "number") 418)] 0, #[]⟩
noncomputable def o178 (_:Params):Obj:=⟨(.type "tuple"),none,.seq #[(.str (Str.ofString "lay") 419),(.str (Str.ofString "number") 420),(.str (Str.ofString "number") 421),(.str (Str.ofString "number") 422),(.str (Str.ofString "rights") 423)] 0, #[]⟩
noncomputable def o179 (_:Params):Obj:=⟨(.type "tuple"),none,.seq #[(.str (Str.ofString "lay") 424),(.str (Str.ofString "number") 425),(.str (Str.ofString "number") 426),(.str (Str.ofString "number") 427),(.str (Str.ofString "rights") 428),(.str (Str.ofString "number") 429),(.str (Str.ofString "number") 430)] 0, #[]⟩
noncomputable def o180 (_:Params):Obj:=⟨(.type "tuple"),none,.seq #[(.str (Str.ofString "lift") 431),(.str (Str.ofString "number") 432),(.str (Str.ofString "number") 433),(.str (Str.ofString "number") 434)] 0, #[]⟩
noncomputable def o181 (_:Params):Obj:=⟨(.type "tuple"),none,.seq #[(.str (Str.ofString "guard") 435),(.str (Str.ofString "number") 436),(.str (Str.ofString "number") 437),(.str (Str.ofString "number") 438),(.str (Str.ofString "rights") 439)] 0, #[]⟩
noncomputable def o182 (_:Params):Obj:=⟨(.type "tuple"),none,.seq #[(.str (Str.ofString "read") 440),(.str (Str.ofString "number") 441),(.str (Str.ofString "number") 442)] 0, #[]⟩
noncomputable def o183 (_:Params):Obj:=⟨(.type "tuple"),none,.seq #[(.str (Str.ofString "write") 443),(.str (Str.ofString "number") 444),(.str (Str.ofString "number") 445),(.str (Str.ofString "value") 446)] 0, #[]⟩
noncomputable def o184 (_:Params):Obj:=⟨(.type "tuple"),none,.seq #[(.str (Str.ofString "fold") 447)] 0, #[]⟩
noncomputable def o185 (_:Params):Obj:=⟨(.type "tuple"),none,.seq #[(.str (Str.ofString "see") 448),(.str (Str.ofString "number") 449),(.str (Str.ofString "number") 450)] 0, #[]⟩
noncomputable def o186 (_:Params):Obj:=⟨(.type "tuple"),none,.seq #[(.str (Str.ofString "laid") 451),(.str (Str.ofString "number") 452)] 0, #[]⟩
noncomputable def o187 (_:Params):Obj:=⟨(.type "tuple"),none,.seq #[(.str (Str.ofString "live") 453)] 0, #[]⟩
noncomputable def o188 (_:Params):Obj:=⟨(.type "tuple"),none,.seq #[(.ref 173),(.ref 174),(.ref 175),(.ref 176),(.ref 177),(.ref 178),(.ref 179),(.ref 180),(.ref 181),(.ref 182),(.ref 183),(.ref 184),(.ref 185),(.ref 186),(.ref 187)] 0, #[]⟩
noncomputable def o189 (_:Params):Obj:=⟨(.type "tuple"),none,.seq #[.none,(.int (0) 455)] 0, #[]⟩
noncomputable def o190 (_:Params):Obj:=tO []
noncomputable def o192 (_:Params):Obj:=tO [(.str (S 479088494671897799387751) 460),(.str (S 115952984221293) 461),(.str (S 1853059175) 462)]
noncomputable def o195 (_:Params):Obj:=cO [(.str (S 29115482073428071) 457),(.str (S 29115482073428071) 458),(.str (S 9700865007064396754801562313776) 459),(.int (34) 0),(.int (2) 0),(.int (0) 0),(.int (0) 0),(.int (3) 0),(.ref 190),(.bool true),(.int (181) 0),(.ref 191),.none,(.ref 192),(.ref 193),(.ref 194),(.int (463) 0),(.int (34) 0),(.str (S 9700865007064396754801562313776) 464)]
noncomputable def o196 (_:Params):Obj:=⟨(.type "function"),none,.func (PySem.W.fnOf (Str.ofString "form_of") (Str.ofString "form_of") (defArgs (top 20)) (defBody (top 20)) (defScope (top 20)) .none .none .none (.str (S 604689095830470621378040935399715687) 399) none (.ref 195) .none), #[]⟩
noncomputable def o200 (_:Params):Obj:=cO [(.str (S 2128753430546115228778) 466),(.str (S 2128753430546115228778) 467),(.str (S 9700865007064396754801562313776) 468),(.int (39) 0),(.int (1) 0),(.int (0) 0),(.int (0) 0),(.int (3) 0),(.ref 197),(.bool true),(.int (181) 0),(.ref 198),.none,.none,.none,(.ref 199),(.int (469) 0),(.int (39) 0),(.str (S 9700865007064396754801562313776) 470)]
noncomputable def o201 (_:Params):Obj:=⟨(.type "function"),none,.func (PySem.W.fnOf (Str.ofString "is_number") (Str.ofString "is_number") (defArgs (top 21)) (defBody (top 21)) (defScope (top 21)) .none .none .none (.str (S 604689095830470621378040935399715687) 399) none (.ref 200) .none), #[]⟩
noncomputable def o204 (_:Params):Obj:=tO [(.str (S 1702064248) 475)]
noncomputable def o207 (_:Params):Obj:=cO [(.str (S 139509984824270207381038707) 472),(.str (S 139509984824270207381038707) 473),(.str (S 9700865007064396754801562313776) 474),(.int (45) 0),(.int (1) 0),(.int (0) 0),(.int (0) 0),(.int (3) 0),(.ref 202),(.bool true),(.int (181) 0),(.ref 203),.none,(.ref 204),(.ref 205),(.ref 206),(.int (476) 0),(.int (45) 0),(.str (S 9700865007064396754801562313776) 477)]
noncomputable def o208 (_:Params):Obj:=⟨(.type "function"),none,.func (PySem.W.fnOf (Str.ofString "read_number") (Str.ofString "read_number") (defArgs (top 22)) (defBody (top 22)) (defScope (top 22)) .none .none .none (.str (S 604689095830470621378040935399715687) 399) none (.ref 207) .none), #[]⟩
noncomputable def o211 (_:Params):Obj:=tO [(.str (S 1702064248) 482),(.str (S 126883592042095) 483)]
noncomputable def o214 (_:Params):Obj:=cO [(.str (S 483865979046955292190323) 479),(.str (S 483865979046955292190323) 480),(.str (S 9700865007064396754801562313776) 481),(.int (49) 0),(.int (1) 0),(.int (0) 0),(.int (0) 0),(.int (3) 0),(.ref 209),(.bool true),(.int (181) 0),(.ref 210),.none,(.ref 211),(.ref 212),(.ref 213),(.int (484) 0),(.int (49) 0),(.str (S 9700865007064396754801562313776) 485)]
noncomputable def o215 (_:Params):Obj:=⟨(.type "function"),none,.func (PySem.W.fnOf (Str.ofString "read_value") (Str.ofString "read_value") (defArgs (top 23)) (defBody (top 23)) (defScope (top 23)) .none .none .none (.str (S 604689095830470621378040935399715687) 399) none (.ref 214) .none), #[]⟩
noncomputable def o218 (_:Params):Obj:=tO [(.str (S 1702064248) 490)]
noncomputable def o221 (_:Params):Obj:=cO [(.str (S 140789856385873457589675635) 487),(.str (S 140789856385873457589675635) 488),(.str (S 9700865007064396754801562313776) 489),(.int (56) 0),(.int (1) 0),(.int (0) 0),(.int (0) 0),(.int (3) 0),(.ref 216),(.bool true),(.int (181) 0),(.ref 217),.none,(.ref 218),(.ref 219),(.ref 220),(.int (491) 0),(.int (56) 0),(.str (S 9700865007064396754801562313776) 492)]
noncomputable def o222 (_:Params):Obj:=⟨(.type "function"),none,.func (PySem.W.fnOf (Str.ofString "read_rights") (Str.ofString "read_rights") (defArgs (top 24)) (defBody (top 24)) (defScope (top 24)) .none .none .none (.str (S 604689095830470621378040935399715687) 399) none (.ref 221) .none), #[]⟩
noncomputable def o225 (_:Params):Obj:=tO [(.str (S 1701800556) 497),(.str (S 1702064248) 498)]
noncomputable def o228 (_:Params):Obj:=cO [(.str (S 1871439432311831160435) 494),(.str (S 1871439432311831160435) 495),(.str (S 9700865007064396754801562313776) 496),(.int (60) 0),(.int (2) 0),(.int (0) 0),(.int (0) 0),(.int (3) 0),(.ref 223),(.bool true),(.int (181) 0),(.ref 224),.none,(.ref 225),(.ref 226),(.ref 227),(.int (499) 0),(.int (60) 0),(.str (S 9700865007064396754801562313776) 500)]
noncomputable def o229 (_:Params):Obj:=⟨(.type "function"),none,.func (PySem.W.fnOf (Str.ofString "read_word") (Str.ofString "read_word") (defArgs (top 25)) (defBody (top 25)) (defScope (top 25)) .none .none .none (.str (S 604689095830470621378040935399715687) 399) none (.ref 228) .none), #[]⟩
noncomputable def o233 (_:Params):Obj:=cO [(.str (S 8678563339797948019) 502),(.str (S 8678563339797948019) 503),(.str (S 9700865007064396754801562313776) 504),(.int (66) 0),(.int (1) 0),(.int (0) 0),(.int (0) 0),(.int (3) 0),(.ref 230),(.bool true),(.int (181) 0),(.ref 231),.none,.none,.none,(.ref 232),(.int (505) 0),(.int (66) 0),(.str (S 9700865007064396754801562313776) 506)]
noncomputable def o234 (_:Params):Obj:=⟨(.type "function"),none,.func (PySem.W.fnOf (Str.ofString "read_row") (Str.ofString "read_row") (defArgs (top 26)) (defBody (top 26)) (defScope (top 26)) .none .none .none (.str (S 604689095830470621378040935399715687) 399) none (.ref 233) .none), #[]⟩
noncomputable def o237 (_:Params):Obj:=tO [(.str (S 141979911977246466280418656) 513),(.str (S 119161592376672) 514)]
noncomputable def o240 (_:Params):Obj:=cO [(.str (S 36328676245180164783460216160) 510),(.str (S 36328676245180164783460216160) 511),(.str (S 9700865007064396754801562313776) 512),(.int (74) 0),(.int (2) 0),(.int (0) 0),(.int (0) 0),(.int (3) 0),(.ref 235),(.bool true),(.int (181) 0),(.ref 236),.none,(.ref 237),(.ref 238),(.ref 239),(.int (515) 0),(.int (74) 0),(.str (S 9700865007064396754801562313776) 516)]
noncomputable def o241 (_:Params):Obj:=⟨(.type "function"),none,.func (PySem.W.fnOf (Str.ofString "_law_cell_at") (Str.ofString "_law_cell_at") (defArgs (top 28)) (defBody (top 28)) (defScope (top 28)) .none .none .none (.str (S 187160822625176242902604164674112609653591785893934420702290541) 508) none (.ref 240) .none), #[]⟩
noncomputable def o244 (_:Params):Obj:=tO [(.str (S 2018578202597599112544) 521),(.str (S 549831972123162683010400) 522)]
noncomputable def o247 (_:Params):Obj:=cO [(.str (S 2037460110283838221664) 518),(.str (S 2037460110283838221664) 519),(.str (S 9700865007064396754801562313776) 520),(.int (78) 0),(.int (1) 0),(.int (0) 0),(.int (0) 0),(.int (3) 0),(.ref 242),(.bool true),(.int (181) 0),(.ref 243),.none,(.ref 244),(.ref 245),(.ref 246),(.int (523) 0),(.int (78) 0),(.str (S 9700865007064396754801562313776) 524)]
noncomputable def o248 (_:Params):Obj:=⟨(.type "function"),none,.func (PySem.W.fnOf (Str.ofString "_law_form") (Str.ofString "_law_form") (defArgs (top 29)) (defBody (top 29)) (defScope (top 29)) .none .none .none (.str (S 187160822625176242902604164674112609653591785893934420702290541) 508) none (.ref 247) .none), #[]⟩
noncomputable def o251 (_:Params):Obj:=tO [(.str (S 2018578202597599112544) 529),(.str (S 1889525884017623330144) 530)]
noncomputable def o254 (_:Params):Obj:=cO [(.str (S 2055112546266921463136) 526),(.str (S 2055112546266921463136) 527),(.str (S 9700865007064396754801562313776) 528),(.int (83) 0),(.int (1) 0),(.int (0) 0),(.int (0) 0),(.int (3) 0),(.ref 249),(.bool true),(.int (181) 0),(.ref 250),.none,(.ref 251),(.ref 252),(.ref 253),(.int (531) 0),(.int (83) 0),(.str (S 9700865007064396754801562313776) 532)]
noncomputable def o255 (_:Params):Obj:=⟨(.type "function"),none,.func (PySem.W.fnOf (Str.ofString "_law_sign") (Str.ofString "_law_sign") (defArgs (top 30)) (defBody (top 30)) (defScope (top 30)) .none .none .none (.str (S 187160822625176242902604164674112609653591785893934420702290541) 508) none (.ref 254) .none), #[]⟩
noncomputable def o258 (_:Params):Obj:=tO [(.str (S 2077948713125225913700703319256416) 537),(.str (S 2018578202597599112544) 538),(.str (S 122585318852215855122640224) 539),(.str (S 531954870560076686408064751305387360) 540)]
noncomputable def o261 (_:Params):Obj:=cO [(.str (S 544961312529033470307680) 534),(.str (S 544961312529033470307680) 535),(.str (S 9700865007064396754801562313776) 536),(.int (87) 0),(.int (3) 0),(.int (0) 0),(.int (0) 0),(.int (3) 0),(.ref 256),(.bool true),(.int (181) 0),(.ref 257),.none,(.ref 258),(.ref 259),(.ref 260),(.int (541) 0),(.int (87) 0),(.str (S 9700865007064396754801562313776) 542)]
noncomputable def o262 (_:Params):Obj:=⟨(.type "function"),none,.func (PySem.W.fnOf (Str.ofString "_law_other") (Str.ofString "_law_other") (defArgs (top 31)) (defBody (top 31)) (defScope (top 31)) .none .none .none (.str (S 187160822625176242902604164674112609653591785893934420702290541) 508) none (.ref 261) .none), #[]⟩
noncomputable def o265 (_:Params):Obj:=tO [(.str (S 2018578202597599112544) 547),(.str (S 1871149499891998420320) 548),(.str (S 139509984824270207699807584) 549)]
noncomputable def o268 (_:Params):Obj:=cO [(.str (S 1871439432312149929312) 544),(.str (S 1871439432312149929312) 545),(.str (S 9700865007064396754801562313776) 546),(.int (92) 0),(.int (2) 0),(.int (0) 0),(.int (0) 0),(.int (3) 0),(.ref 263),(.bool true),(.int (181) 0),(.ref 264),.none,(.ref 265),(.ref 266),(.ref 267),(.int (550) 0),(.int (92) 0),(.str (S 9700865007064396754801562313776) 551)]
noncomputable def o269 (_:Params):Obj:=⟨(.type "function"),none,.func (PySem.W.fnOf (Str.ofString "_law_word") (Str.ofString "_law_word") (defArgs (top 32)) (defBody (top 32)) (defScope (top 32)) .none .none .none (.str (S 187160822625176242902604164674112609653591785893934420702290541) 508) none (.ref 268) .none), #[]⟩
noncomputable def o272 (_:Params):Obj:=tO [(.str (S 2077948713125042240586748547722592) 556),(.str (S 33040738751245664) 557),(.str (S 2077948713125225913700703319256416) 558)]
noncomputable def o275 (_:Params):Obj:=cO [(.str (S 8464077208839941472) 553),(.str (S 8464077208839941472) 554),(.str (S 9700865007064396754801562313776) 555),(.int (99) 0),(.int (3) 0),(.int (0) 0),(.int (0) 0),(.int (3) 0),(.ref 270),(.bool true),(.int (181) 0),(.ref 271),.none,(.ref 272),(.ref 273),(.ref 274),(.int (559) 0),(.int (99) 0),(.str (S 9700865007064396754801562313776) 560)]
noncomputable def o276 (_:Params):Obj:=⟨(.type "function"),none,.func (PySem.W.fnOf (Str.ofString "_law_put") (Str.ofString "_law_put") (defArgs (top 33)) (defBody (top 33)) (defScope (top 33)) .none .none .none (.str (S 187160822625176242902604164674112609653591785893934420702290541) 508) none (.ref 275) .none), #[]⟩
noncomputable def o279 (_:Params):Obj:=tO [(.str (S 2077948713125042240586748547722592) 565),(.str (S 1871149499891998420320) 566),(.str (S 8818743376076762464) 567),(.str (S 2018578202597599112544) 568),(.str (S 33040738751245664) 569)]
noncomputable def o282 (_:Params):Obj:=cO [(.str (S 10229369714016265109290947367434058566102368) 562),(.str (S 10229369714016265109290947367434058566102368) 563),(.str (S 9700865007064396754801562313776) 564),(.int (101) 0),(.int (4) 0),(.int (0) 0),(.int (0) 0),(.int (3) 0),(.ref 277),(.bool true),(.int (181) 0),(.ref 278),.none,(.ref 279),(.ref 280),(.ref 281),(.int (570) 0),(.int (101) 0),(.str (S 9700865007064396754801562313776) 571)]
noncomputable def o283 (_:Params):Obj:=⟨(.type "function"),none,.func (PySem.W.fnOf (Str.ofString "_law_number_spoilt") (Str.ofString "_law_number_spoilt") (defArgs (top 34)) (defBody (top 34)) (defScope (top 34)) .none .none .none (.str (S 187160822625176242902604164674112609653591785893934420702290541) 508) none (.ref 282) .none), #[]⟩
noncomputable def o286 (_:Params):Obj:=tO [(.str (S 2077948713125042240586748547722592) 576),(.str (S 2018578202597599112544) 577),(.str (S 33040738751245664) 578),(.str (S 2184743025444177210720) 579)]
noncomputable def o289 (_:Params):Obj:=cO [(.str (S 10229369714016265110570818929037308774739296) 573),(.str (S 10229369714016265110570818929037308774739296) 574),(.str (S 9700865007064396754801562313776) 575),(.int (112) 0),(.int (2) 0),(.int (0) 0),(.int (0) 0),(.int (3) 0),(.ref 284),(.bool true),(.int (181) 0),(.ref 285),.none,(.ref 286),(.ref 287),(.ref 288),(.int (580) 0),(.int (112) 0),(.str (S 9700865007064396754801562313776) 581)]
noncomputable def o290 (_:Params):Obj:=⟨(.type "function"),none,.func (PySem.W.fnOf (Str.ofString "_law_rights_spoilt") (Str.ofString "_law_rights_spoilt") (defArgs (top 35)) (defBody (top 35)) (defScope (top 35)) .none .none .none (.str (S 187160822625176242902604164674112609653591785893934420702290541) 508) none (.ref 289) .none), #[]⟩
noncomputable def o293 (_:Params):Obj:=tO [(.str (S 2018578202597599112544) 586),(.str (S 8116987160644692311539634564448) 587)]
noncomputable def o296 (_:Params):Obj:=cO [(.str (S 7306369530117385568) 583),(.str (S 7306369530117385568) 584),(.str (S 9700865007064396754801562313776) 585),(.int (118) 0),(.int (1) 0),(.int (0) 0),(.int (0) 0),(.int (3) 0),(.ref 291),(.bool true),(.int (181) 0),(.ref 292),.none,(.ref 293),(.ref 294),(.ref 295),(.int (588) 0),(.int (118) 0),(.str (S 9700865007064396754801562313776) 589)]
noncomputable def o297 (_:Params):Obj:=⟨(.type "function"),none,.func (PySem.W.fnOf (Str.ofString "_law_odd") (Str.ofString "_law_odd") (defArgs (top 36)) (defBody (top 36)) (defScope (top 36)) .none .none .none (.str (S 187160822625176242902604164674112609653591785893934420702290541) 508) none (.ref 296) .none), #[]⟩
noncomputable def o301 (_:Params):Obj:=cO [(.str (S 141961022298801380283018592) 591),(.str (S 141961022298801380283018592) 592),(.str (S 9700865007064396754801562313776) 593),(.int (123) 0),(.int (4) 0),(.int (0) 0),(.int (0) 0),(.int (3) 0),(.ref 298),(.bool true),(.int (181) 0),(.ref 299),.none,.none,.none,(.ref 300),(.int (594) 0),(.int (123) 0),(.str (S 9700865007064396754801562313776) 595)]
noncomputable def o302 (_:Params):Obj:=⟨(.type "function"),none,.func (PySem.W.fnOf (Str.ofString "_law_spoilt") (Str.ofString "_law_spoilt") (defArgs (top 37)) (defBody (top 37)) (defScope (top 37)) .none .none .none (.str (S 187160822625176242902604164674112609653591785893934420702290541) 508) none (.ref 301) .none), #[]⟩
noncomputable def o305 (_:Params):Obj:=tO [(.str (S 8678563340116716896) 600),(.str (S 102) 601)]
noncomputable def o308 (_:Params):Obj:=cO [(.str (S 31381846404235127185299631456) 597),(.str (S 31381846404235127185299631456) 598),(.str (S 9700865007064396754801562313776) 599),(.int (150) 0),(.int (1) 0),(.int (0) 0),(.int (0) 0),(.int (3) 0),(.ref 303),(.bool true),(.int (181) 0),(.ref 304),.none,(.ref 305),(.ref 306),(.ref 307),(.int (602) 0),(.int (150) 0),(.str (S 9700865007064396754801562313776) 603)]
noncomputable def o309 (_:Params):Obj:=⟨(.type "function"),none,.func (PySem.W.fnOf (Str.ofString "_law_refused") (Str.ofString "_law_refused") (defArgs (top 38)) (defBody (top 38)) (defScope (top 38)) .none .none .none (.str (S 187160822625176242902604164674112609653591785893934420702290541) 508) none (.ref 308) .none), #[]⟩
noncomputable def o312 (_:Params):Obj:=tO [(.str (S 141979911977246466280418656) 608),(.str (S 2077948713125042240586748547722592) 609),(.str (S 549665661512770843209056) 610),(.str (S 549665951445190994718048) 611),(.str (S 119161592376672) 612),(.str (S 8678563340116716896) 613),(.str (S 2018578202597599112544) 614),(.str (S 1870211626369110142304) 615)]
noncomputable def o315 (_:Params):Obj:=cO [(.str (S 7889517) 605),(.str (S 7889517) 606),(.str (S 9700865007064396754801562313776) 607),(.int (160) 0),(.int (1) 0),(.int (0) 0),(.int (0) 0),(.int (3) 0),(.ref 310),(.bool true),(.int (181) 0),(.ref 311),.none,(.ref 312),(.ref 313),(.ref 314),(.int (616) 0),(.int (160) 0),(.str (S 9700865007064396754801562313776) 617)]
noncomputable def o316 (_:Params):Obj:=⟨(.type "function"),none,.func (PySem.W.fnOf (Str.ofString "law") (Str.ofString "law") (defArgs (top 39)) (defBody (top 39)) (defScope (top 39)) .none .none .none (.str (S 187160822625176242902604164674112609653591785893934420702290541) 508) none (.ref 315) .none), #[]⟩
noncomputable def Kf:Params→PySem.W.Frag:=fun P=>(nat_lit 2,o2 P)::(nat_lit 3,o3 P)::(nat_lit 15,o15 P)::(nat_lit 22,o22 P)::(nat_lit 23,o23 P)::(nat_lit 24,o24 P)::(nat_lit 25,o25 P)::(nat_lit 28,o28 P)::(nat_lit 35,o22 P)::(nat_lit 36,o36 P)::(nat_lit 37,o37 P)::(nat_lit 40,o28 P)::(nat_lit 47,o22 P)::(nat_lit 48,o48 P)::(nat_lit 49,o49 P)::(nat_lit 52,o28 P)::(nat_lit 59,o22 P)::(nat_lit 60,o60 P)::(nat_lit 61,o61 P)::(nat_lit 64,o28 P)::(nat_lit 71,o22 P)::(nat_lit 72,o72 P)::(nat_lit 73,o73 P)::(nat_lit 76,o28 P)::(nat_lit 83,o22 P)::(nat_lit 84,o84 P)::(nat_lit 85,o85 P)::(nat_lit 88,o28 P)::(nat_lit 95,o22 P)::(nat_lit 96,o96 P)::(nat_lit 97,o97 P)::(nat_lit 100,o28 P)::(nat_lit 107,o22 P)::(nat_lit 108,o108 P)::(nat_lit 109,o109 P)::(nat_lit 112,o28 P)::(nat_lit 119,o22 P)::(nat_lit 120,o120 P)::(nat_lit 121,o121 P)::(nat_lit 124,o28 P)::(nat_lit 131,o22 P)::(nat_lit 132,o132 P)::(nat_lit 133,o133 P)::(nat_lit 136,o28 P)::(nat_lit 143,o22 P)::(nat_lit 144,o144 P)::(nat_lit 145,o145 P)::(nat_lit 148,o28 P)::(nat_lit 155,o22 P)::(nat_lit 156,o156 P)::(nat_lit 157,o157 P)::(nat_lit 160,o28 P)::(nat_lit 167,o22 P)::(nat_lit 168,o168 P)::(nat_lit 169,o169 P)::(nat_lit 172,o172 P)::(nat_lit 173,o173 P)::(nat_lit 174,o174 P)::(nat_lit 175,o175 P)::(nat_lit 176,o176 P)::(nat_lit 177,o177 P)::(nat_lit 178,o178 P)::(nat_lit 179,o179 P)::(nat_lit 180,o180 P)::(nat_lit 181,o181 P)::(nat_lit 182,o182 P)::(nat_lit 183,o183 P)::(nat_lit 184,o184 P)::(nat_lit 185,o185 P)::(nat_lit 186,o186 P)::(nat_lit 187,o187 P)::(nat_lit 188,o188 P)::(nat_lit 189,o189 P)::(nat_lit 190,o190 P)::(nat_lit 192,o192 P)::(nat_lit 193,o190 P)::(nat_lit 195,o195 P)::(nat_lit 196,o196 P)::(nat_lit 197,o190 P)::(nat_lit 200,o200 P)::(nat_lit 201,o201 P)::(nat_lit 202,o190 P)::(nat_lit 204,o204 P)::(nat_lit 205,o190 P)::(nat_lit 207,o207 P)::(nat_lit 208,o208 P)::(nat_lit 209,o190 P)::(nat_lit 211,o211 P)::(nat_lit 212,o190 P)::(nat_lit 214,o214 P)::(nat_lit 215,o215 P)::(nat_lit 216,o190 P)::(nat_lit 218,o218 P)::(nat_lit 219,o190 P)::(nat_lit 221,o221 P)::(nat_lit 222,o222 P)::(nat_lit 223,o190 P)::(nat_lit 225,o225 P)::(nat_lit 226,o190 P)::(nat_lit 228,o228 P)::(nat_lit 229,o229 P)::(nat_lit 230,o190 P)::(nat_lit 233,o233 P)::(nat_lit 234,o234 P)::(nat_lit 235,o190 P)::(nat_lit 237,o237 P)::(nat_lit 238,o190 P)::(nat_lit 240,o240 P)::(nat_lit 241,o241 P)::(nat_lit 242,o190 P)::(nat_lit 244,o244 P)::(nat_lit 245,o190 P)::(nat_lit 247,o247 P)::(nat_lit 248,o248 P)::(nat_lit 249,o190 P)::(nat_lit 251,o251 P)::(nat_lit 252,o190 P)::(nat_lit 254,o254 P)::(nat_lit 255,o255 P)::(nat_lit 256,o190 P)::(nat_lit 258,o258 P)::(nat_lit 259,o190 P)::(nat_lit 261,o261 P)::(nat_lit 262,o262 P)::(nat_lit 263,o190 P)::(nat_lit 265,o265 P)::(nat_lit 266,o190 P)::(nat_lit 268,o268 P)::(nat_lit 269,o269 P)::(nat_lit 270,o190 P)::(nat_lit 272,o272 P)::(nat_lit 273,o190 P)::(nat_lit 275,o275 P)::(nat_lit 276,o276 P)::(nat_lit 277,o190 P)::(nat_lit 279,o279 P)::(nat_lit 280,o190 P)::(nat_lit 282,o282 P)::(nat_lit 283,o283 P)::(nat_lit 284,o190 P)::(nat_lit 286,o286 P)::(nat_lit 287,o190 P)::(nat_lit 289,o289 P)::(nat_lit 290,o290 P)::(nat_lit 291,o190 P)::(nat_lit 293,o293 P)::(nat_lit 294,o190 P)::(nat_lit 296,o296 P)::(nat_lit 297,o297 P)::(nat_lit 298,o190 P)::(nat_lit 301,o301 P)::(nat_lit 302,o302 P)::(nat_lit 303,o190 P)::(nat_lit 305,o305 P)::(nat_lit 306,o190 P)::(nat_lit 308,o308 P)::(nat_lit 309,o309 P)::(nat_lit 310,o190 P)::(nat_lit 312,o312 P)::(nat_lit 313,o190 P)::(nat_lit 315,o315 P)::(nat_lit 316,o316 P)::[]
noncomputable def Kc0 (P:Params):List (Option Obj):=[some (o2 P),some (o3 P),some (o15 P),some (o22 P),some (o23 P),some (o24 P),some (o25 P),some (o28 P),some (o22 P),some (o36 P),some (o37 P),some (o28 P),some (o22 P),some (o48 P)]
noncomputable def Kc1 (P:Params):List (Option Obj):=[some (o49 P),some (o28 P),some (o22 P),some (o60 P),some (o61 P),some (o28 P),some (o22 P),some (o72 P),some (o73 P),some (o28 P),some (o22 P),some (o84 P),some (o85 P),some (o28 P)]
noncomputable def Kc2 (P:Params):List (Option Obj):=[some (o22 P),some (o96 P),some (o97 P),some (o28 P),some (o22 P),some (o108 P),some (o109 P),some (o28 P),some (o22 P),some (o120 P),some (o121 P),some (o28 P),some (o22 P),some (o132 P)]
noncomputable def Kc3 (P:Params):List (Option Obj):=[some (o133 P),some (o28 P),some (o22 P),some (o144 P),some (o145 P),some (o28 P),some (o22 P),some (o156 P),some (o157 P),some (o28 P),some (o22 P),some (o168 P),some (o169 P),some (o172 P)]
noncomputable def Kc4 (P:Params):List (Option Obj):=[some (o173 P),some (o174 P),some (o175 P),some (o176 P),some (o177 P),some (o178 P),some (o179 P),some (o180 P),some (o181 P),some (o182 P),some (o183 P),some (o184 P),some (o185 P),some (o186 P)]
noncomputable def Kc5 (P:Params):List (Option Obj):=[some (o187 P),some (o188 P),some (o189 P),some (o190 P),some (o192 P),some (o190 P),some (o195 P),some (o196 P),some (o190 P),some (o200 P),some (o201 P),some (o190 P),some (o204 P),some (o190 P)]
noncomputable def Kc6 (P:Params):List (Option Obj):=[some (o207 P),some (o208 P),some (o190 P),some (o211 P),some (o190 P),some (o214 P),some (o215 P),some (o190 P),some (o218 P),some (o190 P),some (o221 P),some (o222 P),some (o190 P),some (o225 P)]
noncomputable def Kc7 (P:Params):List (Option Obj):=[some (o190 P),some (o228 P),some (o229 P),some (o190 P),some (o233 P),some (o234 P),some (o190 P),some (o237 P),some (o190 P),some (o240 P),some (o241 P),some (o190 P),some (o244 P),some (o190 P)]
noncomputable def Kc8 (P:Params):List (Option Obj):=[some (o247 P),some (o248 P),some (o190 P),some (o251 P),some (o190 P),some (o254 P),some (o255 P),some (o190 P),some (o258 P),some (o190 P),some (o261 P),some (o262 P),some (o190 P),some (o265 P)]
noncomputable def Kc9 (P:Params):List (Option Obj):=[some (o190 P),some (o268 P),some (o269 P),some (o190 P),some (o272 P),some (o190 P),some (o275 P),some (o276 P),some (o190 P),some (o279 P),some (o190 P),some (o282 P),some (o283 P),some (o190 P)]
noncomputable def Kc10 (P:Params):List (Option Obj):=[some (o286 P),some (o190 P),some (o289 P),some (o290 P),some (o190 P),some (o293 P),some (o190 P),some (o296 P),some (o297 P),some (o190 P),some (o301 P),some (o302 P),some (o190 P),some (o305 P)]
noncomputable def Kc11 (P:Params):List (Option Obj):=[some (o190 P),some (o308 P),some (o309 P),some (o190 P),some (o312 P),some (o190 P),some (o315 P),some (o316 P)]
noncomputable def Kc (P:Params):List (Option Obj):=Kc0 P++(Kc1 P++(Kc2 P++(Kc3 P++(Kc4 P++(Kc5 P++(Kc6 P++(Kc7 P++(Kc8 P++(Kc9 P++(Kc10 P++(Kc11 P)))))))))))
noncomputable def adr:List Addr:=nat_lit 2::nat_lit 3::nat_lit 15::nat_lit 22::nat_lit 23::nat_lit 24::nat_lit 25::nat_lit 28::nat_lit 35::nat_lit 36::nat_lit 37::nat_lit 40::nat_lit 47::nat_lit 48::nat_lit 49::nat_lit 52::nat_lit 59::nat_lit 60::nat_lit 61::nat_lit 64::nat_lit 71::nat_lit 72::nat_lit 73::nat_lit 76::nat_lit 83::nat_lit 84::nat_lit 85::nat_lit 88::nat_lit 95::nat_lit 96::nat_lit 97::nat_lit 100::nat_lit 107::nat_lit 108::nat_lit 109::nat_lit 112::nat_lit 119::nat_lit 120::nat_lit 121::nat_lit 124::nat_lit 131::nat_lit 132::nat_lit 133::nat_lit 136::nat_lit 143::nat_lit 144::nat_lit 145::nat_lit 148::nat_lit 155::nat_lit 156::nat_lit 157::nat_lit 160::nat_lit 167::nat_lit 168::nat_lit 169::nat_lit 172::nat_lit 173::nat_lit 174::nat_lit 175::nat_lit 176::nat_lit 177::nat_lit 178::nat_lit 179::nat_lit 180::nat_lit 181::nat_lit 182::nat_lit 183::nat_lit 184::nat_lit 185::nat_lit 186::nat_lit 187::nat_lit 188::nat_lit 189::nat_lit 190::nat_lit 192::nat_lit 193::nat_lit 195::nat_lit 196::nat_lit 197::nat_lit 200::nat_lit 201::nat_lit 202::nat_lit 204::nat_lit 205::nat_lit 207::nat_lit 208::nat_lit 209::nat_lit 211::nat_lit 212::nat_lit 214::nat_lit 215::nat_lit 216::nat_lit 218::nat_lit 219::nat_lit 221::nat_lit 222::nat_lit 223::nat_lit 225::nat_lit 226::nat_lit 228::nat_lit 229::nat_lit 230::nat_lit 233::nat_lit 234::nat_lit 235::nat_lit 237::nat_lit 238::nat_lit 240::nat_lit 241::nat_lit 242::nat_lit 244::nat_lit 245::nat_lit 247::nat_lit 248::nat_lit 249::nat_lit 251::nat_lit 252::nat_lit 254::nat_lit 255::nat_lit 256::nat_lit 258::nat_lit 259::nat_lit 261::nat_lit 262::nat_lit 263::nat_lit 265::nat_lit 266::nat_lit 268::nat_lit 269::nat_lit 270::nat_lit 272::nat_lit 273::nat_lit 275::nat_lit 276::nat_lit 277::nat_lit 279::nat_lit 280::nat_lit 282::nat_lit 283::nat_lit 284::nat_lit 286::nat_lit 287::nat_lit 289::nat_lit 290::nat_lit 291::nat_lit 293::nat_lit 294::nat_lit 296::nat_lit 297::nat_lit 298::nat_lit 301::nat_lit 302::nat_lit 303::nat_lit 305::nat_lit 306::nat_lit 308::nat_lit 309::nat_lit 310::nat_lit 312::nat_lit 313::nat_lit 315::nat_lit 316::[]
theorem ae6 (P:Params):adr=(Kf P).map (·.1):=by kernel_rfl
theorem kc_eq (P:Params):Kc P=(Kf P).map fun p=>some p.2:=by kernel_rfl
noncomputable def vw:Program:=PySem.W.view PySem.Challenge.pw_frameland_k97_bad_rows [1,2,3,4,5,6,7,8,9,10,11,12,13,15,16,17,18,19,20,21,22,23,24,25,26,28,29,30,31,32,33,34,35,36,37,38,39]
noncomputable def lhs:=once PySem.Challenge.pw_frameland_k97_bad_rows (fun s=>adr.map s.heap.get?) 7062
noncomputable def rhs (w:World):=some (true,Kc w.params)
noncomputable def lht:=seen PySem.Challenge.pw_frameland_k97_bad_rows vw [] (fun s=>PySem.W.xlAt vw [] s&&PySem.W.recOk (PySem.W.RowW.records (PySem.Challenge.rw_frameland_k97_bad_rows).row.toRowW) s) 7062
noncomputable def rht:=some (PySem.W.openGood vw [])
theorem twins:(fun (_:World→OsState→_) (_:World→_) (_:World→OsState→_) (_:Option _)=>true) lhs rhs lht rht=true:=by k_qdec
theorem aks:∀(w:World) (os:OsState),PySem.W.Fast.tw7128866508377749982 w os=PySem.W.Fast.tw12590348191598281069 w:=by intro w os;kernel_rfl
theorem akt:∀(w:World) (os:OsState),PySem.W.Fast.tw7374437481920917934 w os=PySem.W.Fast.tw10733892774512676622:=by intro w os;kernel_rfl
theorem left:PySem.W.LeftO PySem.Challenge.pw_frameland_k97_bad_rows vw [] (fun s=>PySem.W.xlAt vw [] s&&PySem.W.recOk (PySem.W.RowW.records (PySem.Challenge.rw_frameland_k97_bad_rows).row.toRowW) s) (fun s=>adr.map s.heap.get?) (fun w=>(Kf w.params).map fun p=>some p.2) (7062):=by
 refine ahn (by kernel_rfl) (by kernel_rfl) (by intro s;kernel_rfl) (fun w os=>?_) fun w os=>?_
 ·rw[←kc_eq];exact (congrFun (congrFun PySem.W.Fast.te7128866508377749982 w) os).trans ((aks w os).trans (congrFun PySem.W.Fast.te12590348191598281069 w).symm)
 ·exact (congrFun (congrFun PySem.W.Fast.te7374437481920917934 w) os).trans ((akt w os).trans PySem.W.Fast.te10733892774512676622.symm)
end
end Pf
open PySem PySem.W PyProof.Rows
set_option maxRecDepth 100000 in
set_option maxHeartbeats 0 in
theorem PySem.Challenge.cw_frameland_k97_bad_rows_holds : PySem.Challenge.rw_frameland_k97_bad_rows.Holds := by
 w_on;o_law
 refine holds_open (q:=Pf.vw) (loose:=[]) (Xt:=fun s=>xlAt Pf.vw [] s&&recOk (RowW.records (PySem.Challenge.rw_frameland_k97_bad_rows).row.toRowW) s) (XP:=XL Pf.vw []) (Yf:=Hook.obs (kHook Pf.Kf Pf.adr Pf.ae6)) (Ya:=Hook.val (kHook Pf.Kf Pf.adr Pf.ae6)) (YP:=Hook.says (kHook Pf.Kf Pf.adr Pf.ae6)) (N:=(7062)) Pf.left (Hook.of (kHook Pf.Kf Pf.adr Pf.ae6)) (Hook.keeps (kHook Pf.Kf Pf.adr Pf.ae6)) (fun s e=>xl_of s (Bool.and_eq_true_iff.mp e).1) XL.keeps (by rfl) (by rfl) (by rfl) (fun s e=>recFacts_of (Bool.and_eq_true_iff.mp e).2) (by rfl) (by first|assumption|decide+kernel) (by decide+kernel) ⟨rfl,rfl,rfl,rfl,rfl,by decide+kernel⟩ ?hw ?hc
 case hw=>w_witness2
 k_fill
 refine Pf.walk (l:=PySem.Challenge.rw_frameland_k97_bad_rows) rfl rfl rfl (fun w h Y=>PySem.W.kIn_of Y) ?F
 case F=>
  intro w mg h KX G
  refine' Pf.txt_mk KX G ?g0 ?g1 ?g2 ?g3 ?g4 ?g5 ?g6 ?g7 ?g8 ?g9 ?g10 ?g11 ?g12 ?g13 ?g14 ?g15 ?g16 ?g17 ?g18 ?g19 ?g20 ?g21 ?g22 ?g23 ?g24 ?g25 ?g26 ?g27 ?g28 ?g29 ?g30 ?g31 ?g32 ?g33 ?g34 ?g35 ?g36 ?g37 ?g38 ?g39 ?g40 ?g41 ?g42 ?g43 ?g44 ?g45 ?g46 ?g47 ?g48 ?g49 ?g50 ?g51 ?g52 ?g53 ?g54 ?g55 ?g56 ?g57 ?g58 ?g59 ?g60 ?g61 ?g62 ?g63 ?g64 ?g65 ?g66 ?g67 ?g68 ?g69 ?g70 ?g71 ?g72 ?g73 ?g74 ?g75 ?g76 ?g77 ?g78 ?g79 ?g80 ?g81 ?g82 ?g83 ?g84 ?g85 ?g86 ?g87 ?g88 ?g89 ?g90 ?g91 ?g92 ?g93 ?g94 ?g95 ?g96 ?g97 ?g98 ?g99 ?g100 ?g101 ?g102 ?g103 ?g104 ?g105 ?g106 ?g107 ?g108 ?g109 ?g110 ?g111 ?g112 ?g113 ?g114 ?g115 ?g116 ?g117 ?g118 ?g119 ?g120 ?g121 ?g122 ?g123 ?g124 ?g125 ?g126 ?g127 ?g128 ?g129 ?g130 ?g131 ?g132 ?g133 ?g134 ?g135 ?g136 ?g137 ?g138 ?g139 ?g140 ?g141 ?g142 ?g143 ?g144 ?g145 ?g146 ?g147
  (case g0=>k_is);(case g1=>k_is);(case g2=>k_is);(case g3=>k_is);(case g4=>k_is);(case g5=>k_is)
  (case g6=>k_is);(case g7=>k_is);(case g8=>k_is);(case g9=>k_is);(case g10=>k_is);(case g11=>k_is)
  (case g12=>k_is);(case g13=>k_is);(case g14=>k_is);(case g15=>k_is);(case g16=>k_is);(case g17=>k_is)
  (case g18=>k_is);(case g19=>k_is);(case g20=>k_is);(case g21=>k_is);(case g22=>k_is);(case g23=>k_is)
  (case g24=>k_is);(case g25=>k_is);(case g26=>k_is);(case g27=>k_is);(case g28=>k_is);(case g29=>k_is)
  (case g30=>k_is);(case g31=>k_is);(case g32=>k_is);(case g33=>k_is);(case g34=>k_is);(case g35=>k_is)
  (case g36=>k_is);(case g37=>k_is);(case g38=>k_is);(case g39=>k_is);(case g40=>k_is);(case g41=>k_is)
  (case g42=>k_is);(case g43=>k_is);(case g44=>k_is);(case g45=>k_is);(case g46=>k_is);(case g47=>k_is)
  (case g48=>k_is);(case g49=>k_is);(case g50=>k_is);(case g51=>k_is);(case g52=>k_is);(case g53=>k_is)
  (case g54=>k_is);(case g55=>k_is);(case g56=>k_is);(case g57=>k_is);(case g58=>k_is);(case g59=>k_is)
  (case g60=>k_is);(case g61=>k_is);(case g62=>k_is);(case g63=>k_is);(case g64=>k_is);(case g65=>k_is)
  (case g66=>k_is);(case g67=>k_is);(case g68=>k_is);(case g69=>k_is);(case g70=>k_is);(case g71=>k_is)
  (case g72=>k_is);(case g73=>k_is);(case g74=>k_is);(case g75=>k_is);(case g76=>k_is);(case g77=>k_is)
  (case g78=>k_is);(case g79=>k_is);(case g80=>k_is);(case g81=>k_is);(case g82=>k_is);(case g83=>k_is)
  (case g84=>k_is);(case g85=>k_is);(case g86=>k_is);(case g87=>k_is);(case g88=>k_is);(case g89=>k_is)
  (case g90=>k_is);(case g91=>k_is);(case g92=>k_is);(case g93=>k_is);(case g94=>k_is);(case g95=>k_is)
  (case g96=>k_is);(case g97=>k_is);(case g98=>k_is);(case g99=>k_is);(case g100=>k_is);(case g101=>k_is)
  (case g102=>k_is);(case g103=>k_is);(case g104=>k_is);(case g105=>k_is);(case g106=>k_is);(case g107=>k_is)
  (case g108=>k_is);(case g109=>k_is);(case g110=>k_is);(case g111=>k_is);(case g112=>k_is);(case g113=>k_is)
  (case g114=>k_is);(case g115=>k_is);(case g116=>k_is);(case g117=>k_is);(case g118=>k_is);(case g119=>k_is)
  (case g120=>k_is);(case g121=>k_exc);(case g122=>k_is);(case g123=>k_is);(case g124=>k_is);(case g125=>k_is)
  (case g126=>k_is);(case g127=>k_is);(case g128=>k_is);(case g129=>k_is);(case g130=>k_is);(case g131=>kit_is)
  (case g132=>kit_is);(case g133=>kit_is);(case g134=>kit_is);(case g135=>kit_is);(case g136=>kit_is);(case g137=>kit_is)
  (case g138=>kit_is);(case g139=>kit_is);(case g140=>kit_is);(case g141=>kit_is);(case g142=>kit_is);(case g143=>kit_is)
  (case g144=>k_is);(case g145=>k_is);(case g146=>k_is);(case g147=>k_is)
