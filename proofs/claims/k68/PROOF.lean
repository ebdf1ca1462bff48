import PyProof.Rows.All
import Wide.All
import OpenK.AllK
import Wide.FinOn
import Lean
import PyProof.EqAt
import PyProof.EqKinds
import PyProof.TupleCall
import PyProof.NeKinds
import PyProof.EnumMake
import PyProof.EnumStmt
import PyProof.LayNew
import KE.KDictLaws
import KE.KDictSum
import KE.LcSums
import PyProof.Rows.SumAny
import PyProof.Rows.SortWalk
import PyProof.DictWalks
import PyProof.Rows.SortRev
import KE.KRevIter
import KE.KIntText
import PyProof.CallStr
import PyProof.StrCalls2
import PyProof.Rows.StrJoin2
import PyProof.StrWalks
import PyProof.Rows.Range3
import PySem.Challenge.RW_frameland_k68_sheets_any_row
set_option Elab.async false
set_option linter.all false
set_option genSizeOf false
set_option bootstrap.genMatcherCode false
set_option maxRecDepth 100000
local macro_rules | `(tactic| omega) => `(tactic| first | decide | lia | omega (config := {}))
namespace L2
open PySem PySem.Spec PyProof.Rows
noncomputable abbrev Key:=Sum Int Str
noncomputable def keyIs:Key→Value→Bool
 |.inl k,v=>Value.isInt k v
 |.inr x,v=>Value.isStrOf x v
noncomputable def keyH (w:World):Key→Int
 |.inl k=>hashInt k
 |.inr x=>hashStr w x
theorem acg:∀{k:Key} {v:Value},keyIs k v=true→(∃i t,k=Sum.inl i∧v=Value.int i t)∨(∃x t,k=Sum.inr x∧v=Value.str x t)
 |.inl i,v,h=>by
  obtain⟨t,e⟩:=Value.isInt_shape (k:=i) (v:=v) h
  exact .inl ⟨i,t,rfl,e⟩
 |.inr x,v,h=>by
  obtain⟨t,e⟩:=Value.isStrOf_shape (x:=x) (v:=v) h
  exact .inr ⟨x,t,rfl,e⟩
theorem aky (i:Int) (t:Tok):keyIs (.inl i) (.int i t)=true:=by simp[keyIs,Value.isInt]
theorem akz (x:Str) (t:Tok):keyIs (.inr x) (.str x t)=true:=by simp[keyIs,Value.isStrOf]
theorem key_ll (a b:Int):decide ((Sum.inl a:Key)=Sum.inl b)=(a == b):=by
 by_cases e:a=b
 ·subst e;simp
 ·have h:¬(Sum.inl a:Key)=Sum.inl b:=fun q=>e (Sum.inl.inj q)
  rw[decide_eq_false h]
  exact (beq_eq_false_iff_ne.mpr e).symm
theorem key_rr (a b:Str):decide ((Sum.inr a:Key)=Sum.inr b)=decide (a=b):=by
 by_cases e:a=b
 ·subst e;simp
 ·have h:¬(Sum.inr a:Key)=Sum.inr b:=fun q=>e (Sum.inr.inj q)
  rw[decide_eq_false h,decide_eq_false e]
theorem key_lr (a:Int) (b:Str):decide ((Sum.inl a:Key)=Sum.inr b)=false:=decide_eq_false (fun q=>nomatch q)
theorem key_rl (a:Str) (b:Int):decide ((Sum.inr a:Key)=Sum.inl b)=false:=decide_eq_false (fun q=>nomatch q)
noncomputable def mixKind (prog:Program) (w:World):PySem.KeyKind prog w Key where
 is:=keyIs
 hash:=keyH w
 inj:=fun v a b ha hb=>by
  rcases acg ha with ⟨i,t,rfl,rfl⟩|⟨x,t,rfl,rfl⟩
  ·rcases acg hb with ⟨j,u,rfl,e⟩|⟨y,u,rfl,e⟩
   ·injection e with e1 _;rw[e1]
   ·exact nomatch e
  ·rcases acg hb with ⟨j,u,rfl,e⟩|⟨y,u,rfl,e⟩
   ·exact nomatch e
   ·injection e with e1 _;rw[e1]
 byValue:=fun k v h=>by
  rcases acg h with ⟨i,t,rfl,rfl⟩|⟨x,t,rfl,rfl⟩<;>rfl
 pyHash:=fun hv h=>by
  rcases acg hv with ⟨i,t,rfl,rfl⟩|⟨x,t,rfl,rfl⟩
  ·exact wpAny_pyHash_int h
  ·exact wpAny_pyHash_str h
 eqBool:=fun hu hv h=>by
  rcases acg hu with ⟨i,t,rfl,rfl⟩|⟨x,t,rfl,rfl⟩
  ·rcases acg hv with ⟨j,u,rfl,rfl⟩|⟨y,u,rfl,rfl⟩
   ·rw[key_ll] at h;exact wpAny_eqBool_int h
   ·rw[key_lr] at h;exact SeqAt.EqAt.int_str i t y u _ _ _ _ h
  ·rcases acg hv with ⟨j,u,rfl,rfl⟩|⟨y,u,rfl,rfl⟩
   ·rw[key_rl] at h;exact SeqAt.EqAt.str_int x t j u _ _ _ _ h
   ·rw[key_rr] at h;exact wpAny_eqBool_str h
 «strs» :=fun k x t v h=>by
  rcases acg h with ⟨i,u,rfl,e⟩|⟨y,u,rfl,e⟩
  ·exact nomatch e
  ·injection e with e1 _
   subst e1
   cases v<;>rfl
theorem ai0 (prog:Program) (w:World) (i:Int) (t:Tok):(mixKind prog w).is (.inl i) (.int i t)=true:=aky i t
theorem ai1 (prog:Program) (w:World) (x:Str) (t:Tok):(mixKind prog w).is (.inr x) (.str x t)=true:=akz x t
end L2
namespace L2
open PySem PySem.Spec PyProof.Rows
inductive V where
 |non|bl (b:Bool)|int (i:Int)|str (x:Str)|byt (b:Array UInt8)|flt (b:UInt64)|ref (a:Addr)|ty (n:String)
 deriving DecidableEq
noncomputable def RelV:V→Value→Prop
 |.non,u=>u=Value.none
 |.bl b,u=>u=Value.bool b
 |.int i,u=>∃t,u=Value.int i t
 |.str x,u=>∃t,u=Value.str x t
 |.byt b,u=>∃t,u=Value.bytes b t
 |.flt b,u=>∃t,u=Value.float b t
 |.ref a,u=>u=Value.ref a
 |.ty n,u=>u=Value.type n
noncomputable abbrev Vals:List V→List Value→Prop:=Paired RelV
theorem Vals.length {xs:List V} {us:List Value} (r:Vals xs us):xs.length=us.length:=Paired.length r
theorem Vals.get:∀{xs:List V} {us:List Value} {i:Nat} {x:V},Vals xs us→xs[i]?=some x→∃u,us[i]?=some u∧RelV x u
 |_,_,_,_,.nil,e=>by simp at e
 |_,_,0,_,.cons r _,e=>by simp at e;subst e;exact⟨_,rfl,r⟩
 |_,_,i+1,x,.cons _ t,e=>by
  obtain⟨u,h1,h2⟩:=Vals.get (i:=i) (x:=x) t (by simpa using e)
  exact⟨u,by simpa using h1,h2⟩
theorem Vals.set {x:V} {u:Value} (r:RelV x u):∀{xs:List V} {us:List Value} (i:Nat),Vals xs us→Vals (xs.set i x) (us.set i u)
 |_,_,_,.nil=>.nil
 |_,_,0,.cons _ t=>.cons r t
 |_,_,i+1,.cons q t=>.cons q (Vals.set r i t)
theorem Vals.append:∀{xs ys:List V} {us ws:List Value},Vals xs us→Vals ys ws→Vals (xs++ys) (us++ws)
 |_,_,_,_,.nil,s=>s
 |_,_,_,_,.cons r t,s=>.cons r (Vals.append t s)
theorem Vals.take:∀{xs:List V} {us:List Value} (n:Nat),Vals xs us→Vals (xs.take n) (us.take n)
 |_,_,0,_=>.nil
 |_,_,_+1,.nil=>.nil
 |_,_,n+1,.cons r t=>.cons r (Vals.take n t)
theorem Vals.drop:∀{xs:List V} {us:List Value} (n:Nat),Vals xs us→Vals (xs.drop n) (us.drop n)
 |_,_,0,r=>r
 |_,_,_+1,.nil=>.nil
 |_,_,n+1,.cons _ t=>Vals.drop n t
noncomputable def RelO:Option V→Option Value→Prop
 |some v,some u=>RelV v u
 |none,none=>True
 |_,_=>False
noncomputable def KV {κ:Type}:List (κ×V)→List (κ×Value)→Prop:=Paired fun (p:κ×V) (q:κ×Value)=>p.1=q.1∧RelV p.2 q.2
noncomputable def kV:Key→V
 |.inl i=>.int i
 |.inr x=>.str x
inductive HO where
 |lst (xs:List V)
 |tup (xs:List V)
 |dK (kvs:List (Key×V))|dT (kvs:List (List Key×V))
 |set (S:Int→Bool) (n:Nat)
 |ins (C dx:Addr) (fs:List (Str×V))
 |own (x:Addr)
 |xd (fs:List (Str×V))
 |met (f x:Addr)
 |rng (lo hi:Int)
 |frz (o:Obj) (u:HO)
 |tbl (ps:Array Value)
 |ext (φ:Heap→Prop)
noncomputable abbrev Hp:=Addr→Option HO
noncomputable def upd (H:Hp) (a:Addr) (o:HO):Hp:=fun b=>if b=a then some o else H b
theorem aah {H:Hp} {a:Addr} {o:HO}:upd H a o a=some o:=by unfold upd;rw[if_pos rfl]
theorem aaf {H:Hp} {a b:Addr} {o:HO} (h:b≠a):upd H a o b=H b:=by unfold upd;rw[if_neg h]
theorem apk {H:Hp} {a:Addr} {o u:HO}:upd (upd H a o) a u=upd H a u:=by
 funext b;unfold upd;split<;>rfl
theorem aca {H:Hp} {a b:Addr} {o u:HO} (h:H a=some o) (h':H b=some u) (d:o≠u):a≠b:=by
 intro e;subst e;rw[h] at h';exact d (Option.some.inj h')
theorem aan {H:Hp} {a b:Addr} {o:HO} (h:H a=some o) (h':H b=none):a≠b:=by
 intro e;subst e;rw[h] at h';cases h'
section
variable (P:Program) (w:World)
noncomputable def ObjOk (H:Hp) (h:Heap) (a:Addr):HO→Prop
 |.lst xs=>xs.length≤sizeLine∧∃(its:List Value) (n:Nat),Vals xs its∧h.get? a=some {cls:=.type "list",data:=.seq its.toArray n}
 |.tup xs=>xs.length≤sizeLine∧∃its:List Value,Vals xs its∧IsTup h a its.toArray
 |.dK kvs=>kvs.length≤sizeLine∧(a == sysModules)=false∧∃vs,KV kvs vs∧h.DictOf (mixKind P w) a vs
 |.dT kvs=>kvs.length≤sizeLine∧(a == sysModules)=false∧∃xs:List (List Key×Addr×Value),
  Paired (fun (p:List Key×V) (q:List Key×Addr×Value)=>p.1=q.1∧H q.2.1=some (.tup (p.1.map kV))∧RelV p.2 q.2.2) kvs xs∧
  ∃o es ep,h.get? a=some o∧o.ExactDict∧o.data=.dict es ep∧es.toList=xs.map (entryOfKey (tupleKind (mixKind P w)))∧(xs.map (·.1)).Nodup
 |.set S n=>h.SetOf (intKind P w) a S n
 |.ins C dx fs=>H dx=some (.own a)∧fs.length≤1000∧dx≠a∧h.get? a=some (PySem.W.instObj C dx)∧
  ∃mA,h.Ns1 dx mA∧(∀f,RelO (fs.lookup f) (mA f))∧PySem.Within mA (fs.map (·.1))
 |.own _=>∃o,h.get? a=some o
 |.xd fs=>∃mA,h.Ns1 a mA∧∀f,RelO (fs.lookup f) (mA f)
 |.rng lo hi=>∃t u v,h.get? a=some {cls:=.type "range",data:=.fields #[.int lo t,.int hi u,.int 1 v]}
 |.frz o u=>h.get? a=some o∧ObjOk H h a u
 |.tbl ps=>h.get? a=some {cls:=.none,data:=.fields ps}
 |.met f x=>h.get? a=some (PySem.W.methodObj (.ref f) (.ref x))
 |.ext φ=>φ h∧(∃o,h.get? a=some o)∧∀h1 h2:Heap,φ h1→(∀o,h1.get? a=some o→h2.get? a=some o)→φ h2
noncomputable def HOk (H:Hp) (h:Heap):Prop:=∀a o,H a=some o→ObjOk P w H h a o
end
section
variable {P:Program} {w:World} {H H':Hp} {h h':Heap} {a:Addr} {o:HO}
theorem ObjOk.lt (x:ObjOk P w H h a o):a < h.objs.size:=by
 cases o with
 |lst xs=>obtain⟨_,_,_,_,e⟩:=x;exact Heap.lt_size e
 |tup xs=>obtain⟨_,_,_,p⟩:=x;exact p.lt
 |dK kvs=>obtain⟨_,_,_,_,o,_,_,e,_⟩:=x;exact Heap.lt_size e
 |dT kvs=>obtain⟨_,_,_,_,o,_,_,e,_⟩:=x;exact Heap.lt_size e
 |set S n=>obtain⟨o,_,_,_,e,_⟩:=x;exact Heap.lt_size e
 |ins C dx fs=>obtain⟨_,_,_,e,_⟩:=x;exact Heap.lt_size e
 |own y=>obtain⟨_,e⟩:=x;exact Heap.lt_size e
 |xd fs=>obtain⟨_,⟨_,_,_,e,_⟩,_⟩:=x;exact Heap.lt_size e
 |rng lo hi=>obtain⟨_,_,_,e⟩:=x;exact Heap.lt_size e
 |frz ob u=>obtain⟨e,_⟩:=x;exact Heap.lt_size e
 |tbl ps=>exact Heap.lt_size (show h.get? a=some _ from x)
 |met f y=>exact Heap.lt_size (show h.get? a=some _ from x)
 |ext φ=>obtain⟨_,⟨_,e⟩,_⟩:=x;exact Heap.lt_size e
theorem Paired.mapP {α β:Type} {F G:α→β→Prop}:∀{l₁:List α} {l₂:List β},Paired F l₁ l₂→(∀a b,F a b→G a b)→Paired G l₁ l₂
 |_,_,.nil,_=>.nil
 |_,_,.cons r t,f=>.cons (f _ _ r) (Paired.mapP t f)
theorem ObjOk.stay (x:ObjOk P w H h a o) (k:∀b u,(b=a∨H b=some (.own a))→h.get? b=some u→h'.get? b=some u)
  (ho:∀b,H b=some (.own a)→H' b=some (.own a)) (ht:∀b xs,H b=some (.tup xs)→H' b=some (.tup xs)):ObjOk P w H' h' a o:=by
 induction o with
 |lst xs=>obtain⟨z,its,n,r,e⟩:=x;exact⟨z,its,n,r,k _ _ (.inl rfl) e⟩
 |tup xs=>obtain⟨z,its,r,ob,e,c⟩:=x;exact⟨z,its,r,ob,k _ _ (.inl rfl) e,c⟩
 |dK kvs=>obtain⟨z,y,vs,r,ob,es,ep,e,c⟩:=x;exact⟨z,y,vs,r,ob,es,ep,k _ _ (.inl rfl) e,c⟩
 |dT kvs=>
  obtain⟨z,y,xs,r,ob,es,ep,e,c⟩:=x
  exact⟨z,y,xs,Paired.mapP r fun p q z=>⟨z.1,ht _ _ z.2.1,z.2.2⟩,ob,es,ep,k _ _ (.inl rfl) e,c⟩
 |set S n=>obtain⟨ob,es,ep,t,e,c⟩:=x;exact⟨ob,es,ep,t,k _ _ (.inl rfl) e,c⟩
 |ins C dx fs=>
  obtain⟨d,z,ne,e,mA,⟨od,es,ep,e2,c⟩,r⟩:=x
  exact⟨ho _ d,z,ne,k _ _ (.inl rfl) e,mA,⟨od,es,ep,k _ _ (.inr d) e2,c⟩,r⟩
 |own y=>obtain⟨ob,e⟩:=x;exact⟨ob,k _ _ (.inl rfl) e⟩
 |xd fs=>obtain⟨mA,⟨od,es,ep,e,c⟩,r⟩:=x;exact⟨mA,⟨od,es,ep,k _ _ (.inl rfl) e,c⟩,r⟩
 |rng lo hi=>obtain⟨t,u,v,e⟩:=x;exact⟨t,u,v,k _ _ (.inl rfl) e⟩
 |frz ob u ih=>obtain⟨e,q⟩:=x;exact⟨k _ _ (.inl rfl) e,ih q⟩
 |tbl ps=>
  have e:h.get? a=some {cls:=.none,data:=.fields ps}:=x
  show h'.get? a=some {cls:=.none,data:=.fields ps}
  exact k a _ (.inl rfl) e
 |met f y=>
  have e:h.get? a=some (PySem.W.methodObj (.ref f) (.ref y)):=x
  show h'.get? a=some (PySem.W.methodObj (.ref f) (.ref y))
  exact k a _ (.inl rfl) e
 |ext φ=>obtain⟨p,⟨o,e⟩,st⟩:=x;exact⟨st _ _ p fun o q=>k _ _ (.inl rfl) q,⟨o,k _ _ (.inl rfl) e⟩,st⟩
theorem HOk.lt (x:HOk P w H h) (e:H a=some o):a < h.objs.size:=(x a o e).lt
theorem HOk.fresh (x:HOk P w H h) (e:h.objs.size≤a):H a=none:=by
 cases q:H a with
 |none=>rfl
 |some u=>exact absurd (Nat.lt_of_lt_of_le (x.lt q) e) (Nat.lt_irrefl _)
theorem HOk.kept (x:HOk P w H h) (k:∀b u,h.get? b=some u→h'.get? b=some u):HOk P w H h':=fun a o e=>
 (x a o e).stay (fun b u _ q=>k b u q) (fun _ q=>q) fun _ _ q=>q
theorem HOk.laid (x:HOk P w H h) (k:∀b u,h.get? b=some u→h'.get? b=some u) (hp:h.objs.size≤a) (new:ObjOk P w (upd H a o) h' a o):HOk P w (upd H a o) h':=fun b u e=>by
 have hn:=x.fresh hp
 by_cases hb:b=a
 ·subst hb;rw[aah] at e;cases e;exact new
 ·rw[aaf hb] at e
  exact (x b u e).stay (fun c v _ q=>k c v q) (fun c q=>by rw[aaf (aan q hn)];exact q) fun c xs q=>by rw[aaf (aan q hn)];exact q
end
noncomputable def Rd (H:Hp) (a:Addr) (u:HO):Prop:=H a=some u∨∃o,H a=some (.frz o u)
theorem Rd.of {H:Hp} {a:Addr} {u:HO} (h:H a=some u):Rd H a u:=.inl h
theorem Rd.ok {P:Program} {w:World} {H:Hp} {h:Heap} {a:Addr} {u:HO} (r:Rd H a u) (x:HOk P w H h):ObjOk P w H h a u:=by
 rcases r with r|⟨o,r⟩
 ·exact x a u r
 ·obtain⟨_,q⟩:=x a _ r
  exact q
noncomputable def Mut:Option HO→Prop
 |some (.lst _)=>True
 |some (.dK _)=>True
 |some (.dT _)=>True
 |some (.set _ _)=>True
 |some (.ins _ _ _)=>True
 |some (.ext _)=>True
 |_=>False
section
variable {P:Program} {w:World} {H:Hp} {h h':Heap} {x e:Addr} {o':HO}
theorem HOk.write (ok:HOk P w H h) (mu:Mut (H x)) (he:e=x∨H e=some (.own x)) (k:∀b u,b≠e→h.get? b=some u→h'.get? b=some u) (heo:∃u,h'.get? e=some u)
  (new:ObjOk P w (upd H x o') h' x o'):HOk P w (upd H x o') h':=fun b u q=>by
 have nown:∀c y,H c=some (.own y)→c≠x:=fun c y r z=>by subst z;rw[r] at mu;exact mu
 have ntup:∀c xs,H c=some (.tup xs)→c≠x:=fun c xs r z=>by subst z;rw[r] at mu;exact mu
 by_cases hb:b=x
 ·subst hb;rw[aah] at q;cases q;exact new
 ·rw[aaf hb] at q
  by_cases hbe:b=e
  ·have q':H b=some (.own x):=by
    rcases he with z|z
    ·exact absurd (hbe.trans z) hb
    ·rw[hbe];exact z
   rw[q] at q';cases q'
   obtain⟨v,hv⟩:=heo
   exact⟨v,by rw[hbe];exact hv⟩
  ·refine (ok b u q).stay (fun c v hc r=>k c v ?_ r) (fun c r=>by rw[aaf (nown c b r)];exact r) fun c xs r=>by rw[aaf (ntup c xs r)];exact r
   rcases hc with rfl|hc
   ·exact hbe
   ·rintro rfl
    rcases he with z|z
    ·exact nown c b hc z
    ·rw[hc] at z;cases z;exact hb rfl
end
structure Un (fs ex:List Addr) (H H':Hp) (h h':Heap):Prop where
 keep:∀b o,h.get? b=some o→H b=none→b∉fs→b∉ex→h'.get? b=some o
 slot:∀b o,h.get? b=some o→H b=none→b∈fs→b∉ex→∃sl,h'.get? b=some {o with slots:=sl}
 free:∀b o,h.get? b=some o→H b=none→b∉ex→H' b=none
 there:∀b o,h.get? b=some o→b∉ex→∃o',h'.get? b=some o'
 tups:∀b xs,H b=some (.tup xs)→H' b=some (.tup xs)
 frzs:∀b o u,H b=some (.frz o u)→H' b=some (.frz o u)
 tbls:∀b ps,H b=some (.tbl ps)→∃more,H' b=some (.tbl (ps++more))
section
variable {fs fs' ex ex':List Addr} {H H1 H2:Hp} {h h1 h2 h':Heap} {a x e:Addr} {o:HO}
theorem Un.any (u:Un fs ex H H1 h h1) {b:Addr} {ob:Obj} (q:h.get? b=some ob) (n:H b=none) (hx:b∉ex):∃sl,h1.get? b=some {ob with slots:=sl}:=by
 by_cases hb:b∈fs
 ·exact u.slot b ob q n hb hx
 ·exact⟨ob.slots,u.keep b ob q n hb hx⟩
theorem Un.kept (k:∀b u,h.get? b=some u→h'.get? b=some u):Un fs ex H H h h':=
 ⟨fun b ob q _ _ _=>k b ob q,fun b ob q _ _ _=>⟨ob.slots,k b ob q⟩,fun _ _ _ n _=>n,fun b ob q _=>⟨ob,k b ob q⟩,fun _ _ q=>q,fun _ _ _ q=>q,fun _ ps q=>⟨#[],by rw[q];simp⟩⟩
theorem Un.refl:Un fs ex H H h h:=Un.kept fun _ _ q=>q
theorem Un.laid (k:∀b u,h.get? b=some u→h'.get? b=some u) (hp:h.objs.size≤a) (hn:H a=none):Un fs ex H (upd H a o) h h' where
 keep:=fun b u q _ _ _=>k b u q
 slot:=fun b u q _ _ _=>⟨u.slots,k b u q⟩
 free:=fun b u q n _=>by rw[aaf (Nat.ne_of_lt (Nat.lt_of_lt_of_le (Heap.lt_size q) hp))];exact n
 there:=fun b u q _=>⟨u,k b u q⟩
 tups:=fun b xs q=>by rw[aaf (aan q hn)];exact q
 frzs:=fun b u xs q=>by rw[aaf (aan q hn)];exact q
 tbls:=fun b ps q=>⟨#[],by rw[aaf (aan q hn),q];simp⟩
theorem Un.write (mu:Mut (H x)) (he:e=x∨H e=some (.own x)) (k:∀b u,b≠e→h.get? b=some u→h'.get? b=some u) (heo:∃u,h'.get? e=some u):Un fs ex H (upd H x o) h h':=by
 have hx:∀b,H b=none→b≠x:=fun b n z=>by subst z;rw[n] at mu;exact mu
 have hb:∀b,H b=none→b≠e:=fun b n z=>by
  subst z
  rcases he with r|r
  ·exact hx b n r
  ·rw[n] at r;cases r
 have hm:∀b u,H b=some u→¬Mut (some u)→b≠x:=fun b u q nm z=>by subst z;rw[q] at mu;exact nm mu
 refine⟨fun b u q n _ _=>k b u (hb b n) q,fun b u q n _ _=>⟨u.slots,k b u (hb b n) q⟩,fun b u q n _=>by rw[aaf (hx b n)];exact n,fun b u q _=>?_,
  fun b xs q=>by rw[aaf (hm b _ q fun z=>z)];exact q,fun b u xs q=>by rw[aaf (hm b _ q fun z=>z)];exact q,fun b ps q=>⟨#[],by rw[aaf (hm b _ q fun z=>z),q];simp⟩⟩
 by_cases hbe:b=e
 ·subst hbe;exact heo
 ·exact⟨u,k b u hbe q⟩
end
noncomputable def trk (h:Heap) (H:Hp):List Addr:=(List.range h.objs.size).filter fun a=>(H a).isSome
noncomputable def hidT (h:Heap) (H:Hp):Heap:=PySem.W.hideAll h (trk h H)
theorem ak0 (h:Heap) (H:Hp):(hidT h H).objs.size=h.objs.size:=PySem.W.hideAll_size _ _
theorem am7 {h:Heap} {H:Hp} {b:Addr} {o:Obj} (e:h.get? b=some o) (n:H b=none):(hidT h H).get? b=some o:=
 PySem.W.hideAll_get _ e fun hm=>by
  have q:(H b).isSome=true:=(List.mem_filter.mp hm).2
  rw[n] at q;simp at q
theorem apl {h:Heap} {H:Hp} {b:Addr} {o:Obj} (e:(hidT h H).get? b=some o):h.get? b=some o∧H b=none:=by
 have e':h.get? b=some o:=PySem.W.of_hideAll (trk h H) e
 refine⟨e',?_⟩
 cases q:H b with
 |none=>rfl
 |some x=>
  have hm:b∈trk h H:=List.mem_filter.mpr ⟨List.mem_range.mpr (Heap.lt_size e'),by simp[q]⟩
  have z:(hidT h H).get? b=none:=PySem.W.hideAll_none (trk h H) hm
  rw[z] at e;cases e
noncomputable def allNews (g h:Heap) (L:Addr):List (Addr×Obj):=(List.range h.objs.size).filterMap fun a=>if a=L∨(g.get? a).isSome=true then none else (h.get? a).map fun o=>(a,o)
noncomputable def rest (g h:Heap) (L d:Addr):List (Addr×Obj):=(allNews g h L).filter fun p=>decide (p.1≠d)
end L2
namespace L2
open PySem PySem.Spec PyProof.Rows
structure Mod (K:PySem.W.Frag) (mg:Str→Option Value) (base:Heap):Prop where
 kin:K.In base
 glob:base.Ns mainGlobals mg
 blt:∃mb,base.Ns builtinsNs mb∧∀x:Str,x≠"__name__"→mb x=bootBuiltins x
 nolimit:base.NoLimit
set_option genInjectivity false in
structure Cx where
 prog:Program
 w:World
 K:PySem.W.Frag
 mg:Str→Option Value
 base:Heap
 A:Around
 N:List Str
 s₀:Shared
 H₀:Hp
 env:Env
 outer:List Env
 stack:List Env
 ex:List Addr
 fn:Str→Bool
 calm:Bool
 pn:List (Addr×Obj)
 xe:Value→Shared→Prop
noncomputable def frs (l:List Env):List Addr:=l.filterMap (·.frame)
noncomputable abbrev Cx.fs (X:Cx):List Addr:=frs X.outer
noncomputable def Vis (sc:Scope) (x:Str):Prop:=sc.names.lookup x=some .local∨sc.names.lookup x=some .cell∨sc.names.lookup x=some .free
noncomputable def Loc (sc:Scope) (x:Str):Prop:=sc.names.lookup x=some .local∨sc.names.lookup x=some .cell
noncomputable def Look (env:Env) (h:Heap) (m:Str→Option Value) (x:Str) (u:Value):Prop:=
 (env.kindOf x=some .local∧m x=some u)∨((env.kindOf x=some .cell∨env.kindOf x=some .free)∧∃c,env.cells.lookup x=some c∧h.IsCell c (some u))
structure Cx.Ok (X:Cx):Prop where
 mod:Mod X.K X.mg X.base
 kind:X.env.scope.kind=.function
 glob:X.env.globals=mainGlobals
 blt:X.env.builtins=builtinsNs
 above:X.s₀.heap.objs.size≤X.env.locals
 inj:∀x y c,X.env.cells.lookup x=some c→X.env.cells.lookup y=some c→x=y
 has:∀x,(X.env.kindOf x=some .cell∨X.env.kindOf x=some .free)→∃c,X.env.cells.lookup x=some c
 cab:∀x c,X.fn x=true→X.env.cells.lookup x=some c→X.s₀.heap.objs.size≤c
 hd:X.calm=true→X.A.handled=none
 frames:X.A.frames=some X.stack
 stk:X.stack=X.outer∨(X.stack=X.env::X.outer∧X.env.frame=some X.env.locals)
 exf:∀b∈X.ex,b≠X.env.locals∧∀x c,X.env.cells.lookup x=some c→c≠b
 bs:∀b o,X.base.get? b=some o→X.s₀.heap.get? b=some o∧X.H₀ b=none
 bsz:X.base.objs.size≤X.s₀.heap.objs.size
 noex:∀b o,X.base.get? b=some o→b∉X.ex
 exfs:∀b∈X.ex,b∉X.fs
 funs:X.s₀.heap.FunFrames X.base X.outer
 frf:∀b∈X.fs,X.H₀ b=none
structure Inv (X:Cx) (pins:List (Addr×Obj)) (σ:List (Option V)) (H:Hp) (s:Shared):Prop where
 ok:X.Ok
 os:s.os=X.s₀.os
 bare:AllBare s.gens
 base:Un X.fs X.ex X.H₀ H X.s₀.heap s.heap
 loc:∃m,s.heap.Ns X.env.locals m∧∀(i:Nat) (x:Str) (v:V),X.N[i]?=some x→σ[i]?=some (some v)→Vis X.env.scope x→∃u,RelV v u∧Look X.env s.heap m x u
 cell:∀x c,X.env.cells.lookup x=some c→∃v,s.heap.IsCell c v
 free:H X.env.locals=none
 freeC:∀x c,X.env.cells.lookup x=some c→H c=none
 pin:∀p∈X.pn++pins,s.heap.get? p.1=some p.2∧H p.1=none∧p.1≠X.env.locals∧p.1∉X.fs∧∀v,p.2.data≠.cell v
 hok:HOk X.prog X.w H s.heap
 len:σ.length=X.N.length
section
variable {X:Cx} {pins:List (Addr×Obj)} {σ:List (Option V)} {H H':Hp} {s:Shared} {h':Heap}
theorem Cx.Ok.nofr (ok:X.Ok) {b:Addr} {o:Obj} (e:X.base.get? b=some o):b∉X.fs:=fun hb=>by
 have:=(ok.funs.mem hb).1
 rw[e] at this;cases this
theorem Inv.bs (I:Inv X pins σ H s):∀b o,X.base.get? b=some o→s.heap.get? b=some o∧H b=none:=fun b o e=>
 ⟨I.base.keep b o (I.ok.bs b o e).1 (I.ok.bs b o e).2 (I.ok.nofr e) (I.ok.noex b o e),I.base.free b o (I.ok.bs b o e).1 (I.ok.bs b o e).2 (I.ok.noex b o e)⟩
theorem Inv.bk (I:Inv X pins σ H s):∀b o,X.base.get? b=some o→s.heap.get? b=some o:=fun b o e=>(I.bs b o e).1
theorem Inv.mod (I:Inv X pins σ H s):Mod X.K X.mg X.base:=I.ok.mod
theorem Inv.kIn (I:Inv X pins σ H s):X.K.In s.heap:=I.ok.mod.kin.keeps I.bk
theorem Inv.fr (I:Inv X pins σ H s):∃m,Fr X.base X.env.locals s.heap m:=
 let ⟨m,hn,_⟩:=I.loc
 ⟨m,hn,I.bk,Nat.le_trans I.ok.bsz I.ok.above⟩
theorem Inv.lt (I:Inv X pins σ H s):X.env.locals < s.heap.objs.size:=let ⟨_,hn,_⟩:=I.loc;hn.lt
theorem Inv.sz (I:Inv X pins σ H s):X.s₀.heap.objs.size≤s.heap.objs.size:=Nat.le_trans I.ok.above (Nat.le_of_lt I.lt)
theorem Inv.nofs (I:Inv X pins σ H s) {a:Addr} (h:s.heap.objs.size≤a):a∉X.fs:=fun hb=>by
 obtain⟨_,o,ho,_⟩:=I.ok.funs.mem hb
 exact absurd (Nat.lt_of_lt_of_le (Heap.lt_size ho) (Nat.le_trans I.sz h)) (Nat.lt_irrefl _)
theorem Inv.cne (I:Inv X pins σ H s):∀x c,X.env.cells.lookup x=some c→c≠X.env.locals:=fun x c e z=>by
 obtain⟨v,o,ho,hd⟩:=I.cell x c e
 obtain⟨m,⟨o',es,ep,ho',hd',_⟩,_⟩:=I.loc
 rw[z,ho'] at ho;cases ho;rw[hd'] at hd;cases hd
theorem Inv.funs (I:Inv X pins σ H s):s.heap.FunFrames X.base X.outer:=by
 have all:∀(l:List Env),(∀b∈frs l,b∈X.fs)→X.s₀.heap.FunFrames X.base l→s.heap.FunFrames X.base l:=by
  intro l
  induction l with
  |nil=>intro _ _;trivial
  |cons env r ih=>
   intro hs hl
   obtain⟨hk,⟨L,o,hf,hn,ho,hd⟩,hr⟩:=hl
   have hL:L∈X.fs:=hs L (by unfold frs;rw[List.filterMap_cons,hf];exact List.mem_cons_self)
   obtain⟨sl,e⟩:=I.base.slot L o ho (I.ok.frf L hL) hL fun z=>I.ok.exfs L z hL
   exact⟨hk,⟨L,_,hf,hn,e,hd⟩,ih (fun b hb=>hs b (by unfold frs;rw[List.filterMap_cons,hf];exact List.mem_cons_of_mem _ hb)) hr⟩
 exact all X.outer (fun _ hb=>hb) I.ok.funs
theorem Inv.stack (I:Inv X pins σ H s):s.heap.FunFrames X.base X.stack:=by
 rcases I.ok.stk with e|⟨e,hf⟩
 ·rw[e];exact I.funs
 ·rw[e]
  obtain⟨m,hn,_⟩:=I.loc
  refine .cons (by rw[I.ok.kind];decide) hf hn ?_ I.funs
  exact Heap.get?_none_of_le (Nat.le_trans I.ok.bsz I.ok.above)
theorem Inv.stkSub (I:Inv X pins σ H s):∀b∈frs X.stack,b∈X.env.locals::X.fs:=fun b hb=>by
 rcases I.ok.stk with e|⟨e,hf⟩
 ·rw[e] at hb;exact List.mem_cons_of_mem _ hb
 ·rw[e] at hb
  unfold frs at hb
  rw[List.filterMap_cons,hf] at hb
  exact hb
theorem Inv.stkFree (I:Inv X pins σ H s):∀b∈frs X.stack,H b=none:=fun b hb=>by
 rcases List.mem_cons.mp (I.stkSub b hb) with e|hb
 ·rw[e];exact I.free
 ·obtain⟨_,o,ho,_⟩:=I.ok.funs.mem hb
  exact I.base.free b o ho (I.ok.frf b hb) fun z=>I.ok.exfs b z hb
theorem Inv.step {g':Array GenState} {t':Nat} {d':Drawn} {ch:List Addr} (I:Inv X pins σ H s)
  (hch:∀b∈ch,(b∈X.ex∨X.s₀.heap.objs.size≤b)∧b≠X.env.locals∧(∀x c,X.env.cells.lookup x=some c→c≠b)∧∀p∈X.pn++pins,p.1≠b)
  (keep:∀b o,b≠X.env.locals→b∉X.fs→b∉ch→s.heap.get? b=some o→H b=none→h'.get? b=some o)
  (slot:∀b o,b≠X.env.locals→b∈X.fs→b∉ch→s.heap.get? b=some o→H b=none→∃sl,h'.get? b=some {o with slots:=sl}) (free:∀b o,b∉ch→s.heap.get? b=some o→H b=none→H' b=none)
  (there:∀b o,b∉ch→s.heap.get? b=some o→∃o',h'.get? b=some o')
  (tups:∀b xs,H b=some (.tup xs)→H' b=some (.tup xs)) (frzs:∀b o u,H b=some (.frz o u)→H' b=some (.frz o u)) (tbls:∀b ps,H b=some (.tbl ps)→∃more,H' b=some (.tbl (ps++more)))
  (ns:∀m,s.heap.Ns X.env.locals m→h'.Ns X.env.locals m) (hok:HOk X.prog X.w H' h') (hg:AllBare g'):
  Inv X pins σ H' {s with heap:=h',gens:=g',drawn:=d',toks:=t'}:=by
 have neL:∀b o,X.s₀.heap.get? b=some o→b≠X.env.locals:=fun b o e=>Nat.ne_of_lt (Nat.lt_of_lt_of_le (Heap.lt_size e) I.ok.above)
 have neC:∀b o,X.s₀.heap.get? b=some o→b∉X.ex→b∉ch:=fun b o e hx hb=>by
  rcases (hch b hb).1 with z|z
  ·exact hx z
  ·exact absurd (Nat.lt_of_lt_of_le (Heap.lt_size e) z) (Nat.lt_irrefl _)
 have cellK:∀x c,X.env.cells.lookup x=some c→∀v,s.heap.IsCell c v→h'.IsCell c v:=fun x c e v ⟨o,ho,hd⟩=>by
  have nch:c∉ch:=fun z=>(hch c z).2.2.1 x c e rfl
  by_cases hc:c∈X.fs
  ·obtain⟨sl,q⟩:=slot c o (I.cne x c e) hc nch ho (I.freeC x c e)
   exact⟨_,q,hd⟩
  ·exact⟨o,keep c o (I.cne x c e) hc nch ho (I.freeC x c e),hd⟩
 refine⟨I.ok,I.os,hg,⟨fun b o e n hb hx=>?_,fun b o e n hb hx=>?_,fun b o e n hx=>?_,fun b o e hx=>?_,fun b xs e=>tups b xs (I.base.tups b xs e),fun b o xs e=>frzs b o xs (I.base.frzs b o xs e),fun b ps e=>?_⟩,?_,fun x c e=>?_,?_,fun x c e=>?_,fun p hp=>?_,hok,I.len⟩
 ·exact keep b o (neL b o e) hb (neC b o e hx) (I.base.keep b o e n hb hx) (I.base.free b o e n hx)
 ·obtain⟨sl,e1⟩:=I.base.slot b o e n hb hx
  obtain⟨sl',e2⟩:=slot b _ (neL b o e) hb (neC b o e hx) e1 (I.base.free b o e n hx)
  exact⟨sl',e2⟩
 ·obtain⟨o',e1⟩:=I.base.there b o e hx
  exact free b o' (neC b o e hx) e1 (I.base.free b o e n hx)
 ·obtain⟨o',e1⟩:=I.base.there b o e hx
  exact there b o' (neC b o e hx) e1
 ·obtain⟨m1,e1⟩:=I.base.tbls b ps e
  obtain⟨m2,e2⟩:=tbls b _ e1
  exact⟨m1++m2,by rw[e2,Array.append_assoc]⟩
 ·obtain⟨m,hn,hl⟩:=I.loc
  refine⟨m,ns m hn,fun i x v e1 e2 e3=>?_⟩
  obtain⟨u,r,l⟩:=hl i x v e1 e2 e3
  refine⟨u,r,?_⟩
  rcases l with l|⟨k,c,e,z⟩
  ·exact .inl l
  ·exact .inr ⟨k,c,e,cellK x c e _ z⟩
 ·obtain⟨v,z⟩:=I.cell x c e
  exact⟨v,cellK x c e v z⟩
 ·obtain⟨m,⟨o,_,_,ho,_⟩,_⟩:=I.loc
  exact free _ o (fun z=>(hch _ z).2.1 rfl) ho I.free
 ·obtain⟨v,o,ho,hd⟩:=I.cell x c e
  exact free c o (fun z=>(hch c z).2.2.1 x c e rfl) ho (I.freeC x c e)
 ·obtain⟨e,n,ne,nf,d⟩:=I.pin p hp
  have nch:p.1∉ch:=fun z=>(hch p.1 z).2.2.2 p hp rfl
  exact⟨keep p.1 p.2 ne nf nch e n,free p.1 p.2 nch e n,ne,nf,d⟩
theorem Inv.un {t':Nat} (I:Inv X pins σ H s) (u:Un X.fs [] H H' s.heap h') (hok:HOk X.prog X.w H' h'):Inv X pins σ H' {s with heap:=h',toks:=t'}:=by
 obtain⟨m,⟨o,es,ep,ho,r⟩,_⟩:=id I.loc
 obtain⟨sl,hL⟩:=u.any ho I.free (by simp)
 exact I.step (g':=s.gens) (d':=s.drawn) (ch:=[]) (fun _ z=>nomatch z) (fun b o _ hb _ e n=>u.keep b o e n hb (by simp)) (fun b o _ hb _ e n=>u.slot b o e n hb (by simp)) (fun b o _ e n=>u.free b o e n (by simp)) (fun b o _ e=>u.there b o e (by simp)) u.tups u.frzs u.tbls (fun m' hm=>by
  obtain⟨o',es',ep',ho',r'⟩:=hm
  rw[ho] at ho';cases ho'
  exact⟨_,es',ep',hL,r'⟩) hok I.bare
theorem Inv.call {g':Array GenState} {t':Nat} {d':Drawn} {ch:List Addr} (I:Inv X pins σ H s) (u:Un (frs X.stack) ch H H' s.heap h') (hok:HOk X.prog X.w H' h') (hg:AllBare g')
  (hch:∀b∈ch,(b∈X.ex∨X.s₀.heap.objs.size≤b)∧b≠X.env.locals∧(∀x c,X.env.cells.lookup x=some c→c≠b)∧∀p∈X.pn++pins,p.1≠b):
  Inv X pins σ H' {s with heap:=h',gens:=g',drawn:=d',toks:=t'}:=by
 obtain⟨m,⟨o,es,ep,ho,r⟩,_⟩:=id I.loc
 obtain⟨sl,hL⟩:=u.any ho I.free fun z=>(hch _ z).2.1 rfl
 exact I.step (ch:=ch) hch (fun b o hL hb hc e n=>u.keep b o e n (fun z=>(List.mem_cons.mp (I.stkSub b z)).elim hL hb) hc) (fun b o _ _ hc e n=>u.any e n hc) (fun b o hc e n=>u.free b o e n hc) (fun b o hc e=>u.there b o e hc) u.tups u.frzs u.tbls (fun m' hm=>by
  obtain⟨o',es',ep',ho',r'⟩:=hm
  rw[ho] at ho';cases ho'
  exact⟨_,es',ep',hL,r'⟩) hok hg
theorem Inv.turned {t':Nat} {it:Addr} (I:Inv X pins σ H s) (k:∀b o,b≠it→s.heap.get? b=some o→h'.get? b=some o) (hn:H it=none) (hL:it≠X.env.locals)
  (h1:it∈X.ex∨X.s₀.heap.objs.size≤it) (h2:∀x c,X.env.cells.lookup x=some c→c≠it) (h3:∀p∈X.pn++pins,p.1≠it):Inv X pins σ H {s with heap:=h',toks:=t'}:=by
 have nit:∀b u,H b=some u→b≠it:=fun b u e z=>by rw[z,hn] at e;cases e
 refine I.step (g':=s.gens) (d':=s.drawn) (ch:=[it]) (fun b hb=>?_) (fun b o _ _ hc e _=>k b o (fun z=>hc (by simp[z])) e) (fun b o _ _ hc e _=>⟨o.slots,k b o (fun z=>hc (by simp[z])) e⟩) (fun _ _ _ _ n=>n)
  (fun b o hc e=>⟨o,k b o (fun z=>hc (by simp[z])) e⟩) (fun _ _ e=>e) (fun _ _ _ e=>e) (fun b ps e=>⟨#[],by rw[e];simp⟩) (fun m hm=>?_) (fun b u e=>?_) I.bare
 ·have e:b=it:=by simpa using hb
  subst e
  exact⟨h1,hL,h2,h3⟩
 ·obtain⟨o,es,ep,ho,r⟩:=hm
  exact⟨o,es,ep,k _ o (Ne.symm hL) ho,r⟩
 ·refine (I.hok b u e).stay (fun c v hc q=>k c v ?_ q) (fun _ q=>q) fun _ _ q=>q
  rcases hc with z|z
  ·rw[z];exact nit b u e
  ·exact nit c _ z
theorem Inv.tok (I:Inv X pins σ H s) (t:Nat):Inv X pins σ H {s with toks:=t}:=I.un (h':=s.heap) (t':=t) Un.refl I.hok
theorem Inv.kept {t':Nat} (I:Inv X pins σ H s) (k:∀b u,s.heap.get? b=some u→h'.get? b=some u):Inv X pins σ H {s with heap:=h',toks:=t'}:=I.un (Un.kept k) (I.hok.kept k)
theorem Inv.laid {a:Addr} {o:HO} {t':Nat} (I:Inv X pins σ H s) (k:∀b u,s.heap.get? b=some u→h'.get? b=some u) (hp:s.heap.objs.size≤a) (new:ObjOk X.prog X.w (upd H a o) h' a o):
 Inv X pins σ (upd H a o) {s with heap:=h',toks:=t'}:=I.un (Un.laid k hp (I.hok.fresh hp)) (I.hok.laid k hp new)
theorem Inv.write {x e:Addr} {o:HO} {t':Nat} (I:Inv X pins σ H s) (mu:Mut (H x)) (he:e=x∨H e=some (.own x)) (k:∀b u,b≠e→s.heap.get? b=some u→h'.get? b=some u) (heo:∃u,h'.get? e=some u)
 (new:ObjOk X.prog X.w (upd H x o) h' x o):Inv X pins σ (upd H x o) {s with heap:=h',toks:=t'}:=I.un (Un.write mu he k heo) (I.hok.write mu he k heo new)
theorem Inv.pins_of {pins':List (Addr×Obj)} (I:Inv X pins σ H s) (h:∀p∈pins',s.heap.get? p.1=some p.2∧H p.1=none∧p.1≠X.env.locals∧p.1∉X.fs∧∀v,p.2.data≠.cell v):Inv X pins' σ H s:=
 ⟨I.ok,I.os,I.bare,I.base,I.loc,I.cell,I.free,I.freeC,fun p hp=>(List.mem_append.mp hp).elim (fun z=>I.pin p (List.mem_append_left _ z)) (h p),I.hok,I.len⟩
theorem ajj {N:List Str} (hN:N.Nodup) {i j:Nat} {x:Str} (a:N[i]?=some x) (b:N[j]?=some x):i=j:=by
 obtain⟨h1,e1⟩:=List.getElem?_eq_some_iff.mp a
 obtain⟨h2,e2⟩:=List.getElem?_eq_some_iff.mp b
 exact (List.getElem_inj hN).mp (e1.trans e2.symm)
theorem ah7 {M:Model} {A:Around} {E:Value→Shared→Prop} {i:Nat} {x:Str} {v:V} {u:Value} {Q:Unit→Shared→Prop} (I:Inv X pins σ H s) (hN:X.N.Nodup) (hi:X.N[i]?=some x) (hx:Loc X.env.scope x) (r:RelV v u)
  (h:∀s',Inv X pins (σ.set i (some v)) H s'→(∃a,Heap.SameBut a s.heap s'.heap∧(a=X.env.locals∨X.env.cells.lookup x=some a))→Q () s') (hf:X.fn x=true∨X.env.scope.names.lookup x=some .local:=by first|exact .inl rfl|exact .inr rfl|assumption):wpAny M A (storeName X.env x u) Q E s:=by
 obtain⟨m,hn,hl⟩:=id I.loc
 have hcls:(X.env.scope.kind == .class || (X.env.scope.kind == .module&&X.env.locals != X.env.globals))=false:=by rw[I.ok.kind];rfl
 have hiσ:i < σ.length:=by rw[I.len];exact (List.getElem?_eq_some_iff.mp hi).1
 have cne:=I.cne
 have tracked:∀{a:Addr} {h':Heap},(∃o,s.heap.get? a=some o∧H a=none)→Heap.SameBut a s.heap h'→HOk X.prog X.w H h':=fun {a h'} ha hs b ob e=>by
  obtain⟨_,_,hfree⟩:=ha
  refine (I.hok b ob e).stay (fun c w' hc q=>(hs.2 c ?_).trans q) (fun _ q=>q) fun _ _ q=>q
  rintro rfl
  rcases hc with rfl|hc
  ·rw[hfree] at e;cases e
  ·rw[hfree] at hc;cases hc
 rcases hx with hk|hk
 ·refine wpAny_storeName_local hk hn (fun h' hn' hs=>?_) hcls
  obtain⟨oL,_,_,hoL,_⟩:=id hn
  refine h _ ⟨I.ok,I.os,I.bare,⟨fun b o e n hb hx=>?_,fun b o e n hb hx=>?_,I.base.free,fun b o e hx=>?_,I.base.tups,I.base.frzs,I.base.tbls⟩,⟨_,hn',fun j y v' e1 e2 e3=>?_⟩,fun y c e=>?_,I.free,I.freeC,fun p hp=>?_,tracked ⟨oL,hoL,I.free⟩ hs,by simpa using I.len⟩ ⟨_,hs,.inl rfl⟩
  ·exact (hs.2 b (Nat.ne_of_lt (Nat.lt_of_lt_of_le (Heap.lt_size e) I.ok.above))).trans (I.base.keep b o e n hb hx)
  ·obtain⟨sl,e1⟩:=I.base.slot b o e n hb hx
   exact⟨sl,(hs.2 b (Nat.ne_of_lt (Nat.lt_of_lt_of_le (Heap.lt_size e) I.ok.above))).trans e1⟩
  ·obtain⟨o',e1⟩:=I.base.there b o e hx
   exact⟨o',(hs.2 b (Nat.ne_of_lt (Nat.lt_of_lt_of_le (Heap.lt_size e) I.ok.above))).trans e1⟩
  ·by_cases hj:j=i
   ·subst hj
    rw[hi] at e1;cases e1
    rw[List.getElem?_set_self hiσ] at e2
    cases e2
    exact⟨u,r,.inl ⟨hk,by simp⟩⟩
   ·rw[List.getElem?_set_ne (Ne.symm hj)] at e2
    obtain⟨u',r',q⟩:=hl j y v' e1 e2 e3
    refine⟨u',r',?_⟩
    rcases q with ⟨k,e⟩|⟨k,c,e,z⟩
    ·refine .inl ⟨k,?_⟩
     have:y≠x:=fun e=>hj (ajj hN e1 (e ▸ hi))
     simp[this,e]
    ·exact .inr ⟨k,c,e,z.sameBut hs (cne y c e)⟩
  ·obtain⟨w',z⟩:=I.cell y c e
   exact⟨w',z.sameBut hs (cne y c e)⟩
  ·obtain⟨e,n,ne,nf,d⟩:=I.pin p hp
   exact⟨(hs.2 p.1 ne).trans e,n,ne,nf,d⟩
 ·have hfn:X.fn x=true:=by
   rcases hf with z|z
   ·exact z
   ·rw[z] at hk;cases hk
  obtain⟨c,hc⟩:=I.ok.has x (.inl hk)
  obtain⟨w',z⟩:=I.cell x c hc
  refine wpAny_storeName_cell I.ok.kind hk hc z (fun h' hc' hs=>?_)
  obtain⟨oc,hoc,hocd⟩:=id z
  refine h {s with heap:=h'} ⟨I.ok,I.os,I.bare,⟨fun b o e n hb hx=>?_,fun b o e n hb hx=>?_,I.base.free,fun b o e hx=>?_,I.base.tups,I.base.frzs,I.base.tbls⟩,⟨m,hn.sameBut hs (Ne.symm (cne x c hc)),fun j y v' e1 e2 e3=>?_⟩,fun y c' e=>?_,I.free,I.freeC,fun p hp=>?_,tracked ⟨oc,hoc,I.freeC x c hc⟩ hs,by simpa using I.len⟩ ⟨c,hs,.inr hc⟩
  ·exact (hs.2 b (Nat.ne_of_lt (Nat.lt_of_lt_of_le (Heap.lt_size e) (I.ok.cab x c hfn hc)))).trans (I.base.keep b o e n hb hx)
  ·obtain⟨sl,e1⟩:=I.base.slot b o e n hb hx
   exact⟨sl,(hs.2 b (Nat.ne_of_lt (Nat.lt_of_lt_of_le (Heap.lt_size e) (I.ok.cab x c hfn hc)))).trans e1⟩
  ·obtain⟨o',e1⟩:=I.base.there b o e hx
   exact⟨o',(hs.2 b (Nat.ne_of_lt (Nat.lt_of_lt_of_le (Heap.lt_size e) (I.ok.cab x c hfn hc)))).trans e1⟩
  ·by_cases hj:j=i
   ·subst hj
    rw[hi] at e1;cases e1
    rw[List.getElem?_set_self hiσ] at e2
    cases e2
    exact⟨u,r,.inr ⟨.inl hk,c,hc,hc'⟩⟩
   ·rw[List.getElem?_set_ne (Ne.symm hj)] at e2
    obtain⟨u',r',q⟩:=hl j y v' e1 e2 e3
    refine⟨u',r',?_⟩
    rcases q with q|⟨k,c',e,z'⟩
    ·exact .inl q
    ·refine .inr ⟨k,c',e,z'.sameBut hs ?_⟩
     rintro rfl
     exact hj (ajj hN e1 (I.ok.inj _ _ _ e hc ▸ hi))
  ·by_cases hcc:c'=c
   ·subst hcc;exact⟨_,hc'⟩
   ·obtain⟨w2,z2⟩:=I.cell y c' e
    exact⟨w2,z2.sameBut hs hcc⟩
  ·obtain⟨e,n,ne,nf,d⟩:=I.pin p hp
   refine⟨(hs.2 p.1 ?_).trans e,n,ne,nf,d⟩
   intro q
   rw[q,hoc] at e
   have q':oc=p.2:=Option.some.inj e
   exact d w' (by rw[←q'];exact hocd)
theorem ajk {M:Model} {A:Around} {E:Value→Shared→Prop} {i:Nat} {x:Str} {v:V} {u:Value} {Q:Unit→Shared→Prop} (I:Inv X pins σ H s) (hN:X.N.Nodup) (hi:X.N[i]?=some x) (hx:Loc X.env.scope x) (r:RelV v u)
  (h:∀s',Inv X pins (σ.set i (some v)) H s'→Q () s') (hf:X.fn x=true∨X.env.scope.names.lookup x=some .local:=by first|exact .inl rfl|exact .inr rfl|assumption):wpAny M A (storeName X.env x u) Q E s:=
 ah7 I hN hi hx r (fun s' I' _=>h s' I') hf
theorem Inv.call' {s':Shared} {ch:List Addr} (I:Inv X pins σ H s) (ho:s'.os=s.os) (u:Un (frs X.stack) ch H H' s.heap s'.heap) (hok:HOk X.prog X.w H' s'.heap) (hg:AllBare s'.gens)
  (hch:∀b∈ch,(b∈X.ex∨X.s₀.heap.objs.size≤b)∧b≠X.env.locals∧(∀x c,X.env.cells.lookup x=some c→c≠b)∧∀p∈X.pn++pins,p.1≠b):Inv X pins σ H' s':=by
 obtain⟨h',g',d',t',o'⟩:=s'
 have e:o'=s.os:=ho
 subst e
 exact I.call (g':=g') (t':=t') (d':=d') u hok hg hch
end
noncomputable abbrev XK:=Value→Option Addr→Hp→Prop
noncomputable abbrev St:=List (Option V)
noncomputable abbrev VK:=V→Hp→Prop
noncomputable abbrev TE:=St→Hp→VK→Prop
noncomputable abbrev TT:=St→Hp→(Bool→Hp→Prop)→Prop
noncomputable abbrev TA:=St→Hp→(List V→Hp→Prop)→Prop
set_option genInjectivity false in
structure Ends where
 nx:St→Hp→Prop
 rt:VK
 bk:St→Hp→Prop:=fun _ _=>False
 ct:St→Hp→Prop:=fun _ _=>False
noncomputable abbrev TS:=Ends→St→Hp→Prop
noncomputable def EP (X:Cx) (pins:List (Addr×Obj)) (σ:St) (Q:VK) (u:Value) (s':Shared):Prop:=∃v H',Inv X pins σ H' s'∧RelV v u∧Q v H'
noncomputable def TP (X:Cx) (pins:List (Addr×Obj)) (σ:St) (Q:Bool→Hp→Prop) (b:Bool) (s':Shared):Prop:=∃H',Inv X pins σ H' s'∧Q b H'
noncomputable def AP (X:Cx) (pins:List (Addr×Obj)) (σ:St) (Q:List V→Hp→Prop) (us:List Value) (s':Shared):Prop:=∃vs H',Inv X pins σ H' s'∧Vals vs us∧Q vs H'
noncomputable def SP (X:Cx) (pins:List (Addr×Obj)) (D:Ends) (f:Flow) (s':Shared):Prop:=
 match f with
 |.next=>∃σ' H',Inv X pins σ' H' s'∧D.nx σ' H'
 |.brk=>∃σ' H',Inv X pins σ' H' s'∧D.bk σ' H'
 |.cont=>∃σ' H',Inv X pins σ' H' s'∧D.ct σ' H'
 |.ret u=>∃v σ' H',Inv X pins σ' H' s'∧RelV v u∧D.rt v H'
noncomputable def PE (X:Cx) (e:Expr) (t:TE):Prop:=
 ∀(pins:List (Addr×Obj)) (s:Shared) (σ:St) (H:Hp) (Q:VK),Inv X pins σ H s→t σ H Q→wpAny (model X.prog X.w) X.A (eval e X.env) (EP X pins σ Q) X.xe s
noncomputable def PT (X:Cx) (e:Expr) (t:TT):Prop:=
 ∀(pins:List (Addr×Obj)) (s:Shared) (σ:St) (H:Hp) (Q:Bool→Hp→Prop),Inv X pins σ H s→t σ H Q→wpAny (model X.prog X.w) X.A (isTrue e X.env (eval e X.env)) (TP X pins σ Q) X.xe s
noncomputable def PW (X:Cx) (e:Expr) (t:TT):Prop:=
 ∀(whole:Sem Value) (pins:List (Addr×Obj)) (s:Shared) (σ:St) (H:Hp) (Q:Bool→Hp→Prop),Inv X pins σ H s→t σ H Q→wpAny (model X.prog X.w) X.A (isTrue e X.env whole) (TP X pins σ Q) X.xe s
theorem PW.pt {X:Cx} {e:Expr} {t:TT} (h:PW X e t):PT X e t:=h _
noncomputable def PA (X:Cx) (es:List Expr) (t:TA):Prop:=
 ∀(pos:Pos) (pins:List (Addr×Obj)) (s:Shared) (σ:St) (H:Hp) (Q:List V→Hp→Prop),Inv X pins σ H s→t σ H Q→wpAny (model X.prog X.w) X.A (spliced (backTo pos (starEach es X.env))) (AP X pins σ Q) X.xe s
noncomputable def PS (X:Cx) (st:Stmt) (t:TS):Prop:=
 ∀(pins:List (Addr×Obj)) (s:Shared) (σ:St) (H:Hp) (D:Ends),Inv X pins σ H s→t D σ H→wpAny (model X.prog X.w) X.A (exec st X.env) (SP X pins D) X.xe s
noncomputable def PSs (X:Cx) (st:List Stmt) (t:TS):Prop:=
 ∀(pins:List (Addr×Obj)) (s:Shared) (σ:St) (H:Hp) (D:Ends),Inv X pins σ H s→t D σ H→wpAny (model X.prog X.w) X.A (execs st X.env) (SP X pins D) X.xe s
theorem thn {α:Type} {t:Sem α} {Q Q':α→Shared→Prop} {M:Model} {A:Around} {E:Value→Shared→Prop} {s:Shared} (h:wpAny M A t Q E s) (hQ:∀a s,Q a s→Q' a s):wpAny M A t Q' E s:=wpAny_mono h hQ fun _ _ x=>x
end L2
namespace L2
open PySem PySem.Spec PyProof.Rows
section
variable {X:Cx}
noncomputable def tVar (i:Nat):TE:=fun σ H Q=>∃v,σ[i]?=some (some v)∧Q v H
noncomputable def tC (v:V):TE:=fun _ H Q=>Q v H
theorem pe_var {i:Nat} {x:Str} {pos:Pos} (hN:X.N[i]?=some x) (hv:Vis X.env.scope x) (hd:(x == ("__debug__":Str))=false:=by decide) (hcd:(x == ("__classdict__":Str))=false:=by decide):PE X (.Name x pos) (tVar i):=by
 intro pins s σ H Q I h
 obtain⟨v,e,h⟩:=h
 obtain⟨m,hn,hl⟩:=I.loc
 obtain⟨u,r,l⟩:=hl i x v hN e hv
 have fin:EP X pins σ Q u s:=⟨v,H,I,r,h⟩
 rcases l with ⟨hk,hm⟩|⟨hk,c,hc,hcell⟩
 ·exact wpAny_Name (wpAny_loadName_local I.ok.kind hk hn hm fin) hd
 ·rcases hk with hk|hk
  ·exact wpAny_Name (wpAny_loadName_cell I.ok.kind hk hc hcell fin) hd
  ·exact wpAny_Name (wpAny_loadName_free I.ok.kind hk hc hcell fin hcd) hd
theorem aab {i j pos}:PE X (.Constant (.int i) j pos) (tC (.int i)):=fun _ _ _ H _ I h=>wpAny_Constant_int ⟨.int i,H,I.tok _,⟨_,rfl⟩,h⟩
theorem adp {b j pos}:PE X (.Constant (.bool b) j pos) (tC (.bl b)):=fun _ _ _ H _ I h=>Constant_bool ⟨.bl b,H,I,rfl,h⟩
theorem aaw {j pos}:PE X (.Constant .none j pos) (tC .non):=fun _ _ _ H _ I h=>Constant_none ⟨.non,H,I,rfl,h⟩
theorem acy {x j pos}:PE X (.Constant (.str x) j pos) (tC (.str x)):=fun _ _ _ H _ I h=>Calls.Constant_str ⟨.str x,H,I.tok _,⟨_,rfl⟩,h⟩
noncomputable def Gl (X:Cx) (x:Str):Prop:=X.env.kindOf x=some .globalImplicit
theorem ahk {E:Value→Shared→Prop} {pins:List (Addr×Obj)} {s:Shared} {σ:St} {H:Hp} {x:Str} {u:Value} {pos:Pos} {Q:Value→Shared→Prop} (I:Inv X pins σ H s) (hg:Gl X x) (hm:X.mg x=some u) (h:Q u s)
  (hd:(x == ("__debug__":Str))=false:=by decide):wpAny (model X.prog X.w) X.A (eval (.Name x pos) X.env) Q E s:=
 Calls.Name_function_global I.ok.kind hg (Calls.loadGlobal_global (by rw[I.ok.glob];exact I.mod.glob.keeps I.bk) hm h) hd
theorem ah8 {E:Value→Shared→Prop} {pins:List (Addr×Obj)} {s:Shared} {σ:St} {H:Hp} {x:Str} {u:Value} {pos:Pos} {Q:Value→Shared→Prop} (I:Inv X pins σ H s) (hg:Gl X x) (hm:X.mg x=none) (hv:bootBuiltins x=some u) (h:Q u s)
  (hn:x≠"__name__":=by decide) (hd:(x == ("__debug__":Str))=false:=by decide):wpAny (model X.prog X.w) X.A (eval (.Name x pos) X.env) Q E s:=by
 obtain⟨mb,h1,h2⟩:=I.mod.blt
 exact Calls.Name_function_global I.ok.kind hg (Calls.loadGlobal_builtin (by rw[I.ok.glob];exact I.mod.glob.keeps I.bk) hm (by rw[I.ok.blt];exact h1.keeps I.bk) ((h2 x hn).trans hv) h) hd
theorem apm {x:Str} {v:V} {u:Value} {pos:Pos} (hg:Gl X x) (hm:X.mg x=none) (hv:bootBuiltins x=some u) (r:RelV v u) (hn:x≠"__name__":=by decide) (hd:(x == ("__debug__":Str))=false:=by decide):PE X (.Name x pos) (tC v):=
 fun _ _ _ H _ I h=>ah8 I hg hm hv ⟨v,H,I,r,h⟩ hn hd
variable {a b:Expr} {ta tb:TE} {pos:Pos}
noncomputable def PC (X:Cx) (op:CmpOp) (a b:Expr) (t:TE):Prop:=
 ∀(pins:List (Addr×Obj)) (s:Shared) (σ:St) (H:Hp) (Q:VK),Inv X pins σ H s→t σ H Q→
  wpAny (model X.prog X.w) X.A (eval a X.env) (fun v s₁=>wpAny (model X.prog X.w) X.A (eval b X.env) (fun u s₂=>wpAny (model X.prog X.w) X.A (compareOp op v u) (EP X pins σ Q) X.xe s₂) X.xe s₁) X.xe s
noncomputable def tB (t:TE):TT:=fun σ H Q=>t σ H fun x H1=>∃c,x=.bl c∧Q c H1
theorem acz {e:Expr} {t:TE} (h:PE X e t) (he:∀whole,isTrue e X.env whole=(do let v←whole;standAt e.pos;holding [v] (truthy v)):=by intro _;rfl):PT X e (tB t):=by
 intro pins s σ H Q I hw
 refine isTrue_plain (thn (h pins s σ H _ I hw) fun v s1 ⟨x,H1,I1,r1,q1⟩=>?_) (he _)
 obtain⟨d,rfl,q⟩:=q1
 cases r1
 exact wpAny_truthy_bool ⟨H1,I1,q⟩
variable {tA tB':TT} {rest:List Expr}
noncomputable def tAnd (t u:TT):TT:=fun σ H Q=>t σ H fun c H1=>if c=true then u σ H1 Q else Q false H1
noncomputable def tOr (t u:TT):TT:=fun σ H Q=>t σ H fun c H1=>if c=true then Q true H1 else u σ H1 Q
noncomputable def tNot (t:TT):TT:=fun σ H Q=>t σ H fun c H1=>Q (!c) H1
theorem adc (ha:PT X a tA):PW X (.BoolOp .And [a] pos) tA:=by
 intro wh pins s σ H Q I h
 refine isTrue_and (thn (ha pins s σ H Q I h) fun c s1 e=>?_)
 cases c with
 |true=>exact isTrue_and_nil e
 |false=>exact e
theorem ag7 (ha:PT X a tA):PW X (.BoolOp .Or [a] pos) tA:=by
 intro wh pins s σ H Q I h
 refine isTrue_or (thn (ha pins s σ H Q I h) fun c s1 e=>?_)
 cases c with
 |false=>exact isTrue_or_nil e
 |true=>exact e
theorem ad9 (ha:PT X a tA) (hb:PW X (.BoolOp .And (b::rest) pos) tB'):PW X (.BoolOp .And (a::b::rest) pos) (tAnd tA tB'):=by
 intro wh pins s σ H Q I h
 refine isTrue_and (thn (ha pins s σ H _ I h) fun c s1 ⟨H1,I1,q1⟩=>?_)
 cases c with
 |true=>exact hb wh pins s1 σ H1 Q I1 q1
 |false=>exact⟨H1,I1,q1⟩
theorem ai2 (ha:PT X a tA) (hb:PW X (.BoolOp .Or (b::rest) pos) tB'):PW X (.BoolOp .Or (a::b::rest) pos) (tOr tA tB'):=by
 intro wh pins s σ H Q I h
 refine isTrue_or (thn (ha pins s σ H _ I h) fun c s1 ⟨H1,I1,q1⟩=>?_)
 cases c with
 |true=>exact⟨H1,I1,q1⟩
 |false=>exact hb wh pins s1 σ H1 Q I1 q1
theorem ael (ha:PT X a tA):PT X (.UnaryOp .Not a pos) (tNot tA):=by
 intro pins s σ H Q I h
 exact isTrue_not (ha pins s σ H (fun c H1=>Q (!c) H1) I h)
noncomputable def tAndV (ta tb:TE):TE:=fun σ H Q=>ta σ H fun x H1=>∃c,x=.bl c∧if c=true then tb σ H1 Q else Q (.bl false) H1
noncomputable def tNotV (ta:TE):TE:=fun σ H Q=>ta σ H fun x H1=>∃c,x=.bl c∧Q (.bl (!c)) H1
theorem ak1 {op} {t:TE} (h:PE X a t):PE X (.BoolOp op [a] pos) t:=fun pins s σ H Q I hw=>BoolOp_one (h pins s σ H Q I hw)
theorem ajl (ha:PE X a ta) (hb:PE X (.BoolOp .And (b::rest) pos) tb):PE X (.BoolOp .And (a::b::rest) pos) (tAndV ta tb):=by
 intro pins s σ H Q I h
 refine BoolOp_and (thn (ha pins s σ H _ I h) fun v s1 ⟨x,H1,I1,r1,q1⟩=>?_)
 obtain⟨c,rfl,q1⟩:=q1
 cases r1
 refine wpAny_truthy_bool ?_
 cases c with
 |true=>exact hb pins s1 σ H1 Q I1 q1
 |false=>exact⟨.bl false,H1,I1,rfl,q1⟩
theorem aoj (ha:PE X a ta):PE X (.UnaryOp .Not a pos) (tNotV ta):=by
 intro pins s σ H Q I h
 refine UnaryOp_ (thn (ha pins s σ H _ I h) fun v s1 ⟨x,H1,I1,r1,q1⟩=>?_)
 obtain⟨c,rfl,q1⟩:=q1
 cases r1
 exact not_of (wpAny_truthy_bool ⟨.bl (!c),H1,I1,rfl,q1⟩)
noncomputable def tIf (t:TT) (ta tb:TE):TE:=fun σ H Q=>t σ H fun c H1=>if c=true then ta σ H1 Q else tb σ H1 Q
theorem afp {c:Expr} (hc:PT X c tA) (ha:PE X a ta) (hb:PE X b tb):PE X (.IfExp c a b pos) (tIf tA ta tb):=by
 intro pins s σ H Q I h
 refine wpAny_IfExp (thn (hc pins s σ H _ I h) fun d s1 ⟨H1,I1,q1⟩=>?_)
 cases d with
 |true=>exact ha pins s1 σ H1 Q I1 q1
 |false=>exact hb pins s1 σ H1 Q I1 q1
end
end L2
namespace L2
open PySem PySem.Spec PyProof.Rows
noncomputable def SqL (K:PySem.W.Frag) (H:Hp) (a:Addr) (xs:List V):Prop:=
 Rd H a (.lst xs)∨
  ∃(o:Obj) (its:Array Value) (n:Nat),K.lookup a=some o∧o.cls=.type "list"∧o.dict=none∧o.data=.seq its n∧its.size≤sizeLine∧Vals xs its.toList
noncomputable def SqT (K:PySem.W.Frag) (H:Hp) (a:Addr) (xs:List V):Prop:=
 Rd H a (.tup xs)∨
  ∃(o:Obj) (its:Array Value) (n:Nat),K.lookup a=some o∧o.cls=.type "tuple"∧o.data=.seq its n∧its.size≤sizeLine∧Vals xs its.toList
noncomputable def absV:Value→Option V
 |.none=>some .non
 |.bool b=>some (.bl b)
 |.int i _=>some (.int i)
 |.str x _=>some (.str x)
 |.bytes b _=>some (.byt b)
 |.float b _=>some (.flt b)
 |.ref a=>some (.ref a)
 |.type n=>some (.ty n)
 |_=>none
theorem RelV.abs {x:V} {u:Value} (r:RelV x u):absV u=some x:=by
 cases x with
 |non=>cases r;rfl
 |bl _=>cases r;rfl
 |int _=>obtain⟨t,rfl⟩:=r;rfl
 |str _=>obtain⟨t,rfl⟩:=r;rfl
 |byt _=>obtain⟨t,rfl⟩:=r;rfl
 |flt _=>obtain⟨t,rfl⟩:=r;rfl
 |ref _=>cases r;rfl
 |ty _=>cases r;rfl
theorem RelV.inj {x y:V} {u:Value} (r:RelV x u) (q:RelV y u):x=y:=Option.some.inj (r.abs.symm.trans q.abs)
theorem Vals.inj:∀{xs ys:List V} {us:List Value},Vals xs us→Vals ys us→xs=ys
 |_,_,_,.nil,.nil=>rfl
 |_,_,_,.cons r t,.cons r' t'=>by rw[r.inj r',Vals.inj t t']
section
variable {X:Cx} {pins:List (Addr×Obj)} {σ:St} {H:Hp} {s:Shared} {a:Addr} {xs ys:List V}
theorem SqL.of {K:PySem.W.Frag} (h:H a=some (.lst xs)):SqL K H a xs:=.inl (.inl h)
theorem SqT.of {K:PySem.W.Frag} (h:H a=some (.tup xs)):SqT K H a xs:=.inl (.inl h)
theorem Inv.list (I:Inv X pins σ H s) (h:SqL X.K H a xs):∃its:List Value,Vals xs its∧PlainL s.heap a its.toArray∧xs.length≤sizeLine:=by
 rcases h with h|⟨o,its,n,hk,hc,hd,hs,hz,r⟩
 ·obtain⟨z,its,n,r,e⟩:=h.ok I.hok
  exact⟨its,r,⟨_,n,e,rfl,rfl,rfl⟩,z⟩
 ·refine⟨its.toList,r,⟨o,n,I.kIn a o hk,hc,hd,by simpa using hs⟩,?_⟩
  have e:=r.length
  simp only[Array.length_toList] at e
  omega
theorem Inv.tuple (I:Inv X pins σ H s) (h:SqT X.K H a xs):∃its:List Value,Vals xs its∧IsTup s.heap a its.toArray∧xs.length≤sizeLine:=by
 rcases h with h|⟨o,its,n,hk,hc,hs,hz,r⟩
 ·obtain⟨z,its,r,p⟩:=h.ok I.hok
  exact⟨its,r,p,z⟩
 ·refine⟨its.toList,r,⟨o,I.kIn a o hk,hc,n,by simpa using hs⟩,?_⟩
  have e:=r.length
  simp only[Array.length_toList] at e
  omega
theorem Inv.list_inj (I:Inv X pins σ H s) (h:SqL X.K H a xs) (h':SqL X.K H a ys):xs=ys:=by
 obtain⟨its,r,⟨o,n,e,_,_,d⟩,_⟩:=I.list h
 obtain⟨its',r',⟨o',n',e',_,_,d'⟩,_⟩:=I.list h'
 rw[e] at e';cases e'
 rw[d] at d'
 injection d' with d1 _
 have:its=its':=by simpa using congrArg Array.toList d1
 subst this
 exact r.inj r'
theorem Inv.tuple_inj (I:Inv X pins σ H s) (h:SqT X.K H a xs) (h':SqT X.K H a ys):xs=ys:=by
 obtain⟨its,r,⟨o,e,_,n,d⟩,_⟩:=I.tuple h
 obtain⟨its',r',⟨o',e',_,n',d'⟩,_⟩:=I.tuple h'
 rw[e] at e';cases e'
 rw[d] at d'
 injection d' with d1 _
 have:its=its':=by simpa using congrArg Array.toList d1
 subst this
 exact r.inj r'
end
noncomputable abbrev Cx.wish (X:Cx) (E:Value→Shared→Prop):Cx:={X with xe:=E}
noncomputable abbrev Cx.nox (X:Cx):Cx:=X.wish fun _ _=>False
theorem Cx.Ok.wish {X:Cx} (ok:X.Ok) (E:Value→Shared→Prop):(X.wish E).Ok:=
 ⟨ok.mod,ok.kind,ok.glob,ok.blt,ok.above,ok.inj,ok.has,ok.cab,ok.hd,ok.frames,ok.stk,ok.exf,ok.bs,ok.bsz,ok.noex,ok.exfs,ok.funs,ok.frf⟩
theorem Cx.Ok.unwish {X:Cx} {E:Value→Shared→Prop} (ok:(X.wish E).Ok):X.Ok:=
 ⟨ok.mod,ok.kind,ok.glob,ok.blt,ok.above,ok.inj,ok.has,ok.cab,ok.hd,ok.frames,ok.stk,ok.exf,ok.bs,ok.bsz,ok.noex,ok.exfs,ok.funs,ok.frf⟩
section
variable {X:Cx} {pins:List (Addr×Obj)} {σ:St} {H:Hp} {s:Shared} {E:Value→Shared→Prop}
theorem Inv.wish (I:Inv X pins σ H s) (E:Value→Shared→Prop):Inv (X.wish E) pins σ H s:=⟨I.ok.wish E,I.os,I.bare,I.base,I.loc,I.cell,I.free,I.freeC,I.pin,I.hok,I.len⟩
theorem Inv.unwish (I:Inv (X.wish E) pins σ H s):Inv X pins σ H s:=⟨I.ok.unwish,I.os,I.bare,I.base,I.loc,I.cell,I.free,I.freeC,I.pin,I.hok,I.len⟩
theorem SP.unwish {D:Ends} {f:Flow} {s':Shared} (h:SP (X.wish E) pins D f s'):SP X pins D f s':=by
 cases f with
 |next=>obtain⟨σ',H',I,q⟩:=h;exact⟨σ',H',I.unwish,q⟩
 |brk=>obtain⟨σ',H',I,q⟩:=h;exact⟨σ',H',I.unwish,q⟩
 |cont=>obtain⟨σ',H',I,q⟩:=h;exact⟨σ',H',I.unwish,q⟩
 |ret u=>obtain⟨v,σ',H',I,r,q⟩:=h;exact⟨v,σ',H',I.unwish,r,q⟩
theorem PE.nox {e:Expr} {t:TE} (h:PE X.nox e t):PE X e t:=fun pins s σ H Q I hw=>
 wpAny_mono (h pins s σ H Q (I.wish _) hw) (fun _ _ ⟨v,H',I',r,q⟩=>⟨v,H',I'.unwish,r,q⟩) fun _ _ z=>False.elim z
theorem PT.nox {e:Expr} {t:TT} (h:PT X.nox e t):PT X e t:=fun pins s σ H Q I hw=>
 wpAny_mono (h pins s σ H Q (I.wish _) hw) (fun _ _ ⟨H',I',q⟩=>⟨H',I'.unwish,q⟩) fun _ _ z=>False.elim z
theorem PSs.nox {st:List Stmt} {t:TS} (h:PSs X.nox st t):PSs X st t:=fun pins s σ H D I hw=>
 wpAny_mono (h pins s σ H D (I.wish _) hw) (fun _ _ q=>q.unwish) fun _ _ z=>False.elim z
end
section
variable {X:Cx} {st:Stmt} {rest:List Stmt} {t u:TS} {e:Expr} {te:TE} {pos:Pos}
noncomputable def tNext:TS:=fun D σ H=>D.nx σ H
noncomputable def tSeq (t u:TS):TS:=fun D σ H=>t {D with nx:=u D} σ H
theorem aas:PSs X [] tNext:=fun _ _ σ H _ I h=>wpAny_execs_nil ⟨σ,H,I,h⟩
theorem aak (h1:PS X st t) (h2:PSs X rest u):PSs X (st::rest) (tSeq t u):=by
 intro pins s σ H D I h
 refine wpAny_execs_cons (thn (h1 pins s σ H {D with nx:=u D} I h) fun f s1 q=>?_)
 cases f with
 |next=>
  obtain⟨σ',H',I',q⟩:=q
  exact h2 pins s1 σ' H' D I' q
 |ret v=>exact q
 |brk=>exact q
 |cont=>exact q
theorem aag (h1:PS X st t):PSs X [st] t:=by
 intro pins s σ H D I h
 refine wpAny_execs_cons (thn (h1 pins s σ H D I h) fun f s1 q=>?_)
 cases f with
 |next=>exact wpAny_execs_nil q
 |ret v=>exact q
 |brk=>exact q
 |cont=>exact q
theorem Inv.quiet {pins:List (Addr×Obj)} {σ:St} {H:Hp} {s:Shared} (I:Inv X pins σ H s):interactive X.env=false:=by simp[interactive,I.ok.kind]
noncomputable def tDrop (te:TE):TS:=fun D σ H=>te σ H fun _ H1=>D.nx σ H1
theorem aby (he:PE X e te) (hs:swapsWith e none pos.line X.env=pure false:=by rfl):PS X (.Expr e pos) (tDrop te):=by
 intro pins s σ H D I h
 exact wpAny_Expr_any (thn (he pins s σ H _ I h) fun v s1 ⟨x,H1,I1,r1,q1⟩=>⟨σ,H1,I1,q1⟩) I.quiet hs
noncomputable def tRet (te:TE):TS:=fun D σ H=>te σ H D.rt
theorem aav (he:PE X e te):PS X (.Return (some e) pos) (tRet te):=by
 intro pins s σ H D I h
 exact wpAny_Return_some (thn (he pins s σ H _ I h) fun v s1 ⟨x,H1,I1,r1,q1⟩=>⟨x,σ,H1,I1,r1,q1⟩)
noncomputable def tIfS (c:TT) (t u:TS):TS:=fun D σ H=>c σ H fun b H1=>if b=true then t D σ H1 else u D σ H1
theorem abo {c:Expr} {a b:List Stmt} {tc:TT} (hc:PT X c tc) (ha:PSs X a t) (hb:PSs X b u):PS X (.If c a b pos) (tIfS tc t u):=by
 intro pins s σ H D I h
 refine wpAny_If (thn (hc pins s σ H _ I h) fun d s1 ⟨H1,I1,q1⟩=>?_)
 cases d with
 |true=>exact ha pins s1 σ H1 D I1 q1
 |false=>exact hb pins s1 σ H1 D I1 q1
end
noncomputable abbrev TG:=V→St→Hp→(St→Hp→Prop)→Prop
noncomputable abbrev TGs:=List V→St→Hp→(St→Hp→Prop)→Prop
noncomputable def PG (X:Cx) (target:Expr) (t:TG):Prop:=
 ∀(pins:List (Addr×Obj)) (s:Shared) (σ:St) (H:Hp) (v:V) (u:Value) (Q:St→Hp→Prop),Inv X pins σ H s→RelV v u→t v σ H Q→
  wpAny (model X.prog X.w) X.A (assign target X.env u) (fun _ s'=>∃σ' H',Inv X pins σ' H' s'∧Q σ' H') X.xe s
noncomputable def PGs (X:Cx) (ts:List Expr) (t:TGs):Prop:=
 ∀(pins:List (Addr×Obj)) (s:Shared) (σ:St) (H:Hp) (vs:List V) (us:List Value) (Q:St→Hp→Prop),Inv X pins σ H s→Vals vs us→t vs σ H Q→
  wpAny (model X.prog X.w) X.A (assignInOrder ((assignEach ts X.env).map (·.2)) us) (fun _ s'=>∃σ' H',Inv X pins σ' H' s'∧Q σ' H') X.xe s
noncomputable abbrev TSet:=V→V→V→Hp→(Hp→Prop)→Prop
noncomputable def PSet (X:Cx) (t:TSet):Prop:=
 ∀(pins:List (Addr×Obj)) (s:Shared) (σ:St) (H:Hp) (o i v:V) (ov iv u:Value) (Q:Hp→Prop),Inv X pins σ H s→RelV o ov→RelV i iv→RelV v u→t o i v H Q→
  wpAny (model X.prog X.w) X.A (setItem ov iv u) (fun _ s'=>∃H',Inv X pins σ H' s'∧Q H') X.xe s
section
variable {X:Cx} {pos:Pos}
noncomputable def gName (i:Nat):TG:=fun v σ H Q=>Q (σ.set i (some v)) H
theorem aa5 {i:Nat} {x:Str} (hN:X.N.Nodup) (hi:X.N[i]?=some x) (hx:Loc X.env.scope x) (hf:X.fn x=true∨X.env.scope.names.lookup x=some .local:=by first|exact .inl rfl|exact .inr rfl|assumption):PG X (.Name x pos) (gName i):=by
 intro pins s σ H v u Q I r h
 exact wpAny_assign_Name (ajk I hN hi hx r (fun s' I'=>⟨_,H,I',h⟩) hf)
noncomputable def gNil:TGs:=fun vs σ H Q=>vs=[]∧Q σ H
noncomputable def gCons (t:TG) (u:TGs):TGs:=fun vs σ H Q=>∃v r,vs=v::r∧t v σ H fun σ' H'=>u r σ' H' Q
theorem agl:PGs X [] gNil:=by
 intro pins s σ H vs us Q I r h
 obtain⟨e,h⟩:=h
 subst e
 cases r
 exact assignInOrder_nil ⟨σ,H,I,h⟩
theorem adk {e:Expr} {es:List Expr} {t:TG} {u:TGs} (h1:PG X e t) (h2:PGs X es u)
  (hs:(assignEach (e::es) X.env).map (·.2)=assign e X.env::(assignEach es X.env).map (·.2):=by rfl):PGs X (e::es) (gCons t u):=by
 intro pins s σ H vs us Q I r h
 obtain⟨v,vr,e1,h⟩:=h
 subst e1
 cases r with
 |cons r rr=>
  rw[hs]
  refine assignInOrder_cons (thn (h1 pins s σ H _ _ _ I r h) fun _ s1 ⟨σ1,H1,I1,q1⟩=>?_)
  exact h2 pins s1 σ1 H1 _ _ Q I1 rr q1
noncomputable def gTup (K:PySem.W.Frag) (n:Nat) (t:TGs):TG:=fun v σ H Q=>∃a xs,v=.ref a∧SqT K H a xs∧xs.length=n∧t xs σ H Q
theorem ah9 {es:List Expr} {k:Nat} {t:TGs} {n:Nat} (hc:X.calm=true) (h:PGs X es t)
  (hn:(assignEach es X.env).length=n:=by rfl) (hst:(assignEach es X.env).findIdx? (·.1)=none:=by rfl):PG X (.Tuple es k pos) (gTup X.K n t):=by
 intro pins s σ H v u Q I r hw
 obtain⟨a,xs,e1,hq,hl,hw⟩:=hw
 subst e1
 cases r
 obtain⟨its,rv,ht,hz⟩:=I.tuple hq
 refine assign_Tuple_tuple (I.ok.hd hc) ht (by simp[hn,←hl,rv.length]) hst fun h' hx=>?_
 have I1:Inv X pins σ H {s with heap:=h'}:=I.kept (t':=s.toks) fun b o e=>hx b o (Nat.ne_of_lt (Heap.lt_size e)) e
 exact h pins _ σ H xs _ Q I1 (by simpa using rv) hw
noncomputable def gSub (to ti:TE) (t:TSet):TG:=fun v σ H Q=>to σ H fun o H1=>ti σ H1 fun i H2=>t o i v H2 fun H3=>Q σ H3
theorem ac5 {o i:Expr} {to ti:TE} {t:TSet} (ho:PE X o to) (hi:PE X i ti) (hs:PSet X t)
  (ha:∀v,assign (.Subscript o i pos) X.env v=(do
   let ov←holding [v] (eval o X.env)
   let iv←holding [v,ov] (eval i X.env)
   standAt pos
   holding [v,ov,iv] (setItem ov iv v)
   release [v,ov,iv] []):=by intro _;rfl):PG X (.Subscript o i pos) (gSub to ti t):=by
 intro pins s σ H v u Q I r h
 rw[ha]
 refine wpAny_bind (wpAny_holding (thn (ho pins s σ H _ I h) fun ov s1 ⟨x,H1,I1,r1,q1⟩=>?_))
 refine wpAny_bind (wpAny_holding (thn (hi pins s1 σ H1 _ I1 q1) fun iv s2 ⟨y,H2,I2,r2,q2⟩=>?_))
 refine wpAny_bind (wpAny_standAt (wpAny_bind (wpAny_holding (thn (hs pins s2 σ H2 x y v ov iv u _ I2 r1 r2 r q2) fun _ s3 ⟨H3,I3,q3⟩=>?_))))
 exact wpAny_release ⟨σ,H3,I3,q3⟩
noncomputable def tAsg (te:TE) (g:TG):TS:=fun D σ H=>te σ H fun x H1=>g x σ H1 D.nx
theorem ac6 {tg e:Expr} {te:TE} {g:TG} (he:PE X e te) (hg:PG X tg g) (hs:swapsWithSole [tg] e pos.line X.env=pure false:=by rfl) (hw:swappedStores [tg] e X.env=pure none:=by rfl)
  (h1:(assignEach [tg] X.env).map (·.2)=[assign tg X.env]:=by rfl):PS X (.Assign [tg] e pos) (tAsg te g):=by
 intro pins s σ H D I h
 refine wpAny_Assign_stores (thn (he pins s σ H _ I h) fun v s1 ⟨x,H1,I1,r1,q1⟩=>?_) hs hw
 rw[h1]
 exact thn (hg pins s1 σ H1 x v _ I1 r1 q1) fun _ s2 q=>q
theorem aax {i:Nat} {x:Str} {e:Expr} {te:TE} {pos':Pos} (hN:X.N.Nodup) (hi:X.N[i]?=some x) (hx:Loc X.env.scope x) (he:PE X e te) (hs:swapsWith e (some (.Name x pos')) pos.line X.env=pure false:=by rfl) (hf:X.fn x=true∨X.env.scope.names.lookup x=some .local:=by first|exact .inl rfl|exact .inr rfl|assumption):
  PS X (.Assign [.Name x pos'] e pos) (tAsg te (gName i)):=by
 intro pins s σ H D I h
 refine wpAny_Assign_Name (thn (he pins s σ H _ I h) fun v s1 ⟨y,H1,I1,r1,q1⟩=>?_) hs
 exact ajk I1 hN hi hx r1 (fun s2 I2=>⟨_,H1,I2,q1⟩) hf
end
section
variable {X:Cx} {pos:Pos}
noncomputable def tWhile (c:TT) (tb:TS):TS:=fun D σ H=>∃W:Nat→St→Hp→Prop,(∃m,W m σ H)∧∀m σ H,W m σ H→
 c σ H fun b H1=>if b=true then ∃N:St→Hp→Prop,(∀σ' H',N σ' H'→∃m',m' < m∧W m' σ' H')∧tb {D with nx:=N,ct:=N,bk:=D.nx} σ H1 else D.nx σ H1
theorem am8 {c:Expr} {body:List Stmt} {tc:TT} {tb:TS} (hp:PassesOwn (model X.prog X.w) X.A X.env X.xe) (hc:PT X c tc) (hb:PSs X body tb):PS X (.While c body [] pos) (tWhile tc tb):=by
 intro pins s σ H D I h
 obtain⟨W,⟨m0,w0⟩,turn⟩:=h
 refine wpAny_While (codeAny_whileLoop (fun n s'=>∃σ' H',Inv X pins σ' H' s'∧W n σ' H') ?_ m0 ⟨σ,H,I,w0⟩)
 rintro n s1 ⟨σ1,H1,I1,w1⟩
 refine wpAny_passesOwn hp (thn (hc pins s1 σ1 H1 _ I1 (turn n σ1 H1 w1)) fun b s2 ⟨H2,I2,q2⟩=>?_)
 cases b with
 |true=>
  obtain⟨N,hN,q2⟩:=q2
  rw[if_pos rfl]
  refine wpAny_passesOwn hp (thn (hb pins s2 σ1 H2 _ I2 q2) fun f s3 q3=>?_)
  cases f with
  |next=>
   obtain⟨σ3,H3,I3,n3⟩:=q3
   obtain⟨m',hm,w3⟩:=hN σ3 H3 n3
   exact⟨m',hm,σ3,H3,I3,w3⟩
  |cont=>
   obtain⟨σ3,H3,I3,n3⟩:=q3
   obtain⟨m',hm,w3⟩:=hN σ3 H3 n3
   exact⟨m',hm,σ3,H3,I3,w3⟩
  |brk=>exact q3
  |ret v=>exact q3
 |false=>
  rw[if_neg Bool.false_ne_true]
  exact wpAny_execs_nil ⟨σ1,H2,I2,q2⟩
end
set_option genInjectivity false in
structure It where
 go:Nat→Hp→Prop
 yld:Nat→Hp→V→Hp→Prop
 stop:Nat→Hp→Prop
noncomputable def FpOk (X:Cx) (pins:List (Addr×Obj)) (H:Hp) (b:Addr):Prop:=
 H b=none∧b≠X.env.locals∧b∉X.fs∧(b∈X.ex∨X.s₀.heap.objs.size≤b)∧(∀x c,X.env.cells.lookup x=some c→c≠b)∧∀p∈X.pn++pins,p.1≠b
theorem Inv.fpOk {X:Cx} {pins:List (Addr×Obj)} {σ:St} {H H':Hp} {s:Shared} {b:Addr} (I:Inv X pins σ H s) (hb:s.heap.objs.size≤b) (hn:H' b=none):FpOk X pins H' b:=by
 refine⟨hn,Nat.ne_of_gt (Nat.lt_of_lt_of_le I.lt hb),I.nofs hb,.inr (Nat.le_trans I.sz hb),fun x c e z=>?_,fun p hp z=>?_⟩
 ·obtain⟨v,q⟩:=I.cell x c e
  exact absurd (Nat.lt_of_lt_of_le q.lt (by rw[z];exact hb)) (Nat.lt_irrefl _)
 ·exact absurd (Nat.lt_of_lt_of_le (Heap.lt_size (I.pin p hp).1) (by rw[z];exact hb)) (Nat.lt_irrefl _)
structure Turn (P:Program) (w:World) (K:PySem.W.Frag) (tg:Expr) (J:It) (fp:List Addr) (it:Addr) (tn:Nat→Heap→Prop):Prop where
 mem:it∈fp
 obj:∀i h,tn i h→∀b∈fp,∃o,h.get? b=some o∧∀v,o.data≠.cell v
 keep:∀i h h',tn i h→(∀b∈fp,∀o,h.get? b=some o→h'.get? b=some o)→tn i h'
 item:∀(X:Cx),X.prog=P→X.w=w→X.K=K→X.calm=true→∀(i:Nat) (pins:List (Addr×Obj)) (s:Shared) (σ:St) (H:Hp) (E:Value→Shared→Prop),Inv X pins σ H s→(∀b∈fp,FpOk X pins H b)→tn i s.heap→J.go i H→
  wpAny (model P w) X.A (pyNext (.ref it)) (fun r s1=>∃u,r=some u∧
   wpAny (model P w) X.A (letOwnedTupleGo tg (.ref it) u) (fun _ s2=>∃x H',Inv X pins σ H' s2∧RelV x u∧J.yld i H x H'∧tn (i+1) s2.heap∧∀b∈fp,H' b=none) E s1) E s
 done:∀(X:Cx),X.prog=P→X.w=w→X.K=K→X.calm=true→∀(i:Nat) (pins:List (Addr×Obj)) (s:Shared) (σ:St) (H:Hp) (E:Value→Shared→Prop),Inv X pins σ H s→(∀b∈fp,FpOk X pins H b)→tn i s.heap→J.stop i H→
  wpAny (model P w) X.A (pyNext (.ref it)) (fun r s1=>r=none∧Inv X pins σ H s1) E s
 self:∀(A:Around) (i:Nat) (s:Shared) (Q:Value→Shared→Prop) (E:Value→Shared→Prop),tn i s.heap→Q (.ref it) s→wpAny (model P w) A (pyIter (.ref it)) Q E s
noncomputable abbrev TI:=St→Hp→(It→Hp→Prop)→Prop
noncomputable def PIE (X:Cx) (pins:List (Addr×Obj)) (σ:St) (tg:Expr) (R:It→Hp→Prop) (itv:Value) (s2:Shared):Prop:=
 ∃(it:Addr) (fp:List Addr) (tn:Nat→Heap→Prop) (J:It) (H':Hp),itv=.ref it∧Inv X pins σ H' s2∧Turn X.prog X.w X.K tg J fp it tn∧tn 0 s2.heap∧(∀b∈fp,FpOk X pins H' b)∧R J H'
noncomputable def PI (X:Cx) (tg iter:Expr) (wi:TI):Prop:=
 ∀(pins:List (Addr×Obj)) (s:Shared) (σ:St) (H:Hp) (R:It→Hp→Prop),Inv X pins σ H s→wi σ H R→
  wpAny (model X.prog X.w) X.A (eval iter X.env) (fun v s1=>wpAny (model X.prog X.w) X.A (pyIter v) (PIE X pins σ tg R) X.xe s1) X.xe s
theorem am9 {M : Model} {A : Around} {E : Value → Shared → Prop} {s : Shared} {tg : Expr} {it : Addr} {u : Value} {o : Obj} {n : String} {vs : Array Value} {Q : Unit → Shared → Prop} (ho : s.heap.get? it = some o) (hc : o.cls = .type n) (hd : o.data = .fields vs)
    (hn : ["enumerate", "zip", "dict_itemiterator", "dict_reverseitemiterator", "odict_iterator", "itertools.zip_longest", "itertools.pairwise"].contains n = false) (hQ : Q () s) : wpAny M A (letOwnedTupleGo tg (.ref it) u) Q E s := by
  unfold letOwnedTupleGo
  cases tg <;> first
    | exact wpAny_pure hQ
    | (cases u <;> first
        | exact wpAny_pure hQ
        | (refine wpAny_bind (wpAny_load ho ?_)
           rw [hc, hd]
           show wpAny M A (if (["enumerate", "zip", "dict_itemiterator", "dict_reverseitemiterator", "odict_iterator", "itertools.zip_longest", "itertools.pairwise"].contains n && vs[0]? == some (rawInt _)) = true then _ else _) Q E s
           rw [if_neg (by intro h; rw [hn, Bool.false_and] at h; cases h)]
           exact wpAny_pure hQ))
noncomputable def Itl (K:PySem.W.Frag) (a:Addr):It:=
 ⟨fun i H=>∃xs x,SqL K H a xs∧xs[i]?=some x,fun i H x H'=>H'=H∧∀xs,SqL K H a xs→xs[i]?=some x,fun i H=>∃xs,SqL K H a xs∧xs.length≤i⟩
noncomputable def Itt (K:PySem.W.Frag) (a:Addr):It:=
 ⟨fun i H=>∃xs x,SqT K H a xs∧xs[i]?=some x,fun i H x H'=>H'=H∧∀xs,SqT K H a xs→xs[i]?=some x,fun i H=>∃xs,SqT K H a xs∧xs.length≤i⟩
noncomputable def Itr (lo:Int) (n:Nat):It:=⟨fun i _=>i < n,fun i H x H'=>H'=H∧x=.int (lo+i),fun i _=>n≤i⟩
theorem ak2 {P:Program} {w:World} {K:PySem.W.Frag} {tg:Expr} (a it:Addr):Turn P w K tg (Itl K a) [it] it (fun i h=>h.IsListIter it a i) where
 mem:=by simp
 obj:=fun i h st b hb=>by
  have e:b=it:=by simpa using hb
  subst e
  obtain⟨o,e,c,d⟩:=st
  exact⟨o,e,fun v z=>by rw[d] at z;cases z⟩
 keep:=fun i h h' st k=>st.at fun o e=>k it (by simp) o e
 item:=by
  intro X hP hw hK hc i pins s σ H E I hf st hg
  subst hP hw hK
  obtain⟨xs,x,hq,hx⟩:=hg
  obtain⟨its,rv,p,hz⟩:=I.list hq
  obtain⟨u,hu,ru⟩:=rv.get hx
  obtain⟨f0,f1,f2,f3,f4,f5⟩:=hf it (by simp)
  refine wpAny_pyNext_list_item st p.isList (x:=u) (by simpa using hu) fun h' st' sb=>?_
  have I1:Inv X pins σ H {s with heap:=h'}:=I.turned (t':=s.toks) (fun b o hb e=>(sb.2 b hb).trans e) f0 f1 f3 f4 f5
  obtain⟨o,e,c,d⟩:=id st'
  exact⟨u,rfl,am9 (s:={s with heap:=h'}) e c d (by decide) ⟨x,H,I1,ru,⟨rfl,fun ys hy=>by rw[I.list_inj hy hq];exact hx⟩,st',fun b hb=>(hf b hb).1⟩⟩
 done:=by
  intro X hP hw hK hc i pins s σ H E I hf st hg
  subst hP hw hK
  obtain⟨xs,hq,hx⟩:=hg
  obtain⟨its,rv,p,hz⟩:=I.list hq
  obtain⟨f0,f1,f2,f3,f4,f5⟩:=hf it (by simp)
  have hl:=rv.length
  exact wpAny_pyNext_list_end (I.ok.hd hc) st p.isList (by simp;omega) fun h' eb=>⟨rfl,I.turned (t':=s.toks) (fun b o hb e=>eb b o hb e) f0 f1 f3 f4 f5⟩
 self:=fun _ _ _ _ _ st h=>wpAny_pyIter_listiter st h
theorem akh {P:Program} {w:World} {K:PySem.W.Frag} {tg:Expr} (a it:Addr):Turn P w K tg (Itt K a) [it] it (fun i h=>h.IsTupleIter it a i) where
 mem:=by simp
 obj:=fun i h st b hb=>by
  have e:b=it:=by simpa using hb
  subst e
  obtain⟨o,e,c,d⟩:=st
  exact⟨o,e,fun v z=>by rw[d] at z;cases z⟩
 keep:=fun i h h' st k=>st.at fun o e=>k it (by simp) o e
 item:=by
  intro X hP hw hK hc i pins s σ H E I hf st hg
  subst hP hw hK
  obtain⟨xs,x,hq,hx⟩:=hg
  obtain⟨its,rv,p,hz⟩:=I.tuple hq
  obtain⟨u,hu,ru⟩:=rv.get hx
  obtain⟨f0,f1,f2,f3,f4,f5⟩:=hf it (by simp)
  refine wpAny_pyNext_tuple_item st (show s.heap.IsTuple a its.toArray from p) (x:=u) (by simpa using hu) fun h' st' sb=>?_
  have I1:Inv X pins σ H {s with heap:=h'}:=I.turned (t':=s.toks) (fun b o hb e=>(sb.2 b hb).trans e) f0 f1 f3 f4 f5
  obtain⟨o,e,c,d⟩:=id st'
  exact⟨u,rfl,am9 (s:={s with heap:=h'}) e c d (by decide) ⟨x,H,I1,ru,⟨rfl,fun ys hy=>by rw[I.tuple_inj hy hq];exact hx⟩,st',fun b hb=>(hf b hb).1⟩⟩
 done:=by
  intro X hP hw hK hc i pins s σ H E I hf st hg
  subst hP hw hK
  obtain⟨xs,hq,hx⟩:=hg
  obtain⟨its,rv,p,hz⟩:=I.tuple hq
  obtain⟨f0,f1,f2,f3,f4,f5⟩:=hf it (by simp)
  have hl:=rv.length
  exact wpAny_pyNext_tuple_end (I.ok.hd hc) st (show s.heap.IsTuple a its.toArray from p) (by simp;omega) fun h' eb=>⟨rfl,I.turned (t':=s.toks) (fun b o hb e=>eb b o hb e) f0 f1 f3 f4 f5⟩
 self:=fun _ _ _ _ _ st h=>wpAny_pyIter_tupleiter st h
theorem aki {P:Program} {w:World} {K:PySem.W.Frag} {tg:Expr} (it:Addr) (lo:Int) (n:Nat):Turn P w K tg (Itr lo n) [it] it (fun i h=>IsRangeIter h it (lo+(i:Nat) * 1) ((n:Int) - (i:Nat)) 1) where
 mem:=by simp
 obj:=fun i h st b hb=>by
  have e:b=it:=by simpa using hb
  subst e
  exact⟨_,st,fun v z=>by
   have z':Data.fields _=Data.cell v:=z
   cases z'⟩
 keep:=fun i h h' st k=>k it (by simp) _ st
 item:=by
  intro X hP hw hK hc i pins s σ H E I hf st hg
  subst hP hw hK
  obtain⟨f0,f1,f2,f3,f4,f5⟩:=hf it (by simp)
  have W:=Walks.range (prog:=X.prog) (w:=X.w) (I.ok.hd hc) it lo 1 n
  refine W.item i s _ _ hg st fun v h' tk hv st' kk=>?_
  obtain⟨t,rfl⟩:=hv
  have I1:Inv X pins σ H {s with heap:=h',toks:=tk}:=I.turned (fun b o hb e=>kk b o (by simpa using hb) e) f0 f1 f3 f4 f5
  refine⟨_,rfl,am9 (s:={s with heap:=h',toks:=tk}) (n:="range_iterator") st' rfl rfl (by decide) ⟨.int (lo+i),H,I1,⟨t,?_⟩,⟨rfl,rfl⟩,st',fun b hb=>(hf b hb).1⟩⟩
  rw[Int.mul_one]
 done:=by
  intro X hP hw hK hc i pins s σ H E I hf st hg
  subst hP hw hK
  obtain⟨f0,f1,f2,f3,f4,f5⟩:=hf it (by simp)
  exact wpAny_pyNext_range_end (I.ok.hd hc) st (by have:n≤i:=hg;omega) fun h' eb=>⟨rfl,I.turned (t':=s.toks) (fun b o hb e=>eb b o hb e) f0 f1 f3 f4 f5⟩
 self:=fun _ _ _ _ _ st h=>wpAny_pyIter_rangeiter st h
end L2
namespace L2
open PySem PySem.Spec PyProof.Rows
section
variable {X:Cx} {tg:Expr}
noncomputable def iList (K:PySem.W.Frag) (tl:TE):TI:=fun σ H R=>tl σ H fun x H1=>∃a,x=.ref a∧(∃xs,SqL K H1 a xs)∧R (Itl K a) H1
noncomputable def iTup (K:PySem.W.Frag) (tl:TE):TI:=fun σ H R=>tl σ H fun x H1=>∃a,x=.ref a∧(∃xs,SqT K H1 a xs)∧R (Itt K a) H1
theorem adu {l:Expr} {tl:TE} (hl:PE X l tl):PI X tg l (iList X.K tl):=by
 intro pins s σ H R I h
 refine thn (hl pins s σ H _ I h) fun v s1 ⟨x,H1,I1,r1,q1⟩=>?_
 obtain⟨a,e,⟨xs,hq⟩,q⟩:=q1
 subst e
 cases r1
 obtain⟨its,rv,p,hz⟩:=I1.list hq
 refine wpAny_pyIter_list p.isList ?_
 refine⟨s1.heap.objs.size,[s1.heap.objs.size],_,_,H1,rfl,I1.kept (t':=s1.toks) fun b o e=>Heap.get?_push_of_some _ e,ak2 a _,⟨_,Heap.get?_push_size _ rfl,rfl,rfl⟩,fun b hb=>?_,q⟩
 have e:b=s1.heap.objs.size:=by simpa using hb
 subst e
 exact I1.fpOk (Nat.le_refl _) (I1.hok.fresh (Nat.le_refl _))
theorem pi_tup {l:Expr} {tl:TE} (hl:PE X l tl):PI X tg l (iTup X.K tl):=by
 intro pins s σ H R I h
 refine thn (hl pins s σ H _ I h) fun v s1 ⟨x,H1,I1,r1,q1⟩=>?_
 obtain⟨a,e,⟨xs,hq⟩,q⟩:=q1
 subst e
 cases r1
 obtain⟨its,rv,p,hz⟩:=I1.tuple hq
 refine wpAny_pyIter_tuple (show s1.heap.IsTuple a its.toArray from p) ?_
 refine⟨s1.heap.objs.size,[s1.heap.objs.size],_,_,H1,rfl,I1.kept (t':=s1.toks) fun b o e=>Heap.get?_push_of_some _ e,akh a _,⟨_,Heap.get?_push_size _ rfl,rfl,rfl⟩,fun b hb=>?_,q⟩
 have e:b=s1.heap.objs.size:=by simpa using hb
 subst e
 exact I1.fpOk (Nat.le_refl _) (I1.hok.fresh (Nat.le_refl _))
theorem ana {pins:List (Addr×Obj)} {σ:St} {H:Hp} {s:Shared} {R:It→Hp→Prop} {E:Value→Shared→Prop} {lo hi:Int} {t u v:Tok} {tk:Nat} (I:Inv X pins σ H s) (h1: -(2 ^ 62)≤lo) (h2:lo < 2 ^ 62) (h3: -(2 ^ 62)≤hi) (h4:hi < 2 ^ 62)
  (q:R (Itr lo (hi - lo).toNat) H):wpAny (model X.prog X.w) X.A (pyIter (.ref s.heap.objs.size)) (PIE X pins σ tg R) E {s with heap:=s.heap.push {cls:=.type "range",data:=.fields #[.int lo t,.int hi u,.int 1 v]},toks:=tk}:=by
 refine wpAny_pyIter_range (IsRange.new ..) (small_one h1 h2 h3 h4) ?_
 have I1:Inv X pins σ H {s with heap:=s.heap.push {cls:=.type "range",data:=.fields #[.int lo t,.int hi u,.int 1 v]},toks:=tk}:=I.kept fun b o e=>Heap.get?_push_of_some _ e
 refine⟨(s.heap.push {cls:=.type "range",data:=.fields #[.int lo t,.int hi u,.int 1 v]}).objs.size,[(s.heap.push {cls:=.type "range",data:=.fields #[.int lo t,.int hi u,.int 1 v]}).objs.size],_,_,H,rfl,
  I1.kept (t':=tk) fun b o e=>Heap.get?_push_of_some _ e,aki _ lo (hi - lo).toNat,?_,fun b hb=>?_,q⟩
 ·have e1:lo+((0:Nat):Int) * 1=lo:=by simp
  have e2:(((hi - lo).toNat:Nat):Int) - ((0:Nat):Int)=Builtin.Range.rangeSize lo hi 1:=by rw[rangeSize_one];split<;>omega
  show IsRangeIter _ _ (lo+((0:Nat):Int) * 1) ((((hi - lo).toNat:Nat):Int) - ((0:Nat):Int)) 1
  rw[e1,e2]
  exact Heap.get?_push_size _ rfl
 ·have e:b=(s.heap.push {cls:=.type "range",data:=.fields #[.int lo t,.int hi u,.int 1 v]}).objs.size:=by simpa using hb
  subst e
  exact I1.fpOk (Nat.le_refl _) (I1.hok.fresh (Nat.le_refl _))
noncomputable def iRng1 (ta:TA):TI:=fun σ H R=>ta σ H fun vs H1=>∃j:Int,vs=[.int j]∧ -(2 ^ 62)≤j∧j < 2 ^ 62∧R (Itr 0 j.toNat) H1
theorem acp {a:Expr} {ta:TA} {p pos:Pos} (hg:Gl X "range") (hm:X.mg "range"=none) (ha:PA X [a] ta) (hs:starEach [a] X.env=[(false,eval a X.env)]:=by rfl):PI X tg (.Call (.Name "range" p) [a] [] pos) (iRng1 ta):=by
 intro pins s σ H R I h
 refine Call_ (ah8 I hg hm boot_range (PyProof.Rows.callWith_type1 (thn (ha pos pins s σ H _ I h) fun us s1 ⟨vs,H1,I1,r1,q1⟩=>?_) hs rfl))
 obtain⟨j,e,q1,q2,q⟩:=q1
 subst e
 cases r1 with
 |cons r rr=>
  cases rr
  obtain⟨t,rfl⟩:=r
  exact call_range_1 (ana I1 (by omega) (by omega) q1 q2 (by simpa using q))
noncomputable def tFor (wi:TI) (g:TG) (tb:TS):TS:=fun D σ H=>wi σ H fun J H1=>∃W:Nat→Nat→St→Hp→Prop,(∃m,W 0 m σ H1)∧∀i m σ H,W i m σ H→
 (J.stop i H∧D.nx σ H)∨(J.go i H∧∃N:St→Hp→Prop,(∀σ' H',N σ' H'→∃m',m' < m∧W (i+1) m' σ' H')∧∀x H',J.yld i H x H'→g x σ H' fun σ2 H2=>tb {D with nx:=N,ct:=N,bk:=D.nx} σ2 H2)
noncomputable def pinsAt (fp:List Addr) (h:Heap):List (Addr×Obj):=fp.filterMap fun b=>(h.get? b).map fun o=>(b,o)
theorem ads {fp:List Addr} {h:Heap} {b:Addr} {o:Obj} (hb:b∈fp) (e:h.get? b=some o):(b,o)∈pinsAt fp h:=List.mem_filterMap.mpr ⟨b,hb,by rw[e];rfl⟩
theorem ak3 {fp:List Addr} {h:Heap} {p:Addr×Obj} (hp:p∈pinsAt fp h):p.1∈fp∧h.get? p.1=some p.2:=by
 obtain⟨b,hb,e⟩:=List.mem_filterMap.mp hp
 cases q:h.get? b with
 |none=>rw[q] at e;cases e
 |some o=>
  rw[q] at e
  have e':(b,o)=p:=Option.some.inj e
  subst e'
  exact⟨hb,q⟩
theorem Inv.pinned {pins:List (Addr×Obj)} {σ:St} {H:Hp} {s:Shared} {fp:List Addr} (I:Inv X pins σ H s) (hf:∀b∈fp,FpOk X pins H b) (ho:∀b∈fp,∃o,s.heap.get? b=some o∧∀v,o.data≠.cell v):Inv X (pins++pinsAt fp s.heap) σ H s:=
 I.pins_of fun p hp=>(List.mem_append.mp hp).elim (fun z=>I.pin p (List.mem_append_right _ z)) fun z=>by
  obtain⟨hb,e⟩:=ak3 z
  obtain⟨f0,f1,f2,_⟩:=hf p.1 hb
  obtain⟨o,e',d⟩:=ho p.1 hb
  rw[e] at e';cases e'
  exact⟨e,f0,f1,f2,d⟩
theorem Inv.unpinned {pins pl:List (Addr×Obj)} {σ:St} {H:Hp} {s:Shared} (I:Inv X (pins++pl) σ H s):Inv X pins σ H s:=I.pins_of fun p hp=>I.pin p (List.mem_append_right _ (List.mem_append_left _ hp))
theorem ps_for {iter:Expr} {body:List Stmt} {wi:TI} {g:TG} {tb:TS} {pos:Pos} (hp:PassesOwn (model X.prog X.w) X.A X.env X.xe) (hc:X.calm=true) (hi:PI X tg iter wi) (hg:PG X tg g) (hb:PSs X body tb)
  (hs:∀x,foldedSetIterable iter X.env x=pure x:=by intro _;rfl):PS X (.For tg iter body [] pos) (tFor wi g tb):=by
 intro pins s σ H D I h
 refine wpAny_For (thn (hi pins s σ H _ I h) fun v s1 h1=>thn h1 fun itv s2 h2=>?_) hs
 obtain⟨it,fp,tn,J,H2,e,I2,T,st2,f2,W,⟨m0,w0⟩,turn⟩:=h2
 subst e
 have stat:∀{H':Hp},(∀b∈fp,H' b=none)→∀b∈fp,FpOk X pins H' b:=fun hn b hb=>⟨hn b hb,(f2 b hb).2⟩
 refine codeAny_forLoop_any (fun n s'=>∃i σ' H',Inv X pins σ' H' s'∧tn i s'.heap∧(∀b∈fp,H' b=none)∧W i n σ' H') ?_ m0 ⟨0,σ,H2,I2,st2,fun b hb=>(f2 b hb).1,w0⟩
 rintro n s3 ⟨i,σ3,H3,I3,st3,fr3,w3⟩
 rcases turn i n σ3 H3 w3 with ⟨stop,qn⟩|⟨go,N,hN,step⟩
 ·refine wpAny_passesOwn hp (thn (T.done X rfl rfl rfl hc i pins s3 σ3 H3 X.xe I3 (stat fr3) st3 stop) fun r s4 ⟨hr,I4⟩=>?_)
  subst hr
  exact wpAny_execs_nil ⟨σ3,H3,I4,qn⟩
 ·refine wpAny_passesOwn hp (thn (T.item X rfl rfl rfl hc i pins s3 σ3 H3 X.xe I3 (stat fr3) st3 go) fun r s4 ⟨u,hr,h4⟩=>?_)
  subst hr
  refine wpAny_passesOwn hp (thn h4 fun _ s5 ⟨x,H5,I5,r5,y5,st5,fr5⟩=>?_)
  have I5':=I5.pinned (stat fr5) (T.obj _ _ st5)
  refine wpAny_passesOwn hp (thn (hg _ s5 σ3 H5 x u _ I5' r5 (step x H5 y5)) fun _ s6 ⟨σ6,H6,I6,q6⟩=>?_)
  refine wpAny_passesOwn hp (thn (hb _ s6 σ6 H6 _ I6 q6) fun f s7 q7=>?_)
  have again:∀{σ7:St} {H7:Hp},Inv X (pins++pinsAt fp s5.heap) σ7 H7 s7→N σ7 H7→∃m,m < n∧∃i σ' H',Inv X pins σ' H' s7∧tn i s7.heap∧(∀b∈fp,H' b=none)∧W i m σ' H':=fun {σ7 H7} I7 n7=>by
   obtain⟨m',hm,w7⟩:=hN σ7 H7 n7
   refine⟨m',hm,i+1,σ7,H7,I7.unpinned,T.keep _ _ _ st5 fun b hb o e=>(I7.pin (b,o) (List.mem_append_right _ (List.mem_append_right _ (ads hb e)))).1,fun b hb=>?_,w7⟩
   obtain⟨o,e,d⟩:=T.obj _ _ st5 b hb
   exact (I7.pin (b,o) (List.mem_append_right _ (List.mem_append_right _ (ads hb e)))).2.1
  cases f with
  |next=>obtain⟨σ7,H7,I7,n7⟩:=q7;exact again I7 n7
  |cont=>obtain⟨σ7,H7,I7,n7⟩:=q7;exact again I7 n7
  |brk=>obtain⟨σ7,H7,I7,q7⟩:=q7;exact⟨σ7,H7,I7.unpinned,q7⟩
  |ret v=>obtain⟨x7,σ7,H7,I7,r7,q7⟩:=q7;exact⟨x7,σ7,H7,I7.unpinned,r7,q7⟩
end
theorem anb {K:PySem.W.Frag} {a:Addr} {xs:List V} {g:TG} {tb:TS} {D:Ends} {σ:St} {H:Hp} (Pv:Nat→St→Hp→Prop) (h0:Pv 0 σ H) (hl:∀i σ H,i≤xs.length→Pv i σ H→SqL K H a xs)
  (hs:∀i x σ H,xs[i]?=some x→Pv i σ H→g x σ H fun σ2 H2=>tb {D with nx:=Pv (i+1),ct:=Pv (i+1),bk:=D.nx} σ2 H2) (hd:∀σ H,Pv xs.length σ H→D.nx σ H):
  ∃W:Nat→Nat→St→Hp→Prop,(∃m,W 0 m σ H)∧∀i m σ H,W i m σ H→
   ((Itl K a).stop i H∧D.nx σ H)∨((Itl K a).go i H∧∃N:St→Hp→Prop,(∀σ' H',N σ' H'→∃m',m' < m∧W (i+1) m' σ' H')∧∀x H',(Itl K a).yld i H x H'→g x σ H' fun σ2 H2=>tb {D with nx:=N,ct:=N,bk:=D.nx} σ2 H2):=by
 refine⟨fun i m σ H=>m=xs.length - i∧i≤xs.length∧Pv i σ H,⟨xs.length,by simp,Nat.zero_le _,h0⟩,?_⟩
 rintro i m σ H ⟨rfl,hi,p⟩
 have q:=hl i σ H hi p
 by_cases hlt:i < xs.length
 ·refine .inr ⟨⟨xs,xs[i],q,by simp[hlt]⟩,Pv (i+1),fun σ' H' p'=>⟨xs.length - (i+1),by omega,rfl,hlt,p'⟩,fun x H' y=>?_⟩
  obtain⟨e,y⟩:=y
  subst e
  exact hs i x σ _ (y xs q) p
 ·have e:i=xs.length:=by omega
  subst e
  exact .inl ⟨⟨xs,q,Nat.le_refl _⟩,hd σ H p⟩
theorem ak4 {lo:Int} {n:Nat} {g:TG} {tb:TS} {D:Ends} {σ:St} {H:Hp} (Pv:Nat→St→Hp→Prop) (h0:Pv 0 σ H)
  (hs:∀i σ H,i < n→Pv i σ H→g (.int (lo+i)) σ H fun σ2 H2=>tb {D with nx:=Pv (i+1),ct:=Pv (i+1),bk:=D.nx} σ2 H2) (hd:∀σ H,Pv n σ H→D.nx σ H):
  ∃W:Nat→Nat→St→Hp→Prop,(∃m,W 0 m σ H)∧∀i m σ H,W i m σ H→
   ((Itr lo n).stop i H∧D.nx σ H)∨((Itr lo n).go i H∧∃N:St→Hp→Prop,(∀σ' H',N σ' H'→∃m',m' < m∧W (i+1) m' σ' H')∧∀x H',(Itr lo n).yld i H x H'→g x σ H' fun σ2 H2=>tb {D with nx:=N,ct:=N,bk:=D.nx} σ2 H2):=by
 refine⟨fun i m σ H=>m=n - i∧i≤n∧Pv i σ H,⟨n,by simp,Nat.zero_le _,h0⟩,?_⟩
 rintro i m σ H ⟨rfl,hi,p⟩
 by_cases hlt:i < n
 ·refine .inr ⟨hlt,Pv (i+1),fun σ' H' p'=>⟨n - (i+1),by omega,rfl,hlt,p'⟩,fun x H' y=>?_⟩
  obtain⟨e,y⟩:=y
  subst e y
  exact hs i σ _ hlt p
 ·have e:i=n:=by omega
  subst e
  exact .inl ⟨Nat.le_refl _,hd σ H p⟩
end L2
namespace L2
open PySem PySem.Spec PyProof.Rows
noncomputable abbrev R2:=V→V→Hp→VK→Prop
noncomputable def OpR (X:Cx) (f:Value→Value→Sem Value) (r:R2):Prop:=
 ∀(pins:List (Addr×Obj)) (s:Shared) (σ:St) (H:Hp) (x y:V) (v u:Value) (Q:VK),Inv X pins σ H s→RelV x v→RelV y u→r x y H Q→
  wpAny (model X.prog X.w) X.A (f v u) (EP X pins σ Q) X.xe s
noncomputable def CallR (X:Cx) (f:Value) (r:List V→Hp→VK→Prop):Prop:=
 ∀(pins:List (Addr×Obj)) (s:Shared) (σ:St) (H:Hp) (xs:List V) (us:List Value) (Q:VK),Inv X pins σ H s→Vals xs us→r xs H Q→
  wpAny (model X.prog X.w) X.A (call f us) (EP X pins σ Q) X.xe s
noncomputable def TruR (X:Cx) (r:V→Hp→(Bool→Hp→Prop)→Prop):Prop:=
 ∀(pins:List (Addr×Obj)) (s:Shared) (σ:St) (H:Hp) (x:V) (v:Value) (Q:Bool→Hp→Prop),Inv X pins σ H s→RelV x v→r x H Q→
  wpAny (model X.prog X.w) X.A (truthy v) (TP X pins σ Q) X.xe s
noncomputable def tOp (r:R2) (ta tb:TE):TE:=fun σ H Q=>ta σ H fun x H1=>tb σ H1 fun y H2=>r x y H2 Q
noncomputable def rI (C:Int→Int→Prop) (g:Int→Int→V):R2:=fun x y H Q=>∃i j,x=.int i∧y=.int j∧C i j∧Q (g i j) H
noncomputable def rI0 (g:Int→Int→V):R2:=fun x y H Q=>∃i j,x=.int i∧y=.int j∧Q (g i j) H
section
variable {X:Cx} {a b c:Expr} {ta tb tc:TE} {pos:Pos}
theorem binT (ha:PE X a ta) (hb:PE X b tb) {pins:List (Addr×Obj)} {s:Shared} {σ:St} {H:Hp} {R:V→V→Hp→Prop} (I:Inv X pins σ H s)
  (h:ta σ H fun x H1=>tb σ H1 fun y H2=>R x y H2) {Q:Value→Shared→Prop} {f:Value→Value→Sem Value}
  (hf:∀v u s2 x y H2,Inv X pins σ H2 s2→RelV x v→RelV y u→R x y H2→wpAny (model X.prog X.w) X.A (f v u) Q X.xe s2):
  wpAny (model X.prog X.w) X.A (eval a X.env) (fun v s₁=>wpAny (model X.prog X.w) X.A (eval b X.env) (fun u s₂=>wpAny (model X.prog X.w) X.A (f v u) Q X.xe s₂) X.xe s₁) X.xe s:=by
 refine thn (ha pins s σ H _ I h) fun v s1 ⟨x,H1,I1,r1,q1⟩=>?_
 refine thn (hb pins s1 σ H1 _ I1 q1) fun u s2 ⟨y,H2,I2,r2,q2⟩=>?_
 exact hf v u s2 x y H2 I2 r1 r2 q2
theorem aay {op:Operator} {r:R2} (ho:OpR X (binaryOp op) r) (ha:PE X a ta) (hb:PE X b tb):PE X (.BinOp a op b pos) (tOp r ta tb):=by
 intro pins s σ H Q I h
 exact wpAny_BinOp (binT ha hb I h fun v u s2 x y H2 I2 rx ry q=>ho pins s2 σ H2 x y v u Q I2 rx ry q)
theorem opI {f:Value→Value→Sem Value} {C:Int→Int→Prop} {g:Int→Int→Int}
  (rule:∀(i j:Int) (t u:Tok) (s:Shared) (Q:Value→Shared→Prop) (E:Value→Shared→Prop),C i j→Q (.int (g i j) s.toks) {s with toks:=s.toks+1}→wpAny (model X.prog X.w) X.A (f (.int i t) (.int j u)) Q E s):
  OpR X f (rI C fun i j=>.int (g i j)):=by
 intro pins s σ H x y v u Q I rx ry h
 obtain⟨i,j,rfl,rfl,hc,q⟩:=h
 obtain⟨t,rfl⟩:=rx
 obtain⟨t',rfl⟩:=ry
 exact rule i j t t' s _ _ hc ⟨.int (g i j),H,I.tok _,⟨_,rfl⟩,q⟩
theorem opI0 {f:Value→Value→Sem Value} {g:Int→Int→Int}
  (rule:∀(i j:Int) (t u:Tok) (s:Shared) (Q:Value→Shared→Prop) (E:Value→Shared→Prop),Q (.int (g i j) s.toks) {s with toks:=s.toks+1}→wpAny (model X.prog X.w) X.A (f (.int i t) (.int j u)) Q E s):
  OpR X f (rI0 fun i j=>.int (g i j)):=by
 intro pins s σ H x y v u Q I rx ry h
 obtain⟨i,j,rfl,rfl,q⟩:=h
 obtain⟨t,rfl⟩:=rx
 obtain⟨t',rfl⟩:=ry
 exact rule i j t t' s _ _ ⟨.int (g i j),H,I.tok _,⟨_,rfl⟩,q⟩
theorem opB0 {f:Value→Value→Sem Value} {g:Int→Int→Bool}
  (rule:∀(i j:Int) (t u:Tok) (s:Shared) (Q:Value→Shared→Prop) (E:Value→Shared→Prop),Q (.bool (g i j)) s→wpAny (model X.prog X.w) X.A (f (.int i t) (.int j u)) Q E s):
  OpR X f (rI0 fun i j=>.bl (g i j)):=by
 intro pins s σ H x y v u Q I rx ry h
 obtain⟨i,j,rfl,rfl,q⟩:=h
 obtain⟨t,rfl⟩:=rx
 obtain⟨t',rfl⟩:=ry
 exact rule i j t t' s _ _ ⟨.bl (g i j),H,I,rfl,q⟩
noncomputable def CDiv (i j:Int):Prop:=0 < j∧j < 1073741824
noncomputable def CPow (i j:Int):Prop:=0≤j∧j≤1000000∧i.natAbs < 2 ^ 64
noncomputable def CMul (i j:Int):Prop:=(-(2 ^ 64) < i∧i < 2 ^ 64)∨(-(2 ^ 64) < j∧j < 2 ^ 64)
theorem CMul.ok {i j:Int} (h:CMul i j):IntMulOk i j:=by
 rcases h with ⟨h1,h2⟩|⟨h1,h2⟩
 ·exact .of_left (intBits_le_64 h1 h2)
 ·exact .of_right (intBits_le_64 h1 h2)
theorem two_pow_nn (k:Nat):(0:Int)≤2 ^ k:=by
 rw[two_pow_cast]
 exact Int.natCast_nonneg _
theorem adv:OpR X (binaryOp .Add) (rI0 fun i j=>.int (i+j)):=opI0 fun _ _ _ _ _ _ _ q=>add_int q
theorem af4:OpR X (binaryOp .Mult) (rI CMul fun i j=>.int (i * j)):=opI fun _ _ _ _ _ _ _ hc q=>mul_int q hc.ok
theorem acd:OpR X (binaryOp .FloorDiv) (rI CDiv fun i j=>.int (i / j)):=opI fun i j _ _ _ _ _ hc q=>by
 have h1:(0:Int) < j:=hc.1
 have h2:j < 1073741824:=hc.2
 exact floordiv_int (by omega) (by rw[Int.fdiv_eq_ediv_of_nonneg i (by omega)];exact q) (.inl (PyProof.noPylong_small (by omega)))
theorem ab4:OpR X (binaryOp .Mod) (rI (fun _ j=>0 < j) fun i j=>.int (i % j)):=opI fun i j _ _ _ _ _ hc q=>by
 have h1:(0:Int) < j:=hc
 exact mod_int' (by omega) (by rw[Int.fmod_eq_emod_of_nonneg i (by omega)];exact q)
theorem aok:OpR X (binaryOp .Pow) (rI CPow fun i j=>.int (i ^ j.toNat)):=opI fun _ _ _ _ _ _ _ hc q=>pow_int_small hc.1 hc.2.1 hc.2.2 q
theorem op_shr:OpR X (binaryOp .RShift) (rI (fun _ j=>0≤j) fun i j=>.int (i / 2 ^ j.toNat)):=opI fun i j _ _ _ _ _ hc q=>
 rshift_int hc (by rw[Int.fdiv_eq_ediv_of_nonneg i (two_pow_nn _)];exact q)
end
noncomputable def scal:V→V→Bool
 |.non,.non=>true|.non,.int _=>true|.int _,.non=>true|.non,.bl _=>true|.bl _,.non=>true|.non,.str _=>true|.str _,.non=>true
 |.int _,.int _=>true|.bl _,.bl _=>true|.str _,.str _=>true|.byt _,.byt _=>true
 |.int _,.str _=>true|.str _,.int _=>true|.bl _,.str _=>true|.str _,.bl _=>true
 |_,_=>false
noncomputable def rEq:R2:=fun x y H Q=>scal x y=true∧Q (.bl (decide (x=y))) H
noncomputable def rNe:R2:=fun x y H Q=>scal x y=true∧Q (.bl (!decide (x=y))) H
theorem ak5 {i j:Int}:decide (V.int i=V.int j)=(i == j):=by
 rw[Bool.eq_iff_iff]
 simp
theorem aol {i j:Bool}:decide (V.bl i=V.bl j)=(i == j):=by
 rw[Bool.eq_iff_iff]
 simp
theorem ak6 {i j:Str}:decide (V.str i=V.str j)=(i == j):=by
 rw[Bool.eq_iff_iff]
 simp
theorem ak7 {i j:Array UInt8}:decide (V.byt i=V.byt j)=(i.toList == j.toList):=by
 rw[Bool.eq_iff_iff]
 cases i
 cases j
 simp
section
variable {X:Cx} {a b c:Expr} {ta tb tc:TE} {pos:Pos}
theorem ab3 {pins:List (Addr×Obj)} {σ:St} {H:Hp} {s:Shared} {Q:VK} {k k':Bool} (I:Inv X pins σ H s) (q:Q (.bl k) H) (e:k=k'):EP X pins σ Q (.bool k') s:=by
 subst e
 exact⟨.bl k,H,I,rfl,q⟩
theorem adb:OpR X (compareOp .Eq) rEq:=by
 intro pins s σ H x y v u Q I rx ry h
 obtain⟨hs,q⟩:=h
 cases x with
 |non=>
  cases rx
  cases y with
  |non=>cases ry;exact PySem.EqNone.eq_none_none (ab3 I q (by simp))
  |bl j=>cases ry;exact PySem.EqNone.eq_none_bool (ab3 I q (by simp))
  |int j=>obtain⟨t',rfl⟩:=ry;exact PySem.EqNone.eq_none_int (ab3 I q (by simp))
  |str j=>obtain⟨t',rfl⟩:=ry;exact PySem.EqNone.eq_none_str (ab3 I q (by simp))
  |_=>exact absurd (show false=true from hs) Bool.false_ne_true
 |bl i=>
  cases rx
  cases y with
  |non=>cases ry;exact PySem.EqNone.eq_bool_none (ab3 I q (by simp))
  |bl j=>cases ry;exact eq_bool (ab3 I q aol)
  |str j=>obtain⟨t',rfl⟩:=ry;exact PySem.EqMixed.eq_bool_str (ab3 I q (by simp))
  |_=>exact absurd (show false=true from hs) Bool.false_ne_true
 |int i=>
  obtain⟨t,rfl⟩:=rx
  cases y with
  |non=>cases ry;exact PySem.EqNone.eq_int_none (ab3 I q (by simp))
  |int j=>obtain⟨t',rfl⟩:=ry;exact eq_int (ab3 I q ak5)
  |str j=>obtain⟨t',rfl⟩:=ry;exact PySem.EqMixed.eq_int_str (ab3 I q (by simp))
  |_=>exact absurd (show false=true from hs) Bool.false_ne_true
 |str i=>
  obtain⟨t,rfl⟩:=rx
  cases y with
  |non=>cases ry;exact PySem.EqNone.eq_str_none (ab3 I q (by simp))
  |bl j=>cases ry;exact PySem.EqMixed.eq_str_bool (ab3 I q (by simp))
  |int j=>obtain⟨t',rfl⟩:=ry;exact PySem.EqMixed.eq_str_int (ab3 I q (by simp))
  |str j=>obtain⟨t',rfl⟩:=ry;exact eq_str (ab3 I q ak6)
  |_=>exact absurd (show false=true from hs) Bool.false_ne_true
 |byt i=>
  obtain⟨t,rfl⟩:=rx
  cases y with
  |byt j=>obtain⟨t',rfl⟩:=ry;exact PySem.W.eq_bytes (ab3 I q ak7)
  |_=>exact absurd (show false=true from hs) Bool.false_ne_true
 |_=>cases y<;>exact absurd (show false=true from hs) Bool.false_ne_true
theorem ak8:OpR X (compareOp .NotEq) rNe:=by
 intro pins s σ H x y v u Q I rx ry h
 obtain⟨hs,q⟩:=h
 cases x with
 |non=>
  cases rx
  cases y with
  |non=>cases ry;exact PySem.EqNone.ne_none_none (ab3 I q (by simp))
  |bl j=>cases ry;exact PySem.EqNone.ne_none_bool (ab3 I q (by simp))
  |int j=>obtain⟨t',rfl⟩:=ry;exact PySem.EqNone.ne_none_int (ab3 I q (by simp))
  |str j=>obtain⟨t',rfl⟩:=ry;exact PySem.EqNone.ne_none_str (ab3 I q (by simp))
  |_=>exact absurd (show false=true from hs) Bool.false_ne_true
 |bl i=>
  cases rx
  cases y with
  |non=>cases ry;exact PySem.EqNone.ne_bool_none (ab3 I q (by simp))
  |bl j=>cases ry;exact ne_bool (ab3 I q (congrArg not aol))
  |str j=>obtain⟨t',rfl⟩:=ry;exact PySem.EqMixed.ne_bool_str (ab3 I q (by simp))
  |_=>exact absurd (show false=true from hs) Bool.false_ne_true
 |int i=>
  obtain⟨t,rfl⟩:=rx
  cases y with
  |non=>cases ry;exact PySem.EqNone.ne_int_none (ab3 I q (by simp))
  |int j=>obtain⟨t',rfl⟩:=ry;exact ne_int (ab3 I q (congrArg not ak5))
  |str j=>obtain⟨t',rfl⟩:=ry;exact PySem.EqMixed.ne_int_str (ab3 I q (by simp))
  |_=>exact absurd (show false=true from hs) Bool.false_ne_true
 |str i=>
  obtain⟨t,rfl⟩:=rx
  cases y with
  |non=>cases ry;exact PySem.EqNone.ne_str_none (ab3 I q (by simp))
  |bl j=>cases ry;exact PySem.EqMixed.ne_str_bool (ab3 I q (by simp))
  |int j=>obtain⟨t',rfl⟩:=ry;exact PySem.EqMixed.ne_str_int (ab3 I q (by simp))
  |str j=>obtain⟨t',rfl⟩:=ry;exact ne_str (ab3 I q (congrArg not ak6))
  |_=>exact absurd (show false=true from hs) Bool.false_ne_true
 |byt i=>
  obtain⟨t,rfl⟩:=rx
  cases y with
  |byt j=>obtain⟨t',rfl⟩:=ry;exact PySem.W.ne_bytes (ab3 I q (congrArg not ak7))
  |_=>exact absurd (show false=true from hs) Bool.false_ne_true
 |_=>cases y<;>exact absurd (show false=true from hs) Bool.false_ne_true
theorem apn:OpR X (compareOp .Lt) (rI0 fun i j=>.bl (decide (i < j))):=opB0 fun _ _ _ _ _ _ _ q=>lt_int q
theorem op_ge:OpR X (compareOp .GtE) (rI0 fun i j=>.bl (decide (j≤i))):=opB0 fun _ _ _ _ _ _ _ q=>ge_int q
theorem aea:OpR X (compareOp .Is) (fun x y H Q=>y=.non∧Q (.bl (decide (x=.non))) H):=by
 intro pins s σ H x y v u Q I rx ry h
 obtain⟨rfl,q⟩:=h
 cases ry
 refine is_none_gen (ab3 I q ?_)
 cases x<;>first
  |(cases rx;rfl)
  |(obtain⟨t,rfl⟩:=rx;rfl)
theorem ace:OpR X (compareOp .IsNot) (fun x y H Q=>y=.non∧Q (.bl (!decide (x=.non))) H):=by
 intro pins s σ H x y v u Q I rx ry h
 obtain⟨rfl,q⟩:=h
 cases ry
 refine isnot_none_gen (ab3 I q ?_)
 cases x<;>first
  |(cases rx;rfl)
  |(obtain⟨t,rfl⟩:=rx;rfl)
theorem nomark (b:Expr) {op:CmpOp} (h:op≠.In:=by decide) (h2:op≠.NotIn:=by decide):behindInMarks op b=false:=by
 have e1:(op == CmpOp.In)=false:=by cases op<;>first|rfl|exact absurd rfl h
 have e2:(op == CmpOp.NotIn)=false:=by cases op<;>first|rfl|exact absurd rfl h2
 cases b<;>simp[behindInMarks,e1,e2]
theorem ac0 {op:CmpOp} {r:R2} (ho:OpR X (compareOp op) r) (ha:PE X a ta) (hb:PE X b tb) (hm:behindInMarks op b=false):PE X (.Compare a [op] [b] pos) (tOp r ta tb):=by
 intro pins s σ H Q I h
 exact wpAny_Compare1 (binT ha hb I h fun v u s2 x y H2 I2 rx ry q=>ho pins s2 σ H2 x y v u Q I2 rx ry q) hm
noncomputable def tTest (t:TE):TT:=fun σ H Q=>t σ H fun x H'=>∃k,x=.bl k∧Q k H'
theorem aao {op:CmpOp} {r:R2} (ho:OpR X (compareOp op) r) (ha:PE X a ta) (hb:PE X b tb) (hm:behindInMarks op b=false):PT X (.Compare a [op] [b] pos) (tTest (tOp r ta tb)):=by
 intro pins s σ H Q I h
 refine wpAny_isTrue_Compare1 (thn (ha pins s σ H _ I h) fun v s1 ⟨x,H1,I1,r1,q1⟩=>thn (hb pins s1 σ H1 _ I1 q1) fun u s2 ⟨y,H2,I2,r2,q2⟩=>
  thn (ho pins s2 σ H2 x y v u _ I2 r1 r2 q2) fun c s3 ⟨z,H3,I3,r3,k,e,q3⟩=>?_) hm
 subst e
 cases r3
 exact wpAny_truthy_bool ⟨H3,I3,q3⟩
noncomputable def TruV (K:PySem.W.Frag) (x:V) (H:Hp) (k:Bool):Prop:=
 match x with
 |.non=>k=false
 |.bl b=>k=b
 |.int i=>k=(i != 0)
 |.str y=>y.length≤sizeLine∧k=((y.length:Int) != 0)
 |.byt y=>y.size≤sizeLine∧k=((y.size:Int) != 0)
 |.ref p=>(∃xs,SqL K H p xs∧k= !xs.isEmpty)∨(∃xs,SqT K H p xs∧k= !xs.isEmpty)∨∃kvs,H p=some (.dK kvs)∧k= !kvs.isEmpty
 |_=>False
theorem line63:(sizeLine:Nat) < 2 ^ 63:=by rw[sizeLine_eq];decide
theorem vals1 {x:V} {us:List Value} (r:Vals [x] us):∃u,us=[u]∧RelV x u:=by
 cases r with
 |cons r1 r2=>cases r2;exact⟨_,rfl,r1⟩
theorem aex:CallR X (.type "int") (fun xs H Q=>(∃i,xs=[.int i]∧Q (.int i) H)∨∃k,xs=[.bl k]∧Q (.int (if k then 1 else 0)) H):=by
 intro pins s σ H xs us Q I r h
 rcases h with ⟨i,rfl,q⟩|⟨k,rfl,q⟩
 ·obtain⟨u,rfl,t,rfl⟩:=vals1 r
  exact call_int_int ⟨.int i,H,I,⟨_,rfl⟩,q⟩
 ·obtain⟨u,rfl,r1⟩:=vals1 r
  cases r1
  exact call_int_bool ⟨.int (if k then 1 else 0),H,I.tok _,⟨_,rfl⟩,q⟩
noncomputable def LenV (K:PySem.W.Frag) (x:V) (H:Hp) (n:Nat):Prop:=
 match x with
 |.str y=>y.length≤sizeLine∧n=y.length
 |.byt y=>y.size≤sizeLine∧n=y.size
 |.ref p=>(∃xs,SqL K H p xs∧n=xs.length)∨∃xs,SqT K H p xs∧n=xs.length
 |_=>False
theorem aa2:CallR X (.builtin "len") (fun xs H Q=>∃x n,xs=[x]∧LenV X.K x H n∧Q (.int n) H):=by
 intro pins s σ H xs us Q I r h
 obtain⟨x,n,rfl,e,q⟩:=h
 obtain⟨u,rfl,rx⟩:=vals1 r
 have hl:=line63
 have hs:sizeLine=16777216:=sizeLine_eq
 cases x with
 |str y=>
  obtain⟨t,rfl⟩:=rx
  obtain⟨hy,e'⟩:y.length≤sizeLine∧n=y.length:=e
  subst e'
  exact len_str (by omega) ⟨.int _,H,I.tok _,⟨_,rfl⟩,q⟩
 |byt y=>
  obtain⟨t,rfl⟩:=rx
  obtain⟨hy,e'⟩:y.size≤sizeLine∧n=y.size:=e
  subst e'
  exact PySem.W.len_bytes (by omega) ⟨.int _,H,I.tok _,⟨_,rfl⟩,q⟩
 |ref p=>
  cases rx
  have e':(∃xs,SqL X.K H p xs∧n=xs.length)∨∃xs,SqT X.K H p xs∧n=xs.length:=e
  rcases e' with ⟨xs,hx,e'⟩|⟨xs,hx,e'⟩
  ·subst e'
   obtain⟨its,r',pl,hz⟩:=I.list hx
   have hlen:=r'.length
   exact Calls.call_len_list pl.isList (by simp only[List.size_toArray];omega) ⟨.int xs.length,H,I.tok _,⟨_,by simp only[List.size_toArray];rw[hlen]⟩,q⟩
  ·subst e'
   obtain⟨its,r',pl,hz⟩:=I.tuple hx
   have hlen:=r'.length
   exact len_tuple pl (by simp only[List.size_toArray];omega) ⟨.int xs.length,H,I.tok _,⟨_,by simp only[List.size_toArray];rw[hlen]⟩,q⟩
 |_=>exact (show False from e).elim
end
end L2
namespace L2
open PySem PySem.Spec PyProof.Rows
structure ObjM (h:Heap) (x dx C:Addr) (mA:Str→Option Value):Prop where
 obj:h.get? x=some (PySem.W.instObj C dx)
 ns:h.Ns1 dx mA
 ne:dx≠x
theorem ak9 {h:Heap} {dx:Addr} {mA:Str→Option Value} (n:h.Ns1 dx mA):∃od,h.get? dx=some od∧∀name,PySem.W.lookIn name od=some (mA name):=by
 obtain⟨o,es,ep,ho,hd,hk,_,hm⟩:=n
 refine⟨o,ho,fun name=>?_⟩
 have e:=hm name
 unfold nsFind findBy at e
 rw[←Array.find?_toList] at e
 unfold PySem.W.lookIn
 rw[hd]
 dsimp only
 split
 ·rename_i y q
  rw[q] at e
  exact congrArg some e
 ·rename_i q
  rw[q] at e
  have a:es.toList.any (·.refKey)=false:=by
   rw[List.any_eq_false]
   intro y hy
   obtain⟨z,t,hkey⟩:=hk y (Array.mem_toList_iff.mp hy)
   simp[DictEntry.refKey,hkey]
  have a':¬es.toList.any (·.refKey)=true:=by rw[a];exact Bool.false_ne_true
  rw[if_neg a']
  exact congrArg some e
theorem ObjM.look {h:Heap} {x dx C:Addr} {mA:Str→Option Value} (I:ObjM h x dx C mA):∃od,PySem.W.InstAt h x (PySem.W.instObj C dx) C (some od)∧∀name,PySem.W.lookIn name od=some (mA name):=
 let ⟨od,ho,hl⟩:=ak9 I.ns
 ⟨od,⟨I.obj,rfl,rfl,ho⟩,hl⟩
section
variable {prog:Program} {w:World} {A:Around} {E:Value→Shared→Prop} {s:Shared} {K:PySem.W.Frag} {x dx C f:Addr} {mA:Str→Option Value} {name:Str} {v:Value}
theorem apo {expr:Bool} {Q:Value→Shared→Prop} (X:K.In s.heap) (I:ObjM s.heap x dx C mA) (hg:PySem.W.plainGet K C name=true) (hh:PySem.W.hasDictIn K C=true)
  (ha:PySem.W.findIn K (.ref C) name=some none) (hv:mA name=some v) (hv':PySem.W.handedIn v=true) (h:Q v {s with toks:=s.toks+1}):
  wpAny (model prog w) A (getAttr (.ref x) name expr) Q E s:=by
 obtain⟨od,J,hl⟩:=I.look
 exact PySem.W.get_value X J (PySem.W.plainGet_of hg).1 (PySem.W.findObj_own hh ha rfl (by rw[hl,hv])) hv' h
theorem anc {pl:Sem Bool} {Q:Value×List Value→Shared→Prop} (X:K.In s.heap) (I:ObjM s.heap x dx C mA) (hg:PySem.W.plainGet K C name=true)
  (hf:PySem.W.findIn K (.ref C) name=some (some (.ref f))) (ht:PySem.W.isFn K (.ref f)=true) (hv:mA name=none) (h:Q (.ref f,[.ref x]) s):
  wpAny (model prog w) A (getMethod (.ref x) name pl) Q E s:=by
 obtain⟨od,J,hl⟩:=I.look
 exact PySem.W.method_fn X J (PySem.W.plainGet_of hg).1 (PySem.W.plainGet_of hg).2 hf (beq_iff_eq.mp ht) (by show (PySem.W.lookIn name od).map (·.isSome)=some false;rw[hl,hv];rfl) h
theorem app {ns:List Str} {Q:Unit→Shared→Prop} (X:K.In s.heap) (I:ObjM s.heap x dx C mA)
  (hs:PySem.W.findIn K (.ref C) "__setattr__"=some (some (.builtin "object.__setattr__"))) (hp:PySem.W.plainOver K C=true) (ht:PySem.W.takerIn K C name=some none) (hh:PySem.W.hasDictIn K C=true)
  (hw:PySem.Within mA ns) (hsz:ns.length≤sizeLine)
  (h:∀h',ObjM h' x dx C (fun y=>if y=name then some v else mA y)→Heap.SameBut dx s.heap h'→Q () {s with heap:=h',toks:=s.toks+2}):
  wpAny (model prog w) A (setAttr (.ref x) name v) Q E s:=by
 obtain⟨od,J,hl⟩:=I.look
 refine PySem.W.set_plain X J hs (PySem.W.osa_open (s:={s with toks:=s.toks+1}) (r:=none) X J hp ht fun b=>?_)
 obtain⟨cd,hc,hd'⟩:=PySem.W.any_some hh
 have hx:s.heap.get? x=some ⟨.ref C,some dx,.plain, #[]⟩:=I.obj
 refine wpAny_bind (wpAny_pure (wpAny_bind (wpAny_bind (wpAny_loadPart hx (wpAny_bind (PySem.W.Looks.here (s:={s with toks:=s.toks+1}) (PySem.W.looks_clsIn X hc) ?_))))))
 rw[hd']
 refine wpAny_pure (a:=some dx) (wpAny_bind (wpAny_pure (wpAny_bind ?_)))
 refine wpAny_nsSet1 (s:={s with toks:=s.toks+1}) I.ns fun h' hn2 hs2=>?_
 obtain⟨oD,esD,epD,hoD,hdD,hcD⟩:=hn2.count (PySem.Within.cons name v hw)
 refine wpAny_bind (wpAny_lookBehind hoD (by rw[hdD];exact pastItsLine_dict (Nat.le_trans hcD (by rw[List.length_cons];omega))) ?_)
 exact wpAny_pure (h _ ⟨(hs2.2 _ (Ne.symm I.ne)).trans I.obj,hn2,I.ne⟩ hs2)
theorem ane {R:Result→Shared→Prop} {vs:List Value} {kw:List (Str×Value)} (X:K.In s.heap) (hm:PySem.W.makesIn K C=true)
  (hi:PySem.W.findIn K (.ref C) "__init__"=some (some (.ref f))) (hf:PySem.W.typeIn K (.ref f)=some (.type "function"))
  (h:codeAny (model prog w) (A.under (.builtin "type.__call__" ⟨.ref C::vs,kw⟩)) (.call (.ref f) ⟨.ref (s.heap.objs.size+1)::vs,kw⟩) (PySem.W.InitBack (s.heap.objs.size+1) R)
   {s with heap:=(s.heap.push PySem.W.emptyDict).push (PySem.W.instObj C s.heap.objs.size)}):
  codeAny (model prog w) A (.call (.ref C) ⟨vs,kw⟩) R s:=by
 obtain⟨hh,g,d,t,os⟩:=s
 exact PySem.W.make_core (PySem.W.makes_of X hm) (PySem.W.looks_findIn X hi) (fun self=>PySem.W.bind_fn X self hf) (.inl rfl) h
end
noncomputable def putF (f:Str) (v:V):List (Str×V)→List (Str×V)
 |[]=>[(f,v)]
 |(g,x)::r=>if g=f then (g,v)::r else (g,x)::putF f v r
theorem adw (f g:Str) (v:V):∀fs:List (Str×V),(putF f v fs).lookup g=if g=f then some v else fs.lookup g
 |[]=>by
  show List.lookup g [(f,v)]=_
  by_cases h:g=f
  ·have hb:(g == f)=true:=beq_iff_eq.mpr h
   simp only[List.lookup,hb,if_pos h]
  ·have hb:(g == f)=false:=beq_eq_false_iff_ne.mpr h
   simp only[List.lookup,hb,if_neg h]
 |(k,x)::r=>by
  have ih:=adw f g v r
  rw[show putF f v ((k,x)::r)=(if k=f then (k,v)::r else (k,x)::putF f v r) from rfl]
  by_cases hk:k=f
  ·rw[if_pos hk]
   by_cases h:g=k
   ·have hb:(g == k)=true:=beq_iff_eq.mpr h
    simp only[List.lookup,hb,if_pos (h.trans hk)]
   ·have hb:(g == k)=false:=beq_eq_false_iff_ne.mpr h
    simp only[List.lookup,hb,if_neg (fun e:g=f=>h (e.trans hk.symm))]
  ·rw[if_neg hk]
   by_cases h:g=k
   ·have hb:(g == k)=true:=beq_iff_eq.mpr h
    simp only[List.lookup,hb,if_neg (fun e:g=f=>hk (h.symm.trans e))]
   ·have hb:(g == k)=false:=beq_eq_false_iff_ne.mpr h
    simp only[List.lookup,hb]
    exact ih
theorem agm (f:Str) (v:V):∀fs:List (Str×V),f∈(putF f v fs).map (·.1)∧∀g,g∈fs.map (·.1)→g∈(putF f v fs).map (·.1)
 |[]=>⟨by simp[putF],fun g h=>by simp at h⟩
 |(k,x)::r=>by
  obtain⟨i1,i2⟩:=agm f v r
  rw[show putF f v ((k,x)::r)=(if k=f then (k,v)::r else (k,x)::putF f v r) from rfl]
  by_cases hk:k=f
  ·rw[if_pos hk]
   subst hk
   exact⟨by simp,fun g h=>by simpa using h⟩
  ·rw[if_neg hk]
   refine⟨?_,fun g h=>?_⟩
   ·rw[List.map_cons]
    exact List.mem_cons_of_mem _ i1
   ·rw[List.map_cons] at h ⊢
    rcases List.mem_cons.mp h with e|e
    ·exact List.mem_cons.mpr (.inl e)
    ·exact List.mem_cons_of_mem _ (i2 g e)
theorem agn (f:Str) (v:V):∀fs:List (Str×V),(putF f v fs).length≤fs.length+1
 |[]=>by simp[putF]
 |(k,x)::r=>by
  have ih:=agn f v r
  rw[show putF f v ((k,x)::r)=(if k=f then (k,v)::r else (k,x)::putF f v r) from rfl]
  by_cases hk:k=f
  ·rw[if_pos hk,List.length_cons,List.length_cons];omega
  ·rw[if_neg hk,List.length_cons,List.length_cons];omega
theorem RelO.some_of {v:V} {o:Option Value} (r:RelO (some v) o):∃u,o=some u∧RelV v u:=by
 cases o with
 |none=>exact (show False from r).elim
 |some u=>exact⟨u,rfl,r⟩
theorem RelO.none_of {o:Option Value} (r:RelO none o):o=none:=by
 cases o with
 |none=>rfl
 |some u=>exact (show False from r).elim
theorem ala {v:V} {u:Value} (r:RelV v u):PySem.W.handedIn u=true:=by
 cases v with
 |non=>cases (show u=Value.none from r);rfl
 |bl b=>cases (show u=Value.bool b from r);rfl
 |int i=>obtain⟨t,e⟩:=(show ∃t,u=Value.int i t from r);cases e;rfl
 |str x=>obtain⟨t,e⟩:=(show ∃t,u=Value.str x t from r);cases e;rfl
 |byt b=>obtain⟨t,e⟩:=(show ∃t,u=Value.bytes b t from r);cases e;rfl
 |flt b=>obtain⟨t,e⟩:=(show ∃t,u=Value.float b t from r);cases e;rfl
 |ref a=>cases (show u=Value.ref a from r);rfl
 |ty n=>cases (show u=Value.type n from r);rfl
section
variable {P:Program} {w:World} {H H':Hp} {h h':Heap} {a C dx:Addr} {fs fs':List (Str×V)}
theorem ahl (hok:HOk P w H h) (e:H a=some (.ins C dx fs)):∃mA,ObjM h a dx C mA∧(∀f,RelO (fs.lookup f) (mA f))∧PySem.Within mA (fs.map (·.1))∧fs.length≤1000∧H dx=some (.own a):=by
 obtain⟨d,z,ne,ob,mA,n,r,q⟩:=(show ObjOk P w H h a (.ins C dx fs) from hok a _ e)
 exact⟨mA,⟨ob,n,ne⟩,r,q,z,d⟩
end
structure Cls (K:PySem.W.Frag) (C:Addr):Prop where
 pg:PySem.W.plainGet K C Str.empty=true
 hd:PySem.W.hasDictIn K C=true
 po:PySem.W.plainOver K C=true
 sa:PySem.W.findIn K (.ref C) "__setattr__"=some (some (.builtin "object.__setattr__"))
theorem Cls.get {K:PySem.W.Frag} {C:Addr} (c:Cls K C) (f:Str):PySem.W.plainGet K C f=true:=c.pg
noncomputable def NoAttr (K:PySem.W.Frag) (C:Addr) (f:Str):Prop:=PySem.W.findIn K (.ref C) f=some none
theorem NoAttr.taker {K:PySem.W.Frag} {C:Addr} {f:Str} (n:NoAttr K C f):PySem.W.takerIn K C f=some none:=by
 unfold PySem.W.takerIn
 rw[show PySem.W.findIn K (.ref C) f=some none from n]
 rfl
structure Meth (K:PySem.W.Frag) (C:Addr) (m:Str) (f:Addr):Prop where
 at_:PySem.W.findIn K (.ref C) m=some (some (.ref f))
 fn:PySem.W.isFn K (.ref f)=true
 kp:PySem.W.keepIn K (.ref f)=true
section
variable {X:Cx} {pins:List (Addr×Obj)} {σ:St} {H:Hp} {s:Shared} {a C dx:Addr} {fs:List (Str×V)} {f:Str} {v:V} {A:Around} {E:Value→Shared→Prop}
theorem akj {b:Bool} {Q:Value→Shared→Prop} (I:Inv X pins σ H s) (e:H a=some (.ins C dx fs)) (c:Cls X.K C) (n:NoAttr X.K C f) (l:fs.lookup f=some v)
  (h:∀u s',Inv X pins σ H s'→RelV v u→Q u s'):wpAny (model X.prog X.w) A (getAttr (.ref a) f b) Q E s:=by
 obtain⟨mA,O,r,_,_,_⟩:=ahl I.hok e
 obtain⟨u,hu,ru⟩:=RelO.some_of (v:=v) (o:=mA f) (by rw[←l];exact r f)
 exact apo I.kIn O (c.get f) c.hd n hu (ala ru) (h u _ (I.tok _) ru)
theorem ag8 {m:Str} {g:Addr} {pl:Sem Bool} {Q:Value×List Value→Shared→Prop} (I:Inv X pins σ H s) (e:H a=some (.ins C dx fs)) (c:Cls X.K C) (k:Meth X.K C m g) (l:fs.lookup m=none)
  (h:Q (.ref g,[.ref a]) s):wpAny (model X.prog X.w) A (getMethod (.ref a) m pl) Q E s:=by
 obtain⟨mA,O,r,_,_,_⟩:=ahl I.hok e
 have hn:mA m=none:=RelO.none_of (by rw[←l];exact r m)
 exact anc I.kIn O (c.get m) k.at_ k.fn hn h
theorem akk {y:V} {u:Value} {Q:Unit→Shared→Prop} (I:Inv X pins σ H s) (e:H a=some (.ins C dx fs)) (c:Cls X.K C) (n:NoAttr X.K C f) (hl:fs.length < 1000) (ry:RelV y u)
  (h:∀s',Inv X pins σ (upd H a (.ins C dx (putF f y fs))) s'→Q () s'):wpAny (model X.prog X.w) A (setAttr (.ref a) f u) Q E s:=by
 obtain⟨mA,O,r,wi,_,ho⟩:=ahl I.hok e
 have hz:(fs.map (·.1)).length≤sizeLine:=by rw[List.length_map,sizeLine_eq];omega
 refine app I.kIn O c.sa c.po n.taker c.hd wi hz fun h' O' sb=>h _ ?_
 have hd:∃o,h'.get? dx=some o:=let ⟨o,_,_,e',_⟩:=O'.ns;⟨o,e'⟩
 refine I.write (x:=a) (e:=dx) (by rw[e];exact True.intro) (.inr ho) (fun b q hb z=>(sb.2 b hb).trans z) hd ?_
 refine⟨by rw[aaf O.ne];exact ho,?_,O.ne,O'.obj,_,O'.ns,fun g=>?_,fun g hg=>?_⟩
 ·have:=agn f y fs;omega
 ·show RelO ((putF f y fs).lookup g) (if g=f then some u else mA g)
  rw[adw]
  by_cases q:g=f
  ·rw[if_pos q,if_pos q];exact ry
  ·rw[if_neg q,if_neg q];exact r g
 ·by_cases q:g=f
  ·rw[q];exact (agm f y fs).1
  ·refine (agm f y fs).2 g (wi g fun z=>hg ?_)
   show (if g=f then some u else mA g)=none
   rw[if_neg q];exact z
theorem Inv.made (I:Inv X pins σ H s):Inv X pins σ (upd (upd H s.heap.objs.size (.own (s.heap.objs.size+1))) (s.heap.objs.size+1) (.ins C s.heap.objs.size []))
  {s with heap:=(s.heap.push PySem.W.emptyDict).push (PySem.W.instObj C s.heap.objs.size)}:=by
 have e1:(s.heap.push PySem.W.emptyDict).get? s.heap.objs.size=some PySem.W.emptyDict:=Heap.get?_push_size s.heap rfl
 have e2:((s.heap.push PySem.W.emptyDict).push (PySem.W.instObj C s.heap.objs.size)).get? (s.heap.objs.size+1)=some (PySem.W.instObj C s.heap.objs.size):=by
  have:=Heap.get?_push_size (s.heap.push PySem.W.emptyDict) (o:=PySem.W.instObj C s.heap.objs.size) rfl
  rwa[Heap.size_push] at this
 have e3:(s.heap.push PySem.W.emptyDict).Ns s.heap.objs.size (fun _=>none):=⟨PySem.W.emptyDict, #[],_,e1,rfl,(fun e he=>absurd he (by simp)),fun _=>rfl⟩
 have I1:=I.laid (a:=s.heap.objs.size) (o:=.own (s.heap.objs.size+1)) (h':=s.heap.push PySem.W.emptyDict) (t':=s.toks) (fun b u q=>Heap.get?_push_of_some _ q) (Nat.le_refl _) ⟨_,e1⟩
 refine I1.laid (a:=s.heap.objs.size+1) (o:=.ins C s.heap.objs.size []) (t':=s.toks) (fun b u q=>Heap.get?_push_of_some _ q) (Nat.le_of_eq (Heap.size_push _ _)) ?_
 have ne:s.heap.objs.size≠s.heap.objs.size+1:=Nat.ne_of_lt (Nat.lt_succ_self _)
 refine⟨by rw[aaf ne,aah],Nat.zero_le _,ne,e2,fun _=>none,(Heap.Ns1.of_empty e3).at fun o q=>Heap.get?_push_of_some _ q,fun _=>True.intro,fun y hy=>absurd rfl hy⟩
theorem apq {prog:Program} {w:World} {env:Env} {e:Expr} {f:Str} {pos:Pos} {s:Shared} {Q:Value→Shared→Prop} (hb:attributeBase e f env (eval e env)=eval e env)
  (h:wpAny (model prog w) A (eval e env) (fun o s₁=>wpAny (model prog w) A (getAttr o f true) Q E s₁) E s):wpAny (model prog w) A (eval (.Attribute e f pos) env) Q E s:=
 Attribute_any_ h (by rw[arm_eval_Attribute,hb])
end
noncomputable def tFld (K:PySem.W.Frag) (ta:TE) (f:Str):TE:=fun σ H Q=>ta σ H fun x H1=>∃a C dx fs v,x=.ref a∧H1 a=some (.ins C dx fs)∧Cls K C∧NoAttr K C f∧fs.lookup f=some v∧Q v H1
noncomputable def sFld (K:PySem.W.Frag) (ta tv:TE) (f:Str):TS:=fun D σ H=>tv σ H fun y H1=>ta σ H1 fun x H2=>∃a C dx fs,x=.ref a∧H2 a=some (.ins C dx fs)∧Cls K C∧NoAttr K C f∧fs.length < 1000∧
 D.nx σ (upd H2 a (.ins C dx (putF f y fs)))
section
variable {X:Cx} {o e value:Expr} {f:Str} {pos pos' tpos:Pos} {ta tv:TE}
theorem aaq (he:PE X e ta) (hb:attributeBase e f X.env (eval e X.env)=eval e X.env):PE X (.Attribute e f pos) (tFld X.K ta f):=by
 intro pins s σ H Q I h
 refine apq hb (thn (he pins s σ H _ I h) fun u s1 ⟨x,H1,I1,rx,a,C,dx,fs,v,ex,ea,c,n,l,q⟩=>?_)
 subst ex
 obtain rfl:u=Value.ref a:=rx
 exact akj I1 ea c n l fun u' s2 I2 ru=>⟨v,H1,I2,ru,q⟩
theorem adx (ha:PE X o ta) (hv:PE X value tv) (hs:swapsWith value (some (.Attribute o f pos')) pos.line X.env=pure false):PS X (.Assign [.Attribute o f pos'] value pos) (sFld X.K ta tv f):=by
 intro pins s σ H D I h
 refine plainObj_wpAny_Assign_Attribute (thn (hv pins s σ H _ I h) fun u s1 ⟨y,H1,I1,ry,q⟩=>thn (ha pins s1 σ H1 _ I1 q) fun ov s2 ⟨x,H2,I2,rx,a,C,dx,fs,ex,ea,c,n,l,q2⟩=>?_) hs
 subst ex
 obtain rfl:ov=Value.ref a:=rx
 exact akk I2 ea c n l ry fun s3 I3=>⟨σ,_,I3,q2⟩
end
section
variable {X:Cx} {pins:List (Addr×Obj)} {σ:St} {H:Hp} {s:Shared} {A:Around} {E:Value→Shared→Prop} {Q:Value→Shared→Prop} {c:Value} {b:Bool}
inductive TyOf (K:PySem.W.Frag) (H:Hp):V→Value→Prop where
 |non:TyOf K H .non (.type "NoneType")
 |bl (x:Bool):TyOf K H (.bl x) (.type "bool")
 |int (i:Int):TyOf K H (.int i) (.type "int")
 |str (x:Str):TyOf K H (.str x) (.type "str")
 |flt (x:UInt64):TyOf K H (.flt x) (.type "float")
 |lst {a:Addr} {xs:List V} (e:H a=some (.lst xs)):TyOf K H (.ref a) (.type "list")
 |frz {a:Addr} {o:Obj} {xs:List V} (e:H a=some (.frz o (.lst xs))):TyOf K H (.ref a) (.type "list")
 |tup {a:Addr} {xs:List V} (e:H a=some (.tup xs)):TyOf K H (.ref a) (.type "tuple")
 |dK {a:Addr} {kvs:List (Key×V)} (e:H a=some (.dK kvs)):TyOf K H (.ref a) (.type "dict")
 |dT {a:Addr} {kvs:List (List Key×V)} (e:H a=some (.dT kvs)):TyOf K H (.ref a) (.type "dict")
 |ins {a C dx:Addr} {fs:List (Str×V)} (e:H a=some (.ins C dx fs)) (cl:Cls K C) (ha:PySem.W.findIn K (.ref C) "__class__"=some (some (.builtin "object.__class__")))
  (hn:PySem.W.specialIn K (.builtin "object.__class__") "__get__"=some (some (.builtin "getset_descriptor.__get__"))) (htk:PySem.W.takesIn K (.builtin "object.__class__")=some true)
  (hm:PySem.W.mroIn K C (.type "object")=some true):TyOf K H (.ref a) (.ref C)
theorem alb {x:V} {u t:Value} (I:Inv X pins σ H s) (rx:RelV x u) (ty:TyOf X.K H x t) (e:PySem.W.kitOne X.K t c=some b) (h:∀tk,Q (.bool b) {s with toks:=tk}):
  wpAny (model X.prog X.w) A (call (.builtin "isinstance") [u,c]) Q E s:=by
 cases ty with
 |non=>cases (show u=Value.none from rx);exact PySem.W.kia_one PySem.W.kitx_none I.kIn True.intro e (fun z=>nomatch z) h
 |bl y=>cases (show u=Value.bool y from rx);exact PySem.W.kia_one PySem.W.kitx_bool I.kIn True.intro e (fun z=>nomatch z) h
 |int i=>obtain⟨t,q⟩:=(show ∃t,u=Value.int i t from rx);cases q;exact PySem.W.kia_one PySem.W.kitx_int I.kIn True.intro e (fun z=>nomatch z) h
 |str y=>obtain⟨t,q⟩:=(show ∃t,u=Value.str y t from rx);cases q;exact PySem.W.kia_one PySem.W.kitx_str I.kIn True.intro e (fun z=>nomatch z) h
 |flt y=>obtain⟨t,q⟩:=(show ∃t,u=Value.float y t from rx);cases q;exact PySem.W.kia_one PySem.W.kitx_float I.kIn True.intro e (fun z=>nomatch z) h
 |@lst a xs ea=>
  cases (show u=Value.ref a from rx)
  obtain⟨_,_,n,_,h1⟩:=(show ObjOk X.prog X.w H s.heap a (.lst xs) from I.hok a _ ea)
  exact PySem.W.kia_one PySem.W.kitx_list I.kIn ⟨_,h1,rfl⟩ e (fun z=>nomatch z) h
 |@frz a ob xs ea=>
  cases (show u=Value.ref a from rx)
  obtain⟨_,_,_,n,_,h1⟩:=(show ObjOk X.prog X.w H s.heap a (.frz ob (.lst xs)) from I.hok a _ ea)
  exact PySem.W.kia_one PySem.W.kitx_list I.kIn ⟨_,h1,rfl⟩ e (fun z=>nomatch z) h
 |@tup a xs ea=>
  cases (show u=Value.ref a from rx)
  obtain⟨_,_,_,p⟩:=(show ObjOk X.prog X.w H s.heap a (.tup xs) from I.hok a _ ea)
  obtain⟨o,h1,h2,_⟩:=p
  exact PySem.W.kia_one PySem.W.kitx_tuple I.kIn ⟨o,h1,h2⟩ e (fun z=>nomatch z) h
 |@dK a kvs ea=>
  cases (show u=Value.ref a from rx)
  obtain⟨_,_,vs,_,p⟩:=(show ObjOk X.prog X.w H s.heap a (.dK kvs) from I.hok a _ ea)
  obtain⟨o,es,ep,h1,h2,_⟩:=p
  exact PySem.W.kia_one PySem.W.kitx_dict I.kIn ⟨o,h1,h2.1⟩ e (fun z=>nomatch z) h
 |@dT a kvs ea=>
  cases (show u=Value.ref a from rx)
  obtain⟨_,_,xs,_,o,es,ep,h1,h2,_⟩:=(show ObjOk X.prog X.w H s.heap a (.dT kvs) from I.hok a _ ea)
  exact PySem.W.kia_one PySem.W.kitx_dict I.kIn ⟨o,h1,h2.1⟩ e (fun z=>nomatch z) h
 |@ins a C dx fs ea cl ha hn htk hm=>
  cases (show u=Value.ref a from rx)
  obtain⟨mA,O,_⟩:=ahl I.hok ea
  obtain⟨od,J,_⟩:=O.look
  exact PySem.W.kia_one (PySem.W.kitx_own (cl.get _) cl.hd ha hn htk hm) I.kIn J e (fun z=>nomatch z) h
end
end L2
namespace L2
open PySem PySem.Spec PyProof.Rows
structure Room (k:Nat) (A:Around):Prop where
 hd:A.handled=none
 dp:A.depth+3 * k+5 < recursionLimit
 un:A.units+16 * k+200 < cLine
theorem Room.mono {j k:Nat} {A:Around} (r:Room k A) (h:j≤k):Room j A:=⟨r.hd,by have:=r.dp;omega,by have:=r.un;omega⟩
theorem Room.deeper {k:Nat} {A:Around} (r:Room (k+1) A) (env:Env):Room k (A.deeper env):=
 ⟨r.hd,by have:=r.dp;show A.depth+1+3 * k+5 < _;omega,by have:=r.un;show A.units+3+16 * k+200 < _;omega⟩
theorem akl {A:Around} {C:Addr} {us:List Value} {kw:List (Str×Value)}:(A.under (.builtin "type.__call__" ⟨.ref C::us,kw⟩)).depth=A.depth+1:=by
 first|rfl|simp[Around.under,Code.weight,Code.isCreation,Code.isGuard,Code.isCaller,Code.frames,Code.isFrame,guardIds]
theorem akm {A:Around} {C:Addr} {us:List Value} {kw:List (Str×Value)}:(A.under (.builtin "type.__call__" ⟨.ref C::us,kw⟩)).units=A.units+1:=by
 first|rfl|simp[Around.under,Code.cUnits,Code.frames,Code.isFrame]
theorem Room.make {k:Nat} {A:Around} (r:Room (k+1) A) (C:Addr) (us:List Value) (kw:List (Str×Value)):Room k (A.under (.builtin "type.__call__" ⟨.ref C::us,kw⟩)):=
 ⟨r.hd,by have:=r.dp;rw[akl];omega,by have:=r.un;rw[akm];omega⟩
theorem Room.depth {k:Nat} {A:Around} (r:Room k A):A.depth < recursionLimit:=by have:=r.dp;omega
theorem Room.units {k:Nat} {A:Around} (r:Room k A):A.units+64 < cLine:=by have:=r.un;omega
noncomputable def tNil:TA:=fun _ H Q=>Q [] H
noncomputable def tCons (ta:TE) (tr:TA):TA:=fun σ H Q=>ta σ H fun x H1=>tr σ H1 fun xs H2=>Q (x::xs) H2
section
variable {X:Cx} {e:Expr} {es:List Expr} {te:TE} {t:TA} {pos:Pos}
theorem aad:PA X [] tNil:=fun _ _ _ _ H Q I h=>Calls.spliced_nil ⟨[],H,I,.nil,h⟩
theorem aaa (ha:PE X e te) (hr:PA X es t) (hs:starEach (e::es) X.env=(false,eval e X.env)::starEach es X.env:=by rfl):PA X (e::es) (tCons te t):=by
 intro pos pins s σ H Q I h
 rw[hs]
 show wpAny _ _ (spliced ((false,eval e X.env)::backTo pos (starEach es X.env))) _ _ s
 refine Calls.spliced_cons (thn (ha pins s σ H _ I h) fun u s1 ⟨x,H1,I1,r1,q1⟩=>?_)
 exact thn (hr pos pins s1 σ H1 _ I1 q1) fun us s2 ⟨xs,H2,I2,r2,q2⟩=>⟨x::xs,H2,I2,.cons r1 r2,q2⟩
noncomputable def tTup (t:TA):TE:=fun σ H Q=>t σ H fun xs H1=>xs.length≤sizeLine∧∀p,H1 p=none→Q (.ref p) (upd H1 p (.tup xs))
noncomputable def tLst (t:TA):TE:=fun σ H Q=>t σ H fun xs H1=>xs.length≤sizeLine∧∀p,H1 p=none→Q (.ref p) (upd H1 p (.lst xs))
theorem ac7 {x1} (h:PA X es t):PE X (.Tuple es x1 pos) (tTup t):=by
 intro pins s σ H Q I hq
 refine wpAny_Tuple_spliced (thn (h pos pins s σ H _ I hq) fun us s1 ⟨xs,H1,I1,r,z,q⟩=>⟨by rw[←r.length];exact z,?_⟩)
 have hf:H1 s1.heap.objs.size=none:=I1.hok.fresh (Nat.le_refl _)
 refine⟨.ref s1.heap.objs.size,upd H1 s1.heap.objs.size (.tup xs),I1.laid (t':=s1.toks) (fun b u e=>Heap.get?_push_of_some _ e) (Nat.le_refl _) ?_,rfl,q _ hf⟩
 exact⟨z,us,r,⟨_,Heap.get?_push_size _ rfl,rfl,_,rfl⟩⟩
theorem aco (h:PA X es t):PE X (.List es pos) (tLst t):=by
 intro pins s σ H Q I hq
 refine wpAny_List_spliced (thn (h pos pins s σ H _ I hq) fun us s1 ⟨xs,H1,I1,r,z,q⟩=>⟨by rw[←r.length];exact z,?_⟩)
 have hf:H1 s1.heap.objs.size=none:=I1.hok.fresh (Nat.le_refl _)
 refine⟨.ref s1.heap.objs.size,upd H1 s1.heap.objs.size (.lst xs),I1.laid (t':=s1.toks) (fun b u e=>Heap.get?_push_of_some _ e) (Nat.le_refl _) ?_,rfl,q _ hf⟩
 exact⟨z,us,0,r,Heap.get?_push_size _ rfl⟩
end
noncomputable abbrev Sp:=List V→Hp→VK→XK→Prop
noncomputable abbrev CXT:=List Env→Hp→Shared→XK→Value→Shared→Prop
structure Env0 (P:Program) (w:World) (K:PySem.W.Frag) (mg:Str→Option Value) (base:Heap) (A:Around) (outer:List Env) (s:Shared) (H:Hp):Prop where
 frames:A.frames=some outer
 mod:Mod K mg base
 bs:∀b o,base.get? b=some o→s.heap.get? b=some o∧H b=none
 bsz:base.objs.size≤s.heap.objs.size
 funs:s.heap.FunFrames base outer
 frf:∀b∈frs outer,H b=none
 hok:HOk P w H s.heap
 bare:AllBare s.gens
noncomputable def CE (outer:List Env) (P:Program) (w:World) (H:Hp) (s:Shared) (Q:VK) (u:Value) (s':Shared):Prop:=
 ∃v H',s'.os=s.os∧AllBare s'.gens∧Un (frs outer) [] H H' s.heap s'.heap∧HOk P w H' s'.heap∧RelV v u∧Q v H'
noncomputable def CR (CX:CXT) (outer:List Env) (P:Program) (w:World) (H:Hp) (s:Shared) (Q:VK) (E:XK) (r:Result) (s':Shared):Prop:=
 match r with
 |.ok (.ret u)=>CE outer P w H s Q u s'
 |.ok _=>False
 |.error e=>CX outer H s E e s'
structure FnOk (P:Program) (w:World) (K:PySem.W.Frag) (mg:Str→Option Value) (base:Heap) (CX:CXT) (k:Nat) (f:Addr) (fd:FuncData) (ps:List Str) (sp:Sp):Prop where
 len:∀vs H Q E,sp vs H Q E→vs.length=ps.length
 run:∀(A:Around) (outer:List Env) (s:Shared) (H:Hp) (args:Args) (us:List Value) (vs:List V) (Q:VK) (E:XK),Room k A→Env0 P w K mg base A outer s H→BindsTo s fd args (ps.zip us)→Vals vs us→sp vs H Q E→
  codeAny (model P w) A (.call (.ref f) args) (CR CX outer P w H s Q E) s
theorem Env0.make {P:Program} {w:World} {K:PySem.W.Frag} {mg:Str→Option Value} {base:Heap} {A:Around} {outer:List Env} {s:Shared} {H:Hp} (e:Env0 P w K mg base A outer s H) (C:Addr) (us:List Value) (kw:List (Str×Value)):
 Env0 P w K mg base (A.under (.builtin "type.__call__" ⟨.ref C::us,kw⟩)) outer s H:=⟨by first|exact e.frames|(simpa[Around.under,Code.envs,Code.isFrame,pushEnvs] using e.frames),e.mod,e.bs,e.bsz,e.funs,e.frf,e.hok,e.bare⟩
section
variable {X:Cx} {pins:List (Addr×Obj)} {σ:St} {H:Hp} {s s':Shared}
theorem Inv.env0 (I:Inv X pins σ H s):Env0 X.prog X.w X.K X.mg X.base X.A X.stack s H:=
 ⟨I.ok.frames,I.ok.mod,I.bs,Nat.le_trans I.ok.bsz I.sz,I.stack,I.stkFree,I.hok,I.bare⟩
theorem Inv.after {Q:VK} {u:Value} (I:Inv X pins σ H s) (h:CE X.stack X.prog X.w H s Q u s'):EP X pins σ Q u s':=by
 obtain⟨v,H',os,bare,un,hok,r,q⟩:=h
 obtain⟨hh,g,d,t,os'⟩:=s'
 obtain rfl:os'=s.os:=os
 exact⟨v,H',I.call (h':=hh) (g':=g) (d':=d) (t':=t) (ch:=[]) un hok bare (fun b z=>absurd z (by simp)),r,q⟩
end
noncomputable def Binds (K:PySem.W.Frag) (fd:FuncData) (ps:List Str) (ds:List Value):Prop:=
 ∀(s:Shared) (us:List Value),K.In s.heap→(us++ds).length=ps.length→BindsTo s fd ⟨us,[]⟩ (ps.zip (us++ds))
theorem Binds.all {K:PySem.W.Frag} {fd:FuncData} {ps:List Str} (h:∀us:List Value,us.length=ps.length→bindArgs fd ⟨us,[]⟩=pure (ps.zip us)):Binds K fd ps []:=fun s us _ hl=>by
 rw[List.append_nil] at hl ⊢
 exact .of_eq (h us hl)
section
variable {X:Cx} {CX:CXT} {k:Nat} {f C:Addr} {fd:FuncData} {ps:List Str} {sp:Sp} {dvs:List V} {ds:List Value} {E:XK} {x m:Str} {p pos apos:Pos} {e o:Expr} {es:List Expr} {ta:TE} {t:TA}
structure Mk (K:PySem.W.Frag) (C f:Addr):Prop where
 makes:PySem.W.makesIn K C=true
 init:PySem.W.findIn K (.ref C) "__init__"=some (some (.ref f))
 fn:PySem.W.isFn K (.ref f)=true
 kp:PySem.W.keepIn K (.ref C)=true
end
section
variable {X:Cx} {CX:CXT} {k:Nat} {f C:Addr} {fd:FuncData} {ps ks:List Str} {sp:Sp} {E:XK} {x m:Str} {p pos apos kpos:Pos} {e o:Expr} {es:List Expr} {kws:List Keyword} {te ta:TE} {t tk:TA} {nm:Option Str}
variable {g:List Value→List Value→List Value} {gV:List V→List V→List V}
end
structure FnScope (N P:List Str) (sc:Scope):Prop where
 kind:sc.kind=.function
 co:sc.isCoroutine=false
 gen:sc.isGenerator=false
 nd:N.Nodup
 pre:N.take P.length=P
 par:∀x∈P,sc.names.lookup x=some .local∨sc.names.lookup x=some .cell
 nofree:∀y∈sc.names,y.2≠.free
theorem aia {kindOf:Str→Option NameKind} {x:Str}:∀{binds:List (Str×Value)} {m:Str→Option Value},(∀v,(x,v)∉binds)→bindL kindOf binds m x=m x
 |[],_,_=>rfl
 |(n,v)::r,m,h=>by
  unfold bindL
  rw[aia fun w hw=>h w (List.mem_cons_of_mem _ hw)]
  split
  ·have:x≠n:=by rintro rfl;exact h v List.mem_cons_self
   simp[this]
  ·rfl
theorem aib {kindOf:Str→Option NameKind} {x:Str}:∀{binds:List (Str×Value)} {m:Str→Option Value},(∀v,(x,v)∉binds)→bindC kindOf binds m x=m x
 |[],_,_=>rfl
 |(n,v)::r,m,h=>by
  unfold bindC
  rw[aib fun w hw=>h w (List.mem_cons_of_mem _ hw)]
  split
  ·rfl
  ·have:x≠n:=by rintro rfl;exact h v List.mem_cons_self
   simp[this]
theorem aic {kindOf:Str→Option NameKind} {x:Str} {v:Value}:∀{P:List Str} {vs:List Value} {i:Nat} {m:Str→Option Value},P.Nodup→P[i]?=some x→vs[i]?=some v→kindOf x=some .local→
  bindL kindOf (P.zip vs) m x=some v
 |[],_,_,_,_,h,_,_=>by simp at h
 |_::_,[],_,_,_,_,h,_=>by simp at h
 |p::P,w::vs,0,m,nd,h1,h2,hk=>by
  simp at h1 h2;subst h1;subst h2
  show bindL kindOf ((p,w)::P.zip vs) m p=_
  unfold bindL
  rw[aia fun v hv=>(List.nodup_cons.mp nd).1 (List.of_mem_zip hv).1,if_pos hk]
  simp
 |p::P,w::vs,i+1,m,nd,h1,h2,hk=>by
  show bindL kindOf ((p,w)::P.zip vs) m x=_
  unfold bindL
  exact aic (i:=i) (List.nodup_cons.mp nd).2 (by simpa using h1) (by simpa using h2) hk
theorem aid {kindOf:Str→Option NameKind} {x:Str} {v:Value}:∀{P:List Str} {vs:List Value} {i:Nat} {m:Str→Option Value},P.Nodup→P[i]?=some x→vs[i]?=some v→kindOf x≠some .local→
  bindC kindOf (P.zip vs) m x=some v
 |[],_,_,_,_,h,_,_=>by simp at h
 |_::_,[],_,_,_,_,h,_=>by simp at h
 |p::P,w::vs,0,m,nd,h1,h2,hk=>by
  simp at h1 h2;subst h1;subst h2
  show bindC kindOf ((p,w)::P.zip vs) m p=_
  unfold bindC
  rw[aib fun v hv=>(List.nodup_cons.mp nd).1 (List.of_mem_zip hv).1,if_neg hk]
  simp
 |p::P,w::vs,i+1,m,nd,h1,h2,hk=>by
  show bindC kindOf ((p,w)::P.zip vs) m x=_
  unfold bindC
  exact aid (i:=i) (List.nodup_cons.mp nd).2 (by simpa using h1) (by simpa using h2) hk
noncomputable def start (N:List Str) (vs:List V):St:=vs.map some++List.replicate (N.length - vs.length) none
noncomputable def cxOf (CX:CXT) (P:Program) (w:World) (K:PySem.W.Frag) (mg:Str→Option Value) (base:Heap) (N:List Str) (qual:Str) (scope:Scope) (f:Addr) (cd:Value) (A:Around) (outer:List Env) (s:Shared) (H:Hp) (E:XK):Cx where
 prog:=P
 w:=w
 K:=K
 mg:=mg
 base:=base
 A:=A.deeper (envOfC qual scope s.heap.objs.size f cd)
 N:=N
 s₀:=s
 H₀:=H
 env:=envOfC qual scope s.heap.objs.size f cd
 outer:=outer
 stack:=envOfC qual scope s.heap.objs.size f cd::outer
 ex:=[]
 calm:=true
 fn:=fun _=>true
 pn:=[]
 xe:=fun e s'=>wpAny (model P w) (A.deeper (envOfC qual scope s.heap.objs.size f cd)) (leaving (envOfC qual scope s.heap.objs.size f cd) e) (fun _ s''=>CX outer H s E e s'') (fun e' s''=>CX outer H s E e' s'') s'
theorem ajm {sc:Scope} {n:Nat} {x:Str} (h:sc.names.lookup x=some .cell):∃c,(cellsFrom n sc.names []).lookup x=some c:=by
 have q:=PySem.W.cellsFrom_some sc.names n [] (.inl h)
 exact Option.isSome_iff_exists.mp q
theorem alc {CX:CXT} {P:Program} {w:World} {K:PySem.W.Frag} {mg:Str→Option Value} {base:Heap} {N ps:List Str} {qual:Str} {scope:Scope} {f:Addr} {cd:Value} {A:Around} {outer:List Env} {s s1:Shared} {H:Hp} {E:XK} {us:List Value} {vs:List V}
  (S:FnScope N ps scope) (hd:A.handled=none) (e0:Env0 P w K mg base A outer s H) (hl:vs.length=ps.length) (r:Vals vs us)
  (x:InCallC s s.heap.objs.size (bindL (envOfC qual scope s.heap.objs.size f cd).kindOf (ps.zip us) fun _=>none) (cellsFrom (s.heap.objs.size+1) scope.names []) (bindC (envOfC qual scope s.heap.objs.size f cd).kindOf (ps.zip us) fun _=>none) s1):
  Inv (cxOf CX P w K mg base N qual scope f cd A outer s H E) [] (start N vs) H s1:=by
 have hpl:ps.length≤N.length:=by have:=congrArg List.length S.pre;rw[List.length_take] at this;omega
 obtain⟨h1,tk,rfl,hk⟩:=x.done
 have noA:∀b:Addr,b∉(cxOf CX P w K mg base N qual scope f cd A outer s H E).ex:=fun b z=>absurd (show b∈([]:List Addr) from z) (by simp)
 refine⟨⟨e0.mod,S.kind,rfl,rfl,Nat.le_refl _,fun y z c h1 h2=>?_,fun y hy=>?_,fun y c _ h=>?_,fun _=>hd,Around.frames_deeper e0.frames,.inr ⟨rfl,rfl⟩,fun b z=>absurd z (noA b),e0.bs,e0.bsz,fun b _ _=>noA b,fun b z=>absurd z (noA b),e0.funs,e0.frf⟩,
  rfl,e0.bare,Un.kept hk,⟨_,x.toInCall.ns,fun i y v h1 h2 h3=>?_⟩,fun y c h=>⟨_,x.cell y c h⟩,e0.hok.fresh (Nat.le_refl _),fun y c h=>?_,fun p hp=>absurd (show p∈([]:List (Addr×Obj)) from hp) (by simp),e0.hok.kept hk,?_⟩
 ·exact name_of_addr x.apart (PySem.mem_of_lookup h1) (PySem.mem_of_lookup h2)
 ·have hy:scope.names.lookup y=some .cell∨scope.names.lookup y=some .free:=hy
  rcases hy with hy|hy
  ·exact ajm hy
  ·exact absurd rfl (S.nofree _ (PySem.mem_of_lookup hy))
 ·exact Nat.le_of_lt (x.above y c (PySem.mem_of_lookup h))
 ·have hi:i < vs.length:=by
   unfold start at h2
   by_cases hi:i < vs.length
   ·exact hi
   ·rw[List.getElem?_append_right (by simpa using hi)] at h2
    rw[List.getElem?_replicate] at h2
    split at h2<;>cases h2
  have ha:vs[i]?=some v:=by
   unfold start at h2
   rw[List.getElem?_append_left (by simpa using hi),List.getElem?_map] at h2
   cases e:vs[i]? with
   |none=>rw[e] at h2;cases h2
   |some a=>rw[e] at h2;cases h2;rfl
  obtain⟨u,hu,rv⟩:=r.get ha
  have hp:ps[i]?=some y:=by
   rw[←S.pre,List.getElem?_take_of_lt (by omega)];exact h1
  have ndP:ps.Nodup:=by rw[←S.pre];exact S.nd.sublist (List.take_sublist _ _)
  refine⟨u,rv,?_⟩
  rcases S.par y (List.mem_of_getElem? hp) with k|k
  ·exact .inl ⟨k,aic ndP hp hu k⟩
  ·obtain⟨c,e⟩:=ajm (n:=s.heap.objs.size+1) k
   refine .inr ⟨.inl k,c,e,?_⟩
   have q:=x.cell y c e
   rw[aid ndP hp hu (by show scope.names.lookup y≠_;rw[k];decide)] at q
   exact q
 ·exact e0.hok.fresh (Nat.le_of_lt (x.above y c (PySem.mem_of_lookup h)))
 ·unfold start
  show _=N.length
  rw[List.length_append,List.length_map,List.length_replicate]
  omega
theorem apr {CX:CXT} {P:Program} {w:World} {K:PySem.W.Frag} {mg:Str→Option Value} {base:Heap} {k:Nat} {f:Addr} {name qual:Str} {params:Arguments} {body:List Stmt} {scope:Scope} {dV kV doc pm cdv ct oc:Value} {an od:Option Addr}
  {osl:Array (Option Value)} {N ps:List Str} {sp:Sp} (lk:K.lookup f=some ⟨oc,od,.func (PySem.W.fnOf name qual params body scope dV kV doc pm an cdv ct),osl⟩) (hcd:PySem.W.codeIn K cdv qual=true) (S:FnScope N ps scope)
  (len:∀vs H Q E,sp vs H Q E→vs.length=ps.length)
  (hbody:∀(A:Around) (outer:List Env) (s:Shared) (H:Hp) (vs:List V) (Q:VK) (E:XK),Room k (A.deeper (envOfC qual scope s.heap.objs.size f cdv))→sp vs H Q E→
   ∃t,PSs (cxOf CX P w K mg base N qual scope f cdv A outer s H E) body t∧t {nx:=fun _ H'=>Q .non H',rt:=Q} (start N vs) H):
  FnOk P w K mg base CX (k+1) f (PySem.W.fnOf name qual params body scope dV kV doc pm an cdv ct) ps sp:=by
 refine⟨len,fun A outer s H args us vs Q E hr e0 hb r hsp=>?_⟩
 have hl:=len _ _ _ _ hsp
 have KX:K.In s.heap:=e0.mod.kin.keeps fun b o e=>(e0.bs b o e).1
 have lim:s.heap.NoLimit:=e0.mod.nolimit.keeps fun b o e=>(e0.bs b o e).1
 have hkind:∀y∈ps.zip us,scope.names.lookup y.1=some .local∨(scope.names.lookup y.1=some .cell∧((cellsFrom (s.heap.objs.size+1) scope.names []).lookup y.1).isSome=true):=fun ⟨n,v⟩ hy=>by
  rcases S.par n (List.of_mem_zip hy).1 with q|q
  ·exact .inl q
  ·exact .inr ⟨q,PySem.W.cellsFrom_some _ _ _ (.inl q)⟩
 refine codeAny_call_function hr.depth (KX _ _ lk) rfl S.co S.gen rfl (PySem.W.codeRec_of KX hcd) (hb _ _ _ _ ?_)
 refine wpAny_newFunctionEnv_cells S.kind hkind fun env he s1 x=>?_
 subst he
 refine⟨lim.keeps x.toInCall.keep,codeAny_func ?_⟩
 obtain⟨t,ht,hq⟩:=hbody A outer s H vs Q E (hr.deeper _) hsp
 have I:Inv (cxOf CX P w K mg base N qual scope f cdv A outer s H E) [] (start N vs) H s1:=alc S hr.hd e0 hl r x
 refine wpAny_mono (ht [] s1 (start N vs) H _ I hq) (fun fl s' hs=>?_) fun e s' hs=>hs
 have fin:∀{σ':St} {H':Hp} {v:V} {u:Value},Inv (cxOf CX P w K mg base N qual scope f cdv A outer s H E) [] σ' H' s'→RelV v u→Q v H'→CE outer P w H s Q u s':=
  fun {σ' H' v u} J rv q=>⟨v,H',J.os,J.bare,J.base,J.hok,rv,q⟩
 cases fl with
 |ret u=>
  obtain⟨v,σ',H',J,rv,q⟩:=hs
  exact fin J rv q
 |next=>
  obtain⟨σ',H',J,q⟩:=hs
  exact fin (v:=V.non) (u:=Value.none) J rfl q
 |brk=>
  obtain⟨_,_,_,q⟩:=hs
  exact False.elim q
 |cont=>
  obtain⟨_,_,_,q⟩:=hs
  exact False.elim q
end L2
namespace L2
open PySem PySem.Spec PyProof.Rows
section
variable {X:Cx} {x:Str} {p pos:Pos} {e:Expr} {es:List Expr} {t:TA} {id T:String} {r:List V→Hp→VK→Prop}
noncomputable def tCB (r:List V→Hp→VK→Prop) (t:TA):TE:=fun σ H Q=>t σ H fun vs H1=>r vs H1 Q
theorem aar (hc:CallR X (.builtin id) r) (hg:Gl X x) (hm:X.mg x=none) (hv:bootBuiltins x=some (.builtin id)) (ha:PA X (e::es) t) (hn:x≠"__name__":=by decide) (hdb:(x == ("__debug__":Str))=false:=by decide)
  (he:starEach (e::es) X.env=(false,eval e X.env)::starEach es X.env:=by rfl) (hpl:(backTo pos (starEach es X.env)).any (·.1)=false:=by rfl):PE X (.Call (.Name x p) (e::es) [] pos) (tCB r t):=by
 intro pins s σ H Q I h
 refine wpAny_Call_Name_kw (ah8 I hg hm hv ?_ hn hdb)
 exact PyProof.Rows.callWith_builtin1 (thn (ha pos pins s σ H _ I h) fun us s1 ⟨vs,H1,I1,r1,q1⟩=>hc pins s1 σ H1 vs us Q I1 r1 q1) he hpl
theorem acf (hc:CallR X (.type T) r) (hg:Gl X x) (hm:X.mg x=none) (hv:bootBuiltins x=some (.type T)) (ha:PA X (e::es) t) (hn:x≠"__name__":=by decide) (hdb:(x == ("__debug__":Str))=false:=by decide)
  (he:starEach (e::es) X.env=(false,eval e X.env)::starEach es X.env:=by rfl) (hpl:(backTo pos (starEach es X.env)).any (·.1)=false:=by rfl):PE X (.Call (.Name x p) (e::es) [] pos) (tCB r t):=by
 intro pins s σ H Q I h
 refine wpAny_Call_Name_kw (ah8 I hg hm hv ?_ hn hdb)
 exact PyProof.Rows.callWith_type1 (thn (ha pos pins s σ H _ I h) fun us s1 ⟨vs,H1,I1,r1,q1⟩=>hc pins s1 σ H1 vs us Q I1 r1 q1) he hpl
end
end L2
namespace HT
open PySem PyProof.Rows
section
open PySem.SeqAt
open PySem.AutoSeq1 (wpAny_loadPart')
open PySem.MeetsSeq PySem.MeetsSeq2 PySem.MeetsSeq3
end
section
variable {prog:Program} {w:World} {A:Around} {E:Value→Shared→Prop} {s:Shared}
noncomputable def sIx (n d:Nat):Option Int→Nat
 |none=>d
 |some v=>if v < 0 then (v+(n:Int)).toNat else min v.toNat n
end
end HT
namespace L2
open PySem PySem.Spec PyProof.Rows
noncomputable abbrev TO:=St→Hp→(Option Int→Hp→Prop)→Prop
noncomputable def PO (X:Cx) (e:Option Expr) (t:TO):Prop:=
 ∀(pins:List (Addr×Obj)) (s:Shared) (σ:St) (H:Hp) (Q:Option Int→Hp→Prop),Inv X pins σ H s→t σ H Q→
  wpAny (model X.prog X.w) X.A (evalPart e X.env) (fun u s'=>∃o H',Inv X pins σ H' s'∧IsPart u o∧Q o H') X.xe s
noncomputable def tPart (t:TE):TO:=fun σ H Q=>t σ H fun x H1=>∃i,x=.int i∧Q (some i) H1
section
variable {X:Cx} {e:Expr} {te:TE} {lo hi:Option Expr} {tl th:TO} {pos p2:Pos}
theorem ald (h:PE X e te):PO X (some e) (tPart te):=by
 intro pins s σ H Q I hw
 rw[evalPart_some]
 refine thn (h pins s σ H _ I hw) fun u s1 ⟨x,H1,I1,r1,q1⟩=>?_
 obtain⟨i,rfl,q⟩:=q1
 obtain⟨t,rfl⟩:=r1
 exact⟨some i,H1,I1,.int i t,q⟩
noncomputable def SlR (X:Cx) (r:V→Option Int→Option Int→Hp→VK→Prop):Prop:=
 ∀(pins:List (Addr×Obj)) (s:Shared) (σ:St) (H:Hp) (x:V) (v vl vu:Value) (lo hi:Option Int) (sl:Addr) (Q:VK),Inv X pins σ H s→RelV x v→s.heap.IsSliceOf sl vl vu .none→IsPart vl lo→IsPart vu hi→r x lo hi H Q→
  ∃T id,typeLookup (.type T) "__getitem__"=pure (some (.builtin id))∧s.TypeIs v T∧wpAny (model X.prog X.w) X.A (getItem v (.ref sl)) (EP X pins σ Q) X.xe s
noncomputable def tSl (r:V→Option Int→Option Int→Hp→VK→Prop) (te:TE) (tl th:TO):TE:=fun σ H Q=>te σ H fun x H1=>tl σ H1 fun l H2=>th σ H2 fun u H3=>r x l u H3 Q
theorem anf {r:V→Option Int→Option Int→Hp→VK→Prop} (hr:SlR X r) (he:PE X e te) (hl:PO X lo tl) (hu:PO X hi th):PE X (.Subscript e (.Slice lo hi none p2) pos) (tSl r te tl th):=by
 intro pins s σ H Q I h
 refine Subscript_ (thn (he pins s σ H _ I h) fun v s1 ⟨x,H1,I1,r1,q1⟩=>?_)
 refine wpAny_Slice (thn (hl pins s1 σ H1 _ I1 q1) fun vl s2 ⟨l,H2,I2,pl,q2⟩=>thn (hu pins s2 σ H2 _ I2 q2) fun vu s3 ⟨u,H3,I3,pu,q3⟩=>?_)
 rw[evalPart_none]
 refine wpAny_pure ?_
 have I4:Inv X pins σ H3 {s3 with heap:=s3.heap.push {cls:=.type "slice",data:=.fields #[vl,vu,.none]}}:=I3.kept (t':=s3.toks) fun b ob q=>Heap.get?_push_of_some _ q
 obtain⟨T,id,hT,ht,hg⟩:=hr pins {s3 with heap:=s3.heap.push {cls:=.type "slice",data:=.fields #[vl,vu,.none]}} σ H3 x v vl vu l u s3.heap.objs.size Q I4 r1 (Heap.IsSliceOf.new ..) pl pu q3
 show wpAny (model X.prog X.w) X.A (subscriptTail e (.Slice lo hi none p2) v (.ref s3.heap.objs.size)) (EP X pins σ Q) X.xe {s3 with heap:=s3.heap.push {cls:=.type "slice",data:=.fields #[vl,vu,.none]}}
 exact tail_any (ops:=[.ref s3.heap.objs.size,v]) ht hT hg (by with_unfolding_all rfl)
noncomputable def cutV (xs:List V) (lo hi:Option Int):List V:=(xs.drop (HT.sIx xs.length 0 lo)).take (HT.sIx xs.length xs.length hi - HT.sIx xs.length 0 lo)
theorem ai3 (xs:List V) (lo hi:Option Int):(cutV xs lo hi).length≤xs.length:=by
 unfold cutV
 rw[List.length_take,List.length_drop]
 omega
end
end L2
namespace L2
open PySem PySem.Spec PyProof.Rows
noncomputable def ixN (n:Nat) (i:Int):Option Nat:=if 0≤i then (if i < n then some i.toNat else none) else if -(n:Int)≤i then some (i+n).toNat else none
noncomputable def atI {α:Type} (xs:List α) (i:Int):Option α:=(ixN xs.length i).bind fun j=>xs[j]?
theorem ai4 {n:Nat} {i:Int} {j:Nat} (h:ixN n i=some j):seqIndex? i n=some j∧j < n∧ -(n:Int)≤i∧i < n:=by
 unfold ixN at h
 by_cases h0:0≤i
 ·rw[if_pos h0] at h
  by_cases h1:i < n
  ·rw[if_pos h1] at h
   have e:i.toNat=j:=Option.some.inj h
   exact⟨by rw[seqIndex_of h0 h1,e],by omega,by omega,h1⟩
  ·rw[if_neg h1] at h;cases h
 ·rw[if_neg h0] at h
  by_cases h1: -(n:Int)≤i
  ·rw[if_pos h1] at h
   have e:(i+n).toNat=j:=Option.some.inj h
   exact⟨by rw[seqIndex_neg (by omega) h1,e],by omega,h1,by omega⟩
  ·rw[if_neg h1] at h;cases h
theorem ale {α:Type} {xs:List α} {i:Int} {v:α} (h:atI xs i=some v):∃j,seqIndex? i xs.length=some j∧xs[j]?=some v∧j < xs.length∧ -(xs.length:Int)≤i∧i < xs.length:=by
 unfold atI at h
 cases e:ixN xs.length i with
 |none=>rw[e] at h;cases h
 |some j=>
  rw[e] at h
  obtain⟨h1,h2,h3,h4⟩:=ai4 e
  exact⟨j,h1,h,h2,h3,h4⟩
theorem aac {α:Type} {xs:List α} {j:Nat} {v:α} (h:xs[j]?=some v):atI xs (j:Int)=some v:=by
 have hj:j < xs.length:=(List.getElem?_eq_some_iff.mp h).1
 have e:ixN xs.length (j:Int)=some j:=by
  unfold ixN
  rw[if_pos (by omega),if_pos (by omega)];simp
 unfold atI;rw[e];exact h
noncomputable def PlainIx (b:Expr):Prop:=∀o i,subscripted b false o i=operate [o,i] (getItem o i)
noncomputable def IxR (X:Cx) (r:R2):Prop:=
 ∀(value slice:Expr) (pins:List (Addr×Obj)) (s:Shared) (σ:St) (H:Hp) (x y:V) (v u:Value) (Q:VK),Inv X pins σ H s→RelV x v→RelV y u→r x y H Q→
  subscripted slice false v u=operate [v,u] (getItem v u)→wpAny (model X.prog X.w) X.A (subscriptTail value slice v u) (EP X pins σ Q) X.xe s
noncomputable def MtR (X:Cx) (id:String) (r:V→List V→Hp→VK→Prop):Prop:=
 ∀(pins:List (Addr×Obj)) (s:Shared) (σ:St) (H:Hp) (x:V) (xs:List V) (v:Value) (us:List Value) (Q:VK),Inv X pins σ H s→RelV x v→Vals xs us→r x xs H Q→
  wpAny (model X.prog X.w) X.A (call (.builtin id) (v::us)) (EP X pins σ Q) X.xe s
section
variable {X:Cx} {a b:Expr} {ta tb:TE} {pos:Pos}
theorem IxR.or {r r':R2} (h:IxR X r) (h':IxR X r'):IxR X (fun x y H Q=>r x y H Q∨r' x y H Q):=by
 intro value slice pins s σ H x y v u Q I rx ry q hs
 rcases q with q|q
 ·exact h value slice pins s σ H x y v u Q I rx ry q hs
 ·exact h' value slice pins s σ H x y v u Q I rx ry q hs
theorem aam {r:R2} (hr:IxR X r) (ha:PE X a ta) (hb:PE X b tb) (hs:PlainIx b):PE X (.Subscript a b pos) (tOp r ta tb):=by
 intro pins s σ H Q I h
 exact Subscript_ (binT ha hb I h fun v u s2 x y H2 I2 rx ry q=>hr a b pins s2 σ H2 x y v u Q I2 rx ry q (hs _ _))
noncomputable def rIxL (K:PySem.W.Frag):R2:=fun x y H Q=>∃p xs i v,x=.ref p∧y=.int i∧SqL K H p xs∧atI xs i=some v∧Q v H
noncomputable def rIxT (K:PySem.W.Frag):R2:=fun x y H Q=>∃p xs i v,x=.ref p∧y=.int i∧SqT K H p xs∧atI xs i=some v∧Q v H
theorem aaj:IxR X (rIxL X.K):=by
 intro value slice pins s σ H x y v u Q I rx ry h hs
 obtain⟨p,xs,i,z,rfl,rfl,hq,he,q⟩:=h
 cases rx
 obtain⟨t,rfl⟩:=ry
 obtain⟨its,r,pl,hz⟩:=I.list hq
 obtain⟨j,h1,h2,h3,h4,h5⟩:=ale he
 obtain⟨w,ew,rw'⟩:=r.get h2
 have hl:=r.length
 have hn:=line63
 have fin:EP X pins σ Q w s:=⟨z,H,I,rw',q⟩
 by_cases h0:0≤i
 ·have hj:i.toNat=j:=by
   rw[seqIndex_of h0 h5] at h1
   exact Option.some.inj h1
  exact item_listR pl.isList h0 (by omega) (by rw[hj];simpa using ew) fin hs
 ·have hj:(i+(its.toArray.size:Int)).toNat=j:=by
   rw[seqIndex_neg (by omega) h4] at h1
   rw[List.size_toArray,←hl]
   exact Option.some.inj h1
  exact subscriptTail_builtinR (x:=w) pl.isList.typeIs slot_list_getitem.lookup
   (wpAny_getItem_list_neg (Q:=fun r s'=>r=w∧EP X pins σ Q r s') pl.isList (by omega) (by rw[List.size_toArray]<;>omega) (by omega) (by rw[hj];simpa using ew) ⟨rfl,fin⟩) hs
theorem aa0:IxR X (rIxT X.K):=by
 intro value slice pins s σ H x y v u Q I rx ry h hs
 obtain⟨p,xs,i,z,rfl,rfl,hq,he,q⟩:=h
 cases rx
 obtain⟨t,rfl⟩:=ry
 obtain⟨its,r,pl,hz⟩:=I.tuple hq
 obtain⟨j,h1,h2,h3,h4,h5⟩:=ale he
 obtain⟨w,ew,rw'⟩:=r.get h2
 have hl:=r.length
 have hn:=line63
 have fin:EP X pins σ Q w s:=⟨z,H,I,rw',q⟩
 exact subscriptTail_builtinR (x:=w) pl.typeIs slot_tuple_getitem.lookup
  (getItem_tuple (j:=j) (Q:=fun r s'=>r=w∧EP X pins σ Q r s') pl (by omega) (by omega) (by rw[List.size_toArray,←hl];exact h1) (by simpa using ew) ⟨rfl,fin⟩) hs
theorem akn (its:List Value) (n j:Nat) (u:Value):Obj.mapSeq (·.setIfInBounds j u) {cls:=.type "list",data:=.seq its.toArray n}={cls:=.type "list",data:=.seq (its.set j u).toArray n}:=by
 simp[Obj.mapSeq]
theorem Inv.lst {pins:List (Addr×Obj)} {σ:St} {H:Hp} {s:Shared} {p:Addr} {xs:List V} (I:Inv X pins σ H s) (h:H p=some (.lst xs)):
  ∃(its:List Value) (n:Nat),Vals xs its∧s.heap.get? p=some {cls:=.type "list",data:=.seq its.toArray n}∧xs.length≤sizeLine:=by
 obtain⟨z,its,n,r,e⟩:=I.hok p _ h
 exact⟨its,n,r,e,z⟩
theorem Inv.lstUpd {pins:List (Addr×Obj)} {σ:St} {H:Hp} {s:Shared} {p:Addr} {xs ys:List V} {its its':List Value} {n n':Nat} {f:Obj→Obj} (I:Inv X pins σ H s) (h:H p=some (.lst xs))
  (ho:s.heap.get? p=some {cls:=.type "list",data:=.seq its.toArray n}) (hf:f {cls:=.type "list",data:=.seq its.toArray n}={cls:=.type "list",data:=.seq its'.toArray n'}) (r:Vals ys its') (hz:ys.length≤sizeLine) (t:Nat):
  Inv X pins σ (upd H p (.lst ys)) {s with heap:=s.heap.update p f,toks:=t}:=by
 have e:(s.heap.update p f).get? p=some {cls:=.type "list",data:=.seq its'.toArray n'}:=by
  rw[Heap.get?_update_self f ho (by rw[hf]<;>rfl),hf]
 refine I.write (x:=p) (e:=p) (by rw[h];trivial) (.inl rfl) (fun b u hb q=>(Heap.get?_update_other _ _ (Ne.symm hb)).trans q) ⟨_,e⟩ ?_
 exact⟨hz,its',n',r,e⟩
noncomputable def rSetL:V→V→V→Hp→(Hp→Prop)→Prop:=fun o i v H Q=>∃p xs k j,o=.ref p∧i=.int k∧H p=some (.lst xs)∧ixN xs.length k=some j∧Q (upd H p (.lst (xs.set j v)))
theorem abx:PSet X rSetL:=by
 intro pins s σ H o i v ov iv u Q I ro ri rv h
 obtain⟨p,xs,k,j,rfl,rfl,hp,hj,q⟩:=h
 cases ro
 obtain⟨t,rfl⟩:=ri
 obtain⟨its,n,r,ho,hz⟩:=I.lst hp
 obtain⟨h1,h2,h3,h4⟩:=ai4 hj
 have hl:=r.length
 have hn:=line63
 have I':Inv X pins σ (upd H p (.lst (xs.set j v))) {s with heap:=s.heap.update p (Obj.mapSeq (·.setIfInBounds j u))}:=
  I.lstUpd hp ho (akn its n j u) (r.set rv j) (by rw[List.length_set];exact hz) s.toks
 by_cases h0:0≤k
 ·have hk:k.toNat=j:=by
   rw[seqIndex_of h0 h4] at h1
   exact Option.some.inj h1
  exact PySem.W.ki_setAt ho h0 (by omega) (by rw[List.size_toArray,←hl];exact h4) (by rw[hk];exact⟨_,I',q⟩)
 ·have hk:(k+(its.toArray.size:Int)).toNat=j:=by
   rw[seqIndex_neg (by omega) h3] at h1
   rw[List.size_toArray,←hl]
   exact Option.some.inj h1
  exact PySem.W.ki_setBack ho (by omega) (by rw[List.size_toArray,←hl];exact h3) (by omega) (by rw[hk];exact⟨_,I',q⟩)
theorem aie (lo hi:Option Int) (n:Nat):(sliceBounds lo hi none n).1=((HT.sIx n 0 lo:Nat):Int)∧(sliceBounds lo hi none n).2.1=((HT.sIx n n hi:Nat):Int)∧(sliceBounds lo hi none n).2.2=1:=by
 refine⟨?_,?_,rfl⟩
 ·cases lo with
  |none=>simp[sliceBounds,HT.sIx]
  |some i=>
   simp only[sliceBounds,HT.sIx,Option.getD_none,show (1:Int) > 0 by decide,if_true]
   by_cases h:i < 0
   ·simp only[h,if_true]<;>omega
   ·simp only[h,if_false]<;>omega
 ·cases hi with
  |none=>simp[sliceBounds,HT.sIx]
  |some i=>
   simp only[sliceBounds,HT.sIx,Option.getD_none,show (1:Int) > 0 by decide,if_true]
   by_cases h:i < 0
   ·simp only[h,if_true]<;>omega
   ·simp only[h,if_false]<;>omega
theorem ahm (its:List Value) (lo hi:Option Int):slicePick its.toArray lo hi none=((its.drop (HT.sIx its.length 0 lo)).take (HT.sIx its.length its.length hi - HT.sIx its.length 0 lo)).toArray:=by
 obtain⟨h1,h2,h3⟩:=aie lo hi its.toArray.size
 unfold slicePick
 rw[h1,h2,h3]
 simp only[sliceRange_one,pick_run,List.size_toArray]<;>rfl
noncomputable def rSlL (K:PySem.W.Frag):V→Option Int→Option Int→Hp→VK→Prop:=fun x lo hi H Q=>∃a xs,x=.ref a∧SqL K H a xs∧∀p,H p=none→Q (.ref p) (upd H p (.lst (cutV xs lo hi)))
theorem aps:SlR X (rSlL X.K):=by
 intro pins s σ H x v vl vu lo hi sl Q I rx hs pl pu h
 obtain⟨a,xs,rfl,hx,q⟩:=h
 cases rx
 obtain⟨its,r,ht,hz⟩:=I.list hx
 have hlen:=r.length
 refine⟨"list",_,slot_list_getitem.lookup,ht.isList.typeIs,?_⟩
 refine wpAny_getItem_list_slice ht.isList hs pl pu .none (by simp) ?_ (by rw[List.size_toArray]<;>omega)
 rw[ahm,←hlen]
 refine⟨.ref s.heap.objs.size,_,I.laid (t':=s.toks) (o:=.lst (cutV xs lo hi)) (fun b ob q=>Heap.get?_push_of_some _ q) (Nat.le_refl _) ?_,rfl,q _ (I.hok.fresh (Nat.le_refl _))⟩
 exact⟨Nat.le_trans (ai3 xs lo hi) hz,_,0,(r.drop (HT.sIx xs.length 0 lo)).take (HT.sIx xs.length xs.length hi - HT.sIx xs.length 0 lo),Heap.get?_push_size _ rfl⟩
noncomputable def flatV:V→Bool
 |.non=>true
 |.bl _=>true
 |.int _=>true
 |.str _=>true
 |_=>false
noncomputable def eqV:V→V→Bool
 |.non,.non=>true
 |.bl a,.bl b=>a == b
 |.bl a,.int b=>(if a then 1 else 0) == b
 |.int a,.bl b=>a == (if b then 1 else 0)
 |.int a,.int b=>a == b
 |.str a,.str b=>a == b
 |_,_=>false
theorem aom {A:Around} {s:Shared} {y x:V} {u v:Value} (ry:RelV y u) (rx:RelV x v) (fy:flatV y=true) (fx:flatV x=true):SeqAt.EqAt A s u v (eqV y x):=by
 cases y with
 |non=>
  cases ry
  cases x with
  |non=>cases rx;exact SeqAt.EqAt.same _
  |bl b=>cases rx;exact SeqAt.EqAt.none_bool b
  |int b=>obtain⟨t,rfl⟩:=rx;exact SeqAt.EqAt.none_int b t
  |str b=>obtain⟨t,rfl⟩:=rx;exact SeqAt.EqAt.none_str b t
  |_=>exact absurd (show false=true from fx) Bool.false_ne_true
 |bl a=>
  cases ry
  cases x with
  |non=>cases rx;exact SeqAt.EqAt.bool_none a
  |bl b=>cases rx;exact SeqAt.EqAt.bool_bool a b
  |int b=>obtain⟨t,rfl⟩:=rx;exact SeqAt.EqAt.bool_int a b t
  |str b=>obtain⟨t,rfl⟩:=rx;exact SeqAt.EqAt.bool_str a b t
  |_=>exact absurd (show false=true from fx) Bool.false_ne_true
 |int a=>
  obtain⟨t',rfl⟩:=ry
  cases x with
  |non=>cases rx;exact SeqAt.EqAt.int_none a t'
  |bl b=>cases rx;exact SeqAt.EqAt.int_bool a t' b
  |int b=>obtain⟨t,rfl⟩:=rx;exact SeqAt.EqAt.int_int a t' b t
  |str b=>obtain⟨t,rfl⟩:=rx;exact SeqAt.EqAt.int_str a t' b t
  |_=>exact absurd (show false=true from fx) Bool.false_ne_true
 |str a=>
  obtain⟨t',rfl⟩:=ry
  cases x with
  |non=>cases rx;exact SeqAt.EqAt.str_none a t'
  |bl b=>cases rx;exact SeqAt.EqAt.str_bool a t' b
  |int b=>obtain⟨t,rfl⟩:=rx;exact SeqAt.EqAt.str_int a t' b t
  |str b=>obtain⟨t,rfl⟩:=rx;exact SeqAt.EqAt.str_str a t' b t
  |_=>exact absurd (show false=true from fx) Bool.false_ne_true
 |_=>exact absurd (show false=true from fy) Bool.false_ne_true
noncomputable def eqU (x:V) (u:Value):Bool:=match u with
 |.none=>eqV .non x
 |.bool b=>eqV (.bl b) x
 |.int i _=>eqV (.int i) x
 |.str z _=>eqV (.str z) x
 |_=>false
theorem aon {x y:V} {u:Value} (r:RelV y u) (f:flatV y=true):eqU x u=eqV y x:=by
 cases y with
 |non=>cases r;rfl
 |bl b=>cases r;rfl
 |int i=>obtain⟨t,rfl⟩:=r;rfl
 |str z=>obtain⟨t,rfl⟩:=r;rfl
 |_=>exact absurd (show false=true from f) Bool.false_ne_true
theorem ago {x:V}:∀{xs:List V} {us:List Value},Vals xs us→xs.all flatV=true→us.any (eqU x)=xs.any fun y=>eqV y x
 |_,_,.nil,_=>rfl
 |y::xs,u::us,.cons r t,f=>by
  rw[List.all_cons,Bool.and_eq_true] at f
  rw[List.any_cons,List.any_cons,aon r f.1,ago t f.2]
theorem afq {A:Around} {s:Shared} {x:V} {v:Value} (rx:RelV x v) (fx:flatV x=true):∀{xs:List V} {us:List Value},Vals xs us→xs.all flatV=true→∀u∈us,SeqAt.EqAt A s u v (eqU x u)
 |_,_,.nil,_=>fun u hu=>by cases hu
 |y::xs,u::us,.cons r t,f=>fun u' hu=>by
  rw[List.all_cons,Bool.and_eq_true] at f
  rcases List.mem_cons.mp hu with rfl|hu
  ·rw[aon r f.1];exact aom r rx f.1 fx
  ·exact afq rx fx t f.2 u' hu
noncomputable def inV (x:V) (xs:List V):Bool:=xs.any fun y=>eqV y x
noncomputable def rIn (K:PySem.W.Frag) (neg:Bool):R2:=fun x y H Q=>∃p xs,y=.ref p∧(SqL K H p xs∨SqT K H p xs)∧flatV x=true∧xs.all flatV=true∧Q (.bl (if neg then !inV x xs else inV x xs)) H
theorem aif:OpR X (compareOp .In) (rIn X.K false):=by
 intro pins s σ H x y v u Q I rx ry h
 obtain⟨p,xs,rfl,hq,fx,fs,q⟩:=h
 cases ry
 rcases hq with hq|hq
 ·obtain⟨its,r,pl,hz⟩:=I.list hq
  refine SeqAt.in_listAt (eqU x) pl.isList (fun w hw=>afq rx fx r fs w (by simpa using hw)) ⟨.bl _,H,I,rfl,?_⟩
  rw[show its.toArray.any (eqU x)=its.any (eqU x) by simp,ago r fs]
  exact q
 ·obtain⟨its,r,pl,hz⟩:=I.tuple hq
  refine SeqAt.in_tupleAt (eqU x) pl (fun w hw=>afq rx fx r fs w (by simpa using hw)) ⟨.bl _,H,I,rfl,?_⟩
  rw[show its.toArray.any (eqU x)=its.any (eqU x) by simp,ago r fs]
  exact q
theorem aig:OpR X (compareOp .NotIn) (rIn X.K true):=by
 intro pins s σ H x y v u Q I rx ry h
 obtain⟨p,xs,rfl,hq,fx,fs,q⟩:=h
 cases ry
 rcases hq with hq|hq
 ·obtain⟨its,r,pl,hz⟩:=I.list hq
  refine SeqAt.notIn_listAt (eqU x) pl.isList (fun w hw=>afq rx fx r fs w (by simpa using hw)) ⟨.bl _,H,I,rfl,?_⟩
  rw[show its.toArray.any (eqU x)=its.any (eqU x) by simp,ago r fs]
  exact q
 ·obtain⟨its,r,pl,hz⟩:=I.tuple hq
  refine SeqAt.notIn_tupleAt (eqU x) pl (fun w hw=>afq rx fx r fs w (by simpa using hw)) ⟨.bl _,H,I,rfl,?_⟩
  rw[show its.toArray.any (eqU x)=its.any (eqU x) by simp,ago r fs]
  exact q
theorem adl:CallR X (.type "list") (fun xs H Q=>∃p ys,xs=[.ref p]∧(SqL X.K H p ys∨SqT X.K H p ys)∧∀l,H l=none→Q (.ref l) (upd H l (.lst ys))):=by
 intro pins s σ H xs us Q I r h
 obtain⟨p,ys,rfl,hq,q⟩:=h
 obtain⟨u,rfl,rx⟩:=vals1 r
 cases rx
 have fin:∀(its:List Value),Vals ys its→ys.length≤sizeLine→∀(h':Heap) (c':Nat),(∀b o',s.heap.get? b=some o'→h'.get? b=some o')→
   h'.get? s.heap.objs.size=some {cls:=.type "list",dict:=none,data:=.seq its.toArray c',slots:= #[]}→EP X pins σ Q (.ref s.heap.objs.size) {s with heap:=h'}:=fun its r' hz h' c' kp e=>
  ⟨.ref s.heap.objs.size,_,I.laid (t':=s.toks) kp (Nat.le_refl _) (show ObjOk X.prog X.w _ h' _ (.lst ys) from ⟨hz,its,c',r',e⟩),rfl,q _ (I.hok.fresh (Nat.le_refl _))⟩
 rcases hq with hq|hq
 ·obtain⟨its,r',pl,hz⟩:=I.list hq
  have hlen:=r'.length
  obtain⟨o,ho,hc,n,hd⟩:=pl.isList
  exact call_list_seq p (.inl rfl) ho hc hd (fun h' c' kp e=>fin its r' hz h' c' kp e) (by simp only[List.size_toArray]<;>omega)
 ·obtain⟨its,r',pl,hz⟩:=I.tuple hq
  have hlen:=r'.length
  obtain⟨o,ho,hc,n,hd⟩:=pl
  exact call_list_seq p (.inr rfl) ho hc hd (fun h' c' kp e=>fin its r' hz h' c' kp e) (by simp only[List.size_toArray]<;>omega)
theorem ahn:CallR X (.type "tuple") (fun xs H Q=>∃p ys,xs=[.ref p]∧((SqL X.K H p ys∧∀l,H l=none→Q (.ref l) (upd H l (.tup ys)))∨(SqT X.K H p ys∧Q (.ref p) H))):=by
 intro pins s σ H xs us Q I r h
 obtain⟨p,ys,rfl,h⟩:=h
 obtain⟨u,rfl,rx⟩:=vals1 r
 cases rx
 rcases h with ⟨hq,q⟩|⟨hq,q⟩
 ·obtain⟨its,r',pl,hz⟩:=I.list hq
  have hlen:=r'.length
  refine call_tuple_list pl.isList (fun h' kp=>?_) (by simp only[List.size_toArray]<;>omega)
  have I1:Inv X pins σ H {s with heap:=h'}:=I.kept (t':=s.toks) kp
  have I2:Inv X pins σ (upd H h'.objs.size (.tup ys)) {s with heap:=h'.push {cls:=.type "tuple",data:=.seq its.toArray}}:=
   I1.laid (t':=s.toks) (fun b o e=>Heap.get?_push_of_some _ e) (Nat.le_refl _) (show ObjOk X.prog X.w _ _ _ (.tup ys) from ⟨hz,its,r',IsTup.new _ _⟩)
  exact⟨.ref h'.objs.size,_,I2,rfl,q _ (I1.hok.fresh (Nat.le_refl _))⟩
 ·obtain⟨its,r',pl,hz⟩:=I.tuple hq
  exact call_tuple_same pl ⟨.ref p,H,I,rfl,q⟩
noncomputable def tyV (K:PySem.W.Frag) (T:String) (x:V) (H:Hp):Prop:=match x with
 |.str _=>T="str"
 |.int _=>T="int"
 |.ref p=>(T="list"∧∃xs,SqL K H p xs)∨(T="tuple"∧∃o,K.lookup p=some o∧o.cls=.type "tuple"∧o.dict=none)∨
  (T="dict"∧((∃kvs,H p=some (.dK kvs))∨∃kvs,H p=some (.dT kvs)))∨(T="set"∧∃S n,H p=some (.set S n))
 |_=>False
theorem tyV_is {pins:List (Addr×Obj)} {σ:St} {H:Hp} {s:Shared} {T:String} {x:V} {v:Value} (I:Inv X pins σ H s) (r:RelV x v) (ty:tyV X.K T x H):
  s.TypeIs v T∧∀a,v=.ref a→∃ob,s.heap.get? a=some ob∧ob.dict=none:=by
 cases x with
 |str z=>
  obtain⟨t,rfl⟩:=r
  cases (show T="str" from ty)
  exact⟨typeIs_str s z t,fun _ e=>nomatch e⟩
 |int i=>
  obtain⟨t,rfl⟩:=r
  cases (show T="int" from ty)
  exact⟨typeIs_int s i t,fun _ e=>nomatch e⟩
 |ref p=>
  cases r
  rcases ty with ⟨rfl,xs,hq⟩|⟨rfl,o,hk,hc,hd⟩|⟨rfl,hk⟩|⟨rfl,S,n,hk⟩
  ·obtain⟨its,_,pl,_⟩:=I.list hq
   refine⟨pl.isList.typeIs,fun a e=>?_⟩
   cases e
   obtain⟨o,n,e,c,hd,_⟩:=pl
   exact⟨o,e,hd⟩
  ·refine⟨⟨o,I.kIn p o hk,hc⟩,fun a e=>?_⟩
   cases e
   exact⟨o,I.kIn _ o hk,hd⟩
  ·have z:∃o,s.heap.get? p=some o∧o.ExactDict:=by
    rcases hk with ⟨kvs,hk⟩|⟨kvs,hk⟩
    ·obtain⟨_,_,_,_,o,_,_,e,ex,_⟩:=I.hok p _ hk
     exact⟨o,e,ex⟩
    ·obtain⟨_,_,_,_,o,_,_,e,ex,_⟩:=I.hok p _ hk
     exact⟨o,e,ex⟩
   obtain⟨o,e,ex⟩:=z
   refine⟨⟨o,e,ex.1⟩,fun a e2=>?_⟩
   cases e2
   exact⟨o,e,ex.2.1⟩
  ·obtain⟨o,_,_,_,e,ex,_⟩:=I.hok p _ hk
   refine⟨⟨o,e,ex.1⟩,fun a e2=>?_⟩
   cases e2
   exact⟨o,e,ex.2.1⟩
 |_=>exact False.elim ty
noncomputable def tBM (K:PySem.W.Frag) (T:String) (r:V→List V→Hp→VK→Prop) (to:TE) (t:TA):TE:=fun σ H Q=>to σ H fun x H1=>tyV K T x H1∧t σ H1 fun xs H2=>r x xs H2 Q
variable {o e:Expr} {es:List Expr} {to:TE} {t:TA} {name:Str} {apos cpos:Pos} {T id:String} {r:V→List V→Hp→VK→Prop}
theorem ag3 (pa:PlainAttrs T) (slot:Slot T name id) (hty:typeOf (.builtin id)=pure (.type "method_descriptor")) (hm:MtR X id r) (ho:PE X o to) (ha:PA X (e::es) t)
  (hbase:attributeBase o name X.env (eval o X.env)=eval o X.env:=by rfl)
  (hfew:((backTo cpos (starEach (e::es) X.env)).all (fun x=> !x.1)&&(backToKw cpos (keywordEach [] X.env)).all (fun x=>x.1.isSome)
   &&decide ((e::es).length+([]:List Keyword).length+(if ([]:List Keyword).isEmpty then 0 else 1) < 30))=true:=by rfl)
  (hline:(apos.endLine == cpos.line)=true:=by rfl) (hs:starEach (e::es) X.env=(false,eval e X.env)::starEach es X.env:=by rfl) (hplain:(backTo cpos (starEach es X.env)).any (·.1)=false:=by rfl):
  PE X (.Call (.Attribute o name apos) (e::es) [] cpos) (tBM X.K T r to t):=by
 intro pins s σ H Q I h
 refine wpAny_Call_method_late hbase hfew hline rfl (thn (ho pins s σ H _ I h) fun v s1 ⟨x,H1,I1,r1,ty,q1⟩=>?_)
 obtain⟨h1,h2⟩:=tyV_is I1 r1 ty
 refine⟨T,id,pa,slot,hty,h1,h2,?_⟩
 have hA:=ha cpos pins s1 σ H1 _ I1 q1
 rw[hs] at hA ⊢
 refine Calls.callWith_builtin (by show (false || (backTo cpos (starEach es X.env)).any (·.1))=false;rw[hplain]<;>rfl) (Calls.evalArgs_plain ?_)
 exact thn hA fun us s2 ⟨vs,H2,I2,r2,q2⟩=>hm pins s2 σ H2 x vs v us Q I2 r1 r2 q2
end
end L2
namespace L2
open PySem PySem.Spec PyProof.Rows
noncomputable def MtM (X:Cx) (id:String) (r:V→List V→Hp→VK→Prop):Prop:=
 ∀(pins:List (Addr×Obj)) (s:Shared) (σ:St) (H:Hp) (x:V) (xs:List V) (v:Value) (us:List Value) (Q:VK),Inv X pins σ H s→RelV x v→Vals xs us→r x xs H Q→
  wpAny (model X.prog X.w) X.A (call (.builtin id) (v::us)) (EP X pins σ Q) X.xe s
theorem Vals.one:∀{x:V} {us:List Value},Vals [x] us→∃u,us=[u]∧RelV x u
 |_,_,.cons r .nil=>⟨_,rfl,r⟩
theorem Vals.two:∀{x y:V} {us:List Value},Vals [x,y] us→∃u v,us=[u,v]∧RelV x u∧RelV y v
 |_,_,_,.cons r (.cons q .nil)=>⟨_,_,rfl,r,q⟩
theorem Vals.eraseIdx:∀{xs:List V} {us:List Value} (i:Nat),Vals xs us→Vals (xs.eraseIdx i) (us.eraseIdx i)
 |_,_,_,.nil=>.nil
 |_,_,0,.cons _ t=>t
 |_,_,i+1,.cons r t=>.cons r (Vals.eraseIdx i t)
theorem Vals.rep {xs:List V} {us:List Value} (h:Vals xs us):∀k:Nat,Vals (List.replicate k xs).flatten (List.replicate k us).flatten
 |0=>.nil
 |k+1=>by
  rw[List.replicate_succ,List.replicate_succ,List.flatten_cons,List.flatten_cons]
  exact Vals.append h (Vals.rep h k)
theorem aih {α:Type}:∀(l:List α) (i:Nat),(l.eraseIdx i).length≤l.length
 |[],_=>Nat.le_refl _
 |_::_,0=>Nat.le_succ _
 |_::r,i+1=>Nat.succ_le_succ (aih r i)
theorem aii (its:List Value):∀(k:Nat) (acc:List Value),
  List.foldl (fun x1 x2=>x1++x2) acc.toArray (List.replicate k its.toArray)=(acc++(List.replicate k its).flatten).toArray
 |0,acc=>by simp
 |k+1,acc=>by
  have e:acc.toArray++its.toArray=(acc++its).toArray:=by simp
  have e2:(acc++its)++(List.replicate k its).flatten=acc++(List.replicate (k+1) its).flatten:=by
   rw[List.replicate_succ,List.flatten_cons,List.append_assoc]
  rw[←e2,←aii its k (acc++its),←e,List.replicate_succ,List.foldl_cons]
section
variable {X:Cx} {pins:List (Addr×Obj)} {σ:St} {H:Hp} {s:Shared} {l b:Addr} {xs ys zs:List V}
theorem Inv.lset {its its':List Value} {n:Nat} {f:Array Value→Array Value} {t':Nat} (I:Inv X pins σ H s) (hH:H l=some (.lst xs))
  (e:s.heap.get? l=some {cls:=.type "list",data:=.seq its.toArray n}) (hf:f its.toArray=its'.toArray) (hv:Vals ys its') (hz:ys.length≤sizeLine):
  Inv X pins σ (upd H l (.lst ys)) {s with heap:=s.heap.update l (Obj.mapSeq f),toks:=t'}:=by
 have q:=PySem.IsL.update e f
 rw[hf] at q
 refine I.write (x:=l) (e:=l) (by rw[hH];exact trivial) (.inl rfl) (fun b' u hb hu=>(Heap.get?_update_other s.heap (Obj.mapSeq f) (Ne.symm hb)).trans hu) ⟨_,q⟩ ?_
 exact⟨hz,its',_,hv,q⟩
theorem Inv.lnew {its:List Value} {t':Nat} (I:Inv X pins σ H s) (hv:Vals ys its) (hz:ys.length≤sizeLine):
  Inv X pins σ (upd H s.heap.objs.size (.lst ys)) {s with heap:=s.heap.push {cls:=.type "list",data:=.seq its.toArray},toks:=t'}:=
 I.laid (fun _ _ q=>Heap.get?_push_of_some _ q) (Nat.le_refl _) ⟨hz,its,0,hv,Heap.get?_push_size _ rfl⟩
theorem Inv.fresh (I:Inv X pins σ H s):H s.heap.objs.size=none:=I.hok.fresh (Nat.le_refl _)
theorem Inv.lstM (I:Inv X pins σ H s) (hH:H l=some (.lst xs)):xs.length≤sizeLine∧∃(its:List Value) (n:Nat),Vals xs its∧xs.length=its.length∧s.heap.get? l=some {cls:=.type "list",data:=.seq its.toArray n}:=by
 obtain⟨z,its,n,r,e⟩:=I.hok l _ hH
 exact⟨z,its,n,r,r.length,e⟩
theorem notLongL {n:Nat} (h:n≤sizeLine):Builtin.List.listTooLong n=false:=by
 unfold Builtin.List.listTooLong
 exact decide_eq_false (by omega)
end
section
variable {X:Cx}
noncomputable def rAppend:V→List V→Hp→VK→Prop:=fun x vs H Q=>∃l xs y,x=.ref l∧vs=[y]∧H l=some (.lst xs)∧xs.length < sizeLine∧Q .non (upd H l (.lst (xs++[y])))
theorem adm:MtM X "list.append" rAppend:=by
 intro pins s σ H x vs v us Q I rx rv h
 obtain⟨l,xs,y,rfl,rfl,hH,hz,q⟩:=h
 cases rx
 obtain⟨u,rfl,ru⟩:=rv.one
 obtain⟨z,its,n,r,hl,e⟩:=I.lstM hH
 refine call_meets F.slot_list_append ⟨_,e,rfl⟩ F.entry_list_append (F.args_list_append_2 _ _) (PySem.list_append l its.toArray n u (by rw[List.size_toArray];omega)) ⟨e,?_⟩
 refine⟨.non,_,I.lset (its':=its++[u]) hH e (by simp) (r.append (.cons ru .nil)) ?_,rfl,q⟩
 rw[List.length_append,List.length_singleton]
 omega
noncomputable def rExtend:V→List V→Hp→VK→Prop:=fun x vs H Q=>∃l b xs zs,x=.ref l∧vs=[.ref b]∧H l=some (.lst xs)∧H b=some (.lst zs)∧xs.length+zs.length≤sizeLine∧Q .non (upd H l (.lst (xs++zs)))
theorem alf:MtM X "list.extend" rExtend:=by
 intro pins s σ H x vs v us Q I rx rv h
 obtain⟨l,b,xs,zs,rfl,rfl,hH,hB,hz,q⟩:=h
 cases rx
 obtain⟨u,rfl,ru⟩:=rv.one
 cases ru
 obtain⟨z,its,n,r,hl,e⟩:=I.lstM hH
 obtain⟨z2,its2,n2,r2,hl2,e2⟩:=I.lstM hB
 have hsz:its.toArray.size+its2.toArray.size≤sizeLine:=by rw[List.size_toArray,List.size_toArray];omega
 have hlong:¬(!its.toArray.isEmpty&&Builtin.List.listTooLong (its.toArray.size+its2.toArray.size))=true:=by
  rw[notLongL hsz,Bool.and_false]
  exact Bool.false_ne_true
 refine call_meets F.slot_list_extend ⟨_,e,rfl⟩ F.entry_list_extend (F.args_list_extend_2 _ _)
  (AutoSeq1.list_extend_list_list_0 l its.toArray n b its2.toArray n2 hlong (by rw[List.size_toArray];omega) (by omega)) ⟨e,e2,?_⟩
 refine⟨.non,_,I.lset (its':=its++its2) hH e (by simp) (r.append r2) ?_,rfl,q⟩
 rw[List.length_append]
 omega
noncomputable def rPopAt:V→List V→Hp→VK→Prop:=fun x vs H Q=>∃l xs i k y,x=.ref l∧vs=[.int i]∧H l=some (.lst xs)∧ -(2 ^ 63)≤i∧i < 2 ^ 63∧seqIndex? i xs.length=some k∧xs[k]?=some y∧Q y (upd H l (.lst (xs.eraseIdx k)))
theorem ajn:MtM X "list.pop" rPopAt:=by
 intro pins s σ H x vs v us Q I rx rv h
 obtain⟨l,xs,i,k,y,rfl,rfl,hH,h1,h2,hk,hy,q⟩:=h
 cases rx
 obtain⟨u,rfl,ru⟩:=rv.one
 obtain⟨t,rfl⟩:=ru
 obtain⟨z,its,n,r,hl,e⟩:=I.lstM hH
 obtain⟨w,hw,rw'⟩:=r.get hy
 refine call_meets F.slot_list_pop ⟨_,e,rfl⟩ F.entry_list_pop (F.args_list_pop_2 _ _)
  (MeetsSeq.list_pop_at l its.toArray n i t k w (fitsIndex_both h1 h2) (by rw[List.size_toArray,←hl];exact hk) (by rw[←Array.getElem?_toList];exact hw) (by rw[List.size_toArray];omega)) ⟨e,?_⟩
 refine⟨y,_,I.lset (its':=its.eraseIdx k) hH e ?_ (r.eraseIdx k) ?_,rw',q⟩
 ·show its.toArray.eraseIdxIfInBounds k=(its.eraseIdx k).toArray
  rw[List.eraseIdxIfInBounds_toArray]
 ·have:=aih xs k
  omega
noncomputable def rCat:R2:=fun x y H Q=>∃l b xs zs,x=.ref l∧y=.ref b∧H l=some (.lst xs)∧H b=some (.lst zs)∧xs.length+zs.length≤sizeLine∧∀p,H p=none→Q (.ref p) (upd H p (.lst (xs++zs)))
theorem ag9:OpR X (binaryOp .Add) rCat:=by
 intro pins s σ H x y v u Q I rx ry h
 obtain⟨l,b,xs,zs,rfl,rfl,hH,hB,hz,q⟩:=h
 cases rx
 cases ry
 obtain⟨z,its,n,r,hl,e⟩:=I.lstM hH
 obtain⟨z2,its2,n2,r2,hl2,e2⟩:=I.lstM hB
 refine PySem.P.add_list e e2 ?_ (by rw[List.size_toArray,List.size_toArray];omega)
 have ea:its.toArray++its2.toArray=(its++its2).toArray:=by simp
 rw[ea]
 exact⟨.ref _,_,I.lnew (t':=s.toks) (r.append r2) (by rw[List.length_append];omega),rfl,q _ I.fresh⟩
noncomputable def rRep:R2:=fun x y H Q=>∃l k xs,x=.ref l∧y=.int k∧H l=some (.lst xs)∧ -(2 ^ 63)≤k∧k < 2 ^ 63∧xs.length * k.toNat≤sizeLine∧
 ∀p,H p=none→Q (.ref p) (upd H p (.lst (List.replicate k.toNat xs).flatten))
theorem apt {α:Type} (xs:List α) (k:Nat):(List.replicate k xs).flatten.length=k * xs.length:=by
 induction k with
 |zero=>simp
 |succ k ih=>rw[List.replicate_succ,List.flatten_cons,List.length_append,ih,Nat.succ_mul,Nat.add_comm]
theorem aoo:OpR X (binaryOp .Mult) rRep:=by
 intro pins s σ H x y v u Q I rx ry h
 obtain⟨l,k,xs,rfl,rfl,hH,h1,h2,hz,q⟩:=h
 cases rx
 obtain⟨t,rfl⟩:=ry
 obtain⟨z,its,n,r,hl,e⟩:=I.lstM hH
 have hlen:its.toArray.size * k.toNat≤sizeLine:=by rw[List.size_toArray,←hl];exact hz
 have hcap:¬its.toArray.size * k.toNat > (2 ^ 63 - 1) / 8:=by
  have:(sizeLine:Nat)≤(2 ^ 63 - 1) / 8:=by decide
  omega
 have hfit:¬(!Builtin.List.listFitsIndex k)=true:=by
  rw[fitsIndex_both h1 h2]
  exact Bool.false_ne_true
 have hlong:¬Builtin.List.listTooLong (its.toArray.size * k.toNat)=true:=by
  rw[notLongL hlen]
  exact Bool.false_ne_true
 have hnew:List.foldl (fun x1 x2=>x1++x2) #[] (List.replicate (if its.toArray.isEmpty=true then 0 else k.toNat) its.toArray)=(List.replicate k.toNat its).flatten.toArray:=by
  have f0:∀m:Nat,List.foldl (fun x1 x2=>x1++x2) #[] (List.replicate m its.toArray)=(List.replicate m its).flatten.toArray:=fun m=>by
   have:=aii its m []
   rw[List.nil_append] at this
   exact this
  rw[f0]
  cases its with
  |nil=>simp
  |cons a r'=>rw[if_neg (by simp)]
 refine wpAny_binaryOp_repeat_ref (T:="list") (U:="int") (by decide) ⟨_,e,rfl⟩ (fun s'=>typeIs_int s' k t) noFill_list_mul F.fills_int_mul F.slot_int_rmul repeat_list F.slot_int_index.lookup
  (call_meets F.slot_int_rmul (typeIs_int s k t) F.entry_int_rmul (F.args_int_rmul_2 _ _) (int___rmul___int_list k t l its.toArray n)
   ⟨e,rfl,⟨_,e,rfl⟩,call_meets F.slot_list_mul ⟨_,e,rfl⟩ F.entry_list_mul (F.args_list_mul_2 _ _) (AutoListH.list___mul___list_int_3 l its.toArray n k t hfit hcap hlong) ⟨e,?_⟩⟩)
 rw[hnew]
 exact⟨.ref _,_,I.lnew (t':=s.toks) (r.rep k.toNat) (by rw[apt,Nat.mul_comm];exact hz),rfl,q _ I.fresh⟩
end
section
variable {prog:Program} {w:World} {A:Around} {E:Value→Shared→Prop} {s:Shared}
end
section
variable {X:Cx}
end
end L2
namespace L2
open PySem PySem.Spec PyProof.Rows
section
variable {κ:Type} [DecidableEq κ]
noncomputable def valV (kvs:List (κ×V)) (k:κ):Option V:=(kvs.find? fun kv=>decide (kv.1=k)).map (·.2)
noncomputable def putK (kvs:List (κ×V)) (k:κ) (v:V):List (κ×V):=
 if (kvs.any fun kv=>decide (kv.1=k))=true then kvs.map (fun kv=>if kv.1=k then (kv.1,v) else kv) else kvs++[(k,v)]
noncomputable def dropK (kvs:List (κ×V)) (k:κ):List (κ×V):=kvs.filter fun kv=>decide (kv.1≠k)
theorem afr {p:κ×V} {r:List (κ×V)} {k:κ} (e:p.1=k):valV (p::r) k=some p.2:=by simp[valV,List.find?_cons,e]
theorem ae8 {p:κ×V} {r:List (κ×V)} {k:κ} (e:¬p.1=k):valV (p::r) k=valV r k:=by simp[valV,List.find?_cons,e]
theorem aho (k:κ):∀kvs:List (κ×V),(kvs.any fun kv=>decide (kv.1=k))=(valV kvs k).isSome
 |[]=>rfl
 |p::r=>by
  rw[List.any_cons]
  by_cases e:p.1=k
  ·simp only[afr e,decide_eq_true e,Bool.true_or,Option.isSome_some]
  ·rw[ae8 e,decide_eq_false e,Bool.false_or];exact aho k r
theorem afk (kvs:List (κ×V)) (k:κ) (v:V):(putK kvs k v).length≤kvs.length+1:=by
 unfold putK
 split
 ·rw[List.length_map];omega
 ·rw[List.length_append,List.length_cons,List.length_nil];omega
theorem RelO.isSome_eq {o:Option V} {u:Option Value} (r:RelO o u):o.isSome=u.isSome:=by
 cases o with
 |none=>cases u with
  |none=>rfl
  |some _=>exact (show False from r).elim
 |some _=>cases u with
  |none=>exact (show False from r).elim
  |some _=>rfl
theorem KV.any {kvs:List (κ×V)} {vs:List (κ×Value)} (r:KV kvs vs) (k:κ):(kvs.any fun kv=>decide (kv.1=k))=vs.any fun kv=>decide (kv.1=k):=by
 unfold KV at r
 induction r with
 |nil=>rfl
 |cons h t ih=>rw[List.any_cons,List.any_cons,ih,h.1]
theorem KV.repl {kvs:List (κ×V)} {vs:List (κ×Value)} (r:KV kvs vs) (k:κ) {y:V} {u:Value} (ry:RelV y u):
  KV (kvs.map fun kv=>if kv.1=k then (kv.1,y) else kv) (vs.map fun kv=>if kv.1=k then (kv.1,u) else kv):=by
 unfold KV at r ⊢
 induction r with
 |nil=>exact .nil
 |@cons p q ps qs h t ih=>
  rw[List.map_cons,List.map_cons]
  refine .cons ?_ ih
  obtain⟨h1,h2⟩:=h
  by_cases e:p.1=k
  ·rw[if_pos e,if_pos (h1.symm.trans e)];exact⟨h1,ry⟩
  ·rw[if_neg e,if_neg (fun z=>e (h1.trans z))];exact⟨h1,h2⟩
theorem KV.put {kvs:List (κ×V)} {vs:List (κ×Value)} (r:KV kvs vs) (k:κ) {y:V} {u:Value} (ry:RelV y u):KV (putK kvs k y) (stored vs k u):=by
 unfold putK stored
 rw[r.any k]
 by_cases e:(vs.any fun kv=>decide (kv.1=k))=true
 ·rw[if_pos e,if_pos e];exact r.repl k ry
 ·rw[if_neg e,if_neg e];exact Paired.snoc r ⟨rfl,ry⟩
theorem KV.length {kvs:List (κ×V)} {vs:List (κ×Value)} (r:KV kvs vs):kvs.length=vs.length:=Paired.length r
theorem ang (kvs:List (κ×V)) (k:κ):(dropK kvs k).length≤kvs.length:=List.length_filter_le _ _
end
theorem kV_is {P:Program} {w:World} {k:Key} {u:Value} (r:RelV (kV k) u):(mixKind P w).is k u=true:=by
 cases k with
 |inl i=>obtain⟨t,e⟩:=(show ∃t,u=Value.int i t from r);subst e;exact ai0 P w i t
 |inr x=>obtain⟨t,e⟩:=(show ∃t,u=Value.str x t from r);subst e;exact ai1 P w x t
theorem aij {P:Program} {w:World}:∀{ks:List Key} {us:List Value},Vals (ks.map kV) us→ItemsAre (mixKind P w) ks us
 |[],_,r=>by rw[List.map_nil] at r;cases r;exact .nil
 |k::ks,_,r=>by
  rw[List.map_cons] at r
  cases r with
  |cons h t=>exact .cons (kV_is h) (aij t)
noncomputable abbrev KT (H:Hp):List (List Key×V)→List (List Key×Addr×Value)→Prop:=Paired fun p q=>p.1=q.1∧H q.2.1=some (.tup (p.1.map kV))∧RelV p.2 q.2.2
theorem KT.val {H:Hp} {kvs:List (List Key×V)} {xs:List (List Key×Addr×Value)} (r:KT H kvs xs) (k:List Key):RelO (valV kvs k) ((atKey xs k).map (·.2)):=by
 induction r with
 |nil=>exact True.intro
 |@cons p q ps qs h t ih=>
  obtain⟨h1,_,h2⟩:=h
  by_cases e:p.1=k
  ·have e':q.1=k:=h1.symm.trans e
   have b:atKey (q::qs) k=some q.2:=by simp[atKey,List.find?_cons,e']
   rw[afr e,b];exact h2
  ·have e':¬q.1=k:=fun z=>e (h1.trans z)
   have b:atKey (q::qs) k=atKey qs k:=by simp[atKey,List.find?_cons,e']
   rw[ae8 e,b];exact ih
theorem KT.repl {H:Hp} {kvs:List (List Key×V)} {xs:List (List Key×Addr×Value)} (r:KT H kvs xs) (k:List Key) {y:V} {u:Value} (ry:RelV y u):
  KT H (kvs.map fun kv=>if kv.1=k then (kv.1,y) else kv) (xs.map (putAt k u)):=by
 induction r with
 |nil=>exact .nil
 |@cons p q ps qs h t ih=>
  rw[List.map_cons,List.map_cons]
  refine .cons ?_ ih
  obtain⟨h1,h2,h3⟩:=h
  unfold putAt
  by_cases e:p.1=k
  ·rw[if_pos e,if_pos (h1.symm.trans e)];exact⟨h1,h2,ry⟩
  ·rw[if_neg e,if_neg (fun z=>e (h1.trans z))];exact⟨h1,h2,h3⟩
theorem KT.put {H:Hp} {kvs:List (List Key×V)} {xs:List (List Key×Addr×Value)} (r:KT H kvs xs) (k:List Key) {b:Addr} {y:V} {u:Value} (hb:H b=some (.tup (k.map kV))) (ry:RelV y u):
  KT H (putK kvs k y) (storedH xs k b u):=by
 have e:(kvs.any fun kv=>decide (kv.1=k))=(atKey xs k).isSome:=by
  rw[aho,(r.val k).isSome_eq,Option.isSome_map]
 unfold putK storedH
 rw[e]
 by_cases q:(atKey xs k).isSome=true
 ·rw[if_pos q,if_pos q];exact r.repl k ry
 ·rw[if_neg q,if_neg q];exact Paired.snoc r ⟨rfl,hb,ry⟩
theorem KT.keeps {H H':Hp} {kvs:List (List Key×V)} {xs:List (List Key×Addr×Value)} (r:KT H kvs xs) (ht:∀b ys,H b=some (.tup ys)→H' b=some (.tup ys)):KT H' kvs xs:=
 Paired.mapP r fun _ _ z=>⟨z.1,ht _ _ z.2.1,z.2.2⟩
section
variable {P:Program} {w:World} {H:Hp} {h:Heap} {a:Addr}
theorem rd_of {u:HO} (ok:HOk P w H h) (e:Rd H a u):ObjOk P w H h a u:=e.ok ok
theorem dk_rd {kvs:List (Key×V)} (ok:HOk P w H h) (e:Rd H a (.dK kvs)):kvs.length≤sizeLine∧(a == sysModules)=false∧∃vs,KV kvs vs∧h.DictOf (mixKind P w) a vs:=
 show ObjOk P w H h a (.dK kvs) from rd_of ok e
theorem dk_of {kvs:List (Key×V)} (ok:HOk P w H h) (e:H a=some (.dK kvs)):kvs.length≤sizeLine∧(a == sysModules)=false∧∃vs,KV kvs vs∧h.DictOf (mixKind P w) a vs:=dk_rd ok (.inl e)
theorem aik {ks:List Key} (ok:HOk P w H h) (e:H a=some (.tup (ks.map kV))):(tupleKind (mixKind P w)).is h ks a:=by
 obtain⟨_,its,r,o,h1,h2,n,h3⟩:=(show ObjOk P w H h a (.tup (ks.map kV)) from ok a _ e)
 exact⟨o,its.toArray,n,h1,h2,h3,by simpa using aij r⟩
theorem apu {kvs:List (List Key×V)} (ok:HOk P w H h) (e:Rd H a (.dT kvs)):kvs.length≤sizeLine∧(a == sysModules)=false∧
  ∃xs,KT H kvs xs∧h.DictOfH (tupleKind (mixKind P w)) a xs:=by
 obtain⟨z,y,xs,r,o,es,ep,h1,h2,h3,h4,h5⟩:=(show ObjOk P w H h a (.dT kvs) from rd_of ok e)
 refine⟨z,y,xs,r,o,es,ep,h1,h2,h3,h4,fun x hx=>?_,h5⟩
 have all:∀{l:List (List Key×V)} {m:List (List Key×Addr×Value)},KT H l m→∀x∈m,(tupleKind (mixKind P w)).is h x.1 x.2.1:=by
  intro l m q
  induction q with
  |nil=>intro x hx;exact nomatch hx
  |@cons p q ps qs hq t ih=>
   intro x hx
   rcases List.mem_cons.mp hx with e|hx
   ·subst e
    exact aik ok (by rw[←hq.1];exact hq.2.1)
   ·exact ih x hx
 exact all r x hx
theorem ail {kvs:List (List Key×V)} (ok:HOk P w H h) (e:H a=some (.dT kvs)):kvs.length≤sizeLine∧(a == sysModules)=false∧
 ∃xs,KT H kvs xs∧h.DictOfH (tupleKind (mixKind P w)) a xs:=apu ok (.inl e)
end
noncomputable def DGet (H:Hp) (a:Addr) (y:V) (r:Option V):Prop:=
 (∃kvs k,Rd H a (.dK kvs)∧y=kV k∧r=valV kvs k)∨∃kvs k b,Rd H a (.dT kvs)∧y=.ref b∧H b=some (.tup (k.map kV))∧r=valV kvs k
noncomputable def DPut (H:Hp) (a:Addr) (y v:V) (H':Hp):Prop:=
 (∃kvs k,H a=some (.dK kvs)∧y=kV k∧kvs.length < sizeLine∧H'=upd H a (.dK (putK kvs k v)))∨
 ∃kvs k b,H a=some (.dT kvs)∧y=.ref b∧H b=some (.tup (k.map kV))∧kvs.length < sizeLine∧H'=upd H a (.dT (putK kvs k v))
theorem DGet.k {H:Hp} {a:Addr} {kvs:List (Key×V)} {k:Key} (e:H a=some (.dK kvs)):DGet H a (kV k) (valV kvs k):=.inl ⟨kvs,k,.inl e,rfl,rfl⟩
theorem DGet.t {H:Hp} {a b:Addr} {kvs:List (List Key×V)} {k:List Key} (e:H a=some (.dT kvs)) (eb:H b=some (.tup (k.map kV))):DGet H a (.ref b) (valV kvs k):=.inr ⟨kvs,k,b,.inl e,rfl,eb,rfl⟩
theorem DPut.k {H:Hp} {a:Addr} {kvs:List (Key×V)} {k:Key} {v:V} (e:H a=some (.dK kvs)) (hl:kvs.length < sizeLine):DPut H a (kV k) v (upd H a (.dK (putK kvs k v))):=.inl ⟨kvs,k,e,rfl,hl,rfl⟩
section
variable {X:Cx} {pins:List (Addr×Obj)} {σ:St} {H:Hp} {s:Shared} {a:Addr} {y v:V} {u r:Value} {o:Option V} {A:Around} {E:Value→Shared→Prop}
theorem Inv.big (I:Inv X pins σ H s):sysModules < s.heap.objs.size:=by
 have h:mainGlobals < s.heap.objs.size:=(I.mod.glob.keeps I.bk).lt
 exact Nat.lt_trans (by decide) h
theorem agp {h':Heap} {t':Nat} {ob:HO} (I:Inv X pins σ H s) (mu:Mut (H a)) (hs:Heap.SameBut a s.heap h') (he:∃q,h'.get? a=some q) (new:ObjOk X.prog X.w (upd H a ob) h' a ob):
  Inv X pins σ (upd H a ob) {s with heap:=h',toks:=t'}:=
 I.write (x:=a) (e:=a) mu (.inl rfl) (fun b q hb z=>(hs.2 b hb).trans z) he new
theorem dk_new {P:Program} {w:World} {H':Hp} {h':Heap} {kvs:List (Key×V)} {vs:List (Key×Value)} (z:kvs.length≤sizeLine) (hd:(a == sysModules)=false) (rel:KV kvs vs) (dd:h'.DictOf (mixKind P w) a vs):
 ObjOk P w H' h' a (.dK kvs):=⟨z,hd,vs,rel,dd⟩
theorem alg {H':Hp} {Q:Unit→Shared→Prop} (hu:A.units+1 < cLine) (I:Inv X pins σ H s) (g:DPut H a y v H') (ry:RelV y u) (rv:RelV v r) (h:∀s',Inv X pins σ H' s'→Q () s'):
  wpAny (model X.prog X.w) A (setItem (.ref a) u r) Q E s:=by
 rcases g with ⟨kvs,k,e,ey,l,eH⟩|⟨kvs,k,b,e,ey,eb,l,eH⟩
 ·subst ey eH
  obtain⟨z,hd,vs,rel,dd⟩:=dk_of I.hok e
  have hz:vs.length≤sizeLine:=by rw[←rel.length];exact z
  have hl:(putK kvs k v).length≤sizeLine:=by have:=afk kvs k v;omega
  refine wpAny_setItem_pairs (hsz:=hz) (kV_is ry) dd fun h' dd' hs=>h _ ?_
  have he:∃q,h'.get? a=some q:=let ⟨q,_,_,hq,_⟩:=dd';⟨q,hq⟩
  exact agp I (by rw[e];exact True.intro) hs he (dk_new hl hd (rel.put k rv) dd')
 ·subst ey eH
  cases (show u=Value.ref b from ry)
  obtain⟨z,hd,xs,rel,dd⟩:=ail I.hok e
  have hz:xs.length≤sizeLine:=by rw[←Paired.length rel];exact z
  have hl:(putK kvs k v).length≤sizeLine:=by have:=afk kvs k v;omega
  refine wpAny_setItem_heap (hsz:=hz) (tupleKind_room_in1 hu) (aik I.hok eb) dd fun h' dd' hs=>h _ ?_
  obtain⟨q,es,ep,hq,h2,h3,h4,_,h5⟩:=dd'
  refine agp I (by rw[e];exact True.intro) hs ⟨q,hq⟩ ⟨hl,hd,_,(rel.put k eb rv).keeps fun c ys ec=>?_,q,es,ep,hq,h2,h3,h4,h5⟩
  rw[aaf (aca ec e (fun z=>nomatch z))]
  exact ec
end
section
variable {X:Cx} {pins:List (Addr×Obj)} {σ:St} {H:Hp} {s:Shared} {a:Addr} {kvs:List (Key×V)} {k:Key} {u:Value} {A:Around} {E:Value→Shared→Prop}
end
noncomputable def sDPut (td ty tv:TE):TS:=fun D σ H=>tv σ H fun v H1=>td σ H1 fun x H2=>ty σ H2 fun y H3=>∃a H4,x=.ref a∧DPut H3 a y v H4∧D.nx σ H4
section
variable {X:Cx} {o i e value:Expr} {pos pos' tpos:Pos} {td ty tv:TE}
theorem apv (hu:X.A.units+1 < cLine) (ho:PE X o td) (hi:PE X i ty) (hv:PE X value tv) (hs:swapsWith value (some (.Subscript o i pos')) pos.line X.env=pure false):
  PS X (.Assign [.Subscript o i pos'] value pos) (sDPut td ty tv):=by
 intro pins s σ H D I h
 refine wpAny_Assign_Subscript (thn (hv pins s σ H _ I h) fun r s1 ⟨v,H1,I1,rv,q1⟩=>thn (ho pins s1 σ H1 _ I1 q1) fun u s2 ⟨x,H2,I2,rx,q2⟩=>thn (hi pins s2 σ H2 _ I2 q2) fun iv s3 ⟨y,H3,I3,ry,a,H4,ex,g,q3⟩=>?_) hs
 subst ex
 obtain rfl:u=Value.ref a:=rx
 exact alg hu I3 g ry rv fun s4 I4=>⟨σ,H4,I4,q3⟩
end
theorem ajo {P:Program} {w:World} {H:Hp} (h:Heap) (hb:sysModules < h.objs.size):ObjOk P w H (h.push {cls:=.type "dict",data:=.dict #[]}) h.objs.size (.dT []):=
 ⟨Nat.zero_le _,beq_eq_false_iff_ne.mpr (Ne.symm (Nat.ne_of_lt hb)),[],.nil,_, #[],0,Heap.get?_push_size _ rfl,⟨rfl,rfl,rfl⟩,rfl,rfl,List.nodup_nil⟩
noncomputable def tDNewT:TE:=fun _ H Q=>∀p,H p=none→Q (.ref p) (upd H p (.dT []))
section
variable {X:Cx} {pos:Pos}
theorem anh:PE X (.Dict [] [] pos) tDNewT:=fun pins s σ H Q I h=>
 wpAny_Dict_empty ⟨.ref s.heap.objs.size,_,I.laid (a:=s.heap.objs.size) (o:=.dT []) (t':=s.toks) (fun _ _ q=>Heap.get?_push_of_some _ q) (Nat.le_refl _) (ajo s.heap I.big),rfl,h _ (I.hok.fresh (Nat.le_refl _))⟩
end
structure M1 (X:Cx) (o:Expr) (m:Str) (apos:Pos) (e:Expr) (cpos:Pos):Prop where
 base:attributeBase o m X.env (eval o X.env)=eval o X.env
 few:((backTo cpos (starEach [e] X.env)).all (fun x=> !x.1)&&(backToKw cpos (keywordEach [] X.env)).all (fun x=>x.1.isSome)
  &&decide (([e]:List Expr).length+([]:List Keyword).length+(if ([]:List Keyword).isEmpty then 0 else 1) < 30))=true
 line:(apos.endLine == cpos.line)=true
 trees:backTo cpos (starEach [e] X.env)=[(false,eval e X.env)]
structure M2 (X:Cx) (o:Expr) (m:Str) (apos:Pos) (e f:Expr) (cpos:Pos):Prop where
 base:attributeBase o m X.env (eval o X.env)=eval o X.env
 few:((backTo cpos (starEach [e,f] X.env)).all (fun x=> !x.1)&&(backToKw cpos (keywordEach [] X.env)).all (fun x=>x.1.isSome)
  &&decide (([e,f]:List Expr).length+([]:List Keyword).length+(if ([]:List Keyword).isEmpty then 0 else 1) < 30))=true
 line:(apos.endLine == cpos.line)=true
 trees:backTo cpos (starEach [e,f] X.env)=[(false,eval e X.env),(false,eval f X.env)]
noncomputable def IsD (H:Hp) (a:Addr):Prop:=(∃kvs,Rd H a (.dK kvs))∨∃kvs,Rd H a (.dT kvs)
theorem aop {X:Cx} {pins:List (Addr×Obj)} {σ:St} {H:Hp} {s:Shared} {a:Addr} (I:Inv X pins σ H s) (d:IsD H a):
  s.TypeIs (.ref a) "dict"∧(∀b,Value.ref a=.ref b→∃ob,s.heap.get? b=some ob∧ob.dict=none)∧(a == sysModules)=false:=by
 rcases d with ⟨kvs,e⟩|⟨kvs,e⟩
 ·obtain⟨_,hd,vs,_,dd⟩:=dk_rd I.hok e
  refine⟨dd.typeIs,fun b q=>?_,hd⟩
  cases q
  obtain⟨ob,_,_,h1,h2,_⟩:=dd
  exact⟨ob,h1,h2.2.1⟩
 ·obtain⟨_,hd,xs,_,dd⟩:=apu I.hok e
  refine⟨dd.typeIs,fun b q=>?_,hd⟩
  cases q
  obtain⟨ob,_,_,h1,h2,_⟩:=dd
  exact⟨ob,h1,h2.2.1⟩
section
variable {X:Cx} {pins:List (Addr×Obj)} {σ:St} {H:Hp} {s:Shared} {a:Addr} {y d:V} {u r:Value} {o:Option V} {A:Around} {E:Value→Shared→Prop}
end
section
variable {X:Cx} {o e f:Expr} {apos cpos:Pos} {td ty tx:TE}
end
section
variable {X:Cx} {pins:List (Addr×Obj)} {σ:St} {H:Hp} {s:Shared} {a:Addr} {kvs:List (Key×V)} {A:Around} {E:Value→Shared→Prop}
end
section
variable {X:Cx} {pins:List (Addr×Obj)} {σ:St} {H:Hp} {s:Shared} {a:Addr} {y:V} {u:Value} {A:Around} {E:Value→Shared→Prop}
end
end L2
namespace Att
open PySem PySem.W PySem.Calls PyProof.Rows
theorem agq {P:Params} {h:Heap}:∀(ns:List Int) (vs:List Value),WellAll P h vs (ns.map WData.int)→IntsAre vs ns:=by
 intro ns
 induction ns with
 |nil=>
  intro vs w
  rw[List.map_nil] at w
  cases w
  exact .nil
 |cons n ns ih=>
  intro vs w
  rw[List.map_cons] at w
  cases w with
  |cons a b=>
   cases a
   exact .cons _ _ (ih _ b)
theorem alh {l:OpenLaw} {n:Nat} (hn:l.most=some n) {P:Params} {h:Heap} {args:List WData} {vals:List Value}
  (hpre:l.row.toRowW.claim.pre args=true) (hwl:WellAll P h vals args):
  ∃a vs ns,vals=[Value.ref a]∧args=[WData.list (ns.map WData.int)]∧h.get? a=some {cls:=.type "list",data:=.seq vs.toArray}∧IntsAre vs ns∧ns.length≤n:=by
 have hsh:WShape.hasAll [] args [.list .int]=true:=(pre_splitW hpre).1
 have hc:l.pre.holds [] {args:=args}=true:=(pre_splitW hpre).2
 obtain⟨d,r,rfl,h1,h2⟩:=hasAllW_cons hsh
 obtain rfl:=hasAllW_nil h2
 obtain⟨xs,rfl,h3⟩:=hasW_list h1
 obtain⟨ns,rfl⟩:=items_int h3
 have hlen:ns.length≤n:=by
  unfold OpenLaw.pre at hc
  have h4:(WTm.not (.lt (.lit (.int (n:Int))) (.len (.arg 0)))).holds [] {args:=[.list (ns.map .int)]}=true:=by
   have h4:=(holds_andW hc).1
   rw[hn] at h4
   exact h4
  have h5:=condW_of h4 (w_not (w_lt w_lit (w_len_list (w_arg rfl))))
  rw[List.length_map] at h5
  refine Nat.le_of_not_lt fun q=>?_
  have q':(n:Int) < ((ns.length:Nat):Int):=by omega
  first
   |(rw[decide_eq_true q'] at h5;exact absurd h5 (by decide))
   |(simp at h5;omega)
 cases hwl with
 |cons w1 w2=>
  cases w2
  cases w1 with
  |list ho hall=>exact⟨_,_,ns,rfl,rfl,ho,agq ns _ hall,hlen⟩
theorem ali (l:OpenLaw) (args:List WData):l.row.toRowW.claim.post args (.bool true) args=true:=
 postW_of (r:=l.row.toRowW) (X:=(true == true))
  (show WShape.has [] (.bool true) .bool=true by first|rfl|decide|simp[WShape.has,WShape.arms,WShape.armsAll])
  (show (WTm.eq .res (.lit (.bool true))).value [] {args:=args,res:=some (.bool true),after:=args}=some (.bool (true == true)) from w_eq_bool (w_res rfl) w_lit) rfl
theorem ai5 {l:OpenLaw} {n:Nat} {q:Program} {loose:List Str} {XP:(Str→Option Value)→Heap→Prop} {YP:World→Heap→Prop} {d:DefRec}
  (hn:l.most=some n) (hdf:d.params.defaults=[])
  (call:∀(w:World) (s₀ s₁:Shared) (mg mb:Str→Option Value) (fa:Addr) (o:Obj) (pm cd doc:Value) (a:Addr) (vs:List Value) (ns:List Int),
   Ground q loose [] XP w s₀ mg mb s₁.heap→YP w s₁.heap→
   s₁.heap.get? fa=some o→o.data=.func (docDef d.name d.params d.body d.scope pm cd doc)→s₁.heap.CodeRec cd d.name→mg d.name=some (.ref fa)→
   s₁.heap.get? a=some {cls:=.type "list",data:=.seq vs.toArray}→IntsAre vs ns→ns.length≤n→s₁.gens= #[]→
   codeAny (model l.prog w) callerA (.call (.ref fa) ⟨[.ref a],[]⟩) (fun r s'=>r=.ok (.ret (.bool true))∧OldK s₁.heap s'.heap∧s'.os=s₁.os∧AllBare s'.gens) s₁):
  WalkO q loose XP YP l.row.toRowW d [] (fun f vs=>PySem.call f vs):=by
 intro w s₀ s₁ mg mb G Y fa o pm cd doc dV kV ho hd hcd hD hmg hg args vals as hpre hlay hrd hwl hlo
 obtain rfl:dV=.none:=Dflts.none hD hdf
 obtain rfl:kV=.none:=Dflts.noKw hD
 obtain⟨a,vs,ns,rfl,rfl,hobj,hints,hlen⟩:=alh hn hpre hwl
 refine enter_call (codeAny_mono (call w s₀ s₁ mg mb fa o pm cd doc a vs ns G Y ho (fd_plain hd) hcd hmg hobj hints hlen hg) fun r s' hq=>?_)
 obtain⟨rfl,h2,h3,h4⟩:=hq
 exact⟨.inl ⟨.bool true,.bool true,[],rfl,fun _=>rfl,.bool true,ali l _,fun _=>⟨List.Pairwise.nil,fun _ hm=>(nomatch hm)⟩⟩,h2,h3,h4⟩
section
variable {prog:Program} {w:World} {A:Around} {E:Value→Shared→Prop} {s:Shared} {K:Frag}
noncomputable def ledger (h:Heap) (L d:Addr):List (Addr×Obj):=(List.range h.objs.size).filterMap fun a=>if a=L∨a=d then none else (h.get? a).map fun o=>(a,o)
end
end Att
namespace L2
open PySem PySem.Spec PyProof.Rows
theorem aim:∀{vs:List Value} {ns:List Int},IntsAre vs ns→Vals (ns.map V.int) vs
 |_,_,.nil=>.nil
 |_,_,.cons n t h=>.cons ⟨t,rfl⟩ (aim h)
noncomputable def Only (H:Hp):Prop:=∀b,H b=none∨∃o xs,H b=some (.frz o (.lst xs))
theorem ani {P:Program} {w:World} {K:PySem.W.Frag} {mg mb:Str→Option Value} {CX:CXT} {k:Nat} {fa a:Addr} {fd:FuncData} {x:Str} {sp:Sp} {s₁:Shared} {vs:List Value} {ns:List Int}
  (KX:K.In s₁.heap) (hns:s₁.heap.Ns mainGlobals mg) (hb:s₁.heap.Ns builtinsNs mb) (hbb:∀x:Str,x≠"__name__"→mb x=bootBuiltins x) (hlim:s₁.heap.NoLimit) (hg:s₁.gens= #[])
  (ha:s₁.heap.get? a=some {cls:=.type "list",data:=.seq vs.toArray}) (hi:IntsAre vs ns) (hl:ns.length≤sizeLine) (hr:Room k callerA)
  (F:∀base:Heap,K.In base→base.Ns mainGlobals mg→FnOk P w K mg base CX k fa fd [x] sp) (hbind:∀(s:Shared) (u:Value),BindsTo s fd ⟨[u],[]⟩ [(x,u)])
  (hsp:∀H:Hp,Only H→SqL K H a (ns.map V.int)→sp [.ref a] H (fun v _=>v=.bl true) fun _ _ _=>False)
  (hCX:∀H e s',CX [] H s₁ (fun _ _ _=>False) e s'→False):
  codeAny (model P w) callerA (.call (.ref fa) ⟨[.ref a],[]⟩) (fun r s'=>r=.ok (.ret (.bool true))∧OldK s₁.heap s'.heap∧s'.os=s₁.os∧AllBare s'.gens) s₁:=by
 have rv:=aim hi
 have lenV:=hi.length
 have core:∀H:Hp,Only H→SqL K H a (ns.map V.int)→HOk P w H s₁.heap→(∀b,H b≠none→b=a)→(H a≠none→K.lookup a=none)→
   codeAny (model P w) callerA (.call (.ref fa) ⟨[.ref a],[]⟩) (fun r s'=>r=.ok (.ret (.bool true))∧OldK s₁.heap s'.heap∧s'.os=s₁.os∧AllBare s'.gens) s₁:=by
  intro H hO hS hok hA hK
  have base_of:∀{b:Addr} {o:Obj},s₁.heap.get? b=some o→H b=none→(hidT s₁.heap H).get? b=some o:=fun e n=>am7 e n
  have noA:∀{b:Addr} {o:Obj} {es:Array DictEntry} {ep:Nat},s₁.heap.get? b=some o→o.data=.dict es ep→H b=none:=fun {b o es ep} e d=>by
   cases q:H b with
   |none=>rfl
   |some u=>
    have e':b=a:=hA b (by rw[q];simp)
    subst e'
    rw[ha] at e;cases e
    have d':Data.seq vs.toArray _=Data.dict es ep:=d
    cases d'
  have nsK:∀{b:Addr} {m:Str→Option Value},s₁.heap.Ns b m→(hidT s₁.heap H).Ns b m:=fun {b m} ⟨o,es,ep,e,d,r⟩=>⟨o,es,ep,base_of e (noA e d),d,r⟩
  have hKb:K.In (hidT s₁.heap H):=fun b o e=>base_of (KX b o e) (by
   cases q:H b with
   |none=>rfl
   |some u=>
    have e':b=a:=hA b (by rw[q];simp)
    subst e'
    rw[hK (by rw[q];simp)] at e;cases e)
  have hM:Mod K mg (hidT s₁.heap H):=⟨hKb,nsK hns,⟨mb,nsK hb,hbb⟩,let ⟨mc,h1,h2⟩:=hlim;⟨mc,nsK h1,h2⟩⟩
  have e0:Env0 P w K mg (hidT s₁.heap H) callerA [] s₁ H:=⟨rfl,hM,fun b o e=>apl e,Nat.le_of_eq (ak0 _ _),trivial,fun b hb=>absurd (show b∈([]:List Addr) from hb) (by simp),hok,.of_eq hg⟩
  refine codeAny_mono ((F _ hKb (nsK hns)).run callerA [] s₁ H ⟨[.ref a],[]⟩ [.ref a] [.ref a] _ _ hr e0 (hbind s₁ (.ref a)) (.cons rfl .nil) (hsp H hO hS)) fun r s' h=>?_
  cases r with
  |error e=>exact (hCX H e s' h).elim
  |ok fl=>
   cases fl with
   |next=>exact False.elim h
   |brk=>exact False.elim h
   |cont=>exact False.elim h
   |ret u=>
    obtain⟨v,H',os,bare,un,hok',r',q⟩:=h
    have q':v=.bl true:=q
    subst q'
    obtain rfl:u=Value.bool true:=r'
    refine⟨rfl,OldK.of_keep fun b o e=>?_,os,bare⟩
    cases q:H b with
    |none=>exact un.keep b o e q (by intro z;exact absurd (show b∈([]:List Addr) from z) (by simp)) (by simp)
    |some u=>
     rcases hO b with z|⟨ob,xs,z⟩
     ·rw[q] at z;cases z
     ·have z2:=un.frzs b ob _ z
      obtain⟨e1,_⟩:=hok b _ z
      obtain⟨e2,_⟩:=hok' b _ z2
      rw[e] at e1;cases e1
      exact e2
 cases hk:K.lookup a with
 |some o=>
  have e:=KX a o hk
  rw[ha] at e
  cases e
  refine core (fun _=>none) (fun _=>.inl rfl) (.inr ⟨_,vs.toArray,_,hk,rfl,rfl,rfl,by rw[List.size_toArray,lenV];exact hl,by simpa using rv⟩) (fun b u z=>by have z':(none:Option HO)=some u:=z;cases z') (fun b z=>absurd rfl z) fun z=>absurd rfl z
 |none=>
  refine core (fun b=>if b=a then some (.frz {cls:=.type "list",data:=.seq vs.toArray} (.lst (ns.map V.int))) else none) (fun b=>?_) (.inl (.inr ⟨{cls:=.type "list",data:=.seq vs.toArray},if_pos rfl⟩)) (fun b u z=>?_) (fun b z=>?_) fun _=>hk
  ·by_cases hb:b=a
   ·exact .inr ⟨_,_,if_pos hb⟩
   ·exact .inl (if_neg hb)
  ·by_cases hb:b=a
   ·have z':=(if_pos hb).symm.trans z
    cases z'
    subst hb
    exact⟨ha,by rw[List.length_map];exact hl,vs,_,rv,ha⟩
   ·have z':=(if_neg hb).symm.trans z
    cases z'
  ·by_cases hb:b=a
   ·exact hb
   ·exact absurd (if_neg hb) z
end L2
namespace L2
open PySem PySem.Spec PyProof.Rows
theorem apw {l:PySem.W.OpenLaw} {n k:Nat} {q:Program} {loose:List Str} {XP:(Str→Option Value)→Heap→Prop} {YP:World→Heap→Prop} {d:DefRec} {K:Params→PySem.W.Frag} {CX:World→CXT} {sp:World→Sp} {x:Str}
  (hn:l.most=some n) (hn2:n≤sizeLine) (hdf:d.params.defaults=[]) (hr:Room k callerA)
  (hY:∀(w:World) (h:Heap),YP w h→(K w.params).In h)
  (F:∀(w:World) (mg:Str→Option Value) (fa:Addr) (h:Heap),(K w.params).In h→h.Ns mainGlobals mg→mg d.name=some (.ref fa)→
   ∃fd:FuncData,(∀(s:Shared) (u:Value),BindsTo s fd ⟨[u],[]⟩ [(x,u)])∧
    ∀base:Heap,(K w.params).In base→base.Ns mainGlobals mg→FnOk l.prog w (K w.params) mg base (CX w) k fa fd [x] (sp w))
  (hsp:∀(w:World) (H:Hp) (a:Addr) (ns:List Int),ns.length≤n→Only H→SqL (K w.params) H a (ns.map V.int)→sp w [.ref a] H (fun v _=>v=.bl true) fun _ _ _=>False)
  (hCX:∀(w:World) (H:Hp) (s:Shared) (e:Value) (s':Shared),CX w [] H s (fun _ _ _=>False) e s'→False):
  PySem.W.WalkO q loose XP YP l.row.toRowW d [] (fun f vs=>PySem.call f vs):=by
 refine Att.ai5 hn hdf fun w s₀ s₁ mg mb fa o pm cd doc a vs ns G Y ho hd hcd hmg hobj hints hlen hg=>?_
 have KX:=hY w _ Y
 obtain⟨fd,hb,hF⟩:=F w mg fa _ KX G.T.g hmg
 exact ani KX G.T.g G.T.b G.T.builtins G.T.nolimit hg hobj hints (Nat.le_trans hlen hn2) hr hF hb (fun H hO hS=>hsp w H a ns hlen hO hS) fun H e s'=>hCX w H s₁ e s'
end L2
namespace L2
open PySem PySem.Spec PyProof.Rows
noncomputable def inClass (s:Stmt) (j:Nat):Stmt:=match s with
 |.ClassDef _ _ _ body _ _ _ _ _ _ _=>body.getD j (.Pass ⟨0,0,0,0⟩)
 |_=>.Pass ⟨0,0,0,0⟩
noncomputable def defArgs (s:Stmt):Arguments:=match s with
 |.FunctionDef _ a _ _ _ _ _ _ _ _=>a
 |_=>{posonlyargs:=[],args:=[],vararg:=none,kwonlyargs:=[],kw_defaults:=[],kwarg:=none,defaults:=[]}
noncomputable def defBody (s:Stmt):List Stmt:=match s with
 |.FunctionDef _ _ b _ _ _ _ _ _ _=>b
 |_=>[]
noncomputable def defScope (s:Stmt):Scope:=match s with
 |.FunctionDef _ _ _ _ _ _ sc _ _ _=>sc
 |_=>{kind:=.function,names:=[],isGenerator:=false,isCoroutine:=false}
noncomputable abbrev CX0:CXT:=fun _ _ _ _ _ _=>False
structure Fun (K:PySem.W.Frag) (x qual:Str) (st:Stmt) (f:Addr) (fd:FuncData):Prop where
 ex:∃(oc:Value) (od:Option Addr) (kV doc pm:Value) (an:Option Addr) (cdv ct:Value) (osl:Array (Option Value)),
  fd=PySem.W.fnOf x qual (defArgs st) (defBody st) (defScope st) .none kV doc pm an cdv ct∧K.lookup f=some ⟨oc,od,.func fd,osl⟩∧PySem.W.codeIn K cdv qual=true
 kp:PySem.W.keepIn K (.ref f)=true
section
variable {P:Program} {w:World} {K:PySem.W.Frag} {mg:Str→Option Value} {base:Heap}
theorem Fun.ok {x qual:Str} {st:Stmt} {f:Addr} {fd:FuncData} {N ps:List Str} {k:Nat} {sp:Sp} (F:Fun K x qual st f fd) (S:FnScope N ps (defScope st)) (len:∀vs H Q E,sp vs H Q E→vs.length=ps.length)
  (hbody:∀(cdv:Value) (A:Around) (outer:List Env) (s:Shared) (H:Hp) (vs:List V) (Q:VK) (E:XK),Room k (A.deeper (envOfC qual (defScope st) s.heap.objs.size f cdv))→sp vs H Q E→
   ∃t,PSs (cxOf CX0 P w K mg base N qual (defScope st) f cdv A outer s H E).nox (defBody st) t∧t {nx:=fun _ H'=>Q .non H',rt:=Q} (start N vs) H):FnOk P w K mg base CX0 (k+1) f fd ps sp:=by
 obtain⟨oc,od,kV,doc,pm,an,cdv,ct,osl,rfl,lk,hcd⟩:=F.ex
 refine apr lk hcd S len fun A outer s H vs Q E hr hsp=>?_
 obtain⟨t,h,q⟩:=hbody cdv A outer s H vs Q E hr hsp
 exact⟨t,h.nox,q⟩
theorem Fun.binds {x qual:Str} {st:Stmt} {f:Addr} {fd:FuncData} {ps:List Str} (F:Fun K x qual st f fd)
  (h:∀(kV doc pm:Value) (an:Option Addr) (cdv ct:Value) (us:List Value),us.length=ps.length→bindArgs (PySem.W.fnOf x qual (defArgs st) (defBody st) (defScope st) .none kV doc pm an cdv ct) ⟨us,[]⟩=pure (ps.zip us)):Binds K fd ps []:=by
 obtain⟨oc,od,kV,doc,pm,an,cdv,ct,osl,rfl,lk,hcd⟩:=F.ex
 exact .all (h kV doc pm an cdv ct)
theorem aap {x qual:Str} {st:Stmt} {f:Addr} {oc:Value} {od an:Option Addr} {osl:Array (Option Value)} {kV doc pm cdv ct:Value} (l:K.lookup f=some ⟨oc,od,.func (PySem.W.fnOf x qual (defArgs st) (defBody st) (defScope st) .none kV doc pm an cdv ct),osl⟩)
 (c:PySem.W.codeIn K cdv qual=true) (k:PySem.W.keepIn K (.ref f)=true):Fun K x qual st f (PySem.W.fnOf x qual (defArgs st) (defBody st) (defScope st) .none kV doc pm an cdv ct):=⟨⟨oc,od,kV,doc,pm,an,cdv,ct,osl,rfl,l,c⟩,k⟩
end
theorem anj {A:Around} {k:Nat} (hr:Room k A):A.units+1 < cLine:=Nat.lt_of_le_of_lt (Nat.add_le_add_left (by decide:1≤64) _) hr.units
section
variable {X:Cx}
end
theorem iteF {A B:Prop} (h:B):if false=true then A else B:=by
 rw[if_neg Bool.false_ne_true]
 exact h
theorem iteT {A B:Prop} (h:A):if true=true then A else B:=by
 rw[if_pos rfl]
 exact h
theorem ite2 {c A B:Prop} [Decidable c] (h1:c→A) (h2:¬c→B):if c then A else B:=by
 by_cases h:c
 ·rw[if_pos h]
  exact h1 h
 ·rw[if_neg h]
  exact h2 h
noncomputable def Same (H H':Hp):Prop:=∀b o,H b=some o→H' b=some o
theorem Same.trans {H H1 H2:Hp} (a:Same H H1) (b:Same H1 H2):Same H H2:=fun c o h=>b c o (a c o h)
theorem Same.free {H H':Hp} (e:Same H H') {l:Addr} (h:H' l=Option.none):H l=Option.none:=by
 cases q:H l with
 |none=>rfl
 |some o=>
  rw[e l o q] at h
  cases h
theorem Same.seq {K:PySem.W.Frag} {H H':Hp} {a:Addr} {xs:List V} (e:Same H H') (h:SqL K H a xs):SqL K H' a xs:=by
 rcases h with (h|⟨o,h⟩)|h
 ·exact .inl (.inl (e _ _ h))
 ·exact .inl (.inr ⟨o,e _ _ h⟩)
 ·exact .inr h
section
variable {κ:Type} [DecidableEq κ]
end
end L2
set_option maxHeartbeats 4000000
namespace L2
open PySem PySem.Spec PyProof.Rows
structure Fly (B:Heap) (l:List Env) (h:Heap) (H H':Hp) (h':Heap) (ea:Addr) (cls:Value):Prop where
 fl:∃a0,Heap.FlyingW B l ea cls a0 h'
 trk:∀b u,H' b=some u→∃o,B.get? b=some o
 kept:∀b o,h.get? b=some o→H b=none→b∉frs l→B.get? b=some o
 alive:∀b o,h.get? b=some o→b∉frs l→∃o',B.get? b=some o'
noncomputable def CXe (P:Program) (w:World):CXT:=fun outer H s E e s'=>∃ea cls H' B,e=.ref ea∧s'.os=s.os∧AllBare s'.gens∧Un (frs outer) [] H H' s.heap s'.heap∧HOk P w H' s'.heap∧Fly B outer s.heap H H' s'.heap ea cls∧E cls none H'
noncomputable abbrev XKs:=Value→St→Hp→Prop
noncomputable def XW (X:Cx) (K:XKs):Prop:=∀(pins:List (Addr×Obj)) (σ:St) (H:Hp) (s s':Shared) (ea:Addr) (cls:Value) (H':Hp) (B:Heap),Inv X pins σ H s→s'.os=s.os→AllBare s'.gens→
 Un (frs X.stack) [] H H' s.heap s'.heap→HOk X.prog X.w H' s'.heap→Fly B X.stack s.heap H H' s'.heap ea cls→K cls σ H'→X.xe (.ref ea) s'
theorem ajp {env:Env} {l:List Env} {L:Addr} (h:env.frame=some L):frs (env::l)=L::frs l:=by
 unfold frs;rw[List.filterMap_cons,h]
theorem HOk.flown {P:Program} {w:World} {H:Hp} {B h h':Heap} (x:HOk P w H h) (t:∀b u,H b=some u→∃o,B.get? b=some o) (s:B.StaysIn h) (s':B.StaysIn h'):HOk P w H h':=fun a o e=>
 (x a o e).stay (fun b u hb q=>by
  have hB:∃o,B.get? b=some o:=by
   rcases hb with rfl|hb
   ·exact t _ _ e
   ·exact t _ _ hb
  obtain⟨o',ho⟩:=hB
  have e1:=s b o' ho
  rw[q] at e1;cases e1
  exact s' b _ ho) (fun _ q=>q) fun _ _ q=>q
theorem aat {P:Program} {w:World} {K:PySem.W.Frag} {mg:Str→Option Value} {base:Heap} {N:List Str} {qual:Str} {scope:Scope} {f:Addr} {cd:Value} {A:Around} {outer:List Env} {s0:Shared} {H0:Hp} {E:XK}:
  XW (cxOf (CXe P w) P w K mg base N qual scope f cd A outer s0 H0 E) (fun c _ H'=>E c none H'):=by
 intro pins σ H s s' ea cls H' B I os bare un hok fly hK
 have I':=I.call' (s':=s') (ch:=[]) os un hok bare (fun b z=>absurd z (by simp))
 have hfr:=I.ok.frames
 have hstk:(cxOf (CXe P w) P w K mg base N qual scope f cd A outer s0 H0 E).stack=envOfC qual scope s0.heap.objs.size f cd::outer:=rfl
 rw[hstk] at hfr
 obtain⟨a0,hfl⟩:=fly.fl
 have hf:(envOfC qual scope s0.heap.objs.size f cd).frame=some s0.heap.objs.size:=rfl
 show wpAny _ _ (leaving (envOfC qual scope s0.heap.objs.size f cd) (.ref ea)) _ _ s'
 refine wpAny_leaves_onW hfr hf hfl fun h' fl' up=>?_
 have hfs:frs (envOfC qual scope s0.heap.objs.size f cd::outer)=s0.heap.objs.size::frs outer:=ajp hf
 have nf:∀b o,s0.heap.get? b=some o→b∉frs outer→b∉frs (envOfC qual scope s0.heap.objs.size f cd::outer):=fun b o e n z=>by
  rw[hfs] at z
  rcases List.mem_cons.mp z with z|z
  ·exact absurd (Heap.lt_size e) (by rw[z];exact Nat.lt_irrefl _)
  ·exact n z
 have stay:∀b o,s0.heap.get? b=some o→H0 b=none→b∉frs outer→B.get? b=some o:=fun b o e n hb=>
  fly.kept b o (I.base.keep b o e n hb (by intro z;exact absurd z (by simp[cxOf]))) (I.base.free b o e n (by intro z;exact absurd z (by simp[cxOf]))) (nf b o e hb)
 have live:∀b o,s0.heap.get? b=some o→b∉frs outer→∃o',B.get? b=some o':=fun b o e hb=>by
  obtain⟨o1,e1⟩:=I.base.there b o e (by intro z;exact absurd z (by simp[cxOf]))
  exact fly.alive b o1 e1 (nf b o e hb)
 refine⟨ea,cls,H',B,rfl,I'.os,bare,?_,hok.flown fly.trk hfl.1 fl'.1,⟨⟨a0,fl'⟩,fly.trk,stay,live⟩,hK⟩
 have noA:∀b:Addr,b∉(cxOf (CXe P w) P w K mg base N qual scope f cd A outer s0 H0 E).ex:=fun b z=>absurd z (by simp[cxOf])
 have slotOf:∀b,b∈frs outer→∀o,s'.heap.get? b=some o→∃sl,h'.get? b=some {o with slots:=sl}:=fun b hb o e=>by
  have hm:b∈frs (envOfC qual scope s0.heap.objs.size f cd::outer):=by rw[hfs];exact List.mem_cons_of_mem _ hb
  obtain⟨_,o',ho',hd⟩:=hfl.2.2.1.mem hm
  rw[e] at ho';cases ho'
  exact up b o e hd
 refine⟨fun b o e n hb _=>fl'.1 b o (stay b o e n hb),fun b o e n hb _=>?_,fun b o e n _=>I'.base.free b o e n (noA b),fun b o e _=>?_,I'.base.tups,I'.base.frzs,I'.base.tbls⟩
 ·obtain⟨sl,e1⟩:=I'.base.slot b o e n hb (noA b)
  obtain⟨sl',e2⟩:=slotOf b hb _ e1
  exact⟨sl',e2⟩
 ·by_cases hb:b∈frs outer
  ·obtain⟨o1,e1⟩:=I'.base.there b o e (noA b)
   obtain⟨sl,e2⟩:=slotOf b hb _ e1
   exact⟨_,e2⟩
  ·obtain⟨o1,e1⟩:=live b o e hb
   exact⟨o1,fl'.1 b o1 e1⟩
noncomputable def Have (P:Program) (w:World) (K:PySem.W.Frag) (mg:Str→Option Value) (base:Heap) (x:Str) (k:Nat) (ps:List Str) (dvs:List V) (sp:Sp):Prop:=
 ∃f fd ds,mg x=some (.ref f)∧PySem.W.keepIn K (.ref f)=true∧Binds K fd ps ds∧Vals dvs ds∧FnOk P w K mg base (CXe P w) k f fd ps sp
noncomputable def HaveM (P:Program) (w:World) (K:PySem.W.Frag) (mg:Str→Option Value) (base:Heap) (C:Addr) (m:Str) (k:Nat) (ps:List Str) (dvs:List V) (sp:Sp):Prop:=
 ∃f fd ds,Meth K C m f∧Binds K fd ps ds∧Vals dvs ds∧FnOk P w K mg base (CXe P w) k f fd ps sp
noncomputable def HaveI (P:Program) (w:World) (K:PySem.W.Frag) (mg:Str→Option Value) (base:Heap) (x:Str) (C:Addr) (k:Nat) (ps:List Str) (dvs:List V) (sp:Sp):Prop:=
 ∃f fd ds,mg x=some (.ref C)∧Mk K C f∧Binds K fd ps ds∧Vals dvs ds∧FnOk P w K mg base (CXe P w) k f fd ps sp
noncomputable def tCallE (Kx:XKs) (sp:Sp) (dvs:List V) (t:TA):TE:=fun σ H Q=>t σ H fun vs H1=>sp (vs++dvs) H1 Q (fun c _ H'=>Kx c σ H')
noncomputable def tMethE (Kx:XKs) (C:Addr) (m:Str) (sp:Sp) (dvs:List V) (ta:TE) (t:TA):TE:=fun σ H Q=>ta σ H fun x H1=>∃a dx fs,x=.ref a∧H1 a=some (.ins C dx fs)∧fs.lookup m=none∧
 t σ H1 fun vs H2=>sp (x::(vs++dvs)) H2 Q (fun c _ H'=>Kx c σ H')
noncomputable def tMakeE (Kx:XKs) (C:Addr) (sp:Sp) (dvs:List V) (t:TA):TE:=fun σ H Q=>t σ H fun vs H1=>∀x dx,H1 x=none→H1 dx=none→dx≠x→
 sp (.ref x::(vs++dvs)) (upd (upd H1 dx (.own x)) x (.ins C dx [])) (fun v H2=>v=.non∧Q (.ref x) H2) (fun c _ H'=>Kx c σ H')
section
variable {X:Cx} {Kx:XKs} {k:Nat} {f C:Addr} {fd:FuncData} {ps:List Str} {sp:Sp} {dvs:List V} {ds:List Value} {x m:Str} {p pos apos:Pos} {e o:Expr} {es:List Expr} {ta:TE} {t:TA}
theorem ai6 {pins:List (Addr×Obj)} {σ:St} {H:Hp} {s:Shared} {Q:VK} {us:List Value} {vs:List V} (F:FnOk X.prog X.w X.K X.mg X.base (CXe X.prog X.w) k f fd ps sp) (hr:Room k X.A) (hb:Binds X.K fd ps ds) (hd:Vals dvs ds) (hx:XW X Kx)
  (I:Inv X pins σ H s) (r:Vals vs us) (h:sp (vs++dvs) H Q (fun c _ H'=>Kx c σ H')):wpAny (model X.prog X.w) X.A (call (.ref f) us) (EP X pins σ Q) X.xe s:=by
 have r2:Vals (vs++dvs) (us++ds):=r.append hd
 have hl:(us++ds).length=ps.length:=by rw[←r2.length];exact F.len _ _ _ _ h
 refine wpAny_call (codeAny_mono (F.run X.A X.stack s H ⟨us,[]⟩ (us++ds) (vs++dvs) Q _ hr I.env0 (hb s us I.kIn hl) r2 h) fun r s' hq=>?_)
 cases r with
 |error e=>
  obtain⟨ea,cls,H',B,rfl,os,bare,un,hok,fly,hK⟩:=hq
  exact hx pins σ H s s' ea cls H' B I os bare un hok fly hK
 |ok fl=>
  cases fl with
  |ret u=>exact I.after hq
  |next=>exact False.elim hq
  |brk=>exact False.elim hq
  |cont=>exact False.elim hq
theorem aba (F:Have X.prog X.w X.K X.mg X.base x k ps dvs sp) (hr:Room k X.A) (hx:XW X Kx) (ha:PA X (e::es) t) (hg:Gl X x:=by rfl) (hdb:(x == ("__debug__":Str))=false:=by decide)
  (he:starEach (e::es) X.env=(false,eval e X.env)::starEach es X.env:=by rfl) (hpl:(backTo pos (starEach es X.env)).any (·.1)=false:=by rfl):
  PE X (.Call (.Name x p) (e::es) [] pos) (tCallE Kx sp dvs t):=by
 obtain⟨f,fd,ds,hm,hk,hb,hd,F⟩:=F
 intro pins s σ H Q I h
 refine wpAny_Call_Name_kw (ahk I hg hm ?_ hdb)
 refine PySem.W.callWith_K (h₀:=X.base) I.ok.mod.kin hk (thn (ha pos pins s σ H _ I h) fun us s1 ⟨vs,H1,I1,r,q⟩=>⟨I1.kIn,?_⟩) he hpl
 exact ai6 F hr hb hd hx I1 r q
theorem aa6 {pl:Sem Bool} (ho:PE X o ta) (c:Cls X.K C) (F:HaveM X.prog X.w X.K X.mg X.base C m k ps dvs sp) (hr:Room k X.A) (hx:XW X Kx) (ha:PA X (e::es) t)
  (hst:starEach (e::es) X.env=(false,eval e X.env)::starEach es X.env:=by rfl) (hpl:(backTo pos (starEach es X.env)).any (·.1)=false:=by rfl)
  (ht:eval (.Call (.Attribute o m apos) (e::es) [] pos) X.env=(do
   let ov←eval o X.env
   standAt apos.atName
   let (f,first)←holding [ov] (getMethod ov m pl)
   callWith pos f first (backTo pos (starEach (e::es) X.env)) (backToKw pos (keywordEach [] X.env))):=by rfl):
  PE X (.Call (.Attribute o m apos) (e::es) [] pos) (tMethE Kx C m sp dvs ta t):=by
 obtain⟨f,fd,ds,hm,hb,hd,F⟩:=F
 intro pins s σ H Q I h
 refine PySem.W.methodCall_KW (pl:=pl) (thn (ho pins s σ H _ I h) fun u s1 ⟨x,H1,I1,rx,a,dx,fs,ex,ea,l,q⟩=>?_) ht
 subst ex
 obtain rfl:u=Value.ref a:=rx
 refine ag8 I1 ea c hm l ?_
 refine PySem.W.callWith_K (first:=[.ref a]) (h₀:=X.base) I.ok.mod.kin hm.kp (thn (ha pos pins s1 σ H1 _ I1 q) fun us s2 ⟨vs,H2,I2,r,q2⟩=>⟨I2.kIn,?_⟩) hst hpl
 exact ai6 (us:=.ref a::us) (vs:=.ref a::vs) F hr hb hd hx I2 (.cons rfl r) q2
theorem abb {pl:Sem Bool} (ho:PE X o ta) (c:Cls X.K C) (F:HaveM X.prog X.w X.K X.mg X.base C m k ps dvs sp) (hr:Room k X.A) (hx:XW X Kx)
  (ht:eval (.Call (.Attribute o m apos) [] [] pos) X.env=(do
   let ov←eval o X.env
   standAt apos.atName
   let (f,first)←holding [ov] (getMethod ov m pl)
   callWith pos f first (backTo pos (starEach [] X.env)) (backToKw pos (keywordEach [] X.env))):=by rfl):
  PE X (.Call (.Attribute o m apos) [] [] pos) (tMethE Kx C m sp dvs ta tNil):=by
 obtain⟨f,fd,ds,hm,hb,hd,F⟩:=F
 intro pins s σ H Q I h
 refine PySem.W.methodCall_KW (pl:=pl) (thn (ho pins s σ H _ I h) fun u s1 ⟨x,H1,I1,rx,a,dx,fs,ex,ea,l,q⟩=>?_) ht
 subst ex
 obtain rfl:u=Value.ref a:=rx
 refine ag8 I1 ea c hm l ?_
 exact PySem.W.callWith_K0 (first:=[.ref a]) I1.kIn hm.kp (ai6 (us:=[.ref a]) (vs:=[.ref a]) F hr hb hd hx I1 (.cons rfl .nil) q)
theorem alj {pins:List (Addr×Obj)} {σ:St} {H:Hp} {s:Shared} {Q:VK} {us:List Value} {vs:List V} (M:Mk X.K C f) (F:FnOk X.prog X.w X.K X.mg X.base (CXe X.prog X.w) k f fd ps sp) (hr:Room (k+1) X.A) (hb:Binds X.K fd ps ds) (hd:Vals dvs ds)
  (hx:XW X Kx) (I:Inv X pins σ H s) (r:Vals vs us)
  (h:∀x dx,H x=none→H dx=none→dx≠x→sp (.ref x::(vs++dvs)) (upd (upd H dx (.own x)) x (.ins C dx [])) (fun v H2=>v=.non∧Q (.ref x) H2) (fun c _ H'=>Kx c σ H')):
  wpAny (model X.prog X.w) X.A (call (.ref C) us) (EP X pins σ Q) X.xe s:=by
 have hq:=h (s.heap.objs.size+1) s.heap.objs.size (I.hok.fresh (Nat.le_succ _)) (I.hok.fresh (Nat.le_refl _)) (Nat.ne_of_lt (Nat.lt_succ_self _))
 have I2:=Inv.made (C:=C) I
 have r2:Vals (V.ref (s.heap.objs.size+1)::(vs++dvs)) (Value.ref (s.heap.objs.size+1)::(us++ds)):=.cons rfl (r.append hd)
 have hl:(Value.ref (s.heap.objs.size+1)::us++ds).length=ps.length:=by
  have e:=r2.length
  rw[F.len _ _ _ _ hq] at e
  exact e.symm
 refine wpAny_call (ane (f:=f) I.kIn M.makes M.init (beq_iff_eq.mp M.fn) (codeAny_mono (F.run _ X.stack _ _ ⟨Value.ref (s.heap.objs.size+1)::us,[]⟩ (Value.ref (s.heap.objs.size+1)::(us++ds)) _ _ _ (hr.make C us [])
  (I2.env0.make C us []) (hb _ (Value.ref (s.heap.objs.size+1)::us) I2.kIn hl) r2 hq) fun r s' hq'=>?_))
 cases r with
 |error e=>
  obtain⟨ea,cls,H',B,rfl,os,bare,un,hok,fly,hK⟩:=hq'
  exact hx pins σ _ _ s' ea cls H' B I2 os bare un hok fly hK
 |ok fl=>
  cases fl with
  |ret u=>
   obtain⟨v,H',I3,rv,ev,q3⟩:=I2.after hq'
   subst ev
   exact⟨rv,⟨V.ref (s.heap.objs.size+1),H',I3,rfl,q3⟩⟩
  |next=>exact False.elim hq'
  |brk=>exact False.elim hq'
  |cont=>exact False.elim hq'
theorem af9 (F:HaveI X.prog X.w X.K X.mg X.base x C k ps dvs sp) (hr:Room (k+1) X.A) (hx:XW X Kx) (ha:PA X (e::es) t) (hg:Gl X x:=by rfl) (hdb:(x == ("__debug__":Str))=false:=by decide)
  (he:starEach (e::es) X.env=(false,eval e X.env)::starEach es X.env:=by rfl) (hpl:(backTo pos (starEach es X.env)).any (·.1)=false:=by rfl):
  PE X (.Call (.Name x p) (e::es) [] pos) (tMakeE Kx C sp dvs t):=by
 obtain⟨f,fd,ds,hm,M,hb,hd,F⟩:=F
 intro pins s σ H Q I h
 refine wpAny_Call_Name_kw (ahk I hg hm ?_ hdb)
 refine PySem.W.callWith_K (h₀:=X.base) I.ok.mod.kin M.kp (thn (ha pos pins s σ H _ I h) fun us s1 ⟨vs,H1,I1,r,q⟩=>⟨I1.kIn,?_⟩) he hpl
 exact alj M F hr hb hd hx I1 r q
theorem act {n:String} (hg:Gl X x) (hm:X.mg x=none) (hv:bootBuiltins x=some (.type n)) (hn:x≠"__name__":=by decide) (hd:(x == ("__debug__":Str))=false:=by decide):PE X (.Name x pos) (tC (.ty n)):=apm hg hm hv rfl hn hd
end
noncomputable def Raw (K:PySem.W.Frag) (mg:Str→Option Value) (x qual:Str) (st:Stmt) (ps:List Str) (dvs:List V):Prop:=∃f fd ds,mg x=some (.ref f)∧Fun K x qual st f fd∧Binds K fd ps ds∧Vals dvs ds
noncomputable def RawM (K:PySem.W.Frag) (C:Addr) (m qual:Str) (st:Stmt) (ps:List Str) (dvs:List V):Prop:=∃f fd ds,Meth K C m f∧Fun K m qual st f fd∧Binds K fd ps ds∧Vals dvs ds
noncomputable def RawI (K:PySem.W.Frag) (mg:Str→Option Value) (x:Str) (C:Addr) (qual:Str) (st:Stmt) (ps:List Str) (dvs:List V):Prop:=∃f fd ds,mg x=some (.ref C)∧Mk K C f∧Fun K "__init__" qual st f fd∧Binds K fd ps ds∧Vals dvs ds
section
variable {P:Program} {w:World} {K:PySem.W.Frag} {mg:Str→Option Value} {base:Heap}
noncomputable def Body (P:Program) (w:World) (K:PySem.W.Frag) (mg:Str→Option Value) (base:Heap) (qual:Str) (st:Stmt) (N:List Str) (k:Nat) (sp:Sp):Prop:=
 ∀(f:Addr) (cdv:Value) (A:Around) (outer:List Env) (s:Shared) (H:Hp) (vs:List V) (Q:VK) (E:XK),Room k (A.deeper (envOfC qual (defScope st) s.heap.objs.size f cdv))→sp vs H Q E→
  ∃t,PSs (cxOf (CXe P w) P w K mg base N qual (defScope st) f cdv A outer s H E) (defBody st) t∧t {nx:=fun _ H'=>Q .non H',rt:=Q} (start N vs) H
theorem Fun.okE {x qual:Str} {st:Stmt} {f:Addr} {fd:FuncData} {N ps:List Str} {k:Nat} {sp:Sp} (F:Fun K x qual st f fd) (S:FnScope N ps (defScope st)) (len:∀vs H Q E,sp vs H Q E→vs.length=ps.length)
  (hbody:Body P w K mg base qual st N k sp):FnOk P w K mg base (CXe P w) (k+1) f fd ps sp:=by
 obtain⟨oc,od,kV,doc,pm,an,cdv,ct,osl,rfl,lk,hcd⟩:=F.ex
 exact apr lk hcd S len fun A outer s H vs Q E hr hsp=>hbody f cdv A outer s H vs Q E hr hsp
theorem Raw.have {x qual:Str} {st:Stmt} {N ps:List Str} {dvs:List V} {k:Nat} {sp:Sp} (R:Raw K mg x qual st ps dvs) (S:FnScope N ps (defScope st)) (len:∀vs H Q E,sp vs H Q E→vs.length=ps.length)
  (hbody:Body P w K mg base qual st N k sp):Have P w K mg base x (k+1) ps dvs sp:=
 let ⟨f,fd,ds,hm,F,hb,hd⟩:=R
 ⟨f,fd,ds,hm,F.kp,hb,hd,F.okE S len hbody⟩
theorem RawM.have {C:Addr} {m qual:Str} {st:Stmt} {N ps:List Str} {dvs:List V} {k:Nat} {sp:Sp} (R:RawM K C m qual st ps dvs) (S:FnScope N ps (defScope st)) (len:∀vs H Q E,sp vs H Q E→vs.length=ps.length)
  (hbody:Body P w K mg base qual st N k sp):HaveM P w K mg base C m (k+1) ps dvs sp:=
 let ⟨f,fd,ds,hm,F,hb,hd⟩:=R
 ⟨f,fd,ds,hm,hb,hd,F.okE S len hbody⟩
theorem RawI.have {C:Addr} {x qual:Str} {st:Stmt} {N ps:List Str} {dvs:List V} {k:Nat} {sp:Sp} (R:RawI K mg x C qual st ps dvs) (S:FnScope N ps (defScope st)) (len:∀vs H Q E,sp vs H Q E→vs.length=ps.length)
  (hbody:Body P w K mg base qual st N k sp):HaveI P w K mg base x C (k+1) ps dvs sp:=
 let ⟨f,fd,ds,hm,M,F,hb,hd⟩:=R
 ⟨f,fd,ds,hm,M,hb,hd,F.okE S len hbody⟩
end
end L2
namespace L2
open PySem PySem.Spec PyProof.Rows
noncomputable def XR (X:Cx) (K:XKs):Prop:=∀(pins:List (Addr×Obj)) (σ:St) (H:Hp) (s:Shared) (h':Heap) (e:Addr) (cls:Value) (args:List Value),Inv X pins σ H s→Heap.MadeExcOf s.heap h' e cls args→K cls σ H→X.xe (.ref e) {s with heap:=h'}
theorem HOk.alive {P:Program} {w:World} {H:Hp} {h:Heap} (x:HOk P w H h) {b:Addr} {u:HO} (e:H b=some u):∃o,h.get? b=some o:=by
 have q:=x b u e
 cases u with
 |lst xs=>obtain⟨_,_,_,_,e⟩:=q;exact⟨_,e⟩
 |tup xs=>obtain⟨_,_,_,⟨o,e,_⟩⟩:=q;exact⟨_,e⟩
 |dK kvs=>obtain⟨_,_,_,_,o,_,_,e,_⟩:=q;exact⟨_,e⟩
 |dT kvs=>obtain⟨_,_,_,_,o,_,_,e,_⟩:=q;exact⟨_,e⟩
 |set S n=>obtain⟨o,_,_,_,e,_⟩:=q;exact⟨_,e⟩
 |ins C dx fs=>obtain⟨_,_,_,e,_⟩:=q;exact⟨_,e⟩
 |own y=>exact q
 |xd fs=>obtain⟨_,⟨_,_,_,e,_⟩,_⟩:=q;exact⟨_,e⟩
 |rng lo hi=>obtain⟨_,_,_,e⟩:=q;exact⟨_,e⟩
 |frz ob u=>obtain⟨e,_⟩:=q;exact⟨_,e⟩
 |tbl ps=>exact⟨_,q⟩
 |met f y=>exact⟨_,q⟩
 |ext φ=>obtain⟨_,e,_⟩:=q;exact e
theorem xr_def {P:Program} {w:World} {K:PySem.W.Frag} {mg:Str→Option Value} {base:Heap} {N:List Str} {qual:Str} {scope:Scope} {f:Addr} {cd:Value} {A:Around} {outer:List Env} {s0:Shared} {H0:Hp} {E:XK}:
  XR (cxOf (CXe P w) P w K mg base N qual scope f cd A outer s0 H0 E) (fun c _ H'=>E c none H'):=by
 intro pins σ H s h1 ea cls args I mk hK
 have hfr:=I.ok.frames
 have hstk:(cxOf (CXe P w) P w K mg base N qual scope f cd A outer s0 H0 E).stack=envOfC qual scope s0.heap.objs.size f cd::outer:=rfl
 have hfun:=I.stack
 have hfree:=I.stkFree
 rw[hstk] at hfr hfun hfree
 have hf:(envOfC qual scope s0.heap.objs.size f cd).frame=some s0.heap.objs.size:=rfl
 have hfs:frs (envOfC qual scope s0.heap.objs.size f cd::outer)=s0.heap.objs.size::frs outer:=ajp hf
 have noA:∀b:Addr,b∉(cxOf (CXe P w) P w K mg base N qual scope f cd A outer s0 H0 E).ex:=fun b z=>absurd z (by simp[cxOf])
 have nf:∀b o,s0.heap.get? b=some o→b∉frs outer→b∉frs (envOfC qual scope s0.heap.objs.size f cd::outer):=fun b o e n z=>by
  rw[hfs] at z
  rcases List.mem_cons.mp z with z|z
  ·exact absurd (Heap.lt_size e) (by rw[z];exact Nat.lt_irrefl _)
  ·exact n z
 show wpAny _ _ (leaving (envOfC qual scope s0.heap.objs.size f cd) (.ref ea)) _ _ _
 refine wpAny_leaves_madeW (base:=PySem.W.hideAll s.heap (frs (envOfC qual scope s0.heap.objs.size f cd::outer))) (h:=s.heap) hfr hf (fun b o q=>PySem.W.of_hideAll _ q)
  (PySem.W.funFrames_hide hfun fun env he b hb=>List.mem_filterMap.mpr ⟨env,he,hb⟩) mk fun h' t fl' _ _ up=>?_
 have inB:∀b o,s.heap.get? b=some o→b∉frs (envOfC qual scope s0.heap.objs.size f cd::outer)→(PySem.W.hideAll s.heap (frs (envOfC qual scope s0.heap.objs.size f cd::outer))).get? b=some o:=fun b o e n=>PySem.W.hideAll_get _ e n
 have stay:∀b o,s0.heap.get? b=some o→H0 b=none→b∉frs outer→(PySem.W.hideAll s.heap (frs (envOfC qual scope s0.heap.objs.size f cd::outer))).get? b=some o:=fun b o e n hb=>
  inB b o (I.base.keep b o e n hb (noA b)) (nf b o e hb)
 have live:∀b o,s0.heap.get? b=some o→b∉frs outer→∃o',(PySem.W.hideAll s.heap (frs (envOfC qual scope s0.heap.objs.size f cd::outer))).get? b=some o':=fun b o e hb=>by
  obtain⟨o1,e1⟩:=I.base.there b o e (noA b)
  exact⟨o1,inB b o1 e1 (nf b o e hb)⟩
 have trk:∀b u,H b=some u→∃o,(PySem.W.hideAll s.heap (frs (envOfC qual scope s0.heap.objs.size f cd::outer))).get? b=some o:=fun b u e=>by
  obtain⟨o,ho⟩:=I.hok.alive e
  exact⟨o,inB b o ho fun z=>by rw[hfree b z] at e;cases e⟩
 have slotOf:∀b,b∈frs outer→∀o,s.heap.get? b=some o→∃sl,h'.get? b=some {o with slots:=sl}:=fun b hb o e=>by
  have hm:b∈frs (envOfC qual scope s0.heap.objs.size f cd::outer):=by rw[hfs];exact List.mem_cons_of_mem _ hb
  obtain⟨_,o',ho',hd⟩:=hfun.mem hm
  rw[e] at ho';cases ho'
  exact up b o (mk.keeps b o e) hd
 refine⟨ea,cls,H,_,rfl,I.os,I.bare,?_,I.hok.flown trk (fun b o q=>PySem.W.of_hideAll _ q) fl'.1,⟨⟨_,fl'⟩,trk,stay,live⟩,hK⟩
 refine⟨fun b o e n hb _=>fl'.1 b o (stay b o e n hb),fun b o e n hb _=>?_,fun b o e n _=>I.base.free b o e n (noA b),fun b o e _=>?_,I.base.tups,I.base.frzs,I.base.tbls⟩
 ·obtain⟨sl,e1⟩:=I.base.slot b o e n hb (noA b)
  obtain⟨sl',e2⟩:=slotOf b hb _ e1
  exact⟨sl',e2⟩
 ·by_cases hb:b∈frs outer
  ·obtain⟨o1,e1⟩:=I.base.there b o e (noA b)
   obtain⟨sl,e2⟩:=slotOf b hb _ e1
   exact⟨_,e2⟩
  ·obtain⟨o1,e1⟩:=live b o e hb
   exact⟨o1,fl'.1 b o1 e1⟩
abbrev mroVE:List Value:=[.type "ValueError",.type "Exception",.type "BaseException",.type "object"]
structure XC (K:PySem.W.Frag) (mg:Str→Option Value) (x:Str) (C:Addr):Prop where
 m:mg x=some (.ref C)
 ex:PySem.W.excIn K C mroVE "ValueError.__new__"=true
theorem apx {K:PySem.W.Frag} {h:Heap} {C:Addr} {l:List Value} {id:String} (hin:K.In h) (q:PySem.W.excIn K C l id=true):
  ∃bm N nm qn bs hdct sn sub ab col dd k0 k1 k2 k3 k5 mN,h.get? C=some (excClassObj nm qn C N bs bm hdct sn sub ab col dd k0 k1 k2 k3 k5 id)∧h.Ns N mN∧mN "__init__"=none∧OwnTail h l bm:=by
 unfold PySem.W.excIn at q
 split at q
 case h_2=>cases q
 case h_1 dd cd sl ho=>
  split at q
  case h_2=>cases q
  case h_1 C' bm k0 k1 k2 k3 n k5 hm hs=>
   rw[Bool.and_eq_true,Bool.and_eq_true,Bool.and_eq_true,Bool.and_eq_true,Bool.and_eq_true] at q
   obtain⟨⟨⟨⟨⟨q1,q2⟩,q3⟩,q4⟩,q5⟩,q6⟩:=q
   have e1:=beq_iff_eq.mp q1
   have e2:=beq_iff_eq.mp q2
   have e6:=beq_iff_eq.mp q6
   subst e1 e2
   obtain⟨nm,bs,mro,ns,qn,hd,sn,sub,ab,col,del⟩:=cd
   have e3:del=false:=by
    cases del with
    |false=>rfl
    |true=>cases q3
   have hm':mro=.ref C'::bm:=hm
   subst e3 hm'
   obtain⟨l'⟩:=sl
   have hs':l'=[k0,k1,k2,k3,some (.builtin n),k5]:=hs
   subst hs'
   exact⟨bm,ns,nm,qn,bs,hd,sn,sub,ab,col,dd,k0,k1,k2,k3,k5,_,hin _ _ ho,.of_isNs (PySem.W.isNs_of_in hin q5),PySem.W.nsMap_none_of_in hin q5 e6,PySem.W.tail_of_in hin q4⟩
noncomputable def tRaise (Kx:XKs) (C:Addr) (t:TA):TS:=fun _ σ H=>t σ H fun vs H1=>vs.length≤sizeLine∧Kx (.ref C) σ H1
theorem ank {X:Cx} {Kx:XKs} {C:Addr} {x:Str} {np cpos pos:Pos} {e:Expr} {es:List Expr} {t:TA} (hx:XR X Kx) (hc:X.calm=true) (c:XC X.K X.mg x C) (ha:PA X (e::es) t) (hg:Gl X x:=by rfl) (hd:(x == ("__debug__":Str))=false:=by decide)
  (he:starEach (e::es) X.env=(false,eval e X.env)::starEach es X.env:=by rfl) (hpl:(backTo cpos (starEach es X.env)).any (·.1)=false:=by rfl):
  PS X (.Raise (some (.Call (.Name x np) (e::es) [] cpos)) none pos) (tRaise Kx C t):=by
 intro pins s σ H D I h
 obtain⟨bm,N,nm,qn,bs,hdct,sn,sub,ab,col,dd,k0,k1,k2,k3,k5,mN,hC,hN,hni,T⟩:=apx I.mod.kin c.ex
 refine wpAny_Raise_call_subT (C:=C) (nm:=nm) (q:=qn) (N:=N) (bs:=bs) (bm:=bm) (hdct:=hdct) (sn:=sn) (sub:=sub) (ab:=ab) (col:=col) (dd:=dd) (k0:=k0) (k1:=k1) (k2:=k2) (k3:=k3) (k5:=k5) (mN:=mN) PySem.F.excBase_ValueError (T.hasType PySem.F.excBase_ValueError.hasBase) (I.ok.hd hc) (by rw[he];show (false || (backTo cpos (starEach es X.env)).any (·.1))=false;rw[hpl];rfl) hni
  (ahk I hg c.m ⟨rfl,?_⟩ hd)
 have q:=ha cpos pins s σ H _ I h
 rw[he] at q ⊢
 refine Calls.evalArgs_plain (wpAny_mono q (fun us s2 hq=>?_) fun _ _ y=>y)
 obtain⟨vs,H1,I1,r,hl,hk⟩:=hq
 exact⟨rfl,by rw[←r.length];exact hl,I1.bk _ _ hC,hN.keeps I1.bk,T.keeps I1.bk,fun h' ea mk=>hx pins σ H1 s2 h' ea (.ref C) us I1 mk hk⟩
theorem Inv.flown {X:Cx} {pins:List (Addr×Obj)} {σ:St} {H H':Hp} {s s':Shared} {B h5:Heap} {ea:Addr} {cls:Value} (I:Inv X pins σ H s) (I':Inv X pins σ H' s') (fly:Fly B X.stack s.heap H H' s'.heap ea cls)
  (st:B.StaysIn h5) (up:s'.heap.UpToSlots h5):Inv X pins σ H' {s' with heap:=h5}:=by
 obtain⟨a0,hfl⟩:=fly.fl
 have nf:∀b,b∉X.fs→b≠X.env.locals→b∉frs X.stack:=fun b h1 h2 z=>by
  rcases List.mem_cons.mp (I.stkSub b z) with q|q
  ·exact h2 q
  ·exact h1 q
 have lt0:∀b o,X.s₀.heap.get? b=some o→b≠X.env.locals:=fun b o e=>Nat.ne_of_lt (Nat.lt_of_lt_of_le (Heap.lt_size e) I.ok.above)
 have cellK:∀{c:Addr} {v:Option Value},s'.heap.IsCell c v→h5.IsCell c v:=fun {c v} ⟨o,ho,hd⟩=>by
  obtain⟨sl,e⟩:=up c o ho fun vs z=>by rw[hd] at z;cases z
  exact⟨_,e,hd⟩
 have slotOf:∀b,b∈X.fs→∀o,s'.heap.get? b=some o→∃sl,h5.get? b=some {o with slots:=sl}:=fun b hb o e=>by
  obtain⟨_,o',ho',hd⟩:=I'.funs.mem hb
  rw[e] at ho';cases ho'
  exact up b o e hd
 refine⟨I'.ok,I'.os,I'.bare,⟨fun b o e n hb hx=>?_,fun b o e n hb hx=>?_,I'.base.free,fun b o e hx=>?_,I'.base.tups,I'.base.frzs,I'.base.tbls⟩,?_,fun x c e=>?_,I'.free,I'.freeC,fun p hp=>?_,I'.hok.flown fly.trk hfl.1 st,I'.len⟩
 ·exact st b o (fly.kept b o (I.base.keep b o e n hb hx) (I.base.free b o e n hx) (nf b hb (lt0 b o e)))
 ·obtain⟨sl,e1⟩:=I'.base.slot b o e n hb hx
  obtain⟨sl',e2⟩:=slotOf b hb _ e1
  exact⟨sl',e2⟩
 ·by_cases hb:b∈X.fs
  ·obtain⟨o1,e1⟩:=I'.base.there b o e hx
   obtain⟨sl,e2⟩:=slotOf b hb _ e1
   exact⟨_,e2⟩
  ·obtain⟨o1,e1⟩:=I.base.there b o e hx
   obtain⟨o2,e2⟩:=fly.alive b o1 e1 (nf b hb (lt0 b o e))
   exact⟨o2,st b o2 e2⟩
 ·obtain⟨m,hn,hl⟩:=I'.loc
  refine⟨m,up.ns hn,fun i x v e1 e2 e3=>?_⟩
  obtain⟨u,r,l⟩:=hl i x v e1 e2 e3
  refine⟨u,r,?_⟩
  rcases l with l|⟨k,c,e,z⟩
  ·exact .inl l
  ·exact .inr ⟨k,c,e,cellK z⟩
 ·obtain⟨v,z⟩:=I'.cell x c e
  exact⟨v,cellK z⟩
 ·obtain⟨e,n,ne,nfs,d⟩:=I.pin p hp
  obtain⟨_,n',_,_,_⟩:=I'.pin p hp
  exact⟨st _ _ (fly.kept p.1 p.2 e n (nf p.1 nfs ne)),n',ne,nfs,d⟩
structure XH (K:PySem.W.Frag) (mg:Str→Option Value) (x:Str) (D:Addr):Prop where
 m:mg x=some (.ref D)
 ty:PySem.W.typeIn K (.ref D)=some (.type "type")
 cl:∃cd,PySem.W.clsIn K D=some cd
 be:PySem.W.mroIn K D (.type "BaseException")=some true
noncomputable def XSub (K:PySem.W.Frag) (C D:Addr):Prop:=PySem.W.mroIn K C (.ref D)=some true
theorem alk {K:PySem.W.Frag} {M:Model} {A:Around} {E:Value→Shared→Prop} {Q:Bool→Shared→Prop} {s:Shared} {mg:Str→Option Value} {x:Str} {ea C D:Addr} {o:Obj} (hin:K.In s.heap) (c:XH K mg x D) (sub:XSub K C D)
  (ho:s.heap.get? ea=some o) (hcl:o.cls=.ref C) (q:Q true s):wpAny M A (excMatches (.ref ea) (.ref D)) Q E s:=by
 obtain⟨cd,hcd⟩:=c.cl
 have L1:=PySem.W.looks_typeIn (M:=M) hin c.ty
 have L2':=PySem.W.looks_mroIn (M:=M) hin c.be
 have L3:=PySem.W.looks_mroIn (M:=M) hin sub
 have L4:PySem.W.Looks M s.heap (typeOf (.ref ea)) (.ref C):=hcl ▸ (PySem.W.Looks.ld ho).andThen .now
 have L5:PySem.W.Looks M s.heap (isType (.ref D)) true:=by
  unfold PySem.W.clsIn at hcd
  split at hcd
  ·rename_i ho'
   intro A' Q' E' s' k q'
   unfold isType loadHead
   exact wpAny_bind (wpAny_loadPart (k _ _ (hin _ _ ho')) (wpAny_pure q'))
  ·cases hcd
 have L6:PySem.W.Looks M s.heap (isExcClass (.ref D)) true:=L5.andThen L2'
 obtain⟨h,g,d,t,os⟩:=s
 have f:=tc_notTuple
 unfold excMatches isInstance
 refine wpAny_bind (wpAny_bind (L1.at ?_))
 rw[f]
 refine wpAny_pure ?_
 simp only[Bool.false_eq_true,if_false]
 refine wpAny_bind (wpAny_pure ?_)
 rw[List.forIn_cons]
 refine wpAny_bind (wpAny_bind (wpAny_bind (L6.at ?_)))
 simp only[Bool.not_true,Bool.false_eq_true,if_false]
 refine wpAny_pure ?_
 dsimp only
 rw[List.forIn_nil]
 refine wpAny_pure ?_
 refine wpAny_bind (L4.at ?_)
 rw[List.forIn_cons]
 refine wpAny_bind (wpAny_bind (wpAny_bind (L3.at ?_)))
 simp only[if_true]
 refine wpAny_pure ?_
 dsimp only
 refine wpAny_pure ?_
 exact wpAny_pure q
end L2
namespace L2
open PySem PySem.Spec PyProof.Rows
noncomputable def kdO:Option HO→String
 |some (.lst _)=>"list"
 |some (.frz _ (.lst _))=>"list"
 |some (.tup _)=>"tuple"
 |some (.dK _)=>"dict"
 |some (.dT _)=>"dict"
 |_=>""
noncomputable def kd (H:Hp):V→String
 |.non=>"NoneType"
 |.bl _=>"bool"
 |.int _=>"int"
 |.str _=>"str"
 |.ref a=>kdO (H a)
 |_=>""
noncomputable def Kn (H:Hp) (x:V):Prop:=kd H x≠""
noncomputable def isTy (n:String) (H:Hp) (x:V):Bool:=kd H x == n || (kd H x == "bool"&&n == "int")
theorem kd_ty {K:PySem.W.Frag} {H:Hp} {x:V} (h:Kn H x):TyOf K H x (.type (kd H x)):=by
 cases x with
 |non=>exact .non
 |bl b=>exact .bl b
 |int i=>exact .int i
 |str s=>exact .str s
 |ref a=>
  have h:kdO (H a)≠"":=h
  show TyOf K H (.ref a) (.type (kdO (H a)))
  cases e:H a with
  |none=>rw[e] at h;exact absurd rfl h
  |some o=>
   rw[e] at h
   cases o with
   |lst xs=>exact .lst e
   |tup xs=>exact .tup e
   |dK k=>exact .dK e
   |dT k=>exact .dT e
   |frz ob u=>
    cases u with
    |lst xs=>exact .frz e
    |_=>exact absurd rfl h
   |_=>exact absurd rfl h
 |_=>exact absurd rfl h
theorem alm (o:Option HO):kdO o=""∨kdO o="list"∨kdO o="tuple"∨kdO o="dict":=by
 unfold kdO
 split<;>simp
theorem Kn.cases {H:Hp} {x:V} (h:Kn H x):kd H x="NoneType"∨kd H x="bool"∨kd H x="int"∨kd H x="str"∨kd H x="list"∨kd H x="tuple"∨kd H x="dict":=by
 cases x with
 |ref a=>
  have h:kdO (H a)≠"":=h
  show kdO (H a)=_∨kdO (H a)=_∨kdO (H a)=_∨kdO (H a)=_∨kdO (H a)=_∨kdO (H a)=_∨kdO (H a)=_
  rcases alm (H a) with e|e|e|e
  ·exact absurd e h
  ·exact .inr (.inr (.inr (.inr (.inl e))))
  ·exact .inr (.inr (.inr (.inr (.inr (.inl e)))))
  ·exact .inr (.inr (.inr (.inr (.inr (.inr e)))))
 |non=>exact .inl rfl
 |bl b=>exact .inr (.inl rfl)
 |int i=>exact .inr (.inr (.inl rfl))
 |str z=>exact .inr (.inr (.inr (.inl rfl)))
 |_=>exact absurd rfl h
theorem anl (K:PySem.W.Frag):∀k∈["NoneType","bool","int","str","list","tuple","dict"],∀n∈["bool","int","str","list","tuple","dict"],PySem.W.kitOne K (.type k) (.type n)=some (k == n || (k == "bool"&&n == "int")):=by
 have e:∀k∈["NoneType","bool","int","str","list","tuple","dict"],∀n∈["bool","int","str","list","tuple","dict"],(if (Value.type k == Value.type n)=true then some true else if PySem.W.kitMeta n=true then (fastBuiltinMro k).map (·.contains (.type n)) else none)=some (k == n || (k == "bool"&&n == "int")):=by decide+kernel
 exact fun k hk n hn=>e k hk n hn
theorem acu {X:Cx}:CallR X (.builtin "isinstance") (fun xs H Q=>∃x n,xs=[x,.ty n]∧n∈["bool","int","str","list","tuple","dict"]∧Kn H x∧Q (.bl (isTy n H x)) H):=by
 intro pins s σ H xs us Q I r h
 obtain⟨x,n,rfl,hn,hk,q⟩:=h
 cases r with
 |cons r1 rr=>
  cases rr with
  |cons r2 rr=>
   cases rr
   cases r2
   refine alb I r1 (kd_ty hk) (anl X.K _ ?_ n hn) fun tk=>⟨.bl _,H,I.tok tk,rfl,q⟩
   rcases hk.cases with e|e|e|e|e|e|e<;>rw[e]<;>simp
end L2
namespace L2
open PySem PySem.Spec PyProof.Rows
theorem kn_int {H:Hp} {i:Int}:Kn H (.int i)↔True:=⟨fun _=>trivial,fun _=>(by decide:"int"≠"")⟩
theorem kn_bl {H:Hp} {i:Bool}:Kn H (.bl i)↔True:=⟨fun _=>trivial,fun _=>(by decide:"bool"≠"")⟩
theorem kn_str {H:Hp} {i:Str}:Kn H (.str i)↔True:=⟨fun _=>trivial,fun _=>(by decide:"str"≠"")⟩
theorem af5 {H:Hp} {a:Addr} {xs:List V} (h:H a=some (.lst xs)):Kn H (.ref a):=fun z=>by
 have z:kdO (H a)="":=z
 rw[h] at z;exact absurd z (show "list"≠"" by decide)
theorem aha {H:Hp} {a:Addr} {xs:List V} (h:H a=some (.tup xs)):Kn H (.ref a):=fun z=>by
 have z:kdO (H a)="":=z
 rw[h] at z;exact absurd z (show "tuple"≠"" by decide)
theorem cxOf_K {CX:CXT} {P:Program} {w:World} {K:PySem.W.Frag} {mg:Str→Option Value} {base:Heap} {N:List Str} {qual:Str} {scope:Scope} {f:Addr} {cd:Value} {A:Around} {outer:List Env} {s:Shared} {H:Hp} {E:XK}:
 (cxOf CX P w K mg base N qual scope f cd A outer s H E).K=K:=rfl
noncomputable def whole:V→Bool
 |.int _=>true
 |_=>false
noncomputable def within (x:V) (l h:Int):Bool:=match x with
 |.int i=>decide (l≤i)&&decide (i≤h)
 |_=>false
end L2
namespace L2
open PySem PySem.Spec PyProof.Rows
inductive Hid (t u:TS):Type where
 |mk:Hid t u
noncomputable def tCut (t u:TS) (_:Hid t u):TS:=fun D σ H=>∃M:St→Hp→Prop,t {D with nx:=M} σ H∧∀σ' H',M σ' H'→u D σ' H'
theorem aal {X:Cx} {st:Stmt} {rest:List Stmt} {t u:TS} (h1:PS X st t) (h2:PSs X rest u):PSs X (st::rest) (tCut t u .mk):=by
 intro pins s σ H D I h
 obtain⟨M,h,hM⟩:=h
 refine wpAny_execs_cons (thn (h1 pins s σ H {D with nx:=M} I h) fun f s1 q=>?_)
 cases f with
 |next=>
  obtain⟨σ',H',I',q⟩:=q
  exact h2 pins s1 σ' H' D I' (hM σ' H' q)
 |ret v=>exact q
 |brk=>exact q
 |cont=>exact q
noncomputable def lstO:Option HO→Option (List V)
 |some (.lst xs)=>some xs
 |some (.frz _ (.lst xs))=>some xs
 |_=>none
noncomputable def tupO:Option HO→Option (List V)
 |some (.tup xs)=>some xs
 |some (.frz _ (.tup xs))=>some xs
 |_=>none
theorem anm {xs:List V}:lstO (some (.lst xs))=some xs:=rfl
theorem ano {xs:List V}:tupO (some (.tup xs))=some xs:=rfl
theorem apy {K:PySem.W.Frag} {H:Hp} {a:Addr} {xs:List V} (h:lstO (H a)=some xs):SqL K H a xs:=by
 unfold lstO at h
 split at h
 ·rename_i e;cases h;exact .inl (.inl e)
 ·rename_i e;cases h;exact .inl (.inr ⟨_,e⟩)
 ·cases h
noncomputable def rIxH:R2:=fun x y H Q=>∃p xs i v,x=.ref p∧y=.int i∧lstO (H p)=some xs∧atI xs i=some v∧Q v H
theorem ix_lst {X:Cx}:IxR X rIxH:=by
 intro value slice pins s σ H x y v u Q I rx ry h hs
 obtain⟨p,xs,i,w',e1,e2,e3,e4,q⟩:=h
 exact aaj value slice pins s σ H x y v u Q I rx ry ⟨p,xs,i,w',e1,e2,apy e3,e4,q⟩ hs
theorem apz {i j:Int}:scal (.int i) (.int j)=true:=rfl
theorem ap0 {i j:Bool}:scal (.bl i) (.bl j)=true:=rfl
theorem ap2 {i j:Str}:scal (.str i) (.str j)=true:=rfl
theorem na10:Int.natAbs 10=10:=rfl
theorem aae {H:Hp}:Same H H:=fun _ _ h=>h
theorem aau {H H':Hp} {p:Addr} {o:HO} (s:Same H H') (h:H' p=none):Same H (upd H' p o):=fun b u e=>by
 have q:=s b u e
 rw[aaf (aan q h)]
 exact q
end L2
namespace L2
open PySem PySem.Spec PyProof.Rows
end L2
namespace L2
open PySem PySem.Spec PyProof.Rows
inductive HidF (g:TG) (tb:TS):Type where
 |mk:HidF g tb
noncomputable def Loop (g:TG) (tb:TS) (_:HidF g tb) (J:It):TS:=fun D σ H=>∃W:Nat→Nat→St→Hp→Prop,(∃m,W 0 m σ H)∧∀i m σ H,W i m σ H→
 (J.stop i H∧D.nx σ H)∨(J.go i H∧∃N:St→Hp→Prop,(∀σ' H',N σ' H'→∃m',m' < m∧W (i+1) m' σ' H')∧∀x H',J.yld i H x H'→g x σ H' fun σ2 H2=>tb {D with nx:=N,ct:=N,bk:=D.nx} σ2 H2)
noncomputable def tForE (wi:TI) (g:TG) (tb:TS) (h:HidF g tb):TS:=fun D σ H=>wi σ H fun J H1=>Loop g tb h J D σ H1
theorem ady {X:Cx} {tg iter:Expr} {body:List Stmt} {wi:TI} {g:TG} {tb:TS} {pos:Pos} (hp:PassesOwn (model X.prog X.w) X.A X.env X.xe) (hc:X.calm=true) (hi:PI X tg iter wi) (hg:PG X tg g) (hb:PSs X body tb)
 (hs:∀x,foldedSetIterable iter X.env x=pure x:=by intro _;rfl):PS X (.For tg iter body [] pos) (tForE wi g tb .mk):=ps_for hp hc hi hg hb hs
theorem ahb {lo:Int} {n:Nat} {g:TG} {tb:TS} {h:HidF g tb} {D:Ends} {σ:St} {H:Hp} (Pv:Nat→St→Hp→Prop) (h0:Pv 0 σ H)
 (hs:∀i σ H,i < n→Pv i σ H→g (.int (lo+i)) σ H fun σ2 H2=>tb {D with nx:=Pv (i+1),ct:=Pv (i+1),bk:=D.nx} σ2 H2) (hd:∀σ H,Pv n σ H→D.nx σ H):Loop g tb h (Itr lo n) D σ H:=ak4 Pv h0 hs hd
theorem aey {K:PySem.W.Frag} {a:Addr} {xs:List V} {g:TG} {tb:TS} {h:HidF g tb} {D:Ends} {σ:St} {H:Hp} (Pv:Nat→St→Hp→Prop) (h0:Pv 0 σ H) (hl:∀i σ H,i≤xs.length→Pv i σ H→SqL K H a xs)
 (hs:∀i x σ H,xs[i]?=some x→Pv i σ H→g x σ H fun σ2 H2=>tb {D with nx:=Pv (i+1),ct:=Pv (i+1),bk:=D.nx} σ2 H2) (hd:∀σ H,Pv xs.length σ H→D.nx σ H):Loop g tb h (Itl K a) D σ H:=anb Pv h0 hl hs hd
noncomputable def pw (n:Int):Int:=2 ^ n.toNat
end L2
namespace L2
open PySem PySem.Spec PyProof.Rows
end L2
namespace L2
open PySem PySem.Spec PyProof.Rows
theorem afs {H:Hp} {x dx:Addr} {o:HO} (hx:H x=none) (hd:H dx=none) (hne:dx≠x):Same H (upd (upd H dx (.own x)) x o):=
 aau (aau aae hd) (by rw[aaf (Ne.symm hne)];exact hx)
end L2
namespace L2
open PySem PySem.Spec PyProof.Rows
end L2
namespace L2
open PySem PySem.Spec PyProof.Rows
end L2
namespace L2
open PySem PySem.Spec PyProof.Rows
theorem ajq {H:Hp} {a:Addr} {xs:List V} (h:H a=some (.tup xs)):isTy "tuple" H (.ref a)=true:=by
 unfold isTy
 rw[show kd H (.ref a)=kdO (H a) from rfl,h];rfl
theorem aga {H:Hp} {a:Addr} {xs:List V} (h:H a=some (.lst xs)):isTy "list" H (.ref a)=true:=by
 unfold isTy
 rw[show kd H (.ref a)=kdO (H a) from rfl,h];rfl
end L2
namespace L2
open PySem PySem.Spec PyProof.Rows
section
variable {X:Cx} {pins pins2:List (Addr×Obj)} {σ:St} {H:Hp} {s:Shared} {E':Value→Shared→Prop}
theorem Cx.Ok.re {pn:List (Addr×Obj)} (ok:X.Ok):({X with xe:=E',pn:=pn}:Cx).Ok:=
 ⟨ok.mod,ok.kind,ok.glob,ok.blt,ok.above,ok.inj,ok.has,ok.cab,ok.hd,ok.frames,ok.stk,ok.exf,ok.bs,ok.bsz,ok.noex,ok.exfs,ok.funs,ok.frf⟩
theorem Inv.re (I:Inv X pins σ H s):Inv {X with xe:=E',pn:=X.pn++pins} [] σ H s:=
 ⟨I.ok.re,I.os,I.bare,I.base,I.loc,I.cell,I.free,I.freeC,fun p hp=>I.pin p (by rw[List.append_nil] at hp;exact hp),I.hok,I.len⟩
theorem Inv.unre (ok:X.Ok) (I:Inv {X with xe:=E',pn:=X.pn++pins} pins2 σ H s):Inv X pins σ H s:=
 ⟨ok,I.os,I.bare,I.base,I.loc,I.cell,I.free,I.freeC,fun p hp=>I.pin p (List.mem_append_left _ hp),I.hok,I.len⟩
theorem Inv.marked {v : Option Value} (I : Inv X pins σ H s) : Inv { X with A := X.A.mark v, calm := false, xe := E' } pins σ H s :=
  ⟨⟨I.ok.mod, I.ok.kind, I.ok.glob, I.ok.blt, I.ok.above, I.ok.inj, I.ok.has, I.ok.cab, fun z => Bool.noConfusion z, I.ok.frames, I.ok.stk, I.ok.exf, I.ok.bs, I.ok.bsz, I.ok.noex, I.ok.exfs, I.ok.funs, I.ok.frf⟩,
    I.os, I.bare, I.base, I.loc, I.cell, I.free, I.freeC, I.pin, I.hok, I.len⟩
theorem Inv.unmarked {v:Option Value} (ok:X.Ok) (I:Inv {X with A:=X.A.mark v,calm:=false,xe:=E'} pins σ H s):Inv X pins σ H s:=
 ⟨ok,I.os,I.bare,I.base,I.loc,I.cell,I.free,I.freeC,I.pin,I.hok,I.len⟩
end
end L2
namespace PySem.W
open PySem PySem.Spec PySem.Calls PyProof.Rows
open Builtin Builtin.ObjectAttr Builtin.Getset_descriptor
noncomputable def ExcAt (e C:Addr) (h:Heap):Prop:=∃o,h.get? e=some o∧o.cls=.ref C
section
variable {K:Frag} {e C:Addr}
theorem ExcAt.ty {M:Model} {h:Heap} (p:ExcAt e C h):Looks M h (typeOf (.ref e)) (.ref C):=by
 obtain⟨o,h1,h2⟩:=p
 exact h2 ▸ (Looks.ld h1).andThen .now
variable {prog:Program} {w:World} {A:Around} {E:Value→Shared→Prop} {s:Shared}
end
end PySem.W
namespace L2
open PySem PySem.Spec PyProof.Rows
noncomputable def clsV:V→Value
 |.ref a=>.ref a
 |.ty n=>.type n
 |_=>.none
theorem anp {a:Addr}:clsV (.ref a)=.ref a:=rfl
theorem ap3 {n:String}:clsV (.ty n)=.type n:=rfl
end L2
namespace L2
open PySem PySem.Spec PyProof.Rows
inductive Dv where
 |leaf (v:V)
 |seq (t:Bool) (ds:List Dv)
mutual
noncomputable def Sees (K:PySem.W.Frag) (H:Hp):Dv→V→Prop
 |.leaf v,x=>x=v∧flatV v=true
 |.seq t ds,x=>∃a xs,x=.ref a∧(if t=true then SqT K H a xs else SqL K H a xs)∧SeesL K H ds xs
noncomputable def SeesL (K:PySem.W.Frag) (H:Hp):List Dv→List V→Prop
 |[],xs=>xs=[]
 |d::ds,xs=>∃x r,xs=x::r∧Sees K H d x∧SeesL K H ds r
end
mutual
noncomputable def alike:Dv→Dv→Bool
 |.leaf _,.leaf _=>true
 |.seq t ds,.seq u es=>t == u&&alikeL ds es
 |_,_=>false
noncomputable def alikeL:List Dv→List Dv→Bool
 |d::ds,e::es=>alike d e&&alikeL ds es
 |_,_=>true
end
mutual
noncomputable def eqDv:Dv→Dv→Bool
 |.leaf v,.leaf w=>eqV v w
 |.seq _ ds,.seq _ es=>eqDvL ds es
 |_,_=>false
noncomputable def eqDvL:List Dv→List Dv→Bool
 |[],[]=>true
 |d::ds,e::es=>eqDv d e&&eqDvL ds es
 |_,_=>false
end
mutual
noncomputable def deep:Dv→Nat
 |.leaf _=>0
 |.seq _ ds=>deepL ds+1
noncomputable def deepL:List Dv→Nat
 |[]=>0
 |d::ds=>max (deep d) (deepL ds)
end
theorem SeesL.length {K:PySem.W.Frag} {H:Hp}:∀{ds:List Dv} {xs:List V},SeesL K H ds xs→ds.length=xs.length
 |[],xs,h=>by unfold SeesL at h;subst h;rfl
 |d::ds,xs,h=>by
  unfold SeesL at h
  obtain⟨x,r,rfl,_,h⟩:=h
  simp[h.length]
theorem SeesL.get {K:PySem.W.Frag} {H:Hp}:∀{ds:List Dv} {xs:List V} {j:Nat} {d:Dv},SeesL K H ds xs→ds[j]?=some d→∃x,xs[j]?=some x∧Sees K H d x
 |[],xs,j,d,h,e=>by simp at e
 |d'::ds,xs,0,d,h,e=>by
  unfold SeesL at h
  obtain⟨x,r,rfl,hx,h⟩:=h
  simp at e;subst e
  exact⟨x,rfl,hx⟩
 |d'::ds,xs,j+1,d,h,e=>by
  unfold SeesL at h
  obtain⟨x,r,rfl,hx,h⟩:=h
  obtain⟨y,e1,e2⟩:=SeesL.get (j:=j) h (by simpa using e)
  exact⟨y,by simpa using e1,e2⟩
theorem ag4 (n:Nat) (f:Nat→Bool):(List.range (n+1)).all f=(f 0&&(List.range n).all fun j=>f (j+1)):=by
 rw[List.range_succ_eq_map,List.all_cons,List.all_map];rfl
theorem ahp:∀(ds es:List Dv),eqDvL ds es=(decide (ds.length=es.length)&&(List.range (min ds.length es.length)).all fun j=>eqDv (ds.getD j (.leaf .non)) (es.getD j (.leaf .non)))
 |[],[]=>by simp[eqDvL]
 |[],e::es=>by simp[eqDvL]
 |d::ds,[]=>by simp[eqDvL]
 |d::ds,e::es=>by
  have ih:=ahp ds es
  rw[eqDvL,ih]
  have hm:min (d::ds).length (e::es).length=min ds.length es.length+1:=by simp[Nat.succ_min_succ]
  rw[hm,ag4]
  simp only[List.length_cons,Nat.add_right_cancel_iff,List.getD_cons_zero,List.getD_cons_succ]
  cases eqDv d e<;>cases decide (ds.length=es.length)<;>simp
theorem anq {v:V} (h:flatV v=true):eqV v v=true:=by
 cases v<;>first|rfl|(simp[eqV];done)|exact absurd h (by simp[flatV])
mutual
theorem ain {X:Cx} {pins:List (Addr×Obj)} {σ:St} {H:Hp} {s:Shared} (I:Inv X pins σ H s):∀(d e:Dv) (x:V),alike d e=true→Sees X.K H d x→Sees X.K H e x→eqDv d e=true
 |.leaf a,.leaf b,x,_,hx,hy=>by
  unfold Sees at hx hy
  obtain⟨rfl,fx⟩:=hx
  obtain⟨rfl,fy⟩:=hy
  rw[eqDv]
  exact anq fx
 |.leaf a,.seq t es,_,h,_,_=>by simp[alike] at h
 |.seq t ds,.leaf b,_,h,_,_=>by simp[alike] at h
 |.seq t ds,.seq t' es,x,h,hx,hy=>by
  rw[alike,Bool.and_eq_true] at h
  have ht:=beq_iff_eq.mp h.1
  subst ht
  unfold Sees at hx hy
  obtain⟨a,xs,rfl,hsx,hL⟩:=hx
  obtain⟨b,ys,e,hsy,hM⟩:=hy
  cases e
  rw[eqDv]
  have exy:xs=ys:=by
   cases t with
   |true=>exact I.tuple_inj (by simpa using hsx) (by simpa using hsy)
   |false=>exact I.list_inj (by simpa using hsx) (by simpa using hsy)
  subst exy
  exact ahc I ds es xs h.2 hL hM
theorem ahc {X:Cx} {pins:List (Addr×Obj)} {σ:St} {H:Hp} {s:Shared} (I:Inv X pins σ H s):∀(ds es:List Dv) (xs:List V),alikeL ds es=true→SeesL X.K H ds xs→SeesL X.K H es xs→eqDvL ds es=true
 |[],[],_,_,_,_=>by rw[eqDvL]
 |[],e::es,xs,_,hx,hy=>by
  unfold SeesL at hx hy
  obtain⟨x,r,e1,_⟩:=hy
  rw[hx] at e1;cases e1
 |d::ds,[],xs,_,hx,hy=>by
  unfold SeesL at hx hy
  obtain⟨x,r,e1,_⟩:=hx
  rw[hy] at e1;cases e1
 |d::ds,e::es,xs,h,hx,hy=>by
  rw[alikeL,Bool.and_eq_true] at h
  unfold SeesL at hx hy
  obtain⟨x,r,rfl,hx,hxr⟩:=hx
  obtain⟨y,r',e1,hy,hyr⟩:=hy
  cases e1
  rw[eqDvL,ain I d e x h.1 hx hy,ahc I ds es r h.2 hxr hyr]
  rfl
end
theorem aln {X:Cx} {pins:List (Addr×Obj)} {σ:St} {H:Hp} {s:Shared} (I:Inv X pins σ H s) {A:Around} {t:Bool} {ds es:List Dv} {a b:Addr} {xs ys:List V} (hu:A.units < cLine)
  (hsx:if t=true then SqT X.K H a xs else SqL X.K H a xs) (hsy:if t=true then SqT X.K H b ys else SqL X.K H b ys) (l1:ds.length=xs.length) (l2:es.length=ys.length)
  (ih:∀(j:Nat) (u v:Value) (us vs:List Value),Vals xs us→Vals ys vs→us[j]?=some u→vs[j]?=some v→SeqAt.EqAt A.in1 s u v (eqDv (ds.getD j (.leaf .non)) (es.getD j (.leaf .non)))):
  SeqAt.RcAt A s (.ref a) (.ref b) (eqDvL ds es):=by
 rw[ahp]
 cases t with
 |false=>
  obtain⟨its,rv,pl,_⟩:=I.list (show SqL X.K H a xs by simpa using hsx)
  obtain⟨its2,rv2,pl2,_⟩:=I.list (show SqL X.K H b ys by simpa using hsy)
  have n1:=rv.length
  have n2:=rv2.length
  by_cases hl:ds.length=es.length
  ·have q:=SeqAt.RcAt.lists (e:=fun j=>eqDv (ds.getD j (.leaf .non)) (es.getD j (.leaf .non))) pl.isList pl2.isList (by simp;omega) (by omega:A.units < cLine) (fun j h1 h2=>by
    have h1:j < its.length:=by simpa using h1
    have h2:j < its2.length:=by simpa using h2
    have e:=ih j (its[j]) (its2[j]) its its2 rv rv2 (by simp[h1]) (by simp[h2])
    simpa using e)
   rw[decide_eq_true hl,Bool.true_and]
   have em:min ds.length es.length=its.toArray.size:=by simp;omega
   rw[em]
   exact q
  ·have q:=SeqAt.RcAt.lists_lengths (A:=A) pl.isList pl2.isList (by simp;omega) (by omega:A.units < cLine)
   rw[decide_eq_false hl,Bool.false_and]
   exact q
 |true=>
  obtain⟨its,rv,pl,_⟩:=I.tuple (show SqT X.K H a xs by simpa using hsx)
  obtain⟨its2,rv2,pl2,_⟩:=I.tuple (show SqT X.K H b ys by simpa using hsy)
  have n1:=rv.length
  have n2:=rv2.length
  have q:=SeqAt.RcAt.tuples (e:=fun j=>eqDv (ds.getD j (.leaf .non)) (es.getD j (.leaf .non))) (show s.heap.IsTuple a its.toArray from pl) (show s.heap.IsTuple b its2.toArray from pl2) (by omega:A.units < cLine) (fun j h1 h2=>by
    have h1:j < its.length:=by simpa using h1
    have h2:j < its2.length:=by simpa using h2
    have e:=ih j (its[j]) (its2[j]) its its2 rv rv2 (by simp[h1]) (by simp[h2])
    simpa using e)
  have em:min its.toArray.size its2.toArray.size=min ds.length es.length:=by simp;omega
  have eb:(its.toArray.size == its2.toArray.size)=decide (ds.length=es.length):=by
   rw[Bool.eq_iff_iff];simp;omega
  rw[em,eb,Bool.and_comm] at q
  exact q
mutual
theorem aio {X:Cx} {pins:List (Addr×Obj)} {σ:St} {H:Hp} {s:Shared} (I:Inv X pins σ H s):∀(d e:Dv) (A:Around) (x y:V) (u v:Value),A.units+deep d < cLine→alike d e=true→Sees X.K H d x→Sees X.K H e y→RelV x u→RelV y v→SeqAt.EqAt A s u v (eqDv d e)
 |.leaf a,.leaf b,A,x,y,u,v,_,_,hx,hy,rx,ry=>by
  unfold Sees at hx hy
  obtain⟨rfl,fx⟩:=hx
  obtain⟨rfl,fy⟩:=hy
  rw[eqDv]
  exact aom rx ry fx fy
 |.leaf a,.seq t es,A,x,y,u,v,_,h,_,_,_,_=>by simp[alike] at h
 |.seq t ds,.leaf b,A,x,y,u,v,_,h,_,_,_,_=>by simp[alike] at h
 |.seq t ds,.seq t' es,A,x,y,u,v,hu,h,hx,hy,rx,ry=>by
  have h0:=h
  rw[alike,Bool.and_eq_true] at h
  have ht:=beq_iff_eq.mp h.1
  subst ht
  have hx0:=hx
  have hy0:=hy
  unfold Sees at hx hy
  obtain⟨a,xs,rfl,hsx,hL⟩:=hx
  obtain⟨b,ys,rfl,hsy,hM⟩:=hy
  cases rx
  cases ry
  by_cases hab:a=b
  ·subst hab
   rw[ain I _ _ _ h0 hx0 hy0]
   exact SeqAt.EqAt.same _
  ·rw[deep] at hu
   have hu1:A.in1.units+deepL ds < cLine:=by show A.units+1+deepL ds < cLine;omega
   have ih:=ae9 I ds es A.in1 xs ys hu1 h.2 hL hM
   rw[eqDv]
   exact SeqAt.EqAt.of_refs hab (aln I (by omega) hsx hsy hL.length hM.length ih)
theorem ae9 {X:Cx} {pins:List (Addr×Obj)} {σ:St} {H:Hp} {s:Shared} (I:Inv X pins σ H s):∀(ds es:List Dv) (A:Around) (xs ys:List V),A.units+deepL ds < cLine→alikeL ds es=true→SeesL X.K H ds xs→SeesL X.K H es ys→
  ∀(j:Nat) (u v:Value) (us vs:List Value),Vals xs us→Vals ys vs→us[j]?=some u→vs[j]?=some v→SeqAt.EqAt A s u v (eqDv (ds.getD j (.leaf .non)) (es.getD j (.leaf .non)))
 |[],es,A,xs,ys,_,_,hx,hy,j,u,v,us,vs,rx,ry,e1,e2=>by
  unfold SeesL at hx
  subst hx
  cases rx
  simp at e1
 |d::ds,[],A,xs,ys,_,_,hx,hy,j,u,v,us,vs,rx,ry,e1,e2=>by
  unfold SeesL at hy
  subst hy
  cases ry
  simp at e2
 |d::ds,e::es,A,xs,ys,hu,h,hx,hy,j,u,v,us,vs,rx,ry,e1,e2=>by
  rw[alikeL,Bool.and_eq_true] at h
  rw[deepL] at hu
  unfold SeesL at hx hy
  obtain⟨x,r,rfl,hx,hxr⟩:=hx
  obtain⟨y,r',rfl,hy,hyr⟩:=hy
  cases rx with
  |cons p1 p2=>
   cases ry with
   |cons q1 q2=>
    cases j with
    |zero=>
     simp at e1 e2
     subst e1 e2
     exact aio I d e A x y _ _ (by omega) h.1 hx hy p1 q1
    |succ k=>
     have z:=ae9 I ds es A r r' (by omega) h.2 hxr hyr k u v _ _ p2 q2 (by simpa using e1) (by simpa using e2)
     simpa using z
end
theorem hu6 {A:Around} {k:Nat} (hr:Room k A):A.units+4+2 < cLine:=by have:=hr.units;omega
noncomputable def rEqD (K:PySem.W.Frag) (n:Nat):R2:=fun x y H Q=>∃t ds es,Sees K H (.seq t ds) x∧Sees K H (.seq t es) y∧alikeL ds es=true∧deepL ds≤n∧Q (.bl (eqDvL ds es)) H
noncomputable def rNeD (K:PySem.W.Frag) (n:Nat):R2:=fun x y H Q=>∃t ds es,Sees K H (.seq t ds) x∧Sees K H (.seq t es) y∧alikeL ds es=true∧deepL ds≤n∧Q (.bl (!eqDvL ds es)) H
theorem rc_of {X:Cx} {pins:List (Addr×Obj)} {σ:St} {H:Hp} {s:Shared} (I:Inv X pins σ H s) {A:Around} {n:Nat} (hu:A.units+n+2 < cLine) {t:Bool} {ds es:List Dv} {x y:V} {u v:Value} (hx:Sees X.K H (.seq t ds) x) (hy:Sees X.K H (.seq t es) y) (ha:alikeL ds es=true) (hd:deepL ds≤n)
  (rx:RelV x u) (ry:RelV y v):SeqAt.RcAt A s u v (eqDvL ds es):=by
 unfold Sees at hx hy
 obtain⟨a,xs,rfl,hsx,hL⟩:=hx
 obtain⟨b,ys,rfl,hsy,hM⟩:=hy
 cases rx
 cases ry
 exact aln I (by omega) hsx hsy hL.length hM.length (ae9 I ds es A.in1 xs ys (by show A.units+1+deepL ds < cLine;omega) ha hL hM)
theorem alo {X:Cx} {n:Nat} (hu:X.A.units+n+2 < cLine):OpR X (compareOp .Eq) (rEqD X.K n):=by
 intro pins s σ H x y v u Q I rx ry h
 obtain⟨t,ds,es,hx,hy,ha,hd,q⟩:=h
 exact rc_of I hu hx hy ha hd rx ry X.prog X.w X.xe _ ⟨.bl _,H,I,rfl,q⟩
theorem alp {X:Cx} {pins:List (Addr×Obj)} {σ:St} {H:Hp} {s:Shared} (I:Inv X pins σ H s) {A:Around} {t:Bool} {ds es:List Dv} {a b:Addr} {xs ys:List V} (hu:A.units < cLine)
  (hsx:if t=true then SqT X.K H a xs else SqL X.K H a xs) (hsy:if t=true then SqT X.K H b ys else SqL X.K H b ys) (l1:ds.length=xs.length) (l2:es.length=ys.length)
  (ih:∀(j:Nat) (u v:Value) (us vs:List Value),Vals xs us→Vals ys vs→us[j]?=some u→vs[j]?=some v→SeqAt.EqAt A.in1 s u v (eqDv (ds.getD j (.leaf .non)) (es.getD j (.leaf .non)))):
  SeqAt.RcNeAt A s (.ref a) (.ref b) (!eqDvL ds es):=by
 rw[ahp]
 cases t with
 |false=>
  obtain⟨its,rv,pl,_⟩:=I.list (show SqL X.K H a xs by simpa using hsx)
  obtain⟨its2,rv2,pl2,_⟩:=I.list (show SqL X.K H b ys by simpa using hsy)
  have n1:=rv.length
  have n2:=rv2.length
  by_cases hl:ds.length=es.length
  ·have q:=SeqAt.RcNeAt.lists (e:=fun j=>eqDv (ds.getD j (.leaf .non)) (es.getD j (.leaf .non))) pl.isList pl2.isList (by simp;omega) (by omega:A.units < cLine) (fun j h1 h2=>by
    have h1:j < its.length:=by simpa using h1
    have h2:j < its2.length:=by simpa using h2
    have e:=ih j (its[j]) (its2[j]) its its2 rv rv2 (by simp[h1]) (by simp[h2])
    simpa using e)
   rw[decide_eq_true hl,Bool.true_and]
   have em:min ds.length es.length=its.toArray.size:=by simp;omega
   rw[em]
   exact q
  ·have q:=SeqAt.RcNeAt.lists_lengths (A:=A) pl.isList pl2.isList (by simp;omega) (by omega:A.units < cLine)
   rw[decide_eq_false hl,Bool.false_and]
   exact q
 |true=>
  obtain⟨its,rv,pl,_⟩:=I.tuple (show SqT X.K H a xs by simpa using hsx)
  obtain⟨its2,rv2,pl2,_⟩:=I.tuple (show SqT X.K H b ys by simpa using hsy)
  have n1:=rv.length
  have n2:=rv2.length
  have q:=SeqAt.RcNeAt.tuples (e:=fun j=>eqDv (ds.getD j (.leaf .non)) (es.getD j (.leaf .non))) (show s.heap.IsTuple a its.toArray from pl) (show s.heap.IsTuple b its2.toArray from pl2) (by omega:A.units < cLine) (fun j h1 h2=>by
    have h1:j < its.length:=by simpa using h1
    have h2:j < its2.length:=by simpa using h2
    have e:=ih j (its[j]) (its2[j]) its its2 rv rv2 (by simp[h1]) (by simp[h2])
    simpa using e)
  have em:min its.toArray.size its2.toArray.size=min ds.length es.length:=by simp;omega
  have eb:(its.toArray.size == its2.toArray.size)=decide (ds.length=es.length):=by
   rw[Bool.eq_iff_iff];simp;omega
  rw[em,eb,Bool.and_comm] at q
  exact q
theorem alq {X:Cx} {n:Nat} (hu:X.A.units+n+2 < cLine):OpR X (compareOp .NotEq) (rNeD X.K n):=by
 intro pins s σ H x y v u Q I rx ry h
 obtain⟨t,ds,es,hx,hy,ha,hd,q⟩:=h
 unfold Sees at hx hy
 obtain⟨a,xs,rfl,hsx,hL⟩:=hx
 obtain⟨b,ys,rfl,hsy,hM⟩:=hy
 cases rx
 cases ry
 exact alp I (by omega) hsx hsy hL.length hM.length (ae9 I ds es X.A.in1 xs ys (by show X.A.units+1+deepL ds < cLine;omega) ha hL hM) X.prog X.w X.xe _ ⟨.bl _,H,I,rfl,q⟩
noncomputable def dInts (ns:List Int):List Dv:=ns.map fun i=>.leaf (.int i)
theorem ahd {K:PySem.W.Frag} {H:Hp}:∀(ns:List Int),SeesL K H (dInts ns) (ns.map V.int)
 |[]=>by unfold dInts SeesL;rfl
 |n::ns=>by
  show SeesL K H (.leaf (.int n)::dInts ns) (.int n::ns.map V.int)
  unfold SeesL
  exact⟨_,_,rfl,by unfold Sees;exact⟨rfl,rfl⟩,ahd ns⟩
theorem aem {K:PySem.W.Frag} {H:Hp} {a:Addr} {ns:List Int} (h:SqL K H a (ns.map V.int)):Sees K H (.seq false (dInts ns)) (.ref a):=by
 unfold Sees
 exact⟨a,_,rfl,by simpa using h,ahd ns⟩
theorem afa:∀(ns ms:List Int),alikeL (dInts ns) (dInts ms)=true
 |[],_=>by unfold dInts;simp[alikeL]
 |_::_,[]=>by unfold dInts;simp[alikeL]
 |n::ns,m::ms=>by
  show alikeL (.leaf (.int n)::dInts ns) (.leaf (.int m)::dInts ms)=true
  rw[alikeL,alike,afa ns ms];rfl
theorem aft:∀(ns:List Int),deepL (dInts ns)=0
 |[]=>by unfold dInts;simp[deepL]
 |n::ns=>by
  show deepL (.leaf (.int n)::dInts ns)=0
  rw[deepL,deep,aft ns];rfl
theorem ahq:∀(ns ms:List Int),eqDvL (dInts ns) (dInts ms)=decide (ns=ms)
 |[],[]=>by unfold dInts;simp[eqDvL]
 |[],_::_=>by unfold dInts;simp[eqDvL]
 |_::_,[]=>by unfold dInts;simp[eqDvL]
 |n::ns,m::ms=>by
  show eqDvL (.leaf (.int n)::dInts ns) (.leaf (.int m)::dInts ms)=_
  rw[eqDvL,eqDv,ahq ns ms]
  show ((n == m)&&decide (ns=ms))=_
  rw[Bool.eq_iff_iff];simp
end L2
namespace L2
open PySem PySem.Spec PyProof.Rows
noncomputable def compChk (sc:Scope) (env:Env) (x:Str) (fs:List Str):Bool:=
 sc.kind == .function&&sc.names.all (fun y=>y.2 != .cell&&(y.2 != .local || sc.names.lookup y.1 == some .local)&&(y.2 != .free || env.kindOf y.1 == some .cell || env.kindOf y.1 == some .free))&&
  sc.names.lookup x == some .local&&fs.all (fun f=>sc.names.lookup f == some .free)
structure CompSc (sc:Scope) (env:Env) (x:Str) (fs:List Str):Prop where
 kind:sc.kind=.function
 nocell:∀y∈sc.names,y.2≠.cell
 own:∀y∈sc.names,y.2=.local→sc.names.lookup y.1=some .local
 fr:∀y∈sc.names,y.2=.free→env.kindOf y.1=some .cell∨env.kindOf y.1=some .free
 x:sc.names.lookup x=some .local
 fs:∀f∈fs,sc.names.lookup f=some .free
theorem CompSc.of {sc:Scope} {env:Env} {x:Str} {fs:List Str} (h:compChk sc env x fs=true):CompSc sc env x fs:=by
 unfold compChk at h
 simp only[Bool.and_eq_true,beq_iff_eq,List.all_eq_true,Bool.or_eq_true,bne_iff_ne,ne_eq] at h
 obtain⟨⟨⟨h1,h2⟩,h3⟩,h4⟩:=h
 refine⟨h1,fun y hy=>(h2 y hy).1.1,fun y hy e=>?_,fun y hy e=>?_,h3,h4⟩
 ·rcases (h2 y hy).1.2 with z|z
  ·exact absurd e z
  ·exact z
 ·rcases (h2 y hy).2 with (z|z)|z
  ·exact absurd e z
  ·exact .inl z
  ·exact .inr z
theorem afy {env:Env}:∀(names:List (Str×NameKind)) (acc:List (Str×Addr)),(∀n,(n,NameKind.free)∈names→∃c,env.cells.lookup n=some c)→
  ∃cl,(forIn names acc fun y r=>(do if (y.2 == NameKind.free)=true then do let c←cellOf env y.1;pure (ForInStep.yield ((y.1,c)::r)) else pure (ForInStep.yield r):Sem (ForInStep (List (Str×Addr)))))=pure cl∧
   (∀n c,cl.lookup n=some c→acc.lookup n=some c∨env.cells.lookup n=some c)∧∀n,(∃c,acc.lookup n=some c)∨(n,NameKind.free)∈names→∃c,cl.lookup n=some c
 |[],acc,_=>⟨acc,rfl,fun _ _ e=>.inl e,fun n h=>h.elim id fun z=>nomatch z⟩
 |(n,k)::r,acc,h=>by
  have hr:∀m,(m,NameKind.free)∈r→∃c,env.cells.lookup m=some c:=fun m hm=>h m (List.mem_cons_of_mem _ hm)
  by_cases hk:k=.free
  ·subst hk
   obtain⟨c,hc⟩:=h n List.mem_cons_self
   obtain⟨cl,e,h1,h2⟩:=afy r ((n,c)::acc) hr
   refine⟨cl,?_,fun m c' hm=>?_,fun m hm=>h2 m ?_⟩
   ·rw[List.forIn_cons]
    simp only[beq_self_eq_true,if_true,cellOf,hc,pure_bind]
    exact e
   ·rcases h1 m c' hm with z|z
    ·rw[List.lookup_cons] at z
     cases q:m == n with
     |true=>
      rw[q] at z
      cases z
      rw[beq_iff_eq.mp q]
      exact .inr hc
     |false=>rw[q] at z;exact .inl z
    ·exact .inr z
   ·rw[List.lookup_cons]
    rcases hm with ⟨c',z⟩|hm
    ·cases q:m == n with
     |true=>exact .inl ⟨c,rfl⟩
     |false=>exact .inl ⟨c',z⟩
    ·rcases List.mem_cons.mp hm with z|z
     ·cases z
      rw[beq_self_eq_true]
      exact .inl ⟨c,rfl⟩
     ·exact .inr z
  ·obtain⟨cl,e,h1,h2⟩:=afy r acc hr
   refine⟨cl,?_,h1,fun m hm=>h2 m ?_⟩
   ·rw[List.forIn_cons]
    have hb:(k == NameKind.free)=false:=by simpa using hk
    simp only[hb,Bool.false_eq_true,if_false,pure_bind]
    exact e
   ·rcases hm with z|hm
    ·exact .inl z
    ·rcases List.mem_cons.mp hm with z|z
     ·cases z;exact absurd rfl hk
     ·exact .inr z
theorem ako {env:Env} {sc:Scope} (h:∀n,(n,NameKind.free)∈sc.names→∃c,env.cells.lookup n=some c):
  ∃cl,closureFor sc env=pure cl∧(∀n c,cl.lookup n=some c→env.cells.lookup n=some c)∧∀n,(n,NameKind.free)∈sc.names→∃c,cl.lookup n=some c:=by
 obtain⟨cl,e,h1,h2⟩:=afy sc.names [] h
 refine⟨cl,?_,fun n c z=>(h1 n c z).elim (fun q=>nomatch q) id,fun n hn=>h2 n (.inr hn)⟩
 unfold closureFor
 simp only[bind_pure]
 exact e
theorem aez {env:Env}:∀{names:List (Str×NameKind)} {x:Str} {k:NameKind},(names.map fun (n,k)=>if (k == NameKind.free&&env.scope.kind == .function&&env.kindOf n == some .cell) then (n,NameKind.cell) else (n,k)).lookup x=some k→
  k=.cell∨k=.free→names.lookup x=some .free∨names.lookup x=some .cell
 |[],_,_,h,_=>by simp at h
 |(n,k0)::r,x,k,h,hk=>by
  have ih:=@aez env r x k
  have h:List.lookup x ((if (k0 == NameKind.free&&env.scope.kind == .function&&env.kindOf n == some .cell)=true then (n,NameKind.cell) else (n,k0))::(r.map fun (n,k)=>if (k == NameKind.free&&env.scope.kind == .function&&env.kindOf n == some .cell) then (n,NameKind.cell) else (n,k)))=some k:=h
  by_cases hc:(k0 == NameKind.free&&env.scope.kind == .function&&env.kindOf n == some .cell)=true
  ·rw[if_pos hc] at h
   simp only[List.lookup_cons] at h ⊢
   cases hx:x == n with
   |true=>
    simp only[Bool.and_eq_true,beq_iff_eq] at hc
    rw[hc.1.1]
    exact .inl rfl
   |false=>rw[hx] at h;exact ih h hk
  ·rw[if_neg hc] at h
   simp only[List.lookup_cons] at h ⊢
   cases hx:x == n with
   |true=>
    rw[hx] at h
    cases h
    rcases hk with rfl|rfl
    ·exact .inr rfl
    ·exact .inl rfl
   |false=>rw[hx] at h;exact ih h hk
theorem af6 {env:Env}:∀{names:List (Str×NameKind)} {x:Str},names.lookup x=some .free→
  (names.map fun (n,k)=>if (k == NameKind.free&&env.scope.kind == .function&&env.kindOf n == some .cell) then (n,NameKind.cell) else (n,k)).lookup x=some .cell∨(names.map fun (n,k)=>if (k == NameKind.free&&env.scope.kind == .function&&env.kindOf n == some .cell) then (n,NameKind.cell) else (n,k)).lookup x=some .free
 |[],_,h=>by simp at h
 |(n,k0)::r,x,h=>by
  have ih:=@af6 env r x
  show List.lookup x ((if (k0 == NameKind.free&&env.scope.kind == .function&&env.kindOf n == some .cell)=true then (n,NameKind.cell) else (n,k0))::_)=_∨List.lookup x ((if (k0 == NameKind.free&&env.scope.kind == .function&&env.kindOf n == some .cell)=true then (n,NameKind.cell) else (n,k0))::_)=_
  simp only[List.lookup_cons] at h
  by_cases hc:(k0 == NameKind.free&&env.scope.kind == .function&&env.kindOf n == some .cell)=true
  ·rw[if_pos hc]
   simp only[List.lookup_cons]
   cases hx:x == n with
   |true=>exact .inl rfl
   |false=>rw[hx] at h;exact ih h
  ·rw[if_neg hc]
   simp only[List.lookup_cons]
   cases hx:x == n with
   |true=>rw[hx] at h;exact .inr h
   |false=>rw[hx] at h;exact ih h
noncomputable def cxComp (X:Cx) (scope:Scope) (cl:List (Str×Addr)) (C:Addr) (N:List Str) (s₀:Shared) (H₀:Hp) (fp:List Addr) (xe:Value→Shared→Prop):Cx:=
 {X with N:=N,s₀:=s₀,H₀:=H₀,env:=compEnvC scope cl C X.env,outer:=X.stack,stack:=X.stack,ex:=fp,fn:=fun _=>false,pn:=[],xe:=xe}
theorem xw_no {X:Cx}:XW X (fun _ _ _=>False):=fun _ _ _ _ _ _ _ _ _ _ _ _ _ _ _ h=>h.elim
inductive HidC (g:TG) (tt:TT) (te:TE):Type where
 |mk:HidC g tt te
noncomputable def PF (X:Cx) (ifs:List Expr) (tt:TT):Prop:=
 ∀(pins:List (Addr×Obj)) (s:Shared) (σ:St) (H:Hp) (Q:Bool→Hp→Prop),Inv X pins σ H s→tt σ H Q→
  wpAny (model X.prog X.w) X.A (forIn ifs true fun c r=>if r=true then do let ok←isTrue c X.env (eval c X.env);pure (ForInStep.yield ok) else pure (ForInStep.yield r)) (TP X pins σ Q) X.xe s
noncomputable def tYes:TT:=fun _ H Q=>Q true H
theorem aeb {X:Cx}:PF X [] tYes:=fun _ _ _ H _ I h=>by
 simp only[List.forIn_nil]
 exact wpAny_pure ⟨H,I,h⟩
theorem ajr {X:Cx} {c:Expr} {tt:TT} (h:PT X c tt):PF X [c] tt:=fun pins s σ H Q I hw=>wpAny_tests_one (h pins s σ H Q I hw)
noncomputable def Comp (g:TG) (tt:TT) (te:TE) (_:HidC g tt te) (J:It) (σ0:St) (D:Addr) (Q:Hp→Prop) (H:Hp):Prop:=
 ∃W:Nat→Nat→List V→St→Hp→Prop,(∃m,W 0 m [] σ0 (upd H D (.lst [])))∧∀i m ys σ H,W i m ys σ H→
  (J.stop i H∧Q H)∨(J.go i H∧∃N:List V→St→Hp→Prop,(∀ys σ H,N ys σ H→∃m',m' < m∧W (i+1) m' ys σ H)∧
   ∀y H',J.yld i H y H'→g y σ H' fun σ2 H2=>tt σ2 H2 fun b H2'=>if b=true then te σ2 H2' fun v H3=>H3 D=some (.lst ys)∧ys.length < sizeLine∧N (ys++[v]) σ2 (upd H3 D (.lst (ys++[v]))) else N ys σ2 H2')
noncomputable def tComp (wi:TI) (ix:List Nat) (g:TG) (tt:TT) (te:TE) (h:HidC g tt te):TE:=fun σ H Q=>wi σ H fun J H1=>∀D,H1 D=none→Comp g tt te h J (none::ix.map fun i=>(σ[i]?).join) D (fun H'=>Q (.ref D) H') H1
theorem acl {lo:Int} {n:Nat} {g:TG} {tt:TT} {te:TE} {h:HidC g tt te} {σ0:St} {D:Addr} {Q:Hp→Prop} {H:Hp} (Pv:Nat→List V→St→Hp→Prop) (h0:Pv 0 [] σ0 (upd H D (.lst [])))
  (hs:∀i ys σ H,i < n→Pv i ys σ H→g (.int (lo+i)) σ H fun σ2 H2=>tt σ2 H2 fun b H2'=>if b=true then te σ2 H2' fun v H3=>H3 D=some (.lst ys)∧ys.length < sizeLine∧Pv (i+1) (ys++[v]) σ2 (upd H3 D (.lst (ys++[v]))) else Pv (i+1) ys σ2 H2') (hd:∀ys σ H,Pv n ys σ H→Q H):
  Comp g tt te h (Itr lo n) σ0 D Q H:=by
 refine⟨fun i m ys σ H=>i+m=n∧Pv i ys σ H,⟨n,Nat.zero_add n,h0⟩,fun i m ys σ H ⟨e,p⟩=>?_⟩
 by_cases hi:i < n
 ·refine .inr ⟨hi,Pv (i+1),fun ys σ H q=>⟨m - 1,by omega,by omega,q⟩,?_⟩
  rintro y H' ⟨rfl,rfl⟩
  exact hs i ys σ H' hi p
 ·have e':i=n:=by omega
  subst e'
  exact .inl ⟨Nat.le_refl _,hd ys σ H p⟩
theorem ae0 {K:PySem.W.Frag} {a:Addr} {xs:List V} {g:TG} {tt:TT} {te:TE} {h:HidC g tt te} {σ0:St} {D:Addr} {Q:Hp→Prop} {H:Hp} (Pv:Nat→List V→St→Hp→Prop) (h0:Pv 0 [] σ0 (upd H D (.lst []))) (hl:∀i ys σ H,i≤xs.length→Pv i ys σ H→SqL K H a xs)
  (hs:∀i x ys σ H,xs[i]?=some x→Pv i ys σ H→g x σ H fun σ2 H2=>tt σ2 H2 fun b H2'=>if b=true then te σ2 H2' fun v H3=>H3 D=some (.lst ys)∧ys.length < sizeLine∧Pv (i+1) (ys++[v]) σ2 (upd H3 D (.lst (ys++[v]))) else Pv (i+1) ys σ2 H2') (hd:∀ys σ H,Pv xs.length ys σ H→Q H):
  Comp g tt te h (Itl K a) σ0 D Q H:=by
 refine⟨fun i m ys σ H=>i+m=xs.length∧Pv i ys σ H,⟨xs.length,Nat.zero_add _,h0⟩,fun i m ys σ H ⟨e,p⟩=>?_⟩
 have hq:=hl i ys σ H (by omega) p
 by_cases hi:i < xs.length
 ·have ex:xs[i]?=some xs[i]:=List.getElem?_eq_getElem hi
  refine .inr ⟨⟨xs,_,hq,ex⟩,Pv (i+1),fun ys σ H q=>⟨m - 1,by omega,by omega,q⟩,?_⟩
  rintro y H' ⟨rfl,hy⟩
  exact hs i y ys σ H' (hy xs hq) p
 ·have e':i=xs.length:=by omega
  subst e'
  exact .inl ⟨⟨xs,hq,Nat.le_refl _⟩,hd ys σ H p⟩
theorem anr {K:PySem.W.Frag} {a:Addr} {xs:List V} {g:TG} {tt:TT} {te:TE} {h:HidC g tt te} {σ0:St} {D:Addr} {Q:Hp→Prop} {H:Hp} (Pv:Nat→List V→St→Hp→Prop) (h0:Pv 0 [] σ0 (upd H D (.lst []))) (hl:∀i ys σ H,i≤xs.length→Pv i ys σ H→SqT K H a xs)
  (hs:∀i x ys σ H,xs[i]?=some x→Pv i ys σ H→g x σ H fun σ2 H2=>tt σ2 H2 fun b H2'=>if b=true then te σ2 H2' fun v H3=>H3 D=some (.lst ys)∧ys.length < sizeLine∧Pv (i+1) (ys++[v]) σ2 (upd H3 D (.lst (ys++[v]))) else Pv (i+1) ys σ2 H2') (hd:∀ys σ H,Pv xs.length ys σ H→Q H):
  Comp g tt te h (Itt K a) σ0 D Q H:=by
 refine⟨fun i m ys σ H=>i+m=xs.length∧Pv i ys σ H,⟨xs.length,Nat.zero_add _,h0⟩,fun i m ys σ H ⟨e,p⟩=>?_⟩
 have hq:=hl i ys σ H (by omega) p
 by_cases hi:i < xs.length
 ·have ex:xs[i]?=some xs[i]:=List.getElem?_eq_getElem hi
  refine .inr ⟨⟨xs,_,hq,ex⟩,Pv (i+1),fun ys σ H q=>⟨m - 1,by omega,by omega,q⟩,?_⟩
  rintro y H' ⟨rfl,hy⟩
  exact hs i y ys σ H' (hy xs hq) p
 ·have e':i=xs.length:=by omega
  subst e'
  exact .inl ⟨⟨xs,hq,Nat.le_refl _⟩,hd ys σ H p⟩
theorem ahr {prog:Program} {w:World} {A:Around} {R:Result→Shared→Prop} {s:Shared} {elt target iter:Expr} {ifs:List Expr} {scope:Scope} {pos:Pos} {it acc:Value} {env:Env} (I:Nat→Shared→Prop)
  (turn:∀n s,I n s→wpAny (model prog w) A (pyNext it) (fun r s₁=>match r with
   |none=>R (.ok .next) s₁
   |some v=>wpAny (model prog w) A (letOwnedTupleGo target it v) (fun _ s₁'=>wpAny (model prog w) A (assign target env v) (fun _ s₂=>
    wpAny (model prog w) A (forIn ifs true fun c r=>if r=true then do let ok←isTrue c env (eval c env);pure (ForInStep.yield ok) else pure (ForInStep.yield r)) (fun ok s₃=>
     if ok=true then wpAny (model prog w) A (eval elt env) (fun x s₄=>
      wpAny (model prog w) A (call (.builtin "list.append") [acc,x]) (fun _ s₅=>∃m,m < n∧I m s₅) (notedBy (model prog w) A env fun e s'=>R (.error e) s') s₄) (notedBy (model prog w) A env fun e s'=>R (.error e) s') s₃
     else ∃m,m < n∧I m s₃) (notedBy (model prog w) A env fun e s'=>R (.error e) s') s₂) (notedBy (model prog w) A env fun e s'=>R (.error e) s') s₁') (notedBy (model prog w) A env fun e s'=>R (.error e) s') s₁) (notedBy (model prog w) A env fun e s'=>R (.error e) s') s)
  (n:Nat) (h:I n s):codeAny (model prog w) A (.compLoop (.ListComp elt [⟨target,iter,ifs,0⟩] scope pos) 0 it acc env) R s:=by
 refine codeAny_loop rfl I (fun n s hI=>?_) n h
 show wpAny _ _ ((compTurn (.ListComp elt [⟨target,iter,ifs,0⟩] scope pos) 0 it acc env).onRaise (fun x=>do noteFrame x env;theTreesLotGoes x)) _ _ s
 refine wpAny_noted ?_
 rw[compTurn_list]
 refine wpAny_bind (wpAny_standAt (wpAny_bind (wpAny_mono (turn n s hI) (fun r s₁ h₁=>?_) fun _ _ h'=>h')))
 cases r with
 |none=>exact wpAny_pure h₁
 |some v=>
  refine wpAny_bind (wpAny_mono h₁ (fun _ s₁' h₁'=>?_) fun _ _ h'=>h')
  refine wpAny_bind (wpAny_mono h₁' (fun _ s₂ h₂=>wpAny_bind (wpAny_mono h₂ (fun ok s₃ h₃=>?_) fun _ _ h'=>h')) fun _ _ h'=>h')
  cases ok with
  |false=>exact wpAny_pure ⟨rfl,h₃⟩
  |true=>
   exact wpAny_bind (wpAny_bind (wpAny_mono h₃ (fun x s₄ h₄=>wpAny_bind (wpAny_mono h₄ (fun _ s₅ h₅=>wpAny_pure (wpAny_pure ⟨rfl,h₅⟩)) fun _ _ h'=>h')) fun _ _ h'=>h'))
section
variable {X:Cx}
theorem ahe {pins:List (Addr×Obj)} {σ:St} {H2:Hp} {s2:Shared} {it:Addr} {fp:List Addr} {tn:Nat→Heap→Prop} {J:It} {tg iter elt:Expr} {ifs:List Expr} {scope:Scope} {cl:List (Str×Addr)} {pos:Pos} {x:Str} {fs:List Str} {ix:List Nat} {g:TG} {tt:TT} {te:TE}
  {Qf:Addr→Hp→Prop} {E:Value→Shared→Prop} {RR:Value→Addr→Result→Shared→Prop}
  (I2:Inv X pins σ H2 s2) (T:Turn X.prog X.w X.K tg J fp it tn) (st2:tn 0 s2.heap) (f2:∀b∈fp,FpOk X pins H2 b) (hc:X.calm=true) (S:CompSc scope X.env x fs)
  (c1:∀n c,cl.lookup n=some c→X.env.cells.lookup n=some c) (c2:∀n,(n,NameKind.free)∈scope.names→∃c,cl.lookup n=some c) (hix:ix.map (X.N[·]?)=fs.map some)
  (hg:∀C s₀ H₀ xe,PG (cxComp X scope cl C (x::fs) s₀ H₀ fp xe) tg g) (hf:∀C s₀ H₀ xe,PF (cxComp X scope cl C (x::fs) s₀ H₀ fp xe) ifs tt) (he:∀C s₀ H₀ xe,PE (cxComp X scope cl C (x::fs) s₀ H₀ fp xe) elt te)
  (h:∀D,H2 D=none→Comp g tt te .mk J (none::ix.map fun i=>(σ[i]?).join) D (Qf D) H2)
  (fin:∀D C H' s',Inv X pins σ H' s'→Qf D H'→(∃m,s'.heap.Ns C m)→FpOk X pins H' C→RR (.ref D) C (.ok .next) s'):
  wpAny (model X.prog X.w) X.A (newList []) (fun acc s₃=>wpAny (model X.prog X.w) X.A (newFunctionEnv scope X.env.globals cl [] X.env.qual none .none (some X.env)) (fun cenv s₄=>
   codeAny (model X.prog X.w) X.A (.compStart (.ListComp elt [⟨tg,iter,ifs,0⟩] scope pos) 0 (.ref it) acc {cenv with scope:=relabel scope X.env}) (RR acc cenv.locals) s₄) E s₃) E s2:=by
 have hD:H2 s2.heap.objs.size=none:=I2.hok.fresh (Nat.le_refl _)
 obtain⟨W,⟨m0,w0⟩,turn⟩:=h _ hD
 refine wpAny_newObj_type (wpAny_newFunctionEnv S.nocell (by intro y hy;simp at hy) (fun h₁ hns₁ hsb₁=>?_) S.kind)
 have I3:Inv X pins σ (upd H2 s2.heap.objs.size (.lst [])) {s2 with heap:=s2.heap.push {cls:=.type "list",dict:=none,data:=.seq ([]:List Value).toArray}}:=
  I2.laid (t':=s2.toks) (fun b u e=>Heap.get?_push_of_some _ e) (Nat.le_refl _) ⟨by decide,[],0,.nil,Heap.get?_push_size _ rfl⟩
 obtain⟨e3,he3⟩:∃s3:Shared,s3={s2 with heap:=s2.heap.push {cls:=.type "list",dict:=none,data:=.seq ([]:List Value).toArray}}:=⟨_,rfl⟩
 rw[←he3] at I3
 have hh3:s2.heap.push {cls:=.type "list",dict:=none,data:=.seq ([]:List Value).toArray}=e3.heap:=by rw[he3]
 have sz3:e3.heap.objs.size=s2.heap.objs.size+1:=by rw[←hh3,Heap.size_push]
 dsimp only at hns₁ hsb₁ ⊢
 rw[hh3] at hns₁ hsb₁ ⊢
 generalize hH3:upd H2 s2.heap.objs.size (.lst [])=H3 at *
 have live:∀b∈fp,b < s2.heap.objs.size:=fun b hb=>let ⟨_,e,_⟩:=T.obj _ _ st2 b hb;Heap.lt_size e
 have f3:∀b∈fp,FpOk X pins H3 b:=fun b hb=>by
  refine⟨?_,(f2 b hb).2⟩
  rw[←hH3,aaf (Nat.ne_of_lt (live b hb))]
  exact (f2 b hb).1
 have C0:FpOk X pins H3 e3.heap.objs.size:=I3.fpOk (Nat.le_refl _) (I3.hok.fresh (Nat.le_refl _))
 have old3:∀b o,e3.heap.get? b=some o→h₁.get? b=some o:=fun b o e=>hsb₁.extBut b o (Nat.ne_of_lt (Heap.lt_size e)) (Heap.get?_push_of_some _ e)
 have nofs:∀b∈fp,b∉frs X.stack:=fun b hb z=>(List.mem_cons.mp (I3.stkSub b z)).elim (f3 b hb).2.1 (f3 b hb).2.2.1
 have hst1:tn 0 h₁:=T.keep _ _ _ st2 fun b _ o e=>old3 b o (by rw[←hh3];exact Heap.get?_push_of_some _ e)
 have e0:=I3.env0
 have ok:∀xe,(cxComp X scope cl e3.heap.objs.size (x::fs) e3 H3 fp xe).Ok:=fun xe=>by
  refine⟨I3.ok.mod,S.kind,I3.ok.glob,I3.ok.blt,Nat.le_refl _,fun y z c h1 h2=>I3.ok.inj y z c (c1 _ _ h1) (c1 _ _ h2),fun y hy=>?_,fun y c z=>?_,I3.ok.hd,I3.ok.frames,.inl rfl,fun b hb=>⟨?_,fun y c e=>(f3 b hb).2.2.2.2.1 y c (c1 _ _ e)⟩,e0.bs,e0.bsz,fun b o e hb=>?_,nofs,e0.funs,e0.frf⟩
  ·have q:scope.names.lookup y=some .free∨scope.names.lookup y=some .cell:=by
    rcases hy with hy|hy
    ·exact aez hy (.inl rfl)
    ·exact aez hy (.inr rfl)
   rcases q with q|q
   ·exact c2 y (PySem.mem_of_lookup q)
   ·exact absurd rfl (S.nocell _ (PySem.mem_of_lookup q))
  ·cases z
  ·exact Nat.ne_of_lt (Nat.lt_of_lt_of_le (live b hb) (by rw[sz3];exact Nat.le_succ _))
  ·rcases (f3 b hb).2.2.2.1 with z|z
   ·exact I3.ok.noex b o e z
   ·exact absurd (Nat.lt_of_lt_of_le (Heap.lt_size e) (Nat.le_trans I3.ok.bsz z)) (Nat.lt_irrefl _)
 have cellUp:∀c v,e3.heap.IsCell c v→h₁.IsCell c v:=fun c v ⟨o,ho,hd⟩=>⟨o,old3 _ _ ho,hd⟩
 have J0:∀xe,Inv (cxComp X scope cl e3.heap.objs.size (x::fs) e3 H3 fp xe) [] (none::ix.map fun i=>(σ[i]?).join) H3 {e3 with heap:=h₁,toks:=e3.toks+([]:List (Str×Value)).length}:=fun xe=>by
  have hk:∀b o,e3.heap.get? b=some o→h₁.get? b=some o:=old3
  refine⟨ok xe,rfl,I3.bare,Un.kept hk,⟨_,hns₁,fun i y v h1 h2 h3=>?_⟩,fun y c e=>?_,I3.hok.fresh (Nat.le_refl _),fun y c e=>I3.freeC y c (c1 _ _ e),fun p hp=>absurd (show p∈([]:List (Addr×Obj)) from hp) (by simp),I3.hok.kept hk,?_⟩
  ·cases i with
   |zero=>cases h2
   |succ i=>
    have h1:fs[i]?=some y:=h1
    have h2:(ix.map fun i=>(σ[i]?).join)[i]?=some (some v):=h2
    have hy:=S.fs y (List.mem_of_getElem? h1)
    rw[List.getElem?_map] at h2
    cases ej:ix[i]? with
    |none=>rw[ej] at h2;cases h2
    |some j=>
     rw[ej] at h2
     have h2:(σ[j]?).join=some v:=Option.some.inj h2
     have hσ:σ[j]?=some (some v):=by
      cases q:σ[j]? with
      |none=>rw[q] at h2;cases h2
      |some o=>rw[q] at h2;cases o with
       |none=>cases h2
       |some o=>cases h2;rfl
     have hN:X.N[j]?=some y:=by
      have z:=congrArg (·[i]?) hix
      simp only[List.getElem?_map,ej,h1,Option.map_some] at z
      exact Option.some.inj z
     have kf:=S.fr _ (PySem.mem_of_lookup hy) rfl
     obtain⟨m,hn,hl⟩:=I3.loc
     obtain⟨u,r,l⟩:=hl j y v hN hσ (by rcases kf with k|k;exact .inr (.inl k);exact .inr (.inr k))
     refine⟨u,r,.inr ⟨af6 hy,?_⟩⟩
     rcases l with ⟨l,_⟩|⟨_,c,e,z⟩
     ·rcases kf with k|k<;>(rw[l] at k;cases k)
     ·obtain⟨c',e'⟩:=c2 y (PySem.mem_of_lookup hy)
      have q:=c1 _ _ e'
      rw[e] at q;cases q
      exact⟨c,e',cellUp _ _ z⟩
  ·obtain⟨v,z⟩:=I3.cell y c (c1 _ _ e)
   exact⟨v,cellUp _ _ z⟩
  ·have z:=congrArg List.length hix
   simp only[List.length_map] at z
   show (none::_:St).length=(x::fs).length
   simp only[List.length_cons,List.length_map,z]
 have back:∀{xe σ' H' s'},Inv (cxComp X scope cl e3.heap.objs.size (x::fs) e3 H3 fp xe) [] σ' H' s'→Inv X pins σ H' s':=fun {xe σ' H' s'} J=>
  I3.call' (s':=s') (ch:=fp) J.os J.base J.hok J.bare fun b hb=>⟨(f3 b hb).2.2.2.1,(f3 b hb).2.1,(f3 b hb).2.2.2.2.1,(f3 b hb).2.2.2.2.2⟩
 have stat:∀{xe} {H':Hp},(∀b∈fp,H' b=none)→∀b∈fp,FpOk (cxComp X scope cl e3.heap.objs.size (x::fs) e3 H3 fp xe) [] H' b:=fun {xe H'} hn b hb=>
  ⟨hn b hb,Nat.ne_of_lt (Nat.lt_of_lt_of_le (live b hb) (by rw[sz3];exact Nat.le_succ _)),nofs b hb,.inl hb,fun y c e=>(f3 b hb).2.2.2.2.1 y c (c1 _ _ e),fun p hp=>absurd (show p∈([]:List (Addr×Obj)) from hp) (by simp)⟩
 have loop:∀s4:Shared,s4={e3 with heap:=h₁,toks:=e3.toks+([]:List (Str×Value)).length}→
   codeAny (model X.prog X.w) X.A (.compLoop (.ListComp elt [⟨tg,iter,ifs,0⟩] scope pos) 0 (.ref it) (.ref s2.heap.objs.size) (compEnvC scope cl e3.heap.objs.size X.env)) (RR (.ref s2.heap.objs.size) e3.heap.objs.size) s4:=by
  rintro s4 rfl
  let xe:=notedBy (model X.prog X.w) X.A (compEnvC scope cl e3.heap.objs.size X.env) fun e s'=>RR (.ref s2.heap.objs.size) e3.heap.objs.size (.error e) s'
  refine ahr (fun n s'=>∃i ys σ' H',Inv (cxComp X scope cl e3.heap.objs.size (x::fs) e3 H3 fp xe) [] σ' H' s'∧tn i s'.heap∧(∀b∈fp,H' b=none)∧W i n ys σ' H') ?_ m0 ⟨0,[],_,_,J0 xe,hst1,fun b hb=>(f3 b hb).1,w0⟩
  rintro n s5 ⟨i,ys,σ5,H5,J5,st5,fr5,w5⟩
  rcases turn i n ys σ5 H5 w5 with ⟨stop,qn⟩|⟨go,N,hN,step⟩
  ·refine thn (T.done (cxComp X scope cl e3.heap.objs.size (x::fs) e3 H3 fp xe) rfl rfl rfl hc i [] s5 σ5 H5 xe J5 (stat fr5) st5 stop) fun r s6 ⟨hr,J6⟩=>?_
   subst hr
   obtain⟨m,hn,_⟩:=J6.loc
   exact fin _ _ H5 s6 (back J6) qn ⟨m,hn⟩ ⟨J6.free,C0.2⟩
  ·refine thn (T.item (cxComp X scope cl e3.heap.objs.size (x::fs) e3 H3 fp xe) rfl rfl rfl hc i [] s5 σ5 H5 xe J5 (stat fr5) st5 go) fun r s6 ⟨u,hr,h6⟩=>?_
   subst hr
   refine thn h6 fun _ s7 ⟨y,H7,J7,r7,y7,st7,fr7⟩=>?_
   have J7':=J7.pinned (stat fr7) (T.obj _ _ st7)
   refine thn (hg _ _ _ xe _ s7 σ5 H7 y u _ J7' r7 (step y H7 y7)) fun _ s8 ⟨σ8,H8,J8,q8⟩=>?_
   refine thn (hf _ _ _ xe _ s8 σ8 H8 _ J8 q8) fun ok s8' ⟨H8',J8',q8'⟩=>?_
   cases ok with
   |false=>
    obtain⟨m',hm',w9⟩:=hN _ _ _ (by simpa using q8')
    refine⟨m',hm',i+1,ys,σ8,_,J8'.unpinned,T.keep _ _ _ st7 fun b hb o e=>(J8'.pin (b,o) (List.mem_append_right _ (List.mem_append_right _ (ads hb e)))).1,fun b hb=>?_,w9⟩
    obtain⟨o,e,d⟩:=T.obj _ _ st7 b hb
    exact (J8'.pin (b,o) (List.mem_append_right _ (List.mem_append_right _ (ads hb e)))).2.1
   |true=>
   rw[if_pos rfl] at q8' ⊢
   refine thn (he _ _ _ xe _ s8' σ8 H8' _ J8' q8') fun uv s9 ⟨v,H9,J9,r9,hD9,hl9,n9⟩=>?_
   obtain⟨m',hm',w9⟩:=hN _ _ _ n9
   refine thn (adm (X:=cxComp X scope cl e3.heap.objs.size (x::fs) e3 H3 fp xe) _ s9 σ8 H9 (.ref s2.heap.objs.size) [v] _ [uv] (fun _ H'=>H'=upd H9 s2.heap.objs.size (.lst (ys++[v]))) J9 rfl (.cons r9 .nil) ⟨_,ys,v,rfl,rfl,hD9,hl9,rfl⟩) fun _ s10 ⟨_,H10,J10,_,eH⟩=>?_
   subst eH
   refine⟨m',hm',i+1,ys++[v],σ8,_,J10.unpinned,T.keep _ _ _ st7 fun b hb o e=>(J10.pin (b,o) (List.mem_append_right _ (List.mem_append_right _ (ads hb e)))).1,fun b hb=>?_,w9⟩
   obtain⟨o,e,d⟩:=T.obj _ _ st7 b hb
   exact (J10.pin (b,o) (List.mem_append_right _ (List.mem_append_right _ (ads hb e)))).2.1
 subst he3
 exact codeAny_compStart_list (loop _ rfl) (T.self X.A 0 _ _ _ hst1 (loop _ rfl))
theorem CompSc.clos {pins:List (Addr×Obj)} {σ:St} {H:Hp} {s:Shared} {scope:Scope} {x:Str} {fs:List Str} (S:CompSc scope X.env x fs) (I:Inv X pins σ H s):
  ∃cl,closureFor scope X.env=pure cl∧(∀n c,cl.lookup n=some c→X.env.cells.lookup n=some c)∧∀n,(n,NameKind.free)∈scope.names→∃c,cl.lookup n=some c:=
 ako fun n hn=>I.ok.has n (S.fr _ hn rfl)
theorem ade {tg iter elt:Expr} {ifs:List Expr} {scope:Scope} {pos:Pos} {x:Str} {fs:List Str} {ix:List Nat} {wi:TI} {g:TG} {tt:TT} {te:TE} (hc:X.calm=true) (hi:PI X tg iter wi) (hk:compChk scope X.env x fs=true) (hix:ix.map (X.N[·]?)=fs.map some)
  (hg:∀cl C s₀ H₀ fp xe,PG (cxComp X scope cl C (x::fs) s₀ H₀ fp xe) tg g) (hf:∀cl C s₀ H₀ fp xe,PF (cxComp X scope cl C (x::fs) s₀ H₀ fp xe) ifs tt) (he:∀cl C s₀ H₀ fp xe,PE (cxComp X scope cl C (x::fs) s₀ H₀ fp xe) elt te) (hs:∀x,foldedSetIterable iter X.env x=pure x:=by intro _;rfl):
  PE X (.ListComp elt [⟨tg,iter,ifs,0⟩] scope pos) (tComp wi ix g tt te .mk):=by
 intro pins s σ H Q I h
 have S:=CompSc.of hk
 obtain⟨cl,hcl,c1,c2⟩:=S.clos I
 rw[eval_ListComp]
 refine wpAny_comprehension_free (use:=none) rfl hs hcl S.kind S.own (thn (hi pins s σ H _ I h) fun v s1 h1=>thn h1 fun itv s2 h2=>?_)
 obtain⟨it,fp,tn,J,H2,e,I2,T,st2,f2,q⟩:=h2
 subst e
 refine ahe (RR:=fun acc C=>compPost (model X.prog X.w) X.A X.xe none (EP X pins σ Q) acc C) I2 T st2 f2 hc S c1 c2 hix (fun C s₀ H₀ xe=>hg cl C s₀ H₀ fp xe) (fun C s₀ H₀ xe=>hf cl C s₀ H₀ fp xe) (fun C s₀ H₀ xe=>he cl C s₀ H₀ fp xe) q fun D C H' s' I' q' ⟨m,hn⟩ ⟨f0,f1,_,f3,f4,f5⟩=>?_
 exact⟨m,hn,fun h' hs'=>⟨.ref D,H',I'.turned (t':=s'.toks) (fun b o hb e=>(hs'.2 b hb).trans e) f0 f1 f3 f4 f5,rfl,q'⟩⟩
theorem agr {tg iter elt:Expr} {ifs:List Expr} {scope:Scope} {pos spos py:Pos} {x y:Str} {i:Nat} {fs:List Str} {ix:List Nat} {wi:TI} {g:TG} {tt:TT} {te:TE} (hN:X.N.Nodup) (hy:X.N[i]?=some y) (hl:X.env.kindOf y=some .local) (hc:X.calm=true) (hi:PI X tg iter wi)
  (hk:compChk scope X.env x fs=true) (hix:ix.map (X.N[·]?)=fs.map some)
  (hg:∀cl C s₀ H₀ fp xe,PG (cxComp X scope cl C (x::fs) s₀ H₀ fp xe) tg g) (hf:∀cl C s₀ H₀ fp xe,PF (cxComp X scope cl C (x::fs) s₀ H₀ fp xe) ifs tt) (he:∀cl C s₀ H₀ fp xe,PE (cxComp X scope cl C (x::fs) s₀ H₀ fp xe) elt te)
  (hsw:swapsWith (.ListComp elt [⟨tg,iter,ifs,0⟩] scope pos) (some (.Name y py)) spos.line X.env=pure true:=by rfl) (hs:∀x,foldedSetIterable iter X.env x=pure x:=by intro _;rfl):
  PS X (.Assign [.Name y py] (.ListComp elt [⟨tg,iter,ifs,0⟩] scope pos) spos) (tAsg (tComp wi ix g tt te .mk) (gName i)):=by
 intro pins s σ H D I h
 have S:=CompSc.of hk
 obtain⟨cl,hcl,c1,c2⟩:=S.clos I
 rw[exec_Assign_Name_used _ _ _ _ hsw]
 refine wpAny_bind (wpAny_standAt (wpAny_bind ?_))
 show wpAny _ X.A (do let _←comprehension (.ListComp elt [⟨tg,iter,ifs,0⟩] scope pos) scope X.env _ (newList []) false (eval iter X.env) (some (assign (.Name y py) X.env))) _ _ s
 refine wpAny_bind (wpAny_mono (wpAny_comprehension_free (use:=some (assign (.Name y py) X.env)) (Q:=fun _ s'=>SP X pins D .next s') rfl hs hcl S.kind S.own
  (thn (hi pins s σ H _ I h) fun v s1 h1=>thn h1 fun itv s2 h2=>?_)) (fun _ s' hq=>wpAny_pure (wpAny_pure hq)) fun _ _ e=>e)
 obtain⟨it,fp,tn,J,H2,e,I2,T,st2,f2,q⟩:=h2
 subst e
 refine ahe (RR:=fun acc C=>compPost (model X.prog X.w) X.A X.xe (some (assign (.Name y py) X.env)) (fun _ s'=>SP X pins D .next s') acc C) I2 T st2 f2 hc S c1 c2 hix (fun C s₀ H₀ xe=>hg cl C s₀ H₀ fp xe) (fun C s₀ H₀ xe=>hf cl C s₀ H₀ fp xe) (fun C s₀ H₀ xe=>he cl C s₀ H₀ fp xe) q
  fun D' C H' s' I' q' ⟨m,hn⟩ ⟨f0,f1,_,f3,f4,f5⟩=>?_
 show wpAny _ X.A (assign (.Name y py) X.env (.ref D')) _ _ _
 refine wpAny_assign_Name (ah7 (v:=.ref D') I' hN hy (.inl hl) rfl (fun s'' I'' ⟨a,sb,ha⟩=>?_) (.inr hl))
 have hne:C≠a:=by
  rcases ha with ha|ha
  ·rw[ha];exact f1
  ·exact fun z=>f4 _ _ ha z.symm
 exact⟨m,hn.sameBut sb hne,fun h' hs'=>⟨_,H',I''.turned (t':=s''.toks) (fun b o hb e=>(hs'.2 b hb).trans e) f0 f1 f3 f4 f5,q'⟩⟩
end
end L2
namespace L2
open PySem PySem.Spec PyProof.Rows
section
variable {X:Cx} {pins:List (Addr×Obj)} {σ:List (Option V)} {H H':Hp} {s:Shared} {h':Heap}
theorem Inv.turnedL {t':Nat} {ch:List Addr} (I:Inv X pins σ H s) (k:∀b o,b∉ch→s.heap.get? b=some o→h'.get? b=some o) (hf:∀b∈ch,FpOk X pins H b):Inv X pins σ H {s with heap:=h',toks:=t'}:=by
 have nit:∀b u,H b=some u→b∉ch:=fun b u e z=>by rw[(hf b z).1] at e;cases e
 refine I.step (g':=s.gens) (d':=s.drawn) (ch:=ch) (fun b hb=>⟨(hf b hb).2.2.2.1,(hf b hb).2.1,(hf b hb).2.2.2.2.1,(hf b hb).2.2.2.2.2⟩) (fun b o _ _ hc e _=>k b o hc e) (fun b o _ _ hc e _=>⟨o.slots,k b o hc e⟩) (fun _ _ _ _ n=>n)
  (fun b o hc e=>⟨o,k b o hc e⟩) (fun _ _ e=>e) (fun _ _ _ e=>e) (fun b ps e=>⟨#[],by rw[e];simp⟩) (fun m hm=>?_) (fun b u e=>?_) I.bare
 ·obtain⟨o,es,ep,ho,r⟩:=hm
  exact⟨o,es,ep,k _ o (fun z=>(hf _ z).2.1 rfl) ho,r⟩
 ·refine (I.hok b u e).stay (fun c v hc q=>k c v ?_ q) (fun _ q=>q) fun _ _ q=>q
  rcases hc with z|z
  ·rw[z];exact nit b u e
  ·exact nit c _ z
end
noncomputable def Ite (K:PySem.W.Frag) (a:Addr):It:=
 ⟨fun i H=>∃xs x,SqL K H a xs∧xs[i]?=some x,fun i H v H'=>∃t x,v=.ref t∧H t=none∧H'=upd H t (.tup [.int i,x])∧∀xs,SqL K H a xs→xs[i]?=some x,fun i H=>∃xs,SqL K H a xs∧xs.length≤i⟩
theorem alr {P:Program} {w:World} {K:PySem.W.Frag} {elts:List Expr} {x1} {pos:Pos} (a e it:Addr) (hne:e≠it):
  Turn P w K (.Tuple elts x1 pos) (Ite K a) [e,it] e (fun i h=>(∃old,IsEnum h e it i old)∧h.IsListIter it a i) where
 mem:=by simp
 obj:=fun i h st b hb=>by
  obtain⟨⟨old,he⟩,o,ho,c,d⟩:=st
  have hb:b=e∨b=it:=by simpa using hb
  rcases hb with rfl|rfl
  ·exact⟨_,he,fun v z=>by
    have z':Data.fields _=Data.cell v:=z
    cases z'⟩
  ·exact⟨o,ho,fun v z=>by rw[d] at z;cases z⟩
 keep:=fun i h h' st k=>⟨let ⟨old,he⟩:=st.1;⟨old,k e (by simp) _ he⟩,st.2.at fun o q=>k it (by simp) o q⟩
 item:=by
  intro X hP hw hK hc i pins s σ H E I hf st hg
  subst hP hw hK
  obtain⟨xs,x,hq,hx⟩:=hg
  obtain⟨its,rv,p,hz⟩:=I.list hq
  obtain⟨u,hu,ru⟩:=rv.get hx
  obtain⟨⟨old,he⟩,hit⟩:=st
  refine wpAny_pyNext_enum_item he hit p.isList (x:=u) (by simpa using hu) hne fun h1 eo hit1 ht hsz kk=>?_
  refine⟨_,rfl,wpAny_letOwnedTupleGo_enum eo fun h2 en sb=>?_⟩
  have hT:H s.heap.objs.size=none:=I.hok.fresh (Nat.le_refl _)
  have hef:e≠s.heap.objs.size:=Nat.ne_of_lt (Heap.lt_size he)
  have hif:it≠s.heap.objs.size:=Nat.ne_of_lt (let ⟨_,ho,_⟩:=hit;Heap.lt_size ho)
  have ht2:h2.get? s.heap.objs.size=some {cls:=.type "tuple",data:=.seq #[.int i s.toks,u]}:=(sb.2 _ (Ne.symm hef)).trans ht
  have I1:Inv X pins σ (upd H s.heap.objs.size (.tup [.int i,x])) {s with heap:=s.heap.push {cls:=.type "tuple",data:=.seq #[.int i s.toks,u]}}:=
   I.laid (t':=s.toks) (fun b o q=>Heap.get?_push_of_some _ q) (Nat.le_refl _) ⟨by show 2≤sizeLine;decide,[.int i s.toks,u],.cons ⟨_,rfl⟩ (.cons ru .nil),⟨_,Heap.get?_push_size _ rfl,rfl,_,rfl⟩⟩
  have hf1:∀b∈[e,it],FpOk X pins (upd H s.heap.objs.size (.tup [.int i,x])) b:=fun b hb=>by
   refine⟨?_,(hf b hb).2⟩
   have hb':b=e∨b=it:=by simpa using hb
   rw[aaf (by rcases hb' with rfl|rfl;exact hef;exact hif)]
   exact (hf b hb).1
  have I2:Inv X pins σ (upd H s.heap.objs.size (.tup [.int i,x])) {s with heap:=h2,toks:=s.toks+1}:=by
   have J:=Inv.turnedL (t':=s.toks+1) (h':=h2) (ch:=[e,it]) I1 ?k hf1
   ·exact J
   intro b o hb q
   dsimp only at q
   have hb1:b≠e:=fun z=>hb (by simp[z])
   have hb2:b≠it:=fun z=>hb (by simp[z])
   rcases PySem.Heap.get?_push_cases q with ⟨rfl,rfl⟩|q
   ·exact ht2
   ·exact (sb.2 b hb1).trans (kk b o hb1 hb2 q)
  refine⟨.ref s.heap.objs.size,_,I2,rfl,⟨_,x,rfl,hT,rfl,fun ys hy=>by rw[I.list_inj hy hq];exact hx⟩,⟨⟨_,en⟩,hit1.extBut sb.extBut (Ne.symm hne)⟩,fun b hb=>(hf1 b hb).1⟩
 done:=by
  intro X hP hw hK hc i pins s σ H E I hf st hg
  subst hP hw hK
  obtain⟨xs,hq,hx⟩:=hg
  obtain⟨its,rv,p,hz⟩:=I.list hq
  obtain⟨⟨old,he⟩,hit⟩:=st
  obtain⟨f0,f1,f2,f3,f4,f5⟩:=hf it (by simp)
  have hl:=rv.length
  exact wpAny_pyNext_enum_end (I.ok.hd hc) he hit p.isList (by simp;omega) fun h' eb=>⟨rfl,I.turned (t':=s.toks) (fun b o hb e=>eb b o hb e) f0 f1 f3 f4 f5⟩
 self:=fun _ _ _ _ _ st h=>let ⟨_,he⟩:=st.1;wpAny_pyIter_enum he h
section
variable {X:Cx}
noncomputable def iEnum (K:PySem.W.Frag) (ta:TA):TI:=fun σ H R=>ta σ H fun vs H1=>∃a,vs=[.ref a]∧(∃xs,SqL K H1 a xs)∧R (Ite K a) H1
theorem alt:bootBuiltins "enumerate"=some (.type "enumerate"):=by decide+kernel
theorem ags {e:Expr} {ta:TA} {p pos tpos:Pos} {elts:List Expr} {x1} (hg:Gl X "enumerate") (hm:X.mg "enumerate"=none) (ha:PA X [e] ta) (hs:starEach [e] X.env=[(false,eval e X.env)]:=by rfl):
  PI X (.Tuple elts x1 tpos) (.Call (.Name "enumerate" p) [e] [] pos) (iEnum X.K ta):=by
 intro pins s σ H R I h
 refine Call_ (ah8 I hg hm alt (PyProof.Rows.callWith_type1 (thn (ha pos pins s σ H _ I h) fun us s1 ⟨vs,H1,I1,r1,q1⟩=>?_) hs rfl))
 obtain⟨a,ev,⟨xs,hq⟩,q⟩:=q1
 subst ev
 cases r1 with
 |cons r rr=>
  cases rr
  cases r
  obtain⟨its,rv,pl,hz⟩:=I1.list hq
  refine call_enumerate_list pl.isList fun h' he hit hsz kk=>wpAny_pyIter_enum he ?_
  have I2:Inv X pins σ H1 {s1 with heap:=h'}:=I1.kept (t':=s1.toks) kk
  refine⟨s1.heap.objs.size+1,[s1.heap.objs.size+1,s1.heap.objs.size],_,_,H1,rfl,I2,alr a _ _ (Nat.ne_of_gt (Nat.lt_succ_self _)),⟨⟨_,he⟩,hit⟩,fun b hb=>?_,q⟩
  have hb:b=s1.heap.objs.size+1∨b=s1.heap.objs.size:=by simpa using hb
  have hle:s1.heap.objs.size≤b:=by rcases hb with rfl|rfl;exact Nat.le_succ _;exact Nat.le_refl _
  exact I1.fpOk hle (I1.hok.fresh hle)
end
theorem ae1 {K:PySem.W.Frag} {a:Addr} {xs:List V} {g:TG} {tb:TS} {h:HidF g tb} {D:Ends} {σ:St} {H:Hp} (Pv:Nat→St→Hp→Prop) (h0:Pv 0 σ H) (hl:∀i σ H,i≤xs.length→Pv i σ H→SqL K H a xs)
  (hs:∀i x t σ H,xs[i]?=some x→Pv i σ H→H t=none→g (.ref t) σ (upd H t (.tup [.int i,x])) fun σ2 H2=>tb {D with nx:=Pv (i+1),ct:=Pv (i+1),bk:=D.nx} σ2 H2) (hd:∀σ H,Pv xs.length σ H→D.nx σ H):Loop g tb h (Ite K a) D σ H:=by
 refine⟨fun i m σ H=>i+m=xs.length∧Pv i σ H,⟨xs.length,Nat.zero_add _,h0⟩,fun i m σ H ⟨e,p⟩=>?_⟩
 have hq:=hl i σ H (by omega) p
 by_cases hi:i < xs.length
 ·have ex:xs[i]?=some xs[i]:=List.getElem?_eq_getElem hi
  refine .inr ⟨⟨xs,_,hq,ex⟩,Pv (i+1),fun σ H q=>⟨m - 1,by omega,by omega,q⟩,?_⟩
  rintro y H' ⟨t,x,rfl,ht,rfl,hy⟩
  exact hs i x t σ H (hy xs hq) p ht
 ·have e':i=xs.length:=by omega
  subst e'
  exact .inl ⟨⟨xs,hq,Nat.le_refl _⟩,hd σ H p⟩
end L2
namespace L2
open PySem PySem.Spec PyProof.Rows
section
variable {X:Cx} {pins:List (Addr×Obj)} {σ:St} {H:Hp} {s:Shared} {a:Addr} {kvs:List (Key×V)} {k:Key} {u r:Value} {z:V} {A:Around} {E:Value→Shared→Prop}
end
section
variable {X:Cx} {o e f:Expr} {apos cpos:Pos} {td ty tx:TE}
end
theorem ajs:∀{bs:List Bool} {us:List Value},Vals (bs.map V.bl) us→LSm.BoolsAre us bs
 |[],_,h=>by cases h;exact .nil
 |b::bs,_,h=>by
  cases h with
  |cons r rr=>
   cases r
   exact .cons _ (ajs rr)
theorem ans {X:Cx} (hc:X.calm=true):CallR X (.builtin "any") (fun xs H Q=>∃(p:Addr) (bs:List Bool),xs=[.ref p]∧SqL X.K H p (bs.map V.bl)∧Q (.bl (bs.any id)) H):=by
 intro pins s σ H xs us Q I r h
 obtain⟨p,bs,rfl,hq,q⟩:=h
 obtain⟨u,rfl,rx⟩:=vals1 r
 cases rx
 obtain⟨its,r',pl,hz⟩:=I.list hq
 have hb:=ajs r'
 have hl:=pl.isList
 have hlt:p < s.heap.objs.size:=by obtain⟨_,e,_⟩:=id hl;exact Heap.lt_size e
 refine call_any_walk (wpAny_pyIter_list hl ?_)
 refine⟨s.heap.objs.size,[s.heap.objs.size,p],[s.heap.objs.size],its.toArray.size,_,_,fun i=>(bs[i]?).getD false,rfl,Walks.list (A:=X.A.in1) (I.ok.hd hc) _ p (Nat.ne_of_lt hlt) its.toArray,
  ⟨⟨_,Heap.get?_push_size _ rfl,rfl,rfl⟩,hl.push _⟩,fun i v s' Q' E' hP hQ=>?_,fun h' tk hk=>?_⟩
 ·obtain⟨b,e,rfl⟩:=hb.get i v (by simpa using hP)
  simp only[e,Option.getD_some] at hQ
  exact wpAny_truthy_bool hQ
 ·have e:((List.range its.toArray.size).any fun i=>(bs[i]?).getD false)=bs.any id:=by
   rw[List.size_toArray,hb.length];exact LSm.range_any bs
  rw[e]
  exact⟨.bl (bs.any id),H,I.kept (t':=tk) (LSm.kept_iter hk),rfl,q⟩
inductive HidW (c:TT) (tb:TS):Type where
 |mk:HidW c tb
inductive HidB (tb:TS):Type where
 |mk:HidB tb
noncomputable def LoopW (c:TT) (tb:TS) (_:HidW c tb):TS:=tWhile c tb
noncomputable def TurnW (tb:TS) (_:HidB tb) (Pv:Nat→St→Hp→Prop) (m:Nat) (D:Ends) (σ:St) (H:Hp):Prop:=
 ∃N:St→Hp→Prop,(∀σ' H',N σ' H'→∃m',m' < m∧Pv m' σ' H')∧tb {D with nx:=N,ct:=N,bk:=D.nx} σ H
theorem alu {X:Cx} {c:Expr} {body:List Stmt} {tc:TT} {tb:TS} {pos:Pos} (hp:PassesOwn (model X.prog X.w) X.A X.env X.xe) (hc:PT X c tc) (hb:PSs X body tb):PS X (.While c body [] pos) (LoopW tc tb .mk):=am8 hp hc hb
theorem akp {c:TT} {tb:TS} {h:HidW c tb} {D:Ends} {σ:St} {H:Hp} (Pv:Nat→St→Hp→Prop) (m0:Nat) (h0:Pv m0 σ H)
 (hs:∀m σ H,Pv m σ H→c σ H fun b H1=>if b=true then TurnW tb .mk Pv m D σ H1 else D.nx σ H1):LoopW c tb h D σ H:=⟨Pv,⟨m0,h0⟩,hs⟩
theorem turnW {tb:TS} {h:HidB tb} {Pv:Nat→St→Hp→Prop} {m:Nat} {D:Ends} {σ:St} {H:Hp}
 (q:tb {D with nx:=fun σ' H'=>∃m',m' < m∧Pv m' σ' H',ct:=fun σ' H'=>∃m',m' < m∧Pv m' σ' H',bk:=D.nx} σ H):TurnW tb h Pv m D σ H:=⟨_,fun _ _ h=>h,q⟩
end L2
namespace L2
open PySem PySem.Spec PyProof.Rows
section
variable {X:Cx} {pins:List (Addr×Obj)} {σ:List (Option V)} {H:Hp} {s:Shared} {a:Addr}
theorem Inv.rewrite {u v:HO} (I:Inv X pins σ H s) (e:H a=some u) (hn:∀b,u≠.own b) (ht:∀xs,u≠.tup xs) (h0:∀w,X.H₀ a=some w→(∃o z,w=.frz o z)∨(∃xs,w=.tup xs)∨(∃ps,w=.tbl ps)→False) (new:ObjOk X.prog X.w (upd H a v) s.heap a v):
  Inv X pins σ (upd H a v) s where
 ok:=I.ok
 os:=I.os
 bare:=I.bare
 base:=⟨I.base.keep,I.base.slot,fun b o q n hx=>by
   have:=I.base.free b o q n hx
   rw[aaf (fun z=>by rw[z,e] at this;cases this)];exact this,I.base.there,
  fun b xs q=>by
   have hb:b≠a:=fun z=>h0 _ (z ▸ q) (.inr (.inl ⟨_,rfl⟩))
   rw[aaf hb];exact I.base.tups b xs q,
  fun b o z q=>by
   have hb:b≠a:=fun z=>h0 _ (z ▸ q) (.inl ⟨_,_,rfl⟩)
   rw[aaf hb];exact I.base.frzs b o z q,
  fun b ps q=>by
   have hb:b≠a:=fun z=>h0 _ (z ▸ q) (.inr (.inr ⟨_,rfl⟩))
   rw[aaf hb];exact I.base.tbls b ps q⟩
 loc:=I.loc
 cell:=I.cell
 free:=by rw[aaf (Ne.symm (aan e I.free))];exact I.free
 freeC:=fun x c q=>by
  have:=I.freeC x c q
  rw[aaf (Ne.symm (aan e this))];exact this
 pin:=fun p hp=>by
  obtain⟨p1,p2,p3⟩:=I.pin p hp
  exact⟨p1,by rw[aaf (Ne.symm (aan e p2))];exact p2,p3⟩
 hok:=fun b w q=>by
  by_cases hb:b=a
  ·subst hb;rw[aah] at q;cases q;exact new
  ·rw[aaf hb] at q
   refine (I.hok b w q).stay (fun _ _ _ q=>q) (fun c q=>?_) fun c xs q=>?_
   ·rw[aaf (fun z=>by rw[z,e] at q;exact hn _ (Option.some.inj q))];exact q
   ·rw[aaf (fun z=>by rw[z,e] at q;exact ht _ (Option.some.inj q))];exact q
 len:=I.len
theorem Inv.still {w:HO} (I:Inv X pins σ H s) (h:X.H₀ a=some w) (hw:(∃o z,w=.frz o z)∨(∃xs,w=.tup xs)∨(∃ps,w=.tbl ps)):(∃o z,H a=some (.frz o z))∨(∃xs,H a=some (.tup xs))∨(∃ps,H a=some (.tbl ps)):=by
 rcases hw with ⟨o,z,rfl⟩|⟨xs,rfl⟩|⟨ps,rfl⟩
 ·exact .inl ⟨o,z,I.base.frzs a o z h⟩
 ·exact .inr (.inl ⟨xs,I.base.tups a xs h⟩)
 ·obtain⟨m,e⟩:=I.base.tbls a ps h
  exact .inr (.inr ⟨_,e⟩)
end
end L2
namespace L2
open PySem PySem.Spec PyProof.Rows
end L2
namespace L2
open PySem PySem.Spec PyProof.Rows
end L2
namespace L2
open PySem PySem.Spec PyProof.Rows
end L2
namespace L2
open PySem PySem.Spec PyProof.Rows
theorem afl {X:Cx} {K:PySem.W.Frag} (h:X.K=K):IxR X (rIxT K):=h ▸ aa0
theorem aec {X:Cx} {K:PySem.W.Frag} (h:X.K=K):IxR X (rIxL K):=h ▸ aaj
end L2
namespace L2
open PySem PySem.Spec PyProof.Rows
structure FunD (K:PySem.W.Frag) (x qual:Str) (st:Stmt) (f:Addr) (fd:FuncData):Prop where
 ex:∃(oc:Value) (od:Option Addr) (dV kV doc pm:Value) (an:Option Addr) (cdv ct:Value) (osl:Array (Option Value)),
  fd=PySem.W.fnOf x qual (defArgs st) (defBody st) (defScope st) dV kV doc pm an cdv ct∧K.lookup f=some ⟨oc,od,.func fd,osl⟩∧PySem.W.codeIn K cdv qual=true
 kp:PySem.W.keepIn K (.ref f)=true
section
variable {P:Program} {w:World} {K:PySem.W.Frag} {mg:Str→Option Value} {base:Heap}
theorem FunD.okE {x qual:Str} {st:Stmt} {f:Addr} {fd:FuncData} {N ps:List Str} {k:Nat} {sp:Sp} (F:FunD K x qual st f fd) (S:FnScope N ps (defScope st)) (len:∀vs H Q E,sp vs H Q E→vs.length=ps.length)
  (hbody:Body P w K mg base qual st N k sp):FnOk P w K mg base (CXe P w) (k+1) f fd ps sp:=by
 obtain⟨oc,od,dV,kV,doc,pm,an,cdv,ct,osl,rfl,lk,hcd⟩:=F.ex
 exact apr lk hcd S len fun A outer s H vs Q E hr hsp=>hbody f cdv A outer s H vs Q E hr hsp
noncomputable def RawMD (K:PySem.W.Frag) (C:Addr) (m qual:Str) (st:Stmt) (ps:List Str) (dvs:List V):Prop:=∃f fd ds,Meth K C m f∧FunD K m qual st f fd∧Binds K fd ps ds∧Vals dvs ds
noncomputable def RawID (K:PySem.W.Frag) (mg:Str→Option Value) (x:Str) (C:Addr) (qual:Str) (st:Stmt) (ps:List Str) (dvs:List V):Prop:=∃f fd ds,mg x=some (.ref C)∧Mk K C f∧FunD K "__init__" qual st f fd∧Binds K fd ps ds∧Vals dvs ds
end
end L2
namespace L2
open PySem PySem.Spec PyProof.Rows
end L2
namespace L2
open PySem PySem.Spec PyProof.Rows
end L2
namespace L2
open PySem PySem.Spec PyProof.Rows
noncomputable def rIx2 (K:PySem.W.Frag):R2:=fun x y H Q=>rIxL K x y H Q∨rIxT K x y H Q
theorem aoq {X:Cx}:IxR X (rIx2 X.K):=aaj.or aa0
section
variable {X:Cx}
end
end L2
namespace L2
open PySem PySem.Spec PyProof.Rows
noncomputable def isN:V→Bool
 |.non=>true
 |_=>false
noncomputable def nU:Value→Bool
 |.none=>true
 |_=>false
theorem akq {prog:Program} {w:World} {d:Addr} (hd:(d == sysModules)=false):MeetsIn prog w (Builtin.«dict.__len__» ⟨[.ref d],[]⟩) (fun _ R s=>∃o es ep,s.heap.get? d=some o∧o.data=.dict es ep∧R (.ok (.ret (.int es.size s.toks))) {s with toks:=s.toks+1}):=
 .of_wp fun A R s ⟨o,es,ep,ho,hdat,h⟩=>by
  show wpAny _ _ (dictSize d >>= _) _ _ s
  unfold dictSize
  refine wpAny_bind (wpAny_bind (wpAny_dictEntries ho hdat (wpAny_pure ?_)))
  show wpAny _ _ (Builtin.Dict.pendingCount d >>= _) _ _ s
  refine wpAny_bind (wpAny_pendingCount_other hd ?_)
  refine wpAny_ret_mkInt ?_
  rw[Nat.add_zero];exact h
theorem alv {prog:Program} {w:World} {A:Around} {E:Value→Shared→Prop} {s:Shared} {d:Addr} {o:Obj} {es:Array DictEntry} {ep:Nat} {Q:Value→Shared→Prop} (hd:(d == sysModules)=false) (ho:s.heap.get? d=some o) (hc:o.cls=.type "dict") (hdat:o.data=.dict es ep) (hfit:(es.size:Int) < 2 ^ 63)
  (h:Q (.int es.size (s.toks+1)) {s with toks:=s.toks+1+1}):wpAny (model prog w) A (call (.builtin "len") [.ref d]) Q E s:=by
 have hT:s.TypeIs (.ref d) "dict":=⟨o,ho,hc⟩
 refine Calls.call_function_entry kind_len plain_len entry_len (args_len1 _) ?_
 unfold Builtin.«len»
 refine wpAny_bind (m:=oneArg "len" _) (wpAny_pure ?_)
 refine wpAny_bind (m:=callSpecial? (.ref d) (Str.ofString "__len__")) (wpAny_callSpecial?_slot (name:=Str.ofString "__len__") hT F.slot_dict_len
  (call_meetsIn F.slot_dict_len hT F.entry_dict_len (F.args_dict_len_1 _) (akq hd) ⟨o,es,ep,ho,hdat,?_⟩))
 show wpAny _ _ _ _ _ {s with toks:=s.toks+1}
 refine wpAny_bind (wpAny_holding (wpAny_pure ?_))
 refine wpAny_bind (wpAny_letGo ?_)
 show wpAny _ _ (if ((es.size:Nat):Int) < 0 then _ else _) _ _ _
 rw[if_neg (by omega)]
 show wpAny _ _ (if ((es.size:Nat):Int)≥2 ^ 63 then _ else _) _ _ _
 rw[if_neg (by omega)]
 exact wpAny_bind (wpAny_mkInt (wpAny_pure ⟨_,rfl,h⟩))
theorem akr {X:Cx}:CallR X (.builtin "len") (fun xs H Q=>∃a kvs,xs=[V.ref a]∧H a=some (.dT kvs)∧Q (.int kvs.length) H):=by
 intro pins s σ H xs us Q I r h
 obtain⟨a,kvs,rfl,ha,q⟩:=h
 obtain⟨u,rfl,ru⟩:=vals1 r
 cases ru
 obtain⟨z,hd,xs,rel,o,es,ep,ho,hc,hdat,he,_⟩:=ail I.hok ha
 have hs:es.size=kvs.length:=by
  have e1:es.size=xs.length:=by rw[←Array.length_toList,he,List.length_map]
  rw[e1,←rel.length]
 refine alv hd ho hc.1 hdat (by rw[sizeLine_eq] at z;omega) ?_
 rw[hs]
 exact⟨.int kvs.length,H,I.tok _,⟨_,rfl⟩,q⟩
end L2
namespace L2
open PySem PySem.Spec PyProof.Rows
theorem aip {α β:Type} {f:α→β}:∀{l:List α} {j:Nat},(l.map f).eraseIdx j=(l.eraseIdx j).map f
 |[],_=>rfl
 |_::_,0=>rfl
 |x::l,j+1=>congrArg (f x::·) (aip (l:=l) (j:=j))
section
variable {prog:Program} {w:World} {K:Type} [DecidableEq K] {knd:HeapKind prog w K} {A:Around} {E:Value→Shared→Prop} {s:Shared}
theorem aiq {d a:Addr} {xs:List (K×Addr×Value)} {k:K} {j:Nat} {p:Addr×Value} {Q:Option DictEntry→Shared→Prop} (hu:knd.room A) (hkey:knd.is s.heap k a) (hm:s.heap.DictOfH knd d xs) (hj:xs[j]?=some (k,p)) (hsz:xs.length≤sizeLine)
  (hQ:∀e h',e.val=p.2→h'.DictOfH knd d (xs.eraseIdx j)→Heap.SameBut d s.heap h'→Q (some e) {s with heap:=h',toks:=s.toks+knd.draws k}):wpAny (model prog w) A (Builtin.Dict.takeOut d (.ref a)) Q E s:=by
 obtain⟨o,es,ep,ho,hc,hd,he,his,hn⟩:=hm
 have hes:=size_of_entries he
 unfold Builtin.Dict.takeOut
 try with_reducible refine wpAny_holding ?_
 refine wpAny_bind (knd.pyHash hu hkey ?_)
 refine wpAny_bind (wpAny_dictFind_heap (s:={s with toks:=s.toks+knd.draws k}) hu hkey ho hd he his hn (fun hno=>absurd hj (hno j p)) fun j' p' hj'=>?_)
 have ej:j'=j:=idxH_unique hn hj' hj
 subst ej
 refine wpAny_bind (wpAny_dictEntries (s:={s with toks:=s.toks+knd.draws k}) ho hd ?_)
 have ee:es[j']?=some (entryOfKey knd (k,p)):=by rw[entry_at he,hj];rfl
 rw[ee]
 refine wpAny_bind (wpAny_updateDictKeys (hz:=by omega) (s:={s with toks:=s.toks+knd.draws k}) ho hd (wpAny_pure (hQ (entryOfKey knd (k,p)) _ rfl ⟨_,_,ep+1,Heap.get?_update_self _ ho (Obj.isFreed_of_dict (Obj.data_mapDictKeys hd _)),hc.mapDictKeys _,Obj.data_mapDictKeys hd _,?_,?_,?_⟩ (Heap.SameBut.update ..))))
 ·have hlt:j' < es.size:=by rw[hes];exact (List.getElem?_eq_some_iff.mp hj).1
  simp[Array.eraseIdxIfInBounds,hlt,he,aip]
 ·intro x hx
  exact knd.keeps (his x ((List.eraseIdx_sublist ..).subset hx)) ho hd (Heap.SameBut.update ..)
 ·exact hn.sublist ((List.eraseIdx_sublist ..).map _)
theorem aks {d a:Addr}:MeetsIn prog w (Builtin.«dict.pop» ⟨[.ref d,.ref a],[]⟩) (fun A R s=>knd.room A.in1∧∃k xs j p,knd.is s.heap k a∧s.heap.DictOfH knd d xs∧xs.length≤sizeLine∧xs[j]?=some (k,p)∧
   ∀h',h'.DictOfH knd d (xs.eraseIdx j)→Heap.SameBut d s.heap h'→R (.ok (.ret p.2)) {s with heap:=h',toks:=s.toks+knd.draws k}):=
 .of_wp fun A R s ⟨hu,k,xs,j,p,hkey,hm,hsz,hj,h⟩=>by
  unfold Builtin.«dict.pop»
  refine wpAny_bind ?_
  unfold Builtin.Dict.keyAndDefault
  refine wpAny_bind (wpAny_notOrdered_dict hm.typeIs ?_)
  show wpAny _ _ (pure (d,Value.ref a,none)) _ _ s
  refine wpAny_pure ?_
  obtain⟨o,es,ep,ho,hc,hd,he,his,hn⟩:=id hm
  have hes:=size_of_entries he
  have hne:es.isEmpty=false:=by
   have hlt:=(List.getElem?_eq_some_iff.mp hj).1
   cases hE:es.isEmpty with
   |false=>rfl
   |true=>
    rw[Array.isEmpty_iff.mp hE] at hes
    have h0:xs.length=0:=by simpa using hes.symm
    omega
  have hk:(keyPart (.ref a)).isSome=false:=rfl
  simp only[hk,Bool.false_eq_true,if_false]
  refine wpAny_bind (wpAny_dictEntries ho hd ?_)
  refine wpAny_bind (wpAny_pure ?_)
  rw[hne]
  simp only[Bool.false_eq_true,if_false]
  refine wpAny_bind (aiq hu hkey hm hj hsz fun e h' ev hm' hs'=>?_)
  simp only[Option.isNone_some,Bool.false_eq_true,if_false]
  exact wpAny_bind (wpAny_letGo (wpAny_pure ⟨e.val,rfl,by rw[ev];exact h h' hm' hs'⟩))
end
theorem KT.erase {H:Hp}:∀{kvs:List (List Key×V)} {xs:List (List Key×Addr×Value)} (j:Nat),KT H kvs xs→KT H (kvs.eraseIdx j) (xs.eraseIdx j)
 |_,_,_,.nil=>.nil
 |_,_,0,.cons _ t=>t
 |_,_,j+1,.cons r t=>.cons r (KT.erase j t)
theorem KT.find {H:Hp} {k:List Key} {v:V}:∀{kvs:List (List Key×V)} {xs:List (List Key×Addr×Value)},KT H kvs xs→(xs.map (·.1)).Nodup→valV kvs k=some v→∃(j:Nat) (p:Addr×Value),xs[j]?=some (k,p)∧RelV v p.2∧dropK kvs k=kvs.eraseIdx j
 |_,_,.nil,_,h=>by cases h
 |kv::kvs,x::xs,.cons r t,hn,h=>by
  obtain⟨h1,h2⟩:=List.nodup_cons.mp hn
  by_cases c:kv.1=k
  ·rw[afr c] at h
   refine⟨0,x.2,?_,?_,?_⟩
   ·show some x=some (k,x.2)
    rw[←c,r.1]
   ·cases h;exact r.2.2
   ·have hk:∀y∈kvs,y.1≠k:=fun y hy e=>by
     have hx:k∈xs.map (·.1):=by
      have:xs.map (·.1)=kvs.map (·.1):=by
       have aux:∀{a:List (List Key×V)} {b:List (List Key×Addr×Value)},KT H a b→b.map (·.1)=a.map (·.1):=fun q=>by
        induction q with
        |nil=>rfl
        |cons r _ ih=>rw[List.map_cons,List.map_cons,ih,r.1]
       exact aux t
      rw[this]
      exact List.mem_map.mpr ⟨y,hy,e⟩
     exact h1 (by show x.1∈_;rw[←r.1,c];exact hx)
    show (kv::kvs).filter _=kvs
    rw[List.filter_cons,if_neg (by simp[c]),List.filter_eq_self.mpr fun y hy=>by simpa using hk y hy]
  ·rw[ae8 c] at h
   obtain⟨j,p,e1,e2,e3⟩:=KT.find t h2 h
   refine⟨j+1,p,by simpa using e1,e2,?_⟩
   show (kv::kvs).filter _=kv::kvs.eraseIdx j
   rw[List.filter_cons,if_pos (by simp[c]),←e3]
   rfl
theorem d_popT {X:Cx} {pins:List (Addr×Obj)} {σ:St} {H:Hp} {s:Shared} {a b:Addr} {kvs:List (List Key×V)} {k:List Key} {A:Around} {E:Value→Shared→Prop} {v:V} {Q:Value→Shared→Prop} (hu:A.units+1 < cLine) (I:Inv X pins σ H s) (e:H a=some (.dT kvs)) (eb:H b=some (.tup (k.map kV))) (l:valV kvs k=some v)
  (h:∀w' s',Inv X pins σ (upd H a (.dT (dropK kvs k))) s'→RelV v w'→Q w' s'):wpAny (model X.prog X.w) A (call (.builtin "dict.pop") [.ref a,.ref b]) Q E s:=by
 obtain⟨z,hd,xs,rel,dd⟩:=ail I.hok e
 have hz:xs.length≤sizeLine:=by rw[←Paired.length rel];exact z
 have hn:(xs.map (·.1)).Nodup:=let ⟨_,_,_,_,_,_,_,_,q⟩:=dd;q
 obtain⟨j,p,hj,rv,ed⟩:=KT.find rel hn l
 refine call_meetsIn PySem.F.slot_dict_pop dd.typeIs PySem.F.entry_dict_pop (PySem.F.args_dict_pop_2 _ _) (aks (knd:=tupleKind (mixKind X.prog X.w))) ⟨tupleKind_room_in1 hu,k,xs,j,p,aik I.hok eb,dd,hz,hj,fun h' dd' hs=>h _ _ ?_ rv⟩
 obtain⟨q,es,ep,hq,h2,h3,h4,_,h5⟩:=dd'
 refine agp I (by rw[e];exact True.intro) hs ⟨q,hq⟩ ⟨?_,hd,_,KT.keeps (ed ▸ KT.erase j rel) fun c ys ec=>?_,q,es,ep,hq,h2,h3,h4,h5⟩
 ·exact Nat.le_trans (ang kvs k) z
 ·rw[aaf (aca ec e (fun z=>nomatch z))]
  exact ec
noncomputable def tDPopT (td ty:TE):TE:=fun σ H Q=>td σ H fun x H1=>∃a,x=.ref a∧IsD H1 a∧ty σ H1 fun y H2=>∃kvs k v b,H2 a=some (.dT kvs)∧y=.ref b∧H2 b=some (.tup (k.map kV))∧valV kvs k=some v∧Q v (upd H2 a (.dT (dropK kvs k)))
theorem ant {X:Cx} {o e:Expr} {apos cpos:Pos} {td ty:TE} (hu:X.A.units+1 < cLine) (ho:PE X o td) (he:PE X e ty) (m:M1 X o "pop" apos e cpos):PE X (.Call (.Attribute o "pop" apos) [e] [] cpos) (tDPopT td ty):=by
 intro pins s σ H Q I h
 refine wpAny_Call_method m.base m.few m.line PySem.F.plainAttrs_dict PySem.F.slot_dict_pop PySem.F.type_dict_pop (thn (ho pins s σ H _ I h) fun u s1 ⟨x,H1,I1,rx,a,ex,d,q1⟩=>?_)
 subst ex
 obtain rfl:u=Value.ref a:=rx
 obtain⟨t1,t2,_⟩:=aop I1 d
 refine⟨t1,t2,?_⟩
 rw[m.trees]
 refine Calls.callWith_builtin rfl (Calls.evalArgs_plain (Calls.spliced_cons (thn (he pins s1 σ H1 _ I1 q1) fun iv s2 ⟨y,H2,I2,ry,kvs,k,v,b,ea,ey,eb,l,q2⟩=>Calls.spliced_nil ?_)))
 subst ey
 cases ry
 exact d_popT hu I2 ea eb l fun w' s3 I3 rw'=>⟨v,_,I3,rw',q2⟩
end L2
namespace L2
open PySem PySem.Spec PyProof.Rows
noncomputable def RawD (h:Heap) (d:Addr) (es:Array DictEntry) (ep:Nat):Prop:=∃o,h.get? d=some o∧o.ExactDict∧o.data=.dict es ep
theorem RawD.ty {s:Shared} {d:Addr} {es:Array DictEntry} {ep:Nat} (r:RawD s.heap d es ep):s.TypeIs (.ref d) "dict":=let ⟨o,ho,hc,_⟩:=r;⟨o,ho,hc.1⟩
theorem RawD.lt {h:Heap} {d:Addr} {es:Array DictEntry} {ep:Nat} (r:RawD h d es ep):d < h.objs.size:=let ⟨_,ho,_⟩:=r;Heap.lt_size ho
theorem RawD.kept {h h':Heap} {d:Addr} {es:Array DictEntry} {ep:Nat} (r:RawD h d es ep) (k:∀o,h.get? d=some o→h'.get? d=some o):RawD h' d es ep:=let ⟨o,ho,q⟩:=r;⟨o,k _ ho,q⟩
section
variable {prog:Program} {w:World} {A:Around} {E:Value→Shared→Prop} {s:Shared} {d it:Addr} {es:Array DictEntry} {ep i:Nat}
theorem ajt {Q:Value→Shared→Prop} (nd:(d == sysModules)=false) (r:RawD s.heap d es ep)
  (q:Q (.ref s.heap.objs.size) {s with heap:=s.heap.push {cls:=.type "dict_keyiterator",data:=.fields #[.ref d,.int 0 0,.int es.size 0,.int ep 0]}}):wpAny (model prog w) A (pyIter (.ref d)) Q E s:=by
 obtain⟨o,e0,ec,ed⟩:=id r
 refine wpAny_pyIter_slot r.ty PySem.F.slot_dict_iter (wpAny_call_entry PySem.F.slot_dict_iter r.ty PySem.F.entry_dict_iter ?_ (PySem.F.args_dict_iter_1 _))
 unfold Builtin.«dict.__iter__» Builtin.Dict.dictSlotNone Builtin.Dict.showsAll
 refine wpAny_bind (wpAny_bind (wpAny_notOrdered_dict r.ty (wpAny_pure ?_)))
 refine wpAny_bind (m:=if d == sysModules then _ else _) ?_
 rw[if_neg (by rw[nd];exact Bool.false_ne_true)]
 refine wpAny_pure (wpAny_bind (wpAny_dictEntries e0 ed (wpAny_bind (wpAny_dictEpoch e0 ed ?_))))
 exact wpAny_bind (wpAny_newObj_type (wpAny_pure ⟨_,rfl,"dict_keyiterator",_,⟨_,Heap.get?_push_size _ rfl,rfl⟩,PySem.F.slot_dict_keyiterator_next.lookup,by simpa[rawInt] using q⟩))
theorem aju {Q:Option Value→Shared→Prop} (t:s.heap.IsKeyIter it d i es.size ep) (r:RawD s.heap d es ep) (hi:i < es.size)
  (q:∀h',h'.IsKeyIter it d (i+1) es.size ep→Heap.SameBut it s.heap h'→Q (some es[i].key) {s with heap:=h'}):wpAny (model prog w) A (pyNext (.ref it)) Q E s:=by
 obtain⟨b,b0,bc,bd⟩:=id t
 obtain⟨o,e0,ec,ed⟩:=id r
 unfold pyNext
 refine wpAny_bind (wpAny_attempt (wpAny_callSpecial?_slot (name:=Str.ofString "__next__") t.typeIs PySem.F.slot_dict_keyiterator_next (wpAny_call_entry PySem.F.slot_dict_keyiterator_next t.typeIs PySem.F.entry_dict_keyiterator_next ?_ (PySem.F.args_dict_keyiterator_next_1 _))))
 refine wpAny_bind (wpAny_pure (wpAny_bind (wpAny_bind (wpAny_bind (wpAny_typeNameOfWhole_keyiter t.typeIs (wpAny_pure (wpAny_bind (wpAny_fieldsOf b0 bd ?_))))))))
 simp only[show Builtin.Dict_items.ownsTuple "dict_keyiterator"=false by decide,Bool.false_eq_true,if_false]
 show wpAny _ _ (if (Value.ref d == Value.none)=true then _ else _) _ _ s
 rw[if_neg (show ¬((Value.ref d == Value.none)=true) from Bool.false_ne_true)]
 refine wpAny_bind (wpAny_pure (wpAny_bind (wpAny_dictEntries e0 ed ?_)))
 rw[if_neg (by simp)]
 refine wpAny_bind (wpAny_pure (wpAny_bind (wpAny_dictEpoch e0 ed ?_)))
 rw[if_neg (by simp)]
 refine wpAny_pure ?_
 simp only[show ¬((i:Int) < 0) from by omega,if_false,Int.toNat_natCast,Array.getElem?_eq_getElem hi]
 refine wpAny_bind (wpAny_bind (wpAny_typeNameOfWhole_keyiter t.typeIs (wpAny_pure (wpAny_bind (wpAny_isOneOf_keyiter t.typeIs ?_)))))
 show wpAny _ _ (setField (.ref it) 1 (rawInt ((i:Int)+1)) >>= _) _ _ s
 refine wpAny_bind (wpAny_setField b0 bd (by simp) ?_)
 have t2:(s.heap.update it (Obj.mapFields (·.setIfInBounds 1 (rawInt ((i:Int)+1))))).IsKeyIter it d (i+1) es.size ep:=⟨_,Heap.get?_update_self _ b0 (Obj.isFreed_of_fields (Obj.data_mapFields bd _)),(Obj.cls_mapFields ..).trans bc,by rw[Obj.data_mapFields bd];simp[rawInt]⟩
 refine wpAny_bind (wpAny_holding (wpAny_bind (wpAny_isOneOf_keyiter (s:={s with heap:=s.heap.update it (Obj.mapFields (·.setIfInBounds 1 (rawInt ((i:Int)+1))))}) t2.typeIs ?_)))
 show wpAny _ _ (pure es[i].key) _ _ _
 exact wpAny_pure (wpAny_pure ⟨_,rfl,wpAny_pure (q _ t2 (Heap.SameBut.update ..))⟩)
theorem alw {Q:Option Value→Shared→Prop} (hh:A.handled=none) (t:s.heap.IsKeyIter it d es.size es.size ep) (r:RawD s.heap d es ep)
  (q:∀h',Heap.ExtBut it s.heap h'→Q none {s with heap:=h'}):wpAny (model prog w) A (pyNext (.ref it)) Q E s:=by
 obtain⟨b,b0,bc,bd⟩:=id t
 obtain⟨o,e0,ec,ed⟩:=id r
 unfold pyNext
 refine wpAny_bind (wpAny_attempt (wpAny_callSpecial?_slot (name:=Str.ofString "__next__") t.typeIs PySem.F.slot_dict_keyiterator_next (wpAny_call_entry PySem.F.slot_dict_keyiterator_next t.typeIs PySem.F.entry_dict_keyiterator_next ?_ (PySem.F.args_dict_keyiterator_next_1 _))))
 refine wpAny_bind (wpAny_pure (wpAny_bind (wpAny_bind (wpAny_bind (wpAny_typeNameOfWhole_keyiter t.typeIs (wpAny_pure (wpAny_bind (wpAny_fieldsOf b0 bd ?_))))))))
 simp only[show Builtin.Dict_items.ownsTuple "dict_keyiterator"=false by decide,Bool.false_eq_true,if_false]
 show wpAny _ _ (if (Value.ref d == Value.none)=true then _ else _) _ _ s
 rw[if_neg (show ¬((Value.ref d == Value.none)=true) from Bool.false_ne_true)]
 refine wpAny_bind (wpAny_pure (wpAny_bind (wpAny_dictEntries e0 ed ?_)))
 rw[if_neg (by simp)]
 refine wpAny_bind (wpAny_pure (wpAny_bind (wpAny_dictEpoch e0 ed ?_)))
 rw[if_neg (by simp)]
 refine wpAny_pure ?_
 simp only[show ¬((es.size:Int) < 0) from by omega,if_false,Int.toNat_natCast,Array.getElem?_eq_none (Nat.le_refl es.size)]
 refine wpAny_bind (wpAny_bind (wpAny_typeNameOfWhole_keyiter t.typeIs (wpAny_pure ?_)))
 show wpAny _ _ (setField (.ref it) 0 .none >>= _) _ _ s
 refine wpAny_bind (wpAny_setField b0 bd (by simp) ?_)
 show wpAny _ _ (newExc (.type "StopIteration") [] >>= _) _ _ _
 refine wpAny_bind ?_
 simp only[newExc,newTuple]
 refine wpAny_bind (wpAny_newObj_type (wpAny_bind (m:=firstArgMember _ _) (wpAny_of_eq (a:=Value.none) (by first|rfl|(simp only[firstArgMember];rfl)) (wpAny_newObj_type ?_ (by size_fits)))) (by size_fits))
 simp only[raiseNew]
 refine wpAny_bind (wpAny_handled ?_)
 rw[show A.in1.handled=none from hh]
 refine wpAny_bind (wpAny_pure (wpAny_throw ?_))
 refine wpAny_bind (m:=isInstance _ _) (wpAny_isInstance (b:=true) (T:="StopIteration") ⟨_,Heap.get?_push_size _ rfl,rfl⟩ isSubtype_stop ?_)
 exact wpAny_pure (q _ (((Heap.SameBut.update ..).extBut.push _).push _))
theorem alx (hh:A.handled=none) (I:Addr) (ne:d≠I):Walks prog w A I [I,d] [I] es.size (fun i v=>∃h:i < es.size,v=es[i].key) (fun i h=>h.IsKeyIter I d i es.size ep∧RawD h d es ep) where
 sub:=fun b hb=>List.mem_cons.mpr (.inl (List.mem_singleton.mp hb))
 frame:=fun _ _ _ x k=>⟨x.1.at fun o e=>k I (List.mem_cons_self ..) o e,x.2.kept fun o e=>k d (List.mem_cons_of_mem _ (List.mem_cons_self ..)) o e⟩
 item:=fun i s Q E hi x q=>aju x.1 x.2 hi fun h' t2 sb=>q _ h' s.toks ⟨hi,rfl⟩ ⟨t2,x.2.kept fun o e=>(sb.2 d ne).trans e⟩ fun b o hb e=>(sb.2 b fun z=>hb (List.mem_singleton.mpr z)).trans e
 done:=fun s Q E x q=>alw hh x.1 x.2 fun h' eb=>q h' s.toks fun b o hb e=>eb b o (fun z=>hb (List.mem_singleton.mpr z)) e
 self:=fun _ _ _ _ x q=>wpAny_pyIter_keyiter x.1 q
theorem ap4 (nd:(d == sysModules)=false):PySem.W.KdlSrc prog w "dict" d d es.size (fun i v=>∃h:i < es.size,v=es[i].key) (fun h=>RawD h d es ep) where
 type:=fun _ r=>r.ty
 there:=fun _ r=>⟨r.lt,r.lt⟩
 keep:=fun _ _ r k=>r.kept fun o e=>k d (.inl rfl) o e
 notList:=by decide
 notTuple:=by decide
 hint:=fun _ _ _ _ r q=>PySem.W.kdl_hint_dict r.ty q
 iter:=fun _ _ hh r=>⟨_,_,(fun _ _ q=>ajt nd r q),alx hh _ (Nat.ne_of_lt r.lt),⟨⟨_,Heap.get?_push_size _ rfl,rfl,rfl⟩,r.kept fun o e=>Heap.get?_push_of_some _ e⟩⟩
end
noncomputable def KysAt (H:Hp) (ks:List (List Key)) (vs:List V):Prop:=Paired (fun k v=>∃a,v=V.ref a∧H a=some (.tup (k.map kV))) ks vs
end L2
namespace L2
open PySem PySem.Spec PyProof.Rows
section
variable {X:Cx}
end
end L2
namespace L2
open PySem PySem.Spec PyProof.Rows
end L2
namespace L2
open PySem PySem.Spec PyProof.Rows
end L2
namespace L2
open PySem PySem.Spec PyProof.Rows
noncomputable def tDispT (tk tv:TE):TE:=fun σ H Q=>∀p,H p=none→tk σ (upd H p (.dT [])) fun x H1=>tv σ H1 fun y H2=>H2 p=some (.dT [])∧∃b k,x=.ref b∧H2 b=some (.tup (k.map kV))∧Q (.ref p) (upd H2 p (.dT [(k,y)]))
theorem anu {X:Cx} {pos:Pos} {k v:Expr} {tk tv:TE} (hu:X.A.units+1 < cLine) (hk:PE X k tk) (hv:PE X v tv):PE X (.Dict [some k] [v] pos) (tDispT tk tv):=by
 intro pins s σ H Q I q
 have hn:=I.hok.fresh (Nat.le_refl s.heap.objs.size)
 have I1:=I.laid (a:=s.heap.objs.size) (o:=.dT []) (h':=s.heap.push {cls:=.type "dict",data:=.dict #[]}) (t':=s.toks) (fun _ _ q=>Heap.get?_push_of_some _ q) (Nat.le_refl _) (ajo s.heap I.big)
 rw[arm_eval_Dict,zip_pairTrees [some k] [v] X.env pos rfl rfl,dictDisplay_pairs (pairTrees [some k] [v] X.env pos) (by intro z;cases z) (by show (1:Nat) < 17;decide)]
 refine wpAny_bind (wpAny_standAt (wpAny_bind ?_))
 unfold subDict
 refine wpAny_bind (wpAny_alloc ?_)
 refine wpAny_bind (wpAny_holding ?_)
 rw[if_pos (by show (1:Nat)≤15;decide)]
 refine wpAny_bind (pairTrees_cons_walk (thn (hk pins _ σ _ _ I1 (q _ hn)) fun u s1 ⟨x,H1,I2,rx,q1⟩=>thn (hv pins s1 σ H1 _ I2 q1) fun w2 s2 ⟨y,H2,I3,ry,hp,b,kk,ex,hb,q2⟩=>pairTrees_nil_walk ?_))
 subst ex
 cases (show u=Value.ref b from rx)
 refine wpAny_holding ?_
 obtain⟨z,hd,xs,rel,dd⟩:=ail I3.hok hp
 cases rel
 rw[List.forIn_cons]
 dsimp only
 refine wpAny_bind (wpAny_bind (wpAny_bind (wpAny_dictSet_heap (hsz:=by rw[sizeLine_eq];exact Nat.zero_le _) (show (tupleKind (mixKind X.prog X.w)).room X.A from (by omega:X.A.units < cLine)) (aik I3.hok hb) dd fun h' dd' hs=>wpAny_pure ?_)))
 dsimp only
 rw[List.forIn_nil]
 refine wpAny_pure (wpAny_pure ?_)
 obtain⟨o,es,ep,hq,h2,h3,h4,_,h5⟩:=dd'
 refine wpAny_pure (wpAny_pure ⟨.ref s.heap.objs.size,_,agp (ob:=.dT [(kk,y)]) I3 (by rw[hp];exact True.intro) hs ⟨o,hq⟩ ⟨by rw[sizeLine_eq];show (1:Nat)≤_;decide,hd,[(kk,b,w2)],.cons ⟨rfl,by rw[aaf (aca hb hp (fun z=>nomatch z))];exact hb,ry⟩ .nil,o,es,ep,hq,h2,h3,h4,h5⟩,rfl,q2⟩)
section
variable {prog:Program} {w:World} {A:Around} {E:Value→Shared→Prop} {s:Shared}
end
end L2
namespace L2
open PySem PySem.Spec PyProof.Rows
noncomputable def tVarM (i:Nat):TE:=fun σ H Q=>match σ[i]? with
 |some (some v)=>Q v H
 |_=>False
theorem anv {i:Nat} {σ:St} {H:Hp} {Q:VK} (h:tVarM i σ H Q):tVar i σ H Q:=by
 unfold tVarM at h
 split at h
 ·rename_i v e;exact⟨v,e,h⟩
 ·exact h.elim
theorem pvM {X:Cx} (i:Nat) {x:Str} {pos:Pos} (hN:X.N[i]?=some x:=by rfl) (hv:Vis X.env.scope x:=by first|exact Or.inl rfl|exact Or.inr (Or.inl rfl)|exact Or.inr (Or.inr rfl)) (hd:(x == ("__debug__":Str))=false:=by decide)
 (hcd:(x == ("__classdict__":Str))=false:=by decide):PE X (.Name x pos) (tVarM i):=fun pins s σ H Q I h=>pe_var hN hv hd hcd pins s σ H Q I (anv h)
theorem rI0_ii {g:Int→Int→V} {i j:Int} {H:Hp} {Q:VK}:rI0 g (.int i) (.int j) H Q=Q (g i j) H:=propext ⟨fun ⟨_,_,e1,e2,h⟩=>by cases e1;cases e2;exact h,fun h=>⟨_,_,rfl,rfl,h⟩⟩
theorem rI_ii {C:Int→Int→Prop} {g:Int→Int→V} {i j:Int} {H:Hp} {Q:VK}:rI C g (.int i) (.int j) H Q=(C i j∧Q (g i j) H):=propext ⟨fun ⟨_,_,e1,e2,h⟩=>by cases e1;cases e2;exact h,fun h=>⟨_,_,rfl,rfl,h⟩⟩
theorem ex_int {c:Int} {P:Int→Prop}:(∃i,V.int c=V.int i∧P i)=P c:=propext ⟨fun ⟨_,e,h⟩=>by cases e;exact h,fun h=>⟨_,rfl,h⟩⟩
theorem ex_bl {c:Bool} {P:Bool→Prop}:(∃i,V.bl c=V.bl i∧P i)=P c:=propext ⟨fun ⟨_,e,h⟩=>by cases e;exact h,fun h=>⟨_,rfl,h⟩⟩
theorem ex_ref {c:Addr} {P:Addr→Prop}:(∃i,V.ref c=V.ref i∧P i)=P c:=propext ⟨fun ⟨_,e,h⟩=>by cases e;exact h,fun h=>⟨_,rfl,h⟩⟩
end L2
namespace L2
open PySem PySem.Spec PyProof.Rows
section
open PySem.Builtin PySem.Builtin.Str
end
end L2
namespace Hd
open PySem PySem.W PySem.Calls PyProof.Rows
noncomputable def runT (tb:String→Option Builtin) (p:Program) (w:World) (n0:Nat) (ann:Option Value):Nat→SharedT→Thread→Option SharedT
 |0,_,_=>none
 |n+1,s,t=>match through t with
  |true=>some s
  |false=>match stepOk n0 ann t with
   |false=>none
   |true=>match stepT (denote tb) p w s t with
    |some (s',t')=>runT tb p w n0 ann n s' t'
    |none=>none
theorem aly {tb:String→Option Builtin} {p:Program} {w:World} {n0:Nat} {ann:Option Value}:∀{n:Nat} {s r:SharedT} {t:Thread},runT tb p w n0 ann n s t=some r→topRun tb p w n0 ann n s.abs t=some r.abs
 |0,_,_,_,h=>by cases h
 |n+1,s,r,t,h=>by
  unfold runT at h
  unfold topRun
  cases he:through t with
  |true=>rw[he] at h;cases h;rfl
  |false=>
   rw[he] at h
   cases hk:stepOk n0 ann t with
   |false=>rw[hk] at h;cases h
   |true=>
    rw[hk] at h
    cases hs:stepT (denote tb) p w s t with
    |none=>rw[hs] at h;cases h
    |some x=>obtain⟨s2,t2⟩:=x;rw[hs] at h;rw[stepT_spec hs];exact aly h
noncomputable def grow:List Obj→Nat→BT→BT
 |[],_,t=>t
 |o::l,n,t=>grow l (n+1) (t.ins n o)
noncomputable def bootT (P:Params):BT:=grow (boot_heap P).objs.toList 0 .nil
noncomputable def bootS (w:World) (os:OsState):SharedT:=⟨bootT w.params,(boot_heap w.params).objs.size,(boot_heap w.params).life, #[],boot_drawn,boot_toks,os⟩
theorem anw (w:World) (os:OsState):(bootS w os).abs=⟨boot_heap w.params, #[],boot_drawn,boot_toks,os⟩:=by kernel_rfl
theorem alz (w:World):((boot_heap w.params).isNs mainGlobals&&(#[]:Array GenState).size == 0)=true:=by kernel_rfl
noncomputable abbrev ann0 (w:World):Option Value:=(boot_heap w.params).nsMap mainGlobals "__annotations__"
noncomputable def look {α:Type} (p:Program) (Yf:Shared→α) (H0:Heap) (s:Shared):Bool×α:=
 (staticsOk (importedModules p.main.body) H0 s.heap&&namesBound p s.heap&&gensDone s&&laidKept H0 s.heap,Yf s)
noncomputable def ran (p:Program) (N:Nat) (w:World) (os:OsState):Option SharedT:=runT treeTable p w (boot_heap w.params).objs.size (ann0 w) N (bootS w os) (topStub p)
noncomputable def once {α:Type} (p:Program) (Yf:Shared→α) (N:Nat) (w:World) (os:OsState):=(ran p N w os).map fun s=>look p Yf (boot_heap w.params) s.abs
noncomputable def seen (p q:Program) (loose:List Str) (Xt:Shared→Bool) (N:Nat) (w:World) (os:OsState):=(ran p N w os).map fun s=>openSeen q loose (importedModules p.main.body) Xt true s.abs
theorem al0 {p q:Program} {loose:List Str} {Xt:Shared→Bool} {α:Type} {Yf:Shared→α} {Ya:World→α} {N:Nat}
  (e:opening p=plainProg p.main.scope.names) (hN:Nat.ble 600 N=true) (f:∀s,fenceModules? p s=some s)
  (one:∀(w:World) (os:OsState),once p Yf N w os=some (true,Ya w)) (two:∀(w:World) (os:OsState),seen p q loose Xt N w os=some (openGood q loose)):LeftO p q loose Xt Yf Ya N:=fun w=>by
 obtain⟨⟨h,gs,d,k,os⟩,e1,e2⟩:=Option.map_eq_some_iff.mp (boot_open e hN f w)
 obtain⟨rfl,rfl,rfl,rfl⟩:h=boot_heap w.params∧gs= #[]∧d=boot_drawn∧k=boot_toks:=by simpa using e2
 obtain⟨sT,r,l⟩:=Option.map_eq_some_iff.mp (one w os)
 obtain⟨sT',r',l2⟩:=Option.map_eq_some_iff.mp (two w os)
 obtain rfl:sT=sT':=Option.some.inj (r.symm.trans r')
 have r:=aly r
 rw[anw] at r
 obtain⟨l1,l3⟩:_∧_:=by simpa only[look,Prod.mk.injEq] using l
 have t:topFrom treeTable p w N ⟨boot_heap w.params, #[],boot_drawn,boot_toks,os⟩=some sT.abs:=by
  unfold topFrom
  dsimp only
  rw[alz w,r]
  show (match staticsOk (importedModules p.main.body) (boot_heap w.params) sT.abs.heap&&namesBound p sT.abs.heap&&gensDone sT.abs&&laidKept (boot_heap w.params) sT.abs.heap with|true=>_|false=>_)=_
  rw[l1]
 unfold openEnds
 rw[e1]
 show (topFrom treeTable p w N _).map _=_
 rw[t]
 exact congrArg some (Prod.ext l2 l3)
end Hd
namespace Hd
open PySem PySem.W
noncomputable def dig:Nat→Nat→List Nat
 |0,_=>[]
 |k+1,n=>match Nat.beq n 0 with
  |true=>[]
  |false=>Nat.sub (n % 256) 1::dig k (n / 256)
noncomputable def S (n:Nat):Str:=⟨⟨dig 200 n⟩⟩
noncomputable def ent (P:Params) (x:Str) (t:Nat) (v:Value):DictEntry:=⟨PyData.keyHash P x,.str x t,v⟩
noncomputable def dO (n:Nat) (l:List DictEntry):Obj:=⟨.type "dict",none,.dict ⟨l⟩ n, #[]⟩
noncomputable def tO (l:List Value):Obj:=⟨.type "tuple",none,.seq ⟨l⟩ 0, #[]⟩
noncomputable def cO (l:List Value):Obj:=⟨.type "code",none,.fields ⟨l⟩, #[]⟩
end Hd
namespace Hd
open PySem PySem.W PySem.Calls PyProof.Rows
noncomputable def goT (tb:String→Option Builtin) (p:Program) (w:World) (n0:Nat) (ann:Option Value):Nat→SharedT→Thread→Option (SharedT×Thread)
 |0,s,t=>some (s,t)
 |n+1,s,t=>match through t with
  |true=>none
  |false=>match stepOk n0 ann t with
   |false=>none
   |true=>match stepT (denote tb) p w s t with
    |some (s',t')=>goT tb p w n0 ann n s' t'
    |none=>none
end Hd
namespace Hd
open PySem PySem.W PySem.Calls PyProof.Rows
theorem tw_run:(fun (_:(String→Option Builtin)→Program→World→Nat→Option Value→Nat→SharedT→Thread→Option SharedT)=>true) runT=true:=by k_qdec
theorem tw_go:(fun (_:(String→Option Builtin)→Program→World→Nat→Option Value→Nat→SharedT→Thread→Option (SharedT×Thread))=>true) goT=true:=by k_qdec
theorem tw_boot:(fun (_:World→OsState→SharedT) (_:World→Option Value)=>true) bootS ann0=true:=by k_qdec
theorem tw_look:(fun (_:{α:Type}→Program→(Shared→α)→Heap→Shared→Bool×α)=>true) @look=true:=by k_qdec
theorem tw_once:(fun (_:{α:Type}→Program→(Shared→α)→Nat→World→OsState→Option (Bool×α))=>true) @once=true:=by k_qdec
theorem tw_seen:(fun (_:Program→Program→List Str→(Shared→Bool)→Nat→World→OsState→Option _)=>true) seen=true:=by k_qdec
end Hd
namespace L2
open PySem PySem.Spec PyProof.Rows
structure RoomH (k:Nat) (A:Around):Prop where
 dp:A.depth+3 * k+5 < recursionLimit
 un:A.units+16 * k+200 < cLine
theorem Room.h {k:Nat} {A:Around} (r:Room k A):RoomH k A:=⟨r.dp,r.un⟩
theorem RoomH.deeper {k:Nat} {A:Around} (r:RoomH (k+1) A) (env:Env):RoomH k (A.deeper env):=
 ⟨by have:=r.dp;show A.depth+1+3 * k+5 < _;omega,by have:=r.un;show A.units+3+16 * k+200 < _;omega⟩
noncomputable def cxOfH (P:Program) (w:World) (K:PySem.W.Frag) (mg:Str→Option Value) (base:Heap) (N:List Str) (qual:Str) (scope:Scope) (f:Addr) (cd:Value) (A:Around) (outer:List Env) (s:Shared) (H:Hp) (E:XK):Cx:=
 {cxOf (CXe P w) P w K mg base N qual scope f cd A outer s H E with calm:=false}
theorem ap5 {P:Program} {w:World} {K:PySem.W.Frag} {mg:Str→Option Value} {base:Heap} {N:List Str} {qual:Str} {scope:Scope} {f:Addr} {cd:Value} {A:Around} {outer:List Env} {s:Shared} {H:Hp} {E:XK}:(cxOfH P w K mg base N qual scope f cd A outer s H E).K=K:=rfl
end L2
namespace L2
open PySem PySem.Spec PyProof.Rows
noncomputable def BindsK (K:PySem.W.Frag) (fd:FuncData) (ps ks:List Str):Prop:=∀(s:Shared) (us:List Value) (a b:Value),K.In s.heap→us.length+2=ps.length→BindsTo s fd ⟨us,ks.zip [a,b]⟩ (ps.zip (us++[b,a]))
noncomputable def RawMK (K:PySem.W.Frag) (C:Addr) (m qual:Str) (st:Stmt) (ps ks:List Str):Prop:=∃f fd,Meth K C m f∧FunD K m qual st f fd∧BindsK K fd ps ks
noncomputable def HaveMK (P:Program) (w:World) (K:PySem.W.Frag) (mg:Str→Option Value) (base:Heap) (C:Addr) (m:Str) (k:Nat) (ps ks:List Str) (sp:Sp):Prop:=
 ∃f fd,Meth K C m f∧BindsK K fd ps ks∧FnOk P w K mg base (CXe P w) k f fd ps sp
end L2
namespace L2
open PySem PySem.Spec PyProof.Rows
end L2
namespace L2
open PySem PySem.Spec PyProof.Rows
noncomputable def tTryN (K:PySem.W.Frag) (D:Addr) (tb:XKs→TS) (to th:TS):TS:=fun Dn σ H=>
 tb (fun cls σ' H'=>∃C,cls=.ref C∧XSub K C D∧th Dn σ' H') {Dn with nx:=to Dn} σ H
theorem anx {X:Cx} {x:Str} {D:Addr} {body orelse:List Stmt} {b₀:Stmt} {suite:List Stmt} {rest:List ExceptHandler} {np hpos pos:Pos} {tb:XKs→TS} {to th:TS}
  (c:XH X.K X.mg x D)
  (hb:∀(E':Value→Shared→Prop) (pn:List (Addr×Obj)) (Kx:XKs),PassesOwn (model X.prog X.w) X.A X.env E'→XW {X with xe:=E',pn:=pn} Kx→PSs {X with xe:=E',pn:=pn} body (tb Kx))
  (ho:PSs X orelse to) (hh:∀ea:Addr,PSs {X with A:=X.A.mark (some (.ref ea)),calm:=false,xe:=fun _ _=>False} (b₀::suite) th)
  (hg:Gl X x:=by rfl) (hst:X.stack=X.env::X.outer:=by rfl) (hfm:X.env.frame=some X.env.locals:=by rfl) (hd:(x == ("__debug__":Str))=false:=by decide):
  PS X (.Try body (.ExceptHandler (some (.Name x np)) none (b₀::suite) hpos::rest) orelse [] pos) (tTryN X.K D tb to th):=by
 intro pins s σ H Dn I h
 refine wpAny_Try_except ?_
 have xw:XW {X with xe:=(fun e s₁=>wpAny (model X.prog X.w) X.A (noteFrame e X.env) (fun _ s₂=>wpAny (model X.prog X.w) X.A (setFlight e none) (fun _ s₃=>
   wpAny (model X.prog X.w) X.A (handleBy e X.env (.ExceptHandler (some (.Name x np)) none (b₀::suite) hpos::rest)) (SP X pins Dn) X.xe s₃) X.xe s₂) X.xe s₁),pn:=X.pn++pins}
   (fun cls σ' H'=>∃C,cls=.ref C∧XSub X.K C D∧th Dn σ' H'):=by
  intro pins2 σ2 H2 s2 s' ea cls H' B I2 os bare un hok fly hK
  obtain⟨C,rfl,hsub,hK⟩:=hK
  have J2:Inv X pins σ2 H2 s2:=I2.unre I.ok
  have J':Inv X pins σ2 H' s':=J2.call' (s':=s') (ch:=[]) os un hok bare (fun b z=>absurd z (by simp))
  have fly:Fly B X.stack s2.heap H2 H' s'.heap ea (.ref C):=fly
  obtain⟨a0,hfl⟩:=id fly.fl
  have hfr:=I.ok.frames
  rw[hst] at hfr hfl
  show wpAny (model X.prog X.w) X.A (noteFrame (.ref ea) X.env) _ X.xe s'
  refine wpAny_looks_onW hfr hfm hfl fun h4 held4 up4=>?_
  refine wpAny_landsW held4 fun h5 fl5 up5=>?_
  have J5:Inv X pins σ2 H' {s' with heap:=h5}:=Inv.flown J2 J' fly fl5.1 (up4.trans up5)
  obtain⟨oe,vs5,hoe,hoc,hod,_⟩:=fl5.first
  refine wpAny_handleBy_cons (codeAny_handlers_test (ahk (X:={X with A:=X.A.mark (some (.ref ea)),calm:=false,xe:=fun _ _=>False}) (J5.marked (v:=some (.ref ea))) hg c.m ?_ hd)) (by intro q;cases q)
  refine alk (x:=x) (mg:=X.mg) J5.kIn c hsub hoe hoc ?_
  refine codeAny_handlers_suite ?_
  refine lands_againW fl5 fun h6 fl6 up6=>?_
  have J6:Inv X pins σ2 H' {s' with heap:=h6}:=Inv.flown J2 J' fly fl6.1 ((up4.trans up5).trans up6)
  refine wpAny_mono (hh ea pins _ _ _ _ (J6.marked (v:=some (.ref ea))) hK) (fun f s8 hq=>?_) (fun _ _ z=>z.elim)
  show SP X pins Dn f s8
  cases f with
  |next=>obtain⟨σ',H2',I3,q⟩:=hq;exact⟨σ',H2',I3.unmarked I.ok,q⟩
  |brk=>obtain⟨σ',H2',I3,q⟩:=hq;exact⟨σ',H2',I3.unmarked I.ok,q⟩
  |cont=>obtain⟨σ',H2',I3,q⟩:=hq;exact⟨σ',H2',I3.unmarked I.ok,q⟩
  |ret u=>obtain⟨v,σ',H2',I3,r,q⟩:=hq;exact⟨v,σ',H2',I3.unmarked I.ok,r,q⟩
 have q:=hb _ (X.pn++pins) _ PassesOwn.looking xw [] s σ H {Dn with nx:=to Dn} I.re h
 refine wpAny_mono q (fun f s1 hq=>?_) (fun e s1 hq=>hq)
 cases f with
 |next=>
  obtain⟨σ',H',I1,q1⟩:=hq
  exact ho pins s1 σ' H' Dn (I1.unre I.ok) q1
 |brk=>obtain⟨σ',H',I1,q1⟩:=hq;exact⟨σ',H',I1.unre I.ok,q1⟩
 |cont=>obtain⟨σ',H',I1,q1⟩:=hq;exact⟨σ',H',I1.unre I.ok,q1⟩
 |ret u=>obtain⟨v,σ',H',I1,r,q1⟩:=hq;exact⟨v,σ',H',I1.unre I.ok,r,q1⟩
end L2
namespace L2
open PySem PySem.Spec PyProof.Rows
section
variable {prog:Program} {w:World} {A:Around} {E:Value→Shared→Prop} {s:Shared}
end
section
variable {X:Cx}
end
end L2
namespace L2
open PySem PySem.Spec PyProof.Rows
section
variable {prog:Program} {w:World} {A:Around} {E:Value→Shared→Prop} {s:Shared}
end
section
variable {X:Cx}
end
end L2
namespace L2
open PySem PySem.Spec PyProof.Rows
section
variable {X:Cx} {pins:List (Addr×Obj)} {σ:List (Option V)} {H:Hp} {s:Shared} {a:Addr}
theorem Inv.freezeT {kvs:List (List Key×V)} (I:Inv X pins σ H s) (e:H a=some (.dT kvs)):∃o,s.heap.get? a=some o∧Inv X pins σ (upd H a (.frz o (.dT kvs))) s:=by
 obtain⟨z,hd,xs,rel,o,es,ep,ho,r⟩:=ail I.hok e
 have st:ObjOk X.prog X.w (upd H a (.frz o (.dT kvs))) s.heap a (.dT kvs):=(I.hok a _ e).stay (fun _ _ _ q=>q) (fun c q=>by rw[aaf (fun z=>by rw[z,e] at q;cases q)];exact q) (fun c xs q=>by rw[aaf (fun z=>by rw[z,e] at q;cases q)];exact q)
 refine⟨o,ho,I.rewrite e (fun _ z=>by cases z) (fun _ z=>by cases z) (fun w hw h=>?_) ⟨ho,st⟩⟩
 rcases I.still hw h with ⟨_,_,q⟩|⟨_,q⟩|⟨_,q⟩<;>(rw[e] at q;cases q)
theorem Inv.thawT {kvs:List (List Key×V)} {o:Obj} (I:Inv X pins σ H s) (e:H a=some (.frz o (.dT kvs))) (h0:∀o u,X.H₀ a≠some (.frz o u)):Inv X pins σ (upd H a (.dT kvs)) s:=by
 have ok:ObjOk X.prog X.w H s.heap a (.dT kvs):=(I.hok a _ e).2
 have st:ObjOk X.prog X.w (upd H a (.dT kvs)) s.heap a (.dT kvs):=ok.stay (fun _ _ _ q=>q) (fun c q=>by rw[aaf (fun z=>by rw[z,e] at q;cases q)];exact q) (fun c xs q=>by rw[aaf (fun z=>by rw[z,e] at q;cases q)];exact q)
 refine I.rewrite e (fun _ z=>by cases z) (fun _ z=>by cases z) (fun w hw h=>?_) st
 rcases h with ⟨_,_,rfl⟩|h
 ·exact h0 _ _ hw
 ·rcases I.still hw (.inr h) with ⟨o',z',q⟩|⟨_,q⟩|⟨_,q⟩
  ·rcases h with ⟨xs,rfl⟩|⟨ps,rfl⟩
   ·have:=I.base.tups a xs hw;rw[e] at this;cases this
   ·obtain⟨m,this⟩:=I.base.tbls a ps hw;rw[e] at this;cases this
  ·rw[e] at q;cases q
  ·rw[e] at q;cases q
end
noncomputable def thawHT (a:Addr) (H:Hp):Hp:=match H a with
 |some (.frz _ (.dT kvs))=>upd H a (.dT kvs)
 |_=>H
theorem al1 {a:Addr} {H:Hp} {o:Obj} {kvs:List (List Key×V)} (h:H a=some (.frz o (.dT kvs))):thawHT a H=upd H a (.dT kvs):=by unfold thawHT;rw[h]
theorem Inv.thawedT {X:Cx} {pins:List (Addr×Obj)} {σ:List (Option V)} {H:Hp} {s:Shared} {a:Addr} (I:Inv X pins σ H s) (h0:∀o u,X.H₀ a≠some (.frz o u)):Inv X pins σ (thawHT a H) s:=by
 unfold thawHT
 split
 ·rename_i h;exact I.thawT h h0
 ·exact I
noncomputable def thawDT (a:Addr) (D:Ends):Ends:={D with nx:=fun σ H=>D.nx σ (thawHT a H),bk:=fun σ H=>D.bk σ (thawHT a H),ct:=fun σ H=>D.ct σ (thawHT a H),rt:=fun v H=>D.rt v (thawHT a H)}
noncomputable def tThawT (X:Cx) (t:TS):TS:=fun D σ H=>∃a,(∀o u,X.H₀ a≠some (.frz o u))∧t (thawDT a D) σ H
theorem anz {X:Cx} {st:Stmt} {t:TS} (h:PS X st t):PS X st (tThawT X t):=by
 intro pins s σ H D I hh
 obtain⟨a,h0,hh⟩:=hh
 refine wpAny_mono (h pins s σ H (thawDT a D) I hh) (fun f s' q=>?_) fun _ _ e=>e
 unfold SP at q ⊢
 cases f with
 |next=>obtain⟨σ',H',I',q⟩:=q;exact⟨σ',_,I'.thawedT h0,q⟩
 |brk=>obtain⟨σ',H',I',q⟩:=q;exact⟨σ',_,I'.thawedT h0,q⟩
 |cont=>obtain⟨σ',H',I',q⟩:=q;exact⟨σ',_,I'.thawedT h0,q⟩
 |ret u=>obtain⟨v,σ',H',I',r,q⟩:=q;exact⟨v,σ',_,I'.thawedT h0,r,q⟩
noncomputable def ItdT (a:Addr) (o:Obj) (kvs:List (List Key×V)):It:=
 ⟨fun i H=>H a=some (.frz o (.dT kvs))∧i < kvs.length,fun i H x H'=>H'=H∧∃k v b,kvs[i]?=some (k,v)∧x=.ref b∧H b=some (.tup (k.map kV)),fun i H=>H a=some (.frz o (.dT kvs))∧i=kvs.length⟩
theorem kt_at {H:Hp}:∀{kvs:List (List Key×V)} {ys:List (List Key×Addr×Value)},KT H kvs ys→∀(i:Nat) {y:List Key×Addr×Value},ys[i]?=some y→∃k v,kvs[i]?=some (k,v)∧H y.2.1=some (.tup (k.map kV))
 |_,_,.nil,i,y,h=>by simp at h
 |_,_,.cons (a:=p) r t,0,y,h=>by
  have h:=Option.some.inj h
  subst h
  exact⟨p.1,p.2,rfl,r.2.1⟩
 |_,_,.cons r t,i+1,y,h=>kt_at t i h
theorem ai7 {X:Cx} {pins:List (Addr×Obj)} {σ:List (Option V)} {H:Hp} {s:Shared} {a:Addr} {o:Obj} {kvs:List (List Key×V)} {ep:Nat} {es:Array DictEntry} (I:Inv X pins σ H s) (e:H a=some (.frz o (.dT kvs))) (hd:o.data=.dict es ep):
  RawD s.heap a es ep∧(a == sysModules)=false∧es.size=kvs.length∧∀i (h:i < es.size),∃k v b,kvs[i]?=some (k,v)∧es[i].key=.ref b∧H b=some (.tup (k.map kV)):=by
 have ho:=(I.hok a _ e).1
 obtain⟨z,nd,ys,rel,o',es',ep',e0,ec,ed,he,_⟩:=apu I.hok (.inr ⟨o,e⟩)
 rw[ho] at e0
 cases e0
 rw[hd] at ed
 cases ed
 have hsz:=size_of_entries he
 have hlen:=Paired.length rel
 refine⟨⟨o,ho,ec,hd⟩,nd,by omega,fun i hi=>?_⟩
 have e3:=entry_at he i
 rw[Array.getElem?_eq_getElem hi,List.getElem?_eq_getElem (by omega)] at e3
 have e3:=Option.some.inj e3
 obtain⟨k,v,h1,h2⟩:=kt_at rel i (List.getElem?_eq_getElem (show i < ys.length by omega))
 exact⟨k,v,_,h1,by rw[e3];rfl,h2⟩
theorem akt {P:Program} {w:World} {K:PySem.W.Frag} {tg:Expr} (a it:Addr) (o:Obj) (kvs:List (List Key×V)) (ep:Nat) {es:Array DictEntry} (he:o.data=.dict es ep):Turn P w K tg (ItdT a o kvs) [it] it (fun i h=>h.IsKeyIter it a i es.size ep) where
 mem:=by simp
 obj:=fun i h st b hb=>by
  have e:b=it:=by simpa using hb
  subst e
  obtain⟨o,e,c,d⟩:=st
  exact⟨o,e,fun v z=>by rw[d] at z;cases z⟩
 keep:=fun i h h' st k=>st.at fun o e=>k it (by simp) o e
 item:=by
  intro X hP hw hK hc i pins s σ H E I hf st hg
  subst hP hw hK
  obtain⟨hg,hi⟩:=hg
  obtain⟨raw,_,hsz,hat⟩:=ai7 I hg he
  obtain⟨f0,f1,f2,f3,f4,f5⟩:=hf it (by simp)
  have hi2:i < es.size:=by omega
  obtain⟨k,v,b,hk,hkey,hb⟩:=hat i hi2
  refine aju st raw hi2 fun h' st' sb=>?_
  have I1:Inv X pins σ H {s with heap:=h'}:=I.turned (t':=s.toks) (fun b o hb e=>(sb.2 b hb).trans e) f0 f1 f3 f4 f5
  obtain⟨ob,e,c,d⟩:=id st'
  exact⟨_,rfl,am9 (s:={s with heap:=h'}) e c d (by decide) ⟨.ref b,H,I1,by rw[hkey];rfl,⟨rfl,k,v,b,hk,rfl,hb⟩,st',fun b hb=>(hf b hb).1⟩⟩
 done:=by
  intro X hP hw hK hc i pins s σ H E I hf st hg
  subst hP hw hK
  obtain⟨hg,hi⟩:=hg
  obtain⟨raw,_,hsz,hat⟩:=ai7 I hg he
  obtain⟨f0,f1,f2,f3,f4,f5⟩:=hf it (by simp)
  obtain rfl:i=es.size:=by omega
  exact alw (I.ok.hd hc) st raw fun h' eb=>⟨rfl,I.turned (t':=s.toks) (fun b o hb e=>eb b o hb e) f0 f1 f3 f4 f5⟩
 self:=fun _ _ _ _ _ st h=>wpAny_pyIter_keyiter st h
noncomputable def iDictT (tl:TE):TI:=fun σ H R=>tl σ H fun x H1=>∃a kvs,x=.ref a∧H1 a=some (.dT kvs)∧∀o,R (ItdT a o kvs) (upd H1 a (.frz o (.dT kvs)))
theorem an0 {X:Cx} {tg l:Expr} {tl:TE} (hl:PE X l tl):PI X tg l (iDictT tl):=by
 intro pins s σ H R I h
 refine thn (hl pins s σ H _ I h) fun v s1 ⟨x,H1,I1,r1,q1⟩=>?_
 obtain⟨a,kvs,e,hq,q⟩:=q1
 subst e
 cases r1
 obtain⟨o,ho,I2⟩:=I1.freezeT hq
 obtain⟨_,_,vs,rel,o',es,ep,ho',c,d,r⟩:=ail I1.hok hq
 rw[ho] at ho'
 cases ho'
 obtain⟨raw,hd,hsz,_⟩:=ai7 I2 aah d
 refine ajt hd raw ?_
 have hfr:upd H1 a (.frz o (.dT kvs)) s1.heap.objs.size=none:=I2.hok.fresh (Nat.le_refl _)
 refine⟨s1.heap.objs.size,[s1.heap.objs.size],_,_,upd H1 a (.frz o (.dT kvs)),rfl,I2.kept (t':=s1.toks) fun b o e=>Heap.get?_push_of_some _ e,akt a _ o kvs ep d,⟨_,Heap.get?_push_size _ rfl,rfl,rfl⟩,fun b hb=>?_,q o⟩
 have e:b=s1.heap.objs.size:=by simpa using hb
 subst e
 exact I2.fpOk (Nat.le_refl _) hfr
end L2
namespace L2
open PySem PySem.Spec PyProof.Rows
section
open PySem.W
noncomputable def kRun (lt:Nat→Nat→Bool) {α:Type}:KasT α→α
 |.ret a=>a
 |.ask i j k=>kRun lt (k (lt i j))
theorem aen (lt:Nat→Nat→Bool) {α β:Type} (f:α→KasT β):∀t:KasT α,kRun lt (t.bind f)=kRun lt (f (kRun lt t))
 |.ret a=>by simp only[KasT.bind,kRun]
 |.ask i j k=>by simp only[KasT.bind,kRun];exact aen lt f (k (lt i j))
noncomputable def Okt (n:Nat) {α:Type} (R:α→Prop):KasT α→Prop
 |.ret a=>R a
 |.ask i j k=>i < n∧j < n∧∀b,Okt n R (k b)
theorem afb {n:Nat} {α β:Type} {R:α→Prop} {S:β→Prop} {f:α→KasT β} (h:∀a,R a→Okt n S (f a)):∀t:KasT α,Okt n R t→Okt n S (t.bind f)
 |.ret a,g=>by simp only[KasT.bind];exact h a g
 |.ask i j k,g=>by
  simp only[KasT.bind,Okt]
  exact⟨g.1,g.2.1,fun b=>afb h (k b) (g.2.2 b)⟩
theorem al2 {lt:Nat→Nat→Bool} {cmp:Nat→Nat→(Bool→Shared→Prop)→Shared→Prop} {s:Shared} {n:Nat} {α:Type} {R:α→Prop} {G:α→Shared→Prop} (h:∀i j C,i < n→j < n→C (lt i j) s→cmp i j C s):∀t:KasT α,Okt n R t→G (kRun lt t) s→KasT.kasWp cmp t G s
 |.ret a,_,g=>by simp only[KasT.kasWp];exact g
 |.ask i j k,o,g=>by
  simp only[KasT.kasWp]
  exact h i j _ o.1 o.2.1 (al2 h (k (lt i j)) (o.2.2 _) g)
noncomputable def In (p:Array Nat) (n:Nat):Prop:=0 < n∧∀x∈p.toList,x < n
theorem In.at {p:Array Nat} {n:Nat} (h:In p n) (i:Nat):p.getD i 0 < n:=by
 rw[Array.getD_eq_getD_getElem?]
 cases e:p[i]? with
 |none=>exact h.1
 |some x=>exact h.2 x (List.mem_of_getElem? (by rw[Array.getElem?_toList];exact e))
theorem In.perm {p q:Array Nat} {n:Nat} (h:In p n) (e:q.Perm p):In q n:=⟨h.1,fun x hx=>h.2 x ((Array.perm_iff_toList_perm.mp e).mem_iff.mp hx)⟩
theorem In.rev {p:Array Nat} {n i j:Nat} (h:In p n):In (kas_rev p i j) n:=h.perm (mirror_perm ..)
theorem ai8 {p:Array Nat} {n:Nat} (h:In p n):∀f m,Okt n (fun _=>True) (kas_asc p f m)
 |0,m=>by unfold kas_asc;trivial
 |f+1,m=>by
  unfold kas_asc
  refine⟨h.at _,h.at _,fun b=>?_⟩
  cases b
  ·exact ai8 h f (m+1)
  ·trivial
theorem agb {n:Nat}:∀(f:Nat) (p:Array Nat) (m q:Nat),In p n→Okt n (fun r=>In r.1 n) (kas_desc f p m q)
 |0,p,m,q,h=>by unfold kas_desc;exact h
 |f+1,p,m,q,h=>by
  unfold kas_desc
  refine⟨h.at _,h.at _,fun b=>?_⟩
  cases b
  ·refine⟨h.at _,h.at _,fun d=>?_⟩
   cases d
   ·exact agb f p (m+1) (q+1) h
   ·exact h
  ·by_cases c:q > 0
   ·simp only[c,if_true]
    exact agb f _ (m+1) 0 h.rev
   ·simp only[c,if_false,if_true]
    exact agb f p (m+1) 0 h
theorem ajv {n m r:Nat} {p:Array Nat} (h:In p n):Okt n (fun x=>In x.2 n) (kas_tail3 m r p):=by
 unfold kas_tail3
 refine afb (R:=fun _=>True) (fun a _=>?_) _ (ai8 h.rev _ _)
 exact (h.rev:In (kas_rev p 0 m) n)
theorem ajw {n m r:Nat} {p:Array Nat} (h:In p n):Okt n (fun x=>In x.2 n) (kas_descPart m r p):=by
 unfold kas_descPart
 refine afb (fun a ha=>?_) _ (agb _ _ _ _ h)
 split
 ·exact ajv (In.rev ha)
 ·exact ajv ha
theorem al3 {n r:Nat} {p:Array Nat} (h:In p n):Okt n (fun x=>In x.2 n) (kas_count r p):=by
 unfold kas_count
 refine afb (fun a _=>?_) _ (ai8 h _ _)
 split
 ·exact h
 ·split
  ·refine⟨h.at _,h.at _,fun b=>?_⟩
   cases b
   ·exact ajw h.rev
   ·exact h
  ·exact ajw h
theorem agt {n:Nat} {p:Array Nat} {k:Nat} (h:In p n):∀f l r,Okt n (fun _=>True) (kas_place p k f l r)
 |0,l,r=>by unfold kas_place;trivial
 |f+1,l,r=>by
  unfold kas_place
  split
  ·trivial
  ·refine⟨h.at _,h.at _,fun b=>?_⟩
   cases b
   ·exact agt h f _ _
   ·exact agt h f _ _
theorem al4 {n:Nat}:∀(f:Nat) (p:Array Nat) (k:Nat),In p n→Okt n (fun x=>In x n) (kas_bin f p k)
 |0,p,k,h=>by unfold kas_bin;exact h
 |f+1,p,k,h=>by
  unfold kas_bin
  exact afb (fun a _=>al4 f _ _ (h.perm (bubble_perm ..))) _ (agt h _ _ _)
theorem an1 {n:Nat} (h:0 < n):Okt n (fun x=>In x n) (kas_sort n):=by
 unfold kas_sort
 have hi:In (List.range n).toArray n:=⟨h,fun x hx=>by simpa using hx⟩
 refine afb (fun a ha=>?_) _ (al3 hi)
 split
 ·exact al4 _ _ _ ha
 ·exact ha
structure Od (lt:Nat→Nat→Bool) (n:Nat):Prop where
 tr:∀i j k,i < n→j < n→k < n→lt i j=true→lt j k=true→lt i k=true
 ir:∀i,i < n→lt i i=false
 to:∀i j,i < n→j < n→i≠j→lt i j=true∨lt j i=true
variable {lt:Nat→Nat→Bool} {n:Nat}
structure Pm (p:Array Nat) (n:Nat):Prop where
 sz:p.size=n
 lt:∀i,i < n→p.getD i 0 < n
 ne:∀i j,i < n→j < n→i≠j→p.getD i 0≠p.getD j 0
 pe:p.Perm (List.range n).toArray
noncomputable def Up (lt:Nat→Nat→Bool) (p:Array Nat) (m:Nat):Prop:=∀i j,i < j→j < m→lt (p.getD i 0) (p.getD j 0)=true
noncomputable def Dn (lt:Nat→Nat→Bool) (p:Array Nat) (m:Nat):Prop:=∀i j,i < j→j < m→lt (p.getD j 0) (p.getD i 0)=true
theorem Up.succ {p:Array Nat} {m:Nat} (o:Od lt n) (hp:Pm p n) (h:Up lt p m) (h1:1≤m) (hm:m < n) (c:lt (p.getD (m - 1) 0) (p.getD m 0)=true):Up lt p (m+1):=fun i j hij hj=>by
 rcases (by omega:j < m∨j=m) with hj|rfl
 ·exact h i j hij hj
 ·rcases (by omega:i < j - 1∨i=j - 1) with hi|rfl
  ·exact o.tr _ _ _ (hp.lt _ (by omega)) (hp.lt _ (by omega)) (hp.lt _ hm) (h i (j - 1) hi (by omega)) c
  ·exact c
theorem Dn.succ {p:Array Nat} {m:Nat} (o:Od lt n) (hp:Pm p n) (h:Dn lt p m) (h1:1≤m) (hm:m < n) (c:lt (p.getD m 0) (p.getD (m - 1) 0)=true):Dn lt p (m+1):=fun i j hij hj=>by
 rcases (by omega:j < m∨j=m) with hj|rfl
 ·exact h i j hij hj
 ·rcases (by omega:i < j - 1∨i=j - 1) with hi|rfl
  ·exact o.tr _ _ _ (hp.lt _ hm) (hp.lt _ (by omega)) (hp.lt _ (by omega)) c (h i (j - 1) hi (by omega))
  ·exact c
theorem other {p:Array Nat} (o:Od lt n) (hp:Pm p n) {i j:Nat} (hi:i < n) (hj:j < n) (ne:i≠j) (c:lt (p.getD i 0) (p.getD j 0)=false):lt (p.getD j 0) (p.getD i 0)=true:=by
 rcases o.to _ _ (hp.lt i hi) (hp.lt j hj) (hp.ne i j hi hj ne) with h|h
 ·rw[h] at c;cases c
 ·exact h
theorem al5 {p:Array Nat} (o:Od lt n) (hp:Pm p n):∀(f m:Nat),1≤m→m+f≤n→Up lt p m→∃r,kRun lt (kas_asc p f m)=r∧m≤r∧r≤m+f∧Up lt p r∧(r=m+f∨lt (p.getD r 0) (p.getD (r - 1) 0)=true)
 |0,m,_,_,h=>⟨m,by unfold kas_asc;rfl,Nat.le_refl _,by omega,h,.inl rfl⟩
 |f+1,m,h1,h2,h=>by
  unfold kas_asc
  simp only[kRun]
  cases c:lt (p.getD m 0) (p.getD (m - 1) 0) with
  |true=>exact⟨m,by simp[kRun],Nat.le_refl _,by omega,h,.inr c⟩
  |false=>
   obtain⟨r,e,a1,a2,a3,a4⟩:=al5 o hp f (m+1) (by omega) (by omega) (h.succ o hp h1 (by omega) (other o hp (by omega) (by omega) (by omega) c))
   exact⟨r,by simpa using e,by omega,by omega,a3,a4.imp (fun h=>by omega) id⟩
theorem al6 {p:Array Nat} (o:Od lt n) (hp:Pm p n):∀(f m:Nat),1≤m→m+f≤n→Dn lt p m→∃r,kRun lt (kas_desc f p m 0)=(p,r,0)∧m≤r∧r≤m+f∧Dn lt p r
 |0,m,_,_,h=>⟨m,by unfold kas_desc;rfl,Nat.le_refl _,by omega,h⟩
 |f+1,m,h1,h2,h=>by
  unfold kas_desc
  simp only[kRun]
  cases c:lt (p.getD m 0) (p.getD (m - 1) 0) with
  |true=>
   obtain⟨r,e,a1,a2,a3⟩:=al6 o hp f (m+1) (by omega) (by omega) (h.succ o hp h1 (by omega) c)
   exact⟨r,by simpa using e,by omega,by omega,a3⟩
  |false=>
   have d:=other o hp (by omega) (by omega) (by omega) c
   refine⟨m,?_,Nat.le_refl _,by omega,h⟩
   rw[if_neg (by simp)]
   simp only[kRun]
   rw[d,if_pos rfl]
   simp only[kRun]
theorem ap6 {p:Array Nat} {i x:Nat} (h:p[i]?=some x):p.getD i 0=x:=by
 rw[Array.getD_eq_getD_getElem?,h];rfl
theorem agu {p q:Array Nat} {i j:Nat} (h:p[i]?=q[j]?):p.getD i 0=q.getD j 0:=by
 rw[Array.getD_eq_getD_getElem?,Array.getD_eq_getD_getElem?,h]
theorem air {p:Array Nat} {m:Nat} (h:m≤p.size) (k:Nat):(kas_rev p 0 m).getD k 0=if k < m then p.getD (m - 1 - k) 0 else p.getD k 0:=by
 have:=getElem?_mirror_all (xs:=p) (i:=0) (j:=m) h k
 unfold kas_rev
 by_cases c:k < m
 ·rw[if_pos c]
  rw[if_pos ⟨Nat.zero_le _,c⟩,Nat.zero_add] at this
  exact agu this
 ·rw[if_neg c]
  rw[if_neg (fun z=>c z.2)] at this
  exact agu this
theorem rev_pm {p:Array Nat} {m:Nat} (hp:Pm p n) (h:m≤n):Pm (kas_rev p 0 m) n:=by
 have hs:m≤p.size:=by rw[hp.sz];exact h
 refine⟨by unfold kas_rev;rw[mirror_size];exact hp.sz,fun i hi=>?_,fun i j hi hj ne=>?_,(mirror_perm ..).trans hp.pe⟩
 ·rw[air hs]
  split<;>exact hp.lt _ (by omega)
 ·rw[air hs,air hs]
  split<;>split<;>exact hp.ne _ _ (by omega) (by omega) (by omega)
theorem rev_up {p:Array Nat} {m:Nat} (hs:m≤p.size) (h:Dn lt p m):Up lt (kas_rev p 0 m) m:=fun i j hij hj=>by
 rw[air hs,air hs,if_pos (by omega),if_pos hj]
 exact h _ _ (by omega) (by omega)
theorem an2 {p:Array Nat} (o:Od lt n) (hp:Pm p n) (h1:1≤n):∃r q,kRun lt (kas_count n p)=(r,q)∧Pm q n∧1≤r∧r≤n∧Up lt q r:=by
 unfold kas_count
 rw[aen]
 obtain⟨r,e,a1,a2,a3,a4⟩:=al5 o hp (n - 1) 1 (Nat.le_refl _) (by omega) (fun i j h1 h2=>by omega)
 rw[e]
 by_cases c:r=n
 ·simp only[c,beq_self_eq_true,if_true,kRun]
  exact⟨n,p,rfl,hp,h1,Nat.le_refl _,by rw[c] at a3;exact a3⟩
 ·have c':¬(r == n)=true:=by simpa using c
  rw[if_neg c']
  have a4:lt (p.getD r 0) (p.getD (r - 1) 0)=true:=a4.resolve_left (by omega)
  by_cases c2:r > 1
  ·rw[if_pos c2]
   simp only[kRun]
   rw[a3 0 (r - 1) (by omega) (by omega),if_pos rfl]
   exact⟨r,p,rfl,hp,by omega,by omega,a3⟩
  ·rw[if_neg c2]
   obtain rfl:r=1:=by omega
   have d2:Dn lt p 2:=fun i j hij hj=>by
    obtain⟨rfl,rfl⟩:i=0∧j=1:=by omega
    exact a4
   obtain⟨m,e2,b1,b2,b3⟩:=al6 o hp (n - 2) 2 (by omega) (by omega) d2
   unfold kas_descPart
   rw[aen,show n - (1+1)=n - 2 from rfl,show (1+1:Nat)=2 from rfl,e2]
   rw[if_neg (by show ¬(0:Nat) > 0;omega)]
   unfold kas_tail3
   rw[aen]
   have hs:m≤p.size:=by rw[hp.sz];omega
   have hq:=rev_pm hp (m:=m) (by omega)
   obtain⟨r,e,c1,c2,c3,c4⟩:=al5 o hq (n - m) m (by omega) (by omega) (rev_up hs b3)
   rw[e]
   exact⟨r,_,rfl,hq,by omega,by omega,c3⟩
theorem ahs {p:Array Nat} (o:Od lt n) (hp:Pm p n) {k:Nat} (hk:k < n) (hu:Up lt p k):∀(f l r:Nat),l≤r→r≤k→r - l≤f→(∀i,i < l→lt (p.getD i 0) (p.getD k 0)=true)→(∀i,r≤i→i < k→lt (p.getD k 0) (p.getD i 0)=true)→∃m,kRun lt (kas_place p k f l r)=m∧m≤k∧(∀i,i < m→lt (p.getD i 0) (p.getD k 0)=true)∧(∀i,m≤i→i < k→lt (p.getD k 0) (p.getD i 0)=true)
 |0,l,r,h1,h2,h3,a,b=>⟨l,by unfold kas_place;rfl,by omega,a,fun i hi=>b i (by omega)⟩
 |f+1,l,r,h1,h2,h3,a,b=>by
  unfold kas_place
  by_cases c:l≥r
  ·rw[if_pos c]
   exact⟨l,rfl,by omega,a,fun i hi=>b i (by omega)⟩
  ·rw[if_neg c]
   simp only[kRun]
   have hm:l≤(l+r) / 2∧(l+r) / 2 < r:=by omega
   generalize (l+r) / 2=m at *
   cases d:lt (p.getD k 0) (p.getD m 0) with
   |true=>
    rw[if_pos rfl]
    refine ahs o hp hk hu f l m hm.1 (by omega) (by omega) a fun i hi hik=>?_
    rcases (by omega:i=m∨m < i) with rfl|hi
    ·exact d
    ·exact o.tr _ _ _ (hp.lt _ hk) (hp.lt _ (by omega)) (hp.lt _ (by omega)) d (hu m i hi hik)
   |false=>
    rw[if_neg (by simp)]
    have d':=other o hp hk (by omega) (by omega) d
    refine ahs o hp hk hu f (m+1) r (by omega) h2 (by omega) (fun i hi=>?_) b
    rcases (by omega:i=m∨i < m) with rfl|hi
    ·exact d'
    ·exact o.tr _ _ _ (hp.lt _ (by omega)) (hp.lt _ (by omega)) (hp.lt _ hk) (hu i m hi (by omega)) d'
noncomputable def bIx (k l i:Nat):Nat:=if i=l then k else if l < i∧i≤k then i - 1 else i
theorem al7 {k l i n:Nat} (hk:k < n) (hi:i < n):bIx k l i < n:=by
 unfold bIx
 by_cases c:i=l
 ·rw[if_pos c];exact hk
 ·rw[if_neg c]
  by_cases d:l < i∧i≤k
  ·rw[if_pos d];omega
  ·rw[if_neg d];exact hi
theorem bIx_ne {k l i j:Nat} (hl:l≤k) (ne:i≠j):bIx k l i≠bIx k l j:=by
 unfold bIx
 by_cases c1:i=l
 ·rw[if_pos c1,if_neg (by omega)]
  by_cases d:l < j∧j≤k
  ·rw[if_pos d];omega
  ·rw[if_neg d];omega
 ·rw[if_neg c1]
  by_cases c2:j=l
  ·rw[if_pos c2]
   by_cases d:l < i∧i≤k
   ·rw[if_pos d];omega
   ·rw[if_neg d];omega
  ·rw[if_neg c2]
   by_cases d:l < i∧i≤k
   ·rw[if_pos d]
    by_cases d2:l < j∧j≤k
    ·rw[if_pos d2];omega
    ·rw[if_neg d2];omega
   ·rw[if_neg d]
    by_cases d2:l < j∧j≤k
    ·rw[if_pos d2];omega
    ·rw[if_neg d2];exact ne
theorem ais {p:Array Nat} {k l:Nat} (hk:k < p.size) (hl:l≤k) (i:Nat):(bubble p k (k - l)).getD i 0=p.getD (bIx k l i) 0:=by
 have:=getElem?_bubble hk (k - l) (by omega) i
 rw[show k - (k - l)=l by omega] at this
 unfold bIx
 by_cases c:i=l
 ·rw[if_pos c]
  rw[if_pos c] at this
  exact agu this
 ·rw[if_neg c] at this ⊢
  by_cases d:l < i∧i≤k
  ·rw[if_pos d] at this ⊢
   exact agu this
  ·rw[if_neg d] at this ⊢
   exact agu this
theorem aor (o:Od lt n):∀(f:Nat) (p:Array Nat) (k:Nat),Pm p n→k+f≤n→1≤k→Up lt p k→∃q,kRun lt (kas_bin f p k)=q∧Pm q n∧Up lt q (k+f)
 |0,p,k,hp,_,_,h=>⟨p,by unfold kas_bin;rfl,hp,h⟩
 |f+1,p,k,hp,h1,h2,h=>by
  unfold kas_bin
  rw[aen]
  obtain⟨l,e,hl,a,b⟩:=ahs o hp (by omega) h k 0 k (Nat.zero_le _) (Nat.le_refl _) (by omega) (fun i hi=>by omega) (fun i hi hik=>by omega)
  rw[e]
  have hks:k < p.size:=by rw[hp.sz];omega
  have hq:Pm (bubble p k (k - l)) n:=by
   refine⟨by rw[bubble_size];exact hp.sz,fun i hi=>?_,fun i j hi hj ne=>?_,(bubble_perm ..).trans hp.pe⟩
   ·rw[ais hks hl]
    exact hp.lt _ (al7 (by omega) hi)
   ·rw[ais hks hl,ais hks hl]
    exact hp.ne _ _ (al7 (by omega) hi) (al7 (by omega) hj) (bIx_ne hl ne)
  have hu:Up lt (bubble p k (k - l)) (k+1):=fun i j hij hj=>by
   rw[ais hks hl,ais hks hl]
   unfold bIx
   by_cases c1:i=l
   ·rw[if_pos c1,if_neg (by omega),if_pos (by omega)]
    exact b (j - 1) (by omega) (by omega)
   ·rw[if_neg c1]
    by_cases c2:j=l
    ·rw[if_pos c2,if_neg (by omega)]
     exact a i (by omega)
    ·rw[if_neg c2]
     by_cases c3:l < i∧i≤k
     ·rw[if_pos c3,if_pos (by omega)]
      exact h _ _ (by omega) (by omega)
     ·rw[if_neg c3]
      by_cases c4:l < j∧j≤k
      ·rw[if_pos c4]
       exact h _ _ (by omega) (by omega)
      ·rw[if_neg c4]
       exact h _ _ hij (by omega)
  obtain⟨q,e2,hq2,hu2⟩:=aor o f _ (k+1) hq (by omega) (by omega) hu
  exact⟨q,e2,hq2,by rw[show k+(f+1)=k+1+f by omega];exact hu2⟩
theorem ap7 (o:Od lt n) (h1:1≤n):∃q,kRun lt (kas_sort n)=q∧Pm q n∧Up lt q n:=by
 have hp:Pm (List.range n).toArray n:=by
  have ge:∀i,i < n→(List.range n).toArray.getD i 0=i:=fun i hi=>ap6 (by simp[hi])
  exact⟨by simp,fun i hi=>by rw[ge i hi];exact hi,fun i j hi hj ne=>by rw[ge i hi,ge j hj];exact ne,Array.Perm.refl _⟩
 unfold kas_sort
 rw[aen]
 obtain⟨r,q,e,hq,a1,a2,a3⟩:=an2 o hp h1
 rw[e]
 by_cases c:r < n
 ·rw[if_pos c]
  have em:max r 1=r:=by omega
  show ∃q',kRun lt (kas_bin (n - max r 1) q (max r 1))=q'∧_
  rw[em]
  obtain⟨q2,e2,b1,b2⟩:=aor o (n - r) q r hq (by omega) a1 a3
  exact⟨q2,e2,b1,by rw[show r+(n - r)=n by omega] at b2;exact b2⟩
 ·rw[if_neg c]
  exact⟨q,rfl,hq,by rw[show r=n by omega] at a3;exact a3⟩
end
end L2
namespace L2
open PySem PySem.Spec PyProof.Rows
noncomputable def kLt:List Key→List Key→Bool
 |[.inr s,.inl a,.inl b],[.inr t,.inl c,.inl d]=>if s=t then (if a=c then decide (b < d) else decide (a < c)) else decide (s.cps.toList < t.cps.toList)
 |_,_=>false
noncomputable def Tri (k:List Key):Prop:=∃s a b,k=[.inr s,.inl a,.inl b]
theorem ait {s t u:Str} (h1:s.cps.toList < t.cps.toList) (h2:t.cps.toList < u.cps.toList):s.cps.toList < u.cps.toList:=List.lt_trans h1 h2
theorem ap8 {s t:Str} (h:s.cps.toList=t.cps.toList):s=t:=by
 cases s;cases t
 rw[Str.mk.injEq]
 exact Array.toList_inj.mp h
theorem str_to {s t:Str} (h:s≠t):s.cps.toList < t.cps.toList∨t.cps.toList < s.cps.toList:=by
 by_cases c:s.cps.toList < t.cps.toList
 ·exact .inl c
 ·by_cases d:t.cps.toList < s.cps.toList
  ·exact .inr d
  ·exact absurd (ap8 (List.le_antisymm (List.not_lt.mp d) (List.not_lt.mp c))) h
theorem str_ir {s:Str}:¬s.cps.toList < s.cps.toList:=List.lt_irrefl _
theorem aos {k:List Key}:kLt k k=false:=by
 by_cases h:Tri k
 ·obtain⟨s,a,b,rfl⟩:=h
  show (if s=s then (if a=a then decide (b < b) else decide (a < a)) else decide (s.cps.toList < s.cps.toList))=false
  rw[if_pos rfl,if_pos rfl]
  simp
 ·cases e:kLt k k with
  |false=>rfl
  |true=>
   unfold kLt at e
   split at e
   ·exact absurd ⟨_,_,_,rfl⟩ h
   ·cases e
theorem aot {x y:List Key} (hx:Tri x) (hy:Tri y) (ne:x≠y):kLt x y=true∨kLt y x=true:=by
 obtain⟨s,a,b,rfl⟩:=hx
 obtain⟨t,c,d,rfl⟩:=hy
 show (if s=t then (if a=c then decide (b < d) else decide (a < c)) else decide (s.cps.toList < t.cps.toList))=true∨(if t=s then (if c=a then decide (d < b) else decide (c < a)) else decide (t.cps.toList < s.cps.toList))=true
 by_cases e1:s=t
 ·subst e1
  rw[if_pos rfl,if_pos rfl]
  by_cases e2:a=c
  ·subst e2
   rw[if_pos rfl,if_pos rfl]
   have:b≠d:=fun z=>ne (by rw[z])
   simp only[decide_eq_true_eq]
   omega
  ·rw[if_neg e2,if_neg (Ne.symm e2)]
   simp only[decide_eq_true_eq]
   omega
 ·rw[if_neg e1,if_neg (Ne.symm e1)]
  simp only[decide_eq_true_eq]
  exact str_to e1
theorem al8 {x y z:List Key} (hx:Tri x) (hy:Tri y) (hz:Tri z) (h1:kLt x y=true) (h2:kLt y z=true):kLt x z=true:=by
 obtain⟨s,a,b,rfl⟩:=hx
 obtain⟨t,c,d,rfl⟩:=hy
 obtain⟨u,e,f,rfl⟩:=hz
 have h1:(if s=t then (if a=c then decide (b < d) else decide (a < c)) else decide (s.cps.toList < t.cps.toList))=true:=h1
 have h2:(if t=u then (if c=e then decide (d < f) else decide (c < e)) else decide (t.cps.toList < u.cps.toList))=true:=h2
 show (if s=u then (if a=e then decide (b < f) else decide (a < e)) else decide (s.cps.toList < u.cps.toList))=true
 by_cases e1:s=t
 ·subst e1
  rw[if_pos rfl] at h1
  by_cases e2:s=u
  ·subst e2
   rw[if_pos rfl] at h2 ⊢
   by_cases c1:a=c
   ·subst c1
    rw[if_pos rfl] at h1
    by_cases c2:a=e
    ·subst c2
     rw[if_pos rfl] at h2 ⊢
     simp only[decide_eq_true_eq] at h1 h2 ⊢
     omega
    ·rw[if_neg c2] at h2 ⊢
     exact h2
   ·rw[if_neg c1] at h1
    simp only[decide_eq_true_eq] at h1
    by_cases c2:c=e
    ·subst c2
     rw[if_neg c1]
     simpa using h1
    ·rw[if_neg c2] at h2
     simp only[decide_eq_true_eq] at h2
     rw[if_neg (by omega)]
     simp only[decide_eq_true_eq]
     omega
  ·rw[if_neg e2] at h2 ⊢
   exact h2
 ·rw[if_neg e1] at h1
  simp only[decide_eq_true_eq] at h1
  by_cases e2:t=u
  ·subst e2
   rw[if_neg e1]
   simpa using h1
  ·rw[if_neg e2] at h2
   simp only[decide_eq_true_eq] at h2
   have h3:=ait h1 h2
   rw[if_neg (fun z=>by rw[z] at h1;exact str_ir (ait h1 h2))]
   simpa using h3
theorem aou:∀{a b:List (List Key)},a.Perm b→(∀k∈a,Tri k)→a.Pairwise (kLt · ·=true)→b.Pairwise (kLt · ·=true)→a=b
 |[],b,h,_,_,_=>(List.Perm.nil_eq h)
 |x::a,b,h,ht,h1,h2=>by
  have hx:x∈b:=h.mem_iff.mp (List.mem_cons_self ..)
  cases b with
  |nil=>cases hx
  |cons y b=>
   have hty:Tri y:=ht y (h.mem_iff.mpr (List.mem_cons_self ..))
   have htx:Tri x:=ht x (List.mem_cons_self ..)
   have e:x=y:=by
    rcases List.mem_cons.mp hx with e|hx
    ·exact e
    ·have hy:y∈x::a:=h.mem_iff.mpr (List.mem_cons_self ..)
     rcases List.mem_cons.mp hy with e|hy
     ·exact e.symm
     ·have a1:=(List.pairwise_cons.mp h1).1 y hy
      have a2:=(List.pairwise_cons.mp h2).1 x hx
      have:=al8 htx hty htx a1 a2
      rw[aos] at this
      cases this
   subst e
   rw[aou (List.perm_cons x |>.mp h) (fun k hk=>ht k (List.mem_cons_of_mem _ hk)) (List.pairwise_cons.mp h1).2 (List.pairwise_cons.mp h2).2]
noncomputable def TriOb (h:Heap) (v:Value) (k:List Key):Prop:=∃x o xs n s a b t1 t2 t3,v=.ref x∧h.get? x=some o∧o.cls=.type "tuple"∧o.data=.seq xs n∧xs.toList=[.str s t1,.int a t2,.int b t3]∧k=[.inr s,.inl a,.inl b]
theorem TriOb.tri {h:Heap} {v:Value} {k:List Key} (x:TriOb h v k):Tri k:=let ⟨_,_,_,_,s,a,b,_,_,_,_,_,_,_,_,e⟩:=x;⟨s,a,b,e⟩
theorem tri_lt {prog:Program} {w:World} {A:Around} {E:Value→Shared→Prop} {s:Shared} {Q:Bool→Shared→Prop} {u v:Value} {k l:List Key} (hu:TriOb s.heap u k) (hv:TriOb s.heap v l) (q:Q (kLt k l) s):wpAny (model prog w) A (keyLt' (tuples' true) u v) Q E s:=by
 obtain⟨x,o,xs,n,s1,a,b,t1,t2,t3,rfl,g1,g2,g3,g4,rfl⟩:=hu
 obtain⟨y,o',ys,n',s2,c,d,u1,u2,u3,rfl,f1,f2,f3,f4,rfl⟩:=hv
 refine PySem.W.kat_lt g1 g3 f1 f3 ?_
 rw[g4,f4]
 have q:Q (if s1=s2 then (if a=c then decide (b < d) else decide (a < c)) else decide (s1.cps.toList < s2.cps.toList)) s:=q
 show PySem.W.KatLex prog w A true _ Q [(.str s1 t1,.str s2 u1),(.int a t2,.int c u2),(.int b t3,.int d u3)] 0 s
 refine PySem.W.kat_cons (wpAny_eqBool_str ?_)
 unfold PySem.W.KatGo
 by_cases e1:s1=s2
 ·rw[decide_eq_true e1,if_pos rfl]
  rw[if_pos e1] at q
  refine PySem.W.kat_cons (wpAny_eqBool_int ?_)
  unfold PySem.W.KatGo
  by_cases e2:a=c
  ·rw[show (a == c)=true by simpa using e2,if_pos rfl]
   rw[if_pos e2] at q
   refine PySem.W.kat_cons (wpAny_eqBool_int ?_)
   unfold PySem.W.KatGo
   by_cases e3:b=d
   ·rw[show (b == d)=true by simpa using e3,if_pos rfl]
    refine PySem.W.kat_nil ?_
    have l1:xs.size=3:=by rw[←Array.length_toList,g4];rfl
    have l2:ys.size=3:=by rw[←Array.length_toList,f4];rfl
    rw[l1,l2]
    rw[e3] at q
    simpa using q
   ·rw[show (b == d)=false by simpa using e3,if_neg (by simp)]
    exact PySem.W.kat_one _ _ (PySem.P.lt_int q)
  ·rw[show (a == c)=false by simpa using e2,if_neg (by simp)]
   rw[if_neg e2] at q
   exact PySem.W.kat_one _ _ (PySem.P.lt_int q)
 ·rw[decide_eq_false e1,if_neg (by simp)]
  rw[if_neg e1] at q
  show wpAny (model prog w) A (oneLt' true _ _) Q _ s
  rw[←keyLt'_oneType]
  exact PySem.W.kas_lt_str q
theorem al9 {α β:Type} {F:α→β→Prop}:∀{xs:List α} {ys:List β} {i:Nat} {x:α},Paired F xs ys→xs[i]?=some x→∃y,ys[i]?=some y∧F x y
 |_,_,_,_,.nil,e=>by simp at e
 |_,_,0,_,.cons r _,e=>by simp at e;subst e;exact⟨_,rfl,r⟩
 |_,_,i+1,x,.cons _ t,e=>by
  obtain⟨u,h1,h2⟩:=al9 (i:=i) (x:=x) t (by simpa using e)
  exact⟨u,by simpa using h1,h2⟩
theorem aht {h h':Heap} {v:Value} {k:List Key} (x:TriOb h v k) (hk:∀y o,h.get? y=some o→o.cls=.type "tuple"→h'.get? y=some o):TriOb h' v k:=by
 obtain⟨x,o,xs,n,s1,a,b,t1,t2,t3,e,g1,g2,r⟩:=x
 exact⟨x,o,xs,n,s1,a,b,t1,t2,t3,e,hk _ _ g1 g2,g2,r⟩
theorem ajx {h:Heap}:∀{vs:List Value} {ks:List (List Key)},Paired (TriOb h) vs ks→∃fs,PySem.W.KatTups h vs fs∧fs.length=vs.length∧∀f∈fs,∃s t,f=.str s t
 |_,_,.nil=>⟨[],PySem.W.KatTups.nil,rfl,fun f hf=>by cases hf⟩
 |_,_,.cons p r=>by
  obtain⟨x,o,xs,n,s1,a,b,t1,t2,t3,e,g1,g2,g3,g4,_⟩:=p
  obtain⟨fs,h1,h2,h3⟩:=ajx r
  subst e
  refine⟨.str s1 t1::fs,PySem.W.KatTups.cons g1 g2 g3 (by rw[←Array.getElem?_toList,g4];rfl) h1,by rw[List.length_cons,List.length_cons,h2],fun f hf=>?_⟩
  rcases List.mem_cons.mp hf with rfl|hf
  ·exact⟨_,_,rfl⟩
  ·exact h3 f hf
section
variable {prog:Program} {w:World} {A:Around} {E:Value→Shared→Prop} {s:Shared}
theorem ahu {a:Addr} {vs:List Value} {ks:List (List Key)} {n:Nat} {P:Fin→Shared→Prop} {F:Value→List Key→Prop} (hF:∀v k,F v k→TriOb s.heap v k) (ho:s.heap.get? a=some (seqObj "list" vs.toArray n)) (h2:2≤vs.length) (h64:vs.length < 64) (ht:Paired F vs ks) (nd:ks.Nodup)
  (h:∀(out:List Value) (ks':List (List Key)),Paired F out ks'→ks'.Perm ks→ks'.Pairwise (kLt · ·=true)→P (.done (.ret .none)) {s with heap:=sortedHeap s.heap a vs out.toArray}):wpAny (model prog w) A (Builtin.«list.sort» ⟨[.ref a],[]⟩) P E s:=by
 rw[list_sort_plain]
 have ha:a < s.heap.objs.size:=Heap.lt_size ho
 refine wpAny_bind (listItems_at ho rfl ?_)
 refine wpAny_bind (listUpdate_at ho rfl ?_)
 obtain⟨e1,ho1⟩:∃e1,(s.heap.update a (Obj.mapSeq fun _=> #[])).get? a=some (seqObj "list" #[] e1):=⟨_,get?_update_seq ho (fun _=> #[])⟩
 refine wpAny_bind (seqEpoch_at ho1 rfl ?_)
 refine wpAny_bind (wpAny_newTuple ?_)
 refine wpAny_bind (wpAny_newList ?_)
 refine wpAny_holding ?_
 have ho6:(((s.heap.update a (Obj.mapSeq fun _=> #[])).push (seqObj "tuple" vs.toArray 0)).push (seqObj "list" #[] 0)).get? a=some (seqObj "list" #[] e1):=by
  rw[Heap.get?_push_ne _ _ _ (by rw[size_push',Heap.size_update];exact Nat.ne_of_lt (Nat.lt_succ_of_lt ha)),Heap.get?_push_ne _ _ _ (by rw[Heap.size_update];exact Nat.ne_of_lt ha)]
  exact ho1
 show wpAny (model prog w) A _ P E {s with heap:=((s.heap.update a (Obj.mapSeq fun _=> #[])).push (seqObj "tuple" vs.toArray 0)).push (seqObj "list" #[] 0)}
 dsimp only
 have hsz:¬vs.toArray.size < 2:=by rw[List.size_toArray];omega
 rw[if_neg hsz,if_neg hsz]
 have kp:∀y o,s.heap.get? y=some o→o.cls=.type "tuple"→(((s.heap.update a (Obj.mapSeq fun _=> #[])).push (seqObj "tuple" vs.toArray 0)).push (seqObj "list" #[] 0)).get? y=some o:=fun y o hy hc=>by
  refine Heap.get?_push_of_some _ (Heap.get?_push_of_some _ ?_)
  rw[Heap.get?_update_ne _ _ _ _ (fun z=>by rw[z,ho] at hy;cases hy;exact absurd (Value.type.inj hc) (by decide))]
  exact hy
 have ht6:Paired (TriOb (((s.heap.update a (Obj.mapSeq fun _=> #[])).push (seqObj "tuple" vs.toArray 0)).push (seqObj "list" #[] 0))) vs ks:=Paired.mapP ht fun _ _ q=>aht (hF _ _ q) kp
 generalize hh6:((s.heap.update a (Obj.mapSeq fun _=> #[])).push (seqObj "tuple" vs.toArray 0)).push (seqObj "list" #[] 0)=h6 at *
 obtain⟨fs,f1,f2,f3⟩:=ajx ht6
 refine wpAny_bind (PySem.W.kat_kind (fs:=fs) (T:=.type "str") f1 (by omega) (fun v hv=>?_) (by decide) ?_)
 ·obtain⟨s9,t9,rfl⟩:=f3 v hv
  intro A' Q' E' s' _ q'
  exact wpAny_pure q'
 rw[show (Value.type "str" != Value.type "tuple")=true by decide]
 have hkl:=Paired.length ht6
 have key:∀i,i < vs.length→∃v k,vs.getD i .none=v∧ks.getD i []=k∧ks[i]?=some k∧TriOb h6 v k:=fun i hi=>by
  obtain⟨k,hk1,hk2⟩:=al9 ht6 (List.getElem?_eq_getElem hi)
  exact⟨vs[i],k,by rw[List.getD_eq_getElem?_getD,List.getElem?_eq_getElem hi];rfl,by rw[List.getD_eq_getElem?_getD,hk1];rfl,hk1,hk2⟩
 have od:Od (fun i j=>kLt (ks.getD i []) (ks.getD j [])) vs.length:=by
  refine⟨fun i j k hi hj hk h1 h2=>?_,fun i hi=>aos,fun i j hi hj ne=>?_⟩
  ·obtain⟨_,_,_,a1,_,a2⟩:=key i hi
   obtain⟨_,_,_,b1,_,b2⟩:=key j hj
   obtain⟨_,_,_,c1,_,c2⟩:=key k hk
   exact al8 (by rw[a1];exact a2.tri) (by rw[b1];exact b2.tri) (by rw[c1];exact c2.tri) h1 h2
  ·obtain⟨_,x,_,a1,a3,a2⟩:=key i hi
   obtain⟨_,y,_,b1,b3,b2⟩:=key j hj
   refine aot (by rw[a1];exact a2.tri) (by rw[b1];exact b2.tri) ?_
   rw[a1,b1]
   intro e
   rw[e,←b3] at a3
   exact ne ((List.getElem?_inj (by rw[←hkl];exact hi) nd).mp a3)
 obtain⟨p,ep,pm,up⟩:=ap7 od (by omega)
 have run:=PySem.W.kas_runs (prog:=prog) (w:=w) (A:=A) (E:=E) (κ:=tuples' true) (it:=pairsOf vs) (n:=vs.length) (s:={s with heap:=h6}) (G:=fun p' s'=>p'=p∧s'={s with heap:=h6}) (Q:=fun _ st' s'=>arrOf st'=Array.map (PySem.W.kas_item (pairsOf vs)) p∧failedOf st'=none∧s'={s with heap:=h6}) h2 h64 (fun p' st' s' _ e2 e3 e4=>⟨by rw[e2,e4.1],e3,e4.2⟩) (al2 (lt:=fun i j=>kLt (ks.getD i []) (ks.getD j [])) (R:=fun x=>In x vs.length) (fun i j C hi hj c=>?_) _ (an1 (by omega)) ⟨ep,rfl⟩)
 ·have er:Array.map (PySem.W.kas_item (pairsOf vs)) (List.range vs.length).toArray=pairsOf vs:=by
   have:=PySem.W.kas_range (pairsOf vs)
   rw[pairsOf_size] at this
   exact this
  unfold PySem.W.kasC PySem.W.kas_st at run
  rw[er] at run
  refine wpAny_bind (thn run fun r s' ⟨b1,b2,b3⟩=>?_)
  subst b3
  refine wpAny_bind (seqEpoch_at ho6 rfl ?_)
  have hm:(Array.map (fun x=>x.snd) (arrOf r.snd))=(p.toList.map fun i=>vs.getD i .none).toArray:=by
   rw[b1]
   apply Array.ext'
   rw[Array.toList_map,Array.toList_map,List.map_map]
   refine List.map_congr_left fun i _=>?_
   show (PySem.W.kas_item (pairsOf vs) i).snd=_
   rw[PySem.W.kas_item_eq]
  rw[hm,b2]
  refine wpAny_bind (listUpdate_at ho6 rfl ?_ (hsz2:=by rw[sizeLine_eq,List.size_toArray,List.length_map,Array.length_toList,pm.sz];omega))
  simp only[bne_self_eq_false,Bool.false_eq_true,if_false]
  refine wpAny_pure ?_
  have hpl:p.toList.length=vs.length:=by rw[Array.length_toList];exact pm.sz
  have hpe:p.toList.Perm (List.range vs.length):=Array.perm_iff_toList_perm.mp pm.pe
  have hlt:∀i∈p.toList,i < vs.length:=fun i hi=>List.mem_range.mp (hpe.mem_iff.mp hi)
  have e9:ks=(List.range vs.length).map fun i=>ks.getD i []:=by
   refine List.ext_getElem? fun i=>?_
   rw[List.getElem?_map]
   by_cases c:i < vs.length
   ·obtain⟨_,k,_,a2,a3,_⟩:=key i c
    rw[List.getElem?_range c,a3]
    show some k=some (ks.getD i [])
    rw[a2]
   ·rw[List.getElem?_eq_none (by rw[←hkl];omega),List.getElem?_eq_none (by rw[List.length_range];omega)]
    rfl
  have:=h (p.toList.map fun i=>vs.getD i .none) (p.toList.map fun i=>ks.getD i []) ?_ ?_ ?_
  ·rw[←hh6]
   exact this
  ·clear up pm e9 hpl hpe run ep b1 b2 hm
   generalize p.toList=l at *
   induction l with
   |nil=>exact .nil
   |cons i l ih=>
    refine .cons ?_ (ih fun j hj=>hlt j (List.mem_cons_of_mem _ hj))
    have hi:=hlt i (List.mem_cons_self ..)
    obtain⟨k,hk1,hk2⟩:=al9 ht (List.getElem?_eq_getElem hi)
    show F (vs.getD i .none) (ks.getD i [])
    rw[List.getD_eq_getElem?_getD,List.getElem?_eq_getElem hi,List.getD_eq_getElem?_getD,hk1]
    exact hk2
  ·have:=hpe.map fun i=>ks.getD i []
   rw[←e9] at this
   exact this
  ·rw[List.pairwise_map,List.pairwise_iff_getElem]
   intro i j hi hj hij
   have:=up i j hij (by rw[←hpl];exact hj)
   rw[Array.getD_eq_getD_getElem?,Array.getD_eq_getD_getElem?,←Array.getElem?_toList,←Array.getElem?_toList,List.getElem?_eq_getElem hi,List.getElem?_eq_getElem hj] at this
   exact this
 ·obtain⟨v,k,a1,a2,a3,a4⟩:=key i hi
  obtain⟨u,l,b1,b2,b3,b4⟩:=key j hj
  unfold PySem.W.kas_cmp
  rw[PySem.W.kas_item_eq,PySem.W.kas_item_eq,a1,b1]
  rw[a2,b2] at c
  exact tri_lt a4 b4 c
theorem ahv {a:Addr} {vs:List Value} {n:Nat} {P:Fin→Shared→Prop} (ho:s.heap.get? a=some (seqObj "list" vs.toArray n)) (h2:vs.length < 2)
  (h:P (.done (.ret .none)) {s with heap:=sortedHeap s.heap a vs vs.toArray}):wpAny (model prog w) A (Builtin.«list.sort» ⟨[.ref a],[]⟩) P E s:=by
 rw[list_sort_plain]
 have ha:a < s.heap.objs.size:=Heap.lt_size ho
 refine wpAny_bind (listItems_at ho rfl ?_)
 refine wpAny_bind (listUpdate_at ho rfl ?_)
 obtain⟨e1,ho1⟩:∃e1,(s.heap.update a (Obj.mapSeq fun _=> #[])).get? a=some (seqObj "list" #[] e1):=⟨_,get?_update_seq ho (fun _=> #[])⟩
 refine wpAny_bind (seqEpoch_at ho1 rfl ?_)
 refine wpAny_bind (wpAny_newTuple ?_)
 refine wpAny_bind (wpAny_newList ?_)
 refine wpAny_holding ?_
 have ho6:(((s.heap.update a (Obj.mapSeq fun _=> #[])).push (seqObj "tuple" vs.toArray 0)).push (seqObj "list" #[] 0)).get? a=some (seqObj "list" #[] e1):=by
  rw[Heap.get?_push_ne _ _ _ (by rw[size_push',Heap.size_update];exact Nat.ne_of_lt (Nat.lt_succ_of_lt ha)),Heap.get?_push_ne _ _ _ (by rw[Heap.size_update];exact Nat.ne_of_lt ha)]
  exact ho1
 show wpAny (model prog w) A _ P E {s with heap:=((s.heap.update a (Obj.mapSeq fun _=> #[])).push (seqObj "tuple" vs.toArray 0)).push (seqObj "list" #[] 0)}
 dsimp only
 have hsz:vs.toArray.size < 2:=by rw[List.size_toArray];exact h2
 rw[if_pos hsz,if_pos hsz]
 refine wpAny_bind (wpAny_pure ?_)
 rw[StateT.run_pure]
 refine wpAny_bind (wpAny_pure ?_)
 dsimp only
 refine wpAny_bind (seqEpoch_at ho6 rfl ?_)
 have hm:Array.map (fun x=>x.snd) (arrOf (SortSt.mk' general' (vs.toArray.zip vs.toArray) #[] 7 none))=vs.toArray:=by
  show (vs.toArray.zip vs.toArray).map (fun x=>x.snd)=vs.toArray
  apply Array.ext'
  rw[Array.toList_map,Array.toList_zip]
  exact List.map_snd_zip (Nat.le_refl _)
 show wpAny _ _ (Builtin.List.listUpdate (.ref a) (fun _=>Array.map (fun x=>x.snd) (arrOf (SortSt.mk' general' (vs.toArray.zip vs.toArray) #[] 7 none))) >>= _) _ _ _
 rw[hm]
 refine wpAny_bind (listUpdate_at ho6 rfl ?_ (hsz2:=by rw[sizeLine_eq,List.size_toArray];omega))
 simp only[bne_self_eq_false,Bool.false_eq_true,if_false]
 exact wpAny_pure h
theorem afi {a:Addr} {vs:List Value} {ks:List (List Key)} {n:Nat} {P:Fin→Shared→Prop} {F:Value→List Key→Prop} (hF:∀v k,F v k→TriOb s.heap v k) (ho:s.heap.get? a=some (seqObj "list" vs.toArray n)) (h64:vs.length < 64) (ht:Paired F vs ks) (nd:ks.Nodup)
  (h:∀(out:List Value) (ks':List (List Key)),Paired F out ks'→ks'.Perm ks→ks'.Pairwise (kLt · ·=true)→P (.done (.ret .none)) {s with heap:=sortedHeap s.heap a vs out.toArray}):wpAny (model prog w) A (Builtin.«list.sort» ⟨[.ref a],[]⟩) P E s:=by
 by_cases h2:2≤vs.length
 ·exact ahu hF ho h2 h64 ht nd h
 ·refine ahv ho (by omega) (h vs ks ht (List.Perm.refl _) ?_)
  have hl:=Paired.length ht
  match ks,hl with
  |[],_=>exact .nil
  |[k],_=>exact List.pairwise_singleton _ _
  |_::_::_,hl=>rw[List.length_cons,List.length_cons] at hl;omega
theorem aov {H:Hp} {h:Heap} {a:Addr} {k:List Key} (ok:HOk prog w H h) (e:H a=some (.tup (k.map kV))) (ht:Tri k):TriOb h (.ref a) k:=by
 obtain⟨s1,x,y,rfl⟩:=ht
 obtain⟨_,its,r,o,g1,g2,n,g3⟩:=ok _ _ e
 cases r with
 |cons r1 r=>cases r with
  |cons r2 r=>cases r with
   |cons r3 r=>
    cases r
    obtain⟨t1,rfl⟩:=r1
    obtain⟨t2,rfl⟩:=r2
    obtain⟨t3,rfl⟩:=r3
    exact⟨a,o,_,n,s1,x,y,t1,t2,t3,rfl,g1,g2,g3,rfl,rfl⟩
theorem ai9 {H:Hp}:∀{out:List Value} {ks:List (List Key)},Paired (fun v k=>Tri k∧∃a,v=Value.ref a∧H a=some (.tup (k.map kV))) out ks→∃us,Vals us out∧KysAt H ks us
 |_,_,.nil=>⟨[],.nil,.nil⟩
 |_,_,.cons ⟨_,a,e,h⟩ r=>by
  obtain⟨us,h1,h2⟩:=ai9 r
  exact⟨.ref a::us,.cons e h1,.cons ⟨a,rfl,h⟩ h2⟩
end
theorem ahw {X:Cx} (hc:X.calm=true):CallR X (.builtin "sorted") (fun xs H Q=>∃p kvs,xs=[.ref p]∧H p=some (.dT kvs)∧kvs.length < 64∧(∀kv∈kvs,Tri kv.1)∧∀l us ks,H l=none→KysAt H ks us→ks.Perm (kvs.map (·.1))→ks.Pairwise (kLt · ·=true)→Q (.ref l) (upd H l (.lst us))):=by
 intro pins s σ H xs us Q I r h
 obtain⟨p,kvs,rfl,hp,h64,htri,q⟩:=h
 obtain⟨u,rfl,ru⟩:=vals1 r
 cases ru
 obtain⟨z,nd,ys,rel,o,es,ep,e0,ec,ed,he,hnd⟩:=ail I.hok hp
 have hsz:=size_of_entries he
 have hlen:=Paired.length rel
 refine Calls.call_function_entry kind_sorted plain_sorted entry_sorted (args_sorted1 _) ?_
 unfold Builtin.«sorted»
 refine wpAny_bind (m:=checkCount "sorted" 1 1 _) (wpAny_pure ?_)
 refine wpAny_bind (PySem.W.kdu_collect (A:=X.A.in1) (ap4 (es:=es) (ep:=ep) nd) (I.ok.hd hc) ⟨o,e0,ec,ed⟩ (by rw[sizeLine_eq];omega) fun h' tk acc hk hacc=>?_)
 have ea:acc.toList=ys.map fun y=>Value.ref y.2.1:=by
  refine List.ext_getElem? fun j=>?_
  rw[List.getElem?_map]
  by_cases c:j < es.size
  ·have hj:j < acc.toList.length:=by rw[Array.length_toList,hacc.1];exact c
   obtain⟨_,e⟩:=hacc.2 j _ (by rw[←Array.getElem?_toList];exact List.getElem?_eq_getElem hj)
   rw[List.getElem?_eq_getElem hj,e]
   have e3:=entry_at he j
   rw[Array.getElem?_eq_getElem c,List.getElem?_eq_getElem (by omega)] at e3
   have e3:=Option.some.inj e3
   rw[e3,List.getElem?_eq_getElem (by omega)]
   rfl
  ·rw[List.getElem?_eq_none (by rw[Array.length_toList,hacc.1];omega),List.getElem?_eq_none (by omega)]
   rfl
 have hal:acc.toList.length=kvs.length:=by rw[ea,List.length_map];exact hlen.symm
 have hP:Paired (fun v k=>Tri k∧∃a,v=Value.ref a∧H a=some (.tup (k.map kV))) acc.toList (kvs.map (·.1)):=by
  rw[ea]
  clear ea hal he hnd hsz hlen h64 q hp z
  induction rel with
  |nil=>exact .nil
  |@cons x y _ _ r t ih=>exact .cons ⟨htri x (List.mem_cons_self ..),_,rfl,r.2.1⟩ (ih fun kv hkv=>htri kv (List.mem_cons_of_mem _ hkv))
 have hndk:(kvs.map (·.1)).Nodup:=by
  have:kvs.map (·.1)=ys.map (·.1):=by
   clear ea hal he hnd hsz hlen h64 q hp hP htri z
   induction rel with
   |nil=>rfl
   |cons r t ih=>rw[List.map_cons,List.map_cons,ih,r.1]
  rw[this];exact hnd.2
 have I1:Inv X pins σ H {s with heap:=h',toks:=tk}:=I.kept (t':=tk) hk
 refine wpAny_bind (wpAny_newList ?_ (by rw[sizeLine_eq,hal];omega))
 have hoL:(h'.push (seqObj "list" acc.toList.toArray 0)).get? h'.objs.size=some (seqObj "list" acc.toList.toArray 0):=Heap.get?_push_size _ rfl
 refine wpAny_bind (wpAny_holding (wpAny_call_entry slot_list_sort ⟨_,hoL,rfl⟩ entry_list_sort (afi (F:=fun v k=>Tri k∧∃a,v=Value.ref a∧H a=some (.tup (k.map kV))) (fun v k ⟨h1,a,e,h2⟩=>?_) hoL (by rw[hal];exact h64) hP hndk fun out ks o1 o2 o3=>⟨_,rfl,?_⟩) (args_list_sort _)))
 ·subst e
  exact aht (aov I1.hok h2 h1) fun y o hy _=>Heap.get?_push_of_some _ hy
 obtain⟨e,he2⟩:=sortedHeap_at (out:=out.toArray) hoL
 obtain⟨us,v1,v2⟩:=ai9 o1
 have hul:=v1.length
 have hol:out.length=kvs.length:=by rw[Paired.length o1,o2.length_eq,List.length_map]
 refine wpAny_pure ⟨_,rfl,⟨.ref h'.objs.size,_,I1.laid (t':=tk) (fun b o hb=>?_) (Nat.le_refl _) (show ObjOk X.prog X.w _ _ _ (.lst us) from ⟨by rw[sizeLine_eq,hul,hol];omega,out,e,v1,he2⟩),rfl,q _ us ks (I1.hok.fresh (Nat.le_refl _)) v2 o2 o3⟩⟩
 have hlt:=Heap.lt_size hb
 rw[sortedHeap_old (Nat.ne_of_lt hlt) (by rw[size_push'];exact Nat.lt_succ_of_lt hlt)]
 exact Heap.get?_push_of_some _ hb
theorem ajy {H:Hp}:∀{us:List V} {its:List Value} {ks:List (List Key)},Vals us its→KysAt H ks us→(∀k∈ks,Tri k)→Paired (fun v k=>Tri k∧∃a,v=Value.ref a∧H a=some (.tup (k.map kV))) its ks
 |_,_,_,.nil,.nil,_=>.nil
 |_,_,_,.cons r v,.cons p q,ht=>by
  obtain⟨a,e,h⟩:=p
  subst e
  exact .cons ⟨ht _ (List.mem_cons_self ..),a,r,h⟩ (ajy v q fun k hk=>ht k (List.mem_cons_of_mem _ hk))
theorem afu {X:Cx} (hc:X.calm=true):CallR X (.builtin "sorted") (fun xs H Q=>∃p vs ks0,xs=[.ref p]∧SqL X.K H p vs∧KysAt H ks0 vs∧vs.length < 64∧ks0.Nodup∧(∀k∈ks0,Tri k)∧∀l us ks,H l=none→KysAt H ks us→ks.Perm ks0→ks.Pairwise (kLt · ·=true)→Q (.ref l) (upd H l (.lst us))):=by
 intro pins s σ H xs us Q I r h
 obtain⟨p,vs,ks0,rfl,hq,hk0,h64,hnd,htri,q⟩:=h
 obtain⟨u,rfl,ru⟩:=vals1 r
 cases ru
 obtain⟨its,r',pl,hz⟩:=I.list hq
 have hlen:=r'.length
 refine Calls.call_function_entry kind_sorted plain_sorted entry_sorted (args_sorted1 _) ?_
 unfold Builtin.«sorted»
 refine wpAny_bind (m:=checkCount "sorted" 1 1 _) (wpAny_pure ?_)
 refine wpAny_bind (collect_list pl.isList ?_ (by omega))
 have hk:∀b o,s.heap.get? b=some o→((s.heap.push (seqObj "list" #[] 0)).update s.heap.objs.size (Obj.mapSeq fun x=>x++its.toArray)).get? b=some o:=fun b o hb=>by
  rw[Heap.get?_update_ne _ _ _ _ (Nat.ne_of_lt (Heap.lt_size hb))]
  exact Heap.get?_push_of_some _ hb
 generalize (s.heap.push (seqObj "list" #[] 0)).update s.heap.objs.size (Obj.mapSeq fun x=>x++its.toArray)=h' at *
 have hP:=ajy r' hk0 htri
 have I1:Inv X pins σ H {s with heap:=h'}:=I.kept (t':=s.toks) hk
 refine wpAny_bind (wpAny_newList ?_ (by rw[sizeLine_eq];omega))
 have hoL:(h'.push (seqObj "list" its.toArray 0)).get? h'.objs.size=some (seqObj "list" its.toArray 0):=Heap.get?_push_size _ rfl
 refine wpAny_bind (wpAny_holding (wpAny_call_entry slot_list_sort ⟨_,hoL,rfl⟩ entry_list_sort (afi (F:=fun v k=>Tri k∧∃a,v=Value.ref a∧H a=some (.tup (k.map kV))) (fun v k ⟨h1,a,e,h2⟩=>?_) hoL (by omega) hP hnd fun out ks o1 o2 o3=>⟨_,rfl,?_⟩) (args_list_sort _)))
 ·subst e
  exact aht (aov I1.hok h2 h1) fun y o hy _=>Heap.get?_push_of_some _ hy
 obtain⟨e,he2⟩:=sortedHeap_at (out:=out.toArray) hoL
 obtain⟨us,v1,v2⟩:=ai9 o1
 have hul:=v1.length
 have hol:out.length=its.length:=by rw[Paired.length o1,o2.length_eq,←Paired.length hP]
 refine wpAny_pure ⟨_,rfl,⟨.ref h'.objs.size,_,I1.laid (t':=s.toks) (fun b o hb=>?_) (Nat.le_refl _) (show ObjOk X.prog X.w _ _ _ (.lst us) from ⟨by rw[sizeLine_eq,hul,hol];omega,out,e,v1,he2⟩),rfl,q _ us ks (I1.hok.fresh (Nat.le_refl _)) v2 o2 o3⟩⟩
 have hlt:=Heap.lt_size hb
 rw[sortedHeap_old (Nat.ne_of_lt hlt) (by rw[size_push'];exact Nat.lt_succ_of_lt hlt)]
 exact Heap.get?_push_of_some _ hb
end L2
namespace L2
open PySem PySem.Spec PyProof.Rows
open Classical in
theorem aow (a b:Key):eqV (kV a) (kV b)=decide (a=b):=by
 cases a<;>cases b<;>simp[kV,eqV,Bool.beq_eq_decide_eq]
noncomputable def kyD (k:List Key):List Dv:=k.map fun x=>.leaf (kV x)
theorem ama:∀(k l:List Key),eqDvL (kyD k) (kyD l)=decide (k=l)
 |[],[]=>by simp[kyD,eqDvL]
 |[],b::l=>by simp[kyD,eqDvL]
 |a::k,[]=>by simp[kyD,eqDvL]
 |a::k,b::l=>by
  have ih:=ama k l
  unfold kyD at ih ⊢
  rw[List.map_cons,List.map_cons,eqDvL,ih,eqDv,aow,Bool.eq_iff_iff]
  simp
theorem agv:∀(k l:List Key),alikeL (kyD k) (kyD l)=true
 |[],[]=>by simp[kyD,alikeL]
 |[],b::l=>by simp[kyD,alikeL]
 |a::k,[]=>by simp[kyD,alikeL]
 |a::k,b::l=>by
  have ih:=agv k l
  unfold kyD at ih ⊢
  rw[List.map_cons,List.map_cons,alikeL,ih,alike];rfl
theorem agc:∀(k:List Key),deepL (kyD k)=0
 |[]=>by simp[kyD,deepL]
 |a::k=>by
  have ih:=agc k
  unfold kyD at ih ⊢
  rw[List.map_cons,deepL,ih,deep];rfl
theorem ajz {K:PySem.W.Frag} {H:Hp}:∀(k:List Key),SeesL K H (kyD k) (k.map kV)
 |[]=>by show SeesL K H [] [];unfold SeesL;rfl
 |a::k=>by
  show SeesL K H (Dv.leaf (kV a)::kyD k) (kV a::k.map kV)
  unfold SeesL
  refine⟨_,_,rfl,?_,ajz k⟩
  unfold Sees
  exact⟨rfl,by cases a<;>rfl⟩
theorem aiu {K:PySem.W.Frag} {H:Hp} {a:Addr} {k:List Key} (h:H a=some (.tup (k.map kV))):Sees K H (.seq true (kyD k)) (.ref a):=by
 unfold Sees
 exact⟨a,_,rfl,by rw[if_pos rfl];exact SqT.of h,ajz k⟩
end L2
namespace L2
open PySem PySem.Spec PyProof.Rows
section
variable {prog:Program} {w:World} {K:Type} [DecidableEq K] {knd:HeapKind prog w K} {A:Around} {E:Value→Shared→Prop} {s:Shared}
theorem aja {d a:Addr} {xs:List (K×Addr×Value)} {k:K} {dflt:Value} {Q:Value→Shared→Prop} (hu:knd.room A) (hkey:knd.is s.heap k a) (hm:s.heap.DictOfH knd d xs) (hsz:xs.length≤sizeLine)
  (h1:∀p,atKey xs k=some p→Q p.2 {s with toks:=s.toks+knd.draws k})
  (h2:atKey xs k=none→∀h',h'.DictOfH knd d (storedH xs k a dflt)→Heap.SameBut d s.heap h'→Q dflt {s with heap:=h',toks:=s.toks+knd.draws k}):wpAny (model prog w) A (dictSetDefault d (.ref a) dflt) Q E s:=by
 obtain⟨o,es,ep,ho,hc,hd,he,his,hn⟩:=hm
 unfold dictSetDefault
 try with_reducible refine wpAny_holding ?_
 refine wpAny_bind (knd.pyHash hu hkey ?_)
 refine wpAny_bind (wpAny_dictFind_heap (s:={s with toks:=s.toks+knd.draws k}) hu hkey ho hd he his hn (fun hno=>?_) fun j p hj=>?_)
 ·have hnot:k∉xs.map (·.1):=not_mem_keys_of_get hno
  refine wpAny_bind (wpAny_rule (wpAny_bind (wpAny_updateDictKeys (hz:=by have e:=size_of_entries he;omega) (s:={s with toks:=s.toks+knd.draws k}) ho hd (wpAny_pure (h2 (atKey_none_of_get hno) _ ⟨_,_,ep+1,Heap.get?_update_self _ ho (Obj.isFreed_of_dict (Obj.data_mapDictKeys hd _)),hc.mapDictKeys _,Obj.data_mapDictKeys hd _,?_,?_,?_⟩ (Heap.SameBut.update ..))))))
  ·rw[storedH_new (atKey_none_of_get hno)]
   simp[he,entryOfKey]
  ·rw[storedH_new (atKey_none_of_get hno)]
   intro x hx
   rcases List.mem_append.mp hx with hx|hx
   ·exact knd.keeps (his x hx) ho hd (Heap.SameBut.update ..)
   ·simp only[List.mem_singleton] at hx
    subst hx
    exact knd.keeps hkey ho hd (Heap.SameBut.update ..)
  ·rw[storedH_new (atKey_none_of_get hno)]
   rw[List.map_append,List.nodup_append]
   refine⟨hn,by simp,?_⟩
   intro x hx y hy
   simp only[List.map_cons,List.map_nil,List.mem_singleton] at hy
   subst hy
   exact fun e=>hnot (e ▸ hx)
 ·refine wpAny_bind (wpAny_dictEntries (s:={s with toks:=s.toks+knd.draws k}) ho hd ?_)
  have ee:es[j]?=some (entryOfKey knd (k,p)):=by rw[entry_at he,hj];rfl
  rw[ee]
  exact wpAny_bind (wpAny_rule (wpAny_pure (h1 p (atKey_of_get hn hj))))
theorem ahx {d a:Addr} {dflt:Value}:MeetsIn prog w (Builtin.«dict.setdefault» ⟨[.ref d,.ref a,dflt],[]⟩) (fun A R s=>knd.room A.in1∧(d == sysModules)=false∧∃k xs,knd.is s.heap k a∧s.heap.DictOfH knd d xs∧xs.length≤sizeLine∧
   (∀p,atKey xs k=some p→R (.ok (.ret p.2)) {s with toks:=s.toks+knd.draws k})∧
   (atKey xs k=none→∀h',h'.DictOfH knd d (storedH xs k a dflt)→Heap.SameBut d s.heap h'→R (.ok (.ret dflt)) {s with heap:=h',toks:=s.toks+knd.draws k})):=
 .of_wp fun A R s ⟨hu,hd,k,xs,hkey,hm,hsz,h1,h2⟩=>by
  unfold Builtin.«dict.setdefault»
  refine wpAny_bind ?_
  unfold Builtin.Dict.keyAndDefault
  refine wpAny_bind (wpAny_notOrdered_dict hm.typeIs ?_)
  show wpAny _ _ (pure (d,Value.ref a,some dflt)) _ _ s
  refine wpAny_pure ?_
  show wpAny _ _ (if (d == sysModules)=true then _ else (dictSetDefault d (.ref a) dflt >>= _)) _ _ s
  rw[if_neg (by rw[hd];exact Bool.false_ne_true)]
  exact wpAny_bind (aja hu hkey hm hsz (fun p hp=>wpAny_pure ⟨p.2,rfl,h1 p hp⟩) fun hn h' hm' hs'=>wpAny_pure ⟨dflt,rfl,h2 hn h' hm' hs'⟩)
end
theorem amb {X:Cx} {pins:List (Addr×Obj)} {σ:St} {H:Hp} {s:Shared} {a b:Addr} {kvs:List (List Key×V)} {k:List Key} {A:Around} {E:Value→Shared→Prop} {r:Value} {z:V} {Q:Value→Shared→Prop} (hu:A.units+1 < cLine) (I:Inv X pins σ H s) (e:H a=some (.dT kvs)) (eb:H b=some (.tup (k.map kV))) (rz:RelV z r) (hl:kvs.length < sizeLine)
  (h1:∀v,valV kvs k=some v→∀w' s',Inv X pins σ H s'→RelV v w'→Q w' s')
  (h2:valV kvs k=none→∀s',Inv X pins σ (upd H a (.dT (putK kvs k z))) s'→Q r s'):wpAny (model X.prog X.w) A (call (.builtin "dict.setdefault") [.ref a,.ref b,r]) Q E s:=by
 obtain⟨zz,hd,xs,rel,dd⟩:=ail I.hok e
 have hz:xs.length≤sizeLine:=by rw[←Paired.length rel];exact zz
 have hlp:(putK kvs k z).length≤sizeLine:=by have:=afk kvs k z;omega
 refine call_meetsIn PySem.F.slot_dict_setdefault dd.typeIs PySem.F.entry_dict_setdefault (PySem.F.args_dict_setdefault_3 _ _ _) (ahx (knd:=tupleKind (mixKind X.prog X.w))) ⟨tupleKind_room_in1 hu,hd,k,xs,aik I.hok eb,dd,hz,fun p hp=>?_,fun hn h' dd' hs=>?_⟩
 ·have q:=rel.val k
  rw[hp] at q
  cases hv:valV kvs k with
  |none=>rw[hv] at q;exact q.elim
  |some v=>rw[hv] at q;exact h1 v hv _ _ (I.tok _) q
 ·have q:=rel.val k
  rw[hn] at q
  have hv:valV kvs k=none:=by
   cases hv:valV kvs k with
   |none=>rfl
   |some v=>rw[hv] at q;exact q.elim
  refine h2 hv _ ?_
  obtain⟨q,es,ep,hq,g2,g3,g4,_,g5⟩:=dd'
  refine agp I (by rw[e];exact True.intro) hs ⟨q,hq⟩ ⟨hlp,hd,_,(rel.put k eb rz).keeps fun c ys ec=>?_,q,es,ep,hq,g2,g3,g4,g5⟩
  rw[aaf (aca ec e (fun z=>nomatch z))]
  exact ec
noncomputable def tDSetT (td ty tx:TE):TE:=fun σ H Q=>td σ H fun x H1=>∃a,x=.ref a∧IsD H1 a∧ty σ H1 fun y H2=>tx σ H2 fun z H3=>∃kvs k b,H3 a=some (.dT kvs)∧y=.ref b∧H3 b=some (.tup (k.map kV))∧kvs.length < sizeLine∧
 (∀v,valV kvs k=some v→Q v H3)∧(valV kvs k=none→Q z (upd H3 a (.dT (putK kvs k z))))
theorem amc {X:Cx} {o e f:Expr} {apos cpos:Pos} {td ty tx:TE} (hu:X.A.units+1 < cLine) (ho:PE X o td) (he:PE X e ty) (hf:PE X f tx) (m:M2 X o "setdefault" apos e f cpos):PE X (.Call (.Attribute o "setdefault" apos) [e,f] [] cpos) (tDSetT td ty tx):=by
 intro pins s σ H Q I h
 refine wpAny_Call_method m.base m.few m.line PySem.F.plainAttrs_dict PySem.F.slot_dict_setdefault PySem.F.type_dict_setdefault (thn (ho pins s σ H _ I h) fun u s1 ⟨x,H1,I1,rx,a,ex,d,q1⟩=>?_)
 subst ex
 obtain rfl:u=Value.ref a:=rx
 obtain⟨t1,t2,_⟩:=aop I1 d
 refine⟨t1,t2,?_⟩
 rw[m.trees]
 refine Calls.callWith_builtin rfl (Calls.evalArgs_plain (Calls.spliced_cons (thn (he pins s1 σ H1 _ I1 q1) fun iv s2 ⟨y,H2,I2,ry,q2⟩=>
  Calls.spliced_cons (thn (hf pins s2 σ H2 _ I2 q2) fun fv s3 ⟨z,H3,I3,rz,kvs,k,b,ea,ey,eb,hl,q3,q4⟩=>Calls.spliced_nil ?_))))
 subst ey
 cases ry
 exact amb hu I3 ea eb rz hl (fun v hv w' s4 I4 rw'=>⟨v,_,I4,rw',q3 v hv⟩) fun hn s4 I4=>⟨z,_,I4,rz,q4 hn⟩
theorem aku {a:Addr} {o:Obj} {kvs:List (List Key×V)} {g:TG} {tt:TT} {te:TE} {h:HidC g tt te} {σ0:St} {D:Addr} {Q:Hp→Prop} {H:Hp} (Pv:Nat→List V→St→Hp→Prop) (h0:Pv 0 [] σ0 (upd H D (.lst []))) (hl:∀i ys σ H,i≤kvs.length→Pv i ys σ H→H a=some (.frz o (.dT kvs)))
  (hs:∀i k x b ys σ H,kvs[i]?=some (k,x)→H b=some (.tup (k.map kV))→Pv i ys σ H→g (.ref b) σ H fun σ2 H2=>tt σ2 H2 fun c H2'=>if c=true then te σ2 H2' fun v H3=>H3 D=some (.lst ys)∧ys.length < sizeLine∧Pv (i+1) (ys++[v]) σ2 (upd H3 D (.lst (ys++[v]))) else Pv (i+1) ys σ2 H2') (hd:∀ys σ H,Pv kvs.length ys σ H→Q H):
  Comp g tt te h (ItdT a o kvs) σ0 D Q H:=by
 refine⟨fun i m ys σ H=>i+m=kvs.length∧Pv i ys σ H,⟨kvs.length,Nat.zero_add _,h0⟩,fun i m ys σ H ⟨e,p⟩=>?_⟩
 have hq:=hl i ys σ H (by omega) p
 by_cases hi:i < kvs.length
 ·refine .inr ⟨⟨hq,hi⟩,Pv (i+1),fun ys σ H q=>⟨m - 1,by omega,by omega,q⟩,?_⟩
  rintro y H' ⟨rfl,k,v,b,hk,rfl,hb⟩
  exact hs i k v b ys σ _ hk hb p
 ·have e':i=kvs.length:=by omega
  subst e'
  exact .inl ⟨⟨hq,rfl⟩,hd ys σ H p⟩
end L2
namespace L2
open PySem PySem.Spec PyProof.Rows
noncomputable def NLst (K:PySem.W.Frag) (H:Hp) (x:V):Prop:=x=.non∨∃a xs,x=.ref a∧SqL K H a xs
theorem nL_of {K:PySem.W.Frag} {H:Hp} {x:V} {u:Value} (h:NLst K H x) (r:RelV x u):nU u=isN x:=by
 rcases h with rfl|⟨a,xs,rfl,_⟩
 ·cases r;rfl
 ·cases r;rfl
theorem aox {K:PySem.W.Frag} {H:Hp}:∀{xs:List V} {us:List Value},Vals xs us→(∀x∈xs,NLst K H x)→us.any nU=xs.any isN
 |_,_,.nil,_=>rfl
 |x::xs,u::us,.cons r t,h=>by
  rw[List.any_cons,List.any_cons,nL_of (h x (List.mem_cons_self ..)) r,aox t fun z hz=>h z (List.mem_cons_of_mem _ hz)]
theorem amd {X:Cx} {pins:List (Addr×Obj)} {σ:St} {H:Hp} {s:Shared} (I:Inv X pins σ H s) {A:Around} (hu:A.units < cLine):∀{xs:List V} {us:List Value},Vals xs us→(∀x∈xs,NLst X.K H x)→∀u∈us,SeqAt.EqAt A s u .none (nU u)
 |_,_,.nil,_=>fun u hu=>by cases hu
 |x::xs,u::us,.cons r t,h=>fun u' hu'=>by
  rcases List.mem_cons.mp hu' with rfl|hu'
  ·rcases h x (List.mem_cons_self ..) with rfl|⟨a,ys,rfl,hs⟩
   ·cases r
    exact SeqAt.EqAt.same _
   ·cases r
    obtain⟨its,r,p,hz⟩:=I.list hs
    exact SeqAt.EqAt.list_none p.isList hu
  ·exact amd I hu t (fun z hz=>h z (List.mem_cons_of_mem _ hz)) u' hu'
noncomputable def rNotInN (K:PySem.W.Frag):R2:=fun x y H Q=>∃p xs,x=.non∧y=.ref p∧SqL K H p xs∧(∀z∈xs,NLst K H z)∧Q (.bl (!xs.any isN)) H
theorem ame {X:Cx} (hu:X.A.units+4+2 < cLine):OpR X (compareOp .NotIn) (rNotInN X.K):=by
 intro pins s σ H x y v u Q I rx ry h
 obtain⟨p,xs,rfl,rfl,hq,hn,q⟩:=h
 cases rx
 cases ry
 obtain⟨its,r,pl,hz⟩:=I.list hq
 refine SeqAt.notIn_listAt nU pl.isList (fun w hw=>amd I (by show X.A.units+1 < cLine;omega) r hn w (by simpa using hw)) ⟨.bl _,H,I,rfl,?_⟩
 rw[show its.toArray.any nU=its.any nU by simp,aox r hn]
 exact q
open Classical in
noncomputable def leqU (H:Hp) (k:List Int):Value→Bool
 |.ref a=>decide (H a=some (.lst (k.map V.int)))
 |_=>false
noncomputable abbrev LsAt (H:Hp):List (List Int)→List V→Prop:=Paired fun k x=>∃a,x=.ref a∧H a=some (.lst (k.map V.int))
theorem ahy:∀{k l:List Int},k.map V.int=l.map V.int→k=l
 |[],[],_=>rfl
 |[],_::_,h=>by cases h
 |_::_,[],h=>by cases h
 |x::k,y::l,h=>by
  rw[List.map_cons,List.map_cons] at h
  injection h with h1 h2
  rw[V.int.inj h1,ahy h2]
theorem amf {X:Cx} {pins:List (Addr×Obj)} {σ:St} {H:Hp} {s:Shared} (I:Inv X pins σ H s) {A:Around} (hu:A.units+2 < cLine) {a:Addr} {k:List Int} (ha:H a=some (.lst (k.map V.int))):∀{ks:List (List Int)} {xs:List V} {us:List Value},Vals xs us→LsAt H ks xs→∀u∈us,SeqAt.EqAt A s u (.ref a) (leqU H k u)
 |_,_,_,.nil,_=>fun u hu=>by cases hu
 |k'::ks,x::xs,u::us,.cons r t,.cons ⟨b,e,hb⟩ h=>fun u' hu'=>by
  rcases List.mem_cons.mp hu' with rfl|hu'
  ·subst e
   cases r
   have z:=aio I (.seq false (dInts k')) (.seq false (dInts k)) A (.ref b) (.ref a) (.ref b) (.ref a) (by rw[deep,aft];omega) (by rw[alike,afa];rfl) (aem (SqL.of hb)) (aem (SqL.of ha)) rfl rfl
   rw[eqDv,ahq] at z
   have e2:leqU H k (.ref b)=decide (k'=k):=by
    rw[Bool.eq_iff_iff]
    simp only[leqU,hb,decide_eq_true_eq,Option.some.injEq,HO.lst.injEq]
    exact⟨fun q=>ahy q,fun q=>by rw[q]⟩
   rw[e2]
   exact z
  ·exact amf I hu ha t h u' hu'
theorem aj0 {H:Hp} {k:List Int}:∀{ks:List (List Int)} {xs:List V} {us:List Value},Vals xs us→LsAt H ks xs→(us.any (leqU H k)=true↔k∈ks)
 |_,_,_,.nil,.nil=>by simp
 |k'::ks,x::xs,u::us,.cons r t,.cons p h=>by
  obtain⟨b,e,hb⟩:=p
  subst e
  cases r
  rw[List.any_cons,Bool.or_eq_true,aj0 t h]
  simp only[leqU,hb,decide_eq_true_eq,Option.some.injEq,HO.lst.injEq,List.mem_cons]
  exact⟨fun q=>q.imp (fun q=>(ahy q).symm) id,fun q=>q.imp (fun q=>by rw[q]) id⟩
noncomputable def rInL (K:PySem.W.Frag):R2:=fun x y H Q=>∃a p xs k ks,x=.ref a∧y=.ref p∧H a=some (.lst (k.map V.int))∧SqL K H p xs∧LsAt H ks xs∧(k∈ks→Q (.bl true) H)∧(k∉ks→Q (.bl false) H)
theorem op_inL {X:Cx} (hu:X.A.units+4+2 < cLine):OpR X (compareOp .In) (rInL X.K):=by
 intro pins s σ H x y v u Q I rx ry h
 obtain⟨a,p,xs,k,ks,rfl,rfl,ha,hq,hn,q⟩:=h
 cases rx
 cases ry
 obtain⟨its,r,pl,hz⟩:=I.list hq
 refine SeqAt.in_listAt (leqU H k) pl.isList (fun w hw=>amf I (by show X.A.units+1+2 < cLine;omega) ha r hn w (by simpa using hw)) ⟨.bl _,H,I,rfl,?_⟩
 rw[show its.toArray.any (leqU H k)=its.any (leqU H k) by simp]
 have hb:=aj0 (k:=k) r hn
 cases e:its.any (leqU H k) with
 |true=>exact q.1 (hb.mp e)
 |false=>exact q.2 fun z=>by rw[hb.mpr z] at e;cases e
theorem afz {X:Cx} {K:PySem.W.Frag} (h:X.K=K):CallR X (.type "list") (fun xs H Q=>∃p ys,xs=[.ref p]∧(SqL K H p ys∨SqT K H p ys)∧∀l,H l=none→Q (.ref l) (upd H l (.lst ys))):=h ▸ adl
end L2
set_option hygiene false in
local macro_rules| `(tactic|walk_at "wp")=> `(tactic|simp only[↓L2.rI0_ii, ↓L2.rI_ii, ↓L2.ex_int, ↓L2.ex_bl, ↓L2.ex_ref,L2.tSeq,L2.tNext,L2.tAsg,L2.gName,L2.tRet,L2.tDrop,L2.tIfS,L2.tIf,L2.tTest,L2.tB,L2.tOp,L2.tVar,L2.tVarM,L2.tC,L2.rI,L2.rI0,L2.tAnd,L2.tOr,L2.tNot,L2.tAndV,L2.tNotV,L2.tCallE,L2.tMethE,L2.tMakeE,L2.tCB,L2.tCons,L2.tNil,L2.tLst,L2.tTup,L2.rIxL,L2.rIxT,L2.rIx2,L2.rIn,L2.tFld,L2.sFld,L2.tRaise,L2.rEq,L2.rNe,L2.start,L2.CDiv,L2.CPow,L2.CMul,L2.kn_int,L2.kn_bl,L2.kn_str,L2.cxOf_K,L2.ap5,L2.apz,L2.ap0,L2.ap2,L2.rIxH,L2.anm,L2.ano,L2.aah,L2.apk,L2.HO.ins.injEq,L2.tTryN,L2.rCat,L2.rSlL,L2.tSl,L2.tPart,L2.anp,L2.ap3,L2.tForE,L2.iRng1,L2.iList,L2.iTup,L2.iEnum,L2.gTup,L2.gNil,L2.gCons,L2.tBM,L2.rAppend,L2.gSub,L2.rSetL,L2.tComp,L2.tYes,Option.join_some,Option.join_none,PySem.sizeLine_eq,Nat.reduceLeDiff,eq_self,decide_eq_true_eq,
 List.map_cons,List.map_nil,List.length_cons,List.length_nil,List.cons_append,List.nil_append,List.append_nil,List.replicate,Nat.reduceSub,Nat.reduceAdd,List.getElem?_cons_zero,List.getElem?_cons_succ,List.set_cons_zero,List.set_cons_succ,
 Option.some.injEq,List.cons.injEq,L2.V.int.injEq,L2.V.bl.injEq,L2.V.ref.injEq,L2.V.ty.injEq,L2.V.str.injEq,exists_eq_left,exists_eq_left',exists_and_left,exists_eq',exists_const,and_assoc,and_true,true_and, ↓reduceIte,Int.reduceLE,Int.reduceLT,Nat.reducePow,Int.reducePow,Int.reduceNeg,L2.na10,Nat.reduceLT,Int.reduceToNat,Int.reduceAdd,Int.reduceMul,Int.reduceSub,true_or,or_true,decide_true,decide_false])
namespace Pf
open PySem L2
noncomputable def top (i:Nat):Stmt:=PySem.Challenge.pw_frameland_k68_sheets_any_row.main.body.getD i (.Pass ⟨0,0,0,0⟩)
noncomputable abbrev afm:Stmt:=top 5
theorem agd:FnScope ["marks","hand","passed","place"] ["marks","hand"] (defScope afm):=⟨rfl,rfl,rfl,by decide+kernel,rfl,by decide+kernel,by decide+kernel⟩
noncomputable abbrev acq:Stmt:=inClass (top 7) 0
theorem ahz:FnScope ["self","boxes","holder"] ["self","boxes","holder"] (defScope acq):=⟨rfl,rfl,rfl,by decide+kernel,rfl,by decide+kernel,by decide+kernel⟩
noncomputable abbrev aa7:Stmt:=inClass (top 7) 1
theorem ae2:FnScope ["self"] ["self"] (defScope aa7):=⟨rfl,rfl,rfl,by decide+kernel,rfl,by decide+kernel,by decide+kernel⟩
noncomputable abbrev abr:Stmt:=inClass (top 7) 2
theorem afv:FnScope ["self"] ["self"] (defScope abr):=⟨rfl,rfl,rfl,by decide+kernel,rfl,by decide+kernel,by decide+kernel⟩
noncomputable abbrev acr:Stmt:=inClass (top 8) 0
theorem ah0:FnScope ["self","many"] ["self","many"] (defScope acr):=⟨rfl,rfl,rfl,by decide+kernel,rfl,by decide+kernel,by decide+kernel⟩
noncomputable abbrev abc:Stmt:=inClass (top 8) 1
theorem acv:FnScope ["self","place","sheet"] ["self"] (defScope abc):=⟨rfl,rfl,rfl,by decide+kernel,rfl,by decide+kernel,by decide+kernel⟩
noncomputable abbrev abh:Stmt:=inClass (top 8) 2
theorem adz:FnScope ["self","twin"] ["self"] (defScope abh):=⟨rfl,rfl,rfl,by decide+kernel,rfl,by decide+kernel,by decide+kernel⟩
noncomputable abbrev abi:Stmt:=inClass (top 8) 3
theorem afn:FnScope ["self"] ["self"] (defScope abi):=⟨rfl,rfl,rfl,by decide+kernel,rfl,by decide+kernel,by decide+kernel⟩
noncomputable abbrev ach:Stmt:=inClass (top 10) 0
theorem ag5:FnScope ["self","frames","slots","size"] ["self","frames","slots","size"] (defScope ach):=⟨rfl,rfl,rfl,by decide+kernel,rfl,by decide+kernel,by decide+kernel⟩
noncomputable abbrev ab9:Stmt:=inClass (top 10) 1
theorem ae3:FnScope ["self","sheet","holder","marks","way"] ["self","sheet","holder","marks"] (defScope ab9):=⟨rfl,rfl,rfl,by decide+kernel,rfl,by decide+kernel,by decide+kernel⟩
noncomputable abbrev aci:Stmt:=inClass (top 10) 2
theorem aei:FnScope ["self","slot","marks","coming","way"] ["self","slot","marks"] (defScope aci):=⟨rfl,rfl,rfl,by decide+kernel,rfl,by decide+kernel,by decide+kernel⟩
noncomputable abbrev acj:Stmt:=inClass (top 10) 3
theorem afj:FnScope ["self","spot","holder","sheet"] ["self","spot","holder"] (defScope acj):=⟨rfl,rfl,rfl,by decide+kernel,rfl,by decide+kernel,by decide+kernel⟩
noncomputable abbrev ab5:Stmt:=inClass (top 10) 4
theorem aev:FnScope ["self","spot","holder","sheet"] ["self","spot","holder"] (defScope ab5):=⟨rfl,rfl,rfl,by decide+kernel,rfl,by decide+kernel,by decide+kernel⟩
noncomputable abbrev abd:Stmt:=inClass (top 10) 5
theorem ado:FnScope ["self","spot","sheet"] ["self","spot"] (defScope abd):=⟨rfl,rfl,rfl,by decide+kernel,rfl,by decide+kernel,by decide+kernel⟩
noncomputable abbrev abt:Stmt:=inClass (top 10) 7
theorem aed:FnScope ["self","spot","sheet"] ["self","spot"] (defScope abt):=⟨rfl,rfl,rfl,by decide+kernel,rfl,by decide+kernel,by decide+kernel⟩
noncomputable abbrev abz:Stmt:=inClass (top 10) 9
theorem af0:FnScope ["self","frame","box","value"] ["self","frame","box","value"] (defScope abz):=⟨rfl,rfl,rfl,by decide+kernel,rfl,by decide+kernel,by decide+kernel⟩
noncomputable abbrev ack:Stmt:=inClass (top 10) 10
theorem acm:FnScope ["self","first_by_boxes","gone","spot","sheet","first"] ["self"] (defScope ack):=⟨rfl,rfl,rfl,by decide+kernel,rfl,by decide+kernel,by decide+kernel⟩
noncomputable abbrev aa8:Stmt:=inClass (top 10) 11
theorem ae4:FnScope ["self"] ["self"] (defScope aa8):=⟨rfl,rfl,rfl,by decide+kernel,rfl,by decide+kernel,by decide+kernel⟩
noncomputable abbrev ab0:Stmt:=inClass (top 10) 12
theorem af1:FnScope ["self"] ["self"] (defScope ab0):=⟨rfl,rfl,rfl,by decide+kernel,rfl,by decide+kernel,by decide+kernel⟩
noncomputable abbrev aa9:Stmt:=inClass (top 10) 14
theorem ab7:FnScope ["self","told","frame","sheet"] ["self"] (defScope aa9):=⟨rfl,rfl,rfl,by decide+kernel,rfl,by decide+kernel,by decide+kernel⟩
noncomputable abbrev abe:Stmt:=inClass (top 10) 15
theorem afg:FnScope ["self"] ["self"] (defScope abe):=⟨rfl,rfl,rfl,by decide+kernel,rfl,by decide+kernel,by decide+kernel⟩
noncomputable abbrev abu:Stmt:=inClass (top 10) 17
theorem aee:FnScope ["self","spot","spots"] ["self","spot"] (defScope abu):=⟨rfl,rfl,rfl,by decide+kernel,rfl,by decide+kernel,by decide+kernel⟩
noncomputable abbrev abj:Stmt:=inClass (top 10) 18
theorem ad0:FnScope ["self","frames"] ["self"] (defScope abj):=⟨rfl,rfl,rfl,by decide+kernel,rfl,by decide+kernel,by decide+kernel⟩
noncomputable abbrev abk:Stmt:=inClass (top 10) 19
theorem ac1:FnScope ["self","slot","sheet","frame"] ["self","slot"] (defScope abk):=⟨rfl,rfl,rfl,by decide+kernel,rfl,by decide+kernel,by decide+kernel⟩
noncomputable abbrev abl:Stmt:=inClass (top 10) 20
theorem ad1:FnScope ["self","spot","other","holder"] ["self","spot","other"] (defScope abl):=⟨rfl,rfl,rfl,by decide+kernel,rfl,by decide+kernel,by decide+kernel⟩
noncomputable abbrev abf:Stmt:=inClass (top 10) 21
theorem afh:FnScope ["self","spot"] ["self","spot"] (defScope abf):=⟨rfl,rfl,rfl,by decide+kernel,rfl,by decide+kernel,by decide+kernel⟩
noncomputable abbrev abm:Stmt:=inClass (top 10) 22
theorem ad2:FnScope ["self","frame","slot"] ["self","frame"] (defScope abm):=⟨rfl,rfl,rfl,by decide+kernel,rfl,by decide+kernel,by decide+kernel⟩
noncomputable abbrev abn:Stmt:=inClass (top 10) 23
theorem ac2:FnScope ["self","coming_from","marks","frame","choice"] ["self","coming_from","marks"] (defScope abn):=⟨rfl,rfl,rfl,by decide+kernel,rfl,by decide+kernel,by decide+kernel⟩
noncomputable abbrev ab1:Stmt:=inClass (top 10) 24
theorem adf:FnScope ["self","frame","coming_from","sheet","slot"] ["self","frame","coming_from"] (defScope ab1):=⟨rfl,rfl,rfl,by decide+kernel,rfl,by decide+kernel,by decide+kernel⟩
noncomputable abbrev abv:Stmt:=inClass (top 10) 25
theorem ac8:FnScope ["self","frame","coming_from","empty","twin"] ["self","frame","coming_from"] (defScope abv):=⟨rfl,rfl,rfl,by decide+kernel,rfl,by decide+kernel,by decide+kernel⟩
noncomputable abbrev aeo:Stmt:=top 12
theorem amg:FnScope ["_law_script","_law_k"] ["_law_script","_law_k"] (defScope aeo):=⟨rfl,rfl,rfl,by decide+kernel,rfl,by decide+kernel,by decide+kernel⟩
noncomputable abbrev aep:Stmt:=top 13
theorem agw:FnScope ["_law_found","_law_due","_law_k"] ["_law_found","_law_due"] (defScope aep):=⟨rfl,rfl,rfl,by decide+kernel,rfl,by decide+kernel,by decide+kernel⟩
noncomputable abbrev ad3:Stmt:=top 14
theorem akv:FnScope ["_law_where","_law_found","_law_one"] ["_law_where","_law_found","_law_one"] (defScope ad3):=⟨rfl,rfl,rfl,by decide+kernel,rfl,by decide+kernel,by decide+kernel⟩
noncomputable abbrev ad4:Stmt:=top 15
theorem adt:FnScope ["_law_sheets","_law_where","_law_one","_law_marks","_law_refused","_law_found","_law_full"] ["_law_sheets","_law_where","_law_one","_law_marks"] (defScope ad4):=⟨rfl,rfl,rfl,by decide+kernel,rfl,by decide+kernel,by decide+kernel⟩
noncomputable abbrev aeq:Stmt:=top 16
theorem aiv:FnScope ["_law_sheets","_law_where","_law_slot","_law_marks","_law_one"] ["_law_sheets","_law_where","_law_slot","_law_marks"] (defScope aeq):=⟨rfl,rfl,rfl,by decide+kernel,rfl,by decide+kernel,by decide+kernel⟩
noncomputable abbrev aer:Stmt:=top 17
theorem amh:FnScope ["_law_where","_law_spot"] ["_law_where","_law_spot"] (defScope aer):=⟨rfl,rfl,rfl,by decide+kernel,rfl,by decide+kernel,by decide+kernel⟩
noncomputable abbrev ad5:Stmt:=top 18
theorem af2:FnScope ["_law_where","_law_seen","_law_one"] ["_law_where"] (defScope ad5):=⟨rfl,rfl,rfl,by decide+kernel,rfl,by decide+kernel,by decide+kernel⟩
noncomputable abbrev adg:Stmt:=top 19
theorem adh:FnScope ["_law_sheets","_law_where","_law_moves","_law_move","_law_rows","_law_gone","_law_kept"] ["_law_sheets","_law_where"] (defScope adg):=⟨rfl,rfl,rfl,by decide+kernel,rfl,by decide+kernel,by decide+kernel⟩
noncomputable abbrev adi:Stmt:=top 20
theorem ajb:FnScope ["_law_row"] ["_law_row"] (defScope adi):=⟨rfl,rfl,rfl,by decide+kernel,rfl,by decide+kernel,by decide+kernel⟩
noncomputable abbrev aes:Stmt:=top 21
theorem ac9:FnScope ["_law_sheets","_law_where","_law_frames","_law_slots","_law_k","_law_one","_law_twin","_law_many"] ["_law_sheets","_law_where"] (defScope aes):=⟨rfl,rfl,rfl,by decide+kernel,rfl,by decide+kernel,by decide+kernel⟩
noncomputable abbrev ac3:Stmt:=top 22
theorem ae5:FnScope ["_law_sheets","_law_where","_law_spot","_law_way","_law_number_here","_law_holder","_law_one"] ["_law_sheets","_law_where","_law_spot","_law_way","_law_number_here","_law_holder"] (defScope ac3):=⟨rfl,rfl,rfl,by decide+kernel,rfl,by decide+kernel,by decide+kernel⟩
noncomputable abbrev adj:Stmt:=top 23
theorem agx:FnScope ["_law_digits","_law_cell_here","_law_k","_law_one"] ["_law_digits","_law_cell_here","_law_k"] (defScope adj):=⟨rfl,rfl,rfl,by decide+kernel,rfl,by decide+kernel,by decide+kernel⟩
noncomputable abbrev aet:Stmt:=top 24
theorem acs:FnScope ["_law_sheets","_law_where","_law_number_here","_law_k","_law_marks","_law_rest","_law_sheet","_law_holder","_law_way","_law_full","_law_some","_law_spots","_law_at"] ["_law_sheets","_law_where","_law_number_here","_law_k"] (defScope aet):=⟨rfl,rfl,rfl,by decide+kernel,rfl,by decide+kernel,by decide+kernel⟩
noncomputable abbrev ajc:Stmt:=top 25
theorem aef:FnScope ["_law_script","_law_most","_law_frames","_law_slots","_law_sheets","_law_where","_law_ahead","_law_due","_law_k","_law_cell_here","_law_number_here"] ["_law_script"] (defScope ajc):=⟨rfl,rfl,rfl,by decide+kernel,rfl,by decide+kernel,by decide+kernel⟩
set_option genInjectivity false in
structure Adr where
 C_Sheet:Addr
 C_Spots:Addr
 C_Sheets:Addr
 C_FrameError:Addr
 C_NoRoom:Addr
structure Txt (K:PySem.W.Frag) (mg:Str→Option Value) (A:Adr):Prop where
 b_any:mg "any"=none
 b_bool:mg "bool"=none
 b_enumerate:mg "enumerate"=none
 b_int:mg "int"=none
 b_isinstance:mg "isinstance"=none
 b_len:mg "len"=none
 b_list:mg "list"=none
 b_range:mg "range"=none
 b_sorted:mg "sorted"=none
 b_str:mg "str"=none
 b_tuple:mg "tuple"=none
 r_swept:Raw K mg "swept" "swept" afm ["marks","hand"] []
 r_l_cell:Raw K mg "_law_cell" "_law_cell" aeo ["_law_script","_law_k"] []
 r_l_like:Raw K mg "_law_like" "_law_like" aep ["_law_found","_law_due"] []
 r_l_moved:Raw K mg "_law_moved" "_law_moved" ad3 ["_law_where","_law_found","_law_one"] []
 r_l_fresh:Raw K mg "_law_fresh" "_law_fresh" ad4 ["_law_sheets","_law_where","_law_one","_law_marks"] []
 r_l_back:Raw K mg "_law_back" "_law_back" aeq ["_law_sheets","_law_where","_law_slot","_law_marks"] []
 r_l_rank:Raw K mg "_law_rank" "_law_rank" aer ["_law_where","_law_spot"] []
 r_l_alike:Raw K mg "_law_alike" "_law_alike" ad5 ["_law_where"] []
 r_l_folded:Raw K mg "_law_folded" "_law_folded" adg ["_law_sheets","_law_where"] []
 r_l_copied:Raw K mg "_law_copied" "_law_copied" adi ["_law_row"] []
 r_l_true:Raw K mg "_law_true" "_law_true" aes ["_law_sheets","_law_where"] []
 r_l_changed:Raw K mg "_law_changed" "_law_changed" ac3 ["_law_sheets","_law_where","_law_spot","_law_way","_law_number_here","_law_holder"] []
 r_l_number:Raw K mg "_law_number" "_law_number" adj ["_law_digits","_law_cell_here","_law_k"] []
 r_l_deed:Raw K mg "_law_deed" "_law_deed" aet ["_law_sheets","_law_where","_law_number_here","_law_k"] []
 cl_Sheet:Cls K A.C_Sheet
 na_Sheet_boxes:NoAttr K A.C_Sheet "boxes"
 na_Sheet_holders:NoAttr K A.C_Sheet "holders"
 r_Sheet_init:RawI K mg "Sheet" A.C_Sheet "Sheet.__init__" acq ["self","boxes","holder"] []
 r_Sheet_told_holders:RawM K A.C_Sheet "told_holders" "Sheet.told_holders" aa7 ["self"] []
 r_Sheet_is_banked:RawM K A.C_Sheet "is_banked" "Sheet.is_banked" abr ["self"] []
 cl_Spots:Cls K A.C_Spots
 na_Spots_lying:NoAttr K A.C_Spots "lying"
 na_Spots_twins:NoAttr K A.C_Spots "twins"
 r_Spots_init:RawI K mg "Spots" A.C_Spots "Spots.__init__" acr ["self","many"] []
 r_Spots_first_empty:RawM K A.C_Spots "first_empty" "Spots.first_empty" abc ["self"] []
 r_Spots_first_twin:RawM K A.C_Spots "first_twin" "Spots.first_twin" abh ["self"] []
 r_Spots_live_count:RawM K A.C_Spots "live_count" "Spots.live_count" abi ["self"] []
 cl_Sheets:Cls K A.C_Sheets
 na_Sheets_size:NoAttr K A.C_Sheets "size"
 na_Sheets_frames:NoAttr K A.C_Sheets "frames"
 na_Sheets_slots:NoAttr K A.C_Sheets "slots"
 na_Sheets_hand:NoAttr K A.C_Sheets "hand"
 na_Sheets_gone_out:NoAttr K A.C_Sheets "gone_out"
 na_Sheets_gone_astray:NoAttr K A.C_Sheets "gone_astray"
 na_Sheets_come_back:NoAttr K A.C_Sheets "come_back"
 r_Sheets_init:RawI K mg "Sheets" A.C_Sheets "Sheets.__init__" ach ["self","frames","slots","size"] []
 r_Sheets_fresh:RawM K A.C_Sheets "fresh" "Sheets.fresh" ab9 ["self","sheet","holder","marks"] []
 r_Sheets_back:RawM K A.C_Sheets "back" "Sheets.back" aci ["self","slot","marks"] []
 r_Sheets_hold:RawM K A.C_Sheets "hold" "Sheets.hold" acj ["self","spot","holder"] []
 r_Sheets_let_go:RawM K A.C_Sheets "let_go" "Sheets.let_go" ab5 ["self","spot","holder"] []
 r_Sheets_holders_of:RawM K A.C_Sheets "holders_of" "Sheets.holders_of" abd ["self","spot"] []
 r_Sheets_sheet_at:RawM K A.C_Sheets "sheet_at" "Sheets.sheet_at" abt ["self","spot"] []
 r_Sheets_set_box:RawM K A.C_Sheets "set_box" "Sheets.set_box" abz ["self","frame","box","value"] []
 r_Sheets_fold:RawM K A.C_Sheets "fold" "Sheets.fold" ack ["self"] []
 r_Sheets_live_sheets:RawM K A.C_Sheets "live_sheets" "Sheets.live_sheets" aa8 ["self"] []
 r_Sheets_is_full:RawM K A.C_Sheets "is_full" "Sheets.is_full" ab0 ["self"] []
 r_Sheets_told_frames:RawM K A.C_Sheets "told_frames" "Sheets.told_frames" aa9 ["self"] []
 r_Sheets_told_slots:RawM K A.C_Sheets "told_slots" "Sheets.told_slots" abe ["self"] []
 r_Sheets_lying_at:RawM K A.C_Sheets "lying_at" "Sheets.lying_at" abu ["self","spot"] []
 r_Sheets_all_spots:RawM K A.C_Sheets "all_spots" "Sheets.all_spots" abj ["self"] []
 r_Sheets_told_slot:RawM K A.C_Sheets "told_slot" "Sheets.told_slot" abk ["self","slot"] []
 r_Sheets_hand_over:RawM K A.C_Sheets "hand_over" "Sheets.hand_over" abl ["self","spot","other"] []
 r_Sheets_make_empty:RawM K A.C_Sheets "make_empty" "Sheets.make_empty" abf ["self","spot"] []
 r_Sheets_lose_twin:RawM K A.C_Sheets "lose_twin" "Sheets.lose_twin" abm ["self","frame"] []
 r_Sheets_frame_for:RawM K A.C_Sheets "frame_for" "Sheets.frame_for" abn ["self","coming_from","marks"] []
 r_Sheets_put_out:RawM K A.C_Sheets "put_out" "Sheets.put_out" ab1 ["self","frame","coming_from"] []
 r_Sheets_slot_for:RawM K A.C_Sheets "slot_for" "Sheets.slot_for" abv ["self","frame","coming_from"] []
 m_FrameError:∃u,mg "FrameError"=some u∧RelV (.ref A.C_FrameError) u
 m_NoRoom:∃u,mg "NoRoom"=some u∧RelV (.ref A.C_NoRoom) u
 h_NoRoom:XH K mg "NoRoom" A.C_NoRoom
 x_NoRoom:XC K mg "NoRoom" A.C_NoRoom
 sub_NoRoom_NoRoom:XSub K A.C_NoRoom A.C_NoRoom
 r_law:∃f fd,mg "law"=some (.ref f)∧Fun K "law" "law" ajc f fd∧∀(s:Shared) (u:Value),BindsTo s fd ⟨[u],[]⟩ [("_law_script",u)]
theorem el1 {P:List Value→Prop} (h:∀a0,P [a0]):∀us:List Value,us.length=1→P us
 |[a0],_=>h a0
theorem el2 {P:List Value→Prop} (h:∀a0 a1,P [a0,a1]):∀us:List Value,us.length=2→P us
 |[a0,a1],_=>h a0 a1
theorem el3 {P:List Value→Prop} (h:∀a0 a1 a2,P [a0,a1,a2]):∀us:List Value,us.length=3→P us
 |[a0,a1,a2],_=>h a0 a1 a2
theorem el4 {P:List Value→Prop} (h:∀a0 a1 a2 a3,P [a0,a1,a2,a3]):∀us:List Value,us.length=4→P us
 |[a0,a1,a2,a3],_=>h a0 a1 a2 a3
theorem el6 {P:List Value→Prop} (h:∀a0 a1 a2 a3 a4 a5,P [a0,a1,a2,a3,a4,a5]):∀us:List Value,us.length=6→P us
 |[a0,a1,a2,a3,a4,a5],_=>h a0 a1 a2 a3 a4 a5
theorem txt_mk {K:PySem.W.Frag} {h:Heap} {mg:Str→Option Value} (X:K.In h) (G:h.Ns mainGlobals mg)
 {C_NoRoom:Addr}
 {C_FrameError:Addr}
 {C_Sheets:Addr}
 {C_Spots:Addr}
 {C_Sheet:Addr}
 {f_0:Addr} {od_0 an_0:Option Addr} {sl_0:Array (Option Value)} {oc_0 kV_0 dc_0 pm_0 cd_0 ct_0:Value}
 {f_1:Addr} {od_1 an_1:Option Addr} {sl_1:Array (Option Value)} {oc_1 kV_1 dc_1 pm_1 cd_1 ct_1:Value}
 {f_2:Addr} {od_2 an_2:Option Addr} {sl_2:Array (Option Value)} {oc_2 kV_2 dc_2 pm_2 cd_2 ct_2:Value}
 {f_3:Addr} {od_3 an_3:Option Addr} {sl_3:Array (Option Value)} {oc_3 kV_3 dc_3 pm_3 cd_3 ct_3:Value}
 {f_4:Addr} {od_4 an_4:Option Addr} {sl_4:Array (Option Value)} {oc_4 kV_4 dc_4 pm_4 cd_4 ct_4:Value}
 {f_5:Addr} {od_5 an_5:Option Addr} {sl_5:Array (Option Value)} {oc_5 kV_5 dc_5 pm_5 cd_5 ct_5:Value}
 {f_6:Addr} {od_6 an_6:Option Addr} {sl_6:Array (Option Value)} {oc_6 kV_6 dc_6 pm_6 cd_6 ct_6:Value}
 {f_7:Addr} {od_7 an_7:Option Addr} {sl_7:Array (Option Value)} {oc_7 kV_7 dc_7 pm_7 cd_7 ct_7:Value}
 {f_8:Addr} {od_8 an_8:Option Addr} {sl_8:Array (Option Value)} {oc_8 kV_8 dc_8 pm_8 cd_8 ct_8:Value}
 {f_9:Addr} {od_9 an_9:Option Addr} {sl_9:Array (Option Value)} {oc_9 kV_9 dc_9 pm_9 cd_9 ct_9:Value}
 {f_10:Addr} {od_10 an_10:Option Addr} {sl_10:Array (Option Value)} {oc_10 kV_10 dc_10 pm_10 cd_10 ct_10:Value}
 {f_11:Addr} {od_11 an_11:Option Addr} {sl_11:Array (Option Value)} {oc_11 kV_11 dc_11 pm_11 cd_11 ct_11:Value}
 {f_12:Addr} {od_12 an_12:Option Addr} {sl_12:Array (Option Value)} {oc_12 kV_12 dc_12 pm_12 cd_12 ct_12:Value}
 {f_13:Addr} {od_13 an_13:Option Addr} {sl_13:Array (Option Value)} {oc_13 kV_13 dc_13 pm_13 cd_13 ct_13:Value}
 {f_14:Addr} {od_14 an_14:Option Addr} {sl_14:Array (Option Value)} {oc_14 kV_14 dc_14 pm_14 cd_14 ct_14:Value}
 {f_15:Addr} {od_15 an_15:Option Addr} {sl_15:Array (Option Value)} {oc_15 kV_15 dc_15 pm_15 cd_15 ct_15:Value}
 {f_16:Addr} {od_16 an_16:Option Addr} {sl_16:Array (Option Value)} {oc_16 kV_16 dc_16 pm_16 cd_16 ct_16:Value}
 {f_17:Addr} {od_17 an_17:Option Addr} {sl_17:Array (Option Value)} {oc_17 kV_17 dc_17 pm_17 cd_17 ct_17:Value}
 {f_18:Addr} {od_18 an_18:Option Addr} {sl_18:Array (Option Value)} {oc_18 kV_18 dc_18 pm_18 cd_18 ct_18:Value}
 {f_19:Addr} {od_19 an_19:Option Addr} {sl_19:Array (Option Value)} {oc_19 kV_19 dc_19 pm_19 cd_19 ct_19:Value}
 {f_20:Addr} {od_20 an_20:Option Addr} {sl_20:Array (Option Value)} {oc_20 kV_20 dc_20 pm_20 cd_20 ct_20:Value}
 {f_21:Addr} {od_21 an_21:Option Addr} {sl_21:Array (Option Value)} {oc_21 kV_21 dc_21 pm_21 cd_21 ct_21:Value}
 {f_22:Addr} {od_22 an_22:Option Addr} {sl_22:Array (Option Value)} {oc_22 kV_22 dc_22 pm_22 cd_22 ct_22:Value}
 {f_23:Addr} {od_23 an_23:Option Addr} {sl_23:Array (Option Value)} {oc_23 kV_23 dc_23 pm_23 cd_23 ct_23:Value}
 {f_24:Addr} {od_24 an_24:Option Addr} {sl_24:Array (Option Value)} {oc_24 kV_24 dc_24 pm_24 cd_24 ct_24:Value}
 {f_25:Addr} {od_25 an_25:Option Addr} {sl_25:Array (Option Value)} {oc_25 kV_25 dc_25 pm_25 cd_25 ct_25:Value}
 {f_26:Addr} {od_26 an_26:Option Addr} {sl_26:Array (Option Value)} {oc_26 kV_26 dc_26 pm_26 cd_26 ct_26:Value}
 {f_27:Addr} {od_27 an_27:Option Addr} {sl_27:Array (Option Value)} {oc_27 kV_27 dc_27 pm_27 cd_27 ct_27:Value}
 {f_28:Addr} {od_28 an_28:Option Addr} {sl_28:Array (Option Value)} {oc_28 kV_28 dc_28 pm_28 cd_28 ct_28:Value}
 {f_29:Addr} {od_29 an_29:Option Addr} {sl_29:Array (Option Value)} {oc_29 kV_29 dc_29 pm_29 cd_29 ct_29:Value}
 {f_30:Addr} {od_30 an_30:Option Addr} {sl_30:Array (Option Value)} {oc_30 kV_30 dc_30 pm_30 cd_30 ct_30:Value}
 {f_31:Addr} {od_31 an_31:Option Addr} {sl_31:Array (Option Value)} {oc_31 kV_31 dc_31 pm_31 cd_31 ct_31:Value}
 {f_32:Addr} {od_32 an_32:Option Addr} {sl_32:Array (Option Value)} {oc_32 kV_32 dc_32 pm_32 cd_32 ct_32:Value}
 {f_33:Addr} {od_33 an_33:Option Addr} {sl_33:Array (Option Value)} {oc_33 kV_33 dc_33 pm_33 cd_33 ct_33:Value}
 {f_34:Addr} {od_34 an_34:Option Addr} {sl_34:Array (Option Value)} {oc_34 kV_34 dc_34 pm_34 cd_34 ct_34:Value}
 {f_35:Addr} {od_35 an_35:Option Addr} {sl_35:Array (Option Value)} {oc_35 kV_35 dc_35 pm_35 cd_35 ct_35:Value}
 {f_36:Addr} {od_36 an_36:Option Addr} {sl_36:Array (Option Value)} {oc_36 kV_36 dc_36 pm_36 cd_36 ct_36:Value}
 {f_37:Addr} {od_37 an_37:Option Addr} {sl_37:Array (Option Value)} {oc_37 kV_37 dc_37 pm_37 cd_37 ct_37:Value}
 {f_38:Addr} {od_38 an_38:Option Addr} {sl_38:Array (Option Value)} {oc_38 kV_38 dc_38 pm_38 cd_38 ct_38:Value}
 {f_39:Addr} {od_39 an_39:Option Addr} {sl_39:Array (Option Value)} {oc_39 kV_39 dc_39 pm_39 cd_39 ct_39:Value}
 {f_40:Addr} {od_40 an_40:Option Addr} {sl_40:Array (Option Value)} {oc_40 kV_40 dc_40 pm_40 cd_40 ct_40:Value}
 {f_41:Addr} {od_41 an_41:Option Addr} {sl_41:Array (Option Value)} {oc_41 kV_41 dc_41 pm_41 cd_41 ct_41:Value}
 {f_42:Addr} {od_42 an_42:Option Addr} {sl_42:Array (Option Value)} {oc_42 kV_42 dc_42 pm_42 cd_42 ct_42:Value}
 {cd_NoRoom:ClassData}
 {f_43:Addr} {od_43 an_43:Option Addr} {sl_43:Array (Option Value)} {oc_43 kV_43 dc_43 pm_43 cd_43 ct_43:Value}
 (a_NoRoom:PySem.W.nsIn K mainGlobals "NoRoom"=some (some (.ref C_NoRoom)))
 (a_FrameError:PySem.W.nsIn K mainGlobals "FrameError"=some (some (.ref C_FrameError)))
 (a_Sheets:PySem.W.nsIn K mainGlobals "Sheets"=some (some (.ref C_Sheets)))
 (a_Spots:PySem.W.nsIn K mainGlobals "Spots"=some (some (.ref C_Spots)))
 (a_Sheet:PySem.W.nsIn K mainGlobals "Sheet"=some (some (.ref C_Sheet)))
 (zb_any:PySem.W.nsIn K mainGlobals "any"=some none)
 (zb_bool:PySem.W.nsIn K mainGlobals "bool"=some none)
 (zb_enumerate:PySem.W.nsIn K mainGlobals "enumerate"=some none)
 (zb_int:PySem.W.nsIn K mainGlobals "int"=some none)
 (zb_isinstance:PySem.W.nsIn K mainGlobals "isinstance"=some none)
 (zb_len:PySem.W.nsIn K mainGlobals "len"=some none)
 (zb_list:PySem.W.nsIn K mainGlobals "list"=some none)
 (zb_range:PySem.W.nsIn K mainGlobals "range"=some none)
 (zb_sorted:PySem.W.nsIn K mainGlobals "sorted"=some none)
 (zb_str:PySem.W.nsIn K mainGlobals "str"=some none)
 (zb_tuple:PySem.W.nsIn K mainGlobals "tuple"=some none)
 (a_0_:PySem.W.nsIn K mainGlobals "swept"=some (some (.ref f_0)))
 (l_0_:K.lookup f_0=some ⟨oc_0,od_0,.func (PySem.W.fnOf "swept" "swept" (defArgs afm) (defBody afm) (defScope afm) .none kV_0 dc_0 pm_0 an_0 cd_0 ct_0),sl_0⟩)
 (c_0_:PySem.W.codeIn K cd_0 "swept"=true)
 (k_0_:PySem.W.keepIn K (.ref f_0)=true)
 (a_1_:PySem.W.nsIn K mainGlobals "_law_cell"=some (some (.ref f_1)))
 (l_1_:K.lookup f_1=some ⟨oc_1,od_1,.func (PySem.W.fnOf "_law_cell" "_law_cell" (defArgs aeo) (defBody aeo) (defScope aeo) .none kV_1 dc_1 pm_1 an_1 cd_1 ct_1),sl_1⟩)
 (c_1_:PySem.W.codeIn K cd_1 "_law_cell"=true)
 (k_1_:PySem.W.keepIn K (.ref f_1)=true)
 (a_2_:PySem.W.nsIn K mainGlobals "_law_like"=some (some (.ref f_2)))
 (l_2_:K.lookup f_2=some ⟨oc_2,od_2,.func (PySem.W.fnOf "_law_like" "_law_like" (defArgs aep) (defBody aep) (defScope aep) .none kV_2 dc_2 pm_2 an_2 cd_2 ct_2),sl_2⟩)
 (c_2_:PySem.W.codeIn K cd_2 "_law_like"=true)
 (k_2_:PySem.W.keepIn K (.ref f_2)=true)
 (a_3_:PySem.W.nsIn K mainGlobals "_law_moved"=some (some (.ref f_3)))
 (l_3_:K.lookup f_3=some ⟨oc_3,od_3,.func (PySem.W.fnOf "_law_moved" "_law_moved" (defArgs ad3) (defBody ad3) (defScope ad3) .none kV_3 dc_3 pm_3 an_3 cd_3 ct_3),sl_3⟩)
 (c_3_:PySem.W.codeIn K cd_3 "_law_moved"=true)
 (k_3_:PySem.W.keepIn K (.ref f_3)=true)
 (a_4_:PySem.W.nsIn K mainGlobals "_law_fresh"=some (some (.ref f_4)))
 (l_4_:K.lookup f_4=some ⟨oc_4,od_4,.func (PySem.W.fnOf "_law_fresh" "_law_fresh" (defArgs ad4) (defBody ad4) (defScope ad4) .none kV_4 dc_4 pm_4 an_4 cd_4 ct_4),sl_4⟩)
 (c_4_:PySem.W.codeIn K cd_4 "_law_fresh"=true)
 (k_4_:PySem.W.keepIn K (.ref f_4)=true)
 (a_5_:PySem.W.nsIn K mainGlobals "_law_back"=some (some (.ref f_5)))
 (l_5_:K.lookup f_5=some ⟨oc_5,od_5,.func (PySem.W.fnOf "_law_back" "_law_back" (defArgs aeq) (defBody aeq) (defScope aeq) .none kV_5 dc_5 pm_5 an_5 cd_5 ct_5),sl_5⟩)
 (c_5_:PySem.W.codeIn K cd_5 "_law_back"=true)
 (k_5_:PySem.W.keepIn K (.ref f_5)=true)
 (a_6_:PySem.W.nsIn K mainGlobals "_law_rank"=some (some (.ref f_6)))
 (l_6_:K.lookup f_6=some ⟨oc_6,od_6,.func (PySem.W.fnOf "_law_rank" "_law_rank" (defArgs aer) (defBody aer) (defScope aer) .none kV_6 dc_6 pm_6 an_6 cd_6 ct_6),sl_6⟩)
 (c_6_:PySem.W.codeIn K cd_6 "_law_rank"=true)
 (k_6_:PySem.W.keepIn K (.ref f_6)=true)
 (a_7_:PySem.W.nsIn K mainGlobals "_law_alike"=some (some (.ref f_7)))
 (l_7_:K.lookup f_7=some ⟨oc_7,od_7,.func (PySem.W.fnOf "_law_alike" "_law_alike" (defArgs ad5) (defBody ad5) (defScope ad5) .none kV_7 dc_7 pm_7 an_7 cd_7 ct_7),sl_7⟩)
 (c_7_:PySem.W.codeIn K cd_7 "_law_alike"=true)
 (k_7_:PySem.W.keepIn K (.ref f_7)=true)
 (a_8_:PySem.W.nsIn K mainGlobals "_law_folded"=some (some (.ref f_8)))
 (l_8_:K.lookup f_8=some ⟨oc_8,od_8,.func (PySem.W.fnOf "_law_folded" "_law_folded" (defArgs adg) (defBody adg) (defScope adg) .none kV_8 dc_8 pm_8 an_8 cd_8 ct_8),sl_8⟩)
 (c_8_:PySem.W.codeIn K cd_8 "_law_folded"=true)
 (k_8_:PySem.W.keepIn K (.ref f_8)=true)
 (a_9_:PySem.W.nsIn K mainGlobals "_law_copied"=some (some (.ref f_9)))
 (l_9_:K.lookup f_9=some ⟨oc_9,od_9,.func (PySem.W.fnOf "_law_copied" "_law_copied" (defArgs adi) (defBody adi) (defScope adi) .none kV_9 dc_9 pm_9 an_9 cd_9 ct_9),sl_9⟩)
 (c_9_:PySem.W.codeIn K cd_9 "_law_copied"=true)
 (k_9_:PySem.W.keepIn K (.ref f_9)=true)
 (a_10_:PySem.W.nsIn K mainGlobals "_law_true"=some (some (.ref f_10)))
 (l_10_:K.lookup f_10=some ⟨oc_10,od_10,.func (PySem.W.fnOf "_law_true" "_law_true" (defArgs aes) (defBody aes) (defScope aes) .none kV_10 dc_10 pm_10 an_10 cd_10 ct_10),sl_10⟩)
 (c_10_:PySem.W.codeIn K cd_10 "_law_true"=true)
 (k_10_:PySem.W.keepIn K (.ref f_10)=true)
 (a_11_:PySem.W.nsIn K mainGlobals "_law_changed"=some (some (.ref f_11)))
 (l_11_:K.lookup f_11=some ⟨oc_11,od_11,.func (PySem.W.fnOf "_law_changed" "_law_changed" (defArgs ac3) (defBody ac3) (defScope ac3) .none kV_11 dc_11 pm_11 an_11 cd_11 ct_11),sl_11⟩)
 (c_11_:PySem.W.codeIn K cd_11 "_law_changed"=true)
 (k_11_:PySem.W.keepIn K (.ref f_11)=true)
 (a_12_:PySem.W.nsIn K mainGlobals "_law_number"=some (some (.ref f_12)))
 (l_12_:K.lookup f_12=some ⟨oc_12,od_12,.func (PySem.W.fnOf "_law_number" "_law_number" (defArgs adj) (defBody adj) (defScope adj) .none kV_12 dc_12 pm_12 an_12 cd_12 ct_12),sl_12⟩)
 (c_12_:PySem.W.codeIn K cd_12 "_law_number"=true)
 (k_12_:PySem.W.keepIn K (.ref f_12)=true)
 (a_13_:PySem.W.nsIn K mainGlobals "_law_deed"=some (some (.ref f_13)))
 (l_13_:K.lookup f_13=some ⟨oc_13,od_13,.func (PySem.W.fnOf "_law_deed" "_law_deed" (defArgs aet) (defBody aet) (defScope aet) .none kV_13 dc_13 pm_13 an_13 cd_13 ct_13),sl_13⟩)
 (c_13_:PySem.W.codeIn K cd_13 "_law_deed"=true)
 (k_13_:PySem.W.keepIn K (.ref f_13)=true)
 (pg_Sheet:PySem.W.plainGet K C_Sheet Str.empty=true)
 (hd_Sheet:PySem.W.hasDictIn K C_Sheet=true)
 (po_Sheet:PySem.W.plainOver K C_Sheet=true)
 (sa_Sheet:PySem.W.findIn K (.ref C_Sheet) "__setattr__"=some (some (.builtin "object.__setattr__")))
 (zn_Sheet_boxes:PySem.W.findIn K (.ref C_Sheet) "boxes"=some none)
 (zn_Sheet_holders:PySem.W.findIn K (.ref C_Sheet) "holders"=some none)
 (mk_Sheet:PySem.W.makesIn K C_Sheet=true)
 (kc_Sheet:PySem.W.keepIn K (.ref C_Sheet)=true)
 (a_14_:PySem.W.findIn K (.ref C_Sheet) "__init__"=some (some (.ref f_14)))
 (i_14_:PySem.W.isFn K (.ref f_14)=true)
 (l_14_:K.lookup f_14=some ⟨oc_14,od_14,.func (PySem.W.fnOf "__init__" "Sheet.__init__" (defArgs acq) (defBody acq) (defScope acq) .none kV_14 dc_14 pm_14 an_14 cd_14 ct_14),sl_14⟩)
 (c_14_:PySem.W.codeIn K cd_14 "Sheet.__init__"=true)
 (k_14_:PySem.W.keepIn K (.ref f_14)=true)
 (a_15_:PySem.W.findIn K (.ref C_Sheet) "told_holders"=some (some (.ref f_15)))
 (i_15_:PySem.W.isFn K (.ref f_15)=true)
 (l_15_:K.lookup f_15=some ⟨oc_15,od_15,.func (PySem.W.fnOf "told_holders" "Sheet.told_holders" (defArgs aa7) (defBody aa7) (defScope aa7) .none kV_15 dc_15 pm_15 an_15 cd_15 ct_15),sl_15⟩)
 (c_15_:PySem.W.codeIn K cd_15 "Sheet.told_holders"=true)
 (k_15_:PySem.W.keepIn K (.ref f_15)=true)
 (a_16_:PySem.W.findIn K (.ref C_Sheet) "is_banked"=some (some (.ref f_16)))
 (i_16_:PySem.W.isFn K (.ref f_16)=true)
 (l_16_:K.lookup f_16=some ⟨oc_16,od_16,.func (PySem.W.fnOf "is_banked" "Sheet.is_banked" (defArgs abr) (defBody abr) (defScope abr) .none kV_16 dc_16 pm_16 an_16 cd_16 ct_16),sl_16⟩)
 (c_16_:PySem.W.codeIn K cd_16 "Sheet.is_banked"=true)
 (k_16_:PySem.W.keepIn K (.ref f_16)=true)
 (pg_Spots:PySem.W.plainGet K C_Spots Str.empty=true)
 (hd_Spots:PySem.W.hasDictIn K C_Spots=true)
 (po_Spots:PySem.W.plainOver K C_Spots=true)
 (sa_Spots:PySem.W.findIn K (.ref C_Spots) "__setattr__"=some (some (.builtin "object.__setattr__")))
 (zn_Spots_lying:PySem.W.findIn K (.ref C_Spots) "lying"=some none)
 (zn_Spots_twins:PySem.W.findIn K (.ref C_Spots) "twins"=some none)
 (mk_Spots:PySem.W.makesIn K C_Spots=true)
 (kc_Spots:PySem.W.keepIn K (.ref C_Spots)=true)
 (a_17_:PySem.W.findIn K (.ref C_Spots) "__init__"=some (some (.ref f_17)))
 (i_17_:PySem.W.isFn K (.ref f_17)=true)
 (l_17_:K.lookup f_17=some ⟨oc_17,od_17,.func (PySem.W.fnOf "__init__" "Spots.__init__" (defArgs acr) (defBody acr) (defScope acr) .none kV_17 dc_17 pm_17 an_17 cd_17 ct_17),sl_17⟩)
 (c_17_:PySem.W.codeIn K cd_17 "Spots.__init__"=true)
 (k_17_:PySem.W.keepIn K (.ref f_17)=true)
 (a_18_:PySem.W.findIn K (.ref C_Spots) "first_empty"=some (some (.ref f_18)))
 (i_18_:PySem.W.isFn K (.ref f_18)=true)
 (l_18_:K.lookup f_18=some ⟨oc_18,od_18,.func (PySem.W.fnOf "first_empty" "Spots.first_empty" (defArgs abc) (defBody abc) (defScope abc) .none kV_18 dc_18 pm_18 an_18 cd_18 ct_18),sl_18⟩)
 (c_18_:PySem.W.codeIn K cd_18 "Spots.first_empty"=true)
 (k_18_:PySem.W.keepIn K (.ref f_18)=true)
 (a_19_:PySem.W.findIn K (.ref C_Spots) "first_twin"=some (some (.ref f_19)))
 (i_19_:PySem.W.isFn K (.ref f_19)=true)
 (l_19_:K.lookup f_19=some ⟨oc_19,od_19,.func (PySem.W.fnOf "first_twin" "Spots.first_twin" (defArgs abh) (defBody abh) (defScope abh) .none kV_19 dc_19 pm_19 an_19 cd_19 ct_19),sl_19⟩)
 (c_19_:PySem.W.codeIn K cd_19 "Spots.first_twin"=true)
 (k_19_:PySem.W.keepIn K (.ref f_19)=true)
 (a_20_:PySem.W.findIn K (.ref C_Spots) "live_count"=some (some (.ref f_20)))
 (i_20_:PySem.W.isFn K (.ref f_20)=true)
 (l_20_:K.lookup f_20=some ⟨oc_20,od_20,.func (PySem.W.fnOf "live_count" "Spots.live_count" (defArgs abi) (defBody abi) (defScope abi) .none kV_20 dc_20 pm_20 an_20 cd_20 ct_20),sl_20⟩)
 (c_20_:PySem.W.codeIn K cd_20 "Spots.live_count"=true)
 (k_20_:PySem.W.keepIn K (.ref f_20)=true)
 (pg_Sheets:PySem.W.plainGet K C_Sheets Str.empty=true)
 (hd_Sheets:PySem.W.hasDictIn K C_Sheets=true)
 (po_Sheets:PySem.W.plainOver K C_Sheets=true)
 (sa_Sheets:PySem.W.findIn K (.ref C_Sheets) "__setattr__"=some (some (.builtin "object.__setattr__")))
 (zn_Sheets_size:PySem.W.findIn K (.ref C_Sheets) "size"=some none)
 (zn_Sheets_frames:PySem.W.findIn K (.ref C_Sheets) "frames"=some none)
 (zn_Sheets_slots:PySem.W.findIn K (.ref C_Sheets) "slots"=some none)
 (zn_Sheets_hand:PySem.W.findIn K (.ref C_Sheets) "hand"=some none)
 (zn_Sheets_gone_out:PySem.W.findIn K (.ref C_Sheets) "gone_out"=some none)
 (zn_Sheets_gone_astray:PySem.W.findIn K (.ref C_Sheets) "gone_astray"=some none)
 (zn_Sheets_come_back:PySem.W.findIn K (.ref C_Sheets) "come_back"=some none)
 (mk_Sheets:PySem.W.makesIn K C_Sheets=true)
 (kc_Sheets:PySem.W.keepIn K (.ref C_Sheets)=true)
 (a_21_:PySem.W.findIn K (.ref C_Sheets) "__init__"=some (some (.ref f_21)))
 (i_21_:PySem.W.isFn K (.ref f_21)=true)
 (l_21_:K.lookup f_21=some ⟨oc_21,od_21,.func (PySem.W.fnOf "__init__" "Sheets.__init__" (defArgs ach) (defBody ach) (defScope ach) .none kV_21 dc_21 pm_21 an_21 cd_21 ct_21),sl_21⟩)
 (c_21_:PySem.W.codeIn K cd_21 "Sheets.__init__"=true)
 (k_21_:PySem.W.keepIn K (.ref f_21)=true)
 (a_22_:PySem.W.findIn K (.ref C_Sheets) "fresh"=some (some (.ref f_22)))
 (i_22_:PySem.W.isFn K (.ref f_22)=true)
 (l_22_:K.lookup f_22=some ⟨oc_22,od_22,.func (PySem.W.fnOf "fresh" "Sheets.fresh" (defArgs ab9) (defBody ab9) (defScope ab9) .none kV_22 dc_22 pm_22 an_22 cd_22 ct_22),sl_22⟩)
 (c_22_:PySem.W.codeIn K cd_22 "Sheets.fresh"=true)
 (k_22_:PySem.W.keepIn K (.ref f_22)=true)
 (a_23_:PySem.W.findIn K (.ref C_Sheets) "back"=some (some (.ref f_23)))
 (i_23_:PySem.W.isFn K (.ref f_23)=true)
 (l_23_:K.lookup f_23=some ⟨oc_23,od_23,.func (PySem.W.fnOf "back" "Sheets.back" (defArgs aci) (defBody aci) (defScope aci) .none kV_23 dc_23 pm_23 an_23 cd_23 ct_23),sl_23⟩)
 (c_23_:PySem.W.codeIn K cd_23 "Sheets.back"=true)
 (k_23_:PySem.W.keepIn K (.ref f_23)=true)
 (a_24_:PySem.W.findIn K (.ref C_Sheets) "hold"=some (some (.ref f_24)))
 (i_24_:PySem.W.isFn K (.ref f_24)=true)
 (l_24_:K.lookup f_24=some ⟨oc_24,od_24,.func (PySem.W.fnOf "hold" "Sheets.hold" (defArgs acj) (defBody acj) (defScope acj) .none kV_24 dc_24 pm_24 an_24 cd_24 ct_24),sl_24⟩)
 (c_24_:PySem.W.codeIn K cd_24 "Sheets.hold"=true)
 (k_24_:PySem.W.keepIn K (.ref f_24)=true)
 (a_25_:PySem.W.findIn K (.ref C_Sheets) "let_go"=some (some (.ref f_25)))
 (i_25_:PySem.W.isFn K (.ref f_25)=true)
 (l_25_:K.lookup f_25=some ⟨oc_25,od_25,.func (PySem.W.fnOf "let_go" "Sheets.let_go" (defArgs ab5) (defBody ab5) (defScope ab5) .none kV_25 dc_25 pm_25 an_25 cd_25 ct_25),sl_25⟩)
 (c_25_:PySem.W.codeIn K cd_25 "Sheets.let_go"=true)
 (k_25_:PySem.W.keepIn K (.ref f_25)=true)
 (a_26_:PySem.W.findIn K (.ref C_Sheets) "holders_of"=some (some (.ref f_26)))
 (i_26_:PySem.W.isFn K (.ref f_26)=true)
 (l_26_:K.lookup f_26=some ⟨oc_26,od_26,.func (PySem.W.fnOf "holders_of" "Sheets.holders_of" (defArgs abd) (defBody abd) (defScope abd) .none kV_26 dc_26 pm_26 an_26 cd_26 ct_26),sl_26⟩)
 (c_26_:PySem.W.codeIn K cd_26 "Sheets.holders_of"=true)
 (k_26_:PySem.W.keepIn K (.ref f_26)=true)
 (a_27_:PySem.W.findIn K (.ref C_Sheets) "sheet_at"=some (some (.ref f_27)))
 (i_27_:PySem.W.isFn K (.ref f_27)=true)
 (l_27_:K.lookup f_27=some ⟨oc_27,od_27,.func (PySem.W.fnOf "sheet_at" "Sheets.sheet_at" (defArgs abt) (defBody abt) (defScope abt) .none kV_27 dc_27 pm_27 an_27 cd_27 ct_27),sl_27⟩)
 (c_27_:PySem.W.codeIn K cd_27 "Sheets.sheet_at"=true)
 (k_27_:PySem.W.keepIn K (.ref f_27)=true)
 (a_28_:PySem.W.findIn K (.ref C_Sheets) "set_box"=some (some (.ref f_28)))
 (i_28_:PySem.W.isFn K (.ref f_28)=true)
 (l_28_:K.lookup f_28=some ⟨oc_28,od_28,.func (PySem.W.fnOf "set_box" "Sheets.set_box" (defArgs abz) (defBody abz) (defScope abz) .none kV_28 dc_28 pm_28 an_28 cd_28 ct_28),sl_28⟩)
 (c_28_:PySem.W.codeIn K cd_28 "Sheets.set_box"=true)
 (k_28_:PySem.W.keepIn K (.ref f_28)=true)
 (a_29_:PySem.W.findIn K (.ref C_Sheets) "fold"=some (some (.ref f_29)))
 (i_29_:PySem.W.isFn K (.ref f_29)=true)
 (l_29_:K.lookup f_29=some ⟨oc_29,od_29,.func (PySem.W.fnOf "fold" "Sheets.fold" (defArgs ack) (defBody ack) (defScope ack) .none kV_29 dc_29 pm_29 an_29 cd_29 ct_29),sl_29⟩)
 (c_29_:PySem.W.codeIn K cd_29 "Sheets.fold"=true)
 (k_29_:PySem.W.keepIn K (.ref f_29)=true)
 (a_30_:PySem.W.findIn K (.ref C_Sheets) "live_sheets"=some (some (.ref f_30)))
 (i_30_:PySem.W.isFn K (.ref f_30)=true)
 (l_30_:K.lookup f_30=some ⟨oc_30,od_30,.func (PySem.W.fnOf "live_sheets" "Sheets.live_sheets" (defArgs aa8) (defBody aa8) (defScope aa8) .none kV_30 dc_30 pm_30 an_30 cd_30 ct_30),sl_30⟩)
 (c_30_:PySem.W.codeIn K cd_30 "Sheets.live_sheets"=true)
 (k_30_:PySem.W.keepIn K (.ref f_30)=true)
 (a_31_:PySem.W.findIn K (.ref C_Sheets) "is_full"=some (some (.ref f_31)))
 (i_31_:PySem.W.isFn K (.ref f_31)=true)
 (l_31_:K.lookup f_31=some ⟨oc_31,od_31,.func (PySem.W.fnOf "is_full" "Sheets.is_full" (defArgs ab0) (defBody ab0) (defScope ab0) .none kV_31 dc_31 pm_31 an_31 cd_31 ct_31),sl_31⟩)
 (c_31_:PySem.W.codeIn K cd_31 "Sheets.is_full"=true)
 (k_31_:PySem.W.keepIn K (.ref f_31)=true)
 (a_32_:PySem.W.findIn K (.ref C_Sheets) "told_frames"=some (some (.ref f_32)))
 (i_32_:PySem.W.isFn K (.ref f_32)=true)
 (l_32_:K.lookup f_32=some ⟨oc_32,od_32,.func (PySem.W.fnOf "told_frames" "Sheets.told_frames" (defArgs aa9) (defBody aa9) (defScope aa9) .none kV_32 dc_32 pm_32 an_32 cd_32 ct_32),sl_32⟩)
 (c_32_:PySem.W.codeIn K cd_32 "Sheets.told_frames"=true)
 (k_32_:PySem.W.keepIn K (.ref f_32)=true)
 (a_33_:PySem.W.findIn K (.ref C_Sheets) "told_slots"=some (some (.ref f_33)))
 (i_33_:PySem.W.isFn K (.ref f_33)=true)
 (l_33_:K.lookup f_33=some ⟨oc_33,od_33,.func (PySem.W.fnOf "told_slots" "Sheets.told_slots" (defArgs abe) (defBody abe) (defScope abe) .none kV_33 dc_33 pm_33 an_33 cd_33 ct_33),sl_33⟩)
 (c_33_:PySem.W.codeIn K cd_33 "Sheets.told_slots"=true)
 (k_33_:PySem.W.keepIn K (.ref f_33)=true)
 (a_34_:PySem.W.findIn K (.ref C_Sheets) "lying_at"=some (some (.ref f_34)))
 (i_34_:PySem.W.isFn K (.ref f_34)=true)
 (l_34_:K.lookup f_34=some ⟨oc_34,od_34,.func (PySem.W.fnOf "lying_at" "Sheets.lying_at" (defArgs abu) (defBody abu) (defScope abu) .none kV_34 dc_34 pm_34 an_34 cd_34 ct_34),sl_34⟩)
 (c_34_:PySem.W.codeIn K cd_34 "Sheets.lying_at"=true)
 (k_34_:PySem.W.keepIn K (.ref f_34)=true)
 (a_35_:PySem.W.findIn K (.ref C_Sheets) "all_spots"=some (some (.ref f_35)))
 (i_35_:PySem.W.isFn K (.ref f_35)=true)
 (l_35_:K.lookup f_35=some ⟨oc_35,od_35,.func (PySem.W.fnOf "all_spots" "Sheets.all_spots" (defArgs abj) (defBody abj) (defScope abj) .none kV_35 dc_35 pm_35 an_35 cd_35 ct_35),sl_35⟩)
 (c_35_:PySem.W.codeIn K cd_35 "Sheets.all_spots"=true)
 (k_35_:PySem.W.keepIn K (.ref f_35)=true)
 (a_36_:PySem.W.findIn K (.ref C_Sheets) "told_slot"=some (some (.ref f_36)))
 (i_36_:PySem.W.isFn K (.ref f_36)=true)
 (l_36_:K.lookup f_36=some ⟨oc_36,od_36,.func (PySem.W.fnOf "told_slot" "Sheets.told_slot" (defArgs abk) (defBody abk) (defScope abk) .none kV_36 dc_36 pm_36 an_36 cd_36 ct_36),sl_36⟩)
 (c_36_:PySem.W.codeIn K cd_36 "Sheets.told_slot"=true)
 (k_36_:PySem.W.keepIn K (.ref f_36)=true)
 (a_37_:PySem.W.findIn K (.ref C_Sheets) "hand_over"=some (some (.ref f_37)))
 (i_37_:PySem.W.isFn K (.ref f_37)=true)
 (l_37_:K.lookup f_37=some ⟨oc_37,od_37,.func (PySem.W.fnOf "hand_over" "Sheets.hand_over" (defArgs abl) (defBody abl) (defScope abl) .none kV_37 dc_37 pm_37 an_37 cd_37 ct_37),sl_37⟩)
 (c_37_:PySem.W.codeIn K cd_37 "Sheets.hand_over"=true)
 (k_37_:PySem.W.keepIn K (.ref f_37)=true)
 (a_38_:PySem.W.findIn K (.ref C_Sheets) "make_empty"=some (some (.ref f_38)))
 (i_38_:PySem.W.isFn K (.ref f_38)=true)
 (l_38_:K.lookup f_38=some ⟨oc_38,od_38,.func (PySem.W.fnOf "make_empty" "Sheets.make_empty" (defArgs abf) (defBody abf) (defScope abf) .none kV_38 dc_38 pm_38 an_38 cd_38 ct_38),sl_38⟩)
 (c_38_:PySem.W.codeIn K cd_38 "Sheets.make_empty"=true)
 (k_38_:PySem.W.keepIn K (.ref f_38)=true)
 (a_39_:PySem.W.findIn K (.ref C_Sheets) "lose_twin"=some (some (.ref f_39)))
 (i_39_:PySem.W.isFn K (.ref f_39)=true)
 (l_39_:K.lookup f_39=some ⟨oc_39,od_39,.func (PySem.W.fnOf "lose_twin" "Sheets.lose_twin" (defArgs abm) (defBody abm) (defScope abm) .none kV_39 dc_39 pm_39 an_39 cd_39 ct_39),sl_39⟩)
 (c_39_:PySem.W.codeIn K cd_39 "Sheets.lose_twin"=true)
 (k_39_:PySem.W.keepIn K (.ref f_39)=true)
 (a_40_:PySem.W.findIn K (.ref C_Sheets) "frame_for"=some (some (.ref f_40)))
 (i_40_:PySem.W.isFn K (.ref f_40)=true)
 (l_40_:K.lookup f_40=some ⟨oc_40,od_40,.func (PySem.W.fnOf "frame_for" "Sheets.frame_for" (defArgs abn) (defBody abn) (defScope abn) .none kV_40 dc_40 pm_40 an_40 cd_40 ct_40),sl_40⟩)
 (c_40_:PySem.W.codeIn K cd_40 "Sheets.frame_for"=true)
 (k_40_:PySem.W.keepIn K (.ref f_40)=true)
 (a_41_:PySem.W.findIn K (.ref C_Sheets) "put_out"=some (some (.ref f_41)))
 (i_41_:PySem.W.isFn K (.ref f_41)=true)
 (l_41_:K.lookup f_41=some ⟨oc_41,od_41,.func (PySem.W.fnOf "put_out" "Sheets.put_out" (defArgs ab1) (defBody ab1) (defScope ab1) .none kV_41 dc_41 pm_41 an_41 cd_41 ct_41),sl_41⟩)
 (c_41_:PySem.W.codeIn K cd_41 "Sheets.put_out"=true)
 (k_41_:PySem.W.keepIn K (.ref f_41)=true)
 (a_42_:PySem.W.findIn K (.ref C_Sheets) "slot_for"=some (some (.ref f_42)))
 (i_42_:PySem.W.isFn K (.ref f_42)=true)
 (l_42_:K.lookup f_42=some ⟨oc_42,od_42,.func (PySem.W.fnOf "slot_for" "Sheets.slot_for" (defArgs abv) (defBody abv) (defScope abv) .none kV_42 dc_42 pm_42 an_42 cd_42 ct_42),sl_42⟩)
 (c_42_:PySem.W.codeIn K cd_42 "Sheets.slot_for"=true)
 (k_42_:PySem.W.keepIn K (.ref f_42)=true)
 (zt_NoRoom:PySem.W.typeIn K (.ref C_NoRoom)=some (.type "type"))
 (zl_NoRoom:PySem.W.clsIn K C_NoRoom=some cd_NoRoom)
 (zm_NoRoom:PySem.W.mroIn K C_NoRoom (.type "BaseException")=some true)
 (ze_NoRoom:PySem.W.excIn K C_NoRoom mroVE "ValueError.__new__"=true)
 (zs_NoRoom_NoRoom:PySem.W.mroIn K C_NoRoom (.ref C_NoRoom)=some true)
 (a_43_:PySem.W.nsIn K mainGlobals "law"=some (some (.ref f_43)))
 (l_43_:K.lookup f_43=some ⟨oc_43,od_43,.func (PySem.W.fnOf "law" "law" (defArgs ajc) (defBody ajc) (defScope ajc) .none kV_43 dc_43 pm_43 an_43 cd_43 ct_43),sl_43⟩)
 (c_43_:PySem.W.codeIn K cd_43 "law"=true)
 (k_43_:PySem.W.keepIn K (.ref f_43)=true)
 :∃A:Adr,Txt K mg A:=⟨⟨C_Sheet,C_Spots,C_Sheets,C_FrameError,C_NoRoom⟩,{
  b_any:=PySem.W.mg_none_of X G zb_any
  b_bool:=PySem.W.mg_none_of X G zb_bool
  b_enumerate:=PySem.W.mg_none_of X G zb_enumerate
  b_int:=PySem.W.mg_none_of X G zb_int
  b_isinstance:=PySem.W.mg_none_of X G zb_isinstance
  b_len:=PySem.W.mg_none_of X G zb_len
  b_list:=PySem.W.mg_none_of X G zb_list
  b_range:=PySem.W.mg_none_of X G zb_range
  b_sorted:=PySem.W.mg_none_of X G zb_sorted
  b_str:=PySem.W.mg_none_of X G zb_str
  b_tuple:=PySem.W.mg_none_of X G zb_tuple
  r_swept:=⟨_,_,_,PySem.W.mg_of X G a_0_,aap (st:=afm) l_0_ c_0_ k_0_,(aap (st:=afm) l_0_ c_0_ k_0_).binds (ps:=["marks","hand"]) fun _ _ _ _ _ _=>el2 (fun _ _=>rfl),.nil⟩
  r_l_cell:=⟨_,_,_,PySem.W.mg_of X G a_1_,aap (st:=aeo) l_1_ c_1_ k_1_,(aap (st:=aeo) l_1_ c_1_ k_1_).binds (ps:=["_law_script","_law_k"]) fun _ _ _ _ _ _=>el2 (fun _ _=>rfl),.nil⟩
  r_l_like:=⟨_,_,_,PySem.W.mg_of X G a_2_,aap (st:=aep) l_2_ c_2_ k_2_,(aap (st:=aep) l_2_ c_2_ k_2_).binds (ps:=["_law_found","_law_due"]) fun _ _ _ _ _ _=>el2 (fun _ _=>rfl),.nil⟩
  r_l_moved:=⟨_,_,_,PySem.W.mg_of X G a_3_,aap (st:=ad3) l_3_ c_3_ k_3_,(aap (st:=ad3) l_3_ c_3_ k_3_).binds (ps:=["_law_where","_law_found","_law_one"]) fun _ _ _ _ _ _=>el3 (fun _ _ _=>rfl),.nil⟩
  r_l_fresh:=⟨_,_,_,PySem.W.mg_of X G a_4_,aap (st:=ad4) l_4_ c_4_ k_4_,(aap (st:=ad4) l_4_ c_4_ k_4_).binds (ps:=["_law_sheets","_law_where","_law_one","_law_marks"]) fun _ _ _ _ _ _=>el4 (fun _ _ _ _=>rfl),.nil⟩
  r_l_back:=⟨_,_,_,PySem.W.mg_of X G a_5_,aap (st:=aeq) l_5_ c_5_ k_5_,(aap (st:=aeq) l_5_ c_5_ k_5_).binds (ps:=["_law_sheets","_law_where","_law_slot","_law_marks"]) fun _ _ _ _ _ _=>el4 (fun _ _ _ _=>rfl),.nil⟩
  r_l_rank:=⟨_,_,_,PySem.W.mg_of X G a_6_,aap (st:=aer) l_6_ c_6_ k_6_,(aap (st:=aer) l_6_ c_6_ k_6_).binds (ps:=["_law_where","_law_spot"]) fun _ _ _ _ _ _=>el2 (fun _ _=>rfl),.nil⟩
  r_l_alike:=⟨_,_,_,PySem.W.mg_of X G a_7_,aap (st:=ad5) l_7_ c_7_ k_7_,(aap (st:=ad5) l_7_ c_7_ k_7_).binds (ps:=["_law_where"]) fun _ _ _ _ _ _=>el1 (fun _=>rfl),.nil⟩
  r_l_folded:=⟨_,_,_,PySem.W.mg_of X G a_8_,aap (st:=adg) l_8_ c_8_ k_8_,(aap (st:=adg) l_8_ c_8_ k_8_).binds (ps:=["_law_sheets","_law_where"]) fun _ _ _ _ _ _=>el2 (fun _ _=>rfl),.nil⟩
  r_l_copied:=⟨_,_,_,PySem.W.mg_of X G a_9_,aap (st:=adi) l_9_ c_9_ k_9_,(aap (st:=adi) l_9_ c_9_ k_9_).binds (ps:=["_law_row"]) fun _ _ _ _ _ _=>el1 (fun _=>rfl),.nil⟩
  r_l_true:=⟨_,_,_,PySem.W.mg_of X G a_10_,aap (st:=aes) l_10_ c_10_ k_10_,(aap (st:=aes) l_10_ c_10_ k_10_).binds (ps:=["_law_sheets","_law_where"]) fun _ _ _ _ _ _=>el2 (fun _ _=>rfl),.nil⟩
  r_l_changed:=⟨_,_,_,PySem.W.mg_of X G a_11_,aap (st:=ac3) l_11_ c_11_ k_11_,(aap (st:=ac3) l_11_ c_11_ k_11_).binds (ps:=["_law_sheets","_law_where","_law_spot","_law_way","_law_number_here","_law_holder"]) fun _ _ _ _ _ _=>el6 (fun _ _ _ _ _ _=>rfl),.nil⟩
  r_l_number:=⟨_,_,_,PySem.W.mg_of X G a_12_,aap (st:=adj) l_12_ c_12_ k_12_,(aap (st:=adj) l_12_ c_12_ k_12_).binds (ps:=["_law_digits","_law_cell_here","_law_k"]) fun _ _ _ _ _ _=>el3 (fun _ _ _=>rfl),.nil⟩
  r_l_deed:=⟨_,_,_,PySem.W.mg_of X G a_13_,aap (st:=aet) l_13_ c_13_ k_13_,(aap (st:=aet) l_13_ c_13_ k_13_).binds (ps:=["_law_sheets","_law_where","_law_number_here","_law_k"]) fun _ _ _ _ _ _=>el4 (fun _ _ _ _=>rfl),.nil⟩
  cl_Sheet:=⟨pg_Sheet,hd_Sheet,po_Sheet,sa_Sheet⟩
  na_Sheet_boxes:=zn_Sheet_boxes
  na_Sheet_holders:=zn_Sheet_holders
  r_Sheet_init:=⟨_,_,_,PySem.W.mg_of X G a_Sheet,⟨mk_Sheet,a_14_,i_14_,kc_Sheet⟩,aap (st:=acq) l_14_ c_14_ k_14_,(aap (st:=acq) l_14_ c_14_ k_14_).binds (ps:=["self","boxes","holder"]) fun _ _ _ _ _ _=>el3 (fun _ _ _=>rfl),.nil⟩
  r_Sheet_told_holders:=⟨_,_,_,⟨a_15_,i_15_,k_15_⟩,aap (st:=aa7) l_15_ c_15_ k_15_,(aap (st:=aa7) l_15_ c_15_ k_15_).binds (ps:=["self"]) fun _ _ _ _ _ _=>el1 (fun _=>rfl),.nil⟩
  r_Sheet_is_banked:=⟨_,_,_,⟨a_16_,i_16_,k_16_⟩,aap (st:=abr) l_16_ c_16_ k_16_,(aap (st:=abr) l_16_ c_16_ k_16_).binds (ps:=["self"]) fun _ _ _ _ _ _=>el1 (fun _=>rfl),.nil⟩
  cl_Spots:=⟨pg_Spots,hd_Spots,po_Spots,sa_Spots⟩
  na_Spots_lying:=zn_Spots_lying
  na_Spots_twins:=zn_Spots_twins
  r_Spots_init:=⟨_,_,_,PySem.W.mg_of X G a_Spots,⟨mk_Spots,a_17_,i_17_,kc_Spots⟩,aap (st:=acr) l_17_ c_17_ k_17_,(aap (st:=acr) l_17_ c_17_ k_17_).binds (ps:=["self","many"]) fun _ _ _ _ _ _=>el2 (fun _ _=>rfl),.nil⟩
  r_Spots_first_empty:=⟨_,_,_,⟨a_18_,i_18_,k_18_⟩,aap (st:=abc) l_18_ c_18_ k_18_,(aap (st:=abc) l_18_ c_18_ k_18_).binds (ps:=["self"]) fun _ _ _ _ _ _=>el1 (fun _=>rfl),.nil⟩
  r_Spots_first_twin:=⟨_,_,_,⟨a_19_,i_19_,k_19_⟩,aap (st:=abh) l_19_ c_19_ k_19_,(aap (st:=abh) l_19_ c_19_ k_19_).binds (ps:=["self"]) fun _ _ _ _ _ _=>el1 (fun _=>rfl),.nil⟩
  r_Spots_live_count:=⟨_,_,_,⟨a_20_,i_20_,k_20_⟩,aap (st:=abi) l_20_ c_20_ k_20_,(aap (st:=abi) l_20_ c_20_ k_20_).binds (ps:=["self"]) fun _ _ _ _ _ _=>el1 (fun _=>rfl),.nil⟩
  cl_Sheets:=⟨pg_Sheets,hd_Sheets,po_Sheets,sa_Sheets⟩
  na_Sheets_size:=zn_Sheets_size
  na_Sheets_frames:=zn_Sheets_frames
  na_Sheets_slots:=zn_Sheets_slots
  na_Sheets_hand:=zn_Sheets_hand
  na_Sheets_gone_out:=zn_Sheets_gone_out
  na_Sheets_gone_astray:=zn_Sheets_gone_astray
  na_Sheets_come_back:=zn_Sheets_come_back
  r_Sheets_init:=⟨_,_,_,PySem.W.mg_of X G a_Sheets,⟨mk_Sheets,a_21_,i_21_,kc_Sheets⟩,aap (st:=ach) l_21_ c_21_ k_21_,(aap (st:=ach) l_21_ c_21_ k_21_).binds (ps:=["self","frames","slots","size"]) fun _ _ _ _ _ _=>el4 (fun _ _ _ _=>rfl),.nil⟩
  r_Sheets_fresh:=⟨_,_,_,⟨a_22_,i_22_,k_22_⟩,aap (st:=ab9) l_22_ c_22_ k_22_,(aap (st:=ab9) l_22_ c_22_ k_22_).binds (ps:=["self","sheet","holder","marks"]) fun _ _ _ _ _ _=>el4 (fun _ _ _ _=>rfl),.nil⟩
  r_Sheets_back:=⟨_,_,_,⟨a_23_,i_23_,k_23_⟩,aap (st:=aci) l_23_ c_23_ k_23_,(aap (st:=aci) l_23_ c_23_ k_23_).binds (ps:=["self","slot","marks"]) fun _ _ _ _ _ _=>el3 (fun _ _ _=>rfl),.nil⟩
  r_Sheets_hold:=⟨_,_,_,⟨a_24_,i_24_,k_24_⟩,aap (st:=acj) l_24_ c_24_ k_24_,(aap (st:=acj) l_24_ c_24_ k_24_).binds (ps:=["self","spot","holder"]) fun _ _ _ _ _ _=>el3 (fun _ _ _=>rfl),.nil⟩
  r_Sheets_let_go:=⟨_,_,_,⟨a_25_,i_25_,k_25_⟩,aap (st:=ab5) l_25_ c_25_ k_25_,(aap (st:=ab5) l_25_ c_25_ k_25_).binds (ps:=["self","spot","holder"]) fun _ _ _ _ _ _=>el3 (fun _ _ _=>rfl),.nil⟩
  r_Sheets_holders_of:=⟨_,_,_,⟨a_26_,i_26_,k_26_⟩,aap (st:=abd) l_26_ c_26_ k_26_,(aap (st:=abd) l_26_ c_26_ k_26_).binds (ps:=["self","spot"]) fun _ _ _ _ _ _=>el2 (fun _ _=>rfl),.nil⟩
  r_Sheets_sheet_at:=⟨_,_,_,⟨a_27_,i_27_,k_27_⟩,aap (st:=abt) l_27_ c_27_ k_27_,(aap (st:=abt) l_27_ c_27_ k_27_).binds (ps:=["self","spot"]) fun _ _ _ _ _ _=>el2 (fun _ _=>rfl),.nil⟩
  r_Sheets_set_box:=⟨_,_,_,⟨a_28_,i_28_,k_28_⟩,aap (st:=abz) l_28_ c_28_ k_28_,(aap (st:=abz) l_28_ c_28_ k_28_).binds (ps:=["self","frame","box","value"]) fun _ _ _ _ _ _=>el4 (fun _ _ _ _=>rfl),.nil⟩
  r_Sheets_fold:=⟨_,_,_,⟨a_29_,i_29_,k_29_⟩,aap (st:=ack) l_29_ c_29_ k_29_,(aap (st:=ack) l_29_ c_29_ k_29_).binds (ps:=["self"]) fun _ _ _ _ _ _=>el1 (fun _=>rfl),.nil⟩
  r_Sheets_live_sheets:=⟨_,_,_,⟨a_30_,i_30_,k_30_⟩,aap (st:=aa8) l_30_ c_30_ k_30_,(aap (st:=aa8) l_30_ c_30_ k_30_).binds (ps:=["self"]) fun _ _ _ _ _ _=>el1 (fun _=>rfl),.nil⟩
  r_Sheets_is_full:=⟨_,_,_,⟨a_31_,i_31_,k_31_⟩,aap (st:=ab0) l_31_ c_31_ k_31_,(aap (st:=ab0) l_31_ c_31_ k_31_).binds (ps:=["self"]) fun _ _ _ _ _ _=>el1 (fun _=>rfl),.nil⟩
  r_Sheets_told_frames:=⟨_,_,_,⟨a_32_,i_32_,k_32_⟩,aap (st:=aa9) l_32_ c_32_ k_32_,(aap (st:=aa9) l_32_ c_32_ k_32_).binds (ps:=["self"]) fun _ _ _ _ _ _=>el1 (fun _=>rfl),.nil⟩
  r_Sheets_told_slots:=⟨_,_,_,⟨a_33_,i_33_,k_33_⟩,aap (st:=abe) l_33_ c_33_ k_33_,(aap (st:=abe) l_33_ c_33_ k_33_).binds (ps:=["self"]) fun _ _ _ _ _ _=>el1 (fun _=>rfl),.nil⟩
  r_Sheets_lying_at:=⟨_,_,_,⟨a_34_,i_34_,k_34_⟩,aap (st:=abu) l_34_ c_34_ k_34_,(aap (st:=abu) l_34_ c_34_ k_34_).binds (ps:=["self","spot"]) fun _ _ _ _ _ _=>el2 (fun _ _=>rfl),.nil⟩
  r_Sheets_all_spots:=⟨_,_,_,⟨a_35_,i_35_,k_35_⟩,aap (st:=abj) l_35_ c_35_ k_35_,(aap (st:=abj) l_35_ c_35_ k_35_).binds (ps:=["self"]) fun _ _ _ _ _ _=>el1 (fun _=>rfl),.nil⟩
  r_Sheets_told_slot:=⟨_,_,_,⟨a_36_,i_36_,k_36_⟩,aap (st:=abk) l_36_ c_36_ k_36_,(aap (st:=abk) l_36_ c_36_ k_36_).binds (ps:=["self","slot"]) fun _ _ _ _ _ _=>el2 (fun _ _=>rfl),.nil⟩
  r_Sheets_hand_over:=⟨_,_,_,⟨a_37_,i_37_,k_37_⟩,aap (st:=abl) l_37_ c_37_ k_37_,(aap (st:=abl) l_37_ c_37_ k_37_).binds (ps:=["self","spot","other"]) fun _ _ _ _ _ _=>el3 (fun _ _ _=>rfl),.nil⟩
  r_Sheets_make_empty:=⟨_,_,_,⟨a_38_,i_38_,k_38_⟩,aap (st:=abf) l_38_ c_38_ k_38_,(aap (st:=abf) l_38_ c_38_ k_38_).binds (ps:=["self","spot"]) fun _ _ _ _ _ _=>el2 (fun _ _=>rfl),.nil⟩
  r_Sheets_lose_twin:=⟨_,_,_,⟨a_39_,i_39_,k_39_⟩,aap (st:=abm) l_39_ c_39_ k_39_,(aap (st:=abm) l_39_ c_39_ k_39_).binds (ps:=["self","frame"]) fun _ _ _ _ _ _=>el2 (fun _ _=>rfl),.nil⟩
  r_Sheets_frame_for:=⟨_,_,_,⟨a_40_,i_40_,k_40_⟩,aap (st:=abn) l_40_ c_40_ k_40_,(aap (st:=abn) l_40_ c_40_ k_40_).binds (ps:=["self","coming_from","marks"]) fun _ _ _ _ _ _=>el3 (fun _ _ _=>rfl),.nil⟩
  r_Sheets_put_out:=⟨_,_,_,⟨a_41_,i_41_,k_41_⟩,aap (st:=ab1) l_41_ c_41_ k_41_,(aap (st:=ab1) l_41_ c_41_ k_41_).binds (ps:=["self","frame","coming_from"]) fun _ _ _ _ _ _=>el3 (fun _ _ _=>rfl),.nil⟩
  r_Sheets_slot_for:=⟨_,_,_,⟨a_42_,i_42_,k_42_⟩,aap (st:=abv) l_42_ c_42_ k_42_,(aap (st:=abv) l_42_ c_42_ k_42_).binds (ps:=["self","frame","coming_from"]) fun _ _ _ _ _ _=>el3 (fun _ _ _=>rfl),.nil⟩
  m_FrameError:=⟨_,PySem.W.mg_of X G a_FrameError,rfl⟩
  m_NoRoom:=⟨_,PySem.W.mg_of X G a_NoRoom,rfl⟩
  h_NoRoom:=⟨PySem.W.mg_of X G a_NoRoom,zt_NoRoom,⟨_,zl_NoRoom⟩,zm_NoRoom⟩
  x_NoRoom:=⟨PySem.W.mg_of X G a_NoRoom,ze_NoRoom⟩
  sub_NoRoom_NoRoom:=zs_NoRoom_NoRoom
  r_law:=⟨_,_,PySem.W.mg_of X G a_43_,aap (st:=ajc) l_43_ c_43_ k_43_,fun _ _=>.of_eq rfl⟩
 }⟩
section
variable {P:Program} {w:World} {K:PySem.W.Frag} {mg:Str→Option Value} {base:Heap} {A:Adr}
theorem abg {H H':Hp} {t:Addr} {o:HO} (s:Same H H') (h:H t=none):Same H (upd H' t o):=fun b u e=>by
 rw[aaf (aan e h)];exact s b u e
theorem aai {H H':Hp} {p:Addr} (s:Same H H') (h:H' p=none):H p=none:=by
 cases e:H p with
 |none=>rfl
 |some o=>rw[s p o e] at h;cases h
noncomputable def ap9 (K:PySem.W.Frag) (a:Addr) (ns:List Int):Sp:=fun vs H Q _=>∃(k:Int),vs=[.ref a,.int k]∧SqL K H a (ns.map V.int)∧0≤k∧Q (.int (ns.getD k.toNat 0)) H
theorem h_cell (T:Txt K mg A) (a:Addr) (ns:List Int):Have P w K mg base "_law_cell" 1 ["_law_script","_law_k"] [] (ap9 K a ns):=by
 refine T.r_l_cell.have amg (fun vs H Q E z=>?_) ?_
 ·obtain⟨k,rfl,_⟩:=z;rfl
 ·intro f cdv A' outer s H vs Q E hr z
  obtain⟨k,rfl,hs,hk,q⟩:=z
  refine⟨_,(aak (abo (aao apn (pvM 1) (aar aa2 rfl T.b_len PySem.boot_len (aaa (pvM 0) aad)) (nomark _)) (aag (aav (aam aaj (pvM 0) (pvM 1) (fun _ _=>rfl)))) aas)
   (aag (aav aab))),?_⟩
  walk_at "wp"
  refine⟨ns.length,.inl ⟨_,hs,by simp⟩,?_⟩
  by_cases c:k < (ns.length:Int)
  ·rw[if_pos c]
   refine⟨_,hs,.int (ns.getD k.toNat 0),?_,q⟩
   have hlt:k.toNat < ns.length:=by omega
   have e:atI (ns.map V.int) ((k.toNat:Nat):Int)=some (.int (ns.getD k.toNat 0)):=aac (by simp[hlt])
   rw[show ((k.toNat:Nat):Int)=k by omega] at e
   exact e
  ·rw[if_neg c]
   have hge:ns.length≤k.toNat:=by omega
   rw[show ns.getD k.toNat 0=0 by simp[List.getD,hge]] at q
   exact q
noncomputable def lfV:V→Bool
 |.non=>true
 |.bl _=>true
 |.int _=>true
 |.str _=>true
 |_=>false
mutual
noncomputable def Lks (H:Hp):Dv→V→Prop
 |.leaf v,x=>x=v∧lfV v=true
 |.seq t ds,x=>∃a xs,x=.ref a∧H a=some (if t=true then .tup xs else .lst xs)∧ds.length < 16777216∧LksL H ds xs
noncomputable def LksL (H:Hp):List Dv→List V→Prop
 |[],xs=>xs=[]
 |d::ds,xs=>∃x r,xs=x::r∧Lks H d x∧LksL H ds r
end
theorem LksL.len {H:Hp}:∀{ds:List Dv} {xs:List V},LksL H ds xs→xs.length=ds.length
 |[],xs,h=>by unfold LksL at h;subst h;rfl
 |d::ds,xs,h=>by
  unfold LksL at h
  obtain⟨x,r,rfl,_,h⟩:=h
  simp[h.len]
theorem LksL.at {H:Hp}:∀{ds:List Dv} {xs:List V} {i:Nat} {d:Dv},LksL H ds xs→ds[i]?=some d→∃x,xs[i]?=some x∧Lks H d x
 |[],_,_,_,_,h=>by simp at h
 |d::ds,xs,0,e,h,hi=>by
  unfold LksL at h
  obtain⟨x,r,rfl,hx,_⟩:=h
  simp at hi
  subst hi
  exact⟨x,rfl,hx⟩
 |d::ds,xs,i+1,e,h,hi=>by
  unfold LksL at h
  obtain⟨x,r,rfl,_,h⟩:=h
  simp at hi
  obtain⟨y,hy,hl⟩:=h.at hi
  exact⟨y,by simpa using hy,hl⟩
theorem aj1:∀{ds:List Dv} {i:Nat} {d:Dv},ds[i]?=some d→deep d≤deepL ds
 |[],_,_,h=>by simp at h
 |d::ds,0,e,h=>by
  simp at h
  subst h
  rw[deepL];exact Nat.le_max_left ..
 |d::ds,i+1,e,h=>by
  simp at h
  rw[deepL];exact Nat.le_trans (aj1 h) (Nat.le_max_right ..)
mutual
theorem Lks.same {H H':Hp}:∀{d:Dv} {x:V},Lks H d x→Same H H'→Lks H' d x
 |.leaf v,x,h,_=>by unfold Lks at h ⊢;exact h
 |.seq t ds,x,h,s=>by
  unfold Lks at h ⊢
  obtain⟨a,xs,e,ha,hz,hl⟩:=h
  exact⟨a,xs,e,s _ _ ha,hz,hl.same s⟩
theorem LksL.same {H H':Hp}:∀{ds:List Dv} {xs:List V},LksL H ds xs→Same H H'→LksL H' ds xs
 |[],xs,h,_=>by unfold LksL at h ⊢;exact h
 |d::ds,xs,h,s=>by
  unfold LksL at h ⊢
  obtain⟨x,r,e,hx,hl⟩:=h
  exact⟨x,r,e,hx.same s,hl.same s⟩
end
noncomputable def ami:Nat→Sp
 |0=>fun _ _ _ _=>False
 |n+1=>fun vs H Q _=>∃(x y:V) (d:Dv),vs=[x,y]∧Lks H d x∧Lks H d y∧deep d≤n∧∀H',Same H H'→Q (.bl true) H'
theorem aiw {H:Hp} {a:Addr} {o:HO} {n:String} (h:H a=some o) (e:(kdO (some o) == n || (kdO (some o) == "bool"&&n == "int"))=false):isTy n H (.ref a)=false:=by
 unfold isTy
 rw[show kd H (.ref a)=kdO (H a) from rfl,h];exact e
theorem aoy (T:Txt K mg A):∀n,Have P w K mg base "_law_like" (n+1) ["_law_found","_law_due"] [] (ami n):=by
 intro n
 induction n with
 |zero=>exact T.r_l_like.have agw (fun vs H Q E z=>z.elim) (fun _ _ _ _ _ _ _ _ _ _ z=>z.elim)
 |succ n ih=>
  have H_l_like:=ih
  refine T.r_l_like.have agw (fun vs H Q E z=>?_) ?_
  ·obtain⟨x,y,d,rfl,_⟩:=z;rfl
  ·intro f cdv A' outer s H vs Q E hr z
   obtain⟨x,y,d,rfl,hx,hy,hd,q⟩:=z
   refine⟨_,(aak (abo (aao aea (pvM 1) aaw (nomark _)) (aag (aav (ac0 aea (pvM 0) aaw (nomark _)))) aas)
   (aak (abo (acz (aar acu rfl T.b_isinstance PyProof.Rows.boot_isinstance (aaa (pvM 1) (aaa (act (n:="bool") rfl T.b_bool PyProof.Rows.boot_bool) aad)))) (aag (aav (ajl (aar acu rfl T.b_isinstance PyProof.Rows.boot_isinstance (aaa (pvM 0) (aaa (act (n:="bool") rfl T.b_bool PyProof.Rows.boot_bool) aad))) (ak1 (ac0 adb (pvM 0) (pvM 1) (nomark _)))))) aas)
   (aak (abo (acz (aar acu rfl T.b_isinstance PyProof.Rows.boot_isinstance (aaa (pvM 1) (aaa (act (n:="int") rfl T.b_int PyProof.Rows.boot_int) aad)))) (aag (aav (ajl (aar acu rfl T.b_isinstance PyProof.Rows.boot_isinstance (aaa (pvM 0) (aaa (act (n:="int") rfl T.b_int PyProof.Rows.boot_int) aad))) (ajl (aoj (aar acu rfl T.b_isinstance PyProof.Rows.boot_isinstance (aaa (pvM 0) (aaa (act (n:="bool") rfl T.b_bool PyProof.Rows.boot_bool) aad)))) (ak1 (ac0 adb (pvM 0) (pvM 1) (nomark _))))))) aas)
   (aak (abo (acz (aar acu rfl T.b_isinstance PyProof.Rows.boot_isinstance (aaa (pvM 1) (aaa (act (n:="str") rfl T.b_str PyProof.Rows.boot_str) aad)))) (aag (aav (ajl (aar acu rfl T.b_isinstance PyProof.Rows.boot_isinstance (aaa (pvM 0) (aaa (act (n:="str") rfl T.b_str PyProof.Rows.boot_str) aad))) (ak1 (ac0 adb (pvM 0) (pvM 1) (nomark _)))))) aas)
   (aal (abo (PW.pt (ad9 (acz (aar acu rfl T.b_isinstance PyProof.Rows.boot_isinstance (aaa (pvM 1) (aaa (act (n:="list") rfl T.b_list PyProof.Rows.boot_list) aad)))) (adc (ael (acz (aar acu rfl T.b_isinstance PyProof.Rows.boot_isinstance (aaa (pvM 0) (aaa (act (n:="list") rfl T.b_list PyProof.Rows.boot_list) aad)))))))) (aag (aav adp)) aas)
   (aal (abo (PW.pt (ad9 (acz (aar acu rfl T.b_isinstance PyProof.Rows.boot_isinstance (aaa (pvM 1) (aaa (act (n:="tuple") rfl T.b_tuple PyProof.Rows.boot_tuple) aad)))) (adc (ael (acz (aar acu rfl T.b_isinstance PyProof.Rows.boot_isinstance (aaa (pvM 0) (aaa (act (n:="tuple") rfl T.b_tuple PyProof.Rows.boot_tuple) aad)))))))) (aag (aav adp)) aas)
   (aak (abo (aao ak8 (aar aa2 rfl T.b_len PySem.boot_len (aaa (pvM 0) aad)) (aar aa2 rfl T.b_len PySem.boot_len (aaa (pvM 1) aad)) (nomark _)) (aag (aav adp)) aas)
   (aak (ady PassesOwn.leaving rfl (acp rfl T.b_range (aaa (aar aa2 rfl T.b_len PySem.boot_len (aaa (pvM 1) aad)) aad)) (aa5 (i:=2) agw.nd rfl (Or.inl rfl)) (aag (abo (ael (acz (aba H_l_like (hr.mono (by omega)) aat (aaa (aam aoq (pvM 0) (pvM 2) (fun _ _=>rfl)) (aaa (aam aoq (pvM 1) (pvM 2) (fun _ _=>rfl)) aad))))) (aag (aav adp)) aas)))
   (aag (aav adp)))))))))),?_⟩
   cases d with
   |leaf v=>
    unfold Lks at hx hy
    obtain⟨ex,hv⟩:=hx
    obtain⟨ey,_⟩:=hy
    subst ex
    subst ey
    cases y with
    |non=>
     walk_at "wp"
     exact q _ aae
    |bl b=>
     walk_at "wp"
     rw[if_neg (fun z=>nomatch z)]
     exact⟨by decide,iteT ⟨by decide,iteT (q _ aae)⟩⟩
    |int i=>
     walk_at "wp"
     rw[if_neg (fun z=>nomatch z)]
     exact⟨by decide,iteF ⟨by decide,iteT ⟨by decide,iteT ⟨by decide,iteT (q _ aae)⟩⟩⟩⟩
    |str t=>
     walk_at "wp"
     rw[if_neg (fun z=>nomatch z)]
     exact⟨by decide,iteF ⟨by decide,iteF ⟨by decide,iteT ⟨by decide,iteT (q _ aae)⟩⟩⟩⟩
    |_=>cases hv
   |seq t ds=>
    unfold Lks at hx hy
    obtain⟨a,xs,rfl,ha,hzl,hxs⟩:=hx
    obtain⟨b,ys,rfl,hb,_,hys⟩:=hy
    have hlx:=hxs.len
    have hly:=hys.len
    have hdl:deepL ds+1≤n:=by rw[deep] at hd;exact hd
    have step:∀(i:Nat) (H':Hp) (Q':VK) (E':XK),i < ds.length→Same H H'→(∀H'',Same H H''→Q' (.bl true) H'')→∃x y,xs[i]?=some x∧ys[i]?=some y∧ami n [x,y] H' Q' E':=fun i H' Q' E' hi s1 hq=>by
     obtain⟨x,hx1,hx2⟩:=hxs.at (List.getElem?_eq_getElem hi)
     obtain⟨y,hy1,hy2⟩:=hys.at (List.getElem?_eq_getElem hi)
     refine⟨x,y,hx1,hy1,?_⟩
     cases n with
     |zero=>omega
     |succ n=>exact⟨x,y,ds[i],rfl,hx2.same s1,hy2.same s1,by have:=aj1 (List.getElem?_eq_getElem hi);omega,fun H'' s2=>hq _ (s1.trans s2)⟩
    walk_at "wp"
    rw[if_neg (fun z=>nomatch z)]
    cases t with
    |false=>
     have ha:H a=some (.lst xs):=ha
     have hb:H b=some (.lst ys):=hb
     rw[aiw hb rfl,aiw hb rfl,aiw hb rfl]
     refine⟨by decide,af5 hb,iteF ⟨by decide,af5 hb,iteF ⟨by decide,af5 hb,iteF ⟨fun σ H'=>σ=[some (.ref a),some (.ref b),none]∧H'=H,?_,fun σ' H'=>?_⟩⟩⟩⟩
     ·walk_at "wp"
      rw[aga hb,aga ha]
      exact⟨by decide,af5 hb,iteT ⟨by decide,af5 ha,iteF trivial⟩⟩
     rintro⟨rfl,rfl⟩
     refine⟨fun σ H''=>σ=[some (.ref a),some (.ref b),none]∧H''=H',?_,fun σ' H''=>?_⟩
     ·walk_at "wp"
      rw[aiw hb rfl]
      exact⟨by decide,af5 hb,iteF (iteF trivial)⟩
     rintro⟨rfl,rfl⟩
     walk_at "wp"
     refine⟨_,.inl ⟨_,SqL.of ha,rfl⟩,_,.inl ⟨_,SqL.of hb,rfl⟩,?_⟩
     rw[decide_eq_true (by omega)]
     refine iteF ⟨_,.inl ⟨_,SqL.of hb,rfl⟩,by omega,by omega,?_⟩
     refine ahb (fun i σ H1=>∃v2,σ=[some (.ref a),some (.ref b),v2]∧Same H'' H1) ⟨_,rfl,aae⟩ (fun i σ H1 hi=>?_) (fun σ H1=>?_)
     ·rintro⟨v2,rfl,s1⟩
      walk_at "wp"
      obtain⟨x,y,hx1,hy1,hsp⟩:=step i H1 (fun x H2=>∃c,x=V.bl c∧if (!c)=true then Q (V.bl false) H2 else Same H'' H2) (fun c x H'=>E c none H') (by omega) s1 (fun H'' s2=>⟨true,rfl,iteF s2⟩)
      exact .inl ⟨_,SqL.of (s1 _ _ ha),x,by rw[Int.zero_add];exact aac hx1,.inl ⟨_,SqL.of (s1 _ _ hb),y,by rw[Int.zero_add];exact aac hy1,hsp⟩⟩
     ·rintro⟨v2,rfl,s1⟩
      walk_at "wp"
      exact q _ s1
    |true=>
     have ha:H a=some (.tup xs):=ha
     have hb:H b=some (.tup ys):=hb
     rw[aiw hb rfl,aiw hb rfl,aiw hb rfl]
     refine⟨by decide,aha hb,iteF ⟨by decide,aha hb,iteF ⟨by decide,aha hb,iteF ⟨fun σ H'=>σ=[some (.ref a),some (.ref b),none]∧H'=H,?_,fun σ' H'=>?_⟩⟩⟩⟩
     ·walk_at "wp"
      rw[aiw hb rfl]
      exact⟨by decide,aha hb,iteF (iteF trivial)⟩
     rintro⟨rfl,rfl⟩
     refine⟨fun σ H''=>σ=[some (.ref a),some (.ref b),none]∧H''=H',?_,fun σ' H''=>?_⟩
     ·walk_at "wp"
      rw[ajq hb,ajq ha]
      exact⟨by decide,aha hb,iteT ⟨by decide,aha ha,iteF trivial⟩⟩
     rintro⟨rfl,rfl⟩
     walk_at "wp"
     refine⟨_,.inr ⟨_,SqT.of ha,rfl⟩,_,.inr ⟨_,SqT.of hb,rfl⟩,?_⟩
     rw[decide_eq_true (by omega)]
     refine iteF ⟨_,.inr ⟨_,SqT.of hb,rfl⟩,by omega,by omega,?_⟩
     refine ahb (fun i σ H1=>∃v2,σ=[some (.ref a),some (.ref b),v2]∧Same H'' H1) ⟨_,rfl,aae⟩ (fun i σ H1 hi=>?_) (fun σ H1=>?_)
     ·rintro⟨v2,rfl,s1⟩
      walk_at "wp"
      obtain⟨x,y,hx1,hy1,hsp⟩:=step i H1 (fun x H2=>∃c,x=V.bl c∧if (!c)=true then Q (V.bl false) H2 else Same H'' H2) (fun c x H'=>E c none H') (by omega) s1 (fun H'' s2=>⟨true,rfl,iteF s2⟩)
      exact .inr ⟨_,SqT.of (s1 _ _ ha),x,by rw[Int.zero_add];exact aac hx1,.inr ⟨_,SqT.of (s1 _ _ hb),y,by rw[Int.zero_add];exact aac hy1,hsp⟩⟩
     ·rintro⟨v2,rfl,s1⟩
      walk_at "wp"
      exact q _ s1
noncomputable def rg (n:Nat) (h:Int) (j:Nat):List Int:=(List.range j).map fun (i:Nat)=>(h+(i:Int)) % (n:Int)
theorem aoz {n j:Nat} {h:Int}:(rg n h j).length=j:=by unfold rg;rw[List.length_map,List.length_range]
theorem aqa {n j:Nat} {h:Int}:rg n h (j+1)=rg n h j++[(h+j) % (n:Int)]:=by unfold rg;rw[List.range_succ,List.map_append];rfl
noncomputable def sp_sw (K:PySem.W.Frag):Sp:=fun vs H Q _=>∃(m:Addr) (h:Int) (bs:List Bool),vs=[.ref m,.int h]∧SqL K H m (bs.map V.bl)∧0≤h∧h < bs.length∧bs.length≤1000∧
 ∀(t u:Addr) (j:Nat) H',Same H H'→H t=none→H u=none→j≤bs.length→(∀i < j,bs.getD ((h+i) % (bs.length:Int)).toNat false=true)→(j=bs.length∨bs.getD ((h+j) % (bs.length:Int)).toNat false=false)→
  H' t=some (.tup [.int ((h+j) % (bs.length:Int)),.ref u])→H' u=some (.lst ((rg bs.length h j).map V.int))→Q (.ref t) H'
theorem h_sw (T:Txt K mg A):Have P w K mg base "swept" 1 ["marks","hand"] [] (sp_sw K):=by
 refine T.r_swept.have agd (fun vs H Q E z=>?_) ?_
 ·obtain⟨m,h,bs,rfl,_⟩:=z;rfl
 ·intro f cdv A' outer s H vs Q E hr z
  obtain⟨m,h,bs,rfl,hm,h0,h1,h2,q⟩:=z
  refine⟨_,(aak (aax (i:=2) agd.nd rfl (Or.inl rfl) (aco aad))
   (aak (aax (i:=3) agd.nd rfl (Or.inl rfl) (pvM 1))
   (aak (alu PassesOwn.leaving (PW.pt (ad9 (aao apn (aar aa2 rfl T.b_len PySem.boot_len (aaa (pvM 2) aad)) (aar aa2 rfl T.b_len PySem.boot_len (aaa (pvM 0) aad)) (nomark _)) (adc (acz (aam aaj (pvM 0) (pvM 3) (fun _ _=>rfl)))))) (aak (aby (ag3 PySem.F.plainAttrs_list PySem.F.slot_list_append PySem.F.type_list_append adm (pvM 2) (aaa (pvM 3) aad)))
   (aag (aax (i:=3) agd.nd rfl (Or.inl rfl) (aay ab4 (aay adv (pvM 3) aab) (aar aa2 rfl T.b_len PySem.boot_len (aaa (pvM 0) aad)))))))
   (aag (aav (ac7 (aaa (pvM 3) (aaa (pvM 2) aad)))))))),?_⟩
  walk_at "wp"
  intro u hu
  refine akp (fun mm σ H'=>∃j:Nat,mm=bs.length - j∧j≤bs.length∧σ=[some (.ref m),some (.int h),some (.ref u),some (.int ((h+j) % (bs.length:Int)))]∧Same H H'∧H' u=some (.lst ((rg bs.length h j).map V.int))∧(∀i < j,bs.getD ((h+i) % (bs.length:Int)).toNat false=true)) bs.length ⟨0,rfl,Nat.zero_le _,?_,aau aae hu,aah,fun i hi=>absurd hi (Nat.not_lt_zero _)⟩ (fun mm σ H'=>?_)
  ·rw[show (h+((0:Nat):Int)) % (bs.length:Int)=h by rw[Int.emod_eq_of_lt]<;>omega]
  ·rintro⟨j,rfl,hj,rfl,sm,hu',hall⟩
   walk_at "wp"
   refine⟨j,.inl ⟨_,SqL.of hu',by rw[List.length_map,aoz]⟩,bs.length,.inl ⟨_,sm.seq hm,by simp⟩,?_⟩
   have hpos:(0:Int) < bs.length:=by omega
   have hp0:=Int.emod_nonneg (h+j) (show (bs.length:Int)≠0 by omega)
   have hp1:=Int.emod_lt_of_pos (h+j) hpos
   have hat:atI (bs.map V.bl) ((h+j) % (bs.length:Int))=some (.bl (bs.getD ((h+j) % (bs.length:Int)).toNat false)):=by
    generalize (h+j) % (bs.length:Int)=p at *
    have e:=aac (xs:=bs.map V.bl) (j:=p.toNat) (v:=.bl (bs.getD p.toNat false)) (by
     have:p.toNat < bs.length:=by omega
     simp[this])
    rw[show ((p.toNat:Nat):Int)=p by omega] at e
    exact e
   by_cases c:(j:Int) < bs.length
   ·rw[if_pos c]
    refine⟨_,sm.seq hm,_,hat,_,rfl,?_⟩
    cases hb:bs.getD ((h+j) % (bs.length:Int)).toNat false with
    |true=>
     refine iteT (turnW ?_)
     walk_at "wp"
     refine⟨.inl ⟨rfl,_,SqL.of hu'⟩,_,hu',by rw[List.length_map,aoz];omega,bs.length,.inl ⟨_,(abg sm hu).seq hm,by simp⟩,hpos,bs.length - (j+1),by omega,j+1,rfl,by omega,?_,abg sm hu,?_,fun i hi=>?_⟩
     ·rw[Int.emod_add_emod]
      congr 1
      omega
     ·rw[aqa,List.map_append];rfl
     ·rcases (by omega:i < j∨i=j) with hi|rfl
      ·exact hall i hi
      ·exact hb
    |false=>
     refine iteF fun t ht=>?_
     exact q t u j _ (aau sm ht) (aai sm ht) hu hj hall (.inr hb) aah (by rw[aaf (aan hu' ht)];exact hu')
   ·rw[if_neg c]
    refine iteF fun t ht=>?_
    exact q t u j _ (aau sm ht) (aai sm ht) hu hj hall (.inl (by omega)) aah (by rw[aaf (aan hu' ht)];exact hu')
theorem acn {α β:Type} {F:α→β→Prop}:∀{xs:List α} {ys:List β} {i:Nat} {x:α},Paired F xs ys→xs[i]?=some x→∃y,ys[i]?=some y∧F x y
 |_,_,_,_,.nil,e=>by simp at e
 |_,_,0,_,.cons r _,e=>by simp at e;subst e;exact⟨_,rfl,r⟩
 |_,_,i+1,x,.cons _ t,e=>by
  obtain⟨u,h1,h2⟩:=acn (i:=i) (x:=x) t (by simpa using e)
  exact⟨u,by simpa using h1,h2⟩
theorem aa1 {α β:Type} {F:α→β→Prop}:∀{xs:List α} {ys:List β} {i:Nat} {y:β},Paired F xs ys→ys[i]?=some y→∃x,xs[i]?=some x∧F x y
 |_,_,_,_,.nil,e=>by simp at e
 |_,_,0,_,.cons r _,e=>by simp at e;subst e;exact⟨_,rfl,r⟩
 |_,_,i+1,y,.cons _ t,e=>by
  obtain⟨u,h1,h2⟩:=aa1 (i:=i) (y:=y) t (by simpa using e)
  exact⟨u,by simpa using h1,h2⟩
theorem acw {α β:Type} {F:α→β→Prop} {x:α} {y:β} (hxy:F x y):∀{xs:List α} {ys:List β} (i:Nat),Paired F xs ys→Paired F (xs.set i x) (ys.set i y)
 |_,_,_,.nil=>.nil
 |_,_,0,.cons _ t=>.cons hxy t
 |_,_,i+1,.cons r t=>.cons r (acw hxy i t)
set_option genInjectivity false in
structure Sh where
 b:List Int
 ks:List (List Key)
 sh:Addr
 bx:Addr
 hd:Addr
noncomputable def Kp (ex:List Addr) (H H':Hp):Prop:=∀c o,H c=some o→c∉ex→H' c=some o
noncomputable def shF (bx hd:Addr):List (Str×V):=putF "holders" (.ref hd) (putF "boxes" (.ref bx) [])
theorem ae6 {bx hd:Addr}:(shF bx hd).lookup ("boxes":Str)=some (.ref bx):=by rfl
theorem ad6 {bx hd:Addr}:(shF bx hd).lookup ("holders":Str)=some (.ref hd):=by rfl
theorem af7 {bx hd:Addr} {m:Str} (h:¬m∈(["boxes","holders"]:List Str)):(shF bx hd).lookup m=none:=by
 simp only[List.mem_cons,List.not_mem_nil,or_false,not_or] at h
 unfold shF
 simp only[adw,h.1,h.2,if_false]
 rfl
noncomputable def spF (ly tw:Addr):List (Str×V):=putF "twins" (.ref tw) (putF "lying" (.ref ly) [])
theorem aa3 {ly tw:Addr}:(spF ly tw).lookup ("lying":Str)=some (.ref ly):=by rfl
theorem ab2 {ly tw:Addr}:(spF ly tw).lookup ("twins":Str)=some (.ref tw):=by rfl
theorem ahf {ly tw:Addr} {m:Str} (h:¬m∈(["lying","twins"]:List Str)):(spF ly tw).lookup m=none:=by
 simp only[List.mem_cons,List.not_mem_nil,or_false,not_or] at h
 unfold spF
 simp only[adw,h.1,h.2,if_false]
 rfl
set_option genInjectivity false in
structure St where
 fr:List (Option Sh)
 sr:List (Option Sh)
 h:Nat
 go:Int
 ga:Int
 cb:Int
 tf:List (Option Nat)
 ts:List (Option Nat)
noncomputable def ssF (n:Int) (fp sq:Addr) (s:St):List (Str×V):=putF "come_back" (.int s.cb) (putF "gone_astray" (.int s.ga) (putF "gone_out" (.int s.go) (putF "hand" (.int s.h) (putF "slots" (.ref sq) (putF "frames" (.ref fp) (putF "size" (.int n) []))))))
section
variable {n:Int} {fp sq:Addr} {s:St}
theorem aaz:(ssF n fp sq s).lookup ("frames":Str)=some (.ref fp):=by rfl
theorem abq:(ssF n fp sq s).lookup ("slots":Str)=some (.ref sq):=by rfl
theorem age:(ssF n fp sq s).lookup ("hand":Str)=some (.int s.h):=by rfl
theorem aqb:(ssF n fp sq s).lookup ("gone_out":Str)=some (.int s.go):=by rfl
theorem akw:(ssF n fp sq s).lookup ("gone_astray":Str)=some (.int s.ga):=by rfl
theorem an3:(ssF n fp sq s).lookup ("come_back":Str)=some (.int s.cb):=by rfl
theorem abw {m:Str} (h:¬m∈(["size","frames","slots","hand","gone_out","gone_astray","come_back"]:List Str)):(ssF n fp sq s).lookup m=none:=by
 simp only[List.mem_cons,List.not_mem_nil,or_false,not_or] at h
 obtain⟨a1,a2,a3,a4,a5,a6,a7⟩:=h
 unfold ssF
 simp only[adw,a1,a2,a3,a4,a5,a6,a7,if_false]
 rfl
theorem ssF_ph {h:Nat}:putF "hand" (.int (h:Int)) (ssF n fp sq s)=ssF n fp sq {s with h:=h}:=by rfl
theorem ssF_po {x:Int}:putF "gone_out" (.int x) (ssF n fp sq s)=ssF n fp sq {s with go:=x}:=by rfl
theorem ssF_pa {x:Int}:putF "gone_astray" (.int x) (ssF n fp sq s)=ssF n fp sq {s with ga:=x}:=by rfl
theorem ssF_pc {x:Int}:putF "come_back" (.int x) (ssF n fp sq s)=ssF n fp sq {s with cb:=x}:=by rfl
end
noncomputable def ksD (ks:List (List Key)):List (List Key×V):=ks.map fun k=>(k,V.bl true)
noncomputable def ShAt (C:Addr) (H:Hp) (v:V):Option Sh→Prop
 |none=>v=.non
 |some r=>v=.ref r.sh∧(∃dx,H r.sh=some (.ins C dx (shF r.bx r.hd)))∧H r.bx=some (.lst (r.b.map V.int))∧H r.hd=some (.dT (ksD r.ks))
noncomputable abbrev LyAt (C:Addr) (H:Hp):List V→List (Option Sh)→Prop:=Paired (ShAt C H)
theorem ShAt.same {C:Addr} {H H':Hp} (s:Same H H') {v:V}:∀{r:Option Sh},ShAt C H v r→ShAt C H' v r
 |none,h=>h
 |some _,⟨e,⟨dx,h1⟩,h2,h3⟩=>⟨e,⟨dx,s _ _ h1⟩,s _ _ h2,s _ _ h3⟩
theorem LyAt.same {C:Addr} {H H':Hp} (s:Same H H') {vs:List V} {rs:List (Option Sh)} (h:LyAt C H vs rs):LyAt C H' vs rs:=Paired.mapP h fun _ _ q=>q.same s
noncomputable def oV:Option Nat→V
 |none=>.non
 |some j=>.int (j:Int)
noncomputable def SpAt (C S:Addr) (H:Hp) (p ly tw:Addr) (rows:List (Option Sh)) (tws:List (Option Nat)):Prop:=∃dx vs,H p=some (.ins C dx (spF ly tw))∧H ly=some (.lst vs)∧LyAt S H vs rows∧H tw=some (.lst (tws.map oV))∧tws.length=rows.length
theorem SpAt.same {C S:Addr} {H H':Hp} {p ly tw:Addr} {rows:List (Option Sh)} {tws:List (Option Nat)} (h:SpAt C S H p ly tw rows tws) (s:Same H H'):SpAt C S H' p ly tw rows tws:=let ⟨dx,vs,h1,h2,h3,h4,h5⟩:=h;⟨dx,vs,s _ _ h1,s _ _ h2,h3.same s,s _ _ h4,h5⟩
set_option genInjectivity false in
structure Ss where
 p:Addr
 fp:Addr
 ly:Addr
 tw:Addr
 sq:Addr
 ls:Addr
 ts:Addr
 n:Int
noncomputable def Ss.four (z:Ss):List Addr:=[z.ly,z.tw,z.ls,z.ts]
noncomputable def Ks (z:Ss) (H H':Hp):Prop:=∀c o,H c=some o→c≠z.p→c∉z.four→H' c=some o
theorem Ks.trans {z:Ss} {H H1 H2:Hp} (a:Ks z H H1) (b:Ks z H1 H2):Ks z H H2:=fun c o h h1 h2=>b c o (a c o h h1 h2) h1 h2
theorem Ks.of {z:Ss} {H H':Hp} (s:Same H H'):Ks z H H':=fun c o h _ _=>s c o h
noncomputable def Kd (z:Ss) (H H':Hp):Prop:=∀c o,H c=some o→c≠z.p→c∉z.four→(∀kvs,o≠.dT kvs)→H' c=some o
theorem Kd.trans {z:Ss} {H H1 H2:Hp} (a:Kd z H H1) (b:Kd z H1 H2):Kd z H H2:=fun c o h h1 h2 h3=>b c o (a c o h h1 h2 h3) h1 h2 h3
theorem Ks.kd {z:Ss} {H H':Hp} (s:Ks z H H'):Kd z H H':=fun c o h h1 h2 _=>s c o h h1 h2
theorem Kd.of {z:Ss} {H H':Hp} (s:Same H H'):Kd z H H':=fun c o h _ _ _=>s c o h
noncomputable def hds (rows:List (Option Sh)):List Addr:=rows.filterMap fun r=>r.map Sh.hd
structure SsAt (C P S:Addr) (H:Hp) (z:Ss) (s:St):Prop where
 me:∃dx,H z.p=some (.ins C dx (ssF z.n z.fp z.sq s))
 fr:SpAt P S H z.fp z.ly z.tw s.fr s.tf
 sl:SpAt P S H z.sq z.ls z.ts s.sr s.ts
 n4:z.four.Nodup
 bx:∀r,some r∈s.fr∨some r∈s.sr→r.bx∉z.four
 len:s.fr.length≤64∧s.sr.length≤64
 hh:s.h < s.fr.length
theorem SsAt.same {C P S:Addr} {H H':Hp} {z:Ss} {s:St} (h:SsAt C P S H z s) (e:Same H H'):SsAt C P S H' z s:=
 ⟨let ⟨dx,q⟩:=h.me;⟨dx,e _ _ q⟩,h.fr.same e,h.sl.same e,h.n4,h.bx,h.len,h.hh⟩
theorem SsAt.fours {C P S:Addr} {H:Hp} {z:Ss} {s:St} (h:SsAt C P S H z s):∀c∈z.four,∃us,H c=some (.lst us):=fun c hc=>by
 obtain⟨_,_,_,f2,_,f4,_⟩:=id h.fr
 obtain⟨_,_,_,g2,_,g4,_⟩:=id h.sl
 unfold Ss.four at hc
 simp only[List.mem_cons,List.not_mem_nil,or_false] at hc
 rcases hc with rfl|rfl|rfl|rfl
 ·exact⟨_,f2⟩
 ·exact⟨_,f4⟩
 ·exact⟨_,g2⟩
 ·exact⟨_,g4⟩
theorem SsAt.nf {C P S:Addr} {H:Hp} {z:Ss} {s:St} (h:SsAt C P S H z s) {e:Addr} (he:H e=none):e∉z.four:=fun z9=>by obtain⟨us,h⟩:=h.fours _ z9;rw[he] at h;cases h
noncomputable def Ap (s:St):Prop:=(hds (s.fr++s.sr)).Nodup
noncomputable def St.rw (s:St) (f:Bool):List (Option Sh):=if f=true then s.fr else s.sr
noncomputable def St.put (s:St) (f:Bool) (j:Nat) (r:Option Sh):St:=if f=true then {s with fr:=s.fr.set j r} else {s with sr:=s.sr.set j r}
noncomputable def Ss.la (z:Ss) (f:Bool):Addr:=if f=true then z.ly else z.ls
noncomputable def nmS (f:Bool):Str:=if f=true then Str.ofString "frame" else Str.ofString "slot"
theorem ada {z:Ss} {f:Bool}:z.la f∈z.four:=by cases f<;>simp[Ss.la,Ss.four]
theorem SsAt.row {C P S:Addr} {H:Hp} {z:Ss} {s:St} (h:SsAt C P S H z s) (f:Bool):∃vs,H (z.la f)=some (.lst vs)∧LyAt S H vs (s.rw f):=by
 cases f with
 |true=>obtain⟨_,vs,_,h2,h3,_⟩:=h.fr;exact⟨vs,h2,h3⟩
 |false=>obtain⟨_,vs,_,h2,h3,_⟩:=h.sl;exact⟨vs,h2,h3⟩
theorem agy {S a:Addr} {H:Hp} {us:List V} {o:HO} (hl:H a=some (.lst us)) {v:V}:∀{r:Option Sh},ShAt S H v r→(∀q,r=some q→q.bx≠a)→ShAt S (upd H a o) v r
 |none,h,_=>h
 |some r,⟨e,⟨dx,h1⟩,h2,h3⟩,hb=>⟨e,⟨dx,by rw[aaf (aca h1 hl (fun z=>nomatch z))];exact h1⟩,by rw[aaf (hb r rfl)];exact h2,by rw[aaf (aca h3 hl (fun z=>nomatch z))];exact h3⟩
theorem aew {S a:Addr} {H:Hp} {us:List V} {o:HO} (hl:H a=some (.lst us)) {vs:List V} {rows:List (Option Sh)} (h:LyAt S H vs rows) (hb:∀r,some r∈rows→r.bx≠a):LyAt S (upd H a o) vs rows:=by
 induction h with
 |nil=>exact .nil
 |@cons x y _ _ h t ih=>exact .cons (agy hl h fun q e=>hb q (by rw[e];exact List.mem_cons_self ..)) (ih fun r hr=>hb r (List.mem_cons_of_mem _ hr))
theorem ajd {s:St} {f:Bool} {j:Nat} {r:Option Sh} {q:Sh} (h:some q∈(s.put f j r).fr∨some q∈(s.put f j r).sr):some q=r∨some q∈s.fr∨some q∈s.sr:=by
 cases f with
 |true=>
  rcases h with h|h
  ·rcases List.mem_or_eq_of_mem_set (show some q∈s.fr.set j r from h) with h|h
   ·exact .inr (.inl h)
   ·exact .inl h
  ·exact .inr (.inr h)
 |false=>
  rcases h with h|h
  ·exact .inr (.inl h)
  ·rcases List.mem_or_eq_of_mem_set (show some q∈s.sr.set j r from h) with h|h
   ·exact .inr (.inr h)
   ·exact .inl h
theorem SsAt.set {C P S:Addr} {H:Hp} {z:Ss} {s:St} {f:Bool} {vs:List V} {v:V} {r:Option Sh} {j:Nat} (h:SsAt C P S H z s) (hl:H (z.la f)=some (.lst vs)) (hv:ShAt S H v r) (hb:∀q,r=some q→q.bx∉z.four):SsAt C P S (upd H (z.la f) (.lst (vs.set j v))) z (s.put f j r):=by
 obtain⟨dx,h1⟩:=h.me
 obtain⟨dx1,vs1,f1,f2,f3,f4,f5⟩:=id h.fr
 obtain⟨dx2,vs2,g1,g2,g3,g4,g5⟩:=id h.sl
 have n4:=h.n4
 unfold Ss.four at n4
 simp only[List.nodup_cons,List.mem_cons,List.not_mem_nil,or_false,not_or,not_false_eq_true,List.nodup_nil,and_true] at n4
 obtain⟨⟨n1,n2,n3⟩,⟨n5,n6⟩,n7⟩:=n4
 have bx:∀q,some q∈s.fr∨some q∈s.sr→q.bx≠z.la f:=fun q hq e=>h.bx q hq (by rw[e];exact ada)
 have hv2:ShAt S (upd H (z.la f) (.lst (vs.set j v))) v r:=agy hl hv fun q e z9=>hb q e (by rw[z9];exact ada)
 have ni:∀{c D dx fs},H c=some (.ins D dx fs)→upd H (z.la f) (.lst (vs.set j v)) c=some (.ins D dx fs):=fun hc=>by rw[aaf (aca hc hl (fun z=>nomatch z))];exact hc
 have nl:∀{c o},H c=some o→c≠z.la f→upd H (z.la f) (.lst (vs.set j v)) c=some o:=fun hc hn=>by rw[aaf hn];exact hc
 have bx2:∀q,some q∈(s.put f j r).fr∨some q∈(s.put f j r).sr→q.bx∉z.four:=fun q hq=>(ajd hq).elim (fun e=>hb q e.symm) (h.bx q)
 cases f with
 |true=>
  have e9:vs=vs1:=by rw[show z.la true=z.ly from rfl,f2] at hl;cases hl;rfl
  subst e9
  have f4:=nl f4 (Ne.symm n1)
  rw[←List.length_set (as:=s.fr) (i:=j) (a:=r)] at f5
  have len:=h.len
  have hh:=h.hh
  rw[←List.length_set (as:=s.fr) (i:=j) (a:=r)] at len hh
  exact⟨⟨dx,ni h1⟩,⟨dx1,vs.set j v,ni f1,aah,acw hv2 j (aew hl f3 fun q hq=>bx q (.inl hq)),f4,f5⟩,⟨dx2,vs2,ni g1,nl g2 (Ne.symm n2),aew hl g3 fun q hq=>bx q (.inr hq),nl g4 (Ne.symm n3),g5⟩,h.n4,bx2,len,hh⟩
 |false=>
  have e9:vs=vs2:=by rw[show z.la false=z.ls from rfl,g2] at hl;cases hl;rfl
  subst e9
  have g4:=nl g4 (Ne.symm n7)
  rw[←List.length_set (as:=s.sr) (i:=j) (a:=r)] at g5
  have len:=h.len
  rw[←List.length_set (as:=s.sr) (i:=j) (a:=r)] at len
  exact⟨⟨dx,ni h1⟩,⟨dx1,vs1,ni f1,nl f2 n2,aew hl f3 fun q hq=>bx q (.inl hq),nl f4 n5,f5⟩,⟨dx2,vs.set j v,ni g1,aah,acw hv2 j (aew hl g3 fun q hq=>bx q (.inr hq)),g4,g5⟩,h.n4,bx2,len,h.hh⟩
theorem SsAt.num {C P S:Addr} {H:Hp} {z:Ss} {s s':St} {dx:Addr} (h:SsAt C P S H z s) (e:H z.p=some (.ins C dx (ssF z.n z.fp z.sq s))) (e1:s'.fr=s.fr) (e2:s'.sr=s.sr) (e3:s'.h < s.fr.length) (e4:s'.tf=s.tf) (e5:s'.ts=s.ts):SsAt C P S (upd H z.p (.ins C dx (ssF z.n z.fp z.sq s'))) z s':=by
 obtain⟨dx1,vs1,f1,f2,f3,f4,f5⟩:=id h.fr
 obtain⟨dx2,vs2,g1,g2,g3,g4,g5⟩:=id h.sl
 have ho:∀{c o},H c=some o→(∀D d fs,o=.ins D d fs→fs.lookup ("hand":Str)=none)→upd H z.p (.ins C dx (ssF z.n z.fp z.sq s')) c=some o:=fun {c o} hc hn=>by
  rw[aaf (fun e9=>?_)]
  ·exact hc
  ·rw[e9,e] at hc
   have:=hn _ _ _ (Option.some.inj hc).symm
   rw[age] at this
   cases this
 have nl:∀{us D d fs},HO.lst us=.ins D d fs→fs.lookup ("hand":Str)=none:=fun z=>nomatch z
 have sp:∀{a b D d fs} {Q d2:Addr},HO.ins Q d2 (spF a b)=.ins D d fs→fs.lookup ("hand":Str)=none:=fun z=>by cases z;exact ahf (by decide+kernel)
 have sh:∀{v:V} {r:Option Sh},ShAt S H v r→ShAt S (upd H z.p (.ins C dx (ssF z.n z.fp z.sq s'))) v r:=fun {v r} hv=>by
  cases r with
  |none=>exact hv
  |some r=>
   obtain⟨a,⟨d,h1⟩,h2,h3⟩:=hv
   exact⟨a,⟨d,ho h1 fun _ _ _ z=>by cases z;exact af7 (by decide+kernel)⟩,ho h2 fun _ _ _ z=>nl z,ho h3 fun _ _ _ z=>nomatch z⟩
 exact⟨⟨dx,aah⟩,⟨dx1,vs1,ho f1 fun _ _ _ z=>sp z,ho f2 fun _ _ _ z=>nl z,by rw[e1];exact Paired.mapP f3 fun _ _ q=>sh q,by rw[e4];exact ho f4 fun _ _ _ z=>nl z,by rw[e1,e4];exact f5⟩,⟨dx2,vs2,ho g1 fun _ _ _ z=>sp z,ho g2 fun _ _ _ z=>nl z,by rw[e2];exact Paired.mapP g3 fun _ _ q=>sh q,by rw[e5];exact ho g4 fun _ _ _ z=>nl z,by rw[e2,e5];exact g5⟩,h.n4,by rw[e1,e2];exact h.bx,by rw[e1,e2];exact h.len,by rw[e1];exact e3⟩
noncomputable def Ss.ta (z:Ss) (f:Bool):Addr:=if f=true then z.tw else z.ts
noncomputable def St.tn (s:St) (f:Bool):List (Option Nat):=if f=true then s.tf else s.ts
noncomputable def St.tie (s:St) (f:Bool) (j:Nat) (o:Option Nat):St:=if f=true then {s with tf:=s.tf.set j o} else {s with ts:=s.ts.set j o}
theorem aej {z:Ss} {f:Bool}:z.ta f∈z.four:=by cases f<;>simp[Ss.ta,Ss.four]
theorem SsAt.tie {C P S:Addr} {H:Hp} {z:Ss} {s:St} {f:Bool} {j:Nat} {o:Option Nat} (h:SsAt C P S H z s):SsAt C P S (upd H (z.ta f) (.lst (((s.tn f).map oV).set j (oV o)))) z (s.tie f j o):=by
 obtain⟨dx,h1⟩:=h.me
 obtain⟨dx1,vs1,f1,f2,f3,f4,f5⟩:=id h.fr
 obtain⟨dx2,vs2,g1,g2,g3,g4,g5⟩:=id h.sl
 have n4:=h.n4
 unfold Ss.four at n4
 simp only[List.nodup_cons,List.mem_cons,List.not_mem_nil,or_false,not_or,not_false_eq_true,List.nodup_nil,and_true] at n4
 obtain⟨⟨n1,n2,n3⟩,⟨n5,n6⟩,n7⟩:=n4
 have hl:H (z.ta f)=some (.lst ((s.tn f).map oV)):=by cases f with|true=>exact f4|false=>exact g4
 have bx:∀q,some q∈s.fr∨some q∈s.sr→q.bx≠z.ta f:=fun q hq e=>h.bx q hq (by rw[e];exact aej)
 have es:((s.tn f).map oV).set j (oV o)=((s.tn f).set j o).map oV:=by rw[List.map_set]
 rw[es]
 have ni:∀{c D dx fs},H c=some (.ins D dx fs)→upd H (z.ta f) (.lst (((s.tn f).set j o).map oV)) c=some (.ins D dx fs):=fun hc=>by rw[aaf (aca hc hl (fun z=>nomatch z))];exact hc
 have nl:∀{c o'},H c=some o'→c≠z.ta f→upd H (z.ta f) (.lst (((s.tn f).set j o).map oV)) c=some o':=fun hc hn=>by rw[aaf hn];exact hc
 cases f with
 |true=>exact⟨⟨dx,ni h1⟩,⟨dx1,vs1,ni f1,nl f2 n1,aew hl f3 fun q hq=>bx q (.inl hq),aah,by show (s.tf.set j o).length=_;rw[List.length_set];exact f5⟩,⟨dx2,vs2,ni g1,nl g2 (Ne.symm n5),aew hl g3 fun q hq=>bx q (.inr hq),nl g4 (Ne.symm n6),g5⟩,h.n4,h.bx,h.len,h.hh⟩
 |false=>exact⟨⟨dx,ni h1⟩,⟨dx1,vs1,ni f1,nl f2 n3,aew hl f3 fun q hq=>bx q (.inl hq),nl f4 n6,f5⟩,⟨dx2,vs2,ni g1,nl g2 n7,aew hl g3 fun q hq=>bx q (.inr hq),aah,by show (s.ts.set j o).length=_;rw[List.length_set];exact g5⟩,h.n4,h.bx,h.len,h.hh⟩
noncomputable def ao0 (C:Addr):Sp:=fun vs H Q _=>∃(s dx l h:Addr) (bs:List Int) (k:List Key),vs=[.ref s,.ref l,.ref h]∧H s=some (.ins C dx [])∧H l=some (.lst (bs.map V.int))∧H h=some (.tup (k.map kV))∧
 ∀bx hd H',H bx=none→H hd=none→Kp [s] H H'→H' s=some (.ins C dx (shF bx hd))→H' bx=some (.lst (bs.map V.int))→H' hd=some (.dT [(k,.bl true)])→Q .non H'
theorem h_shi (T:Txt K mg A):HaveI P w K mg base "Sheet" A.C_Sheet 1 ["self","boxes","holder"] [] (ao0 A.C_Sheet):=by
 refine T.r_Sheet_init.have ahz (fun vs H Q E z=>?_) ?_
 ·obtain⟨s,dx,l,h,bs,k,rfl,_⟩:=z;rfl
 ·intro f cdv A' outer s H vs Q E hr z
  obtain⟨s,dx,l,h,bs,k,rfl,hs,hl,hh,q⟩:=z
  refine⟨_,(aak (adx (pvM 0) (acf adl rfl T.b_list PyProof.Rows.boot_list (aaa (pvM 1) aad)) rfl)
   (aag (adx (pvM 0) (anu (anj hr) (pvM 2) adp) rfl))),?_⟩
  unfold tDispT
  walk_at "wp"
  refine⟨_,.inl (SqL.of hl),fun bx hbx=>?_⟩
  have b1:=aau (o:=.lst (bs.map V.int)) (aae (H:=H)) hbx
  have nsb:s≠bx:=aan hs hbx
  refine⟨A.C_Sheet,dx,[],b1 _ _ hs,T.cl_Sheet,T.na_Sheet_boxes,by decide,fun hd hhd=>?_⟩
  have nhs:hd≠s:=fun z=>by rw[z,aah] at hhd;cases hhd
  have nhb:hd≠bx:=fun z=>by rw[z,aaf nsb.symm,aah] at hhd;cases hhd
  have hhd0:H hd=none:=by rw[aaf nhs] at hhd;exact aai b1 hhd
  have nhh:h≠hd:=aan hh hhd0
  have nhs2:h≠s:=aca hh hs (fun z=>nomatch z)
  refine⟨k,by rw[aaf nhh,aaf nhs2];exact b1 _ _ hh,A.C_Sheet,dx,putF "boxes" (.ref bx) [],by rw[aaf nhs.symm,aah],T.cl_Sheet,T.na_Sheet_holders,by show 1 < 1000;decide,?_⟩
  refine q bx hd _ hbx hhd0 (fun c o hc hx=>?_) aah ?_ ?_
  ·have ncs:c≠s:=fun z=>hx (by simp[z])
   rw[aaf ncs,aaf (aan hc hhd0),aaf ncs];exact b1 _ _ hc
  ·rw[aaf nsb.symm,aaf nhb.symm,aaf nsb.symm,aah]
  ·rw[aaf nhs,aah]
theorem afc {α β:Type} {F:α→β→Prop} {G:β→α→Prop}:∀{xs:List α} {ys:List β},Paired F xs ys→(∀x y,F x y→G y x)→Paired G ys xs
 |_,_,.nil,_=>.nil
 |_,_,.cons r t,h=>.cons (h _ _ r) (afc t h)
noncomputable def insK (k:List Key):List (List Key)→List (List Key)
 |[]=>[k]
 |x::r=>if kLt k x=true then k::x::r else x::insK k r
noncomputable def srt:List (List Key)→List (List Key)
 |[]=>[]
 |k::r=>insK k (srt r)
theorem ah1 {k:List Key}:∀{l:List (List Key)},(insK k l).Perm (k::l)
 |[]=>List.Perm.refl _
 |x::r=>by
  unfold insK
  split
  ·exact List.Perm.refl _
  ·exact (List.Perm.cons x (ah1 (l:=r))).trans (List.Perm.swap ..)
theorem ab8:∀{l:List (List Key)},(srt l).Perm l
 |[]=>List.Perm.refl _
 |k::r=>(ah1 (l:=srt r)).trans (List.Perm.cons k ab8)
theorem ao1 {k:List Key} (hk:Tri k):∀{l:List (List Key)},(∀x∈l,Tri x)→k∉l→l.Pairwise (kLt · ·=true)→(insK k l).Pairwise (kLt · ·=true)
 |[],_,_,_=>List.pairwise_singleton _ _
 |x::r,ht,hn,h=>by
  unfold insK
  have hx:=ht x (List.mem_cons_self ..)
  obtain⟨h1,h2⟩:=List.pairwise_cons.mp h
  split
  ·rename_i c
   refine List.pairwise_cons.mpr ⟨fun y hy=>?_,h⟩
   rcases List.mem_cons.mp hy with rfl|hy
   ·exact c
   ·exact al8 hk hx (ht y (List.mem_cons_of_mem _ hy)) c (h1 y hy)
  ·rename_i c
   have c2:kLt x k=true:=(aot hk hx (fun e=>hn (by rw[e];exact List.mem_cons_self ..))).resolve_left c
   refine List.pairwise_cons.mpr ⟨fun y hy=>?_,ao1 hk (fun y hy=>ht y (List.mem_cons_of_mem _ hy)) (fun z=>hn (List.mem_cons_of_mem _ z)) h2⟩
   rcases List.mem_cons.mp (ah1.mem_iff.mp hy) with rfl|hy
   ·exact c2
   ·exact h1 y hy
theorem amj:∀{l:List (List Key)},(∀x∈l,Tri x)→l.Nodup→(srt l).Pairwise (kLt · ·=true)
 |[],_,_=>.nil
 |k::r,ht,hn=>ao1 (ht k (List.mem_cons_self ..)) (fun x hx=>ht x (List.mem_cons_of_mem _ (ab8.mem_iff.mp hx))) (fun z=>(List.nodup_cons.mp hn).1 (ab8.mem_iff.mp z)) (amj (fun x hx=>ht x (List.mem_cons_of_mem _ hx)) (List.nodup_cons.mp hn).2)
theorem aj2 {l ks:List (List Key)} (ht:∀x∈l,Tri x) (hn:l.Nodup) (hp:ks.Perm l) (hu:ks.Pairwise (kLt · ·=true)):ks=srt l:=
 aou (hp.trans ab8.symm) (fun k hk=>ht k (hp.mem_iff.mp hk)) hu (amj ht hn)
noncomputable def TdK (H:Hp) (l:Addr) (ks:List (List Key)):Prop:=∃us,H l=some (.lst us)∧Paired (fun v k=>∃a,v=V.ref a∧H a=some (.tup (k.map kV))) us ks
theorem TdK.same {H H':Hp} {l:Addr} {ks:List (List Key)} (h:TdK H l ks) (s:Same H H'):TdK H' l ks:=let ⟨us,h1,h2⟩:=h;⟨us,s _ _ h1,Paired.mapP h2 fun _ _ ⟨a,e,q⟩=>⟨a,e,s _ _ q⟩⟩
noncomputable def Okk (ks:List (List Key)):Prop:=ks.length < 64∧ks.Nodup∧∀k∈ks,Tri k
noncomputable def Okh (r:Sh):Prop:=Okk r.ks
noncomputable def ah2 (C:Addr):Sp:=fun vs H Q _=>∃(v:V) (r:Sh),vs=[v]∧ShAt C H v (some r)∧Okh r∧∀l H',H l=none→Same H H'→TdK H' l (srt r.ks)→Q (.ref l) H'
theorem aj3 (T:Txt K mg A):HaveM P w K mg base A.C_Sheet "told_holders" 1 ["self"] [] (ah2 A.C_Sheet):=by
 refine T.r_Sheet_told_holders.have ae2 (fun vs H Q E z=>?_) ?_
 ·obtain⟨v,r,rfl,_⟩:=z;rfl
 ·intro f cdv A' outer s H vs Q E hr z
  obtain⟨v,r,rfl,⟨rfl,⟨dx,h1⟩,h2,h3⟩,⟨h64,hnd,htr⟩,q⟩:=z
  refine⟨_,(aag (aav (aar (ahw rfl) rfl T.b_sorted PyProof.Rows.boot_sorted (aaa (aaq (pvM 0) rfl) aad)))),?_⟩
  walk_at "wp"
  simp only[h1]
  walk_at "wp"
  have ek:(ksD r.ks).map (·.1)=r.ks:=by unfold ksD;rw[List.map_map];exact List.map_id _
  refine⟨T.cl_Sheet,T.na_Sheet_holders,_,ad6,r.hd,rfl,ksD r.ks,h3,by unfold ksD;rw[List.length_map];exact h64,fun kv hkv=>?_,fun l us ks hl hks hpm hup=>?_⟩
  ·exact htr _ (by rw[←ek];exact List.mem_map.mpr ⟨kv,hkv,rfl⟩)
  ·rw[ek] at hpm
   rw[aj2 htr hnd hpm hup] at hks
   refine q l _ hl (aau aae hl) ⟨us,aah,?_⟩
   exact afc hks fun _ _ ⟨a,e,h⟩=>⟨a,e,(aau aae hl) _ _ h⟩
noncomputable def ao2 (C:Addr):Sp:=fun vs H Q _=>∃(s dx:Addr) (n:Nat),vs=[.ref s,.int n]∧H s=some (.ins C dx [])∧n≤64∧
 ∀ly tw H',H ly=none→H tw=none→ly≠tw→Kp [s] H H'→H' s=some (.ins C dx (spF ly tw))→H' ly=some (.lst (List.replicate n V.non))→H' tw=some (.lst (List.replicate n V.non))→Q .non H'
theorem h_spi (T:Txt K mg A):HaveI P w K mg base "Spots" A.C_Spots 1 ["self","many"] [] (ao2 A.C_Spots):=by
 refine T.r_Spots_init.have ah0 (fun vs H Q E z=>?_) ?_
 ·obtain⟨s,dx,n,rfl,_⟩:=z;rfl
 ·intro f cdv A' outer s H vs Q E hr z
  obtain⟨s,dx,n,rfl,hs,hn,q⟩:=z
  refine⟨_,(aak (adx (pvM 0) (aay aoo (aco (aaa aaw aad)) (pvM 1)) rfl)
   (aag (adx (pvM 0) (aay aoo (aco (aaa aaw aad)) (pvM 1)) rfl))),?_⟩
  unfold rRep
  walk_at "wp"
  have e:∀k:Nat,(List.replicate k [V.non]).flatten=List.replicate k V.non:=fun k=>by
   induction k with
   |zero=>rfl
   |succ k ih=>rw[List.replicate_succ,List.flatten_cons,ih];rfl
  intro l1 hl1
  have b1:=aau (o:=.lst [V.non]) (aae (H:=H)) hl1
  refine⟨[.non],rfl,by omega,by omega,by show 1 * n≤16777216;omega,fun ly hly=>?_⟩
  rw[Int.toNat_natCast,e]
  have hly0:=aai b1 hly
  have b2:=aau (o:=.lst (List.replicate n V.non)) b1 hly
  have nsl:s≠ly:=aan hs hly0
  refine⟨A.C_Spots,dx,[],b2 _ _ hs,T.cl_Spots,T.na_Spots_lying,by decide,fun l2 hl2=>?_⟩
  have k3:∀c o,H c=some o→c≠s→upd (upd (upd H l1 (.lst [V.non])) ly (.lst (List.replicate n V.non))) s (.ins A.C_Spots dx (putF "lying" (.ref ly) [])) c=some o:=fun c o hc hn=>by rw[aaf hn];exact b2 _ _ hc
  have hs3:upd (upd (upd H l1 (.lst [V.non])) ly (.lst (List.replicate n V.non))) s (.ins A.C_Spots dx (putF "lying" (.ref ly) [])) s=some (.ins A.C_Spots dx (putF "lying" (.ref ly) [])):=aah
  have hly3:upd (upd (upd H l1 (.lst [V.non])) ly (.lst (List.replicate n V.non))) s (.ins A.C_Spots dx (putF "lying" (.ref ly) [])) ly=some (.lst (List.replicate n V.non)):=by rw[aaf nsl.symm,aah]
  have n3:∀c,upd (upd (upd H l1 (.lst [V.non])) ly (.lst (List.replicate n V.non))) s (.ins A.C_Spots dx (putF "lying" (.ref ly) [])) c=none→H c=none∧c≠s:=fun c hc=>by
   have ncs:c≠s:=fun z=>by rw[z,aah] at hc;cases hc
   rw[aaf ncs] at hc
   exact⟨aai b2 hc,ncs⟩
  generalize upd (upd (upd H l1 (.lst [V.non])) ly (.lst (List.replicate n V.non))) s (.ins A.C_Spots dx (putF "lying" (.ref ly) []))=H3 at *
  have c4:=aau (o:=.lst [V.non]) (aae (H:=H3)) hl2
  refine⟨[.non],rfl,by omega,by omega,by show 1 * n≤16777216;omega,fun tw htw=>?_⟩
  rw[e]
  have c5:=aau (o:=.lst (List.replicate n V.non)) c4 htw
  have htw3:=aai c4 htw
  refine⟨A.C_Spots,dx,putF "lying" (.ref ly) [],c5 _ _ hs3,T.cl_Spots,T.na_Spots_twins,by show 1 < 1000;decide,?_⟩
  have nts:=(n3 tw htw3).2
  refine q ly tw _ hly0 (n3 tw htw3).1 (aan hly3 htw3) (fun c o hc hx=>?_) aah (by rw[aaf nsl.symm];exact c5 _ _ hly3) (by rw[aaf nts,aah])
  have ncs:c≠s:=fun z=>hx (by simp[z])
  rw[aaf ncs]
  exact c5 _ _ (k3 c o hc ncs)
noncomputable def emp (rows:List (Option Sh)) (tws:List (Option Nat)):Option Nat:=(rows.zip tws).findIdx? fun p=>p.1.isNone&&p.2.isNone
noncomputable def fe (rows:List (Option Sh)) (tws:List (Option Nat)):V:=match emp rows tws with
 |none=>.non
 |some j=>.int (j:Int)
noncomputable def sp_fe (C S:Addr):Sp:=fun vs H Q _=>∃(p ly tw:Addr) (rows:List (Option Sh)) (tws:List (Option Nat)),vs=[.ref p]∧SpAt C S H p ly tw rows tws∧∀H',Same H H'→Q (fe rows tws) H'
theorem h_fe (T:Txt K mg A):HaveM P w K mg base A.C_Spots "first_empty" 1 ["self"] [] (sp_fe A.C_Spots A.C_Sheet):=by
 refine T.r_Spots_first_empty.have acv (fun vs H Q E z=>?_) ?_
 ·obtain⟨p,ly,tw,rows,tws,rfl,_⟩:=z;rfl
 ·intro f cdv A' outer s H vs Q E hr z
  obtain⟨p,ly,tw,rows,tws,rfl,⟨dx,us,h1,h2,h3,h4,h5⟩,q⟩:=z
  refine⟨_,(aak (ady PassesOwn.leaving rfl (ags rfl T.b_enumerate (aaa (aaq (pvM 0) rfl) aad)) (ah9 (n:=2) rfl (adk (aa5 (i:=1) acv.nd rfl (Or.inl rfl)) (adk (aa5 (i:=2) acv.nd rfl (Or.inl rfl)) agl))) (aag (abo (PW.pt (ad9 (aao aea (pvM 2) aaw (nomark _)) (adc (aao aea (aam aaj (aaq (pvM 0) rfl) (pvM 1) (fun _ _=>rfl)) aaw (nomark _))))) (aag (aav (pvM 1))) aas)))
   (aag (aav aaw))),?_⟩
  walk_at "wp"
  simp only[h1]
  walk_at "wp"
  have hul:=Paired.length h3
  have hzl:(rows.zip tws).length=rows.length:=by rw[List.length_zip];omega
  refine⟨T.cl_Spots,T.na_Spots_lying,_,aa3,ly,rfl,⟨_,SqL.of h2⟩,ae1 (xs:=us) (fun i σ H'=>∃v1 v2,σ=[some (.ref p),v1,v2]∧Same H H'∧∀(j:Nat) y,j < i→(rows.zip tws)[j]?=some y→(y.1.isNone&&y.2.isNone)=false) ⟨_,_,rfl,aae,fun j r h=>absurd h (Nat.not_lt_zero _)⟩ (fun i σ H' _ ⟨_,_,_,e,_⟩=>SqL.of (e _ _ h2)) (fun i x tt σ H' hi=>?_) (fun σ H1=>?_)⟩
  ·rintro⟨v1,v2,rfl,s1,hno⟩ ht
   obtain⟨y,hy1,hy2⟩:=acn h3 hi
   have b1:=aau (o:=.tup [V.int i,x]) s1 ht
   have hil:i < rows.length:=(List.getElem?_eq_some_iff.mp hy1).1
   obtain⟨o,ho⟩:∃o,tws[i]?=some o:=⟨_,List.getElem?_eq_getElem (by omega)⟩
   have hzi:(rows.zip tws)[i]?=some (y,o):=by rw[List.getElem?_zip_eq_some];exact⟨hy1,ho⟩
   have go:(y.isNone&&o.isNone)=false→∀(j:Nat) y,j < i+1→(rows.zip tws)[j]?=some y→(y.1.isNone&&y.2.isNone)=false:=fun hb j y' hj hy=>by
    rcases (by omega:j < i∨j=i) with h|rfl
    ·exact hno j y' h hy
    ·rw[hzi] at hy
     cases hy
     exact hb
   cases y with
   |none=>
    obtain rfl:x=.non:=hy2
    walk_at "wp"
    refine⟨_,SqT.of aah,rfl,_,_,rfl,_,_,rfl,rfl,?_⟩
    rw[if_pos rfl]
    refine⟨A.C_Spots,dx,_,b1 _ _ h1,T.cl_Spots,T.na_Spots_twins,_,ab2,tw,rfl,_,_,rfl,SqL.of (b1 _ _ h4),oV o,aac (by rw[List.getElem?_map,ho];rfl),?_⟩
    cases o with
    |none=>
     rw[if_pos (show oV none=V.non from rfl)]
     have e:fe rows tws=.int (i:Int):=by
      have e:emp rows tws=some i:=List.findIdx?_eq_some_iff_getElem.mpr ⟨by omega,by rw[(List.getElem?_eq_some_iff.mp hzi).2];rfl,fun j hj=>by
       rw[hno j _ hj (List.getElem?_eq_getElem (by omega))]
       decide⟩
      unfold fe
      rw[e]
     have hq:=q _ b1
     rw[e] at hq
     exact hq
    |some j=>
     rw[if_neg (fun z=>nomatch z)]
     exact⟨b1,go rfl⟩
   |some r=>
    obtain⟨rfl,_⟩:=hy2
    walk_at "wp"
    refine⟨_,SqT.of aah,rfl,_,_,rfl,_,_,rfl,rfl,?_⟩
    rw[if_neg (fun z=>nomatch z)]
    exact iteF ⟨b1,go rfl⟩
  rintro⟨v1,v2,rfl,s1,hno⟩
  walk_at "wp"
  have e:fe rows tws=.non:=by
   have e:emp rows tws=none:=List.findIdx?_eq_none_iff.mpr fun y hy=>by
    obtain⟨j,hj⟩:=List.mem_iff_getElem?.mp hy
    exact hno j y (by rw[hul,←hzl];exact (List.getElem?_eq_some_iff.mp hj).1) hj
   unfold fe
   rw[e]
  rw[←e]
  exact q _ s1
noncomputable def cnt (rows:List (Option Sh)):Nat:=(rows.filter Option.isSome).length
noncomputable def sp_lc (C S:Addr):Sp:=fun vs H Q _=>∃(p ly tw:Addr) (rows:List (Option Sh)) (tws:List (Option Nat)),vs=[.ref p]∧SpAt C S H p ly tw rows tws∧rows.length≤64∧∀H',Same H H'→Q (.int (cnt rows:Nat)) H'
theorem h_lc (T:Txt K mg A):HaveM P w K mg base A.C_Spots "live_count" 1 ["self"] [] (sp_lc A.C_Spots A.C_Sheet):=by
 refine T.r_Spots_live_count.have afn (fun vs H Q E z=>?_) ?_
 ·obtain⟨p,ly,tw,rows,tws,rfl,_⟩:=z;rfl
 ·intro f cdv A' outer s H vs Q E hr z
  obtain⟨p,ly,tw,rows,tws,rfl,⟨dx,us,h1,h2,h3,h4,_⟩,hlen,q⟩:=z
  refine⟨_,(aag (aav (aar aa2 rfl T.b_len PySem.boot_len (aaa (ade rfl (adu (aaq (pvM 0) rfl)) (x:="sheet") (fs:=[]) (ix:=[]) rfl rfl (fun _ _ _ _ _ _=>(aa5 (i:=0) (show (["sheet"]:List Str).Nodup by decide+kernel) rfl (Or.inl rfl))) (fun _ _ _ _ _ _=>(ajr (aao ace (pvM 0) aaw (nomark _)))) (fun _ _ _ _ _ _=>(pvM 0))) aad)))),?_⟩
  walk_at "wp"
  simp only[h1]
  walk_at "wp"
  have hul:=Paired.length h3
  refine⟨T.cl_Spots,T.na_Spots_lying,_,aa3,ly,rfl,⟨_,SqL.of h2⟩,fun D hD=>ae0 (xs:=us) (fun i ys σ H'=>∃v,σ=[v]∧Same H H'∧H' D=some (.lst ys)∧ys.length=cnt (rows.take i)) ⟨_,rfl,aau aae hD,aah,rfl⟩ (fun i ys σ H' _ ⟨_,_,s2,_⟩=>SqL.of (s2 _ _ h2)) (fun i v ys σ H' hi=>?_) (fun ys σ H'=>?_)⟩
  ·rintro⟨v0,rfl,s1,hD1,hy⟩
   obtain⟨y,hy1,hy2⟩:=acn h3 hi
   have htk:rows.take (i+1)=rows.take i++[y]:=by rw[List.take_add_one,hy1];rfl
   have hc:cnt (rows.take (i+1))=cnt (rows.take i)+(if y.isSome=true then 1 else 0):=by
    unfold cnt
    rw[htk,List.filter_append,List.length_append]
    cases y<;>rfl
   have hle:cnt (rows.take i)≤64:=by
    unfold cnt
    exact Nat.le_trans (List.length_filter_le _ _) (by rw[List.length_take];omega)
   have hz:=PySem.sizeLine_eq
   cases y with
   |none=>
    obtain rfl:v=.non:=hy2
    walk_at "wp"
    exact iteF ⟨s1,hD1,by rw[hc];exact hy⟩
   |some r=>
    obtain⟨rfl,_⟩:=hy2
    walk_at "wp"
    exact iteT ⟨hD1,by omega,abg s1 hD,by rw[List.length_append,hc,hy];rfl⟩
  ·rintro⟨v0,rfl,s1,hD1,hy⟩
   rw[hul,List.take_length] at hy
   refine⟨_,.inl ⟨_,SqL.of hD1,rfl⟩,?_⟩
   rw[hy]
   exact q _ s1
noncomputable def ftw (tws:List (Option Nat)):Option Nat:=tws.findSome? id
noncomputable def sp_ft (C S:Addr):Sp:=fun vs H Q _=>∃(p ly tw:Addr) (rows:List (Option Sh)) (tws:List (Option Nat)),vs=[.ref p]∧SpAt C S H p ly tw rows tws∧∀H',Same H H'→Q (oV (ftw tws)) H'
theorem h_ft (T:Txt K mg A):HaveM P w K mg base A.C_Spots "first_twin" 1 ["self"] [] (sp_ft A.C_Spots A.C_Sheet):=by
 refine T.r_Spots_first_twin.have adz (fun vs H Q E z=>?_) ?_
 ·obtain⟨p,ly,tw,rows,tws,rfl,_⟩:=z;rfl
 ·intro f cdv A' outer s H vs Q E hr z
  obtain⟨p,ly,tw,rows,tws,rfl,⟨dx,us,h1,h2,h3,h4,_⟩,q⟩:=z
  refine⟨_,(aak (ady PassesOwn.leaving rfl (adu (aaq (pvM 0) rfl)) (aa5 (i:=1) adz.nd rfl (Or.inl rfl)) (aag (abo (aao ace (pvM 1) aaw (nomark _)) (aag (aav (pvM 1))) aas)))
   (aag (aav aaw))),?_⟩
  walk_at "wp"
  simp only[h1]
  walk_at "wp"
  refine⟨T.cl_Spots,T.na_Spots_twins,_,ab2,tw,rfl,⟨_,SqL.of h4⟩,aey (xs:=tws.map oV) (fun i σ H'=>∃v1,σ=[some (.ref p),v1]∧Same H H'∧ftw tws=ftw (tws.drop i)) ⟨_,rfl,aae,rfl⟩ (fun i σ H' _ ⟨_,_,e,_⟩=>SqL.of (e _ _ h4)) (fun i x σ H' hi=>?_) (fun σ H1=>?_)⟩
  ·rintro⟨v1,rfl,s1,hd⟩
   rw[List.getElem?_map] at hi
   obtain⟨o,ho,rfl⟩:=Option.map_eq_some_iff.mp hi
   have hdr:tws.drop i=o::tws.drop (i+1):=by
    obtain⟨q1,q2⟩:=List.getElem?_eq_some_iff.mp ho
    rw[←q2];exact List.drop_eq_getElem_cons q1
   walk_at "wp"
   cases o with
   |none=>exact iteF ⟨s1,by rw[hd,hdr];rfl⟩
   |some j=>
    refine iteT ?_
    have e:ftw tws=some j:=by rw[hd,hdr];rfl
    have:=q _ s1
    rw[e] at this
    exact this
  ·rintro⟨v1,rfl,s1,hd⟩
   rw[List.length_map,List.drop_length] at hd
   walk_at "wp"
   have:=q _ s1
   rw[hd] at this
   exact this
theorem aeu {rows:List (Option Sh)} {a:Addr}:a∈hds rows↔∃r,some r∈rows∧r.hd=a:=by
 unfold hds
 rw[List.mem_filterMap]
 refine⟨fun ⟨x,hx,e⟩=>?_,fun ⟨r,hr,e⟩=>⟨some r,hr,by rw[←e];rfl⟩⟩
 cases x with
 |none=>cases e
 |some r=>exact⟨r,hx,Option.some.inj e⟩
theorem ac4 {α β:Type} {F:α→β→Prop} {xs:List α} {ys:List β} {x:α} {y:β} (h:Paired F xs ys) (hx:F x y):Paired F (xs++[x]) (ys++[y]):=by
 induction h with
 |nil=>exact .cons hx .nil
 |cons r t ih=>exact .cons r ih
theorem ixn {n j:Nat} (h:j < n):ixN n (j:Int)=some j:=by
 unfold ixN
 rw[if_pos (by omega),if_pos (by omega)];rfl
noncomputable def live (s:St):Nat:=cnt s.fr+cnt s.sr
noncomputable def room (s:St):Nat:=s.fr.length+s.sr.length
noncomputable def sp_ssi (C P S:Addr):Sp:=fun vs H Q _=>∃(s dx:Addr) (n m:Nat) (z:Int),vs=[.ref s,.int n,.int m,.int z]∧H s=some (.ins C dx [])∧1≤n∧n≤64∧m≤64∧
 ∀H' y,SsAt C P S H' y ⟨List.replicate n none,List.replicate m none,0,0,0,0,List.replicate n none,List.replicate m none⟩→y.p=s→(∀c∈y.four,H c=none)→Kp [s] H H'→Q .non H'
theorem h_ssi (T:Txt K mg A):HaveI P w K mg base "Sheets" A.C_Sheets 3 ["self","frames","slots","size"] [] (sp_ssi A.C_Sheets A.C_Spots A.C_Sheet):=by
 have H_Spots_init:=h_spi (P:=P) (w:=w) (base:=base) T
 refine T.r_Sheets_init.have ag5 (fun vs H Q E z=>?_) ?_
 ·obtain⟨s,dx,n,m,z,rfl,_⟩:=z;rfl
 ·intro f cdv A' outer s H vs Q E hr z
  obtain⟨s,dx,n,m,z,rfl,hs,hn0,hn,hm,q⟩:=z
  refine⟨_,(aak (adx (pvM 0) (pvM 3) rfl)
   (aal (adx (pvM 0) (af9 H_Spots_init (hr.mono (by decide)) aat (aaa (pvM 1) aad)) rfl)
   (aak (adx (pvM 0) (af9 H_Spots_init (hr.mono (by decide)) aat (aaa (pvM 2) aad)) rfl)
   (aak (adx (pvM 0) aab rfl)
   (aak (adx (pvM 0) aab rfl)
   (aak (adx (pvM 0) aab rfl)
   (aag (adx (pvM 0) aab rfl)))))))),?_⟩
  unfold ao2
  walk_at "wp"
  refine⟨A.C_Sheets,dx,[],hs,T.cl_Sheets,T.na_Sheets_size,by decide,?_⟩
  have hs1:upd H s (.ins A.C_Sheets dx (putF "size" (.int z) [])) s=some (.ins A.C_Sheets dx (putF "size" (.int z) [])):=aah
  have k1:∀c o,H c=some o→c≠s→upd H s (.ins A.C_Sheets dx (putF "size" (.int z) [])) c=some o:=fun c o hc hn=>by rw[aaf hn];exact hc
  have n1:∀c,upd H s (.ins A.C_Sheets dx (putF "size" (.int z) [])) c=none→H c=none∧c≠s:=fun c hc=>by
   have ncs:c≠s:=fun z=>by rw[z,aah] at hc;cases hc
   rw[aaf ncs] at hc
   exact⟨hc,ncs⟩
  generalize upd H s (.ins A.C_Sheets dx (putF "size" (.int z) []))=H1 at *
  refine⟨fun σ H'=>∃fp fdx ly tw H2,σ=[some (.ref s),some (.int (n:Int)),some (.int (m:Int)),some (.int z)]∧H1 fp=none∧H1 ly=none∧H1 tw=none∧ly≠tw∧Same H1 H2∧H2 fp=some (.ins A.C_Spots fdx (spF ly tw))∧H2 ly=some (.lst (List.replicate n V.non))∧H2 tw=some (.lst (List.replicate n V.non))∧H'=upd H2 s (.ins A.C_Sheets dx (putF "frames" (.ref fp) (putF "size" (.int z) []))),?_,fun σ' H'=>?_⟩
  ·walk_at "wp"
   intro fp fdx hfp hfdx hne
   refine⟨fdx,n,rfl,rfl,hn,fun ly tw H2 hly htw hlt kp2 a1 a2 a3=>?_⟩
   have sm:=afs (o:=.ins A.C_Spots fdx []) hfp hfdx hne
   have s12:Same H1 H2:=fun c o hc=>kp2 c o (sm c o hc) (fun z=>aan hc hfp (List.mem_singleton.mp z))
   exact⟨A.C_Sheets,dx,_,s12 _ _ hs1,T.cl_Sheets,T.na_Sheets_frames,by show 1 < 1000;decide,fp,hfp,fdx,ly,aai sm hly,tw,aai sm htw,hlt,H2,s12,a1,a2,a3,rfl⟩
  rintro⟨fp,fdx,ly,tw,H2,rfl,hfp,hly1,htw1,hlt,s12,a1,a2,a3,rfl⟩
  walk_at "wp"
  have k3:∀c o,H2 c=some o→c≠s→upd H2 s (.ins A.C_Sheets dx (putF "frames" (.ref fp) (putF "size" (.int z) []))) c=some o:=fun c o hc hn=>by rw[aaf hn];exact hc
  have hs3:upd H2 s (.ins A.C_Sheets dx (putF "frames" (.ref fp) (putF "size" (.int z) []))) s=some (.ins A.C_Sheets dx (putF "frames" (.ref fp) (putF "size" (.int z) []))):=aah
  have n3:∀c,upd H2 s (.ins A.C_Sheets dx (putF "frames" (.ref fp) (putF "size" (.int z) []))) c=none→H2 c=none:=fun c hc=>by
   have ncs:c≠s:=fun z=>by rw[z,aah] at hc;cases hc
   rw[aaf ncs] at hc
   exact hc
  generalize upd H2 s (.ins A.C_Sheets dx (putF "frames" (.ref fp) (putF "size" (.int z) [])))=H3 at *
  intro sq sdx hsq hsdx hne2
  refine⟨sdx,m,rfl,rfl,hm,fun ls ts H4 hls hts hlt2 kp4 c1 c2 c3=>?_⟩
  have sm2:=afs (o:=.ins A.C_Spots sdx []) hsq hsdx hne2
  have s34:Same H3 H4:=fun c o hc=>kp4 c o (sm2 c o hc) (fun z=>aan hc hsq (List.mem_singleton.mp z))
  refine⟨A.C_Sheets,dx,_,s34 _ _ hs3,T.cl_Sheets,T.na_Sheets_slots,by show 2 < 1000;decide,T.cl_Sheets,T.na_Sheets_hand,by show 3 < 1000;decide,T.cl_Sheets,T.na_Sheets_gone_out,by show 4 < 1000;decide,T.cl_Sheets,T.na_Sheets_gone_astray,by show 5 < 1000;decide,T.cl_Sheets,T.na_Sheets_come_back,by show 6 < 1000;decide,?_⟩
  have nfs:=(n1 fp hfp).2
  have nls:=(n1 ly hly1).2
  have nts:=(n1 tw htw1).2
  have g1:=s34 _ _ (k3 _ _ a1 nfs)
  have g2:=s34 _ _ (k3 _ _ a2 nls)
  have g3:=s34 _ _ (k3 _ _ a3 nts)
  have hls3:=aai sm2 hls
  have hts3:=aai sm2 hts
  have nls2:ls≠s:=fun z=>by rw[z,hs3] at hls3;cases hls3
  have nts2:ts≠s:=fun z=>by rw[z,hs3] at hts3;cases hts3
  have nsq:sq≠s:=fun z=>by rw[z,hs3] at hsq;cases hsq
  have e1:∀(kk:Nat) (HH:Hp),LyAt A.C_Sheet HH (List.replicate kk V.non) (List.replicate kk none):=fun kk HH=>by
   induction kk with
   |zero=>exact .nil
   |succ k ih=>exact .cons rfl ih
  have er:∀k:Nat,(List.replicate k (none:Option Nat)).map oV=List.replicate k V.non:=fun k=>by rw[List.map_replicate];rfl
  have hls2:=n3 ls hls3
  have hts2:=n3 ts hts3
  have nlsl:=aan (k3 _ _ a2 nls) hls3
  have nlst:=aan (k3 _ _ a2 nls) hts3
  have ntsl:=aan (k3 _ _ a3 nts) hls3
  have ntst:=aan (k3 _ _ a3 nts) hts3
  refine q _ ⟨s,fp,ly,tw,sq,ls,ts,z⟩ ⟨⟨dx,aah⟩,⟨fdx,_,by rw[aaf nfs];exact g1,by rw[aaf nls];exact g2,e1 n _,by rw[aaf nts,er];exact g3,by rw[List.length_replicate,List.length_replicate]⟩,⟨sdx,_,by rw[aaf nsq];exact c1,by rw[aaf nls2];exact c2,e1 m _,by rw[aaf nts2,er];exact c3,by rw[List.length_replicate,List.length_replicate]⟩,?_,fun r hr=>hr.elim (fun h=>absurd (List.eq_of_mem_replicate h) (fun z=>nomatch z)) (fun h=>absurd (List.eq_of_mem_replicate h) (fun z=>nomatch z)),by show (List.replicate n none).length≤64∧(List.replicate m none).length≤64;rw[List.length_replicate,List.length_replicate];exact⟨hn,hm⟩,by show 0 < (List.replicate n none).length;rw[List.length_replicate];exact hn0⟩ rfl (fun c hc=>?_) (fun c o hc hx=>?_)
  ·show [ly,tw,ls,ts].Nodup
   simp only[List.nodup_cons,List.mem_cons,List.not_mem_nil,or_false,not_or,not_false_eq_true,List.nodup_nil,and_true]
   exact⟨⟨hlt,nlsl,nlst⟩,⟨ntsl,ntst⟩,hlt2⟩
  ·have hc:c∈[ly,tw,ls,ts]:=hc
   simp only[List.mem_cons,List.not_mem_nil,or_false] at hc
   rcases hc with rfl|rfl|rfl|rfl
   ·exact (n1 _ hly1).1
   ·exact (n1 _ htw1).1
   ·exact (n1 _ (aai s12 hls2)).1
   ·exact (n1 _ (aai s12 hts2)).1
  ·have ncs:c≠s:=fun z=>hx (by simp[z])
   rw[aaf ncs]
   exact s34 _ _ (k3 _ _ (s12 _ _ (k1 c o hc ncs)) ncs)
noncomputable def amk (C P S:Addr):Sp:=fun vs H Q _=>∃(z:Ss) (s:St),vs=[.ref z.p]∧SsAt C P S H z s∧∀H',Same H H'→Q (.int (live s:Nat)) H'
theorem ao3 (T:Txt K mg A):HaveM P w K mg base A.C_Sheets "live_sheets" 2 ["self"] [] (amk A.C_Sheets A.C_Spots A.C_Sheet):=by
 have H_Spots_live_count:=h_lc (P:=P) (w:=w) (base:=base) T
 refine T.r_Sheets_live_sheets.have ae4 (fun vs H Q E z=>?_) ?_
 ·obtain⟨z,s,rfl,_⟩:=z;rfl
 ·intro f cdv A' outer s H vs Q E hr z
  obtain⟨z,s,rfl,hS,q⟩:=z
  obtain⟨dx,h1⟩:=hS.me
  refine⟨_,(aag (aav (aay adv (abb (aaq (pvM 0) rfl) T.cl_Spots H_Spots_live_count (hr.mono (by decide)) aat) (abb (aaq (pvM 0) rfl) T.cl_Spots H_Spots_live_count (hr.mono (by decide)) aat)))),?_⟩
  unfold sp_lc
  walk_at "wp"
  simp only[h1]
  walk_at "wp"
  obtain⟨dx1,vs1,f1,_⟩:=id hS.fr
  refine⟨T.cl_Sheets,T.na_Sheets_frames,_,aaz,z.fp,rfl,dx1,_,f1,ahf (by decide+kernel),z.fp,rfl,z.ly,z.tw,s.fr,s.tf,hS.fr,hS.len.1,fun H1 s1=>?_⟩
  obtain⟨dx2,vs2,f2,_⟩:=id hS.sl
  refine⟨_,dx,_,s1 _ _ h1,T.cl_Sheets,T.na_Sheets_slots,_,abq,z.sq,rfl,dx2,_,s1 _ _ f2,ahf (by decide+kernel),z.sq,rfl,z.ls,z.ts,s.sr,s.ts,hS.sl.same s1,hS.len.2,fun H2 s2=>?_⟩
  exact q _ (s1.trans s2)
noncomputable def aml (C P S:Addr):Sp:=fun vs H Q _=>∃(z:Ss) (s:St),vs=[.ref z.p]∧SsAt C P S H z s∧∀H',Same H H'→Q (.bl (decide ((live s:Int)≥(s.fr.length:Int)+(s.sr.length:Int)))) H'
theorem h_full (T:Txt K mg A):HaveM P w K mg base A.C_Sheets "is_full" 3 ["self"] [] (aml A.C_Sheets A.C_Spots A.C_Sheet):=by
 have H_Sheets_live_sheets:=ao3 (P:=P) (w:=w) (base:=base) T
 refine T.r_Sheets_is_full.have af1 (fun vs H Q E z=>?_) ?_
 ·obtain⟨z,s,rfl,_⟩:=z;rfl
 ·intro f cdv A' outer s H vs Q E hr z
  obtain⟨z,s,rfl,hS,q⟩:=z
  obtain⟨dx,h1⟩:=hS.me
  refine⟨_,(aag (aav (ac0 op_ge (abb (pvM 0) T.cl_Sheets H_Sheets_live_sheets (hr.mono (by decide)) aat) (aay adv (aar aa2 rfl T.b_len PySem.boot_len (aaa (aaq (aaq (pvM 0) rfl) rfl) aad)) (aar aa2 rfl T.b_len PySem.boot_len (aaa (aaq (aaq (pvM 0) rfl) rfl) aad))) (nomark _)))),?_⟩
  unfold amk
  walk_at "wp"
  simp only[h1]
  walk_at "wp"
  obtain⟨dx1,vs1,f1,f2,f3,f4⟩:=id hS.fr
  obtain⟨dx2,vs2,g1,g2,g3,g4⟩:=id hS.sl
  have l1:=Paired.length f3
  have l2:=Paired.length g3
  refine⟨abw (by decide+kernel),z,rfl,s,hS,fun H1 s1=>⟨_,dx,_,s1 _ _ h1,T.cl_Sheets,T.na_Sheets_frames,_,aaz,z.fp,rfl,_,dx1,_,s1 _ _ f1,T.cl_Spots,T.na_Spots_lying,_,aa3,_,.inl ⟨_,SqL.of (s1 _ _ f2),rfl⟩,_,dx,_,s1 _ _ h1,T.cl_Sheets,T.na_Sheets_slots,_,abq,z.sq,rfl,_,dx2,_,s1 _ _ g1,T.cl_Spots,T.na_Spots_lying,_,aa3,_,.inl ⟨_,SqL.of (s1 _ _ g2),rfl⟩,?_⟩⟩
  rw[l1,l2]
  exact q _ s1
theorem ifn {p q:Prop} {b:Bool} (h:b=false) (x:q):if b=true then p else q:=by rw[h];exact x
theorem ifp {p q:Prop} {b:Bool} (h:b=true) (x:p):if b=true then p else q:=by rw[h];exact x
theorem aa4 {H:Hp} {p:Addr} {o:HO} (h:H p=none):Same H (upd H p o)∧upd H p o p=some o:=⟨aau aae h,aah⟩
theorem acx {a b:List (Option Sh)}:hds (a++b)=hds a++hds b:=by unfold hds;rw[List.filterMap_append]
theorem afd:∀{rows:List (Option Sh)} {j:Nat} {r:Sh},rows[j]?=some none→(hds (rows.set j (some r))).Perm (r.hd::hds rows):=by
 intro rows
 induction rows with
 |nil=>intro j r h;simp at h
 |cons x l ih=>
  intro j r h
  cases j with
  |zero=>
   simp at h
   subst h
   exact List.Perm.refl _
  |succ j=>
   have:=ih (j:=j) (r:=r) (by simpa using h)
   cases x with
   |none=>exact this
   |some y=>exact (List.Perm.cons y.hd this).trans (List.Perm.swap ..)
theorem agf {rows:List (Option Sh)} {j:Nat} {q:Sh} (h:rows[j]?=some (some q)):(hds rows).Perm (q.hd::hds (rows.set j none)):=by
 obtain⟨h1,h2⟩:=List.getElem?_eq_some_iff.mp h
 have:=afd (rows:=rows.set j none) (j:=j) (r:=q) (by rw[List.getElem?_set_self h1])
 rw[List.set_set,←h2,List.set_getElem_self] at this
 exact this
theorem ao4 {C S:Addr} {G:Hp} {z:Ss} {s s':St} {dx:Addr} (e:G z.p=some (.ins C dx (ssF z.n z.fp z.sq s))) {v:V} {r:Option Sh} (hv:ShAt S G v r):ShAt S (upd G z.p (.ins C dx (ssF z.n z.fp z.sq s'))) v r:=by
 have ho:∀{c o},G c=some o→(∀D d fs,o=.ins D d fs→fs.lookup ("hand":Str)=none)→upd G z.p (.ins C dx (ssF z.n z.fp z.sq s')) c=some o:=fun {c o} hc hn=>by
  rw[aaf (fun e9=>?_)]
  ·exact hc
  ·rw[e9,e] at hc
   have:=hn _ _ _ (Option.some.inj hc).symm
   rw[age] at this
   cases this
 cases r with
 |none=>exact hv
 |some r=>
  obtain⟨a,⟨d,h1⟩,h2,h3⟩:=hv
  exact⟨a,⟨d,ho h1 fun _ _ _ z=>by cases z;exact af7 (by decide+kernel)⟩,ho h2 fun _ _ _ z=>(nomatch z),ho h3 fun _ _ _ z=>nomatch z⟩
theorem aj4 {z:Ss} {H G:Hp} {o:HO} (k:Ks z H G):Ks z H (upd G z.p o):=fun c o' h h1 h2=>by rw[aaf h1];exact k c o' h h1 h2
theorem aix {z:Ss} {H G:Hp} {f:Bool} {o:HO} (k:Ks z H G):Ks z H (upd G (z.la f) o):=fun c o' h h1 h2=>by rw[aaf (fun e=>h2 (by rw[e];exact ada))];exact k c o' h h1 h2
noncomputable def Swp (ms:List Bool) (h i:Nat) (ps:List Int):Prop:=∃j:Nat,j≤ms.length∧(∀t < j,ms.getD (((h:Int)+t) % (ms.length:Int)).toNat false=true)∧(j=ms.length∨ms.getD (((h:Int)+j) % (ms.length:Int)).toNat false=false)∧(i:Int)=((h:Int)+j) % (ms.length:Int)∧ps=rg ms.length h j
theorem akx {z:Ss} {H G:Hp} {f:Bool} {o:HO} (k:Ks z H G):Ks z H (upd G (z.ta f) o):=fun c o' h h1 h2=>by rw[aaf (fun e=>h2 (by rw[e];exact aej))];exact k c o' h h1 h2
noncomputable def slotF (s:St) (i:Nat) (c:Option Nat):Option Nat:=match s.tf[i]? with
 |some (some j)=>some j
 |_=>match emp s.sr s.ts with
  |some j=>some j
  |none=>match ftw s.tf with
   |some j=>some j
   |none=>c
noncomputable def sp_sf (C P S:Addr):Sp:=fun vs H Q _=>∃(z:Ss) (s:St) (i:Nat) (c:Option Nat),vs=[.ref z.p,.int i,oV c]∧SsAt C P S H z s∧i < s.fr.length∧∀H',Same H H'→Q (oV (slotF s i c)) H'
theorem h_sf (T:Txt K mg A):HaveM P w K mg base A.C_Sheets "slot_for" 2 ["self","frame","coming_from"] [] (sp_sf A.C_Sheets A.C_Spots A.C_Sheet):=by
 have H_Spots_first_empty:=h_fe (P:=P) (w:=w) (base:=base) T
 have H_Spots_first_twin:=h_ft (P:=P) (w:=w) (base:=base) T
 refine T.r_Sheets_slot_for.have ac8 (fun vs H Q E z=>?_) ?_
 ·obtain⟨z,s,i,v,rfl,_⟩:=z;rfl
 ·intro f cdv A' outer s H vs Q E hr z
  obtain⟨z,s,i,c,rfl,hS,hi,q⟩:=z
  obtain⟨dx,h1⟩:=hS.me
  obtain⟨dx1,vs1,f1,f2,f3,f4,f5⟩:=id hS.fr
  obtain⟨dx2,vs2,g1,g2,g3,g4,g5⟩:=id hS.sl
  obtain⟨o,ho⟩:∃o,s.tf[i]?=some o:=⟨_,List.getElem?_eq_getElem (by omega)⟩
  have hat:atI (s.tf.map oV) (i:Int)=some (oV o):=aac (by rw[List.getElem?_map,ho];rfl)
  refine⟨_,(aak (abo (aao ace (aam aaj (aaq (aaq (pvM 0) rfl) rfl) (pvM 1) (fun _ _=>rfl)) aaw (nomark _)) (aag (aav (aam aaj (aaq (aaq (pvM 0) rfl) rfl) (pvM 1) (fun _ _=>rfl)))) aas)
   (aak (aax (i:=3) ac8.nd rfl (Or.inl rfl) (abb (aaq (pvM 0) rfl) T.cl_Spots H_Spots_first_empty (hr.mono (by decide)) aat))
   (aak (abo (aao ace (pvM 3) aaw (nomark _)) (aag (aav (pvM 3))) aas)
   (aak (aax (i:=4) ac8.nd rfl (Or.inl rfl) (abb (aaq (pvM 0) rfl) T.cl_Spots H_Spots_first_twin (hr.mono (by decide)) aat))
   (aag (aav (afp (aao aea (pvM 4) aaw (nomark _)) (pvM 2) (pvM 4)))))))),?_⟩
  walk_at "wp"
  simp only[h1]
  walk_at "wp"
  refine⟨T.cl_Sheets,T.na_Sheets_frames,_,aaz,z.fp,rfl,_,dx1,_,f1,T.cl_Spots,T.na_Spots_twins,_,ab2,z.tw,rfl,_,SqL.of f4,oV o,hat,?_⟩
  unfold slotF at q
  rw[ho] at q
  cases o with
  |some j=>
   rw[decide_eq_false (show ¬(oV (some j)=V.non) from fun z=>nomatch z)]
   refine iteT ⟨T.cl_Sheets,T.na_Sheets_frames,_,aaz,z.fp,rfl,_,dx1,_,f1,T.cl_Spots,T.na_Spots_twins,_,ab2,z.tw,rfl,_,SqL.of f4,oV (some j),hat,?_⟩
   exact q H aae
  |none=>
   rw[decide_eq_true (show oV none=V.non from rfl)]
   refine iteF ⟨T.cl_Sheets,T.na_Sheets_slots,_,abq,z.sq,rfl,dx2,_,g1,ahf (by decide+kernel),z.sq,z.ls,z.ts,s.sr,s.ts,rfl,hS.sl,fun H1 s1=>?_⟩
   unfold fe
   cases e9:emp s.sr s.ts with
   |some j=>
    rw[e9] at q
    rw[decide_eq_false (fun z=>nomatch z)]
    exact iteT (q H1 s1)
   |none=>
    rw[e9] at q
    rw[decide_eq_true (rfl:V.non=V.non)]
    refine iteF ⟨_,dx,_,s1 _ _ h1,T.cl_Sheets,T.na_Sheets_frames,_,aaz,z.fp,rfl,dx1,_,s1 _ _ f1,ahf (by decide+kernel),z.fp,z.ly,z.tw,s.fr,s.tf,rfl,hS.fr.same s1,fun H2 s2=>?_⟩
    have q2:=q H2 (s1.trans s2)
    cases e8:ftw s.tf with
    |none=>
     rw[e8] at q2
     show if oV none=V.non then _ else _
     rw[if_pos (show oV none=V.non from rfl)]
     exact q2
    |some j=>
     rw[e8] at q2
     show if oV (some j)=V.non then _ else _
     rw[if_neg (show ¬(oV (some j)=V.non) from fun z=>nomatch z)]
     exact q2
noncomputable def untie (s:St) (i:Nat):St:=match s.tf[i]? with
 |some (some j)=>(s.tie true i none).tie false j none
 |_=>s
noncomputable def aqc (C P S:Addr):Sp:=fun vs H Q _=>∃(z:Ss) (s:St) (i:Nat),vs=[.ref z.p,.int i]∧SsAt C P S H z s∧i < s.fr.length∧(∀j,s.tf[i]?=some (some j)→j < s.sr.length)∧∀H',SsAt C P S H' z (untie s i)→Ks z H H'→(∀v r,r.bx∉z.four→ShAt S H v (some r)→ShAt S H' v (some r))→Q .non H'
theorem amm (T:Txt K mg A):HaveM P w K mg base A.C_Sheets "lose_twin" 1 ["self","frame"] [] (aqc A.C_Sheets A.C_Spots A.C_Sheet):=by
 refine T.r_Sheets_lose_twin.have ad2 (fun vs H Q E z=>?_) ?_
 ·obtain⟨z,s,j,rfl,_⟩:=z;rfl
 ·intro f cdv A' outer s H vs Q E hr z
  obtain⟨z,s,i,rfl,hS,hi,hb,q⟩:=z
  obtain⟨dx,h1⟩:=hS.me
  obtain⟨dx1,vs1,f1,f2,f3,f4,f5⟩:=id hS.fr
  obtain⟨o,ho⟩:∃o,s.tf[i]?=some o:=⟨_,List.getElem?_eq_getElem (by omega)⟩
  have hat:atI (s.tf.map oV) (i:Int)=some (oV o):=aac (by rw[List.getElem?_map,ho];rfl)
  refine⟨_,(aak (aax (i:=2) ad2.nd rfl (Or.inl rfl) (aam aaj (aaq (aaq (pvM 0) rfl) rfl) (pvM 1) (fun _ _=>rfl)))
   (aag (abo (aao ace (pvM 2) aaw (nomark _)) (aak (ac6 aaw (ac5 (aaq (aaq (pvM 0) rfl) rfl) (pvM 1) abx))
   (aag (ac6 aaw (ac5 (aaq (aaq (pvM 0) rfl) rfl) (pvM 2) abx)))) aas))),?_⟩
  walk_at "wp"
  simp only[h1]
  walk_at "wp"
  refine⟨T.cl_Sheets,T.na_Sheets_frames,_,aaz,z.fp,rfl,_,dx1,_,f1,T.cl_Spots,T.na_Spots_twins,_,ab2,z.tw,rfl,_,SqL.of f4,oV o,hat,?_⟩
  unfold untie at q
  rw[ho] at q
  cases o with
  |none=>
   rw[decide_eq_true (show oV none=V.non from rfl)]
   exact iteF (q H hS (Ks.of aae) fun _ _ _ h=>h)
  |some j=>
   rw[decide_eq_false (show ¬(oV (some j)=V.non) from fun z=>nomatch z)]
   refine iteT ?_
   have hj:=hb j ho
   refine⟨T.cl_Sheets,T.na_Sheets_frames,_,aaz,z.fp,rfl,_,dx1,_,f1,T.cl_Spots,T.na_Spots_twins,_,ab2,z.tw,rfl,_,f4,i,ixn (by rw[List.length_map];omega),?_⟩
   have S1:SsAt A.C_Sheets A.C_Spots A.C_Sheet (upd H z.tw (.lst ((s.tf.map oV).set i .non))) z (s.tie true i none):=hS.tie (f:=true) (j:=i) (o:=none)
   have k1:Ks z H (upd H z.tw (.lst ((s.tf.map oV).set i .non))):=akx (f:=true) (Ks.of aae)
   have w1:∀v r,r.bx∉z.four→ShAt A.C_Sheet H v (some r)→ShAt A.C_Sheet (upd H z.tw (.lst ((s.tf.map oV).set i .non))) v (some r):=fun v r hb h=>agy f4 h fun q e z9=>by cases e;exact hb (by rw[z9];exact aej (f:=true))
   generalize upd H z.tw _=J at *
   obtain⟨dx9,h9⟩:=S1.me
   obtain⟨dx8,vs8,e1,e2,e3,e4,e5⟩:=id S1.sl
   have e4:J z.ts=some (.lst (s.ts.map oV)):=e4
   have e5:s.ts.length=s.sr.length:=e5
   refine⟨_,dx9,_,h9,T.cl_Sheets,T.na_Sheets_slots,_,abq,z.sq,rfl,_,dx8,_,e1,T.cl_Spots,T.na_Spots_twins,_,ab2,z.ts,rfl,_,(j:Int),rfl,e4,j,ixn (by rw[List.length_map];omega),?_⟩
   exact q _ (S1.tie (f:=false) (j:=j) (o:=none)) (akx (f:=false) k1) fun v r hb h=>agy e4 (w1 v r hb h) fun q e z9=>by cases e;exact hb (by rw[z9];exact aej (f:=false))
structure Tw (s:St):Prop where
 there:∀i j:Nat,s.tf[i]?=some (some j)→s.ts[j]?=some (some i)
 back:∀i j:Nat,s.ts[j]?=some (some i)→s.tf[i]?=some (some j)
 full:∀i j:Nat,s.tf[i]?=some (some j)→∃r,s.fr[i]?=some (some r)
 bare:∀i j:Nat,s.ts[j]?=some (some i)→s.sr[j]?=some none
theorem acb {s:St} {i:Nat}:(untie s i).fr=s.fr∧(untie s i).sr=s.sr∧(untie s i).h=s.h∧(untie s i).go=s.go∧(untie s i).ga=s.ga∧(untie s i).cb=s.cb:=by
 unfold untie
 split<;>exact⟨rfl,rfl,rfl,rfl,rfl,rfl⟩
noncomputable def clr (s:St) (j:Nat):St:=match s.ts[j]? with
 |some (some k)=>untie s k
 |_=>s
theorem ahg {s:St} {j:Nat}:(clr s j).fr=s.fr∧(clr s j).sr=s.sr∧(clr s j).h=s.h∧(clr s j).go=s.go∧(clr s j).ga=s.ga∧(clr s j).cb=s.cb:=by
 unfold clr
 split
 ·exact acb
 ·exact⟨rfl,rfl,rfl,rfl,rfl,rfl⟩
noncomputable def outN (s:St) (i j:Nat):St:={s with go:=s.go+1,ga:=if s.tf[i]?=some (some j) then s.ga else s.ga+1}
noncomputable def outS (s:St) (i j:Nat) (r:Sh):St:=((clr (outN s i j) j).put false j (some r)).put true i none
theorem af3 {s:St} {i j:Nat} {r:Sh}:(outS s i j r).fr=s.fr.set i none∧(outS s i j r).sr=s.sr.set j (some r)∧(outS s i j r).h=s.h∧(outS s i j r).go=s.go+1∧(outS s i j r).ga=(if s.tf[i]?=some (some j) then s.ga else s.ga+1)∧(outS s i j r).cb=s.cb∧(outS s i j r).tf=(clr s j).tf∧(outS s i j r).ts=(clr s j).ts:=by
 have e:clr (outN s i j) j={clr s j with go:=s.go+1,ga:=if s.tf[i]?=some (some j) then s.ga else s.ga+1}:=by
  have eu:∀k,untie (outN s i j) k={untie s k with go:=s.go+1,ga:=if s.tf[i]?=some (some j) then s.ga else s.ga+1}:=fun k=>by
   unfold untie
   show (match s.tf[k]? with|some (some j2)=>((outN s i j).tie true k none).tie false j2 none|_=>outN s i j)=_
   cases e2:s.tf[k]? with
   |none=>rfl
   |some u=>cases u with
    |none=>rfl
    |some l=>rfl
  unfold clr
  show (match s.ts[j]? with|some (some k)=>untie (outN s i j) k|_=>outN s i j)=_
  cases e1:s.ts[j]? with
  |none=>rfl
  |some u=>cases u with
   |none=>rfl
   |some k=>exact eu k
 unfold outS
 rw[e]
 exact⟨by show (clr s j).fr.set i none=_;rw[ahg.1],by show (clr s j).sr.set j (some r)=_;rw[ahg.2.1],ahg.2.2.1,rfl,rfl,ahg.2.2.2.2.2,rfl,rfl⟩
noncomputable def sp_out (C P S:Addr):Sp:=fun vs H Q _=>∃(z:Ss) (s:St) (i j:Nat) (c:Option Nat) (r:Sh),vs=[.ref z.p,.int i,oV c]∧SsAt C P S H z s∧Tw s∧s.fr[i]?=some (some r)∧Okh r∧j < s.sr.length∧slotF s i c=some j∧
 ∀H' t l,SsAt C P S H' z (outS s i j r)→H' t=some (.tup [.int j,.ref l])→TdK H' l (srt r.ks)→l∉z.four→Ks z H H'→Q (.ref t) H'
theorem h_out (T:Txt K mg A):HaveM P w K mg base A.C_Sheets "put_out" 3 ["self","frame","coming_from"] [] (sp_out A.C_Sheets A.C_Spots A.C_Sheet):=by
 have H_Sheets_slot_for:=h_sf (P:=P) (w:=w) (base:=base) T
 have H_Sheets_lose_twin:=amm (P:=P) (w:=w) (base:=base) T
 have H_Sheet_told_holders:=aj3 (P:=P) (w:=w) (base:=base) T
 refine T.r_Sheets_put_out.have adf (fun vs H Q E z=>?_) ?_
 ·obtain⟨z,s,i,j,v,r,rfl,_⟩:=z;rfl
 ·intro f cdv A' outer s H vs Q E hr z
  obtain⟨z,s,i,j,c,r,rfl,hS,hT,hri,hok,hj,hsf,q⟩:=z
  obtain⟨dx,h1⟩:=hS.me
  obtain⟨dx1,vs1,f1,f2,f3,f4,f5⟩:=id hS.fr
  obtain⟨dx2,vs2,g1',g2',g3',g4',g5'⟩:=id hS.sl
  obtain⟨v1,hv1,rfl,⟨dxr,g1⟩,g2,g3⟩:=aa1 f3 hri
  have hil:=(List.getElem?_eq_some_iff.mp hri).1
  have hbr:r.bx∉z.four:=hS.bx r (.inl (List.mem_of_getElem? hri))
  obtain⟨o,ho⟩:∃o,s.tf[i]?=some o:=⟨_,List.getElem?_eq_getElem (by omega)⟩
  have hat:atI (s.tf.map oV) (i:Int)=some (oV o):=aac (by rw[List.getElem?_map,ho];rfl)
  obtain⟨u,hu⟩:∃u,s.ts[j]?=some u:=⟨_,List.getElem?_eq_getElem (by omega)⟩
  have hau:atI (s.ts.map oV) (j:Int)=some (oV u):=aac (by rw[List.getElem?_map,hu];rfl)
  refine⟨_,(aak (aax (i:=3) adf.nd rfl (Or.inl rfl) (aam aaj (aaq (aaq (pvM 0) rfl) rfl) (pvM 1) (fun _ _=>rfl)))
   (aal (aax (i:=4) adf.nd rfl (Or.inl rfl) (aa6 (pvM 0) T.cl_Sheets H_Sheets_slot_for (hr.mono (by decide)) aat (aaa (pvM 1) (aaa (pvM 2) aad))))
   (aal (adx (pvM 0) (aay adv (aaq (pvM 0) rfl) aab) rfl)
   (aal (abo (aao ak8 (pvM 4) (aam aaj (aaq (aaq (pvM 0) rfl) rfl) (pvM 1) (fun _ _=>rfl)) (nomark _)) (aag (adx (pvM 0) (aay adv (aaq (pvM 0) rfl) aab) rfl)) aas)
   (aal (abo (aao ace (aam aaj (aaq (aaq (pvM 0) rfl) rfl) (pvM 4) (fun _ _=>rfl)) aaw (nomark _)) (aag (aby (aa6 (pvM 0) T.cl_Sheets H_Sheets_lose_twin (hr.mono (by decide)) aat (aaa (aam aaj (aaq (aaq (pvM 0) rfl) rfl) (pvM 4) (fun _ _=>rfl)) aad)))) aas)
   (aal (ac6 (pvM 3) (ac5 (aaq (aaq (pvM 0) rfl) rfl) (pvM 4) abx))
   (aal (ac6 aaw (ac5 (aaq (aaq (pvM 0) rfl) rfl) (pvM 1) abx))
   (aag (aav (ac7 (aaa (pvM 4) (aaa (abb (pvM 3) T.cl_Sheet H_Sheet_told_holders (hr.mono (by decide)) aat) aad)))))))))))),?_⟩
  walk_at "wp"
  simp only[h1]
  walk_at "wp"
  refine⟨T.cl_Sheets,T.na_Sheets_frames,_,aaz,z.fp,rfl,_,dx1,_,f1,T.cl_Spots,T.na_Spots_lying,_,aa3,z.ly,rfl,_,SqL.of f2,_,aac hv1,?_⟩
  refine⟨fun σ G=>σ=[some (.ref z.p),some (.int i),some (oV c),some (.ref r.sh),some (.int j)]∧Same H G,?_,fun σ1 G1=>?_⟩
  ·walk_at "wp"
   exact⟨dx,_,h1,abw (by decide+kernel),z,s,i,c,rfl,hS,hil,fun H' s1=>⟨by rw[hsf];rfl,s1⟩⟩
  rintro⟨rfl,s1⟩
  have hS1:=hS.same s1
  have sh1:ShAt A.C_Sheet G1 (.ref r.sh) (some r):=ShAt.same s1 ⟨rfl,⟨dxr,g1⟩,g2,g3⟩
  have k1:Ks z H G1:=Ks.of s1
  clear s1
  refine⟨fun σ G=>σ=[some (.ref z.p),some (.int i),some (oV c),some (.ref r.sh),some (.int j)]∧SsAt A.C_Sheets A.C_Spots A.C_Sheet G z {s with go:=s.go+1}∧Ks z H G∧ShAt A.C_Sheet G (.ref r.sh) (some r),?_,fun σ2 G2=>?_⟩
  ·obtain⟨dx9,h9⟩:=hS1.me
   walk_at "wp"
   refine⟨_,dx9,_,h9,T.cl_Sheets,T.na_Sheets_gone_out,_,aqb,s.go,rfl,_,dx9,_,h9,T.cl_Sheets,T.na_Sheets_gone_out,by show 7 < 1000;decide,?_⟩
   rw[ssF_po]
   exact⟨hS1.num h9 rfl rfl hS1.hh rfl rfl,aj4 k1,ao4 h9 sh1⟩
  rintro⟨rfl,hS2,k2,sh2⟩
  clear hS1 sh1 k1
  refine⟨fun σ G=>σ=[some (.ref z.p),some (.int i),some (oV c),some (.ref r.sh),some (.int j)]∧SsAt A.C_Sheets A.C_Spots A.C_Sheet G z (outN s i j)∧Ks z H G∧ShAt A.C_Sheet G (.ref r.sh) (some r),?_,fun σ3 G3=>?_⟩
  ·obtain⟨dx9,h9⟩:=hS2.me
   obtain⟨dx8,vs8,e1,e2,e3,e4,e5⟩:=id hS2.fr
   walk_at "wp"
   have fin:s.tf[i]?≠some (some j)→SsAt A.C_Sheets A.C_Spots A.C_Sheet (upd G2 z.p (.ins A.C_Sheets dx9 (ssF z.n z.fp z.sq {s with go:=s.go+1,ga:=s.ga+1}))) z (outN s i j):=fun hn=>by
    have e:outN s i j={s with go:=s.go+1,ga:=s.ga+1}:=by unfold outN;rw[if_neg hn]
    rw[e]
    exact hS2.num h9 rfl rfl hS2.hh rfl rfl
   refine⟨_,dx9,_,h9,T.cl_Sheets,T.na_Sheets_frames,_,aaz,z.fp,rfl,_,dx8,_,e1,T.cl_Spots,T.na_Spots_twins,_,ab2,z.tw,rfl,_,SqL.of e4,oV o,hat,?_⟩
   refine⟨by cases o<;>rfl,?_⟩
   by_cases c9:o=some j
   ·subst c9
    have e:outN s i j={s with go:=s.go+1}:=by unfold outN;rw[if_pos ho]
    rw[e]
    exact ifn (by rw[decide_eq_true (show V.int (j:Int)=oV (some j) from rfl)];rfl) ⟨hS2,k2,sh2⟩
   ·have hne:¬(V.int (j:Int)=oV o):=fun e=>c9 (by
     cases o with
     |none=>cases e
     |some k=>have:(j:Int)=k:=V.int.inj e;rw[show k=j by omega])
    refine ifp (by rw[decide_eq_false hne];rfl) ⟨_,dx9,_,h9,T.cl_Sheets,T.na_Sheets_gone_astray,_,akw,s.ga,rfl,_,dx9,_,h9,T.cl_Sheets,T.na_Sheets_gone_astray,by show 7 < 1000;decide,?_⟩
    rw[ssF_pa]
    exact⟨fin (fun z=>c9 (by rw[ho] at z;exact Option.some.inj z)),aj4 k2,ao4 h9 sh2⟩
  rintro⟨rfl,hS3,k3,sh3⟩
  clear hS2 sh2 k2
  have hcl:(clr (outN s i j) j).sr=s.sr∧(clr (outN s i j) j).fr=s.fr:=⟨ahg.2.1,ahg.1⟩
  refine⟨fun σ G=>σ=[some (.ref z.p),some (.int i),some (oV c),some (.ref r.sh),some (.int j)]∧SsAt A.C_Sheets A.C_Spots A.C_Sheet G z (clr (outN s i j) j)∧Ks z H G∧ShAt A.C_Sheet G (.ref r.sh) (some r),?_,fun σ4 G4=>?_⟩
  ·obtain⟨dx9,h9⟩:=hS3.me
   obtain⟨dx8,vs8,e1,e2,e3,e4,e5⟩:=id hS3.sl
   walk_at "wp"
   refine⟨_,dx9,_,h9,T.cl_Sheets,T.na_Sheets_slots,_,abq,z.sq,rfl,_,dx8,_,e1,T.cl_Spots,T.na_Spots_twins,_,ab2,z.ts,rfl,_,SqL.of e4,oV u,hau,?_⟩
   cases u with
   |none=>
    rw[decide_eq_true (show oV none=V.non from rfl)]
    refine iteF ⟨?_,k3,sh3⟩
    have e:clr (outN s i j) j=outN s i j:=by
     unfold clr
     rw[show (outN s i j).ts[j]?=some none from hu]
    rw[e]
    exact hS3
   |some k=>
    rw[decide_eq_false (show ¬(oV (some k)=V.non) from fun z=>nomatch z)]
    have e:clr (outN s i j) j=untie (outN s i j) k:=by
     unfold clr
     rw[show (outN s i j).ts[j]?=some (some k) from hu]
    have htk:=hT.back k j hu
    refine iteT ⟨dx9,_,h9,abw (by decide+kernel),_,dx9,_,h9,T.cl_Sheets,T.na_Sheets_slots,_,abq,z.sq,rfl,_,dx8,_,e1,T.cl_Spots,T.na_Spots_twins,_,ab2,z.ts,rfl,_,SqL.of e4,oV (some k),hau,z,outN s i j,k,rfl,hS3,?_,fun j2 h2=>?_,fun H' a1 a2 a3=>⟨by rw[e];exact a1,k3.trans a2,a3 _ _ hbr sh3⟩⟩
    ·have:k < s.tf.length:=(List.getElem?_eq_some_iff.mp htk).1
     show k < s.fr.length
     omega
    ·have h2:s.tf[k]?=some (some j2):=h2
     rw[htk] at h2
     have:j=j2:=Option.some.inj (Option.some.inj h2)
     show j2 < s.sr.length
     omega
  rintro⟨rfl,hS4,k4,sh4⟩
  clear hS3 sh3 k3
  refine⟨fun σ G=>σ=[some (.ref z.p),some (.int i),some (oV c),some (.ref r.sh),some (.int j)]∧SsAt A.C_Sheets A.C_Spots A.C_Sheet G z ((clr (outN s i j) j).put false j (some r))∧Ks z H G∧ShAt A.C_Sheet G (.ref r.sh) (some r),?_,fun σ5 G5=>?_⟩
  ·obtain⟨dx9,h9⟩:=hS4.me
   obtain⟨dx8,vs8,e1,e2,e3,e4,e5⟩:=id hS4.sl
   have l8:=Paired.length e3
   rw[hcl.1] at l8
   walk_at "wp"
   refine⟨_,dx9,_,h9,T.cl_Sheets,T.na_Sheets_slots,_,abq,z.sq,rfl,_,dx8,_,e1,T.cl_Spots,T.na_Spots_lying,_,aa3,z.ls,rfl,vs8,e2,j,ixn (by rw[l8];exact hj),?_⟩
   exact⟨hS4.set (f:=false) (j:=j) (r:=some r) e2 sh4 (fun q e=>by cases e;exact hbr),aix (f:=false) k4,agy e2 sh4 fun q e z9=>by cases e;exact hbr (by rw[z9];exact ada (f:=false))⟩
  rintro⟨rfl,hS5,k5,sh5⟩
  clear hS4 sh4 k4
  refine⟨fun σ G=>σ=[some (.ref z.p),some (.int i),some (oV c),some (.ref r.sh),some (.int j)]∧SsAt A.C_Sheets A.C_Spots A.C_Sheet G z (outS s i j r)∧Ks z H G∧ShAt A.C_Sheet G (.ref r.sh) (some r),?_,fun σ6 G6=>?_⟩
  ·obtain⟨dx9,h9⟩:=hS5.me
   obtain⟨dx8,vs8,e1,e2,e3,e4,e5⟩:=id hS5.fr
   have l8:vs8.length=s.fr.length:=by rw[←hcl.2];exact Paired.length e3
   walk_at "wp"
   refine⟨_,dx9,_,h9,T.cl_Sheets,T.na_Sheets_frames,_,aaz,z.fp,rfl,_,dx8,_,e1,T.cl_Spots,T.na_Spots_lying,_,aa3,z.ly,rfl,vs8,e2,i,ixn (by rw[l8];exact hil),?_⟩
   exact⟨hS5.set (f:=true) (j:=i) (r:=none) e2 rfl (fun q e=>nomatch e),aix (f:=true) k5,agy e2 sh5 fun q e z9=>by cases e;exact hbr (by rw[z9];exact ada (f:=true))⟩
  rintro⟨rfl,hS6,k6,sh6⟩
  obtain⟨_,⟨dx9,h9⟩,_⟩:=id sh6
  walk_at "wp"
  refine⟨dx9,_,h9,af7 (by decide+kernel),_,r,rfl,sh6,hok,fun l G7 hl s7 htd t ht=>?_⟩
  have s8:Same G7 (upd G7 t (.tup [V.int (j:Int),V.ref l])):=aau aae ht
  exact q _ t l ((hS6.same s7).same s8) aah (htd.same s8) (hS6.nf hl) ((k6.trans (Ks.of s7)).trans (Ks.of s8))
theorem agg {rows:List (Option Sh)} {tws:List (Option Nat)} {j:Nat} (h:emp rows tws=some j):rows[j]?=some none∧tws[j]?=some none:=by
 obtain⟨hj,h1,_⟩:=List.findIdx?_eq_some_iff_getElem.mp h
 have e:=List.getElem?_eq_getElem hj
 obtain⟨e1,e2⟩:=List.getElem?_zip_eq_some.mp e
 generalize (rows.zip tws)[j]=p at *
 obtain⟨a,b⟩:=p
 cases a with
 |some r=>cases h1
 |none=>cases b with
  |some k=>cases h1
  |none=>exact⟨e1,e2⟩
theorem aj5 {rows:List (Option Sh)} {tws:List (Option Nat)} (h:emp rows tws=none) (hl:tws.length=rows.length) {j:Nat} (hj:j < rows.length):(∃r,rows[j]?=some (some r))∨∃t,tws[j]?=some (some t):=by
 have hz:j < (rows.zip tws).length:=by rw[List.length_zip];omega
 have h1:=List.findIdx?_eq_none_iff.mp h _ (List.getElem_mem hz)
 obtain⟨e1,e2⟩:=List.getElem?_zip_eq_some.mp (List.getElem?_eq_getElem hz)
 generalize (rows.zip tws)[j]=p at *
 obtain⟨a,b⟩:=p
 cases a with
 |some r=>exact .inl ⟨r,e1⟩
 |none=>cases b with
  |some k=>exact .inr ⟨k,e2⟩
  |none=>cases h1
theorem Tw.all {s:St} (hT:Tw s) (hl:s.tf.length=s.fr.length) (h:emp s.fr s.tf=none) {i:Nat} (hi:i < s.fr.length):∃r,s.fr[i]?=some (some r):=by
 rcases aj5 h hl hi with h|⟨t,ht⟩
 ·exact h
 ·exact hT.full i t ht
theorem aj6 {l:List (Option Nat)} {j:Nat} (h:ftw l=some j):∃i:Nat,l[i]?=some (some j)∧∀k < i,l[k]?=some none:=by
 induction l with
 |nil=>cases h
 |cons x r ih=>
  cases x with
  |none=>
   obtain⟨i,h1,h2⟩:=ih h
   refine⟨i+1,by simpa using h1,fun k hk=>?_⟩
   cases k with
   |zero=>rfl
   |succ k=>simpa using h2 k (by omega)
  |some y=>
   have h:some y=some j:=h
   exact⟨0,by rw[h];rfl,fun k hk=>absurd hk (Nat.not_lt_zero _)⟩
theorem an4 {l:List (Option Nat)} (h:ftw l=none) {i:Nat} (hi:i < l.length):l[i]?=some none:=by
 have:=List.findSome?_eq_none_iff.mp h _ (List.getElem_mem hi)
 rw[List.getElem?_eq_getElem hi]
 exact congrArg some this
noncomputable def cl (j:Nat) (o:Option Nat):Option Nat:=if o=some j then none else o
theorem aqd {j b:Nat} {o:Option Nat}:cl j o=some b↔o=some b∧b≠j:=by
 unfold cl
 split
 ·rename_i h
  subst h
  constructor
  ·intro h;cases h
  ·rintro⟨h,hn⟩
   exact absurd (Option.some.inj h).symm hn
 ·rename_i h
  exact⟨fun e=>⟨e,fun e2=>h (by rw[e,e2])⟩,fun e=>e.1⟩
theorem mcl {j a b:Nat} {l:List (Option Nat)}:(l.map (cl j))[a]?=some (some b)↔l[a]?=some (some b)∧b≠j:=by
 rw[List.getElem?_map]
 cases l[a]? with
 |none=>exact⟨(fun h=>by cases h),fun h=>by cases h.1⟩
 |some o=>
  show some (cl j o)=some (some b)↔some o=some (some b)∧b≠j
  rw[Option.some_inj,Option.some_inj]
  exact aqd
theorem msn {j a b:Nat} {l:List (Option Nat)}:(l.set j none)[b]?=some (some a)↔l[b]?=some (some a)∧b≠j:=by
 rw[List.getElem?_set]
 by_cases c:j=b
 ·subst c
  rw[if_pos rfl]
  split
  ·exact⟨(fun h=>by cases h),fun h=>absurd rfl h.2⟩
  ·exact⟨(fun h=>by cases h),fun h=>absurd rfl h.2⟩
 ·rw[if_neg c]
  exact⟨fun h=>⟨h,fun e=>c e.symm⟩,fun h=>h.1⟩
theorem ao5 {j:Nat} {l:List (Option Nat)} (h:∀a:Nat,l[a]?≠some (some j)):l.map (cl j)=l:=by
 refine List.ext_getElem? fun a=>?_
 rw[List.getElem?_map]
 cases e:l[a]? with
 |none=>rfl
 |some o=>
  show some (cl j o)=some o
  unfold cl
  rw[if_neg (fun z=>h a (by rw[e,z]))]
theorem clr_cl {s:St} {j:Nat} (hT:Tw s):(clr s j).tf=s.tf.map (cl j)∧(clr s j).ts=s.ts.set j none:=by
 unfold clr
 cases e:s.ts[j]? with
 |none=>
  have e2:∀a:Nat,s.tf[a]?≠some (some j):=fun a h=>by have:=hT.there a j h;rw[e] at this;cases this
  exact⟨(ao5 e2).symm,(List.set_eq_of_length_le (List.getElem?_eq_none_iff.mp e)).symm⟩
 |some u=>
  cases u with
  |none=>
   have e2:∀a:Nat,s.tf[a]?≠some (some j):=fun a h=>by have:=hT.there a j h;rw[e] at this;cases this
   refine⟨(ao5 e2).symm,?_⟩
   obtain⟨h1,h2⟩:=List.getElem?_eq_some_iff.mp e
   show s.ts=s.ts.set j none
   rw[←h2,List.set_getElem_self]
  |some k=>
   have hk:=hT.back k j e
   show (untie s k).tf=_∧(untie s k).ts=_
   have eu:untie s k=(s.tie true k none).tie false j none:=by
    unfold untie
    rw[hk]
   rw[eu]
   refine⟨?_,rfl⟩
   show s.tf.set k none=s.tf.map (cl j)
   refine List.ext_getElem? fun a=>?_
   rw[List.getElem?_set,List.getElem?_map]
   by_cases c:k=a
   ·subst c
    rw[if_pos rfl,if_pos (List.getElem?_eq_some_iff.mp hk).1,hk]
    show some none=some (cl j (some j))
    unfold cl
    rw[if_pos rfl]
   ·rw[if_neg c]
    cases e9:s.tf[a]? with
    |none=>rfl
    |some o=>
     show some o=some (cl j o)
     unfold cl
     rw[if_neg (fun z=>?_)]
     rw[z] at e9
     have:=hT.there a j e9
     rw[e] at this
     exact c (Option.some.inj (Option.some.inj this))
theorem Tw.out {s:St} {i j:Nat} {r:Sh} (hT:Tw s) (h:∀b,s.tf[i]?=some (some b)→b=j):Tw (outS s i j r)∧∀b,(outS s i j r).tf[i]?≠some (some b):=by
 obtain⟨e1,e2,_,_,_,_,e7,e8⟩:=af3 (s:=s) (i:=i) (j:=j) (r:=r)
 obtain⟨c1,c2⟩:=clr_cl (j:=j) hT
 have hn:∀b,(s.tf.map (cl j))[i]?≠some (some b):=fun b z=>by
  obtain⟨z1,z2⟩:=mcl.mp z
  exact z2 (h b z1)
 refine⟨⟨fun a b hab=>?_,fun a b hab=>?_,fun a b hab=>?_,fun a b hab=>?_⟩,fun b=>by rw[e7,c1];exact hn b⟩
 ·rw[e7,c1] at hab
  obtain⟨z1,z2⟩:=mcl.mp hab
  rw[e8,c2]
  exact msn.mpr ⟨hT.there a b z1,z2⟩
 ·rw[e8,c2] at hab
  obtain⟨z1,z2⟩:=msn.mp hab
  rw[e7,c1]
  exact mcl.mpr ⟨hT.back a b z1,z2⟩
 ·rw[e7,c1] at hab
  have hai:a≠i:=fun e=>hn b (by rw[←e];exact hab)
  obtain⟨z1,z2⟩:=mcl.mp hab
  rw[e1,List.getElem?_set,if_neg (Ne.symm hai)]
  exact hT.full a b z1
 ·rw[e8,c2] at hab
  obtain⟨z1,z2⟩:=msn.mp hab
  rw[e2,List.getElem?_set,if_neg (Ne.symm z2)]
  exact hT.bare a b z1
theorem amn {s:St} {i j b:Nat} {c:Option Nat} (h:slotF s i c=some j) (hb:s.tf[i]?=some (some b)):b=j:=by
 unfold slotF at h
 rw[hb] at h
 exact Option.some.inj h
theorem agh {s:St} {i j:Nat} {c:Option Nat} (hT:Tw s) (h:slotF s i c=some j):s.sr[j]?=some none∨(c=some j∧(∀b,s.tf[i]?≠some (some b))∧emp s.sr s.ts=none∧ftw s.tf=none):=by
 unfold slotF at h
 have go:(∀b,s.tf[i]?≠some (some b))→(match emp s.sr s.ts with|some j=>some j|none=>match ftw s.tf with|some j=>some j|none=>c)=some j→s.sr[j]?=some none∨(c=some j∧(∀b,s.tf[i]?≠some (some b))∧emp s.sr s.ts=none∧ftw s.tf=none):=fun hn h=>by
  cases e1:emp s.sr s.ts with
  |some j2=>
   rw[e1] at h
   obtain rfl:j2=j:=Option.some.inj h
   exact .inl (agg e1).1
  |none=>
   rw[e1] at h
   cases e2:ftw s.tf with
   |some j2=>
    rw[e2] at h
    obtain rfl:j2=j:=Option.some.inj h
    obtain⟨a,ha,_⟩:=aj6 e2
    exact .inl (hT.bare a _ (hT.there a _ ha))
   |none=>
    rw[e2] at h
    exact .inr ⟨h,hn,rfl,rfl⟩
 cases e:s.tf[i]? with
 |none=>rw[e] at h;exact e ▸ go (fun b z=>by rw[e] at z;cases z) h
 |some u=>
  cases u with
  |none=>rw[e] at h;exact e ▸ go (fun b z=>by rw[e] at z;cases z) h
  |some b=>
   rw[e] at h
   obtain rfl:b=j:=Option.some.inj h
   exact .inl (hT.bare i _ (hT.there i _ e))
theorem aj7 {s:St} {i:Nat} {c:Option Nat} (hT:Tw s) (hl:s.ts.length=s.sr.length) (hc:emp s.sr s.ts=none→ftw s.tf=none→∃j,c=some j∧j < s.sr.length):∃j,slotF s i c=some j∧j < s.sr.length:=by
 have tl:∀{a j:Nat},s.tf[a]?=some (some j)→j < s.sr.length:=fun h=>by
  have:=(List.getElem?_eq_some_iff.mp (hT.there _ _ h)).1
  omega
 have go:∃j,(match emp s.sr s.ts with|some j=>some j|none=>match ftw s.tf with|some j=>some j|none=>c)=some j∧j < s.sr.length:=by
  cases e1:emp s.sr s.ts with
  |some j2=>exact⟨j2,rfl,(List.getElem?_eq_some_iff.mp (agg e1).1).1⟩
  |none=>
   cases e2:ftw s.tf with
   |some j2=>obtain⟨a,ha,_⟩:=aj6 e2;exact⟨j2,rfl,tl ha⟩
   |none=>exact hc e1 e2
 unfold slotF
 cases e:s.tf[i]? with
 |none=>exact go
 |some u=>
  cases u with
  |none=>exact go
  |some b=>exact⟨b,rfl,tl e⟩
theorem aj8 {rows:List (Option Sh)} (h:∀j < rows.length,∃r,rows[j]?=some (some r)):cnt rows=rows.length:=by
 unfold cnt
 rw[List.filter_eq_self.mpr fun o ho=>by
  obtain⟨j,hj⟩:=List.mem_iff_getElem?.mp ho
  obtain⟨r,hr⟩:=h j (List.getElem?_eq_some_iff.mp hj).1
  rw[hj] at hr
  have:o=some r:=Option.some.inj hr
  subst this
  rfl]
theorem amo {s:St} (hT:Tw s) (l1:s.tf.length=s.fr.length) (l2:s.ts.length=s.sr.length) (h:live s < room s) (e:emp s.fr s.tf=none) {i:Nat} {c:Option Nat}:∃j,slotF s i c=some j∧j < s.sr.length:=aj7 hT l2 fun e1 e2=>by
 unfold live room at h
 rw[aj8 fun j hj=>hT.all l1 e hj,aj8 fun j hj=>?_] at h
 ·omega
 ·rcases aj5 e1 l2 hj with h|⟨t,ht⟩
  ·exact h
  ·have hb:=hT.back _ _ ht
   have:=an4 e2 (List.getElem?_eq_some_iff.mp hb).1
   rw[this] at hb
   cases hb
noncomputable def OutAt (F:List Addr) (H:Hp) (v:V):Option (Nat×Sh)→Prop
 |none=>v=.non
 |some (j,q)=>∃o l,v=.ref o∧H o=some (.tup [.int (j:Int),.ref l])∧TdK H l (srt q.ks)∧l∉F
theorem OutAt.keep {F:List Addr} {H H':Hp} {v:V} (k:∀c us,H c=some (.tup us)∨(H c=some (.lst us)∧c∉F)→H' c=H c):∀{o:Option (Nat×Sh)},OutAt F H v o→OutAt F H' v o
 |none,h=>h
 |some (_,_),⟨o,l,e,h1,⟨us,h2,h3⟩,h4⟩=>⟨o,l,e,(k _ _ (.inl h1)).trans h1,⟨us,(k _ _ (.inr ⟨h2,h4⟩)).trans h2,Paired.mapP h3 fun _ _ ⟨a,e,q⟩=>⟨a,e,(k _ _ (.inl q)).trans q⟩⟩,h4⟩
theorem OutAt.same {F:List Addr} {H H':Hp} {v:V} {o:Option (Nat×Sh)} (h:OutAt F H v o) (s:Same H H'):OutAt F H' v o:=h.keep fun c us hc=>by
 rcases hc with hc|hc
 ·rw[hc];exact s _ _ hc
 ·rw[hc.1];exact s _ _ hc.1
noncomputable def Ffr (s:St) (c:Option Nat) (ms:List Bool) (s1:St) (i:Nat) (ps:List Int) (out:Option (Nat×Sh)):Prop:=
 (emp s.fr s.tf=some i∧s1=s∧ps=[]∧out=none)∨
 (emp s.fr s.tf=none∧∃(q:Sh) (j:Nat),Swp ms s.h i ps∧s.fr[i]?=some (some q)∧slotF s i c=some j∧j < s.sr.length∧s1=outS {s with h:=(i+1) % s.fr.length} i j q∧out=some (j,q))
noncomputable def sp_ff (C P S:Addr):Sp:=fun vs H Q _=>∃(z:Ss) (s:St) (c:Option Nat) (m:Addr) (ms:List Bool),vs=[.ref z.p,oV c,.ref m]∧SsAt C P S H z s∧Tw s∧H m=some (.lst (ms.map V.bl))∧ms.length=s.fr.length∧
 (emp s.fr s.tf=none→(∀i,∃j:Nat,slotF s i c=some j∧j < s.sr.length)∧∀r,some r∈s.fr→Okh r)∧
 ∀H' s1 i ps out t e v3,Ffr s c ms s1 i ps out→SsAt C P S H' z s1→H' t=some (.tup [.int (i:Int),.ref e,v3])→H' e=some (.lst (ps.map V.int))→OutAt z.four H' v3 out→e∉z.four→Ks z H H'→Q (.ref t) H'
theorem Tw.hand {s:St} {h:Nat} (t:Tw s):Tw {s with h:=h}:=⟨t.there,t.back,t.full,t.bare⟩
theorem h_ff (T:Txt K mg A):HaveM P w K mg base A.C_Sheets "frame_for" 4 ["self","coming_from","marks"] [] (sp_ff A.C_Sheets A.C_Spots A.C_Sheet):=by
 have H_Spots_first_empty:=h_fe (P:=P) (w:=w) (base:=base) T
 have H_swept:=h_sw (P:=P) (w:=w) (base:=base) T
 have H_Sheets_put_out:=h_out (P:=P) (w:=w) (base:=base) T
 refine T.r_Sheets_frame_for.have ac2 (fun vs H Q E z=>?_) ?_
 ·obtain⟨z,s,c,m,ms,rfl,_⟩:=z;rfl
 ·intro f cdv A' outer s H vs Q E hr z
  obtain⟨z,s,c,m,ms,rfl,hS,hT,hm,hml,hfu,q⟩:=z
  obtain⟨dx,h1⟩:=hS.me
  obtain⟨dx1,vs1,f1,f2,f3,f4,f5⟩:=id hS.fr
  have nf:∀{e:Addr},H e=none→e∉z.four:=fun he=>hS.nf he
  refine⟨_,(aak (aax (i:=3) ac2.nd rfl (Or.inl rfl) (abb (aaq (pvM 0) rfl) T.cl_Spots H_Spots_first_empty (hr.mono (by decide)) aat))
   (aak (abo (aao ace (pvM 3) aaw (nomark _)) (aag (aav (ac7 (aaa (pvM 3) (aaa (aco aad) (aaa aaw aad)))))) aas)
   (aal (aax (i:=4) ac2.nd rfl (Or.inl rfl) (aba H_swept (hr.mono (by decide)) aat (aaa (pvM 2) (aaa (aaq (pvM 0) rfl) aad))))
   (aal (adx (pvM 0) (aay ab4 (aay adv (aam aa0 (pvM 4) aab (fun _ _=>rfl)) aab) (aar aa2 rfl T.b_len PySem.boot_len (aaa (aaq (aaq (pvM 0) rfl) rfl) aad))) rfl)
   (aag (aav (ac7 (aaa (aam aa0 (pvM 4) aab (fun _ _=>rfl)) (aaa (aam aa0 (pvM 4) aab (fun _ _=>rfl)) (aaa (aa6 (pvM 0) T.cl_Sheets H_Sheets_put_out (hr.mono (by decide)) aat (aaa (aam aa0 (pvM 4) aab (fun _ _=>rfl)) (aaa (pvM 1) aad))) aad)))))))))),?_⟩
  unfold sp_fe
  walk_at "wp"
  simp only[h1]
  walk_at "wp"
  refine⟨T.cl_Sheets,T.na_Sheets_frames,_,aaz,z.fp,rfl,dx1,_,f1,ahf (by decide+kernel),z.fp,rfl,z.ly,z.tw,s.fr,s.tf,hS.fr,fun H1 s1=>?_⟩
  unfold fe
  cases e9:emp s.fr s.tf with
  |some i=>
   rw[decide_eq_false (fun z=>nomatch z)]
   refine iteT fun e1 he1 t1 ht1=>?_
   have b1:=aau (o:=.lst []) (aae (H:=H1)) he1
   have b2:=aau (o:=.tup [V.int (i:Int),V.ref e1,V.non]) (aae (H:=upd H1 e1 (.lst []))) ht1
   exact q _ s i [] none t1 e1 .non (.inl ⟨e9,rfl,rfl,rfl⟩) (((hS.same s1).same b1).same b2) aah (b2 _ _ aah) rfl (nf (aai s1 he1)) (Ks.of ((s1.trans b1).trans b2))
  |none=>
   rw[decide_eq_true (rfl:V.non=V.non)]
   obtain⟨hsl,hok⟩:=hfu e9
   have hS1:=hS.same s1
   refine iteF ⟨fun σ G=>∃i t e ps,σ=[some (.ref z.p),some (oV c),some (.ref m),some .non,some (.ref t)]∧Same H1 G∧Swp ms s.h i ps∧i < s.fr.length∧G t=some (.tup [.int (i:Int),.ref e])∧G e=some (.lst (ps.map V.int))∧H1 e=none,?_,fun σ2 G2=>?_⟩
   ·obtain⟨dx9,h9⟩:=hS1.me
    walk_at "wp"
    have hh:=hS.hh
    have hl64:=hS.len.1
    refine⟨_,dx9,_,h9,T.cl_Sheets,T.na_Sheets_hand,_,age,m,s.h,ms,rfl,SqL.of (s1 _ _ hm),by omega,by omega,by omega,fun t u k H' s9 ht hu hk ha hb ht' hu'=>?_⟩
    have hp:(0:Int) < (ms.length:Int):=by omega
    have h0:=Int.emod_nonneg ((s.h:Int)+(k:Int)) (Int.ne_of_gt hp)
    have h2:=Int.emod_lt_of_pos ((s.h:Int)+(k:Int)) hp
    refine⟨(((s.h:Int)+(k:Int)) % (ms.length:Int)).toNat,t,rfl,s9,u,rg ms.length s.h k,⟨k,hk,ha,hb,by omega,rfl⟩,by omega,?_,hu',hu⟩
    rw[show (((((s.h:Int)+(k:Int)) % (ms.length:Int)).toNat:Nat):Int)=((s.h:Int)+(k:Int)) % (ms.length:Int) by omega]
    exact ht'
   rintro⟨i,t,e,ps,rfl,s2,hsw,hil,ht2,he2,he0⟩
   have hS2:=hS1.same s2
   refine⟨fun σ G=>σ=[some (.ref z.p),some (oV c),some (.ref m),some .non,some (.ref t)]∧SsAt A.C_Sheets A.C_Spots A.C_Sheet G z {s with h:=(i+1) % s.fr.length}∧Ks z H G∧G t=some (.tup [.int (i:Int),.ref e])∧G e=some (.lst (ps.map V.int)),?_,fun σ3 G3=>?_⟩
   ·obtain⟨dx9,h9⟩:=hS2.me
    obtain⟨dx8,vs8,e1,e2,e3,e4,_⟩:=id hS2.fr
    have l8:=Paired.length e3
    have hmod:((i:Int)+1) % (vs8.length:Int)=(((i+1) % s.fr.length:Nat):Int):=by rw[l8,Int.natCast_emod,Int.natCast_add];rfl
    walk_at "wp"
    refine⟨_,SqT.of ht2,.int i,aac (j:=0) rfl,(i:Int),rfl,_,dx9,_,h9,T.cl_Sheets,T.na_Sheets_frames,_,aaz,z.fp,rfl,_,dx8,_,e1,T.cl_Spots,T.na_Spots_lying,_,aa3,vs8.length,.inl ⟨_,SqL.of e2,rfl⟩,by omega,_,dx9,_,h9,T.cl_Sheets,T.na_Sheets_hand,by show 7 < 1000;decide,?_⟩
    rw[hmod,ssF_ph]
    refine⟨hS2.num h9 rfl rfl (Nat.mod_lt _ (by omega)) rfl rfl,aj4 (Ks.of (s1.trans s2)),?_,?_⟩
    ·rw[aaf (aca ht2 h9 (fun z=>nomatch z))];exact ht2
    ·rw[aaf (aca he2 h9 (fun z=>nomatch z))];exact he2
   rintro⟨rfl,hS3,k3,ht3,he3⟩
   obtain⟨dx9,h9⟩:=hS3.me
   have hh:=hS.hh
   obtain⟨r,hr⟩:=hT.all f5 e9 hil
   obtain⟨j,hsf,hj⟩:=hsl i
   walk_at "wp"
   refine⟨_,SqT.of ht3,.int i,aac (j:=0) rfl,_,SqT.of ht3,.ref e,aac (j:=1) rfl,dx9,_,h9,abw (by decide+kernel),_,SqT.of ht3,.int i,aac (j:=0) rfl,z,_,i,j,c,r,rfl,hS3,hT.hand,hr,hok r (List.mem_of_getElem? hr),hj,hsf,fun G4 o l hS4 ho htd hlf k4 t4 ht4=>?_⟩
   have hep:e≠z.p:=fun z9=>by rw[z9,s1 _ _ h1] at he0;cases he0
   have hef:=nf (aai s1 he0)
   have he4:=k4 _ _ he3 hep hef
   have s5:Same G4 (upd G4 t4 (.tup [V.int (i:Int),V.ref e,V.ref o])):=aau aae ht4
   exact q _ _ i ps (some (j,r)) t4 e (.ref o) (.inr ⟨e9,r,j,hsw,hr,hsf,hj,rfl,rfl⟩) (hS4.same s5) aah (s5 _ _ he4) ⟨o,l,rfl,s5 _ _ ho,htd.same s5,hlf⟩ hef ((k3.trans k4).trans (Ks.of s5))
noncomputable def hdS (s:St):List Addr:=hds (s.fr++s.sr)
theorem SsAt.hd {C P S:Addr} {H:Hp} {z:Ss} {s:St} (h:SsAt C P S H z s):∀a∈hdS s,∃kvs,H a=some (.dT kvs):=fun a ha=>by
 obtain⟨r,hr,rfl⟩:=aeu.mp ha
 obtain⟨_,_,_,_,f3,_⟩:=h.fr
 obtain⟨_,_,_,_,g3,_⟩:=h.sl
 rcases List.mem_append.mp hr with hr|hr
 ·obtain⟨i,hi⟩:=List.mem_iff_getElem?.mp hr
  obtain⟨_,_,_,_,_,e⟩:=aa1 f3 hi
  exact⟨_,e⟩
 ·obtain⟨i,hi⟩:=List.mem_iff_getElem?.mp hr
  obtain⟨_,_,_,_,_,e⟩:=aa1 g3 hi
  exact⟨_,e⟩
theorem an5 {s:St} {i j:Nat} {r:Sh}:(outS s i j r).fr.length=s.fr.length∧(outS s i j r).sr.length=s.sr.length:=by
 obtain⟨e1,e2,_⟩:=af3 (s:=s) (i:=i) (j:=j) (r:=r)
 rw[e1,e2,List.length_set,List.length_set];exact⟨rfl,rfl⟩
theorem Ffr.facts {s s1:St} {c:Option Nat} {ms:List Bool} {i:Nat} {ps:List Int} {out:Option (Nat×Sh)} (h:Ffr s c ms s1 i ps out) (hT:Tw s):s1.fr[i]?=some none∧s1.fr.length=s.fr.length∧s1.sr.length=s.sr.length∧(∀r,some r∈s1.fr∨some r∈s1.sr→some r∈s.fr∨some r∈s.sr)∧Tw s1∧(∀b,s1.tf[i]?≠some (some b))∧((∀j q,out=some (j,q)→s.sr[j]?=some none)→(hdS s1).Perm (hdS s)):=by
 rcases h with ⟨h1,rfl,_,rfl⟩|⟨h1,q,j,hsw,hq,hsf,hj,rfl,rfl⟩
 ·obtain⟨e1,e2⟩:=agg h1
  exact⟨e1,rfl,rfl,fun r h=>h,hT,(fun b z=>by rw[e2] at z;cases z),fun _=>List.Perm.refl _⟩
 ·obtain⟨e1,e2,_⟩:=af3 (s:={s with h:=(i+1) % s.fr.length}) (i:=i) (j:=j) (r:=q)
  have e1:(outS {s with h:=(i+1) % s.fr.length} i j q).fr=s.fr.set i none:=e1
  have e2:(outS {s with h:=(i+1) % s.fr.length} i j q).sr=s.sr.set j (some q):=e2
  obtain⟨l1,l2⟩:=an5 (s:={s with h:=(i+1) % s.fr.length}) (i:=i) (j:=j) (r:=q)
  obtain⟨t1,t2⟩:=(hT.hand (h:=(i+1) % s.fr.length)).out (r:=q) (j:=j) fun b hb=>amn (s:=s) hsf hb
  refine⟨?_,l1,l2,fun r hr=>?_,t1,t2,fun hn=>?_⟩
  ·rw[e1];exact List.getElem?_set_self (List.getElem?_eq_some_iff.mp hq).1
  ·rw[e1,e2] at hr
   rcases hr with hr|hr
   ·rcases List.mem_or_eq_of_mem_set hr with h|h
    ·exact .inl h
    ·cases h
   ·rcases List.mem_or_eq_of_mem_set hr with h|h
    ·exact .inr h
    ·cases h;exact .inl (List.mem_of_getElem? hq)
  ·unfold hdS
   rw[e1,e2,acx,acx]
   refine ((List.Perm.refl _).append (afd (hn j q rfl))).trans ?_
   exact List.perm_middle.trans ((agf hq).symm.append_right _)
theorem SsAt.lens {C P S:Addr} {H:Hp} {z:Ss} {s:St} (h:SsAt C P S H z s):s.tf.length=s.fr.length∧s.ts.length=s.sr.length:=by
 obtain⟨_,_,_,_,_,_,f5⟩:=h.fr
 obtain⟨_,_,_,_,_,_,g5⟩:=h.sl
 exact⟨f5,g5⟩
theorem Tw.fill {s:St} {i:Nat} {r:Sh} (h:Tw s) (hi:∀b,s.tf[i]?≠some (some b)):Tw {s with fr:=s.fr.set i (some r)}:=⟨h.there,h.back,fun a b hab=>by
 show ∃r',(s.fr.set i (some r))[a]?=some (some r')
 rw[List.getElem?_set,if_neg (fun e=>hi b (by rw[e];exact hab))]
 exact h.full a b hab,h.bare⟩
theorem Ks.was {C P S:Addr} {z:Ss} {s s':St} {H G:Hp} (k:Ks z H G) (h:SsAt C P S H z s) (h':SsAt C P S G z s') {c:Addr} (hc:G c=none):H c=none:=by
 cases e:H c with
 |none=>rfl
 |some o=>
  by_cases c1:c=z.p
  ·obtain⟨dx,h1⟩:=h'.me
   rw[c1,h1] at hc;cases hc
  ·by_cases c2:c∈z.four
   ·exact absurd c2 (h'.nf hc)
   ·have:=k c o e c1 c2
    rw[hc] at this;cases this
noncomputable def an6 (C P S O:Addr):Sp:=fun vs H Q E=>∃(z:Ss) (s:St) (l h m:Addr) (bs:List Int) (k:List Key) (ms:List Bool),vs=[.ref z.p,.ref l,.ref h,.ref m]∧SsAt C P S H z s∧Ap s∧Tw s∧H l=some (.lst (bs.map V.int))∧l∉z.four∧H h=some (.tup (k.map kV))∧H m=some (.lst (ms.map V.bl))∧ms.length=s.fr.length∧(∀r,some r∈s.fr→Okh r)∧
 if live s < room s then ∀H' s1 i ps out t e v3 r,Ffr s none ms s1 i ps out→SsAt C P S H' z {s1 with fr:=s1.fr.set i (some r)}→Ap {s1 with fr:=s1.fr.set i (some r)}→Tw {s1 with fr:=s1.fr.set i (some r)}→r.b=bs→r.ks=[k]→H r.bx=none→H' t=some (.tup [.int (i:Int),.ref e,v3])→H' e=some (.lst (ps.map V.int))→OutAt z.four H' v3 out→e∉z.four→Ks z H H'→Q (.ref t) H'
 else ∀H',Same H H'→E (.ref O) none H'
theorem aqe (T:Txt K mg A):HaveM P w K mg base A.C_Sheets "fresh" 5 ["self","sheet","holder","marks"] [] (an6 A.C_Sheets A.C_Spots A.C_Sheet A.C_NoRoom):=by
 have H_Sheets_is_full:=h_full (P:=P) (w:=w) (base:=base) T
 have H_Sheets_frame_for:=h_ff (P:=P) (w:=w) (base:=base) T
 have H_Sheet_init:=h_shi (P:=P) (w:=w) (base:=base) T
 refine T.r_Sheets_fresh.have ae3 (fun vs H Q E z=>?_) ?_
 ·obtain⟨z,s,l,h,m,bs,k,ms,rfl,_⟩:=z;rfl
 ·intro f cdv A' outer s H vs Q E hr z
  obtain⟨z,s,l,h,m,bs,k,ms,rfl,hS,hA,hT,hl,hlf,hh,hm,hml,hok,q⟩:=z
  obtain⟨dx,h1⟩:=hS.me
  refine⟨_,(aak (abo (acz (abb (pvM 0) T.cl_Sheets H_Sheets_is_full (hr.mono (by decide)) aat)) (aag (ank xr_def rfl T.x_NoRoom (aaa acy aad))) aas)
   (aal (aax (i:=4) ae3.nd rfl (Or.inl rfl) (aa6 (pvM 0) T.cl_Sheets H_Sheets_frame_for (hr.mono (by decide)) aat (aaa aaw (aaa (pvM 3) aad))))
   (aak (ac6 (af9 H_Sheet_init (hr.mono (by decide)) aat (aaa (pvM 1) (aaa (pvM 2) aad))) (ac5 (aaq (aaq (pvM 0) rfl) rfl) (aam aa0 (pvM 4) aab (fun _ _=>rfl)) abx))
   (aag (aav (pvM 4)))))),?_⟩
  unfold aml ao0
  walk_at "wp"
  simp only[h1]
  walk_at "wp"
  refine⟨abw (by decide+kernel),z,rfl,s,hS,fun H1 s1=>?_⟩
  by_cases c:live s < room s
  ·rw[if_pos c] at q
   rw[if_neg (by unfold room at c;omega)]
   have hS1:=hS.same s1
   refine⟨fun σ G=>∃s2 i ps out t e v3,σ=[some (.ref z.p),some (.ref l),some (.ref h),some (.ref m),some (.ref t)]∧Ffr s none ms s2 i ps out∧SsAt A.C_Sheets A.C_Spots A.C_Sheet G z s2∧G t=some (.tup [.int (i:Int),.ref e,v3])∧G e=some (.lst (ps.map V.int))∧OutAt z.four G v3 out∧e∉z.four∧Ks z H G,?_,fun σ2 G2=>?_⟩
   ·walk_at "wp"
    refine⟨dx,_,s1 _ _ h1,abw (by decide+kernel),z,s,none,m,ms,rfl,hS1,hT,s1 _ _ hm,hml,fun e9=>⟨fun i=>amo hT hS.lens.1 hS.lens.2 c e9,hok⟩,fun H' s2 i ps out t e v3 a1 a2 a3 a4 a5 a6 a7=>?_⟩
    exact⟨s2,i,ps,out,t,rfl,a1,a2,e,v3,a3,a4,a5,a6,(Ks.of s1).trans a7⟩
   rintro⟨s2,i,ps,out,t,e,v3,rfl,a1,hS2,a3,a4,a5,a6,k2⟩
   obtain⟨fi,fl1,fl2,fm,ft,fb,fp⟩:=a1.facts hT
   have fp:=fp fun j q e=>by
    rcases a1 with ⟨_,_,_,rfl⟩|⟨_,q2,j2,_,_,hsf,_,_,rfl⟩
    ·cases e
    ·cases e
     rcases agh hT hsf with h|⟨h,_⟩
     ·exact h
     ·cases h
   have hp2:∀{c:Addr} {o:HO},H c=some o→(∀D d fs,o≠.ins D d fs)→c≠z.p:=fun hc hn z9=>by rw[z9,h1] at hc;exact hn _ _ _ (Option.some.inj hc).symm
   have hl2:=k2 _ _ hl (hp2 hl (fun _ _ _ z=>nomatch z)) hlf
   have nlt:∀{c:Addr} {us:List V},H c=some (.tup us)→c∉z.four:=fun hc z9=>by obtain⟨ws,h9⟩:=hS.fours _ z9;rw[hc] at h9;cases h9
   have hh2:=k2 _ _ hh (hp2 hh (fun _ _ _ z=>nomatch z)) (nlt hh)
   walk_at "wp"
   intro sh sdx hsh hsdx hne
   have sm:=afs (o:=.ins A.C_Sheet sdx []) hsh hsdx hne
   refine⟨bs,sm _ _ hl2,k,sm _ _ hh2,fun bx hd G3 hbx hhd kp3 b1 b2 b3=>?_⟩
   have s23:Same G2 G3:=fun c o hc=>kp3 c o (sm c o hc) (fun z=>aan hc hsh (List.mem_singleton.mp z))
   have hS3:=hS2.same s23
   obtain⟨dx9,h9⟩:=hS3.me
   obtain⟨dx1,vs1,f1,f2,f3,f4,_⟩:=id hS3.fr
   have hvl:=Paired.length f3
   have hil:=(List.getElem?_eq_some_iff.mp fi).1
   have hbx2:=aai sm hbx
   have hhd2:=aai sm hhd
   have hbf:=hS2.nf hbx2
   refine⟨_,dx9,_,h9,T.cl_Sheets,T.na_Sheets_frames,_,aaz,z.fp,rfl,_,dx1,_,f1,T.cl_Spots,T.na_Spots_lying,_,aa3,_,SqT.of (s23 _ _ a3),.int i,aac (j:=0) rfl,z.ly,rfl,vs1,i,rfl,f2,i,ixn (by rw[hvl];exact hil),?_⟩
   have keep:∀{c:Addr} {o:HO},G3 c=some o→c∉z.four→upd G3 z.ly (.lst (vs1.set i (.ref sh))) c=some o:=fun hc hn=>by rw[aaf (fun z9=>hn (by rw[z9];exact ada (f:=true)))];exact hc
   have nlt3:∀{c:Addr} {us:List V},G3 c=some (.tup us)→c∉z.four:=fun hc z9=>by obtain⟨ws,h9⟩:=hS3.fours _ z9;rw[hc] at h9;cases h9
   refine q _ s2 i ps out t e v3 ⟨bs,[k],sh,bx,hd⟩ a1 (hS3.set (f:=true) (j:=i) (r:=some ⟨bs,[k],sh,bx,hd⟩) f2 ⟨rfl,⟨sdx,b1⟩,b2,b3⟩ (fun q e=>by cases e;exact hbf)) ?_ (ft.fill fb) rfl rfl (k2.was hS hS2 hbx2) (keep (s23 _ _ a3) (nlt3 (s23 _ _ a3))) (keep (s23 _ _ a4) a6) ((a5.same s23).keep fun c us hc=>?_) a6 (aix (f:=true) (k2.trans (Ks.of s23)))
   ·have nin:hd∉hdS s2:=fun z9=>by obtain⟨kvs,h8⟩:=hS2.hd _ z9;rw[hhd2] at h8;cases h8
    have:(hdS s2).Nodup:=fp.nodup_iff.mpr hA
    unfold Ap
    show (hds (s2.fr.set i (some ⟨bs,[k],sh,bx,hd⟩)++s2.sr)).Nodup
    rw[acx]
    refine ((afd (r:=⟨bs,[k],sh,bx,hd⟩) fi).append_right _).nodup_iff.mpr ?_
    have e8:hdS s2=hds s2.fr++hds s2.sr:=acx
    rw[e8] at nin this
    exact List.nodup_cons.mpr ⟨nin,this⟩
   ·rcases hc with hc|hc
    ·rw[hc];exact keep hc (nlt3 hc)
    ·rw[hc.1];exact keep hc.1 hc.2
  ·rw[if_neg c] at q
   rw[if_pos (by unfold room at c;omega)]
   exact q H1 s1
theorem sh_ks {S:Addr} {H H':Hp} {z:Ss} {s:St} {C dx:Addr} (e:H z.p=some (.ins C dx (ssF z.n z.fp z.sq s))) (k:Ks z H H') {v:V} {r:Sh} (hb:r.bx∉z.four) (n2:∀c∈z.four,∃us,H c=some (.lst us)) (h:ShAt S H v (some r)):ShAt S H' v (some r):=by
 obtain⟨a,⟨d,h1⟩,h2,h3⟩:=h
 have np:∀{c:Addr} {o:HO},H c=some o→(∀D d fs,o=.ins D d fs→fs.lookup ("hand":Str)=none)→c≠z.p:=fun {c o} hc hn e9=>by
  rw[e9,e] at hc
  have:=hn _ _ _ (Option.some.inj hc).symm
  rw[age] at this
  cases this
 have nl:∀{c:Addr} {o:HO},H c=some o→(∀us,o≠.lst us)→c∉z.four:=fun hc hn z9=>by obtain⟨us,h9⟩:=n2 _ z9;rw[h9] at hc;exact hn _ (Option.some.inj hc).symm
 exact⟨a,⟨d,k _ _ h1 (np h1 fun _ _ _ z=>by cases z;exact af7 (by decide+kernel)) (nl h1 fun _ z=>nomatch z)⟩,k _ _ h2 (np h2 fun _ _ _ z=>nomatch z) hb,k _ _ h3 (np h3 fun _ _ _ z=>nomatch z) (nl h3 fun _ z=>nomatch z)⟩
theorem an7 {fr sr:List (Option Sh)} {i j:Nat} {q c:Sh} (hq:fr[i]?=some (some q)) (hc:sr[j]?=some (some c)):(hds (fr.set i (some c)++sr.set j (some q))).Perm (hds (fr++sr)):=by
 rw[acx,acx]
 have a1:=afd (rows:=fr.set i none) (j:=i) (r:=c) (List.getElem?_set_self (List.getElem?_eq_some_iff.mp hq).1)
 have a2:=afd (rows:=sr.set j none) (j:=j) (r:=q) (List.getElem?_set_self (List.getElem?_eq_some_iff.mp hc).1)
 rw[List.set_set] at a1 a2
 refine (a1.append a2).trans (List.Perm.trans ?_ ((agf hq).append (agf hc)).symm)
 exact (List.Perm.cons _ List.perm_middle).trans ((List.Perm.swap ..).trans (List.Perm.cons _ List.perm_middle.symm))
theorem an8 {fr sr:List (Option Sh)} {i j:Nat} {c:Sh} (hi:fr[i]?=some none) (hc:sr[j]?=some (some c)):(hds (fr.set i (some c)++sr.set j none)).Perm (hds (fr++sr)):=by
 rw[acx,acx]
 refine ((afd hi).append_right _).trans (List.Perm.trans ?_ ((agf hc).append_left _).symm)
 exact List.perm_middle.symm
noncomputable def bck0 (s1:St) (i j:Nat) (c:Sh) (out:Option (Nat×Sh)):St:=if out.map (·.1)=some j then s1.put true i (some c) else (((s1.put true i (some c)).put false j none).tie false j (some i)).tie true i (some j)
noncomputable def bckS (s1:St) (i j:Nat) (c:Sh) (out:Option (Nat×Sh)):St:={bck0 s1 i j c out with cb:=s1.cb+1}
theorem amp {s1:St} {i j:Nat} {c:Sh} {out:Option (Nat×Sh)}:(bckS s1 i j c out).fr=s1.fr.set i (some c)∧(bckS s1 i j c out).sr=(if out.map (·.1)=some j then s1.sr else s1.sr.set j none)∧(bckS s1 i j c out).tf=(if out.map (·.1)=some j then s1.tf else s1.tf.set i (some j))∧(bckS s1 i j c out).ts=(if out.map (·.1)=some j then s1.ts else s1.ts.set j (some i))∧(bckS s1 i j c out).h=s1.h∧(bckS s1 i j c out).go=s1.go∧(bckS s1 i j c out).ga=s1.ga∧(bckS s1 i j c out).cb=s1.cb+1:=by
 unfold bckS bck0
 split<;>exact⟨rfl,rfl,rfl,rfl,rfl,rfl,rfl,rfl⟩
theorem Ffr.slot {s s1:St} {ms:List Bool} {i j:Nat} {ps:List Int} {out:Option (Nat×Sh)} {c:Sh} (h:Ffr s (some j) ms s1 i ps out) (hT:Tw s) (hc:s.sr[j]?=some (some c)):(out.map (·.1)=some j∧∃q,s.fr[i]?=some (some q)∧s1.fr=s.fr.set i none∧s1.sr=s.sr.set j (some q))∨(out.map (·.1)≠some j∧s1.sr[j]?=some (some c)∧(∀j q,out=some (j,q)→s.sr[j]?=some none)):=by
 rcases h with ⟨h1,rfl,_,rfl⟩|⟨h1,q,j2,hsw,hq,hsf,hj,rfl,rfl⟩
 ·exact .inr ⟨(fun z=>by cases z),hc,fun j q z=>by cases z⟩
 ·obtain⟨e1,e2,_⟩:=af3 (s:={s with h:=(i+1) % s.fr.length}) (i:=i) (j:=j2) (r:=q)
  by_cases e:j2=j
  ·subst e
   exact .inl ⟨rfl,q,hq,e1,e2⟩
  ·refine .inr ⟨fun z=>e (Option.some.inj z),?_,fun j3 q3 z=>?_⟩
   ·rw[e2,List.getElem?_set,if_neg e];exact hc
   ·cases z
    rcases agh hT hsf with h|⟨h,_⟩
    ·exact h
    ·exact absurd (Option.some.inj h).symm e
theorem Ffr.back {s s1:St} {ms:List Bool} {i j:Nat} {ps:List Int} {out:Option (Nat×Sh)} {c:Sh} (h:Ffr s (some j) ms s1 i ps out) (hT:Tw s) (hA:Ap s) (hl:s1.tf.length=s1.fr.length) (hl2:s1.ts.length=s1.sr.length) (hc:s.sr[j]?=some (some c)):Ap (bckS s1 i j c out)∧Tw (bckS s1 i j c out):=by
 obtain⟨b1,b2,b3,b4,_⟩:=amp (s1:=s1) (i:=i) (j:=j) (c:=c) (out:=out)
 obtain⟨f1,f2,f3,f4,f5,f6,f7⟩:=h.facts hT
 rcases h.slot hT hc with ⟨h1,q,h2,h3,h4⟩|⟨h1,h2,h3⟩
 ·rw[if_pos h1] at b2 b3 b4
  constructor
  ·unfold Ap
   rw[b1,b2,h3,h4,List.set_set]
   exact (an7 h2 hc).nodup_iff.mpr hA
  ·have:=f5.fill (r:=c) f6
   exact⟨by rw[b3,b4];exact this.there,by rw[b3,b4];exact this.back,by rw[b1,b3];exact this.full,by rw[b2,b4];exact this.bare⟩
 ·rw[if_neg h1] at b2 b3 b4
  have hil:=(List.getElem?_eq_some_iff.mp f1).1
  have hjl:=(List.getElem?_eq_some_iff.mp h2).1
  have tn:∀a,s1.ts[j]?≠some (some a):=fun a z=>by have:=f5.bare a j z;rw[h2] at this;cases this
  constructor
  ·unfold Ap
   rw[b1,b2]
   exact (an8 f1 h2).nodup_iff.mpr ((f7 h3).nodup_iff.mpr hA)
  ·refine⟨fun a b hab=>?_,fun a b hab=>?_,fun a b hab=>?_,fun a b hab=>?_⟩
   ·rw[b3,List.getElem?_set] at hab
    rw[b4,List.getElem?_set]
    by_cases e:i=a
    ·subst e
     rw[if_pos rfl,if_pos (by omega)] at hab
     obtain rfl:j=b:=Option.some.inj (Option.some.inj hab)
     rw[if_pos rfl,if_pos (by omega)]
    ·rw[if_neg e] at hab
     have:=f5.there a b hab
     rw[if_neg (fun z=>tn a (by rw[z];exact this))]
     exact this
   ·rw[b4,List.getElem?_set] at hab
    rw[b3,List.getElem?_set]
    by_cases e:j=b
    ·subst e
     rw[if_pos rfl,if_pos (by omega)] at hab
     obtain rfl:i=a:=Option.some.inj (Option.some.inj hab)
     rw[if_pos rfl,if_pos (by omega)]
    ·rw[if_neg e] at hab
     have:=f5.back a b hab
     rw[if_neg (fun z=>f6 b (by rw[z];exact this))]
     exact this
   ·rw[b1,List.getElem?_set]
    by_cases e:i=a
    ·subst e
     rw[if_pos rfl,if_pos (by omega)]
     exact⟨c,rfl⟩
    ·rw[b3,List.getElem?_set,if_neg e] at hab
     rw[if_neg e]
     exact f5.full a b hab
   ·rw[b2,List.getElem?_set]
    by_cases e:j=b
    ·subst e
     rw[if_pos rfl,if_pos (by omega)]
    ·rw[b4,List.getElem?_set,if_neg e] at hab
     rw[if_neg e]
     exact f5.bare a b hab
noncomputable def aqf (C P S:Addr):Sp:=fun vs H Q _=>∃(z:Ss) (s:St) (j:Nat) (m:Addr) (ms:List Bool) (c:Sh),vs=[.ref z.p,.int j,.ref m]∧SsAt C P S H z s∧Ap s∧Tw s∧H m=some (.lst (ms.map V.bl))∧ms.length=s.fr.length∧(∀r,some r∈s.fr→Okh r)∧s.sr[j]?=some (some c)∧
 ∀H' s1 i ps out t e v3,Ffr s (some j) ms s1 i ps out→SsAt C P S H' z (bckS s1 i j c out)→Ap (bckS s1 i j c out)→Tw (bckS s1 i j c out)→H' t=some (.tup [.int (i:Int),.ref e,v3])→H' e=some (.lst (ps.map V.int))→OutAt z.four H' v3 out→e∉z.four→Ks z H H'→Q (.ref t) H'
theorem h_back (T:Txt K mg A):HaveM P w K mg base A.C_Sheets "back" 5 ["self","slot","marks"] [] (aqf A.C_Sheets A.C_Spots A.C_Sheet):=by
 have H_Sheets_frame_for:=h_ff (P:=P) (w:=w) (base:=base) T
 refine T.r_Sheets_back.have aei (fun vs H Q E z=>?_) ?_
 ·obtain⟨z,s,j,m,ms,c,rfl,_⟩:=z;rfl
 ·intro f cdv A' outer s H vs Q E hr z
  obtain⟨z,s,j,m,ms,c,rfl,hS,hA,hT,hm,hml,hok,hc,q⟩:=z
  obtain⟨dx,h1⟩:=hS.me
  obtain⟨dx2,vs2,g1,g2,g3,g4,g5⟩:=id hS.sl
  obtain⟨v,hv1,hv2⟩:=aa1 g3 hc
  obtain⟨rfl,_⟩:=id hv2
  have hjl:=(List.getElem?_eq_some_iff.mp hc).1
  have hbc:=hS.bx c (.inr (List.mem_of_getElem? hc))
  refine⟨_,(aak (aax (i:=3) aei.nd rfl (Or.inl rfl) (aam aaj (aaq (aaq (pvM 0) rfl) rfl) (pvM 1) (fun _ _=>rfl)))
   (aal (aax (i:=4) aei.nd rfl (Or.inl rfl) (aa6 (pvM 0) T.cl_Sheets H_Sheets_frame_for (hr.mono (by decide)) aat (aaa (pvM 1) (aaa (pvM 2) aad))))
   (aal (ac6 (pvM 3) (ac5 (aaq (aaq (pvM 0) rfl) rfl) (aam aa0 (pvM 4) aab (fun _ _=>rfl)) abx))
   (aal (abo (PW.pt (ai2 (aao aea (aam aa0 (pvM 4) aab (fun _ _=>rfl)) aaw (nomark _)) (ag7 (aao ak8 (aam aa0 (aam aa0 (pvM 4) aab (fun _ _=>rfl)) aab (fun _ _=>rfl)) (pvM 1) (nomark _))))) (aak (ac6 aaw (ac5 (aaq (aaq (pvM 0) rfl) rfl) (pvM 1) abx))
   (aak (ac6 (aam aa0 (pvM 4) aab (fun _ _=>rfl)) (ac5 (aaq (aaq (pvM 0) rfl) rfl) (pvM 1) abx))
   (aag (ac6 (pvM 1) (ac5 (aaq (aaq (pvM 0) rfl) rfl) (aam aa0 (pvM 4) aab (fun _ _=>rfl)) abx))))) aas)
   (aak (adx (pvM 0) (aay adv (aaq (pvM 0) rfl) aab) rfl)
   (aag (aav (pvM 4)))))))),?_⟩
  walk_at "wp"
  simp only[h1]
  walk_at "wp"
  refine⟨T.cl_Sheets,T.na_Sheets_slots,_,abq,z.sq,rfl,_,dx2,_,g1,T.cl_Spots,T.na_Spots_lying,_,aa3,z.ls,rfl,_,SqL.of g2,_,aac hv1,?_⟩
  refine⟨fun σ G=>∃s1 i ps out t e v3,σ=[some (.ref z.p),some (.int j),some (.ref m),some (.ref c.sh),some (.ref t)]∧Ffr s (some j) ms s1 i ps out∧SsAt A.C_Sheets A.C_Spots A.C_Sheet G z s1∧G t=some (.tup [.int (i:Int),.ref e,v3])∧G e=some (.lst (ps.map V.int))∧OutAt z.four G v3 out∧e∉z.four∧Ks z H G,?_,fun σ2 G2=>?_⟩
  ·walk_at "wp"
   refine⟨dx,_,h1,abw (by decide+kernel),z,s,some j,m,ms,rfl,hS,hT,hm,hml,fun _=>⟨fun i=>aj7 hT g5 fun _ _=>⟨j,rfl,hjl⟩,hok⟩,fun H' s1 i ps out t e v3 a1 a2 a3 a4 a5 a6 a7=>?_⟩
   exact⟨s1,i,ps,out,t,rfl,a1,a2,e,v3,a3,a4,a5,a6,a7⟩
  rintro⟨s1,i,ps,out,t,e,v3,rfl,a1,hS2,ht2,he2,ho2,hef,k2⟩
  obtain⟨f1,_⟩:=a1.facts hT
  have hil:=(List.getElem?_eq_some_iff.mp f1).1
  have sh2:=sh_ks h1 k2 hbc hS.fours hv2
  have hsl:=a1.slot hT hc
  obtain⟨b1,b2⟩:=a1.back hT hA hS2.lens.1 hS2.lens.2 hc
  refine⟨fun σ G=>σ=[some (.ref z.p),some (.int j),some (.ref m),some (.ref c.sh),some (.ref t)]∧SsAt A.C_Sheets A.C_Spots A.C_Sheet G z (s1.put true i (some c))∧G t=some (.tup [.int (i:Int),.ref e,v3])∧G e=some (.lst (ps.map V.int))∧OutAt z.four G v3 out∧Ks z H G,?_,fun σ3 G3=>?_⟩
  ·obtain⟨dx9,h9⟩:=hS2.me
   obtain⟨dx8,vs8,e1,e2,e3,e4,e5⟩:=id hS2.fr
   have l8:=Paired.length e3
   walk_at "wp"
   refine⟨_,dx9,_,h9,T.cl_Sheets,T.na_Sheets_frames,_,aaz,z.fp,rfl,_,dx8,_,e1,T.cl_Spots,T.na_Spots_lying,_,aa3,_,SqT.of ht2,.int i,aac (j:=0) rfl,z.ly,rfl,vs8,i,rfl,e2,i,ixn (by rw[l8];exact hil),?_⟩
   refine⟨hS2.set (f:=true) (j:=i) (r:=some c) e2 sh2 (fun q e=>by cases e;exact hbc),by rw[aaf (aca ht2 e2 (fun z=>nomatch z))];exact ht2,by rw[aaf (fun z9=>hef (by rw[z9];exact ada (f:=true)))];exact he2,ho2.keep fun a us ha=>?_,aix (f:=true) k2⟩
   rcases ha with ha|ha
   ·rw[aaf (aca ha e2 (fun z=>nomatch z))]
   ·rw[aaf (fun z9=>ha.2 (by rw[z9];exact ada (f:=true)))]
  rintro⟨rfl,hS3,ht3,he3,ho3,k3⟩
  refine⟨fun σ G=>σ=[some (.ref z.p),some (.int j),some (.ref m),some (.ref c.sh),some (.ref t)]∧SsAt A.C_Sheets A.C_Spots A.C_Sheet G z (bck0 s1 i j c out)∧G t=some (.tup [.int (i:Int),.ref e,v3])∧G e=some (.lst (ps.map V.int))∧OutAt z.four G v3 out∧Ks z H G,?_,fun σ4 G4=>?_⟩
  ·walk_at "wp"
   have ntf:∀{c:Addr} {us:List V},G3 c=some (.tup us)→c∉z.four:=fun hc z9=>by obtain⟨ws,h9⟩:=hS3.fours _ z9;rw[hc] at h9;cases h9
   have nti:∀{c:Addr} {o:HO},G3 c=some o→(hn:∀D d fs,o≠.ins D d fs:=by intro _ _ _ z;cases z)→c≠z.p:=fun hc hn z9=>by obtain⟨dx,h1⟩:=hS3.me;rw[z9,h1] at hc;exact hn _ _ _ (Option.some.inj hc).symm
   obtain⟨dx9,h9⟩:=hS3.me
   obtain⟨dx8,vs8,e1,e2,e3,e4,e5⟩:=id hS3.sl
   have l8:vs8.length=s1.sr.length:=Paired.length e3
   have hln:=hS2.lens
   have hjl1:j < s1.sr.length:=by have:=(a1.facts hT).2.2.1;omega
   refine⟨_,SqT.of ht3,v3,aac (j:=2) rfl,?_⟩
   cases out with
   |none=>
    obtain rfl:v3=.non:=id ho3
    rw[if_pos rfl]
    have nout:(none:Option (Nat×Sh)).map (·.1)≠some j:=fun z=>by cases z
    have eb:bck0 s1 i j c none=(((s1.put true i (some c)).put false j none).tie false j (some i)).tie true i (some j):=by unfold bck0;rw[if_neg nout]
    rw[eb]
    have S5:=hS3.set (f:=false) (j:=j) (r:=none) e2 rfl (fun q e=>nomatch e)
    have k5:Ks z G3 (upd G3 z.ls (.lst (vs8.set j .non))):=aix (f:=false) (Ks.of aae)
    refine⟨_,dx9,_,h9,T.cl_Sheets,T.na_Sheets_slots,_,abq,z.sq,rfl,_,dx8,_,e1,T.cl_Spots,T.na_Spots_lying,_,aa3,z.ls,rfl,vs8,e2,j,ixn (by rw[l8];exact hjl1),?_⟩
    have S5:SsAt A.C_Sheets A.C_Spots A.C_Sheet (upd G3 z.ls (.lst (vs8.set j .non))) z ((s1.put true i (some c)).put false j none):=S5
    generalize upd G3 z.ls _=G5 at *
    obtain⟨dy,y1⟩:=S5.me
    obtain⟨dz,ws,y2,y3,y4,y5,y6⟩:=id S5.sl
    have y5:G5 z.ts=some (.lst (s1.ts.map oV)):=y5
    have ht5:=k5 _ _ ht3 (nti ht3) (ntf ht3)
    refine⟨_,SqT.of ht5,.int i,aac (j:=0) rfl,_,dy,_,y1,T.cl_Sheets,T.na_Sheets_slots,_,abq,z.sq,rfl,_,dz,_,y2,T.cl_Spots,T.na_Spots_twins,_,ab2,z.ts,rfl,_,y5,j,ixn (by rw[List.length_map];omega),?_⟩
    have S6:SsAt A.C_Sheets A.C_Spots A.C_Sheet (upd G5 z.ts (.lst ((s1.ts.map oV).set j (V.int (i:Int))))) z _:=S5.tie (f:=false) (j:=j) (o:=some i)
    have k6:Ks z G3 (upd G5 z.ts (.lst ((s1.ts.map oV).set j (V.int (i:Int))))):=akx (f:=false) k5
    generalize upd G5 z.ts _=G6 at *
    obtain⟨dw,x1⟩:=S6.me
    obtain⟨dv,us,x2,x3,x4,x5,x6⟩:=id S6.fr
    have x5:G6 z.tw=some (.lst (s1.tf.map oV)):=x5
    have ht6:=k6 _ _ ht3 (nti ht3) (ntf ht3)
    refine⟨_,dw,_,x1,T.cl_Sheets,T.na_Sheets_frames,_,aaz,z.fp,rfl,_,dv,_,x2,T.cl_Spots,T.na_Spots_twins,_,ab2,_,SqT.of ht6,.int i,aac (j:=0) rfl,z.tw,rfl,_,i,rfl,x5,i,ixn (by rw[List.length_map];omega),?_⟩
    have S7:SsAt A.C_Sheets A.C_Spots A.C_Sheet (upd G6 z.tw (.lst ((s1.tf.map oV).set i (V.int (j:Int))))) z _:=S6.tie (f:=true) (j:=i) (o:=some j)
    have k7:Ks z G3 (upd G6 z.tw (.lst ((s1.tf.map oV).set i (V.int (j:Int))))):=akx (f:=true) k6
    exact⟨S7,k7 _ _ ht3 (nti ht3) (ntf ht3),k7 _ _ he3 (nti he3) hef,ho3.keep (fun a us ha=>by
     rcases ha with ha|ha
     ·rw[ha];exact k7 _ _ ha (nti ha) (ntf ha)
     ·rw[ha.1];exact k7 _ _ ha.1 (nti ha.1) ha.2),k3.trans k7⟩
   |some jq=>
    obtain⟨j2,q2⟩:=jq
    obtain⟨o,l,rfl,d1,d2⟩:=id ho3
    rw[if_neg (fun z=>nomatch z)]
    refine⟨_,SqT.of ht3,.ref o,aac (j:=2) rfl,o,rfl,_,SqT.of d1,.int j2,aac (j:=0) rfl,rfl,?_⟩
    by_cases c9:j2=j
    ·subst c9
     have eb:bck0 s1 i j2 c (some (j2,q2))=s1.put true i (some c):=by unfold bck0;exact if_pos rfl
     rw[eb]
     exact ifn (by simp) ⟨hS3,ht3,he3,ho3,k3⟩
    refine ifp (by simp;omega) ?_
    have nout:(some (j2,q2)).map (·.1)≠some j:=fun z=>c9 (Option.some.inj z)
    have eb:bck0 s1 i j c (some (j2,q2))=(((s1.put true i (some c)).put false j none).tie false j (some i)).tie true i (some j):=by unfold bck0;rw[if_neg nout]
    rw[eb]
    have S5:=hS3.set (f:=false) (j:=j) (r:=none) e2 rfl (fun q e=>nomatch e)
    have k5:Ks z G3 (upd G3 z.ls (.lst (vs8.set j .non))):=aix (f:=false) (Ks.of aae)
    refine⟨_,dx9,_,h9,T.cl_Sheets,T.na_Sheets_slots,_,abq,z.sq,rfl,_,dx8,_,e1,T.cl_Spots,T.na_Spots_lying,_,aa3,z.ls,rfl,vs8,e2,j,ixn (by rw[l8];exact hjl1),?_⟩
    have S5:SsAt A.C_Sheets A.C_Spots A.C_Sheet (upd G3 z.ls (.lst (vs8.set j .non))) z ((s1.put true i (some c)).put false j none):=S5
    generalize upd G3 z.ls _=G5 at *
    obtain⟨dy,y1⟩:=S5.me
    obtain⟨dz,ws,y2,y3,y4,y5,y6⟩:=id S5.sl
    have y5:G5 z.ts=some (.lst (s1.ts.map oV)):=y5
    have ht5:=k5 _ _ ht3 (nti ht3) (ntf ht3)
    refine⟨_,SqT.of ht5,.int i,aac (j:=0) rfl,_,dy,_,y1,T.cl_Sheets,T.na_Sheets_slots,_,abq,z.sq,rfl,_,dz,_,y2,T.cl_Spots,T.na_Spots_twins,_,ab2,z.ts,rfl,_,y5,j,ixn (by rw[List.length_map];omega),?_⟩
    have S6:SsAt A.C_Sheets A.C_Spots A.C_Sheet (upd G5 z.ts (.lst ((s1.ts.map oV).set j (V.int (i:Int))))) z _:=S5.tie (f:=false) (j:=j) (o:=some i)
    have k6:Ks z G3 (upd G5 z.ts (.lst ((s1.ts.map oV).set j (V.int (i:Int))))):=akx (f:=false) k5
    generalize upd G5 z.ts _=G6 at *
    obtain⟨dw,x1⟩:=S6.me
    obtain⟨dv,us,x2,x3,x4,x5,x6⟩:=id S6.fr
    have x5:G6 z.tw=some (.lst (s1.tf.map oV)):=x5
    have ht6:=k6 _ _ ht3 (nti ht3) (ntf ht3)
    refine⟨_,dw,_,x1,T.cl_Sheets,T.na_Sheets_frames,_,aaz,z.fp,rfl,_,dv,_,x2,T.cl_Spots,T.na_Spots_twins,_,ab2,_,SqT.of ht6,.int i,aac (j:=0) rfl,z.tw,rfl,_,i,rfl,x5,i,ixn (by rw[List.length_map];omega),?_⟩
    have S7:SsAt A.C_Sheets A.C_Spots A.C_Sheet (upd G6 z.tw (.lst ((s1.tf.map oV).set i (V.int (j:Int))))) z _:=S6.tie (f:=true) (j:=i) (o:=some j)
    have k7:Ks z G3 (upd G6 z.tw (.lst ((s1.tf.map oV).set i (V.int (j:Int))))):=akx (f:=true) k6
    exact⟨S7,k7 _ _ ht3 (nti ht3) (ntf ht3),k7 _ _ he3 (nti he3) hef,ho3.keep (fun a us ha=>by
     rcases ha with ha|ha
     ·rw[ha];exact k7 _ _ ha (nti ha) (ntf ha)
     ·rw[ha.1];exact k7 _ _ ha.1 (nti ha.1) ha.2),k3.trans k7⟩
  rintro⟨rfl,hS4,ht4,he4,ho4,k4⟩
  obtain⟨dx9,h9⟩:=hS4.me
  have ecb:(bck0 s1 i j c out).cb=s1.cb:=by unfold bck0;split<;>rfl
  walk_at "wp"
  refine⟨_,dx9,_,h9,T.cl_Sheets,T.na_Sheets_come_back,_,an3,_,rfl,_,dx9,_,h9,T.cl_Sheets,T.na_Sheets_come_back,by show 7 < 1000;decide,?_⟩
  rw[ssF_pc,ecb]
  refine q _ s1 i ps out t e v3 a1 ?_ b1 b2 ?_ ?_ ?_ hef (aj4 k4)
  ·exact hS4.num h9 rfl rfl hS4.hh rfl rfl
  ·rw[aaf (aca ht4 h9 (fun z=>nomatch z))];exact ht4
  ·rw[aaf (aca he4 h9 (fun z=>nomatch z))];exact he4
  ·refine ho4.keep fun a us ha=>?_
   rcases ha with ha|ha
   ·rw[aaf (aca ha h9 (fun z=>nomatch z))]
   ·rw[aaf (aca ha.1 h9 (fun z=>nomatch z))]
theorem ah3:∀{rows:List (Option Sh)} {j:Nat},(hds (rows.set j none)).Sublist (hds rows)
 |[],_=>List.Sublist.refl _
 |x::l,0=>by
  cases x with
  |none=>exact List.Sublist.refl _
  |some y=>exact List.Sublist.cons _ (List.Sublist.refl _)
 |x::l,j+1=>by
  cases x with
  |none=>exact ah3 (rows:=l) (j:=j)
  |some y=>exact List.Sublist.cons₂ _ (ah3 (rows:=l) (j:=j))
theorem amq:∀{rows:List (Option Sh)} {i j:Nat} {r r':Sh},(hds rows).Nodup→rows[j]?=some (some r)→rows[i]?=some (some r')→i≠j→r'.hd≠r.hd
 |[],_,_,_,_,_,h,_,_=>by simp at h
 |x::l,0,0,_,_,_,_,_,h=>absurd rfl h
 |x::l,0,j+1,r,r',nd,h1,h2,_=>by
  simp at h1 h2
  subst h2
  have nd:(r'.hd::hds l).Nodup:=nd
  exact fun e=>(List.nodup_cons.mp nd).1 (aeu.mpr ⟨r,List.mem_of_getElem? h1,e.symm⟩)
 |x::l,i+1,0,r,r',nd,h1,h2,_=>by
  simp at h1 h2
  subst h1
  have nd:(r.hd::hds l).Nodup:=nd
  exact fun e=>(List.nodup_cons.mp nd).1 (aeu.mpr ⟨r',List.mem_of_getElem? h2,e⟩)
 |x::l,i+1,j+1,r,r',nd,h1,h2,hn=>by
  have nd:(hds l).Nodup:=by
   cases x with
   |none=>exact nd
   |some y=>exact (List.nodup_cons.mp (show (y.hd::hds l).Nodup from nd)).2
  exact amq nd (by simpa using h1) (by simpa using h2) (by omega)
noncomputable def amr (C P S:Addr):Sp:=fun vs H Q _=>∃(z:Ss) (s:St) (t:Addr) (f:Bool) (j:Nat) (r:Option Sh),vs=[.ref z.p,.ref t]∧SsAt C P S H z s∧H t=some (.tup [.str (nmS f),.int j])∧(s.rw f)[j]?=some r∧∀v,ShAt S H v r→Q v H
theorem h_la (T:Txt K mg A):HaveM P w K mg base A.C_Sheets "lying_at" 1 ["self","spot"] [] (amr A.C_Sheets A.C_Spots A.C_Sheet):=by
 refine T.r_Sheets_lying_at.have aee (fun vs H Q E z=>?_) ?_
 ·obtain⟨z,s,t,f,j,r,rfl,_⟩:=z;rfl
 ·intro f cdv A' outer s H vs Q E hr z
  obtain⟨z,s,t,f,j,r,rfl,hS,ht,hrj,q⟩:=z
  obtain⟨dx,h1⟩:=hS.me
  refine⟨_,(aak (aax (i:=2) aee.nd rfl (Or.inl rfl) (afp (aao adb (aam aa0 (pvM 1) aab (fun _ _=>rfl)) acy (nomark _)) (aaq (pvM 0) rfl) (aaq (pvM 0) rfl)))
   (aag (aav (aam aaj (aaq (pvM 2) rfl) (aam aa0 (pvM 1) aab (fun _ _=>rfl)) (fun _ _=>rfl))))),?_⟩
  walk_at "wp"
  simp only[h1]
  walk_at "wp"
  obtain⟨dx1,vs1,f1,f2,f3,f4⟩:=id hS.fr
  obtain⟨dx2,vs2,g1,g2,g3,g4⟩:=id hS.sl
  refine⟨_,SqT.of ht,_,rfl,rfl,?_⟩
  cases f with
  |true=>
   rw[if_pos (show V.str (nmS true)=V.str (Str.ofString "frame") from rfl)]
   obtain⟨v,hv1,hv2⟩:=aa1 f3 hrj
   exact⟨T.cl_Sheets,T.na_Sheets_frames,_,aaz,z.fp,rfl,_,dx1,_,f1,T.cl_Spots,T.na_Spots_lying,_,aa3,_,SqT.of ht,_,rfl,z.ly,rfl,_,j,rfl,SqL.of f2,v,aac hv1,q v hv2⟩
  |false=>
   rw[if_neg (by decide+kernel)]
   obtain⟨v,hv1,hv2⟩:=aa1 g3 hrj
   exact⟨T.cl_Sheets,T.na_Sheets_slots,_,abq,z.sq,rfl,_,dx2,_,g1,T.cl_Spots,T.na_Spots_lying,_,aa3,_,SqT.of ht,_,rfl,z.ls,rfl,_,j,rfl,SqL.of g2,v,aac hv1,q v hv2⟩
theorem an9 {S hd:Addr} {H:Hp} {kvs:List (List Key×V)} {o:HO} (hl:H hd=some (.dT kvs)) {vs:List V} {rows:List (Option Sh)} (h:LyAt S H vs rows) (hb:∀r,some r∈rows→r.hd≠hd):LyAt S (upd H hd o) vs rows:=by
 induction h with
 |nil=>exact .nil
 |@cons x y _ _ h t ih=>
  refine .cons ?_ (ih fun r hr=>hb r (List.mem_cons_of_mem _ hr))
  cases y with
  |none=>exact h
  |some r=>
   obtain⟨e,⟨dx,h1⟩,h2,h3⟩:=h
   exact⟨e,⟨dx,by rw[aaf (aca h1 hl (fun z=>nomatch z))];exact h1⟩,by rw[aaf (aca h2 hl (fun z=>nomatch z))];exact h2,by rw[aaf (hb r (List.mem_cons_self ..))];exact h3⟩
theorem ly_ks {S:Addr} {H:Hp} {r:Sh} {kvs:List (List Key×V)} {ks:List (List Key)} (hl:H r.hd=some (.dT kvs)) {vs:List V} {rows:List (Option Sh)} (h:LyAt S H vs rows):∀{j:Nat},rows[j]?=some (some r)→(∀(i:Nat) q,i≠j→rows[i]?=some (some q)→q.hd≠r.hd)→LyAt S (upd H r.hd (.dT (ksD ks))) vs (rows.set j (some {r with ks:=ks})):=by
 induction h with
 |nil=>intro j h _;simp at h
 |@cons x y xs ys h t ih=>
  intro j hj hb
  cases j with
  |zero=>
   simp at hj
   subst hj
   obtain⟨e,⟨dx,h1⟩,h2,h3⟩:=h
   refine .cons ⟨e,⟨dx,by rw[aaf (aca h1 hl (fun z=>nomatch z))];exact h1⟩,by rw[aaf (aca h2 hl (fun z=>nomatch z))];exact h2,aah⟩ (an9 hl t fun q hq=>?_)
   obtain⟨i,hi⟩:=List.mem_iff_getElem?.mp hq
   exact hb (i+1) q (by omega) (by simpa using hi)
  |succ j=>
   refine .cons ?_ (ih (by simpa using hj) fun i q hi hq=>hb (i+1) q (by omega) (by simpa using hq))
   cases y with
   |none=>exact h
   |some r9=>
    obtain⟨e,⟨dx,h1⟩,h2,h3⟩:=h
    exact⟨e,⟨dx,by rw[aaf (aca h1 hl (fun z=>nomatch z))];exact h1⟩,by rw[aaf (aca h2 hl (fun z=>nomatch z))];exact h2,by rw[aaf (hb 0 r9 (by omega) rfl)];exact h3⟩
theorem ams:∀{rows:List (Option Sh)} {j:Nat} {r r':Sh},rows[j]?=some (some r)→r'.hd=r.hd→hds (rows.set j (some r'))=hds rows
 |[],_,_,_,h,_=>by simp at h
 |x::l,0,r,r',h,e=>by
  simp at h
  subst h
  show r'.hd::hds l=r.hd::hds l
  rw[e]
 |x::l,j+1,r,r',h,e=>by
  have:=ams (rows:=l) (j:=j) (by simpa using h) e
  cases x with
  |none=>exact this
  |some y=>exact congrArg (y.hd::·) this
theorem aoa {s:St} {f:Bool} {j:Nat} {r r':Sh} (h:Ap s) (hr:(s.rw f)[j]?=some (some r)) (e:r'.hd=r.hd):Ap (s.put f j (some r')):=by
 unfold Ap at *
 cases f with
 |true=>show (hds (s.fr.set j (some r')++s.sr)).Nodup;rw[acx,ams (rows:=s.fr) hr e,←acx];exact h
 |false=>show (hds (s.fr++s.sr.set j (some r'))).Nodup;rw[acx,ams (rows:=s.sr) hr e,←acx];exact h
theorem aje {s:St} {f:Bool} {j:Nat} (h:Ap s):Ap (s.put f j none):=by
 unfold Ap at *
 rw[acx] at h
 cases f with
 |true=>show (hds (s.fr.set j none++s.sr)).Nodup;rw[acx];exact h.sublist (List.Sublist.append_right ah3 _)
 |false=>show (hds (s.fr++s.sr.set j none)).Nodup;rw[acx];exact h.sublist (List.Sublist.append_left ah3 _)
theorem SsAt.ks {C P S:Addr} {H:Hp} {z:Ss} {s:St} {f:Bool} {j:Nat} {r:Sh} {ks:List (List Key)} (h:SsAt C P S H z s) (hA:Ap s) (hr:(s.rw f)[j]?=some (some r)) (hl:H r.hd=some (.dT (ksD r.ks))):SsAt C P S (upd H r.hd (.dT (ksD ks))) z (s.put f j (some {r with ks:=ks})):=by
 obtain⟨dx,h1⟩:=h.me
 obtain⟨dx1,vs1,f1,f2,f3,f4⟩:=id h.fr
 obtain⟨dx2,vs2,g1,g2,g3,g4⟩:=id h.sl
 have np:∀{c o},H c=some o→(∀us,o≠.dT us)→upd H r.hd (.dT (ksD ks)) c=some o:=fun {c o} hc ho=>by rw[aaf (fun z=>by rw[z,hl] at hc;exact ho _ (Option.some.inj hc).symm)];exact hc
 have bx2:∀q,some q∈(s.put f j (some {r with ks:=ks})).fr∨some q∈(s.put f j (some {r with ks:=ks})).sr→q.bx∉z.four:=fun q hq=>(ajd hq).elim (fun e=>by
  cases e
  refine h.bx r ?_
  cases f with
  |true=>exact .inl (List.mem_of_getElem? hr)
  |false=>exact .inr (List.mem_of_getElem? hr)) (h.bx q)
 unfold Ap at hA
 rw[acx] at hA
 obtain⟨m1,m2,m3⟩:=List.nodup_append.mp hA
 cases f with
 |true=>
  have hr:s.fr[j]?=some (some r):=hr
  have f5:s.tf.length=(s.fr.set j (some {r with ks:=ks})).length:=by rw[List.length_set];exact f4.2
  have f4:=np f4.1 (fun _ z=>nomatch z)
  have len:=h.len
  have hh:=h.hh
  rw[←List.length_set (as:=s.fr) (i:=j) (a:=some {r with ks:=ks})] at len hh
  exact⟨⟨dx,np h1 (fun _ z=>nomatch z)⟩,⟨dx1,vs1,np f1 (fun _ z=>nomatch z),np f2 (fun _ z=>nomatch z),ly_ks hl f3 hr (fun i q hi hq=>amq m1 hr hq hi),f4,f5⟩,⟨dx2,vs2,np g1 (fun _ z=>nomatch z),np g2 (fun _ z=>nomatch z),an9 hl g3 (fun q hq e=>m3 r.hd (aeu.mpr ⟨r,List.mem_of_getElem? hr,rfl⟩) q.hd (aeu.mpr ⟨q,hq,rfl⟩) e.symm),np g4.1 (fun _ z=>nomatch z),g4.2⟩,h.n4,bx2,len,hh⟩
 |false=>
  have hr:s.sr[j]?=some (some r):=hr
  have g5:s.ts.length=(s.sr.set j (some {r with ks:=ks})).length:=by rw[List.length_set];exact g4.2
  have g4:=np g4.1 (fun _ z=>nomatch z)
  have len:=h.len
  rw[←List.length_set (as:=s.sr) (i:=j) (a:=some {r with ks:=ks})] at len
  exact⟨⟨dx,np h1 (fun _ z=>nomatch z)⟩,⟨dx1,vs1,np f1 (fun _ z=>nomatch z),np f2 (fun _ z=>nomatch z),an9 hl f3 (fun q hq e=>m3 q.hd (aeu.mpr ⟨q,hq,rfl⟩) r.hd (aeu.mpr ⟨r,List.mem_of_getElem? hr,rfl⟩) e),np f4.1 (fun _ z=>nomatch z),f4.2⟩,⟨dx2,vs2,np g1 (fun _ z=>nomatch z),np g2 (fun _ z=>nomatch z),ly_ks hl g3 hr (fun i q hi hq=>amq m2 hr hq hi),g4,g5⟩,h.n4,bx2,len,h.hh⟩
theorem ah4 {s:St} {f:Bool} {j:Nat} {a b:Option Sh}:(s.put f j a).put f j b=s.put f j b:=by
 cases f with
 |true=>show St.mk ((s.fr.set j a).set j b) s.sr s.h s.go s.ga s.cb s.tf s.ts=St.mk (s.fr.set j b) s.sr s.h s.go s.ga s.cb s.tf s.ts;rw[List.set_set]
 |false=>show St.mk s.fr ((s.sr.set j a).set j b) s.h s.go s.ga s.cb s.tf s.ts=St.mk s.fr (s.sr.set j b) s.h s.go s.ga s.cb s.tf s.ts;rw[List.set_set]
theorem Tw.put {s:St} {f:Bool} {j:Nat} {r r':Sh} (h:Tw s) (hr:(s.rw f)[j]?=some (some r)):Tw (s.put f j (some r')):=by
 cases f with
 |true=>exact⟨h.there,h.back,fun a b hab=>by
  show ∃q,(s.fr.set j (some r'))[a]?=some (some q)
  obtain⟨q,hq⟩:=h.full a b hab
  rw[List.getElem?_set]
  split
  ·rename_i e
   subst e
   rw[if_pos (List.getElem?_eq_some_iff.mp hq).1]
   exact⟨_,rfl⟩
  ·exact⟨q,hq⟩,h.bare⟩
 |false=>exact⟨h.there,h.back,h.full,fun a b hab=>by
  show (s.sr.set j (some r'))[b]?=some none
  have hb:=h.bare a b hab
  rw[List.getElem?_set,if_neg (fun e=>?_)]
  ·exact hb
  ·subst e
   have hr:s.sr[j]?=some (some r):=hr
   rw[hb] at hr;cases hr⟩
theorem amt {s:St} {f:Bool} {j:Nat} {a:Option Sh}:((s.put f j a).rw f).length=(s.rw f).length:=by
 cases f with
 |true=>exact List.length_set
 |false=>exact List.length_set
noncomputable def offK (ks:List (List Key)) (k:List Key):List (List Key):=ks.filter fun x=>decide (x≠k)
theorem aqg {ks:List (List Key)} {k:List Key}:dropK (ksD ks) k=ksD (offK ks k):=by
 unfold dropK ksD offK
 rw[List.filter_map]
 rfl
theorem val_ks {ks:List (List Key)} {k:List Key} (h:k∈ks):valV (ksD ks) k=some (.bl true):=by
 induction ks with
 |nil=>cases h
 |cons x r ih=>
  show valV ((x,V.bl true)::ksD r) k=_
  by_cases c:x=k
  ·exact afr c
  ·rw[ae8 c]
   rcases List.mem_cons.mp h with e|e
   ·exact absurd e.symm c
   ·exact ih e
noncomputable def als (rows:List (Option Sh)):List Sh:=rows.filterMap id
theorem ab6 {a b:List (Option Sh)}:als (a++b)=als a++als b:=by unfold als;rw[List.filterMap_append]
theorem ae7 {rows:List (Option Sh)} {r:Sh}:r∈als rows↔some r∈rows:=by
 unfold als
 rw[List.mem_filterMap]
 exact⟨fun ⟨_,h,e⟩=>by rw[←show _=some r from e];exact h,fun h=>⟨_,h,rfl⟩⟩
theorem adq:∀{rows:List (Option Sh)} {j:Nat} {r:Sh},rows[j]?=some none→(als (rows.set j (some r))).Perm (r::als rows):=by
 intro rows
 induction rows with
 |nil=>intro j r h;simp at h
 |cons x l ih=>
  intro j r h
  cases j with
  |zero=>
   simp at h
   subst h
   exact List.Perm.refl _
  |succ j=>
   have:=ih (j:=j) (r:=r) (by simpa using h)
   cases x with
   |none=>exact this
   |some y=>exact (List.Perm.cons y this).trans (List.Perm.swap ..)
theorem aeg {rows:List (Option Sh)} {j:Nat} {q:Sh} (h:rows[j]?=some (some q)):(als rows).Perm (q::als (rows.set j none)):=by
 obtain⟨h1,h2⟩:=List.getElem?_eq_some_iff.mp h
 have:=adq (rows:=rows.set j none) (j:=j) (r:=q) (by rw[List.getElem?_set_self h1])
 rw[List.set_set,←h2,List.set_getElem_self] at this
 exact this
theorem aob {fr sr:List (Option Sh)} {i j:Nat} {q c:Sh} (hq:fr[i]?=some (some q)) (hc:sr[j]?=some (some c)):(als (fr.set i (some c)++sr.set j (some q))).Perm (als (fr++sr)):=by
 rw[ab6,ab6]
 have a1:=adq (rows:=fr.set i none) (j:=i) (r:=c) (List.getElem?_set_self (List.getElem?_eq_some_iff.mp hq).1)
 have a2:=adq (rows:=sr.set j none) (j:=j) (r:=q) (List.getElem?_set_self (List.getElem?_eq_some_iff.mp hc).1)
 rw[List.set_set] at a1 a2
 refine (a1.append a2).trans (List.Perm.trans ?_ ((aeg hq).append (aeg hc)).symm)
 exact (List.Perm.cons _ List.perm_middle).trans ((List.Perm.swap ..).trans (List.Perm.cons _ List.perm_middle.symm))
theorem aoc {fr sr:List (Option Sh)} {i j:Nat} {c:Sh} (hi:fr[i]?=some none) (hc:sr[j]?=some (some c)):(als (fr.set i (some c)++sr.set j none)).Perm (als (fr++sr)):=by
 rw[ab6,ab6]
 refine ((adq hi).append_right _).trans (List.Perm.trans ?_ ((aeg hc).append_left _).symm)
 exact List.perm_middle.symm
noncomputable def alS (s:St):List Sh:=als (s.fr++s.sr)
noncomputable def Bx (s:St):Prop:=((alS s).map Sh.bx).Nodup
theorem abp {s:St} {r:Sh}:r∈alS s↔some r∈s.fr∨some r∈s.sr:=by unfold alS;rw[ae7,List.mem_append]
theorem Ffr.als {s s1:St} {c:Option Nat} {ms:List Bool} {i:Nat} {ps:List Int} {out:Option (Nat×Sh)} (h:Ffr s c ms s1 i ps out) (hn:∀j q,out=some (j,q)→s.sr[j]?=some none):(alS s1).Perm (alS s):=by
 rcases h with ⟨h1,rfl,_,rfl⟩|⟨h1,q,j,hsw,hq,hsf,hj,rfl,rfl⟩
 ·exact List.Perm.refl _
 ·obtain⟨e1,e2,_⟩:=af3 (s:={s with h:=(i+1) % s.fr.length}) (i:=i) (j:=j) (r:=q)
  unfold alS
  rw[e1,e2,ab6,ab6]
  refine ((List.Perm.refl _).append (adq (hn j q rfl))).trans ?_
  exact List.perm_middle.trans ((aeg hq).symm.append_right _)
theorem Ffr.alsF {s s1:St} {ms:List Bool} {i:Nat} {ps:List Int} {out:Option (Nat×Sh)} {r:Sh} (h:Ffr s none ms s1 i ps out) (hT:Tw s):(alS {s1 with fr:=s1.fr.set i (some r)}).Perm (r::alS s):=by
 obtain⟨f1,_⟩:=h.facts hT
 have f2:=h.als fun j q e=>by
  rcases h with ⟨_,_,_,rfl⟩|⟨_,q2,j2,_,_,hsf,_,_,rfl⟩
  ·cases e
  ·cases e
   rcases agh hT hsf with h|⟨h,_⟩
   ·exact h
   ·cases h
 refine List.Perm.trans ?_ (List.Perm.cons r f2)
 unfold alS
 show (Pf.als (s1.fr.set i (some r)++s1.sr)).Perm _
 rw[ab6,ab6]
 exact (adq f1).append_right _
theorem Ffr.alsB {s s1:St} {ms:List Bool} {i j:Nat} {ps:List Int} {out:Option (Nat×Sh)} {c:Sh} (h:Ffr s (some j) ms s1 i ps out) (hT:Tw s) (hc:s.sr[j]?=some (some c)):(alS (bckS s1 i j c out)).Perm (alS s):=by
 obtain⟨b1,b2,_⟩:=amp (s1:=s1) (i:=i) (j:=j) (c:=c) (out:=out)
 obtain⟨f1,_⟩:=h.facts hT
 rcases h.slot hT hc with ⟨h1,q,h2,h3,h4⟩|⟨h1,h2,h3⟩
 ·rw[if_pos h1] at b2
  unfold alS
  rw[b1,b2,h3,h4,List.set_set]
  exact aob h2 hc
 ·rw[if_neg h1] at b2
  unfold alS
  rw[b1,b2]
  exact (aoc f1 h2).trans (h.als h3)
theorem ly_bx {S:Addr} {H:Hp} {r:Sh} {us:List V} {bs:List Int} (hl:H r.bx=some (.lst us)) {vs:List V} {rows:List (Option Sh)} (h:LyAt S H vs rows):∀{j:Nat},rows[j]?=some (some r)→(∀(i:Nat) q,i≠j→rows[i]?=some (some q)→q.bx≠r.bx)→LyAt S (upd H r.bx (.lst (bs.map V.int))) vs (rows.set j (some {r with b:=bs})):=by
 induction h with
 |nil=>intro j h _;simp at h
 |@cons x y xs ys h t ih=>
  intro j hj hb
  cases j with
  |zero=>
   simp at hj
   subst hj
   obtain⟨e,⟨dx,h1⟩,h2,h3⟩:=h
   refine .cons ⟨e,⟨dx,by rw[aaf (aca h1 hl (fun z=>nomatch z))];exact h1⟩,aah,by rw[aaf (aca h3 hl (fun z=>nomatch z))];exact h3⟩ (aew hl t fun q hq=>?_)
   obtain⟨i,hi⟩:=List.mem_iff_getElem?.mp hq
   exact hb (i+1) q (by omega) (by simpa using hi)
  |succ j=>
   refine .cons (agy hl h fun q e=>hb 0 q (by omega) (by rw[e];rfl)) (ih (by simpa using hj) fun i q hi hq=>hb (i+1) q (by omega) (by simpa using hq))
theorem amu:∀{rows:List (Option Sh)} {i j:Nat} {q r:Sh},((als rows).map Sh.bx).Nodup→rows[j]?=some (some r)→rows[i]?=some (some q)→i≠j→q.bx≠r.bx
 |[],i,j,q,r,_,h,_,_=>by simp at h
 |x::l,i,j,q,r,nd,h1,h2,hij=>by
  have nl:((als l).map Sh.bx).Nodup:=by
   cases x with
   |none=>exact nd
   |some y=>exact (List.nodup_cons.mp nd).2
  cases j with
  |zero=>
   cases i with
   |zero=>exact absurd rfl hij
   |succ i=>
    simp at h1 h2
    subst h1
    exact fun e=>(List.nodup_cons.mp nd).1 (List.mem_map.mpr ⟨q,ae7.mpr (List.mem_of_getElem? h2),e⟩)
  |succ j=>
   cases i with
   |zero=>
    simp at h1 h2
    subst h2
    exact fun e=>(List.nodup_cons.mp nd).1 (List.mem_map.mpr ⟨r,ae7.mpr (List.mem_of_getElem? h1),e.symm⟩)
   |succ i=>exact amu nl (by simpa using h1) (by simpa using h2) (by omega)
theorem SsAt.wr {C P S:Addr} {H:Hp} {z:Ss} {s:St} {j:Nat} {r:Sh} {bs:List Int} (h:SsAt C P S H z s) (hB:Bx s) (hr:s.fr[j]?=some (some r)) (hl:H r.bx=some (.lst (r.b.map V.int))):SsAt C P S (upd H r.bx (.lst (bs.map V.int))) z (s.put true j (some {r with b:=bs})):=by
 obtain⟨dx,h1⟩:=h.me
 obtain⟨dx1,vs1,f1,f2,f3,f4,f5⟩:=id h.fr
 obtain⟨dx2,vs2,g1,g2,g3,g4,g5⟩:=id h.sl
 have hbr:=h.bx r (.inl (List.mem_of_getElem? hr))
 unfold Bx alS at hB
 rw[ab6,List.map_append] at hB
 obtain⟨m1,m2,m3⟩:=List.nodup_append.mp hB
 have ni:∀{c D dx fs},H c=some (.ins D dx fs)→upd H r.bx (.lst (bs.map V.int)) c=some (.ins D dx fs):=fun hc=>by rw[aaf (aca hc hl (fun z=>nomatch z))];exact hc
 have nf:∀{c o},H c=some o→c∈z.four→upd H r.bx (.lst (bs.map V.int)) c=some o:=fun hc hn=>by rw[aaf (fun e=>hbr (by rw[←e];exact hn))];exact hc
 have len:=h.len
 have hh:=h.hh
 rw[←List.length_set (as:=s.fr) (i:=j) (a:=some {r with b:=bs})] at len hh f5
 exact⟨⟨dx,ni h1⟩,⟨dx1,vs1,ni f1,nf f2 (ada (f:=true)),ly_bx hl f3 hr (fun i q hi hq=>amu m1 hr hq hi),nf f4 (aej (f:=true)),f5⟩,⟨dx2,vs2,ni g1,nf g2 (ada (f:=false)),aew hl g3 (fun q hq e=>m3 r.bx (List.mem_map.mpr ⟨r,ae7.mpr (List.mem_of_getElem? hr),rfl⟩) q.bx (List.mem_map.mpr ⟨q,ae7.mpr hq,rfl⟩) e.symm),nf g4 (aej (f:=false)),g5⟩,h.n4,fun q hq=>(ajd hq).elim (fun e=>by cases e;exact hbr) (h.bx q),len,hh⟩
noncomputable def wrS (s:St) (i:Nat) (r:Sh) (k:Nat) (x:Int):St:=untie (s.put true i (some {r with b:=r.b.set k x})) i
noncomputable def Kb (z:Ss) (b:Addr) (H H':Hp):Prop:=∀c o,H c=some o→c≠z.p→c∉z.four→c≠b→H' c=some o
noncomputable def aqh (C P S:Addr):Sp:=fun vs H Q _=>∃(z:Ss) (s:St) (i k:Nat) (r:Sh) (x:Int),vs=[.ref z.p,.int i,.int k,.int x]∧SsAt C P S H z s∧Tw s∧Bx s∧s.fr[i]?=some (some r)∧k < r.b.length∧∀H',SsAt C P S H' z (wrS s i r k x)→Kb z r.bx H H'→Q .non H'
theorem h_setb (T:Txt K mg A):HaveM P w K mg base A.C_Sheets "set_box" 2 ["self","frame","box","value"] [] (aqh A.C_Sheets A.C_Spots A.C_Sheet):=by
 have H_Sheets_lose_twin:=amm (P:=P) (w:=w) (base:=base) T
 refine T.r_Sheets_set_box.have af0 (fun vs H Q E z=>?_) ?_
 ·obtain⟨z,s,i,k,r,x,rfl,_⟩:=z;rfl
 ·intro f cdv A' outer s H vs Q E hr z
  obtain⟨z,s,i,k,r,x,rfl,hS,hT,hB,hri,hk,q⟩:=z
  obtain⟨dx,h1⟩:=hS.me
  obtain⟨dx1,vs1,f1,f2,f3,f4,f5⟩:=id hS.fr
  obtain⟨v1,hv1,rfl,⟨dxr,g1⟩,g2,g3⟩:=aa1 f3 hri
  have hil:=(List.getElem?_eq_some_iff.mp hri).1
  refine⟨_,(aak (ac6 (pvM 3) (ac5 (aaq (aam aaj (aaq (aaq (pvM 0) rfl) rfl) (pvM 1) (fun _ _=>rfl)) rfl) (pvM 2) abx))
   (aag (aby (aa6 (pvM 0) T.cl_Sheets H_Sheets_lose_twin (hr.mono (by decide)) aat (aaa (pvM 1) aad))))),?_⟩
  walk_at "wp"
  simp only[h1]
  walk_at "wp"
  refine⟨T.cl_Sheets,T.na_Sheets_frames,_,aaz,z.fp,rfl,_,dx1,_,f1,T.cl_Spots,T.na_Spots_lying,_,aa3,z.ly,rfl,_,SqL.of f2,_,aac hv1,r.sh,rfl,_,dxr,_,g1,T.cl_Sheet,T.na_Sheet_boxes,_,ae6,r.bx,rfl,_,g2,k,ixn (by rw[List.length_map];exact hk),?_⟩
  have S1:=hS.wr (bs:=r.b.set k x) hB hri g2
  rw[←List.map_set]
  have k1:Kb z r.bx H (upd H r.bx (.lst ((r.b.set k x).map V.int))):=fun c o hc _ _ hn=>by rw[aaf hn];exact hc
  generalize upd H r.bx _=G at *
  obtain⟨dx9,h9⟩:=S1.me
  have hln:=hS.lens
  refine⟨dx9,_,h9,abw (by decide+kernel),z,_,i,rfl,S1,by show i < (s.fr.set i _).length;rw[List.length_set];exact hil,fun j hj=>?_,fun H' a1 a2 a3=>q H' a1 fun c o hc n1 n2 n3=>a2 c o (k1 c o hc n1 n2 n3) n1 n2⟩
  have:=(List.getElem?_eq_some_iff.mp (hT.there i j hj)).1
  show j < s.sr.length
  omega
theorem ahh {s:St} {i j:Nat} (h:s.tf[i]?=some (some j)):untie s i=(s.tie true i none).tie false j none:=by unfold untie;rw[h]
theorem afe {s:St} {i:Nat} (h:∀j,s.tf[i]?≠some (some j)):untie s i=s:=by
 unfold untie
 split
 ·rename_i j e;exact absurd e (h j)
 ·rfl
theorem Tw.untie {s:St} {i:Nat} (h:Tw s):Tw (Pf.untie s i):=by
 cases e:s.tf[i]? with
 |none=>rw[afe (fun j z=>by rw[e] at z;cases z)];exact h
 |some o=>
  cases o with
  |none=>rw[afe (fun j z=>by rw[e] at z;cases z)];exact h
  |some j=>
   have hj:=h.there i j e
   rw[ahh e]
   refine⟨fun a b hab=>?_,fun a b hab=>?_,fun a b hab=>?_,fun a b hab=>?_⟩
   ·have hab:(s.tf.set i none)[a]?=some (some b):=hab
    show (s.ts.set j none)[b]?=some (some a)
    obtain⟨z1,z2⟩:=msn.mp hab
    have:=h.there a b z1
    refine msn.mpr ⟨this,fun eb=>z2 ?_⟩
    rw[eb,hj] at this
    exact (Option.some.inj (Option.some.inj this)).symm
   ·have hab:(s.ts.set j none)[b]?=some (some a):=hab
    show (s.tf.set i none)[a]?=some (some b)
    obtain⟨z1,z2⟩:=msn.mp hab
    have:=h.back a b z1
    refine msn.mpr ⟨this,fun ea=>z2 ?_⟩
    rw[ea,e] at this
    exact (Option.some.inj (Option.some.inj this)).symm
   ·exact h.full a b (msn.mp (show (s.tf.set i none)[a]?=some (some b) from hab)).1
   ·exact h.bare a b (msn.mp (show (s.ts.set j none)[b]?=some (some a) from hab)).1
theorem Ap.untie {s:St} {i:Nat} (h:Ap s):Ap (Pf.untie s i):=by unfold Ap;rw[acb.1,acb.2.1];exact h
theorem Bx.untie {s:St} {i:Nat} (h:Bx s):Bx (Pf.untie s i):=by unfold Bx alS;rw[acb.1,acb.2.1];exact h
theorem ah5 {rows:List (Option Sh)} {i:Nat} {r r':Sh} (h:rows[i]?=some (some r)):(als (rows.set i (some r'))).Perm (r'::als (rows.set i none)):=by
 have:=adq (rows:=rows.set i none) (j:=i) (r:=r') (List.getElem?_set_self (List.getElem?_eq_some_iff.mp h).1)
 rw[List.set_set] at this
 exact this
theorem ao6 {s:St} {f:Bool} {i:Nat} {r r':Sh} (h:Bx s) (hr:(s.rw f)[i]?=some (some r)) (e:r'.bx=r.bx):Bx (s.put f i (some r')):=by
 have go:∀{rows:List (Option Sh)},rows[i]?=some (some r)→((als (rows.set i (some r'))).map Sh.bx).Perm ((als rows).map Sh.bx):=fun hr=>by
  refine ((ah5 hr).map Sh.bx).trans (List.Perm.trans ?_ ((aeg hr).map Sh.bx).symm)
  rw[List.map_cons,List.map_cons,e]
 unfold Bx alS at *
 rw[ab6,List.map_append] at h
 cases f with
 |true=>
  show ((als (s.fr.set i (some r')++s.sr)).map Sh.bx).Nodup
  rw[ab6,List.map_append]
  exact ((go hr).append_right _).nodup_iff.mpr h
 |false=>
  show ((als (s.fr++s.sr.set i (some r'))).map Sh.bx).Nodup
  rw[ab6,List.map_append]
  exact ((go hr).append_left _).nodup_iff.mpr h
noncomputable def emptS (s:St) (f:Bool) (j:Nat):St:=if f=true then untie (s.put true j none) j else s.put false j none
noncomputable def Kg (z:Ss) (d:Addr) (H H':Hp):Prop:=∀c o,H c=some o→c≠z.p→c∉z.four→c≠d→H' c=some o
theorem amv {s:St} {f:Bool} {j:Nat} (h:Ap s):Ap (emptS s f j):=by
 cases f with
 |true=>exact (aje (f:=true) h).untie
 |false=>exact aje (f:=false) h
theorem Tw.empt {s:St} {f:Bool} {j:Nat} {r:Sh} (h:Tw s) (hr:(s.rw f)[j]?=some (some r)):Tw (emptS s f j):=by
 cases f with
 |true=>
  show Tw (Pf.untie (s.put true j none) j)
  have go:∀t u:List (Option Nat),(∀a b:Nat,t[a]?=some (some b)→s.tf[a]?=some (some b)∧a≠j)→(∀a b:Nat,u[b]?=some (some a)→s.ts[b]?=some (some a))→(∀a b:Nat,t[a]?=some (some b)→u[b]?=some (some a))→(∀a b:Nat,u[b]?=some (some a)→t[a]?=some (some b))→Tw {s with fr:=s.fr.set j none,tf:=t,ts:=u}:=fun t u h1 h2 h3 h4=>⟨h3,h4,fun a b hab=>by
   obtain⟨x1,x2⟩:=h1 a b hab
   show ∃q,(s.fr.set j none)[a]?=some (some q)
   rw[List.getElem?_set,if_neg (Ne.symm x2)]
   exact h.full a b x1,fun a b hab=>h.bare a b (h2 a b hab)⟩
  cases e:s.tf[j]? with
  |none=>
   rw[afe (fun k z=>by have z:s.tf[j]?=some (some k):=z;rw[e] at z;cases z)]
   exact go s.tf s.ts (fun a b x=>⟨x,fun z=>by rw[z,e] at x;cases x⟩) (fun _ _ x=>x) h.there h.back
  |some o=>
   cases o with
   |none=>
    rw[afe (fun k z=>by have z:s.tf[j]?=some (some k):=z;rw[e] at z;cases z)]
    exact go s.tf s.ts (fun a b x=>⟨x,fun z=>by rw[z,e] at x;cases x⟩) (fun _ _ x=>x) h.there h.back
   |some k=>
    rw[ahh (show (s.put true j none).tf[j]?=some (some k) from e)]
    have hk:=h.there j k e
    refine go (s.tf.set j none) (s.ts.set k none) (fun a b x=>msn.mp x) (fun a b x=>(msn.mp x).1) (fun a b x=>?_) (fun a b x=>?_)
    ·obtain⟨x1,x2⟩:=msn.mp x
     have y:=h.there a b x1
     refine msn.mpr ⟨y,fun z=>x2 ?_⟩
     rw[z,hk] at y
     exact (Option.some.inj (Option.some.inj y)).symm
    ·obtain⟨x1,x2⟩:=msn.mp x
     have y:=h.back a b x1
     refine msn.mpr ⟨y,fun z=>x2 ?_⟩
     rw[z,e] at y
     exact (Option.some.inj (Option.some.inj y)).symm
 |false=>
  refine⟨h.there,h.back,h.full,fun a b hab=>?_⟩
  have hb:=h.bare a b hab
  show (s.sr.set j none)[b]?=some none
  rw[List.getElem?_set]
  split
  ·rename_i e;subst e;rw[if_pos (List.getElem?_eq_some_iff.mp hb).1]
  ·exact hb
noncomputable def sp_me (C P S:Addr):Sp:=fun vs H Q _=>∃(z:Ss) (s:St) (t:Addr) (f:Bool) (j:Nat),vs=[.ref z.p,.ref t]∧SsAt C P S H z s∧H t=some (.tup [.str (nmS f),.int j])∧j < (s.rw f).length∧(∀k,s.tf[j]?=some (some k)→k < s.sr.length)∧∀H',SsAt C P S H' z (emptS s f j)→Ks z H H'→Q .non H'
theorem h_me (T:Txt K mg A):HaveM P w K mg base A.C_Sheets "make_empty" 2 ["self","spot"] [] (sp_me A.C_Sheets A.C_Spots A.C_Sheet):=by
 have H_Sheets_lose_twin:=amm (P:=P) (w:=w) (base:=base) T
 refine T.r_Sheets_make_empty.have afh (fun vs H Q E z=>?_) ?_
 ·obtain⟨z,s,t,f,j,rfl,_⟩:=z;rfl
 ·intro f cdv A' outer s H vs Q E hr z
  obtain⟨z,s,t,f,j,rfl,hS,ht,hj,htw,q⟩:=z
  obtain⟨dx,h1⟩:=hS.me
  refine⟨_,(aag (abo (aao adb (aam aa0 (pvM 1) aab (fun _ _=>rfl)) acy (nomark _)) (aak (ac6 aaw (ac5 (aaq (aaq (pvM 0) rfl) rfl) (aam aa0 (pvM 1) aab (fun _ _=>rfl)) abx))
   (aag (aby (aa6 (pvM 0) T.cl_Sheets H_Sheets_lose_twin (hr.mono (by decide)) aat (aaa (aam aa0 (pvM 1) aab (fun _ _=>rfl)) aad))))) (aag (ac6 aaw (ac5 (aaq (aaq (pvM 0) rfl) rfl) (aam aa0 (pvM 1) aab (fun _ _=>rfl)) abx))))),?_⟩
  walk_at "wp"
  simp only[h1]
  walk_at "wp"
  obtain⟨dx1,vs1,f1,f2,f3,f4⟩:=id hS.fr
  obtain⟨dx2,vs2,g1,g2,g3,g4⟩:=id hS.sl
  have l1:=Paired.length f3
  have l2:=Paired.length g3
  refine⟨_,SqT.of ht,_,rfl,rfl,?_⟩
  cases f with
  |true=>
   rw[if_pos (show V.str (nmS true)=V.str (Str.ofString "frame") from rfl)]
   have hj:j < s.fr.length:=hj
   have hS2:=hS.set (f:=true) (j:=j) (r:=none) f2 rfl (fun q e=>nomatch e)
   obtain⟨dx9,h9⟩:=hS2.me
   have ht2:upd H z.ly (.lst (vs1.set j .non)) t=some (.tup [.str (nmS true),.int (j:Int)]):=by rw[aaf (aca ht f2 (fun z=>nomatch z))];exact ht
   refine⟨T.cl_Sheets,T.na_Sheets_frames,_,aaz,z.fp,rfl,_,dx1,_,f1,T.cl_Spots,T.na_Spots_lying,_,aa3,_,SqT.of ht,_,rfl,z.ly,rfl,vs1,j,rfl,f2,j,ixn (by rw[l1];exact hj),dx9,_,h9,abw (by decide+kernel),_,SqT.of ht2,_,rfl,z,_,j,rfl,hS2,by show j < (s.fr.set j none).length;rw[List.length_set];exact hj,htw,fun H' a1 a2 a3=>q _ a1 ((aix (f:=true) (Ks.of aae)).trans a2)⟩
  |false=>
   rw[if_neg (by decide+kernel)]
   have hj:j < s.sr.length:=hj
   have hS2:=hS.set (f:=false) (j:=j) (r:=none) g2 rfl (fun q e=>nomatch e)
   exact⟨T.cl_Sheets,T.na_Sheets_slots,_,abq,z.sq,rfl,_,dx2,_,g1,T.cl_Spots,T.na_Spots_lying,_,aa3,_,SqT.of ht,_,rfl,z.ls,rfl,vs2,j,rfl,g2,j,ixn (by rw[l2];exact hj),q _ hS2 (aix (f:=false) (Ks.of aae))⟩
noncomputable def gone (s:St) (f:Bool) (j:Nat) (r:Sh) (k:List Key):St:=if offK r.ks k=[] then emptS s f j else s.put f j (some {r with ks:=offK r.ks k})
noncomputable def sp_lg (C P S:Addr):Sp:=fun vs H Q _=>∃(z:Ss) (s:St) (t h:Addr) (f:Bool) (j:Nat) (r:Sh) (k:List Key),vs=[.ref z.p,.ref t,.ref h]∧SsAt C P S H z s∧Ap s∧Tw s∧H t=some (.tup [.str (nmS f),.int j])∧(s.rw f)[j]?=some (some r)∧H h=some (.tup (k.map kV))∧k∈r.ks∧
 ∀H',SsAt C P S H' z (gone s f j r k)→Ap (gone s f j r k)→Tw (gone s f j r k)→Kg z r.hd H H'→(∀c,H' c=none→H c=none)→Q .non H'
theorem h_lg (T:Txt K mg A):HaveM P w K mg base A.C_Sheets "let_go" 3 ["self","spot","holder"] [] (sp_lg A.C_Sheets A.C_Spots A.C_Sheet):=by
 have H_Sheets_lying_at:=h_la (P:=P) (w:=w) (base:=base) T
 have H_Sheets_make_empty:=h_me (P:=P) (w:=w) (base:=base) T
 refine T.r_Sheets_let_go.have aev (fun vs H Q E z=>?_) ?_
 ·obtain⟨z,s,t,h,f,j,r,k,rfl,_⟩:=z;rfl
 ·intro f cdv A' outer s H vs Q E hr z
  obtain⟨z,s,t,h,f,j,r,k,rfl,hS,hA,hT,ht,hrj,hh,hk,q⟩:=z
  obtain⟨dx,h1⟩:=hS.me
  refine⟨_,(aak (aax (i:=3) aev.nd rfl (Or.inl rfl) (aa6 (pvM 0) T.cl_Sheets H_Sheets_lying_at (hr.mono (by decide)) aat (aaa (pvM 1) aad)))
   (aak (aby (ant (anj hr) (aaq (pvM 3) rfl) (pvM 2) ⟨rfl,rfl,rfl,rfl⟩))
   (aag (abo (aao adb (aar akr rfl T.b_len PySem.boot_len (aaa (aaq (pvM 3) rfl) aad)) aab (nomark _)) (aag (aby (aa6 (pvM 0) T.cl_Sheets H_Sheets_make_empty (hr.mono (by decide)) aat (aaa (pvM 1) aad)))) aas)))),?_⟩
  unfold amr tDPopT
  walk_at "wp"
  simp only[h1]
  walk_at "wp"
  refine⟨abw (by decide+kernel),z,rfl,s,hS,f,j,ht,_,hrj,fun v hv=>?_⟩
  obtain⟨rfl,⟨dx2,g1⟩,g2,g3⟩:=hv
  have hS2:=hS.ks (ks:=offK r.ks k) hA hrj g3
  have np:∀{c o},H c=some o→(∀us,o≠.dT us)→upd H r.hd (.dT (ksD (offK r.ks k))) c=some o:=fun {c o} hc ho=>by rw[aaf (fun z=>by rw[z,g3] at hc;exact ho _ (Option.some.inj hc).symm)];exact hc
  have k2:Kg z r.hd H (upd H r.hd (.dT (ksD (offK r.ks k)))):=fun c o hc _ _ hn=>by rw[aaf hn];exact hc
  have d2:∀c,upd H r.hd (.dT (ksD (offK r.ks k))) c=none→H c=none:=fun c hc=>by
   by_cases e:c=r.hd
   ·rw[e,aah] at hc;cases hc
   ·rw[aaf e] at hc;exact hc
  have hln:=hS.lens
  have htw:∀x,s.tf[j]?=some (some x)→x < s.sr.length:=fun x hx=>by have:=(List.getElem?_eq_some_iff.mp (hT.there j x hx)).1;omega
  refine⟨r.sh,rfl,_,dx2,_,g1,T.cl_Sheet,T.na_Sheet_holders,_,ad6,r.hd,rfl,.inr ⟨_,.inl g3⟩,_,g3,k,hh,.bl true,val_ks hk,?_⟩
  rw[aqg]
  refine⟨r.sh,rfl,_,dx2,_,np g1 (fun _ z=>nomatch z),T.cl_Sheet,T.na_Sheet_holders,_,ad6,r.hd,rfl,_,aah,?_⟩
  have hA2:=aoa (r':={r with ks:=offK r.ks k}) hA hrj rfl
  have ht2:=np ht (fun _ z=>nomatch z)
  have hjl:=(List.getElem?_eq_some_iff.mp hrj).1
  unfold gone at q
  by_cases c:offK r.ks k=[]
  ·rw[if_pos c] at q
   rw[c] at hS2 ht2 hA2 k2 d2 ⊢
   rw[if_pos (show (((ksD []).length:Nat):Int)=0 from rfl)]
   obtain⟨dx9,h9⟩:=hS2.me
   refine⟨dx9,_,h9,abw (by decide+kernel),z,_,t,f,j,rfl,hS2,ht2,by rw[amt];exact hjl,(by cases f with
    |true=>exact htw
    |false=>
     intro x hx
     have:=htw x hx
     show x < (s.sr.set j _).length
     rw[List.length_set];exact this),fun H' hS3 k3=>?_⟩
   have e9:emptS (s.put f j (some {r with ks:=offK r.ks k})) f j=emptS s f j:=by
    cases f with
    |true=>show untie ((s.put true j _).put true j none) j=untie (s.put true j none) j;rw[ah4]
    |false=>show (s.put false j _).put false j none=s.put false j none;exact ah4
   rw[c] at e9
   have hS4:SsAt A.C_Sheets A.C_Spots A.C_Sheet H' z (emptS s f j):=by rw[←e9];exact hS3
   have k4:Kg z r.hd H H':=fun c o hc h1 h2 h3=>k3 c o (k2 c o hc h1 h2 h3) h1 h2
   refine q H' hS4 (amv hA) (hT.empt hrj) k4 fun c hc=>?_
   exact d2 c (k3.was hS2 hS3 hc)
  ·rw[if_neg c] at q
   have hl0:(ksD (offK r.ks k)).length=(offK r.ks k).length:=by unfold ksD;rw[List.length_map]
   have:=List.length_pos_iff.mpr c
   rw[if_neg (by omega)]
   exact q _ hS2 hA2 (hT.put hrj) k2 d2
theorem aj9 {kvs:List (List Key×V)} {k:List Key} {v:V} (h:valV kvs k=none):putK kvs k v=kvs++[(k,v)]:=by
 unfold putK
 rw[aho,h]
 rfl
theorem val_no {ks:List (List Key)} {k:List Key} (h:k∉ks):valV (ksD ks) k=none:=by
 induction ks with
 |nil=>rfl
 |cons x r ih=>
  show valV ((x,V.bl true)::ksD r) k=_
  rw[ae8 (fun e=>h (by rw[←e];exact List.mem_cons_self ..))]
  exact ih fun z=>h (List.mem_cons_of_mem _ z)
noncomputable def aqi (C P S:Addr):Sp:=fun vs H Q _=>∃(z:Ss) (s:St) (t h:Addr) (f:Bool) (j:Nat) (r:Sh) (k:List Key),vs=[.ref z.p,.ref t,.ref h]∧SsAt C P S H z s∧Ap s∧H t=some (.tup [.str (nmS f),.int j])∧(s.rw f)[j]?=some (some r)∧H h=some (.tup (k.map kV))∧k∉r.ks∧r.ks.length≤1000∧
 ∀H',SsAt C P S H' z (s.put f j (some {r with ks:=r.ks++[k]}))→Ap (s.put f j (some {r with ks:=r.ks++[k]}))→Kg z r.hd H H'→(∀c,H' c=none→H c=none)→Q .non H'
theorem ao7 (T:Txt K mg A):HaveM P w K mg base A.C_Sheets "hold" 2 ["self","spot","holder"] [] (aqi A.C_Sheets A.C_Spots A.C_Sheet):=by
 have H_Sheets_lying_at:=h_la (P:=P) (w:=w) (base:=base) T
 refine T.r_Sheets_hold.have afj (fun vs H Q E z=>?_) ?_
 ·obtain⟨z,s,t,h,f,j,r,k,rfl,_⟩:=z;rfl
 ·intro f cdv A' outer s H vs Q E hr z
  obtain⟨z,s,t,h,f,j,r,k,rfl,hS,hA,ht,hrj,hh,hk,hl1,q⟩:=z
  obtain⟨dx,h1⟩:=hS.me
  refine⟨_,(aak (aax (i:=3) afj.nd rfl (Or.inl rfl) (aa6 (pvM 0) T.cl_Sheets H_Sheets_lying_at (hr.mono (by decide)) aat (aaa (pvM 1) aad)))
   (aag (apv (anj hr) (aaq (pvM 3) rfl) (pvM 2) adp rfl))),?_⟩
  unfold amr sDPut
  walk_at "wp"
  simp only[h1]
  walk_at "wp"
  refine⟨abw (by decide+kernel),z,rfl,s,hS,f,j,ht,_,hrj,fun v hv=>?_⟩
  obtain⟨rfl,⟨dx2,g1⟩,g2,g3⟩:=hv
  have hS2:=hS.ks (ks:=r.ks++[k]) hA hrj g3
  have hz:=PySem.sizeLine_eq
  have ep:putK (ksD r.ks) k (.bl true)=ksD (r.ks++[k]):=by
   rw[aj9 (val_no hk)]
   unfold ksD
   rw[List.map_append]
   rfl
  refine⟨r.sh,rfl,_,dx2,_,g1,T.cl_Sheet,T.na_Sheet_holders,_,ad6,r.hd,rfl,_,.inr ⟨ksD r.ks,k,h,g3,rfl,hh,by unfold ksD;rw[List.length_map];omega,rfl⟩,?_⟩
  rw[ep]
  refine q _ hS2 (aoa (r':={r with ks:=r.ks++[k]}) hA hrj rfl) (fun c o hc _ _ hn=>by rw[aaf hn];exact hc) fun c hc=>?_
  by_cases e:c=r.hd
  ·rw[e,aah] at hc;cases hc
  ·rw[aaf e] at hc;exact hc
noncomputable def ao8 (C P S:Addr):Sp:=fun vs H Q _=>∃(z:Ss) (s:St) (t:Addr) (f:Bool) (j:Nat) (r:Option Sh),vs=[.ref z.p,.ref t]∧SsAt C P S H z s∧H t=some (.tup [.str (nmS f),.int j])∧(s.rw f)[j]?=some r∧(r=none→Q .non H)∧∀q,r=some q→∀l,H l=none→Q (.ref l) (upd H l (.lst (q.b.map V.int)))
theorem h_sat (T:Txt K mg A):HaveM P w K mg base A.C_Sheets "sheet_at" 2 ["self","spot"] [] (ao8 A.C_Sheets A.C_Spots A.C_Sheet):=by
 have H_Sheets_lying_at:=h_la (P:=P) (w:=w) (base:=base) T
 refine T.r_Sheets_sheet_at.have aed (fun vs H Q E z=>?_) ?_
 ·obtain⟨z,s,t,f,j,r,rfl,_⟩:=z;rfl
 ·intro f cdv A' outer s H vs Q E hr z
  obtain⟨z,s,t,f,j,r,rfl,hS,ht,hrj,q1,q2⟩:=z
  obtain⟨dx,h1⟩:=hS.me
  refine⟨_,(aak (aax (i:=2) aed.nd rfl (Or.inl rfl) (aa6 (pvM 0) T.cl_Sheets H_Sheets_lying_at (hr.mono (by decide)) aat (aaa (pvM 1) aad)))
   (aag (aav (afp (aao aea (pvM 2) aaw (nomark _)) aaw (acf adl rfl T.b_list PyProof.Rows.boot_list (aaa (aaq (pvM 2) rfl) aad)))))),?_⟩
  unfold amr
  walk_at "wp"
  simp only[h1]
  walk_at "wp"
  refine⟨abw (by decide+kernel),z,rfl,s,hS,f,j,ht,_,hrj,fun v hv=>?_⟩
  cases r with
  |none=>
   obtain rfl:v=.non:=hv
   rw[if_pos rfl]
   exact q1 rfl
  |some r=>
   obtain⟨rfl,⟨dx2,g1⟩,g2,g3⟩:=hv
   rw[if_neg (fun z=>nomatch z)]
   exact⟨r.sh,rfl,_,dx2,_,g1,T.cl_Sheet,T.na_Sheet_boxes,_,ae6,r.bx,rfl,_,.inl (SqL.of g2),q2 r rfl⟩
noncomputable def sp_ho (C P S:Addr):Sp:=fun vs H Q _=>∃(z:Ss) (s:St) (t:Addr) (f:Bool) (j:Nat) (r:Option Sh),vs=[.ref z.p,.ref t]∧SsAt C P S H z s∧H t=some (.tup [.str (nmS f),.int j])∧(s.rw f)[j]?=some r∧(∀q,r=some q→Okh q)∧∀l H',H l=none→Same H H'→TdK H' l (match r with|none=>[]|some q=>srt q.ks)→Q (.ref l) H'
theorem h_ho (T:Txt K mg A):HaveM P w K mg base A.C_Sheets "holders_of" 2 ["self","spot"] [] (sp_ho A.C_Sheets A.C_Spots A.C_Sheet):=by
 have H_Sheets_lying_at:=h_la (P:=P) (w:=w) (base:=base) T
 have H_Sheet_told_holders:=aj3 (P:=P) (w:=w) (base:=base) T
 refine T.r_Sheets_holders_of.have ado (fun vs H Q E z=>?_) ?_
 ·obtain⟨z,s,t,f,j,r,rfl,_⟩:=z;rfl
 ·intro f cdv A' outer s H vs Q E hr z
  obtain⟨z,s,t,f,j,r,rfl,hS,ht,hrj,hok,q⟩:=z
  obtain⟨dx,h1⟩:=hS.me
  refine⟨_,(aak (aax (i:=2) ado.nd rfl (Or.inl rfl) (aa6 (pvM 0) T.cl_Sheets H_Sheets_lying_at (hr.mono (by decide)) aat (aaa (pvM 1) aad)))
   (aag (aav (afp (aao aea (pvM 2) aaw (nomark _)) (aco aad) (abb (pvM 2) T.cl_Sheet H_Sheet_told_holders (hr.mono (by decide)) aat))))),?_⟩
  unfold amr ah2
  walk_at "wp"
  simp only[h1]
  walk_at "wp"
  refine⟨abw (by decide+kernel),z,rfl,s,hS,f,j,ht,_,hrj,fun v hv=>?_⟩
  cases r with
  |none=>
   obtain rfl:v=.non:=hv
   rw[if_pos rfl]
   exact fun l hl=>q l _ hl (aau aae hl) ⟨[],aah,.nil⟩
  |some r=>
   obtain⟨rfl,⟨dx2,g1⟩,g2,g3⟩:=id hv
   rw[if_neg (fun z=>nomatch z)]
   exact⟨r.sh,rfl,dx2,_,g1,af7 (by decide+kernel),r,hv,hok r rfl,q⟩
noncomputable abbrev Tr:=List Int×List (List Key)×Option Nat
noncomputable def tdF:Option Sh→Option Nat→Option Tr
 |none,_=>none
 |some r,o=>some (r.b,srt r.ks,o)
noncomputable def bOf (fr:List (Option Sh)) (i:Nat):List Int:=match fr[i]? with
 |some (some r)=>r.b
 |_=>[]
noncomputable def tdS (fr:List (Option Sh)):Option Sh→Option Nat→Option Tr
 |some r,_=>some (r.b,srt r.ks,none)
 |none,none=>none
 |none,some i=>some (bOf fr i,[],some i)
noncomputable def tF (s:St):List (Option Tr):=List.zipWith tdF s.fr s.tf
noncomputable def tS (s:St):List (Option Tr):=List.zipWith (tdS s.fr) s.sr s.ts
noncomputable def RwT (H:Hp) (xs:List Addr) (v:V):Option Tr→Prop
 |none=>v=.non
 |some (b,ks,o)=>∃t bl hl,v=.ref t∧H t=some (.tup [.ref bl,.ref hl,oV o])∧H bl=some (.lst (b.map V.int))∧TdK H hl ks∧bl∉xs∧hl∉xs
noncomputable def NwT (H0 H:Hp) (v:V):Option Tr→Prop
 |none=>True
 |some _=>∃t bl hl o,v=.ref t∧H t=some (.tup [.ref bl,.ref hl,o])∧H0 bl=none∧H0 hl=none
theorem NwT.keep {H0 H H':Hp} {v:V} {r:Option Tr} (h:NwT H0 H v r) (k:∀c us,H c=some (.tup us)→H' c=some (.tup us)):NwT H0 H' v r:=by
 cases r with
 |none=>exact h
 |some x=>obtain⟨t,bl,hl,o,e,h1,h2,h3⟩:=h;exact⟨t,bl,hl,o,e,k _ _ h1,h2,h3⟩
theorem RwT.wk {H:Hp} {xs:List Addr} {v:V} {r:Option Tr} (h:RwT H xs v r):RwT H [] v r:=by
 cases r with
 |none=>exact h
 |some x=>obtain⟨b,ks,o⟩:=x;obtain⟨t,bl,hl,e,h1,h2,h3,_,_⟩:=h;exact⟨t,bl,hl,e,h1,h2,h3,by simp,by simp⟩
theorem RwT.keep {H H':Hp} {xs:List Addr} (hx:∀x∈xs,∃us,H x=some (.lst us)) (k:∀c o,H c=some o→c∉xs→(∀kvs,o≠.dT kvs)→H' c=some o) {v:V}:∀{r:Option Tr},RwT H xs v r→RwT H' xs v r
 |none,h=>h
 |some (_,_,_),⟨t,bl,hl,e,h1,h2,⟨us,h3,h4⟩,n1,n2⟩=>by
  have nt:∀{c us},H c=some (.tup us)→c∉xs:=fun {c us} hc z=>by
   obtain⟨vs,e⟩:=hx c z
   rw[hc] at e;cases e
  exact⟨t,bl,hl,e,k _ _ h1 (nt h1) (fun _ z=>nomatch z),k _ _ h2 n1 (fun _ z=>nomatch z),⟨us,k _ _ h3 n2 (fun _ z=>nomatch z),Paired.mapP h4 fun _ _ ⟨a,e,q⟩=>⟨a,e,k _ _ q (nt q) (fun _ z=>nomatch z)⟩⟩,n1,n2⟩
noncomputable def dvK (k:List Key):Dv:=.seq true (k.map fun x=>.leaf (kV x))
noncomputable def dvT (ks:List (List Key)):Dv:=.seq false (ks.map dvK)
noncomputable def dvB (bs:List Int):Dv:=.seq false (bs.map fun x=>.leaf (.int x))
noncomputable def dvO:Option Nat→Dv
 |none=>.leaf .non
 |some j=>.leaf (.int (j:Int))
theorem lks_o {H:Hp} {o:Option Nat}:Lks H (dvO o) (oV o):=by
 cases o with
 |none=>unfold dvO Lks;exact⟨rfl,rfl⟩
 |some j=>unfold dvO Lks;exact⟨rfl,rfl⟩
noncomputable def dvS:Option Tr→Dv
 |none=>.leaf .non
 |some (b,ks,o)=>.seq true [dvB b,dvT ks,dvO o]
theorem aka {H:Hp}:∀{bs:List Int},LksL H (bs.map fun x=>.leaf (.int x)) (bs.map V.int)
 |[]=>by unfold LksL;rfl
 |b::bs=>by
  rw[List.map_cons,List.map_cons]
  unfold LksL
  exact⟨_,_,rfl,by unfold Lks;exact⟨rfl,rfl⟩,aka⟩
theorem akb {H:Hp}:∀{k:List Key},LksL H (k.map fun x=>.leaf (kV x)) (k.map kV)
 |[]=>by unfold LksL;rfl
 |b::bs=>by
  rw[List.map_cons,List.map_cons]
  unfold LksL
  exact⟨_,_,rfl,by unfold Lks;exact⟨rfl,by cases b<;>rfl⟩,akb⟩
theorem aqj {H:Hp} {l:Addr} {ks:List (List Key)} (h:TdK H l ks) (hl:ks.length≤64) (hk:∀k∈ks,k.length≤64):Lks H (dvT ks) (.ref l):=by
 obtain⟨us,h1,h2⟩:=h
 unfold dvT Lks
 refine⟨l,us,rfl,h1,by rw[List.length_map];omega,?_⟩
 clear h1 hl
 induction h2 with
 |nil=>rw[List.map_nil];unfold LksL;rfl
 |@cons v k _ _ a t ih=>
  rw[List.map_cons]
  unfold LksL
  obtain⟨b,rfl,hb⟩:=a
  refine⟨_,_,rfl,?_,ih fun k hk'=>hk k (List.mem_cons_of_mem _ hk')⟩
  unfold dvK Lks
  exact⟨b,_,rfl,hb,by rw[List.length_map];have:=hk k (List.mem_cons_self ..);omega,akb⟩
theorem lks_b {H:Hp} {l:Addr} {bs:List Int} (h:H l=some (.lst (bs.map V.int))) (hl:bs.length≤64):Lks H (dvB bs) (.ref l):=by
 unfold dvB Lks
 exact⟨l,_,rfl,h,by rw[List.length_map];omega,aka⟩
noncomputable def Okm (r:Sh):Prop:=r.b.length≤64∧(srt r.ks).length≤64∧∀k∈srt r.ks,k.length≤64
noncomputable def Okt (r:Tr):Prop:=r.1.length≤64∧r.2.1.length≤64∧∀k∈r.2.1,k.length≤64
theorem RwT.lks {H:Hp} {xs:List Addr} {v:V}:∀{r:Option Tr},RwT H xs v r→(∀s,r=some s→Okt s)→Lks H (dvS r) v
 |none,h,_=>by unfold dvS Lks;exact⟨h,rfl⟩
 |some (b,ks,o),⟨t,bl,hl,e,h1,h2,h3,n1,n2⟩,hb=>by
  obtain⟨b1,b2,b3⟩:=hb _ rfl
  unfold dvS Lks
  refine⟨t,_,e,h1,by show (3:Nat) < 16777216;decide,?_⟩
  unfold LksL
  refine⟨_,_,rfl,lks_b h2 b1,?_⟩
  unfold LksL
  refine⟨_,_,rfl,aqj h3 b2 b3,?_⟩
  unfold LksL
  exact⟨_,_,rfl,lks_o,by unfold LksL;rfl⟩
theorem amw {H:Hp} {xs:List Addr} {vs:List V} {rows:List (Option Tr)} (h:Paired (RwT H xs) vs rows) (ok:∀r,some r∈rows→Okt r):LksL H (rows.map dvS) vs:=by
 induction h with
 |nil=>rw[List.map_nil];unfold LksL;rfl
 |cons r t ih=>
  rw[List.map_cons]
  unfold LksL
  exact⟨_,_,rfl,r.lks (fun s e=>ok s (by rw[e];exact List.mem_cons_self ..)),ih fun r hr=>ok r (List.mem_cons_of_mem _ hr)⟩
noncomputable def okS (rows:List (Option Sh)):Prop:=∀r,some r∈rows→Okh r∧Okm r
theorem amx {α β γ:Type} {f:α→β→γ}:∀{as:List α} {bs:List β} {c:γ},c∈List.zipWith f as bs→∃a b,a∈as∧b∈bs∧f a b=c
 |[],_,c,h=>by simp at h
 |_::_,[],c,h=>by simp at h
 |a::as,b::bs,c,h=>by
  rw[List.zipWith_cons_cons] at h
  rcases List.mem_cons.mp h with e|h
  ·exact⟨a,b,List.mem_cons_self .., List.mem_cons_self .., e.symm⟩
  ·obtain⟨x,y,h1,h2,h3⟩:=amx h
   exact⟨x,y,List.mem_cons_of_mem _ h1,List.mem_cons_of_mem _ h2,h3⟩
theorem aqk {s:St} (ok:okS s.fr) {r:Tr} (h:some r∈tF s):Okt r:=by
 unfold tF at h
 obtain⟨a,b,h1,_,h3⟩:=amx h
 cases a with
 |none=>cases h3
 |some q=>cases h3;exact (ok q h1).2
theorem aql {s:St} (ok0:okS s.fr) (ok:okS s.sr) {r:Tr} (h:some r∈tS s):Okt r:=by
 unfold tS at h
 obtain⟨a,b,h1,_,h3⟩:=amx h
 cases a with
 |some q=>cases h3;exact (ok q h1).2
 |none=>
  cases b with
  |none=>cases h3
  |some i=>
   cases h3
   refine⟨?_,Nat.zero_le _,fun k hk=>by cases hk⟩
   show (bOf s.fr i).length≤64
   unfold bOf
   split
   ·rename_i q e
    exact (ok0 q (List.mem_of_getElem? e)).2.1
   ·exact Nat.zero_le _
noncomputable def sp_tf (C P S:Addr):Sp:=fun vs H Q _=>∃(z:Ss) (s:St),vs=[.ref z.p]∧SsAt C P S H z s∧okS s.fr∧∀H' l us,Same H H'→H l=none→H' l=some (.lst us)→Paired (RwT H' []) us (tF s)→Paired (NwT H H') us (tF s)→Q (.ref l) H'
theorem h_tf (T:Txt K mg A):HaveM P w K mg base A.C_Sheets "told_frames" 2 ["self"] [] (sp_tf A.C_Sheets A.C_Spots A.C_Sheet):=by
 have H_Sheet_told_holders:=aj3 (P:=P) (w:=w) (base:=base) T
 refine T.r_Sheets_told_frames.have ab7 (fun vs H Q E z=>?_) ?_
 ·obtain⟨z,s,rfl,_⟩:=z;rfl
 ·intro f cdv A' outer s H vs Q E hr z
  obtain⟨z,s,rfl,hS,ok,q⟩:=z
  obtain⟨dx,h1⟩:=hS.me
  obtain⟨dx1,us,f1,f2,f3,f4,f5⟩:=id hS.fr
  have hlen:(tF s).length=s.fr.length:=by unfold tF;rw[List.length_zipWith];omega
  have hul:=Paired.length f3
  refine⟨_,(aak (aax (i:=1) ab7.nd rfl (Or.inl rfl) (aco aad))
   (aak (ady PassesOwn.leaving rfl (ags rfl T.b_enumerate (aaa (aaq (aaq (pvM 0) rfl) rfl) aad)) (ah9 (n:=2) rfl (adk (aa5 (i:=2) ab7.nd rfl (Or.inl rfl)) (adk (aa5 (i:=3) ab7.nd rfl (Or.inl rfl)) agl))) (aag (abo (aao aea (pvM 3) aaw (nomark _)) (aag (aby (ag3 PySem.F.plainAttrs_list PySem.F.slot_list_append PySem.F.type_list_append adm (pvM 1) (aaa aaw aad)))) (aag (aby (ag3 PySem.F.plainAttrs_list PySem.F.slot_list_append PySem.F.type_list_append adm (pvM 1) (aaa (ac7 (aaa (acf adl rfl T.b_list PyProof.Rows.boot_list (aaa (aaq (pvM 3) rfl) aad)) (aaa (abb (pvM 3) T.cl_Sheet H_Sheet_told_holders (hr.mono (by decide)) aat) (aaa (aam aaj (aaq (aaq (pvM 0) rfl) rfl) (pvM 2) (fun _ _=>rfl)) aad)))) aad)))))))
   (aag (aav (pvM 1))))),?_⟩
  unfold ah2
  walk_at "wp"
  intro tl htl
  have b1:=aau (o:=.lst []) (aae (H:=H)) htl
  refine⟨_,dx,_,b1 _ _ h1,T.cl_Sheets,T.na_Sheets_frames,_,aaz,z.fp,rfl,_,dx1,_,b1 _ _ f1,T.cl_Spots,T.na_Spots_lying,_,aa3,z.ly,rfl,⟨_,SqL.of (b1 _ _ f2)⟩,ae1 (xs:=us) (fun i σ H'=>∃ys v2 v3,σ=[some (.ref z.p),some (.ref tl),v2,v3]∧Same H H'∧H' tl=some (.lst ys)∧Paired (RwT H' [tl]) ys ((tF s).take i)∧Paired (NwT H H') ys ((tF s).take i)) ⟨[],_,_,rfl,b1,aah,.nil,.nil⟩ (fun i σ H' _ ⟨_,_,_,_,e,_⟩=>SqL.of (e _ _ f2)) (fun i x tt σ H' hi=>?_) (fun σ H1=>?_)⟩
  ·rintro⟨ys,v2,v3,rfl,s1,hy,hP,hN⟩ htt
   obtain⟨y,hy1,hy2⟩:=acn f3 hi
   have b2:=aau (o:=.tup [V.int i,x]) (aae (H:=H')) htt
   have htt':upd H' tt (.tup [V.int i,x]) tt=some (.tup [V.int i,x]):=aah
   have hil:i < s.fr.length:=(List.getElem?_eq_some_iff.mp hy1).1
   obtain⟨o,ho⟩:∃o,s.tf[i]?=some o:=⟨_,List.getElem?_eq_getElem (by omega)⟩
   have htk:(tF s).take (i+1)=(tF s).take i++[tdF y o]:=by rw[List.take_add_one,show (tF s)[i]?=some (tdF y o) by unfold tF;rw[List.getElem?_zipWith,hy1,ho]];rfl
   walk_at "wp"
   generalize upd H' tt (.tup [V.int i,x])=H2 at *
   refine⟨_,SqT.of htt',rfl,_,_,rfl,_,_,rfl,rfl,?_⟩
   have hyl:=Paired.length hP
   rw[List.length_take] at hyl
   have hl64:=hS.len.1
   have s2:=s1.trans b2
   have hy2':=b2 _ _ hy
   have hk:∀{H3 H4:Hp} {ws:List V},Same H2 H3→H4=upd H3 tl (.lst ws)→Paired (RwT H4 [tl]) ys ((tF s).take i):=fun {H3 H4 ws} s3 e=>Paired.mapP hP fun _ _ q=>q.keep (xs:=[tl]) (fun x hx=>⟨ys,by rw[List.mem_singleton.mp hx];exact hy⟩) (fun c o hc hn _=>by rw[e,aaf (fun z=>hn (by simp[z]))];exact s3 _ _ (b2 _ _ hc))
   have hkN:∀{H3 H4:Hp} {ws:List V},Same H2 H3→H4=upd H3 tl (.lst ws)→Paired (NwT H H4) ys ((tF s).take i):=fun {H3 H4 ws} s3 e=>Paired.mapP hN fun _ _ q=>q.keep fun c us hc=>by rw[e,aaf (aca hc hy (fun z=>nomatch z))];exact s3 _ _ (b2 _ _ hc)
   cases y with
   |none=>
    obtain rfl:x=.non:=hy2
    rw[if_pos rfl]
    refine⟨.inl ⟨rfl,_,SqL.of hy2'⟩,ys,hy2',by omega,abg s2 htl,_,rfl,?_⟩
    rw[htk]
    exact⟨ac4 (hk aae rfl) rfl,ac4 (hkN aae rfl) trivial⟩
   |some r=>
    obtain⟨rfl,⟨dxr,g1⟩,g2,g3⟩:=id hy2
    rw[if_neg (fun z=>nomatch z)]
    refine⟨.inl ⟨rfl,_,SqL.of hy2'⟩,r.sh,rfl,_,dxr,_,s2 _ _ g1,T.cl_Sheet,T.na_Sheet_boxes,_,ae6,r.bx,rfl,_,.inl (SqL.of (s2 _ _ g2)),fun bl hbl=>?_⟩
    have b3:=aau (o:=.lst (r.b.map V.int)) (aae (H:=H2)) hbl
    have hbl3:upd H2 bl (.lst (r.b.map V.int)) bl=some (.lst (r.b.map V.int)):=aah
    generalize upd H2 bl (.lst (r.b.map V.int))=H3 at *
    have s3:=s2.trans b3
    refine⟨r.sh,rfl,dxr,_,s3 _ _ g1,af7 (by decide+kernel),r,ShAt.same s3 hy2,(ok r (List.mem_of_getElem? hy1)).1,fun hl H4 hhl s4 a1=>?_⟩
    have s5:=s3.trans s4
    have hbl4:=s4 _ _ hbl3
    refine⟨_,dx,_,s5 _ _ h1,T.cl_Sheets,T.na_Sheets_frames,_,aaz,z.fp,rfl,_,dx1,_,s5 _ _ f1,T.cl_Spots,T.na_Spots_twins,_,ab2,z.tw,rfl,_,_,rfl,SqL.of (s5 _ _ f4),oV o,aac (by rw[List.getElem?_map,ho];rfl),fun np hnp=>?_⟩
    have b5:=aau (o:=.tup [V.ref bl,V.ref hl,oV o]) (aae (H:=H4)) hnp
    have s24:Same H2 H4:=b3.trans s4
    have htl5:=b5 _ _ (s24 _ _ hy2')
    refine⟨ys,htl5,by omega,abg (s5.trans b5) htl,_,rfl,?_⟩
    rw[htk]
    have nb:bl≠tl:=(aan hy2' hbl).symm
    have nh:hl≠tl:=(aan (b3 _ _ hy2') hhl).symm
    have nn:np≠tl:=(aan (s24 _ _ hy2') hnp).symm
    refine⟨?_,ac4 (hkN (s24.trans b5) rfl) ⟨np,bl,hl,oV o,rfl,by rw[aaf nn,aah],aai s2 hbl,aai s3 hhl⟩⟩
    exact ac4 (hk (s24.trans b5) rfl) ⟨np,bl,hl,rfl,by rw[aaf nn,aah],by rw[aaf nb];exact b5 _ _ hbl4,(let ⟨us9,a2,a3⟩:=a1;⟨us9,by rw[aaf nh];exact b5 _ _ a2,Paired.mapP a3 fun _ _ ⟨a9,e9,q9⟩=>⟨a9,e9,by rw[aaf (aca q9 (s24 _ _ hy2') (fun z=>nomatch z))];exact b5 _ _ q9⟩⟩),by simpa using nb,by simpa using nh⟩
  rintro⟨ys,v2,v3,rfl,s1,hy,hP,hN⟩
  walk_at "wp"
  rw[hul,←hlen,List.take_length] at hP hN
  exact q _ tl ys s1 htl hy (Paired.mapP hP fun _ _ h=>h.wk) hN
noncomputable def sp_ts (C P S:Addr):Sp:=fun vs H Q _=>∃(z:Ss) (s:St) (j:Nat) (r:Option Sh) (o:Option Nat),vs=[.ref z.p,.int j]∧SsAt C P S H z s∧Tw s∧s.sr[j]?=some r∧s.ts[j]?=some o∧(∀q,r=some q→Okh q)∧∀v H',Same H H'→(∀xs:List Addr,(∀x∈xs,H x≠none)→RwT H' xs v (tdS s.fr r o))→Q v H'
theorem h_ts (T:Txt K mg A):HaveM P w K mg base A.C_Sheets "told_slot" 3 ["self","slot"] [] (sp_ts A.C_Sheets A.C_Spots A.C_Sheet):=by
 have H_Sheet_told_holders:=aj3 (P:=P) (w:=w) (base:=base) T
 have H_Sheets_sheet_at:=h_sat (P:=P) (w:=w) (base:=base) T
 refine T.r_Sheets_told_slot.have ac1 (fun vs H Q E z=>?_) ?_
 ·obtain⟨z,s,j,r,o,rfl,_⟩:=z;rfl
 ·intro f cdv A' outer s H vs Q E hr z
  obtain⟨z,s,j,r,o,rfl,hS,hT,hrj,hoj,hok,q⟩:=z
  obtain⟨dx,h1⟩:=hS.me
  obtain⟨dx1,us,f1,f2,f3,f4,f5⟩:=id hS.sl
  obtain⟨v,hv1,hv2⟩:=aa1 f3 hrj
  have hj:=(List.getElem?_eq_some_iff.mp hrj).1
  refine⟨_,(aak (aax (i:=2) ac1.nd rfl (Or.inl rfl) (aam aaj (aaq (aaq (pvM 0) rfl) rfl) (pvM 1) (fun _ _=>rfl)))
   (aal (aax (i:=3) ac1.nd rfl (Or.inl rfl) (aam aaj (aaq (aaq (pvM 0) rfl) rfl) (pvM 1) (fun _ _=>rfl)))
   (aak (abo (aao ace (pvM 2) aaw (nomark _)) (aag (aav (ac7 (aaa (acf adl rfl T.b_list PyProof.Rows.boot_list (aaa (aaq (pvM 2) rfl) aad)) (aaa (abb (pvM 2) T.cl_Sheet H_Sheet_told_holders (hr.mono (by decide)) aat) (aaa aaw aad)))))) aas)
   (aak (abo (aao ace (pvM 3) aaw (nomark _)) (aag (aav (ac7 (aaa (aa6 (pvM 0) T.cl_Sheets H_Sheets_sheet_at (hr.mono (by decide)) aat (aaa (ac7 (aaa acy (aaa (pvM 3) aad))) aad)) (aaa (aco aad) (aaa (pvM 3) aad)))))) aas)
   (aag (aav aaw)))))),?_⟩
  walk_at "wp"
  simp only[h1]
  walk_at "wp"
  refine⟨T.cl_Sheets,T.na_Sheets_slots,_,abq,z.sq,rfl,_,dx1,_,f1,T.cl_Spots,T.na_Spots_lying,_,aa3,z.ls,rfl,us,SqL.of f2,v,aac hv1,?_⟩
  refine⟨fun σ H'=>σ=[some (.ref z.p),some (.int (j:Int)),some v,some (oV o)]∧H'=H,?_,fun σ' H'=>?_⟩
  ·walk_at "wp"
   simp only[h1]
   walk_at "wp"
   exact⟨T.cl_Sheets,T.na_Sheets_slots,_,abq,z.sq,rfl,_,dx1,_,f1,T.cl_Spots,T.na_Spots_twins,_,ab2,z.ts,rfl,_,SqL.of f4,oV o,aac (by rw[List.getElem?_map,hoj];rfl),rfl⟩
  rintro⟨rfl,rfl⟩
  cases r with
  |none=>
   obtain rfl:v=.non:=hv2
   cases o with
   |none=>
    unfold oV
    walk_at "wp"
    exact iteF (iteF (q _ _ aae fun _ _=>rfl))
   |some i=>
    unfold oV ao8
    obtain⟨r,hri⟩:=hT.full i j (hT.back i j hoj)
    have eb:bOf s.fr i=r.b:=by unfold bOf;rw[hri]
    walk_at "wp"
    refine iteF (ifp (by rw[decide_eq_false (fun z=>nomatch z)];rfl) ⟨dx,_,h1,abw (by decide+kernel),fun p hp=>?_⟩)
    obtain⟨s1,k1⟩:=aa4 (o:=.tup [V.str (Str.ofString "frame"),V.int (i:Int)]) hp
    refine⟨z,rfl,s,hS.same s1,true,i,rfl,some r,hri,(fun e=>by cases e),fun q2 e l hl p2 hp2 p3 hp3=>?_⟩
    obtain rfl:r=q2:=Option.some.inj e
    obtain⟨s2,k2⟩:=aa4 (o:=.lst (r.b.map V.int)) hl
    obtain⟨s3,k3⟩:=aa4 (o:=.lst []) hp2
    obtain⟨s4,k4⟩:=aa4 (o:=.tup [V.ref l,V.ref p2,V.int (i:Int)]) hp3
    refine q _ _ (((s1.trans s2).trans s3).trans s4) fun xs hx=>?_
    show RwT _ xs _ (some (bOf s.fr i,[],some i))
    rw[eb]
    exact⟨p3,l,p2,rfl,k4,s4 _ _ (s3 _ _ k2),⟨[],s4 _ _ k3,.nil⟩,fun z=>hx _ z (aai s1 hl),fun z=>hx _ z (aai (s1.trans s2) hp2)⟩
  |some r=>
   obtain⟨rfl,⟨dxr,g1⟩,g2,g3⟩:=id hv2
   unfold ah2
   walk_at "wp"
   refine iteT ⟨_,dxr,_,g1,T.cl_Sheet,T.na_Sheet_boxes,_,ae6,r.bx,rfl,_,.inl (SqL.of g2),fun bl hbl=>?_⟩
   obtain⟨s1,k1⟩:=aa4 (o:=.lst (r.b.map V.int)) hbl
   generalize upd H' bl _=H1 at *
   refine⟨dxr,_,s1 _ _ g1,af7 (by decide+kernel),r,ShAt.same s1 hv2,hok r rfl,fun hl H2 hhl s2 htd t ht=>?_⟩
   have s3:Same H2 (upd H2 t (.tup [V.ref bl,V.ref hl,V.non])):=aau aae ht
   exact q _ _ (s1.trans (s2.trans s3)) fun xs hx=>⟨t,bl,hl,rfl,aah,s3 _ _ (s2 _ _ k1),htd.same s3,fun z=>hx _ z hbl,fun z=>hx _ z (aai s1 hhl)⟩
noncomputable def sp_tss (C P S:Addr):Sp:=fun vs H Q _=>∃(z:Ss) (s:St),vs=[.ref z.p]∧SsAt C P S H z s∧Tw s∧okS s.fr∧okS s.sr∧∀H' l us,Same H H'→H l=none→H' l=some (.lst us)→Paired (RwT H' []) us (tS s)→Paired (NwT H H') us (tS s)→Q (.ref l) H'
theorem h_tss (T:Txt K mg A):HaveM P w K mg base A.C_Sheets "told_slots" 4 ["self"] [] (sp_tss A.C_Sheets A.C_Spots A.C_Sheet):=by
 have H_Sheets_told_slot:=h_ts (P:=P) (w:=w) (base:=base) T
 refine T.r_Sheets_told_slots.have afg (fun vs H Q E z=>?_) ?_
 ·obtain⟨z,s,rfl,_⟩:=z;rfl
 ·intro f cdv A' outer s H vs Q E hr z
  obtain⟨z,s,rfl,hS,hT,ok0,ok,q⟩:=z
  obtain⟨dx,h1⟩:=hS.me
  obtain⟨dx1,us,f1,f2,f3,f4,f5⟩:=id hS.sl
  have hlen:(tS s).length=s.sr.length:=by unfold tS;rw[List.length_zipWith];omega
  refine⟨_,(aag (aav (ade rfl (acp rfl T.b_range (aaa (aar aa2 rfl T.b_len PySem.boot_len (aaa (aaq (aaq (pvM 0) rfl) rfl) aad)) aad)) (x:="slot") (fs:=["self"]) (ix:=[0]) rfl rfl (fun _ _ _ _ _ _=>(aa5 (i:=0) (show (["slot","self"]:List Str).Nodup by decide+kernel) rfl (Or.inl rfl))) (fun _ _ _ _ _ _=>aeb) (fun _ _ _ _ _ _=>(aa6 (pvM 1) T.cl_Sheets H_Sheets_told_slot (hr.mono (by decide)) xw_no (aaa (pvM 0) aad)))))),?_⟩
  unfold sp_ts
  walk_at "wp"
  simp only[h1]
  walk_at "wp"
  have hul:=Paired.length f3
  have hm:=hS.len.2
  have hz:=PySem.sizeLine_eq
  refine⟨T.cl_Sheets,T.na_Sheets_slots,_,abq,z.sq,rfl,_,dx1,_,f1,T.cl_Spots,T.na_Spots_lying,_,aa3,_,.inl ⟨_,SqL.of f2,rfl⟩,by omega,by omega,fun D hD=>?_⟩
  refine acl (fun i ys σ H'=>∃v,σ=[v,some (.ref z.p)]∧Same H H'∧H' D=some (.lst ys)∧Paired (RwT H' [D]) ys ((tS s).take i)∧Paired (NwT H H') ys ((tS s).take i)) ⟨_,rfl,aau aae hD,aah,.nil,.nil⟩ (fun i ys σ H' hi=>?_) (fun ys σ H5=>?_)
  ·rintro⟨v,rfl,s1,hD1,hP,hN⟩
   have hil:i < s.sr.length:=by omega
   have hrow:s.sr[i]?=some s.sr[i]:=List.getElem?_eq_getElem hil
   obtain⟨o,ho⟩:∃o,s.ts[i]?=some o:=⟨_,List.getElem?_eq_getElem (by omega)⟩
   have htk:(tS s).take (i+1)=(tS s).take i++[tdS s.fr s.sr[i] o]:=by rw[List.take_add_one,show (tS s)[i]?=some (tdS s.fr s.sr[i] o) by unfold tS;rw[List.getElem?_zipWith,hrow,ho]];rfl
   have hyl:=Paired.length hP
   rw[List.length_take] at hyl
   generalize s.sr[i]=r at *
   walk_at "wp"
   refine⟨dx,_,s1 _ _ h1,abw (by decide+kernel),z,rfl,s,i,by omega,hS.same s1,hT,r,hrow,o,ho,(fun q e=>(ok q (by rw[←e];exact List.mem_of_getElem? hrow)).1),fun v H2 s2 hw=>?_⟩
   have hD2:=s2 _ _ hD1
   refine⟨hD2,by omega,abg (s1.trans s2) hD,?_⟩
   rw[htk]
   have w2:=hw [D] (fun x hx=>by rw[List.mem_singleton.mp hx,hD1];exact fun z=>nomatch z)
   have kp:∀{u:V} {r:Option Tr},RwT H2 [D] u r→RwT (upd H2 D (.lst (ys++[v]))) [D] u r:=fun h=>h.keep (xs:=[D]) (fun x hx=>⟨ys,by rw[List.mem_singleton.mp hx];exact hD2⟩) (fun c o hc hn _=>by rw[aaf (fun z=>hn (by simp[z]))];exact hc)
   refine⟨?_,?_⟩
   ·exact ac4 (Paired.mapP hP fun _ _ h=>kp (h.keep (xs:=[D]) (fun x hx=>⟨ys,by rw[List.mem_singleton.mp hx];exact hD1⟩) (fun c o hc _ _=>s2 _ _ hc))) (kp w2)
   ·have kn:∀{u:V} {r:Option Tr},NwT H H2 u r→NwT H (upd H2 D (.lst (ys++[v]))) u r:=fun h=>h.keep fun c us hc=>by rw[aaf (aca hc hD2 (fun z=>nomatch z))];exact hc
    refine ac4 (Paired.mapP hN fun _ _ h=>kn (h.keep fun c us hc=>s2 _ _ hc)) (kn ?_)
    have w0:=hw [] (fun x hx=>by cases hx)
    cases e9:tdS s.fr r o with
    |none=>exact trivial
    |some tr=>
     rw[e9] at w0 hw
     obtain⟨b9,k9,o9⟩:=tr
     obtain⟨t9,bl,hl,e,h2,_⟩:=w0
     have nw:∀x,(x=bl∨x=hl)→H x=none:=fun x hx=>by
      cases ex:H x with
      |none=>rfl
      |some o=>
       exfalso
       obtain⟨t8,bl8,hl8,e8,h8,_,_,n1,n2⟩:=hw [x] (fun y hy=>by rw[List.mem_singleton.mp hy,s1 _ _ ex];exact fun z=>nomatch z)
       rw[e] at e8
       cases e8
       rw[h2] at h8
       injection h8 with h8
       injection h8 with h8
       injection h8 with x1 h8
       injection h8 with x2 h8
       injection x1 with x1
       injection x2 with x2
       rcases hx with rfl|rfl
       ·exact n1 (by rw[←x1];exact List.mem_singleton.mpr rfl)
       ·exact n2 (by rw[←x2];exact List.mem_singleton.mpr rfl)
     exact⟨t9,bl,hl,_,e,h2,nw bl (.inl rfl),nw hl (.inr rfl)⟩
  ·rintro⟨v,rfl,s1,hD1,hP,hN⟩
   rw[hul,Int.toNat_natCast,←hlen,List.take_length] at hP hN
   exact q _ D ys s1 hD hD1 (Paired.mapP hP fun _ _ h=>h.wk) hN
noncomputable def bkK (k:List Key):Bool:=decide (k.head?=some (.inr (Str.ofString "bank")))
noncomputable def bnk (ks:List (List Key)):Bool:=ks.any bkK
theorem aqm {CX:CXT} {P:Program} {w:World} {K:PySem.W.Frag} {mg:Str→Option Value} {base:Heap} {N:List Str} {qual:Str} {scope:Scope} {f:Addr} {cd:Value} {A:Around} {outer:List Env} {s:Shared} {H:Hp} {E:XK}:(cxOf CX P w K mg base N qual scope f cd A outer s H E).H₀=H:=rfl
noncomputable def sp_bnk (C:Addr):Sp:=fun vs H Q _=>∃(v:V) (r:Sh),vs=[v]∧ShAt C H v (some r)∧(∀k∈r.ks,Tri k)∧r.ks.length≤1000∧∀H',Same H H'→Q (.bl (bnk r.ks)) H'
theorem h_bnk (T:Txt K mg A):HaveM P w K mg base A.C_Sheet "is_banked" 1 ["self"] [] (sp_bnk A.C_Sheet):=by
 refine T.r_Sheet_is_banked.have afv (fun vs H Q E z=>?_) ?_
 ·obtain⟨v,r,rfl,_⟩:=z;rfl
 ·intro f cdv A' outer s H vs Q E hr z
  obtain⟨v,r,rfl,⟨rfl,⟨dx,h1⟩,h2,h3⟩,htr,hl,q⟩:=z
  have hz:=PySem.sizeLine_eq
  refine⟨_,(aag (anz (aav (aar (ans rfl) rfl T.b_any (by decide+kernel) (aaa (ade rfl (an0 (aaq (pvM 0) rfl)) (x:="holder") (fs:=[]) (ix:=[]) rfl rfl (fun _ _ _ _ _ _=>(aa5 (i:=0) (show (["holder"]:List Str).Nodup by decide+kernel) rfl (Or.inl rfl))) (fun _ _ _ _ _ _=>aeb) (fun _ _ _ _ _ _=>(ac0 adb (aam (afl (K:=K) rfl) (pvM 0) aab (fun _ _=>rfl)) acy (nomark _)))) aad))))),?_⟩
  refine⟨r.hd,?_,?_⟩
  ·intro o u
   rw[aqm,h3]
   exact fun z=>nomatch z
  unfold thawDT iDictT
  walk_at "wp"
  refine⟨_,dx,_,h1,T.cl_Sheet,T.na_Sheet_holders,_,ad6,r.hd,rfl,ksD r.ks,h3,fun o D hD=>?_⟩
  have hk2:∀b u,H b=some u→b≠r.hd→upd H r.hd (.frz o (.dT (ksD r.ks))) b=some u:=fun b u h hb=>by rw[aaf hb];exact h
  have ha2:upd H r.hd (.frz o (.dT (ksD r.ks))) r.hd=some (.frz o (.dT (ksD r.ks))):=aah
  generalize upd H r.hd (.frz o (.dT (ksD r.ks)))=H2 at *
  have hDa:D≠r.hd:=fun z=>by rw[z,ha2] at hD;cases hD
  have hD0:H D=none:=by
   cases e:H D with
   |none=>rfl
   |some u=>rw[hk2 D u e hDa] at hD;cases hD
  refine aku (fun i ys σ H'=>∃v0,σ=[v0]∧(∀b u,H b=some u→b≠r.hd→H' b=some u)∧H' r.hd=some (.frz o (.dT (ksD r.ks)))∧ys=((r.ks.take i).map bkK).map V.bl∧H' D=some (.lst ys)) ⟨_,rfl,fun b u h hb=>?_,?_,rfl,aah⟩ (fun i ys σ H' _ ⟨_,_,_,e,_⟩=>e) (fun i k x b ys σ H' hi hb=>?_) (fun ys σ H'=>?_)
  ·rw[aaf (aan h hD0)];exact hk2 b u h hb
  ·rw[aaf (Ne.symm hDa)];exact ha2
  ·rintro⟨v0,rfl,hk,ha,rfl,hD'⟩
   obtain⟨hki,rfl⟩:r.ks[i]?=some k∧x=V.bl true:=by
    unfold ksD at hi
    rw[List.getElem?_map] at hi
    cases e:r.ks[i]? with
    |none=>rw[e] at hi;cases hi
    |some y=>rw[e] at hi;cases hi;exact⟨rfl,rfl⟩
   obtain⟨s1,a1,b1,rfl⟩:=htr k (List.mem_of_getElem? hki)
   have hil:=(List.getElem?_eq_some_iff.mp hki).1
   have htk:r.ks.take (i+1)=r.ks.take i++[[.inr s1,.inl a1,.inl b1]]:=by rw[List.take_add_one,hki];rfl
   walk_at "wp"
   refine⟨_,SqT.of hb,.str s1,aac (j:=0) rfl,rfl,hD',by rw[List.length_map,List.length_map,List.length_take];omega,fun b u h hb9=>?_,?_,?_⟩
   ·rw[aaf (aan h hD0)];exact hk b u h hb9
   ·rw[aaf (Ne.symm hDa)];exact ha
   ·have e9:decide (V.str s1=V.str (Str.ofString "bank"))=bkK [.inr s1,.inl a1,.inl b1]:=by
     unfold bkK
     by_cases e:s1=Str.ofString "bank"
     ·subst e;exact (decide_eq_true rfl).trans (decide_eq_true rfl).symm
     ·exact (decide_eq_false (fun z=>e (V.str.inj z))).trans (decide_eq_false (fun z=>e (Sum.inr.inj (Option.some.inj z)))).symm
    rw[e9,htk,List.map_append,List.map_append]
    rfl
  ·rintro⟨v0,rfl,hk,ha,rfl,hD'⟩
   have hkl:(ksD r.ks).length=r.ks.length:=by unfold ksD;rw[List.length_map]
   rw[hkl,List.take_length] at hD'
   refine⟨r.ks.map bkK,SqL.of hD',?_⟩
   have hk4:Same H (upd H' r.hd (.dT (ksD r.ks))):=fun c u h=>by
    by_cases hc:c=r.hd
    ·rw[hc,aah,←h3,←h,hc]
    ·rw[aaf hc];exact hk _ _ h hc
   rw[al1 ha]
   have:=q _ hk4
   unfold bnk at this
   rw[List.any_map]
   exact this
noncomputable def SpT (H:Hp) (v:V) (p:Bool×Nat):Prop:=∃a,v=.ref a∧H a=some (.tup [.str (nmS p.1),.int (p.2:Int)])
theorem SpT.same {H H':Hp} {v:V} {p:Bool×Nat} (h:SpT H v p) (s:Same H H'):SpT H' v p:=let ⟨a,e,q⟩:=h;⟨a,e,s _ _ q⟩
noncomputable def spA (s:St):List (Bool×Nat):=(List.range s.fr.length).map (true,·)++(List.range s.sr.length).map (false,·)
theorem aeh {α β:Type} {R:α→β→Prop} {as cs:List α} {bs ds:List β} (h:Paired R as bs) (h2:Paired R cs ds):Paired R (as++cs) (bs++ds):=by
 induction h with
 |nil=>exact h2
 |cons r t ih=>exact .cons r ih
noncomputable def sp_all (C P S:Addr):Sp:=fun vs H Q _=>∃(z:Ss) (s:St),vs=[.ref z.p]∧SsAt C P S H z s∧∀H' l us,Same H H'→H l=none→H' l=some (.lst us)→Paired (SpT H') us (spA s)→Q (.ref l) H'
theorem h_all (T:Txt K mg A):HaveM P w K mg base A.C_Sheets "all_spots" 1 ["self"] [] (sp_all A.C_Sheets A.C_Spots A.C_Sheet):=by
 refine T.r_Sheets_all_spots.have ad0 (fun vs H Q E z=>?_) ?_
 ·obtain⟨z,s,rfl,_⟩:=z;rfl
 ·intro f cdv A' outer s H vs Q E hr z
  obtain⟨z,s,rfl,hS,q⟩:=z
  obtain⟨dx,h1⟩:=hS.me
  obtain⟨dx1,us1,f1,f2,f3,f4,f5⟩:=id hS.fr
  obtain⟨dx2,us2,g1,g2,g3,g4,g5⟩:=id hS.sl
  have l1:=Paired.length f3
  have l2:=Paired.length g3
  have h64:=hS.len
  have hz:=PySem.sizeLine_eq
  have rgn:∀(b:Bool) (i:Nat),(List.range (i+1)).map (fun x=>(b,x))=(List.range i).map (fun x=>(b,x))++[(b,i)]:=fun b i=>by rw[List.range_succ,List.map_append];rfl
  refine⟨_,(aak (agr (i:=1) ad0.nd rfl rfl rfl (acp rfl T.b_range (aaa (aar aa2 rfl T.b_len PySem.boot_len (aaa (aaq (aaq (pvM 0) rfl) rfl) aad)) aad)) (x:="frame") (fs:=[]) (ix:=[]) rfl rfl (fun _ _ _ _ _ _=>(aa5 (i:=0) (show (["frame"]:List Str).Nodup by decide+kernel) rfl (Or.inl rfl))) (fun _ _ _ _ _ _=>aeb) (fun _ _ _ _ _ _=>(ac7 (aaa acy (aaa (pvM 0) aad)))))
   (aag (aav (aay ag9 (pvM 1) (ade rfl (acp rfl T.b_range (aaa (aar aa2 rfl T.b_len PySem.boot_len (aaa (aaq (aaq (pvM 0) rfl) rfl) aad)) aad)) (x:="slot") (fs:=[]) (ix:=[]) rfl rfl (fun _ _ _ _ _ _=>(aa5 (i:=0) (show (["slot"]:List Str).Nodup by decide+kernel) rfl (Or.inl rfl))) (fun _ _ _ _ _ _=>aeb) (fun _ _ _ _ _ _=>(ac7 (aaa acy (aaa (pvM 0) aad))))))))),?_⟩
  walk_at "wp"
  simp only[h1]
  walk_at "wp"
  refine⟨T.cl_Sheets,T.na_Sheets_frames,_,aaz,z.fp,rfl,_,dx1,_,f1,T.cl_Spots,T.na_Spots_lying,_,aa3,_,.inl ⟨_,SqL.of f2,rfl⟩,by omega,by omega,fun D hD=>?_⟩
  refine acl (fun i ys σ H'=>∃v,σ=[v]∧Same H H'∧H' D=some (.lst ys)∧Paired (SpT H') ys ((List.range i).map (true,·))) ⟨_,rfl,aau aae hD,aah,.nil⟩ (fun i ys σ H' hi=>?_) (fun ys σ H5=>?_)
  ·rintro⟨v,rfl,s1,hD1,hP⟩
   have hyl:=Paired.length hP
   rw[List.length_map,List.length_range] at hyl
   walk_at "wp"
   intro p hp
   rw[Int.zero_add]
   obtain⟨b1,c1⟩:=aa4 (o:=.tup [V.str (Str.ofString "frame"),V.int (i:Int)]) hp
   have hD2:=b1 _ _ hD1
   generalize upd H' p _=H2 at *
   have kp:∀{c o},H2 c=some o→(∀us,o≠.lst us)→upd H2 D (.lst (ys++[V.ref p])) c=some o:=fun hc hn=>by rw[aaf (aca hc hD2 (fun e=>hn _ e))];exact hc
   refine⟨hD2,by omega,abg (s1.trans b1) hD,?_⟩
   rw[rgn]
   exact ac4 (Paired.mapP hP fun _ _ ⟨a,e,q⟩=>⟨a,e,kp (b1 _ _ q) (fun _ z=>nomatch z)⟩) ⟨p,rfl,kp c1 (fun _ z=>nomatch z)⟩
  rintro⟨v,rfl,s1,hD1,hP⟩
  rw[l1,Int.toNat_natCast] at hP
  refine⟨_,dx,_,s1 _ _ h1,T.cl_Sheets,T.na_Sheets_slots,_,abq,z.sq,rfl,_,dx2,_,s1 _ _ g1,T.cl_Spots,T.na_Spots_lying,_,aa3,_,.inl ⟨_,SqL.of (s1 _ _ g2),rfl⟩,by omega,by omega,fun D2 hD2=>?_⟩
  have s1':=s1
  have hD1':=hD1
  have hP1:=hP
  have ysl:=Paired.length hP
  rw[List.length_map,List.length_range] at ysl
  refine acl (fun i zs σ H'=>∃v,σ=[v]∧Same H5 H'∧H' D2=some (.lst zs)∧Paired (SpT H') zs ((List.range i).map (false,·))) ⟨_,rfl,aau aae hD2,aah,.nil⟩ (fun i ys σ H' hi=>?_) (fun zs σ H6=>?_)
  ·rintro⟨v,rfl,s1,hD1,hP⟩
   have hD:=hD2
   have hyl:=Paired.length hP
   rw[List.length_map,List.length_range] at hyl
   walk_at "wp"
   intro p hp
   rw[Int.zero_add]
   obtain⟨b1,c1⟩:=aa4 (o:=.tup [V.str (Str.ofString "slot"),V.int (i:Int)]) hp
   have hD2:=b1 _ _ hD1
   generalize upd H' p _=H2 at *
   have kp:∀{c o},H2 c=some o→(∀us,o≠.lst us)→upd H2 D2 (.lst (ys++[V.ref p])) c=some o:=fun hc hn=>by rw[aaf (aca hc hD2 (fun e=>hn _ e))];exact hc
   refine⟨hD2,by omega,abg (s1.trans b1) hD,?_⟩
   rw[rgn]
   exact ac4 (Paired.mapP hP fun _ _ ⟨a,e,q⟩=>⟨a,e,kp (b1 _ _ q) (fun _ z=>nomatch z)⟩) ⟨p,rfl,kp c1 (fun _ z=>nomatch z)⟩
  ·rintro⟨v,rfl,s6,hD6,hP6⟩
   rw[l2,Int.toNat_natCast] at hP6
   have zsl:=Paired.length hP6
   rw[List.length_map,List.length_range] at zsl
   refine⟨ys,s6 _ _ hD1,zs,hD6,by omega,fun p hp=>?_⟩
   obtain⟨b7,c7⟩:=aa4 (o:=.lst (ys++zs)) hp
   refine q _ p _ ((s1.trans s6).trans b7) (aai (s1.trans s6) hp) c7 (aeh (Paired.mapP hP fun _ _ h=>h.same (s6.trans b7)) (Paired.mapP hP6 fun _ _ h=>h.same b7))
noncomputable def ovK (q:Sh) (ks:List (List Key)):Sh:={q with ks:=q.ks++ks}
noncomputable def ovS (s:St) (f:Bool) (j:Nat) (f':Bool) (j':Nat) (r q:Sh):St:=emptS (s.put f' j' (some (ovK q (srt r.ks)))) f j
theorem ag6 {s:St} {f f':Bool} {j j':Nat} {o:Option Sh} (h:¬(f=f'∧j=j')):((s.put f' j' o).rw f)[j]?=(s.rw f)[j]?:=by
 cases f with
 |true=>
  cases f' with
  |true=>show (s.fr.set j' o)[j]?=s.fr[j]?;rw[List.getElem?_set,if_neg (fun e=>h ⟨rfl,e.symm⟩)]
  |false=>rfl
 |false=>
  cases f' with
  |true=>rfl
  |false=>show (s.sr.set j' o)[j]?=s.sr[j]?;rw[List.getElem?_set,if_neg (fun e=>h ⟨rfl,e.symm⟩)]
theorem amy {s:St} {f:Bool} {j:Nat} {o:Option Sh} (h:j < (s.rw f).length):((s.put f j o).rw f)[j]?=some o:=by
 cases f with
 |true=>exact List.getElem?_set_self h
 |false=>exact List.getElem?_set_self h
theorem aod {s:St} {f:Bool} {j:Nat} {o:Option Sh} (h:(s.rw f)[j]?=some o):s.put f j o=s:=by
 cases f with
 |true=>
  obtain⟨x1,x2⟩:=List.getElem?_eq_some_iff.mp (show s.fr[j]?=some o from h)
  show {s with fr:=s.fr.set j o}=s
  rw[←x2,List.set_getElem_self]
 |false=>
  obtain⟨x1,x2⟩:=List.getElem?_eq_some_iff.mp (show s.sr[j]?=some o from h)
  show {s with sr:=s.sr.set j o}=s
  rw[←x2,List.set_getElem_self]
noncomputable def aqn (C P S:Addr):Sp:=fun vs H Q _=>∃(z:Ss) (s:St) (t t':Addr) (f f':Bool) (j j':Nat) (r q:Sh),vs=[.ref z.p,.ref t,.ref t']∧SsAt C P S H z s∧Ap s∧Tw s∧H t=some (.tup [.str (nmS f),.int (j:Int)])∧H t'=some (.tup [.str (nmS f'),.int (j':Int)])∧(s.rw f)[j]?=some (some r)∧(s.rw f')[j']?=some (some q)∧¬(f=f'∧j=j')∧Okh r∧(∀k∈r.ks,k∉q.ks)∧q.ks.length+r.ks.length≤1000∧
 ∀H',SsAt C P S H' z (ovS s f j f' j' r q)→Ap (ovS s f j f' j' r q)→Tw (ovS s f j f' j' r q)→Kg z q.hd H H'→(∀c,H' c=none→H c=none)→Q .non H'
theorem h_over (T:Txt K mg A):HaveM P w K mg base A.C_Sheets "hand_over" 3 ["self","spot","other"] [] (aqn A.C_Sheets A.C_Spots A.C_Sheet):=by
 have H_Sheets_holders_of:=h_ho (P:=P) (w:=w) (base:=base) T
 have H_Sheets_hold:=ao7 (P:=P) (w:=w) (base:=base) T
 have H_Sheets_make_empty:=h_me (P:=P) (w:=w) (base:=base) T
 refine T.r_Sheets_hand_over.have ad1 (fun vs H Q E z=>?_) ?_
 ·obtain⟨z,s,t,t',f,f',j,j',r,q,rfl,_⟩:=z;rfl
 ·intro f9 cdv A' outer s H vs Q E hr z
  obtain⟨z,s,t,t',f,f',j,j',r,q,rfl,hS,hA,hT,ht,ht',hrj,hqj,hne,hok,hdj,hln,qq⟩:=z
  obtain⟨dx,h1⟩:=hS.me
  have hjl:=(List.getElem?_eq_some_iff.mp hrj).1
  have hjl':=(List.getElem?_eq_some_iff.mp hqj).1
  refine⟨_,(aak (ady PassesOwn.leaving rfl (adu (aa6 (pvM 0) T.cl_Sheets H_Sheets_holders_of (hr.mono (by decide)) aat (aaa (pvM 1) aad))) (aa5 (i:=3) ad1.nd rfl (Or.inl rfl)) (aag (aby (aa6 (pvM 0) T.cl_Sheets H_Sheets_hold (hr.mono (by decide)) aat (aaa (pvM 2) (aaa (pvM 3) aad))))))
   (aag (aby (aa6 (pvM 0) T.cl_Sheets H_Sheets_make_empty (hr.mono (by decide)) aat (aaa (pvM 1) aad))))),?_⟩
  walk_at "wp"
  simp only[h1]
  walk_at "wp"
  refine⟨abw (by decide+kernel),z,s,t,f,j,some r,rfl,hS,ht,hrj,(fun q9 e=>by cases e;exact hok),fun l H1 hl s1 htd=>?_⟩
  obtain⟨us,hu,hP⟩:=htd
  have hul:=Paired.length hP
  rw[ab8.length_eq] at hul
  have S1:=hS.same s1
  have hl4:=hS.nf hl
  have hlp:l≠z.p:=fun e=>by rw[e,h1] at hl;cases hl
  have hsn:(srt r.ks).Nodup:=ab8.nodup_iff.mpr hok.2.1
  have e0:s.put f' j' (some (ovK q ((srt r.ks).take 0)))=s:=by
   have:ovK q ((srt r.ks).take 0)=q:=by unfold ovK;rw[List.take_zero,List.append_nil]
   rw[this];exact aod hqj
  have hqd:H q.hd=some (.dT (ksD q.ks)):=by
   obtain⟨vs,_,x3⟩:=hS.row f'
   obtain⟨_,_,_,_,_,e⟩:=aa1 x3 hqj
   exact e
  have kt:∀{G:Hp} {c us},Kg z q.hd H G→H c=some (.tup us)→G c=some (.tup us):=fun k hc=>k _ _ hc (fun e=>by rw[e,h1] at hc;cases hc) (fun e=>by obtain⟨vs,h9⟩:=hS.fours _ e;rw[hc] at h9;cases h9) (fun e=>by rw[e,hqd] at hc;cases hc)
  refine⟨l,rfl,⟨_,SqL.of hu⟩,aey (K:=K) (xs:=us) (fun i σ G=>∃v,σ=[some (.ref z.p),some (.ref t),some (.ref t'),v]∧SsAt A.C_Sheets A.C_Spots A.C_Sheet G z (s.put f' j' (some (ovK q ((srt r.ks).take i))))∧Ap (s.put f' j' (some (ovK q ((srt r.ks).take i))))∧Kg z q.hd H1 G∧∀c,G c=none→H1 c=none) ⟨_,rfl,by rw[e0];exact S1,by rw[e0];exact hA,(fun c o h _ _ _=>h),fun c h=>h⟩ (fun i σ G _ ⟨_,_,_,_,k,_⟩=>SqL.of (k _ _ hu hlp hl4 (fun e=>by rw[e,hqd] at hl;cases hl))) (fun i v σ G hi=>?_) (fun σ G=>?_)⟩
  ·rintro⟨v3,rfl,S2,A2,k2,d2⟩
   obtain⟨k9,hk1,a9,rfl,ha9⟩:=acn hP hi
   have hkr:k9∈r.ks:=ab8.mem_iff.mp (List.mem_of_getElem? hk1)
   have htk:(srt r.ks).take (i+1)=(srt r.ks).take i++[k9]:=by rw[List.take_add_one,hk1];rfl
   have hil:=(List.getElem?_eq_some_iff.mp hk1).1
   rw[ab8.length_eq] at hil
   obtain⟨dx2,h2⟩:=S2.me
   have kt2:∀{c us},H1 c=some (.tup us)→G c=some (.tup us):=fun hc=>k2 _ _ hc (fun e=>by rw[e,s1 _ _ h1] at hc;cases hc) (fun e=>by obtain⟨vs,h9⟩:=S1.fours _ e;rw[hc] at h9;cases h9) (fun e=>by rw[e,s1 _ _ hqd] at hc;cases hc)
   walk_at "wp"
   refine⟨dx2,_,h2,abw (by decide+kernel),z,_,t',a9,f',j',ovK q ((srt r.ks).take i),k9,rfl,S2,A2,kt2 (s1 _ _ ht'),amy hjl',kt2 ha9,fun z9=>?_,?_,fun H' a1 a2 a3 a4=>?_⟩
   ·rcases List.mem_append.mp z9 with z9|z9
    ·exact hdj k9 hkr z9
    ·obtain⟨x,hx⟩:=List.mem_iff_getElem?.mp z9
     rw[List.getElem?_take] at hx
     split at hx
     ·rename_i hxi
      obtain⟨y1,y2⟩:=List.getElem?_eq_some_iff.mp hx
      obtain⟨y3,y4⟩:=List.getElem?_eq_some_iff.mp hk1
      exact (List.pairwise_iff_getElem.mp hsn) x i y1 y3 hxi (y2.trans y4.symm)
     ·cases hx
   ·show (q.ks++(srt r.ks).take i).length≤1000
    rw[List.length_append,List.length_take];omega
   ·have e9:{ovK q ((srt r.ks).take i) with ks:=(ovK q ((srt r.ks).take i)).ks++[k9]}=ovK q ((srt r.ks).take (i+1)):=by
     unfold ovK;rw[htk,List.append_assoc]
    rw[ah4,e9] at a1 a2
    exact⟨a1,a2,fun c o hc n1 n2 n3=>a3 c o (k2 c o hc n1 n2 n3) n1 n2 n3,fun c hc=>d2 c (a4 c hc)⟩
  ·rintro⟨v3,rfl,S2,A2,k2,d2⟩
   rw[hul,←(ab8 (l:=r.ks)).length_eq,List.take_length] at S2 A2
   obtain⟨dx2,h2⟩:=S2.me
   have kt2:∀{c us},H1 c=some (.tup us)→G c=some (.tup us):=fun hc=>k2 _ _ hc (fun e=>by rw[e,s1 _ _ h1] at hc;cases hc) (fun e=>by obtain⟨vs,h9⟩:=S1.fours _ e;rw[hc] at h9;cases h9) (fun e=>by rw[e,s1 _ _ hqd] at hc;cases hc)
   have T2:=hT.put (r':=ovK q (srt r.ks)) hqj
   have hlens:=S2.lens
   walk_at "wp"
   refine⟨dx2,_,h2,abw (by decide+kernel),z,_,t,f,j,rfl,S2,kt2 (s1 _ _ ht),?_,fun k9 hk9=>?_,fun H' a1 a2=>?_⟩
   ·have:=(List.getElem?_eq_some_iff.mp ((ag6 (s:=s) (o:=some (ovK q (srt r.ks))) hne).trans hrj)).1
    exact this
   ·have:=(List.getElem?_eq_some_iff.mp (T2.there j k9 hk9)).1
    omega
   ·refine qq H' a1 (amv A2) (T2.empt ((ag6 hne).trans hrj)) (fun c o hc n1 n2 n3=>a2 c o (k2 c o (s1 _ _ hc) n1 n2 n3) n1 n2) fun c hc=>?_
    exact aai s1 (d2 c (a2.was S2 a1 hc))
set_option genInjectivity false in
structure Fs where
 F:List (List Int×(Bool×Nat))
 s:St
 M:List ((Bool×Nat)×(Bool×Nat))
noncomputable def lkS (s:St) (p:Bool×Nat):Option Sh:=((s.rw p.1)[p.2]?).getD none
noncomputable def fstep (x:Fs) (p:Bool×Nat):Fs:=match lkS x.s p with
 |none=>x
 |some r=>if bnk r.ks=true then x else match x.F.find? fun e=>decide (e.1=r.b) with
  |none=>{x with F:=x.F++[(r.b,p)]}
  |some e=>match lkS x.s e.2 with
   |none=>x
   |some q=>{x with s:=ovS x.s p.1 p.2 e.2.1 e.2.2 r q,M:=x.M++[(p,e.2)]}
noncomputable def foldN (s:St) (i:Nat):Fs:=((spA s).take i).foldl fstep ⟨[],s,[]⟩
noncomputable def foldS (s:St):Fs:=foldN s (spA s).length
theorem ahi {s:St} {i:Nat} {p:Bool×Nat} (h:(spA s)[i]?=some p):foldN s (i+1)=fstep (foldN s i) p:=by
 unfold foldN
 rw[List.take_add_one,h,List.foldl_append]
 rfl
noncomputable def MvT (H:Hp) (v:V) (m:(Bool×Nat)×(Bool×Nat)):Prop:=∃a t1 t2,v=.ref a∧H a=some (.tup [.ref t1,.ref t2])∧SpT H (.ref t1) m.1∧SpT H (.ref t2) m.2
theorem MvT.to {H H':Hp} {v:V} {m:(Bool×Nat)×(Bool×Nat)} (h:MvT H v m) (k:∀c us,H c=some (.tup us)→H' c=some (.tup us)):MvT H' v m:=by
 obtain⟨a,t1,t2,e,h1,⟨b1,e1,q1⟩,⟨b2,e2,q2⟩⟩:=h
 exact⟨a,t1,t2,e,k _ _ h1,⟨b1,e1,k _ _ q1⟩,⟨b2,e2,k _ _ q2⟩⟩
noncomputable def bxK (b:List Int):List Key:=b.map Sum.inl
theorem amz:∀{a b:List Int},bxK a=bxK b→a=b
 |[],[],_=>rfl
 |[],_::_,h=>by cases h
 |_::_,[],h=>by cases h
 |x::a,y::b,h=>by
  unfold bxK at h
  rw[List.map_cons,List.map_cons] at h
  injection h with h1 h2
  rw[Sum.inl.inj h1,amz (a:=a) (b:=b) h2]
noncomputable def FdT (H:Hp) (kv:List Key×V) (e:List Int×(Bool×Nat)):Prop:=kv.1=bxK e.1∧SpT H kv.2 e.2
theorem fd_val {H:Hp} {kvs:List (List Key×V)} {F:List (List Int×(Bool×Nat))} (h:Paired (FdT H) kvs F) {b:List Int}:match F.find? (fun e=>decide (e.1=b)) with|none=>valV kvs (bxK b)=none|some e=>∃v,valV kvs (bxK b)=some v∧SpT H v e.2∧e.1=b:=by
 induction h with
 |nil=>rfl
 |@cons kv e ks es r t ih=>
  obtain⟨r1,r2⟩:=r
  obtain⟨k0,v0⟩:=kv
  have r1:k0=bxK e.1:=r1
  by_cases c:e.1=b
  ·rw[List.find?_cons,decide_eq_true c]
   exact⟨v0,afr (by rw[r1,c]),r2,c⟩
  ·rw[List.find?_cons,decide_eq_false c]
   have hv:valV ((k0,v0)::ks) (bxK b)=valV ks (bxK b):=ae8 (fun z=>c (amz (r1.symm.trans z)))
   show match es.find? (fun e=>decide (e.1=b)) with|none=>valV ((k0,v0)::ks) (bxK b)=none|some e=>∃v,valV ((k0,v0)::ks) (bxK b)=some v∧SpT H v e.2∧e.1=b
   rw[hv]
   exact ih
structure Fi (s0:St) (i:Nat) (x:Fs):Prop where
 fr:x.s.fr.length=s0.fr.length
 sr:x.s.sr.length=s0.sr.length
 first:∀e∈x.F,(∃q,lkS x.s e.2=some q∧q.b=e.1∧bnk q.ks=false)∧∃a < i,(spA s0)[a]?=some e.2
 nd:((alS x.s).flatMap Sh.ks).Nodup
 tri:∀k∈(alS x.s).flatMap Sh.ks,Tri k
 few:∀b,(((alS x.s).filter fun r=>decide (r.b=b)).flatMap Sh.ks).length < 64
 fl:x.F.length≤i
 ml:x.M.length≤i
theorem ad7 {s:St} {f:Bool} {j:Nat} {r r':Sh} (h:(s.rw f)[j]?=some (some r)):(alS s).Perm (r::alS (s.put f j none))∧(alS (s.put f j (some r'))).Perm (r'::alS (s.put f j none)):=by
 cases f with
 |true=>
  have h:s.fr[j]?=some (some r):=h
  unfold alS
  show (als (s.fr++s.sr)).Perm (r::als (s.fr.set j none++s.sr))∧(als (s.fr.set j (some r')++s.sr)).Perm (r'::als (s.fr.set j none++s.sr))
  rw[ab6,ab6,ab6]
  exact⟨(aeg h).append_right _,(ah5 h).append_right _⟩
 |false=>
  have h:s.sr[j]?=some (some r):=h
  unfold alS
  show (als (s.fr++s.sr)).Perm (r::als (s.fr++s.sr.set j none))∧(als (s.fr++s.sr.set j (some r'))).Perm (r'::als (s.fr++s.sr.set j none))
  rw[ab6,ab6,ab6]
  exact⟨((aeg h).append_left _).trans List.perm_middle,((ah5 h).append_left _).trans List.perm_middle⟩
theorem ajf {s:St} {f:Bool} {j:Nat}:alS (emptS s f j)=alS (s.put f j none):=by
 cases f with
 |true=>show alS (untie (s.put true j none) j)=_;unfold alS;rw[acb.1,acb.2.1]
 |false=>rfl
theorem aqo {s:St} {f f':Bool} {j j':Nat} {r q:Sh} (hr:(s.rw f)[j]?=some (some r)) (hq:(s.rw f')[j']?=some (some q)) (hne:¬(f=f'∧j=j')):(ovK q (srt r.ks)::alS s).Perm (q::r::alS (ovS s f j f' j' r q)):=by
 obtain⟨p1,p2⟩:=ad7 (r':=ovK q (srt r.ks)) hq
 obtain⟨p3,_⟩:=ad7 (r':=r) ((ag6 (o:=some (ovK q (srt r.ks))) hne).trans hr)
 unfold ovS
 rw[ajf]
 refine (List.Perm.cons _ p1).trans ((List.Perm.swap ..).trans (List.Perm.cons q ?_))
 exact p2.symm.trans p3
theorem aqp {s:St} {f:Bool} {j:Nat} {p:Bool×Nat} (h:¬(p.1=f∧p.2=j)):lkS (emptS s f j) p=lkS s p:=by
 unfold lkS
 have e:(emptS s f j).rw p.1=(s.put f j none).rw p.1:=by
  cases f with
  |true=>show (untie (s.put true j none) j).rw p.1=_;cases p.1 with
   |true=>exact acb.1
   |false=>exact acb.2.1
  |false=>rfl
 rw[e,ag6 h]
theorem lk_ov {s:St} {f f':Bool} {j j':Nat} {r q:Sh} {p:Bool×Nat} (hq:(s.rw f')[j']?=some (some q)) (h1:¬(p.1=f∧p.2=j)):lkS (ovS s f j f' j' r q) p=if p.1=f'∧p.2=j' then some (ovK q (srt r.ks)) else lkS s p:=by
 unfold ovS
 rw[aqp h1]
 unfold lkS
 split
 ·rename_i e
  obtain⟨e1,e2⟩:=e
  rw[e1,e2,amy (List.getElem?_eq_some_iff.mp hq).1];rfl
 ·rename_i e
  rw[ag6 e]
theorem len_ov {s:St} {f f':Bool} {j j':Nat} {r q:Sh}:(ovS s f j f' j' r q).fr.length=s.fr.length∧(ovS s f j f' j' r q).sr.length=s.sr.length:=by
 have e:∀(u:St) (b:Bool) (k:Nat) (o:Option Sh),(u.put b k o).fr.length=u.fr.length∧(u.put b k o).sr.length=u.sr.length:=fun u b k o=>by
  cases b with
  |true=>exact⟨List.length_set,rfl⟩
  |false=>exact⟨rfl,List.length_set⟩
 unfold ovS
 cases f with
 |true=>
  show (untie ((s.put f' j' (some (ovK q (srt r.ks)))).put true j none) j).fr.length=_∧(untie ((s.put f' j' (some (ovK q (srt r.ks)))).put true j none) j).sr.length=_
  rw[acb.1,acb.2.1,(e _ _ _ _).1,(e _ _ _ _).2,(e _ _ _ _).1,(e _ _ _ _).2]
  exact⟨rfl,rfl⟩
 |false=>
  show ((s.put f' j' (some (ovK q (srt r.ks)))).put false j none).fr.length=_∧((s.put f' j' (some (ovK q (srt r.ks)))).put false j none).sr.length=_
  rw[(e _ _ _ _).1,(e _ _ _ _).2,(e _ _ _ _).1,(e _ _ _ _).2]
  exact⟨rfl,rfl⟩
theorem aek {s:St} {p:Bool×Nat} {r:Sh} (h:lkS s p=some r):(s.rw p.1)[p.2]?=some (some r):=by
 unfold lkS at h
 cases e:(s.rw p.1)[p.2]? with
 |none=>rw[e] at h;cases h
 |some o=>rw[e] at h;have h:o=some r:=h;rw[h]
theorem ao9 {s:St}:(spA s).Nodup:=by
 unfold spA
 rw[List.nodup_append]
 refine⟨?_,?_,fun x hx y hy e=>?_⟩
 ·exact List.pairwise_map.mpr (List.nodup_range.imp fun h e=>h (Prod.mk.inj e).2)
 ·exact List.pairwise_map.mpr (List.nodup_range.imp fun h e=>h (Prod.mk.inj e).2)
 ·obtain⟨a,_,rfl⟩:=List.mem_map.mp hx
  obtain⟨b,_,rfl⟩:=List.mem_map.mp hy
  cases (Prod.mk.inj e).1
theorem Fi.next {s0:St} {i:Nat} {x:Fs} {p:Bool×Nat} (h:Fi s0 i x) (hp:(spA s0)[i]?=some p):Fi s0 (i+1) (fstep x p):=by
 have more:Fi s0 (i+1) x:=⟨h.fr,h.sr,fun e he=>let ⟨a,b,c,d⟩:=h.first e he;⟨a,b,by omega,d⟩,h.nd,h.tri,h.few,by have:=h.fl;omega,by have:=h.ml;omega⟩
 have apart:∀e∈x.F,¬(e.2.1=p.1∧e.2.2=p.2):=fun e he z=>by
  obtain⟨_,a,ha,e9⟩:=h.first e he
  have ep:e.2=p:=Prod.ext z.1 z.2
  rw[ep] at e9
  obtain⟨y1,y2⟩:=List.getElem?_eq_some_iff.mp e9
  obtain⟨y3,y4⟩:=List.getElem?_eq_some_iff.mp hp
  exact (List.pairwise_iff_getElem.mp (ao9 (s:=s0))) a i y1 y3 ha (y2.trans y4.symm)
 unfold fstep
 cases e1:lkS x.s p with
 |none=>exact more
 |some r=>
  show Fi s0 (i+1) (if bnk r.ks=true then x else _)
  split
  ·exact more
  ·rename_i hb
   cases e2:x.F.find? fun e=>decide (e.1=r.b) with
   |none=>
    refine⟨h.fr,h.sr,fun e he=>?_,h.nd,h.tri,h.few,by have:=h.fl;show (x.F++[(r.b,p)]).length≤i+1;rw[List.length_append];show x.F.length+1≤i+1;omega,by have:=h.ml;show x.M.length≤i+1;omega⟩
    rcases List.mem_append.mp he with he|he
    ·exact more.first e he
    ·rw[List.mem_singleton.mp he]
     exact⟨⟨r,e1,rfl,by cases hx:bnk r.ks with|true=>exact absurd hx hb|false=>rfl⟩,i,by omega,hp⟩
   |some e=>
    have heF:=List.mem_of_find?_eq_some e2
    have heb:e.1=r.b:=by have:=List.find?_some e2;simpa using this
    obtain⟨⟨q,hq,hqb,hqn⟩,_⟩:=h.first e heF
    show Fi s0 (i+1) (match lkS x.s e.2 with|none=>x|some q=>{x with s:=ovS x.s p.1 p.2 e.2.1 e.2.2 r q,M:=x.M++[(p,e.2)]})
    rw[hq]
    have hne:¬(p.1=e.2.1∧p.2=e.2.2):=fun z=>apart e heF ⟨z.1.symm,z.2.symm⟩
    have pm:=aqo (aek e1) (aek hq) hne
    have hrb:bnk r.ks=false:=by cases hx:bnk r.ks with|true=>exact absurd hx hb|false=>rfl
    have pmk:((alS x.s).flatMap Sh.ks).Perm ((alS (ovS x.s p.1 p.2 e.2.1 e.2.2 r q)).flatMap Sh.ks):=by
     have p9:=pm.flatMap_right Sh.ks
     rw[List.flatMap_cons,List.flatMap_cons,List.flatMap_cons] at p9
     have p9:((q.ks++srt r.ks)++(alS x.s).flatMap Sh.ks).Perm (q.ks++(r.ks++(alS (ovS x.s p.1 p.2 e.2.1 e.2.2 r q)).flatMap Sh.ks)):=p9
     rw[List.append_assoc] at p9
     have p8:=(List.perm_append_left_iff _).mp p9
     exact (List.perm_append_left_iff _).mp ((ab8.symm.append_right _).trans p8)
    obtain⟨l1,l2⟩:=len_ov (s:=x.s) (f:=p.1) (j:=p.2) (f':=e.2.1) (j':=e.2.2) (r:=r) (q:=q)
    refine⟨l1.trans h.fr,l2.trans h.sr,fun e' he'=>?_,pmk.nodup_iff.mp h.nd,fun k hk=>h.tri k (pmk.mem_iff.mpr hk),fun b=>?_,(by have:=h.fl;show x.F.length≤i+1;omega),by have:=h.ml;show (x.M++[(p,e.2)]).length≤i+1;rw[List.length_append];show x.M.length+1≤i+1;omega⟩
    ·obtain⟨⟨q',x1,x2,x3⟩,a,x4,x5⟩:=h.first e' he'
     refine⟨?_,a,by omega,x5⟩
     show ∃q0,lkS (ovS x.s p.1 p.2 e.2.1 e.2.2 r q) e'.2=some q0∧_
     rw[lk_ov (aek hq) (apart e' he')]
     split
     ·rename_i ee
      have:e'.2=e.2:=Prod.ext ee.1 ee.2
      rw[this,hq] at x1
      obtain rfl:=Option.some.inj x1
      refine⟨_,rfl,x2,?_⟩
      show (q.ks++srt r.ks).any bkK=false
      rw[List.any_append]
      have y1:q.ks.any bkK=false:=hqn
      have y2:(srt r.ks).any bkK=false:=by
       rw[List.any_eq_false]
       intro k hk
       have:=(List.any_eq_false.mp (show r.ks.any bkK=false from hrb)) k (ab8.mem_iff.mp hk)
       exact this
      rw[y1,y2];rfl
     ·exact⟨q',x1,x2,x3⟩
    ·have p9:=(pm.filter fun r=>decide (r.b=b)).flatMap_right Sh.ks
     have p9:=p9.length_eq
     have fw:=h.few b
     have eb:(ovK q (srt r.ks)).b=q.b:=rfl
     by_cases c:r.b=b
     ·have cq:q.b=b:=by rw[hqb,heb];exact c
      have k1:∀(y:Sh) (l:List Sh),y.b=b→(y::l).filter (fun r=>decide (r.b=b))=y::l.filter (fun r=>decide (r.b=b)):=fun y l hy=>List.filter_cons_of_pos (p:=fun r:Sh=>decide (r.b=b)) (decide_eq_true hy)
      rw[k1 _ _ (eb.trans cq),k1 _ _ cq,k1 _ _ c,List.flatMap_cons,List.flatMap_cons,List.flatMap_cons,List.length_append,List.length_append,List.length_append] at p9
      have l9:(ovK q (srt r.ks)).ks.length=q.ks.length+r.ks.length:=by show (q.ks++srt r.ks).length=_;rw[List.length_append,ab8.length_eq]
      rw[l9] at p9
      show (((alS (ovS x.s p.1 p.2 e.2.1 e.2.2 r q)).filter fun r=>decide (r.b=b)).flatMap Sh.ks).length < 64
      omega
     ·have cq:¬(q.b=b):=by rw[hqb,heb];exact c
      have k1:∀(y:Sh) (l:List Sh),¬(y.b=b)→(y::l).filter (fun r=>decide (r.b=b))=l.filter (fun r=>decide (r.b=b)):=fun y l hy=>List.filter_cons_of_neg (p:=fun r:Sh=>decide (r.b=b)) (by simpa using hy)
      rw[k1 _ _ (fun z=>cq (eb.symm.trans z)),k1 _ _ cq,k1 _ _ c] at p9
      show (((alS (ovS x.s p.1 p.2 e.2.1 e.2.2 r q)).filter fun r=>decide (r.b=b)).flatMap Sh.ks).length < 64
      omega
theorem SsAt.bxl {C P S:Addr} {H:Hp} {z:Ss} {s:St} (h:SsAt C P S H z s) {r:Sh} (hr:some r∈s.fr∨some r∈s.sr):H r.bx=some (.lst (r.b.map V.int)):=by
 obtain⟨_,_,_,_,f3,_⟩:=h.fr
 obtain⟨_,_,_,_,g3,_⟩:=h.sl
 rcases hr with hr|hr
 ·obtain⟨i,hi⟩:=List.mem_iff_getElem?.mp hr
  obtain⟨_,_,_,_,e,_⟩:=aa1 f3 hi
  exact e
 ·obtain⟨i,hi⟩:=List.mem_iff_getElem?.mp hr
  obtain⟨_,_,_,_,e,_⟩:=aa1 g3 hi
  exact e
theorem SsAt.lup {C P S:Addr} {G:Hp} {z:Ss} {s:St} {g:Addr} {us:List V} {o:HO} (h:SsAt C P S G z s) (hl:G g=some (.lst us)) (h4:g∉z.four) (hb:∀r∈alS s,r.bx≠g):SsAt C P S (upd G g o) z s:=by
 obtain⟨dx,h1⟩:=h.me
 obtain⟨dx1,vs1,f1,f2,f3,f4,f5⟩:=id h.fr
 obtain⟨dx2,vs2,g1,g2,g3,g4,g5⟩:=id h.sl
 have ni:∀{c D d fs},G c=some (.ins D d fs)→upd G g o c=some (.ins D d fs):=fun hc=>by rw[aaf (aca hc hl (fun z=>nomatch z))];exact hc
 have nf:∀{c u},G c=some u→c∈z.four→upd G g o c=some u:=fun hc hn=>by rw[aaf (fun e=>h4 (by rw[←e];exact hn))];exact hc
 exact⟨⟨dx,ni h1⟩,⟨dx1,vs1,ni f1,nf f2 (ada (f:=true)),aew hl f3 (fun r hr=>hb r (abp.mpr (.inl hr))),nf f4 (aej (f:=true)),f5⟩,⟨dx2,vs2,ni g1,nf g2 (ada (f:=false)),aew hl g3 (fun r hr=>hb r (abp.mpr (.inr hr))),nf g4 (aej (f:=false)),g5⟩,h.n4,h.bx,h.len,h.hh⟩
theorem aqq {f f':Bool} (h:nmS f=nmS f'):f=f':=by
 cases f<;>cases f'<;>first|rfl|exact absurd h (by decide+kernel)
noncomputable def spK (p:Bool×Nat):List Key:=[.inr (nmS p.1),.inl (p.2:Int)]
theorem aqr {p q:Bool×Nat} (h:spK p=spK q):p=q:=by
 injection h with h1 h2
 injection h2 with h2 _
 have e1:=aqq (Sum.inr.inj h1)
 have e2:(p.2:Int)=q.2:=Sum.inl.inj h2
 exact Prod.ext e1 (by omega)
theorem ly_hdT {S d:Addr} {G:Hp} {kvs:List (List Key×V)} {o:HO} (hl:G d=some (.dT kvs)) {vs:List V} {rows:List (Option Sh)} (h:LyAt S G vs rows) (hb:∀r,some r∈rows→r.hd≠d):LyAt S (upd G d o) vs rows:=an9 hl h hb
theorem SsAt.dup {C P S:Addr} {G:Hp} {z:Ss} {s:St} {d:Addr} {kvs:List (List Key×V)} {o:HO} (h:SsAt C P S G z s) (hv:G d=some (.dT kvs)) (hd:∀r∈alS s,r.hd≠d):SsAt C P S (upd G d o) z s:=by
 have np:∀{c u},G c=some u→(∀us,u≠.dT us)→upd G d o c=some u:=fun {c u} hc ho=>by rw[aaf (fun z=>by rw[z,hv] at hc;exact ho _ (Option.some.inj hc).symm)];exact hc
 obtain⟨dx,h1⟩:=h.me
 obtain⟨dx1,vs1,f1,f2,f3,f4,f5⟩:=id h.fr
 obtain⟨dx2,vs2,g1,g2,g3,g4,g5⟩:=id h.sl
 have kp:∀{v:V} {r:Option Sh},(∀q,r=some q→q.hd≠d)→ShAt S G v r→ShAt S (upd G d o) v r:=fun {v r} hb hv=>by
  cases r with
  |none=>exact hv
  |some r=>
   obtain⟨e,⟨x,x1⟩,x2,x3⟩:=hv
   exact⟨e,⟨x,np x1 fun _ z=>nomatch z⟩,np x2 (fun _ z=>nomatch z),by rw[aaf (hb r rfl)];exact x3⟩
 have ly:∀{vs:List V} {rows:List (Option Sh)},LyAt S G vs rows→(∀r,some r∈rows→r.hd≠d)→LyAt S (upd G d o) vs rows:=fun {vs rows} hl hb=>ly_hdT hv hl hb
 exact⟨⟨dx,np h1 fun _ z=>nomatch z⟩,⟨dx1,vs1,np f1 (fun _ z=>nomatch z),np f2 (fun _ z=>nomatch z),ly f3 (fun r hr=>hd r (abp.mpr (.inl hr))),np f4 (fun _ z=>nomatch z),f5⟩,⟨dx2,vs2,np g1 (fun _ z=>nomatch z),np g2 (fun _ z=>nomatch z),ly g3 (fun r hr=>hd r (abp.mpr (.inr hr))),np g4 (fun _ z=>nomatch z),g5⟩,h.n4,h.bx,h.len,h.hh⟩
structure FoI (A:Adr) (H:Hp) (z:Ss) (s:St) (d g l:Addr) (us:List V) (i:Nat) (G:Hp):Prop where
 ss:SsAt A.C_Sheets A.C_Spots A.C_Sheet G z (foldN s i).s
 ap:Ap (foldN s i).s
 tw:Tw (foldN s i).s
 hd:∀r∈alS (foldN s i).s,r.hd≠d∧r.bx≠g
 dd:∃kvs,G d=some (.dT kvs)∧Paired (FdT G) kvs (foldN s i).F
 gg:∃ys,G g=some (.lst ys)∧Paired (MvT G) ys (foldN s i).M
 ll:G l=some (.lst us)∧Paired (SpT G) us (spA s)
 fi:Fi s i (foldN s i)
 kd:Kd z H G
 dm:∀c,G c=none→H c=none
noncomputable def aqs (A:Adr):Sp:=fun vs H Q _=>∃(z:Ss) (s:St),vs=[.ref z.p]∧SsAt A.C_Sheets A.C_Spots A.C_Sheet H z s∧Ap s∧Tw s∧Fi s 0 ⟨[],s,[]⟩∧
 ∀H' g ys,SsAt A.C_Sheets A.C_Spots A.C_Sheet H' z (foldS s).s→Ap (foldS s).s→Tw (foldS s).s→Fi s (spA s).length (foldS s)→H g=none→H' g=some (.lst ys)→Paired (MvT H') ys (foldS s).M→Kd z H H'→(∀c,H' c=none→H c=none)→Q (.ref g) H'
theorem h_fold (T:Txt K mg A):HaveM P w K mg base A.C_Sheets "fold" 4 ["self"] [] (aqs A):=by
 have H_Sheets_all_spots:=h_all (P:=P) (w:=w) (base:=base) T
 have H_Sheets_lying_at:=h_la (P:=P) (w:=w) (base:=base) T
 have H_Sheet_is_banked:=h_bnk (P:=P) (w:=w) (base:=base) T
 have H_Sheets_hand_over:=h_over (P:=P) (w:=w) (base:=base) T
 refine T.r_Sheets_fold.have acm (fun vs H Q E z=>?_) ?_
 ·obtain⟨z,s,rfl,_⟩:=z;rfl
 ·intro f cdv A' outer s H vs Q E hr z
  obtain⟨z,s,rfl,hS,hA,hT,hF,q⟩:=z
  obtain⟨dx,h1⟩:=hS.me
  have hz:=PySem.sizeLine_eq
  refine⟨_,(aak (aax (i:=1) acm.nd rfl (Or.inl rfl) anh)
   (aak (aax (i:=2) acm.nd rfl (Or.inl rfl) (aco aad))
   (aak (ady PassesOwn.leaving rfl (adu (abb (pvM 0) T.cl_Sheets H_Sheets_all_spots (hr.mono (by decide)) aat)) (aa5 (i:=3) acm.nd rfl (Or.inl rfl)) (aal (aax (i:=4) acm.nd rfl (Or.inl rfl) (aa6 (pvM 0) T.cl_Sheets H_Sheets_lying_at (hr.mono (by decide)) aat (aaa (pvM 3) aad)))
   (aag (abo (PW.pt (ad9 (aao ace (pvM 4) aaw (nomark _)) (adc (ael (acz (abb (pvM 4) T.cl_Sheet H_Sheet_is_banked (hr.mono (by decide)) aat)))))) (aak (aax (i:=5) acm.nd rfl (Or.inl rfl) (amc (anj hr) (pvM 1) (acf ahn rfl T.b_tuple PyProof.Rows.boot_tuple (aaa (aaq (pvM 4) rfl) aad)) (pvM 3) ⟨rfl,rfl,rfl,rfl⟩))
   (aag (abo (aao (alq (n:=4) (hu6 hr)) (pvM 5) (pvM 3) (nomark _)) (aak (aby (aa6 (pvM 0) T.cl_Sheets H_Sheets_hand_over (hr.mono (by decide)) aat (aaa (pvM 3) (aaa (pvM 5) aad))))
   (aag (aby (ag3 PySem.F.plainAttrs_list PySem.F.slot_list_append PySem.F.type_list_append adm (pvM 2) (aaa (ac7 (aaa (pvM 3) (aaa (pvM 5) aad))) aad))))) aas))) aas))))
   (aag (aav (pvM 2)))))),?_⟩
  unfold tDSetT rNeD
  walk_at "wp"
  intro d hd g hg
  obtain⟨b1,c1⟩:=aa4 (o:=.dT []) hd
  obtain⟨b2,c2⟩:=aa4 (o:=.lst []) hg
  have b12:=b1.trans b2
  have c12:=b2 _ _ c1
  have hg0:=aai b1 hg
  generalize upd (upd H d (.dT [])) g (.lst [])=H2 at *
  refine⟨dx,_,b12 _ _ h1,abw (by decide+kernel),z,s,rfl,hS.same b12,fun H3 l us s3 hl hl3 hP3=>?_⟩
  have s03:=b12.trans s3
  have hdH:∀r∈alS s,r.hd≠d:=fun r hr e=>by
   have ha:r.hd∈hdS s:=by
    unfold hdS
    exact aeu.mpr ⟨r,ae7.mp hr,rfl⟩
   obtain⟨kvs,h9⟩:=hS.hd _ ha
   rw[e,hd] at h9;cases h9
  have hgd:g≠d:=fun e=>by rw[e,c1] at hg;cases hg
  have hgl:l≠g:=fun e=>by rw[e,c2] at hl;cases hl
  have hl0:=aai b12 hl
  refine⟨l,rfl,⟨_,SqL.of hl3⟩,aey (K:=K) (xs:=us) (fun i σ G=>∃v3 v4 v5,σ=[some (.ref z.p),some (.ref d),some (.ref g),v3,v4,v5]∧FoI A H z s d g l us i G) ⟨_,_,_,rfl,⟨hS.same s03,hA,hT,(fun r hr=>⟨hdH r hr,fun e=>by have:=hS.bxl (abp.mp hr);rw[e,hg0] at this;cases this⟩),⟨[],s3 _ _ c12,.nil⟩,⟨[],s3 _ _ c2,.nil⟩,⟨hl3,hP3⟩,hF,Kd.of s03,fun c hc=>aai s03 hc⟩⟩ (fun i σ G _ ⟨_,_,_,_,h⟩=>SqL.of h.ll.1) (fun i v σ G hi=>?_) (fun σ G=>?_)⟩
  ·rintro⟨v3,v4,v5,rfl,hI⟩
   obtain⟨hGl,hPl⟩:=hI.ll
   obtain⟨p,hp,t,rfl,ht⟩:=acn hPl hi
   obtain⟨kvs,hGd,hPd⟩:=hI.dd
   obtain⟨ys,hGg,hPg⟩:=hI.gg
   obtain⟨dx2,h2⟩:=hI.ss.me
   have esucc:=ahi hp
   have fnx:=hI.fi.next hp
   have iss:=hI.ss
   have iap:=hI.ap
   have itw:=hI.tw
   have ihd:=hI.hd
   have ifi:=hI.fi
   have ikd:=hI.kd
   have idm:=hI.dm
   clear hI
   generalize foldN s i=x at *
   have hpl:p.2 < (x.s.rw p.1).length:=by
    have:=List.mem_of_getElem? hp
    unfold spA at this
    rcases List.mem_append.mp this with h9|h9
    ·obtain⟨y,hy,rfl⟩:=List.mem_map.mp h9
     have:=List.mem_range.mp hy
     show y < x.s.fr.length
     rw[ifi.fr];exact this
    ·obtain⟨y,hy,rfl⟩:=List.mem_map.mp h9
     have:=List.mem_range.mp hy
     show y < x.s.sr.length
     rw[ifi.sr];exact this
   obtain⟨o,ho⟩:∃o,(x.s.rw p.1)[p.2]?=some o:=⟨_,List.getElem?_eq_getElem hpl⟩
   have hlk:lkS x.s p=o:=by unfold lkS;rw[ho];rfl
   walk_at "wp"
   refine⟨fun σ G'=>∃v2,σ=[some (.ref z.p),some (.ref d),some (.ref g),some (.ref t),some v2,v5]∧G'=G∧ShAt A.C_Sheet G v2 o,?_,fun σ6 G6=>?_⟩
   ·walk_at "wp"
    exact⟨dx2,_,h2,abw (by decide+kernel),z,x.s,t,p.1,p.2,o,rfl,iss,ht,ho,fun v2 hv2=>⟨rfl,hv2⟩⟩
   rintro⟨v2,rfl,rfl,hv2⟩
   have stay:foldN s (i+1)=x→∀G9,Same G6 G9→FoI A H z s d g l us (i+1) G9:=fun e G9 s9=>by
    have fn:=fnx
    rw[←esucc,e] at fn
    refine⟨by rw[e];exact iss.same s9,by rw[e];exact iap,by rw[e];exact itw,by rw[e];exact ihd,⟨kvs,s9 _ _ hGd,by rw[e];exact Paired.mapP hPd fun _ _ ⟨e1,e2⟩=>⟨e1,e2.same s9⟩⟩,⟨ys,s9 _ _ hGg,by rw[e];exact Paired.mapP hPg fun _ _ h=>h.to fun c us hc=>s9 _ _ hc⟩,⟨s9 _ _ hGl,Paired.mapP hPl fun _ _ h=>h.same s9⟩,by rw[e];exact fn,ikd.trans (Kd.of s9),fun c hc=>idm c (aai s9 hc)⟩
   have fn:Fi s (i+1) (foldN s (i+1)):=by rw[esucc];exact fnx
   unfold fstep at esucc
   rw[hlk] at esucc
   walk_at "wp"
   cases o with
   |none=>
    obtain rfl:v2=.non:=hv2
    exact ifn (by rw[decide_eq_true rfl];rfl) (stay esucc G6 aae)
   |some r=>
    obtain⟨rfl,⟨dxr,g1⟩,g2,g3⟩:=id hv2
    have hrm:r∈alS x.s:=by
     rw[abp]
     cases e9:p.1 with
     |true=>rw[e9] at ho;exact .inl (List.mem_of_getElem? ho)
     |false=>rw[e9] at ho;exact .inr (List.mem_of_getElem? ho)
    have hkm:∀k∈r.ks,k∈(alS x.s).flatMap Sh.ks:=fun k hk=>List.mem_flatMap.mpr ⟨r,hrm,hk⟩
    have hlen:r.ks.length < 64:=by
     have:=ifi.few r.b
     have h9:r.ks.length≤(((alS x.s).filter fun y=>decide (y.b=r.b)).flatMap Sh.ks).length:=by
      have hm:r∈(alS x.s).filter fun y=>decide (y.b=r.b):=List.mem_filter.mpr ⟨hrm,decide_eq_true rfl⟩
      obtain⟨l1,l2,e9⟩:=List.append_of_mem hm
      rw[e9,List.flatMap_append,List.flatMap_cons,List.length_append,List.length_append]
      omega
     omega
    have esucc:foldN s (i+1)=if bnk r.ks=true then x else match x.F.find? fun e=>decide (e.1=r.b) with
     |none=>{x with F:=x.F++[(r.b,p)]}
     |some e=>match lkS x.s e.2 with
      |none=>x
      |some q=>{x with s:=ovS x.s p.1 p.2 e.2.1 e.2.2 r q,M:=x.M++[(p,e.2)]}:=esucc
    refine ifp (by rw[decide_eq_false (fun z=>nomatch z)];rfl) ⟨r.sh,rfl,dxr,_,g1,af7 (by decide+kernel),_,r,rfl,hv2,fun k hk=>ifi.tri k (hkm k hk),by omega,fun H7 s7=>⟨_,rfl,?_⟩⟩
    cases hb:bnk r.ks with
    |true=>
     rw[hb,if_pos rfl] at esucc
     exact ifn rfl (stay esucc H7 s7)
    |false=>
     rw[hb,if_neg (by decide)] at esucc
     have hGd7:=s7 _ _ hGd
     have etup:r.b.map V.int=(bxK r.b).map kV:=by unfold bxK;rw[List.map_map];rfl
     refine ifp rfl ⟨.inr ⟨_,.inl hGd7⟩,r.sh,rfl,_,dxr,_,s7 _ _ g1,T.cl_Sheet,T.na_Sheet_boxes,_,ae6,r.bx,rfl,_,.inl ⟨SqL.of (s7 _ _ g2),fun tp htp=>?_⟩⟩
     obtain⟨b8,c8⟩:=aa4 (o:=.tup (r.b.map V.int)) htp
     have s8:=s7.trans b8
     have hGd8:=b8 _ _ hGd7
     have hkl:=Paired.length hPd
     have hil:=(List.getElem?_eq_some_iff.mp hp).1
     have hsl:(spA s).length≤128:=by
      unfold spA
      rw[List.length_append,List.length_map,List.length_map,List.length_range,List.length_range]
      have:=hS.len;omega
     have hfl:=ifi.fl
     have fd:=fd_val hPd (b:=r.b)
     have ht8:=s8 _ _ ht
     have hgz:g≠z.p:=fun e=>by rw[e,h1] at hg0;cases hg0
     have hg4:g∉z.four:=hS.nf hg0
     have hlz:l≠z.p:=fun e=>by rw[e,h1] at hl0;cases hl0
     have hl4:l∉z.four:=hS.nf hl0
     refine⟨kvs,hGd8,bxK r.b,by rw[etup],by omega,fun v hv=>?_,fun hv=>?_⟩
     ·cases e2:x.F.find? fun e=>decide (e.1=r.b) with
      |none=>rw[e2] at fd;have fd:valV kvs (bxK r.b)=none:=fd;rw[hv] at fd;cases fd
      |some e=>
       rw[e2] at fd esucc
       obtain⟨v',fd1,⟨t',rfl,ht'⟩,fd3⟩:=fd
       rw[hv] at fd1
       obtain rfl:=Option.some.inj fd1
       have heF:=List.mem_of_find?_eq_some e2
       obtain⟨⟨q0,hq0,hqb,hqn⟩,a9,ha9,e9⟩:=ifi.first e heF
       have hne:¬(p.1=e.2.1∧p.2=e.2.2):=fun z=>by
        have ep:e.2=p:=Prod.ext z.1.symm z.2.symm
        rw[ep] at e9
        obtain⟨y1,y2⟩:=List.getElem?_eq_some_iff.mp e9
        obtain⟨y3,y4⟩:=List.getElem?_eq_some_iff.mp hp
        exact (List.pairwise_iff_getElem.mp (ao9 (s:=s))) a9 i y1 y3 ha9 (y2.trans y4.symm)
       have esucc:foldN s (i+1)={x with s:=ovS x.s p.1 p.2 e.2.1 e.2.2 r q0,M:=x.M++[(p,e.2)]}:=by
        rw[esucc]
        show (match lkS x.s e.2 with|none=>x|some q=>_)=_
        rw[hq0]
       have ht8':=s8 _ _ ht'
       refine⟨true,kyD (spK e.2),aiu ht8',kyD (spK p),aiu ht8,agv _ _,by rw[agc];omega,?_⟩
       rw[ama,decide_eq_false (fun z=>hne (by have:=aqr z;rw[this];exact⟨rfl,rfl⟩))]
       have hqm:q0∈alS x.s:=by
        rw[abp]
        have:=aek hq0
        cases e9:e.2.1 with
        |true=>rw[e9] at this;exact .inl (List.mem_of_getElem? this)
        |false=>rw[e9] at this;exact .inr (List.mem_of_getElem? this)
       have pm:=aqo (r:=r) ho (aek hq0) hne
       have hal:∀y∈alS (ovS x.s p.1 p.2 e.2.1 e.2.2 r q0),∃y0∈alS x.s,y.hd=y0.hd∧y.bx=y0.bx:=fun y hy=>by
        rcases List.mem_cons.mp (pm.mem_iff.mpr (List.mem_cons_of_mem _ (List.mem_cons_of_mem _ hy))) with e9|e9
        ·exact⟨q0,hqm,by rw[e9];rfl,by rw[e9];rfl⟩
        ·exact⟨y,e9,rfl,rfl⟩
       have hq1:q0∈alS (x.s.put p.1 p.2 none):=by
        have h9:=(ag6 (s:=x.s) (o:=none) (f:=e.2.1) (j:=e.2.2) (f':=p.1) (j':=p.2) (fun z=>hne ⟨z.1.symm,z.2.symm⟩)).trans (aek hq0)
        rw[abp]
        cases e8:e.2.1 with
        |true=>rw[e8] at h9;exact .inl (List.mem_of_getElem? h9)
        |false=>rw[e8] at h9;exact .inr (List.mem_of_getElem? h9)
       have few1:∀y∈alS x.s,y.ks.length < 64:=fun y hy=>by
        have:=ifi.few y.b
        have h9:y.ks.length≤(((alS x.s).filter fun u=>decide (u.b=y.b)).flatMap Sh.ks).length:=by
         have hm:y∈(alS x.s).filter fun u=>decide (u.b=y.b):=List.mem_filter.mpr ⟨hy,decide_eq_true rfl⟩
         obtain⟨l1,l2,e9⟩:=List.append_of_mem hm
         rw[e9,List.flatMap_append,List.flatMap_cons,List.length_append,List.length_append]
         omega
        omega
       have two:(r.ks++q0.ks).Nodup∧r.ks.length+q0.ks.length < 128:=by
        have p1:=((ad7 (r':=r) ho).1.flatMap_right Sh.ks).nodup_iff.mp ifi.nd
        rw[List.flatMap_cons] at p1
        obtain⟨m1,m2,m3⟩:=List.nodup_append.mp p1
        obtain⟨l1,l2,e9⟩:=List.append_of_mem hq1
        rw[e9,List.flatMap_append,List.flatMap_cons] at m2 m3
        obtain⟨_,m4,_⟩:=List.nodup_append.mp m2
        obtain⟨m5,_,_⟩:=List.nodup_append.mp m4
        refine⟨List.nodup_append.mpr ⟨m1,m5,fun a ha b hb=>m3 a ha b (List.mem_append_right _ (List.mem_append_left _ hb))⟩,?_⟩
        have:=few1 q0 hqm
        omega
       refine ifp rfl ⟨dx2,_,s8 _ _ h2,abw (by decide+kernel),z,x.s,t,t',p.1,e.2.1,p.2,e.2.2,r,q0,rfl,iss.same s8,iap,itw,ht8,ht8',ho,aek hq0,hne,⟨hlen,(List.nodup_append.mp two.1).1,fun k hk=>ifi.tri k (hkm k hk)⟩,(fun k hk hk2=>(List.nodup_append.mp two.1).2.2 k hk k hk2 rfl),by omega,fun H9 a1 a2 a3 a4 a5=>?_⟩
       have hqd:∃w9,upd H7 tp (.tup (r.b.map V.int)) q0.hd=some (.dT w9):=by
        obtain⟨w9,h9⟩:=iss.hd q0.hd (by unfold hdS;exact aeu.mpr ⟨q0,ae7.mp hqm,rfl⟩)
        exact⟨w9,s8 _ _ h9⟩
       obtain⟨w9,hqd⟩:=hqd
       have hz8:=s8 _ _ h2
       have kt9:∀{c us},upd H7 tp (.tup (r.b.map V.int)) c=some (.tup us)→H9 c=some (.tup us):=fun hc=>a4 _ _ hc (fun e=>by rw[e,hz8] at hc;cases hc) (fun e=>by obtain⟨vs,h9⟩:=(iss.same s8).fours _ e;rw[hc] at h9;cases h9) (fun e=>by rw[e,hqd] at hc;cases hc)
       have kl9:∀{c us},upd H7 tp (.tup (r.b.map V.int)) c=some (.lst us)→c≠z.p→c∉z.four→H9 c=some (.lst us):=fun hc n1 n2=>a4 _ _ hc n1 n2 (fun e=>by rw[e,hqd] at hc;cases hc)
       have hg9:=kl9 (s8 _ _ hGg) hgz hg4
       have hl9:=kl9 (s8 _ _ hGl) hlz hl4
       have hd9:H9 d=some (.dT kvs):=a4 _ _ hGd8 (fun e=>by rw[e,hz8] at hGd8;cases hGd8) (fun e=>by obtain⟨vs,h9⟩:=(iss.same s8).fours _ e;rw[hGd8] at h9;cases h9) (fun e=>(ihd q0 hqm).1 e.symm)
       have hyl:=Paired.length hPg
       have hml:=ifi.ml
       refine⟨.inl ⟨rfl,_,SqL.of hg9⟩,fun tq htq=>?_⟩
       obtain⟨b10,c10⟩:=aa4 (o:=.tup [V.ref t,V.ref t']) htq
       have hg10:=b10 _ _ hg9
       have kp:∀{c u},H9 c=some u→(∀us,u≠.lst us)→upd (upd H9 tq (.tup [V.ref t,V.ref t'])) g (.lst (ys++[V.ref tq])) c=some u:=fun {c u} hc hn=>by rw[aaf (aca (b10 _ _ hc) hg10 (fun e=>hn _ e))];exact b10 _ _ hc
       have c11:upd (upd H9 tq (.tup [V.ref t,V.ref t'])) g (.lst (ys++[V.ref tq])) tq=some (.tup [V.ref t,V.ref t']):=by rw[aaf (aca c10 hg10 (fun z=>nomatch z))];exact c10
       refine⟨ys,hg10,by omega,?_⟩
       refine⟨by rw[esucc];exact (a1.same b10).lup hg10 hg4 (fun y hy=>by obtain⟨y0,h8,_,h9⟩:=hal y hy;rw[h9];exact (ihd y0 h8).2),by rw[esucc];exact a2,by rw[esucc];exact a3,by rw[esucc];exact fun y hy=>(by obtain⟨y0,h8,h9,h10⟩:=hal y hy;rw[h9,h10];exact ihd y0 h8),⟨kvs,kp hd9 (fun _ z=>nomatch z),?_⟩,⟨_,aah,?_⟩,⟨?_,?_⟩,fn,?_,?_⟩
       ·rw[esucc]
        exact Paired.mapP hPd fun _ _ ⟨e1,a,e2,e3⟩=>⟨e1,a,e2,kp (kt9 (s8 _ _ e3)) (fun _ z=>nomatch z)⟩
       ·rw[esucc]
        exact ac4 (Paired.mapP hPg fun _ _ h=>h.to fun c us hc=>kp (kt9 (s8 _ _ hc)) (fun _ z=>nomatch z)) ⟨tq,t,t',rfl,c11,⟨t,rfl,kp (kt9 ht8) (fun _ z=>nomatch z)⟩,⟨t',rfl,kp (kt9 ht8') (fun _ z=>nomatch z)⟩⟩
       ·rw[aaf hgl];exact b10 _ _ hl9
       ·exact Paired.mapP hPl fun _ _ ⟨a,e1,e3⟩=>⟨a,e1,kp (kt9 (s8 _ _ e3)) (fun _ z=>nomatch z)⟩
       ·refine fun c o hc n1 n2 n3=>?_
        have hc6:=ikd c o hc n1 n2 n3
        have hc9:=a4 c o (s8 _ _ hc6) n1 n2 (fun e=>by rw[e] at hc6;have:=s8 _ _ hc6;rw[hqd] at this;exact n3 _ (Option.some.inj this).symm)
        rw[aaf (fun e=>by rw[e,hg0] at hc;cases hc)]
        exact b10 _ _ hc9
       ·intro c hc
        by_cases e9:c=g
        ·rw[e9,aah] at hc;cases hc
        ·rw[aaf e9] at hc
         exact idm c (aai s8 (a5 c (aai b10 hc)))
     ·cases e2:x.F.find? fun e=>decide (e.1=r.b) with
      |some e=>rw[e2] at fd;obtain⟨v',fd1,_⟩:=fd;rw[hv] at fd1;cases fd1
      |none=>
       rw[e2] at esucc
       have esucc:foldN s (i+1)={x with F:=x.F++[(r.b,p)]}:=esucc
       have ep:putK kvs (bxK r.b) (.ref t)=kvs++[(bxK r.b,.ref t)]:=aj9 hv
       rw[ep]
       have kp:∀{c u},upd H7 tp (.tup (r.b.map V.int)) c=some u→(∀us,u≠.dT us)→upd (upd H7 tp (.tup (r.b.map V.int))) d (.dT (kvs++[(bxK r.b,.ref t)])) c=some u:=fun {c u} hc hn=>by rw[aaf (fun e=>by rw[e,hGd8] at hc;exact hn _ (Option.some.inj hc).symm)];exact hc
       refine⟨true,kyD (spK p),aiu (kp ht8 (fun _ z=>nomatch z)),kyD (spK p),aiu (kp ht8 (fun _ z=>nomatch z)),agv _ _,by rw[agc];omega,?_⟩
       rw[ama,decide_eq_true rfl]
       refine ifn rfl ?_
       refine⟨by rw[esucc];exact (iss.same s8).dup hGd8 (fun r hr=>(ihd r hr).1),by rw[esucc];exact iap,by rw[esucc];exact itw,by rw[esucc];exact ihd,⟨_,aah,?_⟩,⟨ys,kp (s8 _ _ hGg) (fun _ z=>nomatch z),?_⟩,⟨kp (s8 _ _ hGl) (fun _ z=>nomatch z),Paired.mapP hPl fun _ _ ⟨a,e1,e3⟩=>⟨a,e1,kp (s8 _ _ e3) (fun _ z=>nomatch z)⟩⟩,fn,ikd.trans (fun c o hc _ _ hn=>kp (s8 _ _ hc) hn),fun c hc=>idm c ?_⟩
       ·rw[esucc]
        exact ac4 (Paired.mapP hPd fun _ _ ⟨e1,a,e2,e3⟩=>⟨e1,a,e2,kp (s8 _ _ e3) (fun _ z=>nomatch z)⟩) ⟨rfl,t,rfl,kp ht8 (fun _ z=>nomatch z)⟩
       ·rw[esucc]
        exact Paired.mapP hPg fun _ _ h=>h.to fun c us hc=>kp (s8 _ _ hc) (fun _ z=>nomatch z)
       ·by_cases e9:c=d
        ·rw[e9,aah] at hc;cases hc
        ·rw[aaf e9] at hc;exact aai s8 hc
  ·rintro⟨v3,v4,v5,rfl,hI⟩
   obtain⟨ys,hGg,hPg⟩:=hI.gg
   rw[Paired.length hI.ll.2] at *
   walk_at "wp"
   exact q _ g ys hI.ss hI.ap hI.tw hI.fi hg0 hGg hPg hI.kd hI.dm
noncomputable abbrev Lb:=Addr→Nat
noncomputable def lab (L:Lb) (p:Addr) (k:Nat):Lb:=fun c=>if c=p then k else L c
theorem ad8 {L:Lb} {p:Addr} {k:Nat}:lab L p k p=k:=if_pos rfl
theorem adn {L:Lb} {p c:Addr} {k:Nat} (h:c≠p):lab L p k c=L c:=if_neg h
noncomputable def Lv (L:Lb) (H:Hp):Prop:=∀c,L c≠0→∃us,H c=some (.lst us)
noncomputable def Lx (L L':Lb) (H:Hp):Prop:=∀c,L' c=L c∨H c=none
noncomputable def Dm (H H':Hp):Prop:=∀c,H' c=none→H c=none
noncomputable def TF (o:HO):Prop:=∃us,o=.tup us∨∃p,o=.frz p (.lst us)
theorem tup_tf {us:List V}:TF (.tup us):=⟨us,.inl rfl⟩
theorem Lv.zero {L:Lb} {H:Hp} (h:Lv L H) {c:Addr} {o:HO} (hc:H c=some o) (ho:∀us,o≠.lst us):L c=0:=Decidable.byContradiction fun e=>by
 obtain⟨us,h9⟩:=h c e
 rw[hc] at h9
 exact ho us (Option.some.inj h9)
theorem aoe {o:HO} (h:TF o):∀us,o≠.lst us:=fun us z=>by
 obtain⟨ws,h|⟨p,h⟩⟩:=h<;>(rw[z] at h;cases h)
structure Mv (S:List Nat) (L L':Lb) (H H':Hp):Prop where
 lx:Lx L L' H
 kw:∀c o,H c=some o→L c∉S→H' c=some o
 dm:Dm H H'
theorem Lx.at {L L':Lb} {H:Hp} (x:Lx L L' H) {c:Addr} {o:HO} (h:H c=some o):L' c=L c:=by
 rcases x c with e|e
 ·exact e
 ·rw[e] at h;cases h
theorem Dm.some {H H':Hp} (d:Dm H H') {c:Addr} {o:HO} (h:H c=some o):∃o',H' c=some o':=by
 cases e:H' c with
 |none=>rw[d c e] at h;cases h
 |some o'=>exact⟨o',rfl⟩
theorem Mv.of {S:List Nat} {L:Lb} {H H':Hp} (s:Same H H'):Mv S L L H H':=⟨fun _=>.inl rfl,fun _ _ h _=>s _ _ h,fun _ h=>aai s h⟩
theorem Lx.trans {L L1 La2:Lb} {H H1:Hp} (a:Lx L L1 H) (d:Dm H H1) (b:Lx L1 La2 H1):Lx L La2 H:=fun c=>by
 rcases a c with e|e
 ·rcases b c with e2|e2
  ·exact .inl (e2.trans e)
  ·exact .inr (d c e2)
 ·exact .inr e
theorem Mv.trans {S:List Nat} {L L1 La2:Lb} {H H1 H2:Hp} (a:Mv S L L1 H H1) (b:Mv S L1 La2 H1 H2):Mv S L La2 H H2:=
 ⟨a.lx.trans a.dm b.lx,fun c o h n=>b.kw c o (a.kw c o h n) (by rw[a.lx.at h];exact n),fun c h=>a.dm c (b.dm c h)⟩
theorem Mv.new {S:List Nat} {L:Lb} {H:Hp} {p:Addr} {k:Nat} {o:HO} (h:H p=none):Mv S L (lab L p k) H (upd H p o):=
 ⟨fun c=>by
  by_cases e:c=p
  ·rw[e];exact .inr h
  ·exact .inl (adn e),fun c o' hc _=>by rw[aaf (aan hc h)];exact hc,fun c hc=>aai (aau aae h) hc⟩
theorem Mv.set {S:List Nat} {L:Lb} {H:Hp} {a:Addr} {us us':List V} (h:H a=some (.lst us)) (hs:L a∈S):Mv S L L H (upd H a (.lst us')):=
 ⟨fun _=>.inl rfl,fun c o hc n=>by rw[aaf (fun e=>n (by rw[e];exact hs))];exact hc,fun c hc=>by
  by_cases e:c=a
  ·rw[e,aah] at hc;cases hc
  ·rw[aaf e] at hc;exact hc⟩
theorem Lv.same {L:Lb} {H H':Hp} (h:Lv L H) (s:Same H H'):Lv L H':=fun c hc=>let ⟨us,e⟩:=h c hc;⟨us,s _ _ e⟩
theorem Lv.new {L:Lb} {H:Hp} {p:Addr} {k:Nat} {us:List V} (l:Lv L H) (h:H p=none):Lv (lab L p k) (upd H p (.lst us)):=fun c hc=>by
 by_cases e:c=p
 ·rw[e,aah];exact⟨_,rfl⟩
 ·rw[adn e] at hc
  rw[aaf e];exact l c hc
theorem Lv.set {L:Lb} {H:Hp} {a:Addr} {us':List V} (l:Lv L H):Lv L (upd H a (.lst us')):=fun c hc=>by
 by_cases e:c=a
 ·rw[e,aah];exact⟨_,rfl⟩
 ·rw[aaf e];exact l c hc
structure Zv (S:List Nat) (L L':Lb) (H H':Hp):Prop where
 lx:Lx L L' H
 kz:∀c o,H c=some o→(TF o∨(L c≠0∧L c∉S))→H' c=some o
 dm:Dm H H'
theorem Zv.of {S:List Nat} {L:Lb} {H H':Hp} (s:Same H H'):Zv S L L H H':=⟨fun _=>.inl rfl,fun _ _ h _=>s _ _ h,fun _ h=>aai s h⟩
theorem Mv.zv {S:List Nat} {L L':Lb} {H H':Hp} (a:Mv S L L' H H') (l:Lv L H) (h0:0∉S):Zv S L L' H H':=⟨a.lx,fun c o hc n=>a.kw c o hc (by
 rcases n with n|n
 ·rw[l.zero hc (aoe n)];exact h0
 ·exact n.2),a.dm⟩
theorem Zv.trans {S:List Nat} {L L1 La2:Lb} {H H1 H2:Hp} (a:Zv S L L1 H H1) (b:Zv S L1 La2 H1 H2):Zv S L La2 H H2:=
 ⟨a.lx.trans a.dm b.lx,fun c o h n=>b.kz c o (a.kz c o h n) (n.imp id fun n=>by rw[a.lx.at h];exact n),fun c h=>a.dm c (b.dm c h)⟩
theorem Zv.sub {S S':List Nat} {L L':Lb} {H H':Hp} (a:Zv S L L' H H') (h:∀k∈S,k∈S'):Zv S' L L' H H':=⟨a.lx,fun c o hc n=>a.kz c o hc (n.imp id fun n=>⟨n.1,fun z=>n.2 (h _ z)⟩),a.dm⟩
theorem Zv.tup {S:List Nat} {L L':Lb} {H H':Hp} (a:Zv S L L' H H') {c:Addr} {us:List V} (h:H c=some (.tup us)):H' c=some (.tup us):=a.kz _ _ h (.inl tup_tf)
theorem Zv.lst {S:List Nat} {L L':Lb} {H H':Hp} (a:Zv S L L' H H') {c:Addr} {us:List V} {k:Nat} (h:H c=some (.lst us)) (hk:L c=k) (h0:k≠0) (hs:k∉S):H' c=some (.lst us)∧L' c=k:=⟨a.kz _ _ h (.inr (by rw[hk];exact⟨h0,hs⟩)),by rw[a.lx.at h];exact hk⟩
theorem Zv.ks {C P S:Addr} {z:Ss} {s s':St} {L:Lb} {H H':Hp} (hS:SsAt C P S H z s) (hS':SsAt C P S H' z s') (k:Kd z H H') (l0:∀c∈z.four,L c=0) (l:Lv L H) (dm:Dm H H'):Zv [] L L H H':=⟨fun _=>.inl rfl,fun c o hc n=>(by
 obtain⟨dx,h1⟩:=hS.me
 refine k c o hc (fun e=>?_) (fun e=>?_) (fun kvs e=>?_)
 ·rcases n with n|n
  ·rw[e,h1] at hc
   obtain⟨ws,h|⟨p,h⟩⟩:=n<;>(rw[←Option.some.inj hc] at h;cases h)
  ·obtain⟨us,h9⟩:=l c n.1
   rw[e,h1] at h9;cases h9
 ·rcases n with n|n
  ·obtain⟨us,h9⟩:=hS.fours c e
   rw[hc] at h9
   exact aoe n us (Option.some.inj h9)
  ·exact n.1 (l0 c e)
 ·rcases n with n|n
  ·obtain⟨ws,h|⟨p,h⟩⟩:=n<;>(rw[e] at h;cases h)
  ·obtain⟨us,h9⟩:=l c n.1
   rw[hc,e] at h9;cases h9),dm⟩
theorem ly_to {S:Addr} {H H':Hp} {vs:List V} {rows:List (Option Sh)} (h:LyAt S H vs rows) (k:∀v r,r∈rows→ShAt S H v r→ShAt S H' v r):LyAt S H' vs rows:=by
 induction h with
 |nil=>exact .nil
 |@cons x y _ _ h t ih=>exact .cons (k _ _ (List.mem_cons_self ..) h) (ih fun v r hr=>k v r (List.mem_cons_of_mem _ hr))
theorem SsAt.mv {C P S:Addr} {z:Ss} {s:St} {L L':Lb} {N:List Nat} {H H':Hp} (h:SsAt C P S H z s) (m:Mv N L L' H H') (l:Lv L H) (h0:0∉N) (l0:∀c∈z.four,L c=0) (lb:∀r,some r∈s.fr∨some r∈s.sr→L r.bx=0):SsAt C P S H' z s:=by
 obtain⟨dx,h1⟩:=h.me
 obtain⟨dx1,vs1,f1,f2,f3,f4,f5⟩:=id h.fr
 obtain⟨dx2,vs2,g1,g2,g3,g4,g5⟩:=id h.sl
 have kn:∀{c o},H c=some o→(∀us,o≠.lst us)→H' c=some o:=fun hc hn=>m.kw _ _ hc (by rw[l.zero hc hn];exact h0)
 have kl:∀{c o},H c=some o→L c=0→H' c=some o:=fun hc hn=>m.kw _ _ hc (by rw[hn];exact h0)
 have ks:∀{v:V} {r:Option Sh},(∀q,r=some q→L q.bx=0)→ShAt S H v r→ShAt S H' v r:=fun {v r} hb hv=>by
  cases r with
  |none=>exact hv
  |some r=>
   obtain⟨a,⟨d,h1⟩,h2,h3⟩:=hv
   exact⟨a,⟨d,kn h1 fun _ z=>nomatch z⟩,kl h2 (hb r rfl),kn h3 fun _ z=>nomatch z⟩
 have kp:∀{vs:List V} {rows:List (Option Sh)},LyAt S H vs rows→(∀r,some r∈rows→L r.bx=0)→LyAt S H' vs rows:=fun hl hb=>ly_to hl fun v r hr h=>ks (fun q e=>hb q (by rw[←e];exact hr)) h
 exact⟨⟨dx,kn h1 fun _ z=>nomatch z⟩,⟨dx1,vs1,kn f1 (fun _ z=>nomatch z),kl f2 (l0 _ (ada (f:=true))),kp f3 (fun r hr=>lb r (.inl hr)),kl f4 (l0 _ (aej (f:=true))),f5⟩,⟨dx2,vs2,kn g1 (fun _ z=>nomatch z),kl g2 (l0 _ (ada (f:=false))),kp g3 (fun r hr=>lb r (.inr hr)),kl g4 (l0 _ (aej (f:=false))),g5⟩,h.n4,h.bx,h.len,h.hh⟩
theorem Ks.dm {C P S:Addr} {z:Ss} {s s':St} {H G:Hp} (k:Ks z H G) (h:SsAt C P S H z s) (h':SsAt C P S G z s'):Dm H G:=fun _ hc=>k.was h h' hc
theorem Mv.lab {S:List Nat} {L:Lb} {H G:Hp} {u:Addr} {k:Nat} (s:Same H G) (hu:H u=none):Mv S L (Pf.lab L u k) H G:=⟨fun c=>by
 by_cases e:c=u
 ·rw[e];exact .inr hu
 ·exact .inl (adn e),fun c o hc _=>s _ _ hc,fun c hc=>aai s hc⟩
theorem Lv.lab {L:Lb} {H G:Hp} {u:Addr} {k:Nat} {us:List V} (l:Lv L H) (s:Same H G) (g:G u=some (.lst us)):Lv (Pf.lab L u k) G:=fun c hc=>by
 by_cases e:c=u
 ·rw[e];exact⟨_,g⟩
 ·rw[adn e] at hc
  obtain⟨us,h⟩:=l c hc
  exact⟨us,s _ _ h⟩
theorem Lv.zv {H H':Hp} {L:Lb} (l:Lv L H) (z:Zv [] L L H H'):Lv L H':=fun c hc=>let ⟨us,h⟩:=l c hc;⟨us,z.kz _ _ h (.inr ⟨hc,by simp⟩)⟩
noncomputable def R2 (H:Hp) (L:Lb) (v:V):Option Sh→Prop
 |none=>v=.non
 |some r=>v=.ref r.sh∧H r.sh=some (.lst [.ref r.bx,.ref r.hd])∧H r.bx=some (.lst (r.b.map V.int))∧TdK H r.hd r.ks∧L r.sh=2∧L r.bx=3∧L r.hd=4
theorem R2.zv {N:List Nat} {H H':Hp} {L L':Lb} {v:V} {o:Option Sh} (h:R2 H L v o) (z:Zv N L L' H H') (hN:2∉N∧3∉N∧4∉N):R2 H' L' v o:=by
 cases o with
 |none=>exact h
 |some r=>
  obtain⟨e,h1,h2,⟨us,h3,h4⟩,l1,l2,l3⟩:=h
  obtain⟨a1,a2⟩:=z.lst h1 l1 (by decide) hN.1
  obtain⟨b1,b2⟩:=z.lst h2 l2 (by decide) hN.2.1
  obtain⟨c1,c2⟩:=z.lst h3 l3 (by decide) hN.2.2
  exact⟨e,a1,b1,⟨us,c1,Paired.mapP h4 fun _ _ ⟨a,e,q⟩=>⟨a,e,z.tup q⟩⟩,a2,b2,c2⟩
structure Wr (H:Hp) (L:Lb) (wh wf ws:Addr) (fr sr:List (Option Sh)):Prop where
 hw:H wh=some (.lst [.ref wf,.ref ws])
 hf:∃us,H wf=some (.lst us)∧Paired (R2 H L) us fr
 hs:∃us,H ws=some (.lst us)∧Paired (R2 H L) us sr
 l1:L wh=1∧L wf=1∧L ws=1
 ne:wh≠wf∧wh≠ws∧wf≠ws
 lv:Lv L H
section
variable {H H':Hp} {L L':Lb} {wh wf ws:Addr} {fr sr:List (Option Sh)}
theorem Wr.zv {N:List Nat} (h:Wr H L wh wf ws fr sr) (z:Zv N L L' H H') (hN:∀k∈N,4 < k) (lv:Lv L' H'):Wr H' L' wh wf ws fr sr:=by
 obtain⟨us,f1,f2⟩:=h.hf
 obtain⟨vs,g1,g2⟩:=h.hs
 obtain⟨l1,l2,l3⟩:=h.l1
 have nn:∀k,k≤4→k∉N:=fun k hk z=>by have:=hN k z;omega
 have k1:∀{c us},H c=some (.lst us)→L c=1→H' c=some (.lst us)∧L' c=1:=fun hc hl=>z.lst hc hl (by decide) (nn 1 (by omega))
 have n3:2∉N∧3∉N∧4∉N:=⟨nn 2 (by omega),nn 3 (by omega),nn 4 (by omega)⟩
 exact⟨(k1 h.hw l1).1,⟨us,(k1 f1 l2).1,Paired.mapP f2 fun _ _ q=>q.zv z n3⟩,⟨vs,(k1 g1 l3).1,Paired.mapP g2 fun _ _ q=>q.zv z n3⟩,⟨(k1 h.hw l1).2,(k1 f1 l2).2,(k1 g1 l3).2⟩,h.ne,lv⟩
theorem Wr.same (h:Wr H L wh wf ws fr sr) (s:Same H H'):Wr H' L wh wf ws fr sr:=h.zv (N:=[]) (Zv.of s) (fun _ h=>by cases h) (h.lv.same s)
theorem Wr.lab (h:Wr H L wh wf ws fr sr) {a:Addr} {k:Nat} {us:List V} (e:Same H H') (ha:H a=none) (g:H' a=some (.lst us)):Wr H' (Pf.lab L a k) wh wf ws fr sr:=h.zv (N:=[]) ((Mv.lab e ha).zv h.lv (by simp)) (fun _ h=>by cases h) (h.lv.lab e g)
theorem R2.one {a:Addr} {us us':List V} (hl:H a=some (.lst us)) (la:L a=1) {v:V} {o:Option Sh} (h:R2 H L v o):R2 (upd H a (.lst us')) L v o:=by
 cases o with
 |none=>exact h
 |some r=>
  obtain⟨e,h1,h2,⟨ws,h3,h4⟩,l1,l2,l3⟩:=h
  have n:∀{c k},L c=k→k≠1→c≠a:=fun hc hk e=>hk (by rw[←hc,e];exact la)
  exact⟨e,by rw[aaf (n l1 (by decide))];exact h1,by rw[aaf (n l2 (by decide))];exact h2,⟨ws,by rw[aaf (n l3 (by decide))];exact h3,Paired.mapP h4 fun _ _ ⟨x,e,q⟩=>⟨x,e,by rw[aaf (aca q hl (fun z=>nomatch z))];exact q⟩⟩,l1,l2,l3⟩
theorem Wr.setF (h:Wr H L wh wf ws fr sr) {us:List V} (hu:H wf=some (.lst us)) {i:Nat} {v:V} {o:Option Sh} (hv:R2 H L v o):Wr (upd H wf (.lst (us.set i v))) L wh wf ws (fr.set i o) sr:=by
 obtain⟨us0,f1,f2⟩:=h.hf
 obtain rfl:us=us0:=by rw[hu] at f1;cases f1;rfl
 obtain⟨vs,g1,g2⟩:=h.hs
 obtain⟨n1,n2,n3⟩:=h.ne
 have la:=h.l1.2.1
 exact⟨by rw[aaf n1];exact h.hw,⟨_,aah,acw (R2.one hu la hv) i (Paired.mapP f2 fun _ _ q=>R2.one hu la q)⟩,⟨vs,by rw[aaf (Ne.symm n3)];exact g1,Paired.mapP g2 fun _ _ q=>R2.one hu la q⟩,h.l1,h.ne,h.lv.set⟩
theorem Wr.setS (h:Wr H L wh wf ws fr sr) {us:List V} (hu:H ws=some (.lst us)) {i:Nat} {v:V} {o:Option Sh} (hv:R2 H L v o):Wr (upd H ws (.lst (us.set i v))) L wh wf ws fr (sr.set i o):=by
 obtain⟨vs,f1,f2⟩:=h.hf
 obtain⟨us0,g1,g2⟩:=h.hs
 obtain rfl:us=us0:=by rw[hu] at g1;cases g1;rfl
 obtain⟨n1,n2,n3⟩:=h.ne
 have la:=h.l1.2.2
 exact⟨by rw[aaf n2];exact h.hw,⟨vs,by rw[aaf n3];exact f1,Paired.mapP f2 fun _ _ q=>R2.one hu la q⟩,⟨_,aah,acw (R2.one hu la hv) i (Paired.mapP g2 fun _ _ q=>R2.one hu la q)⟩,h.l1,h.ne,h.lv.set⟩
end
noncomputable def OutW (H:Hp) (v:V):Option Nat→Prop
 |none=>v=.non
 |some j=>∃o l,v=.ref o∧H o=some (.tup [.int (j:Int),.ref l])
theorem OutAt.wo {F:List Addr} {H:Hp} {v:V} {o:Option (Nat×Sh)} (h:OutAt F H v o):OutW H v (o.map (·.1)):=by
 cases o with
 |none=>exact h
 |some x=>obtain⟨j,q⟩:=x;obtain⟨o,l,e,h1,_⟩:=h;exact⟨o,l,e,h1⟩
noncomputable def movS (fr sr:List (Option Sh)) (i:Nat):Option Nat→List (Option Sh)
 |none=>sr
 |some j=>sr.set j (fr[i]?.getD none)
noncomputable def sp_mov:Sp:=fun vs H Q _=>∃(L:Lb) (wh wf ws f e:Addr) (fr sr:List (Option Sh)) (i:Nat) (v3 v:V) (out:Option Nat) (o:Option Sh),vs=[.ref wh,.ref f,v]∧Wr H L wh wf ws fr sr∧H f=some (.tup [.int (i:Int),.ref e,v3])∧OutW H v3 out∧R2 H L v o∧i < fr.length∧(∀j,out=some j→j < sr.length)∧
 ∀H',Wr H' L wh wf ws (fr.set i o) (movS fr sr i out)→Mv [1] L L H H'→Q .non H'
theorem h_mov (T:Txt K mg A):Have P w K mg base "_law_moved" 1 ["_law_where","_law_found","_law_one"] [] sp_mov:=by
 refine T.r_l_moved.have akv (fun vs H Q E z=>?_) ?_
 ·obtain⟨L,wh,wf,ws,f,e,fr,sr,i,v3,v,out,o,rfl,_⟩:=z;rfl
 ·intro f' cdv A' outer s H vs Q E hr z
  obtain⟨L,wh,wf,ws,f,e,fr,sr,i,v3,v,out,o,rfl,hW,hf,ho,hv,hi,hj,q⟩:=z
  have tp:∀{G:Hp} {c us},Mv [1] L L H G→H c=some (.tup us)→G c=some (.tup us):=fun m hc=>m.kw _ _ hc (by rw[hW.lv.zero hc fun _ z=>nomatch z];simp)
  obtain⟨us,f1,f2⟩:=hW.hf
  have hul:=Paired.length f2
  refine⟨_,(aal (abo (aao ace (aam aa0 (pvM 1) aab (fun _ _=>rfl)) aaw (nomark _)) (aag (ac6 (aam aaj (aam aaj (pvM 0) aab (fun _ _=>rfl)) (aam aa0 (pvM 1) aab (fun _ _=>rfl)) (fun _ _=>rfl)) (ac5 (aam aaj (pvM 0) aab (fun _ _=>rfl)) (aam aa0 (aam aa0 (pvM 1) aab (fun _ _=>rfl)) aab (fun _ _=>rfl)) abx))) aas)
   (aag (ac6 (pvM 2) (ac5 (aam aaj (pvM 0) aab (fun _ _=>rfl)) (aam aa0 (pvM 1) aab (fun _ _=>rfl)) abx)))),?_⟩
  refine⟨fun σ G=>σ=[some (.ref wh),some (.ref f),some v]∧Wr G L wh wf ws fr (movS fr sr i out)∧Mv [1] L L H G∧R2 G L v o,?_,fun σ1 G1=>?_⟩
  ·walk_at "wp"
   refine⟨_,SqT.of hf,v3,aac (j:=2) rfl,?_⟩
   cases out with
   |none=>
    obtain rfl:v3=.non:=ho
    exact ifn (by rw[decide_eq_true rfl];rfl) ⟨hW,Mv.of aae,hv⟩
   |some j=>
    obtain⟨o9,l,rfl,d1⟩:=ho
    obtain⟨vs,g1,g2⟩:=hW.hs
    have hvl:=Paired.length g2
    have hjl:=hj j rfl
    obtain⟨x,hx⟩:∃x,fr[i]?=some x:=⟨_,List.getElem?_eq_getElem hi⟩
    obtain⟨v9,hv9,hv2⟩:=aa1 f2 hx
    refine ifp (by rw[decide_eq_false (fun z=>nomatch z)];rfl) ⟨_,SqL.of hW.hw,_,aac (j:=0) rfl,_,SqT.of hf,.int i,aac (j:=0) rfl,wf,rfl,us,(i:Int),rfl,SqL.of f1,v9,aac hv9,_,SqL.of hW.hw,_,aac (j:=1) rfl,_,SqT.of hf,_,aac (j:=2) rfl,o9,rfl,_,SqT.of d1,.int j,aac (j:=0) rfl,ws,rfl,vs,(j:Int),rfl,g1,j,ixn (by omega),?_⟩
    have:=hW.setS g1 (i:=j) hv2
    unfold movS
    rw[hx]
    exact⟨this,Mv.set g1 (by rw[hW.l1.2.2];simp),R2.one g1 hW.l1.2.2 hv⟩
  rintro⟨rfl,W1,m1,hv1⟩
  obtain⟨us1,g1,g2⟩:=W1.hf
  have hul1:=Paired.length g2
  walk_at "wp"
  refine⟨_,SqL.of W1.hw,_,aac (j:=0) rfl,_,SqT.of (tp m1 hf),.int i,aac (j:=0) rfl,wf,rfl,us1,(i:Int),rfl,g1,i,ixn (by omega),?_⟩
  exact q _ (W1.setF g1 hv1) (m1.trans (Mv.set g1 (by rw[W1.l1.2.1];simp)))
noncomputable def SimR:Option Sh→Option Sh→Prop
 |none,none=>True
 |some r,some w=>w.b=r.b∧w.ks.Perm r.ks
 |_,_=>False
theorem akc {a b:List (Option Sh)} (h:Paired SimR a b):a.map Option.isNone=b.map Option.isNone:=by
 induction h with
 |nil=>rfl
 |@cons x y _ _ h t ih=>
  rw[List.map_cons,List.map_cons,ih]
  cases x<;>cases y<;>first|rfl|exact h.elim
section
variable {A:Adr} {H H':Hp} {z:Ss} {s s':St} {L L':Lb}
structure Cs (A:Adr) (H:Hp) (z:Ss) (s:St) (L:Lb):Prop where
 ss:SsAt A.C_Sheets A.C_Spots A.C_Sheet H z s
 l0:∀c∈z.four,L c=0
 lb:∀r,some r∈s.fr∨some r∈s.sr→L r.bx=0
theorem Cs.mv {N:List Nat} (h:Cs A H z s L) (m:Mv N L L' H H') (l:Lv L H) (h0:0∉N):Cs A H' z s L':=by
 refine⟨h.ss.mv m l h0 h.l0 h.lb,fun c hc=>?_,fun r hr=>?_⟩
 ·obtain⟨us,e⟩:=h.ss.fours c hc
  rw[m.lx.at e];exact h.l0 c hc
 ·rw[m.lx.at (h.ss.bxl hr)];exact h.lb r hr
end
theorem Kb.zv {C P S:Addr} {z:Ss} {s s':St} {L:Lb} {H H':Hp} {b:Addr} (k:Kb z b H H') (hS:SsAt C P S H z s) (hS':SsAt C P S H' z s') (hb:∃o,H' b=some o) (l0:∀c∈z.four,L c=0) (lb:L b=0) (nb:∃us,H b=some (.lst us)) (l:Lv L H):Zv [] L L H H':=by
 obtain⟨dx,h1⟩:=hS.me
 refine⟨fun _=>.inl rfl,fun c o hc n=>?_,fun c hc=>?_⟩
 ·refine k c o hc (fun e=>?_) (fun e=>?_) (fun e=>?_)
  ·rcases n with n|n
   ·rw[e,h1] at hc
    obtain⟨ws,h|⟨p,h⟩⟩:=n<;>(rw[←Option.some.inj hc] at h;cases h)
   ·obtain⟨us,h9⟩:=l c n.1
    rw[e,h1] at h9;cases h9
  ·rcases n with n|n
   ·obtain⟨us,h9⟩:=hS.fours c e
    rw[hc] at h9
    exact aoe n us (Option.some.inj h9)
   ·exact n.1 (l0 c e)
  ·rcases n with n|n
   ·obtain⟨us,h9⟩:=nb
    rw[←e,hc] at h9
    exact aoe n us (Option.some.inj h9)
   ·exact n.1 (by rw[e];exact lb)
 ·cases e:H c with
  |none=>rfl
  |some o=>
   by_cases c1:c=z.p
   ·obtain⟨dx,h1⟩:=hS'.me
    rw[c1,h1] at hc;cases hc
   ·by_cases c2:c∈z.four
    ·exact absurd c2 (hS'.nf hc)
    ·by_cases c3:c=b
     ·obtain⟨o,ho⟩:=hb
      rw[c3,ho] at hc;cases hc
     ·have:=k c o e c1 c2 c3
      rw[hc] at this;cases this
noncomputable def Old (n:Nat) (k:List Key):Prop:=∃(t:Str) (a b:Int),k=[.inr t,.inl a,.inl b]∧a < n
theorem Old.tri {n:Nat} {k:List Key} (h:Old n k):Tri k:=let ⟨t,a,b,e,_⟩:=h;⟨t,a,b,e⟩
theorem Old.up {n m:Nat} {k:List Key} (h:Old n k) (hm:n≤m):Old m k:=let ⟨t,a,b,e,q⟩:=h;⟨t,a,b,e,by omega⟩
structure Hn (n:Nat) (ks:List (List Key)):Prop where
 nd:ks.Nodup
 old:∀k∈ks,Old n k
 few:ks.length≤n
theorem Hn.pm {n:Nat} {ks ls:List (List Key)} (h:Hn n ks) (p:ls.Perm ks):Hn n ls:=⟨p.nodup_iff.mpr h.nd,fun k hk=>h.old k (p.mem_iff.mp hk),by rw[p.length_eq];exact h.few⟩
theorem Hn.up {n m:Nat} {ks:List (List Key)} (h:Hn n ks) (hm:n≤m):Hn m ks:=⟨h.nd,fun k hk=>(h.old k hk).up hm,by have:=h.few;omega⟩
theorem Hn.add {n:Nat} {ks:List (List Key)} {k:List Key} (h:Hn n ks) (hk:Old (n+1) k) (hn:k∉ks):Hn (n+1) (k::ks):=⟨List.nodup_cons.mpr ⟨hn,h.nd⟩,fun x hx=>by
 rcases List.mem_cons.mp hx with rfl|hx
 ·exact hk
 ·exact (h.old x hx).up (by omega),by have:=h.few;show ks.length+1≤n+1;omega⟩
noncomputable def hk (s:St):List (List Key):=(alS s).flatMap Sh.ks
theorem am0 {rows:List (Option Sh)}:hds rows=(als rows).map Sh.hd:=by
 unfold hds als
 induction rows with
 |nil=>rfl
 |cons o l ih=>
  cases o with
  |none=>rw[List.filterMap_cons_none rfl,List.filterMap_cons_none rfl];exact ih
  |some r=>
   show r.hd::List.filterMap (fun r=>Option.map Sh.hd r) l=r.hd::(List.filterMap id l).map Sh.hd
   rw[ih]
theorem af8 {s:St}:Ap s↔((alS s).map Sh.hd).Nodup:=by unfold Ap alS;rw[am0]
noncomputable def movW (w:St) (i:Nat) (out:Option Nat) (o:Option Sh):St:={w with fr:=w.fr.set i o,sr:=movS w.fr w.sr i out}
theorem ajg {w:St} {i:Nat} {out:Option Nat} {r:Sh} (h1:out=none→w.fr[i]?=some none) (h2:∀j,out=some j→(∃q,w.fr[i]?=some (some q))∧w.sr[j]?=some none):(alS (movW w i out (some r))).Perm (r::alS w):=by
 show (als (w.fr.set i (some r)++movS w.fr w.sr i out)).Perm (r::als (w.fr++w.sr))
 rw[ab6,ab6]
 cases out with
 |none=>exact (adq (h1 rfl)).append_right _
 |some j=>
  obtain⟨⟨q,hq⟩,hj⟩:=h2 j rfl
  unfold movS
  rw[hq]
  have a1:=ah5 (r':=r) hq
  have a2:=adq (r:=q) hj
  have a3:=aeg hq
  refine (a1.append a2).trans ?_
  show (r::(als (w.fr.set i none)++q::als w.sr)).Perm (r::(als w.fr++als w.sr))
  refine List.Perm.cons r ?_
  exact List.perm_middle.trans (a3.symm.append_right _)
theorem Ffr.rows {s s1:St} {c:Option Nat} {ms:List Bool} {i:Nat} {ps:List Int} {out:Option (Nat×Sh)} (h:Ffr s c ms s1 i ps out):(out=none∧s1.fr=s.fr∧s1.sr=s.sr∧s.fr[i]?=some none)∨∃j q,out=some (j,q)∧s.fr[i]?=some (some q)∧s1.fr=s.fr.set i none∧s1.sr=s.sr.set j (some q)∧slotF s i c=some j∧j < s.sr.length:=by
 rcases h with ⟨h1,rfl,_,rfl⟩|⟨h1,q,j,hsw,hq,hsf,hj,rfl,rfl⟩
 ·exact .inl ⟨rfl,rfl,rfl,(agg h1).1⟩
 ·obtain⟨e1,e2,_⟩:=af3 (s:={s with h:=(i+1) % s.fr.length}) (i:=i) (j:=j) (r:=q)
  exact .inr ⟨j,q,rfl,hq,e1,e2,hsf,hj⟩
theorem aof {a b:Option Sh} (h:SimR a b):a=none↔b=none:=by cases a<;>cases b<;>simp[SimR] at h ⊢
theorem agi {s w:List (Option Sh)} (h:Paired SimR s w) {i:Nat} (hi:s[i]?=some none):w[i]?=some none:=by
 obtain⟨y,h1,h2⟩:=acn h hi
 rw[h1,(aof h2).mp rfl]
theorem aff {s w:List (Option Sh)} (h:Paired SimR s w) {i:Nat} {q:Sh} (hi:s[i]?=some (some q)):∃q',w[i]?=some (some q')∧q'.b=q.b∧q'.ks.Perm q.ks:=by
 obtain⟨y,h1,h2⟩:=acn h hi
 cases y with
 |none=>exact h2.elim
 |some q'=>exact⟨q',h1,h2⟩
theorem afw {s w:List (Option Sh)} (h:Paired SimR s w) {i:Nat} {q:Sh} (hi:w[i]?=some (some q)):∃q',s[i]?=some (some q')∧q.b=q'.b∧q.ks.Perm q'.ks:=by
 obtain⟨y,h1,h2⟩:=aa1 h hi
 cases y with
 |none=>exact h2.elim
 |some q'=>exact⟨q',h1,h2⟩
structure C8 (A:Adr) (H:Hp) (z:Ss) (s:St) (L:Lb) (wh wf ws:Addr) (w:St) (n:Nat):Prop where
 cs:Cs A H z s L
 ap:Ap s
 tw:Tw s
 bx:Bx s
 wr:Wr H L wh wf ws w.fr w.sr
 sf:Paired SimR s.fr w.fr
 sr:Paired SimR s.sr w.sr
 wa:Ap w
 wb:Bx w
 ok:∀r∈alS s,r.ks≠[]∧r.b.length=2
 hn:Hn n (hk s)
section
variable {A:Adr} {H H':Hp} {z:Ss} {s s':St} {L L':Lb} {wh wf ws:Addr} {w w':St} {n:Nat}
theorem C8.mv {N:List Nat} (h:C8 A H z s L wh wf ws w n) (m:Mv N L L' H H') (hN:∀k∈N,4 < k) (lv:Lv L' H'):C8 A H' z s L' wh wf ws w n:=
 have h0:0∉N:=fun e=>by have:=hN 0 e;omega
 ⟨h.cs.mv m h.wr.lv h0,h.ap,h.tw,h.bx,h.wr.zv (m.zv h.wr.lv h0) hN lv,h.sf,h.sr,h.wa,h.wb,h.ok,h.hn⟩
theorem C8.same (h:C8 A H z s L wh wf ws w n) (e:Same H H'):C8 A H' z s L wh wf ws w n:=h.mv (N:=[]) (Mv.of e) (fun _ h=>by cases h) (h.wr.lv.same e)
theorem C8.up (h:C8 A H z s L wh wf ws w n) {m:Nat} (hm:n≤m):C8 A H z s L wh wf ws w m:=⟨h.cs,h.ap,h.tw,h.bx,h.wr,h.sf,h.sr,h.wa,h.wb,h.ok,h.hn.up hm⟩
theorem C8.len (h:C8 A H z s L wh wf ws w n):w.fr.length=s.fr.length∧w.sr.length=s.sr.length:=⟨(Paired.length h.sf).symm,(Paired.length h.sr).symm⟩
theorem C8.okk (h:C8 A H z s L wh wf ws w n) (hn:n < 64) {r:Sh} (hr:r∈alS s):Okh r:=by
 obtain⟨a,b,e⟩:=List.append_of_mem hr
 have e2:hk s=a.flatMap Sh.ks++(r.ks++b.flatMap Sh.ks):=by unfold hk;rw[e,List.flatMap_append,List.flatMap_cons]
 have h1:=h.hn
 rw[e2] at h1
 refine⟨?_,?_,fun k hk=>(h1.old k (List.mem_append_right _ (List.mem_append_left _ hk))).tri⟩
 ·have:=h1.few
  rw[List.length_append,List.length_append] at this
  omega
 ·exact (List.nodup_append.mp (List.nodup_append.mp h1.nd).2.1).1
theorem Okh.ms {r:Sh} (h:Okh r):(srt r.ks).length≤64∧∀k∈srt r.ks,k.length≤64:=by
 refine⟨by rw[ab8.length_eq];have:=h.1;omega,fun k hk=>?_⟩
 obtain⟨a,b,c,rfl⟩:=h.2.2 k (ab8.mem_iff.mp hk)
 show 3≤64
 decide
theorem C8.oks (h:C8 A H z s L wh wf ws w n) (hn:n < 64):okS s.fr∧okS s.sr:=by
 have go:∀r,some r∈s.fr∨some r∈s.sr→Okh r∧Okm r:=fun r hr=>by
  have hm:=abp.mpr hr
  have ho:=h.okk hn hm
  exact⟨ho,by rw[(h.ok r hm).2];decide,ho.ms⟩
 exact⟨fun r hr=>go r (.inl hr),fun r hr=>go r (.inr hr)⟩
theorem agz {l:List Sh} {p:Sh→Bool}:((l.filter p).flatMap Sh.ks).length≤(l.flatMap Sh.ks).length:=by
 induction l with
 |nil=>exact Nat.le_refl _
 |cons a l ih=>
  rw[List.flatMap_cons,List.length_append,List.filter_cons]
  split
  ·rw[List.flatMap_cons,List.length_append];omega
  ·omega
theorem C8.fi (h:C8 A H z s L wh wf ws w n) (hn:n < 64):Fi s 0 ⟨[],s,[]⟩:=⟨rfl,rfl,fun _ he=>(by cases he),h.hn.nd,fun k hk=>(h.hn.old k hk).tri,fun b=>by
 have:=agz (l:=alS s) (p:=fun r=>decide (r.b=b))
 have h2:((alS s).flatMap Sh.ks).length≤n:=h.hn.few
 show (((alS s).filter fun r=>decide (r.b=b)).flatMap Sh.ks).length < 64
 omega,Nat.le_refl _,Nat.le_refl _⟩
theorem C8.lb0 (h:C8 A H z s L wh wf ws w n) {c:Addr} (hc:H c=none):L c=0:=Decidable.byContradiction fun e=>by
 obtain⟨us,h1⟩:=h.wr.lv c e
 rw[hc] at h1;cases h1
end
theorem afo:∀{rows:List (Option Sh)},cnt rows≤rows.length∧(rows.any Option.isNone=true↔cnt rows < rows.length)
 |[]=>⟨Nat.le_refl _,by simp[cnt]⟩
 |none::l=>by
  have ih:=afo (rows:=l)
  have e:cnt (none::l)=cnt l:=rfl
  rw[e,List.any_cons,List.length_cons]
  exact⟨by omega,⟨fun _=>by omega,fun _=>rfl⟩⟩
 |some r::l=>by
  have ih:=afo (rows:=l)
  have e:cnt (some r::l)=cnt l+1:=rfl
  rw[e,List.any_cons,List.length_cons]
  refine⟨by omega,?_⟩
  show (false || l.any Option.isNone)=true↔_
  rw[Bool.false_or,ih.2]
  omega
theorem am1 {a b:List (Option Sh)} (h:Paired SimR a b):a.any Option.isNone=b.any Option.isNone:=by
 have e:∀l:List (Option Sh),l.any Option.isNone=(l.map Option.isNone).any id:=fun l=>by rw[List.any_map];rfl
 rw[e,e,akc h]
theorem apa {H:Hp} {L:Lb} {us:List V} {rows:List (Option Sh)} (h:Paired (R2 H L) us rows):us.any isN=rows.any Option.isNone:=by
 induction h with
 |nil=>rfl
 |@cons x y _ _ h t ih=>
  rw[List.any_cons,List.any_cons,ih]
  cases y with
  |none=>obtain rfl:x=.non:=h;rfl
  |some r=>obtain⟨rfl,_⟩:=h;rfl
theorem apb {K:PySem.W.Frag} {H:Hp} {L:Lb} {us:List V} {rows:List (Option Sh)} (h:Paired (R2 H L) us rows):∀x∈us,NLst K H x:=by
 induction h with
 |nil=>intro x hx;cases hx
 |@cons x y _ _ h t ih=>
  intro u hu
  rcases List.mem_cons.mp hu with rfl|hu
  ·cases y with
   |none=>exact .inl h
   |some r=>obtain⟨rfl,h1,_⟩:=h;exact .inr ⟨_,_,rfl,SqL.of h1⟩
  ·exact ih u hu
theorem R2.same {H H':Hp} {L:Lb} {v:V} {o:Option Sh} (h:R2 H L v o) (s:Same H H'):R2 H' L v o:=h.zv (N:=[]) (Zv.of s) (by simp)
section
variable {A:Adr} {H H':Hp} {z:Ss} {s s1 s':St} {L L':Lb} {wh wf ws:Addr} {w w':St} {n:Nat}
theorem C8.full (h:C8 A H z s L wh wf ws w n):(w.fr++w.sr).any Option.isNone=decide (live s < room s):=by
 rw[List.any_append,←am1 h.sf,←am1 h.sr,Bool.eq_iff_iff,Bool.or_eq_true,afo.2,afo.2,decide_eq_true_eq]
 have a:=(afo (rows:=s.fr)).1
 have b:=(afo (rows:=s.sr)).1
 unfold live room
 omega
theorem C8.frs (h:C8 A H z s L wh wf ws w n) {ms:List Bool} {i:Nat} {ps:List Int} {out:Option (Nat×Sh)} {r r0:Sh} {k:List Key} (a:Ffr s none ms s1 i ps out) (cs:Cs A H' z {s1 with fr:=s1.fr.set i (some r)} L) (ap:Ap {s1 with fr:=s1.fr.set i (some r)}) (tw:Tw {s1 with fr:=s1.fr.set i (some r)}) (hb:r.b=r0.b) (hk1:r.ks=[k]) (hk2:r0.ks=[k]) (hx:H r.bx=none) (b2:r0.b.length=2)
  (ko:Old (n+1) k) (kn:k∉hk s) (n1:r0.hd∉(alS w).map Sh.hd) (n2:r0.bx∉(alS w).map Sh.bx) (wr:Wr H' L wh wf ws (w.fr.set i (some r0)) (movS w.fr w.sr i (out.map (·.1)))):C8 A H' z {s1 with fr:=s1.fr.set i (some r)} L wh wf ws (movW w i (out.map (·.1)) (some r0)) (n+1):=by
 have pm:=a.alsF (r:=r) h.tw
 have pw:(alS (movW w i (out.map (·.1)) (some r0))).Perm (r0::alS w):=by
  rcases a.rows with ⟨rfl,_,_,e3⟩|⟨j,q,rfl,e1,_,_,e4,e5⟩
  ·exact ajg (fun _=>agi h.sf e3) (fun _ z=>nomatch z)
  ·refine ajg (fun z=>nomatch z) (fun j' z=>?_)
   obtain rfl:j=j':=Option.some.inj z
   obtain⟨q',h1,_⟩:=aff h.sf e1
   refine⟨⟨q',h1⟩,agi h.sr ?_⟩
   rcases agh h.tw e4 with h2|⟨h2,_⟩
   ·exact h2
   ·cases h2
 have bxs:r.bx∉(alS s).map Sh.bx:=fun z=>by
  obtain⟨q,h1,h2⟩:=List.mem_map.mp z
  have:=h.cs.ss.bxl (abp.mp h1)
  rw[h2,hx] at this;cases this
 refine⟨cs,ap,tw,?_,wr,?_,?_,?_,?_,fun q hq=>?_,?_⟩
 ·exact (pm.map Sh.bx).nodup_iff.mpr (List.nodup_cons.mpr ⟨bxs,h.bx⟩)
 ·show Paired SimR (s1.fr.set i (some r)) (w.fr.set i (some r0))
  have hs:SimR (some r) (some r0):=⟨hb.symm,by rw[hk1,hk2]⟩
  rcases a.rows with ⟨_,e1,_,_⟩|⟨j,q,_,_,e2,_,_,_⟩
  ·rw[e1];exact acw hs i h.sf
  ·rw[e2,List.set_set];exact acw hs i h.sf
 ·show Paired SimR s1.sr (movS w.fr w.sr i (out.map (·.1)))
  rcases a.rows with ⟨rfl,_,e1,_⟩|⟨j,q,rfl,e1,_,e3,_,_⟩
  ·rw[e1];exact h.sr
  ·rw[e3]
   obtain⟨q',h1,h2⟩:=aff h.sf e1
   show Paired SimR _ (w.sr.set j (w.fr[i]?.getD none))
   rw[h1]
   exact acw (show SimR (some q) (some q') from h2) j h.sr
 ·exact af8.mpr ((pw.map Sh.hd).nodup_iff.mpr (List.nodup_cons.mpr ⟨n1,af8.mp h.wa⟩))
 ·exact (pw.map Sh.bx).nodup_iff.mpr (List.nodup_cons.mpr ⟨n2,h.wb⟩)
 ·rcases List.mem_cons.mp (pm.mem_iff.mp hq) with rfl|hq
  ·exact⟨by rw[hk1];exact (fun z=>nomatch z),by rw[hb];exact b2⟩
  ·exact h.ok q hq
 ·have p9:(hk {s1 with fr:=s1.fr.set i (some r)}).Perm (k::hk s):=by
   have p8:=pm.flatMap_right Sh.ks
   rw[List.flatMap_cons,hk1] at p8
   exact p8
  exact (h.hn.add ko kn).pm p9
theorem C8.cs2 (h:C8 A H z s L wh wf ws w n) (ss:SsAt A.C_Sheets A.C_Spots A.C_Sheet H' z s') (hb:∀q,some q∈s'.fr∨some q∈s'.sr→H q.bx=none∨q.bx∈(alS s).map Sh.bx):Cs A H' z s' L:=⟨ss,h.cs.l0,fun r hr=>by
 rcases hb r hr with e|e
 ·exact h.lb0 e
 ·obtain⟨q,h1,h2⟩:=List.mem_map.mp e
  rw[←h2]
  exact h.cs.lb q (abp.mp h1)⟩
end
noncomputable def FrO (A:Adr) (z:Ss) (s:St) (ms:List Bool) (r0:Sh) (k:List Key) (L:Lb) (H G:Hp) (b:Bool) (v:V):Prop:=
 (b=true∧¬live s < room s∧Same H G)∨(b=false∧live s < room s∧∃s1 i ps out t e v3 r,v=.ref t∧Ffr s none ms s1 i ps out∧SsAt A.C_Sheets A.C_Spots A.C_Sheet G z {s1 with fr:=s1.fr.set i (some r)}∧Ap {s1 with fr:=s1.fr.set i (some r)}∧Tw {s1 with fr:=s1.fr.set i (some r)}∧r.b=r0.b∧r.ks=[k]∧H r.bx=none∧G t=some (.tup [.int (i:Int),.ref e,v3])∧OutW G v3 (out.map (·.1))∧Zv [] L L H G)
noncomputable def apc (A:Adr):Sp:=fun vs H Q _=>∃(z:Ss) (s:St) (L:Lb) (wh wf ws:Addr) (w:St) (n:Nat) (m:Addr) (r0:Sh) (k:List Key) (ms:List Bool),vs=[.ref z.p,.ref wh,.ref r0.sh,.ref m]∧C8 A H z s L wh wf ws w n∧n < 63∧R2 H L (.ref r0.sh) (some r0)∧r0.ks=[k]∧Old (n+1) k∧k∉hk s∧r0.b.length=2∧r0.hd∉(alS w).map Sh.hd∧r0.bx∉(alS w).map Sh.bx∧H m=some (.lst (ms.map V.bl))∧ms.length=s.fr.length∧
 ∀H' s' w',C8 A H' z s' L wh wf ws w' (n+1)→Zv [1] L L H H'→Q (.bl true) H'
theorem h_frs (T:Txt K mg A):Have P w K mg base "_law_fresh" 6 ["_law_sheets","_law_where","_law_one","_law_marks"] [] (apc A):=by
 have H_Sheets_fresh:=aqe (P:=P) (w:=w) (base:=base) T
 have H_l_moved:=h_mov (P:=P) (w:=w) (base:=base) T
 refine T.r_l_fresh.have adt (fun vs H Q E z=>?_) ?_
 ·obtain⟨z,s,L,wh,wf,ws,w,n,m,r0,k,ms,rfl,_⟩:=z;rfl
 ·intro f cdv A' outer s H vs Q E hr z
  obtain⟨z,s,L,wh,wf,ws,w,n,m,r0,k,ms,rfl,hC,hn,hR,hk2,ko,kn,b2,n1,n2,hm,hml,q⟩:=z
  obtain⟨_,h1,h2,⟨us,h3,h4⟩,l1,l2,l3⟩:=id hR
  rw[hk2] at h4
  cases h4 with
  |cons e9 t9=>
  cases t9
  obtain⟨a,rfl,ha⟩:=e9
  obtain⟨dx,hme⟩:=hC.cs.ss.me
  refine⟨_,(aak (aax (i:=4) adt.nd rfl (Or.inl rfl) adp)
   (aak (aax (i:=5) adt.nd rfl (Or.inl rfl) aaw)
   (aal (anx T.h_NoRoom (fun _ _ _ po1 xw1=>(aag (aax (i:=5) adt.nd rfl (Or.inl rfl) (aa6 (pvM 0) T.cl_Sheets H_Sheets_fresh (hr.mono (by decide)) xw1 (aaa (acf (afz (K:=K) rfl) rfl T.b_list PyProof.Rows.boot_list (aaa (aam (aec (K:=K) rfl) (pvM 2) aab (fun _ _=>rfl)) aad)) (aaa (aam (aec (K:=K) rfl) (aam (aec (K:=K) rfl) (pvM 2) aab (fun _ _=>rfl)) aab (fun _ _=>rfl)) (aaa (pvM 3) aad))))))) aas (fun _=>(aag (aax (i:=4) adt.nd rfl (Or.inl rfl) adp))))
   (aal (aax (i:=6) adt.nd rfl (Or.inl rfl) (ac0 (ame (hu6 hr)) aaw (aay ag9 (aam aaj (pvM 1) aab (fun _ _=>rfl)) (aam aaj (pvM 1) aab (fun _ _=>rfl))) (by with_unfolding_all rfl)))
   (aal (abo (ael (acz (pvM 4))) (aag (aby (aba H_l_moved (hr.mono (by decide)) aat (aaa (pvM 1) (aaa (pvM 5) (aaa (pvM 2) aad)))))) aas)
   (aag (aav (ac0 adb (pvM 4) (pvM 6) (nomark _))))))))),?_⟩
  refine⟨fun σ G=>∃b v,σ=[some (.ref z.p),some (.ref wh),some (.ref r0.sh),some (.ref m),some (.bl b),some v,none]∧FrO A z s ms r0 k L H G b v,?_,fun σ1 G1=>?_⟩
  ·walk_at "wp"
   refine⟨dx,_,hme,abw (by decide+kernel),_,SqL.of h1,_,aac (j:=0) rfl,r0.bx,rfl,_,.inl (SqL.of h2),fun bl hbl=>?_⟩
   obtain⟨s1,k1⟩:=aa4 (o:=.lst (r0.b.map V.int)) hbl
   generalize upd H bl _=H1 at *
   refine⟨_,SqL.of (s1 _ _ h1),_,aac (j:=1) rfl,r0.hd,rfl,_,SqL.of (s1 _ _ h3),_,aac (j:=0) rfl,z,s,bl,a,m,r0.b,k,ms,rfl,hC.cs.ss.same s1,hC.ap,hC.tw,k1,hC.cs.ss.nf hbl,s1 _ _ ha,s1 _ _ hm,hml,fun r hr=>hC.okk (by omega) (abp.mpr (.inl hr)),?_⟩
   by_cases c:live s < room s
   ·rw[if_pos c]
    intro H2 s2 i ps out t e v3 r a1 a2 a3 a4 a5 a6 a7 a8 a9 a10 a11 a12
    refine .inr ⟨rfl,c,s2,i,ps,out,t,e,v3,r,rfl,a1,a2,a3,a4,a5,a6,?_,a8,a10.wo,?_⟩
    ·cases e9:H r.bx with
     |none=>rfl
     |some o=>rw[s1 _ _ e9] at a7;cases a7
    ·exact (Zv.of s1).trans (Zv.ks (hC.cs.ss.same s1) a2 a12.kd hC.cs.l0 (hC.wr.lv.same s1) (a12.dm (hC.cs.ss.same s1) a2))
   ·rw[if_neg c]
    intro H2 s2
    exact⟨A.C_NoRoom,rfl,T.sub_NoRoom_NoRoom,.inl ⟨rfl,c,s1.trans s2⟩⟩
  rintro⟨b,v,rfl,hcase⟩
  have W1:Wr G1 L wh wf ws w.fr w.sr:=by
   rcases hcase with ⟨_,_,e⟩|⟨_,_,_,_,_,_,_,_,_,_,_,_,_,_,_,_,_,_,_,_,e⟩
   ·exact hC.wr.same e
   ·exact hC.wr.zv e (fun _ h=>by cases h) (hC.wr.lv.zv e)
  obtain⟨us1,f1,f2⟩:=W1.hf
  obtain⟨us2,g1,g2⟩:=W1.hs
  refine⟨fun σ G=>σ=[some (.ref z.p),some (.ref wh),some (.ref r0.sh),some (.ref m),some (.bl b),some v,some (.bl b)]∧Same G1 G,?_,fun σ2 G2=>?_⟩
  ·walk_at "wp"
   refine⟨_,SqL.of W1.hw,_,aac (j:=0) rfl,_,SqL.of W1.hw,_,aac (j:=1) rfl,wf,rfl,ws,rfl,us1,f1,us2,g1,?_,fun p hp=>?_⟩
   ·have:=Paired.length f2
    have:=Paired.length g2
    have:=hC.len
    have:=hC.cs.ss.len
    omega
   obtain⟨s9,k9⟩:=aa4 (o:=.lst (us1++us2)) hp
   generalize upd G1 p _=G9 at *
   refine⟨p,_,rfl,rfl,SqL.of k9,fun x hx=>?_,?_,s9⟩
   ·rcases List.mem_append.mp hx with hx|hx
    ·exact apb (Paired.mapP f2 fun _ _ q=>q.same s9) x hx
    ·exact apb (Paired.mapP g2 fun _ _ q=>q.same s9) x hx
   ·rw[List.any_append,apa f2,apa g2,←List.any_append,hC.full]
    rcases hcase with ⟨rfl,c,_⟩|⟨rfl,c,_⟩
    ·rw[decide_eq_false c];rfl
    ·rw[decide_eq_true c];rfl
  rintro⟨rfl,e2⟩
  refine⟨fun σ G=>σ=[some (.ref z.p),some (.ref wh),some (.ref r0.sh),some (.ref m),some (.bl b),some v,some (.bl b)]∧∃s' w',C8 A G z s' L wh wf ws w' (n+1)∧Zv [1] L L H G,?_,fun σ3 G3=>?_⟩
  ·walk_at "wp"
   rcases hcase with ⟨rfl,c,e⟩|⟨rfl,c,s1,i,ps,out,t,e,v3,r,rfl,a1,a2,a3,a4,a5,a6,a7,a8,a9,a10⟩
   ·exact iteF ⟨s,w,(hC.same (e.trans e2)).up (by omega),Zv.of (e.trans e2)⟩
   ·refine iteT ⟨L,wh,wf,ws,t,e,w.fr,w.sr,i,v3,.ref r0.sh,out.map (·.1),some r0,rfl,W1.same e2,e2 _ _ a8,?_,R2.zv hR (a10.trans (Zv.of e2)) (by simp),?_,fun j hj=>?_,fun H' W2 m2=>?_⟩
    ·cases out with
     |none=>exact a9
     |some x=>obtain⟨o,l,d1,d2⟩:=a9;exact⟨o,l,d1,e2 _ _ d2⟩
    ·have:=hC.len
     rcases a1.rows with ⟨_,_,_,h9⟩|⟨_,_,_,h9,_⟩<;>(have:=(List.getElem?_eq_some_iff.mp h9).1;omega)
    ·have:=hC.len
     rcases a1.rows with ⟨rfl,_⟩|⟨j',q',rfl,_,_,_,_,h9⟩
     ·cases hj
     ·obtain rfl:j'=j:=Option.some.inj hj
      omega
    ·have cs2:Cs A G2 z {s1 with fr:=s1.fr.set i (some r)} L:=hC.cs2 (a2.same e2) fun q' hq'=>by
      have:=(a1.alsF (r:=r) hC.tw).mem_iff.mp (abp.mpr hq')
      rcases List.mem_cons.mp this with rfl|h9
      ·exact .inl a7
      ·exact .inr (List.mem_map.mpr ⟨q',h9,rfl⟩)
     have cs3:=cs2.mv m2 (W1.same e2).lv (by simp)
     exact⟨_,_,hC.frs a1 cs3 a3 a4 a5 a6 hk2 a7 b2 ko kn n1 n2 W2,((a10.trans (Zv.of e2)).sub (by simp)).trans (m2.zv (W1.same e2).lv (by simp))⟩
  rintro⟨rfl,s',w',C3,z3⟩
  walk_at "wp"
  exact q G3 s' w' C3 z3
section
variable {A:Adr} {H H':Hp} {z:Ss} {s s1 s':St} {L L':Lb} {wh wf ws:Addr} {w w':St} {n:Nat}
theorem C8.bck (h:C8 A H z s L wh wf ws w n) {ms:List Bool} {i j:Nat} {ps:List Int} {out:Option (Nat×Sh)} {c c0:Sh} (a:Ffr s (some j) ms s1 i ps out) (hc:s.sr[j]?=some (some c)) (hc0:w.sr[j]?=some (some c0)) (cs:Cs A H' z (bckS s1 i j c out) L) (ap:Ap (bckS s1 i j c out)) (tw:Tw (bckS s1 i j c out))
  (wr:Wr H' L wh wf ws (w.fr.set i (some c0)) (movS w.fr (w.sr.set j none) i (out.map (·.1)))):C8 A H' z (bckS s1 i j c out) L wh wf ws (movW (w.put false j none) i (out.map (·.1)) (some c0)) n:=by
 have pm:=a.alsB h.tw hc
 have hjl:=(List.getElem?_eq_some_iff.mp hc0).1
 have pw1:(alS (movW (w.put false j none) i (out.map (·.1)) (some c0))).Perm (c0::alS (w.put false j none)):=by
  have sl:=a.slot h.tw hc
  refine ajg (fun z=>?_) (fun j' z=>?_)
  ·show w.fr[i]?=some none
   rcases a.rows with ⟨_,_,_,e3⟩|⟨j',q,rfl,_⟩
   ·exact agi h.sf e3
   ·cases z
  ·show (∃q,w.fr[i]?=some (some q))∧(w.sr.set j none)[j']?=some none
   rcases a.rows with ⟨rfl,_⟩|⟨j2,q,rfl,e1,_⟩
   ·cases z
   ·obtain rfl:j2=j':=Option.some.inj z
    obtain⟨q',h1,_⟩:=aff h.sf e1
    refine⟨⟨q',h1⟩,?_⟩
    rcases sl with ⟨e2,_⟩|⟨e2,_,e3⟩
    ·obtain rfl:j2=j:=Option.some.inj e2
     rw[List.getElem?_set,if_pos rfl,if_pos hjl]
    ·have hne:j≠j2:=fun e=>e2 (by rw[e];rfl)
     rw[List.getElem?_set,if_neg hne]
     exact agi h.sr (e3 _ _ rfl)
 have pw:=pw1.trans (ad7 (s:=w) (f:=false) (r':=c0) hc0).1.symm
 obtain⟨x1,x2⟩:SimR (some c) (some c0):=by
  obtain⟨q',h1,h2⟩:=aff h.sr hc
  rw[hc0] at h1
  cases h1
  exact h2
 obtain⟨b1,b2,_⟩:=amp (s1:=s1) (i:=i) (j:=j) (c:=c) (out:=out)
 refine⟨cs,ap,tw,?_,wr,?_,?_,?_,?_,fun q hq=>h.ok q (pm.mem_iff.mp hq),h.hn.pm (pm.flatMap_right Sh.ks)⟩
 ·exact (pm.map Sh.bx).nodup_iff.mpr h.bx
 ·rw[b1]
  show Paired SimR (s1.fr.set i (some c)) (w.fr.set i (some c0))
  have hs:SimR (some c) (some c0):=⟨x1,x2⟩
  rcases a.rows with ⟨_,e1,_,_⟩|⟨j,q,_,_,e2,_,_,_⟩
  ·rw[e1];exact acw hs i h.sf
  ·rw[e2,List.set_set];exact acw hs i h.sf
 ·rw[b2]
  show Paired SimR _ (movS w.fr (w.sr.set j none) i (out.map (·.1)))
  rcases a.rows with ⟨rfl,_,e1,_⟩|⟨j',q,rfl,e1,_,e3,_,_⟩
  ·rw[if_neg (fun z=>nomatch z),e1]
   exact acw (show SimR none none from trivial) j h.sr
  ·rw[e3]
   obtain⟨q',h1,h2⟩:=aff h.sf e1
   show Paired SimR _ ((w.sr.set j none).set j' (w.fr[i]?.getD none))
   rw[h1]
   have hs:SimR (some q) (some q'):=h2
   show Paired SimR (if some j'=some j then s.sr.set j' (some q) else (s.sr.set j' (some q)).set j none) ((w.sr.set j none).set j' (some q'))
   by_cases c9:j'=j
   ·subst c9
    rw[if_pos rfl,List.set_set]
    exact acw hs _ h.sr
   ·rw[if_neg (fun z=>c9 (Option.some.inj z)),List.set_comm _ _ c9]
    exact acw hs _ (acw (show SimR none none from trivial) j h.sr)
 ·exact af8.mpr ((pw.map Sh.hd).nodup_iff.mpr (af8.mp h.wa))
 ·exact (pw.map Sh.bx).nodup_iff.mpr h.wb
end
noncomputable def sp_bk (A:Adr):Sp:=fun vs H Q _=>∃(z:Ss) (s:St) (L:Lb) (wh wf ws:Addr) (w:St) (n j:Nat) (m:Addr) (c0:Sh) (ms:List Bool),vs=[.ref z.p,.ref wh,.int j,.ref m]∧C8 A H z s L wh wf ws w n∧n < 64∧w.sr[j]?=some (some c0)∧H m=some (.lst (ms.map V.bl))∧L m=5∧ms.length=s.fr.length∧
 ∀H' s' w',C8 A H' z s' L wh wf ws w' n→Zv [1] L L H H'→w'.fr.length=w.fr.length∧w'.sr.length=w.sr.length→Q .non H'
theorem h_bk (T:Txt K mg A):Have P w K mg base "_law_back" 6 ["_law_sheets","_law_where","_law_slot","_law_marks"] [] (sp_bk A):=by
 have H_Sheets_back:=h_back (P:=P) (w:=w) (base:=base) T
 have H_l_moved:=h_mov (P:=P) (w:=w) (base:=base) T
 refine T.r_l_back.have aiv (fun vs H Q E z=>?_) ?_
 ·obtain⟨z,s,L,wh,wf,ws,w,n,j,m,c0,ms,rfl,_⟩:=z;rfl
 ·intro f cdv A' outer s H vs Q E hr z
  obtain⟨z,s,L,wh,wf,ws,w,n,j,m,c0,ms,rfl,hC,hn,hc0,hm,lm,hml,q⟩:=z
  obtain⟨vs,g1,g2⟩:=hC.wr.hs
  obtain⟨v0,hv0,hR0⟩:=aa1 g2 hc0
  obtain⟨c,hc,_⟩:=afw hC.sr hc0
  have hvl:=Paired.length g2
  have hjl:=(List.getElem?_eq_some_iff.mp hc0).1
  refine⟨_,(aak (aax (i:=4) aiv.nd rfl (Or.inl rfl) (aam aaj (aam aaj (pvM 1) aab (fun _ _=>rfl)) (pvM 2) (fun _ _=>rfl)))
   (aak (ac6 aaw (ac5 (aam aaj (pvM 1) aab (fun _ _=>rfl)) (pvM 2) abx))
   (aag (aby (aba H_l_moved (hr.mono (by decide)) aat (aaa (pvM 1) (aaa (aa6 (pvM 0) T.cl_Sheets H_Sheets_back (hr.mono (by decide)) aat (aaa (pvM 2) (aaa (pvM 3) aad))) (aaa (pvM 4) aad)))))))),?_⟩
  walk_at "wp"
  refine⟨_,SqL.of hC.wr.hw,_,aac (j:=1) rfl,ws,rfl,_,SqL.of g1,v0,aac hv0,_,SqL.of hC.wr.hw,_,aac (j:=1) rfl,ws,rfl,vs,g1,j,ixn (by omega),?_⟩
  have W1:=hC.wr.setS g1 (i:=j) (v:=.non) (o:=none) rfl
  have m1:Mv [1] L L H (upd H ws (.lst (vs.set j .non))):=Mv.set g1 (by rw[hC.wr.l1.2.2];simp)
  have R1:R2 (upd H ws (.lst (vs.set j .non))) L v0 (some c0):=R2.one g1 hC.wr.l1.2.2 hR0
  have cs1:=hC.cs.mv m1 hC.wr.lv (by simp)
  have hm1:=m1.kw _ _ hm (by rw[lm];simp)
  generalize upd H ws (.lst (vs.set j .non))=H1 at *
  obtain⟨dx,hme⟩:=cs1.ss.me
  refine⟨dx,_,hme,abw (by decide+kernel),z,s,j,m,ms,c,rfl,cs1.ss,hC.ap,hC.tw,hm1,hml,fun r hr=>hC.okk hn (abp.mpr (.inl hr)),hc,fun H2 s1 i ps out t e v3 a1 a2 a3 a4 a5 a6 a7 a8 a9=>?_⟩
  have z2:=Zv.ks cs1.ss a2 a9.kd cs1.l0 W1.lv (a9.dm cs1.ss a2)
  have W2:=W1.zv z2 (fun _ h=>by cases h) (W1.lv.zv z2)
  refine⟨L,wh,wf,ws,t,e,w.fr,w.sr.set j none,i,v3,v0,out.map (·.1),some c0,rfl,W2,a5,a7.wo,R1.zv z2 (by simp),?_,fun j' hj=>?_,fun H' W3 m3=>?_⟩
  ·have:=hC.len
   rcases a1.rows with ⟨_,_,_,h9⟩|⟨_,_,_,h9,_⟩<;>(have:=(List.getElem?_eq_some_iff.mp h9).1;omega)
  ·have:=hC.len
   rw[List.length_set]
   rcases a1.rows with ⟨rfl,_⟩|⟨j2,q',rfl,_,_,_,_,h9⟩
   ·cases hj
   ·obtain rfl:j2=j':=Option.some.inj hj
    omega
  ·have cs2:Cs A H2 z (bckS s1 i j c out) L:=⟨a2,hC.cs.l0,fun r hr=>hC.cs.lb r (abp.mp ((a1.alsB hC.tw hc).mem_iff.mp (abp.mpr hr)))⟩
   have cs3:=cs2.mv m3 W2.lv (by simp)
   refine q H' _ _ (hC.bck a1 hc hc0 cs3 a3 a4 W3) (((m1.zv hC.wr.lv (by simp)).trans (z2.sub (by simp))).trans (m3.zv W2.lv (by simp))) ?_
   refine⟨?_,?_⟩
   ·show (w.fr.set i (some c0)).length=_
    rw[List.length_set]
   ·show (movS w.fr (w.sr.set j none) i (out.map (·.1))).length=_
    cases out with
    |none=>show (w.sr.set j none).length=_;rw[List.length_set]
    |some x=>show ((w.sr.set j none).set _ _).length=_;rw[List.length_set,List.length_set]
noncomputable def Sim2 (s w:St):Prop:=Paired SimR s.fr w.fr∧Paired SimR s.sr w.sr
theorem Sim2.rw {s w:St} (h:Sim2 s w) (f:Bool):Paired SimR (s.rw f) (w.rw f):=by cases f with|true=>exact h.1|false=>exact h.2
theorem Sim2.put {s w:St} (h:Sim2 s w) {f:Bool} {j:Nat} {a b:Option Sh} (e:SimR a b):Sim2 (s.put f j a) (w.put f j b):=by
 cases f with
 |true=>exact⟨acw e j h.1,h.2⟩
 |false=>exact⟨h.1,acw e j h.2⟩
theorem afx {s:St} {f:Bool} {j:Nat}:(emptS s f j).fr=(s.put f j none).fr∧(emptS s f j).sr=(s.put f j none).sr:=by
 cases f with
 |true=>exact⟨acb.1,acb.2.1⟩
 |false=>exact⟨rfl,rfl⟩
theorem Sim2.empt {s w:St} (h:Sim2 s w) {f:Bool} {j:Nat}:Sim2 (emptS s f j) (w.put f j none):=by
 have:=h.put (f:=f) (j:=j) (show SimR none none from trivial)
 unfold Sim2
 rw[afx.1,afx.2]
 exact this
theorem Sim2.lk {s w:St} (h:Sim2 s w) {p:Bool×Nat} {r:Sh} (e:lkS s p=some r):∃g,lkS w p=some g∧g.b=r.b∧g.ks.Perm r.ks:=by
 obtain⟨g,h1,h2⟩:=aff (h.rw p.1) (aek e)
 exact⟨g,by unfold lkS;rw[h1];rfl,h2⟩
theorem am2 {a b:List (List Key)} (h:a.Perm b):bnk a=bnk b:=by
 unfold bnk
 rw[Bool.eq_iff_iff,List.any_eq_true,List.any_eq_true]
 exact⟨fun ⟨x,h1,h2⟩=>⟨x,h.mem_iff.mp h1,h2⟩,fun ⟨x,h1,h2⟩=>⟨x,h.mem_iff.mpr h1,h2⟩⟩
noncomputable abbrev Mo:=(Bool×Nat)×(Bool×Nat)
noncomputable def lmv (w:St) (m:Mo):St:=match lkS w m.1,lkS w m.2 with
 |some g,some k=>(w.put m.2.1 m.2.2 (some {k with ks:=k.ks++g.ks})).put m.1.1 m.1.2 none
 |_,_=>w
theorem akd {w:St} {m:Mo} {g k:Sh} (h1:lkS w m.1=some g) (h2:lkS w m.2=some k):lmv w m=(w.put m.2.1 m.2.2 (some {k with ks:=k.ks++g.ks})).put m.1.1 m.1.2 none:=by unfold lmv;rw[h1,h2]
noncomputable def lmvs (w:St) (M:List Mo):St:=M.foldl lmv w
noncomputable def rk (n:Nat) (p:Bool×Nat):Nat:=if p.1=true then p.2 else n+p.2
theorem ake {s:St} {a:Nat} {p:Bool×Nat} (h:(spA s)[a]?=some p):a=rk s.fr.length p:=by
 unfold spA at h
 rw[List.getElem?_append] at h
 split at h
 ·rename_i c
  rw[List.length_map,List.length_range] at c
  rw[List.getElem?_map,List.getElem?_range c] at h
  have h:(true,a)=p:=Option.some.inj h
  rw[←h];rfl
 ·rename_i c
  rw[List.length_map,List.length_range] at c h
  rw[List.getElem?_map] at h
  cases e:(List.range s.sr.length)[a - s.fr.length]? with
  |none=>rw[e] at h;cases h
  |some x=>
   rw[e] at h
   have h:(false,x)=p:=Option.some.inj h
   obtain⟨y1,y2⟩:=List.getElem?_eq_some_iff.mp e
   rw[List.getElem_range] at y2
   rw[←h]
   show a=s.fr.length+x
   omega
structure GoodM (w:St) (m:Mo) (g k:Sh):Prop where
 hg:lkS w m.1=some g
 hk:lkS w m.2=some k
 b:g.b=k.b
 ng:bnk g.ks=false
 nk:bnk k.ks=false
 ne:m.1≠m.2
 up:rk w.fr.length m.2 < rk w.fr.length m.1
theorem apd {w:St} {m:Mo} {g k:Sh} {α:Type} {f:Sh→α} (h:GoodM w m g k) (hf:f {k with ks:=k.ks++g.ks}=f k) (nd:((alS w).map f).Nodup):((alS (lmv w m)).map f).Nodup:=by
 rw[akd h.hg h.hk]
 obtain⟨a1,a2⟩:=ad7 (s:=w) (r':={k with ks:=k.ks++g.ks}) (aek h.hk)
 have e1:((w.put m.2.1 m.2.2 (some {k with ks:=k.ks++g.ks})).rw m.1.1)[m.1.2]?=some (some g):=by
  rw[ag6 (fun z=>h.ne (Prod.ext z.1 z.2))];exact aek h.hg
 have a3:=(ad7 (r':=g) e1).1
 have p1:=(a1.map f)
 have p2:=(a2.map f)
 rw[List.map_cons] at p1
 rw[List.map_cons,hf] at p2
 have p3:=(p1.trans p2.symm).nodup_iff.mp nd
 have p4:=(a3.map f).nodup_iff.mp p3
 rw[List.map_cons] at p4
 exact (List.nodup_cons.mp p4).2
theorem aqt {w:St} {m:Mo}:(lmv w m).fr.length=w.fr.length∧(lmv w m).sr.length=w.sr.length:=by
 have go:∀(w:St) (f:Bool) (j:Nat) (o:Option Sh),(w.put f j o).fr.length=w.fr.length∧(w.put f j o).sr.length=w.sr.length:=fun w f j o=>by
  cases f with
  |true=>exact⟨List.length_set,rfl⟩
  |false=>exact⟨rfl,List.length_set⟩
 unfold lmv
 split
 ·rename_i g k _ _
  obtain⟨a,b⟩:=go w m.2.1 m.2.2 (some {k with ks:=k.ks++g.ks})
  obtain⟨c,d⟩:=go (w.put m.2.1 m.2.2 (some {k with ks:=k.ks++g.ks})) m.1.1 m.1.2 none
  exact⟨c.trans a,d.trans b⟩
 ·exact⟨rfl,rfl⟩
structure Fw (s0 w0:St) (i:Nat) (x:Fs):Prop where
 si:Sim2 x.s (lmvs w0 x.M)
 len:(lmvs w0 x.M).fr.length=s0.fr.length
 good:∀a m,x.M[a]?=some m→∃g k,GoodM (lmvs w0 (x.M.take a)) m g k
 nd:(x.F.map (·.1)).Nodup
 all:∀a p r,a < i→(spA s0)[a]?=some p→lkS x.s p=some r→bnk r.ks=false→(r.b,p)∈x.F
 bxs:∃rest,((alS s0).map Sh.bx).Perm (rest++(alS x.s).map Sh.bx)
 ok:∀r∈alS x.s,r.ks≠[]∧r.b.length=2
 hks:(hk x.s).Perm (hk s0)
theorem Fw.next {s0 w0:St} {i:Nat} {x:Fs} {p:Bool×Nat} (h:Fw s0 w0 i x) (f:Fi s0 i x) (hp:(spA s0)[i]?=some p):Fw s0 w0 (i+1) (fstep x p):=by
 have uq:∀a,(spA s0)[a]?=some p→a=i:=fun a ha=>(ake ha).trans (ake hp).symm
 have more:(∀r,lkS x.s p=some r→bnk r.ks=false→(r.b,p)∈x.F)→Fw s0 w0 (i+1) x:=fun z=>⟨h.si,h.len,h.good,h.nd,fun a q r ha hq hl hb=>by
  by_cases c:a=i
  ·subst c
   rw[hp] at hq
   cases hq
   exact z r hl hb
  ·exact h.all a q r (by omega) hq hl hb,h.bxs,h.ok,h.hks⟩
 unfold fstep
 cases e1:lkS x.s p with
 |none=>exact more fun r z=>by rw[e1] at z;cases z
 |some r=>
  show Fw s0 w0 (i+1) (if bnk r.ks=true then x else _)
  split
  ·rename_i hb
   exact more fun r' z hz=>by rw[e1] at z;cases z;rw[hb] at hz;cases hz
  ·rename_i hb
   have hrb:bnk r.ks=false:=by cases hx:bnk r.ks with|true=>exact absurd hx hb|false=>rfl
   cases e2:x.F.find? fun e=>decide (e.1=r.b) with
   |none=>
    refine⟨h.si,h.len,h.good,?_,fun a q r' ha hq hl hb'=>?_,h.bxs,h.ok,h.hks⟩
    ·show ((x.F++[(r.b,p)]).map (·.1)).Nodup
     rw[List.map_append,List.nodup_append]
     refine⟨h.nd,List.nodup_cons.mpr ⟨List.not_mem_nil,.nil⟩,fun a ha b hb' e=>?_⟩
     obtain⟨y,h1,h2⟩:=List.mem_map.mp ha
     have:=List.find?_eq_none.mp e2 y h1
     rw[List.mem_singleton.mp hb'] at e
     exact this (decide_eq_true (h2.trans e))
    ·by_cases c:a=i
     ·subst c
      rw[hp] at hq
      cases hq
      have hl:lkS x.s p=some r':=hl
      rw[e1] at hl
      cases hl
      exact List.mem_append_right _ (List.mem_singleton.mpr rfl)
     ·exact List.mem_append_left _ (h.all a q r' (by omega) hq hl hb')
   |some e=>
    have heF:=List.mem_of_find?_eq_some e2
    have heb:e.1=r.b:=by have:=List.find?_some e2;simpa using this
    obtain⟨⟨q,hq,hqb,hqn⟩,a0,ha0,hea⟩:=f.first e heF
    show Fw s0 w0 (i+1) (match lkS x.s e.2 with|none=>x|some q=>{x with s:=ovS x.s p.1 p.2 e.2.1 e.2.2 r q,M:=x.M++[(p,e.2)]})
    rw[hq]
    have hpe:p≠e.2:=fun z=>by
     rw[←z] at hea
     have:=uq a0 hea
     omega
    have hne:¬(p.1=e.2.1∧p.2=e.2.2):=fun z=>hpe (Prod.ext z.1 z.2)
    have pm:=aqo (aek e1) (aek hq) hne
    obtain⟨g,g1,g2,g3⟩:=h.si.lk e1
    obtain⟨k,k1,k2,k3⟩:=h.si.lk hq
    have G:GoodM (lmvs w0 x.M) (p,e.2) g k:=⟨g1,k1,by rw[g2,k2,hqb,heb],by rw[am2 g3];exact hrb,by rw[am2 k3];exact hqn,hpe,by
     rw[h.len,←ake hp,←ake hea];exact ha0⟩
    have eM:lmvs w0 (x.M++[(p,e.2)])=lmv (lmvs w0 x.M) (p,e.2):=by unfold lmvs;rw[List.foldl_append];rfl
    refine⟨?_,?_,fun a m hm=>?_,h.nd,fun a q' r' ha hq' hl hb'=>?_,?_,fun r' hr'=>?_,?_⟩
    ·show Sim2 (ovS x.s p.1 p.2 e.2.1 e.2.2 r q) (lmvs w0 (x.M++[(p,e.2)]))
     rw[eM,akd g1 k1]
     have hs:SimR (some (ovK q (srt r.ks))) (some {k with ks:=k.ks++g.ks}):=⟨k2,show (k.ks++g.ks).Perm (q.ks++srt r.ks) from k3.append (g3.trans ab8.symm)⟩
     exact Sim2.empt (h.si.put hs)
    ·show (lmvs w0 (x.M++[(p,e.2)])).fr.length=_
     rw[eM,aqt.1];exact h.len
    ·have hm:(x.M++[(p,e.2)])[a]?=some m:=hm
     show ∃g k,GoodM (lmvs w0 ((x.M++[(p,e.2)]).take a)) m g k
     rw[List.getElem?_append] at hm
     split at hm
     ·rename_i c
      rw[List.take_append_of_le_length (by omega)]
      exact h.good a m hm
     ·rename_i c
      have ea:a=x.M.length:=by
       have:=(List.getElem?_eq_some_iff.mp hm).1
       have:a - x.M.length < 1:=this
       omega
      subst ea
      rw[Nat.sub_self] at hm
      have hm:(p,e.2)=m:=Option.some.inj hm
      rw[←hm,List.take_left]
      exact⟨g,k,G⟩
    ·have hl:lkS (ovS x.s p.1 p.2 e.2.1 e.2.2 r q) q'=some r':=hl
     show (r'.b,q')∈x.F
     by_cases c:q'=p
     ·subst c
      exfalso
      unfold ovS at hl
      have hl':lkS ((x.s.put e.2.1 e.2.2 (some (ovK q (srt r.ks)))).put q'.1 q'.2 none) q'=some r':=by
       have er:∀f,(emptS (x.s.put e.2.1 e.2.2 (some (ovK q (srt r.ks)))) q'.1 q'.2).rw f=((x.s.put e.2.1 e.2.2 (some (ovK q (srt r.ks)))).put q'.1 q'.2 none).rw f:=fun f=>by
        cases f with
        |true=>exact afx.1
        |false=>exact afx.2
       unfold lkS at hl ⊢
       rw[er] at hl
       exact hl
      have:=aek hl'
      rw[amy (by have:=(List.getElem?_eq_some_iff.mp this).1;rw[amt] at this;exact this)] at this
      cases this
     ·rw[lk_ov (aek hq) (fun z=>c (Prod.ext z.1 z.2))] at hl
      split at hl
      ·rename_i ee
       cases hl
       have:q'=e.2:=Prod.ext ee.1 ee.2
       rw[this]
       show (q.b,e.2)∈x.F
       rw[hqb]
       exact heF
      ·have hai:a≠i:=fun z=>by
        rw[z,hp] at hq'
        exact c (Option.some.inj hq').symm
       exact h.all a q' r' (by omega) hq' hl hb'
    ·obtain⟨rest,hrest⟩:=h.bxs
     refine⟨rest++[r.bx],?_⟩
     have p9:=pm.map Sh.bx
     rw[List.map_cons,List.map_cons,List.map_cons] at p9
     have p8:((alS x.s).map Sh.bx).Perm (r.bx::(alS (ovS x.s p.1 p.2 e.2.1 e.2.2 r q)).map Sh.bx):=(List.perm_cons q.bx).mp p9
     rw[List.append_assoc]
     exact hrest.trans (p8.append_left rest)
    ·have hr':r'∈alS (ovS x.s p.1 p.2 e.2.1 e.2.2 r q):=hr'
     rcases List.mem_cons.mp (pm.mem_iff.mpr (List.mem_cons_of_mem _ (List.mem_cons_of_mem _ hr'))) with rfl|h9
     ·obtain⟨o1,o2⟩:=h.ok q (abp.mpr (by
       have:=aek hq
       have mm:=List.mem_of_getElem? this
       cases hf:e.2.1 with
       |true=>rw[hf] at mm;exact .inl mm
       |false=>rw[hf] at mm;exact .inr mm))
      refine⟨fun z=>o1 ?_,o2⟩
      exact (List.append_eq_nil_iff.mp z).1
     ·exact h.ok r' h9
    ·refine List.Perm.trans ?_ h.hks
     show ((alS (ovS x.s p.1 p.2 e.2.1 e.2.2 r q)).flatMap Sh.ks).Perm ((alS x.s).flatMap Sh.ks)
     have p9:=pm.flatMap_right Sh.ks
     rw[List.flatMap_cons,List.flatMap_cons,List.flatMap_cons] at p9
     have p9:((q.ks++srt r.ks)++(alS x.s).flatMap Sh.ks).Perm (q.ks++(r.ks++(alS (ovS x.s p.1 p.2 e.2.1 e.2.2 r q)).flatMap Sh.ks)):=p9
     rw[List.append_assoc] at p9
     have p8:=(List.perm_append_left_iff _).mp p9
     exact ((List.perm_append_left_iff _).mp ((ab8.symm.append_right _).trans p8)).symm
theorem ape {s w:St} (f0:Fi s 0 ⟨[],s,[]⟩) (h0:Fw s w 0 ⟨[],s,[]⟩):∀i,i≤(spA s).length→Fi s i (foldN s i)∧Fw s w i (foldN s i)
 |0,_=>⟨f0,h0⟩
 |i+1,hi=>by
  obtain⟨a,b⟩:=ape f0 h0 i (by omega)
  obtain⟨p,hp⟩:∃p,(spA s)[i]?=some p:=⟨_,List.getElem?_eq_getElem (by omega)⟩
  rw[ahi hp]
  exact⟨a.next hp,b.next a hp⟩
theorem C8.fw {A:Adr} {H:Hp} {z:Ss} {s:St} {L:Lb} {wh wf ws:Addr} {w:St} {n:Nat} (h:C8 A H z s L wh wf ws w n) (hn:n < 64):Fw s w (spA s).length (foldS s):=
 (ape (h.fi hn) ⟨⟨h.sf,h.sr⟩,h.len.1,(fun a m z=>by cases z),.nil,(fun a p r z=>by omega),⟨[],List.Perm.refl _⟩,h.ok,List.Perm.refl _⟩ _ (Nat.le_refl _)).2
theorem Fw.apart {s w:St} (h:Fw s w (spA s).length (foldS s)) (hl:(foldS s).s.fr.length=s.fr.length) (hl2:(foldS s).s.sr.length=s.sr.length) {p q:Bool×Nat} {g k:Sh} (h1:lkS (lmvs w (foldS s).M) p=some g) (h2:lkS (lmvs w (foldS s).M) q=some k) (n1:bnk g.ks=false) (n2:bnk k.ks=false) (e:g.b=k.b):p=q:=by
 have back:∀{p g},lkS (lmvs w (foldS s).M) p=some g→bnk g.ks=false→(g.b,p)∈(foldS s).F:=fun {p g} h1 n1=>by
  obtain⟨r,r1,r2,r3⟩:=afw (h.si.rw p.1) (aek h1)
  have hp:∃a < (spA s).length,(spA s)[a]?=some p:=by
   have hm:p∈spA s:=by
    unfold spA
    have:=(List.getElem?_eq_some_iff.mp r1).1
    obtain⟨f,j⟩:=p
    cases f with
    |true=>exact List.mem_append_left _ (List.mem_map.mpr ⟨j,List.mem_range.mpr (by rw[←hl];exact this),rfl⟩)
    |false=>exact List.mem_append_right _ (List.mem_map.mpr ⟨j,List.mem_range.mpr (by rw[←hl2];exact this),rfl⟩)
   obtain⟨a,ha⟩:=List.mem_iff_getElem?.mp hm
   exact⟨a,(List.getElem?_eq_some_iff.mp ha).1,ha⟩
  obtain⟨a,ha,hap⟩:=hp
  rw[r2]
  exact h.all a p r ha hap (by unfold lkS;rw[r1];rfl) (by rw[←am2 r3];exact n1)
 have m1:=back h1 n1
 have m2:=back h2 n2
 rw[e] at m1
 have nd:=h.nd
 obtain⟨a,ha⟩:=List.mem_iff_getElem?.mp m1
 obtain⟨b,hb⟩:=List.mem_iff_getElem?.mp m2
 obtain⟨a1,a2⟩:=List.getElem?_eq_some_iff.mp ha
 obtain⟨b1,b2⟩:=List.getElem?_eq_some_iff.mp hb
 have hab:a=b:=by
  have:=(List.getElem_inj (i:=a) (j:=b) (h₀:=by rw[List.length_map];exact a1) (h₁:=by rw[List.length_map];exact b1) nd).mp (by rw[List.getElem_map,List.getElem_map,a2,b2])
  exact this
 subst hab
 rw[a2] at b2
 exact (Prod.mk.inj b2).2
theorem ag0 {α β:Type} {F F':α→β→Prop}:∀{us:List α} {ys:List β},Paired F us ys→(∀(i:Nat) u y,us[i]?=some u→ys[i]?=some y→F u y→F' u y)→Paired F' us ys
 |_,_,.nil,_=>.nil
 |_,_,.cons r t,h=>.cons (h 0 _ _ rfl rfl r) (ag0 t fun i u y a b c=>h (i+1) u y (by simpa using a) (by simpa using b) c)
theorem ajh {α β:Type} {F F':α→β→Prop}:∀{us:List α} {ys:List β} {j:Nat} {y':β},Paired F us ys→(∀u y,us[j]?=some u→ys[j]?=some y→F u y→F' u y')→(∀(i:Nat) u y,i≠j→us[i]?=some u→ys[i]?=some y→F u y→F' u y)→Paired F' us (ys.set j y')
 |_,_,_,_,.nil,_,_=>.nil
 |_,_,0,_,.cons r t,h1,h2=>.cons (h1 _ _ rfl rfl r) (ag0 t fun i u y a b c=>h2 (i+1) u y (by omega) (by simpa using a) (by simpa using b) c)
 |_,_,j+1,_,.cons r t,h1,h2=>.cons (h2 0 _ _ (by omega) rfl rfl r) (ajh t (fun u y a b c=>h1 u y (by simpa using a) (by simpa using b) c) (fun i u y hi a b c=>h2 (i+1) u y (by omega) (by simpa using a) (by simpa using b) c))
theorem al_ne {w:St} {α:Type} {g:Sh→α} (nd:((alS w).map g).Nodup) {f f':Bool} {j j':Nat} {r q:Sh} (h1:(w.rw f)[j]?=some (some r)) (h2:(w.rw f')[j']?=some (some q)) (hne:¬(f'=f∧j'=j)):g q≠g r:=fun e=>by
 have a1:=(ad7 (r':=r) h1).1
 have h3:=(a1.map g).nodup_iff.mp nd
 rw[List.map_cons] at h3
 refine (List.nodup_cons.mp h3).1 (List.mem_map.mpr ⟨q,abp.mpr ?_,e⟩)
 have h4:((w.put f j none).rw f')[j']?=some (some q):=by rw[ag6 hne];exact h2
 have h5:=List.mem_of_getElem? h4
 cases f' with
 |true=>exact .inl h5
 |false=>exact .inr h5
section
variable {H H':Hp} {L L':Lb} {wh wf ws:Addr} {w:St}
theorem R2.oth {v:V} {q:Sh} {a:Addr} {us0 us':List V} (h:R2 H L v (some q)) (ha:H a=some (.lst us0)) (la:L a=3∨L a=4) (n1:q.bx≠a) (n2:q.hd≠a):R2 (upd H a (.lst us')) L v (some q):=by
 obtain⟨e,h1,h2,⟨ws,h3,h4⟩,l1,l2,l3⟩:=h
 have n0:q.sh≠a:=fun e=>by rw[e] at l1;omega
 exact⟨e,by rw[aaf n0];exact h1,by rw[aaf n1];exact h2,⟨ws,by rw[aaf n2];exact h3,Paired.mapP h4 fun _ _ ⟨x,e,q⟩=>⟨x,e,by rw[aaf (aca q ha (fun z=>nomatch z))];exact q⟩⟩,l1,l2,l3⟩
theorem Wr.row (h:Wr H L wh wf ws w.fr w.sr) {a:Addr} {us0 us':List V} (ha:H a=some (.lst us0)) (la:L a=3∨L a=4) {f:Bool} {j:Nat} {r':Sh} (oth:∀f' j' q,(w.rw f')[j']?=some (some q)→¬(f'=f∧j'=j)→q.bx≠a∧q.hd≠a) (new:∀v o,(w.rw f)[j]?=some o→R2 H L v o→R2 (upd H a (.lst us')) L v (some r')):Wr (upd H a (.lst us')) L wh wf ws (w.put f j (some r')).fr (w.put f j (some r')).sr:=by
 obtain⟨us,f1,f2⟩:=h.hf
 obtain⟨vs,g1,g2⟩:=h.hs
 obtain⟨l1,l2,l3⟩:=h.l1
 have nn:∀{c},L c=1→c≠a:=fun hc e=>by rw[e] at hc;omega
 have other:∀f' (i:Nat) u y,¬(f'=f∧i=j)→(w.rw f')[i]?=some y→R2 H L u y→R2 (upd H a (.lst us')) L u y:=fun f' i u y hne hy hR=>by
  cases y with
  |none=>exact hR
  |some q=>obtain⟨n1,n2⟩:=oth f' i q hy hne;exact hR.oth ha la n1 n2
 cases f with
 |true=>exact⟨by rw[aaf (nn l1)];exact h.hw,⟨us,by rw[aaf (nn l2)];exact f1,ajh f2 (fun u y _ hy hR=>new u y hy hR) (fun i u y hi a b c=>other true i u y (fun z=>hi z.2) b c)⟩,⟨vs,by rw[aaf (nn l3)];exact g1,ag0 g2 fun i u y a b c=>other false i u y (fun z=>nomatch z.1) b c⟩,h.l1,h.ne,h.lv.set⟩
 |false=>exact⟨by rw[aaf (nn l1)];exact h.hw,⟨us,by rw[aaf (nn l2)];exact f1,ag0 f2 fun i u y a b c=>other true i u y (fun z=>nomatch z.1) b c⟩,⟨vs,by rw[aaf (nn l3)];exact g1,ajh g2 (fun u y _ hy hR=>new u y hy hR) (fun i u y hi a b c=>other false i u y (fun z=>hi z.2) b c)⟩,h.l1,h.ne,h.lv.set⟩
theorem Wr.ks (h:Wr H L wh wf ws w.fr w.sr) (hA:Ap w) {f:Bool} {j:Nat} {r:Sh} (hr:(w.rw f)[j]?=some (some r)) {us0 us':List V} {ks':List (List Key)} (h0:H r.hd=some (.lst us0)) (l4:L r.hd=4) (hk:Paired (fun v k=>∃a,v=V.ref a∧H a=some (.tup (k.map kV))) us' ks'):Wr (upd H r.hd (.lst us')) L wh wf ws (w.put f j (some {r with ks:=ks'})).fr (w.put f j (some {r with ks:=ks'})).sr:=by
 refine h.row h0 (.inr l4) (fun f' j' q hq hne=>⟨fun e=>?_,al_ne (af8.mp hA) hr hq hne⟩) (fun v o ho hR=>?_)
 ·obtain⟨us,f1,f2⟩:=h.hf
  obtain⟨vs,g1,g2⟩:=h.hs
  have l3:L q.bx=3:=by
   cases f' with
   |true=>obtain⟨_,_,hR⟩:=aa1 f2 hq;exact hR.2.2.2.2.2.1
   |false=>obtain⟨_,_,hR⟩:=aa1 g2 hq;exact hR.2.2.2.2.2.1
  rw[e,l4] at l3;omega
 ·rw[hr] at ho
  cases ho
  obtain⟨e,h1,h2,_,l1,l2,l3⟩:=hR
  exact⟨e,by rw[aaf (fun e=>by rw[e] at l1;omega)];exact h1,by rw[aaf (fun e=>by rw[e] at l2;omega)];exact h2,⟨us',aah,Paired.mapP hk fun _ _ ⟨x,e,q⟩=>⟨x,e,by rw[aaf (aca q h0 (fun z=>nomatch z))];exact q⟩⟩,l1,l2,l3⟩
theorem Wr.bx (h:Wr H L wh wf ws w.fr w.sr) (hB:Bx w) {f:Bool} {j:Nat} {r:Sh} (hr:(w.rw f)[j]?=some (some r)) {us0:List V} {b':List Int} (h0:H r.bx=some (.lst us0)) (l3:L r.bx=3):Wr (upd H r.bx (.lst (b'.map V.int))) L wh wf ws (w.put f j (some {r with b:=b'})).fr (w.put f j (some {r with b:=b'})).sr:=by
 refine h.row h0 (.inl l3) (fun f' j' q hq hne=>⟨al_ne hB hr hq hne,fun e=>?_⟩) (fun v o ho hR=>?_)
 ·obtain⟨us,f1,f2⟩:=h.hf
  obtain⟨vs,g1,g2⟩:=h.hs
  have l4:L q.hd=4:=by
   cases f' with
   |true=>obtain⟨_,_,hR⟩:=aa1 f2 hq;exact hR.2.2.2.2.2.2
   |false=>obtain⟨_,_,hR⟩:=aa1 g2 hq;exact hR.2.2.2.2.2.2
  rw[e,l3] at l4;omega
 ·rw[hr] at ho
  cases ho
  obtain⟨e,h1,h2,⟨us,d1,d2⟩,l1,l2,l4⟩:=hR
  exact⟨e,by rw[aaf (fun e=>by rw[e] at l1;omega)];exact h1,aah,⟨us,by rw[aaf (fun e=>by rw[e] at l4;omega)];exact d1,Paired.mapP d2 fun _ _ ⟨x,e,q⟩=>⟨x,e,by rw[aaf (aca q h0 (fun z=>nomatch z))];exact q⟩⟩,l1,l2,l4⟩
theorem Wr.at (h:Wr H L wh wf ws w.fr w.sr) (f:Bool):∃us,H (if f=true then wf else ws)=some (.lst us)∧Paired (R2 H L) us (w.rw f):=by
 cases f with
 |true=>exact h.hf
 |false=>exact h.hs
theorem Wr.got (h:Wr H L wh wf ws w.fr w.sr) {f:Bool} {j:Nat} {r:Sh} (hr:(w.rw f)[j]?=some (some r)):R2 H L (.ref r.sh) (some r):=by
 obtain⟨us,_,h2⟩:=h.at f
 obtain⟨v,_,hR⟩:=aa1 h2 hr
 rw[←hR.1];exact hR
end
noncomputable def sp_rank:Sp:=fun vs H Q _=>∃(L:Lb) (wh wf ws t:Addr) (w:St) (p:Bool×Nat),vs=[.ref wh,.ref t]∧Wr H L wh wf ws w.fr w.sr∧H t=some (.tup [.str (nmS p.1),.int (p.2:Int)])∧Q (.int (rk w.fr.length p:Nat)) H
theorem h_rank (T:Txt K mg A):Have P w K mg base "_law_rank" 1 ["_law_where","_law_spot"] [] sp_rank:=by
 refine T.r_l_rank.have amh (fun vs H Q E z=>?_) ?_
 ·obtain⟨L,wh,wf,ws,t,w,p,rfl,_⟩:=z;rfl
 ·intro f cdv A' outer s H vs Q E hr z
  obtain⟨L,wh,wf,ws,t,w,⟨f9,j9⟩,rfl,hW,ht,q⟩:=z
  obtain⟨us,f1,f2⟩:=hW.hf
  refine⟨_,(aak (abo (aao adb (aam aa0 (pvM 1) aab (fun _ _=>rfl)) acy (nomark _)) (aag (aav (aam aa0 (pvM 1) aab (fun _ _=>rfl)))) aas)
   (aag (aav (aay adv (aar aa2 rfl T.b_len PySem.boot_len (aaa (aam aaj (pvM 0) aab (fun _ _=>rfl)) aad)) (aam aa0 (pvM 1) aab (fun _ _=>rfl)))))),?_⟩
  walk_at "wp"
  refine⟨_,SqT.of ht,.str (nmS f9),aac (j:=0) rfl,rfl,?_⟩
  cases f9 with
  |true=>
   rw[if_pos (show V.str (nmS true)=V.str (Str.ofString "frame") from rfl)]
   exact⟨_,SqT.of ht,.int j9,aac (j:=1) rfl,q⟩
  |false=>
   rw[if_neg (fun z=>absurd (V.str.inj z) (by decide+kernel))]
   refine⟨_,SqL.of hW.hw,_,aac (j:=0) rfl,us.length,.inl ⟨_,SqL.of f1,rfl⟩,_,SqT.of ht,.int j9,aac (j:=1) rfl,_,rfl,?_⟩
   rw[Paired.length f2]
   exact q
noncomputable def k1 (k:List Key):V:=match k with
 |x::_=>kV x
 |[]=>.non
theorem am3 {ks:List (List Key)} (tri:∀k∈ks,Tri k):inV (V.str (Str.ofString "bank")) (ks.map k1)=bnk ks:=by
 unfold inV bnk
 rw[List.any_map]
 induction ks with
 |nil=>rfl
 |cons k ks ih=>
  rw[List.any_cons,List.any_cons,ih fun x hx=>tri x (List.mem_cons_of_mem _ hx)]
  congr 1
  obtain⟨t,a,b,rfl⟩:=tri k (List.mem_cons_self ..)
  show eqV (kV (.inr t)) (kV (.inr (Str.ofString "bank")))=bkK [.inr t,.inl a,.inl b]
  rw[aow]
  unfold bkK
  by_cases e:t=Str.ofString "bank"
  ·subst e;exact (decide_eq_true rfl).trans (decide_eq_true rfl).symm
  ·exact (decide_eq_false (fun z=>e (Sum.inr.inj z))).trans (decide_eq_false (fun z=>e (Sum.inr.inj (Option.some.inj z)))).symm
theorem am4 {ks:List (List Key)} (tri:∀k∈ks,Tri k):(ks.map k1).all flatV=true:=by
 rw[List.all_eq_true]
 intro v hv
 obtain⟨k,hk,rfl⟩:=List.mem_map.mp hv
 obtain⟨t,a,b,rfl⟩:=tri k hk
 rfl
theorem ahj {K:PySem.W.Frag} {a D:Addr} {us:List V} {ks:List (List Key)} {H:Hp} {Q:Hp→Prop} {h:HidC (gName 0) tYes (tOp (rIxT K) (tVarM 0) (tC (V.int 0)))} (hD:H D=none) (ha:H a=some (.lst us)) (hk:Paired (fun v k=>∃a,v=V.ref a∧H a=some (.tup (k.map kV))) us ks) (tri:∀k∈ks,Tri k) (hl:ks.length≤2000) (q:∀H',Same H H'→H' D=some (.lst (ks.map k1))→Q H'):Comp (gName 0) tYes (tOp (rIxT K) (tVarM 0) (tC (V.int 0))) h (Itl K a) [none] D Q H:=by
 have hul:=Paired.length hk
 have hz:=PySem.sizeLine_eq
 refine ae0 (xs:=us) (fun i ys σ H'=>∃v,σ=[v]∧Same H H'∧ys=(ks.take i).map k1∧H' D=some (.lst ys)) ⟨_,rfl,aau aae hD,rfl,aah⟩ (fun i ys σ H' _ ⟨_,_,s2,_⟩=>SqL.of (s2 _ _ ha)) (fun i v ys σ H' hi=>?_) (fun ys σ H6=>?_)
 ·rintro⟨v',rfl,s2,rfl,hD2⟩
  obtain⟨k,hk1,b,rfl,hb⟩:=acn hk hi
  obtain⟨t,a1,b1,rfl⟩:=tri k (List.mem_of_getElem? hk1)
  have hil:=(List.getElem?_eq_some_iff.mp hk1).1
  have htk:ks.take (i+1)=ks.take i++[[.inr t,.inl a1,.inl b1]]:=by rw[List.take_add_one,hk1];rfl
  walk_at "wp"
  refine⟨_,SqT.of (s2 _ _ hb),.str t,aac (j:=0) rfl,hD2,by rw[List.length_map,List.length_take];omega,abg s2 hD,?_⟩
  rw[htk,List.map_append]
  rfl
 ·rintro⟨v',rfl,s2,rfl,hD2⟩
  rw[hul,List.take_length] at hD2
  exact q H6 s2 hD2
noncomputable def AlI (H:Hp) (w:St) (us:List V) (sn p:Addr) (i:Nat) (G:Hp):Prop:=∃bs xs,Same H G∧G p=some (.lst us)∧G sn=some (.lst xs)∧LsAt H bs xs∧bs.length≤i∧∀b∈bs,∃a < i,∃r,(w.fr++w.sr)[a]?=some (some r)∧bnk r.ks=false∧r.b=b
theorem AlI.up {H G G':Hp} {w:St} {us:List V} {sn p:Addr} {i:Nat} (h:AlI H w us sn p i G) (s:Same G G'):AlI H w us sn p (i+1) G':=by
 obtain⟨bs,xs,e1,e2,e3,e4,e5,e6⟩:=h
 exact⟨bs,xs,e1.trans s,s _ _ e2,s _ _ e3,e4,by omega,fun b hb=>let ⟨a,ha,z⟩:=e6 b hb;⟨a,by omega,z⟩⟩
noncomputable def sp_alike:Sp:=fun vs H Q _=>∃(L:Lb) (wh wf ws:Addr) (w:St),vs=[.ref wh]∧Wr H L wh wf ws w.fr w.sr∧w.fr.length≤64∧w.sr.length≤64∧(∀r∈alS w,r.ks.length≤1000∧∀k∈r.ks,Tri k)∧
 (∀(i j:Nat) g k,(w.fr++w.sr)[i]?=some (some g)→(w.fr++w.sr)[j]?=some (some k)→bnk g.ks=false→bnk k.ks=false→g.b=k.b→i=j)∧∀H',Same H H'→Q (.bl false) H'
theorem aqu (T:Txt K mg A):Have P w K mg base "_law_alike" 1 ["_law_where"] [] sp_alike:=by
 refine T.r_l_alike.have af2 (fun vs H Q E z=>?_) ?_
 ·obtain⟨L,wh,wf,ws,w,rfl,_⟩:=z;rfl
 ·intro f cdv A' outer s H vs Q E hr z
  obtain⟨L,wh,wf,ws,w,rfl,hW,hl1,hl2,hks,hap,q⟩:=z
  obtain⟨us,f1,f2⟩:=hW.hf
  obtain⟨vs,g1,g2⟩:=hW.hs
  have hul:=Paired.length f2
  have hvl:=Paired.length g2
  refine⟨_,(aal (aax (i:=1) af2.nd rfl (Or.inl rfl) (aco aad))
   (aal (ady PassesOwn.leaving rfl (adu (aay ag9 (aam aaj (pvM 0) aab (fun _ _=>rfl)) (aam aaj (pvM 0) aab (fun _ _=>rfl)))) (aa5 (i:=2) af2.nd rfl (Or.inl rfl)) (aag (abo (PW.pt (ad9 (aao ace (pvM 2) aaw (nomark _)) (adc (aao aig acy (ade rfl (adu (aam aaj (pvM 2) aab (fun _ _=>rfl))) (x:="_law_holder") (fs:=[]) (ix:=[]) rfl rfl (fun _ _ _ _ _ _=>(aa5 (i:=0) (show (["_law_holder"]:List Str).Nodup by decide+kernel) rfl (Or.inl rfl))) (fun _ _ _ _ _ _=>aeb) (fun _ _ _ _ _ _=>(aam (afl (K:=K) rfl) (pvM 0) aab (fun _ _=>rfl)))) (by with_unfolding_all rfl))))) (aak (abo (aao (op_inL (hu6 hr)) (aam aaj (pvM 2) aab (fun _ _=>rfl)) (pvM 1) (by with_unfolding_all rfl)) (aag (aav adp)) aas)
   (aag (aby (ag3 PySem.F.plainAttrs_list PySem.F.slot_list_append PySem.F.type_list_append adm (pvM 1) (aaa (aam aaj (pvM 2) aab (fun _ _=>rfl)) aad))))) aas)))
   (aag (aav adp)))),?_⟩
  refine⟨fun σ G=>∃sn,σ=[some (.ref wh),some (.ref sn),none]∧Same H G∧H sn=none∧G sn=some (.lst []),?_,fun σ1 G1=>?_⟩
  ·walk_at "wp"
   exact fun p hp=>⟨aau aae hp,hp⟩
  rintro⟨sn,rfl,s1,hsn,hs0⟩
  refine⟨fun σ G=>∃v2,σ=[some (.ref wh),some (.ref sn),v2]∧Same H G,?_,fun σ2 G2=>?_⟩
  ·walk_at "wp"
   refine⟨_,SqL.of (s1 _ _ hW.hw),_,aac (j:=0) rfl,_,SqL.of (s1 _ _ hW.hw),_,aac (j:=1) rfl,wf,rfl,ws,rfl,us,s1 _ _ f1,vs,s1 _ _ g1,by omega,fun p hp=>?_⟩
   have hp0:H p=none:=aai s1 hp
   obtain⟨b2,c2⟩:=aa4 (o:=.lst (us++vs)) hp
   have hPa:Paired (R2 H L) (us++vs) (w.fr++w.sr):=aeh f2 g2
   have hps:p≠sn:=fun e=>by rw[e,hs0] at hp;cases hp
   have hs9:=b2 _ _ hs0
   have s9:=s1.trans b2
   generalize upd G1 p _=G9 at *
   refine⟨⟨_,SqL.of c2⟩,aey (xs:=us++vs) (fun i σ G=>∃v2,σ=[some (.ref wh),some (.ref sn),v2]∧AlI H w (us++vs) sn p i G) ⟨_,rfl,[],[],s9,c2,hs9,.nil,Nat.le_refl _,fun b hb=>by cases hb⟩ (fun i σ G _ ⟨_,_,_,_,_,e,_⟩=>SqL.of e) (fun i v σ G hi=>?_) (fun σ G=>?_)⟩
   ·rintro⟨v2,rfl,hI⟩
    obtain⟨bs,xs,e1,e2,e3,e4,e5,e6⟩:=id hI
    obtain⟨o,ho1,ho2⟩:=acn hPa hi
    have hil:=(List.getElem?_eq_some_iff.mp hi).1
    rw[List.length_append] at hil
    walk_at "wp"
    cases o with
    |none=>
     obtain rfl:v=.non:=ho2
     exact ifn (by rw[decide_eq_true rfl];rfl) (hI.up aae)
    |some r=>
     obtain⟨rfl,d1,d2,⟨ts,d3,d4⟩,_⟩:=ho2
     obtain⟨hk1,hk2⟩:=hks r (by
      unfold alS
      exact ae7.mpr (List.mem_of_getElem? ho1))
     refine ifp (by rw[decide_eq_false (fun z=>nomatch z)];rfl) ⟨_,rfl,_,SqL.of (e1 _ _ d1),_,aac (j:=1) rfl,_,rfl,⟨_,SqL.of (e1 _ _ d3)⟩,fun D hD=>ahj hD (e1 _ _ d3) (Paired.mapP d4 fun _ _ ⟨x,e,q⟩=>⟨x,e,e1 _ _ q⟩) hk2 (by omega) fun H' s' hD'=>⟨_,.inl (SqL.of hD'),rfl,am4 hk2,?_⟩⟩
     rw[am3 hk2]
     cases c:bnk r.ks with
     |true=>exact iteF (hI.up s')
     |false=>
      refine iteT ⟨_,rfl,_,SqL.of (s' _ _ (e1 _ _ d1)),_,aac (j:=0) rfl,?_⟩
      have e1':=e1.trans s'
      refine⟨r.bx,sn,xs,r.b,bs,rfl,rfl,e1' _ _ d2,SqL.of (s' _ _ e3),Paired.mapP e4 fun _ _ ⟨x,e,q⟩=>⟨x,e,e1' _ _ q⟩,fun hin=>?_,fun hin=>?_⟩
      ·exfalso
       obtain⟨a,ha,r',h1,h2,h3⟩:=e6 _ hin
       have:=hap a i r' r h1 ho1 h2 c h3
       omega
      ·refine⟨false,rfl,iteF ⟨.inl ⟨rfl,_,SqL.of (s' _ _ e3)⟩,_,rfl,_,SqL.of (e1' _ _ d1),_,aac (j:=0) rfl,xs,s' _ _ e3,?_,?_⟩⟩
       ·have:=Paired.length e4
        omega
       ·refine⟨bs++[r.b],xs++[.ref r.bx],abg e1' hsn,?_,aah,aeh e4 (.cons ⟨r.bx,rfl,d2⟩ .nil),by rw[List.length_append];show bs.length+1≤i+1;omega,fun b hb=>?_⟩
        ·rw[aaf hps];exact s' _ _ e2
        ·rcases List.mem_append.mp hb with hb|hb
         ·obtain⟨a,ha,z⟩:=e6 b hb
          exact⟨a,by omega,z⟩
         ·rw[List.mem_singleton.mp hb]
          exact⟨i,by omega,r,ho1,c,rfl⟩
   ·rintro⟨v2,rfl,bs,xs,e1,_⟩
    exact⟨_,rfl,e1⟩
  rintro⟨v2,rfl,s2⟩
  walk_at "wp"
  exact q G2 s2
structure FlI (A:Adr) (H:Hp) (z:Ss) (s':St) (L:Lb) (wh wf ws:Addr) (w:St) (g:Addr) (ys:List V) (M:List Mo) (i:Nat) (G:Hp):Prop where
 cs:Cs A G z s' L
 wr:Wr G L wh wf ws (lmvs w (M.take i)).fr (lmvs w (M.take i)).sr
 wa:Ap (lmvs w (M.take i))
 wb:Bx (lmvs w (M.take i))
 gg:G g=some (.lst ys)
 mm:Paired (MvT G) ys M
 zv:Zv [1,4] L L H G
 lg:L g=0
 hp:(hk (lmvs w (M.take i))).Perm (hk w)
theorem GoodM.al {w:St} {m:Mo} {g k:Sh} (h:GoodM w m g k):∃Y,(alS w).Perm (k::g::Y)∧(alS (lmv w m)).Perm ({k with ks:=k.ks++g.ks}::Y):=by
 rw[akd h.hg h.hk]
 have hne:¬(m.1.1=m.2.1∧m.1.2=m.2.2):=fun z=>h.ne (Prod.ext z.1 z.2)
 obtain⟨a1,a2⟩:=ad7 (s:=w) (r':={k with ks:=k.ks++g.ks}) (aek h.hk)
 have e0:((w.put m.2.1 m.2.2 none).rw m.1.1)[m.1.2]?=some (some g):=by rw[ag6 hne];exact aek h.hg
 have e1:((w.put m.2.1 m.2.2 (some {k with ks:=k.ks++g.ks})).rw m.1.1)[m.1.2]?=some (some g):=by rw[ag6 hne];exact aek h.hg
 have a3:=(ad7 (r':=g) e0).1
 have a4:=(ad7 (r':=g) e1).1
 refine⟨_,a1.trans (List.Perm.cons k a3),?_⟩
 have p1:=a4.symm.trans (a2.trans (List.Perm.cons _ a3))
 exact (List.perm_cons g).mp (p1.trans (List.Perm.swap ..))
theorem apf {a b:List (Option Sh)} (h:Paired SimR a b):((als b).flatMap Sh.ks).Perm ((als a).flatMap Sh.ks):=by
 induction h with
 |nil=>exact List.Perm.refl _
 |@cons x y _ _ h t ih=>
  cases x with
  |none=>
   obtain rfl:=(aof h).mp rfl
   exact ih
  |some r=>
   cases y with
   |none=>exact h.elim
   |some w=>
    show ((w::als _).flatMap Sh.ks).Perm ((r::als _).flatMap Sh.ks)
    rw[List.flatMap_cons,List.flatMap_cons]
    exact h.2.append ih
theorem C8.hkw {A:Adr} {H:Hp} {z:Ss} {s:St} {L:Lb} {wh wf ws:Addr} {w:St} {n:Nat} (h:C8 A H z s L wh wf ws w n):(hk w).Perm (hk s):=by
 unfold hk alS
 rw[ab6,ab6,List.flatMap_append,List.flatMap_append]
 exact (apf h.sf).append (apf h.sr)
theorem Wr.setN {H:Hp} {L:Lb} {wh wf ws:Addr} {w:St} (h:Wr H L wh wf ws w.fr w.sr) {f:Bool} {us:List V} {i:Nat} (hu:H (if f=true then wf else ws)=some (.lst us)):Wr (upd H (if f=true then wf else ws) (.lst (us.set i .non))) L wh wf ws (w.put f i none).fr (w.put f i none).sr:=by
 cases f with
 |true=>exact h.setF hu (i:=i) (v:=.non) (o:=none) rfl
 |false=>exact h.setS hu (i:=i) (v:=.non) (o:=none) rfl
noncomputable def sp_fld (A:Adr):Sp:=fun vs H Q _=>∃(z:Ss) (s:St) (L:Lb) (wh wf ws:Addr) (w:St) (n:Nat),vs=[.ref z.p,.ref wh]∧C8 A H z s L wh wf ws w n∧n < 64∧
 ∀H' s' w',C8 A H' z s' L wh wf ws w' n→Zv [1,4] L L H H'→Q (.bl true) H'
theorem h_fld (T:Txt K mg A):Have P w K mg base "_law_folded" 5 ["_law_sheets","_law_where"] [] (sp_fld A):=by
 have H_Sheets_fold:=h_fold (P:=P) (w:=w) (base:=base) T
 have H_l_rank:=h_rank (P:=P) (w:=w) (base:=base) T
 have H_l_alike:=aqu (P:=P) (w:=w) (base:=base) T
 refine T.r_l_folded.have adh (fun vs H Q E z=>?_) ?_
 ·obtain⟨z,s,L,wh,wf,ws,w,n,rfl,_⟩:=z;rfl
 ·intro f cdv A' outer s H vs Q E hr z
  obtain⟨z,s,L,wh,wf,ws,w,n,rfl,hC,hn,q⟩:=z
  have FW:=hC.fw hn
  obtain⟨dx,hme⟩:=hC.cs.ss.me
  have hz:=PySem.sizeLine_eq
  have h64:=hC.cs.ss.len
  have hlen:=hC.len
  refine⟨_,(aal (aax (i:=2) adh.nd rfl (Or.inl rfl) (abb (pvM 0) T.cl_Sheets H_Sheets_fold (hr.mono (by decide)) aat))
   (aal (ady PassesOwn.leaving rfl (adu (pvM 2)) (aa5 (i:=3) adh.nd rfl (Or.inl rfl)) (aal (agr (i:=4) adh.nd rfl rfl rfl (pi_tup (pvM 3)) (x:="_law_spot") (fs:=["_law_where"]) (ix:=[1]) rfl rfl (fun _ _ _ _ _ _=>(aa5 (i:=0) (show (["_law_spot","_law_where"]:List Str).Nodup by decide+kernel) rfl (Or.inl rfl))) (fun _ _ _ _ _ _=>aeb) (fun _ _ _ _ _ _=>(aam (aec (K:=K) rfl) (pvM 1) (acf aex rfl T.b_int PyProof.Rows.boot_int (aaa (ac0 adb (aam (afl (K:=K) rfl) (pvM 0) aab (fun _ _=>rfl)) acy (nomark _)) aad)) (fun _ _=>rfl))))
   (aal (aax (i:=5) adh.nd rfl (Or.inl rfl) (aam aaj (aam aaj (pvM 4) aab (fun _ _=>rfl)) (aam aa0 (aam aa0 (pvM 3) aab (fun _ _=>rfl)) aab (fun _ _=>rfl)) (fun _ _=>rfl)))
   (aal (aax (i:=6) adh.nd rfl (Or.inl rfl) (aam aaj (aam aaj (pvM 4) aab (fun _ _=>rfl)) (aam aa0 (aam aa0 (pvM 3) aab (fun _ _=>rfl)) aab (fun _ _=>rfl)) (fun _ _=>rfl)))
   (aal (abo (PW.pt (ai2 (aao aea (pvM 5) aaw (nomark _)) (ai2 (aao aea (pvM 6) aaw (nomark _)) (ag7 (aao (alq (n:=4) (hu6 hr)) (aam aaj (pvM 5) aab (fun _ _=>rfl)) (aam aaj (pvM 6) aab (fun _ _=>rfl)) (nomark _)))))) (aag (aav adp)) aas)
   (aal (abo (aao op_ge (aba H_l_rank (hr.mono (by decide)) aat (aaa (pvM 1) (aaa (aam aa0 (pvM 3) aab (fun _ _=>rfl)) aad))) (aba H_l_rank (hr.mono (by decide)) aat (aaa (pvM 1) (aaa (aam aa0 (pvM 3) aab (fun _ _=>rfl)) aad))) (nomark _)) (aag (aav adp)) aas)
   (aal (abo (aao aif acy (ade rfl (adu (aay ag9 (aam aaj (pvM 5) aab (fun _ _=>rfl)) (aam aaj (pvM 6) aab (fun _ _=>rfl)))) (x:="_law_holder") (fs:=[]) (ix:=[]) rfl rfl (fun _ _ _ _ _ _=>(aa5 (i:=0) (show (["_law_holder"]:List Str).Nodup by decide+kernel) rfl (Or.inl rfl))) (fun _ _ _ _ _ _=>aeb) (fun _ _ _ _ _ _=>(aam (afl (K:=K) rfl) (pvM 0) aab (fun _ _=>rfl)))) (by with_unfolding_all rfl)) (aag (aav adp)) aas)
   (aal (aby (ag3 PySem.F.plainAttrs_list PySem.F.slot_list_extend PySem.F.type_list_extend alf (aam aaj (pvM 6) aab (fun _ _=>rfl)) (aaa (aam aaj (pvM 5) aab (fun _ _=>rfl)) aad)))
   (aag (ac6 aaw (ac5 (aam aaj (pvM 4) aab (fun _ _=>rfl)) (aam aa0 (aam aa0 (pvM 3) aab (fun _ _=>rfl)) aab (fun _ _=>rfl)) abx)))))))))))
   (aag (aav (aoj (aba H_l_alike (hr.mono (by decide)) aat (aaa (pvM 1) aad))))))),?_⟩
  refine⟨fun σ G=>∃g ys,σ=[some (.ref z.p),some (.ref wh),some (.ref g),none,none,none,none]∧FlI A H z (foldS s).s L wh wf ws w g ys (foldS s).M 0 G∧Ap (foldS s).s∧Tw (foldS s).s∧Fi s (spA s).length (foldS s),?_,fun σ1 G1=>?_⟩
  ·walk_at "wp"
   refine⟨dx,_,hme,abw (by decide+kernel),z,s,rfl,hC.cs.ss,hC.ap,hC.tw,hC.fi hn,fun H' g ys a1 a2 a3 a4 a5 a6 a7 a8 a9=>?_⟩
   have z1:=Zv.ks hC.cs.ss a1 a8 hC.cs.l0 hC.wr.lv a9
   refine⟨g,rfl,ys,⟨hC.cs2 a1 fun q' hq'=>?_,hC.wr.zv z1 (fun _ h=>by cases h) (hC.wr.lv.zv z1),hC.wa,hC.wb,a6,a7,z1.sub (by simp),hC.lb0 a5,List.Perm.refl _⟩,a2,a3,a4⟩
   obtain⟨rest,hrest⟩:=FW.bxs
   exact .inr (hrest.mem_iff.mpr (List.mem_append_right _ (List.mem_map.mpr ⟨q',abp.mpr hq',rfl⟩)))
  rintro⟨g,ys,rfl,I1,ap1,tw1,fi1⟩
  refine⟨fun σ G=>∃v3 v4 v5 v6,σ=[some (.ref z.p),some (.ref wh),some (.ref g),v3,v4,v5,v6]∧FlI A H z (foldS s).s L wh wf ws w g ys (foldS s).M (foldS s).M.length G,?_,fun σ2 G2=>?_⟩
  ·walk_at "wp"
   refine⟨⟨_,SqL.of I1.gg⟩,aey (xs:=ys) (fun i σ G=>∃v3 v4 v5 v6,σ=[some (.ref z.p),some (.ref wh),some (.ref g),v3,v4,v5,v6]∧FlI A H z (foldS s).s L wh wf ws w g ys (foldS s).M i G) ⟨_,_,_,_,rfl,I1⟩ (fun i σ G _ ⟨_,_,_,_,_,e⟩=>SqL.of e.gg) (fun i v σ G hi=>?_) (fun σ G=>?_)⟩
   ·rintro⟨v3,v4,v5,v6,rfl,I⟩
    obtain⟨m,hm,a,t1,t2,rfl,ha,⟨x1,e1,ht1⟩,⟨x2,e2,ht2⟩⟩:=acn I.mm hi
    cases e1
    cases e2
    obtain⟨⟨p1,j1⟩,⟨p2,j2⟩⟩:=m
    obtain⟨g0,k0,GM⟩:=FW.good i _ hm
    have hw1:=aek GM.hg
    have hw2:=aek GM.hk
    have hR1:=I.wr.got hw1
    have hR2:=I.wr.got hw2
    walk_at "wp"
    have el:∀(f:Bool),atI [V.ref wf,V.ref ws] (if V.str (nmS f)=V.str (Str.ofString "slot") then 1 else 0)=some (.ref (if f=true then wf else ws)):=fun f=>by
     cases f with
     |true=>rw[if_neg (fun z=>absurd (V.str.inj z) (by decide+kernel))];exact aac (j:=0) rfl
     |false=>rw[if_pos (show V.str (nmS false)=V.str (Str.ofString "slot") from rfl)];exact aac (j:=1) rfl
    have el1:=el p1
    have el2:=el p2
    have at1:=I.wr.at p1
    have at2:=I.wr.at p2
    have la1:L (if p1=true then wf else ws)=1:=by cases p1 with|true=>exact I.wr.l1.2.1|false=>exact I.wr.l1.2.2
    have hN:∀{us:List V} {G':Hp} {w':St},Wr G' L wh wf ws w'.fr w'.sr→G' (if p1=true then wf else ws)=some (.lst us)→Wr (upd G' (if p1=true then wf else ws) (.lst (us.set j1 .non))) L wh wf ws (w'.put p1 j1 none).fr (w'.put p1 j1 none).sr:=fun hW hu=>hW.setN hu
    generalize (if p1=true then wf else ws)=r1 at *
    generalize (if p2=true then wf else ws)=r2 at *
    obtain⟨us1,u11,u12⟩:=at1
    obtain⟨us2,u21,u22⟩:=at2
    obtain⟨v1,hv1,hV1⟩:=aa1 u12 hw1
    obtain⟨v2,hv2,hV2⟩:=aa1 u22 hw2
    obtain rfl:=hV1.1
    obtain rfl:=hV2.1
    have hul1:=Paired.length u12
    refine⟨fun σ G'=>∃rl,σ=[some (.ref z.p),some (.ref wh),some (.ref g),some (.ref a),some (.ref rl),v5,v6]∧Same G G'∧G rl=none∧G' rl=some (.lst [.ref r1,.ref r2]),?_,fun σ3 G3=>?_⟩
    ·walk_at "wp"
     refine⟨⟨_,SqT.of ha⟩,fun D hD=>anr (xs:=[.ref t1,.ref t2]) (fun i ys σ H'=>∃v,σ=[v,some (.ref wh)]∧Same G H'∧ys=([V.ref r1,.ref r2]).take i∧H' D=some (.lst ys)) ⟨_,rfl,aau aae hD,rfl,aah⟩ (fun i ys σ H' _ ⟨_,_,s2,_⟩=>SqT.of (s2 _ _ ha)) (fun i v ys σ H' hi=>?_) (fun ys σ H6=>?_)⟩
     ·rintro⟨v',rfl,s2,hys,hD2⟩
      walk_at "wp"
      match i,hi with
      |0,hi=>
       obtain rfl:V.ref t1=v:=Option.some.inj hi
       refine⟨_,rfl,_,SqT.of (s2 _ _ ht1),.str (nmS p1),aac (j:=0) rfl,rfl,.inr ⟨_,SqL.of (s2 _ _ I.wr.hw),_,el1,hD2,by rw[hys];show 0 < 16777216;decide,abg s2 hD,?_⟩⟩
       rw[hys];rfl
      |1,hi=>
       obtain rfl:V.ref t2=v:=Option.some.inj hi
       refine⟨_,rfl,_,SqT.of (s2 _ _ ht2),.str (nmS p2),aac (j:=0) rfl,rfl,.inr ⟨_,SqL.of (s2 _ _ I.wr.hw),_,el2,hD2,by rw[hys];show 1 < 16777216;decide,abg s2 hD,?_⟩⟩
       rw[hys];rfl
      |n+2,hi=>simp at hi
     ·rintro⟨v',rfl,s2,rfl,hD2⟩
      exact⟨s2,hD,hD2⟩
    rintro⟨rl,rfl,s3,hrl0,hrl⟩
    refine⟨fun σ G'=>σ=[some (.ref z.p),some (.ref wh),some (.ref g),some (.ref a),some (.ref rl),some (.ref g0.sh),v6]∧Same G3 G',?_,fun σ35 G35=>?_⟩
    ·walk_at "wp"
     exact⟨_,SqL.of hrl,_,aac (j:=0) rfl,_,SqT.of (s3 _ _ ha),_,aac (j:=0) rfl,_,rfl,_,SqT.of (s3 _ _ ht1),.int j1,aac (j:=1) rfl,r1,rfl,us1,_,rfl,SqL.of (s3 _ _ u11),_,aac hv1,rfl,aae⟩
    rintro⟨rfl,s35⟩
    refine⟨fun σ G'=>σ=[some (.ref z.p),some (.ref wh),some (.ref g),some (.ref a),some (.ref rl),some (.ref g0.sh),some (.ref k0.sh)]∧Same G35 G',?_,fun σ4 G4=>?_⟩
    ·have s3:=s3.trans s35
     walk_at "wp"
     exact⟨_,SqL.of (s35 _ _ hrl),_,aac (j:=1) rfl,_,SqT.of (s3 _ _ ha),_,aac (j:=1) rfl,_,rfl,_,SqT.of (s3 _ _ ht2),.int j2,aac (j:=1) rfl,r2,rfl,us2,_,rfl,SqL.of (s3 _ _ u21),_,aac hv2,rfl,aae⟩
    rintro⟨rfl,s45⟩
    have s4:=(s3.trans s35).trans s45
    refine⟨fun σ G'=>σ=[some (.ref z.p),some (.ref wh),some (.ref g),some (.ref a),some (.ref rl),some (.ref g0.sh),some (.ref k0.sh)]∧Same G4 G',?_,fun σ5 G5=>?_⟩
    ·walk_at "wp"
     rw[if_neg (fun z=>nomatch z),if_neg (fun z=>nomatch z)]
     refine⟨_,SqL.of (s4 _ _ hV1.2.1),_,aac (j:=0) rfl,_,SqL.of (s4 _ _ hV2.2.1),_,aac (j:=0) rfl,false,dInts g0.b,dInts k0.b,aem (SqL.of (s4 _ _ hV1.2.2.1)),aem (SqL.of (s4 _ _ hV2.2.2.1)),afa _ _,by rw[aft];exact Nat.zero_le _,?_⟩
     refine⟨false,?_,iteF aae⟩
     rw[ahq,GM.b,decide_eq_true rfl];rfl
    rintro⟨rfl,s5⟩
    refine⟨fun σ G'=>σ=[some (.ref z.p),some (.ref wh),some (.ref g),some (.ref a),some (.ref rl),some (.ref g0.sh),some (.ref k0.sh)]∧Same G5 G',?_,fun σ6 G6=>?_⟩
    ·have s45:=s4.trans s5
     walk_at "wp"
     refine⟨_,SqT.of (s45 _ _ ha),_,aac (j:=1) rfl,L,wh,wf,ws,t2,lmvs w ((foldS s).M.take i),(p2,j2),rfl,I.wr.same s45,s45 _ _ ht2,_,SqT.of (s45 _ _ ha),_,aac (j:=0) rfl,L,wh,wf,ws,t1,lmvs w ((foldS s).M.take i),(p1,j1),rfl,I.wr.same s45,s45 _ _ ht1,_,rfl,_,rfl,?_⟩
     have:=GM.up
     rw[if_neg (by simp only at this;omega)]
     exact aae
    rintro⟨rfl,s6⟩
    have s46:=(s4.trans s5).trans s6
    obtain⟨_,c11,c12,⟨ug,c13,c14⟩,_,_,c17⟩:=id hV1
    obtain⟨_,c21,c22,⟨uk,c23,c24⟩,_,_,c27⟩:=id hV2
    have mg:g0∈alS (lmvs w ((foldS s).M.take i)):=abp.mpr (by
     have mm:=List.mem_of_getElem? hw1
     cases p1 with
     |true=>exact .inl mm
     |false=>exact .inr mm)
    have mk:k0∈alS (lmvs w ((foldS s).M.take i)):=abp.mpr (by
     have mm:=List.mem_of_getElem? hw2
     cases p2 with
     |true=>exact .inl mm
     |false=>exact .inr mm)
    obtain⟨Y,y1,y2⟩:=GM.al
    have hlg:g0.ks.length+k0.ks.length≤64∧(∀k∈g0.ks++k0.ks,Tri k):=by
     have hh:=hC.hn.pm (I.hp.trans hC.hkw)
     have hh:=hh.pm (y1.flatMap_right Sh.ks).symm
     rw[List.flatMap_cons,List.flatMap_cons] at hh
     refine⟨?_,fun k hk=>(hh.old k ?_).tri⟩
     ·have:=hh.few
      rw[List.length_append,List.length_append] at this
      omega
     ·rcases List.mem_append.mp hk with hk|hk
      ·exact List.mem_append_right _ (List.mem_append_left _ hk)
      ·exact List.mem_append_left _ hk
    have hlu:=Paired.length c14
    have hlv:=Paired.length c24
    refine⟨fun σ G'=>σ=[some (.ref z.p),some (.ref wh),some (.ref g),some (.ref a),some (.ref rl),some (.ref g0.sh),some (.ref k0.sh)]∧Same G6 G',?_,fun σ7 G7=>?_⟩
    ·walk_at "wp"
     refine⟨_,SqL.of (s46 _ _ c11),_,aac (j:=1) rfl,_,SqL.of (s46 _ _ c21),_,aac (j:=1) rfl,_,rfl,_,rfl,ug,s46 _ _ c13,uk,s46 _ _ c23,by omega,fun p hp=>?_⟩
     obtain⟨b2,c2⟩:=aa4 (o:=.lst (ug++uk)) hp
     have e9:=s46.trans b2
     generalize upd G6 p _=G9 at *
     refine⟨⟨_,SqL.of c2⟩,fun D hD=>ahj hD c2 (ks:=g0.ks++k0.ks) (aeh (Paired.mapP c14 fun _ _ ⟨x,e,q⟩=>⟨x,e,e9 _ _ q⟩) (Paired.mapP c24 fun _ _ ⟨x,e,q⟩=>⟨x,e,e9 _ _ q⟩)) hlg.2 (by rw[List.length_append];omega) fun H' s' hD'=>⟨_,.inl (SqL.of hD'),rfl,am4 hlg.2,?_⟩⟩
     rw[if_neg Bool.false_ne_true,am3 hlg.2,show bnk (g0.ks++k0.ks)=false by unfold bnk;rw[List.any_append];exact (by rw[show g0.ks.any bkK=false from GM.ng,show k0.ks.any bkK=false from GM.nk];rfl)]
     exact iteF (b2.trans s')
    rintro⟨rfl,s7⟩
    have s8:=s46.trans s7
    refine⟨fun σ G'=>σ=[some (.ref z.p),some (.ref wh),some (.ref g),some (.ref a),some (.ref rl),some (.ref g0.sh),some (.ref k0.sh)]∧G'=upd G7 k0.hd (.lst (uk++ug)),?_,fun σ8 G8=>?_⟩
    ·walk_at "wp"
     exact⟨_,SqL.of (s8 _ _ c21),_,aac (j:=1) rfl,.inl ⟨rfl,_,SqL.of (s8 _ _ c23)⟩,_,SqL.of (s8 _ _ c11),_,aac (j:=1) rfl,_,_,_,_,rfl,rfl,s8 _ _ c23,s8 _ _ c13,by omega,rfl⟩
    rintro⟨rfl,rfl⟩
    walk_at "wp"
    have W7:=I.wr.same s8
    have W8:=W7.ks I.wa hw2 (s8 _ _ c23) c27 (aeh (Paired.mapP c24 fun _ _ ⟨x,e,q⟩=>⟨x,e,s8 _ _ q⟩) (Paired.mapP c14 fun _ _ ⟨x,e,q⟩=>⟨x,e,s8 _ _ q⟩))
    have m8:Mv [1,4] L L G7 (upd G7 k0.hd (.lst (uk++ug))):=Mv.set (s8 _ _ c23) (by rw[c27];simp)
    have m08:Mv [1,4] L L G (upd G7 k0.hd (.lst (uk++ug))):=(Mv.of s8).trans m8
    have hrl8:upd G7 k0.hd (.lst (uk++ug)) rl=some (.lst [.ref r1,.ref r2]):=by
     rw[aaf (fun e=>by rw[e,c23] at hrl0;cases hrl0)]
     exact s7 _ _ (s6 _ _ (s5 _ _ (s45 _ _ (s35 _ _ hrl))))
    have hr1:upd G7 k0.hd (.lst (uk++ug)) r1=some (.lst us1):=by
     rw[aaf (fun e=>by rw[e,c27] at la1;omega)]
     exact s8 _ _ u11
    generalize upd G7 k0.hd (.lst (uk++ug))=G8 at *
    have tp:∀{G':Hp} {c us},Mv [1,4] L L G G'→G c=some (.tup us)→G' c=some (.tup us):=fun m hc=>m.kw _ _ hc (by rw[I.wr.lv.zero hc fun _ z=>nomatch z];simp)
    have hj1:=(List.getElem?_eq_some_iff.mp hv1).1
    refine⟨_,SqL.of hrl8,_,aac (j:=0) rfl,_,SqT.of (tp m08 ha),_,aac (j:=0) rfl,_,rfl,_,SqT.of (tp m08 ht1),.int j1,aac (j:=1) rfl,r1,rfl,us1,_,rfl,hr1,j1,ixn hj1,?_⟩
    have m9:Mv [1,4] L L G8 (upd G8 r1 (.lst (us1.set j1 .non))):=Mv.set hr1 (by rw[la1];simp)
    have m09:=m08.trans m9
    have eM:lmvs w ((foldS s).M.take (i+1))=lmv (lmvs w ((foldS s).M.take i)) ((p1,j1),(p2,j2)):=by
     rw[List.take_add_one,hm]
     unfold lmvs
     rw[List.foldl_append]
     rfl
    have W9:=hN W8 hr1
    rw[←akd GM.hg GM.hk,←eM] at W9
    refine⟨I.cs.mv m09 I.wr.lv (by simp),W9,?_,?_,m09.kw _ _ I.gg (by rw[I.lg];simp),Paired.mapP I.mm fun _ _ q=>q.to fun c us hc=>tp m09 hc,I.zv.trans (m09.zv I.wr.lv (by simp)),I.lg,?_⟩
    ·rw[eM]
     exact af8.mpr (apd GM rfl (af8.mp I.wa))
    ·rw[eM]
     exact apd GM rfl I.wb
    ·rw[eM]
     refine ((y2.flatMap_right Sh.ks).trans ?_).trans I.hp
     refine List.Perm.trans ?_ (y1.flatMap_right Sh.ks).symm
     rw[List.flatMap_cons,List.flatMap_cons,List.flatMap_cons]
     show ((k0.ks++g0.ks)++Y.flatMap Sh.ks).Perm _
     rw[List.append_assoc]
   ·rintro⟨v3,v4,v5,v6,rfl,I⟩
    rw[Paired.length I.mm] at I
    exact⟨_,_,_,_,rfl,I⟩
  rintro⟨v3,v4,v5,v6,rfl,I⟩
  walk_at "wp"
  have eT:lmvs w ((foldS s).M.take (foldS s).M.length)=lmvs w (foldS s).M:=by rw[List.take_length]
  have W2:=I.wr
  have A2:=I.wa
  have B2:=I.wb
  have P2:=I.hp
  rw[eT] at W2 A2 B2 P2
  have l1:=FW.si.1
  have l2:=FW.si.2
  have ll1:=Paired.length l1
  have ll2:=Paired.length l2
  have f1:=fi1.fr
  have f2:=fi1.sr
  refine⟨L,wh,wf,ws,lmvs w (foldS s).M,rfl,W2,by omega,by omega,fun r hr=>?_,fun i j g1 k1 h1 h2 n1 n2 e=>?_,fun H' s9=>⟨false,rfl,q H' (foldS s).s (lmvs w (foldS s).M) ?_ (I.zv.trans (Zv.of s9))⟩⟩
  ·have hh:=hC.hn.pm (P2.trans hC.hkw)
   obtain⟨a,b,e⟩:=List.append_of_mem hr
   unfold hk at hh
   rw[e,List.flatMap_append,List.flatMap_cons] at hh
   refine⟨?_,fun k hk=>(hh.old k (List.mem_append_right _ (List.mem_append_left _ hk))).tri⟩
   have:=hh.few
   rw[List.length_append,List.length_append] at this
   omega
  ·have go:∀{i:Nat} {g1:Sh},((lmvs w (foldS s).M).fr++(lmvs w (foldS s).M).sr)[i]?=some (some g1)→∃p,lkS (lmvs w (foldS s).M) p=some g1∧rk (lmvs w (foldS s).M).fr.length p=i:=fun {i g1} h=>by
    rw[List.getElem?_append] at h
    split at h
    ·exact⟨(true,i),by unfold lkS;show ((lmvs w (foldS s).M).fr[i]?).getD none=_;rw[h];rfl,rfl⟩
    ·rename_i c
     refine⟨(false,i - (lmvs w (foldS s).M).fr.length),by unfold lkS;show ((lmvs w (foldS s).M).sr[_]?).getD none=_;rw[h];rfl,?_⟩
     show (lmvs w (foldS s).M).fr.length+(i - (lmvs w (foldS s).M).fr.length)=i
     omega
   obtain⟨p,p1,p2⟩:=go h1
   obtain⟨q',q1,q2⟩:=go h2
   have:=FW.apart f1 f2 p1 q1 n1 n2 e
   rw[←p2,←q2,this]
  ·have C2:C8 A G2 z (foldS s).s L wh wf ws (lmvs w (foldS s).M) n:=⟨I.cs,ap1,tw1,by
    obtain⟨rest,hrest⟩:=FW.bxs
    exact (List.nodup_append.mp (hrest.nodup_iff.mp hC.bx)).2.1,W2,l1,l2,A2,B2,FW.ok,hC.hn.pm FW.hks⟩
   exact C2.same s9
theorem ag1 {k:List Key}:∀{ks:List (List Key)} {j:Nat},ks.Nodup→ks[j]?=some k→offK ks k=ks.eraseIdx j
 |[],j,_,h=>by simp at h
 |a::l,0,nd,h=>by
  simp at h
  subst h
  obtain⟨n1,_⟩:=List.nodup_cons.mp nd
  show (a::l).filter _=l
  rw[List.filter_cons,if_neg (by simp),List.filter_eq_self]
  intro x hx
  rw[decide_eq_true_eq]
  intro e
  exact n1 (e ▸ hx)
 |a::l,j+1,nd,h=>by
  obtain⟨n1,n2⟩:=List.nodup_cons.mp nd
  have h:l[j]?=some k:=by simpa using h
  have ih:=ag1 n2 h
  have hk:=List.mem_of_getElem? h
  unfold offK at ih ⊢
  rw[List.filter_cons,if_pos (by rw[decide_eq_true_eq];intro e;exact n1 (e ▸ hk)),ih]
  rfl
theorem aiy {α β:Type} {F:α→β→Prop}:∀{xs:List α} {ys:List β} {i:Nat},Paired F xs ys→Paired F (xs.eraseIdx i) (ys.eraseIdx i)
 |_,_,_,.nil=>.nil
 |_,_,0,.cons _ t=>t
 |_,_,i+1,.cons a t=>.cons a (aiy t)
theorem agj {α:Type}:∀{ks:List α} {j:Nat} {k:α},ks[j]?=some k→ks.Perm (k::ks.eraseIdx j)
 |[],j,k,h=>by simp at h
 |x::ks,0,k,h=>by simp at h;subst h;exact List.Perm.refl _
 |x::ks,j+1,k,h=>by
  have ih:=agj (ks:=ks) (j:=j) (k:=k) (by simpa using h)
  exact (List.Perm.cons x ih).trans (List.Perm.swap ..)
theorem off_pm {ks ls:List (List Key)} {k:List Key} {j:Nat} (nd:ks.Nodup) (p:ls.Perm ks) (h:ls[j]?=some k):(ls.eraseIdx j).Perm (offK ks k):=by
 obtain⟨i,hi⟩:=List.mem_iff_getElem?.mp (p.mem_iff.mp (List.mem_of_getElem? h))
 rw[ag1 nd hi]
 exact (List.perm_cons k).mp (((agj h).symm.trans p).trans (agj hi))
noncomputable def tuD (ks:List (List Key)):List Dv:=ks.map fun k=>.seq true (kyD k)
theorem am5 {K:PySem.W.Frag} {H:Hp} {us:List V} {ks:List (List Key)} (h:Paired (fun v k=>∃a,v=V.ref a∧H a=some (.tup (k.map kV))) us ks):SeesL K H (tuD ks) us:=by
 induction h with
 |nil=>show SeesL K H [] [];unfold SeesL;rfl
 |@cons x k us ks h t ih=>
  obtain⟨a,rfl,ha⟩:=h
  show SeesL K H (Dv.seq true (kyD k)::tuD ks) (.ref a::us)
  unfold SeesL
  exact⟨_,_,rfl,aiu ha,ih⟩
theorem aji:∀(ks:List (List Key)),deepL (tuD ks)≤4
 |[]=>by simp[tuD,deepL]
 |k::ks=>by
  have ih:=aji ks
  show deepL (Dv.seq true (kyD k)::tuD ks)≤4
  rw[deepL,deep,agc]
  omega
theorem akf {ks:List (List Key)}:alikeL (tuD ks) []=true∧eqDvL (tuD ks) []=decide (ks=[]):=by
 cases ks with
 |nil=>exact⟨by simp[tuD,alikeL],by simp[tuD,eqDvL]⟩
 |cons k ks=>exact⟨by simp[tuD,alikeL],by simp[tuD,eqDvL]⟩
theorem Kg.kd {C P S:Addr} {z:Ss} {s:St} {H H':Hp} {r:Sh} (k:Kg z r.hd H H') (h:SsAt C P S H z s) (hr:r∈alS s):Kd z H H':=fun c o hc h1 h2 h3=>k c o hc h1 h2 fun e=>by
 obtain⟨kvs,h4⟩:=h.hd r.hd (by
  unfold hdS
  rw[am0]
  exact List.mem_map.mpr ⟨r,hr,rfl⟩)
 rw[e,h4] at hc
 exact h3 kvs (Option.some.inj hc).symm
section
variable {A:Adr} {H H1 H':Hp} {z:Ss} {s s1 s':St} {L L':Lb} {wh wf ws:Addr} {w w':St} {n:Nat}
theorem aog {s:St} {f:Bool} {j:Nat} {r:Sh} (h:(s.rw f)[j]?=some (some r)):r∈alS s:=abp.mpr (by
 have mm:=List.mem_of_getElem? h
 cases f with
 |true=>exact .inl mm
 |false=>exact .inr mm)
theorem C8.put (h:C8 A H z s L wh wf ws w n) {f:Bool} {j:Nat} {r r' r0 r0':Sh} (hr:(s.rw f)[j]?=some (some r)) (hr0:(w.rw f)[j]?=some (some r0)) (e1:r'.bx=r.bx) (e2:r0'.bx=r0.bx) (e3:r0'.hd=r0.hd) (sim:SimR (some r') (some r0')) (kn:r'.ks≠[]) (bl:r'.b.length=2)
  (ss:SsAt A.C_Sheets A.C_Spots A.C_Sheet H' z s') (er:s'.fr=(s.put f j (some r')).fr∧s'.sr=(s.put f j (some r')).sr) (ap:Ap s') (tw:Tw s') (wr:Wr H' L wh wf ws (w.put f j (some r0')).fr (w.put f j (some r0')).sr) {m:Nat} (hn:Hn m (hk (s.put f j (some r')))):C8 A H' z s' L wh wf ws (w.put f j (some r0')) m:=by
 have eal:alS s'=alS (s.put f j (some r')):=by unfold alS;rw[er.1,er.2]
 have ehk:hk s'=hk (s.put f j (some r')):=by unfold hk;rw[eal]
 obtain⟨a1,a2⟩:=ad7 (r':=r') hr
 have S2:Sim2 (s.put f j (some r')) (w.put f j (some r0')):=Sim2.put ⟨h.sf,h.sr⟩ sim
 have hmem:∀q∈alS s',q=r'∨q∈alS s:=fun q hq=>by
  rw[eal] at hq
  rcases List.mem_cons.mp (a2.mem_iff.mp hq) with e|h9
  ·exact .inl e
  ·exact .inr (a1.mem_iff.mpr (List.mem_cons_of_mem _ h9))
 refine⟨h.cs2 ss fun q hq=>.inr ?_,ap,tw,?_,wr,?_,?_,aoa h.wa hr0 e3,ao6 h.wb hr0 e2,fun q hq=>?_,by rw[ehk];exact hn⟩
 ·rcases hmem q (abp.mpr hq) with rfl|h9
  ·rw[e1];exact List.mem_map.mpr ⟨r,aog hr,rfl⟩
  ·exact List.mem_map.mpr ⟨q,h9,rfl⟩
 ·have:=ao6 (r':=r') h.bx hr e1
  unfold Bx at this ⊢
  rw[eal];exact this
 ·rw[er.1];exact S2.1
 ·rw[er.2];exact S2.2
 ·rcases hmem q hq with rfl|h9
  ·exact⟨kn,bl⟩
  ·exact h.ok q h9
theorem am6 {f:Bool} {j:Nat} {r r':Sh} (hr:(s.rw f)[j]?=some (some r)):∃Y,(hk s).Perm (r.ks++Y)∧(hk (s.put f j (some r'))).Perm (r'.ks++Y)∧hk (s.put f j none)=Y:=by
 obtain⟨a1,a2⟩:=ad7 (r':=r') hr
 exact⟨_,a1.flatMap_right Sh.ks,a2.flatMap_right Sh.ks,rfl⟩
theorem C8.lost (h:C8 A H z s L wh wf ws w n) {f:Bool} {j:Nat} {r r0:Sh} (hr:(s.rw f)[j]?=some (some r)) (hr0:(w.rw f)[j]?=some (some r0)) (ss:SsAt A.C_Sheets A.C_Spots A.C_Sheet H' z (emptS s f j)) (ap:Ap (emptS s f j)) (tw:Tw (emptS s f j)) (wr:Wr H' L wh wf ws (w.put f j none).fr (w.put f j none).sr):C8 A H' z (emptS s f j) L wh wf ws (w.put f j none) n:=by
 have eal:alS (emptS s f j)=alS (s.put f j none):=ajf
 obtain⟨a1,_⟩:=ad7 (r':=r) hr
 obtain⟨b1,_⟩:=ad7 (r':=r0) hr0
 have S2:Sim2 (emptS s f j) (w.put f j none):=Sim2.empt ⟨h.sf,h.sr⟩
 have hmem:∀q∈alS (emptS s f j),q∈alS s:=fun q hq=>by
  rw[eal] at hq
  exact a1.mem_iff.mpr (List.mem_cons_of_mem _ hq)
 refine⟨h.cs2 ss fun q hq=>.inr (List.mem_map.mpr ⟨q,hmem q (abp.mpr hq),rfl⟩),ap,tw,?_,wr,S2.1,S2.2,aje h.wa,?_,fun q hq=>h.ok q (hmem q hq),?_⟩
 ·have:=(a1.map Sh.bx).nodup_iff.mp h.bx
  unfold Bx
  rw[eal]
  exact (List.nodup_cons.mp this).2
 ·have:=(b1.map Sh.bx).nodup_iff.mp h.wb
  exact (List.nodup_cons.mp this).2
 ·have p9:=h.hn.pm (a1.flatMap_right Sh.ks).symm
  rw[List.flatMap_cons] at p9
  have e:hk (emptS s f j)=(alS (s.put f j none)).flatMap Sh.ks:=by unfold hk;rw[eal]
  rw[e]
  refine⟨(List.nodup_append.mp p9.nd).2.1,fun k hk=>p9.old k (List.mem_append_right _ hk),?_⟩
  have:=p9.few
  rw[List.length_append] at this
  omega
end
noncomputable def ChI (A:Adr) (H:Hp) (z:Ss) (L:Lb) (wh wf ws:Addr) (n:Nat) (b:Prop) (G:Hp):Prop:=(b∧∃s' w',C8 A G z s' L wh wf ws w' (n+1)∧Zv [1,3,4] L L H G)∨(¬b∧Same H G)
noncomputable def sp_chg (A:Adr):Sp:=fun vs H Q _=>∃(z:Ss) (s:St) (L:Lb) (wh wf ws:Addr) (w:St) (n:Nat) (t h:Addr) (f:Bool) (j:Nat) (way num:Int) (k:List Key) (r0:Sh),vs=[.ref z.p,.ref wh,.ref t,.int way,.int num,.ref h]∧C8 A H z s L wh wf ws w n∧n < 63∧H t=some (.tup [.str (nmS f),.int (j:Int)])∧(w.rw f)[j]?=some (some r0)∧H h=some (.tup (k.map kV))∧Old (n+1) k∧k∉hk s∧
 ∀H' s' w',C8 A H' z s' L wh wf ws w' (n+1)→Zv [1,3,4] L L H H'→Q (.bl true) H'
noncomputable def sp_ch0:Sp:=fun vs H Q _=>∃(L:Lb) (p wh wf ws t h:Addr) (w:St) (f:Bool) (j:Nat) (way num:Int),vs=[.ref p,.ref wh,.ref t,.int way,.int num,.ref h]∧Wr H L wh wf ws w.fr w.sr∧H t=some (.tup [.str (nmS f),.int (j:Int)])∧j < (w.rw f).length∧way < 4∧Q (.bl true) H
noncomputable def aqv (A:Adr):Sp:=fun vs H Q E=>sp_chg A vs H Q E∨sp_ch0 vs H Q E
theorem h_chg (T:Txt K mg A):Have P w K mg base "_law_changed" 5 ["_law_sheets","_law_where","_law_spot","_law_way","_law_number_here","_law_holder"] [] (aqv A):=by
 have H_Sheets_hold:=ao7 (P:=P) (w:=w) (base:=base) T
 have H_Sheets_let_go:=h_lg (P:=P) (w:=w) (base:=base) T
 have H_Sheets_set_box:=h_setb (P:=P) (w:=w) (base:=base) T
 refine T.r_l_changed.have ae5 (fun vs H Q E z=>?_) ?_
 ·rcases z with ⟨z,s,L,wh,wf,ws,w,n,t,h,f,j,way,num,k,r0,rfl,_⟩|⟨L,p,wh,wf,ws,t,h,w,f,j,way,num,rfl,_⟩<;>rfl
 ·intro f' cdv A' outer s H vs Q E hr z
  rcases z with z|z
  rotate_left
  ·obtain⟨L,p,wh,wf,ws,t,h,w,f,j,way,num,rfl,hW,ht,hj,hw4,q⟩:=z
   have el:atI [V.ref wf,V.ref ws] (if V.str (nmS f)=V.str (Str.ofString "slot") then 1 else 0)=some (.ref (if f=true then wf else ws)):=by
    cases f with
    |true=>rw[if_neg (fun z=>absurd (V.str.inj z) (by decide+kernel))];exact aac (j:=0) rfl
    |false=>rw[if_pos (show V.str (nmS false)=V.str (Str.ofString "slot") from rfl)];exact aac (j:=1) rfl
   obtain⟨us1,u11,u12⟩:=hW.at f
   generalize (if f=true then wf else ws)=r1 at *
   have hul:=Paired.length u12
   obtain⟨v1,hv1⟩:∃v,us1[j]?=some v:=⟨_,List.getElem?_eq_getElem (by omega)⟩
   refine⟨_,(aal (aax (i:=6) ae5.nd rfl (Or.inl rfl) (aam aaj (aam aaj (pvM 1) (acf aex rfl T.b_int PyProof.Rows.boot_int (aaa (ac0 adb (aam aa0 (pvM 2) aab (fun _ _=>rfl)) acy (nomark _)) aad)) (fun _ _=>rfl)) (aam aa0 (pvM 2) aab (fun _ _=>rfl)) (fun _ _=>rfl)))
   (aal (abo (aao adb (pvM 3) aab (nomark _)) (aak (aby (ag3 PySem.F.plainAttrs_list PySem.F.slot_list_append PySem.F.type_list_append adm (aam aaj (pvM 6) aab (fun _ _=>rfl)) (aaa (pvM 5) aad)))
   (aag (aby (aa6 (pvM 0) T.cl_Sheets H_Sheets_hold (hr.mono (by decide)) aat (aaa (pvM 2) (aaa (pvM 5) aad)))))) aas)
   (aal (abo (aao adb (pvM 3) aab (nomark _)) (aal (aby (aa6 (pvM 0) T.cl_Sheets H_Sheets_let_go (hr.mono (by decide)) aat (aaa (pvM 2) (aaa (ag3 PySem.F.plainAttrs_list PySem.F.slot_list_pop PySem.F.type_list_pop ajn (aam aaj (pvM 6) aab (fun _ _=>rfl)) (aaa (aay ab4 (pvM 4) (aar aa2 rfl T.b_len PySem.boot_len (aaa (aam aaj (pvM 6) aab (fun _ _=>rfl)) aad))) aad)) aad))))
   (aag (abo (aao (alo (n:=4) (hu6 hr)) (aam aaj (pvM 6) aab (fun _ _=>rfl)) (aco aad) (nomark _)) (aag (ac6 aaw (ac5 (aam aaj (pvM 1) (acf aex rfl T.b_int PyProof.Rows.boot_int (aaa (ac0 adb (aam aa0 (pvM 2) aab (fun _ _=>rfl)) acy (nomark _)) aad)) (fun _ _=>rfl)) (aam aa0 (pvM 2) aab (fun _ _=>rfl)) abx))) aas))) aas)
   (aal (abo (PW.pt (ad9 (aao adb (pvM 3) aab (nomark _)) (adc (aao adb (aam aa0 (pvM 2) aab (fun _ _=>rfl)) acy (nomark _))))) (aak (ac6 (aay ab4 (aay acd (pvM 4) aab) aab) (ac5 (aam aaj (pvM 6) aab (fun _ _=>rfl)) (aay ab4 (pvM 4) aab) abx))
   (aag (aby (aa6 (pvM 0) T.cl_Sheets H_Sheets_set_box (hr.mono (by decide)) aat (aaa (aam aa0 (pvM 2) aab (fun _ _=>rfl)) (aaa (aay ab4 (pvM 4) aab) (aaa (aay ab4 (aay acd (pvM 4) aab) aab) aad))))))) aas)
   (aag (aav adp)))))),?_⟩
   refine⟨fun σ G=>σ=[some (.ref p),some (.ref wh),some (.ref t),some (.int way),some (.int num),some (.ref h),some v1]∧G=H,?_,fun σ1 G1=>?_⟩
   ·walk_at "wp"
    exact⟨_,SqT.of ht,.str (nmS f),aac (j:=0) rfl,rfl,.inr ⟨_,SqL.of hW.hw,_,el,_,SqT.of ht,.int j,aac (j:=1) rfl,r1,rfl,us1,_,rfl,SqL.of u11,_,aac hv1,rfl⟩⟩
   rintro⟨rfl,rfl⟩
   refine⟨fun σ G=>σ=[some (.ref p),some (.ref wh),some (.ref t),some (.int way),some (.int num),some (.ref h),some v1]∧G=G1,?_,fun σ2 G2=>?_⟩
   ·walk_at "wp"
    first|exact ite2 (fun e4=>absurd e4 (by omega)) (fun _=>rfl)|exact ite2 (fun e4=>absurd e4 (by omega)) (fun _=>trivial)
   rintro⟨rfl,rfl⟩
   refine⟨fun σ G=>σ=[some (.ref p),some (.ref wh),some (.ref t),some (.int way),some (.int num),some (.ref h),some v1]∧G=G2,?_,fun σ3 G3=>?_⟩
   ·walk_at "wp"
    first|exact ite2 (fun e4=>absurd e4 (by omega)) (fun _=>rfl)|exact ite2 (fun e4=>absurd e4 (by omega)) (fun _=>trivial)
   rintro⟨rfl,rfl⟩
   refine⟨fun σ G=>σ=[some (.ref p),some (.ref wh),some (.ref t),some (.int way),some (.int num),some (.ref h),some v1]∧G=G3,?_,fun σ4 G4=>?_⟩
   ·walk_at "wp"
    first|exact ite2 (fun e4=>absurd e4 (by omega)) (fun _=>rfl)|exact ite2 (fun e4=>absurd e4 (by omega)) (fun _=>trivial)
   rintro⟨rfl,rfl⟩
   walk_at "wp"
   exact q
  obtain⟨z,s,L,wh,wf,ws,w,n,t,h,f,j,way,num,k,r0,rfl,hC,hn,ht,hr0,hh,ko,kn,q⟩:=z
  have hz:=PySem.sizeLine_eq
  have hR:=hC.wr.got hr0
  obtain⟨_,c1,c2,⟨us,c3,c4⟩,l2,l3,l4⟩:=id hR
  obtain⟨r,hrr,hb,hks⟩:=afw (Sim2.rw ⟨hC.sf,hC.sr⟩ f) hr0
  have hral:=aog hrr
  have hok:=hC.okk (by omega) hral
  have hok2:=hC.ok r hral
  have hll:=Paired.length c4
  have hkl:=hks.length_eq
  have hl63:=hok.1
  have hl0:0 < r0.ks.length:=by
   rw[hkl]
   rcases Nat.eq_zero_or_pos r.ks.length with e|e
   ·exact absurd (List.eq_nil_of_length_eq_zero e) hok2.1
   ·exact e
  have el:atI [V.ref wf,V.ref ws] (if V.str (nmS f)=V.str (Str.ofString "slot") then 1 else 0)=some (.ref (if f=true then wf else ws)):=by
   cases f with
   |true=>rw[if_neg (fun z=>absurd (V.str.inj z) (by decide+kernel))];exact aac (j:=0) rfl
   |false=>rw[if_pos (show V.str (nmS false)=V.str (Str.ofString "slot") from rfl)];exact aac (j:=1) rfl
  have at1:=hC.wr.at f
  have la1:L (if f=true then wf else ws)=1:=by cases f with|true=>exact hC.wr.l1.2.1|false=>exact hC.wr.l1.2.2
  have hN:∀{us:List V} {G':Hp} {w':St},Wr G' L wh wf ws w'.fr w'.sr→G' (if f=true then wf else ws)=some (.lst us)→Wr (upd G' (if f=true then wf else ws) (.lst (us.set j .non))) L wh wf ws (w'.put f j none).fr (w'.put f j none).sr:=fun hW hu=>hW.setN hu
  have atW:∀{G':Hp} {w':St},Wr G' L wh wf ws w'.fr w'.sr→∃us,G' (if f=true then wf else ws)=some (.lst us)∧Paired (R2 G' L) us (w'.rw f):=fun h=>h.at f
  generalize (if f=true then wf else ws)=r1 at *
  obtain⟨us1,u11,u12⟩:=at1
  obtain⟨v1,hv1,hV1⟩:=aa1 u12 hr0
  obtain rfl:=hV1.1
  have hj1:=(List.getElem?_eq_some_iff.mp hv1).1
  have hjr:=(List.getElem?_eq_some_iff.mp hrr).1
  have nb:k∉r.ks:=fun z=>kn (List.mem_flatMap.mpr ⟨r,hral,z⟩)
  refine⟨_,(aal (aax (i:=6) ae5.nd rfl (Or.inl rfl) (aam aaj (aam aaj (pvM 1) (acf aex rfl T.b_int PyProof.Rows.boot_int (aaa (ac0 adb (aam aa0 (pvM 2) aab (fun _ _=>rfl)) acy (nomark _)) aad)) (fun _ _=>rfl)) (aam aa0 (pvM 2) aab (fun _ _=>rfl)) (fun _ _=>rfl)))
   (aal (abo (aao adb (pvM 3) aab (nomark _)) (aak (aby (ag3 PySem.F.plainAttrs_list PySem.F.slot_list_append PySem.F.type_list_append adm (aam aaj (pvM 6) aab (fun _ _=>rfl)) (aaa (pvM 5) aad)))
   (aag (aby (aa6 (pvM 0) T.cl_Sheets H_Sheets_hold (hr.mono (by decide)) aat (aaa (pvM 2) (aaa (pvM 5) aad)))))) aas)
   (aal (abo (aao adb (pvM 3) aab (nomark _)) (aal (aby (aa6 (pvM 0) T.cl_Sheets H_Sheets_let_go (hr.mono (by decide)) aat (aaa (pvM 2) (aaa (ag3 PySem.F.plainAttrs_list PySem.F.slot_list_pop PySem.F.type_list_pop ajn (aam aaj (pvM 6) aab (fun _ _=>rfl)) (aaa (aay ab4 (pvM 4) (aar aa2 rfl T.b_len PySem.boot_len (aaa (aam aaj (pvM 6) aab (fun _ _=>rfl)) aad))) aad)) aad))))
   (aag (abo (aao (alo (n:=4) (hu6 hr)) (aam aaj (pvM 6) aab (fun _ _=>rfl)) (aco aad) (nomark _)) (aag (ac6 aaw (ac5 (aam aaj (pvM 1) (acf aex rfl T.b_int PyProof.Rows.boot_int (aaa (ac0 adb (aam aa0 (pvM 2) aab (fun _ _=>rfl)) acy (nomark _)) aad)) (fun _ _=>rfl)) (aam aa0 (pvM 2) aab (fun _ _=>rfl)) abx))) aas))) aas)
   (aal (abo (PW.pt (ad9 (aao adb (pvM 3) aab (nomark _)) (adc (aao adb (aam aa0 (pvM 2) aab (fun _ _=>rfl)) acy (nomark _))))) (aak (ac6 (aay ab4 (aay acd (pvM 4) aab) aab) (ac5 (aam aaj (pvM 6) aab (fun _ _=>rfl)) (aay ab4 (pvM 4) aab) abx))
   (aag (aby (aa6 (pvM 0) T.cl_Sheets H_Sheets_set_box (hr.mono (by decide)) aat (aaa (aam aa0 (pvM 2) aab (fun _ _=>rfl)) (aaa (aay ab4 (pvM 4) aab) (aaa (aay ab4 (aay acd (pvM 4) aab) aab) aad))))))) aas)
   (aag (aav adp)))))),?_⟩
  refine⟨fun σ G=>σ=[some (.ref z.p),some (.ref wh),some (.ref t),some (.int way),some (.int num),some (.ref h),some (.ref r0.sh)]∧G=H,?_,fun σ1 G1=>?_⟩
  ·walk_at "wp"
   exact⟨_,SqT.of ht,.str (nmS f),aac (j:=0) rfl,rfl,.inr ⟨_,SqL.of hC.wr.hw,_,el,_,SqT.of ht,.int j,aac (j:=1) rfl,r1,rfl,us1,_,rfl,SqL.of u11,_,aac hv1,rfl⟩⟩
  rintro⟨rfl,rfl⟩
  have zt:L t=0:=hC.wr.lv.zero ht fun _ z=>nomatch z
  have zh:L h=0:=hC.wr.lv.zero hh fun _ z=>nomatch z
  refine⟨fun σ G=>σ=[some (.ref z.p),some (.ref wh),some (.ref t),some (.int way),some (.int num),some (.ref h),some (.ref r0.sh)]∧ChI A G1 z L wh wf ws n (way=4) G,?_,fun σ2 G2=>?_⟩
  ·walk_at "wp"
   refine ite2 (fun e4=>⟨_,SqL.of c1,_,aac (j:=1) rfl,.inl ⟨rfl,_,SqL.of c3⟩,r0.hd,rfl,us,c3,by omega,?_⟩) (fun e4=>.inr ⟨e4,aae⟩)
   have W1:=hC.wr.ks hC.wa hr0 c3 l4 (us':=us++[.ref h]) (ks':=r0.ks++[k]) (aeh c4 (.cons ⟨h,rfl,hh⟩ .nil))
   have m1:Mv [1,3,4] L L G1 (upd G1 r0.hd (.lst (us++[.ref h]))):=Mv.set c3 (by rw[l4];simp)
   generalize upd G1 r0.hd (.lst (us++[.ref h]))=H1 at *
   have cs1:=hC.cs.mv m1 hC.wr.lv (by simp)
   obtain⟨dx,hme⟩:=cs1.ss.me
   refine⟨dx,_,hme,abw (by decide+kernel),z,s,t,h,f,j,r,k,rfl,cs1.ss,hC.ap,m1.kw _ _ ht (by rw[zt];simp),hrr,m1.kw _ _ hh (by rw[zh];simp),nb,by omega,fun H' a1 a2 a3 a4=>.inl ⟨e4,s.put f j (some {r with ks:=r.ks++[k]}),w.put f j (some {r0 with ks:=r0.ks++[k]}),?_,?_⟩⟩
   ·have z2:=Zv.ks cs1.ss a1 (a3.kd cs1.ss hral) cs1.l0 W1.lv a4
    refine hC.put hrr hr0 (r':={r with ks:=r.ks++[k]}) (r0':={r0 with ks:=r0.ks++[k]}) rfl rfl rfl ⟨hb,hks.append_right _⟩ (fun z=>nomatch (List.append_eq_nil_iff.mp z).2) hok2.2 a1 ⟨rfl,rfl⟩ a2 (hC.tw.put hrr) (W1.zv z2 (fun _ h=>by cases h) (W1.lv.zv z2)) ?_
    obtain⟨Y,y1,y2,_⟩:=am6 (r':={r with ks:=r.ks++[k]}) hrr
    refine (hC.hn.add ko kn).pm (y2.trans ?_)
    show ((r.ks++[k])++Y).Perm _
    rw[List.append_assoc]
    exact List.perm_middle.trans (List.Perm.cons k y1.symm)
   ·have z2:=Zv.ks cs1.ss a1 (a3.kd cs1.ss hral) cs1.l0 W1.lv a4
    exact (m1.zv hC.wr.lv (by simp)).trans (z2.sub (by simp))
  rintro⟨rfl,i2⟩
  refine⟨fun σ G=>σ=[some (.ref z.p),some (.ref wh),some (.ref t),some (.int way),some (.int num),some (.ref h),some (.ref r0.sh)]∧ChI A G1 z L wh wf ws n (way=4∨way=5) G,?_,fun σ3 G3=>?_⟩
  ·walk_at "wp"
   refine ite2 (fun e5=>?_) (fun e5=>?_)
   ·obtain⟨_,e2⟩:¬way=4∧Same G1 G2:=by
     rcases i2 with ⟨e4,_⟩|h9
     ·omega
     ·exact h9
    have C2:=hC.same e2
    refine⟨fun σ G=>σ=[some (.ref z.p),some (.ref wh),some (.ref t),some (.int way),some (.int num),some (.ref h),some (.ref r0.sh)]∧∃jx k',r0.ks[jx]?=some k'∧SsAt A.C_Sheets A.C_Spots A.C_Sheet G z (gone s f j r k')∧Ap (gone s f j r k')∧Tw (gone s f j r k')∧Wr G L wh wf ws (w.put f j (some {r0 with ks:=r0.ks.eraseIdx jx})).fr (w.put f j (some {r0 with ks:=r0.ks.eraseIdx jx})).sr∧Zv [1,3,4] L L G1 G,?_,fun σ4 G4=>?_⟩
    ·walk_at "wp"
     obtain⟨dx0,hme0⟩:=C2.cs.ss.me
     have hjl:=Int.emod_lt_of_pos num (show (0:Int) < (us.length:Int) by omega)
     have hj0:=Int.emod_nonneg num (show (us.length:Int)≠0 by omega)
     obtain⟨jx,hjx⟩:∃jx:Nat,num % (us.length:Int)=(jx:Int):=⟨(num % (us.length:Int)).toNat,by omega⟩
     have hjx2:jx < us.length:=by omega
     obtain⟨v9,hv9⟩:∃v,us[jx]?=some v:=⟨_,List.getElem?_eq_getElem hjx2⟩
     obtain⟨k',hk9,a9,rfl,ha9⟩:=acn c4 hv9
     have hk9m:k'∈r.ks:=hks.mem_iff.mp (List.mem_of_getElem? hk9)
     refine⟨dx0,_,hme0,abw (by decide+kernel),_,SqL.of (e2 _ _ c1),_,aac (j:=1) rfl,.inl ⟨rfl,_,SqL.of (e2 _ _ c3)⟩,_,SqL.of (e2 _ _ c1),_,aac (j:=1) rfl,us.length,.inl ⟨_,SqL.of (e2 _ _ c3),rfl⟩,by omega,r0.hd,us,(jx:Int),jx,.ref a9,rfl,by rw[hjx],e2 _ _ c3,by omega,by omega,(ai4 (ixn hjx2)).1,hv9,?_⟩
     have W1:=C2.wr.ks hC.wa hr0 (e2 _ _ c3) l4 (us':=us.eraseIdx jx) (ks':=r0.ks.eraseIdx jx) (aiy (Paired.mapP c4 fun _ _ ⟨x,e,q⟩=>⟨x,e,e2 _ _ q⟩))
     have m1:Mv [1,3,4] L L G2 (upd G2 r0.hd (.lst (us.eraseIdx jx))):=Mv.set (e2 _ _ c3) (by rw[l4];simp)
     have z9:L a9=0:=hC.wr.lv.zero ha9 fun _ z=>nomatch z
     generalize upd G2 r0.hd (.lst (us.eraseIdx jx))=H1 at *
     have cs1:=C2.cs.mv m1 C2.wr.lv (by simp)
     refine⟨z,s,t,a9,f,j,r,k',rfl,cs1.ss,hC.ap,hC.tw,m1.kw _ _ (e2 _ _ ht) (by rw[zt];simp),hrr,m1.kw _ _ (e2 _ _ ha9) (by rw[z9];simp),hk9m,fun H' a1 a2 a3 a4 a5=>?_⟩
     have z2:=Zv.ks cs1.ss a1 (a4.kd cs1.ss hral) cs1.l0 W1.lv a5
     exact⟨jx,k',hk9,a1,a2,a3,W1.zv z2 (fun _ h=>by cases h) (W1.lv.zv z2),((Zv.of e2).trans (m1.zv C2.wr.lv (by simp))).trans (z2.sub (by simp))⟩
    rintro⟨rfl,jx,k',hjx,d1,d2,d3,d4,d5⟩
    have pe:=off_pm hok.2.1 hks hjx
    have hr4:((w.put f j (some {r0 with ks:=r0.ks.eraseIdx jx})).rw f)[j]?=some (some {r0 with ks:=r0.ks.eraseIdx jx}):=amy (List.getElem?_eq_some_iff.mp hr0).1
    obtain⟨_,x1,x2,⟨xs,x3,x4⟩,_⟩:=d4.got hr4
    have hp1:=am6 (r':={r with ks:=offK r.ks k'}) hrr
    walk_at "wp"
    refine⟨_,SqL.of x1,_,aac (j:=1) rfl,fun p hp=>?_⟩
    obtain⟨b9,c9⟩:=aa4 (o:=.lst []) hp
    generalize upd G4 p _=G9 at *
    refine⟨false,tuD (r0.ks.eraseIdx jx),[],?_,?_,akf.1,aji _,?_⟩
    ·unfold Sees
     exact⟨_,_,rfl,by rw[if_neg Bool.false_ne_true];exact SqL.of (b9 _ _ x3),am5 (Paired.mapP x4 fun _ _ ⟨x,e,q⟩=>⟨x,e,b9 _ _ q⟩)⟩
    ·unfold Sees
     exact⟨_,_,rfl,by rw[if_neg Bool.false_ne_true];exact SqL.of c9,by unfold SeesL;rfl⟩
    refine⟨_,rfl,?_⟩
    rw[akf.2]
    have W9:=d4.same b9
    have ht9:G9 t=some (.tup [.str (nmS f),.int (j:Int)]):=b9 _ _ (d5.tup ht)
    by_cases c:r0.ks.eraseIdx jx=[]
    ·rw[decide_eq_true c]
     have c0:offK r.ks k'=[]:=by
      rw[c] at pe
      exact pe.symm.eq_nil
     have eg:gone s f j r k'=emptS s f j:=by unfold gone;rw[if_pos c0]
     rw[eg] at d1 d2 d3
     obtain⟨us9,v11⟩:∃us9,G9 r1=some (.lst us9)∧j < us9.length:=by
      obtain⟨us9,h1,h2⟩:=atW W9
      refine⟨us9,h1,?_⟩
      have:=Paired.length h2
      rw[amt] at this
      have:=(List.getElem?_eq_some_iff.mp hr0).1
      omega
     have m9:Mv [1] L L G9 (upd G9 r1 (.lst (us9.set j .non))):=Mv.set v11.1 (by rw[la1];simp)
     have W10:=hN W9 v11.1
     rw[ah4] at W10
     have cs9:Cs A G9 z (emptS s f j) L:=hC.cs2 (d1.same b9) fun q' hq'=>.inr (by
      have h9:=abp.mpr hq'
      rw[ajf] at h9
      exact List.mem_map.mpr ⟨q',(ad7 (r':=r) hrr).1.mem_iff.mpr (List.mem_cons_of_mem _ h9),rfl⟩)
     refine iteT ⟨_,SqT.of ht9,.str (nmS f),aac (j:=0) rfl,rfl,.inr ⟨_,SqL.of W9.hw,_,el,_,SqT.of ht9,.int j,aac (j:=1) rfl,r1,rfl,us9,_,rfl,v11.1,j,ixn v11.2,.inl ⟨.inr e5,emptS s f j,w.put f j none,(hC.lost hrr hr0 (cs9.mv m9 W9.lv (by simp)).ss d2 d3 W10).up (by omega),(d5.trans (Zv.of b9)).trans ((m9.zv W9.lv (by simp)).sub (by simp))⟩⟩⟩
    ·rw[decide_eq_false c]
     have c0:offK r.ks k'≠[]:=fun z=>c (by rw[z] at pe;exact pe.eq_nil)
     have eg:gone s f j r k'=s.put f j (some {r with ks:=offK r.ks k'}):=by unfold gone;rw[if_neg c0]
     rw[eg] at d1 d2 d3
     refine iteF (.inl ⟨.inr e5,_,_,(hC.put hrr hr0 (r':={r with ks:=offK r.ks k'}) (r0':={r0 with ks:=r0.ks.eraseIdx jx}) rfl rfl rfl ⟨hb,pe⟩ c0 hok2.2 (d1.same b9) ⟨rfl,rfl⟩ d2 d3 W9 (m:=n) ?_).up (by omega),d5.trans (Zv.of b9)⟩)
     obtain⟨Y,y1,y2,_⟩:=hp1
     have p9:=hC.hn.pm y1.symm
     have p8:r.ks.Perm (k'::offK r.ks k'):=by
      obtain⟨i,hi⟩:=List.mem_iff_getElem?.mp (hks.mem_iff.mp (List.mem_of_getElem? hjx))
      rw[ag1 hok.2.1 hi]
      exact agj hi
     have p7:=p9.pm (p8.symm.append_right Y)
     have p6:Hn n (offK r.ks k'++Y):=⟨(List.nodup_cons.mp p7.nd).2,fun x hx=>p7.old x (List.mem_cons_of_mem _ hx),by have:=p7.few;have e9:(k'::offK r.ks k'++Y).length=(offK r.ks k'++Y).length+1:=rfl;omega⟩
     exact p6.pm y2
   ·rcases i2 with ⟨e4,h9⟩|⟨e4,h9⟩
    ·exact .inl ⟨.inl e4,h9⟩
    ·exact .inr ⟨fun z=>z.elim e4 e5,h9⟩
  rintro⟨rfl,i3⟩
  refine⟨fun σ G=>σ=[some (.ref z.p),some (.ref wh),some (.ref t),some (.int way),some (.int num),some (.ref h),some (.ref r0.sh)]∧∃s' w',C8 A G z s' L wh wf ws w' (n+1)∧Zv [1,3,4] L L G1 G,?_,fun σ4 G4=>?_⟩
  ·walk_at "wp"
   have stay:(way=4∨way=5)∨Same G1 G3→∃s' w',C8 A G3 z s' L wh wf ws w' (n+1)∧Zv [1,3,4] L L G1 G3:=fun _=>by
    rcases i3 with ⟨_,s',w',h8,h9⟩|⟨_,h9⟩
    ·exact⟨s',w',h8,h9⟩
    ·exact⟨s,w,(hC.same h9).up (by omega),Zv.of h9⟩
   have stay:∃s' w',C8 A G3 z s' L wh wf ws w' (n+1)∧Zv [1,3,4] L L G1 G3:=by
    rcases i3 with h9|⟨_,h9⟩
    ·exact stay (.inl h9.1)
    ·exact stay (.inr h9)
   refine ite2 (fun e6=>?_) (fun e6=>stay)
   obtain⟨_,e3⟩:¬(way=4∨way=5)∧Same G1 G3:=by
    rcases i3 with ⟨e4,_⟩|h9
    ·omega
    ·exact h9
   refine⟨_,SqT.of (e3 _ _ ht),.str (nmS f),aac (j:=0) rfl,rfl,?_⟩
   cases f with
   |false=>
    rw[if_neg (fun z=>absurd (V.str.inj z) (by decide+kernel))]
    exact stay
   |true=>
    rw[if_pos (show V.str (nmS true)=V.str (Str.ofString "frame") from rfl)]
    have hb2:r0.b.length=2:=by rw[hb];exact hok2.2
    have hx:∃x:Nat,num % 2=(x:Int)∧x < 2:=⟨(num % 2).toNat,by omega,by omega⟩
    obtain⟨x,hx1,hx2⟩:=hx
    have C3:=hC.same e3
    rw[hx1]
    refine⟨_,SqL.of (e3 _ _ c1),_,aac (j:=0) rfl,r0.bx,rfl,_,e3 _ _ c2,x,ixn (by rw[List.length_map];omega),?_⟩
    have eb:(r0.b.map V.int).set x (V.int (num / 2 % 3))=(r0.b.set x (num / 2 % 3)).map V.int:=by rw[List.map_set]
    rw[eb]
    have W1:=C3.wr.bx hC.wb hr0 (e3 _ _ c2) l3 (b':=r0.b.set x (num / 2 % 3))
    have m1:Mv [1,3,4] L L G3 (upd G3 r0.bx (.lst ((r0.b.set x (num / 2 % 3)).map V.int))):=Mv.set (e3 _ _ c2) (by rw[l3];simp)
    generalize upd G3 r0.bx (.lst ((r0.b.set x (num / 2 % 3)).map V.int))=H1 at *
    have cs1:=C3.cs.mv m1 C3.wr.lv (by simp)
    obtain⟨dx,hme⟩:=cs1.ss.me
    refine⟨dx,_,hme,abw (by decide+kernel),_,SqT.of (m1.kw _ _ (e3 _ _ ht) (by rw[zt];simp)),.int j,aac (j:=1) rfl,z,s,j,x,r,num / 2 % 3,rfl,cs1.ss,hC.tw,hC.bx,hrr,by rw[hok2.2];exact hx2,fun H' a1 a2=>?_⟩
    have hbx:=cs1.ss.bxl (abp.mp hral)
    have z2:=a2.zv cs1.ss a1 (by
     have hm:some {r with b:=r.b.set x (num / 2 % 3)}∈(wrS s j r x (num / 2 % 3)).fr:=by
      unfold wrS
      rw[acb.1]
      exact List.mem_of_getElem? (i:=j) (amy (f:=true) (s:=s) hjr)
     exact⟨_,a1.bxl (r:={r with b:=r.b.set x (num / 2 % 3)}) (.inl hm)⟩) cs1.l0 (cs1.lb r (abp.mp hral)) ⟨_,hbx⟩ W1.lv
    refine⟨_,_,C3.put hrr hr0 (r':={r with b:=r.b.set x (num / 2 % 3)}) (r0':={r0 with b:=r0.b.set x (num / 2 % 3)}) rfl rfl rfl ⟨?_,hks⟩ hok2.1 (by rw[List.length_set];exact hok2.2) a1 ⟨acb.1,acb.2.1⟩ ?_ ?_ (W1.zv z2 (fun _ h=>by cases h) (W1.lv.zv z2)) ?_,((Zv.of e3).trans (m1.zv C3.wr.lv (by simp))).trans (z2.sub (by simp))⟩
    ·show r0.b.set x (num / 2 % 3)=r.b.set x (num / 2 % 3)
     rw[hb]
    ·exact (aoa (r':={r with b:=r.b.set x (num / 2 % 3)}) hC.ap hrr rfl).untie
    ·exact (Tw.put (r':={r with b:=r.b.set x (num / 2 % 3)}) hC.tw hrr).untie
    ·obtain⟨Y,y1,y2,_⟩:=am6 (r':={r with b:=r.b.set x (num / 2 % 3)}) hrr
     exact (hC.hn.pm (y2.trans y1.symm)).up (by omega)
  rintro⟨rfl,s',w',i4,z4⟩
  walk_at "wp"
  exact q _ _ _ i4 z4
theorem agk:∀{ds:List Dv} {n:Nat},(∀d∈ds,deep d≤n)→deepL ds≤n
 |[],_,_=>by rw[deepL];omega
 |d::ds,n,h=>by
  have:=agk (ds:=ds) (n:=n) fun x hx=>h x (List.mem_cons_of_mem _ hx)
  have:=h d (List.mem_cons_self ..)
  rw[deepL]
  omega
theorem ag2 {α:Type} {f:α→V} {xs:List α} {b:Bool}:deep (.seq b (xs.map fun x=>.leaf (f x)))≤1:=by
 have:=agk (ds:=xs.map fun x=>Dv.leaf (f x)) (n:=0) (fun d hd=>by
  obtain⟨x,_,rfl⟩:=List.mem_map.mp hd
  rw[deep];omega)
 rw[deep]
 omega
theorem deep_T {ks:List (List Key)}:deep (dvT ks)≤2:=by
 have:=agk (ds:=ks.map dvK) (n:=1) (fun d hd=>by
  obtain⟨k,_,rfl⟩:=List.mem_map.mp hd
  exact ag2)
 unfold dvT
 rw[deep]
 omega
theorem akg {r:Option Tr}:deep (dvS r)≤3:=by
 cases r with
 |none=>unfold dvS;rw[deep];omega
 |some r=>
  obtain⟨b,ks,o⟩:=r
  have h1:deep (dvB b)≤1:=ag2
  have h2:=deep_T (ks:=ks)
  have h3:deep (dvO o)=0:=by cases o<;>(unfold dvO;rw[deep])
  unfold dvS
  rw[deep,deepL,deepL,deepL,deepL,h3]
  omega
theorem apg {rows:List (Option Tr)}:deep (.seq false (rows.map dvS))≤4:=by
 have:=agk (ds:=rows.map dvS) (n:=3) (fun d hd=>by
  obtain⟨k,_,rfl⟩:=List.mem_map.mp hd
  exact akg)
 rw[deep]
 omega
theorem srt_pm {a b:List (List Key)} (h:a.Perm b) (ok:Okk b):srt a=srt b:=aj2 ok.2.2 ok.2.1 (ab8.trans h) (amj (fun x hx=>ok.2.2 x (h.mem_iff.mp hx)) (h.nodup_iff.mpr ok.2.1))
noncomputable def sp_cop:Sp:=fun vs H Q _=>∃(l:Addr) (us:List V) (rows:List (Option Tr)),vs=[.ref l]∧H l=some (.lst us)∧Paired (RwT H []) us rows∧rows.length≤64∧∀H' l' us',Same H H'→H l'=none→H' l'=some (.lst us')→Paired (RwT H' []) us' rows→Paired (NwT H H') us' rows→Q (.ref l') H'
theorem h_cop (T:Txt K mg A):Have P w K mg base "_law_copied" 1 ["_law_row"] [] sp_cop:=by
 refine T.r_l_copied.have ajb (fun vs H Q E z=>?_) ?_
 ·obtain⟨l,us,rows,rfl,_⟩:=z;rfl
 ·intro f cdv A' outer s H vs Q E hr z
  obtain⟨l,us,rows,rfl,hl,hP,h64,q⟩:=z
  have hz:=PySem.sizeLine_eq
  have hul:=Paired.length hP
  refine⟨_,(aag (aav (ade rfl (adu (pvM 0)) (x:="_law_one") (fs:=[]) (ix:=[]) rfl rfl (fun _ _ _ _ _ _=>(aa5 (i:=0) (show (["_law_one"]:List Str).Nodup by decide+kernel) rfl (Or.inl rfl))) (fun _ _ _ _ _ _=>aeb) (fun _ _ _ _ _ _=>(afp (aao aea (pvM 0) aaw (nomark _)) aaw (ac7 (aaa (acf (afz (K:=K) rfl) rfl T.b_list PyProof.Rows.boot_list (aaa (aam (afl (K:=K) rfl) (pvM 0) aab (fun _ _=>rfl)) aad)) (aaa (acf (afz (K:=K) rfl) rfl T.b_list PyProof.Rows.boot_list (aaa (aam (afl (K:=K) rfl) (pvM 0) aab (fun _ _=>rfl)) aad)) (aaa (aam (afl (K:=K) rfl) (pvM 0) aab (fun _ _=>rfl)) aad))))))))),?_⟩
  walk_at "wp"
  refine⟨⟨_,SqL.of hl⟩,fun D hD=>ae0 (xs:=us) (fun i ys σ H'=>∃v,σ=[v]∧Same H H'∧H' D=some (.lst ys)∧Paired (RwT H' [D]) ys (rows.take i)∧Paired (NwT H H') ys (rows.take i)) ⟨_,rfl,aau aae hD,aah,.nil,.nil⟩ (fun i ys σ H' _ ⟨_,_,s2,_⟩=>SqL.of (s2 _ _ hl)) (fun i v ys σ H' hi=>?_) (fun ys σ H6=>?_)⟩
  ·rintro⟨v',rfl,s2,hD2,hY,hN⟩
   obtain⟨o,ho1,ho2⟩:=acn hP hi
   have hil:=(List.getElem?_eq_some_iff.mp ho1).1
   have htk:rows.take (i+1)=rows.take i++[o]:=by rw[List.take_add_one,ho1];rfl
   have hyl:=Paired.length hY
   rw[List.length_take] at hyl
   have kp:∀{G9:Hp} {ws9:List V},Same H' G9→Paired (RwT (upd G9 D (.lst ws9)) [D]) ys (rows.take i)∧Paired (NwT H (upd G9 D (.lst ws9))) ys (rows.take i):=fun {G9 ws9} s9=>⟨Paired.mapP hY fun _ _ q=>q.keep (xs:=[D]) (fun x hx=>⟨ys,by rw[List.mem_singleton.mp hx];exact hD2⟩) (fun c o hc hn _=>by rw[aaf (fun z=>hn (by simp[z]))];exact s9 _ _ hc),Paired.mapP hN fun _ _ q=>q.keep fun c us hc=>by rw[aaf (aca hc hD2 (fun z=>nomatch z))];exact s9 _ _ hc⟩
   walk_at "wp"
   cases o with
   |none=>
    obtain rfl:v=.non:=ho2
    rw[if_pos rfl,htk]
    exact⟨hD2,by omega,abg s2 hD,ac4 (kp aae).1 rfl,ac4 (kp aae).2 trivial⟩
   |some r=>
    obtain⟨b,ks,tw⟩:=r
    obtain⟨t0,bl,hl0,rfl,d1,d2,⟨ls,d3,d3b⟩,_⟩:=id ho2
    rw[if_neg (fun z=>nomatch z)]
    refine⟨_,rfl,_,SqT.of (s2 _ _ d1),_,aac (j:=0) rfl,bl,rfl,_,.inl (SqL.of (s2 _ _ d2)),fun nb hnb=>?_⟩
    obtain⟨a1,c1⟩:=aa4 (o:=.lst (b.map V.int)) hnb
    generalize upd H' nb _=J1 at *
    have s3:=s2.trans a1
    refine⟨_,rfl,_,SqT.of (s3 _ _ d1),_,aac (j:=1) rfl,hl0,rfl,_,.inl (SqL.of (s3 _ _ d3)),fun nh hnh=>?_⟩
    obtain⟨a2,c2⟩:=aa4 (o:=.lst ls) hnh
    generalize upd J1 nh _=J2 at *
    have s4:=s3.trans a2
    refine⟨_,rfl,_,SqT.of (s4 _ _ d1),oV tw,aac (j:=2) rfl,fun np hnp=>?_⟩
    obtain⟨a3,c3⟩:=aa4 (o:=.tup [V.ref nb,V.ref nh,oV tw]) hnp
    generalize upd J2 np _=J3 at *
    have a13:=(a1.trans a2).trans a3
    have hD3:=a13 _ _ hD2
    rw[htk]
    have e1:nb≠D:=(aan hD2 hnb).symm
    have e2:nh≠D:=(aan (a1 _ _ hD2) hnh).symm
    have hw:RwT J3 [D] (.ref np) (some (b,ks,tw)):=⟨np,nb,nh,rfl,c3,a3 _ _ (a2 _ _ c1),⟨ls,a3 _ _ c2,Paired.mapP d3b fun _ _ ⟨a,e,q⟩=>⟨a,e,a13 _ _ (s2 _ _ q)⟩⟩,by simpa using e1,by simpa using e2⟩
    refine⟨hD3,by omega,abg (s2.trans a13) hD,ac4 (kp a13).1 ?_,ac4 (kp a13).2 ⟨np,nb,nh,oV tw,rfl,by rw[aaf (aca c3 hD3 (fun z=>nomatch z))];exact c3,aai s2 hnb,aai s3 hnh⟩⟩
    exact hw.keep (xs:=[D]) (fun x hx=>⟨ys,by rw[List.mem_singleton.mp hx];exact hD3⟩) (fun c o hc hn _=>by rw[aaf (fun z=>hn (by simp[z]))];exact hc)
  ·rintro⟨v',rfl,s2,hD2,hY,hN⟩
   rw[hul,List.take_length] at hY hN
   exact q H6 D ys s2 hD hD2 (Paired.mapP hY fun _ _ h=>h.wk) hN
noncomputable def sp_tru (A:Adr):Sp:=fun vs H Q _=>∃(z:Ss) (s:St) (L:Lb) (wh wf ws:Addr) (w:St) (n:Nat),vs=[.ref z.p,.ref wh]∧C8 A H z s L wh wf ws w n∧n < 64∧∀H',Same H H'→Q (.bl true) H'
theorem h_tru (T:Txt K mg A):Have P w K mg base "_law_true" 9 ["_law_sheets","_law_where"] [] (sp_tru A):=by
 have H_l_like:=aoy (P:=P) (w:=w) (base:=base) T 5
 have H_Sheets_told_frames:=h_tf (P:=P) (w:=w) (base:=base) T
 have H_Sheets_told_slots:=h_tss (P:=P) (w:=w) (base:=base) T
 have H_Sheets_live_sheets:=ao3 (P:=P) (w:=w) (base:=base) T
 refine T.r_l_true.have ac9 (fun vs H Q E z=>?_) ?_
 ·obtain⟨z,s,L,wh,wf,ws,w,n,rfl,_⟩:=z;rfl
 ·intro f cdv A' outer s H vs Q E hr z
  obtain⟨z,s,L,wh,wf,ws,w,n,rfl,hC,hn,q⟩:=z
  obtain⟨us,hf,hP⟩:=hC.wr.hf
  obtain⟨vs,hs,hPs⟩:=hC.wr.hs
  have hul:=Paired.length hP
  have hvl:=Paired.length hPs
  have h64:=hC.cs.ss.len
  have hlen:=hC.len
  have hz:=PySem.sizeLine_eq
  obtain⟨okf,oks⟩:=hC.oks hn
  obtain⟨tl1,tl2⟩:=hC.cs.ss.lens
  have hlF:(tF s).length=s.fr.length:=by unfold tF;rw[List.length_zipWith];omega
  have hlS:(tS s).length=s.sr.length:=by unfold tS;rw[List.length_zipWith];omega
  refine⟨_,(aal (aax (i:=2) ac9.nd rfl (Or.inl rfl) (abb (pvM 0) T.cl_Sheets H_Sheets_told_frames (hr.mono (by decide)) aat))
   (aal (aax (i:=3) ac9.nd rfl (Or.inl rfl) (abb (pvM 0) T.cl_Sheets H_Sheets_told_slots (hr.mono (by decide)) aat))
   (aal (abo (PW.pt (ai2 (ael (acz (aar acu rfl T.b_isinstance PyProof.Rows.boot_isinstance (aaa (pvM 2) (aaa (act (n:="list") rfl T.b_list PyProof.Rows.boot_list) aad))))) (ag7 (ael (acz (aar acu rfl T.b_isinstance PyProof.Rows.boot_isinstance (aaa (pvM 3) (aaa (act (n:="list") rfl T.b_list PyProof.Rows.boot_list) aad)))))))) (aag (aav adp)) aas)
   (aal (abo (PW.pt (ai2 (aao ak8 (aar aa2 rfl T.b_len PySem.boot_len (aaa (pvM 2) aad)) (aar aa2 rfl T.b_len PySem.boot_len (aaa (aam aaj (pvM 1) aab (fun _ _=>rfl)) aad)) (nomark _)) (ag7 (aao ak8 (aar aa2 rfl T.b_len PySem.boot_len (aaa (pvM 3) aad)) (aar aa2 rfl T.b_len PySem.boot_len (aaa (aam aaj (pvM 1) aab (fun _ _=>rfl)) aad)) (nomark _))))) (aag (aav adp)) aas)
   (aal (ady PassesOwn.leaving rfl (ags rfl T.b_enumerate (aaa (aam aaj (pvM 1) aab (fun _ _=>rfl)) aad)) (ah9 (n:=2) rfl (adk (aa5 (i:=4) ac9.nd rfl (Or.inl rfl)) (adk (aa5 (i:=5) ac9.nd rfl (Or.inl rfl)) agl))) (aal (abo (PW.pt (ad9 (aao aea (pvM 5) aaw (nomark _)) (adc (aao ace (aam aaj (pvM 2) (pvM 4) (fun _ _=>rfl)) aaw (nomark _))))) (aag (aav adp)) aas)
   (aag (abo (aao ace (pvM 5) aaw (nomark _)) (aak (aax (i:=6) ac9.nd rfl (Or.inl rfl) (aam aa0 (aam aaj (pvM 2) (pvM 4) (fun _ _=>rfl)) aab (fun _ _=>rfl)))
   (aal (abo (ael (acz (aba H_l_like (hr.mono (by decide)) aat (aaa (aam aaj (pvM 2) (pvM 4) (fun _ _=>rfl)) (aaa (ac7 (aaa (aam aaj (pvM 5) aab (fun _ _=>rfl)) (aaa (aar (afu rfl) rfl T.b_sorted PyProof.Rows.boot_sorted (aaa (aam aaj (pvM 5) aab (fun _ _=>rfl)) aad)) (aaa (pvM 6) aad)))) aad))))) (aag (aav adp)) aas)
   (aag (abo (PW.pt (ad9 (aao ace (pvM 6) aaw (nomark _)) (adc (ael (acz (aba H_l_like (hr.mono (by decide)) aat (aaa (aam aaj (pvM 3) (pvM 6) (fun _ _=>rfl)) (aaa (ac7 (aaa (aam aaj (pvM 5) aab (fun _ _=>rfl)) (aaa (aco aad) (aaa (pvM 4) aad)))) aad)))))))) (aag (aav adp)) aas)))) aas))))
   (aal (ady PassesOwn.leaving rfl (ags rfl T.b_enumerate (aaa (aam aaj (pvM 1) aab (fun _ _=>rfl)) aad)) (ah9 (n:=2) rfl (adk (aa5 (i:=4) ac9.nd rfl (Or.inl rfl)) (adk (aa5 (i:=5) ac9.nd rfl (Or.inl rfl)) agl))) (aal (abo (PW.pt (ad9 (aao ace (pvM 5) aaw (nomark _)) (adc (ael (acz (aba H_l_like (hr.mono (by decide)) aat (aaa (aam aaj (pvM 3) (pvM 4) (fun _ _=>rfl)) (aaa (ac7 (aaa (aam aaj (pvM 5) aab (fun _ _=>rfl)) (aaa (aar (afu rfl) rfl T.b_sorted PyProof.Rows.boot_sorted (aaa (aam aaj (pvM 5) aab (fun _ _=>rfl)) aad)) (aaa aaw aad)))) aad)))))))) (aag (aav adp)) aas)
   (aag (abo (PW.pt (ad9 (aao aea (pvM 5) aaw (nomark _)) (ad9 (aao ace (aam aaj (pvM 3) (pvM 4) (fun _ _=>rfl)) aaw (nomark _)) (adc (ael (acz (aba H_l_like (hr.mono (by decide)) aat (aaa (aam aa0 (aam aaj (pvM 2) (aam aa0 (aam aaj (pvM 3) (pvM 4) (fun _ _=>rfl)) aab (fun _ _=>rfl)) (fun _ _=>rfl)) aab (fun _ _=>rfl)) (aaa (pvM 4) aad))))))))) (aag (aav adp)) aas))))
   (aal (aax (i:=7) ac9.nd rfl (Or.inl rfl) (aar aa2 rfl T.b_len PySem.boot_len (aaa (ade rfl (adu (aay ag9 (aam aaj (pvM 1) aab (fun _ _=>rfl)) (aam aaj (pvM 1) aab (fun _ _=>rfl)))) (x:="_law_one") (fs:=[]) (ix:=[]) rfl rfl (fun _ _ _ _ _ _=>(aa5 (i:=0) (show (["_law_one"]:List Str).Nodup by decide+kernel) rfl (Or.inl rfl))) (fun _ _ _ _ _ _=>(ajr (aao ace (pvM 0) aaw (nomark _)))) (fun _ _ _ _ _ _=>(pvM 0))) aad)))
   (aag (aav (aba H_l_like (hr.mono (by decide)) aat (aaa (abb (pvM 0) T.cl_Sheets H_Sheets_live_sheets (hr.mono (by decide)) aat) (aaa (pvM 7) aad)))))))))))),?_⟩
  refine⟨fun σ G=>∃l1 u1,σ=[some (.ref z.p),some (.ref wh),some (.ref l1),none,none,none,none,none]∧Same H G∧G l1=some (.lst u1)∧Paired (RwT G []) u1 (tF s),?_,fun σ1 G1=>?_⟩
  ·walk_at "wp"
   obtain⟨dx,h9⟩:=hC.cs.ss.me
   exact⟨dx,_,h9,abw (by decide+kernel),z,s,rfl,hC.cs.ss,okf,fun H1 l1 u1 b1 _ b3 b4 _=>⟨l1,rfl,b1,u1,b3,b4⟩⟩
  rintro⟨l1,u1,rfl,s1,k1,p1⟩
  refine⟨fun σ G=>∃l2 u2,σ=[some (.ref z.p),some (.ref wh),some (.ref l1),some (.ref l2),none,none,none,none]∧Same G1 G∧G l2=some (.lst u2)∧Paired (RwT G []) u2 (tS s),?_,fun σ2 G2=>?_⟩
  ·walk_at "wp"
   obtain⟨dx,h9⟩:=(hC.same s1).cs.ss.me
   exact⟨dx,_,h9,abw (by decide+kernel),z,s,rfl,(hC.same s1).cs.ss,hC.tw,okf,oks,fun H1 l1 u1 b1 _ b3 b4 _=>⟨l1,rfl,b1,u1,b3,b4⟩⟩
  rintro⟨l2,u2,rfl,s12,k2,p2⟩
  have s2:=s1.trans s12
  have k1:=s12 _ _ k1
  have p1:Paired (RwT G2 []) u1 (tF s):=Paired.mapP p1 fun _ _ h=>h.keep (fun x hx=>by cases hx) fun c o hc _ _=>s12 _ _ hc
  have hl1:=Paired.length p1
  have hl2:=Paired.length p2
  have rowF:∀(i:Nat) x o,s.fr[i]?=some x→s.tf[i]?=some o→∃v,u1[i]?=some v∧RwT G2 [] v (tdF x o)∧∀y,tdF x o=some y→Okt y:=fun i x o hx ho=>by
   have e:(tF s)[i]?=some (tdF x o):=by unfold tF;rw[List.getElem?_zipWith,hx,ho]
   obtain⟨v,h1,h2⟩:=aa1 p1 e
   exact⟨v,h1,h2,fun y hy=>aqk okf (by rw[←hy];exact List.mem_of_getElem? e)⟩
  have rowS:∀(i:Nat) x o,s.sr[i]?=some x→s.ts[i]?=some o→∃v,u2[i]?=some v∧RwT G2 [] v (tdS s.fr x o)∧∀y,tdS s.fr x o=some y→Okt y:=fun i x o hx ho=>by
   have e:(tS s)[i]?=some (tdS s.fr x o):=by unfold tS;rw[List.getElem?_zipWith,hx,ho]
   obtain⟨v,h1,h2⟩:=aa1 p2 e
   exact⟨v,h1,h2,fun y hy=>aql okf oks (by rw[←hy];exact List.mem_of_getElem? e)⟩
  have rsm:∀{G G':Hp} {v:V} {r:Option Tr},RwT G [] v r→Same G G'→RwT G' [] v r:=fun h s=>h.keep (fun x hx=>by cases hx) fun c o hc _ _=>s _ _ hc
  have srtE:∀{r w0:Sh},r∈alS s→w0.ks.Perm r.ks→srt w0.ks=srt r.ks:=fun hr hp=>srt_pm hp (hC.okk hn hr)
  refine⟨fun σ G=>σ=[some (.ref z.p),some (.ref wh),some (.ref l1),some (.ref l2),none,none,none,none]∧Same G2 G,?_,fun σ3 G3=>?_⟩
  ·walk_at "wp"
   refine⟨by decide,af5 k1,?_⟩
   rw[aga k1]
   refine iteF ⟨by decide,af5 k2,?_⟩
   rw[aga k2]
   exact iteF aae
  rintro⟨rfl,s3⟩
  refine⟨fun σ G=>σ=[some (.ref z.p),some (.ref wh),some (.ref l1),some (.ref l2),none,none,none,none]∧Same G3 G,?_,fun σ4 G4=>?_⟩
  ·walk_at "wp"
   have s23:=s2.trans s3
   refine⟨u1.length,.inl ⟨_,SqL.of (s3 _ _ k1),rfl⟩,_,SqL.of (s23 _ _ hC.wr.hw),_,aac (j:=0) rfl,us.length,.inl ⟨_,SqL.of (s23 _ _ hf),rfl⟩,ifn (by rw[decide_eq_true (by omega)];rfl) ⟨u2.length,.inl ⟨_,SqL.of (s3 _ _ k2),rfl⟩,_,SqL.of (s23 _ _ hC.wr.hw),_,aac (j:=1) rfl,vs.length,.inl ⟨_,SqL.of (s23 _ _ hs),rfl⟩,ifn (by rw[decide_eq_true (by omega)];rfl) aae⟩⟩
  rintro⟨rfl,s4⟩
  have s24:=s3.trans s4
  refine⟨fun σ G=>∃v4 v5 v6,σ=[some (.ref z.p),some (.ref wh),some (.ref l1),some (.ref l2),v4,v5,v6,none]∧Same G2 G,?_,fun σ5 G5=>?_⟩
  ·walk_at "wp"
   refine⟨_,SqL.of ((s2.trans s24) _ _ hC.wr.hw),_,aac (j:=0) rfl,wf,rfl,⟨_,SqL.of ((s2.trans s24) _ _ hf)⟩,ae1 (K:=K) (xs:=us) (fun i σ G=>∃v4 v5 v6,σ=[some (.ref z.p),some (.ref wh),some (.ref l1),some (.ref l2),v4,v5,v6,none]∧Same G2 G) ⟨_,_,_,rfl,s24⟩ (fun i σ G _ ⟨_,_,_,_,e⟩=>SqL.of ((s2.trans e) _ _ hf)) (fun i v tt σ G hi=>?_) (fun σ G=>?_)⟩
   ·rintro⟨v4,v5,v6,rfl,s5⟩ htt
    obtain⟨o9,ho1,ho2⟩:=acn hP hi
    have hil:i < s.fr.length:=by have:=(List.getElem?_eq_some_iff.mp hi).1;omega
    obtain⟨o,ho⟩:∃o,s.tf[i]?=some o:=⟨_,List.getElem?_eq_getElem (by omega)⟩
    obtain⟨b5,c5⟩:=aa4 (o:=.tup [V.int (i:Int),v]) htt
    walk_at "wp"
    generalize upd G tt _=G5 at *
    have s5:=s5.trans b5
    have sH:=s2.trans s5
    refine⟨_,SqT.of c5,rfl,_,_,rfl,_,_,rfl,rfl,?_⟩
    refine⟨fun σ G=>σ=[some (.ref z.p),some (.ref wh),some (.ref l1),some (.ref l2),some (.int (i:Int)),some v,v6,none]∧Same G5 G,?_,fun σ6 G6=>?_⟩
    ·walk_at "wp"
     cases o9 with
     |some w0=>
      obtain⟨rfl,_⟩:=ho2
      rw[if_neg (fun z=>nomatch z)]
      exact aae
     |none=>
      obtain rfl:v=.non:=ho2
      obtain⟨x,hx1,hx2⟩:=aa1 hC.sf ho1
      obtain rfl:=(aof hx2).mpr rfl
      obtain⟨v9,e1,e2,_⟩:=rowF i none o hx1 ho
      obtain rfl:v9=.non:=e2
      rw[if_pos rfl]
      exact⟨_,SqL.of (s5 _ _ k1),.non,aac e1,ifn (by rw[decide_eq_true rfl];rfl) aae⟩
    rintro⟨rfl,s6⟩
    walk_at "wp"
    cases o9 with
    |none=>
     obtain rfl:v=.non:=ho2
     exact ifn (by rw[decide_eq_true rfl];rfl) (s5.trans s6)
    |some w0=>
     obtain⟨r,hr1,hr2,hr3⟩:=afw hC.sf ho1
     have hral:=aog (f:=true) hr1
     obtain⟨v9,e1,e2,e3⟩:=rowF i (some r) o hr1 ho
     obtain⟨t9,bl,hl,rfl,d1,d2,d3,_⟩:=id e2
     have hRr:=ho2
     obtain⟨rfl,q1,q2,⟨ls,q3,q4⟩,_⟩:=ho2
     have s6':=s5.trans s6
     have sH6:=s2.trans s6'
     obtain⟨o1,o2,o3⟩:=(hC.okk hn hral:Okk r.ks)
     have hll:=Paired.length q4
     have hkl:=hr3.length_eq
     refine ifp (by rw[decide_eq_false (fun z=>nomatch z)];rfl) ⟨_,SqL.of (s6' _ _ k1),_,aac e1,t9,rfl,_,SqT.of (s6' _ _ d1),oV o,aac (j:=2) rfl,?_⟩
     refine⟨fun σ G=>σ=[some (.ref z.p),some (.ref wh),some (.ref l1),some (.ref l2),some (.int (i:Int)),some (.ref w0.sh),some (oV o),none]∧Same G6 G,?_,fun σ7 G7=>?_⟩
     ·walk_at "wp"
      refine⟨_,SqL.of (s6' _ _ k1),_,aac e1,_,SqL.of (sH6 _ _ q1),_,aac (j:=0) rfl,_,SqL.of (sH6 _ _ q1),_,aac (j:=1) rfl,w0.hd,rfl,ls,SqL.of (sH6 _ _ q3),w0.ks,afc q4 (fun _ _ ⟨x,e,q⟩=>⟨x,e,sH6 _ _ q⟩),by omega,hr3.nodup_iff.mpr o2,fun k hk=>o3 k (hr3.mem_iff.mp hk),fun l3 us3 ks3 hl3 hk3 hp3 hu3 p4 hp4=>?_⟩
      have ek:ks3=srt r.ks:=aj2 o3 o2 (hp3.trans hr3) hu3
      rw[ek] at hk3
      obtain⟨a3,b3⟩:=aa4 (o:=.lst us3) hl3
      generalize upd G6 l3 _=J3 at *
      obtain⟨a4,b4⟩:=aa4 (o:=.tup [V.ref w0.bx,V.ref l3,oV o]) hp4
      generalize upd J3 p4 _=J4 at *
      have s34:=a3.trans a4
      have hw:RwT J4 [] (.ref p4) (some (r.b,srt r.ks,o)):=⟨p4,w0.bx,l3,rfl,b4,by rw[←hr2];exact s34 _ _ (sH6 _ _ q2),⟨us3,a4 _ _ b3,afc hk3 fun _ _ ⟨a,e,q⟩=>⟨a,e,s34 _ _ q⟩⟩,by simp,by simp⟩
      exact⟨_,_,_,rfl,(rsm e2 (s6'.trans s34)).lks e3,hw.lks e3,Nat.le_trans akg (by decide),fun H9 b9=>⟨true,rfl,iteF (s34.trans b9)⟩⟩
     rintro⟨rfl,s7⟩
     have s7':=s6'.trans s7
     have sH7:=s2.trans s7'
     walk_at "wp"
     cases o with
     |none=>exact ifn (by rw[show oV none=V.non from rfl,decide_eq_true rfl];rfl) (iteF s7')
     |some j=>
      have tj:=hC.tw.there i j ho
      have bj:=hC.tw.bare i j tj
      obtain⟨v8,f1,f2,f3⟩:=rowS j none (some i) bj tj
      have eb:bOf s.fr i=r.b:=by unfold bOf;rw[hr1]
      refine ifp (by rw[show oV (some j)=V.int (j:Int) from rfl,decide_eq_false (fun z=>nomatch z)];rfl) ⟨u2,_,rfl,SqL.of (s7' _ _ k2),_,aac f1,_,SqL.of (sH7 _ _ q1),_,aac (j:=0) rfl,fun p8 hp8 p9 hp9=>?_⟩
      obtain⟨a3,b3⟩:=aa4 (o:=.lst []) hp8
      generalize upd G7 p8 _=J3 at *
      obtain⟨a4,b4⟩:=aa4 (o:=.tup [V.ref w0.bx,V.ref p8,V.int (i:Int)]) hp9
      generalize upd J3 p9 _=J4 at *
      have s34:=a3.trans a4
      have hw:RwT J4 [] (.ref p9) (some (bOf s.fr i,[],some i)):=⟨p9,w0.bx,p8,rfl,b4,by rw[eb,←hr2];exact s34 _ _ (sH7 _ _ q2),⟨[],a4 _ _ b3,.nil⟩,by simp,by simp⟩
      exact⟨_,_,_,rfl,(rsm f2 (s7'.trans s34)).lks f3,hw.lks f3,Nat.le_trans akg (by decide),fun H9 b9=>⟨true,rfl,iteF (s7'.trans (s34.trans b9))⟩⟩
   ·rintro⟨v4,v5,v6,rfl,s5⟩
    exact⟨_,_,_,rfl,s5⟩
  rintro⟨v4,v5,v6,rfl,s25⟩
  refine⟨fun σ G=>∃v4 v5 v6,σ=[some (.ref z.p),some (.ref wh),some (.ref l1),some (.ref l2),v4,v5,v6,none]∧Same G2 G,?_,fun σ6 G6=>?_⟩
  ·walk_at "wp"
   refine⟨_,SqL.of ((s2.trans s25) _ _ hC.wr.hw),_,aac (j:=1) rfl,ws,rfl,⟨_,SqL.of ((s2.trans s25) _ _ hs)⟩,ae1 (K:=K) (xs:=vs) (fun i σ G=>∃v4 v5 v6,σ=[some (.ref z.p),some (.ref wh),some (.ref l1),some (.ref l2),v4,v5,v6,none]∧Same G2 G) ⟨_,_,_,rfl,s25⟩ (fun i σ G _ ⟨_,_,_,_,e⟩=>SqL.of ((s2.trans e) _ _ hs)) (fun i v tt σ G hi=>?_) (fun σ G=>?_)⟩
   ·rintro⟨v4,v5,v6,rfl,s5⟩ htt
    obtain⟨o9,ho1,ho2⟩:=acn hPs hi
    have hil:i < s.sr.length:=by have:=(List.getElem?_eq_some_iff.mp hi).1;omega
    obtain⟨o,ho⟩:∃o,s.ts[i]?=some o:=⟨_,List.getElem?_eq_getElem (by omega)⟩
    obtain⟨b5,c5⟩:=aa4 (o:=.tup [V.int (i:Int),v]) htt
    walk_at "wp"
    generalize upd G tt _=G5 at *
    have s5:=s5.trans b5
    have sH:=s2.trans s5
    refine⟨_,SqT.of c5,rfl,_,_,rfl,_,_,rfl,rfl,?_⟩
    refine⟨fun σ G=>σ=[some (.ref z.p),some (.ref wh),some (.ref l1),some (.ref l2),some (.int (i:Int)),some v,v6,none]∧Same G5 G,?_,fun σ6 G6=>?_⟩
    ·walk_at "wp"
     cases o9 with
     |none=>
      obtain rfl:v=.non:=ho2
      exact ifn (by rw[decide_eq_true rfl];rfl) (iteF aae)
     |some w0=>
      obtain⟨r,hr1,hr2,hr3⟩:=afw hC.sr ho1
      have hral:=aog (f:=false) hr1
      obtain⟨v9,e1,e2,e3⟩:=rowS i (some r) o hr1 ho
      obtain⟨rfl,q1,q2,⟨ls,q3,q4⟩,_⟩:=ho2
      obtain⟨o1,o2,o3⟩:=(hC.okk hn hral:Okk r.ks)
      have hll:=Paired.length q4
      have hkl:=hr3.length_eq
      refine ifp (by rw[decide_eq_false (fun z=>nomatch z)];rfl) ⟨_,SqL.of (s5 _ _ k2),_,aac e1,_,rfl,_,SqL.of (sH _ _ q1),_,aac (j:=0) rfl,_,rfl,_,SqL.of (sH _ _ q1),_,aac (j:=1) rfl,w0.hd,rfl,ls,SqL.of (sH _ _ q3),w0.ks,afc q4 (fun _ _ ⟨x,e,q⟩=>⟨x,e,sH _ _ q⟩),by omega,hr3.nodup_iff.mpr o2,fun k hk=>o3 k (hr3.mem_iff.mp hk),fun l3 us3 ks3 hl3 hk3 hp3 hu3 p4 hp4=>?_⟩
      have ek:ks3=srt r.ks:=aj2 o3 o2 (hp3.trans hr3) hu3
      rw[ek] at hk3
      obtain⟨a3,b3⟩:=aa4 (o:=.lst us3) hl3
      generalize upd G5 l3 _=J3 at *
      obtain⟨a4,b4⟩:=aa4 (o:=.tup [V.ref w0.bx,V.ref l3,V.non]) hp4
      generalize upd J3 p4 _=J4 at *
      have s34:=a3.trans a4
      have hw:RwT J4 [] (.ref p4) (some (r.b,srt r.ks,none)):=⟨p4,w0.bx,l3,rfl,b4,by rw[←hr2];exact s34 _ _ (sH _ _ q2),⟨us3,a4 _ _ b3,afc hk3 fun _ _ ⟨a,e,q⟩=>⟨a,e,s34 _ _ q⟩⟩,by simp,by simp⟩
      exact⟨_,_,_,rfl,(rsm e2 (s5.trans s34)).lks e3,hw.lks e3,Nat.le_trans akg (by decide),fun H9 b9=>⟨true,rfl,iteF (s34.trans b9)⟩⟩
    rintro⟨rfl,s6⟩
    have s6':=s5.trans s6
    walk_at "wp"
    cases o9 with
    |some w0=>
     obtain⟨rfl,_⟩:=ho2
     rw[if_neg (fun z=>nomatch z)]
     exact iteF s6'
    |none=>
     obtain rfl:v=.non:=ho2
     obtain⟨x,hx1,hx2⟩:=aa1 hC.sr ho1
     obtain rfl:=(aof hx2).mpr rfl
     rw[if_pos rfl]
     obtain⟨v9,e1,e2,_⟩:=rowS i none o hx1 ho
     cases o with
     |none=>
      obtain rfl:v9=.non:=e2
      exact⟨_,SqL.of (s6' _ _ k2),.non,aac e1,ifn (by rw[decide_eq_true rfl];rfl) (iteF s6')⟩
     |some j=>
      obtain⟨t9,bl,hl,rfl,d1,_⟩:=e2
      have tj:=hC.tw.back j i ho
      obtain⟨r,hr1⟩:=hC.tw.full j i tj
      obtain⟨v8,f1,f2,_⟩:=rowF j (some r) (some i) hr1 tj
      obtain⟨t8,bl8,hl8,rfl,c1,_⟩:=f2
      refine⟨_,SqL.of (s6' _ _ k2),_,aac e1,ifp (by rw[decide_eq_false (fun z=>nomatch z)];rfl) ⟨_,SqL.of (s6' _ _ k2),_,aac e1,t9,rfl,_,SqT.of (s6' _ _ d1),oV (some j),aac (j:=2) rfl,u1,_,rfl,SqL.of (s6' _ _ k1),_,aac f1,t8,rfl,_,SqT.of (s6' _ _ c1),oV (some i),aac (j:=2) rfl,?_⟩⟩
      exact⟨_,_,.leaf (.int (i:Int)),rfl,by unfold Lks;exact⟨rfl,rfl⟩,by unfold Lks;exact⟨rfl,rfl⟩,by rw[deep];exact Nat.zero_le _,fun H2 b2=>⟨true,rfl,iteF (s6'.trans b2)⟩⟩
   ·rintro⟨v4,v5,v6,rfl,s5⟩
    exact⟨_,_,_,rfl,s5⟩
  rintro⟨v4,v5,v6,rfl,s26⟩
  refine⟨fun σ G=>σ=[some (.ref z.p),some (.ref wh),some (.ref l1),some (.ref l2),v4,v5,v6,some (.int (live s:Int))]∧Same G2 G,?_,fun σ7 G7=>?_⟩
  ·walk_at "wp"
   have sH6:=s2.trans s26
   refine⟨_,SqL.of (sH6 _ _ hC.wr.hw),_,aac (j:=0) rfl,_,SqL.of (sH6 _ _ hC.wr.hw),_,aac (j:=1) rfl,wf,rfl,ws,rfl,us,sH6 _ _ hf,vs,sH6 _ _ hs,by omega,fun p hp=>?_⟩
   obtain⟨b2,c2⟩:=aa4 (o:=.lst (us++vs)) hp
   have hPa:Paired (R2 H L) (us++vs) (w.fr++w.sr):=aeh hP hPs
   generalize upd G6 p _=G9 at *
   refine⟨⟨_,SqL.of c2⟩,fun D hD=>ae0 (xs:=us++vs) (fun i ys σ H'=>∃v,σ=[v]∧Same G9 H'∧H' D=some (.lst ys)∧ys.length=cnt ((w.fr++w.sr).take i)) ⟨_,rfl,aau aae hD,aah,rfl⟩ (fun i ys σ H' _ ⟨_,_,s2,_⟩=>SqL.of (s2 _ _ c2)) (fun i v ys σ H' hi=>?_) (fun ys σ H6=>?_)⟩
   ·rintro⟨v',rfl,s8,hD2,hyl⟩
    obtain⟨o,ho1,ho2⟩:=acn hPa hi
    have hil:=(List.getElem?_eq_some_iff.mp hi).1
    rw[List.length_append] at hil
    have htk:(w.fr++w.sr).take (i+1)=(w.fr++w.sr).take i++[o]:=by rw[List.take_add_one,ho1];rfl
    have hle:cnt ((w.fr++w.sr).take i)≤i:=Nat.le_trans (afo (rows:=(w.fr++w.sr).take i)).1 (by rw[List.length_take];omega)
    walk_at "wp"
    cases o with
    |none=>
     obtain rfl:v=.non:=ho2
     refine ifn (by rw[decide_eq_true rfl];rfl) ⟨s8,hD2,?_⟩
     rw[htk,hyl];unfold cnt;rw[List.filter_append,List.length_append];rfl
    |some r=>
     obtain⟨rfl,_⟩:=ho2
     refine ifp (by rw[decide_eq_false (fun z=>nomatch z)];rfl) ⟨hD2,by omega,abg s8 hD,?_⟩
     rw[htk,List.length_append,hyl];unfold cnt;rw[List.filter_append,List.length_append];rfl
   ·rintro⟨v',rfl,s8,hD2,hyl⟩
    have hpl:=Paired.length hPa
    rw[hpl,List.take_length] at hyl
    refine⟨ys.length,.inl ⟨_,SqL.of hD2,rfl⟩,?_,(s26.trans b2).trans s8⟩
    rw[hyl]
    have e9:∀{a b:List (Option Sh)},Paired SimR a b→cnt a=cnt b:=fun {a b} h=>by
     have e:∀l:List (Option Sh),cnt l=((l.map Option.isNone).filter fun b=> !b).length:=fun l=>by
      unfold cnt
      rw[List.filter_map,List.length_map]
      congr 1
      exact List.filter_congr fun x _=>by cases x<;>rfl
     rw[e,e,akc h]
    have:cnt (w.fr++w.sr)=live s:=by
     unfold live
     rw[e9 hC.sf,e9 hC.sr]
     unfold cnt
     rw[List.filter_append,List.length_append]
    rw[this]
  rintro⟨rfl,s27⟩
  walk_at "wp"
  have X4:=hC.same (s2.trans s27)
  obtain⟨dx,h9⟩:=X4.cs.ss.me
  exact⟨dx,_,h9,abw (by decide+kernel),z,s,rfl,X4.cs.ss,fun H1 b1=>⟨_,_,.leaf (.int (live s:Int)),rfl,by unfold Lks;exact⟨rfl,rfl⟩,by unfold Lks;exact⟨rfl,rfl⟩,by rw[deep];exact Nat.zero_le _,fun H2 b2=>q H2 (((s2.trans s27).trans b1).trans b2)⟩⟩
noncomputable def sp_num:Sp:=fun vs H Q _=>∃(d:Bool) (c:Int) (k:Nat),vs=[.bl d,.int c,.int (k:Int)]∧k≤64∧∀nb:Nat,Q (.int (nb:Int)) H
theorem h_num (T:Txt K mg A):Have P w K mg base "_law_number" 1 ["_law_digits","_law_cell_here","_law_k"] [] sp_num:=by
 refine T.r_l_number.have agx (fun vs H Q E z=>?_) ?_
 ·obtain⟨d,c,k,rfl,_⟩:=z;rfl
 ·intro f' cdv A' outer s H vs Q E hr z
  obtain⟨d,c,k,rfl,hk,q⟩:=z
  have go:∀x:Int,0≤x→Q (.int x) H:=fun x hx=>by have:=q x.toNat;rwa[Int.toNat_of_nonneg hx] at this
  refine⟨_,(aak (abo (acz (pvM 0)) (aag (aav (aay ab4 (pvM 1) (aay aok aab aab)))) aas)
   (aak (aax (i:=3) agx.nd rfl (Or.inl rfl) (aay ab4 (aay adv (aay adv (aay af4 (pvM 1) aab) (aay af4 (aay af4 (pvM 2) (pvM 2)) aab)) (pvM 2)) aab))
   (aag (aav (aay adv (aay af4 (pvM 3) aab) (aay ab4 (aay adv (aay adv (aay af4 (pvM 3) aab) (aay af4 (pvM 1) aab)) (aay af4 (aay af4 (pvM 2) (pvM 2)) (pvM 2))) aab)))))),?_⟩
  walk_at "wp"
  refine ite2 (fun _=>go _ (Int.emod_nonneg _ (by decide))) (fun _=>⟨.inl ⟨by omega,by omega⟩,.inl ⟨by omega,by omega⟩,.inr ⟨by omega,by omega⟩,go _ ?_⟩)
  generalize (c * 48271+(k:Int) * k * 16807+k)=y
  generalize (y % 2147483647 * 39373+c * 69621+(k:Int) * k * k)=x
  have:=Int.emod_nonneg y (show (2147483647:Int)≠0 by decide)
  have:=Int.emod_nonneg x (show (2147483629:Int)≠0 by decide)
  omega
section
variable {A:Adr} {H H':Hp} {z:Ss} {s s':St} {L L':Lb} {wh wf ws:Addr} {w w':St} {n:Nat}
theorem C8.lab (h:C8 A H z s L wh wf ws w n) {a:Addr} {k:Nat} {us:List V} (e:Same H H') (ha:H a=none) (g:H' a=some (.lst us)):C8 A H' z s (Pf.lab L a k) wh wf ws w n:=h.mv (N:=[]) (Mv.lab e ha) (fun _ h=>by cases h) (h.wr.lv.lab e g)
theorem C8.used (h:C8 A H z s L wh wf ws w n) {r:Sh} (hr:r∈alS w):H r.hd≠none∧H r.bx≠none:=by
 have go:∃(f:Bool) (j:Nat),(w.rw f)[j]?=some (some r):=by
  rcases abp.mp hr with hr|hr
  ·obtain⟨j,hj⟩:=List.mem_iff_getElem?.mp hr
   exact⟨true,j,hj⟩
  ·obtain⟨j,hj⟩:=List.mem_iff_getElem?.mp hr
   exact⟨false,j,hj⟩
 obtain⟨f,j,hj⟩:=go
 obtain⟨_,_,h2,⟨us,h3,_⟩,_⟩:=h.wr.got hj
 exact⟨by rw[h3];simp,by rw[h2];simp⟩
end
noncomputable def spk (f:Bool) (j:Nat):List Key:=[.inr (nmS f),.inl (j:Int)]
noncomputable def hkk (t:Str) (n:Nat) (x:Int):List Key:=[.inr t,.inl (n:Int),.inl x]
noncomputable def TuL (H:Hp) (us:List V) (ks:List (List Key)):Prop:=Paired (fun v k=>∃a,v=V.ref a∧H a=some (.tup (k.map kV))) us ks
theorem TuL.same {H H':Hp} {us:List V} {ks:List (List Key)} (h:TuL H us ks) (e:Same H H'):TuL H' us ks:=Paired.mapP h fun _ _ ⟨a,e1,q⟩=>⟨a,e1,e _ _ q⟩
theorem TuL.push {H:Hp} {us:List V} {ks:List (List Key)} {D tp:Addr} {k:List Key} {ys:List V} (h:TuL H us ks) (hD:H D=some (.lst ys)) (ht:H tp=none) {zs:List V}:TuL (upd (upd H tp (.tup (k.map kV))) D (.lst zs)) (us++[.ref tp]) (ks++[k]):=by
 have s1:Same H (upd H tp (.tup (k.map kV))):=aau aae ht
 have hD1:=s1 _ _ hD
 have k1:∀{a:Addr} {vs:List V},upd H tp (.tup (k.map kV)) a=some (.tup vs)→upd (upd H tp (.tup (k.map kV))) D (.lst zs) a=some (.tup vs):=fun ha=>by rw[aaf (aca ha hD1 (fun z=>nomatch z))];exact ha
 exact ac4 (Paired.mapP h fun _ _ ⟨a,e1,q⟩=>⟨a,e1,k1 (s1 _ _ q)⟩) ⟨tp,rfl,k1 aah⟩
noncomputable def BkI (A:Adr) (z:Ss) (L:Lb) (wh wf ws:Addr) (w:St) (n wy:Nat) (H G:Hp):Prop:=(¬(wy=2∨wy=3)∧Same H G)∨((wy=2∨wy=3)∧∃s' w',C8 A G z s' L wh wf ws w' n∧Zv [1] L L H G∧w'.fr.length=w.fr.length∧w'.sr.length=w.sr.length)
noncomputable def aqw (A:Adr):Sp:=fun vs H Q _=>∃(z:Ss) (s:St) (L:Lb) (wh wf ws:Addr) (w:St) (n nb:Nat),vs=[.ref z.p,.ref wh,.int (nb:Int),.int (n:Int)]∧C8 A H z s L wh wf ws w n∧n < 63∧
 ∀H' L' s' w',C8 A H' z s' L' wh wf ws w' (n+1)→Zv [1,3,4] L L' H H'→Q (.bl true) H'
theorem h_deed (T:Txt K mg A):Have P w K mg base "_law_deed" 7 ["_law_sheets","_law_where","_law_number_here","_law_k"] [] (aqw A):=by
 have H_l_back:=h_bk (P:=P) (w:=w) (base:=base) T
 have H_l_fresh:=h_frs (P:=P) (w:=w) (base:=base) T
 have H_l_folded:=h_fld (P:=P) (w:=w) (base:=base) T
 have H_l_changed:=h_chg (P:=P) (w:=w) (base:=base) T
 refine T.r_l_deed.have acs (fun vs H Q E z=>?_) ?_
 ·obtain⟨z,s,L,wh,wf,ws,w,n,nb,rfl,_⟩:=z;rfl
 ·intro f cdv A' outer s H vs Q E hr z
  obtain⟨z,s,L,wh,wf,ws,w,n,nb,rfl,hC,hn,q⟩:=z
  have h64:=hC.cs.ss.len
  have hlen:=hC.len
  have hz:=PySem.sizeLine_eq
  obtain⟨us,hf,hP⟩:=hC.wr.hf
  have hul:=Paired.length hP
  refine⟨_,(aal (agr (i:=4) acs.nd rfl rfl rfl (acp rfl T.b_range (aaa (aar aa2 rfl T.b_len PySem.boot_len (aaa (aam aaj (pvM 1) aab (fun _ _=>rfl)) aad)) aad)) (x:="_law_j") (fs:=["_law_number_here"]) (ix:=[2]) rfl rfl (fun _ _ _ _ _ _=>(aa5 (i:=0) (show (["_law_j","_law_number_here"]:List Str).Nodup by decide+kernel) rfl (Or.inl rfl))) (fun _ _ _ _ _ _=>aeb) (fun _ _ _ _ _ _=>(ac0 adb (aay ab4 (aay op_shr (pvM 1) (aay ab4 (pvM 0) aab)) aab) aab (nomark _))))
   (aal (aax (i:=5) acs.nd rfl (Or.inl rfl) (aay acd (pvM 2) aab))
   (aal (aax (i:=6) acs.nd rfl (Or.inl rfl) (aco (aaa (aay ab4 (aay acd (pvM 5) aab) (aay aok aab aab)) (aaa (aay ab4 (aay acd (pvM 5) aab) aab) aad))))
   (aal (abo (aao adb (aay ab4 (pvM 5) aab) aab (nomark _)) (aag (aax (i:=6) acs.nd rfl (Or.inl rfl) (aco (aaa (aay ab4 (aay acd (pvM 5) aab) aab) (aaa (aay ab4 (aay acd (pvM 5) aab) aab) aad))))) aas)
   (aal (aax (i:=7) acs.nd rfl (Or.inl rfl) (ac7 (aaa (aam ix_lst (aco (aaa acy (aaa acy aad))) (aay acd (aay ab4 (aay acd (pvM 5) aab) aab) aab) (fun _ _=>rfl)) (aaa (pvM 3) (aaa (aay ab4 (aay acd (pvM 5) aab) aab) aad)))))
   (aal (aax (i:=8) acs.nd rfl (Or.inl rfl) (aay ab4 (aay acd (pvM 5) aab) aab))
   (aal (agr (i:=9) acs.nd rfl rfl rfl (acp rfl T.b_range (aaa (aar aa2 rfl T.b_len PySem.boot_len (aaa (aam aaj (pvM 1) aab (fun _ _=>rfl)) aad)) aad)) (x:="_law_j") (fs:=["_law_where"]) (ix:=[1]) rfl rfl (fun _ _ _ _ _ _=>(aa5 (i:=0) (show (["_law_j","_law_where"]:List Str).Nodup by decide+kernel) rfl (Or.inl rfl))) (fun _ _ _ _ _ _=>(ajr (aao ace (aam (aec (K:=K) rfl) (aam (aec (K:=K) rfl) (pvM 1) aab (fun _ _=>rfl)) (pvM 0) (fun _ _=>rfl)) aaw (nomark _)))) (fun _ _ _ _ _ _=>(ac7 (aaa acy (aaa (pvM 0) aad)))))
   (aal (agr (i:=10) acs.nd rfl rfl rfl (acp rfl T.b_range (aaa (aar aa2 rfl T.b_len PySem.boot_len (aaa (aam aaj (pvM 1) aab (fun _ _=>rfl)) aad)) aad)) (x:="_law_j") (fs:=["_law_where"]) (ix:=[1]) rfl rfl (fun _ _ _ _ _ _=>(aa5 (i:=0) (show (["_law_j","_law_where"]:List Str).Nodup by decide+kernel) rfl (Or.inl rfl))) (fun _ _ _ _ _ _=>(ajr (aao ace (aam (aec (K:=K) rfl) (aam (aec (K:=K) rfl) (pvM 1) aab (fun _ _=>rfl)) (pvM 0) (fun _ _=>rfl)) aaw (nomark _)))) (fun _ _ _ _ _ _=>(pvM 0)))
   (aal (abo (PW.pt (ai2 (aao apn (pvM 8) aab (nomark _)) (ag7 (aao (alo (n:=4) (hu6 hr)) (pvM 9) (aco aad) (nomark _))))) (aag (aav (aba H_l_fresh (hr.mono (by decide)) aat (aaa (pvM 0) (aaa (pvM 1) (aaa (aco (aaa (pvM 6) (aaa (aco (aaa (pvM 7) aad)) aad))) (aaa (pvM 4) aad))))))) aas)
   (aal (abo (PW.pt (ad9 (aao aif (pvM 8) (ac7 (aaa aab (aaa aab aad))) (by with_unfolding_all rfl)) (adc (aao (alq (n:=4) (hu6 hr)) (pvM 10) (aco aad) (nomark _))))) (aag (aby (aba H_l_back (hr.mono (by decide)) aat (aaa (pvM 0) (aaa (pvM 1) (aaa (aam aaj (pvM 10) (aay ab4 (aay acd (pvM 5) aab) (aar aa2 rfl T.b_len PySem.boot_len (aaa (pvM 10) aad))) (fun _ _=>rfl)) (aaa (pvM 4) aad))))))) aas)
   (aal (abo (aao adb (pvM 8) aab (nomark _)) (aag (aav (aba H_l_folded (hr.mono (by decide)) aat (aaa (pvM 0) (aaa (pvM 1) aad))))) aas)
   (aal (aax (i:=11) acs.nd rfl (Or.inl rfl) (aay ag9 (pvM 9) (ade rfl (adu (pvM 10)) (x:="_law_j") (fs:=[]) (ix:=[]) rfl rfl (fun _ _ _ _ _ _=>(aa5 (i:=0) (show (["_law_j"]:List Str).Nodup by decide+kernel) rfl (Or.inl rfl))) (fun _ _ _ _ _ _=>aeb) (fun _ _ _ _ _ _=>(ac7 (aaa acy (aaa (pvM 0) aad)))))))
   (aal (aax (i:=12) acs.nd rfl (Or.inl rfl) (aay ab4 (aay acd (pvM 5) aab) (aar aa2 rfl T.b_len PySem.boot_len (aaa (pvM 11) aad))))
   (aag (aav (aba H_l_changed (hr.mono (by decide)) aat (@aaa _ _ _ _ _ (pvM 0) (@aaa _ _ _ _ _ (pvM 1) (@aaa _ _ _ _ _ (aam aaj (pvM 11) (pvM 12) (fun _ _=>rfl)) (@aaa _ _ _ _ _ (pvM 8) (@aaa _ _ _ _ _ (aay acd (aay acd (pvM 5) aab) (aar aa2 rfl T.b_len PySem.boot_len (aaa (pvM 11) aad))) (@aaa _ _ _ _ _ (pvM 7) aad rfl) rfl) rfl) rfl) rfl) rfl))))))))))))))))),?_⟩
  refine⟨fun σ G=>∃(mk:Addr) (ms:List Bool),σ=[some (.ref z.p),some (.ref wh),some (.int (nb:Int)),some (.int (n:Int)),some (.ref mk),none,none,none,none,none,none,none,none]∧Same H G∧H mk=none∧G mk=some (.lst (ms.map V.bl))∧ms.length=s.fr.length,?_,fun σ1 G1=>?_⟩
  ·walk_at "wp"
   refine⟨_,SqL.of hC.wr.hw,_,aac (j:=0) rfl,_,.inl ⟨_,SqL.of hf,rfl⟩,by omega,by omega,fun D hD=>?_⟩
   refine acl (fun i9 ys σ H'=>∃(v:Option V) (ms:List Bool),σ=[v,some (.int (nb:Int))]∧Same H H'∧H' D=some (.lst ys)∧ys=ms.map V.bl∧ms.length=i9) ⟨_,[],rfl,aau aae hD,aah,rfl,rfl⟩ (fun i9 ys σ H' hi9=>?_) (fun ys σ H5=>?_)
   ·rintro⟨v,ms,rfl,s1,hD1,rfl,hml⟩
    walk_at "wp"
    exact⟨by omega,hD1,by rw[List.length_map];omega,abg s1 hD,ms++[_],by rw[List.map_append];rfl,by rw[List.length_append,hml];rfl⟩
   ·rintro⟨v,ms,rfl,s1,hD1,rfl,hml⟩
    exact⟨s1,hD,ms,hD1,by omega⟩
  rintro⟨mk,ms,rfl,s1,hmk,mk1,hml⟩
  refine⟨fun σ G=>∃rs:Nat,σ=[some (.ref z.p),some (.ref wh),some (.int (nb:Int)),some (.int (n:Int)),some (.ref mk),some (.int (rs:Int)),none,none,none,none,none,none,none]∧G=G1,?_,fun σ2 G2=>?_⟩
  ·walk_at "wp"
   exact⟨nb / 4096,by omega⟩
  rintro⟨rs,rfl,rfl⟩
  refine⟨fun σ G=>∃(sh:Addr) (x y:Int),σ=[some (.ref z.p),some (.ref wh),some (.int (nb:Int)),some (.int (n:Int)),some (.ref mk),some (.int (rs:Int)),some (.ref sh),none,none,none,none,none,none]∧Same G2 G∧G2 sh=none∧G sh=some (.lst [.int x,.int y]),?_,fun σ3 G3=>?_⟩
  ·walk_at "wp"
   intro p hp
   exact⟨aau aae hp,hp,_,_,rfl⟩
  rintro⟨sh,x0,y0,rfl,s3,hsh,sh3⟩
  refine⟨fun σ G=>∃(sh:Addr) (x y:Int),σ=[some (.ref z.p),some (.ref wh),some (.int (nb:Int)),some (.int (n:Int)),some (.ref mk),some (.int (rs:Int)),some (.ref sh),none,none,none,none,none,none]∧Same G2 G∧G2 sh=none∧G sh=some (.lst [.int x,.int y]),?_,fun σ4 G4=>?_⟩
  ·walk_at "wp"
   exact ite2 (fun _ p hp=>⟨abg s3 (aai s3 hp),aai s3 hp,_,_,rfl⟩) (fun _=>⟨s3,hsh,_,_,sh3⟩)
  clear sh3 hsh s3 x0 y0
  rintro⟨sh,x0,y0,rfl,s4,hsh,sh4⟩
  refine⟨fun σ G=>∃(h:Addr) (t:Str) (x:Int),σ=[some (.ref z.p),some (.ref wh),some (.int (nb:Int)),some (.int (n:Int)),some (.ref mk),some (.int (rs:Int)),some (.ref sh),some (.ref h),none,none,none,none,none]∧Same G4 G∧G h=some (.tup ((hkk t n x).map kV)),?_,fun σ5 G5=>?_⟩
  ·walk_at "wp"
   intro p hp
   obtain⟨b1,c1⟩:=aa4 (o:=.lst [V.str (Str.ofString "task"),V.str (Str.ofString "bank")]) hp
   obtain⟨t,ht⟩:∃t:Str,atI [V.str (Str.ofString "task"),V.str (Str.ofString "bank")] ((rs:Int) / 18 % 5 / 4)=some (.str t):=by
    have:(rs:Int) / 18 % 5 / 4=0∨(rs:Int) / 18 % 5 / 4=1:=by omega
    rcases this with e|e<;>rw[e]
    ·exact⟨_,aac (j:=0) rfl⟩
    ·exact⟨_,aac (j:=1) rfl⟩
   exact⟨_,ht,fun p2 hp2=>⟨b1.trans (aa4 hp2).1,t,_,rfl⟩⟩
  rintro⟨h,t,x,rfl,s5,hh⟩
  refine⟨fun σ G=>∃wy:Nat,σ=[some (.ref z.p),some (.ref wh),some (.int (nb:Int)),some (.int (n:Int)),some (.ref mk),some (.int (rs:Int)),some (.ref sh),some (.ref h),some (.int (wy:Int)),none,none,none,none]∧G=G5,?_,fun σ6 G6=>?_⟩
  ·walk_at "wp"
   exact⟨rs / 450 % 8,by omega⟩
  rintro⟨wy,rfl,rfl⟩
  have s26:=s4.trans s5
  have s06:=s1.trans s26
  have C6:=hC.same s06
  have sh6:=s5 _ _ sh4
  have mk6:=s26 _ _ mk1
  have hsh0:H sh=none:=aai s1 hsh
  have nms:mk≠sh:=aan mk1 hsh
  clear hf hP us hul s4 s5 sh4 hsh
  obtain⟨us,hf,hP⟩:=C6.wr.hf
  obtain⟨vs,hs,hPs⟩:=C6.wr.hs
  have hul:=Paired.length hP
  have hvl:=Paired.length hPs
  refine⟨fun σ G=>∃(fu:Addr) (xs:List V) (js:List Nat),σ=[some (.ref z.p),some (.ref wh),some (.int (nb:Int)),some (.int (n:Int)),some (.ref mk),some (.int (rs:Int)),some (.ref sh),some (.ref h),some (.int (wy:Int)),some (.ref fu),none,none,none]∧Same G6 G∧G6 fu=none∧G fu=some (.lst xs)∧TuL G xs (js.map (spk true))∧(∀j∈js,∃r,w.fr[j]?=some (some r))∧js.length≤64,?_,fun σ7 G7=>?_⟩
  ·walk_at "wp"
   refine⟨_,SqL.of C6.wr.hw,_,aac (j:=0) rfl,_,.inl ⟨_,SqL.of hf,rfl⟩,by omega,by omega,fun D hD=>?_⟩
   refine acl (fun i9 ys σ H'=>∃(v:Option V) (js:List Nat),σ=[v,some (.ref wh)]∧Same G6 H'∧H' D=some (.lst ys)∧TuL H' ys (js.map (spk true))∧js.length≤i9∧∀j∈js,∃r,w.fr[j]?=some (some r)) ⟨_,[],rfl,aau aae hD,aah,.nil,Nat.le_refl _,fun j hj=>by cases hj⟩ (fun i9 ys σ H' hi9=>?_) (fun ys σ H5=>?_)
   ·rintro⟨v,js,rfl,b1,hD1,hT,hjl,hjs⟩
    have hi9:i9 < w.fr.length:=by omega
    obtain⟨r2,hr2⟩:∃r,w.fr[i9]?=some r:=⟨_,List.getElem?_eq_getElem hi9⟩
    obtain⟨v2,hv2,hF2⟩:=aa1 hP hr2
    have hyl:=Paired.length hT
    rw[List.length_map] at hyl
    walk_at "wp"
    rw[Int.zero_add]
    refine⟨_,SqL.of (b1 _ _ C6.wr.hw),_,aac (j:=0) rfl,wf,rfl,_,SqL.of (b1 _ _ hf),_,aac hv2,?_⟩
    cases r2 with
    |none=>
     obtain rfl:v2=.non:=hF2
     exact ifn (by rw[decide_eq_true rfl];rfl) ⟨b1,hD1,js,hT,by omega,hjs⟩
    |some r2=>
     obtain⟨rfl,_⟩:=hF2
     refine ifp (by rw[decide_eq_false (fun z=>nomatch z)];rfl) (fun tp htp=>?_)
     obtain⟨b2,c2⟩:=aa4 (o:=.tup ((spk true i9).map kV)) htp
     refine⟨b2 _ _ hD1,by omega,abg (b1.trans b2) hD,js++[i9],?_,by rw[List.length_append];show js.length+1≤_;omega,fun j hj=>?_⟩
     ·rw[List.map_append]
      exact hT.push (k:=spk true i9) hD1 htp
     ·rcases List.mem_append.mp hj with h|h
      ·exact hjs j h
      ·rw[List.mem_singleton.mp h];exact⟨r2,hr2⟩
   ·rintro⟨v,js,rfl,b1,hD1,hT,hjl,hjs⟩
    exact⟨b1,hD,ys,hD1,js,hT,hjs,by omega⟩
  rintro⟨fu,xs,js,rfl,s7,hfu,fu7,tu7,hjs,hjl⟩
  refine⟨fun σ G=>∃(so:Addr) (is:List Nat),σ=[some (.ref z.p),some (.ref wh),some (.int (nb:Int)),some (.int (n:Int)),some (.ref mk),some (.int (rs:Int)),some (.ref sh),some (.ref h),some (.int (wy:Int)),some (.ref fu),some (.ref so),none,none]∧Same G7 G∧G7 so=none∧G so=some (.lst (is.map fun (j:Nat)=>V.int (j:Int)))∧(∀j∈is,∃r,w.sr[j]?=some (some r))∧is.length≤64,?_,fun σ8 G8=>?_⟩
  ·walk_at "wp"
   refine⟨_,SqL.of (s7 _ _ C6.wr.hw),_,aac (j:=1) rfl,_,.inl ⟨_,SqL.of (s7 _ _ hs),rfl⟩,by omega,by omega,fun D hD=>?_⟩
   refine acl (fun i9 ys σ H'=>∃(v:Option V) (js:List Nat),σ=[v,some (.ref wh)]∧Same G7 H'∧H' D=some (.lst ys)∧ys=(js.map fun (j:Nat)=>V.int (j:Int))∧js.length≤i9∧∀j∈js,∃r,w.sr[j]?=some (some r)) ⟨_,[],rfl,aau aae hD,aah,rfl,Nat.le_refl _,fun j hj=>by cases hj⟩ (fun i9 ys σ H' hi9=>?_) (fun ys σ H5=>?_)
   ·rintro⟨v,js,rfl,b1,hD1,rfl,hjl,hjs⟩
    have hi9:i9 < w.sr.length:=by omega
    obtain⟨r2,hr2⟩:∃r,w.sr[i9]?=some r:=⟨_,List.getElem?_eq_getElem hi9⟩
    obtain⟨v2,hv2,hF2⟩:=aa1 hPs hr2
    walk_at "wp"
    rw[Int.zero_add]
    refine⟨_,SqL.of (b1 _ _ (s7 _ _ C6.wr.hw)),_,aac (j:=1) rfl,ws,rfl,_,SqL.of (b1 _ _ (s7 _ _ hs)),_,aac hv2,?_⟩
    cases r2 with
    |none=>
     obtain rfl:v2=.non:=hF2
     exact ifn (by rw[decide_eq_true rfl];rfl) ⟨b1,hD1,js,rfl,by omega,hjs⟩
    |some r2=>
     obtain⟨rfl,_⟩:=hF2
     refine ifp (by rw[decide_eq_false (fun z=>nomatch z)];rfl) ⟨hD1,by rw[List.length_map];omega,abg b1 hD,js++[i9],by rw[List.map_append];rfl,by rw[List.length_append];show js.length+1≤_;omega,fun j hj=>?_⟩
     rcases List.mem_append.mp hj with h|h
     ·exact hjs j h
     ·rw[List.mem_singleton.mp h];exact⟨r2,hr2⟩
   ·rintro⟨v,js,rfl,b1,hD1,rfl,hjl,hjs⟩
    exact⟨b1,hD,js,hD1,hjs,by omega⟩
  rintro⟨so,is,rfl,s8,hso,so8,his,hil⟩
  have s68:=s7.trans s8
  have s08:=s06.trans s68
  have hfu0:H fu=none:=aai s06 hfu
  have hso0:H so=none:=aai (s06.trans s7) hso
  have sh8:=s68 _ _ sh6
  have mk8:=s68 _ _ mk6
  have hh8:=s68 _ _ hh
  have fu8:=s8 _ _ fu7
  have tu8:=tu7.same s8
  have ko:Old (n+1) (hkk t n x):=⟨t,_,_,rfl,by omega⟩
  have kn:hkk t n x∉hk s:=fun z9=>by
   obtain⟨t',a',b',e,q9⟩:=hC.hn.old _ z9
   injection e with _ e;injection e with e _;injection e with e;omega
  clear hP hPs hf hs C6 s7 s8 fu7 tu7 sh6 mk6 hh s06 s26 mk1 s1 s68 hfu hso
  have mv5:Mv [] L (lab (lab (lab L mk 5) fu 5) so 5) H G8:=(Mv.lab aae hmk).trans ((Mv.lab aae hfu0).trans (Mv.lab s08 hso0))
  have D8:C8 A G8 z s (lab (lab (lab L mk 5) fu 5) so 5) wh wf ws w n:=hC.mv (N:=[]) mv5 (fun _ h=>by cases h) ((((hC.wr.lv.same s08).lab aae mk8).lab aae fu8).lab aae so8)
  have lso:lab (lab (lab L mk 5) fu 5) so 5 so=5:=ad8
  have lfu:lab (lab (lab L mk 5) fu 5) so 5 fu=5:=by
   by_cases e:fu=so
   ·rw[e];exact ad8
   ·rw[adn e];exact ad8
  have lmk:lab (lab (lab L mk 5) fu 5) so 5 mk=5:=by
   by_cases e:mk=so
   ·rw[e];exact ad8
   ·rw[adn e]
    by_cases e:mk=fu
    ·rw[e];exact ad8
    ·rw[adn e];exact ad8
  have zv5:Zv [1,3,4] L (lab (lab (lab L mk 5) fu 5) so 5) H G8:=(mv5.zv hC.wr.lv (by simp)).sub (by simp)
  refine⟨fun σ G=>σ=[some (.ref z.p),some (.ref wh),some (.int (nb:Int)),some (.int (n:Int)),some (.ref mk),some (.int (rs:Int)),some (.ref sh),some (.ref h),some (.int (wy:Int)),some (.ref fu),some (.ref so),none,none]∧Same G8 G∧js≠[],?_,fun σ9 G9=>?_⟩
  ·have frs:∀{G:Hp},Same G8 G→∀p,G p=none→∀p1,upd G p (.lst [V.ref h]) p1=none→∀E',apc A [V.ref z.p,V.ref wh,V.ref p1,V.ref mk] (upd (upd G p (HO.lst [V.ref h])) p1 (HO.lst [V.ref sh,V.ref p])) Q E':=fun {G} sg p hp p1 hp1 E'=>by
    obtain⟨b1,c1⟩:=aa4 (o:=.lst [V.ref h]) hp
    obtain⟨b2,e3⟩:=aa4 (o:=.lst [V.ref sh,V.ref p]) hp1
    have p0:H p=none:=aai (s08.trans sg) hp
    have p10:H p1=none:=aai ((s08.trans sg).trans b1) hp1
    have sG:=(sg.trans b1).trans b2
    have sH:=s08.trans sG
    have e1:=sG _ _ sh8
    have e2:=b2 _ _ c1
    have n1:sh≠p:=aan (sg _ _ sh8) hp
    have n2:sh≠p1:=aan (b1 _ _ (sg _ _ sh8)) hp1
    have n3:p≠p1:=aan c1 hp1
    have e4:=sG _ _ mk8
    have e5:=sG _ _ hh8
    have mvA:Mv [] L (lab (lab (lab L sh 3) p 4) p1 2) H _:=(Mv.lab aae hsh0).trans ((Mv.lab aae p0).trans (Mv.lab sH p10))
    have X:=hC.mv (N:=[]) mvA (fun _ h=>by cases h) ((((hC.wr.lv.same sH).lab aae e1).lab aae e2).lab aae e3)
    refine⟨z,s,_,wh,wf,ws,w,n,mk,{b:=[x0,y0],ks:=[hkk t n x],sh:=p1,bx:=sh,hd:=p},hkk t n x,ms,rfl,X,hn,⟨rfl,e3,e1,⟨_,e2,.cons ⟨h,rfl,e5⟩ .nil⟩,ad8,?_,?_⟩,rfl,ko,kn,rfl,fun z9=>?_,fun z9=>?_,e4,hml,fun H' s' w' x1 x2=>q H' _ s' w' x1 (((mvA.zv hC.wr.lv (by simp)).sub (by simp)).trans (x2.sub (by simp)))⟩
    ·rw[adn n2,adn n1];exact ad8
    ·rw[adn n3];exact ad8
    ·obtain⟨r,hr,e⟩:=List.mem_map.mp z9
     exact (hC.used hr).1 (by rw[e];exact p0)
    ·obtain⟨r,hr,e⟩:=List.mem_map.mp z9
     exact (hC.used hr).2 (by rw[e];exact hsh0)
   walk_at "wp"
   refine ite2 (fun _ p hp p1 hp1=>frs aae p hp p1 hp1 _) (fun _ p hp=>?_)
   obtain⟨b9,c9⟩:=aa4 (o:=.lst []) hp
   generalize upd G8 p _=G9 at *
   refine⟨false,tuD (js.map (spk true)),[],?_,?_,akf.1,aji _,?_⟩
   ·unfold Sees
    exact⟨_,_,rfl,by rw[if_neg Bool.false_ne_true];exact SqL.of (b9 _ _ fu8),am5 (tu8.same b9)⟩
   ·unfold Sees
    exact⟨_,_,rfl,by rw[if_neg Bool.false_ne_true];exact SqL.of c9,by unfold SeesL;rfl⟩
   refine⟨_,rfl,?_⟩
   rw[akf.2]
   exact ite2 (fun _ p hp p1 hp1=>frs b9 p hp p1 hp1 _) (fun hne=>⟨b9,fun e=>hne (decide_eq_true (by rw[e];rfl))⟩)
  rintro⟨rfl,s9,hjn⟩
  generalize lab (lab (lab L mk 5) fu 5) so 5=L5 at *
  refine⟨fun σ G=>σ=[some (.ref z.p),some (.ref wh),some (.int (nb:Int)),some (.int (n:Int)),some (.ref mk),some (.int (rs:Int)),some (.ref sh),some (.ref h),some (.int (wy:Int)),some (.ref fu),some (.ref so),none,none]∧BkI A z L5 wh wf ws w n wy G8 G,?_,fun σa Ga=>?_⟩
  ·walk_at "wp"
   intro tp htp
   obtain⟨b5,c5⟩:=aa4 (o:=.tup [V.int 2,V.int 3]) htp
   refine⟨_,.inr (SqT.of c5),rfl,rfl,?_⟩
   rw[if_neg (show ¬(false=true) by decide),show inV (V.int (wy:Int)) [V.int 2,V.int 3]=decide (wy=2∨wy=3) by
    show (decide ((2:Int)=(wy:Int)) || (decide ((3:Int)=(wy:Int)) || false))=_
    by_cases y4:wy=2
    ·subst y4;rfl
    ·by_cases y5:wy=3
     ·subst y5;rfl
     ·rw[decide_eq_false (by omega),decide_eq_false (by omega),decide_eq_false (by omega)];rfl]
   by_cases hy:wy=2∨wy=3
   ·rw[decide_eq_true hy]
    refine ifp rfl (fun p hp=>?_)
    obtain⟨b6,c6⟩:=aa4 (o:=.lst []) hp
    have s96:=s9.trans (b5.trans b6)
    generalize upd (upd G9 tp _) p _=Gx at *
    have D9:=D8.same s96
    have so9:Gx so=some (.lst ((is.map fun (j:Nat)=>(j:Int)).map V.int)):=by rw[List.map_map];exact s96 _ _ so8
    refine⟨false,dInts (is.map fun (j:Nat)=>(j:Int)),dInts [],aem (SqL.of so9),aem (ns:=[]) (SqL.of c6),afa _ _,by rw[aft];exact Nat.zero_le _,_,rfl,?_⟩
    rw[ahq]
    by_cases he:is=[]
    ·refine ifn (by rw[he];rfl) (.inr ⟨hy,s,w,D9,Zv.of s96,rfl,rfl⟩)
    ·have hi0:0 < is.length:=by
      cases is with
      |nil=>exact absurd rfl he
      |cons _ _=>exact Nat.succ_pos _
     refine ifp (by rw[decide_eq_false (fun z=>he (List.map_eq_nil_iff.mp z))];rfl) ⟨is.length,.inl ⟨_,SqL.of so9,by rw[List.length_map,List.length_map]⟩,by omega,?_⟩
     have e1:=Int.emod_nonneg ((rs:Int) / 3600) (show (is.length:Int)≠0 by omega)
     have e2:=Int.emod_lt_of_pos ((rs:Int) / 3600) (show (0:Int) < is.length by omega)
     obtain⟨x9,hx9⟩:∃x9:Nat,(rs:Int) / 3600 % (is.length:Int)=(x9:Int):=⟨((rs:Int) / 3600 % (is.length:Int)).toNat,by omega⟩
     obtain⟨j,hj⟩:∃j,is[x9]?=some j:=⟨_,List.getElem?_eq_getElem (by omega)⟩
     obtain⟨q0,hq0⟩:=his j (List.mem_of_getElem? hj)
     exact⟨_,SqL.of so9,V.int (j:Int),by rw[hx9];exact aac (by rw[List.getElem?_map,List.getElem?_map,hj];rfl),z,s,L5,wh,wf,ws,w,n,j,mk,q0,ms,rfl,D9,by omega,hq0,s96 _ _ mk8,lmk,hml,fun H' s' w' x1 x2 x3=>.inr ⟨hy,s',w',x1,((Zv.of s96).trans x2),x3.1,x3.2⟩⟩
   ·rw[decide_eq_false hy]
    exact ifn (by decide) (ifn (by decide) (.inl ⟨hy,s9.trans b5⟩))
  rintro⟨rfl,ia⟩
  refine⟨fun σ G=>σ=[some (.ref z.p),some (.ref wh),some (.int (nb:Int)),some (.int (n:Int)),some (.ref mk),some (.int (rs:Int)),some (.ref sh),some (.ref h),some (.int (wy:Int)),some (.ref fu),some (.ref so),none,none]∧G=Ga,?_,fun σb Gb=>?_⟩
  ·walk_at "wp"
   refine ite2 (fun e7=>?_) (fun _=>trivial)
   rcases ia with ⟨_,sa⟩|⟨hy,_⟩
   ·exact⟨z,s,L5,wh,wf,ws,w,n,rfl,D8.same sa,by omega,fun H' s' w' x1 x2=>q H' _ s' w' (x1.up (by omega)) (zv5.trans ((Zv.of sa).trans (x2.sub (by simp))))⟩
   ·omega
  rintro⟨rfl,rfl⟩
  have za:Zv [1] L5 L5 G8 Gb:=by
   rcases ia with ⟨_,sa⟩|⟨_,_,_,_,z9,_⟩
   ·exact Zv.of sa
   ·exact z9
  have fua:=(za.lst fu8 lfu (by decide) (by simp)).1
  have soa:=(za.lst so8 lso (by decide) (by simp)).1
  have tua:TuL Gb xs (js.map (spk true)):=Paired.mapP tu8 fun _ _ ⟨a,e1,q⟩=>⟨a,e1,za.tup q⟩
  have hha:=za.tup hh8
  have hxl:=Paired.length tua
  rw[List.length_map] at hxl
  have hj0:0 < js.length:=by
   cases js with
   |nil=>exact absurd rfl hjn
   |cons _ _=>exact Nat.succ_pos _
  refine⟨fun σ G=>∃(sp:Addr) (ys:List V),σ=[some (.ref z.p),some (.ref wh),some (.int (nb:Int)),some (.int (n:Int)),some (.ref mk),some (.int (rs:Int)),some (.ref sh),some (.ref h),some (.int (wy:Int)),some (.ref fu),some (.ref so),some (.ref sp),none]∧Same Gb G∧G sp=some (.lst ys)∧TuL G ys (js.map (spk true)++is.map (spk false)),?_,fun σc Gc=>?_⟩
  ·walk_at "wp"
   refine⟨⟨_,SqL.of soa⟩,fun D hD=>ae0 (xs:=is.map fun (j:Nat)=>V.int (j:Int)) (fun k ys σ H'=>∃v,σ=[v]∧Same Gb H'∧H' D=some (.lst ys)∧TuL H' ys ((is.take k).map (spk false))) ⟨_,rfl,aau aae hD,aah,.nil⟩ (fun k ys σ H' _ ⟨_,_,s2,_⟩=>SqL.of (s2 _ _ soa)) (fun k v ys σ H' hk=>?_) (fun ys σ H6=>?_)⟩
   ·rintro⟨v',rfl,s2,hD2,hT⟩
    rw[List.getElem?_map] at hk
    obtain⟨j,hj,rfl⟩:∃j,is[k]?=some j∧v=V.int (j:Int):=by
     cases e9:is[k]? with
     |none=>rw[e9] at hk;cases hk
     |some c=>rw[e9] at hk;exact⟨c,rfl,(Option.some.inj hk).symm⟩
    have hyl:=Paired.length hT
    rw[List.length_map,List.length_take] at hyl
    walk_at "wp"
    intro tp htp
    obtain⟨b2,c2⟩:=aa4 (o:=.tup ((spk false j).map kV)) htp
    refine⟨b2 _ _ hD2,by omega,abg (s2.trans b2) hD,?_⟩
    rw[List.take_add_one,hj,List.map_append]
    exact hT.push (k:=spk false j) hD2 htp
   rintro⟨v',rfl,s2,hD2,hT⟩
   rw[List.length_map,List.take_length] at hT
   have hyl:=Paired.length hT
   rw[List.length_map] at hyl
   refine⟨xs,s2 _ _ fua,ys,hD2,by omega,fun p hp=>?_⟩
   have b3:=(aa4 (o:=.lst (xs++ys)) hp).1
   exact⟨s2.trans b3,_,rfl,aeh (tua.same (s2.trans b3)) (hT.same b3)⟩
  rintro⟨sp,ys,rfl,sc,spc,tuc⟩
  have hyl:=Paired.length tuc
  rw[List.length_append,List.length_map,List.length_map] at hyl
  refine⟨fun σ G=>∃at9:Nat,σ=[some (.ref z.p),some (.ref wh),some (.int (nb:Int)),some (.int (n:Int)),some (.ref mk),some (.int (rs:Int)),some (.ref sh),some (.ref h),some (.int (wy:Int)),some (.ref fu),some (.ref so),some (.ref sp),some (.int (at9:Int))]∧at9 < ys.length∧G=Gc,?_,fun σd Gd=>?_⟩
  ·walk_at "wp"
   have e1:=Int.emod_nonneg ((rs:Int) / 3600) (show (ys.length:Int)≠0 by omega)
   have e2:=Int.emod_lt_of_pos ((rs:Int) / 3600) (show (0:Int) < ys.length by omega)
   exact⟨ys.length,.inl ⟨_,SqL.of spc,rfl⟩,by omega,((rs:Int) / 3600 % (ys.length:Int)).toNat,by omega,by omega⟩
  rintro⟨at9,rfl,hat,rfl⟩
  walk_at "wp"
  obtain⟨v9,hv9⟩:∃v,ys[at9]?=some v:=⟨_,List.getElem?_eq_getElem hat⟩
  obtain⟨k9,hk9,tt,rfl,htt⟩:=acn tuc hv9
  obtain⟨f9,j9,rfl,r9,hr9⟩:∃(f:Bool) (j:Nat),k9=spk f j∧∃r,(w.rw f)[j]?=some (some r):=by
   rcases List.mem_append.mp (List.mem_of_getElem? hk9) with h9|h9
   ·obtain⟨j,hj,rfl⟩:=List.mem_map.mp h9
    exact⟨true,j,rfl,hjs j hj⟩
   ·obtain⟨j,hj,rfl⟩:=List.mem_map.mp h9
    exact⟨false,j,rfl,his j hj⟩
  refine⟨_,SqL.of spc,.ref tt,aac hv9,ys.length,.inl ⟨_,SqL.of spc,rfl⟩,by omega,by omega,?_⟩
  rcases ia with ⟨_,sa⟩|⟨hy,s',w',D9,_,l1,l2⟩
  ·exact .inl ⟨z,s,L5,wh,wf,ws,w,n,tt,h,f9,j9,_,_,hkk t n x,r9,rfl,D8.same (sa.trans sc),hn,htt,hr9,sc _ _ hha,ko,kn,fun H' s' w' x1 x2=>q H' _ s' w' x1 (zv5.trans ((Zv.of (sa.trans sc)).trans x2))⟩
  ·refine .inr ⟨L5,z.p,wh,wf,ws,tt,h,w',f9,j9,_,_,rfl,D9.wr.same sc,htt,?_,by omega,q Gd _ s' w' ((D9.same sc).up (by omega)) (zv5.trans ((za.sub (by simp)).trans (Zv.of sc)))⟩
   have:=(List.getElem?_eq_some_iff.mp hr9).1
   cases f9 with
   |true=>show j9 < w'.fr.length;have:j9 < w.fr.length:=this;omega
   |false=>show j9 < w'.sr.length;have:j9 < w.sr.length:=this;omega
noncomputable def Scr (K:PySem.W.Frag) (G:Hp) (L:Lb) (a:Addr) (xs:List V):Prop:=(G a=some (.lst xs)∧L a=5)∨(∃o,G a=some (.frz o (.lst xs)))∨∀G',SqL K G' a xs
theorem Scr.sq {K:PySem.W.Frag} {G:Hp} {L:Lb} {a:Addr} {xs:List V} (h:Scr K G L a xs):SqL K G a xs:=by
 rcases h with h|h|h
 ·exact SqL.of h.1
 ·exact .inl (.inr h)
 ·exact h G
theorem Scr.zv {K:PySem.W.Frag} {S:List Nat} {G G':Hp} {L L':Lb} {a:Addr} {xs:List V} (h:Scr K G L a xs) (z:Zv S L L' G G') (h5:5∉S):Scr K G' L' a xs:=by
 rcases h with h|⟨o,h⟩|h
 ·exact .inl (z.lst h.1 h.2 (by decide) h5)
 ·exact .inr (.inl ⟨o,z.kz _ _ h (.inl ⟨_,.inr ⟨_,rfl⟩⟩)⟩)
 ·exact .inr (.inr h)
theorem Scr.of {K:PySem.W.Frag} {G:Hp} {a:Addr} {xs:List V} (h:SqL K G a xs):∃L,Scr K G L a xs∧Lv L G∧∀c,L c=0∨L c=5:=by
 have z:Lv (fun _=>0) G:=fun c hc=>absurd rfl hc
 rcases h with (h|h)|h
 ·refine⟨lab (fun _=>0) a 5,.inl ⟨h,ad8⟩,z.lab aae h,fun c=>?_⟩
  by_cases e:c=a
  ·rw[e];exact .inr ad8
  ·rw[adn e];exact .inl rfl
 ·exact⟨fun _=>0,.inr (.inl h),z,fun _=>.inl rfl⟩
 ·exact⟨fun _=>0,.inr (.inr fun _=>.inr h),z,fun _=>.inl rfl⟩
theorem aoh {xs:List V} {lo hi:Nat}:cutV xs (some (lo:Int)) (some (hi:Int))=(xs.take hi).drop lo:=by
 unfold cutV
 show (xs.drop (if (lo:Int) < 0 then ((lo:Int)+(xs.length:Int)).toNat else min (lo:Int).toNat xs.length)).take ((if (hi:Int) < 0 then ((hi:Int)+(xs.length:Int)).toNat else min (hi:Int).toNat xs.length) - (if (lo:Int) < 0 then ((lo:Int)+(xs.length:Int)).toNat else min (lo:Int).toNat xs.length))=_
 rw[if_neg (by omega),if_neg (by omega),Int.toNat_natCast,Int.toNat_natCast,List.drop_take]
 refine List.ext_getElem? fun k=>?_
 rw[List.getElem?_take,List.getElem?_take,List.getElem?_drop,List.getElem?_drop]
 by_cases h1:k < hi - lo
 ·rw[if_pos h1]
  by_cases h2:k < min hi xs.length - min lo xs.length
  ·rw[if_pos h2,Nat.min_eq_left (by omega)]
  ·rw[if_neg h2,List.getElem?_eq_none_iff.mpr (by omega)]
 ·rw[if_neg h1]
  by_cases h2:k < min hi xs.length - min lo xs.length
  ·rw[if_pos h2,List.getElem?_eq_none_iff.mpr (by omega)]
  ·rw[if_neg h2]
noncomputable def labN (L:Lb) (H G:Hp):Lb:=fun c=>@ite _ (H c=none∧∃us,G c=some (.lst us)) (Classical.propDecidable _) 5 (L c)
section
variable {S:List Nat} {L L':Lb} {H H0 H1 G G':Hp}
theorem ah6 {c:Addr} {us:List V} (h:H c=none) (g:G c=some (.lst us)):labN L H G c=5:=if_pos ⟨h,us,g⟩
theorem Mv.nw (s:Same H G):Mv S L (labN L H G) H G:=⟨fun c=>by
 unfold labN
 split
 ·next h=>exact .inr h.1
 ·exact .inl rfl,fun c o hc _=>s _ _ hc,fun c hc=>aai s hc⟩
theorem Lv.nw (l:Lv L H) (s:Same H G):Lv (labN L H G) G:=fun c hc=>by
 unfold labN at hc
 split at hc
 ·next h=>exact h.2
 ·obtain⟨us,e⟩:=l c hc;exact⟨us,s _ _ e⟩
theorem RwT.sm {v:V} {r:Option Tr} (h:RwT H [] v r) (s:Same H G):RwT G [] v r:=h.keep (fun x hx=>by cases hx) (fun c o hc _ _=>s _ _ hc)
noncomputable def TlN (H G:Hp) (l:Addr) (rows:List (Option Tr)):Prop:=∃us,H l=none∧G l=some (.lst us)∧Paired (fun v r=>RwT G [] v r∧NwT H G v r) us rows
theorem TlN.of {l:Addr} {us:List V} {rows:List (Option Tr)} (s:Same H0 H) (h:H l=none) (g:G l=some (.lst us)) (a:Paired (RwT G []) us rows) (b:Paired (NwT H G) us rows):TlN H0 G l rows:=⟨us,aai s h,g,ag0 a fun i u y hu hy q=>by
 obtain⟨y',e1,e2⟩:=acn b hu
 obtain rfl:y=y':=by rw[hy] at e1;exact Option.some.inj e1
 refine⟨q,?_⟩
 cases y with
 |none=>exact trivial
 |some x=>obtain⟨t,bl,hl,o,e,q1,q2,q3⟩:=e2;exact⟨t,bl,hl,o,e,q1,aai s q2,aai s q3⟩⟩
theorem TlN.same {l:Addr} {rows:List (Option Tr)} (h:TlN H G l rows) (s:Same G G'):TlN H G' l rows:=by
 obtain⟨us,h1,h2,h3⟩:=h
 exact⟨us,h1,s _ _ h2,Paired.mapP h3 fun _ _ q=>⟨q.1.sm s,q.2.keep fun c us hc=>s _ _ hc⟩⟩
noncomputable def AhN (H G:Hp) (ah:Addr) (r1 r2:List (Option Tr)):Prop:=∃l1 l2,H ah=none∧G ah=some (.lst [.ref l1,.ref l2])∧TlN H G l1 r1∧TlN H G l2 r2
theorem AhN.same {ah:Addr} {r1 r2:List (Option Tr)} (h:AhN H G ah r1 r2) (s:Same G G'):AhN H G' ah r1 r2:=by
 obtain⟨l1,l2,h1,h2,h3,h4⟩:=h
 exact⟨l1,l2,h1,s _ _ h2,h3.same s,h4.same s⟩
noncomputable def Rw5 (H:Hp) (L:Lb) (v:V):Option Tr→Prop
 |none=>v=.non
 |some (b,ks,o)=>∃t bl hl,v=.ref t∧H t=some (.tup [.ref bl,.ref hl,oV o])∧H bl=some (.lst (b.map V.int))∧TdK H hl ks∧L bl=5∧L hl=5
theorem Rw5.rw {v:V} {r:Option Tr} (h:Rw5 H L v r):RwT H [] v r:=by
 cases r with
 |none=>exact h
 |some x=>obtain⟨b,ks,o⟩:=x;obtain⟨t,bl,hl,e,h1,h2,h3,_,_⟩:=h;exact⟨t,bl,hl,e,h1,h2,h3,by simp,by simp⟩
theorem Rw5.zv {N:List Nat} {v:V} {r:Option Tr} (h:Rw5 H L v r) (z:Zv N L L' H G) (hN:5∉N):Rw5 G L' v r:=by
 cases r with
 |none=>exact h
 |some x=>
  obtain⟨b,ks,o⟩:=x
  obtain⟨t,bl,hl,e,h1,h2,⟨us,h3,h4⟩,l1,l2⟩:=h
  obtain⟨a1,a2⟩:=z.lst h2 l1 (by decide) hN
  obtain⟨b1,b2⟩:=z.lst h3 l2 (by decide) hN
  exact⟨t,bl,hl,e,z.tup h1,a1,⟨us,b1,Paired.mapP h4 fun _ _ ⟨a,e,q⟩=>⟨a,e,z.tup q⟩⟩,a2,b2⟩
theorem rw5_of {v:V} {r:Option Tr} (a:RwT G [] v r) (b:NwT H G v r):Rw5 G (labN L H G) v r:=by
 cases r with
 |none=>exact a
 |some x=>
  obtain⟨b0,ks,o⟩:=x
  obtain⟨t,bl,hl,rfl,h1,h2,⟨us,h3,h4⟩,_,_⟩:=a
  obtain⟨t',bl',hl',o',e,g1,g2,g3⟩:=b
  cases e
  rw[h1] at g1
  injection g1 with g1
  injection g1 with g1
  injection g1 with x1 g1
  injection g1 with x2 g1
  injection x1 with x1
  injection x2 with x2
  rw[←x1] at g2
  rw[←x2] at g3
  exact⟨t,bl,hl,rfl,h1,h2,⟨us,h3,h4⟩,ah6 g2 h2,ah6 g3 h3⟩
noncomputable def Tl (G:Hp) (L:Lb) (l:Addr) (rows:List (Option Tr)):Prop:=∃us,G l=some (.lst us)∧L l=5∧Paired (Rw5 G L) us rows
theorem Tl.zv {N:List Nat} {l:Addr} {rows:List (Option Tr)} (h:Tl H L l rows) (z:Zv N L L' H G) (hN:5∉N):Tl G L' l rows:=by
 obtain⟨us,h1,h2,h3⟩:=h
 obtain⟨a1,a2⟩:=z.lst h1 h2 (by decide) hN
 exact⟨us,a1,a2,Paired.mapP h3 fun _ _ q=>q.zv z hN⟩
theorem TlN.tl {l:Addr} {rows:List (Option Tr)} (h:TlN H G l rows):Tl G (labN L H G) l rows:=by
 obtain⟨us,h1,h2,h3⟩:=h
 exact⟨us,h2,ah6 h1 h2,Paired.mapP h3 fun _ _ q=>rw5_of q.1 q.2⟩
noncomputable def AhL (G:Hp) (L:Lb) (ah:Addr) (r1 r2:List (Option Tr)):Prop:=∃l1 l2,G ah=some (.lst [.ref l1,.ref l2])∧L ah=5∧Tl G L l1 r1∧Tl G L l2 r2
theorem AhL.zv {N:List Nat} {ah:Addr} {r1 r2:List (Option Tr)} (h:AhL H L ah r1 r2) (z:Zv N L L' H G) (hN:5∉N):AhL G L' ah r1 r2:=by
 obtain⟨l1,l2,h1,h2,h3,h4⟩:=h
 obtain⟨a1,a2⟩:=z.lst h1 h2 (by decide) hN
 exact⟨l1,l2,a1,a2,h3.zv z hN,h4.zv z hN⟩
theorem AhN.ah {ah:Addr} {r1 r2:List (Option Tr)} (h:AhN H G ah r1 r2):AhL G (labN L H G) ah r1 r2:=by
 obtain⟨l1,l2,h1,h2,h3,h4⟩:=h
 exact⟨l1,l2,h2,ah6 h1 h2,h3.tl,h4.tl⟩
theorem AhL.lks {ah:Addr} {r1 r2:List (Option Tr)} (h:AhL G L ah r1 r2) (o1:∀r,some r∈r1→Okt r) (o2:∀r,some r∈r2→Okt r) (n1:r1.length≤64) (n2:r2.length≤64):Lks G (.seq false [.seq false (r1.map dvS),.seq false (r2.map dvS)]) (.ref ah):=by
 obtain⟨l1,l2,h1,_,⟨us,a1,_,a3⟩,⟨vs,b1,_,b3⟩⟩:=h
 unfold Lks
 refine⟨ah,_,rfl,h1,(show 2 < 16777216 by decide),?_⟩
 unfold LksL
 refine⟨_,_,rfl,?_,?_⟩
 ·unfold Lks
  exact⟨l1,us,rfl,a1,by rw[List.length_map];omega,amw (Paired.mapP a3 fun _ _ q=>q.rw) o1⟩
 ·unfold LksL
  refine⟨_,_,rfl,?_,by unfold LksL;rfl⟩
  unfold Lks
  exact⟨l2,vs,rfl,b1,by rw[List.length_map];omega,amw (Paired.mapP b3 fun _ _ q=>q.rw) o2⟩
noncomputable def AhI (G:Hp) (L:Lb) (ah du:Addr):Prop:=∃r1 r2,AhL G L ah r1 r2∧AhL G L du r1 r2∧(∀r,some r∈r1→Okt r)∧(∀r,some r∈r2→Okt r)∧r1.length≤64∧r2.length≤64
theorem AhI.zv {N:List Nat} {ah du:Addr} (h:AhI H L ah du) (z:Zv N L L' H G) (hN:5∉N):AhI G L' ah du:=by
 obtain⟨r1,r2,h1,h2,h3⟩:=h
 exact⟨r1,r2,h1.zv z hN,h2.zv z hN,h3⟩
end
noncomputable def st0 (n m:Nat):St:=⟨List.replicate n none,List.replicate m none,0,0,0,0,List.replicate n none,List.replicate m none⟩
theorem c80 {A:Adr} {H G:Hp} {z:Ss} {L:Lb} {wh wf ws:Addr} {n m:Nat} (hS:SsAt A.C_Sheets A.C_Spots A.C_Sheet G z (st0 n m)) (f4:∀c∈z.four,H c=none) (lv:Lv L H) (sm:Same H G) (h1:H wh=none) (h2:H wf=none) (h3:H ws=none) (ne:wh≠wf∧wh≠ws∧wf≠ws) (n4:∀c∈z.four,c≠wh∧c≠wf∧c≠ws) (g1:G wh=some (.lst [.ref wf,.ref ws])) (g2:G wf=some (.lst (List.replicate n .non))) (g3:G ws=some (.lst (List.replicate m .non))):C8 A G z (st0 n m) (lab (lab (lab L wh 1) wf 1) ws 1) wh wf ws (st0 n m) 0∧Mv [] L (lab (lab (lab L wh 1) wf 1) ws 1) H G:=by
 have no:∀{k:Nat} {r:Sh},some r∉List.replicate k (none:Option Sh):=fun h=>by cases List.eq_of_mem_replicate h
 have no2:∀{i k j:Nat},(List.replicate k (none:Option Nat))[i]?≠some (some j):=fun h=>by cases List.eq_of_mem_replicate (List.mem_of_getElem? h)
 have nal:∀(k:Nat),als (List.replicate k none)=[]:=fun k=>by unfold als;exact List.filterMap_eq_nil_iff.mpr fun a ha=>by rw[List.eq_of_mem_replicate ha];rfl
 have eal:alS (st0 n m)=[]:=by unfold alS st0;rw[ab6,nal,nal];rfl
 have mv:Mv [] L (lab (lab (lab L wh 1) wf 1) ws 1) H G:=(Mv.lab aae h1).trans ((Mv.lab aae h2).trans (Mv.lab sm h3))
 obtain⟨n1,n2,n3⟩:=ne
 have hlv:Lv (lab (lab (lab L wh 1) wf 1) ws 1) G:=(((lv.same sm).lab aae g1).lab aae g2).lab aae g3
 have kn:∀k:Nat,Paired (R2 G (lab (lab (lab L wh 1) wf 1) ws 1)) (List.replicate k .non) (List.replicate k none):=fun k=>by
  induction k with
  |zero=>exact .nil
  |succ k ih=>exact .cons rfl ih
 have sn:∀k:Nat,Paired SimR (List.replicate k none) (List.replicate k none):=fun k=>by
  induction k with
  |zero=>exact .nil
  |succ k ih=>exact .cons trivial ih
 have ap:Ap (st0 n m):=by rw[af8,eal];exact List.nodup_nil
 have bx:Bx (st0 n m):=by unfold Bx;rw[eal];exact List.nodup_nil
 refine⟨⟨⟨hS,fun c hc=>?_,fun r hr=>hr.elim (fun h=>absurd h no) (fun h=>absurd h no)⟩,ap,⟨fun i j h=>absurd h no2,fun i j h=>absurd h no2,fun i j h=>absurd h no2,fun i j h=>absurd h no2⟩,bx,⟨g1,⟨_,g2,kn n⟩,⟨_,g3,kn m⟩,⟨?_,?_,ad8⟩,⟨n1,n2,n3⟩,hlv⟩,sn n,sn m,ap,bx,fun r hr=>(by rw[eal] at hr;cases hr),?_⟩,mv⟩
 ·obtain⟨m1,m2,m3⟩:=n4 c hc
  rw[adn m3,adn m2,adn m1]
  refine Decidable.byContradiction fun e=>?_
  obtain⟨us,h⟩:=lv c e
  rw[f4 c hc] at h;cases h
 ·rw[adn n2,adn n1];exact ad8
 ·rw[adn n3];exact ad8
 ·unfold hk
  rw[eal]
  exact⟨List.nodup_nil,fun k hk=>(by cases hk),Nat.le_refl _⟩
noncomputable def LkI (K:PySem.W.Frag) (A:Adr) (z:Ss) (wh wf ws a sx ah du:Addr) (ns zc:List Int) (i:Nat) (G:Hp):Prop:=∃(s:St) (L:Lb) (w:St),C8 A G z s L wh wf ws w i∧Scr K G L a (ns.map V.int)∧Scr K G L sx (zc.map V.int)∧AhI G L ah du
theorem LkI.mv {K:PySem.W.Frag} {A:Adr} {z:Ss} {wh wf ws a sx ah du:Addr} {ns zc:List Int} {i:Nat} {G G':Hp} (h:LkI K A z wh wf ws a sx ah du ns zc i G) (e:Same G G'):LkI K A z wh wf ws a sx ah du ns zc i G':=by
 obtain⟨s,L,w,h1,h2,h3,h4⟩:=h
 exact⟨s,L,w,h1.same e,h2.zv (Zv.of (S:=[]) e) (by simp),h3.zv (Zv.of (S:=[]) e) (by simp),h4.zv (Zv.of (S:=[]) e) (by simp)⟩
theorem LkI.new {K:PySem.W.Frag} {A:Adr} {z:Ss} {wh wf ws a sx ah du ah' du':Addr} {ns zc:List Int} {i:Nat} {G G':Hp} {r1 r2:List (Option Tr)} (h:LkI K A z wh wf ws a sx ah du ns zc i G) (e:Same G G') (a1:AhN G G' ah' r1 r2) (a2:AhN G G' du' r1 r2) (o1:∀r,some r∈r1→Okt r) (o2:∀r,some r∈r2→Okt r) (n1:r1.length≤64) (n2:r2.length≤64):LkI K A z wh wf ws a sx ah' du' ns zc i G':=by
 obtain⟨s,L,w,h1,h2,h3,h4⟩:=h
 have zz:Zv [] L (labN L G G') G G':=(Mv.nw e).zv h1.wr.lv (by simp)
 exact⟨s,labN L G G',w,h1.mv (N:=[]) (Mv.nw e) (fun _ h=>by cases h) (h1.wr.lv.nw e),h2.zv zz (by simp),h3.zv zz (by simp),r1,r2,a1.ah,a2.ah,o1,o2,n1,n2⟩
theorem aph {s:St}:(tF s).length≤s.fr.length:=by unfold tF;rw[List.length_zipWith];exact Nat.min_le_left _ _
theorem api {s:St}:(tS s).length≤s.sr.length:=by unfold tS;rw[List.length_zipWith];exact Nat.min_le_left _ _
theorem aqx {r1 r2:List (Option Tr)}:deep (.seq false [.seq false (r1.map dvS),.seq false (r2.map dvS)])≤5:=by
 have h1:=apg (rows:=r1)
 have h2:=apg (rows:=r2)
 rw[deep,deepL,deepL,deepL]
 omega
theorem aqy {H G:Hp} (n:Nat):Paired (fun v r=>RwT G [] v r∧NwT H G v r) (List.replicate n .non) (List.replicate n none):=by
 induction n with
 |zero=>exact .nil
 |succ k ih=>exact .cons ⟨rfl,trivial⟩ ih
theorem apj {H G:Hp} {l:Addr} {n:Nat} (h:H l=none) (g:G l=some (.lst (List.replicate n .non))):TlN H G l (List.replicate n none):=⟨_,h,g,aqy n⟩
theorem tF0 {n m:Nat}:tF (st0 n m)=List.replicate n none:=by
 unfold tF st0
 show List.zipWith tdF (List.replicate n none) (List.replicate n none)=_
 rw[List.zipWith_replicate,Nat.min_self];rfl
theorem tS0 {n m:Nat}:tS (st0 n m)=List.replicate m none:=by
 unfold tS st0
 show List.zipWith (tdS _) (List.replicate m none) (List.replicate m none)=_
 rw[List.zipWith_replicate,Nat.min_self];rfl
noncomputable def spLaw (K:PySem.W.Frag):Sp:=fun vs H Q _=>∃(a:Addr) (ns:List Int),vs=[.ref a]∧SqL K H a (ns.map V.int)∧ns.length≤63∧∀H',Q (.bl true) H'
theorem aoi (T:Txt K mg A):Body P w K mg base "law" ajc ["_law_script","_law_most","_law_frames","_law_slots","_law_sheets","_law_where","_law_ahead","_law_due","_law_k","_law_cell_here","_law_number_here"] 12 (spLaw K):=by
 intro f cdv A' outer s H vs Q E hr z
 obtain⟨a,ns,rfl,hs,hn,qq⟩:=z
 have H_l_cell:=h_cell (P:=P) (w:=w) (base:=base) T a ns
 have H_l_number:=h_num (P:=P) (w:=w) (base:=base) T
 have H_l_deed:=h_deed (P:=P) (w:=w) (base:=base) T
 have H_l_true:=h_tru (P:=P) (w:=w) (base:=base) T
 have H_l_copied:=h_cop (P:=P) (w:=w) (base:=base) T
 have H_l_like:=aoy (P:=P) (w:=w) (base:=base) T 6
 have H_Sheets_init:=h_ssi (P:=P) (w:=w) (base:=base) T
 have H_Sheets_told_frames:=h_tf (P:=P) (w:=w) (base:=base) T
 have H_Sheets_told_slots:=h_tss (P:=P) (w:=w) (base:=base) T
 have hz:=PySem.sizeLine_eq
 refine⟨_,(aak (aax (i:=1) aef.nd rfl (Or.inl rfl) aab)
   (aal (abo (aao adb (aay ab4 (aay acd (aba H_l_cell (hr.mono (by decide)) aat (aaa (pvM 0) (aaa aab aad))) aab) aab) aab (nomark _)) (aag (aax (i:=1) aef.nd rfl (Or.inl rfl) aab)) aas)
   (aal (aax (i:=2) aef.nd rfl (Or.inl rfl) (aay adv aab (aay ab4 (aba H_l_cell (hr.mono (by decide)) aat (aaa (pvM 0) (aaa aab aad))) (pvM 1))))
   (aal (aax (i:=3) aef.nd rfl (Or.inl rfl) (aay ab4 (aay acd (aba H_l_cell (hr.mono (by decide)) aat (aaa (pvM 0) (aaa aab aad))) aab) (aay adv (pvM 1) aab)))
   (aal (aax (i:=4) aef.nd rfl (Or.inl rfl) (af9 H_Sheets_init (hr.mono (by decide)) aat (aaa (pvM 2) (aaa (pvM 3) (aaa aab aad)))))
   (aal (aax (i:=5) aef.nd rfl (Or.inl rfl) (aco (aaa (ade rfl (acp rfl T.b_range (aaa (pvM 2) aad)) (x:="_law_k") (fs:=[]) (ix:=[]) rfl rfl (fun _ _ _ _ _ _=>(aa5 (i:=0) (show (["_law_k"]:List Str).Nodup by decide+kernel) rfl (Or.inl rfl))) (fun _ _ _ _ _ _=>aeb) (fun _ _ _ _ _ _=>aaw)) (aaa (ade rfl (acp rfl T.b_range (aaa (pvM 3) aad)) (x:="_law_k") (fs:=[]) (ix:=[]) rfl rfl (fun _ _ _ _ _ _=>(aa5 (i:=0) (show (["_law_k"]:List Str).Nodup by decide+kernel) rfl (Or.inl rfl))) (fun _ _ _ _ _ _=>aeb) (fun _ _ _ _ _ _=>aaw)) aad))))
   (aal (aax (i:=6) aef.nd rfl (Or.inl rfl) (aco (aaa (abb (pvM 4) T.cl_Sheets H_Sheets_told_frames (hr.mono (by decide)) aat) (aaa (abb (pvM 4) T.cl_Sheets H_Sheets_told_slots (hr.mono (by decide)) aat) aad))))
   (aal (aax (i:=7) aef.nd rfl (Or.inl rfl) (aco (aaa (ade rfl (acp rfl T.b_range (aaa (pvM 2) aad)) (x:="_law_k") (fs:=[]) (ix:=[]) rfl rfl (fun _ _ _ _ _ _=>(aa5 (i:=0) (show (["_law_k"]:List Str).Nodup by decide+kernel) rfl (Or.inl rfl))) (fun _ _ _ _ _ _=>aeb) (fun _ _ _ _ _ _=>aaw)) (aaa (ade rfl (acp rfl T.b_range (aaa (pvM 3) aad)) (x:="_law_k") (fs:=[]) (ix:=[]) rfl rfl (fun _ _ _ _ _ _=>(aa5 (i:=0) (show (["_law_k"]:List Str).Nodup by decide+kernel) rfl (Or.inl rfl))) (fun _ _ _ _ _ _=>aeb) (fun _ _ _ _ _ _=>aaw)) aad))))
   (aal (ady PassesOwn.leaving rfl (ags rfl T.b_enumerate (aaa (anf aps (pvM 0) (ald aab) (ald aab)) aad)) (ah9 (n:=2) rfl (adk (aa5 (i:=8) aef.nd rfl (Or.inl rfl)) (adk (aa5 (i:=9) aef.nd rfl (Or.inl rfl)) agl))) (aal (aax (i:=10) aef.nd rfl (Or.inl rfl) (aba H_l_number (hr.mono (by decide)) aat (aaa (ac0 adb (aay ab4 (aay acd (aba H_l_cell (hr.mono (by decide)) aat (aaa (pvM 0) (aaa aab aad))) aab) aab) aab (nomark _)) (aaa (pvM 9) (aaa (pvM 8) aad)))))
   (aal (abo (PW.pt (ai2 (ael (acz (aba H_l_deed (hr.mono (by decide)) aat (aaa (pvM 4) (aaa (pvM 5) (aaa (pvM 10) (aaa (pvM 8) aad))))))) (ag7 (ael (acz (aba H_l_true (hr.mono (by decide)) aat (aaa (pvM 4) (aaa (pvM 5) aad)))))))) (aag (aav adp)) aas)
   (aag (abo (aao adb (pvM 8) aab (nomark _)) (aal (aax (i:=6) aef.nd rfl (Or.inl rfl) (aco (aaa (abb (pvM 4) T.cl_Sheets H_Sheets_told_frames (hr.mono (by decide)) aat) (aaa (abb (pvM 4) T.cl_Sheets H_Sheets_told_slots (hr.mono (by decide)) aat) aad))))
   (aag (aax (i:=7) aef.nd rfl (Or.inl rfl) (aco (aaa (aba H_l_copied (hr.mono (by decide)) aat (aaa (aam aaj (pvM 6) aab (fun _ _=>rfl)) aad)) (aaa (aba H_l_copied (hr.mono (by decide)) aat (aaa (aam aaj (pvM 6) aab (fun _ _=>rfl)) aad)) aad)))))) aas)))))
   (aag (aav (aba H_l_like (hr.mono (by decide)) aat (aaa (pvM 6) (aaa (pvM 7) aad)))))))))))))),?_⟩
 walk_at "wp"
 refine⟨fun σ G=>∃mo:Nat,σ=[some (.ref a),some (.int (mo:Int)),none,none,none,none,none,none,none,none,none]∧G=H∧1≤mo∧mo≤12,?_,fun σ0 G0=>?_⟩
 ·walk_at "wp"
  refine⟨0,rfl,hs,by omega,_,rfl,?_⟩
  exact ite2 (fun _=>⟨12,rfl,rfl,by omega,by omega⟩) (fun _=>⟨4,rfl,rfl,by omega,by omega⟩)
 rintro⟨mo,rfl,rfl,hm1,hm2⟩
 obtain⟨L0,hScr0,hLv0,_⟩:=Scr.of hs
 have sq:∀{G:Hp},Same G0 G→SqL K G a (ns.map V.int):=fun s=>(hScr0.zv (Zv.of (S:=[]) s) (by simp)).sq
 refine⟨fun σ G=>∃n:Nat,σ=[some (.ref a),some (.int (mo:Int)),some (.int (n:Int)),none,none,none,none,none,none,none,none]∧G=G0∧1≤n∧n≤12,?_,fun σ1 G1=>?_⟩
 ·walk_at "wp"
  refine⟨0,rfl,hs,by omega,_,rfl,by omega,?_⟩
  generalize ns.getD (Int.toNat 0) 0=y
  have hp0:=Int.emod_nonneg y (show (mo:Int)≠0 by omega)
  have hp1:=Int.emod_lt_of_pos y (show (0:Int) < mo by omega)
  exact⟨(1+y % (mo:Int)).toNat,by omega,rfl,by omega,by omega⟩
 rintro⟨n,rfl,rfl,n1,n12⟩
 refine⟨fun σ G=>∃m:Nat,σ=[some (.ref a),some (.int (mo:Int)),some (.int (n:Int)),some (.int (m:Int)),none,none,none,none,none,none,none]∧G=G1∧m≤12,?_,fun σ2 G2=>?_⟩
 ·walk_at "wp"
  refine⟨0,rfl,hs,by omega,_,rfl,by omega,?_⟩
  generalize ns.getD (Int.toNat 0) 0=y
  have hp0:=Int.emod_nonneg (y / 16) (show ((mo:Int)+1)≠0 by omega)
  have hp1:=Int.emod_lt_of_pos (y / 16) (show (0:Int) < (mo:Int)+1 by omega)
  exact⟨(y / 16 % ((mo:Int)+1)).toNat,by omega,rfl,by omega⟩
 rintro⟨m,rfl,rfl,m12⟩
 refine⟨fun σ G=>∃z:Ss,σ=[some (.ref a),some (.int (mo:Int)),some (.int (n:Int)),some (.int (m:Int)),some (.ref z.p),none,none,none,none,none,none]∧Same G2 G∧SsAt A.C_Sheets A.C_Spots A.C_Sheet G z (st0 n m)∧∀c∈z.four,G2 c=none,?_,fun σ4 G4=>?_⟩
 ·walk_at "wp"
  intro x dx hx hdx hne
  have sm:=afs (o:=.ins A.C_Sheets dx []) hx hdx hne
  refine⟨x,dx,n,m,2,rfl,aah,n1,by omega,by omega,fun H' y hy e1 e2 kp=>⟨rfl,?_⟩⟩
  subst e1
  exact⟨y,rfl,fun c o h=>kp c o (sm c o h) (fun z=>aan h hx (List.mem_singleton.mp z)),hy,fun c hc=>aai sm (e2 c hc)⟩
 rintro⟨z,rfl,s4,hS4,f4⟩
 refine⟨fun σ G=>∃wh wf ws:Addr,σ=[some (.ref a),some (.int (mo:Int)),some (.int (n:Int)),some (.int (m:Int)),some (.ref z.p),some (.ref wh),none,none,none,none,none]∧Same G4 G∧G4 wh=none∧G4 wf=none∧G4 ws=none∧(wh≠wf∧wh≠ws∧wf≠ws)∧G wh=some (.lst [.ref wf,.ref ws])∧G wf=some (.lst (List.replicate n .non))∧G ws=some (.lst (List.replicate m .non)),?_,fun σ5 G5=>?_⟩
 ·walk_at "wp"
  refine⟨by omega,by omega,fun D hD=>?_⟩
  refine acl (fun i ys σ H'=>∃(v:Option V),σ=[v]∧Same G4 H'∧H' D=some (.lst ys)∧ys=List.replicate i V.non) ⟨_,rfl,aau aae hD,aah,rfl⟩ (fun i ys σ H' hi=>?_) (fun ys σ H5=>?_)
  ·rintro⟨v,rfl,s1,hD1,rfl⟩
   walk_at "wp"
   exact⟨hD1,by rw[List.length_replicate];omega,abg s1 hD,by rw[←List.replicate_succ'];rfl⟩
  rintro⟨v,rfl,s1,hD1,rfl⟩
  rw[Int.toNat_natCast] at hD1
  refine⟨by omega,by omega,fun E1 hE=>?_⟩
  refine acl (fun i ys σ H'=>∃(v:Option V),σ=[v]∧Same H5 H'∧H' E1=some (.lst ys)∧ys=List.replicate i V.non) ⟨_,rfl,aau aae hE,aah,rfl⟩ (fun i ys σ H' hi=>?_) (fun ys σ H6=>?_)
  ·rintro⟨v,rfl,s1,hD1,rfl⟩
   walk_at "wp"
   exact⟨hD1,by rw[List.length_replicate];omega,abg s1 hE,by rw[←List.replicate_succ'];rfl⟩
  rintro⟨v,rfl,s6,hE1,rfl⟩
  rw[Int.toNat_natCast] at hE1
  intro p hp
  obtain⟨b1,c1⟩:=aa4 (o:=.lst [V.ref D,V.ref E1]) hp
  have hD6:=s6 _ _ hD1
  exact⟨(s1.trans s6).trans b1,aai (s1.trans s6) hp,D,hD,E1,aai s1 hE,(aan hD6 hp).symm,(aan hE1 hp).symm,aan hD1 hE,rfl,b1 _ _ hD6,b1 _ _ hE1⟩
 rintro⟨wh,wf,ws,rfl,s5,hwh,hwf,hws,hne,g1,g2,g3⟩
 have s05:=s4.trans s5
 obtain⟨C5,mv5⟩:=c80 (hS4.same s5) f4 hLv0 s05 (aai s4 hwh) (aai s4 hwf) (aai s4 hws) hne (fun c hc=>by
  obtain⟨us,h9⟩:=hS4.fours c hc
  exact⟨fun e=>(by rw[e,hwh] at h9;cases h9),fun e=>(by rw[e,hwf] at h9;cases h9),fun e=>(by rw[e,hws] at h9;cases h9)⟩) g1 g2 g3
 have hScr5:=hScr0.zv (mv5.zv hLv0 (by simp)) (by simp)
 generalize lab (lab (lab L0 wh 1) wf 1) ws 1=L5 at *
 clear hScr0 hLv0 sq hs s5 g1 g2 g3 hS4 f4 s4 s05 hwh hwf hws hne mv5
 obtain⟨ok5,ok5'⟩:=C5.oks (by omega)
 refine⟨fun σ G=>∃ah:Addr,σ=[some (.ref a),some (.int (mo:Int)),some (.int (n:Int)),some (.int (m:Int)),some (.ref z.p),some (.ref wh),some (.ref ah),none,none,none,none]∧Same G5 G∧AhN G5 G ah (tF (st0 n m)) (tS (st0 n m)),?_,fun σ6 G6=>?_⟩
 ·walk_at "wp"
  obtain⟨dx,hme⟩:=C5.cs.ss.me
  refine⟨dx,_,hme,abw (by decide+kernel),z,st0 n m,rfl,C5.cs.ss,ok5,fun H1 l us s1 hl hl1 p1 p2=>?_⟩
  refine⟨dx,_,s1 _ _ hme,abw (by decide+kernel),z,st0 n m,rfl,C5.cs.ss.same s1,C5.tw,ok5,ok5',fun H2 l2 us2 s2 hl2 hl21 p3 p4 p hp=>?_⟩
  obtain⟨b1,c1⟩:=aa4 (o:=.lst [V.ref l,V.ref l2]) hp
  exact⟨(s1.trans s2).trans b1,l,l2,aai (s1.trans s2) hp,c1,(TlN.of aae hl hl1 p1 p2).same (s2.trans b1),(TlN.of s1 hl2 hl21 p3 p4).same b1⟩
 rintro⟨ah,rfl,s6,a6⟩
 refine⟨fun σ G=>∃du:Addr,σ=[some (.ref a),some (.int (mo:Int)),some (.int (n:Int)),some (.int (m:Int)),some (.ref z.p),some (.ref wh),some (.ref ah),some (.ref du),none,none,none]∧Same G6 G∧AhN G5 G du (tF (st0 n m)) (tS (st0 n m)),?_,fun σ7 G7=>?_⟩
 ·walk_at "wp"
  refine⟨by omega,by omega,fun D hD=>?_⟩
  refine acl (fun i ys σ H'=>∃(v:Option V),σ=[v]∧Same G6 H'∧H' D=some (.lst ys)∧ys=List.replicate i V.non) ⟨_,rfl,aau aae hD,aah,rfl⟩ (fun i ys σ H' hi=>?_) (fun ys σ H5=>?_)
  ·rintro⟨v,rfl,s1,hD1,rfl⟩
   walk_at "wp"
   exact⟨hD1,by rw[List.length_replicate];omega,abg s1 hD,by rw[←List.replicate_succ'];rfl⟩
  rintro⟨v,rfl,s1,hD1,rfl⟩
  rw[Int.toNat_natCast] at hD1
  refine⟨by omega,by omega,fun E1 hE=>?_⟩
  refine acl (fun i ys σ H'=>∃(v:Option V),σ=[v]∧Same H5 H'∧H' E1=some (.lst ys)∧ys=List.replicate i V.non) ⟨_,rfl,aau aae hE,aah,rfl⟩ (fun i ys σ H' hi=>?_) (fun ys σ H6=>?_)
  ·rintro⟨v,rfl,s1,hD1,rfl⟩
   walk_at "wp"
   exact⟨hD1,by rw[List.length_replicate];omega,abg s1 hE,by rw[←List.replicate_succ'];rfl⟩
  rintro⟨v,rfl,s9,hE1,rfl⟩
  rw[Int.toNat_natCast] at hE1
  intro p hp
  obtain⟨b1,c1⟩:=aa4 (o:=.lst [V.ref D,V.ref E1]) hp
  rw[tF0,tS0]
  exact⟨(s1.trans s9).trans b1,D,E1,aai (s6.trans (s1.trans s9)) hp,c1,apj (aai s6 hD) (b1 _ _ (s9 _ _ hD1)),apj (aai (s6.trans s1) hE) (b1 _ _ hE1)⟩
 rintro⟨du,rfl,s7,a7⟩
 have s57:=s6.trans s7
 have hI7:LkI K A z wh wf ws a a ah du ns ns 0 G7:=by
  have zz:Zv [] L5 (labN L5 G5 G7) G5 G7:=(Mv.nw s57).zv C5.wr.lv (by simp)
  have l64:=C5.cs.ss.len
  exact⟨st0 n m,labN L5 G5 G7,st0 n m,C5.mv (N:=[]) (Mv.nw s57) (fun _ h=>by cases h) (C5.wr.lv.nw s57),hScr5.zv zz (by simp),hScr5.zv zz (by simp),_,_,(a6.same s7).ah,a7.ah,fun r hr=>aqk ok5 hr,fun r hr=>aql ok5 ok5' hr,by have:=aph (s:=st0 n m);omega,by have:=api (s:=st0 n m);omega⟩
 clear C5 hScr5 ok5 ok5' s6 s7 s57 a6 a7
 refine⟨fun σ G=>∃ah du v8 v9 v10 sx zc i,σ=[some (.ref a),some (.int (mo:Int)),some (.int (n:Int)),some (.int (m:Int)),some (.ref z.p),some (.ref wh),some (.ref ah),some (.ref du),v8,v9,v10]∧LkI K A z wh wf ws a sx ah du ns zc i G,?_,fun σ8 G8=>?_⟩
 ·obtain⟨s,L,w,C7,hc,_,ha⟩:=hI7
  walk_at "wp"
  refine⟨_,hc.sq,fun sx hsx=>?_⟩
  have hcut:cutV (ns.map V.int) (some 1) (some 71)=((ns.take 71).drop 1).map V.int:=by rw[show cutV (ns.map V.int) (some 1) (some 71)=((ns.map V.int).take 71).drop 1 from aoh (lo:=1) (hi:=71),←List.map_take,←List.map_drop]
  rw[hcut]
  have hcl:((ns.take 71).drop 1).length≤62:=by rw[List.length_drop,List.length_take];omega
  generalize (ns.take 71).drop 1=zc at *
  obtain⟨b8,c8⟩:=aa4 (o:=.lst (zc.map V.int)) hsx
  have z8:Zv [] L (lab L sx 5) G7 (upd G7 sx (.lst (zc.map V.int))):=(Mv.lab b8 hsx).zv C7.wr.lv (by simp)
  have hI8:LkI K A z wh wf ws a sx ah du ns zc 0 (upd G7 sx (.lst (zc.map V.int))):=⟨s,lab L sx 5,w,C7.lab b8 hsx c8,hc.zv z8 (by simp),.inl ⟨c8,ad8⟩,ha.zv z8 (by simp)⟩
  generalize upd G7 sx _=G8 at *
  clear C7 hc ha z8
  refine⟨⟨_,SqL.of c8⟩,ae1 (K:=K) (xs:=zc.map V.int) (fun i σ G=>∃ah du v8 v9 v10,σ=[some (.ref a),some (.int (mo:Int)),some (.int (n:Int)),some (.int (m:Int)),some (.ref z.p),some (.ref wh),some (.ref ah),some (.ref du),v8,v9,v10]∧LkI K A z wh wf ws a sx ah du ns zc i G) ⟨_,_,_,_,_,rfl,hI8⟩ (fun i σ G _ ⟨_,_,_,_,_,_,_,_,_,_,_,hc,_⟩=>hc.sq) (fun i v tt σ G hi=>?_) (fun σ G=>?_)⟩
  ·rintro⟨ah,du,v8,v9,v10,rfl,hI⟩ htt
   rw[List.getElem?_map] at hi
   obtain⟨c,hci,rfl⟩:∃c,zc[i]?=some c∧v=V.int c:=by
    cases e9:zc[i]? with
    |none=>rw[e9] at hi;cases hi
    |some c=>rw[e9] at hi;exact⟨c,rfl,(Option.some.inj hi).symm⟩
   have hil:=(List.getElem?_eq_some_iff.mp hci).1
   obtain⟨b1,c1⟩:=aa4 (o:=.tup [V.int (i:Int),V.int c]) htt
   walk_at "wp"
   have hI:=hI.mv b1
   generalize upd G tt _=G1 at *
   refine⟨_,SqT.of c1,rfl,_,_,rfl,_,_,rfl,rfl,?_⟩
   refine⟨fun σ G'=>∃nb:Nat,σ=[some (.ref a),some (.int (mo:Int)),some (.int (n:Int)),some (.int (m:Int)),some (.ref z.p),some (.ref wh),some (.ref ah),some (.ref du),some (.int (i:Int)),some (.int c),some (.int (nb:Int))]∧G'=G1,?_,fun σ2 G2=>?_⟩
   ·obtain⟨s,L,w,C1,hc,_,_⟩:=hI
    walk_at "wp"
    exact⟨0,rfl,hc.sq,by omega,_,rfl,_,_,_,rfl,by omega,fun nb=>⟨nb,rfl,rfl⟩⟩
   rintro⟨nb,rfl,rfl⟩
   refine⟨fun σ G'=>σ=[some (.ref a),some (.int (mo:Int)),some (.int (n:Int)),some (.int (m:Int)),some (.ref z.p),some (.ref wh),some (.ref ah),some (.ref du),some (.int (i:Int)),some (.int c),some (.int (nb:Int))]∧LkI K A z wh wf ws a sx ah du ns zc (i+1) G',?_,fun σ3 G3=>?_⟩
   ·obtain⟨s,L,w,C1,hc,hc2,ha⟩:=hI
    walk_at "wp"
    refine⟨z,s,L,wh,wf,ws,w,i,nb,rfl,C1,by omega,fun H' L' s' w' C2 zv=>⟨true,rfl,iteF ?_⟩⟩
    exact⟨z,s',L',wh,wf,ws,w',i+1,rfl,C2,by omega,fun H2 b2=>⟨true,rfl,iteF (LkI.mv ⟨s',L',w',C2,hc.zv zv (by decide),hc2.zv zv (by decide),ha.zv zv (by decide)⟩ b2)⟩⟩
   rintro⟨rfl,hI3⟩
   walk_at "wp"
   refine ite2 (fun _=>?_) (fun _=>hI3)
   obtain⟨s,L,w,C3,_,_,_⟩:=id hI3
   obtain⟨ok3,ok3'⟩:=C3.oks (by omega)
   obtain⟨dx,hme⟩:=C3.cs.ss.me
   have l64:=C3.cs.ss.len
   have t1:=aph (s:=s)
   have t2:=api (s:=s)
   refine⟨fun σ G=>∃ah:Addr,σ=[some (.ref a),some (.int (mo:Int)),some (.int (n:Int)),some (.int (m:Int)),some (.ref z.p),some (.ref wh),some (.ref ah),some (.ref du),some (.int (i:Int)),some (.int c),some (.int (nb:Int))]∧Same G3 G∧AhN G3 G ah (tF s) (tS s),?_,fun σ4 G4=>?_⟩
   ·walk_at "wp"
    refine⟨dx,_,hme,abw (by decide+kernel),z,s,rfl,C3.cs.ss,ok3,fun H1 l us s1 hl hl1 p1 p2=>?_⟩
    refine⟨dx,_,s1 _ _ hme,abw (by decide+kernel),z,s,rfl,C3.cs.ss.same s1,C3.tw,ok3,ok3',fun H2 l2 us2 s2 hl2 hl21 p3 p4 p hp=>?_⟩
    obtain⟨b1,c1⟩:=aa4 (o:=.lst [V.ref l,V.ref l2]) hp
    exact⟨(s1.trans s2).trans b1,l,l2,aai (s1.trans s2) hp,c1,(TlN.of aae hl hl1 p1 p2).same (s2.trans b1),(TlN.of s1 hl2 hl21 p3 p4).same b1⟩
   rintro⟨ah',rfl,s4,a4⟩
   obtain⟨l1,l2,e0,e1,⟨us1,f1,f2,f3⟩,⟨us2,h1,h2,h3⟩⟩:=id a4
   walk_at "wp"
   refine⟨_,SqL.of e1,_,aac (j:=0) rfl,l1,us1,tF s,rfl,f2,Paired.mapP f3 fun _ _ q=>q.1,by omega,fun H1 d1 vs1 s5 hd1 hd11 p1 p2=>?_⟩
   refine⟨_,SqL.of (s5 _ _ e1),_,aac (j:=1) rfl,l2,us2,tS s,rfl,s5 _ _ h2,Paired.mapP h3 fun _ _ q=>q.1.sm s5,by omega,fun H2 d2 vs2 s6 hd2 hd21 p3 p4 p hp=>?_⟩
   obtain⟨b1,c1⟩:=aa4 (o:=.lst [V.ref d1,V.ref d2]) hp
   have s36:=s4.trans (s5.trans (s6.trans b1))
   refine (hI3.new s36 (a4.same (s5.trans (s6.trans b1))) ⟨d1,d2,aai (s4.trans (s5.trans s6)) hp,c1,(TlN.of s4 hd1 hd11 p1 p2).same (s6.trans b1),(TlN.of (s4.trans s5) hd2 hd21 p3 p4).same b1⟩ (fun r hr=>aqk ok3 hr) (fun r hr=>aql ok3 ok3' hr) (by omega) (by omega))
  ·rintro⟨ah,du,v8,v9,v10,rfl,hI⟩
   exact⟨_,_,_,_,_,rfl,sx,zc,_,hI⟩
 rintro⟨ah,du,v8,v9,v10,sx,zc,i,rfl,s,L,w,C8,_,_,r1,r2,h1,h2,o1,o2,l1,l2⟩
 walk_at "wp"
 exact⟨_,_,_,rfl,h1.lks o1 o2 l1 l2,h2.lks o1 o2 l1 l2,aqx,fun H' _=>qq H'⟩
end
theorem walk {l:PySem.W.OpenLaw} {q:Program} {loose:List Str} {XP:(Str→Option Value)→Heap→Prop} {YP:World→Heap→Prop} {d:DefRec} {K:Params→PySem.W.Frag} (hn:l.most=some 63) (hdf:d.params.defaults=[]) (hdn:d.name="law")
  (hY:∀(w:World) (h:Heap),YP w h→(K w.params).In h)
  (F:∀(w:World) (mg:Str→Option Value) (h:Heap),(K w.params).In h→h.Ns mainGlobals mg→∃A:Adr,Txt (K w.params) mg A):
  PySem.W.WalkO q loose XP YP l.row.toRowW d [] (fun f vs=>PySem.call f vs):=by
 refine L2.apw (n:=63) (k:=12+1) (x:="_law_script") (CX:=fun w=>CXe l.prog w) (sp:=fun w=>spLaw (K w.params)) hn (by decide) hdf ⟨rfl,by decide,by decide⟩ hY ?_ (fun _ _ a ns hl _ hS=>⟨a,ns,rfl,hS,hl,fun _=>rfl⟩) fun _ _ _ _ _ ⟨_,_,_,_,_,_,_,_,_,_,z⟩=>z
 intro w mg fa h KX G hmg
 rw[hdn] at hmg
 obtain⟨A,T⟩:=F w mg h KX G
 obtain⟨f,fd,e,Fn,hb⟩:=T.r_law
 have e0:=hmg.symm.trans e
 cases e0
 exact⟨fd,hb,fun base _ _=>Fn.okE aef (fun vs H Q E z=>by obtain⟨a,ns,rfl,_⟩:=z;rfl) (aoi (P:=l.prog) (w:=w) (base:=base) T)⟩
noncomputable section
open Hd
noncomputable def z0:Nat:=54476225003125827031424504460743061929856835951660257931494399795326663287405
noncomputable def z1:Nat:=27127582262911072
noncomputable def z2:Nat:=9700865007064396754801562313776
noncomputable def z3:Nat:=545146499936607105348423
noncomputable def z4:Nat:=478849189165601061498208
noncomputable def z5:Nat:=497995685371741280038240
noncomputable def z6:Nat:=483681298506571401293152
noncomputable def z7:Nat:=122585060169398306681810272
noncomputable def z8:Nat:=122585152691345752846396768
noncomputable def z9:Nat:=31381789606350664195656281440
noncomputable def z10:Nat:=139509984824270207699807584
noncomputable def z11:Nat:=455125450472104437637216
noncomputable def z12:Nat:=500416517772168279997240570217455712
noncomputable def z13:Nat:=140854816109632365363434125429399349832812124725344
noncomputable def z14:Nat:=116512133262362862868258912
noncomputable def z15:Nat:=1735222900
noncomputable def z16:Nat:=126883625529449
noncomputable def z17:Nat:=6944679725401530464
noncomputable def z18:Nat:=604688386180134175214183720302048103
noncomputable def z19:Nat:=6944679699547512928
noncomputable def z20:Nat:=504229161332
noncomputable def z21:Nat:=154800023163187350263413837515144196967
noncomputable def z22:Nat:=1970303348
noncomputable def z23:Nat:=439938610023
noncomputable def z24:Nat:=133512874028327697487130724
noncomputable def z25:Nat:=479015137796973828140384
noncomputable def z26:Nat:=483810136383000565411168
noncomputable def z27:Nat:=7381241873922420064
noncomputable def z28:Nat:=140789800901245673238850912
noncomputable def s (n t:Nat):Value:=.str (S n) t
noncomputable def i (n:Int):Value:=.int n 0
noncomputable def e (P:Params) (n t:Nat) (v:Value):DictEntry:=ent P (S n) t v
noncomputable def fO (a b:String) (x:Stmt) (m r:Value):Obj:=⟨.type "function",none,.func (PySem.W.fnOf (Str.ofString a) (Str.ofString b) (defArgs x) (defBody x) (defScope x) .none .none .none m none r .none), #[]⟩
noncomputable def o2 (_:Params):Obj:=⟨.none,none,.dict ⟨[]⟩ 0, #[]⟩
noncomputable def o3 (P:Params):Obj:=dO 30 [e P 6944663249689206880 165 (s z0 608),e P z1 166 .none,e P 116512114954948911152848992 167 .none,e P 455126385231797511086176 168 (.builtin "__main__.__loader__#opaque"),e P 6944661016558198880 169 .none,e P 500416834696884185539869749159288928 170 (.ref 6),e P 29827167671303893903271485536 171 (.ref 4),e P 6944663245527933024 173 (s z2 172),e P 455125376429887381069920 174 .none,e P 469986605152 193 (.ref 21),e P z3 213 (.ref 31),e P 121429199908943 229 (.ref 44),e P 504413714548 241 (.ref 53),e P 504229161300 287 (.ref 82),e P 500186509652 340 (.ref 122),e P 128047577983316 607 (.ref 314),e P 2018578202597599112544 617 (.ref 325),e P 1889380072283105815904 626 (.ref 332),e P z4 635 (.ref 339),e P z5 648 (.ref 346),e P 1999481813178129739104 659 (.ref 353),e P 2000274464304732990816 667 (.ref 360),e P z6 673 (.ref 365),e P z7 679 (.ref 370),e P z8 685 (.ref 375),e P 1890103190294368513376 691 (.ref 380),e P z9 704 (.ref 387),e P z10 714 (.ref 394),e P 1870499847949168831840 720 (.ref 399),e P 7889517 726 (.ref 404)]
noncomputable def o15 (_:Params):Obj:=tO []
noncomputable def o17 (_:Params):Obj:=tO [s 108 190]
noncomputable def o20 (_:Params):Obj:=cO [s 469986605152 187,s 469986605152 188,s z2 189,i 1,i 1,i 0,i 0,i 3,.ref 15,(.bool true),i 181,.ref 16,.none,.ref 17,.ref 18,.ref 19,i 191,i 1,s z2 192]
noncomputable def o21 (_:Params):Obj:=fO "_wall" "_wall" (top 0) (s 6944673128113922144 164) (.ref 20)
noncomputable def o22 (_:Params):Obj:=⟨(.type "tuple"),none,.seq #[(.type "ValueError")] 0, #[]⟩
noncomputable def o29 (_:Params):Obj:=⟨(.type "tuple"),none,.seq #[] 0, #[]⟩
noncomputable def o30 (P:Params):Obj:=dO 3 [e P z11 203 (s 154789842426610354947036250589871895399 194),e P z12 207 (.int (5) 206),e P z13 208 (.ref 29),e P z14 210 (.ref 32),e P z1 211 .none]
noncomputable def o31 (_:Params):Obj:=⟨(.type "type"),none,.cls {name:=(Str.ofString "FrameError"),bases:=[(.type "ValueError")],mro:=[.ref 31,(.type "ValueError"),(.type "Exception"),(.type "BaseException"),(.type "object")],ns:=30,qualname:=(Str.ofString "FrameError"),hasDict:=true,slotNames:=[],subclasses:=[.ref 44],abstract:=false,collection:=none,hasDel:=false}, #[(some (.ref 22)),none,(some (s z3 196)),(some (s z3 204)),(some (.builtin "ValueError.__new__")),(some (.bool true))]⟩
noncomputable def o32 (_:Params):Obj:=⟨(.type "getset_descriptor"),none,.fields ⟨[s z14 209,.ref 31,(.builtin "ExceptionGroup.__weakref__"),.none]⟩, #[]⟩
noncomputable def o35 (_:Params):Obj:=⟨(.type "tuple"),none,.seq #[.ref 31] 0, #[]⟩
noncomputable def o43 (P:Params):Obj:=dO 2 [e P z11 221 (s 154789842426610354947036250589871895399 194),e P z12 225 (.int (7) 224),e P z13 226 (.ref 42),e P z1 227 .none]
noncomputable def o44 (_:Params):Obj:=⟨(.type "type"),none,.cls {name:=(Str.ofString "NoRoom"),bases:=[.ref 31],mro:=[.ref 44,.ref 31,(.type "ValueError"),(.type "Exception"),(.type "BaseException"),(.type "object")],ns:=43,qualname:=(Str.ofString "NoRoom"),hasDict:=true,slotNames:=[],subclasses:=[],abstract:=false,collection:=none,hasDel:=false}, #[(some (.ref 35)),none,(some (s 121429199908943 214)),(some (s 121429199908943 222)),(some (.builtin "ValueError.__new__")),(some (.bool true))]⟩
noncomputable def o49 (_:Params):Obj:=tO [s 500035707502 235,s 1701798505 236,s 111490714854001 237,s 439770836337 238]
noncomputable def o52 (_:Params):Obj:=cO [s 504413714548 232,s 504413714548 233,s z2 234,i 10,i 2,i 0,i 0,i 3,.ref 47,(.bool true),i 181,.ref 48,.none,.ref 49,.ref 50,.ref 51,i 239,i 10,s z2 240]
noncomputable def o53 (_:Params):Obj:=fO "swept" "swept" (top 5) (s 604424633459520194665304702243205991 230) (.ref 52)
noncomputable def o63 (_:Params):Obj:=tO [s z15 259,s 499935440995 260,s z16 261]
noncomputable def o66 (_:Params):Obj:=cO [s z17 256,s 1954753563970360692704800173091156 257,s z2 258,i 20,i 3,i 0,i 0,i 3,.ref 61,(.bool true),i 181,.ref 62,.none,.ref 63,.ref 64,.ref 65,i 262,i 20,s z2 263]
noncomputable def o67 (_:Params):Obj:=fO "__init__" "Sheet.__init__" (inClass (top 7) 0) (s z18 242) (.ref 66)
noncomputable def o70 (_:Params):Obj:=tO [s z15 268]
noncomputable def o73 (_:Params):Obj:=cO [s 36039771160920033285907509365 265,s 10144293748177338121204804511615218490960212 266,s z2 267,i 24,i 1,i 0,i 0,i 3,.ref 68,(.bool true),i 181,.ref 69,.none,.ref 70,.ref 71,.ref 72,i 269,i 24,s z2 270]
noncomputable def o74 (_:Params):Obj:=fO "told_holders" "Sheet.told_holders" (inClass (top 7) 1) (s z18 242) (.ref 73)
noncomputable def o78 (_:Params):Obj:=cO [s 1870501547802382857322 272,s 526499379604921715462623747400690004 273,s z2 274,i 27,i 1,i 0,i 0,i 3,.ref 75,(.bool true),i 181,.ref 76,.none,.none,.none,.ref 77,i 275,i 27,s z2 276]
noncomputable def o79 (_:Params):Obj:=fO "is_banked" "Sheet.is_banked" (inClass (top 7) 2) (s z18 242) (.ref 78)
noncomputable def o80 (_:Params):Obj:=⟨(.type "tuple"),none,.seq #[(.str (Str.ofString "boxes") 278),(.str (Str.ofString "holders") 279)] 0, #[]⟩
noncomputable def o81 (P:Params):Obj:=dO 4 [e P z11 251 (s z18 242),e P z12 255 (.int (18) 254),e P z17 264 (.ref 67),e P 36039771160920033285907509365 271 (.ref 74),e P 1870501547802382857322 277 (.ref 79),e P z13 280 (.ref 80),e P z19 282 (.ref 83),e P z14 284 (.ref 84),e P z1 285 .none]
noncomputable def o82 (_:Params):Obj:=⟨(.type "type"),none,.cls {name:=(Str.ofString "Sheet"),bases:=[(.type "object")],mro:=[.ref 82,(.type "object")],ns:=81,qualname:=(Str.ofString "Sheet"),hasDict:=true,slotNames:=[],subclasses:=[],abstract:=false,collection:=none,hasDel:=false}, #[none,none,(some (s 504229161300 244)),(some (s 504229161300 252)),(some (.builtin "object.__new__")),(some (.bool true))]⟩
noncomputable def o83 (_:Params):Obj:=⟨(.type "getset_descriptor"),none,.fields ⟨[s z19 281,.ref 82,(.builtin "function.__dict__"),(.builtin "function.__dict__#set")]⟩, #[]⟩
noncomputable def o84 (_:Params):Obj:=⟨(.type "getset_descriptor"),none,.fields ⟨[s z14 283,.ref 82,(.builtin "ExceptionGroup.__weakref__"),.none]⟩, #[]⟩
noncomputable def o96 (_:Params):Obj:=tO [s z15 303,s 2054120046 304]
noncomputable def o99 (_:Params):Obj:=cO [s z17 300,s 1954753563970360692704796130439508 301,s z2 302,i 31,i 2,i 0,i 0,i 3,.ref 94,(.bool true),i 181,.ref 95,.none,.ref 96,.ref 97,.ref 98,i 305,i 31,s z2 306]
noncomputable def o100 (_:Params):Obj:=fO "__init__" "Spots.__init__" (inClass (top 8) 0) (s z18 242) (.ref 99)
noncomputable def o103 (_:Params):Obj:=tO [s z15 311,s 439770836337 312,s z20 313]
noncomputable def o106 (_:Params):Obj:=cO [s 148043559308712686361209447 308,s 41670557408582523668509479316187165782356 309,s z2 310,i 35,i 1,i 0,i 0,i 3,.ref 101,(.bool true),i 181,.ref 102,.none,.ref 103,.ref 104,.ref 105,i 314,i 35,s z2 315]
noncomputable def o107 (_:Params):Obj:=fO "first_empty" "Spots.first_empty" (inClass (top 8) 1) (s z18 242) (.ref 106)
noncomputable def o110 (_:Params):Obj:=tO [s z15 320,s 1869248629 321]
noncomputable def o113 (_:Params):Obj:=cO [s 526146714420258238851687 317,s 148097134187830361177623957051129491796 318,s z2 319,i 41,i 1,i 0,i 0,i 3,.ref 108,(.bool true),i 181,.ref 109,.none,.ref 110,.ref 111,.ref 112,i 322,i 41,s z2 323]
noncomputable def o114 (_:Params):Obj:=fO "first_twin" "Spots.first_twin" (inClass (top 8) 2) (s z18 242) (.ref 113)
noncomputable def o118 (_:Params):Obj:=cO [s 554573001519589316061805 325,s 156098422687084997236258294064131109204 326,s z2 327,i 47,i 1,i 0,i 0,i 3,.ref 115,(.bool true),i 181,.ref 116,.none,.none,.none,.ref 117,i 328,i 47,s z2 329]
noncomputable def o119 (_:Params):Obj:=fO "live_count" "Spots.live_count" (inClass (top 8) 3) (s z18 242) (.ref 118)
noncomputable def o120 (_:Params):Obj:=⟨(.type "tuple"),none,.seq #[(.str (Str.ofString "lying") 331),(.str (Str.ofString "twins") 332)] 0, #[]⟩
noncomputable def o121 (P:Params):Obj:=dO 4 [e P z11 295 (s z18 242),e P z12 299 (.int (29) 298),e P z17 307 (.ref 100),e P 148043559308712686361209447 316 (.ref 107),e P 526146714420258238851687 324 (.ref 114),e P 554573001519589316061805 330 (.ref 119),e P z13 333 (.ref 120),e P z19 335 (.ref 123),e P z14 337 (.ref 124),e P z1 338 .none]
noncomputable def o122 (_:Params):Obj:=⟨(.type "type"),none,.cls {name:=(Str.ofString "Spots"),bases:=[(.type "object")],mro:=[.ref 122,(.type "object")],ns:=121,qualname:=(Str.ofString "Spots"),hasDict:=true,slotNames:=[],subclasses:=[],abstract:=false,collection:=none,hasDel:=false}, #[none,none,(some (s 500186509652 288)),(some (s 500186509652 296)),(some (.builtin "object.__new__")),(some (.bool true))]⟩
noncomputable def o123 (_:Params):Obj:=⟨(.type "getset_descriptor"),none,.fields ⟨[s z19 334,.ref 122,(.builtin "function.__dict__"),(.builtin "function.__dict__#set")]⟩, #[]⟩
noncomputable def o124 (_:Params):Obj:=⟨(.type "getset_descriptor"),none,.fields ⟨[s z14 336,.ref 122,(.builtin "ExceptionGroup.__weakref__"),.none]⟩, #[]⟩
noncomputable def o136 (_:Params):Obj:=tO [s z15 358,s 127983287432039 359,s 500186508660 360,s 1719364212 361]
noncomputable def o139 (_:Params):Obj:=cO [s z17 355,s 500416912376412337332427809224026452 356,s z2 357,i 52,i 4,i 0,i 0,i 3,.ref 134,(.bool true),i 181,.ref 135,.none,.ref 136,.ref 137,.ref 138,i 362,i 52,s z2 363]
noncomputable def o140 (_:Params):Obj:=fO "__init__" "Sheets.__init__" (inClass (top 10) 0) (s z21 341) (.ref 139)
noncomputable def o143 (_:Params):Obj:=tO [s z15 368,s z20 369,s z16 370,s 500035707502 371,s 8020600 372]
noncomputable def o146 (_:Params):Obj:=cO [s 452924437351 365,s 32636645236508639938168121684 366,s z2 367,i 61,i 4,i 0,i 0,i 3,.ref 141,(.bool true),i 181,.ref 142,.none,.ref 143,.ref 144,.ref 145,i 373,i 61,s z2 374]
noncomputable def o147 (_:Params):Obj:=fO "fresh" "Sheets.fresh" (inClass (top 10) 1) (s z21 341) (.ref 146)
noncomputable def o150 (_:Params):Obj:=tO [s z15 379,s 1970302324 380,s 500035707502 381,s 114827736281188 382,s 8020600 383]
noncomputable def o153 (_:Params):Obj:=cO [s 1818518115 376,s 131038040094645320163944788 377,s z2 378,i 68,i 3,i 0,i 0,i 3,.ref 148,(.bool true),i 181,.ref 149,.none,.ref 150,.ref 151,.ref 152,i 384,i 68,s z2 385]
noncomputable def o154 (_:Params):Obj:=fO "back" "Sheets.back" (inClass (top 10) 2) (s z21 341) (.ref 153)
noncomputable def o157 (_:Params):Obj:=tO [s z15 390,s z22 391,s z16 392,s z20 393]
noncomputable def o160 (_:Params):Obj:=cO [s 1701671017 387,s 122618319342451338909215060 388,s z2 389,i 79,i 3,i 0,i 0,i 3,.ref 155,(.bool true),i 181,.ref 156,.none,.ref 157,.ref 158,.ref 159,i 394,i 79,s z2 395]
noncomputable def o161 (_:Params):Obj:=fO "hold" "Sheets.hold" (inClass (top 10) 3) (s z21 341) (.ref 160)
noncomputable def o164 (_:Params):Obj:=tO [s z15 400,s z22 401,s z16 402,s z20 403]
noncomputable def o167 (_:Params):Obj:=cO [s 123593597216365 397,s 8905857253904022728413553256788 398,s z2 399,i 83,i 3,i 0,i 0,i 3,.ref 162,(.bool true),i 181,.ref 163,.none,.ref 164,.ref 165,.ref 166,i 404,i 83,s z2 405]
noncomputable def o168 (_:Params):Obj:=fO "let_go" "Sheets.let_go" (inClass (top 10) 4) (s z21 341) (.ref 167)
noncomputable def o171 (_:Params):Obj:=tO [s z15 410,s z22 411,s z20 412]
noncomputable def o174 (_:Params):Obj:=cO [s 488476733378837491839081 407,s 35198458150785434460000437533358669850964 408,s z2 409,i 89,i 2,i 0,i 0,i 3,.ref 169,(.bool true),i 181,.ref 170,.none,.ref 171,.ref 172,.ref 173,i 413,i 89,s z2 414]
noncomputable def o175 (_:Params):Obj:=fO "holders_of" "Sheets.holders_of" (inClass (top 10) 5) (s z21 341) (.ref 174)
noncomputable def o178 (_:Params):Obj:=tO [s z15 419,s z22 420]
noncomputable def o181 (_:Params):Obj:=cO [s 36344496227587819637979312233 416,s 2618896954680526433690932518906927297180625236 417,s z2 418,i 93,i 2,i 0,i 0,i 3,.ref 176,(.bool true),i 181,.ref 177,.none,.ref 178,.ref 179,.ref 180,i 421,i 93,s z2 422]
noncomputable def o182 (_:Params):Obj:=fO "holder_count" "Sheets.holder_count" (inClass (top 10) 6) (s z21 341) (.ref 181)
noncomputable def o185 (_:Params):Obj:=tO [s z15 427,s z22 428,s z20 429]
noncomputable def o188 (_:Params):Obj:=cO [s 8458429107500640628 424,s 609494050826874274975507821181167956 425,s z2 426,i 96,i 2,i 0,i 0,i 3,.ref 183,(.bool true),i 181,.ref 184,.none,.ref 185,.ref 186,.ref 187,i 430,i 96,s z2 431]
noncomputable def o189 (_:Params):Obj:=fO "sheet_at" "Sheets.sheet_at" (inClass (top 10) 7) (s z21 341) (.ref 188)
noncomputable def o192 (_:Params):Obj:=tO [s z15 436,s z23 437,s 7958627 438]
noncomputable def o195 (_:Params):Obj:=cO [s 113732352569443 433,s 8195279690427427246896753043796 434,s z2 435,i 100,i 3,i 0,i 0,i 3,.ref 190,(.bool true),i 181,.ref 191,.none,.ref 192,.ref 193,.ref 194,i 439,i 100,s z2 440]
noncomputable def o196 (_:Params):Obj:=fO "box_of" "Sheets.box_of" (inClass (top 10) 8) (s z21 341) (.ref 195)
noncomputable def o199 (_:Params):Obj:=tO [s z15 445,s z23 446,s 7958627 447,s 440073544311 448]
noncomputable def o202 (_:Params):Obj:=cO [s 34182044304369268 442,s 2463075871870707541703845600454996 443,s z2 444,i 103,i 4,i 0,i 0,i 3,.ref 197,(.bool true),i 181,.ref 198,.none,.ref 199,.ref 200,.ref 201,i 449,i 103,s z2 450]
noncomputable def o203 (_:Params):Obj:=fO "set_box" "Sheets.set_box" (inClass (top 10) 9) (s z21 341) (.ref 202)
noncomputable def o206 (_:Params):Obj:=tO [s z15 455,s 2360878370155222899437929793546855 456,s 1718579304 457,s z22 458,s z20 459,s 504464894567 460]
noncomputable def o209 (_:Params):Obj:=cO [s 1701671015 452,s 122618319198336150833359188 453,s z2 454,i 107,i 1,i 0,i 0,i 3,.ref 204,(.bool true),i 181,.ref 205,.none,.ref 206,.ref 207,.ref 208,i 461,i 107,s z2 462]
noncomputable def o210 (_:Params):Obj:=fO "fold" "Sheets.fold" (inClass (top 10) 10) (s z21 341) (.ref 209)
noncomputable def o213 (_:Params):Obj:=tO [s z15 467]
noncomputable def o216 (_:Params):Obj:=cO [s 140789800901245672938236525 464,s 10144974318022661352875422811256588356446548 465,s z2 466,i 119,i 1,i 0,i 0,i 3,.ref 211,(.bool true),i 181,.ref 212,.none,.ref 213,.ref 214,.ref 215,i 468,i 119,s z2 469]
noncomputable def o217 (_:Params):Obj:=fO "live_sheets" "Sheets.live_sheets" (inClass (top 10) 11) (s z21 341) (.ref 216)
noncomputable def o220 (_:Params):Obj:=tO [s z15 474]
noncomputable def o223 (_:Params):Obj:=cO [s 30801127769404522 471,s 2219455160718099884163236951910740 472,s z2 473,i 122,i 1,i 0,i 0,i 3,.ref 218,(.bool true),i 181,.ref 219,.none,.ref 220,.ref 221,.ref 222,i 475,i 122,s z2 476]
noncomputable def o224 (_:Params):Obj:=fO "is_full" "Sheets.is_full" (inClass (top 10) 12) (s z21 341) (.ref 223)
noncomputable def o227 (_:Params):Obj:=tO [s z15 481]
noncomputable def o230 (_:Params):Obj:=cO [s 33040738433327721 478,s 2380836116742092014812639552498004 479,s z2 480,i 125,i 1,i 0,i 0,i 3,.ref 225,(.bool true),i 181,.ref 226,.none,.ref 227,.ref 228,.ref 229,i 482,i 125,s z2 483]
noncomputable def o231 (_:Params):Obj:=fO "hand_at" "Sheets.hand_at" (inClass (top 10) 13) (s z21 341) (.ref 230)
noncomputable def o234 (_:Params):Obj:=tO [s z15 488,s 1701671029 489,s z23 490,s z20 491]
noncomputable def o237 (_:Params):Obj:=cO [s 140719112692525297883246709 485,s 10139880695775420249778937948812234134546772 486,s z2 487,i 128,i 1,i 0,i 0,i 3,.ref 232,(.bool true),i 181,.ref 233,.none,.ref 234,.ref 235,.ref 236,i 492,i 128,s z2 493]
noncomputable def o238 (_:Params):Obj:=fO "told_frames" "Sheets.told_frames" (inClass (top 10) 14) (s z21 341) (.ref 237)
noncomputable def o242 (_:Params):Obj:=cO [s 549960882328764939071605 495,s 39628857995586799648525390943893217241428 496,s z2 497,i 137,i 1,i 0,i 0,i 3,.ref 239,(.bool true),i 181,.ref 240,.none,.none,.none,.ref 241,i 498,i 137,s z2 499]
noncomputable def o243 (_:Params):Obj:=fO "told_slots" "Sheets.told_slots" (inClass (top 10) 15) (s z21 341) (.ref 242)
noncomputable def o246 (_:Params):Obj:=tO [s z15 504]
noncomputable def o249 (_:Params):Obj:=cO [s 435510800494 501,s 31381860461143034575928584532 502,s z2 503,i 140,i 1,i 0,i 0,i 3,.ref 244,(.bool true),i 181,.ref 245,.none,.ref 246,.ref 247,.ref 248,i 505,i 140,s z2 506]
noncomputable def o250 (_:Params):Obj:=fO "moved" "Sheets.moved" (inClass (top 10) 16) (s z21 341) (.ref 249)
noncomputable def o253 (_:Params):Obj:=tO [s z15 511,s z22 512,s 500186509684 513]
noncomputable def o256 (_:Params):Obj:=cO [s 8458429051817327213 508,s 609494046814468682230731163709106516 509,s z2 510,i 143,i 2,i 0,i 0,i 3,.ref 251,(.bool true),i 181,.ref 252,.none,.ref 253,.ref 254,.ref 255,i 514,i 143,s z2 515]
noncomputable def o257 (_:Params):Obj:=fO "lying_at" "Sheets.lying_at" (inClass (top 10) 17) (s z21 341) (.ref 256)
noncomputable def o261 (_:Params):Obj:=cO [s 2148284700994785078626 517,s 154800226862173623962013088011365280084 518,s z2 519,i 147,i 1,i 0,i 0,i 3,.ref 258,(.bool true),i 181,.ref 259,.none,.none,.none,.ref 260,i 520,i 147,s z2 521]
noncomputable def o262 (_:Params):Obj:=fO "all_spots" "Sheets.all_spots" (inClass (top 10) 18) (s z21 341) (.ref 261)
noncomputable def o265 (_:Params):Obj:=tO [s z15 526,s 1970302324 527,s z20 528,s z23 529]
noncomputable def o268 (_:Params):Obj:=cO [s 2166370315886094282869 523,s 156103432757937886773936481808104712532 524,s z2 525,i 151,i 2,i 0,i 0,i 3,.ref 263,(.bool true),i 181,.ref 264,.none,.ref 265,.ref 266,.ref 267,i 530,i 151,s z2 531]
noncomputable def o269 (_:Params):Obj:=fO "told_slot" "Sheets.told_slot" (inClass (top 10) 19) (s z21 341) (.ref 268)
noncomputable def o272 (_:Params):Obj:=tO [s z15 536,s z22 537,s 495639426416 538,s z16 539]
noncomputable def o275 (_:Params):Obj:=cO [s 2128759062150016623209 533,s 153393256304966102397104309401490450772 534,s z2 535,i 160,i 3,i 0,i 0,i 3,.ref 270,(.bool true),i 181,.ref 271,.none,.ref 272,.ref 273,.ref 274,i 540,i 160,s z2 541]
noncomputable def o276 (_:Params):Obj:=fO "hand_over" "Sheets.hand_over" (inClass (top 10) 20) (s z21 341) (.ref 275)
noncomputable def o279 (_:Params):Obj:=tO [s z15 546,s z22 547]
noncomputable def o282 (_:Params):Obj:=cO [s 578295153549658678911598 543,s 41670557408582505496529931128187121985876 544,s z2 545,i 165,i 2,i 0,i 0,i 3,.ref 277,(.bool true),i 181,.ref 278,.none,.ref 279,.ref 280,.ref 281,i 548,i 165,s z2 549]
noncomputable def o283 (_:Params):Obj:=fO "make_empty" "Sheets.make_empty" (inClass (top 10) 21) (s z21 341) (.ref 282)
noncomputable def o286 (_:Params):Obj:=tO [s z15 554,s z23 555,s 1970302324 556]
noncomputable def o289 (_:Params):Obj:=cO [s 2055260603203882086509 551,s 148097134187812227235189991446143199572 552,s z2 553,i 172,i 2,i 0,i 0,i 3,.ref 284,(.bool true),i 181,.ref 285,.none,.ref 286,.ref 287,.ref 288,i 557,i 172,s z2 558]
noncomputable def o290 (_:Params):Obj:=fO "lose_twin" "Sheets.lose_twin" (inClass (top 10) 22) (s z21 341) (.ref 289)
noncomputable def o293 (_:Params):Obj:=tO [s z15 563,s z24 564,s 500035707502 565,s z23 566,s 112581468514660 567]
noncomputable def o296 (_:Params):Obj:=cO [s 2129475116924502438759 560,s 153444853489214921332424288546578655572 561,s z2 562,i 178,i 3,i 0,i 0,i 3,.ref 291,(.bool true),i 181,.ref 292,.none,.ref 293,.ref 294,.ref 295,i 568,i 178,s z2 569]
noncomputable def o297 (_:Params):Obj:=fO "frame_for" "Sheets.frame_for" (inClass (top 10) 23) (s z21 341) (.ref 296)
noncomputable def o300 (_:Params):Obj:=tO [s z15 574,s z23 575,s z24 576,s z20 577,s 1970302324 578]
noncomputable def o303 (_:Params):Obj:=cO [s 33062797301872241 571,s 2382425625736609055251908520208724 572,s z2 573,i 186,i 3,i 0,i 0,i 3,.ref 298,(.bool true),i 181,.ref 299,.none,.ref 300,.ref 301,.ref 302,i 579,i 186,s z2 580]
noncomputable def o304 (_:Params):Obj:=fO "put_out" "Sheets.put_out" (inClass (top 10) 24) (s z21 341) (.ref 303)
noncomputable def o307 (_:Params):Obj:=tO [s z15 585,s z23 586,s z24 587,s 525956378214 588,s 1869248629 589]
noncomputable def o310 (_:Params):Obj:=cO [s 8318262175738129780 582,s 599393958960389321452523230538918228 583,s z2 584,i 198,i 3,i 0,i 0,i 3,.ref 305,(.bool true),i 181,.ref 306,.none,.ref 307,.ref 308,.ref 309,i 590,i 198,s z2 591]
noncomputable def o311 (_:Params):Obj:=fO "slot_for" "Sheets.slot_for" (inClass (top 10) 25) (s z21 341) (.ref 310)
noncomputable def o312 (_:Params):Obj:=⟨(.type "tuple"),none,.seq #[(.str (Str.ofString "come_back") 593),(.str (Str.ofString "frames") 594),(.str (Str.ofString "gone_astray") 595),(.str (Str.ofString "gone_out") 596),(.str (Str.ofString "hand") 597),(.str (Str.ofString "size") 598),(.str (Str.ofString "slots") 599)] 0, #[]⟩
noncomputable def o313 (P:Params):Obj:=dO 4 [e P z11 350 (s z21 341),e P z12 354 (.int (50) 353),e P z17 364 (.ref 140),e P 452924437351 375 (.ref 147),e P 1818518115 386 (.ref 154),e P 1701671017 396 (.ref 161),e P 123593597216365 406 (.ref 168),e P 488476733378837491839081 415 (.ref 175),e P 36344496227587819637979312233 423 (.ref 182),e P 8458429107500640628 432 (.ref 189),e P 113732352569443 441 (.ref 196),e P 34182044304369268 451 (.ref 203),e P 1701671015 463 (.ref 210),e P 140789800901245672938236525 470 (.ref 217),e P 30801127769404522 477 (.ref 224),e P 33040738433327721 484 (.ref 231),e P 140719112692525297883246709 494 (.ref 238),e P 549960882328764939071605 500 (.ref 243),e P 435510800494 507 (.ref 250),e P 8458429051817327213 516 (.ref 257),e P 2148284700994785078626 522 (.ref 262),e P 2166370315886094282869 532 (.ref 269),e P 2128759062150016623209 542 (.ref 276),e P 578295153549658678911598 550 (.ref 283),e P 2055260603203882086509 559 (.ref 290),e P 2129475116924502438759 570 (.ref 297),e P 33062797301872241 581 (.ref 304),e P 8318262175738129780 592 (.ref 311),e P z13 600 (.ref 312),e P z19 602 (.ref 315),e P z14 604 (.ref 316),e P z1 605 .none]
noncomputable def o314 (_:Params):Obj:=⟨(.type "type"),none,.cls {name:=(Str.ofString "Sheets"),bases:=[(.type "object")],mro:=[.ref 314,(.type "object")],ns:=313,qualname:=(Str.ofString "Sheets"),hasDict:=true,slotNames:=[],subclasses:=[],abstract:=false,collection:=none,hasDel:=false}, #[none,none,(some (s 128047577983316 343)),(some (s 128047577983316 351)),(some (.builtin "object.__new__")),(some (.bool true))]⟩
noncomputable def o315 (_:Params):Obj:=⟨(.type "getset_descriptor"),none,.fields ⟨[s z19 601,.ref 314,(.builtin "function.__dict__"),(.builtin "function.__dict__#set")]⟩, #[]⟩
noncomputable def o316 (_:Params):Obj:=⟨(.type "getset_descriptor"),none,.fields ⟨[s z14 603,.ref 314,(.builtin "ExceptionGroup.__weakref__"),.none]⟩, #[]⟩
noncomputable def o321 (_:Params):Obj:=tO [s 141979911977246466280418656 613,s 119161592376672 614]
noncomputable def o324 (_:Params):Obj:=cO [s 2018578202597599112544 610,s 2018578202597599112544 611,s z2 612,i 207,i 2,i 0,i 0,i 3,.ref 319,(.bool true),i 181,.ref 320,.none,.ref 321,.ref 322,.ref 323,i 615,i 207,s z2 616]
noncomputable def o325 (_:Params):Obj:=fO "_law_cell" "_law_cell" (top 12) (s z0 608) (.ref 324)
noncomputable def o328 (_:Params):Obj:=tO [s z25 621,s 7383200104131489120 622,s 119161592376672 623]
noncomputable def o331 (_:Params):Obj:=cO [s 1889380072283105815904 618,s 1889380072283105815904 619,s z2 620,i 211,i 2,i 0,i 0,i 3,.ref 326,(.bool true),i 181,.ref 327,.none,.ref 328,.ref 329,.ref 330,i 624,i 211,s z2 625]
noncomputable def o332 (_:Params):Obj:=fO "_law_like" "_law_like" (top 13) (s z0 608) (.ref 331)
noncomputable def o335 (_:Params):Obj:=tO [s z26 630,s z25 631,s z27 632]
noncomputable def o338 (_:Params):Obj:=cO [s z4 627,s z4 628,s z2 629,i 230,i 3,i 0,i 0,i 3,.ref 333,(.bool true),i 181,.ref 334,.none,.ref 335,.ref 336,.ref 337,i 633,i 230,s z2 634]
noncomputable def o339 (_:Params):Obj:=fO "_law_moved" "_law_moved" (top 14) (s z0 608) (.ref 338)
noncomputable def o342 (_:Params):Obj:=tO [s z28 639,s z26 640,s z27 641,s 549795074702062171352416 642,s 31381846404235127185299631456 643,s z25 644,s 2018582709495761366368 645]
noncomputable def o345 (_:Params):Obj:=cO [s z5 636,s z5 637,s z2 638,i 234,i 4,i 0,i 0,i 3,.ref 340,(.bool true),i 181,.ref 341,.none,.ref 342,.ref 343,.ref 344,i 646,i 234,s z2 647]
noncomputable def o346 (_:Params):Obj:=fO "_law_fresh" "_law_fresh" (top 15) (s z0 608) (.ref 345)
noncomputable def o349 (_:Params):Obj:=tO [s z28 652,s z26 653,s 2166370315886412328288 654,s 549795074702062171352416 655,s z27 656]
noncomputable def o352 (_:Params):Obj:=cO [s 1999481813178129739104 649,s 1999481813178129739104 650,s z2 651,i 245,i 4,i 0,i 0,i 3,.ref 347,(.bool true),i 181,.ref 348,.none,.ref 349,.ref 350,.ref 351,i 657,i 245,s z2 658]
noncomputable def o353 (_:Params):Obj:=fO "_law_back" "_law_back" (top 16) (s z0 608) (.ref 352)
noncomputable def o356 (_:Params):Obj:=tO [s z26 663,s 2166371441786319170912 664]
noncomputable def o359 (_:Params):Obj:=cO [s 2000274464304732990816 660,s 2000274464304732990816 661,s z2 662,i 249,i 2,i 0,i 0,i 3,.ref 354,(.bool true),i 181,.ref 355,.none,.ref 356,.ref 357,.ref 358,i 665,i 249,s z2 666]
noncomputable def o360 (_:Params):Obj:=fO "_law_rank" "_law_rank" (top 17) (s z0 608) (.ref 359)
noncomputable def o364 (_:Params):Obj:=cO [s z6 668,s z6 669,s z2 670,i 253,i 1,i 0,i 0,i 3,.ref 361,(.bool true),i 181,.ref 362,.none,.none,.none,.ref 363,i 671,i 253,s z2 672]
noncomputable def o365 (_:Params):Obj:=fO "_law_alike" "_law_alike" (top 18) (s z0 608) (.ref 364)
noncomputable def o369 (_:Params):Obj:=cO [s z7 674,s z7 675,s z2 676,i 261,i 2,i 0,i 0,i 3,.ref 366,(.bool true),i 181,.ref 367,.none,.none,.none,.ref 368,i 677,i 261,s z2 678]
noncomputable def o370 (_:Params):Obj:=fO "_law_folded" "_law_folded" (top 19) (s z0 608) (.ref 369)
noncomputable def o374 (_:Params):Obj:=cO [s z8 680,s z8 681,s z2 682,i 276,i 1,i 0,i 0,i 3,.ref 371,(.bool true),i 181,.ref 372,.none,.none,.none,.ref 373,i 683,i 276,s z2 684]
noncomputable def o375 (_:Params):Obj:=fO "_law_copied" "_law_copied" (top 20) (s z0 608) (.ref 374)
noncomputable def o379 (_:Params):Obj:=cO [s 1890103190294368513376 686,s 1890103190294368513376 687,s z2 688,i 278,i 2,i 0,i 0,i 3,.ref 376,(.bool true),i 181,.ref 377,.none,.none,.none,.ref 378,i 689,i 278,s z2 690]
noncomputable def o380 (_:Params):Obj:=fO "_law_true" "_law_true" (top 21) (s z0 608) (.ref 379)
noncomputable def o383 (_:Params):Obj:=tO [s z28 695,s z26 696,s 2166371441786319170912 697,s 8818743376076762464 698,s 136180446863379631609281413973480205664 699,s 139510021644005314150952288 700,s z27 701]
noncomputable def o386 (_:Params):Obj:=cO [s z9 692,s z9 693,s z2 694,i 301,i 6,i 0,i 0,i 3,.ref 381,(.bool true),i 181,.ref 382,.none,.ref 383,.ref 384,.ref 385,i 702,i 301,s z2 703]
noncomputable def o387 (_:Params):Obj:=fO "_law_changed" "_law_changed" (top 22) (s z0 608) (.ref 386)
noncomputable def o390 (_:Params):Obj:=tO [s 140789874832602138455207264 708,s 2077948713125189379357033996905824 709,s 119161592376672 710,s z27 711]
noncomputable def o393 (_:Params):Obj:=cO [s z10 705,s z10 706,s z2 707,i 314,i 3,i 0,i 0,i 3,.ref 388,(.bool true),i 181,.ref 389,.none,.ref 390,.ref 391,.ref 392,i 712,i 314,s z2 713]
noncomputable def o394 (_:Params):Obj:=fO "_law_number" "_law_number" (top 23) (s z0 608) (.ref 393)
noncomputable def o398 (_:Params):Obj:=cO [s 1870499847949168831840 715,s 1870499847949168831840 716,s z2 717,i 319,i 4,i 0,i 0,i 3,.ref 395,(.bool true),i 181,.ref 396,.none,.none,.none,.ref 397,i 718,i 319,s z2 719]
noncomputable def o399 (_:Params):Obj:=fO "_law_deed" "_law_deed" (top 24) (s z0 608) (.ref 398)
noncomputable def o403 (_:Params):Obj:=cO [s 7889517 721,s 7889517 722,s z2 723,i 338,i 1,i 0,i 0,i 3,.ref 400,(.bool true),i 181,.ref 401,.none,.none,.none,.ref 402,i 724,i 338,s z2 725]
noncomputable def o404 (_:Params):Obj:=fO "law" "law" (top 25) (s z0 608) (.ref 403)
noncomputable def Kf:Params→PySem.W.Frag:=fun P=>(nat_lit 2,o2 P)::(nat_lit 3,o3 P)::(nat_lit 15,o15 P)::(nat_lit 17,o17 P)::(nat_lit 18,o15 P)::(nat_lit 20,o20 P)::(nat_lit 21,o21 P)::(nat_lit 22,o22 P)::(nat_lit 29,o29 P)::(nat_lit 30,o30 P)::(nat_lit 31,o31 P)::(nat_lit 32,o32 P)::(nat_lit 35,o35 P)::(nat_lit 42,o29 P)::(nat_lit 43,o43 P)::(nat_lit 44,o44 P)::(nat_lit 47,o15 P)::(nat_lit 49,o49 P)::(nat_lit 50,o15 P)::(nat_lit 52,o52 P)::(nat_lit 53,o53 P)::(nat_lit 61,o15 P)::(nat_lit 63,o63 P)::(nat_lit 64,o15 P)::(nat_lit 66,o66 P)::(nat_lit 67,o67 P)::(nat_lit 68,o15 P)::(nat_lit 70,o70 P)::(nat_lit 71,o15 P)::(nat_lit 73,o73 P)::(nat_lit 74,o74 P)::(nat_lit 75,o15 P)::(nat_lit 78,o78 P)::(nat_lit 79,o79 P)::(nat_lit 80,o80 P)::(nat_lit 81,o81 P)::(nat_lit 82,o82 P)::(nat_lit 83,o83 P)::(nat_lit 84,o84 P)::(nat_lit 94,o15 P)::(nat_lit 96,o96 P)::(nat_lit 97,o15 P)::(nat_lit 99,o99 P)::(nat_lit 100,o100 P)::(nat_lit 101,o15 P)::(nat_lit 103,o103 P)::(nat_lit 104,o15 P)::(nat_lit 106,o106 P)::(nat_lit 107,o107 P)::(nat_lit 108,o15 P)::(nat_lit 110,o110 P)::(nat_lit 111,o15 P)::(nat_lit 113,o113 P)::(nat_lit 114,o114 P)::(nat_lit 115,o15 P)::(nat_lit 118,o118 P)::(nat_lit 119,o119 P)::(nat_lit 120,o120 P)::(nat_lit 121,o121 P)::(nat_lit 122,o122 P)::(nat_lit 123,o123 P)::(nat_lit 124,o124 P)::(nat_lit 134,o15 P)::(nat_lit 136,o136 P)::(nat_lit 137,o15 P)::(nat_lit 139,o139 P)::(nat_lit 140,o140 P)::(nat_lit 141,o15 P)::(nat_lit 143,o143 P)::(nat_lit 144,o15 P)::(nat_lit 146,o146 P)::(nat_lit 147,o147 P)::(nat_lit 148,o15 P)::(nat_lit 150,o150 P)::(nat_lit 151,o15 P)::(nat_lit 153,o153 P)::(nat_lit 154,o154 P)::(nat_lit 155,o15 P)::(nat_lit 157,o157 P)::(nat_lit 158,o15 P)::(nat_lit 160,o160 P)::(nat_lit 161,o161 P)::(nat_lit 162,o15 P)::(nat_lit 164,o164 P)::(nat_lit 165,o15 P)::(nat_lit 167,o167 P)::(nat_lit 168,o168 P)::(nat_lit 169,o15 P)::(nat_lit 171,o171 P)::(nat_lit 172,o15 P)::(nat_lit 174,o174 P)::(nat_lit 175,o175 P)::(nat_lit 176,o15 P)::(nat_lit 178,o178 P)::(nat_lit 179,o15 P)::(nat_lit 181,o181 P)::(nat_lit 182,o182 P)::(nat_lit 183,o15 P)::(nat_lit 185,o185 P)::(nat_lit 186,o15 P)::(nat_lit 188,o188 P)::(nat_lit 189,o189 P)::(nat_lit 190,o15 P)::(nat_lit 192,o192 P)::(nat_lit 193,o15 P)::(nat_lit 195,o195 P)::(nat_lit 196,o196 P)::(nat_lit 197,o15 P)::(nat_lit 199,o199 P)::(nat_lit 200,o15 P)::(nat_lit 202,o202 P)::(nat_lit 203,o203 P)::(nat_lit 204,o15 P)::(nat_lit 206,o206 P)::(nat_lit 207,o15 P)::(nat_lit 209,o209 P)::(nat_lit 210,o210 P)::(nat_lit 211,o15 P)::(nat_lit 213,o213 P)::(nat_lit 214,o15 P)::(nat_lit 216,o216 P)::(nat_lit 217,o217 P)::(nat_lit 218,o15 P)::(nat_lit 220,o220 P)::(nat_lit 221,o15 P)::(nat_lit 223,o223 P)::(nat_lit 224,o224 P)::(nat_lit 225,o15 P)::(nat_lit 227,o227 P)::(nat_lit 228,o15 P)::(nat_lit 230,o230 P)::(nat_lit 231,o231 P)::(nat_lit 232,o15 P)::(nat_lit 234,o234 P)::(nat_lit 235,o15 P)::(nat_lit 237,o237 P)::(nat_lit 238,o238 P)::(nat_lit 239,o15 P)::(nat_lit 242,o242 P)::(nat_lit 243,o243 P)::(nat_lit 244,o15 P)::(nat_lit 246,o246 P)::(nat_lit 247,o15 P)::(nat_lit 249,o249 P)::(nat_lit 250,o250 P)::(nat_lit 251,o15 P)::(nat_lit 253,o253 P)::(nat_lit 254,o15 P)::(nat_lit 256,o256 P)::(nat_lit 257,o257 P)::(nat_lit 258,o15 P)::(nat_lit 261,o261 P)::(nat_lit 262,o262 P)::(nat_lit 263,o15 P)::(nat_lit 265,o265 P)::(nat_lit 266,o15 P)::(nat_lit 268,o268 P)::(nat_lit 269,o269 P)::(nat_lit 270,o15 P)::(nat_lit 272,o272 P)::(nat_lit 273,o15 P)::(nat_lit 275,o275 P)::(nat_lit 276,o276 P)::(nat_lit 277,o15 P)::(nat_lit 279,o279 P)::(nat_lit 280,o15 P)::(nat_lit 282,o282 P)::(nat_lit 283,o283 P)::(nat_lit 284,o15 P)::(nat_lit 286,o286 P)::(nat_lit 287,o15 P)::(nat_lit 289,o289 P)::(nat_lit 290,o290 P)::(nat_lit 291,o15 P)::(nat_lit 293,o293 P)::(nat_lit 294,o15 P)::(nat_lit 296,o296 P)::(nat_lit 297,o297 P)::(nat_lit 298,o15 P)::(nat_lit 300,o300 P)::(nat_lit 301,o15 P)::(nat_lit 303,o303 P)::(nat_lit 304,o304 P)::(nat_lit 305,o15 P)::(nat_lit 307,o307 P)::(nat_lit 308,o15 P)::(nat_lit 310,o310 P)::(nat_lit 311,o311 P)::(nat_lit 312,o312 P)::(nat_lit 313,o313 P)::(nat_lit 314,o314 P)::(nat_lit 315,o315 P)::(nat_lit 316,o316 P)::(nat_lit 319,o15 P)::(nat_lit 321,o321 P)::(nat_lit 322,o15 P)::(nat_lit 324,o324 P)::(nat_lit 325,o325 P)::(nat_lit 326,o15 P)::(nat_lit 328,o328 P)::(nat_lit 329,o15 P)::(nat_lit 331,o331 P)::(nat_lit 332,o332 P)::(nat_lit 333,o15 P)::(nat_lit 335,o335 P)::(nat_lit 336,o15 P)::(nat_lit 338,o338 P)::(nat_lit 339,o339 P)::(nat_lit 340,o15 P)::(nat_lit 342,o342 P)::(nat_lit 343,o15 P)::(nat_lit 345,o345 P)::(nat_lit 346,o346 P)::(nat_lit 347,o15 P)::(nat_lit 349,o349 P)::(nat_lit 350,o15 P)::(nat_lit 352,o352 P)::(nat_lit 353,o353 P)::(nat_lit 354,o15 P)::(nat_lit 356,o356 P)::(nat_lit 357,o15 P)::(nat_lit 359,o359 P)::(nat_lit 360,o360 P)::(nat_lit 361,o15 P)::(nat_lit 364,o364 P)::(nat_lit 365,o365 P)::(nat_lit 366,o15 P)::(nat_lit 369,o369 P)::(nat_lit 370,o370 P)::(nat_lit 371,o15 P)::(nat_lit 374,o374 P)::(nat_lit 375,o375 P)::(nat_lit 376,o15 P)::(nat_lit 379,o379 P)::(nat_lit 380,o380 P)::(nat_lit 381,o15 P)::(nat_lit 383,o383 P)::(nat_lit 384,o15 P)::(nat_lit 386,o386 P)::(nat_lit 387,o387 P)::(nat_lit 388,o15 P)::(nat_lit 390,o390 P)::(nat_lit 391,o15 P)::(nat_lit 393,o393 P)::(nat_lit 394,o394 P)::(nat_lit 395,o15 P)::(nat_lit 398,o398 P)::(nat_lit 399,o399 P)::(nat_lit 400,o15 P)::(nat_lit 403,o403 P)::(nat_lit 404,o404 P)::[]
noncomputable def Kc0 (P:Params):List (Option Obj):=[some (o2 P),some (o3 P),some (o15 P),some (o17 P),some (o15 P),some (o20 P),some (o21 P),some (o22 P),some (o29 P),some (o30 P),some (o31 P),some (o32 P),some (o35 P),some (o29 P)]
noncomputable def Kc1 (P:Params):List (Option Obj):=[some (o43 P),some (o44 P),some (o15 P),some (o49 P),some (o15 P),some (o52 P),some (o53 P),some (o15 P),some (o63 P),some (o15 P),some (o66 P),some (o67 P),some (o15 P),some (o70 P)]
noncomputable def Kc2 (P:Params):List (Option Obj):=[some (o15 P),some (o73 P),some (o74 P),some (o15 P),some (o78 P),some (o79 P),some (o80 P),some (o81 P),some (o82 P),some (o83 P),some (o84 P),some (o15 P),some (o96 P),some (o15 P)]
noncomputable def Kc3 (P:Params):List (Option Obj):=[some (o99 P),some (o100 P),some (o15 P),some (o103 P),some (o15 P),some (o106 P),some (o107 P),some (o15 P),some (o110 P),some (o15 P),some (o113 P),some (o114 P),some (o15 P),some (o118 P)]
noncomputable def Kc4 (P:Params):List (Option Obj):=[some (o119 P),some (o120 P),some (o121 P),some (o122 P),some (o123 P),some (o124 P),some (o15 P),some (o136 P),some (o15 P),some (o139 P),some (o140 P),some (o15 P),some (o143 P),some (o15 P)]
noncomputable def Kc5 (P:Params):List (Option Obj):=[some (o146 P),some (o147 P),some (o15 P),some (o150 P),some (o15 P),some (o153 P),some (o154 P),some (o15 P),some (o157 P),some (o15 P),some (o160 P),some (o161 P),some (o15 P),some (o164 P)]
noncomputable def Kc6 (P:Params):List (Option Obj):=[some (o15 P),some (o167 P),some (o168 P),some (o15 P),some (o171 P),some (o15 P),some (o174 P),some (o175 P),some (o15 P),some (o178 P),some (o15 P),some (o181 P),some (o182 P),some (o15 P)]
noncomputable def Kc7 (P:Params):List (Option Obj):=[some (o185 P),some (o15 P),some (o188 P),some (o189 P),some (o15 P),some (o192 P),some (o15 P),some (o195 P),some (o196 P),some (o15 P),some (o199 P),some (o15 P),some (o202 P),some (o203 P)]
noncomputable def Kc8 (P:Params):List (Option Obj):=[some (o15 P),some (o206 P),some (o15 P),some (o209 P),some (o210 P),some (o15 P),some (o213 P),some (o15 P),some (o216 P),some (o217 P),some (o15 P),some (o220 P),some (o15 P),some (o223 P)]
noncomputable def Kc9 (P:Params):List (Option Obj):=[some (o224 P),some (o15 P),some (o227 P),some (o15 P),some (o230 P),some (o231 P),some (o15 P),some (o234 P),some (o15 P),some (o237 P),some (o238 P),some (o15 P),some (o242 P),some (o243 P)]
noncomputable def Kc10 (P:Params):List (Option Obj):=[some (o15 P),some (o246 P),some (o15 P),some (o249 P),some (o250 P),some (o15 P),some (o253 P),some (o15 P),some (o256 P),some (o257 P),some (o15 P),some (o261 P),some (o262 P),some (o15 P)]
noncomputable def Kc11 (P:Params):List (Option Obj):=[some (o265 P),some (o15 P),some (o268 P),some (o269 P),some (o15 P),some (o272 P),some (o15 P),some (o275 P),some (o276 P),some (o15 P),some (o279 P),some (o15 P),some (o282 P),some (o283 P)]
noncomputable def Kc12 (P:Params):List (Option Obj):=[some (o15 P),some (o286 P),some (o15 P),some (o289 P),some (o290 P),some (o15 P),some (o293 P),some (o15 P),some (o296 P),some (o297 P),some (o15 P),some (o300 P),some (o15 P),some (o303 P)]
noncomputable def Kc13 (P:Params):List (Option Obj):=[some (o304 P),some (o15 P),some (o307 P),some (o15 P),some (o310 P),some (o311 P),some (o312 P),some (o313 P),some (o314 P),some (o315 P),some (o316 P),some (o15 P),some (o321 P),some (o15 P)]
noncomputable def Kc14 (P:Params):List (Option Obj):=[some (o324 P),some (o325 P),some (o15 P),some (o328 P),some (o15 P),some (o331 P),some (o332 P),some (o15 P),some (o335 P),some (o15 P),some (o338 P),some (o339 P),some (o15 P),some (o342 P)]
noncomputable def Kc15 (P:Params):List (Option Obj):=[some (o15 P),some (o345 P),some (o346 P),some (o15 P),some (o349 P),some (o15 P),some (o352 P),some (o353 P),some (o15 P),some (o356 P),some (o15 P),some (o359 P),some (o360 P),some (o15 P)]
noncomputable def Kc16 (P:Params):List (Option Obj):=[some (o364 P),some (o365 P),some (o15 P),some (o369 P),some (o370 P),some (o15 P),some (o374 P),some (o375 P),some (o15 P),some (o379 P),some (o380 P),some (o15 P),some (o383 P),some (o15 P)]
noncomputable def Kc17 (P:Params):List (Option Obj):=[some (o386 P),some (o387 P),some (o15 P),some (o390 P),some (o15 P),some (o393 P),some (o394 P),some (o15 P),some (o398 P),some (o399 P),some (o15 P),some (o403 P),some (o404 P)]
noncomputable def Kc (P:Params):List (Option Obj):=Kc0 P++(Kc1 P++(Kc2 P++(Kc3 P++(Kc4 P++(Kc5 P++(Kc6 P++(Kc7 P++(Kc8 P++(Kc9 P++(Kc10 P++(Kc11 P++(Kc12 P++(Kc13 P++(Kc14 P++(Kc15 P++(Kc16 P++(Kc17 P)))))))))))))))))
noncomputable def adr:List Addr:=nat_lit 2::nat_lit 3::nat_lit 15::nat_lit 17::nat_lit 18::nat_lit 20::nat_lit 21::nat_lit 22::nat_lit 29::nat_lit 30::nat_lit 31::nat_lit 32::nat_lit 35::nat_lit 42::nat_lit 43::nat_lit 44::nat_lit 47::nat_lit 49::nat_lit 50::nat_lit 52::nat_lit 53::nat_lit 61::nat_lit 63::nat_lit 64::nat_lit 66::nat_lit 67::nat_lit 68::nat_lit 70::nat_lit 71::nat_lit 73::nat_lit 74::nat_lit 75::nat_lit 78::nat_lit 79::nat_lit 80::nat_lit 81::nat_lit 82::nat_lit 83::nat_lit 84::nat_lit 94::nat_lit 96::nat_lit 97::nat_lit 99::nat_lit 100::nat_lit 101::nat_lit 103::nat_lit 104::nat_lit 106::nat_lit 107::nat_lit 108::nat_lit 110::nat_lit 111::nat_lit 113::nat_lit 114::nat_lit 115::nat_lit 118::nat_lit 119::nat_lit 120::nat_lit 121::nat_lit 122::nat_lit 123::nat_lit 124::nat_lit 134::nat_lit 136::nat_lit 137::nat_lit 139::nat_lit 140::nat_lit 141::nat_lit 143::nat_lit 144::nat_lit 146::nat_lit 147::nat_lit 148::nat_lit 150::nat_lit 151::nat_lit 153::nat_lit 154::nat_lit 155::nat_lit 157::nat_lit 158::nat_lit 160::nat_lit 161::nat_lit 162::nat_lit 164::nat_lit 165::nat_lit 167::nat_lit 168::nat_lit 169::nat_lit 171::nat_lit 172::nat_lit 174::nat_lit 175::nat_lit 176::nat_lit 178::nat_lit 179::nat_lit 181::nat_lit 182::nat_lit 183::nat_lit 185::nat_lit 186::nat_lit 188::nat_lit 189::nat_lit 190::nat_lit 192::nat_lit 193::nat_lit 195::nat_lit 196::nat_lit 197::nat_lit 199::nat_lit 200::nat_lit 202::nat_lit 203::nat_lit 204::nat_lit 206::nat_lit 207::nat_lit 209::nat_lit 210::nat_lit 211::nat_lit 213::nat_lit 214::nat_lit 216::nat_lit 217::nat_lit 218::nat_lit 220::nat_lit 221::nat_lit 223::nat_lit 224::nat_lit 225::nat_lit 227::nat_lit 228::nat_lit 230::nat_lit 231::nat_lit 232::nat_lit 234::nat_lit 235::nat_lit 237::nat_lit 238::nat_lit 239::nat_lit 242::nat_lit 243::nat_lit 244::nat_lit 246::nat_lit 247::nat_lit 249::nat_lit 250::nat_lit 251::nat_lit 253::nat_lit 254::nat_lit 256::nat_lit 257::nat_lit 258::nat_lit 261::nat_lit 262::nat_lit 263::nat_lit 265::nat_lit 266::nat_lit 268::nat_lit 269::nat_lit 270::nat_lit 272::nat_lit 273::nat_lit 275::nat_lit 276::nat_lit 277::nat_lit 279::nat_lit 280::nat_lit 282::nat_lit 283::nat_lit 284::nat_lit 286::nat_lit 287::nat_lit 289::nat_lit 290::nat_lit 291::nat_lit 293::nat_lit 294::nat_lit 296::nat_lit 297::nat_lit 298::nat_lit 300::nat_lit 301::nat_lit 303::nat_lit 304::nat_lit 305::nat_lit 307::nat_lit 308::nat_lit 310::nat_lit 311::nat_lit 312::nat_lit 313::nat_lit 314::nat_lit 315::nat_lit 316::nat_lit 319::nat_lit 321::nat_lit 322::nat_lit 324::nat_lit 325::nat_lit 326::nat_lit 328::nat_lit 329::nat_lit 331::nat_lit 332::nat_lit 333::nat_lit 335::nat_lit 336::nat_lit 338::nat_lit 339::nat_lit 340::nat_lit 342::nat_lit 343::nat_lit 345::nat_lit 346::nat_lit 347::nat_lit 349::nat_lit 350::nat_lit 352::nat_lit 353::nat_lit 354::nat_lit 356::nat_lit 357::nat_lit 359::nat_lit 360::nat_lit 361::nat_lit 364::nat_lit 365::nat_lit 366::nat_lit 369::nat_lit 370::nat_lit 371::nat_lit 374::nat_lit 375::nat_lit 376::nat_lit 379::nat_lit 380::nat_lit 381::nat_lit 383::nat_lit 384::nat_lit 386::nat_lit 387::nat_lit 388::nat_lit 390::nat_lit 391::nat_lit 393::nat_lit 394::nat_lit 395::nat_lit 398::nat_lit 399::nat_lit 400::nat_lit 403::nat_lit 404::[]
theorem aiz (P:Params):adr=(Kf P).map (·.1):=by kernel_rfl
theorem kc_eq (P:Params):Kc P=(Kf P).map fun p=>some p.2:=by kernel_rfl
noncomputable def vw:Program:=PySem.W.view PySem.Challenge.pw_frameland_k68_sheets_any_row [0,2,3,5,7,8,10,12,13,14,15,16,17,18,19,20,21,22,23,24,25]
noncomputable def lhs:=once PySem.Challenge.pw_frameland_k68_sheets_any_row (fun s=>adr.map s.heap.get?) 5268
noncomputable def rhs (w:World):=some (true,Kc w.params)
noncomputable def lht:=seen PySem.Challenge.pw_frameland_k68_sheets_any_row vw [] (fun s=>PySem.W.xlAt vw [] s&&PySem.W.recOk (PySem.W.RowW.records (PySem.Challenge.rw_frameland_k68_sheets_any_row).row.toRowW) s) 5268
noncomputable def rht:=some (PySem.W.openGood vw [])
theorem twins:(fun (_:World→OsState→_) (_:World→_) (_:World→OsState→_) (_:Option _)=>true) lhs rhs lht rht=true:=by k_qdec
theorem aqz:∀(w:World) (os:OsState),PySem.W.Fast.tw7128866508377749982 w os=PySem.W.Fast.tw12590348191598281069 w:=by intro w os;kernel_rfl
theorem aq0:∀(w:World) (os:OsState),PySem.W.Fast.tw7374437481920917934 w os=PySem.W.Fast.tw10733892774512676622:=by intro w os;kernel_rfl
theorem left:PySem.W.LeftO PySem.Challenge.pw_frameland_k68_sheets_any_row vw [] (fun s=>PySem.W.xlAt vw [] s&&PySem.W.recOk (PySem.W.RowW.records (PySem.Challenge.rw_frameland_k68_sheets_any_row).row.toRowW) s) (fun s=>adr.map s.heap.get?) (fun w=>(Kf w.params).map fun p=>some p.2) (5268):=by
 refine al0 (by kernel_rfl) (by kernel_rfl) (by intro s;kernel_rfl) (fun w os=>?_) fun w os=>?_
 ·rw[←kc_eq];exact (congrFun (congrFun PySem.W.Fast.te7128866508377749982 w) os).trans ((aqz w os).trans (congrFun PySem.W.Fast.te12590348191598281069 w).symm)
 ·exact (congrFun (congrFun PySem.W.Fast.te7374437481920917934 w) os).trans ((aq0 w os).trans PySem.W.Fast.te10733892774512676622.symm)
end
end Pf
open PySem PySem.W PyProof.Rows
set_option maxRecDepth 100000 in
set_option maxHeartbeats 0 in
theorem PySem.Challenge.cw_frameland_k68_sheets_any_row_holds : PySem.Challenge.rw_frameland_k68_sheets_any_row.Holds := by
 w_on;o_law
 refine holds_open (q:=Pf.vw) (loose:=[]) (Xt:=fun s=>xlAt Pf.vw [] s&&recOk (RowW.records (PySem.Challenge.rw_frameland_k68_sheets_any_row).row.toRowW) s) (XP:=XL Pf.vw []) (Yf:=Hook.obs (kHook Pf.Kf Pf.adr Pf.aiz)) (Ya:=Hook.val (kHook Pf.Kf Pf.adr Pf.aiz)) (YP:=Hook.says (kHook Pf.Kf Pf.adr Pf.aiz)) (N:=(5268)) Pf.left (Hook.of (kHook Pf.Kf Pf.adr Pf.aiz)) (Hook.keeps (kHook Pf.Kf Pf.adr Pf.aiz)) (fun s e=>xl_of s (Bool.and_eq_true_iff.mp e).1) XL.keeps (by rfl) (by rfl) (by rfl) (fun s e=>recFacts_of (Bool.and_eq_true_iff.mp e).2) (by rfl) (by first|assumption|decide+kernel) (by decide+kernel) ⟨rfl,rfl,rfl,rfl,rfl,by decide+kernel⟩ ?hw ?hc
 case hw=>w_witness2
 k_fill
 refine Pf.walk (l:=PySem.Challenge.rw_frameland_k68_sheets_any_row) rfl rfl rfl (fun w h Y=>PySem.W.kIn_of Y) ?F
 case F=>
  intro w mg h KX G
  refine' Pf.txt_mk KX G ?g0 ?g1 ?g2 ?g3 ?g4 ?g5 ?g6 ?g7 ?g8 ?g9 ?g10 ?g11 ?g12 ?g13 ?g14 ?g15 ?g16 ?g17 ?g18 ?g19 ?g20 ?g21 ?g22 ?g23 ?g24 ?g25 ?g26 ?g27 ?g28 ?g29 ?g30 ?g31 ?g32 ?g33 ?g34 ?g35 ?g36 ?g37 ?g38 ?g39 ?g40 ?g41 ?g42 ?g43 ?g44 ?g45 ?g46 ?g47 ?g48 ?g49 ?g50 ?g51 ?g52 ?g53 ?g54 ?g55 ?g56 ?g57 ?g58 ?g59 ?g60 ?g61 ?g62 ?g63 ?g64 ?g65 ?g66 ?g67 ?g68 ?g69 ?g70 ?g71 ?g72 ?g73 ?g74 ?g75 ?g76 ?g77 ?g78 ?g79 ?g80 ?g81 ?g82 ?g83 ?g84 ?g85 ?g86 ?g87 ?g88 ?g89 ?g90 ?g91 ?g92 ?g93 ?g94 ?g95 ?g96 ?g97 ?g98 ?g99 ?g100 ?g101 ?g102 ?g103 ?g104 ?g105 ?g106 ?g107 ?g108 ?g109 ?g110 ?g111 ?g112 ?g113 ?g114 ?g115 ?g116 ?g117 ?g118 ?g119 ?g120 ?g121 ?g122 ?g123 ?g124 ?g125 ?g126 ?g127 ?g128 ?g129 ?g130 ?g131 ?g132 ?g133 ?g134 ?g135 ?g136 ?g137 ?g138 ?g139 ?g140 ?g141 ?g142 ?g143 ?g144 ?g145 ?g146 ?g147 ?g148 ?g149 ?g150 ?g151 ?g152 ?g153 ?g154 ?g155 ?g156 ?g157 ?g158 ?g159 ?g160 ?g161 ?g162 ?g163 ?g164 ?g165 ?g166 ?g167 ?g168 ?g169 ?g170 ?g171 ?g172 ?g173 ?g174 ?g175 ?g176 ?g177 ?g178 ?g179 ?g180 ?g181 ?g182 ?g183 ?g184 ?g185 ?g186 ?g187 ?g188 ?g189 ?g190 ?g191 ?g192 ?g193 ?g194 ?g195 ?g196 ?g197 ?g198 ?g199 ?g200 ?g201 ?g202 ?g203 ?g204 ?g205 ?g206 ?g207 ?g208 ?g209 ?g210 ?g211 ?g212 ?g213 ?g214 ?g215 ?g216 ?g217 ?g218 ?g219 ?g220 ?g221 ?g222 ?g223 ?g224 ?g225 ?g226 ?g227 ?g228 ?g229 ?g230 ?g231 ?g232 ?g233 ?g234 ?g235 ?g236 ?g237 ?g238 ?g239 ?g240 ?g241 ?g242 ?g243 ?g244 ?g245 ?g246 ?g247 ?g248 ?g249 ?g250 ?g251 ?g252 ?g253 ?g254
  (case g0=>k_is);(case g1=>k_is);(case g2=>k_is);(case g3=>k_is);(case g4=>k_is);(case g5=>k_is)
  (case g6=>k_is);(case g7=>k_is);(case g8=>k_is);(case g9=>k_is);(case g10=>k_is);(case g11=>k_is)
  (case g12=>k_is);(case g13=>k_is);(case g14=>k_is);(case g15=>k_is);(case g16=>k_is);(case g17=>k_is)
  (case g18=>k_is);(case g19=>k_is);(case g20=>k_is);(case g21=>k_is);(case g22=>k_is);(case g23=>k_is)
  (case g24=>k_is);(case g25=>k_is);(case g26=>k_is);(case g27=>k_is);(case g28=>k_is);(case g29=>k_is)
  (case g30=>k_is);(case g31=>k_is);(case g32=>k_is);(case g33=>k_is);(case g34=>k_is);(case g35=>k_is)
  (case g36=>k_is);(case g37=>k_is);(case g38=>k_is);(case g39=>k_is);(case g40=>k_is);(case g41=>k_is)
  (case g42=>k_is);(case g43=>k_is);(case g44=>k_is);(case g45=>k_is);(case g46=>k_is);(case g47=>k_is)
  (case g48=>k_is);(case g49=>k_is);(case g50=>k_is);(case g51=>k_is);(case g52=>k_is);(case g53=>k_is)
  (case g54=>k_is);(case g55=>k_is);(case g56=>k_is);(case g57=>k_is);(case g58=>k_is);(case g59=>k_is)
  (case g60=>k_is);(case g61=>k_is);(case g62=>k_is);(case g63=>k_is);(case g64=>k_is);(case g65=>k_is)
  (case g66=>k_is);(case g67=>k_is);(case g68=>k_is);(case g69=>k_is);(case g70=>k_is);(case g71=>k_is)
  (case g72=>k_is);(case g73=>k_is);(case g74=>k_is);(case g75=>k_is);(case g76=>k_is);(case g77=>k_is)
  (case g78=>k_is);(case g79=>k_is);(case g80=>k_is);(case g81=>k_is);(case g82=>k_is);(case g83=>k_is)
  (case g84=>k_is);(case g85=>k_is);(case g86=>k_is);(case g87=>k_is);(case g88=>k_is);(case g89=>k_is)
  (case g90=>k_is);(case g91=>k_is);(case g92=>k_is);(case g93=>k_is);(case g94=>k_is);(case g95=>k_is)
  (case g96=>k_is);(case g97=>k_is);(case g98=>k_is);(case g99=>k_is);(case g100=>k_is);(case g101=>k_is)
  (case g102=>k_is);(case g103=>k_is);(case g104=>k_is);(case g105=>k_is);(case g106=>k_is);(case g107=>k_is)
  (case g108=>k_is);(case g109=>k_is);(case g110=>k_is);(case g111=>k_is);(case g112=>k_is);(case g113=>k_is)
  (case g114=>k_is);(case g115=>k_is);(case g116=>k_is);(case g117=>k_is);(case g118=>k_is);(case g119=>k_is)
  (case g120=>k_is);(case g121=>k_is);(case g122=>k_is);(case g123=>k_is);(case g124=>k_is);(case g125=>k_is)
  (case g126=>k_is);(case g127=>k_is);(case g128=>k_is);(case g129=>k_is);(case g130=>k_is);(case g131=>k_is)
  (case g132=>k_is);(case g133=>k_is);(case g134=>k_is);(case g135=>k_is);(case g136=>k_is);(case g137=>k_is)
  (case g138=>k_is);(case g139=>k_is);(case g140=>k_is);(case g141=>k_is);(case g142=>k_is);(case g143=>k_is)
  (case g144=>k_is);(case g145=>k_is);(case g146=>k_is);(case g147=>k_is);(case g148=>k_is);(case g149=>k_is)
  (case g150=>k_is);(case g151=>k_is);(case g152=>k_is);(case g153=>k_is);(case g154=>k_is);(case g155=>k_is)
  (case g156=>k_is);(case g157=>k_is);(case g158=>k_is);(case g159=>k_is);(case g160=>k_is);(case g161=>k_is)
  (case g162=>k_is);(case g163=>k_is);(case g164=>k_is);(case g165=>k_is);(case g166=>k_is);(case g167=>k_is)
  (case g168=>k_is);(case g169=>k_is);(case g170=>k_is);(case g171=>k_is);(case g172=>k_is);(case g173=>k_is)
  (case g174=>k_is);(case g175=>k_is);(case g176=>k_is);(case g177=>k_is);(case g178=>k_is);(case g179=>k_is)
  (case g180=>k_is);(case g181=>k_is);(case g182=>k_is);(case g183=>k_is);(case g184=>k_is);(case g185=>k_is)
  (case g186=>k_is);(case g187=>k_is);(case g188=>k_is);(case g189=>k_is);(case g190=>k_is);(case g191=>k_is)
  (case g192=>k_is);(case g193=>k_is);(case g194=>k_is);(case g195=>k_is);(case g196=>k_is);(case g197=>k_is)
  (case g198=>k_is);(case g199=>k_is);(case g200=>k_is);(case g201=>k_is);(case g202=>k_is);(case g203=>k_is)
  (case g204=>k_is);(case g205=>k_is);(case g206=>k_is);(case g207=>k_is);(case g208=>k_is);(case g209=>k_is)
  (case g210=>k_is);(case g211=>k_is);(case g212=>k_is);(case g213=>k_is);(case g214=>k_is);(case g215=>k_is)
  (case g216=>k_is);(case g217=>k_is);(case g218=>k_is);(case g219=>k_is);(case g220=>k_is);(case g221=>k_is)
  (case g222=>k_is);(case g223=>k_is);(case g224=>k_is);(case g225=>k_is);(case g226=>k_is);(case g227=>k_is)
  (case g228=>k_is);(case g229=>k_is);(case g230=>k_is);(case g231=>k_is);(case g232=>k_is);(case g233=>k_is)
  (case g234=>k_is);(case g235=>k_is);(case g236=>k_is);(case g237=>k_is);(case g238=>k_is);(case g239=>k_is)
  (case g240=>k_is);(case g241=>k_is);(case g242=>k_is);(case g243=>k_is);(case g244=>k_is);(case g245=>k_is)
  (case g246=>k_is);(case g247=>k_is);(case g248=>k_is);(case g249=>k_exc);(case g250=>k_is);(case g251=>k_is)
  (case g252=>k_is);(case g253=>k_is);(case g254=>k_is)
