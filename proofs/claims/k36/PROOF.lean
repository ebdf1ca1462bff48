import PyProof.Rows.All
import Wide.All
import OpenK.AllK
import Wide.FinOn
import Lean
import PyProof.EqAt
import PyProof.EqKinds
import PyProof.TupleCall
import PyProof.NeKinds
import PyProof.EnumMake
import PyProof.EnumStmt
import PyProof.LayNew
import KE.KDictLaws
import KE.KDictSum
import KE.LcSums
import PyProof.Rows.SumAny
import PyProof.Rows.SortWalk
import PyProof.DictWalks
import PyProof.Rows.SortRev
import KE.KRevIter
import KE.KIntText
import PyProof.CallStr
import PyProof.StrCalls2
import PyProof.Rows.StrJoin2
import PyProof.StrWalks
import PyProof.Rows.Range3
import PyProof.Rows.MatchSeqLen
import PyProof.Rows.SetFrom
import PyProof.SetRoads
import PyProof.TupleKey
import PyProof.IsRules
import PySem.Challenge.RW_frameland_k36_book_any_row
set_option Elab.async false
set_option linter.all false
set_option genSizeOf false
set_option bootstrap.genMatcherCode false
set_option maxRecDepth 100000
local macro_rules | `(tactic| omega) => `(tactic| first | decide | lia | omega (config := {}))
namespace L2
open PySem PySem.Spec PyProof.Rows
noncomputable abbrev Key:=Sum Int Str
noncomputable def keyIs:Key→Value→Bool
 |.inl k,v=>Value.isInt k v
 |.inr x,v=>Value.isStrOf x v
noncomputable def keyH (w:World):Key→Int
 |.inl k=>hashInt k
 |.inr x=>hashStr w x
theorem aa1:∀{k:Key} {v:Value},keyIs k v=true→(∃i t,k=Sum.inl i∧v=Value.int i t)∨(∃x t,k=Sum.inr x∧v=Value.str x t)
 |.inl i,v,h=>by
  obtain⟨t,e⟩:=Value.isInt_shape (k:=i) (v:=v) h
  exact .inl ⟨i,t,rfl,e⟩
 |.inr x,v,h=>by
  obtain⟨t,e⟩:=Value.isStrOf_shape (x:=x) (v:=v) h
  exact .inr ⟨x,t,rfl,e⟩
theorem ahk (i:Int) (t:Tok):keyIs (.inl i) (.int i t)=true:=by simp[keyIs,Value.isInt]
theorem ahl (x:Str) (t:Tok):keyIs (.inr x) (.str x t)=true:=by simp[keyIs,Value.isStrOf]
theorem key_ll (a b:Int):decide ((Sum.inl a:Key)=Sum.inl b)=(a == b):=by
 by_cases e:a=b
 ·subst e;simp
 ·have h:¬(Sum.inl a:Key)=Sum.inl b:=fun q=>e (Sum.inl.inj q)
  rw[decide_eq_false h]
  exact (beq_eq_false_iff_ne.mpr e).symm
theorem key_rr (a b:Str):decide ((Sum.inr a:Key)=Sum.inr b)=decide (a=b):=by
 by_cases e:a=b
 ·subst e;simp
 ·have h:¬(Sum.inr a:Key)=Sum.inr b:=fun q=>e (Sum.inr.inj q)
  rw[decide_eq_false h,decide_eq_false e]
theorem key_lr (a:Int) (b:Str):decide ((Sum.inl a:Key)=Sum.inr b)=false:=decide_eq_false (fun q=>nomatch q)
theorem key_rl (a:Str) (b:Int):decide ((Sum.inr a:Key)=Sum.inl b)=false:=decide_eq_false (fun q=>nomatch q)
noncomputable def mixKind (prog:Program) (w:World):PySem.KeyKind prog w Key where
 is:=keyIs
 hash:=keyH w
 inj:=fun v a b ha hb=>by
  rcases aa1 ha with ⟨i,t,rfl,rfl⟩|⟨x,t,rfl,rfl⟩
  ·rcases aa1 hb with ⟨j,u,rfl,e⟩|⟨y,u,rfl,e⟩
   ·injection e with e1 _;rw[e1]
   ·exact nomatch e
  ·rcases aa1 hb with ⟨j,u,rfl,e⟩|⟨y,u,rfl,e⟩
   ·exact nomatch e
   ·injection e with e1 _;rw[e1]
 byValue:=fun k v h=>by
  rcases aa1 h with ⟨i,t,rfl,rfl⟩|⟨x,t,rfl,rfl⟩<;>rfl
 pyHash:=fun hv h=>by
  rcases aa1 hv with ⟨i,t,rfl,rfl⟩|⟨x,t,rfl,rfl⟩
  ·exact wpAny_pyHash_int h
  ·exact wpAny_pyHash_str h
 eqBool:=fun hu hv h=>by
  rcases aa1 hu with ⟨i,t,rfl,rfl⟩|⟨x,t,rfl,rfl⟩
  ·rcases aa1 hv with ⟨j,u,rfl,rfl⟩|⟨y,u,rfl,rfl⟩
   ·rw[key_ll] at h;exact wpAny_eqBool_int h
   ·rw[key_lr] at h;exact SeqAt.EqAt.int_str i t y u _ _ _ _ h
  ·rcases aa1 hv with ⟨j,u,rfl,rfl⟩|⟨y,u,rfl,rfl⟩
   ·rw[key_rl] at h;exact SeqAt.EqAt.str_int x t j u _ _ _ _ h
   ·rw[key_rr] at h;exact wpAny_eqBool_str h
 «strs» :=fun k x t v h=>by
  rcases aa1 h with ⟨i,u,rfl,e⟩|⟨y,u,rfl,e⟩
  ·exact nomatch e
  ·injection e with e1 _
   subst e1
   cases v<;>rfl
theorem afo (prog:Program) (w:World) (i:Int) (t:Tok):(mixKind prog w).is (.inl i) (.int i t)=true:=ahk i t
theorem afp (prog:Program) (w:World) (x:Str) (t:Tok):(mixKind prog w).is (.inr x) (.str x t)=true:=ahl x t
end L2
namespace L2
open PySem PySem.Spec PyProof.Rows
inductive V where
 |non|bl (b:Bool)|int (i:Int)|str (x:Str)|byt (b:Array UInt8)|flt (b:UInt64)|ref (a:Addr)|ty (n:String)
 deriving DecidableEq
noncomputable def RelV:V→Value→Prop
 |.non,u=>u=Value.none
 |.bl b,u=>u=Value.bool b
 |.int i,u=>∃t,u=Value.int i t
 |.str x,u=>∃t,u=Value.str x t
 |.byt b,u=>∃t,u=Value.bytes b t
 |.flt b,u=>∃t,u=Value.float b t
 |.ref a,u=>u=Value.ref a
 |.ty n,u=>u=Value.type n
noncomputable abbrev Vals:List V→List Value→Prop:=Paired RelV
theorem Vals.length {xs:List V} {us:List Value} (r:Vals xs us):xs.length=us.length:=Paired.length r
theorem Vals.get:∀{xs:List V} {us:List Value} {i:Nat} {x:V},Vals xs us→xs[i]?=some x→∃u,us[i]?=some u∧RelV x u
 |_,_,_,_,.nil,e=>by simp at e
 |_,_,0,_,.cons r _,e=>by simp at e;subst e;exact⟨_,rfl,r⟩
 |_,_,i+1,x,.cons _ t,e=>by
  obtain⟨u,h1,h2⟩:=Vals.get (i:=i) (x:=x) t (by simpa using e)
  exact⟨u,by simpa using h1,h2⟩
theorem Vals.set {x:V} {u:Value} (r:RelV x u):∀{xs:List V} {us:List Value} (i:Nat),Vals xs us→Vals (xs.set i x) (us.set i u)
 |_,_,_,.nil=>.nil
 |_,_,0,.cons _ t=>.cons r t
 |_,_,i+1,.cons q t=>.cons q (Vals.set r i t)
theorem Vals.append:∀{xs ys:List V} {us ws:List Value},Vals xs us→Vals ys ws→Vals (xs++ys) (us++ws)
 |_,_,_,_,.nil,s=>s
 |_,_,_,_,.cons r t,s=>.cons r (Vals.append t s)
theorem Vals.take:∀{xs:List V} {us:List Value} (n:Nat),Vals xs us→Vals (xs.take n) (us.take n)
 |_,_,0,_=>.nil
 |_,_,_+1,.nil=>.nil
 |_,_,n+1,.cons r t=>.cons r (Vals.take n t)
theorem Vals.drop:∀{xs:List V} {us:List Value} (n:Nat),Vals xs us→Vals (xs.drop n) (us.drop n)
 |_,_,0,r=>r
 |_,_,_+1,.nil=>.nil
 |_,_,n+1,.cons _ t=>Vals.drop n t
noncomputable def RelO:Option V→Option Value→Prop
 |some v,some u=>RelV v u
 |none,none=>True
 |_,_=>False
noncomputable def KV {κ:Type}:List (κ×V)→List (κ×Value)→Prop:=Paired fun (p:κ×V) (q:κ×Value)=>p.1=q.1∧RelV p.2 q.2
noncomputable def kV:Key→V
 |.inl i=>.int i
 |.inr x=>.str x
inductive HO where
 |lst (xs:List V)
 |tup (xs:List V)
 |dK (kvs:List (Key×V))|dT (kvs:List (List Key×V))
 |set (S:Int→Bool) (n:Nat)
 |ins (C dx:Addr) (fs:List (Str×V))
 |own (x:Addr)
 |xd (fs:List (Str×V))
 |met (f x:Addr)
 |rng (lo hi:Int)
 |frz (o:Obj) (u:HO)
 |tbl (ps:Array Value)
 |ext (φ:Heap→Prop)
noncomputable abbrev Hp:=Addr→Option HO
noncomputable def upd (H:Hp) (a:Addr) (o:HO):Hp:=fun b=>if b=a then some o else H b
theorem aag {H:Hp} {a:Addr} {o:HO}:upd H a o a=some o:=by unfold upd;rw[if_pos rfl]
theorem aaf {H:Hp} {a b:Addr} {o:HO} (h:b≠a):upd H a o b=H b:=by unfold upd;rw[if_neg h]
theorem alh {H:Hp} {a:Addr} {o u:HO}:upd (upd H a o) a u=upd H a u:=by
 funext b;unfold upd;split<;>rfl
theorem ne_of {H:Hp} {a b:Addr} {o u:HO} (h:H a=some o) (h':H b=some u) (d:o≠u):a≠b:=by
 intro e;subst e;rw[h] at h';exact d (Option.some.inj h')
theorem aay {H:Hp} {a b:Addr} {o:HO} (h:H a=some o) (h':H b=none):a≠b:=by
 intro e;subst e;rw[h] at h';cases h'
section
variable (P:Program) (w:World)
noncomputable def ObjOk (H:Hp) (h:Heap) (a:Addr):HO→Prop
 |.lst xs=>xs.length≤sizeLine∧∃(its:List Value) (n:Nat),Vals xs its∧h.get? a=some {cls:=.type "list",data:=.seq its.toArray n}
 |.tup xs=>xs.length≤sizeLine∧∃its:List Value,Vals xs its∧IsTup h a its.toArray
 |.dK kvs=>kvs.length≤sizeLine∧(a == sysModules)=false∧∃vs,KV kvs vs∧h.DictOf (mixKind P w) a vs
 |.dT kvs=>kvs.length≤sizeLine∧(a == sysModules)=false∧∃xs:List (List Key×Addr×Value),
  Paired (fun (p:List Key×V) (q:List Key×Addr×Value)=>p.1=q.1∧H q.2.1=some (.tup (p.1.map kV))∧RelV p.2 q.2.2) kvs xs∧
  ∃o es ep,h.get? a=some o∧o.ExactDict∧o.data=.dict es ep∧es.toList=xs.map (entryOfKey (tupleKind (mixKind P w)))∧(xs.map (·.1)).Nodup
 |.set S n=>h.SetOf (intKind P w) a S n
 |.ins C dx fs=>H dx=some (.own a)∧fs.length≤1000∧dx≠a∧h.get? a=some (PySem.W.instObj C dx)∧
  ∃mA,h.Ns1 dx mA∧(∀f,RelO (fs.lookup f) (mA f))∧PySem.Within mA (fs.map (·.1))
 |.own _=>∃o,h.get? a=some o
 |.xd fs=>∃mA,h.Ns1 a mA∧∀f,RelO (fs.lookup f) (mA f)
 |.rng lo hi=>∃t u v,h.get? a=some {cls:=.type "range",data:=.fields #[.int lo t,.int hi u,.int 1 v]}
 |.frz o u=>h.get? a=some o∧ObjOk H h a u
 |.tbl ps=>h.get? a=some {cls:=.none,data:=.fields ps}
 |.met f x=>h.get? a=some (PySem.W.methodObj (.ref f) (.ref x))
 |.ext φ=>φ h∧(∃o,h.get? a=some o)∧∀h1 h2:Heap,φ h1→(∀o,h1.get? a=some o→h2.get? a=some o)→φ h2
noncomputable def HOk (H:Hp) (h:Heap):Prop:=∀a o,H a=some o→ObjOk P w H h a o
end
section
variable {P:Program} {w:World} {H H':Hp} {h h':Heap} {a:Addr} {o:HO}
theorem ObjOk.lt (x:ObjOk P w H h a o):a < h.objs.size:=by
 cases o with
 |lst xs=>obtain⟨_,_,_,_,e⟩:=x;exact Heap.lt_size e
 |tup xs=>obtain⟨_,_,_,p⟩:=x;exact p.lt
 |dK kvs=>obtain⟨_,_,_,_,o,_,_,e,_⟩:=x;exact Heap.lt_size e
 |dT kvs=>obtain⟨_,_,_,_,o,_,_,e,_⟩:=x;exact Heap.lt_size e
 |set S n=>obtain⟨o,_,_,_,e,_⟩:=x;exact Heap.lt_size e
 |ins C dx fs=>obtain⟨_,_,_,e,_⟩:=x;exact Heap.lt_size e
 |own y=>obtain⟨_,e⟩:=x;exact Heap.lt_size e
 |xd fs=>obtain⟨_,⟨_,_,_,e,_⟩,_⟩:=x;exact Heap.lt_size e
 |rng lo hi=>obtain⟨_,_,_,e⟩:=x;exact Heap.lt_size e
 |frz ob u=>obtain⟨e,_⟩:=x;exact Heap.lt_size e
 |tbl ps=>exact Heap.lt_size (show h.get? a=some _ from x)
 |met f y=>exact Heap.lt_size (show h.get? a=some _ from x)
 |ext φ=>obtain⟨_,⟨_,e⟩,_⟩:=x;exact Heap.lt_size e
theorem Paired.mapP {α β:Type} {F G:α→β→Prop}:∀{l₁:List α} {l₂:List β},Paired F l₁ l₂→(∀a b,F a b→G a b)→Paired G l₁ l₂
 |_,_,.nil,_=>.nil
 |_,_,.cons r t,f=>.cons (f _ _ r) (Paired.mapP t f)
theorem ObjOk.stay (x:ObjOk P w H h a o) (k:∀b u,(b=a∨H b=some (.own a))→h.get? b=some u→h'.get? b=some u)
  (ho:∀b,H b=some (.own a)→H' b=some (.own a)) (ht:∀b xs,H b=some (.tup xs)→H' b=some (.tup xs)):ObjOk P w H' h' a o:=by
 induction o with
 |lst xs=>obtain⟨z,its,n,r,e⟩:=x;exact⟨z,its,n,r,k _ _ (.inl rfl) e⟩
 |tup xs=>obtain⟨z,its,r,ob,e,c⟩:=x;exact⟨z,its,r,ob,k _ _ (.inl rfl) e,c⟩
 |dK kvs=>obtain⟨z,y,vs,r,ob,es,ep,e,c⟩:=x;exact⟨z,y,vs,r,ob,es,ep,k _ _ (.inl rfl) e,c⟩
 |dT kvs=>
  obtain⟨z,y,xs,r,ob,es,ep,e,c⟩:=x
  exact⟨z,y,xs,Paired.mapP r fun p q z=>⟨z.1,ht _ _ z.2.1,z.2.2⟩,ob,es,ep,k _ _ (.inl rfl) e,c⟩
 |set S n=>obtain⟨ob,es,ep,t,e,c⟩:=x;exact⟨ob,es,ep,t,k _ _ (.inl rfl) e,c⟩
 |ins C dx fs=>
  obtain⟨d,z,ne,e,mA,⟨od,es,ep,e2,c⟩,r⟩:=x
  exact⟨ho _ d,z,ne,k _ _ (.inl rfl) e,mA,⟨od,es,ep,k _ _ (.inr d) e2,c⟩,r⟩
 |own y=>obtain⟨ob,e⟩:=x;exact⟨ob,k _ _ (.inl rfl) e⟩
 |xd fs=>obtain⟨mA,⟨od,es,ep,e,c⟩,r⟩:=x;exact⟨mA,⟨od,es,ep,k _ _ (.inl rfl) e,c⟩,r⟩
 |rng lo hi=>obtain⟨t,u,v,e⟩:=x;exact⟨t,u,v,k _ _ (.inl rfl) e⟩
 |frz ob u ih=>obtain⟨e,q⟩:=x;exact⟨k _ _ (.inl rfl) e,ih q⟩
 |tbl ps=>
  have e:h.get? a=some {cls:=.none,data:=.fields ps}:=x
  show h'.get? a=some {cls:=.none,data:=.fields ps}
  exact k a _ (.inl rfl) e
 |met f y=>
  have e:h.get? a=some (PySem.W.methodObj (.ref f) (.ref y)):=x
  show h'.get? a=some (PySem.W.methodObj (.ref f) (.ref y))
  exact k a _ (.inl rfl) e
 |ext φ=>obtain⟨p,⟨o,e⟩,st⟩:=x;exact⟨st _ _ p fun o q=>k _ _ (.inl rfl) q,⟨o,k _ _ (.inl rfl) e⟩,st⟩
theorem HOk.lt (x:HOk P w H h) (e:H a=some o):a < h.objs.size:=(x a o e).lt
theorem HOk.fresh (x:HOk P w H h) (e:h.objs.size≤a):H a=none:=by
 cases q:H a with
 |none=>rfl
 |some u=>exact absurd (Nat.lt_of_lt_of_le (x.lt q) e) (Nat.lt_irrefl _)
theorem HOk.kept (x:HOk P w H h) (k:∀b u,h.get? b=some u→h'.get? b=some u):HOk P w H h':=fun a o e=>
 (x a o e).stay (fun b u _ q=>k b u q) (fun _ q=>q) fun _ _ q=>q
theorem HOk.laid (x:HOk P w H h) (k:∀b u,h.get? b=some u→h'.get? b=some u) (hp:h.objs.size≤a) (new:ObjOk P w (upd H a o) h' a o):HOk P w (upd H a o) h':=fun b u e=>by
 have hn:=x.fresh hp
 by_cases hb:b=a
 ·subst hb;rw[aag] at e;cases e;exact new
 ·rw[aaf hb] at e
  exact (x b u e).stay (fun c v _ q=>k c v q) (fun c q=>by rw[aaf (aay q hn)];exact q) fun c xs q=>by rw[aaf (aay q hn)];exact q
end
noncomputable def Rd (H:Hp) (a:Addr) (u:HO):Prop:=H a=some u∨∃o,H a=some (.frz o u)
theorem Rd.of {H:Hp} {a:Addr} {u:HO} (h:H a=some u):Rd H a u:=.inl h
theorem Rd.ok {P:Program} {w:World} {H:Hp} {h:Heap} {a:Addr} {u:HO} (r:Rd H a u) (x:HOk P w H h):ObjOk P w H h a u:=by
 rcases r with r|⟨o,r⟩
 ·exact x a u r
 ·obtain⟨_,q⟩:=x a _ r
  exact q
noncomputable def Mut:Option HO→Prop
 |some (.lst _)=>True
 |some (.dK _)=>True
 |some (.dT _)=>True
 |some (.set _ _)=>True
 |some (.ins _ _ _)=>True
 |some (.ext _)=>True
 |_=>False
section
variable {P:Program} {w:World} {H:Hp} {h h':Heap} {x e:Addr} {o':HO}
theorem HOk.write (ok:HOk P w H h) (mu:Mut (H x)) (he:e=x∨H e=some (.own x)) (k:∀b u,b≠e→h.get? b=some u→h'.get? b=some u) (heo:∃u,h'.get? e=some u)
  (new:ObjOk P w (upd H x o') h' x o'):HOk P w (upd H x o') h':=fun b u q=>by
 have nown:∀c y,H c=some (.own y)→c≠x:=fun c y r z=>by subst z;rw[r] at mu;exact mu
 have ntup:∀c xs,H c=some (.tup xs)→c≠x:=fun c xs r z=>by subst z;rw[r] at mu;exact mu
 by_cases hb:b=x
 ·subst hb;rw[aag] at q;cases q;exact new
 ·rw[aaf hb] at q
  by_cases hbe:b=e
  ·have q':H b=some (.own x):=by
    rcases he with z|z
    ·exact absurd (hbe.trans z) hb
    ·rw[hbe];exact z
   rw[q] at q';cases q'
   obtain⟨v,hv⟩:=heo
   exact⟨v,by rw[hbe];exact hv⟩
  ·refine (ok b u q).stay (fun c v hc r=>k c v ?_ r) (fun c r=>by rw[aaf (nown c b r)];exact r) fun c xs r=>by rw[aaf (ntup c xs r)];exact r
   rcases hc with rfl|hc
   ·exact hbe
   ·rintro rfl
    rcases he with z|z
    ·exact nown c b hc z
    ·rw[hc] at z;cases z;exact hb rfl
end
structure Un (fs ex:List Addr) (H H':Hp) (h h':Heap):Prop where
 keep:∀b o,h.get? b=some o→H b=none→b∉fs→b∉ex→h'.get? b=some o
 slot:∀b o,h.get? b=some o→H b=none→b∈fs→b∉ex→∃sl,h'.get? b=some {o with slots:=sl}
 free:∀b o,h.get? b=some o→H b=none→b∉ex→H' b=none
 there:∀b o,h.get? b=some o→b∉ex→∃o',h'.get? b=some o'
 tups:∀b xs,H b=some (.tup xs)→H' b=some (.tup xs)
 frzs:∀b o u,H b=some (.frz o u)→H' b=some (.frz o u)
 tbls:∀b ps,H b=some (.tbl ps)→∃more,H' b=some (.tbl (ps++more))
section
variable {fs fs' ex ex':List Addr} {H H1 H2:Hp} {h h1 h2 h':Heap} {a x e:Addr} {o:HO}
theorem Un.any (u:Un fs ex H H1 h h1) {b:Addr} {ob:Obj} (q:h.get? b=some ob) (n:H b=none) (hx:b∉ex):∃sl,h1.get? b=some {ob with slots:=sl}:=by
 by_cases hb:b∈fs
 ·exact u.slot b ob q n hb hx
 ·exact⟨ob.slots,u.keep b ob q n hb hx⟩
theorem Un.trans (a:Un fs ex H H1 h h1) (b:Un fs ex H1 H2 h1 h2):Un fs ex H H2 h h2 where
 keep:=fun c ob q n hc hx=>b.keep c ob (a.keep c ob q n hc hx) (a.free c ob q n hx) hc hx
 slot:=fun c ob q n hc hx=>by
  obtain⟨sl,e1⟩:=a.slot c ob q n hc hx
  obtain⟨sl',e2⟩:=b.slot c _ e1 (a.free c ob q n hx) hc hx
  exact⟨sl',e2⟩
 free:=fun c ob q n hx=>by
  obtain⟨o',e1⟩:=a.there c ob q hx
  exact b.free c o' e1 (a.free c ob q n hx) hx
 there:=fun c ob q hx=>by
  obtain⟨o',e1⟩:=a.there c ob q hx
  exact b.there c o' e1 hx
 tups:=fun c xs q=>b.tups c xs (a.tups c xs q)
 frzs:=fun c ob xs q=>b.frzs c ob xs (a.frzs c ob xs q)
 tbls:=fun c ps q=>by
  obtain⟨m1,e1⟩:=a.tbls c ps q
  obtain⟨m2,e2⟩:=b.tbls c _ e1
  exact⟨m1++m2,by rw[e2,Array.append_assoc]⟩
theorem Un.kept (k:∀b u,h.get? b=some u→h'.get? b=some u):Un fs ex H H h h':=
 ⟨fun b ob q _ _ _=>k b ob q,fun b ob q _ _ _=>⟨ob.slots,k b ob q⟩,fun _ _ _ n _=>n,fun b ob q _=>⟨ob,k b ob q⟩,fun _ _ q=>q,fun _ _ _ q=>q,fun _ ps q=>⟨#[],by rw[q];simp⟩⟩
theorem Un.refl:Un fs ex H H h h:=Un.kept fun _ _ q=>q
theorem Un.laid (k:∀b u,h.get? b=some u→h'.get? b=some u) (hp:h.objs.size≤a) (hn:H a=none):Un fs ex H (upd H a o) h h' where
 keep:=fun b u q _ _ _=>k b u q
 slot:=fun b u q _ _ _=>⟨u.slots,k b u q⟩
 free:=fun b u q n _=>by rw[aaf (Nat.ne_of_lt (Nat.lt_of_lt_of_le (Heap.lt_size q) hp))];exact n
 there:=fun b u q _=>⟨u,k b u q⟩
 tups:=fun b xs q=>by rw[aaf (aay q hn)];exact q
 frzs:=fun b u xs q=>by rw[aaf (aay q hn)];exact q
 tbls:=fun b ps q=>⟨#[],by rw[aaf (aay q hn),q];simp⟩
theorem Un.write (mu:Mut (H x)) (he:e=x∨H e=some (.own x)) (k:∀b u,b≠e→h.get? b=some u→h'.get? b=some u) (heo:∃u,h'.get? e=some u):Un fs ex H (upd H x o) h h':=by
 have hx:∀b,H b=none→b≠x:=fun b n z=>by subst z;rw[n] at mu;exact mu
 have hb:∀b,H b=none→b≠e:=fun b n z=>by
  subst z
  rcases he with r|r
  ·exact hx b n r
  ·rw[n] at r;cases r
 have hm:∀b u,H b=some u→¬Mut (some u)→b≠x:=fun b u q nm z=>by subst z;rw[q] at mu;exact nm mu
 refine⟨fun b u q n _ _=>k b u (hb b n) q,fun b u q n _ _=>⟨u.slots,k b u (hb b n) q⟩,fun b u q n _=>by rw[aaf (hx b n)];exact n,fun b u q _=>?_,
  fun b xs q=>by rw[aaf (hm b _ q fun z=>z)];exact q,fun b u xs q=>by rw[aaf (hm b _ q fun z=>z)];exact q,fun b ps q=>⟨#[],by rw[aaf (hm b _ q fun z=>z),q];simp⟩⟩
 by_cases hbe:b=e
 ·subst hbe;exact heo
 ·exact⟨u,k b u hbe q⟩
end
noncomputable def trk (h:Heap) (H:Hp):List Addr:=(List.range h.objs.size).filter fun a=>(H a).isSome
noncomputable def hidT (h:Heap) (H:Hp):Heap:=PySem.W.hideAll h (trk h H)
theorem ahm (h:Heap) (H:Hp):(hidT h H).objs.size=h.objs.size:=PySem.W.hideAll_size _ _
theorem ajq {h:Heap} {H:Hp} {b:Addr} {o:Obj} (e:h.get? b=some o) (n:H b=none):(hidT h H).get? b=some o:=
 PySem.W.hideAll_get _ e fun hm=>by
  have q:(H b).isSome=true:=(List.mem_filter.mp hm).2
  rw[n] at q;simp at q
theorem ali {h:Heap} {H:Hp} {b:Addr} {o:Obj} (e:(hidT h H).get? b=some o):h.get? b=some o∧H b=none:=by
 have e':h.get? b=some o:=PySem.W.of_hideAll (trk h H) e
 refine⟨e',?_⟩
 cases q:H b with
 |none=>rfl
 |some x=>
  have hm:b∈trk h H:=List.mem_filter.mpr ⟨List.mem_range.mpr (Heap.lt_size e'),by simp[q]⟩
  have z:(hidT h H).get? b=none:=PySem.W.hideAll_none (trk h H) hm
  rw[z] at e;cases e
noncomputable def allNews (g h:Heap) (L:Addr):List (Addr×Obj):=(List.range h.objs.size).filterMap fun a=>if a=L∨(g.get? a).isSome=true then none else (h.get? a).map fun o=>(a,o)
noncomputable def rest (g h:Heap) (L d:Addr):List (Addr×Obj):=(allNews g h L).filter fun p=>decide (p.1≠d)
end L2
namespace L2
open PySem PySem.Spec PyProof.Rows
structure Mod (K:PySem.W.Frag) (mg:Str→Option Value) (base:Heap):Prop where
 kin:K.In base
 glob:base.Ns mainGlobals mg
 blt:∃mb,base.Ns builtinsNs mb∧∀x:Str,x≠"__name__"→mb x=bootBuiltins x
 nolimit:base.NoLimit
structure Cx where
 prog:Program
 w:World
 K:PySem.W.Frag
 mg:Str→Option Value
 base:Heap
 A:Around
 N:List Str
 s₀:Shared
 H₀:Hp
 env:Env
 outer:List Env
 stack:List Env
 ex:List Addr
 fn:Str→Bool
 calm:Bool
 pn:List (Addr×Obj)
 xe:Value→Shared→Prop
noncomputable def frs (l:List Env):List Addr:=l.filterMap (·.frame)
noncomputable abbrev Cx.fs (X:Cx):List Addr:=frs X.outer
noncomputable def Vis (sc:Scope) (x:Str):Prop:=sc.names.lookup x=some .local∨sc.names.lookup x=some .cell∨sc.names.lookup x=some .free
noncomputable def Loc (sc:Scope) (x:Str):Prop:=sc.names.lookup x=some .local∨sc.names.lookup x=some .cell
noncomputable def Look (env:Env) (h:Heap) (m:Str→Option Value) (x:Str) (u:Value):Prop:=
 (env.kindOf x=some .local∧m x=some u)∨((env.kindOf x=some .cell∨env.kindOf x=some .free)∧∃c,env.cells.lookup x=some c∧h.IsCell c (some u))
structure Cx.Ok (X:Cx):Prop where
 mod:Mod X.K X.mg X.base
 kind:X.env.scope.kind=.function
 glob:X.env.globals=mainGlobals
 blt:X.env.builtins=builtinsNs
 above:X.s₀.heap.objs.size≤X.env.locals
 inj:∀x y c,X.env.cells.lookup x=some c→X.env.cells.lookup y=some c→x=y
 has:∀x,(X.env.kindOf x=some .cell∨X.env.kindOf x=some .free)→∃c,X.env.cells.lookup x=some c
 cab:∀x c,X.fn x=true→X.env.cells.lookup x=some c→X.s₀.heap.objs.size≤c
 hd:X.calm=true→X.A.handled=none
 frames:X.A.frames=some X.stack
 stk:X.stack=X.outer∨(X.stack=X.env::X.outer∧X.env.frame=some X.env.locals)
 exf:∀b∈X.ex,b≠X.env.locals∧∀x c,X.env.cells.lookup x=some c→c≠b
 bs:∀b o,X.base.get? b=some o→X.s₀.heap.get? b=some o∧X.H₀ b=none
 bsz:X.base.objs.size≤X.s₀.heap.objs.size
 noex:∀b o,X.base.get? b=some o→b∉X.ex
 exfs:∀b∈X.ex,b∉X.fs
 funs:X.s₀.heap.FunFrames X.base X.outer
 frf:∀b∈X.fs,X.H₀ b=none
structure Inv (X:Cx) (pins:List (Addr×Obj)) (σ:List (Option V)) (H:Hp) (s:Shared):Prop where
 ok:X.Ok
 os:s.os=X.s₀.os
 bare:AllBare s.gens
 base:Un X.fs X.ex X.H₀ H X.s₀.heap s.heap
 loc:∃m,s.heap.Ns X.env.locals m∧∀(i:Nat) (x:Str) (v:V),X.N[i]?=some x→σ[i]?=some (some v)→Vis X.env.scope x→∃u,RelV v u∧Look X.env s.heap m x u
 cell:∀x c,X.env.cells.lookup x=some c→∃v,s.heap.IsCell c v
 free:H X.env.locals=none
 freeC:∀x c,X.env.cells.lookup x=some c→H c=none
 pin:∀p∈X.pn++pins,s.heap.get? p.1=some p.2∧H p.1=none∧p.1≠X.env.locals∧p.1∉X.fs∧∀v,p.2.data≠.cell v
 hok:HOk X.prog X.w H s.heap
 len:σ.length=X.N.length
section
variable {X:Cx} {pins:List (Addr×Obj)} {σ:List (Option V)} {H H':Hp} {s:Shared} {h':Heap}
theorem Cx.Ok.nofr (ok:X.Ok) {b:Addr} {o:Obj} (e:X.base.get? b=some o):b∉X.fs:=fun hb=>by
 have:=(ok.funs.mem hb).1
 rw[e] at this;cases this
theorem Inv.bs (I:Inv X pins σ H s):∀b o,X.base.get? b=some o→s.heap.get? b=some o∧H b=none:=fun b o e=>
 ⟨I.base.keep b o (I.ok.bs b o e).1 (I.ok.bs b o e).2 (I.ok.nofr e) (I.ok.noex b o e),I.base.free b o (I.ok.bs b o e).1 (I.ok.bs b o e).2 (I.ok.noex b o e)⟩
theorem Inv.bk (I:Inv X pins σ H s):∀b o,X.base.get? b=some o→s.heap.get? b=some o:=fun b o e=>(I.bs b o e).1
theorem Inv.mod (I:Inv X pins σ H s):Mod X.K X.mg X.base:=I.ok.mod
theorem Inv.kIn (I:Inv X pins σ H s):X.K.In s.heap:=I.ok.mod.kin.keeps I.bk
theorem Inv.lt (I:Inv X pins σ H s):X.env.locals < s.heap.objs.size:=let ⟨_,hn,_⟩:=I.loc;hn.lt
theorem Inv.sz (I:Inv X pins σ H s):X.s₀.heap.objs.size≤s.heap.objs.size:=Nat.le_trans I.ok.above (Nat.le_of_lt I.lt)
theorem Inv.nofs (I:Inv X pins σ H s) {a:Addr} (h:s.heap.objs.size≤a):a∉X.fs:=fun hb=>by
 obtain⟨_,o,ho,_⟩:=I.ok.funs.mem hb
 exact absurd (Nat.lt_of_lt_of_le (Heap.lt_size ho) (Nat.le_trans I.sz h)) (Nat.lt_irrefl _)
theorem Inv.cne (I:Inv X pins σ H s):∀x c,X.env.cells.lookup x=some c→c≠X.env.locals:=fun x c e z=>by
 obtain⟨v,o,ho,hd⟩:=I.cell x c e
 obtain⟨m,⟨o',es,ep,ho',hd',_⟩,_⟩:=I.loc
 rw[z,ho'] at ho;cases ho;rw[hd'] at hd;cases hd
theorem Inv.funs (I:Inv X pins σ H s):s.heap.FunFrames X.base X.outer:=by
 have all:∀(l:List Env),(∀b∈frs l,b∈X.fs)→X.s₀.heap.FunFrames X.base l→s.heap.FunFrames X.base l:=by
  intro l
  induction l with
  |nil=>intro _ _;trivial
  |cons env r ih=>
   intro hs hl
   obtain⟨hk,⟨L,o,hf,hn,ho,hd⟩,hr⟩:=hl
   have hL:L∈X.fs:=hs L (by unfold frs;rw[List.filterMap_cons,hf];exact List.mem_cons_self)
   obtain⟨sl,e⟩:=I.base.slot L o ho (I.ok.frf L hL) hL fun z=>I.ok.exfs L z hL
   exact⟨hk,⟨L,_,hf,hn,e,hd⟩,ih (fun b hb=>hs b (by unfold frs;rw[List.filterMap_cons,hf];exact List.mem_cons_of_mem _ hb)) hr⟩
 exact all X.outer (fun _ hb=>hb) I.ok.funs
theorem Inv.stack (I:Inv X pins σ H s):s.heap.FunFrames X.base X.stack:=by
 rcases I.ok.stk with e|⟨e,hf⟩
 ·rw[e];exact I.funs
 ·rw[e]
  obtain⟨m,hn,_⟩:=I.loc
  refine .cons (by rw[I.ok.kind];decide) hf hn ?_ I.funs
  exact Heap.get?_none_of_le (Nat.le_trans I.ok.bsz I.ok.above)
theorem Inv.stkSub (I:Inv X pins σ H s):∀b∈frs X.stack,b∈X.env.locals::X.fs:=fun b hb=>by
 rcases I.ok.stk with e|⟨e,hf⟩
 ·rw[e] at hb;exact List.mem_cons_of_mem _ hb
 ·rw[e] at hb
  unfold frs at hb
  rw[List.filterMap_cons,hf] at hb
  exact hb
theorem Inv.stkFree (I:Inv X pins σ H s):∀b∈frs X.stack,H b=none:=fun b hb=>by
 rcases List.mem_cons.mp (I.stkSub b hb) with e|hb
 ·rw[e];exact I.free
 ·obtain⟨_,o,ho,_⟩:=I.ok.funs.mem hb
  exact I.base.free b o ho (I.ok.frf b hb) fun z=>I.ok.exfs b z hb
theorem Inv.step {g':Array GenState} {t':Nat} {d':Drawn} {ch:List Addr} (I:Inv X pins σ H s)
  (hch:∀b∈ch,(b∈X.ex∨X.s₀.heap.objs.size≤b)∧b≠X.env.locals∧(∀x c,X.env.cells.lookup x=some c→c≠b)∧∀p∈X.pn++pins,p.1≠b)
  (keep:∀b o,b≠X.env.locals→b∉X.fs→b∉ch→s.heap.get? b=some o→H b=none→h'.get? b=some o)
  (slot:∀b o,b≠X.env.locals→b∈X.fs→b∉ch→s.heap.get? b=some o→H b=none→∃sl,h'.get? b=some {o with slots:=sl}) (free:∀b o,b∉ch→s.heap.get? b=some o→H b=none→H' b=none)
  (there:∀b o,b∉ch→s.heap.get? b=some o→∃o',h'.get? b=some o')
  (tups:∀b xs,H b=some (.tup xs)→H' b=some (.tup xs)) (frzs:∀b o u,H b=some (.frz o u)→H' b=some (.frz o u)) (tbls:∀b ps,H b=some (.tbl ps)→∃more,H' b=some (.tbl (ps++more)))
  (ns:∀m,s.heap.Ns X.env.locals m→h'.Ns X.env.locals m) (hok:HOk X.prog X.w H' h') (hg:AllBare g'):
  Inv X pins σ H' {s with heap:=h',gens:=g',drawn:=d',toks:=t'}:=by
 have neL:∀b o,X.s₀.heap.get? b=some o→b≠X.env.locals:=fun b o e=>Nat.ne_of_lt (Nat.lt_of_lt_of_le (Heap.lt_size e) I.ok.above)
 have neC:∀b o,X.s₀.heap.get? b=some o→b∉X.ex→b∉ch:=fun b o e hx hb=>by
  rcases (hch b hb).1 with z|z
  ·exact hx z
  ·exact absurd (Nat.lt_of_lt_of_le (Heap.lt_size e) z) (Nat.lt_irrefl _)
 have cellK:∀x c,X.env.cells.lookup x=some c→∀v,s.heap.IsCell c v→h'.IsCell c v:=fun x c e v ⟨o,ho,hd⟩=>by
  have nch:c∉ch:=fun z=>(hch c z).2.2.1 x c e rfl
  by_cases hc:c∈X.fs
  ·obtain⟨sl,q⟩:=slot c o (I.cne x c e) hc nch ho (I.freeC x c e)
   exact⟨_,q,hd⟩
  ·exact⟨o,keep c o (I.cne x c e) hc nch ho (I.freeC x c e),hd⟩
 refine⟨I.ok,I.os,hg,⟨fun b o e n hb hx=>?_,fun b o e n hb hx=>?_,fun b o e n hx=>?_,fun b o e hx=>?_,fun b xs e=>tups b xs (I.base.tups b xs e),fun b o xs e=>frzs b o xs (I.base.frzs b o xs e),fun b ps e=>?_⟩,?_,fun x c e=>?_,?_,fun x c e=>?_,fun p hp=>?_,hok,I.len⟩
 ·exact keep b o (neL b o e) hb (neC b o e hx) (I.base.keep b o e n hb hx) (I.base.free b o e n hx)
 ·obtain⟨sl,e1⟩:=I.base.slot b o e n hb hx
  obtain⟨sl',e2⟩:=slot b _ (neL b o e) hb (neC b o e hx) e1 (I.base.free b o e n hx)
  exact⟨sl',e2⟩
 ·obtain⟨o',e1⟩:=I.base.there b o e hx
  exact free b o' (neC b o e hx) e1 (I.base.free b o e n hx)
 ·obtain⟨o',e1⟩:=I.base.there b o e hx
  exact there b o' (neC b o e hx) e1
 ·obtain⟨m1,e1⟩:=I.base.tbls b ps e
  obtain⟨m2,e2⟩:=tbls b _ e1
  exact⟨m1++m2,by rw[e2,Array.append_assoc]⟩
 ·obtain⟨m,hn,hl⟩:=I.loc
  refine⟨m,ns m hn,fun i x v e1 e2 e3=>?_⟩
  obtain⟨u,r,l⟩:=hl i x v e1 e2 e3
  refine⟨u,r,?_⟩
  rcases l with l|⟨k,c,e,z⟩
  ·exact .inl l
  ·exact .inr ⟨k,c,e,cellK x c e _ z⟩
 ·obtain⟨v,z⟩:=I.cell x c e
  exact⟨v,cellK x c e v z⟩
 ·obtain⟨m,⟨o,_,_,ho,_⟩,_⟩:=I.loc
  exact free _ o (fun z=>(hch _ z).2.1 rfl) ho I.free
 ·obtain⟨v,o,ho,hd⟩:=I.cell x c e
  exact free c o (fun z=>(hch c z).2.2.1 x c e rfl) ho (I.freeC x c e)
 ·obtain⟨e,n,ne,nf,d⟩:=I.pin p hp
  have nch:p.1∉ch:=fun z=>(hch p.1 z).2.2.2 p hp rfl
  exact⟨keep p.1 p.2 ne nf nch e n,free p.1 p.2 nch e n,ne,nf,d⟩
theorem Inv.un {t':Nat} (I:Inv X pins σ H s) (u:Un X.fs [] H H' s.heap h') (hok:HOk X.prog X.w H' h'):Inv X pins σ H' {s with heap:=h',toks:=t'}:=by
 obtain⟨m,⟨o,es,ep,ho,r⟩,_⟩:=id I.loc
 obtain⟨sl,hL⟩:=u.any ho I.free (by simp)
 exact I.step (g':=s.gens) (d':=s.drawn) (ch:=[]) (fun _ z=>nomatch z) (fun b o _ hb _ e n=>u.keep b o e n hb (by simp)) (fun b o _ hb _ e n=>u.slot b o e n hb (by simp)) (fun b o _ e n=>u.free b o e n (by simp)) (fun b o _ e=>u.there b o e (by simp)) u.tups u.frzs u.tbls (fun m' hm=>by
  obtain⟨o',es',ep',ho',r'⟩:=hm
  rw[ho] at ho';cases ho'
  exact⟨_,es',ep',hL,r'⟩) hok I.bare
theorem Inv.call {g':Array GenState} {t':Nat} {d':Drawn} {ch:List Addr} (I:Inv X pins σ H s) (u:Un (frs X.stack) ch H H' s.heap h') (hok:HOk X.prog X.w H' h') (hg:AllBare g')
  (hch:∀b∈ch,(b∈X.ex∨X.s₀.heap.objs.size≤b)∧b≠X.env.locals∧(∀x c,X.env.cells.lookup x=some c→c≠b)∧∀p∈X.pn++pins,p.1≠b):
  Inv X pins σ H' {s with heap:=h',gens:=g',drawn:=d',toks:=t'}:=by
 obtain⟨m,⟨o,es,ep,ho,r⟩,_⟩:=id I.loc
 obtain⟨sl,hL⟩:=u.any ho I.free fun z=>(hch _ z).2.1 rfl
 exact I.step (ch:=ch) hch (fun b o hL hb hc e n=>u.keep b o e n (fun z=>(List.mem_cons.mp (I.stkSub b z)).elim hL hb) hc) (fun b o _ _ hc e n=>u.any e n hc) (fun b o hc e n=>u.free b o e n hc) (fun b o hc e=>u.there b o e hc) u.tups u.frzs u.tbls (fun m' hm=>by
  obtain⟨o',es',ep',ho',r'⟩:=hm
  rw[ho] at ho';cases ho'
  exact⟨_,es',ep',hL,r'⟩) hok hg
theorem Inv.turned {t':Nat} {it:Addr} (I:Inv X pins σ H s) (k:∀b o,b≠it→s.heap.get? b=some o→h'.get? b=some o) (hn:H it=none) (hL:it≠X.env.locals)
  (h1:it∈X.ex∨X.s₀.heap.objs.size≤it) (h2:∀x c,X.env.cells.lookup x=some c→c≠it) (h3:∀p∈X.pn++pins,p.1≠it):Inv X pins σ H {s with heap:=h',toks:=t'}:=by
 have nit:∀b u,H b=some u→b≠it:=fun b u e z=>by rw[z,hn] at e;cases e
 refine I.step (g':=s.gens) (d':=s.drawn) (ch:=[it]) (fun b hb=>?_) (fun b o _ _ hc e _=>k b o (fun z=>hc (by simp[z])) e) (fun b o _ _ hc e _=>⟨o.slots,k b o (fun z=>hc (by simp[z])) e⟩) (fun _ _ _ _ n=>n)
  (fun b o hc e=>⟨o,k b o (fun z=>hc (by simp[z])) e⟩) (fun _ _ e=>e) (fun _ _ _ e=>e) (fun b ps e=>⟨#[],by rw[e];simp⟩) (fun m hm=>?_) (fun b u e=>?_) I.bare
 ·have e:b=it:=by simpa using hb
  subst e
  exact⟨h1,hL,h2,h3⟩
 ·obtain⟨o,es,ep,ho,r⟩:=hm
  exact⟨o,es,ep,k _ o (Ne.symm hL) ho,r⟩
 ·refine (I.hok b u e).stay (fun c v hc q=>k c v ?_ q) (fun _ q=>q) fun _ _ q=>q
  rcases hc with z|z
  ·rw[z];exact nit b u e
  ·exact nit c _ z
theorem Inv.tok (I:Inv X pins σ H s) (t:Nat):Inv X pins σ H {s with toks:=t}:=I.un (h':=s.heap) (t':=t) Un.refl I.hok
theorem Inv.kept {t':Nat} (I:Inv X pins σ H s) (k:∀b u,s.heap.get? b=some u→h'.get? b=some u):Inv X pins σ H {s with heap:=h',toks:=t'}:=I.un (Un.kept k) (I.hok.kept k)
theorem Inv.laid {a:Addr} {o:HO} {t':Nat} (I:Inv X pins σ H s) (k:∀b u,s.heap.get? b=some u→h'.get? b=some u) (hp:s.heap.objs.size≤a) (new:ObjOk X.prog X.w (upd H a o) h' a o):
 Inv X pins σ (upd H a o) {s with heap:=h',toks:=t'}:=I.un (Un.laid k hp (I.hok.fresh hp)) (I.hok.laid k hp new)
theorem Inv.write {x e:Addr} {o:HO} {t':Nat} (I:Inv X pins σ H s) (mu:Mut (H x)) (he:e=x∨H e=some (.own x)) (k:∀b u,b≠e→s.heap.get? b=some u→h'.get? b=some u) (heo:∃u,h'.get? e=some u)
 (new:ObjOk X.prog X.w (upd H x o) h' x o):Inv X pins σ (upd H x o) {s with heap:=h',toks:=t'}:=I.un (Un.write mu he k heo) (I.hok.write mu he k heo new)
theorem Inv.pins_of {pins':List (Addr×Obj)} (I:Inv X pins σ H s) (h:∀p∈pins',s.heap.get? p.1=some p.2∧H p.1=none∧p.1≠X.env.locals∧p.1∉X.fs∧∀v,p.2.data≠.cell v):Inv X pins' σ H s:=
 ⟨I.ok,I.os,I.bare,I.base,I.loc,I.cell,I.free,I.freeC,fun p hp=>(List.mem_append.mp hp).elim (fun z=>I.pin p (List.mem_append_left _ z)) (h p),I.hok,I.len⟩
theorem af6 {N:List Str} (hN:N.Nodup) {i j:Nat} {x:Str} (a:N[i]?=some x) (b:N[j]?=some x):i=j:=by
 obtain⟨h1,e1⟩:=List.getElem?_eq_some_iff.mp a
 obtain⟨h2,e2⟩:=List.getElem?_eq_some_iff.mp b
 exact (List.getElem_inj hN).mp (e1.trans e2.symm)
theorem aeu {M:Model} {A:Around} {E:Value→Shared→Prop} {i:Nat} {x:Str} {v:V} {u:Value} {Q:Unit→Shared→Prop} (I:Inv X pins σ H s) (hN:X.N.Nodup) (hi:X.N[i]?=some x) (hx:Loc X.env.scope x) (r:RelV v u)
  (h:∀s',Inv X pins (σ.set i (some v)) H s'→(∃a,Heap.SameBut a s.heap s'.heap∧(a=X.env.locals∨X.env.cells.lookup x=some a))→Q () s') (hf:X.fn x=true∨X.env.scope.names.lookup x=some .local:=by first|exact .inl rfl|exact .inr rfl|assumption):wpAny M A (storeName X.env x u) Q E s:=by
 obtain⟨m,hn,hl⟩:=id I.loc
 have hcls:(X.env.scope.kind == .class || (X.env.scope.kind == .module&&X.env.locals != X.env.globals))=false:=by rw[I.ok.kind];rfl
 have hiσ:i < σ.length:=by rw[I.len];exact (List.getElem?_eq_some_iff.mp hi).1
 have cne:=I.cne
 have tracked:∀{a:Addr} {h':Heap},(∃o,s.heap.get? a=some o∧H a=none)→Heap.SameBut a s.heap h'→HOk X.prog X.w H h':=fun {a h'} ha hs b ob e=>by
  obtain⟨_,_,hfree⟩:=ha
  refine (I.hok b ob e).stay (fun c w' hc q=>(hs.2 c ?_).trans q) (fun _ q=>q) fun _ _ q=>q
  rintro rfl
  rcases hc with rfl|hc
  ·rw[hfree] at e;cases e
  ·rw[hfree] at hc;cases hc
 rcases hx with hk|hk
 ·refine wpAny_storeName_local hk hn (fun h' hn' hs=>?_) hcls
  obtain⟨oL,_,_,hoL,_⟩:=id hn
  refine h _ ⟨I.ok,I.os,I.bare,⟨fun b o e n hb hx=>?_,fun b o e n hb hx=>?_,I.base.free,fun b o e hx=>?_,I.base.tups,I.base.frzs,I.base.tbls⟩,⟨_,hn',fun j y v' e1 e2 e3=>?_⟩,fun y c e=>?_,I.free,I.freeC,fun p hp=>?_,tracked ⟨oL,hoL,I.free⟩ hs,by simpa using I.len⟩ ⟨_,hs,.inl rfl⟩
  ·exact (hs.2 b (Nat.ne_of_lt (Nat.lt_of_lt_of_le (Heap.lt_size e) I.ok.above))).trans (I.base.keep b o e n hb hx)
  ·obtain⟨sl,e1⟩:=I.base.slot b o e n hb hx
   exact⟨sl,(hs.2 b (Nat.ne_of_lt (Nat.lt_of_lt_of_le (Heap.lt_size e) I.ok.above))).trans e1⟩
  ·obtain⟨o',e1⟩:=I.base.there b o e hx
   exact⟨o',(hs.2 b (Nat.ne_of_lt (Nat.lt_of_lt_of_le (Heap.lt_size e) I.ok.above))).trans e1⟩
  ·by_cases hj:j=i
   ·subst hj
    rw[hi] at e1;cases e1
    rw[List.getElem?_set_self hiσ] at e2
    cases e2
    exact⟨u,r,.inl ⟨hk,by simp⟩⟩
   ·rw[List.getElem?_set_ne (Ne.symm hj)] at e2
    obtain⟨u',r',q⟩:=hl j y v' e1 e2 e3
    refine⟨u',r',?_⟩
    rcases q with ⟨k,e⟩|⟨k,c,e,z⟩
    ·refine .inl ⟨k,?_⟩
     have:y≠x:=fun e=>hj (af6 hN e1 (e ▸ hi))
     simp[this,e]
    ·exact .inr ⟨k,c,e,z.sameBut hs (cne y c e)⟩
  ·obtain⟨w',z⟩:=I.cell y c e
   exact⟨w',z.sameBut hs (cne y c e)⟩
  ·obtain⟨e,n,ne,nf,d⟩:=I.pin p hp
   exact⟨(hs.2 p.1 ne).trans e,n,ne,nf,d⟩
 ·have hfn:X.fn x=true:=by
   rcases hf with z|z
   ·exact z
   ·rw[z] at hk;cases hk
  obtain⟨c,hc⟩:=I.ok.has x (.inl hk)
  obtain⟨w',z⟩:=I.cell x c hc
  refine wpAny_storeName_cell I.ok.kind hk hc z (fun h' hc' hs=>?_)
  obtain⟨oc,hoc,hocd⟩:=id z
  refine h {s with heap:=h'} ⟨I.ok,I.os,I.bare,⟨fun b o e n hb hx=>?_,fun b o e n hb hx=>?_,I.base.free,fun b o e hx=>?_,I.base.tups,I.base.frzs,I.base.tbls⟩,⟨m,hn.sameBut hs (Ne.symm (cne x c hc)),fun j y v' e1 e2 e3=>?_⟩,fun y c' e=>?_,I.free,I.freeC,fun p hp=>?_,tracked ⟨oc,hoc,I.freeC x c hc⟩ hs,by simpa using I.len⟩ ⟨c,hs,.inr hc⟩
  ·exact (hs.2 b (Nat.ne_of_lt (Nat.lt_of_lt_of_le (Heap.lt_size e) (I.ok.cab x c hfn hc)))).trans (I.base.keep b o e n hb hx)
  ·obtain⟨sl,e1⟩:=I.base.slot b o e n hb hx
   exact⟨sl,(hs.2 b (Nat.ne_of_lt (Nat.lt_of_lt_of_le (Heap.lt_size e) (I.ok.cab x c hfn hc)))).trans e1⟩
  ·obtain⟨o',e1⟩:=I.base.there b o e hx
   exact⟨o',(hs.2 b (Nat.ne_of_lt (Nat.lt_of_lt_of_le (Heap.lt_size e) (I.ok.cab x c hfn hc)))).trans e1⟩
  ·by_cases hj:j=i
   ·subst hj
    rw[hi] at e1;cases e1
    rw[List.getElem?_set_self hiσ] at e2
    cases e2
    exact⟨u,r,.inr ⟨.inl hk,c,hc,hc'⟩⟩
   ·rw[List.getElem?_set_ne (Ne.symm hj)] at e2
    obtain⟨u',r',q⟩:=hl j y v' e1 e2 e3
    refine⟨u',r',?_⟩
    rcases q with q|⟨k,c',e,z'⟩
    ·exact .inl q
    ·refine .inr ⟨k,c',e,z'.sameBut hs ?_⟩
     rintro rfl
     exact hj (af6 hN e1 (I.ok.inj _ _ _ e hc ▸ hi))
  ·by_cases hcc:c'=c
   ·subst hcc;exact⟨_,hc'⟩
   ·obtain⟨w2,z2⟩:=I.cell y c' e
    exact⟨w2,z2.sameBut hs hcc⟩
  ·obtain⟨e,n,ne,nf,d⟩:=I.pin p hp
   refine⟨(hs.2 p.1 ?_).trans e,n,ne,nf,d⟩
   intro q
   rw[q,hoc] at e
   have q':oc=p.2:=Option.some.inj e
   exact d w' (by rw[←q'];exact hocd)
theorem af7 {M:Model} {A:Around} {E:Value→Shared→Prop} {i:Nat} {x:Str} {v:V} {u:Value} {Q:Unit→Shared→Prop} (I:Inv X pins σ H s) (hN:X.N.Nodup) (hi:X.N[i]?=some x) (hx:Loc X.env.scope x) (r:RelV v u)
  (h:∀s',Inv X pins (σ.set i (some v)) H s'→Q () s') (hf:X.fn x=true∨X.env.scope.names.lookup x=some .local:=by first|exact .inl rfl|exact .inr rfl|assumption):wpAny M A (storeName X.env x u) Q E s:=
 aeu I hN hi hx r (fun s' I' _=>h s' I') hf
theorem Inv.call' {s':Shared} {ch:List Addr} (I:Inv X pins σ H s) (ho:s'.os=s.os) (u:Un (frs X.stack) ch H H' s.heap s'.heap) (hok:HOk X.prog X.w H' s'.heap) (hg:AllBare s'.gens)
  (hch:∀b∈ch,(b∈X.ex∨X.s₀.heap.objs.size≤b)∧b≠X.env.locals∧(∀x c,X.env.cells.lookup x=some c→c≠b)∧∀p∈X.pn++pins,p.1≠b):Inv X pins σ H' s':=by
 obtain⟨h',g',d',t',o'⟩:=s'
 have e:o'=s.os:=ho
 subst e
 exact I.call (g':=g') (t':=t') (d':=d') u hok hg hch
end
noncomputable abbrev XK:=Value→Option Addr→Hp→Prop
noncomputable abbrev St:=List (Option V)
noncomputable abbrev VK:=V→Hp→Prop
noncomputable abbrev TE:=St→Hp→VK→Prop
noncomputable abbrev TT:=St→Hp→(Bool→Hp→Prop)→Prop
noncomputable abbrev TA:=St→Hp→(List V→Hp→Prop)→Prop
structure Ends where
 nx:St→Hp→Prop
 rt:VK
 bk:St→Hp→Prop:=fun _ _=>False
 ct:St→Hp→Prop:=fun _ _=>False
noncomputable abbrev TS:=Ends→St→Hp→Prop
noncomputable def EP (X:Cx) (pins:List (Addr×Obj)) (σ:St) (Q:VK) (u:Value) (s':Shared):Prop:=∃v H',Inv X pins σ H' s'∧RelV v u∧Q v H'
noncomputable def TP (X:Cx) (pins:List (Addr×Obj)) (σ:St) (Q:Bool→Hp→Prop) (b:Bool) (s':Shared):Prop:=∃H',Inv X pins σ H' s'∧Q b H'
noncomputable def AP (X:Cx) (pins:List (Addr×Obj)) (σ:St) (Q:List V→Hp→Prop) (us:List Value) (s':Shared):Prop:=∃vs H',Inv X pins σ H' s'∧Vals vs us∧Q vs H'
noncomputable def SP (X:Cx) (pins:List (Addr×Obj)) (D:Ends) (f:Flow) (s':Shared):Prop:=
 match f with
 |.next=>∃σ' H',Inv X pins σ' H' s'∧D.nx σ' H'
 |.brk=>∃σ' H',Inv X pins σ' H' s'∧D.bk σ' H'
 |.cont=>∃σ' H',Inv X pins σ' H' s'∧D.ct σ' H'
 |.ret u=>∃v σ' H',Inv X pins σ' H' s'∧RelV v u∧D.rt v H'
noncomputable def PE (X:Cx) (e:Expr) (t:TE):Prop:=
 ∀(pins:List (Addr×Obj)) (s:Shared) (σ:St) (H:Hp) (Q:VK),Inv X pins σ H s→t σ H Q→wpAny (model X.prog X.w) X.A (eval e X.env) (EP X pins σ Q) X.xe s
noncomputable def PT (X:Cx) (e:Expr) (t:TT):Prop:=
 ∀(pins:List (Addr×Obj)) (s:Shared) (σ:St) (H:Hp) (Q:Bool→Hp→Prop),Inv X pins σ H s→t σ H Q→wpAny (model X.prog X.w) X.A (isTrue e X.env (eval e X.env)) (TP X pins σ Q) X.xe s
noncomputable def PW (X:Cx) (e:Expr) (t:TT):Prop:=
 ∀(whole:Sem Value) (pins:List (Addr×Obj)) (s:Shared) (σ:St) (H:Hp) (Q:Bool→Hp→Prop),Inv X pins σ H s→t σ H Q→wpAny (model X.prog X.w) X.A (isTrue e X.env whole) (TP X pins σ Q) X.xe s
theorem PW.pt {X:Cx} {e:Expr} {t:TT} (h:PW X e t):PT X e t:=h _
noncomputable def PA (X:Cx) (es:List Expr) (t:TA):Prop:=
 ∀(pos:Pos) (pins:List (Addr×Obj)) (s:Shared) (σ:St) (H:Hp) (Q:List V→Hp→Prop),Inv X pins σ H s→t σ H Q→wpAny (model X.prog X.w) X.A (spliced (backTo pos (starEach es X.env))) (AP X pins σ Q) X.xe s
noncomputable def PS (X:Cx) (st:Stmt) (t:TS):Prop:=
 ∀(pins:List (Addr×Obj)) (s:Shared) (σ:St) (H:Hp) (D:Ends),Inv X pins σ H s→t D σ H→wpAny (model X.prog X.w) X.A (exec st X.env) (SP X pins D) X.xe s
noncomputable def PSs (X:Cx) (st:List Stmt) (t:TS):Prop:=
 ∀(pins:List (Addr×Obj)) (s:Shared) (σ:St) (H:Hp) (D:Ends),Inv X pins σ H s→t D σ H→wpAny (model X.prog X.w) X.A (execs st X.env) (SP X pins D) X.xe s
theorem thn {α:Type} {t:Sem α} {Q Q':α→Shared→Prop} {M:Model} {A:Around} {E:Value→Shared→Prop} {s:Shared} (h:wpAny M A t Q E s) (hQ:∀a s,Q a s→Q' a s):wpAny M A t Q' E s:=wpAny_mono h hQ fun _ _ x=>x
end L2
namespace L2
open PySem PySem.Spec PyProof.Rows
section
variable {X:Cx}
noncomputable def tVar (i:Nat):TE:=fun σ H Q=>∃v,σ[i]?=some (some v)∧Q v H
noncomputable def tC (v:V):TE:=fun _ H Q=>Q v H
theorem pe_var {i:Nat} {x:Str} {pos:Pos} (hN:X.N[i]?=some x) (hv:Vis X.env.scope x) (hd:(x == ("__debug__":Str))=false:=by decide) (hcd:(x == ("__classdict__":Str))=false:=by decide):PE X (.Name x pos) (tVar i):=by
 intro pins s σ H Q I h
 obtain⟨v,e,h⟩:=h
 obtain⟨m,hn,hl⟩:=I.loc
 obtain⟨u,r,l⟩:=hl i x v hN e hv
 have fin:EP X pins σ Q u s:=⟨v,H,I,r,h⟩
 rcases l with ⟨hk,hm⟩|⟨hk,c,hc,hcell⟩
 ·exact wpAny_Name (wpAny_loadName_local I.ok.kind hk hn hm fin) hd
 ·rcases hk with hk|hk
  ·exact wpAny_Name (wpAny_loadName_cell I.ok.kind hk hc hcell fin) hd
  ·exact wpAny_Name (wpAny_loadName_free I.ok.kind hk hc hcell fin hcd) hd
theorem aac {i j pos}:PE X (.Constant (.int i) j pos) (tC (.int i)):=fun _ _ _ H _ I h=>wpAny_Constant_int ⟨.int i,H,I.tok _,⟨_,rfl⟩,h⟩
theorem abu {b j pos}:PE X (.Constant (.bool b) j pos) (tC (.bl b)):=fun _ _ _ H _ I h=>Constant_bool ⟨.bl b,H,I,rfl,h⟩
theorem abb {j pos}:PE X (.Constant .none j pos) (tC .non):=fun _ _ _ H _ I h=>Constant_none ⟨.non,H,I,rfl,h⟩
noncomputable def Gl (X:Cx) (x:Str):Prop:=X.env.kindOf x=some .globalImplicit
theorem ahn {E:Value→Shared→Prop} {pins:List (Addr×Obj)} {s:Shared} {σ:St} {H:Hp} {x:Str} {u:Value} {pos:Pos} {Q:Value→Shared→Prop} (I:Inv X pins σ H s) (hg:Gl X x) (hm:X.mg x=some u) (h:Q u s)
  (hd:(x == ("__debug__":Str))=false:=by decide):wpAny (model X.prog X.w) X.A (eval (.Name x pos) X.env) Q E s:=
 Calls.Name_function_global I.ok.kind hg (Calls.loadGlobal_global (by rw[I.ok.glob];exact I.mod.glob.keeps I.bk) hm h) hd
theorem aev {E:Value→Shared→Prop} {pins:List (Addr×Obj)} {s:Shared} {σ:St} {H:Hp} {x:Str} {u:Value} {pos:Pos} {Q:Value→Shared→Prop} (I:Inv X pins σ H s) (hg:Gl X x) (hm:X.mg x=none) (hv:bootBuiltins x=some u) (h:Q u s)
  (hn:x≠"__name__":=by decide) (hd:(x == ("__debug__":Str))=false:=by decide):wpAny (model X.prog X.w) X.A (eval (.Name x pos) X.env) Q E s:=by
 obtain⟨mb,h1,h2⟩:=I.mod.blt
 exact Calls.Name_function_global I.ok.kind hg (Calls.loadGlobal_builtin (by rw[I.ok.glob];exact I.mod.glob.keeps I.bk) hm (by rw[I.ok.blt];exact h1.keeps I.bk) ((h2 x hn).trans hv) h) hd
theorem alj {x:Str} {v:V} {u:Value} {pos:Pos} (hg:Gl X x) (hm:X.mg x=none) (hv:bootBuiltins x=some u) (r:RelV v u) (hn:x≠"__name__":=by decide) (hd:(x == ("__debug__":Str))=false:=by decide):PE X (.Name x pos) (tC v):=
 fun _ _ _ H _ I h=>aev I hg hm hv ⟨v,H,I,r,h⟩ hn hd
variable {a b:Expr} {ta tb:TE} {pos:Pos}
noncomputable def PC (X:Cx) (op:CmpOp) (a b:Expr) (t:TE):Prop:=
 ∀(pins:List (Addr×Obj)) (s:Shared) (σ:St) (H:Hp) (Q:VK),Inv X pins σ H s→t σ H Q→
  wpAny (model X.prog X.w) X.A (eval a X.env) (fun v s₁=>wpAny (model X.prog X.w) X.A (eval b X.env) (fun u s₂=>wpAny (model X.prog X.w) X.A (compareOp op v u) (EP X pins σ Q) X.xe s₂) X.xe s₁) X.xe s
theorem nobehind (b:Expr) {op:CmpOp} (h:op≠.In) (h2:op≠.NotIn):behindInMarks op b=false:=by
 have e1:(op == CmpOp.In)=false:=by cases op<;>first|rfl|exact absurd rfl h
 have e2:(op == CmpOp.NotIn)=false:=by cases op<;>first|rfl|exact absurd rfl h2
 cases b<;>simp[behindInMarks,e1,e2]
noncomputable def tB (t:TE):TT:=fun σ H Q=>t σ H fun x H1=>∃c,x=.bl c∧Q c H1
theorem akw {op:CmpOp} {t:TE} (h:PC X op a b t) (h1:behindInMarks op b=false:=by first|exact nobehind _ (by decide) (by decide)|rfl):PT X (.Compare a [op] [b] pos) (tB t):=by
 intro pins s σ H Q I hw
 refine wpAny_isTrue_Compare1 (thn (h pins s σ H _ I hw) fun v s1 h1=>thn h1 fun u s2 h2=>thn h2 fun c s3 ⟨x,H1,I1,r1,q1⟩=>?_) h1
 obtain⟨d,rfl,q⟩:=q1
 cases r1
 exact wpAny_truthy_bool ⟨H1,I1,q⟩
theorem abe {e:Expr} {t:TE} (h:PE X e t) (he:∀whole,isTrue e X.env whole=(do let v←whole;standAt e.pos;holding [v] (truthy v)):=by intro _;rfl):PT X e (tB t):=by
 intro pins s σ H Q I hw
 refine isTrue_plain (thn (h pins s σ H _ I hw) fun v s1 ⟨x,H1,I1,r1,q1⟩=>?_) (he _)
 obtain⟨d,rfl,q⟩:=q1
 cases r1
 exact wpAny_truthy_bool ⟨H1,I1,q⟩
variable {tA tB':TT} {rest:List Expr}
noncomputable def tAnd (t u:TT):TT:=fun σ H Q=>t σ H fun c H1=>if c=true then u σ H1 Q else Q false H1
noncomputable def tOr (t u:TT):TT:=fun σ H Q=>t σ H fun c H1=>if c=true then Q true H1 else u σ H1 Q
noncomputable def tNot (t:TT):TT:=fun σ H Q=>t σ H fun c H1=>Q (!c) H1
theorem adm (ha:PT X a tA):PW X (.BoolOp .And [a] pos) tA:=by
 intro wh pins s σ H Q I h
 refine isTrue_and (thn (ha pins s σ H Q I h) fun c s1 e=>?_)
 cases c with
 |true=>exact isTrue_and_nil e
 |false=>exact e
theorem adc (ha:PT X a tA):PW X (.BoolOp .Or [a] pos) tA:=by
 intro wh pins s σ H Q I h
 refine isTrue_or (thn (ha pins s σ H Q I h) fun c s1 e=>?_)
 cases c with
 |false=>exact isTrue_or_nil e
 |true=>exact e
theorem aew (ha:PT X a tA) (hb:PW X (.BoolOp .And (b::rest) pos) tB'):PW X (.BoolOp .And (a::b::rest) pos) (tAnd tA tB'):=by
 intro wh pins s σ H Q I h
 refine isTrue_and (thn (ha pins s σ H _ I h) fun c s1 ⟨H1,I1,q1⟩=>?_)
 cases c with
 |true=>exact hb wh pins s1 σ H1 Q I1 q1
 |false=>exact⟨H1,I1,q1⟩
theorem ad2 (ha:PT X a tA) (hb:PW X (.BoolOp .Or (b::rest) pos) tB'):PW X (.BoolOp .Or (a::b::rest) pos) (tOr tA tB'):=by
 intro wh pins s σ H Q I h
 refine isTrue_or (thn (ha pins s σ H _ I h) fun c s1 ⟨H1,I1,q1⟩=>?_)
 cases c with
 |true=>exact⟨H1,I1,q1⟩
 |false=>exact hb wh pins s1 σ H1 Q I1 q1
theorem abv (ha:PT X a tA):PT X (.UnaryOp .Not a pos) (tNot tA):=by
 intro pins s σ H Q I h
 exact isTrue_not (ha pins s σ H (fun c H1=>Q (!c) H1) I h)
noncomputable def tAndV (ta tb:TE):TE:=fun σ H Q=>ta σ H fun x H1=>∃c,x=.bl c∧if c=true then tb σ H1 Q else Q (.bl false) H1
noncomputable def tOrV (ta tb:TE):TE:=fun σ H Q=>ta σ H fun x H1=>∃c,x=.bl c∧if c=true then Q (.bl true) H1 else tb σ H1 Q
noncomputable def tNotV (ta:TE):TE:=fun σ H Q=>ta σ H fun x H1=>∃c,x=.bl c∧Q (.bl (!c)) H1
theorem aex {op} {t:TE} (h:PE X a t):PE X (.BoolOp op [a] pos) t:=fun pins s σ H Q I hw=>BoolOp_one (h pins s σ H Q I hw)
theorem aey (ha:PE X a ta) (hb:PE X (.BoolOp .And (b::rest) pos) tb):PE X (.BoolOp .And (a::b::rest) pos) (tAndV ta tb):=by
 intro pins s σ H Q I h
 refine BoolOp_and (thn (ha pins s σ H _ I h) fun v s1 ⟨x,H1,I1,r1,q1⟩=>?_)
 obtain⟨c,rfl,q1⟩:=q1
 cases r1
 refine wpAny_truthy_bool ?_
 cases c with
 |true=>exact hb pins s1 σ H1 Q I1 q1
 |false=>exact⟨.bl false,H1,I1,rfl,q1⟩
theorem pe_or (ha:PE X a ta) (hb:PE X (.BoolOp .Or (b::rest) pos) tb):PE X (.BoolOp .Or (a::b::rest) pos) (tOrV ta tb):=by
 intro pins s σ H Q I h
 refine BoolOp_or (thn (ha pins s σ H _ I h) fun v s1 ⟨x,H1,I1,r1,q1⟩=>?_)
 obtain⟨c,rfl,q1⟩:=q1
 cases r1
 refine wpAny_truthy_bool ?_
 cases c with
 |false=>exact hb pins s1 σ H1 Q I1 q1
 |true=>exact⟨.bl true,H1,I1,rfl,q1⟩
theorem pe_not (ha:PE X a ta):PE X (.UnaryOp .Not a pos) (tNotV ta):=by
 intro pins s σ H Q I h
 refine UnaryOp_ (thn (ha pins s σ H _ I h) fun v s1 ⟨x,H1,I1,r1,q1⟩=>?_)
 obtain⟨c,rfl,q1⟩:=q1
 cases r1
 exact not_of (wpAny_truthy_bool ⟨.bl (!c),H1,I1,rfl,q1⟩)
noncomputable def tIf (t:TT) (ta tb:TE):TE:=fun σ H Q=>t σ H fun c H1=>if c=true then ta σ H1 Q else tb σ H1 Q
theorem ajr {c:Expr} (hc:PT X c tA) (ha:PE X a ta) (hb:PE X b tb):PE X (.IfExp c a b pos) (tIf tA ta tb):=by
 intro pins s σ H Q I h
 refine wpAny_IfExp (thn (hc pins s σ H _ I h) fun d s1 ⟨H1,I1,q1⟩=>?_)
 cases d with
 |true=>exact ha pins s1 σ H1 Q I1 q1
 |false=>exact hb pins s1 σ H1 Q I1 q1
end
end L2
namespace L2
open PySem PySem.Spec PyProof.Rows
noncomputable def SqL (K:PySem.W.Frag) (H:Hp) (a:Addr) (xs:List V):Prop:=
 Rd H a (.lst xs)∨
  ∃(o:Obj) (its:Array Value) (n:Nat),K.lookup a=some o∧o.cls=.type "list"∧o.dict=none∧o.data=.seq its n∧its.size≤sizeLine∧Vals xs its.toList
noncomputable def SqT (K:PySem.W.Frag) (H:Hp) (a:Addr) (xs:List V):Prop:=
 Rd H a (.tup xs)∨
  ∃(o:Obj) (its:Array Value) (n:Nat),K.lookup a=some o∧o.cls=.type "tuple"∧o.data=.seq its n∧its.size≤sizeLine∧Vals xs its.toList
noncomputable def absV:Value→Option V
 |.none=>some .non
 |.bool b=>some (.bl b)
 |.int i _=>some (.int i)
 |.str x _=>some (.str x)
 |.bytes b _=>some (.byt b)
 |.float b _=>some (.flt b)
 |.ref a=>some (.ref a)
 |.type n=>some (.ty n)
 |_=>none
theorem RelV.abs {x:V} {u:Value} (r:RelV x u):absV u=some x:=by
 cases x with
 |non=>cases r;rfl
 |bl _=>cases r;rfl
 |int _=>obtain⟨t,rfl⟩:=r;rfl
 |str _=>obtain⟨t,rfl⟩:=r;rfl
 |byt _=>obtain⟨t,rfl⟩:=r;rfl
 |flt _=>obtain⟨t,rfl⟩:=r;rfl
 |ref _=>cases r;rfl
 |ty _=>cases r;rfl
theorem RelV.inj {x y:V} {u:Value} (r:RelV x u) (q:RelV y u):x=y:=Option.some.inj (r.abs.symm.trans q.abs)
theorem Vals.inj:∀{xs ys:List V} {us:List Value},Vals xs us→Vals ys us→xs=ys
 |_,_,_,.nil,.nil=>rfl
 |_,_,_,.cons r t,.cons r' t'=>by rw[r.inj r',Vals.inj t t']
section
variable {X:Cx} {pins:List (Addr×Obj)} {σ:St} {H:Hp} {s:Shared} {a:Addr} {xs ys:List V}
theorem SqL.of {K:PySem.W.Frag} (h:H a=some (.lst xs)):SqL K H a xs:=.inl (.inl h)
theorem SqT.of {K:PySem.W.Frag} (h:H a=some (.tup xs)):SqT K H a xs:=.inl (.inl h)
theorem Inv.list (I:Inv X pins σ H s) (h:SqL X.K H a xs):∃its:List Value,Vals xs its∧PlainL s.heap a its.toArray∧xs.length≤sizeLine:=by
 rcases h with h|⟨o,its,n,hk,hc,hd,hs,hz,r⟩
 ·obtain⟨z,its,n,r,e⟩:=h.ok I.hok
  exact⟨its,r,⟨_,n,e,rfl,rfl,rfl⟩,z⟩
 ·refine⟨its.toList,r,⟨o,n,I.kIn a o hk,hc,hd,by simpa using hs⟩,?_⟩
  have e:=r.length
  simp only[Array.length_toList] at e
  omega
theorem Inv.tuple (I:Inv X pins σ H s) (h:SqT X.K H a xs):∃its:List Value,Vals xs its∧IsTup s.heap a its.toArray∧xs.length≤sizeLine:=by
 rcases h with h|⟨o,its,n,hk,hc,hs,hz,r⟩
 ·obtain⟨z,its,r,p⟩:=h.ok I.hok
  exact⟨its,r,p,z⟩
 ·refine⟨its.toList,r,⟨o,I.kIn a o hk,hc,n,by simpa using hs⟩,?_⟩
  have e:=r.length
  simp only[Array.length_toList] at e
  omega
theorem Inv.list_inj (I:Inv X pins σ H s) (h:SqL X.K H a xs) (h':SqL X.K H a ys):xs=ys:=by
 obtain⟨its,r,⟨o,n,e,_,_,d⟩,_⟩:=I.list h
 obtain⟨its',r',⟨o',n',e',_,_,d'⟩,_⟩:=I.list h'
 rw[e] at e';cases e'
 rw[d] at d'
 injection d' with d1 _
 have:its=its':=by simpa using congrArg Array.toList d1
 subst this
 exact r.inj r'
theorem Inv.tuple_inj (I:Inv X pins σ H s) (h:SqT X.K H a xs) (h':SqT X.K H a ys):xs=ys:=by
 obtain⟨its,r,⟨o,e,_,n,d⟩,_⟩:=I.tuple h
 obtain⟨its',r',⟨o',e',_,n',d'⟩,_⟩:=I.tuple h'
 rw[e] at e';cases e'
 rw[d] at d'
 injection d' with d1 _
 have:its=its':=by simpa using congrArg Array.toList d1
 subst this
 exact r.inj r'
end
noncomputable abbrev Cx.wish (X:Cx) (E:Value→Shared→Prop):Cx:={X with xe:=E}
noncomputable abbrev Cx.nox (X:Cx):Cx:=X.wish fun _ _=>False
theorem Cx.Ok.wish {X:Cx} (ok:X.Ok) (E:Value→Shared→Prop):(X.wish E).Ok:=
 ⟨ok.mod,ok.kind,ok.glob,ok.blt,ok.above,ok.inj,ok.has,ok.cab,ok.hd,ok.frames,ok.stk,ok.exf,ok.bs,ok.bsz,ok.noex,ok.exfs,ok.funs,ok.frf⟩
theorem Cx.Ok.unwish {X:Cx} {E:Value→Shared→Prop} (ok:(X.wish E).Ok):X.Ok:=
 ⟨ok.mod,ok.kind,ok.glob,ok.blt,ok.above,ok.inj,ok.has,ok.cab,ok.hd,ok.frames,ok.stk,ok.exf,ok.bs,ok.bsz,ok.noex,ok.exfs,ok.funs,ok.frf⟩
section
variable {X:Cx} {pins:List (Addr×Obj)} {σ:St} {H:Hp} {s:Shared} {E:Value→Shared→Prop}
theorem Inv.wish (I:Inv X pins σ H s) (E:Value→Shared→Prop):Inv (X.wish E) pins σ H s:=⟨I.ok.wish E,I.os,I.bare,I.base,I.loc,I.cell,I.free,I.freeC,I.pin,I.hok,I.len⟩
theorem Inv.unwish (I:Inv (X.wish E) pins σ H s):Inv X pins σ H s:=⟨I.ok.unwish,I.os,I.bare,I.base,I.loc,I.cell,I.free,I.freeC,I.pin,I.hok,I.len⟩
theorem SP.unwish {D:Ends} {f:Flow} {s':Shared} (h:SP (X.wish E) pins D f s'):SP X pins D f s':=by
 cases f with
 |next=>obtain⟨σ',H',I,q⟩:=h;exact⟨σ',H',I.unwish,q⟩
 |brk=>obtain⟨σ',H',I,q⟩:=h;exact⟨σ',H',I.unwish,q⟩
 |cont=>obtain⟨σ',H',I,q⟩:=h;exact⟨σ',H',I.unwish,q⟩
 |ret u=>obtain⟨v,σ',H',I,r,q⟩:=h;exact⟨v,σ',H',I.unwish,r,q⟩
theorem PE.nox {e:Expr} {t:TE} (h:PE X.nox e t):PE X e t:=fun pins s σ H Q I hw=>
 wpAny_mono (h pins s σ H Q (I.wish _) hw) (fun _ _ ⟨v,H',I',r,q⟩=>⟨v,H',I'.unwish,r,q⟩) fun _ _ z=>False.elim z
theorem PT.nox {e:Expr} {t:TT} (h:PT X.nox e t):PT X e t:=fun pins s σ H Q I hw=>
 wpAny_mono (h pins s σ H Q (I.wish _) hw) (fun _ _ ⟨H',I',q⟩=>⟨H',I'.unwish,q⟩) fun _ _ z=>False.elim z
theorem PSs.nox {st:List Stmt} {t:TS} (h:PSs X.nox st t):PSs X st t:=fun pins s σ H D I hw=>
 wpAny_mono (h pins s σ H D (I.wish _) hw) (fun _ _ q=>q.unwish) fun _ _ z=>False.elim z
end
section
variable {X:Cx} {st:Stmt} {rest:List Stmt} {t u:TS} {e:Expr} {te:TE} {pos:Pos}
noncomputable def tNext:TS:=fun D σ H=>D.nx σ H
noncomputable def tSeq (t u:TS):TS:=fun D σ H=>t {D with nx:=u D} σ H
theorem aam:PSs X [] tNext:=fun _ _ σ H _ I h=>wpAny_execs_nil ⟨σ,H,I,h⟩
theorem aab (h1:PS X st t) (h2:PSs X rest u):PSs X (st::rest) (tSeq t u):=by
 intro pins s σ H D I h
 refine wpAny_execs_cons (thn (h1 pins s σ H {D with nx:=u D} I h) fun f s1 q=>?_)
 cases f with
 |next=>
  obtain⟨σ',H',I',q⟩:=q
  exact h2 pins s1 σ' H' D I' q
 |ret v=>exact q
 |brk=>exact q
 |cont=>exact q
theorem aae (h1:PS X st t):PSs X [st] t:=by
 intro pins s σ H D I h
 refine wpAny_execs_cons (thn (h1 pins s σ H D I h) fun f s1 q=>?_)
 cases f with
 |next=>exact wpAny_execs_nil q
 |ret v=>exact q
 |brk=>exact q
 |cont=>exact q
noncomputable def tCont:TS:=fun D σ H=>D.ct σ H
theorem afq:PS X (.Continue pos) tCont:=fun _ _ σ H _ I h=>wpAny_Continue ⟨σ,H,I,h⟩
theorem Inv.quiet {pins:List (Addr×Obj)} {σ:St} {H:Hp} {s:Shared} (I:Inv X pins σ H s):interactive X.env=false:=by simp[interactive,I.ok.kind]
noncomputable def tDrop (te:TE):TS:=fun D σ H=>te σ H fun _ H1=>D.nx σ H1
theorem ab1 (he:PE X e te) (hs:swapsWith e none pos.line X.env=pure false:=by rfl):PS X (.Expr e pos) (tDrop te):=by
 intro pins s σ H D I h
 exact wpAny_Expr_any (thn (he pins s σ H _ I h) fun v s1 ⟨x,H1,I1,r1,q1⟩=>⟨σ,H1,I1,q1⟩) I.quiet hs
noncomputable def tRet (te:TE):TS:=fun D σ H=>te σ H D.rt
theorem aaw (he:PE X e te):PS X (.Return (some e) pos) (tRet te):=by
 intro pins s σ H D I h
 exact wpAny_Return_some (thn (he pins s σ H _ I h) fun v s1 ⟨x,H1,I1,r1,q1⟩=>⟨x,σ,H1,I1,r1,q1⟩)
noncomputable def tRetN:TS:=fun D _ H=>D.rt .non H
theorem ac2:PS X (.Return none pos) tRetN:=fun _ _ σ H _ I h=>wpAny_Return_none ⟨.non,σ,H,I,rfl,h⟩
noncomputable def tIfS (c:TT) (t u:TS):TS:=fun D σ H=>c σ H fun b H1=>if b=true then t D σ H1 else u D σ H1
theorem aa8 {c:Expr} {a b:List Stmt} {tc:TT} (hc:PT X c tc) (ha:PSs X a t) (hb:PSs X b u):PS X (.If c a b pos) (tIfS tc t u):=by
 intro pins s σ H D I h
 refine wpAny_If (thn (hc pins s σ H _ I h) fun d s1 ⟨H1,I1,q1⟩=>?_)
 cases d with
 |true=>exact ha pins s1 σ H1 D I1 q1
 |false=>exact hb pins s1 σ H1 D I1 q1
end
noncomputable abbrev TG:=V→St→Hp→(St→Hp→Prop)→Prop
noncomputable abbrev TGs:=List V→St→Hp→(St→Hp→Prop)→Prop
noncomputable def PG (X:Cx) (target:Expr) (t:TG):Prop:=
 ∀(pins:List (Addr×Obj)) (s:Shared) (σ:St) (H:Hp) (v:V) (u:Value) (Q:St→Hp→Prop),Inv X pins σ H s→RelV v u→t v σ H Q→
  wpAny (model X.prog X.w) X.A (assign target X.env u) (fun _ s'=>∃σ' H',Inv X pins σ' H' s'∧Q σ' H') X.xe s
noncomputable def PGs (X:Cx) (ts:List Expr) (t:TGs):Prop:=
 ∀(pins:List (Addr×Obj)) (s:Shared) (σ:St) (H:Hp) (vs:List V) (us:List Value) (Q:St→Hp→Prop),Inv X pins σ H s→Vals vs us→t vs σ H Q→
  wpAny (model X.prog X.w) X.A (assignInOrder ((assignEach ts X.env).map (·.2)) us) (fun _ s'=>∃σ' H',Inv X pins σ' H' s'∧Q σ' H') X.xe s
noncomputable abbrev TSet:=V→V→V→Hp→(Hp→Prop)→Prop
noncomputable def PSet (X:Cx) (t:TSet):Prop:=
 ∀(pins:List (Addr×Obj)) (s:Shared) (σ:St) (H:Hp) (o i v:V) (ov iv u:Value) (Q:Hp→Prop),Inv X pins σ H s→RelV o ov→RelV i iv→RelV v u→t o i v H Q→
  wpAny (model X.prog X.w) X.A (setItem ov iv u) (fun _ s'=>∃H',Inv X pins σ H' s'∧Q H') X.xe s
section
variable {X:Cx} {pos:Pos}
noncomputable def gName (i:Nat):TG:=fun v σ H Q=>Q (σ.set i (some v)) H
theorem abc {i:Nat} {x:Str} (hN:X.N.Nodup) (hi:X.N[i]?=some x) (hx:Loc X.env.scope x) (hf:X.fn x=true∨X.env.scope.names.lookup x=some .local:=by first|exact .inl rfl|exact .inr rfl|assumption):PG X (.Name x pos) (gName i):=by
 intro pins s σ H v u Q I r h
 exact wpAny_assign_Name (af7 I hN hi hx r (fun s' I'=>⟨_,H,I',h⟩) hf)
noncomputable def gNil:TGs:=fun vs σ H Q=>vs=[]∧Q σ H
noncomputable def gCons (t:TG) (u:TGs):TGs:=fun vs σ H Q=>∃v r,vs=v::r∧t v σ H fun σ' H'=>u r σ' H' Q
theorem aho:PGs X [] gNil:=by
 intro pins s σ H vs us Q I r h
 obtain⟨e,h⟩:=h
 subst e
 cases r
 exact assignInOrder_nil ⟨σ,H,I,h⟩
theorem adi {e:Expr} {es:List Expr} {t:TG} {u:TGs} (h1:PG X e t) (h2:PGs X es u)
  (hs:(assignEach (e::es) X.env).map (·.2)=assign e X.env::(assignEach es X.env).map (·.2):=by rfl):PGs X (e::es) (gCons t u):=by
 intro pins s σ H vs us Q I r h
 obtain⟨v,vr,e1,h⟩:=h
 subst e1
 cases r with
 |cons r rr=>
  rw[hs]
  refine assignInOrder_cons (thn (h1 pins s σ H _ _ _ I r h) fun _ s1 ⟨σ1,H1,I1,q1⟩=>?_)
  exact h2 pins s1 σ1 H1 _ _ Q I1 rr q1
noncomputable def gTup (K:PySem.W.Frag) (n:Nat) (t:TGs):TG:=fun v σ H Q=>∃a xs,v=.ref a∧SqT K H a xs∧xs.length=n∧t xs σ H Q
theorem akx {es:List Expr} {k:Nat} {t:TGs} {n:Nat} (hc:X.calm=true) (h:PGs X es t)
  (hn:(assignEach es X.env).length=n:=by rfl) (hst:(assignEach es X.env).findIdx? (·.1)=none:=by rfl):PG X (.Tuple es k pos) (gTup X.K n t):=by
 intro pins s σ H v u Q I r hw
 obtain⟨a,xs,e1,hq,hl,hw⟩:=hw
 subst e1
 cases r
 obtain⟨its,rv,ht,hz⟩:=I.tuple hq
 refine assign_Tuple_tuple (I.ok.hd hc) ht (by simp[hn,←hl,rv.length]) hst fun h' hx=>?_
 have I1:Inv X pins σ H {s with heap:=h'}:=I.kept (t':=s.toks) fun b o e=>hx b o (Nat.ne_of_lt (Heap.lt_size e)) e
 exact h pins _ σ H xs _ Q I1 (by simpa using rv) hw
noncomputable def gSub (to ti:TE) (t:TSet):TG:=fun v σ H Q=>to σ H fun o H1=>ti σ H1 fun i H2=>t o i v H2 fun H3=>Q σ H3
theorem ach {o i:Expr} {to ti:TE} {t:TSet} (ho:PE X o to) (hi:PE X i ti) (hs:PSet X t)
  (ha:∀v,assign (.Subscript o i pos) X.env v=(do
   let ov←holding [v] (eval o X.env)
   let iv←holding [v,ov] (eval i X.env)
   standAt pos
   holding [v,ov,iv] (setItem ov iv v)
   release [v,ov,iv] []):=by intro _;rfl):PG X (.Subscript o i pos) (gSub to ti t):=by
 intro pins s σ H v u Q I r h
 rw[ha]
 refine wpAny_bind (wpAny_holding (thn (ho pins s σ H _ I h) fun ov s1 ⟨x,H1,I1,r1,q1⟩=>?_))
 refine wpAny_bind (wpAny_holding (thn (hi pins s1 σ H1 _ I1 q1) fun iv s2 ⟨y,H2,I2,r2,q2⟩=>?_))
 refine wpAny_bind (wpAny_standAt (wpAny_bind (wpAny_holding (thn (hs pins s2 σ H2 x y v ov iv u _ I2 r1 r2 r q2) fun _ s3 ⟨H3,I3,q3⟩=>?_))))
 exact wpAny_release ⟨σ,H3,I3,q3⟩
noncomputable def tAsg (te:TE) (g:TG):TS:=fun D σ H=>te σ H fun x H1=>g x σ H1 D.nx
theorem aci {tg e:Expr} {te:TE} {g:TG} (he:PE X e te) (hg:PG X tg g) (hs:swapsWithSole [tg] e pos.line X.env=pure false:=by rfl) (hw:swappedStores [tg] e X.env=pure none:=by rfl)
  (h1:(assignEach [tg] X.env).map (·.2)=[assign tg X.env]:=by rfl):PS X (.Assign [tg] e pos) (tAsg te g):=by
 intro pins s σ H D I h
 refine wpAny_Assign_stores (thn (he pins s σ H _ I h) fun v s1 ⟨x,H1,I1,r1,q1⟩=>?_) hs hw
 rw[h1]
 exact thn (hg pins s1 σ H1 x v _ I1 r1 q1) fun _ s2 q=>q
theorem aas {i:Nat} {x:Str} {e:Expr} {te:TE} {pos':Pos} (hN:X.N.Nodup) (hi:X.N[i]?=some x) (hx:Loc X.env.scope x) (he:PE X e te) (hs:swapsWith e (some (.Name x pos')) pos.line X.env=pure false:=by rfl) (hf:X.fn x=true∨X.env.scope.names.lookup x=some .local:=by first|exact .inl rfl|exact .inr rfl|assumption):
  PS X (.Assign [.Name x pos'] e pos) (tAsg te (gName i)):=by
 intro pins s σ H D I h
 refine wpAny_Assign_Name (thn (he pins s σ H _ I h) fun v s1 ⟨y,H1,I1,r1,q1⟩=>?_) hs
 exact af7 I1 hN hi hx r1 (fun s2 I2=>⟨_,H1,I2,q1⟩) hf
end
section
variable {X:Cx} {pos:Pos}
noncomputable def tWhile (c:TT) (tb:TS):TS:=fun D σ H=>∃W:Nat→St→Hp→Prop,(∃m,W m σ H)∧∀m σ H,W m σ H→
 c σ H fun b H1=>if b=true then ∃N:St→Hp→Prop,(∀σ' H',N σ' H'→∃m',m' < m∧W m' σ' H')∧tb {D with nx:=N,ct:=N,bk:=D.nx} σ H1 else D.nx σ H1
theorem ajs {c:Expr} {body:List Stmt} {tc:TT} {tb:TS} (hp:PassesOwn (model X.prog X.w) X.A X.env X.xe) (hc:PT X c tc) (hb:PSs X body tb):PS X (.While c body [] pos) (tWhile tc tb):=by
 intro pins s σ H D I h
 obtain⟨W,⟨m0,w0⟩,turn⟩:=h
 refine wpAny_While (codeAny_whileLoop (fun n s'=>∃σ' H',Inv X pins σ' H' s'∧W n σ' H') ?_ m0 ⟨σ,H,I,w0⟩)
 rintro n s1 ⟨σ1,H1,I1,w1⟩
 refine wpAny_passesOwn hp (thn (hc pins s1 σ1 H1 _ I1 (turn n σ1 H1 w1)) fun b s2 ⟨H2,I2,q2⟩=>?_)
 cases b with
 |true=>
  obtain⟨N,hN,q2⟩:=q2
  rw[if_pos rfl]
  refine wpAny_passesOwn hp (thn (hb pins s2 σ1 H2 _ I2 q2) fun f s3 q3=>?_)
  cases f with
  |next=>
   obtain⟨σ3,H3,I3,n3⟩:=q3
   obtain⟨m',hm,w3⟩:=hN σ3 H3 n3
   exact⟨m',hm,σ3,H3,I3,w3⟩
  |cont=>
   obtain⟨σ3,H3,I3,n3⟩:=q3
   obtain⟨m',hm,w3⟩:=hN σ3 H3 n3
   exact⟨m',hm,σ3,H3,I3,w3⟩
  |brk=>exact q3
  |ret v=>exact q3
 |false=>
  rw[if_neg Bool.false_ne_true]
  exact wpAny_execs_nil ⟨σ1,H2,I2,q2⟩
end
structure It where
 go:Nat→Hp→Prop
 yld:Nat→Hp→V→Hp→Prop
 stop:Nat→Hp→Prop
noncomputable def FpOk (X:Cx) (pins:List (Addr×Obj)) (H:Hp) (b:Addr):Prop:=
 H b=none∧b≠X.env.locals∧b∉X.fs∧(b∈X.ex∨X.s₀.heap.objs.size≤b)∧(∀x c,X.env.cells.lookup x=some c→c≠b)∧∀p∈X.pn++pins,p.1≠b
theorem Inv.fpOk {X:Cx} {pins:List (Addr×Obj)} {σ:St} {H H':Hp} {s:Shared} {b:Addr} (I:Inv X pins σ H s) (hb:s.heap.objs.size≤b) (hn:H' b=none):FpOk X pins H' b:=by
 refine⟨hn,Nat.ne_of_gt (Nat.lt_of_lt_of_le I.lt hb),I.nofs hb,.inr (Nat.le_trans I.sz hb),fun x c e z=>?_,fun p hp z=>?_⟩
 ·obtain⟨v,q⟩:=I.cell x c e
  exact absurd (Nat.lt_of_lt_of_le q.lt (by rw[z];exact hb)) (Nat.lt_irrefl _)
 ·exact absurd (Nat.lt_of_lt_of_le (Heap.lt_size (I.pin p hp).1) (by rw[z];exact hb)) (Nat.lt_irrefl _)
structure Turn (P:Program) (w:World) (K:PySem.W.Frag) (tg:Expr) (J:It) (fp:List Addr) (it:Addr) (tn:Nat→Heap→Prop):Prop where
 mem:it∈fp
 obj:∀i h,tn i h→∀b∈fp,∃o,h.get? b=some o∧∀v,o.data≠.cell v
 keep:∀i h h',tn i h→(∀b∈fp,∀o,h.get? b=some o→h'.get? b=some o)→tn i h'
 item:∀(X:Cx),X.prog=P→X.w=w→X.K=K→X.calm=true→∀(i:Nat) (pins:List (Addr×Obj)) (s:Shared) (σ:St) (H:Hp) (E:Value→Shared→Prop),Inv X pins σ H s→(∀b∈fp,FpOk X pins H b)→tn i s.heap→J.go i H→
  wpAny (model P w) X.A (pyNext (.ref it)) (fun r s1=>∃u,r=some u∧
   wpAny (model P w) X.A (letOwnedTupleGo tg (.ref it) u) (fun _ s2=>∃x H',Inv X pins σ H' s2∧RelV x u∧J.yld i H x H'∧tn (i+1) s2.heap∧∀b∈fp,H' b=none) E s1) E s
 done:∀(X:Cx),X.prog=P→X.w=w→X.K=K→X.calm=true→∀(i:Nat) (pins:List (Addr×Obj)) (s:Shared) (σ:St) (H:Hp) (E:Value→Shared→Prop),Inv X pins σ H s→(∀b∈fp,FpOk X pins H b)→tn i s.heap→J.stop i H→
  wpAny (model P w) X.A (pyNext (.ref it)) (fun r s1=>r=none∧Inv X pins σ H s1) E s
 self:∀(A:Around) (i:Nat) (s:Shared) (Q:Value→Shared→Prop) (E:Value→Shared→Prop),tn i s.heap→Q (.ref it) s→wpAny (model P w) A (pyIter (.ref it)) Q E s
noncomputable abbrev TI:=St→Hp→(It→Hp→Prop)→Prop
noncomputable def PIE (X:Cx) (pins:List (Addr×Obj)) (σ:St) (tg:Expr) (R:It→Hp→Prop) (itv:Value) (s2:Shared):Prop:=
 ∃(it:Addr) (fp:List Addr) (tn:Nat→Heap→Prop) (J:It) (H':Hp),itv=.ref it∧Inv X pins σ H' s2∧Turn X.prog X.w X.K tg J fp it tn∧tn 0 s2.heap∧(∀b∈fp,FpOk X pins H' b)∧R J H'
noncomputable def PI (X:Cx) (tg iter:Expr) (wi:TI):Prop:=
 ∀(pins:List (Addr×Obj)) (s:Shared) (σ:St) (H:Hp) (R:It→Hp→Prop),Inv X pins σ H s→wi σ H R→
  wpAny (model X.prog X.w) X.A (eval iter X.env) (fun v s1=>wpAny (model X.prog X.w) X.A (pyIter v) (PIE X pins σ tg R) X.xe s1) X.xe s
theorem ahp {M : Model} {A : Around} {E : Value → Shared → Prop} {s : Shared} {tg : Expr} {it : Addr} {u : Value} {o : Obj} {n : String} {vs : Array Value} {Q : Unit → Shared → Prop} (ho : s.heap.get? it = some o) (hc : o.cls = .type n) (hd : o.data = .fields vs)
    (hn : ["enumerate", "zip", "dict_itemiterator", "dict_reverseitemiterator", "odict_iterator", "itertools.zip_longest", "itertools.pairwise"].contains n = false) (hQ : Q () s) : wpAny M A (letOwnedTupleGo tg (.ref it) u) Q E s := by
  unfold letOwnedTupleGo
  cases tg <;> first
    | exact wpAny_pure hQ
    | (cases u <;> first
        | exact wpAny_pure hQ
        | (refine wpAny_bind (wpAny_load ho ?_)
           rw [hc, hd]
           show wpAny M A (if (["enumerate", "zip", "dict_itemiterator", "dict_reverseitemiterator", "odict_iterator", "itertools.zip_longest", "itertools.pairwise"].contains n && vs[0]? == some (rawInt _)) = true then _ else _) Q E s
           rw [if_neg (by intro h; rw [hn, Bool.false_and] at h; cases h)]
           exact wpAny_pure hQ))
noncomputable def Itl (K:PySem.W.Frag) (a:Addr):It:=
 ⟨fun i H=>∃xs x,SqL K H a xs∧xs[i]?=some x,fun i H x H'=>H'=H∧∀xs,SqL K H a xs→xs[i]?=some x,fun i H=>∃xs,SqL K H a xs∧xs.length≤i⟩
noncomputable def Itr (lo:Int) (n:Nat):It:=⟨fun i _=>i < n,fun i H x H'=>H'=H∧x=.int (lo+i),fun i _=>n≤i⟩
theorem ahq {P:Program} {w:World} {K:PySem.W.Frag} {tg:Expr} (a it:Addr):Turn P w K tg (Itl K a) [it] it (fun i h=>h.IsListIter it a i) where
 mem:=by simp
 obj:=fun i h st b hb=>by
  have e:b=it:=by simpa using hb
  subst e
  obtain⟨o,e,c,d⟩:=st
  exact⟨o,e,fun v z=>by rw[d] at z;cases z⟩
 keep:=fun i h h' st k=>st.at fun o e=>k it (by simp) o e
 item:=by
  intro X hP hw hK hc i pins s σ H E I hf st hg
  subst hP hw hK
  obtain⟨xs,x,hq,hx⟩:=hg
  obtain⟨its,rv,p,hz⟩:=I.list hq
  obtain⟨u,hu,ru⟩:=rv.get hx
  obtain⟨f0,f1,f2,f3,f4,f5⟩:=hf it (by simp)
  refine wpAny_pyNext_list_item st p.isList (x:=u) (by simpa using hu) fun h' st' sb=>?_
  have I1:Inv X pins σ H {s with heap:=h'}:=I.turned (t':=s.toks) (fun b o hb e=>(sb.2 b hb).trans e) f0 f1 f3 f4 f5
  obtain⟨o,e,c,d⟩:=id st'
  exact⟨u,rfl,ahp (s:={s with heap:=h'}) e c d (by decide) ⟨x,H,I1,ru,⟨rfl,fun ys hy=>by rw[I.list_inj hy hq];exact hx⟩,st',fun b hb=>(hf b hb).1⟩⟩
 done:=by
  intro X hP hw hK hc i pins s σ H E I hf st hg
  subst hP hw hK
  obtain⟨xs,hq,hx⟩:=hg
  obtain⟨its,rv,p,hz⟩:=I.list hq
  obtain⟨f0,f1,f2,f3,f4,f5⟩:=hf it (by simp)
  have hl:=rv.length
  exact wpAny_pyNext_list_end (I.ok.hd hc) st p.isList (by simp;omega) fun h' eb=>⟨rfl,I.turned (t':=s.toks) (fun b o hb e=>eb b o hb e) f0 f1 f3 f4 f5⟩
 self:=fun _ _ _ _ _ st h=>wpAny_pyIter_listiter st h
theorem ag0 {P:Program} {w:World} {K:PySem.W.Frag} {tg:Expr} (it:Addr) (lo:Int) (n:Nat):Turn P w K tg (Itr lo n) [it] it (fun i h=>IsRangeIter h it (lo+(i:Nat) * 1) ((n:Int) - (i:Nat)) 1) where
 mem:=by simp
 obj:=fun i h st b hb=>by
  have e:b=it:=by simpa using hb
  subst e
  exact⟨_,st,fun v z=>by
   have z':Data.fields _=Data.cell v:=z
   cases z'⟩
 keep:=fun i h h' st k=>k it (by simp) _ st
 item:=by
  intro X hP hw hK hc i pins s σ H E I hf st hg
  subst hP hw hK
  obtain⟨f0,f1,f2,f3,f4,f5⟩:=hf it (by simp)
  have W:=Walks.range (prog:=X.prog) (w:=X.w) (I.ok.hd hc) it lo 1 n
  refine W.item i s _ _ hg st fun v h' tk hv st' kk=>?_
  obtain⟨t,rfl⟩:=hv
  have I1:Inv X pins σ H {s with heap:=h',toks:=tk}:=I.turned (fun b o hb e=>kk b o (by simpa using hb) e) f0 f1 f3 f4 f5
  refine⟨_,rfl,ahp (s:={s with heap:=h',toks:=tk}) (n:="range_iterator") st' rfl rfl (by decide) ⟨.int (lo+i),H,I1,⟨t,?_⟩,⟨rfl,rfl⟩,st',fun b hb=>(hf b hb).1⟩⟩
  rw[Int.mul_one]
 done:=by
  intro X hP hw hK hc i pins s σ H E I hf st hg
  subst hP hw hK
  obtain⟨f0,f1,f2,f3,f4,f5⟩:=hf it (by simp)
  exact wpAny_pyNext_range_end (I.ok.hd hc) st (by have:n≤i:=hg;omega) fun h' eb=>⟨rfl,I.turned (t':=s.toks) (fun b o hb e=>eb b o hb e) f0 f1 f3 f4 f5⟩
 self:=fun _ _ _ _ _ st h=>wpAny_pyIter_rangeiter st h
end L2
namespace L2
open PySem PySem.Spec PyProof.Rows
section
variable {X:Cx} {tg:Expr}
noncomputable def iList (K:PySem.W.Frag) (tl:TE):TI:=fun σ H R=>tl σ H fun x H1=>∃a,x=.ref a∧(∃xs,SqL K H1 a xs)∧R (Itl K a) H1
theorem acj {l:Expr} {tl:TE} (hl:PE X l tl):PI X tg l (iList X.K tl):=by
 intro pins s σ H R I h
 refine thn (hl pins s σ H _ I h) fun v s1 ⟨x,H1,I1,r1,q1⟩=>?_
 obtain⟨a,e,⟨xs,hq⟩,q⟩:=q1
 subst e
 cases r1
 obtain⟨its,rv,p,hz⟩:=I1.list hq
 refine wpAny_pyIter_list p.isList ?_
 refine⟨s1.heap.objs.size,[s1.heap.objs.size],_,_,H1,rfl,I1.kept (t':=s1.toks) fun b o e=>Heap.get?_push_of_some _ e,ahq a _,⟨_,Heap.get?_push_size _ rfl,rfl,rfl⟩,fun b hb=>?_,q⟩
 have e:b=s1.heap.objs.size:=by simpa using hb
 subst e
 exact I1.fpOk (Nat.le_refl _) (I1.hok.fresh (Nat.le_refl _))
theorem ajt {pins:List (Addr×Obj)} {σ:St} {H:Hp} {s:Shared} {R:It→Hp→Prop} {E:Value→Shared→Prop} {lo hi:Int} {t u v:Tok} {tk:Nat} (I:Inv X pins σ H s) (h1: -(2 ^ 62)≤lo) (h2:lo < 2 ^ 62) (h3: -(2 ^ 62)≤hi) (h4:hi < 2 ^ 62)
  (q:R (Itr lo (hi - lo).toNat) H):wpAny (model X.prog X.w) X.A (pyIter (.ref s.heap.objs.size)) (PIE X pins σ tg R) E {s with heap:=s.heap.push {cls:=.type "range",data:=.fields #[.int lo t,.int hi u,.int 1 v]},toks:=tk}:=by
 refine wpAny_pyIter_range (IsRange.new ..) (small_one h1 h2 h3 h4) ?_
 have I1:Inv X pins σ H {s with heap:=s.heap.push {cls:=.type "range",data:=.fields #[.int lo t,.int hi u,.int 1 v]},toks:=tk}:=I.kept fun b o e=>Heap.get?_push_of_some _ e
 refine⟨(s.heap.push {cls:=.type "range",data:=.fields #[.int lo t,.int hi u,.int 1 v]}).objs.size,[(s.heap.push {cls:=.type "range",data:=.fields #[.int lo t,.int hi u,.int 1 v]}).objs.size],_,_,H,rfl,
  I1.kept (t':=tk) fun b o e=>Heap.get?_push_of_some _ e,ag0 _ lo (hi - lo).toNat,?_,fun b hb=>?_,q⟩
 ·have e1:lo+((0:Nat):Int) * 1=lo:=by simp
  have e2:(((hi - lo).toNat:Nat):Int) - ((0:Nat):Int)=Builtin.Range.rangeSize lo hi 1:=by rw[rangeSize_one];split<;>omega
  show IsRangeIter _ _ (lo+((0:Nat):Int) * 1) ((((hi - lo).toNat:Nat):Int) - ((0:Nat):Int)) 1
  rw[e1,e2]
  exact Heap.get?_push_size _ rfl
 ·have e:b=(s.heap.push {cls:=.type "range",data:=.fields #[.int lo t,.int hi u,.int 1 v]}).objs.size:=by simpa using hb
  subst e
  exact I1.fpOk (Nat.le_refl _) (I1.hok.fresh (Nat.le_refl _))
noncomputable def iRng1 (ta:TA):TI:=fun σ H R=>ta σ H fun vs H1=>∃j:Int,vs=[.int j]∧ -(2 ^ 62)≤j∧j < 2 ^ 62∧R (Itr 0 j.toNat) H1
theorem ab8 {a:Expr} {ta:TA} {p pos:Pos} (hg:Gl X "range") (hm:X.mg "range"=none) (ha:PA X [a] ta) (hs:starEach [a] X.env=[(false,eval a X.env)]:=by rfl):PI X tg (.Call (.Name "range" p) [a] [] pos) (iRng1 ta):=by
 intro pins s σ H R I h
 refine Call_ (aev I hg hm boot_range (PyProof.Rows.callWith_type1 (thn (ha pos pins s σ H _ I h) fun us s1 ⟨vs,H1,I1,r1,q1⟩=>?_) hs rfl))
 obtain⟨j,e,q1,q2,q⟩:=q1
 subst e
 cases r1 with
 |cons r rr=>
  cases rr
  obtain⟨t,rfl⟩:=r
  exact call_range_1 (ajt I1 (by omega) (by omega) q1 q2 (by simpa using q))
noncomputable def tFor (wi:TI) (g:TG) (tb:TS):TS:=fun D σ H=>wi σ H fun J H1=>∃W:Nat→Nat→St→Hp→Prop,(∃m,W 0 m σ H1)∧∀i m σ H,W i m σ H→
 (J.stop i H∧D.nx σ H)∨(J.go i H∧∃N:St→Hp→Prop,(∀σ' H',N σ' H'→∃m',m' < m∧W (i+1) m' σ' H')∧∀x H',J.yld i H x H'→g x σ H' fun σ2 H2=>tb {D with nx:=N,ct:=N,bk:=D.nx} σ2 H2)
noncomputable def pinsAt (fp:List Addr) (h:Heap):List (Addr×Obj):=fp.filterMap fun b=>(h.get? b).map fun o=>(b,o)
theorem abq {fp:List Addr} {h:Heap} {b:Addr} {o:Obj} (hb:b∈fp) (e:h.get? b=some o):(b,o)∈pinsAt fp h:=List.mem_filterMap.mpr ⟨b,hb,by rw[e];rfl⟩
theorem ahr {fp:List Addr} {h:Heap} {p:Addr×Obj} (hp:p∈pinsAt fp h):p.1∈fp∧h.get? p.1=some p.2:=by
 obtain⟨b,hb,e⟩:=List.mem_filterMap.mp hp
 cases q:h.get? b with
 |none=>rw[q] at e;cases e
 |some o=>
  rw[q] at e
  have e':(b,o)=p:=Option.some.inj e
  subst e'
  exact⟨hb,q⟩
theorem Inv.pinned {pins:List (Addr×Obj)} {σ:St} {H:Hp} {s:Shared} {fp:List Addr} (I:Inv X pins σ H s) (hf:∀b∈fp,FpOk X pins H b) (ho:∀b∈fp,∃o,s.heap.get? b=some o∧∀v,o.data≠.cell v):Inv X (pins++pinsAt fp s.heap) σ H s:=
 I.pins_of fun p hp=>(List.mem_append.mp hp).elim (fun z=>I.pin p (List.mem_append_right _ z)) fun z=>by
  obtain⟨hb,e⟩:=ahr z
  obtain⟨f0,f1,f2,_⟩:=hf p.1 hb
  obtain⟨o,e',d⟩:=ho p.1 hb
  rw[e] at e';cases e'
  exact⟨e,f0,f1,f2,d⟩
theorem Inv.unpinned {pins pl:List (Addr×Obj)} {σ:St} {H:Hp} {s:Shared} (I:Inv X (pins++pl) σ H s):Inv X pins σ H s:=I.pins_of fun p hp=>I.pin p (List.mem_append_right _ (List.mem_append_left _ hp))
theorem ps_for {iter:Expr} {body:List Stmt} {wi:TI} {g:TG} {tb:TS} {pos:Pos} (hp:PassesOwn (model X.prog X.w) X.A X.env X.xe) (hc:X.calm=true) (hi:PI X tg iter wi) (hg:PG X tg g) (hb:PSs X body tb)
  (hs:∀x,foldedSetIterable iter X.env x=pure x:=by intro _;rfl):PS X (.For tg iter body [] pos) (tFor wi g tb):=by
 intro pins s σ H D I h
 refine wpAny_For (thn (hi pins s σ H _ I h) fun v s1 h1=>thn h1 fun itv s2 h2=>?_) hs
 obtain⟨it,fp,tn,J,H2,e,I2,T,st2,f2,W,⟨m0,w0⟩,turn⟩:=h2
 subst e
 have stat:∀{H':Hp},(∀b∈fp,H' b=none)→∀b∈fp,FpOk X pins H' b:=fun hn b hb=>⟨hn b hb,(f2 b hb).2⟩
 refine codeAny_forLoop_any (fun n s'=>∃i σ' H',Inv X pins σ' H' s'∧tn i s'.heap∧(∀b∈fp,H' b=none)∧W i n σ' H') ?_ m0 ⟨0,σ,H2,I2,st2,fun b hb=>(f2 b hb).1,w0⟩
 rintro n s3 ⟨i,σ3,H3,I3,st3,fr3,w3⟩
 rcases turn i n σ3 H3 w3 with ⟨stop,qn⟩|⟨go,N,hN,step⟩
 ·refine wpAny_passesOwn hp (thn (T.done X rfl rfl rfl hc i pins s3 σ3 H3 X.xe I3 (stat fr3) st3 stop) fun r s4 ⟨hr,I4⟩=>?_)
  subst hr
  exact wpAny_execs_nil ⟨σ3,H3,I4,qn⟩
 ·refine wpAny_passesOwn hp (thn (T.item X rfl rfl rfl hc i pins s3 σ3 H3 X.xe I3 (stat fr3) st3 go) fun r s4 ⟨u,hr,h4⟩=>?_)
  subst hr
  refine wpAny_passesOwn hp (thn h4 fun _ s5 ⟨x,H5,I5,r5,y5,st5,fr5⟩=>?_)
  have I5':=I5.pinned (stat fr5) (T.obj _ _ st5)
  refine wpAny_passesOwn hp (thn (hg _ s5 σ3 H5 x u _ I5' r5 (step x H5 y5)) fun _ s6 ⟨σ6,H6,I6,q6⟩=>?_)
  refine wpAny_passesOwn hp (thn (hb _ s6 σ6 H6 _ I6 q6) fun f s7 q7=>?_)
  have again:∀{σ7:St} {H7:Hp},Inv X (pins++pinsAt fp s5.heap) σ7 H7 s7→N σ7 H7→∃m,m < n∧∃i σ' H',Inv X pins σ' H' s7∧tn i s7.heap∧(∀b∈fp,H' b=none)∧W i m σ' H':=fun {σ7 H7} I7 n7=>by
   obtain⟨m',hm,w7⟩:=hN σ7 H7 n7
   refine⟨m',hm,i+1,σ7,H7,I7.unpinned,T.keep _ _ _ st5 fun b hb o e=>(I7.pin (b,o) (List.mem_append_right _ (List.mem_append_right _ (abq hb e)))).1,fun b hb=>?_,w7⟩
   obtain⟨o,e,d⟩:=T.obj _ _ st5 b hb
   exact (I7.pin (b,o) (List.mem_append_right _ (List.mem_append_right _ (abq hb e)))).2.1
  cases f with
  |next=>obtain⟨σ7,H7,I7,n7⟩:=q7;exact again I7 n7
  |cont=>obtain⟨σ7,H7,I7,n7⟩:=q7;exact again I7 n7
  |brk=>obtain⟨σ7,H7,I7,q7⟩:=q7;exact⟨σ7,H7,I7.unpinned,q7⟩
  |ret v=>obtain⟨x7,σ7,H7,I7,r7,q7⟩:=q7;exact⟨x7,σ7,H7,I7.unpinned,r7,q7⟩
end
theorem aju {K:PySem.W.Frag} {a:Addr} {xs:List V} {g:TG} {tb:TS} {D:Ends} {σ:St} {H:Hp} (Pv:Nat→St→Hp→Prop) (h0:Pv 0 σ H) (hl:∀i σ H,i≤xs.length→Pv i σ H→SqL K H a xs)
  (hs:∀i x σ H,xs[i]?=some x→Pv i σ H→g x σ H fun σ2 H2=>tb {D with nx:=Pv (i+1),ct:=Pv (i+1),bk:=D.nx} σ2 H2) (hd:∀σ H,Pv xs.length σ H→D.nx σ H):
  ∃W:Nat→Nat→St→Hp→Prop,(∃m,W 0 m σ H)∧∀i m σ H,W i m σ H→
   ((Itl K a).stop i H∧D.nx σ H)∨((Itl K a).go i H∧∃N:St→Hp→Prop,(∀σ' H',N σ' H'→∃m',m' < m∧W (i+1) m' σ' H')∧∀x H',(Itl K a).yld i H x H'→g x σ H' fun σ2 H2=>tb {D with nx:=N,ct:=N,bk:=D.nx} σ2 H2):=by
 refine⟨fun i m σ H=>m=xs.length - i∧i≤xs.length∧Pv i σ H,⟨xs.length,by simp,Nat.zero_le _,h0⟩,?_⟩
 rintro i m σ H ⟨rfl,hi,p⟩
 have q:=hl i σ H hi p
 by_cases hlt:i < xs.length
 ·refine .inr ⟨⟨xs,xs[i],q,by simp[hlt]⟩,Pv (i+1),fun σ' H' p'=>⟨xs.length - (i+1),by omega,rfl,hlt,p'⟩,fun x H' y=>?_⟩
  obtain⟨e,y⟩:=y
  subst e
  exact hs i x σ _ (y xs q) p
 ·have e:i=xs.length:=by omega
  subst e
  exact .inl ⟨⟨xs,q,Nat.le_refl _⟩,hd σ H p⟩
theorem ahs {lo:Int} {n:Nat} {g:TG} {tb:TS} {D:Ends} {σ:St} {H:Hp} (Pv:Nat→St→Hp→Prop) (h0:Pv 0 σ H)
  (hs:∀i σ H,i < n→Pv i σ H→g (.int (lo+i)) σ H fun σ2 H2=>tb {D with nx:=Pv (i+1),ct:=Pv (i+1),bk:=D.nx} σ2 H2) (hd:∀σ H,Pv n σ H→D.nx σ H):
  ∃W:Nat→Nat→St→Hp→Prop,(∃m,W 0 m σ H)∧∀i m σ H,W i m σ H→
   ((Itr lo n).stop i H∧D.nx σ H)∨((Itr lo n).go i H∧∃N:St→Hp→Prop,(∀σ' H',N σ' H'→∃m',m' < m∧W (i+1) m' σ' H')∧∀x H',(Itr lo n).yld i H x H'→g x σ H' fun σ2 H2=>tb {D with nx:=N,ct:=N,bk:=D.nx} σ2 H2):=by
 refine⟨fun i m σ H=>m=n - i∧i≤n∧Pv i σ H,⟨n,by simp,Nat.zero_le _,h0⟩,?_⟩
 rintro i m σ H ⟨rfl,hi,p⟩
 by_cases hlt:i < n
 ·refine .inr ⟨hlt,Pv (i+1),fun σ' H' p'=>⟨n - (i+1),by omega,rfl,hlt,p'⟩,fun x H' y=>?_⟩
  obtain⟨e,y⟩:=y
  subst e y
  exact hs i σ _ hlt p
 ·have e:i=n:=by omega
  subst e
  exact .inl ⟨Nat.le_refl _,hd σ H p⟩
end L2
namespace L2
open PySem PySem.Spec PyProof.Rows
noncomputable abbrev R2:=V→V→Hp→VK→Prop
noncomputable def OpR (X:Cx) (f:Value→Value→Sem Value) (r:R2):Prop:=
 ∀(pins:List (Addr×Obj)) (s:Shared) (σ:St) (H:Hp) (x y:V) (v u:Value) (Q:VK),Inv X pins σ H s→RelV x v→RelV y u→r x y H Q→
  wpAny (model X.prog X.w) X.A (f v u) (EP X pins σ Q) X.xe s
noncomputable def CallR (X:Cx) (f:Value) (r:List V→Hp→VK→Prop):Prop:=
 ∀(pins:List (Addr×Obj)) (s:Shared) (σ:St) (H:Hp) (xs:List V) (us:List Value) (Q:VK),Inv X pins σ H s→Vals xs us→r xs H Q→
  wpAny (model X.prog X.w) X.A (call f us) (EP X pins σ Q) X.xe s
noncomputable def TruR (X:Cx) (r:V→Hp→(Bool→Hp→Prop)→Prop):Prop:=
 ∀(pins:List (Addr×Obj)) (s:Shared) (σ:St) (H:Hp) (x:V) (v:Value) (Q:Bool→Hp→Prop),Inv X pins σ H s→RelV x v→r x H Q→
  wpAny (model X.prog X.w) X.A (truthy v) (TP X pins σ Q) X.xe s
noncomputable def tOp (r:R2) (ta tb:TE):TE:=fun σ H Q=>ta σ H fun x H1=>tb σ H1 fun y H2=>r x y H2 Q
noncomputable def rI (C:Int→Int→Prop) (g:Int→Int→V):R2:=fun x y H Q=>∃i j,x=.int i∧y=.int j∧C i j∧Q (g i j) H
noncomputable def rI0 (g:Int→Int→V):R2:=fun x y H Q=>∃i j,x=.int i∧y=.int j∧Q (g i j) H
section
variable {X:Cx} {a b c:Expr} {ta tb tc:TE} {pos:Pos}
theorem binT (ha:PE X a ta) (hb:PE X b tb) {pins:List (Addr×Obj)} {s:Shared} {σ:St} {H:Hp} {R:V→V→Hp→Prop} (I:Inv X pins σ H s)
  (h:ta σ H fun x H1=>tb σ H1 fun y H2=>R x y H2) {Q:Value→Shared→Prop} {f:Value→Value→Sem Value}
  (hf:∀v u s2 x y H2,Inv X pins σ H2 s2→RelV x v→RelV y u→R x y H2→wpAny (model X.prog X.w) X.A (f v u) Q X.xe s2):
  wpAny (model X.prog X.w) X.A (eval a X.env) (fun v s₁=>wpAny (model X.prog X.w) X.A (eval b X.env) (fun u s₂=>wpAny (model X.prog X.w) X.A (f v u) Q X.xe s₂) X.xe s₁) X.xe s:=by
 refine thn (ha pins s σ H _ I h) fun v s1 ⟨x,H1,I1,r1,q1⟩=>?_
 refine thn (hb pins s1 σ H1 _ I1 q1) fun u s2 ⟨y,H2,I2,r2,q2⟩=>?_
 exact hf v u s2 x y H2 I2 r1 r2 q2
theorem aao {op:Operator} {r:R2} (ho:OpR X (binaryOp op) r) (ha:PE X a ta) (hb:PE X b tb):PE X (.BinOp a op b pos) (tOp r ta tb):=by
 intro pins s σ H Q I h
 exact wpAny_BinOp (binT ha hb I h fun v u s2 x y H2 I2 rx ry q=>ho pins s2 σ H2 x y v u Q I2 rx ry q)
theorem opI {f:Value→Value→Sem Value} {C:Int→Int→Prop} {g:Int→Int→Int}
  (rule:∀(i j:Int) (t u:Tok) (s:Shared) (Q:Value→Shared→Prop) (E:Value→Shared→Prop),C i j→Q (.int (g i j) s.toks) {s with toks:=s.toks+1}→wpAny (model X.prog X.w) X.A (f (.int i t) (.int j u)) Q E s):
  OpR X f (rI C fun i j=>.int (g i j)):=by
 intro pins s σ H x y v u Q I rx ry h
 obtain⟨i,j,rfl,rfl,hc,q⟩:=h
 obtain⟨t,rfl⟩:=rx
 obtain⟨t',rfl⟩:=ry
 exact rule i j t t' s _ _ hc ⟨.int (g i j),H,I.tok _,⟨_,rfl⟩,q⟩
theorem opI0 {f:Value→Value→Sem Value} {g:Int→Int→Int}
  (rule:∀(i j:Int) (t u:Tok) (s:Shared) (Q:Value→Shared→Prop) (E:Value→Shared→Prop),Q (.int (g i j) s.toks) {s with toks:=s.toks+1}→wpAny (model X.prog X.w) X.A (f (.int i t) (.int j u)) Q E s):
  OpR X f (rI0 fun i j=>.int (g i j)):=by
 intro pins s σ H x y v u Q I rx ry h
 obtain⟨i,j,rfl,rfl,q⟩:=h
 obtain⟨t,rfl⟩:=rx
 obtain⟨t',rfl⟩:=ry
 exact rule i j t t' s _ _ ⟨.int (g i j),H,I.tok _,⟨_,rfl⟩,q⟩
theorem opB0 {f:Value→Value→Sem Value} {g:Int→Int→Bool}
  (rule:∀(i j:Int) (t u:Tok) (s:Shared) (Q:Value→Shared→Prop) (E:Value→Shared→Prop),Q (.bool (g i j)) s→wpAny (model X.prog X.w) X.A (f (.int i t) (.int j u)) Q E s):
  OpR X f (rI0 fun i j=>.bl (g i j)):=by
 intro pins s σ H x y v u Q I rx ry h
 obtain⟨i,j,rfl,rfl,q⟩:=h
 obtain⟨t,rfl⟩:=rx
 obtain⟨t',rfl⟩:=ry
 exact rule i j t t' s _ _ ⟨.bl (g i j),H,I,rfl,q⟩
noncomputable def CDiv (i j:Int):Prop:=0 < j∧j < 1073741824
noncomputable def CPow (i j:Int):Prop:=0≤j∧j≤1000000∧i.natAbs < 2 ^ 64
noncomputable def CMul (i j:Int):Prop:=(-(2 ^ 64) < i∧i < 2 ^ 64)∨(-(2 ^ 64) < j∧j < 2 ^ 64)
theorem CMul.ok {i j:Int} (h:CMul i j):IntMulOk i j:=by
 rcases h with ⟨h1,h2⟩|⟨h1,h2⟩
 ·exact .of_left (intBits_le_64 h1 h2)
 ·exact .of_right (intBits_le_64 h1 h2)
theorem abw:OpR X (binaryOp .Add) (rI0 fun i j=>.int (i+j)):=opI0 fun _ _ _ _ _ _ _ q=>add_int q
theorem act:OpR X (binaryOp .Mult) (rI CMul fun i j=>.int (i * j)):=opI fun _ _ _ _ _ _ _ hc q=>mul_int q hc.ok
theorem ack:OpR X (binaryOp .FloorDiv) (rI CDiv fun i j=>.int (i / j)):=opI fun i j _ _ _ _ _ hc q=>by
 have h1:(0:Int) < j:=hc.1
 have h2:j < 1073741824:=hc.2
 exact floordiv_int (by omega) (by rw[Int.fdiv_eq_ediv_of_nonneg i (by omega)];exact q) (.inl (PyProof.noPylong_small (by omega)))
theorem abf:OpR X (binaryOp .Mod) (rI (fun _ j=>0 < j) fun i j=>.int (i % j)):=opI fun i j _ _ _ _ _ hc q=>by
 have h1:(0:Int) < j:=hc
 exact mod_int' (by omega) (by rw[Int.fmod_eq_emod_of_nonneg i (by omega)];exact q)
theorem aht:OpR X (binaryOp .Pow) (rI CPow fun i j=>.int (i ^ j.toNat)):=opI fun _ _ _ _ _ _ _ hc q=>pow_int_small hc.1 hc.2.1 hc.2.2 q
end
noncomputable def scal:V→V→Bool
 |.non,.non=>true|.non,.int _=>true|.int _,.non=>true|.non,.bl _=>true|.bl _,.non=>true|.non,.str _=>true|.str _,.non=>true
 |.int _,.int _=>true|.bl _,.bl _=>true|.str _,.str _=>true|.byt _,.byt _=>true
 |.int _,.str _=>true|.str _,.int _=>true|.bl _,.str _=>true|.str _,.bl _=>true
 |_,_=>false
noncomputable def rEq:R2:=fun x y H Q=>scal x y=true∧Q (.bl (decide (x=y))) H
noncomputable def rNe:R2:=fun x y H Q=>scal x y=true∧Q (.bl (!decide (x=y))) H
theorem ahu {i j:Int}:decide (V.int i=V.int j)=(i == j):=by
 rw[Bool.eq_iff_iff]
 simp
theorem aky {i j:Bool}:decide (V.bl i=V.bl j)=(i == j):=by
 rw[Bool.eq_iff_iff]
 simp
theorem ahv {i j:Str}:decide (V.str i=V.str j)=(i == j):=by
 rw[Bool.eq_iff_iff]
 simp
theorem ahw {i j:Array UInt8}:decide (V.byt i=V.byt j)=(i.toList == j.toList):=by
 rw[Bool.eq_iff_iff]
 cases i
 cases j
 simp
section
variable {X:Cx} {a b c:Expr} {ta tb tc:TE} {pos:Pos}
theorem aax {pins:List (Addr×Obj)} {σ:St} {H:Hp} {s:Shared} {Q:VK} {k k':Bool} (I:Inv X pins σ H s) (q:Q (.bl k) H) (e:k=k'):EP X pins σ Q (.bool k') s:=by
 subst e
 exact⟨.bl k,H,I,rfl,q⟩
theorem adg:OpR X (compareOp .Eq) rEq:=by
 intro pins s σ H x y v u Q I rx ry h
 obtain⟨hs,q⟩:=h
 cases x with
 |non=>
  cases rx
  cases y with
  |non=>cases ry;exact PySem.EqNone.eq_none_none (aax I q (by simp))
  |bl j=>cases ry;exact PySem.EqNone.eq_none_bool (aax I q (by simp))
  |int j=>obtain⟨t',rfl⟩:=ry;exact PySem.EqNone.eq_none_int (aax I q (by simp))
  |str j=>obtain⟨t',rfl⟩:=ry;exact PySem.EqNone.eq_none_str (aax I q (by simp))
  |_=>exact absurd (show false=true from hs) Bool.false_ne_true
 |bl i=>
  cases rx
  cases y with
  |non=>cases ry;exact PySem.EqNone.eq_bool_none (aax I q (by simp))
  |bl j=>cases ry;exact eq_bool (aax I q aky)
  |str j=>obtain⟨t',rfl⟩:=ry;exact PySem.EqMixed.eq_bool_str (aax I q (by simp))
  |_=>exact absurd (show false=true from hs) Bool.false_ne_true
 |int i=>
  obtain⟨t,rfl⟩:=rx
  cases y with
  |non=>cases ry;exact PySem.EqNone.eq_int_none (aax I q (by simp))
  |int j=>obtain⟨t',rfl⟩:=ry;exact eq_int (aax I q ahu)
  |str j=>obtain⟨t',rfl⟩:=ry;exact PySem.EqMixed.eq_int_str (aax I q (by simp))
  |_=>exact absurd (show false=true from hs) Bool.false_ne_true
 |str i=>
  obtain⟨t,rfl⟩:=rx
  cases y with
  |non=>cases ry;exact PySem.EqNone.eq_str_none (aax I q (by simp))
  |bl j=>cases ry;exact PySem.EqMixed.eq_str_bool (aax I q (by simp))
  |int j=>obtain⟨t',rfl⟩:=ry;exact PySem.EqMixed.eq_str_int (aax I q (by simp))
  |str j=>obtain⟨t',rfl⟩:=ry;exact eq_str (aax I q ahv)
  |_=>exact absurd (show false=true from hs) Bool.false_ne_true
 |byt i=>
  obtain⟨t,rfl⟩:=rx
  cases y with
  |byt j=>obtain⟨t',rfl⟩:=ry;exact PySem.W.eq_bytes (aax I q ahw)
  |_=>exact absurd (show false=true from hs) Bool.false_ne_true
 |_=>cases y<;>exact absurd (show false=true from hs) Bool.false_ne_true
theorem ajv:OpR X (compareOp .NotEq) rNe:=by
 intro pins s σ H x y v u Q I rx ry h
 obtain⟨hs,q⟩:=h
 cases x with
 |non=>
  cases rx
  cases y with
  |non=>cases ry;exact PySem.EqNone.ne_none_none (aax I q (by simp))
  |bl j=>cases ry;exact PySem.EqNone.ne_none_bool (aax I q (by simp))
  |int j=>obtain⟨t',rfl⟩:=ry;exact PySem.EqNone.ne_none_int (aax I q (by simp))
  |str j=>obtain⟨t',rfl⟩:=ry;exact PySem.EqNone.ne_none_str (aax I q (by simp))
  |_=>exact absurd (show false=true from hs) Bool.false_ne_true
 |bl i=>
  cases rx
  cases y with
  |non=>cases ry;exact PySem.EqNone.ne_bool_none (aax I q (by simp))
  |bl j=>cases ry;exact ne_bool (aax I q (congrArg not aky))
  |str j=>obtain⟨t',rfl⟩:=ry;exact PySem.EqMixed.ne_bool_str (aax I q (by simp))
  |_=>exact absurd (show false=true from hs) Bool.false_ne_true
 |int i=>
  obtain⟨t,rfl⟩:=rx
  cases y with
  |non=>cases ry;exact PySem.EqNone.ne_int_none (aax I q (by simp))
  |int j=>obtain⟨t',rfl⟩:=ry;exact ne_int (aax I q (congrArg not ahu))
  |str j=>obtain⟨t',rfl⟩:=ry;exact PySem.EqMixed.ne_int_str (aax I q (by simp))
  |_=>exact absurd (show false=true from hs) Bool.false_ne_true
 |str i=>
  obtain⟨t,rfl⟩:=rx
  cases y with
  |non=>cases ry;exact PySem.EqNone.ne_str_none (aax I q (by simp))
  |bl j=>cases ry;exact PySem.EqMixed.ne_str_bool (aax I q (by simp))
  |int j=>obtain⟨t',rfl⟩:=ry;exact PySem.EqMixed.ne_str_int (aax I q (by simp))
  |str j=>obtain⟨t',rfl⟩:=ry;exact ne_str (aax I q (congrArg not ahv))
  |_=>exact absurd (show false=true from hs) Bool.false_ne_true
 |byt i=>
  obtain⟨t,rfl⟩:=rx
  cases y with
  |byt j=>obtain⟨t',rfl⟩:=ry;exact PySem.W.ne_bytes (aax I q (congrArg not ahw))
  |_=>exact absurd (show false=true from hs) Bool.false_ne_true
 |_=>cases y<;>exact absurd (show false=true from hs) Bool.false_ne_true
theorem alk:OpR X (compareOp .Lt) (rI0 fun i j=>.bl (decide (i < j))):=opB0 fun _ _ _ _ _ _ _ q=>lt_int q
theorem op_gt:OpR X (compareOp .Gt) (rI0 fun i j=>.bl (decide (j < i))):=opB0 fun _ _ _ _ _ _ _ q=>gt_int q
theorem aez:OpR X (compareOp .Is) (fun x y H Q=>y=.non∧Q (.bl (decide (x=.non))) H):=by
 intro pins s σ H x y v u Q I rx ry h
 obtain⟨rfl,q⟩:=h
 cases ry
 refine is_none_gen (aax I q ?_)
 cases x<;>first
  |(cases rx;rfl)
  |(obtain⟨t,rfl⟩:=rx;rfl)
theorem ab9:OpR X (compareOp .IsNot) (fun x y H Q=>y=.non∧Q (.bl (!decide (x=.non))) H):=by
 intro pins s σ H x y v u Q I rx ry h
 obtain⟨rfl,q⟩:=h
 cases ry
 refine isnot_none_gen (aax I q ?_)
 cases x<;>first
  |(cases rx;rfl)
  |(obtain⟨t,rfl⟩:=rx;rfl)
theorem nomark (b:Expr) {op:CmpOp} (h:op≠.In:=by decide) (h2:op≠.NotIn:=by decide):behindInMarks op b=false:=by
 have e1:(op == CmpOp.In)=false:=by cases op<;>first|rfl|exact absurd rfl h
 have e2:(op == CmpOp.NotIn)=false:=by cases op<;>first|rfl|exact absurd rfl h2
 cases b<;>simp[behindInMarks,e1,e2]
theorem abg {op:CmpOp} {r:R2} (ho:OpR X (compareOp op) r) (ha:PE X a ta) (hb:PE X b tb) (hm:behindInMarks op b=false):PE X (.Compare a [op] [b] pos) (tOp r ta tb):=by
 intro pins s σ H Q I h
 exact wpAny_Compare1 (binT ha hb I h fun v u s2 x y H2 I2 rx ry q=>ho pins s2 σ H2 x y v u Q I2 rx ry q) hm
noncomputable def tTest (t:TE):TT:=fun σ H Q=>t σ H fun x H'=>∃k,x=.bl k∧Q k H'
theorem aar {op:CmpOp} {r:R2} (ho:OpR X (compareOp op) r) (ha:PE X a ta) (hb:PE X b tb) (hm:behindInMarks op b=false):PT X (.Compare a [op] [b] pos) (tTest (tOp r ta tb)):=by
 intro pins s σ H Q I h
 refine wpAny_isTrue_Compare1 (thn (ha pins s σ H _ I h) fun v s1 ⟨x,H1,I1,r1,q1⟩=>thn (hb pins s1 σ H1 _ I1 q1) fun u s2 ⟨y,H2,I2,r2,q2⟩=>
  thn (ho pins s2 σ H2 x y v u _ I2 r1 r2 q2) fun c s3 ⟨z,H3,I3,r3,k,e,q3⟩=>?_) hm
 subst e
 cases r3
 exact wpAny_truthy_bool ⟨H3,I3,q3⟩
noncomputable def TruV (K:PySem.W.Frag) (x:V) (H:Hp) (k:Bool):Prop:=
 match x with
 |.non=>k=false
 |.bl b=>k=b
 |.int i=>k=(i != 0)
 |.str y=>y.length≤sizeLine∧k=((y.length:Int) != 0)
 |.byt y=>y.size≤sizeLine∧k=((y.size:Int) != 0)
 |.ref p=>(∃xs,SqL K H p xs∧k= !xs.isEmpty)∨(∃xs,SqT K H p xs∧k= !xs.isEmpty)∨∃kvs,H p=some (.dK kvs)∧k= !kvs.isEmpty
 |_=>False
theorem line63:(sizeLine:Nat) < 2 ^ 63:=by rw[sizeLine_eq];decide
theorem vals1 {x:V} {us:List Value} (r:Vals [x] us):∃u,us=[u]∧RelV x u:=by
 cases r with
 |cons r1 r2=>cases r2;exact⟨_,rfl,r1⟩
theorem vals2 {x y:V} {us:List Value} (r:Vals [x,y] us):∃u w',us=[u,w']∧RelV x u∧RelV y w':=by
 cases r with
 |cons r1 r2=>
  cases r2 with
  |cons r3 r4=>cases r4;exact⟨_,_,rfl,r1,r3⟩
theorem ahx (hc:X.calm=true):CallR X (.builtin "min") (fun xs H Q=>∃i j,xs=[.int i,.int j]∧Q (.int (if j < i then j else i)) H):=by
 intro pins s σ H xs us Q I r h
 obtain⟨i,j,rfl,q⟩:=h
 obtain⟨u,w',rfl,⟨t,rfl⟩,⟨t',rfl⟩⟩:=vals2 r
 refine min_two_ints (I.ok.hd hc) fun h' tk k=>⟨_,H,I.kept k,?_,q⟩
 by_cases hj:j < i
 ·rw[if_pos hj,if_pos hj];exact⟨_,rfl⟩
 ·rw[if_neg hj,if_neg hj];exact⟨_,rfl⟩
noncomputable def LenV (K:PySem.W.Frag) (x:V) (H:Hp) (n:Nat):Prop:=
 match x with
 |.str y=>y.length≤sizeLine∧n=y.length
 |.byt y=>y.size≤sizeLine∧n=y.size
 |.ref p=>(∃xs,SqL K H p xs∧n=xs.length)∨∃xs,SqT K H p xs∧n=xs.length
 |_=>False
theorem aa0:CallR X (.builtin "len") (fun xs H Q=>∃x n,xs=[x]∧LenV X.K x H n∧Q (.int n) H):=by
 intro pins s σ H xs us Q I r h
 obtain⟨x,n,rfl,e,q⟩:=h
 obtain⟨u,rfl,rx⟩:=vals1 r
 have hl:=line63
 have hs:sizeLine=16777216:=sizeLine_eq
 cases x with
 |str y=>
  obtain⟨t,rfl⟩:=rx
  obtain⟨hy,e'⟩:y.length≤sizeLine∧n=y.length:=e
  subst e'
  exact len_str (by omega) ⟨.int _,H,I.tok _,⟨_,rfl⟩,q⟩
 |byt y=>
  obtain⟨t,rfl⟩:=rx
  obtain⟨hy,e'⟩:y.size≤sizeLine∧n=y.size:=e
  subst e'
  exact PySem.W.len_bytes (by omega) ⟨.int _,H,I.tok _,⟨_,rfl⟩,q⟩
 |ref p=>
  cases rx
  have e':(∃xs,SqL X.K H p xs∧n=xs.length)∨∃xs,SqT X.K H p xs∧n=xs.length:=e
  rcases e' with ⟨xs,hx,e'⟩|⟨xs,hx,e'⟩
  ·subst e'
   obtain⟨its,r',pl,hz⟩:=I.list hx
   have hlen:=r'.length
   exact Calls.call_len_list pl.isList (by simp only[List.size_toArray];omega) ⟨.int xs.length,H,I.tok _,⟨_,by simp only[List.size_toArray];rw[hlen]⟩,q⟩
  ·subst e'
   obtain⟨its,r',pl,hz⟩:=I.tuple hx
   have hlen:=r'.length
   exact len_tuple pl (by simp only[List.size_toArray];omega) ⟨.int xs.length,H,I.tok _,⟨_,by simp only[List.size_toArray];rw[hlen]⟩,q⟩
 |_=>exact (show False from e).elim
end
end L2
namespace L2
open PySem PySem.Spec PyProof.Rows
structure ObjM (h:Heap) (x dx C:Addr) (mA:Str→Option Value):Prop where
 obj:h.get? x=some (PySem.W.instObj C dx)
 ns:h.Ns1 dx mA
 ne:dx≠x
theorem ahy {h:Heap} {dx:Addr} {mA:Str→Option Value} (n:h.Ns1 dx mA):∃od,h.get? dx=some od∧∀name,PySem.W.lookIn name od=some (mA name):=by
 obtain⟨o,es,ep,ho,hd,hk,_,hm⟩:=n
 refine⟨o,ho,fun name=>?_⟩
 have e:=hm name
 unfold nsFind findBy at e
 rw[←Array.find?_toList] at e
 unfold PySem.W.lookIn
 rw[hd]
 dsimp only
 split
 ·rename_i y q
  rw[q] at e
  exact congrArg some e
 ·rename_i q
  rw[q] at e
  have a:es.toList.any (·.refKey)=false:=by
   rw[List.any_eq_false]
   intro y hy
   obtain⟨z,t,hkey⟩:=hk y (Array.mem_toList_iff.mp hy)
   simp[DictEntry.refKey,hkey]
  have a':¬es.toList.any (·.refKey)=true:=by rw[a];exact Bool.false_ne_true
  rw[if_neg a']
  exact congrArg some e
theorem ObjM.look {h:Heap} {x dx C:Addr} {mA:Str→Option Value} (I:ObjM h x dx C mA):∃od,PySem.W.InstAt h x (PySem.W.instObj C dx) C (some od)∧∀name,PySem.W.lookIn name od=some (mA name):=
 let ⟨od,ho,hl⟩:=ahy I.ns
 ⟨od,⟨I.obj,rfl,rfl,ho⟩,hl⟩
section
variable {prog:Program} {w:World} {A:Around} {E:Value→Shared→Prop} {s:Shared} {K:PySem.W.Frag} {x dx C f:Addr} {mA:Str→Option Value} {name:Str} {v:Value}
theorem alm {expr:Bool} {Q:Value→Shared→Prop} (X:K.In s.heap) (I:ObjM s.heap x dx C mA) (hg:PySem.W.plainGet K C name=true) (hh:PySem.W.hasDictIn K C=true)
  (ha:PySem.W.findIn K (.ref C) name=some none) (hv:mA name=some v) (hv':PySem.W.handedIn v=true) (h:Q v {s with toks:=s.toks+1}):
  wpAny (model prog w) A (getAttr (.ref x) name expr) Q E s:=by
 obtain⟨od,J,hl⟩:=I.look
 exact PySem.W.get_value X J (PySem.W.plainGet_of hg).1 (PySem.W.findObj_own hh ha rfl (by rw[hl,hv])) hv' h
theorem ajw {pl:Sem Bool} {Q:Value×List Value→Shared→Prop} (X:K.In s.heap) (I:ObjM s.heap x dx C mA) (hg:PySem.W.plainGet K C name=true)
  (hf:PySem.W.findIn K (.ref C) name=some (some (.ref f))) (ht:PySem.W.isFn K (.ref f)=true) (hv:mA name=none) (h:Q (.ref f,[.ref x]) s):
  wpAny (model prog w) A (getMethod (.ref x) name pl) Q E s:=by
 obtain⟨od,J,hl⟩:=I.look
 exact PySem.W.method_fn X J (PySem.W.plainGet_of hg).1 (PySem.W.plainGet_of hg).2 hf (beq_iff_eq.mp ht) (by show (PySem.W.lookIn name od).map (·.isSome)=some false;rw[hl,hv];rfl) h
theorem aln {ns:List Str} {Q:Unit→Shared→Prop} (X:K.In s.heap) (I:ObjM s.heap x dx C mA)
  (hs:PySem.W.findIn K (.ref C) "__setattr__"=some (some (.builtin "object.__setattr__"))) (hp:PySem.W.plainOver K C=true) (ht:PySem.W.takerIn K C name=some none) (hh:PySem.W.hasDictIn K C=true)
  (hw:PySem.Within mA ns) (hsz:ns.length≤sizeLine)
  (h:∀h',ObjM h' x dx C (fun y=>if y=name then some v else mA y)→Heap.SameBut dx s.heap h'→Q () {s with heap:=h',toks:=s.toks+2}):
  wpAny (model prog w) A (setAttr (.ref x) name v) Q E s:=by
 obtain⟨od,J,hl⟩:=I.look
 refine PySem.W.set_plain X J hs (PySem.W.osa_open (s:={s with toks:=s.toks+1}) (r:=none) X J hp ht fun b=>?_)
 obtain⟨cd,hc,hd'⟩:=PySem.W.any_some hh
 have hx:s.heap.get? x=some ⟨.ref C,some dx,.plain, #[]⟩:=I.obj
 refine wpAny_bind (wpAny_pure (wpAny_bind (wpAny_bind (wpAny_loadPart hx (wpAny_bind (PySem.W.Looks.here (s:={s with toks:=s.toks+1}) (PySem.W.looks_clsIn X hc) ?_))))))
 rw[hd']
 refine wpAny_pure (a:=some dx) (wpAny_bind (wpAny_pure (wpAny_bind ?_)))
 refine wpAny_nsSet1 (s:={s with toks:=s.toks+1}) I.ns fun h' hn2 hs2=>?_
 obtain⟨oD,esD,epD,hoD,hdD,hcD⟩:=hn2.count (PySem.Within.cons name v hw)
 refine wpAny_bind (wpAny_lookBehind hoD (by rw[hdD];exact pastItsLine_dict (Nat.le_trans hcD (by rw[List.length_cons];omega))) ?_)
 exact wpAny_pure (h _ ⟨(hs2.2 _ (Ne.symm I.ne)).trans I.obj,hn2,I.ne⟩ hs2)
theorem ajx {R:Result→Shared→Prop} {vs:List Value} {kw:List (Str×Value)} (X:K.In s.heap) (hm:PySem.W.makesIn K C=true)
  (hi:PySem.W.findIn K (.ref C) "__init__"=some (some (.ref f))) (hf:PySem.W.typeIn K (.ref f)=some (.type "function"))
  (h:codeAny (model prog w) (A.under (.builtin "type.__call__" ⟨.ref C::vs,kw⟩)) (.call (.ref f) ⟨.ref (s.heap.objs.size+1)::vs,kw⟩) (PySem.W.InitBack (s.heap.objs.size+1) R)
   {s with heap:=(s.heap.push PySem.W.emptyDict).push (PySem.W.instObj C s.heap.objs.size)}):
  codeAny (model prog w) A (.call (.ref C) ⟨vs,kw⟩) R s:=by
 obtain⟨hh,g,d,t,os⟩:=s
 exact PySem.W.make_core (PySem.W.makes_of X hm) (PySem.W.looks_findIn X hi) (fun self=>PySem.W.bind_fn X self hf) (.inl rfl) h
end
noncomputable def putF (f:Str) (v:V):List (Str×V)→List (Str×V)
 |[]=>[(f,v)]
 |(g,x)::r=>if g=f then (g,v)::r else (g,x)::putF f v r
theorem acl (f g:Str) (v:V):∀fs:List (Str×V),(putF f v fs).lookup g=if g=f then some v else fs.lookup g
 |[]=>by
  show List.lookup g [(f,v)]=_
  by_cases h:g=f
  ·have hb:(g == f)=true:=beq_iff_eq.mpr h
   simp only[List.lookup,hb,if_pos h]
  ·have hb:(g == f)=false:=beq_eq_false_iff_ne.mpr h
   simp only[List.lookup,hb,if_neg h]
 |(k,x)::r=>by
  have ih:=acl f g v r
  rw[show putF f v ((k,x)::r)=(if k=f then (k,v)::r else (k,x)::putF f v r) from rfl]
  by_cases hk:k=f
  ·rw[if_pos hk]
   by_cases h:g=k
   ·have hb:(g == k)=true:=beq_iff_eq.mpr h
    simp only[List.lookup,hb,if_pos (h.trans hk)]
   ·have hb:(g == k)=false:=beq_eq_false_iff_ne.mpr h
    simp only[List.lookup,hb,if_neg (fun e:g=f=>h (e.trans hk.symm))]
  ·rw[if_neg hk]
   by_cases h:g=k
   ·have hb:(g == k)=true:=beq_iff_eq.mpr h
    simp only[List.lookup,hb,if_neg (fun e:g=f=>hk (h.symm.trans e))]
   ·have hb:(g == k)=false:=beq_eq_false_iff_ne.mpr h
    simp only[List.lookup,hb]
    exact ih
theorem adn (f:Str) (v:V):∀fs:List (Str×V),f∈(putF f v fs).map (·.1)∧∀g,g∈fs.map (·.1)→g∈(putF f v fs).map (·.1)
 |[]=>⟨by simp[putF],fun g h=>by simp at h⟩
 |(k,x)::r=>by
  obtain⟨i1,i2⟩:=adn f v r
  rw[show putF f v ((k,x)::r)=(if k=f then (k,v)::r else (k,x)::putF f v r) from rfl]
  by_cases hk:k=f
  ·rw[if_pos hk]
   subst hk
   exact⟨by simp,fun g h=>by simpa using h⟩
  ·rw[if_neg hk]
   refine⟨?_,fun g h=>?_⟩
   ·rw[List.map_cons]
    exact List.mem_cons_of_mem _ i1
   ·rw[List.map_cons] at h ⊢
    rcases List.mem_cons.mp h with e|e
    ·exact List.mem_cons.mpr (.inl e)
    ·exact List.mem_cons_of_mem _ (i2 g e)
theorem ado (f:Str) (v:V):∀fs:List (Str×V),(putF f v fs).length≤fs.length+1
 |[]=>by simp[putF]
 |(k,x)::r=>by
  have ih:=ado f v r
  rw[show putF f v ((k,x)::r)=(if k=f then (k,v)::r else (k,x)::putF f v r) from rfl]
  by_cases hk:k=f
  ·rw[if_pos hk,List.length_cons,List.length_cons];omega
  ·rw[if_neg hk,List.length_cons,List.length_cons];omega
theorem RelO.some_of {v:V} {o:Option Value} (r:RelO (some v) o):∃u,o=some u∧RelV v u:=by
 cases o with
 |none=>exact (show False from r).elim
 |some u=>exact⟨u,rfl,r⟩
theorem RelO.none_of {o:Option Value} (r:RelO none o):o=none:=by
 cases o with
 |none=>rfl
 |some u=>exact (show False from r).elim
theorem ahz {v:V} {u:Value} (r:RelV v u):PySem.W.handedIn u=true:=by
 cases v with
 |non=>cases (show u=Value.none from r);rfl
 |bl b=>cases (show u=Value.bool b from r);rfl
 |int i=>obtain⟨t,e⟩:=(show ∃t,u=Value.int i t from r);cases e;rfl
 |str x=>obtain⟨t,e⟩:=(show ∃t,u=Value.str x t from r);cases e;rfl
 |byt b=>obtain⟨t,e⟩:=(show ∃t,u=Value.bytes b t from r);cases e;rfl
 |flt b=>obtain⟨t,e⟩:=(show ∃t,u=Value.float b t from r);cases e;rfl
 |ref a=>cases (show u=Value.ref a from r);rfl
 |ty n=>cases (show u=Value.type n from r);rfl
section
variable {P:Program} {w:World} {H H':Hp} {h h':Heap} {a C dx:Addr} {fs fs':List (Str×V)}
theorem aee (hok:HOk P w H h) (e:H a=some (.ins C dx fs)):∃mA,ObjM h a dx C mA∧(∀f,RelO (fs.lookup f) (mA f))∧PySem.Within mA (fs.map (·.1))∧fs.length≤1000∧H dx=some (.own a):=by
 obtain⟨d,z,ne,ob,mA,n,r,q⟩:=(show ObjOk P w H h a (.ins C dx fs) from hok a _ e)
 exact⟨mA,⟨ob,n,ne⟩,r,q,z,d⟩
end
structure Cls (K:PySem.W.Frag) (C:Addr):Prop where
 pg:PySem.W.plainGet K C Str.empty=true
 hd:PySem.W.hasDictIn K C=true
 po:PySem.W.plainOver K C=true
 sa:PySem.W.findIn K (.ref C) "__setattr__"=some (some (.builtin "object.__setattr__"))
theorem Cls.get {K:PySem.W.Frag} {C:Addr} (c:Cls K C) (f:Str):PySem.W.plainGet K C f=true:=c.pg
noncomputable def NoAttr (K:PySem.W.Frag) (C:Addr) (f:Str):Prop:=PySem.W.findIn K (.ref C) f=some none
theorem NoAttr.taker {K:PySem.W.Frag} {C:Addr} {f:Str} (n:NoAttr K C f):PySem.W.takerIn K C f=some none:=by
 unfold PySem.W.takerIn
 rw[show PySem.W.findIn K (.ref C) f=some none from n]
 rfl
structure Meth (K:PySem.W.Frag) (C:Addr) (m:Str) (f:Addr):Prop where
 at_:PySem.W.findIn K (.ref C) m=some (some (.ref f))
 fn:PySem.W.isFn K (.ref f)=true
 kp:PySem.W.keepIn K (.ref f)=true
section
variable {X:Cx} {pins:List (Addr×Obj)} {σ:St} {H:Hp} {s:Shared} {a C dx:Addr} {fs:List (Str×V)} {f:Str} {v:V} {A:Around} {E:Value→Shared→Prop}
theorem ag1 {b:Bool} {Q:Value→Shared→Prop} (I:Inv X pins σ H s) (e:H a=some (.ins C dx fs)) (c:Cls X.K C) (n:NoAttr X.K C f) (l:fs.lookup f=some v)
  (h:∀u s',Inv X pins σ H s'→RelV v u→Q u s'):wpAny (model X.prog X.w) A (getAttr (.ref a) f b) Q E s:=by
 obtain⟨mA,O,r,_,_,_⟩:=aee I.hok e
 obtain⟨u,hu,ru⟩:=RelO.some_of (v:=v) (o:=mA f) (by rw[←l];exact r f)
 exact alm I.kIn O (c.get f) c.hd n hu (ahz ru) (h u _ (I.tok _) ru)
theorem ad4 {m:Str} {g:Addr} {pl:Sem Bool} {Q:Value×List Value→Shared→Prop} (I:Inv X pins σ H s) (e:H a=some (.ins C dx fs)) (c:Cls X.K C) (k:Meth X.K C m g) (l:fs.lookup m=none)
  (h:Q (.ref g,[.ref a]) s):wpAny (model X.prog X.w) A (getMethod (.ref a) m pl) Q E s:=by
 obtain⟨mA,O,r,_,_,_⟩:=aee I.hok e
 have hn:mA m=none:=RelO.none_of (by rw[←l];exact r m)
 exact ajw I.kIn O (c.get m) k.at_ k.fn hn h
theorem ag2 {y:V} {u:Value} {Q:Unit→Shared→Prop} (I:Inv X pins σ H s) (e:H a=some (.ins C dx fs)) (c:Cls X.K C) (n:NoAttr X.K C f) (hl:fs.length < 1000) (ry:RelV y u)
  (h:∀s',Inv X pins σ (upd H a (.ins C dx (putF f y fs))) s'→Q () s'):wpAny (model X.prog X.w) A (setAttr (.ref a) f u) Q E s:=by
 obtain⟨mA,O,r,wi,_,ho⟩:=aee I.hok e
 have hz:(fs.map (·.1)).length≤sizeLine:=by rw[List.length_map,sizeLine_eq];omega
 refine aln I.kIn O c.sa c.po n.taker c.hd wi hz fun h' O' sb=>h _ ?_
 have hd:∃o,h'.get? dx=some o:=let ⟨o,_,_,e',_⟩:=O'.ns;⟨o,e'⟩
 refine I.write (x:=a) (e:=dx) (by rw[e];exact True.intro) (.inr ho) (fun b q hb z=>(sb.2 b hb).trans z) hd ?_
 refine⟨by rw[aaf O.ne];exact ho,?_,O.ne,O'.obj,_,O'.ns,fun g=>?_,fun g hg=>?_⟩
 ·have:=ado f y fs;omega
 ·show RelO ((putF f y fs).lookup g) (if g=f then some u else mA g)
  rw[acl]
  by_cases q:g=f
  ·rw[if_pos q,if_pos q];exact ry
  ·rw[if_neg q,if_neg q];exact r g
 ·by_cases q:g=f
  ·rw[q];exact (adn f y fs).1
  ·refine (adn f y fs).2 g (wi g fun z=>hg ?_)
   show (if g=f then some u else mA g)=none
   rw[if_neg q];exact z
theorem Inv.made (I:Inv X pins σ H s):Inv X pins σ (upd (upd H s.heap.objs.size (.own (s.heap.objs.size+1))) (s.heap.objs.size+1) (.ins C s.heap.objs.size []))
  {s with heap:=(s.heap.push PySem.W.emptyDict).push (PySem.W.instObj C s.heap.objs.size)}:=by
 have e1:(s.heap.push PySem.W.emptyDict).get? s.heap.objs.size=some PySem.W.emptyDict:=Heap.get?_push_size s.heap rfl
 have e2:((s.heap.push PySem.W.emptyDict).push (PySem.W.instObj C s.heap.objs.size)).get? (s.heap.objs.size+1)=some (PySem.W.instObj C s.heap.objs.size):=by
  have:=Heap.get?_push_size (s.heap.push PySem.W.emptyDict) (o:=PySem.W.instObj C s.heap.objs.size) rfl
  rwa[Heap.size_push] at this
 have e3:(s.heap.push PySem.W.emptyDict).Ns s.heap.objs.size (fun _=>none):=⟨PySem.W.emptyDict, #[],_,e1,rfl,(fun e he=>absurd he (by simp)),fun _=>rfl⟩
 have I1:=I.laid (a:=s.heap.objs.size) (o:=.own (s.heap.objs.size+1)) (h':=s.heap.push PySem.W.emptyDict) (t':=s.toks) (fun b u q=>Heap.get?_push_of_some _ q) (Nat.le_refl _) ⟨_,e1⟩
 refine I1.laid (a:=s.heap.objs.size+1) (o:=.ins C s.heap.objs.size []) (t':=s.toks) (fun b u q=>Heap.get?_push_of_some _ q) (Nat.le_of_eq (Heap.size_push _ _)) ?_
 have ne:s.heap.objs.size≠s.heap.objs.size+1:=Nat.ne_of_lt (Nat.lt_succ_self _)
 refine⟨by rw[aaf ne,aag],Nat.zero_le _,ne,e2,fun _=>none,(Heap.Ns1.of_empty e3).at fun o q=>Heap.get?_push_of_some _ q,fun _=>True.intro,fun y hy=>absurd rfl hy⟩
theorem alo {prog:Program} {w:World} {env:Env} {e:Expr} {f:Str} {pos:Pos} {s:Shared} {Q:Value→Shared→Prop} (hb:attributeBase e f env (eval e env)=eval e env)
  (h:wpAny (model prog w) A (eval e env) (fun o s₁=>wpAny (model prog w) A (getAttr o f true) Q E s₁) E s):wpAny (model prog w) A (eval (.Attribute e f pos) env) Q E s:=
 Attribute_any_ h (by rw[arm_eval_Attribute,hb])
end
noncomputable def tFld (K:PySem.W.Frag) (ta:TE) (f:Str):TE:=fun σ H Q=>ta σ H fun x H1=>∃a C dx fs v,x=.ref a∧H1 a=some (.ins C dx fs)∧Cls K C∧NoAttr K C f∧fs.lookup f=some v∧Q v H1
noncomputable def sFld (K:PySem.W.Frag) (ta tv:TE) (f:Str):TS:=fun D σ H=>tv σ H fun y H1=>ta σ H1 fun x H2=>∃a C dx fs,x=.ref a∧H2 a=some (.ins C dx fs)∧Cls K C∧NoAttr K C f∧fs.length < 1000∧
 D.nx σ (upd H2 a (.ins C dx (putF f y fs)))
section
variable {X:Cx} {o e value:Expr} {f:Str} {pos pos' tpos:Pos} {ta tv:TE}
theorem aan (he:PE X e ta) (hb:attributeBase e f X.env (eval e X.env)=eval e X.env):PE X (.Attribute e f pos) (tFld X.K ta f):=by
 intro pins s σ H Q I h
 refine alo hb (thn (he pins s σ H _ I h) fun u s1 ⟨x,H1,I1,rx,a,C,dx,fs,v,ex,ea,c,n,l,q⟩=>?_)
 subst ex
 obtain rfl:u=Value.ref a:=rx
 exact ag1 I1 ea c n l fun u' s2 I2 ru=>⟨v,H1,I2,ru,q⟩
theorem ae0 (ha:PE X o ta) (hv:PE X value tv) (hs:swapsWith value (some (.Attribute o f pos')) pos.line X.env=pure false):PS X (.Assign [.Attribute o f pos'] value pos) (sFld X.K ta tv f):=by
 intro pins s σ H D I h
 refine plainObj_wpAny_Assign_Attribute (thn (hv pins s σ H _ I h) fun u s1 ⟨y,H1,I1,ry,q⟩=>thn (ha pins s1 σ H1 _ I1 q) fun ov s2 ⟨x,H2,I2,rx,a,C,dx,fs,ex,ea,c,n,l,q2⟩=>?_) hs
 subst ex
 obtain rfl:ov=Value.ref a:=rx
 exact ag2 I2 ea c n l ry fun s3 I3=>⟨σ,_,I3,q2⟩
end
section
variable {X:Cx} {pins:List (Addr×Obj)} {σ:St} {H:Hp} {s:Shared} {A:Around} {E:Value→Shared→Prop} {Q:Value→Shared→Prop} {c:Value} {b:Bool}
inductive TyOf (K:PySem.W.Frag) (H:Hp):V→Value→Prop where
 |non:TyOf K H .non (.type "NoneType")
 |bl (x:Bool):TyOf K H (.bl x) (.type "bool")
 |int (i:Int):TyOf K H (.int i) (.type "int")
 |str (x:Str):TyOf K H (.str x) (.type "str")
 |flt (x:UInt64):TyOf K H (.flt x) (.type "float")
 |lst {a:Addr} {xs:List V} (e:H a=some (.lst xs)):TyOf K H (.ref a) (.type "list")
 |frz {a:Addr} {o:Obj} {xs:List V} (e:H a=some (.frz o (.lst xs))):TyOf K H (.ref a) (.type "list")
 |tup {a:Addr} {xs:List V} (e:H a=some (.tup xs)):TyOf K H (.ref a) (.type "tuple")
 |dK {a:Addr} {kvs:List (Key×V)} (e:H a=some (.dK kvs)):TyOf K H (.ref a) (.type "dict")
 |dT {a:Addr} {kvs:List (List Key×V)} (e:H a=some (.dT kvs)):TyOf K H (.ref a) (.type "dict")
 |ins {a C dx:Addr} {fs:List (Str×V)} (e:H a=some (.ins C dx fs)) (cl:Cls K C) (ha:PySem.W.findIn K (.ref C) "__class__"=some (some (.builtin "object.__class__")))
  (hn:PySem.W.specialIn K (.builtin "object.__class__") "__get__"=some (some (.builtin "getset_descriptor.__get__"))) (htk:PySem.W.takesIn K (.builtin "object.__class__")=some true)
  (hm:PySem.W.mroIn K C (.type "object")=some true):TyOf K H (.ref a) (.ref C)
theorem ah0 {x:V} {u t:Value} (I:Inv X pins σ H s) (rx:RelV x u) (ty:TyOf X.K H x t) (e:PySem.W.kitOne X.K t c=some b) (h:∀tk,Q (.bool b) {s with toks:=tk}):
  wpAny (model X.prog X.w) A (call (.builtin "isinstance") [u,c]) Q E s:=by
 cases ty with
 |non=>cases (show u=Value.none from rx);exact PySem.W.kia_one PySem.W.kitx_none I.kIn True.intro e (fun z=>nomatch z) h
 |bl y=>cases (show u=Value.bool y from rx);exact PySem.W.kia_one PySem.W.kitx_bool I.kIn True.intro e (fun z=>nomatch z) h
 |int i=>obtain⟨t,q⟩:=(show ∃t,u=Value.int i t from rx);cases q;exact PySem.W.kia_one PySem.W.kitx_int I.kIn True.intro e (fun z=>nomatch z) h
 |str y=>obtain⟨t,q⟩:=(show ∃t,u=Value.str y t from rx);cases q;exact PySem.W.kia_one PySem.W.kitx_str I.kIn True.intro e (fun z=>nomatch z) h
 |flt y=>obtain⟨t,q⟩:=(show ∃t,u=Value.float y t from rx);cases q;exact PySem.W.kia_one PySem.W.kitx_float I.kIn True.intro e (fun z=>nomatch z) h
 |@lst a xs ea=>
  cases (show u=Value.ref a from rx)
  obtain⟨_,_,n,_,h1⟩:=(show ObjOk X.prog X.w H s.heap a (.lst xs) from I.hok a _ ea)
  exact PySem.W.kia_one PySem.W.kitx_list I.kIn ⟨_,h1,rfl⟩ e (fun z=>nomatch z) h
 |@frz a ob xs ea=>
  cases (show u=Value.ref a from rx)
  obtain⟨_,_,_,n,_,h1⟩:=(show ObjOk X.prog X.w H s.heap a (.frz ob (.lst xs)) from I.hok a _ ea)
  exact PySem.W.kia_one PySem.W.kitx_list I.kIn ⟨_,h1,rfl⟩ e (fun z=>nomatch z) h
 |@tup a xs ea=>
  cases (show u=Value.ref a from rx)
  obtain⟨_,_,_,p⟩:=(show ObjOk X.prog X.w H s.heap a (.tup xs) from I.hok a _ ea)
  obtain⟨o,h1,h2,_⟩:=p
  exact PySem.W.kia_one PySem.W.kitx_tuple I.kIn ⟨o,h1,h2⟩ e (fun z=>nomatch z) h
 |@dK a kvs ea=>
  cases (show u=Value.ref a from rx)
  obtain⟨_,_,vs,_,p⟩:=(show ObjOk X.prog X.w H s.heap a (.dK kvs) from I.hok a _ ea)
  obtain⟨o,es,ep,h1,h2,_⟩:=p
  exact PySem.W.kia_one PySem.W.kitx_dict I.kIn ⟨o,h1,h2.1⟩ e (fun z=>nomatch z) h
 |@dT a kvs ea=>
  cases (show u=Value.ref a from rx)
  obtain⟨_,_,xs,_,o,es,ep,h1,h2,_⟩:=(show ObjOk X.prog X.w H s.heap a (.dT kvs) from I.hok a _ ea)
  exact PySem.W.kia_one PySem.W.kitx_dict I.kIn ⟨o,h1,h2.1⟩ e (fun z=>nomatch z) h
 |@ins a C dx fs ea cl ha hn htk hm=>
  cases (show u=Value.ref a from rx)
  obtain⟨mA,O,_⟩:=aee I.hok ea
  obtain⟨od,J,_⟩:=O.look
  exact PySem.W.kia_one (PySem.W.kitx_own (cl.get _) cl.hd ha hn htk hm) I.kIn J e (fun z=>nomatch z) h
end
end L2
namespace L2
open PySem PySem.Spec PyProof.Rows
structure Room (k:Nat) (A:Around):Prop where
 hd:A.handled=none
 dp:A.depth+3 * k+5 < recursionLimit
 un:A.units+16 * k+200 < cLine
theorem Room.mono {j k:Nat} {A:Around} (r:Room k A) (h:j≤k):Room j A:=⟨r.hd,by have:=r.dp;omega,by have:=r.un;omega⟩
theorem Room.deeper {k:Nat} {A:Around} (r:Room (k+1) A) (env:Env):Room k (A.deeper env):=
 ⟨r.hd,by have:=r.dp;show A.depth+1+3 * k+5 < _;omega,by have:=r.un;show A.units+3+16 * k+200 < _;omega⟩
theorem ag3 {A:Around} {C:Addr} {us:List Value} {kw:List (Str×Value)}:(A.under (.builtin "type.__call__" ⟨.ref C::us,kw⟩)).depth=A.depth+1:=by
 first|rfl|simp[Around.under,Code.weight,Code.isCreation,Code.isGuard,Code.isCaller,Code.frames,Code.isFrame,guardIds]
theorem ag4 {A:Around} {C:Addr} {us:List Value} {kw:List (Str×Value)}:(A.under (.builtin "type.__call__" ⟨.ref C::us,kw⟩)).units=A.units+1:=by
 first|rfl|simp[Around.under,Code.cUnits,Code.frames,Code.isFrame]
theorem Room.make {k:Nat} {A:Around} (r:Room (k+1) A) (C:Addr) (us:List Value) (kw:List (Str×Value)):Room k (A.under (.builtin "type.__call__" ⟨.ref C::us,kw⟩)):=
 ⟨r.hd,by have:=r.dp;rw[ag3];omega,by have:=r.un;rw[ag4];omega⟩
theorem Room.depth {k:Nat} {A:Around} (r:Room k A):A.depth < recursionLimit:=by have:=r.dp;omega
theorem Room.units {k:Nat} {A:Around} (r:Room k A):A.units+64 < cLine:=by have:=r.un;omega
noncomputable def tNil:TA:=fun _ H Q=>Q [] H
noncomputable def tCons (ta:TE) (tr:TA):TA:=fun σ H Q=>ta σ H fun x H1=>tr σ H1 fun xs H2=>Q (x::xs) H2
section
variable {X:Cx} {e:Expr} {es:List Expr} {te:TE} {t:TA} {pos:Pos}
theorem aad:PA X [] tNil:=fun _ _ _ _ H Q I h=>Calls.spliced_nil ⟨[],H,I,.nil,h⟩
theorem aaa (ha:PE X e te) (hr:PA X es t) (hs:starEach (e::es) X.env=(false,eval e X.env)::starEach es X.env:=by rfl):PA X (e::es) (tCons te t):=by
 intro pos pins s σ H Q I h
 rw[hs]
 show wpAny _ _ (spliced ((false,eval e X.env)::backTo pos (starEach es X.env))) _ _ s
 refine Calls.spliced_cons (thn (ha pins s σ H _ I h) fun u s1 ⟨x,H1,I1,r1,q1⟩=>?_)
 exact thn (hr pos pins s1 σ H1 _ I1 q1) fun us s2 ⟨xs,H2,I2,r2,q2⟩=>⟨x::xs,H2,I2,.cons r1 r2,q2⟩
noncomputable def tTup (t:TA):TE:=fun σ H Q=>t σ H fun xs H1=>xs.length≤sizeLine∧∀p,H1 p=none→Q (.ref p) (upd H1 p (.tup xs))
noncomputable def tLst (t:TA):TE:=fun σ H Q=>t σ H fun xs H1=>xs.length≤sizeLine∧∀p,H1 p=none→Q (.ref p) (upd H1 p (.lst xs))
theorem aa4 {x1} (h:PA X es t):PE X (.Tuple es x1 pos) (tTup t):=by
 intro pins s σ H Q I hq
 refine wpAny_Tuple_spliced (thn (h pos pins s σ H _ I hq) fun us s1 ⟨xs,H1,I1,r,z,q⟩=>⟨by rw[←r.length];exact z,?_⟩)
 have hf:H1 s1.heap.objs.size=none:=I1.hok.fresh (Nat.le_refl _)
 refine⟨.ref s1.heap.objs.size,upd H1 s1.heap.objs.size (.tup xs),I1.laid (t':=s1.toks) (fun b u e=>Heap.get?_push_of_some _ e) (Nat.le_refl _) ?_,rfl,q _ hf⟩
 exact⟨z,us,r,⟨_,Heap.get?_push_size _ rfl,rfl,_,rfl⟩⟩
theorem ad5 (h:PA X es t):PE X (.List es pos) (tLst t):=by
 intro pins s σ H Q I hq
 refine wpAny_List_spliced (thn (h pos pins s σ H _ I hq) fun us s1 ⟨xs,H1,I1,r,z,q⟩=>⟨by rw[←r.length];exact z,?_⟩)
 have hf:H1 s1.heap.objs.size=none:=I1.hok.fresh (Nat.le_refl _)
 refine⟨.ref s1.heap.objs.size,upd H1 s1.heap.objs.size (.lst xs),I1.laid (t':=s1.toks) (fun b u e=>Heap.get?_push_of_some _ e) (Nat.le_refl _) ?_,rfl,q _ hf⟩
 exact⟨z,us,0,r,Heap.get?_push_size _ rfl⟩
end
noncomputable abbrev Sp:=List V→Hp→VK→XK→Prop
noncomputable abbrev CXT:=List Env→Hp→Shared→XK→Value→Shared→Prop
structure Env0 (P:Program) (w:World) (K:PySem.W.Frag) (mg:Str→Option Value) (base:Heap) (A:Around) (outer:List Env) (s:Shared) (H:Hp):Prop where
 frames:A.frames=some outer
 mod:Mod K mg base
 bs:∀b o,base.get? b=some o→s.heap.get? b=some o∧H b=none
 bsz:base.objs.size≤s.heap.objs.size
 funs:s.heap.FunFrames base outer
 frf:∀b∈frs outer,H b=none
 hok:HOk P w H s.heap
 bare:AllBare s.gens
noncomputable def CE (outer:List Env) (P:Program) (w:World) (H:Hp) (s:Shared) (Q:VK) (u:Value) (s':Shared):Prop:=
 ∃v H',s'.os=s.os∧AllBare s'.gens∧Un (frs outer) [] H H' s.heap s'.heap∧HOk P w H' s'.heap∧RelV v u∧Q v H'
noncomputable def CR (CX:CXT) (outer:List Env) (P:Program) (w:World) (H:Hp) (s:Shared) (Q:VK) (E:XK) (r:Result) (s':Shared):Prop:=
 match r with
 |.ok (.ret u)=>CE outer P w H s Q u s'
 |.ok _=>False
 |.error e=>CX outer H s E e s'
structure FnOk (P:Program) (w:World) (K:PySem.W.Frag) (mg:Str→Option Value) (base:Heap) (CX:CXT) (k:Nat) (f:Addr) (fd:FuncData) (ps:List Str) (sp:Sp):Prop where
 len:∀vs H Q E,sp vs H Q E→vs.length=ps.length
 run:∀(A:Around) (outer:List Env) (s:Shared) (H:Hp) (args:Args) (us:List Value) (vs:List V) (Q:VK) (E:XK),Room k A→Env0 P w K mg base A outer s H→BindsTo s fd args (ps.zip us)→Vals vs us→sp vs H Q E→
  codeAny (model P w) A (.call (.ref f) args) (CR CX outer P w H s Q E) s
theorem Env0.make {P:Program} {w:World} {K:PySem.W.Frag} {mg:Str→Option Value} {base:Heap} {A:Around} {outer:List Env} {s:Shared} {H:Hp} (e:Env0 P w K mg base A outer s H) (C:Addr) (us:List Value) (kw:List (Str×Value)):
 Env0 P w K mg base (A.under (.builtin "type.__call__" ⟨.ref C::us,kw⟩)) outer s H:=⟨by first|exact e.frames|(simpa[Around.under,Code.envs,Code.isFrame,pushEnvs] using e.frames),e.mod,e.bs,e.bsz,e.funs,e.frf,e.hok,e.bare⟩
section
variable {X:Cx} {pins:List (Addr×Obj)} {σ:St} {H:Hp} {s s':Shared}
theorem Inv.env0 (I:Inv X pins σ H s):Env0 X.prog X.w X.K X.mg X.base X.A X.stack s H:=
 ⟨I.ok.frames,I.ok.mod,I.bs,Nat.le_trans I.ok.bsz I.sz,I.stack,I.stkFree,I.hok,I.bare⟩
theorem Inv.after {Q:VK} {u:Value} (I:Inv X pins σ H s) (h:CE X.stack X.prog X.w H s Q u s'):EP X pins σ Q u s':=by
 obtain⟨v,H',os,bare,un,hok,r,q⟩:=h
 obtain⟨hh,g,d,t,os'⟩:=s'
 obtain rfl:os'=s.os:=os
 exact⟨v,H',I.call (h':=hh) (g':=g) (d':=d) (t':=t) (ch:=[]) un hok bare (fun b z=>absurd z (by simp)),r,q⟩
end
noncomputable def Binds (K:PySem.W.Frag) (fd:FuncData) (ps:List Str) (ds:List Value):Prop:=
 ∀(s:Shared) (us:List Value),K.In s.heap→(us++ds).length=ps.length→BindsTo s fd ⟨us,[]⟩ (ps.zip (us++ds))
theorem Binds.all {K:PySem.W.Frag} {fd:FuncData} {ps:List Str} (h:∀us:List Value,us.length=ps.length→bindArgs fd ⟨us,[]⟩=pure (ps.zip us)):Binds K fd ps []:=fun s us _ hl=>by
 rw[List.append_nil] at hl ⊢
 exact .of_eq (h us hl)
section
variable {X:Cx} {CX:CXT} {k:Nat} {f C:Addr} {fd:FuncData} {ps:List Str} {sp:Sp} {dvs:List V} {ds:List Value} {E:XK} {x m:Str} {p pos apos:Pos} {e o:Expr} {es:List Expr} {ta:TE} {t:TA}
structure Mk (K:PySem.W.Frag) (C f:Addr):Prop where
 makes:PySem.W.makesIn K C=true
 init:PySem.W.findIn K (.ref C) "__init__"=some (some (.ref f))
 fn:PySem.W.isFn K (.ref f)=true
 kp:PySem.W.keepIn K (.ref C)=true
end
section
variable {X:Cx} {CX:CXT} {k:Nat} {f C:Addr} {fd:FuncData} {ps ks:List Str} {sp:Sp} {E:XK} {x m:Str} {p pos apos kpos:Pos} {e o:Expr} {es:List Expr} {kws:List Keyword} {te ta:TE} {t tk:TA} {nm:Option Str}
variable {g:List Value→List Value→List Value} {gV:List V→List V→List V}
end
structure FnScope (N P:List Str) (sc:Scope):Prop where
 kind:sc.kind=.function
 co:sc.isCoroutine=false
 gen:sc.isGenerator=false
 nd:N.Nodup
 pre:N.take P.length=P
 par:∀x∈P,sc.names.lookup x=some .local∨sc.names.lookup x=some .cell
 nofree:∀y∈sc.names,y.2≠.free
theorem ae1 {kindOf:Str→Option NameKind} {x:Str}:∀{binds:List (Str×Value)} {m:Str→Option Value},(∀v,(x,v)∉binds)→bindL kindOf binds m x=m x
 |[],_,_=>rfl
 |(n,v)::r,m,h=>by
  unfold bindL
  rw[ae1 fun w hw=>h w (List.mem_cons_of_mem _ hw)]
  split
  ·have:x≠n:=by rintro rfl;exact h v List.mem_cons_self
   simp[this]
  ·rfl
theorem ae2 {kindOf:Str→Option NameKind} {x:Str}:∀{binds:List (Str×Value)} {m:Str→Option Value},(∀v,(x,v)∉binds)→bindC kindOf binds m x=m x
 |[],_,_=>rfl
 |(n,v)::r,m,h=>by
  unfold bindC
  rw[ae2 fun w hw=>h w (List.mem_cons_of_mem _ hw)]
  split
  ·rfl
  ·have:x≠n:=by rintro rfl;exact h v List.mem_cons_self
   simp[this]
theorem ae3 {kindOf:Str→Option NameKind} {x:Str} {v:Value}:∀{P:List Str} {vs:List Value} {i:Nat} {m:Str→Option Value},P.Nodup→P[i]?=some x→vs[i]?=some v→kindOf x=some .local→
  bindL kindOf (P.zip vs) m x=some v
 |[],_,_,_,_,h,_,_=>by simp at h
 |_::_,[],_,_,_,_,h,_=>by simp at h
 |p::P,w::vs,0,m,nd,h1,h2,hk=>by
  simp at h1 h2;subst h1;subst h2
  show bindL kindOf ((p,w)::P.zip vs) m p=_
  unfold bindL
  rw[ae1 fun v hv=>(List.nodup_cons.mp nd).1 (List.of_mem_zip hv).1,if_pos hk]
  simp
 |p::P,w::vs,i+1,m,nd,h1,h2,hk=>by
  show bindL kindOf ((p,w)::P.zip vs) m x=_
  unfold bindL
  exact ae3 (i:=i) (List.nodup_cons.mp nd).2 (by simpa using h1) (by simpa using h2) hk
theorem ae4 {kindOf:Str→Option NameKind} {x:Str} {v:Value}:∀{P:List Str} {vs:List Value} {i:Nat} {m:Str→Option Value},P.Nodup→P[i]?=some x→vs[i]?=some v→kindOf x≠some .local→
  bindC kindOf (P.zip vs) m x=some v
 |[],_,_,_,_,h,_,_=>by simp at h
 |_::_,[],_,_,_,_,h,_=>by simp at h
 |p::P,w::vs,0,m,nd,h1,h2,hk=>by
  simp at h1 h2;subst h1;subst h2
  show bindC kindOf ((p,w)::P.zip vs) m p=_
  unfold bindC
  rw[ae2 fun v hv=>(List.nodup_cons.mp nd).1 (List.of_mem_zip hv).1,if_neg hk]
  simp
 |p::P,w::vs,i+1,m,nd,h1,h2,hk=>by
  show bindC kindOf ((p,w)::P.zip vs) m x=_
  unfold bindC
  exact ae4 (i:=i) (List.nodup_cons.mp nd).2 (by simpa using h1) (by simpa using h2) hk
noncomputable def start (N:List Str) (vs:List V):St:=vs.map some++List.replicate (N.length - vs.length) none
noncomputable def cxOf (CX:CXT) (P:Program) (w:World) (K:PySem.W.Frag) (mg:Str→Option Value) (base:Heap) (N:List Str) (qual:Str) (scope:Scope) (f:Addr) (cd:Value) (A:Around) (outer:List Env) (s:Shared) (H:Hp) (E:XK):Cx where
 prog:=P
 w:=w
 K:=K
 mg:=mg
 base:=base
 A:=A.deeper (envOfC qual scope s.heap.objs.size f cd)
 N:=N
 s₀:=s
 H₀:=H
 env:=envOfC qual scope s.heap.objs.size f cd
 outer:=outer
 stack:=envOfC qual scope s.heap.objs.size f cd::outer
 ex:=[]
 calm:=true
 fn:=fun _=>true
 pn:=[]
 xe:=fun e s'=>wpAny (model P w) (A.deeper (envOfC qual scope s.heap.objs.size f cd)) (leaving (envOfC qual scope s.heap.objs.size f cd) e) (fun _ s''=>CX outer H s E e s'') (fun e' s''=>CX outer H s E e' s'') s'
theorem af8 {sc:Scope} {n:Nat} {x:Str} (h:sc.names.lookup x=some .cell):∃c,(cellsFrom n sc.names []).lookup x=some c:=by
 have q:=PySem.W.cellsFrom_some sc.names n [] (.inl h)
 exact Option.isSome_iff_exists.mp q
theorem ah1 {CX:CXT} {P:Program} {w:World} {K:PySem.W.Frag} {mg:Str→Option Value} {base:Heap} {N ps:List Str} {qual:Str} {scope:Scope} {f:Addr} {cd:Value} {A:Around} {outer:List Env} {s s1:Shared} {H:Hp} {E:XK} {us:List Value} {vs:List V}
  (S:FnScope N ps scope) (hd:A.handled=none) (e0:Env0 P w K mg base A outer s H) (hl:vs.length=ps.length) (r:Vals vs us)
  (x:InCallC s s.heap.objs.size (bindL (envOfC qual scope s.heap.objs.size f cd).kindOf (ps.zip us) fun _=>none) (cellsFrom (s.heap.objs.size+1) scope.names []) (bindC (envOfC qual scope s.heap.objs.size f cd).kindOf (ps.zip us) fun _=>none) s1):
  Inv (cxOf CX P w K mg base N qual scope f cd A outer s H E) [] (start N vs) H s1:=by
 have hpl:ps.length≤N.length:=by have:=congrArg List.length S.pre;rw[List.length_take] at this;omega
 obtain⟨h1,tk,rfl,hk⟩:=x.done
 have noA:∀b:Addr,b∉(cxOf CX P w K mg base N qual scope f cd A outer s H E).ex:=fun b z=>absurd (show b∈([]:List Addr) from z) (by simp)
 refine⟨⟨e0.mod,S.kind,rfl,rfl,Nat.le_refl _,fun y z c h1 h2=>?_,fun y hy=>?_,fun y c _ h=>?_,fun _=>hd,Around.frames_deeper e0.frames,.inr ⟨rfl,rfl⟩,fun b z=>absurd z (noA b),e0.bs,e0.bsz,fun b _ _=>noA b,fun b z=>absurd z (noA b),e0.funs,e0.frf⟩,
  rfl,e0.bare,Un.kept hk,⟨_,x.toInCall.ns,fun i y v h1 h2 h3=>?_⟩,fun y c h=>⟨_,x.cell y c h⟩,e0.hok.fresh (Nat.le_refl _),fun y c h=>?_,fun p hp=>absurd (show p∈([]:List (Addr×Obj)) from hp) (by simp),e0.hok.kept hk,?_⟩
 ·exact name_of_addr x.apart (PySem.mem_of_lookup h1) (PySem.mem_of_lookup h2)
 ·have hy:scope.names.lookup y=some .cell∨scope.names.lookup y=some .free:=hy
  rcases hy with hy|hy
  ·exact af8 hy
  ·exact absurd rfl (S.nofree _ (PySem.mem_of_lookup hy))
 ·exact Nat.le_of_lt (x.above y c (PySem.mem_of_lookup h))
 ·have hi:i < vs.length:=by
   unfold start at h2
   by_cases hi:i < vs.length
   ·exact hi
   ·rw[List.getElem?_append_right (by simpa using hi)] at h2
    rw[List.getElem?_replicate] at h2
    split at h2<;>cases h2
  have ha:vs[i]?=some v:=by
   unfold start at h2
   rw[List.getElem?_append_left (by simpa using hi),List.getElem?_map] at h2
   cases e:vs[i]? with
   |none=>rw[e] at h2;cases h2
   |some a=>rw[e] at h2;cases h2;rfl
  obtain⟨u,hu,rv⟩:=r.get ha
  have hp:ps[i]?=some y:=by
   rw[←S.pre,List.getElem?_take_of_lt (by omega)];exact h1
  have ndP:ps.Nodup:=by rw[←S.pre];exact S.nd.sublist (List.take_sublist _ _)
  refine⟨u,rv,?_⟩
  rcases S.par y (List.mem_of_getElem? hp) with k|k
  ·exact .inl ⟨k,ae3 ndP hp hu k⟩
  ·obtain⟨c,e⟩:=af8 (n:=s.heap.objs.size+1) k
   refine .inr ⟨.inl k,c,e,?_⟩
   have q:=x.cell y c e
   rw[ae4 ndP hp hu (by show scope.names.lookup y≠_;rw[k];decide)] at q
   exact q
 ·exact e0.hok.fresh (Nat.le_of_lt (x.above y c (PySem.mem_of_lookup h)))
 ·unfold start
  show _=N.length
  rw[List.length_append,List.length_map,List.length_replicate]
  omega
theorem alp {CX:CXT} {P:Program} {w:World} {K:PySem.W.Frag} {mg:Str→Option Value} {base:Heap} {k:Nat} {f:Addr} {name qual:Str} {params:Arguments} {body:List Stmt} {scope:Scope} {dV kV doc pm cdv ct oc:Value} {an od:Option Addr}
  {osl:Array (Option Value)} {N ps:List Str} {sp:Sp} (lk:K.lookup f=some ⟨oc,od,.func (PySem.W.fnOf name qual params body scope dV kV doc pm an cdv ct),osl⟩) (hcd:PySem.W.codeIn K cdv qual=true) (S:FnScope N ps scope)
  (len:∀vs H Q E,sp vs H Q E→vs.length=ps.length)
  (hbody:∀(A:Around) (outer:List Env) (s:Shared) (H:Hp) (vs:List V) (Q:VK) (E:XK),Room k (A.deeper (envOfC qual scope s.heap.objs.size f cdv))→sp vs H Q E→
   ∃t,PSs (cxOf CX P w K mg base N qual scope f cdv A outer s H E) body t∧t {nx:=fun _ H'=>Q .non H',rt:=Q} (start N vs) H):
  FnOk P w K mg base CX (k+1) f (PySem.W.fnOf name qual params body scope dV kV doc pm an cdv ct) ps sp:=by
 refine⟨len,fun A outer s H args us vs Q E hr e0 hb r hsp=>?_⟩
 have hl:=len _ _ _ _ hsp
 have KX:K.In s.heap:=e0.mod.kin.keeps fun b o e=>(e0.bs b o e).1
 have lim:s.heap.NoLimit:=e0.mod.nolimit.keeps fun b o e=>(e0.bs b o e).1
 have hkind:∀y∈ps.zip us,scope.names.lookup y.1=some .local∨(scope.names.lookup y.1=some .cell∧((cellsFrom (s.heap.objs.size+1) scope.names []).lookup y.1).isSome=true):=fun ⟨n,v⟩ hy=>by
  rcases S.par n (List.of_mem_zip hy).1 with q|q
  ·exact .inl q
  ·exact .inr ⟨q,PySem.W.cellsFrom_some _ _ _ (.inl q)⟩
 refine codeAny_call_function hr.depth (KX _ _ lk) rfl S.co S.gen rfl (PySem.W.codeRec_of KX hcd) (hb _ _ _ _ ?_)
 refine wpAny_newFunctionEnv_cells S.kind hkind fun env he s1 x=>?_
 subst he
 refine⟨lim.keeps x.toInCall.keep,codeAny_func ?_⟩
 obtain⟨t,ht,hq⟩:=hbody A outer s H vs Q E (hr.deeper _) hsp
 have I:Inv (cxOf CX P w K mg base N qual scope f cdv A outer s H E) [] (start N vs) H s1:=ah1 S hr.hd e0 hl r x
 refine wpAny_mono (ht [] s1 (start N vs) H _ I hq) (fun fl s' hs=>?_) fun e s' hs=>hs
 have fin:∀{σ':St} {H':Hp} {v:V} {u:Value},Inv (cxOf CX P w K mg base N qual scope f cdv A outer s H E) [] σ' H' s'→RelV v u→Q v H'→CE outer P w H s Q u s':=
  fun {σ' H' v u} J rv q=>⟨v,H',J.os,J.bare,J.base,J.hok,rv,q⟩
 cases fl with
 |ret u=>
  obtain⟨v,σ',H',J,rv,q⟩:=hs
  exact fin J rv q
 |next=>
  obtain⟨σ',H',J,q⟩:=hs
  exact fin (v:=V.non) (u:=Value.none) J rfl q
 |brk=>
  obtain⟨_,_,_,q⟩:=hs
  exact False.elim q
 |cont=>
  obtain⟨_,_,_,q⟩:=hs
  exact False.elim q
end L2
namespace L2
open PySem PySem.Spec PyProof.Rows
section
variable {X:Cx} {x:Str} {p pos:Pos} {e:Expr} {es:List Expr} {t:TA} {id T:String} {r:List V→Hp→VK→Prop}
noncomputable def tCB (r:List V→Hp→VK→Prop) (t:TA):TE:=fun σ H Q=>t σ H fun vs H1=>r vs H1 Q
theorem aap (hc:CallR X (.builtin id) r) (hg:Gl X x) (hm:X.mg x=none) (hv:bootBuiltins x=some (.builtin id)) (ha:PA X (e::es) t) (hn:x≠"__name__":=by decide) (hdb:(x == ("__debug__":Str))=false:=by decide)
  (he:starEach (e::es) X.env=(false,eval e X.env)::starEach es X.env:=by rfl) (hpl:(backTo pos (starEach es X.env)).any (·.1)=false:=by rfl):PE X (.Call (.Name x p) (e::es) [] pos) (tCB r t):=by
 intro pins s σ H Q I h
 refine wpAny_Call_Name_kw (aev I hg hm hv ?_ hn hdb)
 exact PyProof.Rows.callWith_builtin1 (thn (ha pos pins s σ H _ I h) fun us s1 ⟨vs,H1,I1,r1,q1⟩=>hc pins s1 σ H1 vs us Q I1 r1 q1) he hpl
theorem adp (hc:CallR X (.type T) r) (hg:Gl X x) (hm:X.mg x=none) (hv:bootBuiltins x=some (.type T)) (ha:PA X (e::es) t) (hn:x≠"__name__":=by decide) (hdb:(x == ("__debug__":Str))=false:=by decide)
  (he:starEach (e::es) X.env=(false,eval e X.env)::starEach es X.env:=by rfl) (hpl:(backTo pos (starEach es X.env)).any (·.1)=false:=by rfl):PE X (.Call (.Name x p) (e::es) [] pos) (tCB r t):=by
 intro pins s σ H Q I h
 refine wpAny_Call_Name_kw (aev I hg hm hv ?_ hn hdb)
 exact PyProof.Rows.callWith_type1 (thn (ha pos pins s σ H _ I h) fun us s1 ⟨vs,H1,I1,r1,q1⟩=>hc pins s1 σ H1 vs us Q I1 r1 q1) he hpl
end
end L2
namespace HT
open PySem PyProof.Rows
section
open PySem.SeqAt
open PySem.AutoSeq1 (wpAny_loadPart')
open PySem.MeetsSeq PySem.MeetsSeq2 PySem.MeetsSeq3
end
section
variable {prog:Program} {w:World} {A:Around} {E:Value→Shared→Prop} {s:Shared}
theorem alq {t b:Addr} {vs ws:List Value} {Q:Value→Shared→Prop} (ht:IsTup s.heap t vs.toArray) (hb:IsTup s.heap b ws.toArray) (hv:vs≠[])
  (h1:ws=[]→Q (.ref t) s) (h2:ws≠[]→Q (.ref s.heap.objs.size) {s with heap:=s.heap.push {cls:=.type "tuple",data:=.seq (vs++ws).toArray}})
  (hsz:vs.length+ws.length≤sizeLine):wpAny (model prog w) A (binaryOp .Add (.ref t) (.ref b)) Q E s:=by
 obtain⟨⟨cls,dd,data,sl⟩,ho,hc,n,hd⟩:=id ht
 obtain⟨⟨cls2,dd2,data2,sl2⟩,ho2,hc2,n2,hd2⟩:=id hb
 simp only at hc hd hc2 hd2
 subst hc hd hc2 hd2
 have e:vs.toArray++ws.toArray=(vs++ws).toArray:=by simp
 by_cases hw:ws=[]
 ·exact concat_meets ⟨_,ho,rfl⟩ ⟨_,ho2,rfl⟩ noFill_tuple_add seq_tuple_add PySem.F.slot_tuple_add PySem.F.entry_tuple_add (PySem.F.args_tuple_add_2 _ _)
   (tuple_addW1 t b vs.toArray ws.toArray n n2 dd dd2 sl sl2 (by simpa using hv) (by simp[hw])) ⟨ho,ho2,h1 hw⟩
 ·refine concat_meets ⟨_,ho,rfl⟩ ⟨_,ho2,rfl⟩ noFill_tuple_add seq_tuple_add PySem.F.slot_tuple_add PySem.F.entry_tuple_add (PySem.F.args_tuple_add_2 _ _)
   (tuple_addW2 t b vs.toArray ws.toArray n n2 dd dd2 sl sl2 (by simpa using hv) (by simpa using hw) (by rw[List.size_toArray,List.size_toArray];exact hsz)) ⟨ho,ho2,?_⟩
  rw[e]
  exact h2 hw
noncomputable def sIx (n d:Nat):Option Int→Nat
 |none=>d
 |some v=>if v < 0 then (v+(n:Int)).toNat else min v.toNat n
theorem sIx_le (n d:Nat) (hd:d≤n) (o:Option Int):sIx n d o≤n:=by
 cases o with
 |none=>exact hd
 |some v=>
  show (if v < 0 then (v+(n:Int)).toNat else min v.toNat n)≤n
  by_cases hv:v < 0
  ·rw[if_pos hv];omega
  ·rw[if_neg hv];exact Nat.min_le_right _ _
theorem ah2 (v:Int) (n d:Nat):(if v < 0 then max (v+(n:Int)) 0 else min v (n:Int))=((sIx n d (some v):Nat):Int):=by
 show (if v < 0 then max (v+(n:Int)) 0 else min v (n:Int))=(((if v < 0 then (v+(n:Int)).toNat else min v.toNat n):Nat):Int)
 by_cases hv:v < 0
 ·simp only[if_pos hv];omega
 ·simp only[if_neg hv];omega
theorem ag5 (lo hi:Option Int) (n:Nat):Builtin.Slice.sliceAdjust lo hi 1 (n:Int)=(((sIx n 0 lo:Nat):Int),((sIx n n hi:Nat):Int)):=by
 have h1:¬((1:Int) < 0):=by omega
 unfold Builtin.Slice.sliceAdjust
 simp only[h1,if_false]
 refine Prod.ext ?_ ?_
 ·cases lo with
  |none=>rfl
  |some v=>exact ah2 v n 0
 ·cases hi with
  |none=>rfl
  |some v=>exact ah2 v n n
theorem ag6 (i j:Nat):Builtin.Slice.slicePlaces (i:Int) (j:Int) 1=j - i:=by
 unfold Builtin.Slice.slicePlaces
 have h1:(1:Int) > 0:=by omega
 simp only[h1,if_true,Int.ediv_one]
 split<;>omega
theorem ad6 {v:Value} {o:Option Int} {Q:Option Int→Shared→Prop} (p:IsPart v o) (h:Q o s):wpAny (model prog w) A (Builtin.Slice.slicePartIndex v) Q E s:=by
 cases p with
 |none=>exact slicePart_none h
 |int i t=>exact slicePart_int h
theorem adh {sl:Addr} {vl vu:Value} {lo hi:Option Int} {n:Nat} {Q:Int×Int×Nat→Shared→Prop} (hs:s.heap.IsSliceOf sl vl vu .none) (pl:IsPart vl lo) (pu:IsPart vu hi)
  (h:Q (((sIx n 0 lo:Nat):Int),1,sIx n n hi - sIx n 0 lo) s):wpAny (model prog w) A (Builtin.Slice.sliceApplied (.ref sl) (pure (n:Int))) Q E s:=by
 obtain⟨os,hos,hcs,hds⟩:=id hs
 unfold Builtin.Slice.sliceApplied Builtin.Slice.sliceFields
 refine wpAny_bind (wpAny_bind (wpAny_field hos hds (x:=vl) rfl (wpAny_bind (wpAny_field hos hds (x:=vu) rfl (wpAny_bind (wpAny_field hos hds (x:=.none) rfl (wpAny_pure ?_)))))))
 refine wpAny_bind (slicePart_none ?_)
 show wpAny _ _ (if ((1:Int) == 0)=true then _ else _) _ _ s
 rw[if_neg (by decide)]
 refine wpAny_bind (ad6 pl (wpAny_bind (ad6 pu (wpAny_bind (wpAny_pure ?_)))))
 show wpAny _ _ (match Builtin.Slice.sliceAdjust lo hi 1 (n:Int) with|(lo,hi)=>pure (lo,(1:Int),Builtin.Slice.slicePlaces lo hi 1)) _ _ s
 rw[ag5 lo hi n]
 show wpAny _ _ (pure (((sIx n 0 lo:Nat):Int),(1:Int),Builtin.Slice.slicePlaces ((sIx n 0 lo:Nat):Int) ((sIx n n hi:Nat):Int) 1)) _ _ s
 rw[ag6]
 exact wpAny_pure h
theorem ajy (xs:Array Value) (i k:Nat):((List.range k).filterMap fun (m:Nat)=>xs[((i:Int)+(m:Int) * 1).toNat]?).toArray=((xs.toList.drop i).take k).toArray:=by
 have e:(fun (m:Nat)=>xs[((i:Int)+(m:Int) * 1).toNat]?)=fun m=>xs[i+m]?:=by
  funext m
  have:((i:Int)+(m:Int) * 1).toNat=i+m:=by omega
  rw[this]
 rw[e]
 have:=pick_run xs i k
 rw[List.filterMap_map] at this
 have e2:((fun x=>xs[x]?) ∘ fun x=>i+x)=fun m=>xs[i+m]?:=rfl
 rw[e2] at this
 rw[this]
theorem ac3 {t sl:Addr} {items:Array Value} {vl vu:Value} {lo hi:Option Int} {Q:Value→Shared→Prop} (ht:IsTup s.heap t items) (hs:s.heap.IsSliceOf sl vl vu .none) (pl:IsPart vl lo) (pu:IsPart vu hi)
  (hw:¬(sIx items.size 0 lo=0∧sIx items.size items.size hi=items.size))
  (h:Q (.ref s.heap.objs.size) {s with heap:=s.heap.push {cls:=.type "tuple",data:=.seq ((items.toList.drop (sIx items.size 0 lo)).take (sIx items.size items.size hi - sIx items.size 0 lo)).toArray}})
  (hsz:items.size≤sizeLine):wpAny (model prog w) A (getItem (.ref t) (.ref sl)) Q E s:=by
 have htake:sizeOk (.seq ((items.toList.drop (sIx items.size 0 lo)).take (sIx items.size items.size hi - sIx items.size 0 lo)).toArray):=by
  show ((items.toList.drop (sIx items.size 0 lo)).take (sIx items.size items.size hi - sIx items.size 0 lo)).toArray.size≤sizeLine
  rw[List.size_toArray,List.length_take,List.length_drop,Array.length_toList]
  omega
 have hj:sIx items.size items.size hi≤items.size:=sIx_le _ _ (Nat.le_refl _) hi
 obtain⟨os,hos,hcs,hds⟩:=id hs
 have hTs:s.TypeIs (.ref sl) "slice":=⟨os,hos,hcs⟩
 unfold getItem
 try with_reducible refine wpAny_holding ?_
 first|refine wpAny_bind (wpAny_pure ?_)|skip
 refine wpAny_bind (wpAny_sequenceKey ht.typeIs (by decide) ?_)
 refine wpAny_bind (wpAny_callSpecial?_slot (name:=Str.ofString "__getitem__") ht.typeIs PyProof.Rows.slot_tuple_getitem
  (wpAny_call_entry PyProof.Rows.slot_tuple_getitem ht.typeIs entry_tuple_getitem ?_ (args_tuple_getitem _ _)))
 show wpAny _ _ (Builtin.Tuple.tupleItemsOf (.ref t) >>= _) _ _ s
 refine wpAny_bind (tupleItemsOf_ ht ?_)
 refine wpAny_bind (wpAny_typeOf hTs ?_)
 rw[if_pos (by decide)]
 refine wpAny_bind (adh hs pl pu ?_)
 have hno:¬((((sIx items.size 0 lo:Nat):Int) == 0&&(1:Int) == 1&&(sIx items.size items.size hi - sIx items.size 0 lo) == items.size)=true):=by
  intro q
  rw[Bool.and_eq_true,Bool.and_eq_true] at q
  have q1:((sIx items.size 0 lo:Nat):Int)=0:=eq_of_beq q.1.1
  have q2:sIx items.size items.size hi - sIx items.size 0 lo=items.size:=eq_of_beq q.2
  exact hw ⟨by omega,by omega⟩
 show wpAny _ _ (if (((sIx items.size 0 lo:Nat):Int) == 0&&(1:Int) == 1&&(sIx items.size items.size hi - sIx items.size 0 lo) == items.size)=true then _ else _) _ _ s
 rw[if_neg hno,ajy]
 first
  |exact wpAny_bind (m:=Builtin.Tuple.tupleExact _) (wpAny_newObj_type (wpAny_pure ⟨_,rfl,wpAny_pure h⟩) htake)
  |exact wpAny_bind (m:=Builtin.Tuple.tupleExact _) (wpAny_newObj_type (wpAny_bind (wpAny_pure (wpAny_pure ⟨_,rfl,wpAny_pure h⟩))) htake)
  |exact wpAny_bind (wpAny_bind (m:=Builtin.Tuple.tupleExact _) (wpAny_newObj_type (wpAny_pure (wpAny_pure ⟨_,rfl,wpAny_pure h⟩)) htake))
  |exact wpAny_bind (wpAny_bind (m:=Builtin.Tuple.tupleExact _) (wpAny_newObj_type (wpAny_pure ⟨_,rfl,wpAny_pure h⟩) htake))
end
end HT
namespace L2
open PySem PySem.Spec PyProof.Rows
noncomputable abbrev TO:=St→Hp→(Option Int→Hp→Prop)→Prop
noncomputable def PO (X:Cx) (e:Option Expr) (t:TO):Prop:=
 ∀(pins:List (Addr×Obj)) (s:Shared) (σ:St) (H:Hp) (Q:Option Int→Hp→Prop),Inv X pins σ H s→t σ H Q→
  wpAny (model X.prog X.w) X.A (evalPart e X.env) (fun u s'=>∃o H',Inv X pins σ H' s'∧IsPart u o∧Q o H') X.xe s
noncomputable def tNoPart:TO:=fun _ H Q=>Q none H
noncomputable def tPart (t:TE):TO:=fun σ H Q=>t σ H fun x H1=>∃i,x=.int i∧Q (some i) H1
section
variable {X:Cx} {e:Expr} {te:TE} {lo hi:Option Expr} {tl th:TO} {pos p2:Pos}
theorem abp:PO X none tNoPart:=by
 intro pins s σ H Q I h
 rw[evalPart_none]
 exact wpAny_pure ⟨none,H,I,.none,h⟩
theorem abh (h:PE X e te):PO X (some e) (tPart te):=by
 intro pins s σ H Q I hw
 rw[evalPart_some]
 refine thn (h pins s σ H _ I hw) fun u s1 ⟨x,H1,I1,r1,q1⟩=>?_
 obtain⟨i,rfl,q⟩:=q1
 obtain⟨t,rfl⟩:=r1
 exact⟨some i,H1,I1,.int i t,q⟩
noncomputable def SlR (X:Cx) (r:V→Option Int→Option Int→Hp→VK→Prop):Prop:=
 ∀(pins:List (Addr×Obj)) (s:Shared) (σ:St) (H:Hp) (x:V) (v vl vu:Value) (lo hi:Option Int) (sl:Addr) (Q:VK),Inv X pins σ H s→RelV x v→s.heap.IsSliceOf sl vl vu .none→IsPart vl lo→IsPart vu hi→r x lo hi H Q→
  ∃T id,typeLookup (.type T) "__getitem__"=pure (some (.builtin id))∧s.TypeIs v T∧wpAny (model X.prog X.w) X.A (getItem v (.ref sl)) (EP X pins σ Q) X.xe s
noncomputable def tSl (r:V→Option Int→Option Int→Hp→VK→Prop) (te:TE) (tl th:TO):TE:=fun σ H Q=>te σ H fun x H1=>tl σ H1 fun l H2=>th σ H2 fun u H3=>r x l u H3 Q
theorem aba {r:V→Option Int→Option Int→Hp→VK→Prop} (hr:SlR X r) (he:PE X e te) (hl:PO X lo tl) (hu:PO X hi th):PE X (.Subscript e (.Slice lo hi none p2) pos) (tSl r te tl th):=by
 intro pins s σ H Q I h
 refine Subscript_ (thn (he pins s σ H _ I h) fun v s1 ⟨x,H1,I1,r1,q1⟩=>?_)
 refine wpAny_Slice (thn (hl pins s1 σ H1 _ I1 q1) fun vl s2 ⟨l,H2,I2,pl,q2⟩=>thn (hu pins s2 σ H2 _ I2 q2) fun vu s3 ⟨u,H3,I3,pu,q3⟩=>?_)
 rw[evalPart_none]
 refine wpAny_pure ?_
 have I4:Inv X pins σ H3 {s3 with heap:=s3.heap.push {cls:=.type "slice",data:=.fields #[vl,vu,.none]}}:=I3.kept (t':=s3.toks) fun b ob q=>Heap.get?_push_of_some _ q
 obtain⟨T,id,hT,ht,hg⟩:=hr pins {s3 with heap:=s3.heap.push {cls:=.type "slice",data:=.fields #[vl,vu,.none]}} σ H3 x v vl vu l u s3.heap.objs.size Q I4 r1 (Heap.IsSliceOf.new ..) pl pu q3
 show wpAny (model X.prog X.w) X.A (subscriptTail e (.Slice lo hi none p2) v (.ref s3.heap.objs.size)) (EP X pins σ Q) X.xe {s3 with heap:=s3.heap.push {cls:=.type "slice",data:=.fields #[vl,vu,.none]}}
 exact tail_any (ops:=[.ref s3.heap.objs.size,v]) ht hT hg (by with_unfolding_all rfl)
noncomputable def cutV (xs:List V) (lo hi:Option Int):List V:=(xs.drop (HT.sIx xs.length 0 lo)).take (HT.sIx xs.length xs.length hi - HT.sIx xs.length 0 lo)
theorem adq (xs:List V) (lo hi:Option Int):(cutV xs lo hi).length≤xs.length:=by
 unfold cutV
 rw[List.length_take,List.length_drop]
 omega
noncomputable def rSlT (K:PySem.W.Frag):V→Option Int→Option Int→Hp→VK→Prop:=fun x lo hi H Q=>∃a xs,x=.ref a∧SqT K H a xs∧
 ¬(HT.sIx xs.length 0 lo=0∧HT.sIx xs.length xs.length hi=xs.length)∧∀p,H p=none→Q (.ref p) (upd H p (.tup (cutV xs lo hi)))
theorem ad7:SlR X (rSlT X.K):=by
 intro pins s σ H x v vl vu lo hi sl Q I rx hs pl pu h
 obtain⟨a,xs,rfl,hx,hw,q⟩:=h
 cases rx
 obtain⟨its,r,ht,hz⟩:=I.tuple hx
 have hlen:its.toArray.size=xs.length:=by rw[List.size_toArray];exact r.length.symm
 refine⟨"tuple",_,PyProof.Rows.slot_tuple_getitem.lookup,ht.typeIs,?_⟩
 refine HT.ac3 ht hs pl pu (by rw[hlen];exact hw) ?_ (by rw[hlen];exact hz)
 rw[hlen]
 refine⟨.ref s.heap.objs.size,_,I.laid (t':=s.toks) (o:=.tup (cutV xs lo hi)) (fun b ob q=>Heap.get?_push_of_some _ q) (Nat.le_refl _) ?_,rfl,q _ (I.hok.fresh (Nat.le_refl _))⟩
 exact⟨Nat.le_trans (adq xs lo hi) hz,_,(r.drop (HT.sIx xs.length 0 lo)).take (HT.sIx xs.length xs.length hi - HT.sIx xs.length 0 lo),IsTup.new _ _⟩
noncomputable def rCatT (K:PySem.W.Frag):R2:=fun x y H Q=>∃a b xs ys,x=.ref a∧y=.ref b∧SqT K H a xs∧SqT K H b ys∧xs≠[]∧xs.length+ys.length≤sizeLine∧
 (ys=[]→Q (.ref a) H)∧(ys≠[]→∀p,H p=none→Q (.ref p) (upd H p (.tup (xs++ys))))
theorem Vals.nil_iff {xs:List V} {us:List Value} (r:Vals xs us):us=[]↔xs=[]:=by
 cases r with
 |nil=>simp
 |cons _ _=>simp
theorem ads:OpR X (binaryOp .Add) (rCatT X.K):=by
 intro pins s σ H x y v u Q I rx ry h
 obtain⟨a,b,xs,ys,rfl,rfl,ha,hb,hx,hz,q1,q2⟩:=h
 cases rx
 cases ry
 obtain⟨its,r1,p1,_⟩:=I.tuple ha
 obtain⟨its2,r2,p2,_⟩:=I.tuple hb
 refine HT.alq p1 p2 (fun z=>hx (r1.nil_iff.mp z)) (fun z=>⟨.ref a,H,I,rfl,q1 (r2.nil_iff.mp z)⟩) (fun z=>?_) (by rw[←r1.length,←r2.length];exact hz)
 refine⟨.ref s.heap.objs.size,_,I.laid (t':=s.toks) (o:=.tup (xs++ys)) (fun b ob q=>Heap.get?_push_of_some _ q) (Nat.le_refl _) ?_,rfl,q2 (fun w=>z (r2.nil_iff.mpr w)) _ (I.hok.fresh (Nat.le_refl _))⟩
 exact⟨by rw[List.length_append];exact hz,_,r1.append r2,IsTup.new _ _⟩
end
end L2
namespace L2
open PySem PySem.Spec PyProof.Rows
noncomputable def ixN (n:Nat) (i:Int):Option Nat:=if 0≤i then (if i < n then some i.toNat else none) else if -(n:Int)≤i then some (i+n).toNat else none
noncomputable def atI {α:Type} (xs:List α) (i:Int):Option α:=(ixN xs.length i).bind fun j=>xs[j]?
theorem ah3 {n:Nat} {i:Int} {j:Nat} (h:ixN n i=some j):seqIndex? i n=some j∧j < n∧ -(n:Int)≤i∧i < n:=by
 unfold ixN at h
 by_cases h0:0≤i
 ·rw[if_pos h0] at h
  by_cases h1:i < n
  ·rw[if_pos h1] at h
   have e:i.toNat=j:=Option.some.inj h
   exact⟨by rw[seqIndex_of h0 h1,e],by omega,by omega,h1⟩
  ·rw[if_neg h1] at h;cases h
 ·rw[if_neg h0] at h
  by_cases h1: -(n:Int)≤i
  ·rw[if_pos h1] at h
   have e:(i+n).toNat=j:=Option.some.inj h
   exact⟨by rw[seqIndex_neg (by omega) h1,e],by omega,h1,by omega⟩
  ·rw[if_neg h1] at h;cases h
theorem ah4 {α:Type} {xs:List α} {i:Int} {v:α} (h:atI xs i=some v):∃j,seqIndex? i xs.length=some j∧xs[j]?=some v∧j < xs.length∧ -(xs.length:Int)≤i∧i < xs.length:=by
 unfold atI at h
 cases e:ixN xs.length i with
 |none=>rw[e] at h;cases h
 |some j=>
  rw[e] at h
  obtain⟨h1,h2,h3,h4⟩:=ah3 e
  exact⟨j,h1,h,h2,h3,h4⟩
theorem aa5 {α:Type} {xs:List α} {j:Nat} {v:α} (h:xs[j]?=some v):atI xs (j:Int)=some v:=by
 have hj:j < xs.length:=(List.getElem?_eq_some_iff.mp h).1
 have e:ixN xs.length (j:Int)=some j:=by
  unfold ixN
  rw[if_pos (by omega),if_pos (by omega)];simp
 unfold atI;rw[e];exact h
noncomputable def PlainIx (b:Expr):Prop:=∀o i,subscripted b false o i=operate [o,i] (getItem o i)
noncomputable def IxR (X:Cx) (r:R2):Prop:=
 ∀(value slice:Expr) (pins:List (Addr×Obj)) (s:Shared) (σ:St) (H:Hp) (x y:V) (v u:Value) (Q:VK),Inv X pins σ H s→RelV x v→RelV y u→r x y H Q→
  subscripted slice false v u=operate [v,u] (getItem v u)→wpAny (model X.prog X.w) X.A (subscriptTail value slice v u) (EP X pins σ Q) X.xe s
noncomputable def MtR (X:Cx) (id:String) (r:V→List V→Hp→VK→Prop):Prop:=
 ∀(pins:List (Addr×Obj)) (s:Shared) (σ:St) (H:Hp) (x:V) (xs:List V) (v:Value) (us:List Value) (Q:VK),Inv X pins σ H s→RelV x v→Vals xs us→r x xs H Q→
  wpAny (model X.prog X.w) X.A (call (.builtin id) (v::us)) (EP X pins σ Q) X.xe s
section
variable {X:Cx} {a b:Expr} {ta tb:TE} {pos:Pos}
theorem aak {r:R2} (hr:IxR X r) (ha:PE X a ta) (hb:PE X b tb) (hs:PlainIx b):PE X (.Subscript a b pos) (tOp r ta tb):=by
 intro pins s σ H Q I h
 exact Subscript_ (binT ha hb I h fun v u s2 x y H2 I2 rx ry q=>hr a b pins s2 σ H2 x y v u Q I2 rx ry q (hs _ _))
noncomputable def rIxL (K:PySem.W.Frag):R2:=fun x y H Q=>∃p xs i v,x=.ref p∧y=.int i∧SqL K H p xs∧atI xs i=some v∧Q v H
noncomputable def rIxT (K:PySem.W.Frag):R2:=fun x y H Q=>∃p xs i v,x=.ref p∧y=.int i∧SqT K H p xs∧atI xs i=some v∧Q v H
theorem aaz:IxR X (rIxL X.K):=by
 intro value slice pins s σ H x y v u Q I rx ry h hs
 obtain⟨p,xs,i,z,rfl,rfl,hq,he,q⟩:=h
 cases rx
 obtain⟨t,rfl⟩:=ry
 obtain⟨its,r,pl,hz⟩:=I.list hq
 obtain⟨j,h1,h2,h3,h4,h5⟩:=ah4 he
 obtain⟨w,ew,rw'⟩:=r.get h2
 have hl:=r.length
 have hn:=line63
 have fin:EP X pins σ Q w s:=⟨z,H,I,rw',q⟩
 by_cases h0:0≤i
 ·have hj:i.toNat=j:=by
   rw[seqIndex_of h0 h5] at h1
   exact Option.some.inj h1
  exact item_listR pl.isList h0 (by omega) (by rw[hj];simpa using ew) fin hs
 ·have hj:(i+(its.toArray.size:Int)).toNat=j:=by
   rw[seqIndex_neg (by omega) h4] at h1
   rw[List.size_toArray,←hl]
   exact Option.some.inj h1
  exact subscriptTail_builtinR (x:=w) pl.isList.typeIs slot_list_getitem.lookup
   (wpAny_getItem_list_neg (Q:=fun r s'=>r=w∧EP X pins σ Q r s') pl.isList (by omega) (by rw[List.size_toArray]<;>omega) (by omega) (by rw[hj];simpa using ew) ⟨rfl,fin⟩) hs
theorem aal:IxR X (rIxT X.K):=by
 intro value slice pins s σ H x y v u Q I rx ry h hs
 obtain⟨p,xs,i,z,rfl,rfl,hq,he,q⟩:=h
 cases rx
 obtain⟨t,rfl⟩:=ry
 obtain⟨its,r,pl,hz⟩:=I.tuple hq
 obtain⟨j,h1,h2,h3,h4,h5⟩:=ah4 he
 obtain⟨w,ew,rw'⟩:=r.get h2
 have hl:=r.length
 have hn:=line63
 have fin:EP X pins σ Q w s:=⟨z,H,I,rw',q⟩
 exact subscriptTail_builtinR (x:=w) pl.typeIs slot_tuple_getitem.lookup
  (getItem_tuple (j:=j) (Q:=fun r s'=>r=w∧EP X pins σ Q r s') pl (by omega) (by omega) (by rw[List.size_toArray,←hl];exact h1) (by simpa using ew) ⟨rfl,fin⟩) hs
theorem ag7 (its:List Value) (n j:Nat) (u:Value):Obj.mapSeq (·.setIfInBounds j u) {cls:=.type "list",data:=.seq its.toArray n}={cls:=.type "list",data:=.seq (its.set j u).toArray n}:=by
 simp[Obj.mapSeq]
theorem Inv.lst {pins:List (Addr×Obj)} {σ:St} {H:Hp} {s:Shared} {p:Addr} {xs:List V} (I:Inv X pins σ H s) (h:H p=some (.lst xs)):
  ∃(its:List Value) (n:Nat),Vals xs its∧s.heap.get? p=some {cls:=.type "list",data:=.seq its.toArray n}∧xs.length≤sizeLine:=by
 obtain⟨z,its,n,r,e⟩:=I.hok p _ h
 exact⟨its,n,r,e,z⟩
theorem Inv.lstUpd {pins:List (Addr×Obj)} {σ:St} {H:Hp} {s:Shared} {p:Addr} {xs ys:List V} {its its':List Value} {n n':Nat} {f:Obj→Obj} (I:Inv X pins σ H s) (h:H p=some (.lst xs))
  (ho:s.heap.get? p=some {cls:=.type "list",data:=.seq its.toArray n}) (hf:f {cls:=.type "list",data:=.seq its.toArray n}={cls:=.type "list",data:=.seq its'.toArray n'}) (r:Vals ys its') (hz:ys.length≤sizeLine) (t:Nat):
  Inv X pins σ (upd H p (.lst ys)) {s with heap:=s.heap.update p f,toks:=t}:=by
 have e:(s.heap.update p f).get? p=some {cls:=.type "list",data:=.seq its'.toArray n'}:=by
  rw[Heap.get?_update_self f ho (by rw[hf]<;>rfl),hf]
 refine I.write (x:=p) (e:=p) (by rw[h];trivial) (.inl rfl) (fun b u hb q=>(Heap.get?_update_other _ _ (Ne.symm hb)).trans q) ⟨_,e⟩ ?_
 exact⟨hz,its',n',r,e⟩
noncomputable def rSetL:V→V→V→Hp→(Hp→Prop)→Prop:=fun o i v H Q=>∃p xs k j,o=.ref p∧i=.int k∧H p=some (.lst xs)∧ixN xs.length k=some j∧Q (upd H p (.lst (xs.set j v)))
theorem abo:PSet X rSetL:=by
 intro pins s σ H o i v ov iv u Q I ro ri rv h
 obtain⟨p,xs,k,j,rfl,rfl,hp,hj,q⟩:=h
 cases ro
 obtain⟨t,rfl⟩:=ri
 obtain⟨its,n,r,ho,hz⟩:=I.lst hp
 obtain⟨h1,h2,h3,h4⟩:=ah3 hj
 have hl:=r.length
 have hn:=line63
 have I':Inv X pins σ (upd H p (.lst (xs.set j v))) {s with heap:=s.heap.update p (Obj.mapSeq (·.setIfInBounds j u))}:=
  I.lstUpd hp ho (ag7 its n j u) (r.set rv j) (by rw[List.length_set];exact hz) s.toks
 by_cases h0:0≤k
 ·have hk:k.toNat=j:=by
   rw[seqIndex_of h0 h4] at h1
   exact Option.some.inj h1
  exact PySem.W.ki_setAt ho h0 (by omega) (by rw[List.size_toArray,←hl];exact h4) (by rw[hk];exact⟨_,I',q⟩)
 ·have hk:(k+(its.toArray.size:Int)).toNat=j:=by
   rw[seqIndex_neg (by omega) h3] at h1
   rw[List.size_toArray,←hl]
   exact Option.some.inj h1
  exact PySem.W.ki_setBack ho (by omega) (by rw[List.size_toArray,←hl];exact h3) (by omega) (by rw[hk];exact⟨_,I',q⟩)
theorem ae5 (lo hi:Option Int) (n:Nat):(sliceBounds lo hi none n).1=((HT.sIx n 0 lo:Nat):Int)∧(sliceBounds lo hi none n).2.1=((HT.sIx n n hi:Nat):Int)∧(sliceBounds lo hi none n).2.2=1:=by
 refine⟨?_,?_,rfl⟩
 ·cases lo with
  |none=>simp[sliceBounds,HT.sIx]
  |some i=>
   simp only[sliceBounds,HT.sIx,Option.getD_none,show (1:Int) > 0 by decide,if_true]
   by_cases h:i < 0
   ·simp only[h,if_true]<;>omega
   ·simp only[h,if_false]<;>omega
 ·cases hi with
  |none=>simp[sliceBounds,HT.sIx]
  |some i=>
   simp only[sliceBounds,HT.sIx,Option.getD_none,show (1:Int) > 0 by decide,if_true]
   by_cases h:i < 0
   ·simp only[h,if_true]<;>omega
   ·simp only[h,if_false]<;>omega
theorem aef (its:List Value) (lo hi:Option Int):slicePick its.toArray lo hi none=((its.drop (HT.sIx its.length 0 lo)).take (HT.sIx its.length its.length hi - HT.sIx its.length 0 lo)).toArray:=by
 obtain⟨h1,h2,h3⟩:=ae5 lo hi its.toArray.size
 unfold slicePick
 rw[h1,h2,h3]
 simp only[sliceRange_one,pick_run,List.size_toArray]<;>rfl
noncomputable def rSlL (K:PySem.W.Frag):V→Option Int→Option Int→Hp→VK→Prop:=fun x lo hi H Q=>∃a xs,x=.ref a∧SqL K H a xs∧∀p,H p=none→Q (.ref p) (upd H p (.lst (cutV xs lo hi)))
theorem acm:SlR X (rSlL X.K):=by
 intro pins s σ H x v vl vu lo hi sl Q I rx hs pl pu h
 obtain⟨a,xs,rfl,hx,q⟩:=h
 cases rx
 obtain⟨its,r,ht,hz⟩:=I.list hx
 have hlen:=r.length
 refine⟨"list",_,slot_list_getitem.lookup,ht.isList.typeIs,?_⟩
 refine wpAny_getItem_list_slice ht.isList hs pl pu .none (by simp) ?_ (by rw[List.size_toArray]<;>omega)
 rw[aef,←hlen]
 refine⟨.ref s.heap.objs.size,_,I.laid (t':=s.toks) (o:=.lst (cutV xs lo hi)) (fun b ob q=>Heap.get?_push_of_some _ q) (Nat.le_refl _) ?_,rfl,q _ (I.hok.fresh (Nat.le_refl _))⟩
 exact⟨Nat.le_trans (adq xs lo hi) hz,_,0,(r.drop (HT.sIx xs.length 0 lo)).take (HT.sIx xs.length xs.length hi - HT.sIx xs.length 0 lo),Heap.get?_push_size _ rfl⟩
noncomputable def flatV:V→Bool
 |.non=>true
 |.bl _=>true
 |.int _=>true
 |.str _=>true
 |_=>false
noncomputable def eqV:V→V→Bool
 |.non,.non=>true
 |.bl a,.bl b=>a == b
 |.bl a,.int b=>(if a then 1 else 0) == b
 |.int a,.bl b=>a == (if b then 1 else 0)
 |.int a,.int b=>a == b
 |.str a,.str b=>a == b
 |_,_=>false
theorem akz {A:Around} {s:Shared} {y x:V} {u v:Value} (ry:RelV y u) (rx:RelV x v) (fy:flatV y=true) (fx:flatV x=true):SeqAt.EqAt A s u v (eqV y x):=by
 cases y with
 |non=>
  cases ry
  cases x with
  |non=>cases rx;exact SeqAt.EqAt.same _
  |bl b=>cases rx;exact SeqAt.EqAt.none_bool b
  |int b=>obtain⟨t,rfl⟩:=rx;exact SeqAt.EqAt.none_int b t
  |str b=>obtain⟨t,rfl⟩:=rx;exact SeqAt.EqAt.none_str b t
  |_=>exact absurd (show false=true from fx) Bool.false_ne_true
 |bl a=>
  cases ry
  cases x with
  |non=>cases rx;exact SeqAt.EqAt.bool_none a
  |bl b=>cases rx;exact SeqAt.EqAt.bool_bool a b
  |int b=>obtain⟨t,rfl⟩:=rx;exact SeqAt.EqAt.bool_int a b t
  |str b=>obtain⟨t,rfl⟩:=rx;exact SeqAt.EqAt.bool_str a b t
  |_=>exact absurd (show false=true from fx) Bool.false_ne_true
 |int a=>
  obtain⟨t',rfl⟩:=ry
  cases x with
  |non=>cases rx;exact SeqAt.EqAt.int_none a t'
  |bl b=>cases rx;exact SeqAt.EqAt.int_bool a t' b
  |int b=>obtain⟨t,rfl⟩:=rx;exact SeqAt.EqAt.int_int a t' b t
  |str b=>obtain⟨t,rfl⟩:=rx;exact SeqAt.EqAt.int_str a t' b t
  |_=>exact absurd (show false=true from fx) Bool.false_ne_true
 |str a=>
  obtain⟨t',rfl⟩:=ry
  cases x with
  |non=>cases rx;exact SeqAt.EqAt.str_none a t'
  |bl b=>cases rx;exact SeqAt.EqAt.str_bool a t' b
  |int b=>obtain⟨t,rfl⟩:=rx;exact SeqAt.EqAt.str_int a t' b t
  |str b=>obtain⟨t,rfl⟩:=rx;exact SeqAt.EqAt.str_str a t' b t
  |_=>exact absurd (show false=true from fx) Bool.false_ne_true
 |_=>exact absurd (show false=true from fy) Bool.false_ne_true
noncomputable def eqU (x:V) (u:Value):Bool:=match u with
 |.none=>eqV .non x
 |.bool b=>eqV (.bl b) x
 |.int i _=>eqV (.int i) x
 |.str z _=>eqV (.str z) x
 |_=>false
theorem ak0 {x y:V} {u:Value} (r:RelV y u) (f:flatV y=true):eqU x u=eqV y x:=by
 cases y with
 |non=>cases r;rfl
 |bl b=>cases r;rfl
 |int i=>obtain⟨t,rfl⟩:=r;rfl
 |str z=>obtain⟨t,rfl⟩:=r;rfl
 |_=>exact absurd (show false=true from f) Bool.false_ne_true
theorem afr {x:V}:∀{xs:List V} {us:List Value},Vals xs us→xs.all flatV=true→us.any (eqU x)=xs.any fun y=>eqV y x
 |_,_,.nil,_=>rfl
 |y::xs,u::us,.cons r t,f=>by
  rw[List.all_cons,Bool.and_eq_true] at f
  rw[List.any_cons,List.any_cons,ak0 r f.1,afr t f.2]
theorem aeg {A:Around} {s:Shared} {x:V} {v:Value} (rx:RelV x v) (fx:flatV x=true):∀{xs:List V} {us:List Value},Vals xs us→xs.all flatV=true→∀u∈us,SeqAt.EqAt A s u v (eqU x u)
 |_,_,.nil,_=>fun u hu=>by cases hu
 |y::xs,u::us,.cons r t,f=>fun u' hu=>by
  rw[List.all_cons,Bool.and_eq_true] at f
  rcases List.mem_cons.mp hu with rfl|hu
  ·rw[ak0 r f.1];exact akz r rx f.1 fx
  ·exact aeg rx fx t f.2 u' hu
noncomputable def inV (x:V) (xs:List V):Bool:=xs.any fun y=>eqV y x
noncomputable def rIn (K:PySem.W.Frag) (neg:Bool):R2:=fun x y H Q=>∃p xs,y=.ref p∧(SqL K H p xs∨SqT K H p xs)∧flatV x=true∧xs.all flatV=true∧Q (.bl (if neg then !inV x xs else inV x xs)) H
theorem ah5:OpR X (compareOp .In) (rIn X.K false):=by
 intro pins s σ H x y v u Q I rx ry h
 obtain⟨p,xs,rfl,hq,fx,fs,q⟩:=h
 cases ry
 rcases hq with hq|hq
 ·obtain⟨its,r,pl,hz⟩:=I.list hq
  refine SeqAt.in_listAt (eqU x) pl.isList (fun w hw=>aeg rx fx r fs w (by simpa using hw)) ⟨.bl _,H,I,rfl,?_⟩
  rw[show its.toArray.any (eqU x)=its.any (eqU x) by simp,afr r fs]
  exact q
 ·obtain⟨its,r,pl,hz⟩:=I.tuple hq
  refine SeqAt.in_tupleAt (eqU x) pl (fun w hw=>aeg rx fx r fs w (by simpa using hw)) ⟨.bl _,H,I,rfl,?_⟩
  rw[show its.toArray.any (eqU x)=its.any (eqU x) by simp,afr r fs]
  exact q
theorem ae6:CallR X (.type "list") (fun xs H Q=>∃p ys,xs=[.ref p]∧(SqL X.K H p ys∨SqT X.K H p ys)∧∀l,H l=none→Q (.ref l) (upd H l (.lst ys))):=by
 intro pins s σ H xs us Q I r h
 obtain⟨p,ys,rfl,hq,q⟩:=h
 obtain⟨u,rfl,rx⟩:=vals1 r
 cases rx
 have fin:∀(its:List Value),Vals ys its→ys.length≤sizeLine→∀(h':Heap) (c':Nat),(∀b o',s.heap.get? b=some o'→h'.get? b=some o')→
   h'.get? s.heap.objs.size=some {cls:=.type "list",dict:=none,data:=.seq its.toArray c',slots:= #[]}→EP X pins σ Q (.ref s.heap.objs.size) {s with heap:=h'}:=fun its r' hz h' c' kp e=>
  ⟨.ref s.heap.objs.size,_,I.laid (t':=s.toks) kp (Nat.le_refl _) (show ObjOk X.prog X.w _ h' _ (.lst ys) from ⟨hz,its,c',r',e⟩),rfl,q _ (I.hok.fresh (Nat.le_refl _))⟩
 rcases hq with hq|hq
 ·obtain⟨its,r',pl,hz⟩:=I.list hq
  have hlen:=r'.length
  obtain⟨o,ho,hc,n,hd⟩:=pl.isList
  exact call_list_seq p (.inl rfl) ho hc hd (fun h' c' kp e=>fin its r' hz h' c' kp e) (by simp only[List.size_toArray]<;>omega)
 ·obtain⟨its,r',pl,hz⟩:=I.tuple hq
  have hlen:=r'.length
  obtain⟨o,ho,hc,n,hd⟩:=pl
  exact call_list_seq p (.inr rfl) ho hc hd (fun h' c' kp e=>fin its r' hz h' c' kp e) (by simp only[List.size_toArray]<;>omega)
noncomputable def tyV (K:PySem.W.Frag) (T:String) (x:V) (H:Hp):Prop:=match x with
 |.str _=>T="str"
 |.int _=>T="int"
 |.ref p=>(T="list"∧∃xs,SqL K H p xs)∨(T="tuple"∧∃o,K.lookup p=some o∧o.cls=.type "tuple"∧o.dict=none)∨
  (T="dict"∧((∃kvs,H p=some (.dK kvs))∨∃kvs,H p=some (.dT kvs)))∨(T="set"∧∃S n,H p=some (.set S n))
 |_=>False
theorem tyV_is {pins:List (Addr×Obj)} {σ:St} {H:Hp} {s:Shared} {T:String} {x:V} {v:Value} (I:Inv X pins σ H s) (r:RelV x v) (ty:tyV X.K T x H):
  s.TypeIs v T∧∀a,v=.ref a→∃ob,s.heap.get? a=some ob∧ob.dict=none:=by
 cases x with
 |str z=>
  obtain⟨t,rfl⟩:=r
  cases (show T="str" from ty)
  exact⟨typeIs_str s z t,fun _ e=>nomatch e⟩
 |int i=>
  obtain⟨t,rfl⟩:=r
  cases (show T="int" from ty)
  exact⟨typeIs_int s i t,fun _ e=>nomatch e⟩
 |ref p=>
  cases r
  rcases ty with ⟨rfl,xs,hq⟩|⟨rfl,o,hk,hc,hd⟩|⟨rfl,hk⟩|⟨rfl,S,n,hk⟩
  ·obtain⟨its,_,pl,_⟩:=I.list hq
   refine⟨pl.isList.typeIs,fun a e=>?_⟩
   cases e
   obtain⟨o,n,e,c,hd,_⟩:=pl
   exact⟨o,e,hd⟩
  ·refine⟨⟨o,I.kIn p o hk,hc⟩,fun a e=>?_⟩
   cases e
   exact⟨o,I.kIn _ o hk,hd⟩
  ·have z:∃o,s.heap.get? p=some o∧o.ExactDict:=by
    rcases hk with ⟨kvs,hk⟩|⟨kvs,hk⟩
    ·obtain⟨_,_,_,_,o,_,_,e,ex,_⟩:=I.hok p _ hk
     exact⟨o,e,ex⟩
    ·obtain⟨_,_,_,_,o,_,_,e,ex,_⟩:=I.hok p _ hk
     exact⟨o,e,ex⟩
   obtain⟨o,e,ex⟩:=z
   refine⟨⟨o,e,ex.1⟩,fun a e2=>?_⟩
   cases e2
   exact⟨o,e,ex.2.1⟩
  ·obtain⟨o,_,_,_,e,ex,_⟩:=I.hok p _ hk
   refine⟨⟨o,e,ex.1⟩,fun a e2=>?_⟩
   cases e2
   exact⟨o,e,ex.2.1⟩
 |_=>exact False.elim ty
noncomputable def tBM (K:PySem.W.Frag) (T:String) (r:V→List V→Hp→VK→Prop) (to:TE) (t:TA):TE:=fun σ H Q=>to σ H fun x H1=>tyV K T x H1∧t σ H1 fun xs H2=>r x xs H2 Q
variable {o e:Expr} {es:List Expr} {to:TE} {t:TA} {name:Str} {apos cpos:Pos} {T id:String} {r:V→List V→Hp→VK→Prop}
theorem ajz (pa:PlainAttrs T) (slot:Slot T name id) (hty:typeOf (.builtin id)=pure (.type "method_descriptor")) (hm:MtR X id r) (ho:PE X o to) (ha:PA X (e::es) t)
  (hbase:attributeBase o name X.env (eval o X.env)=eval o X.env:=by rfl)
  (hfew:((backTo cpos (starEach (e::es) X.env)).all (fun x=> !x.1)&&(backToKw cpos (keywordEach [] X.env)).all (fun x=>x.1.isSome)
   &&decide ((e::es).length+([]:List Keyword).length+(if ([]:List Keyword).isEmpty then 0 else 1) < 30))=true:=by rfl)
  (hline:(apos.endLine == cpos.line)=true:=by rfl) (hs:starEach (e::es) X.env=(false,eval e X.env)::starEach es X.env:=by rfl) (hplain:(backTo cpos (starEach es X.env)).any (·.1)=false:=by rfl):
  PE X (.Call (.Attribute o name apos) (e::es) [] cpos) (tBM X.K T r to t):=by
 intro pins s σ H Q I h
 refine wpAny_Call_method_late hbase hfew hline rfl (thn (ho pins s σ H _ I h) fun v s1 ⟨x,H1,I1,r1,ty,q1⟩=>?_)
 obtain⟨h1,h2⟩:=tyV_is I1 r1 ty
 refine⟨T,id,pa,slot,hty,h1,h2,?_⟩
 have hA:=ha cpos pins s1 σ H1 _ I1 q1
 rw[hs] at hA ⊢
 refine Calls.callWith_builtin (by show (false || (backTo cpos (starEach es X.env)).any (·.1))=false;rw[hplain]<;>rfl) (Calls.evalArgs_plain ?_)
 exact thn hA fun us s2 ⟨vs,H2,I2,r2,q2⟩=>hm pins s2 σ H2 x vs v us Q I2 r1 r2 q2
end
end L2
namespace L2
open PySem PySem.Spec PyProof.Rows
noncomputable def MtM (X:Cx) (id:String) (r:V→List V→Hp→VK→Prop):Prop:=
 ∀(pins:List (Addr×Obj)) (s:Shared) (σ:St) (H:Hp) (x:V) (xs:List V) (v:Value) (us:List Value) (Q:VK),Inv X pins σ H s→RelV x v→Vals xs us→r x xs H Q→
  wpAny (model X.prog X.w) X.A (call (.builtin id) (v::us)) (EP X pins σ Q) X.xe s
theorem Vals.one:∀{x:V} {us:List Value},Vals [x] us→∃u,us=[u]∧RelV x u
 |_,_,.cons r .nil=>⟨_,rfl,r⟩
theorem Vals.two:∀{x y:V} {us:List Value},Vals [x,y] us→∃u v,us=[u,v]∧RelV x u∧RelV y v
 |_,_,_,.cons r (.cons q .nil)=>⟨_,_,rfl,r,q⟩
theorem Vals.rep {xs:List V} {us:List Value} (h:Vals xs us):∀k:Nat,Vals (List.replicate k xs).flatten (List.replicate k us).flatten
 |0=>.nil
 |k+1=>by
  rw[List.replicate_succ,List.replicate_succ,List.flatten_cons,List.flatten_cons]
  exact Vals.append h (Vals.rep h k)
theorem ae7 (its:List Value):∀(k:Nat) (acc:List Value),
  List.foldl (fun x1 x2=>x1++x2) acc.toArray (List.replicate k its.toArray)=(acc++(List.replicate k its).flatten).toArray
 |0,acc=>by simp
 |k+1,acc=>by
  have e:acc.toArray++its.toArray=(acc++its).toArray:=by simp
  have e2:(acc++its)++(List.replicate k its).flatten=acc++(List.replicate (k+1) its).flatten:=by
   rw[List.replicate_succ,List.flatten_cons,List.append_assoc]
  rw[←e2,←ae7 its k (acc++its),←e,List.replicate_succ,List.foldl_cons]
section
variable {X:Cx} {pins:List (Addr×Obj)} {σ:St} {H:Hp} {s:Shared} {l b:Addr} {xs ys zs:List V}
theorem Inv.lset {its its':List Value} {n:Nat} {f:Array Value→Array Value} {t':Nat} (I:Inv X pins σ H s) (hH:H l=some (.lst xs))
  (e:s.heap.get? l=some {cls:=.type "list",data:=.seq its.toArray n}) (hf:f its.toArray=its'.toArray) (hv:Vals ys its') (hz:ys.length≤sizeLine):
  Inv X pins σ (upd H l (.lst ys)) {s with heap:=s.heap.update l (Obj.mapSeq f),toks:=t'}:=by
 have q:=PySem.IsL.update e f
 rw[hf] at q
 refine I.write (x:=l) (e:=l) (by rw[hH];exact trivial) (.inl rfl) (fun b' u hb hu=>(Heap.get?_update_other s.heap (Obj.mapSeq f) (Ne.symm hb)).trans hu) ⟨_,q⟩ ?_
 exact⟨hz,its',_,hv,q⟩
theorem Inv.lnew {its:List Value} {t':Nat} (I:Inv X pins σ H s) (hv:Vals ys its) (hz:ys.length≤sizeLine):
  Inv X pins σ (upd H s.heap.objs.size (.lst ys)) {s with heap:=s.heap.push {cls:=.type "list",data:=.seq its.toArray},toks:=t'}:=
 I.laid (fun _ _ q=>Heap.get?_push_of_some _ q) (Nat.le_refl _) ⟨hz,its,0,hv,Heap.get?_push_size _ rfl⟩
theorem Inv.fresh (I:Inv X pins σ H s):H s.heap.objs.size=none:=I.hok.fresh (Nat.le_refl _)
theorem Inv.lstM (I:Inv X pins σ H s) (hH:H l=some (.lst xs)):xs.length≤sizeLine∧∃(its:List Value) (n:Nat),Vals xs its∧xs.length=its.length∧s.heap.get? l=some {cls:=.type "list",data:=.seq its.toArray n}:=by
 obtain⟨z,its,n,r,e⟩:=I.hok l _ hH
 exact⟨z,its,n,r,r.length,e⟩
theorem notLongL {n:Nat} (h:n≤sizeLine):Builtin.List.listTooLong n=false:=by
 unfold Builtin.List.listTooLong
 exact decide_eq_false (by omega)
end
section
variable {X:Cx}
noncomputable def rAppend:V→List V→Hp→VK→Prop:=fun x vs H Q=>∃l xs y,x=.ref l∧vs=[y]∧H l=some (.lst xs)∧xs.length < sizeLine∧Q .non (upd H l (.lst (xs++[y])))
theorem adt:MtM X "list.append" rAppend:=by
 intro pins s σ H x vs v us Q I rx rv h
 obtain⟨l,xs,y,rfl,rfl,hH,hz,q⟩:=h
 cases rx
 obtain⟨u,rfl,ru⟩:=rv.one
 obtain⟨z,its,n,r,hl,e⟩:=I.lstM hH
 refine call_meets F.slot_list_append ⟨_,e,rfl⟩ F.entry_list_append (F.args_list_append_2 _ _) (PySem.list_append l its.toArray n u (by rw[List.size_toArray];omega)) ⟨e,?_⟩
 refine⟨.non,_,I.lset (its':=its++[u]) hH e (by simp) (r.append (.cons ru .nil)) ?_,rfl,q⟩
 rw[List.length_append,List.length_singleton]
 omega
noncomputable def rExtend:V→List V→Hp→VK→Prop:=fun x vs H Q=>∃l b xs zs,x=.ref l∧vs=[.ref b]∧H l=some (.lst xs)∧H b=some (.lst zs)∧xs.length+zs.length≤sizeLine∧Q .non (upd H l (.lst (xs++zs)))
noncomputable def rCat:R2:=fun x y H Q=>∃l b xs zs,x=.ref l∧y=.ref b∧H l=some (.lst xs)∧H b=some (.lst zs)∧xs.length+zs.length≤sizeLine∧∀p,H p=none→Q (.ref p) (upd H p (.lst (xs++zs)))
theorem ad8:OpR X (binaryOp .Add) rCat:=by
 intro pins s σ H x y v u Q I rx ry h
 obtain⟨l,b,xs,zs,rfl,rfl,hH,hB,hz,q⟩:=h
 cases rx
 cases ry
 obtain⟨z,its,n,r,hl,e⟩:=I.lstM hH
 obtain⟨z2,its2,n2,r2,hl2,e2⟩:=I.lstM hB
 refine PySem.P.add_list e e2 ?_ (by rw[List.size_toArray,List.size_toArray];omega)
 have ea:its.toArray++its2.toArray=(its++its2).toArray:=by simp
 rw[ea]
 exact⟨.ref _,_,I.lnew (t':=s.toks) (r.append r2) (by rw[List.length_append];omega),rfl,q _ I.fresh⟩
noncomputable def rRep:R2:=fun x y H Q=>∃l k xs,x=.ref l∧y=.int k∧H l=some (.lst xs)∧ -(2 ^ 63)≤k∧k < 2 ^ 63∧xs.length * k.toNat≤sizeLine∧
 ∀p,H p=none→Q (.ref p) (upd H p (.lst (List.replicate k.toNat xs).flatten))
theorem alr {α:Type} (xs:List α) (k:Nat):(List.replicate k xs).flatten.length=k * xs.length:=by
 induction k with
 |zero=>simp
 |succ k ih=>rw[List.replicate_succ,List.flatten_cons,List.length_append,ih,Nat.succ_mul,Nat.add_comm]
theorem op_rep:OpR X (binaryOp .Mult) rRep:=by
 intro pins s σ H x y v u Q I rx ry h
 obtain⟨l,k,xs,rfl,rfl,hH,h1,h2,hz,q⟩:=h
 cases rx
 obtain⟨t,rfl⟩:=ry
 obtain⟨z,its,n,r,hl,e⟩:=I.lstM hH
 have hlen:its.toArray.size * k.toNat≤sizeLine:=by rw[List.size_toArray,←hl];exact hz
 have hcap:¬its.toArray.size * k.toNat > (2 ^ 63 - 1) / 8:=by
  have:(sizeLine:Nat)≤(2 ^ 63 - 1) / 8:=by decide
  omega
 have hfit:¬(!Builtin.List.listFitsIndex k)=true:=by
  rw[fitsIndex_both h1 h2]
  exact Bool.false_ne_true
 have hlong:¬Builtin.List.listTooLong (its.toArray.size * k.toNat)=true:=by
  rw[notLongL hlen]
  exact Bool.false_ne_true
 have hnew:List.foldl (fun x1 x2=>x1++x2) #[] (List.replicate (if its.toArray.isEmpty=true then 0 else k.toNat) its.toArray)=(List.replicate k.toNat its).flatten.toArray:=by
  have f0:∀m:Nat,List.foldl (fun x1 x2=>x1++x2) #[] (List.replicate m its.toArray)=(List.replicate m its).flatten.toArray:=fun m=>by
   have:=ae7 its m []
   rw[List.nil_append] at this
   exact this
  rw[f0]
  cases its with
  |nil=>simp
  |cons a r'=>rw[if_neg (by simp)]
 refine wpAny_binaryOp_repeat_ref (T:="list") (U:="int") (by decide) ⟨_,e,rfl⟩ (fun s'=>typeIs_int s' k t) noFill_list_mul F.fills_int_mul F.slot_int_rmul repeat_list F.slot_int_index.lookup
  (call_meets F.slot_int_rmul (typeIs_int s k t) F.entry_int_rmul (F.args_int_rmul_2 _ _) (int___rmul___int_list k t l its.toArray n)
   ⟨e,rfl,⟨_,e,rfl⟩,call_meets F.slot_list_mul ⟨_,e,rfl⟩ F.entry_list_mul (F.args_list_mul_2 _ _) (AutoListH.list___mul___list_int_3 l its.toArray n k t hfit hcap hlong) ⟨e,?_⟩⟩)
 rw[hnew]
 exact⟨.ref _,_,I.lnew (t':=s.toks) (r.rep k.toNat) (by rw[alr,Nat.mul_comm];exact hz),rfl,q _ I.fresh⟩
end
section
variable {prog:Program} {w:World} {A:Around} {E:Value→Shared→Prop} {s:Shared}
end
section
variable {X:Cx}
end
end L2
namespace L2
open PySem PySem.Spec PyProof.Rows
section
variable {κ:Type} [DecidableEq κ]
noncomputable def valV (kvs:List (κ×V)) (k:κ):Option V:=(kvs.find? fun kv=>decide (kv.1=k)).map (·.2)
noncomputable def putK (kvs:List (κ×V)) (k:κ) (v:V):List (κ×V):=
 if (kvs.any fun kv=>decide (kv.1=k))=true then kvs.map (fun kv=>if kv.1=k then (kv.1,v) else kv) else kvs++[(k,v)]
noncomputable def dropK (kvs:List (κ×V)) (k:κ):List (κ×V):=kvs.filter fun kv=>decide (kv.1≠k)
theorem aa6 {p:κ×V} {r:List (κ×V)} {k:κ} (e:p.1=k):valV (p::r) k=some p.2:=by simp[valV,List.find?_cons,e]
theorem aa2 {p:κ×V} {r:List (κ×V)} {k:κ} (e:¬p.1=k):valV (p::r) k=valV r k:=by simp[valV,List.find?_cons,e]
theorem acu (k:κ):∀kvs:List (κ×V),(kvs.any fun kv=>decide (kv.1=k))=(valV kvs k).isSome
 |[]=>rfl
 |p::r=>by
  rw[List.any_cons]
  by_cases e:p.1=k
  ·simp only[aa6 e,decide_eq_true e,Bool.true_or,Option.isSome_some]
  ·rw[aa2 e,decide_eq_false e,Bool.false_or];exact acu k r
theorem af9 (k j:κ) (y:V):∀kvs:List (κ×V),valV (kvs.map fun kv=>if kv.1=k then (kv.1,y) else kv) j=(valV kvs j).map fun x=>if j=k then y else x
 |[]=>rfl
 |p::r=>by
  have ih:=af9 k j y r
  rw[List.map_cons]
  by_cases h:p.1=k
  ·rw[if_pos h]
   by_cases e:p.1=j
   ·rw[aa6 (p:=(p.1,y)) e,aa6 e,Option.map_some,if_pos (e.symm.trans h)]
   ·rw[aa2 (p:=(p.1,y)) e,aa2 e,ih]
  ·rw[if_neg h]
   by_cases e:p.1=j
   ·rw[aa6 (p:=p) e,aa6 e,Option.map_some,if_neg (fun z=>h (e.trans z))]
   ·rw[aa2 (p:=p) e,aa2 e,ih]
theorem ae8 (k j:κ) (y:V):∀kvs:List (κ×V),valV kvs k=none→valV (kvs++[(k,y)]) j=if j=k then some y else valV kvs j
 |[],_=>by
  by_cases e:k=j
  ·rw[if_pos e.symm];exact aa6 (p:=(k,y)) e
  ·rw[if_neg (fun z=>e z.symm)];exact aa2 (p:=(k,y)) e
 |p::r,hn=>by
  rw[List.cons_append]
  have hk:¬p.1=k:=fun z=>by rw[aa6 z] at hn;cases hn
  rw[aa2 hk] at hn
  have ih:=ae8 k j y r hn
  by_cases e:p.1=j
  ·rw[aa6 e,aa6 e,if_neg (fun z=>hk (e.trans z))]
  ·rw[aa2 e,aa2 e,ih]
theorem aga (kvs:List (κ×V)) (k j:κ) (y:V):valV (putK kvs k y) j=if j=k then some y else valV kvs j:=by
 unfold putK
 by_cases a:(kvs.any fun kv=>decide (kv.1=k))=true
 ·rw[if_pos a,af9]
  rw[acu] at a
  by_cases e:j=k
  ·obtain⟨x,hx⟩:=Option.isSome_iff_exists.mp a
   rw[if_pos e,e,hx,Option.map_some,if_pos rfl]
  ·rw[if_neg e]
   cases valV kvs j with
   |none=>rfl
   |some x=>rw[Option.map_some,if_neg e]
 ·rw[if_neg a]
  refine ae8 k j y kvs ?_
  rw[acu] at a
  cases q:valV kvs k with
  |none=>rfl
  |some x=>rw[q] at a;exact (a rfl).elim
theorem acn (kvs:List (κ×V)) (k:κ) (v:V):(putK kvs k v).length≤kvs.length+1:=by
 unfold putK
 split
 ·rw[List.length_map];omega
 ·rw[List.length_append,List.length_cons,List.length_nil];omega
theorem aeh {kvs:List (κ×V)} {k:κ} (v:V) (h:valV kvs k=none):putK kvs k v=kvs++[(k,v)]:=by
 unfold putK
 rw[acu,h]
 exact if_neg (by decide)
theorem RelO.isSome_eq {o:Option V} {u:Option Value} (r:RelO o u):o.isSome=u.isSome:=by
 cases o with
 |none=>cases u with
  |none=>rfl
  |some _=>exact (show False from r).elim
 |some _=>cases u with
  |none=>exact (show False from r).elim
  |some _=>rfl
theorem RelO.getD {o:Option V} {u:Option Value} {d:V} {d':Value} (r:RelO o u) (rd:RelV d d'):RelV (o.getD d) (u.getD d'):=by
 cases o with
 |none=>cases u with
  |none=>exact rd
  |some _=>exact (show False from r).elim
 |some _=>cases u with
  |none=>exact (show False from r).elim
  |some _=>exact r
theorem KV.val {kvs:List (κ×V)} {vs:List (κ×Value)} (r:KV kvs vs) (k:κ):RelO (valV kvs k) (valueAt vs k):=by
 unfold KV at r
 induction r with
 |nil=>exact True.intro
 |@cons p q ps qs h t ih=>
  obtain⟨h1,h2⟩:=h
  by_cases e:p.1=k
  ·have e':q.1=k:=h1.symm.trans e
   have b:valueAt (q::qs) k=some q.2:=by simp[valueAt,List.find?_cons,e']
   rw[aa6 e,b];exact h2
  ·have e':¬q.1=k:=fun z=>e (h1.trans z)
   have b:valueAt (q::qs) k=valueAt qs k:=by simp[valueAt,List.find?_cons,e']
   rw[aa2 e,b];exact ih
theorem KV.any {kvs:List (κ×V)} {vs:List (κ×Value)} (r:KV kvs vs) (k:κ):(kvs.any fun kv=>decide (kv.1=k))=vs.any fun kv=>decide (kv.1=k):=by
 unfold KV at r
 induction r with
 |nil=>rfl
 |cons h t ih=>rw[List.any_cons,List.any_cons,ih,h.1]
theorem KV.repl {kvs:List (κ×V)} {vs:List (κ×Value)} (r:KV kvs vs) (k:κ) {y:V} {u:Value} (ry:RelV y u):
  KV (kvs.map fun kv=>if kv.1=k then (kv.1,y) else kv) (vs.map fun kv=>if kv.1=k then (kv.1,u) else kv):=by
 unfold KV at r ⊢
 induction r with
 |nil=>exact .nil
 |@cons p q ps qs h t ih=>
  rw[List.map_cons,List.map_cons]
  refine .cons ?_ ih
  obtain⟨h1,h2⟩:=h
  by_cases e:p.1=k
  ·rw[if_pos e,if_pos (h1.symm.trans e)];exact⟨h1,ry⟩
  ·rw[if_neg e,if_neg (fun z=>e (h1.trans z))];exact⟨h1,h2⟩
theorem KV.put {kvs:List (κ×V)} {vs:List (κ×Value)} (r:KV kvs vs) (k:κ) {y:V} {u:Value} (ry:RelV y u):KV (putK kvs k y) (stored vs k u):=by
 unfold putK stored
 rw[r.any k]
 by_cases e:(vs.any fun kv=>decide (kv.1=k))=true
 ·rw[if_pos e,if_pos e];exact r.repl k ry
 ·rw[if_neg e,if_neg e];exact Paired.snoc r ⟨rfl,ry⟩
theorem KV.drop {kvs:List (κ×V)} {vs:List (κ×Value)} (r:KV kvs vs) (k:κ):KV (dropK kvs k) (without vs k):=by
 unfold KV at r ⊢
 unfold dropK without
 induction r with
 |nil=>exact .nil
 |@cons p q ps qs h t ih=>
  obtain⟨h1,h2⟩:=h
  rw[List.filter_cons,List.filter_cons]
  by_cases e:p.1=k
  ·have a:¬decide (p.1≠k)=true:=by simp[e]
   have b:¬decide (q.1≠k)=true:=by simp[h1.symm.trans e]
   rw[if_neg a,if_neg b];exact ih
  ·have e':¬q.1=k:=fun z=>e (h1.trans z)
   have a:decide (p.1≠k)=true:=by simp[e]
   have b:decide (q.1≠k)=true:=by simp[e']
   rw[if_pos a,if_pos b];exact .cons ⟨h1,h2⟩ ih
theorem KV.length {kvs:List (κ×V)} {vs:List (κ×Value)} (r:KV kvs vs):kvs.length=vs.length:=Paired.length r
theorem agb (kvs:List (κ×V)) (k:κ):(dropK kvs k).length≤kvs.length:=List.length_filter_le _ _
end
theorem ag8 {P:Program} {w:World} {k:Key} {u:Value} (r:RelV (kV k) u):(mixKind P w).is k u=true:=by
 cases k with
 |inl i=>obtain⟨t,e⟩:=(show ∃t,u=Value.int i t from r);subst e;exact afo P w i t
 |inr x=>obtain⟨t,e⟩:=(show ∃t,u=Value.str x t from r);subst e;exact afp P w x t
theorem ae9 {P:Program} {w:World}:∀{ks:List Key} {us:List Value},Vals (ks.map kV) us→ItemsAre (mixKind P w) ks us
 |[],_,r=>by rw[List.map_nil] at r;cases r;exact .nil
 |k::ks,_,r=>by
  rw[List.map_cons] at r
  cases r with
  |cons h t=>exact .cons (ag8 h) (ae9 t)
noncomputable abbrev KT (H:Hp):List (List Key×V)→List (List Key×Addr×Value)→Prop:=Paired fun p q=>p.1=q.1∧H q.2.1=some (.tup (p.1.map kV))∧RelV p.2 q.2.2
theorem KT.val {H:Hp} {kvs:List (List Key×V)} {xs:List (List Key×Addr×Value)} (r:KT H kvs xs) (k:List Key):RelO (valV kvs k) ((atKey xs k).map (·.2)):=by
 induction r with
 |nil=>exact True.intro
 |@cons p q ps qs h t ih=>
  obtain⟨h1,_,h2⟩:=h
  by_cases e:p.1=k
  ·have e':q.1=k:=h1.symm.trans e
   have b:atKey (q::qs) k=some q.2:=by simp[atKey,List.find?_cons,e']
   rw[aa6 e,b];exact h2
  ·have e':¬q.1=k:=fun z=>e (h1.trans z)
   have b:atKey (q::qs) k=atKey qs k:=by simp[atKey,List.find?_cons,e']
   rw[aa2 e,b];exact ih
theorem KT.repl {H:Hp} {kvs:List (List Key×V)} {xs:List (List Key×Addr×Value)} (r:KT H kvs xs) (k:List Key) {y:V} {u:Value} (ry:RelV y u):
  KT H (kvs.map fun kv=>if kv.1=k then (kv.1,y) else kv) (xs.map (putAt k u)):=by
 induction r with
 |nil=>exact .nil
 |@cons p q ps qs h t ih=>
  rw[List.map_cons,List.map_cons]
  refine .cons ?_ ih
  obtain⟨h1,h2,h3⟩:=h
  unfold putAt
  by_cases e:p.1=k
  ·rw[if_pos e,if_pos (h1.symm.trans e)];exact⟨h1,h2,ry⟩
  ·rw[if_neg e,if_neg (fun z=>e (h1.trans z))];exact⟨h1,h2,h3⟩
theorem KT.put {H:Hp} {kvs:List (List Key×V)} {xs:List (List Key×Addr×Value)} (r:KT H kvs xs) (k:List Key) {b:Addr} {y:V} {u:Value} (hb:H b=some (.tup (k.map kV))) (ry:RelV y u):
  KT H (putK kvs k y) (storedH xs k b u):=by
 have e:(kvs.any fun kv=>decide (kv.1=k))=(atKey xs k).isSome:=by
  rw[acu,(r.val k).isSome_eq,Option.isSome_map]
 unfold putK storedH
 rw[e]
 by_cases q:(atKey xs k).isSome=true
 ·rw[if_pos q,if_pos q];exact r.repl k ry
 ·rw[if_neg q,if_neg q];exact Paired.snoc r ⟨rfl,hb,ry⟩
theorem KT.keeps {H H':Hp} {kvs:List (List Key×V)} {xs:List (List Key×Addr×Value)} (r:KT H kvs xs) (ht:∀b ys,H b=some (.tup ys)→H' b=some (.tup ys)):KT H' kvs xs:=
 Paired.mapP r fun _ _ z=>⟨z.1,ht _ _ z.2.1,z.2.2⟩
section
variable {P:Program} {w:World} {H:Hp} {h:Heap} {a:Addr}
theorem rd_of {u:HO} (ok:HOk P w H h) (e:Rd H a u):ObjOk P w H h a u:=e.ok ok
theorem afs {kvs:List (Key×V)} (ok:HOk P w H h) (e:Rd H a (.dK kvs)):kvs.length≤sizeLine∧(a == sysModules)=false∧∃vs,KV kvs vs∧h.DictOf (mixKind P w) a vs:=
 show ObjOk P w H h a (.dK kvs) from rd_of ok e
theorem dk_of {kvs:List (Key×V)} (ok:HOk P w H h) (e:H a=some (.dK kvs)):kvs.length≤sizeLine∧(a == sysModules)=false∧∃vs,KV kvs vs∧h.DictOf (mixKind P w) a vs:=afs ok (.inl e)
theorem add {ks:List Key} (ok:HOk P w H h) (e:H a=some (.tup (ks.map kV))):(tupleKind (mixKind P w)).is h ks a:=by
 obtain⟨_,its,r,o,h1,h2,n,h3⟩:=(show ObjOk P w H h a (.tup (ks.map kV)) from ok a _ e)
 exact⟨o,its.toArray,n,h1,h2,h3,by simpa using ae9 r⟩
theorem aft {kvs:List (List Key×V)} (ok:HOk P w H h) (e:Rd H a (.dT kvs)):kvs.length≤sizeLine∧(a == sysModules)=false∧
  ∃xs,KT H kvs xs∧h.DictOfH (tupleKind (mixKind P w)) a xs:=by
 obtain⟨z,y,xs,r,o,es,ep,h1,h2,h3,h4,h5⟩:=(show ObjOk P w H h a (.dT kvs) from rd_of ok e)
 refine⟨z,y,xs,r,o,es,ep,h1,h2,h3,h4,fun x hx=>?_,h5⟩
 have all:∀{l:List (List Key×V)} {m:List (List Key×Addr×Value)},KT H l m→∀x∈m,(tupleKind (mixKind P w)).is h x.1 x.2.1:=by
  intro l m q
  induction q with
  |nil=>intro x hx;exact nomatch hx
  |@cons p q ps qs hq t ih=>
   intro x hx
   rcases List.mem_cons.mp hx with e|hx
   ·subst e
    exact add ok (by rw[←hq.1];exact hq.2.1)
   ·exact ih x hx
 exact all r x hx
theorem als {kvs:List (List Key×V)} (ok:HOk P w H h) (e:H a=some (.dT kvs)):kvs.length≤sizeLine∧(a == sysModules)=false∧
 ∃xs,KT H kvs xs∧h.DictOfH (tupleKind (mixKind P w)) a xs:=aft ok (.inl e)
end
noncomputable def DGet (H:Hp) (a:Addr) (y:V) (r:Option V):Prop:=
 (∃kvs k,Rd H a (.dK kvs)∧y=kV k∧r=valV kvs k)∨∃kvs k b,Rd H a (.dT kvs)∧y=.ref b∧H b=some (.tup (k.map kV))∧r=valV kvs k
noncomputable def DPut (H:Hp) (a:Addr) (y v:V) (H':Hp):Prop:=
 (∃kvs k,H a=some (.dK kvs)∧y=kV k∧kvs.length < sizeLine∧H'=upd H a (.dK (putK kvs k v)))∨
 ∃kvs k b,H a=some (.dT kvs)∧y=.ref b∧H b=some (.tup (k.map kV))∧kvs.length < sizeLine∧H'=upd H a (.dT (putK kvs k v))
theorem DGet.k {H:Hp} {a:Addr} {kvs:List (Key×V)} {k:Key} (e:H a=some (.dK kvs)):DGet H a (kV k) (valV kvs k):=.inl ⟨kvs,k,.inl e,rfl,rfl⟩
theorem DGet.t {H:Hp} {a b:Addr} {kvs:List (List Key×V)} {k:List Key} (e:H a=some (.dT kvs)) (eb:H b=some (.tup (k.map kV))):DGet H a (.ref b) (valV kvs k):=.inr ⟨kvs,k,b,.inl e,rfl,eb,rfl⟩
theorem DPut.k {H:Hp} {a:Addr} {kvs:List (Key×V)} {k:Key} {v:V} (e:H a=some (.dK kvs)) (hl:kvs.length < sizeLine):DPut H a (kV k) v (upd H a (.dK (putK kvs k v))):=.inl ⟨kvs,k,e,rfl,hl,rfl⟩
theorem DPut.t {H:Hp} {a b:Addr} {kvs:List (List Key×V)} {k:List Key} {v:V} (e:H a=some (.dT kvs)) (eb:H b=some (.tup (k.map kV))) (hl:kvs.length < sizeLine):
 DPut H a (.ref b) v (upd H a (.dT (putK kvs k v))):=.inr ⟨kvs,k,b,e,rfl,eb,hl,rfl⟩
section
variable {X:Cx} {pins:List (Addr×Obj)} {σ:St} {H:Hp} {s:Shared} {a:Addr} {y v:V} {u r:Value} {o:Option V} {A:Around} {E:Value→Shared→Prop}
theorem Inv.big (I:Inv X pins σ H s):sysModules < s.heap.objs.size:=by
 have h:mainGlobals < s.heap.objs.size:=(I.mod.glob.keeps I.bk).lt
 exact Nat.lt_trans (by decide) h
theorem ah6 {Q:Value→Shared→Prop} (hu:A.units+1 < cLine) (I:Inv X pins σ H s) (g:DGet H a y (some v)) (ry:RelV y u) (h:∀w' s',Inv X pins σ H s'→RelV v w'→Q w' s'):
  wpAny (model X.prog X.w) A (getItem (.ref a) u) Q E s:=by
 rcases g with ⟨kvs,k,e,ey,l⟩|⟨kvs,k,b,e,ey,eb,l⟩
 ·subst ey
  obtain⟨z,hd,vs,rel,dd⟩:=afs I.hok e
  obtain⟨w',hw,rw'⟩:=RelO.some_of (v:=v) (o:=valueAt vs k) (by rw[l];exact rel.val k)
  exact wpAny_getItem_of (ag8 ry) dd.mapOf hw (h w' _ (I.tok _) rw')
 ·subst ey
  cases (show u=Value.ref b from ry)
  obtain⟨z,hd,xs,rel,dd⟩:=aft I.hok e
  obtain⟨w',hw,rw'⟩:=RelO.some_of (v:=v) (o:=(atKey xs k).map (·.2)) (by rw[l];exact rel.val k)
  obtain⟨p,hp,hp2⟩:=Option.map_eq_some_iff.mp hw
  refine wpAny_getItem_heap (tupleKind_room_in1 hu) (add I.hok eb) dd hp ?_
  rw[hp2]
  exact h w' _ (I.tok _) rw'
theorem d_in {Q:Value→Shared→Prop} (hu:A.units+1 < cLine) (I:Inv X pins σ H s) (g:DGet H a y o) (ry:RelV y u) (h:∀s',Inv X pins σ H s'→Q (.bool o.isSome) s'):
  wpAny (model X.prog X.w) A (compareOp .In u (.ref a)) Q E s:=by
 rcases g with ⟨kvs,k,e,ey,l⟩|⟨kvs,k,b,e,ey,eb,l⟩
 ·subst ey
  obtain⟨z,hd,vs,rel,dd⟩:=afs I.hok e
  refine wpAny_in_of (ag8 ry) hd dd.mapOf ?_
  rw[←(rel.val k).isSome_eq,←l]
  exact h _ (I.tok _)
 ·subst ey
  cases (show u=Value.ref b from ry)
  obtain⟨z,hd,xs,rel,dd⟩:=aft I.hok e
  refine wpAny_in_heap (tupleKind_room_in1 hu) (add I.hok eb) hd dd ?_
  have q:=(rel.val k).isSome_eq
  rw[Option.isSome_map] at q
  rw[←q,←l]
  exact h _ (I.tok _)
theorem alt {Q:Value→Shared→Prop} (hu:A.units+1 < cLine) (I:Inv X pins σ H s) (g:DGet H a y o) (ry:RelV y u) (h:∀s',Inv X pins σ H s'→Q (.bool (!o.isSome)) s'):
  wpAny (model X.prog X.w) A (compareOp .NotIn u (.ref a)) Q E s:=by
 rcases g with ⟨kvs,k,e,ey,l⟩|⟨kvs,k,b,e,ey,eb,l⟩
 ·subst ey
  obtain⟨z,hd,vs,rel,dd⟩:=afs I.hok e
  refine wpAny_notIn_of (ag8 ry) hd dd.mapOf ?_
  rw[←(rel.val k).isSome_eq,←l]
  exact h _ (I.tok _)
 ·subst ey
  cases (show u=Value.ref b from ry)
  obtain⟨z,hd,xs,rel,dd⟩:=aft I.hok e
  refine wpAny_notIn_heap (tupleKind_room_in1 hu) (add I.hok eb) hd dd ?_
  have q:=(rel.val k).isSome_eq
  rw[Option.isSome_map] at q
  rw[←q,←l]
  exact h _ (I.tok _)
theorem afu {h':Heap} {t':Nat} {ob:HO} (I:Inv X pins σ H s) (mu:Mut (H a)) (hs:Heap.SameBut a s.heap h') (he:∃q,h'.get? a=some q) (new:ObjOk X.prog X.w (upd H a ob) h' a ob):
  Inv X pins σ (upd H a ob) {s with heap:=h',toks:=t'}:=
 I.write (x:=a) (e:=a) mu (.inl rfl) (fun b q hb z=>(hs.2 b hb).trans z) he new
theorem dk_new {P:Program} {w:World} {H':Hp} {h':Heap} {kvs:List (Key×V)} {vs:List (Key×Value)} (z:kvs.length≤sizeLine) (hd:(a == sysModules)=false) (rel:KV kvs vs) (dd:h'.DictOf (mixKind P w) a vs):
 ObjOk P w H' h' a (.dK kvs):=⟨z,hd,vs,rel,dd⟩
theorem ah7 {H':Hp} {Q:Unit→Shared→Prop} (hu:A.units+1 < cLine) (I:Inv X pins σ H s) (g:DPut H a y v H') (ry:RelV y u) (rv:RelV v r) (h:∀s',Inv X pins σ H' s'→Q () s'):
  wpAny (model X.prog X.w) A (setItem (.ref a) u r) Q E s:=by
 rcases g with ⟨kvs,k,e,ey,l,eH⟩|⟨kvs,k,b,e,ey,eb,l,eH⟩
 ·subst ey eH
  obtain⟨z,hd,vs,rel,dd⟩:=dk_of I.hok e
  have hz:vs.length≤sizeLine:=by rw[←rel.length];exact z
  have hl:(putK kvs k v).length≤sizeLine:=by have:=acn kvs k v;omega
  refine wpAny_setItem_pairs (hsz:=hz) (ag8 ry) dd fun h' dd' hs=>h _ ?_
  have he:∃q,h'.get? a=some q:=let ⟨q,_,_,hq,_⟩:=dd';⟨q,hq⟩
  exact afu I (by rw[e];exact True.intro) hs he (dk_new hl hd (rel.put k rv) dd')
 ·subst ey eH
  cases (show u=Value.ref b from ry)
  obtain⟨z,hd,xs,rel,dd⟩:=als I.hok e
  have hz:xs.length≤sizeLine:=by rw[←Paired.length rel];exact z
  have hl:(putK kvs k v).length≤sizeLine:=by have:=acn kvs k v;omega
  refine wpAny_setItem_heap (hsz:=hz) (tupleKind_room_in1 hu) (add I.hok eb) dd fun h' dd' hs=>h _ ?_
  obtain⟨q,es,ep,hq,h2,h3,h4,_,h5⟩:=dd'
  refine afu I (by rw[e];exact True.intro) hs ⟨q,hq⟩ ⟨hl,hd,_,(rel.put k eb rv).keeps fun c ys ec=>?_,q,es,ep,hq,h2,h3,h4,h5⟩
  rw[aaf (ne_of ec e (fun z=>nomatch z))]
  exact ec
end
section
variable {X:Cx} {pins:List (Addr×Obj)} {σ:St} {H:Hp} {s:Shared} {a:Addr} {kvs:List (Key×V)} {k:Key} {u:Value} {A:Around} {E:Value→Shared→Prop}
end
noncomputable def NoSl (i:Expr):Prop:=∀ov iv,subscripted i false ov iv=operate [ov,iv] (getItem ov iv)
theorem alu {prog:Program} {w:World} {A:Around} {E:Value→Shared→Prop} {s:Shared} {env:Env} {value slice:Expr} {pos:Pos} {T id:String} {Q:Value→Shared→Prop}
  (hl:typeLookup (.type T) "__getitem__"=pure (some (.builtin id))) (hs:NoSl slice)
  (h:wpAny (model prog w) A (eval value env) (fun o s₁=>wpAny (model prog w) A (eval slice env) (fun i s₂=>s₂.TypeIs o T∧wpAny (model prog w) A (getItem o i) Q E s₂) E s₁) E s):
  wpAny (model prog w) A (eval (.Subscript value slice pos) env) Q E s:=by
 refine Subscript_ (wpAny_mono h (fun o s₁ h₁=>wpAny_mono h₁ (fun i s₂ h₂=>?_) fun _ _ x=>x) fun _ _ x=>x)
 obtain⟨hT,h₂⟩:=h₂
 unfold subscriptTail
 refine wpAny_bind ?_
 rw[getitemInPython_of_ne hT.not_modules]
 refine wpAny_bind (wpAny_specialOf hT hl ?_)
 have fin:wpAny (model prog w) A (subscripted slice false o i) (fun r s₃=>wpAny (model prog w) A (letTemporaryGo value o r >>= fun _=>pure r) Q E s₃) E s₂:=by
  rw[hs o i]
  exact wpAny_operating (wpAny_mono h₂ (fun r s₃ h₃=>wpAny_bind (wpAny_letTemporaryGo (wpAny_pure h₃))) fun _ _ x=>x)
 first
  |exact wpAny_pure (wpAny_bind fin)
  |exact wpAny_bind (wpAny_pure (wpAny_bind fin))
  |exact wpAny_bind fin
theorem afv {X:Cx} {pins:List (Addr×Obj)} {σ:St} {H:Hp} {s:Shared} {a:Addr} {y:V} {o:Option V} (I:Inv X pins σ H s) (g:DGet H a y o):s.TypeIs (.ref a) "dict":=by
 rcases g with ⟨kvs,k,e,_,_⟩|⟨kvs,k,b,e,_,_,_⟩
 ·obtain⟨_,_,vs,_,dd⟩:=afs I.hok e
  exact dd.typeIs
 ·obtain⟨_,_,xs,_,dd⟩:=aft I.hok e
  exact dd.typeIs
noncomputable def tDGet (td ty:TE):TE:=fun σ H Q=>td σ H fun x H1=>ty σ H1 fun y H2=>∃a v,x=.ref a∧DGet H2 a y (some v)∧Q v H2
noncomputable def tDIn (ty td:TE):TE:=fun σ H Q=>ty σ H fun y H1=>td σ H1 fun x H2=>∃a o,x=.ref a∧DGet H2 a y o∧Q (.bl o.isSome) H2
noncomputable def tDNotIn (ty td:TE):TE:=fun σ H Q=>ty σ H fun y H1=>td σ H1 fun x H2=>∃a o,x=.ref a∧DGet H2 a y o∧Q (.bl (!o.isSome)) H2
noncomputable def sDPut (td ty tv:TE):TS:=fun D σ H=>tv σ H fun v H1=>td σ H1 fun x H2=>ty σ H2 fun y H3=>∃a H4,x=.ref a∧DPut H3 a y v H4∧D.nx σ H4
section
variable {X:Cx} {o i e value:Expr} {pos pos' tpos:Pos} {td ty tv:TE}
theorem alv (hu:X.A.units+1 < cLine) (ho:PE X o td) (hi:PE X i ty) (hs:NoSl i):PE X (.Subscript o i pos) (tDGet td ty):=by
 intro pins s σ H Q I h
 refine alu PySem.F.slot_dict_getitem.lookup hs (thn (ho pins s σ H _ I h) fun u s1 ⟨x,H1,I1,rx,q1⟩=>thn (hi pins s1 σ H1 _ I1 q1) fun iv s2 ⟨y,H2,I2,ry,a,v,ex,g,q2⟩=>?_)
 subst ex
 obtain rfl:u=Value.ref a:=rx
 exact⟨afv I2 g,ah6 hu I2 g ry fun w' s3 I3 rw'=>⟨v,H2,I3,rw',q2⟩⟩
theorem pc_din (hu:X.A.units+1 < cLine) (hi:PE X i ty) (ho:PE X o td):PC X .In i o (tDIn ty td):=by
 intro pins s σ H Q I h
 refine thn (hi pins s σ H _ I h) fun iv s1 ⟨y,H1,I1,ry,q1⟩=>thn (ho pins s1 σ H1 _ I1 q1) fun u s2 ⟨x,H2,I2,rx,a,ov,ex,g,q2⟩=>?_
 subst ex
 obtain rfl:u=Value.ref a:=rx
 exact d_in hu I2 g ry fun s3 I3=>⟨.bl ov.isSome,H2,I3,rfl,q2⟩
theorem ah8 (hu:X.A.units+1 < cLine) (hi:PE X i ty) (ho:PE X o td):PC X .NotIn i o (tDNotIn ty td):=by
 intro pins s σ H Q I h
 refine thn (hi pins s σ H _ I h) fun iv s1 ⟨y,H1,I1,ry,q1⟩=>thn (ho pins s1 σ H1 _ I1 q1) fun u s2 ⟨x,H2,I2,rx,a,ov,ex,g,q2⟩=>?_
 subst ex
 obtain rfl:u=Value.ref a:=rx
 exact alt hu I2 g ry fun s3 I3=>⟨.bl (!ov.isSome),H2,I3,rfl,q2⟩
theorem aei (hu:X.A.units+1 < cLine) (ho:PE X o td) (hi:PE X i ty) (hv:PE X value tv) (hs:swapsWith value (some (.Subscript o i pos')) pos.line X.env=pure false):
  PS X (.Assign [.Subscript o i pos'] value pos) (sDPut td ty tv):=by
 intro pins s σ H D I h
 refine wpAny_Assign_Subscript (thn (hv pins s σ H _ I h) fun r s1 ⟨v,H1,I1,rv,q1⟩=>thn (ho pins s1 σ H1 _ I1 q1) fun u s2 ⟨x,H2,I2,rx,q2⟩=>thn (hi pins s2 σ H2 _ I2 q2) fun iv s3 ⟨y,H3,I3,ry,a,H4,ex,g,q3⟩=>?_) hs
 subst ex
 obtain rfl:u=Value.ref a:=rx
 exact ah7 hu I3 g ry rv fun s4 I4=>⟨σ,H4,I4,q3⟩
end
theorem aj0 {P:Program} {w:World} {H:Hp} (h:Heap) (hb:sysModules < h.objs.size):ObjOk P w H (h.push {cls:=.type "dict",data:=.dict #[]}) h.objs.size (.dT []):=
 ⟨Nat.zero_le _,beq_eq_false_iff_ne.mpr (Ne.symm (Nat.ne_of_lt hb)),[],.nil,_, #[],0,Heap.get?_push_size _ rfl,⟨rfl,rfl,rfl⟩,rfl,rfl,List.nodup_nil⟩
noncomputable def tDNewT:TE:=fun _ H Q=>∀p,H p=none→Q (.ref p) (upd H p (.dT []))
section
variable {X:Cx} {pos:Pos}
theorem agc:PE X (.Dict [] [] pos) tDNewT:=fun pins s σ H Q I h=>
 wpAny_Dict_empty ⟨.ref s.heap.objs.size,_,I.laid (a:=s.heap.objs.size) (o:=.dT []) (t':=s.toks) (fun _ _ q=>Heap.get?_push_of_some _ q) (Nat.le_refl _) (aj0 s.heap I.big),rfl,h _ (I.hok.fresh (Nat.le_refl _))⟩
end
structure M1 (X:Cx) (o:Expr) (m:Str) (apos:Pos) (e:Expr) (cpos:Pos):Prop where
 base:attributeBase o m X.env (eval o X.env)=eval o X.env
 few:((backTo cpos (starEach [e] X.env)).all (fun x=> !x.1)&&(backToKw cpos (keywordEach [] X.env)).all (fun x=>x.1.isSome)
  &&decide (([e]:List Expr).length+([]:List Keyword).length+(if ([]:List Keyword).isEmpty then 0 else 1) < 30))=true
 line:(apos.endLine == cpos.line)=true
 trees:backTo cpos (starEach [e] X.env)=[(false,eval e X.env)]
noncomputable def IsD (H:Hp) (a:Addr):Prop:=(∃kvs,Rd H a (.dK kvs))∨∃kvs,Rd H a (.dT kvs)
theorem ak1 {X:Cx} {pins:List (Addr×Obj)} {σ:St} {H:Hp} {s:Shared} {a:Addr} (I:Inv X pins σ H s) (d:IsD H a):
  s.TypeIs (.ref a) "dict"∧(∀b,Value.ref a=.ref b→∃ob,s.heap.get? b=some ob∧ob.dict=none)∧(a == sysModules)=false:=by
 rcases d with ⟨kvs,e⟩|⟨kvs,e⟩
 ·obtain⟨_,hd,vs,_,dd⟩:=afs I.hok e
  refine⟨dd.typeIs,fun b q=>?_,hd⟩
  cases q
  obtain⟨ob,_,_,h1,h2,_⟩:=dd
  exact⟨ob,h1,h2.2.1⟩
 ·obtain⟨_,hd,xs,_,dd⟩:=aft I.hok e
  refine⟨dd.typeIs,fun b q=>?_,hd⟩
  cases q
  obtain⟨ob,_,_,h1,h2,_⟩:=dd
  exact⟨ob,h1,h2.2.1⟩
section
variable {X:Cx} {pins:List (Addr×Obj)} {σ:St} {H:Hp} {s:Shared} {a:Addr} {y d:V} {u r:Value} {o:Option V} {A:Around} {E:Value→Shared→Prop}
theorem d_get1 {Q:Value→Shared→Prop} (hu:A.units+1 < cLine) (I:Inv X pins σ H s) (g:DGet H a y o) (ry:RelV y u) (h:∀w' s',Inv X pins σ H s'→RelV (o.getD .non) w'→Q w' s'):
  wpAny (model X.prog X.w) A (call (.builtin "dict.get") [.ref a,u]) Q E s:=by
 rcases g with ⟨kvs,k,e,ey,l⟩|⟨kvs,k,b,e,ey,eb,l⟩
 ·subst ey
  obtain⟨z,hd,vs,rel,dd⟩:=afs I.hok e
  refine call_meetsIn PySem.F.slot_dict_get dd.typeIs PySem.F.entry_dict_get (PySem.F.args_dict_get_2 _ _) (meets_dict_get (mixKind X.prog X.w) a (ag8 ry) hd) ⟨_,dd.mapOf,h _ _ (I.tok _) ?_⟩
  rw[l]
  exact (rel.val k).getD rfl
 ·subst ey
  cases (show u=Value.ref b from ry)
  obtain⟨z,hd,xs,rel,dd⟩:=aft I.hok e
  refine call_meetsIn PySem.F.slot_dict_get dd.typeIs PySem.F.entry_dict_get (PySem.F.args_dict_get_2 _ _) (meetsH_dict_get (tupleKind (mixKind X.prog X.w)) a b hd) ⟨tupleKind_room_in1 hu,k,xs,add I.hok eb,dd,h _ _ (I.tok _) ?_⟩
  rw[l]
  exact (rel.val k).getD rfl
end
noncomputable def tDGet1 (td ty:TE):TE:=fun σ H Q=>td σ H fun x H1=>∃a,x=.ref a∧IsD H1 a∧ty σ H1 fun y H2=>∃o,DGet H2 a y o∧Q (o.getD .non) H2
section
variable {X:Cx} {o e f:Expr} {apos cpos:Pos} {td ty tx:TE}
theorem acv (hu:X.A.units+1 < cLine) (ho:PE X o td) (he:PE X e ty) (m:M1 X o "get" apos e cpos):PE X (.Call (.Attribute o "get" apos) [e] [] cpos) (tDGet1 td ty):=by
 intro pins s σ H Q I h
 refine wpAny_Call_method m.base m.few m.line PySem.F.plainAttrs_dict PySem.F.slot_dict_get PySem.F.type_dict_get (thn (ho pins s σ H _ I h) fun u s1 ⟨x,H1,I1,rx,a,ex,d,q1⟩=>?_)
 subst ex
 obtain rfl:u=Value.ref a:=rx
 obtain⟨t1,t2,_⟩:=ak1 I1 d
 refine⟨t1,t2,?_⟩
 rw[m.trees]
 refine Calls.callWith_builtin rfl (Calls.evalArgs_plain (Calls.spliced_cons (thn (he pins s1 σ H1 _ I1 q1) fun iv s2 ⟨y,H2,I2,ry,ov,g,q2⟩=>Calls.spliced_nil ?_)))
 exact d_get1 hu I2 g ry fun w' s3 I3 rw'=>⟨_,H2,I3,rw',q2⟩
end
section
variable {X:Cx} {pins:List (Addr×Obj)} {σ:St} {H:Hp} {s:Shared} {a:Addr} {kvs:List (Key×V)} {A:Around} {E:Value→Shared→Prop}
end
section
variable {X:Cx} {pins:List (Addr×Obj)} {σ:St} {H:Hp} {s:Shared} {a:Addr} {y:V} {u:Value} {A:Around} {E:Value→Shared→Prop}
end
end L2
namespace Att
open PySem PySem.W PySem.Calls PyProof.Rows
theorem adu {P:Params} {h:Heap}:∀(ns:List Int) (vs:List Value),WellAll P h vs (ns.map WData.int)→IntsAre vs ns:=by
 intro ns
 induction ns with
 |nil=>
  intro vs w
  rw[List.map_nil] at w
  cases w
  exact .nil
 |cons n ns ih=>
  intro vs w
  rw[List.map_cons] at w
  cases w with
  |cons a b=>
   cases a
   exact .cons _ _ (ih _ b)
theorem ah9 {l:OpenLaw} {n:Nat} (hn:l.most=some n) {P:Params} {h:Heap} {args:List WData} {vals:List Value}
  (hpre:l.row.toRowW.claim.pre args=true) (hwl:WellAll P h vals args):
  ∃a vs ns,vals=[Value.ref a]∧args=[WData.list (ns.map WData.int)]∧h.get? a=some {cls:=.type "list",data:=.seq vs.toArray}∧IntsAre vs ns∧ns.length≤n:=by
 have hsh:WShape.hasAll [] args [.list .int]=true:=(pre_splitW hpre).1
 have hc:l.pre.holds [] {args:=args}=true:=(pre_splitW hpre).2
 obtain⟨d,r,rfl,h1,h2⟩:=hasAllW_cons hsh
 obtain rfl:=hasAllW_nil h2
 obtain⟨xs,rfl,h3⟩:=hasW_list h1
 obtain⟨ns,rfl⟩:=items_int h3
 have hlen:ns.length≤n:=by
  unfold OpenLaw.pre at hc
  have h4:(WTm.not (.lt (.lit (.int (n:Int))) (.len (.arg 0)))).holds [] {args:=[.list (ns.map .int)]}=true:=by
   have h4:=(holds_andW hc).1
   rw[hn] at h4
   exact h4
  have h5:=condW_of h4 (w_not (w_lt w_lit (w_len_list (w_arg rfl))))
  rw[List.length_map] at h5
  refine Nat.le_of_not_lt fun q=>?_
  have q':(n:Int) < ((ns.length:Nat):Int):=by omega
  first
   |(rw[decide_eq_true q'] at h5;exact absurd h5 (by decide))
   |(simp at h5;omega)
 cases hwl with
 |cons w1 w2=>
  cases w2
  cases w1 with
  |list ho hall=>exact⟨_,_,ns,rfl,rfl,ho,adu ns _ hall,hlen⟩
theorem aia (l:OpenLaw) (args:List WData):l.row.toRowW.claim.post args (.bool true) args=true:=
 postW_of (r:=l.row.toRowW) (X:=(true == true))
  (show WShape.has [] (.bool true) .bool=true by first|rfl|decide|simp[WShape.has,WShape.arms,WShape.armsAll])
  (show (WTm.eq .res (.lit (.bool true))).value [] {args:=args,res:=some (.bool true),after:=args}=some (.bool (true == true)) from w_eq_bool (w_res rfl) w_lit) rfl
theorem afw {l:OpenLaw} {n:Nat} {q:Program} {loose:List Str} {XP:(Str→Option Value)→Heap→Prop} {YP:World→Heap→Prop} {d:DefRec}
  (hn:l.most=some n) (hdf:d.params.defaults=[])
  (call:∀(w:World) (s₀ s₁:Shared) (mg mb:Str→Option Value) (fa:Addr) (o:Obj) (pm cd doc:Value) (a:Addr) (vs:List Value) (ns:List Int),
   Ground q loose [] XP w s₀ mg mb s₁.heap→YP w s₁.heap→
   s₁.heap.get? fa=some o→o.data=.func (docDef d.name d.params d.body d.scope pm cd doc)→s₁.heap.CodeRec cd d.name→mg d.name=some (.ref fa)→
   s₁.heap.get? a=some {cls:=.type "list",data:=.seq vs.toArray}→IntsAre vs ns→ns.length≤n→s₁.gens= #[]→
   codeAny (model l.prog w) callerA (.call (.ref fa) ⟨[.ref a],[]⟩) (fun r s'=>r=.ok (.ret (.bool true))∧OldK s₁.heap s'.heap∧s'.os=s₁.os∧AllBare s'.gens) s₁):
  WalkO q loose XP YP l.row.toRowW d [] (fun f vs=>PySem.call f vs):=by
 intro w s₀ s₁ mg mb G Y fa o pm cd doc dV kV ho hd hcd hD hmg hg args vals as hpre hlay hrd hwl hlo
 obtain rfl:dV=.none:=Dflts.none hD hdf
 obtain rfl:kV=.none:=Dflts.noKw hD
 obtain⟨a,vs,ns,rfl,rfl,hobj,hints,hlen⟩:=ah9 hn hpre hwl
 refine enter_call (codeAny_mono (call w s₀ s₁ mg mb fa o pm cd doc a vs ns G Y ho (fd_plain hd) hcd hmg hobj hints hlen hg) fun r s' hq=>?_)
 obtain⟨rfl,h2,h3,h4⟩:=hq
 exact⟨.inl ⟨.bool true,.bool true,[],rfl,fun _=>rfl,.bool true,aia l _,fun _=>⟨List.Pairwise.nil,fun _ hm=>(nomatch hm)⟩⟩,h2,h3,h4⟩
section
variable {prog:Program} {w:World} {A:Around} {E:Value→Shared→Prop} {s:Shared} {K:Frag}
noncomputable def ledger (h:Heap) (L d:Addr):List (Addr×Obj):=(List.range h.objs.size).filterMap fun a=>if a=L∨a=d then none else (h.get? a).map fun o=>(a,o)
end
end Att
namespace L2
open PySem PySem.Spec PyProof.Rows
theorem afa:∀{vs:List Value} {ns:List Int},IntsAre vs ns→Vals (ns.map V.int) vs
 |_,_,.nil=>.nil
 |_,_,.cons n t h=>.cons ⟨t,rfl⟩ (afa h)
noncomputable def Only (H:Hp):Prop:=∀b,H b=none∨∃o xs,H b=some (.frz o (.lst xs))
theorem aj1 {P:Program} {w:World} {K:PySem.W.Frag} {mg mb:Str→Option Value} {CX:CXT} {k:Nat} {fa a:Addr} {fd:FuncData} {x:Str} {sp:Sp} {s₁:Shared} {vs:List Value} {ns:List Int}
  (KX:K.In s₁.heap) (hns:s₁.heap.Ns mainGlobals mg) (hb:s₁.heap.Ns builtinsNs mb) (hbb:∀x:Str,x≠"__name__"→mb x=bootBuiltins x) (hlim:s₁.heap.NoLimit) (hg:s₁.gens= #[])
  (ha:s₁.heap.get? a=some {cls:=.type "list",data:=.seq vs.toArray}) (hi:IntsAre vs ns) (hl:ns.length≤sizeLine) (hr:Room k callerA)
  (F:∀base:Heap,K.In base→base.Ns mainGlobals mg→FnOk P w K mg base CX k fa fd [x] sp) (hbind:∀(s:Shared) (u:Value),BindsTo s fd ⟨[u],[]⟩ [(x,u)])
  (hsp:∀H:Hp,Only H→SqL K H a (ns.map V.int)→sp [.ref a] H (fun v _=>v=.bl true) fun _ _ _=>False)
  (hCX:∀H e s',CX [] H s₁ (fun _ _ _=>False) e s'→False):
  codeAny (model P w) callerA (.call (.ref fa) ⟨[.ref a],[]⟩) (fun r s'=>r=.ok (.ret (.bool true))∧OldK s₁.heap s'.heap∧s'.os=s₁.os∧AllBare s'.gens) s₁:=by
 have rv:=afa hi
 have lenV:=hi.length
 have core:∀H:Hp,Only H→SqL K H a (ns.map V.int)→HOk P w H s₁.heap→(∀b,H b≠none→b=a)→(H a≠none→K.lookup a=none)→
   codeAny (model P w) callerA (.call (.ref fa) ⟨[.ref a],[]⟩) (fun r s'=>r=.ok (.ret (.bool true))∧OldK s₁.heap s'.heap∧s'.os=s₁.os∧AllBare s'.gens) s₁:=by
  intro H hO hS hok hA hK
  have base_of:∀{b:Addr} {o:Obj},s₁.heap.get? b=some o→H b=none→(hidT s₁.heap H).get? b=some o:=fun e n=>ajq e n
  have noA:∀{b:Addr} {o:Obj} {es:Array DictEntry} {ep:Nat},s₁.heap.get? b=some o→o.data=.dict es ep→H b=none:=fun {b o es ep} e d=>by
   cases q:H b with
   |none=>rfl
   |some u=>
    have e':b=a:=hA b (by rw[q];simp)
    subst e'
    rw[ha] at e;cases e
    have d':Data.seq vs.toArray _=Data.dict es ep:=d
    cases d'
  have nsK:∀{b:Addr} {m:Str→Option Value},s₁.heap.Ns b m→(hidT s₁.heap H).Ns b m:=fun {b m} ⟨o,es,ep,e,d,r⟩=>⟨o,es,ep,base_of e (noA e d),d,r⟩
  have hKb:K.In (hidT s₁.heap H):=fun b o e=>base_of (KX b o e) (by
   cases q:H b with
   |none=>rfl
   |some u=>
    have e':b=a:=hA b (by rw[q];simp)
    subst e'
    rw[hK (by rw[q];simp)] at e;cases e)
  have hM:Mod K mg (hidT s₁.heap H):=⟨hKb,nsK hns,⟨mb,nsK hb,hbb⟩,let ⟨mc,h1,h2⟩:=hlim;⟨mc,nsK h1,h2⟩⟩
  have e0:Env0 P w K mg (hidT s₁.heap H) callerA [] s₁ H:=⟨rfl,hM,fun b o e=>ali e,Nat.le_of_eq (ahm _ _),trivial,fun b hb=>absurd (show b∈([]:List Addr) from hb) (by simp),hok,.of_eq hg⟩
  refine codeAny_mono ((F _ hKb (nsK hns)).run callerA [] s₁ H ⟨[.ref a],[]⟩ [.ref a] [.ref a] _ _ hr e0 (hbind s₁ (.ref a)) (.cons rfl .nil) (hsp H hO hS)) fun r s' h=>?_
  cases r with
  |error e=>exact (hCX H e s' h).elim
  |ok fl=>
   cases fl with
   |next=>exact False.elim h
   |brk=>exact False.elim h
   |cont=>exact False.elim h
   |ret u=>
    obtain⟨v,H',os,bare,un,hok',r',q⟩:=h
    have q':v=.bl true:=q
    subst q'
    obtain rfl:u=Value.bool true:=r'
    refine⟨rfl,OldK.of_keep fun b o e=>?_,os,bare⟩
    cases q:H b with
    |none=>exact un.keep b o e q (by intro z;exact absurd (show b∈([]:List Addr) from z) (by simp)) (by simp)
    |some u=>
     rcases hO b with z|⟨ob,xs,z⟩
     ·rw[q] at z;cases z
     ·have z2:=un.frzs b ob _ z
      obtain⟨e1,_⟩:=hok b _ z
      obtain⟨e2,_⟩:=hok' b _ z2
      rw[e] at e1;cases e1
      exact e2
 cases hk:K.lookup a with
 |some o=>
  have e:=KX a o hk
  rw[ha] at e
  cases e
  refine core (fun _=>none) (fun _=>.inl rfl) (.inr ⟨_,vs.toArray,_,hk,rfl,rfl,rfl,by rw[List.size_toArray,lenV];exact hl,by simpa using rv⟩) (fun b u z=>by have z':(none:Option HO)=some u:=z;cases z') (fun b z=>absurd rfl z) fun z=>absurd rfl z
 |none=>
  refine core (fun b=>if b=a then some (.frz {cls:=.type "list",data:=.seq vs.toArray} (.lst (ns.map V.int))) else none) (fun b=>?_) (.inl (.inr ⟨{cls:=.type "list",data:=.seq vs.toArray},if_pos rfl⟩)) (fun b u z=>?_) (fun b z=>?_) fun _=>hk
  ·by_cases hb:b=a
   ·exact .inr ⟨_,_,if_pos hb⟩
   ·exact .inl (if_neg hb)
  ·by_cases hb:b=a
   ·have z':=(if_pos hb).symm.trans z
    cases z'
    subst hb
    exact⟨ha,by rw[List.length_map];exact hl,vs,_,rv,ha⟩
   ·have z':=(if_neg hb).symm.trans z
    cases z'
  ·by_cases hb:b=a
   ·exact hb
   ·exact absurd (if_neg hb) z
end L2
namespace L2
open PySem PySem.Spec PyProof.Rows
theorem alw {l:PySem.W.OpenLaw} {n k:Nat} {q:Program} {loose:List Str} {XP:(Str→Option Value)→Heap→Prop} {YP:World→Heap→Prop} {d:DefRec} {K:Params→PySem.W.Frag} {CX:World→CXT} {sp:World→Sp} {x:Str}
  (hn:l.most=some n) (hn2:n≤sizeLine) (hdf:d.params.defaults=[]) (hr:Room k callerA)
  (hY:∀(w:World) (h:Heap),YP w h→(K w.params).In h)
  (F:∀(w:World) (mg:Str→Option Value) (fa:Addr) (h:Heap),(K w.params).In h→h.Ns mainGlobals mg→mg d.name=some (.ref fa)→
   ∃fd:FuncData,(∀(s:Shared) (u:Value),BindsTo s fd ⟨[u],[]⟩ [(x,u)])∧
    ∀base:Heap,(K w.params).In base→base.Ns mainGlobals mg→FnOk l.prog w (K w.params) mg base (CX w) k fa fd [x] (sp w))
  (hsp:∀(w:World) (H:Hp) (a:Addr) (ns:List Int),ns.length≤n→Only H→SqL (K w.params) H a (ns.map V.int)→sp w [.ref a] H (fun v _=>v=.bl true) fun _ _ _=>False)
  (hCX:∀(w:World) (H:Hp) (s:Shared) (e:Value) (s':Shared),CX w [] H s (fun _ _ _=>False) e s'→False):
  PySem.W.WalkO q loose XP YP l.row.toRowW d [] (fun f vs=>PySem.call f vs):=by
 refine Att.afw hn hdf fun w s₀ s₁ mg mb fa o pm cd doc a vs ns G Y ho hd hcd hmg hobj hints hlen hg=>?_
 have KX:=hY w _ Y
 obtain⟨fd,hb,hF⟩:=F w mg fa _ KX G.T.g hmg
 exact aj1 KX G.T.g G.T.b G.T.builtins G.T.nolimit hg hobj hints (Nat.le_trans hlen hn2) hr hF hb (fun H hO hS=>hsp w H a ns hlen hO hS) fun H e s'=>hCX w H s₁ e s'
end L2
namespace L2
open PySem PySem.Spec PyProof.Rows
noncomputable def inClass (s:Stmt) (j:Nat):Stmt:=match s with
 |.ClassDef _ _ _ body _ _ _ _ _ _ _=>body.getD j (.Pass ⟨0,0,0,0⟩)
 |_=>.Pass ⟨0,0,0,0⟩
noncomputable def defArgs (s:Stmt):Arguments:=match s with
 |.FunctionDef _ a _ _ _ _ _ _ _ _=>a
 |_=>{posonlyargs:=[],args:=[],vararg:=none,kwonlyargs:=[],kw_defaults:=[],kwarg:=none,defaults:=[]}
noncomputable def defBody (s:Stmt):List Stmt:=match s with
 |.FunctionDef _ _ b _ _ _ _ _ _ _=>b
 |_=>[]
noncomputable def defScope (s:Stmt):Scope:=match s with
 |.FunctionDef _ _ _ _ _ _ sc _ _ _=>sc
 |_=>{kind:=.function,names:=[],isGenerator:=false,isCoroutine:=false}
noncomputable abbrev CX0:CXT:=fun _ _ _ _ _ _=>False
structure Fun (K:PySem.W.Frag) (x qual:Str) (st:Stmt) (f:Addr) (fd:FuncData):Prop where
 ex:∃(oc:Value) (od:Option Addr) (kV doc pm:Value) (an:Option Addr) (cdv ct:Value) (osl:Array (Option Value)),
  fd=PySem.W.fnOf x qual (defArgs st) (defBody st) (defScope st) .none kV doc pm an cdv ct∧K.lookup f=some ⟨oc,od,.func fd,osl⟩∧PySem.W.codeIn K cdv qual=true
 kp:PySem.W.keepIn K (.ref f)=true
section
variable {P:Program} {w:World} {K:PySem.W.Frag} {mg:Str→Option Value} {base:Heap}
theorem Fun.ok {x qual:Str} {st:Stmt} {f:Addr} {fd:FuncData} {N ps:List Str} {k:Nat} {sp:Sp} (F:Fun K x qual st f fd) (S:FnScope N ps (defScope st)) (len:∀vs H Q E,sp vs H Q E→vs.length=ps.length)
  (hbody:∀(cdv:Value) (A:Around) (outer:List Env) (s:Shared) (H:Hp) (vs:List V) (Q:VK) (E:XK),Room k (A.deeper (envOfC qual (defScope st) s.heap.objs.size f cdv))→sp vs H Q E→
   ∃t,PSs (cxOf CX0 P w K mg base N qual (defScope st) f cdv A outer s H E).nox (defBody st) t∧t {nx:=fun _ H'=>Q .non H',rt:=Q} (start N vs) H):FnOk P w K mg base CX0 (k+1) f fd ps sp:=by
 obtain⟨oc,od,kV,doc,pm,an,cdv,ct,osl,rfl,lk,hcd⟩:=F.ex
 refine alp lk hcd S len fun A outer s H vs Q E hr hsp=>?_
 obtain⟨t,h,q⟩:=hbody cdv A outer s H vs Q E hr hsp
 exact⟨t,h.nox,q⟩
theorem Fun.binds {x qual:Str} {st:Stmt} {f:Addr} {fd:FuncData} {ps:List Str} (F:Fun K x qual st f fd)
  (h:∀(kV doc pm:Value) (an:Option Addr) (cdv ct:Value) (us:List Value),us.length=ps.length→bindArgs (PySem.W.fnOf x qual (defArgs st) (defBody st) (defScope st) .none kV doc pm an cdv ct) ⟨us,[]⟩=pure (ps.zip us)):Binds K fd ps []:=by
 obtain⟨oc,od,kV,doc,pm,an,cdv,ct,osl,rfl,lk,hcd⟩:=F.ex
 exact .all (h kV doc pm an cdv ct)
theorem aib {x qual:Str} {st:Stmt} {f:Addr} {oc:Value} {od an:Option Addr} {osl:Array (Option Value)} {kV doc pm cdv ct:Value} (l:K.lookup f=some ⟨oc,od,.func (PySem.W.fnOf x qual (defArgs st) (defBody st) (defScope st) .none kV doc pm an cdv ct),osl⟩)
 (c:PySem.W.codeIn K cdv qual=true) (k:PySem.W.keepIn K (.ref f)=true):Fun K x qual st f (PySem.W.fnOf x qual (defArgs st) (defBody st) (defScope st) .none kV doc pm an cdv ct):=⟨⟨oc,od,kV,doc,pm,an,cdv,ct,osl,rfl,l,c⟩,k⟩
end
theorem ac4 {A:Around} {k:Nat} (hr:Room k A):A.units+1 < cLine:=Nat.lt_of_le_of_lt (Nat.add_le_add_left (by decide:1≤64) _) hr.units
section
variable {X:Cx}
end
theorem iteF {A B:Prop} (h:B):if false=true then A else B:=by
 rw[if_neg Bool.false_ne_true]
 exact h
theorem iteT {A B:Prop} (h:A):if true=true then A else B:=by
 rw[if_pos rfl]
 exact h
theorem ite2 {c A B:Prop} [Decidable c] (h1:c→A) (h2:¬c→B):if c then A else B:=by
 by_cases h:c
 ·rw[if_pos h]
  exact h1 h
 ·rw[if_neg h]
  exact h2 h
noncomputable def Same (H H':Hp):Prop:=∀b o,H b=some o→H' b=some o
theorem Same.trans {H H1 H2:Hp} (a:Same H H1) (b:Same H1 H2):Same H H2:=fun c o h=>b c o (a c o h)
theorem Same.free {H H':Hp} (e:Same H H') {l:Addr} (h:H' l=Option.none):H l=Option.none:=by
 cases q:H l with
 |none=>rfl
 |some o=>
  rw[e l o q] at h
  cases h
theorem Same.seq {K:PySem.W.Frag} {H H':Hp} {a:Addr} {xs:List V} (e:Same H H') (h:SqL K H a xs):SqL K H' a xs:=by
 rcases h with (h|⟨o,h⟩)|h
 ·exact .inl (.inl (e _ _ h))
 ·exact .inl (.inr ⟨o,e _ _ h⟩)
 ·exact .inr h
section
variable {κ:Type} [DecidableEq κ]
end
end L2
set_option maxHeartbeats 4000000
namespace L2
open PySem PySem.Spec PyProof.Rows
section
variable {M:Model} {A:Around} {E:Value→Shared→Prop} {s:Shared}
noncomputable def NoCx (e:Addr) (h:Heap):Prop:=∃o vs,h.get? e=some o∧o.data=.fields vs∧vs[2]?=some .none
theorem entryC {B:Heap} {env:Env} {ol:List Env} {L e:Addr} {oe:Obj} {vs:Array Value} {hd0 a0:Value} {nx:Bool} {Q:Unit→Shared→Prop}
  (fr:A.frames=some (env::ol)) (ff:s.heap.FunFrames B (env::ol)) (ef:env.frame=some L) (ge:s.heap.get? e=some oe) (st:B.StaysIn s.heap) (ne:B.get? e=none) (dd:oe.data=.fields vs) (sz:1 < vs.size) (v0:vs[0]?=some a0) (v2:vs[2]?=some .none)
  (q:∀h',Heap.NotedW B (env::ol) e oe.cls a0 (rawInt L) s.heap h'→NoCx e h'→Q () {s with heap:=h'}):
  wpAny M A (do let a←frameOf env;let pl←entryPlaceOf L nx;let b←EntryCells.newEntry hd0 a .none (rawInt L) .none pl;setField (.ref e) 1 b) Q E s:=by
 have notF:e∉(env::ol).filterMap (·.frame):=fun m=>by
  obtain⟨_,o,go,nf⟩:=ff.mem m
  rw[ge] at go
  cases go
  exact nf vs dd
 refine wpAny_bind (wpAny_frameOf_fun fr ff ef fun k1 z1=>wpAny_bind (wpAny_entryPlaceOf fun pl zp=>?_))
 unfold EntryCells.newEntry newFields
 refine wpAny_bind (wpAny_newObj_type ?_ (zp.sizeOk5 _ _ _ _ _))
 have g1:k1.get? e=some oe:=(z1.2.1 e notF).trans ge
 have st1:B.StaysIn k1:=fun b o hb=>(z1.2.1 b fun m=>by rw[(ff.mem m).1] at hb;cases hb).trans (st b o hb)
 generalize ho:({cls:=.type "traceback",dict:=none,data:=.fields ([hd0,.ref L,.none,rawInt L,.none]++(if pl.isEmpty then List.replicate 6 Value.none else pl)).toArray}:Obj)=nT
 have hdT:nT.data=.fields ([hd0,.ref L,.none,rawInt L,.none]++(if pl.isEmpty then List.replicate 6 Value.none else pl)).toArray:=by rw[←ho]
 have hfreed:nT.isFreed=false:=Obj.isFreed_of_fields hdT
 have g2:(k1.push nT).get? e=some oe:=Heap.get?_push_of_some nT g1
 have gT:(k1.push nT).get? k1.objs.size=some nT:=Heap.get?_push_size k1 hfreed
 refine wpAny_setField g2 dd sz ?_
 have dis:k1.objs.size≠e:=Nat.ne_of_gt (Heap.lt_size g1)
 have d3:=Obj.data_mapFields dd (·.setIfInBounds 1 (Value.ref k1.objs.size))
 have g3:=Heap.get?_update_self (Obj.mapFields (·.setIfInBounds 1 (Value.ref k1.objs.size))) g2 (Obj.isFreed_of_fields d3)
 have gT3:=(Heap.get?_update_other (k1.push nT) (Obj.mapFields (·.setIfInBounds 1 (Value.ref k1.objs.size))) (Ne.symm dis)).trans gT
 have kp:∀b o,b≠e→k1.get? b=some o→((k1.push nT).update e (Obj.mapFields (·.setIfInBounds 1 (Value.ref k1.objs.size)))).get? b=some o:=fun b o n g=>by
  rw[Heap.get?_update_other _ _ (Ne.symm n)]
  exact Heap.get?_push_of_some _ g
 have rcd:∀b o,s.heap.get? b=some o→(∀vs,o.data≠.fields vs)→b≠e:=fun b o g nf z=>by
  rw[z,ge] at g
  cases g
  exact nf vs dd
 have t3:([hd0,.ref L,.none,rawInt L,.none]++(if pl.isEmpty then List.replicate 6 Value.none else pl)).toArray[3]?=some (rawInt L):=by simp
 refine q _ ⟨fun b o hb=>kp b o (fun z=>by rw[z,ne] at hb;cases hb) (st1 b o hb),ff.of_keeps fun b o g nf=>?_,⟨_,_,k1.objs.size,nT,_,g3,⟨Obj.cls_mapFields _ _,?_⟩,d3,?_,st1.fresh,dis,gT3,hdT,t3⟩,fun b o g nf=>?_⟩ ⟨_,_,g3,d3,?_⟩
 ·obtain⟨sl,hs⟩:=z1.2.2 b o g
  exact⟨_,kp b _ (rcd b o g nf) hs,rfl⟩
 ·rw[Array.getElem?_setIfInBounds_ne (by decide)];exact v0
 ·simp[sz]
 ·obtain⟨sl,hs⟩:=z1.2.2 b o g
  exact⟨sl,kp b _ (rcd b o g nf) hs⟩
 ·rw[Array.getElem?_setIfInBounds_ne (by decide)];exact v2
theorem landsC {B:Heap} {l:List Env} {e:Addr} {cls a0 fl:Value} {Q:Unit→Shared→Prop} (st:B.StaysIn s.heap) (ff:s.heap.FunFrames B l) (tr:s.heap.TracedAtW B e cls a0 fl) (nc:NoCx e s.heap) (ne:B.get? e=none)
  (q:∀h',Heap.FlyingW B l e cls a0 h'→s.heap.UpToSlots h'→NoCx e h'→Q () {s with heap:=h'}):wpAny M A (setFlight (.ref e) none) Q E s:=by
 obtain⟨oe,vs,T,oT,ts,ge,hc,dd,v1,nT,dis,gT,dT,t3⟩:=tr
 have s3:3 < ts.size:=(Array.getElem?_eq_some_iff.mp t3).1
 unfold setFlight
 refine wpAny_bind (wpAny_field ge dd v1 ?_)
 rw[if_pos (show (Value.ref T != Value.none)=true by simp)]
 have oth:∀b,b≠T→(s.heap.update T (Obj.mapFields (·.setIfInBounds 3 ((none:Option Addr).elim Value.none fun f=>rawInt f)))).get? b=s.heap.get? b:=fun b n=>Heap.get?_update_other _ _ (Ne.symm n)
 have rcd:∀b o,s.heap.get? b=some o→(∀vs,o.data≠.fields vs)→b≠T:=fun b o g nf z=>by
  rw[z,gT] at g
  cases g
  exact nf ts dT
 refine wpAny_setField gT dT s3 (q _ ⟨fun b o hb=>(oth b fun z=>by rw[z,nT] at hb;cases hb).trans (st b o hb),ne,ff.of_keeps fun b o g nf=>⟨o,(oth b (rcd b o g nf)).trans g,rfl⟩,?_⟩ (fun b o g nf=>⟨o.slots,(oth b (rcd b o g nf)).trans g⟩) ?_)
 ·exact⟨oe,vs,T,_,_,(oth e (Ne.symm dis)).trans ge,hc,dd,v1,nT,dis,Heap.get?_update_self _ gT (Obj.isFreed_of_fields (Obj.data_mapFields dT _)),Obj.data_mapFields dT _,by simp[s3]⟩
 ·obtain⟨o,vs',g,d,v⟩:=nc
  exact⟨o,vs',(oth e (Ne.symm dis)).trans g,d,v⟩
theorem looksC {B:Heap} {env:Env} {ol:List Env} {L e:Addr} {cls a0:Value} {Q:Unit→Shared→Prop} (fr:A.frames=some (env::ol)) (ef:env.frame=some L) (fl:Heap.FlyingW B (env::ol) e cls a0 s.heap) (nc:NoCx e s.heap)
  (q:∀h',Heap.HeldW B (env::ol) e cls a0 L h'→s.heap.UpToSlots h'→NoCx e h'→Q () {s with heap:=h'}):wpAny M A (noteFrame (.ref e) env) Q E s:=by
 obtain⟨st,ne,ff,oe,vs,T,oT,ts,ge,⟨hc,v0⟩,dd,v1,nT,dis,gT,dT,t3⟩:=fl
 obtain⟨o',vs',g',d',v2⟩:=nc
 rw[ge] at g'
 cases g'
 rw[dd] at d'
 cases d'
 subst hc
 unfold noteFrame
 simp only[ef]
 refine wpAny_bind (wpAny_field ge dd v1 ?_)
 rw[if_pos (show (Value.ref T != Value.none)=true by simp)]
 refine wpAny_bind (wpAny_field gT dT t3 ?_)
 rw[if_neg (show ¬((Value.none == rawInt L)=true) by simp[rawInt])]
 refine wpAny_bind (wpAny_setField gT dT (Array.getElem?_eq_some_iff.mp t3).1 ?_)
 have oth:∀b,b≠T→(s.heap.update T (Obj.mapFields (·.setIfInBounds 3 Value.none))).get? b=s.heap.get? b:=fun b n=>Heap.get?_update_other _ _ (Ne.symm n)
 have rcd:∀b o,s.heap.get? b=some o→(∀vs,o.data≠.fields vs)→b≠T:=fun b o g nf z=>by
  rw[z,gT] at g
  cases g
  exact nf ts dT
 refine entryC fr (ff.of_keeps fun b o g nf=>⟨o,(oth b (rcd b o g nf)).trans g,rfl⟩) ef ((oth e (Ne.symm dis)).trans ge) (fun b o hb=>(oth b fun z=>by rw[z,nT] at hb;cases hb).trans (st b o hb)) ne dd (Array.getElem?_eq_some_iff.mp v1).1 v0 v2 fun h' ⟨x1,x2,x3,x4⟩ nc'=>?_
 exact q h' ⟨x1,ne,x2,x3⟩ (fun b o g nf=>x4 b o ((oth b (rcd b o g nf)).trans g) nf) nc'
theorem leavesC {B:Heap} {env:Env} {ol:List Env} {L e:Addr} {cls a0:Value} {Q:Unit→Shared→Prop} (fr:A.frames=some (env::ol)) (ef:env.frame=some L) (fl:Heap.FlyingW B (env::ol) e cls a0 s.heap) (nc:NoCx e s.heap)
  (q:∀h',Heap.FlyingW B ol e cls a0 h'→s.heap.UpToSlots h'→NoCx e h'→Q () {s with heap:=h'}):wpAny M A (leaving env (.ref e)) Q E s:=by
 unfold leaving
 refine wpAny_bind (looksC fr ef fl nc fun k ⟨h1,h2,h3,h4⟩ up nk=>?_)
 refine landsC (s:={s with heap:=k}) h1 h3 h4 nk h2 fun k' ⟨f1,f2,⟨_,_,f3⟩,f4⟩ up' nk'=>?_
 exact q k' ⟨f1,f2,f3,f4⟩ (up.trans up') nk'
end
end L2
namespace L2
open PySem PySem.Spec PyProof.Rows
structure Fly (B:Heap) (l:List Env) (h:Heap) (H H':Hp) (h':Heap) (ea:Addr) (cls:Value):Prop where
 fl:∃a0,Heap.FlyingW B l ea cls a0 h'
 trk:∀b u,H' b=some u→∃o,B.get? b=some o
 kept:∀b o,h.get? b=some o→H b=none→b∉frs l→B.get? b=some o
 alive:∀b o,h.get? b=some o→b∉frs l→∃o',B.get? b=some o'
 nc:NoCx ea h'
noncomputable def CXe (P:Program) (w:World):CXT:=fun outer H s E e s'=>∃ea cls H' B,e=.ref ea∧s'.os=s.os∧AllBare s'.gens∧Un (frs outer) [] H H' s.heap s'.heap∧HOk P w H' s'.heap∧Fly B outer s.heap H H' s'.heap ea cls∧E cls none H'
noncomputable abbrev XKs:=Value→St→Hp→Prop
noncomputable def XW (X:Cx) (K:XKs):Prop:=∀(pins:List (Addr×Obj)) (σ:St) (H:Hp) (s s':Shared) (ea:Addr) (cls:Value) (H':Hp) (B:Heap),Inv X pins σ H s→s'.os=s.os→AllBare s'.gens→
 Un (frs X.stack) [] H H' s.heap s'.heap→HOk X.prog X.w H' s'.heap→Fly B X.stack s.heap H H' s'.heap ea cls→K cls σ H'→X.xe (.ref ea) s'
theorem aj2 {env:Env} {l:List Env} {L:Addr} (h:env.frame=some L):frs (env::l)=L::frs l:=by
 unfold frs;rw[List.filterMap_cons,h]
theorem HOk.flown {P:Program} {w:World} {H:Hp} {B h h':Heap} (x:HOk P w H h) (t:∀b u,H b=some u→∃o,B.get? b=some o) (s:B.StaysIn h) (s':B.StaysIn h'):HOk P w H h':=fun a o e=>
 (x a o e).stay (fun b u hb q=>by
  have hB:∃o,B.get? b=some o:=by
   rcases hb with rfl|hb
   ·exact t _ _ e
   ·exact t _ _ hb
  obtain⟨o',ho⟩:=hB
  have e1:=s b o' ho
  rw[q] at e1;cases e1
  exact s' b _ ho) (fun _ q=>q) fun _ _ q=>q
theorem aat {P:Program} {w:World} {K:PySem.W.Frag} {mg:Str→Option Value} {base:Heap} {N:List Str} {qual:Str} {scope:Scope} {f:Addr} {cd:Value} {A:Around} {outer:List Env} {s0:Shared} {H0:Hp} {E:XK}:
  XW (cxOf (CXe P w) P w K mg base N qual scope f cd A outer s0 H0 E) (fun c _ H'=>E c none H'):=by
 intro pins σ H s s' ea cls H' B I os bare un hok fly hK
 have I':=I.call' (s':=s') (ch:=[]) os un hok bare (fun b z=>absurd z (by simp))
 have hfr:=I.ok.frames
 have hstk:(cxOf (CXe P w) P w K mg base N qual scope f cd A outer s0 H0 E).stack=envOfC qual scope s0.heap.objs.size f cd::outer:=rfl
 rw[hstk] at hfr
 obtain⟨a0,hfl⟩:=fly.fl
 have hf:(envOfC qual scope s0.heap.objs.size f cd).frame=some s0.heap.objs.size:=rfl
 show wpAny _ _ (leaving (envOfC qual scope s0.heap.objs.size f cd) (.ref ea)) _ _ s'
 refine leavesC hfr hf hfl fly.nc fun h' fl' up nc'=>?_
 have hfs:frs (envOfC qual scope s0.heap.objs.size f cd::outer)=s0.heap.objs.size::frs outer:=aj2 hf
 have nf:∀b o,s0.heap.get? b=some o→b∉frs outer→b∉frs (envOfC qual scope s0.heap.objs.size f cd::outer):=fun b o e n z=>by
  rw[hfs] at z
  rcases List.mem_cons.mp z with z|z
  ·exact absurd (Heap.lt_size e) (by rw[z];exact Nat.lt_irrefl _)
  ·exact n z
 have stay:∀b o,s0.heap.get? b=some o→H0 b=none→b∉frs outer→B.get? b=some o:=fun b o e n hb=>
  fly.kept b o (I.base.keep b o e n hb (by intro z;exact absurd z (by simp[cxOf]))) (I.base.free b o e n (by intro z;exact absurd z (by simp[cxOf]))) (nf b o e hb)
 have live:∀b o,s0.heap.get? b=some o→b∉frs outer→∃o',B.get? b=some o':=fun b o e hb=>by
  obtain⟨o1,e1⟩:=I.base.there b o e (by intro z;exact absurd z (by simp[cxOf]))
  exact fly.alive b o1 e1 (nf b o e hb)
 refine⟨ea,cls,H',B,rfl,I'.os,bare,?_,hok.flown fly.trk hfl.1 fl'.1,⟨⟨a0,fl'⟩,fly.trk,stay,live,nc'⟩,hK⟩
 have noA:∀b:Addr,b∉(cxOf (CXe P w) P w K mg base N qual scope f cd A outer s0 H0 E).ex:=fun b z=>absurd z (by simp[cxOf])
 have slotOf:∀b,b∈frs outer→∀o,s'.heap.get? b=some o→∃sl,h'.get? b=some {o with slots:=sl}:=fun b hb o e=>by
  have hm:b∈frs (envOfC qual scope s0.heap.objs.size f cd::outer):=by rw[hfs];exact List.mem_cons_of_mem _ hb
  obtain⟨_,o',ho',hd⟩:=hfl.2.2.1.mem hm
  rw[e] at ho';cases ho'
  exact up b o e hd
 refine⟨fun b o e n hb _=>fl'.1 b o (stay b o e n hb),fun b o e n hb _=>?_,fun b o e n _=>I'.base.free b o e n (noA b),fun b o e _=>?_,I'.base.tups,I'.base.frzs,I'.base.tbls⟩
 ·obtain⟨sl,e1⟩:=I'.base.slot b o e n hb (noA b)
  obtain⟨sl',e2⟩:=slotOf b hb _ e1
  exact⟨sl',e2⟩
 ·by_cases hb:b∈frs outer
  ·obtain⟨o1,e1⟩:=I'.base.there b o e (noA b)
   obtain⟨sl,e2⟩:=slotOf b hb _ e1
   exact⟨_,e2⟩
  ·obtain⟨o1,e1⟩:=live b o e hb
   exact⟨o1,fl'.1 b o1 e1⟩
noncomputable def Have (P:Program) (w:World) (K:PySem.W.Frag) (mg:Str→Option Value) (base:Heap) (x:Str) (k:Nat) (ps:List Str) (dvs:List V) (sp:Sp):Prop:=
 ∃f fd ds,mg x=some (.ref f)∧PySem.W.keepIn K (.ref f)=true∧Binds K fd ps ds∧Vals dvs ds∧FnOk P w K mg base (CXe P w) k f fd ps sp
noncomputable def HaveM (P:Program) (w:World) (K:PySem.W.Frag) (mg:Str→Option Value) (base:Heap) (C:Addr) (m:Str) (k:Nat) (ps:List Str) (dvs:List V) (sp:Sp):Prop:=
 ∃f fd ds,Meth K C m f∧Binds K fd ps ds∧Vals dvs ds∧FnOk P w K mg base (CXe P w) k f fd ps sp
noncomputable def HaveI (P:Program) (w:World) (K:PySem.W.Frag) (mg:Str→Option Value) (base:Heap) (x:Str) (C:Addr) (k:Nat) (ps:List Str) (dvs:List V) (sp:Sp):Prop:=
 ∃f fd ds,mg x=some (.ref C)∧Mk K C f∧Binds K fd ps ds∧Vals dvs ds∧FnOk P w K mg base (CXe P w) k f fd ps sp
noncomputable def tCallE (Kx:XKs) (sp:Sp) (dvs:List V) (t:TA):TE:=fun σ H Q=>t σ H fun vs H1=>sp (vs++dvs) H1 Q (fun c _ H'=>Kx c σ H')
noncomputable def tMethE (Kx:XKs) (C:Addr) (m:Str) (sp:Sp) (dvs:List V) (ta:TE) (t:TA):TE:=fun σ H Q=>ta σ H fun x H1=>∃a dx fs,x=.ref a∧H1 a=some (.ins C dx fs)∧fs.lookup m=none∧
 t σ H1 fun vs H2=>sp (x::(vs++dvs)) H2 Q (fun c _ H'=>Kx c σ H')
noncomputable def tMakeE (Kx:XKs) (C:Addr) (sp:Sp) (dvs:List V) (t:TA):TE:=fun σ H Q=>t σ H fun vs H1=>∀x dx,H1 x=none→H1 dx=none→dx≠x→
 sp (.ref x::(vs++dvs)) (upd (upd H1 dx (.own x)) x (.ins C dx [])) (fun v H2=>v=.non∧Q (.ref x) H2) (fun c _ H'=>Kx c σ H')
section
variable {X:Cx} {Kx:XKs} {k:Nat} {f C:Addr} {fd:FuncData} {ps:List Str} {sp:Sp} {dvs:List V} {ds:List Value} {x m:Str} {p pos apos:Pos} {e o:Expr} {es:List Expr} {ta:TE} {t:TA}
theorem afx {pins:List (Addr×Obj)} {σ:St} {H:Hp} {s:Shared} {Q:VK} {us:List Value} {vs:List V} (F:FnOk X.prog X.w X.K X.mg X.base (CXe X.prog X.w) k f fd ps sp) (hr:Room k X.A) (hb:Binds X.K fd ps ds) (hd:Vals dvs ds) (hx:XW X Kx)
  (I:Inv X pins σ H s) (r:Vals vs us) (h:sp (vs++dvs) H Q (fun c _ H'=>Kx c σ H')):wpAny (model X.prog X.w) X.A (call (.ref f) us) (EP X pins σ Q) X.xe s:=by
 have r2:Vals (vs++dvs) (us++ds):=r.append hd
 have hl:(us++ds).length=ps.length:=by rw[←r2.length];exact F.len _ _ _ _ h
 refine wpAny_call (codeAny_mono (F.run X.A X.stack s H ⟨us,[]⟩ (us++ds) (vs++dvs) Q _ hr I.env0 (hb s us I.kIn hl) r2 h) fun r s' hq=>?_)
 cases r with
 |error e=>
  obtain⟨ea,cls,H',B,rfl,os,bare,un,hok,fly,hK⟩:=hq
  exact hx pins σ H s s' ea cls H' B I os bare un hok fly hK
 |ok fl=>
  cases fl with
  |ret u=>exact I.after hq
  |next=>exact False.elim hq
  |brk=>exact False.elim hq
  |cont=>exact False.elim hq
theorem aaq (F:Have X.prog X.w X.K X.mg X.base x k ps dvs sp) (hr:Room k X.A) (hx:XW X Kx) (ha:PA X (e::es) t) (hg:Gl X x:=by rfl) (hdb:(x == ("__debug__":Str))=false:=by decide)
  (he:starEach (e::es) X.env=(false,eval e X.env)::starEach es X.env:=by rfl) (hpl:(backTo pos (starEach es X.env)).any (·.1)=false:=by rfl):
  PE X (.Call (.Name x p) (e::es) [] pos) (tCallE Kx sp dvs t):=by
 obtain⟨f,fd,ds,hm,hk,hb,hd,F⟩:=F
 intro pins s σ H Q I h
 refine wpAny_Call_Name_kw (ahn I hg hm ?_ hdb)
 refine PySem.W.callWith_K (h₀:=X.base) I.ok.mod.kin hk (thn (ha pos pins s σ H _ I h) fun us s1 ⟨vs,H1,I1,r,q⟩=>⟨I1.kIn,?_⟩) he hpl
 exact afx F hr hb hd hx I1 r q
theorem abx {pl:Sem Bool} (ho:PE X o ta) (c:Cls X.K C) (F:HaveM X.prog X.w X.K X.mg X.base C m k ps dvs sp) (hr:Room k X.A) (hx:XW X Kx) (ha:PA X (e::es) t)
  (hst:starEach (e::es) X.env=(false,eval e X.env)::starEach es X.env:=by rfl) (hpl:(backTo pos (starEach es X.env)).any (·.1)=false:=by rfl)
  (ht:eval (.Call (.Attribute o m apos) (e::es) [] pos) X.env=(do
   let ov←eval o X.env
   standAt apos.atName
   let (f,first)←holding [ov] (getMethod ov m pl)
   callWith pos f first (backTo pos (starEach (e::es) X.env)) (backToKw pos (keywordEach [] X.env))):=by rfl):
  PE X (.Call (.Attribute o m apos) (e::es) [] pos) (tMethE Kx C m sp dvs ta t):=by
 obtain⟨f,fd,ds,hm,hb,hd,F⟩:=F
 intro pins s σ H Q I h
 refine PySem.W.methodCall_KW (pl:=pl) (thn (ho pins s σ H _ I h) fun u s1 ⟨x,H1,I1,rx,a,dx,fs,ex,ea,l,q⟩=>?_) ht
 subst ex
 obtain rfl:u=Value.ref a:=rx
 refine ad4 I1 ea c hm l ?_
 refine PySem.W.callWith_K (first:=[.ref a]) (h₀:=X.base) I.ok.mod.kin hm.kp (thn (ha pos pins s1 σ H1 _ I1 q) fun us s2 ⟨vs,H2,I2,r,q2⟩=>⟨I2.kIn,?_⟩) hst hpl
 exact afx (us:=.ref a::us) (vs:=.ref a::vs) F hr hb hd hx I2 (.cons rfl r) q2
theorem abz {pl:Sem Bool} (ho:PE X o ta) (c:Cls X.K C) (F:HaveM X.prog X.w X.K X.mg X.base C m k ps dvs sp) (hr:Room k X.A) (hx:XW X Kx)
  (ht:eval (.Call (.Attribute o m apos) [] [] pos) X.env=(do
   let ov←eval o X.env
   standAt apos.atName
   let (f,first)←holding [ov] (getMethod ov m pl)
   callWith pos f first (backTo pos (starEach [] X.env)) (backToKw pos (keywordEach [] X.env))):=by rfl):
  PE X (.Call (.Attribute o m apos) [] [] pos) (tMethE Kx C m sp dvs ta tNil):=by
 obtain⟨f,fd,ds,hm,hb,hd,F⟩:=F
 intro pins s σ H Q I h
 refine PySem.W.methodCall_KW (pl:=pl) (thn (ho pins s σ H _ I h) fun u s1 ⟨x,H1,I1,rx,a,dx,fs,ex,ea,l,q⟩=>?_) ht
 subst ex
 obtain rfl:u=Value.ref a:=rx
 refine ad4 I1 ea c hm l ?_
 exact PySem.W.callWith_K0 (first:=[.ref a]) I1.kIn hm.kp (afx (us:=[.ref a]) (vs:=[.ref a]) F hr hb hd hx I1 (.cons rfl .nil) q)
theorem aic {pins:List (Addr×Obj)} {σ:St} {H:Hp} {s:Shared} {Q:VK} {us:List Value} {vs:List V} (M:Mk X.K C f) (F:FnOk X.prog X.w X.K X.mg X.base (CXe X.prog X.w) k f fd ps sp) (hr:Room (k+1) X.A) (hb:Binds X.K fd ps ds) (hd:Vals dvs ds)
  (hx:XW X Kx) (I:Inv X pins σ H s) (r:Vals vs us)
  (h:∀x dx,H x=none→H dx=none→dx≠x→sp (.ref x::(vs++dvs)) (upd (upd H dx (.own x)) x (.ins C dx [])) (fun v H2=>v=.non∧Q (.ref x) H2) (fun c _ H'=>Kx c σ H')):
  wpAny (model X.prog X.w) X.A (call (.ref C) us) (EP X pins σ Q) X.xe s:=by
 have hq:=h (s.heap.objs.size+1) s.heap.objs.size (I.hok.fresh (Nat.le_succ _)) (I.hok.fresh (Nat.le_refl _)) (Nat.ne_of_lt (Nat.lt_succ_self _))
 have I2:=Inv.made (C:=C) I
 have r2:Vals (V.ref (s.heap.objs.size+1)::(vs++dvs)) (Value.ref (s.heap.objs.size+1)::(us++ds)):=.cons rfl (r.append hd)
 have hl:(Value.ref (s.heap.objs.size+1)::us++ds).length=ps.length:=by
  have e:=r2.length
  rw[F.len _ _ _ _ hq] at e
  exact e.symm
 refine wpAny_call (ajx (f:=f) I.kIn M.makes M.init (beq_iff_eq.mp M.fn) (codeAny_mono (F.run _ X.stack _ _ ⟨Value.ref (s.heap.objs.size+1)::us,[]⟩ (Value.ref (s.heap.objs.size+1)::(us++ds)) _ _ _ (hr.make C us [])
  (I2.env0.make C us []) (hb _ (Value.ref (s.heap.objs.size+1)::us) I2.kIn hl) r2 hq) fun r s' hq'=>?_))
 cases r with
 |error e=>
  obtain⟨ea,cls,H',B,rfl,os,bare,un,hok,fly,hK⟩:=hq'
  exact hx pins σ _ _ s' ea cls H' B I2 os bare un hok fly hK
 |ok fl=>
  cases fl with
  |ret u=>
   obtain⟨v,H',I3,rv,ev,q3⟩:=I2.after hq'
   subst ev
   exact⟨rv,⟨V.ref (s.heap.objs.size+1),H',I3,rfl,q3⟩⟩
  |next=>exact False.elim hq'
  |brk=>exact False.elim hq'
  |cont=>exact False.elim hq'
theorem aj3 (F:HaveI X.prog X.w X.K X.mg X.base x C k ps dvs sp) (hr:Room (k+1) X.A) (hx:XW X Kx) (ha:PA X (e::es) t) (hg:Gl X x:=by rfl) (hdb:(x == ("__debug__":Str))=false:=by decide)
  (he:starEach (e::es) X.env=(false,eval e X.env)::starEach es X.env:=by rfl) (hpl:(backTo pos (starEach es X.env)).any (·.1)=false:=by rfl):
  PE X (.Call (.Name x p) (e::es) [] pos) (tMakeE Kx C sp dvs t):=by
 obtain⟨f,fd,ds,hm,M,hb,hd,F⟩:=F
 intro pins s σ H Q I h
 refine wpAny_Call_Name_kw (ahn I hg hm ?_ hdb)
 refine PySem.W.callWith_K (h₀:=X.base) I.ok.mod.kin M.kp (thn (ha pos pins s σ H _ I h) fun us s1 ⟨vs,H1,I1,r,q⟩=>⟨I1.kIn,?_⟩) he hpl
 exact aic M F hr hb hd hx I1 r q
theorem acw {n:String} (hg:Gl X x) (hm:X.mg x=none) (hv:bootBuiltins x=some (.type n)) (hn:x≠"__name__":=by decide) (hd:(x == ("__debug__":Str))=false:=by decide):PE X (.Name x pos) (tC (.ty n)):=alj hg hm hv rfl hn hd
end
noncomputable def Raw (K:PySem.W.Frag) (mg:Str→Option Value) (x qual:Str) (st:Stmt) (ps:List Str) (dvs:List V):Prop:=∃f fd ds,mg x=some (.ref f)∧Fun K x qual st f fd∧Binds K fd ps ds∧Vals dvs ds
noncomputable def RawM (K:PySem.W.Frag) (C:Addr) (m qual:Str) (st:Stmt) (ps:List Str) (dvs:List V):Prop:=∃f fd ds,Meth K C m f∧Fun K m qual st f fd∧Binds K fd ps ds∧Vals dvs ds
noncomputable def RawI (K:PySem.W.Frag) (mg:Str→Option Value) (x:Str) (C:Addr) (qual:Str) (st:Stmt) (ps:List Str) (dvs:List V):Prop:=∃f fd ds,mg x=some (.ref C)∧Mk K C f∧Fun K "__init__" qual st f fd∧Binds K fd ps ds∧Vals dvs ds
section
variable {P:Program} {w:World} {K:PySem.W.Frag} {mg:Str→Option Value} {base:Heap}
noncomputable def Body (P:Program) (w:World) (K:PySem.W.Frag) (mg:Str→Option Value) (base:Heap) (qual:Str) (st:Stmt) (N:List Str) (k:Nat) (sp:Sp):Prop:=
 ∀(f:Addr) (cdv:Value) (A:Around) (outer:List Env) (s:Shared) (H:Hp) (vs:List V) (Q:VK) (E:XK),Room k (A.deeper (envOfC qual (defScope st) s.heap.objs.size f cdv))→sp vs H Q E→
  ∃t,PSs (cxOf (CXe P w) P w K mg base N qual (defScope st) f cdv A outer s H E) (defBody st) t∧t {nx:=fun _ H'=>Q .non H',rt:=Q} (start N vs) H
theorem Fun.okE {x qual:Str} {st:Stmt} {f:Addr} {fd:FuncData} {N ps:List Str} {k:Nat} {sp:Sp} (F:Fun K x qual st f fd) (S:FnScope N ps (defScope st)) (len:∀vs H Q E,sp vs H Q E→vs.length=ps.length)
  (hbody:Body P w K mg base qual st N k sp):FnOk P w K mg base (CXe P w) (k+1) f fd ps sp:=by
 obtain⟨oc,od,kV,doc,pm,an,cdv,ct,osl,rfl,lk,hcd⟩:=F.ex
 exact alp lk hcd S len fun A outer s H vs Q E hr hsp=>hbody f cdv A outer s H vs Q E hr hsp
theorem Raw.have {x qual:Str} {st:Stmt} {N ps:List Str} {dvs:List V} {k:Nat} {sp:Sp} (R:Raw K mg x qual st ps dvs) (S:FnScope N ps (defScope st)) (len:∀vs H Q E,sp vs H Q E→vs.length=ps.length)
  (hbody:Body P w K mg base qual st N k sp):Have P w K mg base x (k+1) ps dvs sp:=
 let ⟨f,fd,ds,hm,F,hb,hd⟩:=R
 ⟨f,fd,ds,hm,F.kp,hb,hd,F.okE S len hbody⟩
theorem RawM.have {C:Addr} {m qual:Str} {st:Stmt} {N ps:List Str} {dvs:List V} {k:Nat} {sp:Sp} (R:RawM K C m qual st ps dvs) (S:FnScope N ps (defScope st)) (len:∀vs H Q E,sp vs H Q E→vs.length=ps.length)
  (hbody:Body P w K mg base qual st N k sp):HaveM P w K mg base C m (k+1) ps dvs sp:=
 let ⟨f,fd,ds,hm,F,hb,hd⟩:=R
 ⟨f,fd,ds,hm,hb,hd,F.okE S len hbody⟩
theorem RawI.have {C:Addr} {x qual:Str} {st:Stmt} {N ps:List Str} {dvs:List V} {k:Nat} {sp:Sp} (R:RawI K mg x C qual st ps dvs) (S:FnScope N ps (defScope st)) (len:∀vs H Q E,sp vs H Q E→vs.length=ps.length)
  (hbody:Body P w K mg base qual st N k sp):HaveI P w K mg base x C (k+1) ps dvs sp:=
 let ⟨f,fd,ds,hm,M,F,hb,hd⟩:=R
 ⟨f,fd,ds,hm,M,hb,hd,F.okE S len hbody⟩
end
end L2
namespace L2
open PySem PySem.Spec PyProof.Rows
end L2
namespace L2
open PySem PySem.Spec PyProof.Rows
noncomputable def kdO:Option HO→String
 |some (.lst _)=>"list"
 |some (.frz _ (.lst _))=>"list"
 |some (.tup _)=>"tuple"
 |some (.dK _)=>"dict"
 |some (.dT _)=>"dict"
 |_=>""
noncomputable def kd (H:Hp):V→String
 |.non=>"NoneType"
 |.bl _=>"bool"
 |.int _=>"int"
 |.str _=>"str"
 |.ref a=>kdO (H a)
 |_=>""
noncomputable def Kn (H:Hp) (x:V):Prop:=kd H x≠""
noncomputable def isTy (n:String) (H:Hp) (x:V):Bool:=kd H x == n || (kd H x == "bool"&&n == "int")
theorem kd_ty {K:PySem.W.Frag} {H:Hp} {x:V} (h:Kn H x):TyOf K H x (.type (kd H x)):=by
 cases x with
 |non=>exact .non
 |bl b=>exact .bl b
 |int i=>exact .int i
 |str s=>exact .str s
 |ref a=>
  have h:kdO (H a)≠"":=h
  show TyOf K H (.ref a) (.type (kdO (H a)))
  cases e:H a with
  |none=>rw[e] at h;exact absurd rfl h
  |some o=>
   rw[e] at h
   cases o with
   |lst xs=>exact .lst e
   |tup xs=>exact .tup e
   |dK k=>exact .dK e
   |dT k=>exact .dT e
   |frz ob u=>
    cases u with
    |lst xs=>exact .frz e
    |_=>exact absurd rfl h
   |_=>exact absurd rfl h
 |_=>exact absurd rfl h
theorem aid (o:Option HO):kdO o=""∨kdO o="list"∨kdO o="tuple"∨kdO o="dict":=by
 unfold kdO
 split<;>simp
theorem Kn.cases {H:Hp} {x:V} (h:Kn H x):kd H x="NoneType"∨kd H x="bool"∨kd H x="int"∨kd H x="str"∨kd H x="list"∨kd H x="tuple"∨kd H x="dict":=by
 cases x with
 |ref a=>
  have h:kdO (H a)≠"":=h
  show kdO (H a)=_∨kdO (H a)=_∨kdO (H a)=_∨kdO (H a)=_∨kdO (H a)=_∨kdO (H a)=_∨kdO (H a)=_
  rcases aid (H a) with e|e|e|e
  ·exact absurd e h
  ·exact .inr (.inr (.inr (.inr (.inl e))))
  ·exact .inr (.inr (.inr (.inr (.inr (.inl e)))))
  ·exact .inr (.inr (.inr (.inr (.inr (.inr e)))))
 |non=>exact .inl rfl
 |bl b=>exact .inr (.inl rfl)
 |int i=>exact .inr (.inr (.inl rfl))
 |str z=>exact .inr (.inr (.inr (.inl rfl)))
 |_=>exact absurd rfl h
theorem aj4 (K:PySem.W.Frag):∀k∈["NoneType","bool","int","str","list","tuple","dict"],∀n∈["bool","int","str","list","tuple","dict"],PySem.W.kitOne K (.type k) (.type n)=some (k == n || (k == "bool"&&n == "int")):=by
 have e:∀k∈["NoneType","bool","int","str","list","tuple","dict"],∀n∈["bool","int","str","list","tuple","dict"],(if (Value.type k == Value.type n)=true then some true else if PySem.W.kitMeta n=true then (fastBuiltinMro k).map (·.contains (.type n)) else none)=some (k == n || (k == "bool"&&n == "int")):=by decide+kernel
 exact fun k hk n hn=>e k hk n hn
theorem acx {X:Cx}:CallR X (.builtin "isinstance") (fun xs H Q=>∃x n,xs=[x,.ty n]∧n∈["bool","int","str","list","tuple","dict"]∧Kn H x∧Q (.bl (isTy n H x)) H):=by
 intro pins s σ H xs us Q I r h
 obtain⟨x,n,rfl,hn,hk,q⟩:=h
 cases r with
 |cons r1 rr=>
  cases rr with
  |cons r2 rr=>
   cases rr
   cases r2
   refine ah0 I r1 (kd_ty hk) (aj4 X.K _ ?_ n hn) fun tk=>⟨.bl _,H,I.tok tk,rfl,q⟩
   rcases hk.cases with e|e|e|e|e|e|e<;>rw[e]<;>simp
end L2
namespace L2
open PySem PySem.Spec PyProof.Rows
theorem kn_int {H:Hp} {i:Int}:Kn H (.int i)↔True:=⟨fun _=>trivial,fun _=>(by decide:"int"≠"")⟩
theorem kn_bl {H:Hp} {i:Bool}:Kn H (.bl i)↔True:=⟨fun _=>trivial,fun _=>(by decide:"bool"≠"")⟩
theorem kn_lst {H:Hp} {a:Addr} {xs:List V} (h:H a=some (.lst xs)):Kn H (.ref a):=fun z=>by
 have z:kdO (H a)="":=z
 rw[h] at z;exact absurd z (show "list"≠"" by decide)
theorem kn_tup {H:Hp} {a:Addr} {xs:List V} (h:H a=some (.tup xs)):Kn H (.ref a):=fun z=>by
 have z:kdO (H a)="":=z
 rw[h] at z;exact absurd z (show "tuple"≠"" by decide)
theorem cxOf_K {CX:CXT} {P:Program} {w:World} {K:PySem.W.Frag} {mg:Str→Option Value} {base:Heap} {N:List Str} {qual:Str} {scope:Scope} {f:Addr} {cd:Value} {A:Around} {outer:List Env} {s:Shared} {H:Hp} {E:XK}:
 (cxOf CX P w K mg base N qual scope f cd A outer s H E).K=K:=rfl
noncomputable def whole:V→Bool
 |.int _=>true
 |_=>false
noncomputable def within (x:V) (l h:Int):Bool:=match x with
 |.int i=>decide (l≤i)&&decide (i≤h)
 |_=>false
end L2
namespace L2
open PySem PySem.Spec PyProof.Rows
inductive Hid (t u:TS):Type where
 |mk:Hid t u
noncomputable def tCut (t u:TS) (_:Hid t u):TS:=fun D σ H=>∃M:St→Hp→Prop,t {D with nx:=M} σ H∧∀σ' H',M σ' H'→u D σ' H'
theorem ac5 {X:Cx} {st:Stmt} {rest:List Stmt} {t u:TS} (h1:PS X st t) (h2:PSs X rest u):PSs X (st::rest) (tCut t u .mk):=by
 intro pins s σ H D I h
 obtain⟨M,h,hM⟩:=h
 refine wpAny_execs_cons (thn (h1 pins s σ H {D with nx:=M} I h) fun f s1 q=>?_)
 cases f with
 |next=>
  obtain⟨σ',H',I',q⟩:=q
  exact h2 pins s1 σ' H' D I' (hM σ' H' q)
 |ret v=>exact q
 |brk=>exact q
 |cont=>exact q
noncomputable def lstO:Option HO→Option (List V)
 |some (.lst xs)=>some xs
 |some (.frz _ (.lst xs))=>some xs
 |_=>none
noncomputable def tupO:Option HO→Option (List V)
 |some (.tup xs)=>some xs
 |some (.frz _ (.tup xs))=>some xs
 |_=>none
theorem aj5 {xs:List V}:lstO (some (.lst xs))=some xs:=rfl
theorem aj6 {xs:List V}:tupO (some (.tup xs))=some xs:=rfl
theorem alx {i j:Int}:scal (.int i) (.int j)=true:=rfl
theorem aly {i j:Bool}:scal (.bl i) (.bl j)=true:=rfl
theorem alz {i j:Str}:scal (.str i) (.str j)=true:=rfl
theorem na10:Int.natAbs 10=10:=rfl
theorem aai {H:Hp}:Same H H:=fun _ _ h=>h
theorem aaj {H H':Hp} {p:Addr} {o:HO} (s:Same H H') (h:H' p=none):Same H (upd H' p o):=fun b u e=>by
 have q:=s b u e
 rw[aaf (aay q h)]
 exact q
end L2
namespace L2
open PySem PySem.Spec PyProof.Rows
end L2
namespace L2
open PySem PySem.Spec PyProof.Rows
inductive HidF (g:TG) (tb:TS):Type where
 |mk:HidF g tb
noncomputable def Loop (g:TG) (tb:TS) (_:HidF g tb) (J:It):TS:=fun D σ H=>∃W:Nat→Nat→St→Hp→Prop,(∃m,W 0 m σ H)∧∀i m σ H,W i m σ H→
 (J.stop i H∧D.nx σ H)∨(J.go i H∧∃N:St→Hp→Prop,(∀σ' H',N σ' H'→∃m',m' < m∧W (i+1) m' σ' H')∧∀x H',J.yld i H x H'→g x σ H' fun σ2 H2=>tb {D with nx:=N,ct:=N,bk:=D.nx} σ2 H2)
noncomputable def tForE (wi:TI) (g:TG) (tb:TS) (h:HidF g tb):TS:=fun D σ H=>wi σ H fun J H1=>Loop g tb h J D σ H1
theorem abr {X:Cx} {tg iter:Expr} {body:List Stmt} {wi:TI} {g:TG} {tb:TS} {pos:Pos} (hp:PassesOwn (model X.prog X.w) X.A X.env X.xe) (hc:X.calm=true) (hi:PI X tg iter wi) (hg:PG X tg g) (hb:PSs X body tb)
 (hs:∀x,foldedSetIterable iter X.env x=pure x:=by intro _;rfl):PS X (.For tg iter body [] pos) (tForE wi g tb .mk):=ps_for hp hc hi hg hb hs
theorem acf {lo:Int} {n:Nat} {g:TG} {tb:TS} {h:HidF g tb} {D:Ends} {σ:St} {H:Hp} (Pv:Nat→St→Hp→Prop) (h0:Pv 0 σ H)
 (hs:∀i σ H,i < n→Pv i σ H→g (.int (lo+i)) σ H fun σ2 H2=>tb {D with nx:=Pv (i+1),ct:=Pv (i+1),bk:=D.nx} σ2 H2) (hd:∀σ H,Pv n σ H→D.nx σ H):Loop g tb h (Itr lo n) D σ H:=ahs Pv h0 hs hd
theorem acy {K:PySem.W.Frag} {a:Addr} {xs:List V} {g:TG} {tb:TS} {h:HidF g tb} {D:Ends} {σ:St} {H:Hp} (Pv:Nat→St→Hp→Prop) (h0:Pv 0 σ H) (hl:∀i σ H,i≤xs.length→Pv i σ H→SqL K H a xs)
 (hs:∀i x σ H,xs[i]?=some x→Pv i σ H→g x σ H fun σ2 H2=>tb {D with nx:=Pv (i+1),ct:=Pv (i+1),bk:=D.nx} σ2 H2) (hd:∀σ H,Pv xs.length σ H→D.nx σ H):Loop g tb h (Itl K a) D σ H:=aju Pv h0 hl hs hd
end L2
namespace L2
open PySem PySem.Spec PyProof.Rows
end L2
namespace L2
open PySem PySem.Spec PyProof.Rows
end L2
namespace L2
open PySem PySem.Spec PyProof.Rows
end L2
namespace L2
open PySem PySem.Spec PyProof.Rows
end L2
namespace L2
open PySem PySem.Spec PyProof.Rows
theorem aj7 {H:Hp} {a:Addr} {xs:List V} (h:H a=some (.tup xs)):isTy "tuple" H (.ref a)=true:=by
 unfold isTy
 rw[show kd H (.ref a)=kdO (H a) from rfl,h];rfl
theorem aj8 {H:Hp} {a:Addr} {xs:List V} (h:H a=some (.lst xs)):isTy "list" H (.ref a)=true:=by
 unfold isTy
 rw[show kd H (.ref a)=kdO (H a) from rfl,h];rfl
end L2
namespace L2
open PySem PySem.Spec PyProof.Rows
section
variable {X:Cx} {pins pins2:List (Addr×Obj)} {σ:St} {H:Hp} {s:Shared} {E':Value→Shared→Prop}
end
end L2
namespace PySem.W
open PySem PySem.Spec PySem.Calls PyProof.Rows
open Builtin Builtin.ObjectAttr Builtin.Getset_descriptor
noncomputable def ExcAt (e C:Addr) (h:Heap):Prop:=∃o,h.get? e=some o∧o.cls=.ref C
section
variable {K:Frag} {e C:Addr}
theorem ExcAt.ty {M:Model} {h:Heap} (p:ExcAt e C h):Looks M h (typeOf (.ref e)) (.ref C):=by
 obtain⟨o,h1,h2⟩:=p
 exact h2 ▸ (Looks.ld h1).andThen .now
variable {prog:Program} {w:World} {A:Around} {E:Value→Shared→Prop} {s:Shared}
end
end PySem.W
namespace L2
open PySem PySem.Spec PyProof.Rows
noncomputable def clsV:V→Value
 |.ref a=>.ref a
 |.ty n=>.type n
 |_=>.none
theorem aj9 {a:Addr}:clsV (.ref a)=.ref a:=rfl
theorem al0 {n:String}:clsV (.ty n)=.type n:=rfl
end L2
namespace L2
open PySem PySem.Spec PyProof.Rows
inductive Dv where
 |leaf (v:V)
 |seq (t:Bool) (ds:List Dv)
mutual
noncomputable def Sees (K:PySem.W.Frag) (H:Hp):Dv→V→Prop
 |.leaf v,x=>x=v∧flatV v=true
 |.seq t ds,x=>∃a xs,x=.ref a∧(if t=true then SqT K H a xs else SqL K H a xs)∧SeesL K H ds xs
noncomputable def SeesL (K:PySem.W.Frag) (H:Hp):List Dv→List V→Prop
 |[],xs=>xs=[]
 |d::ds,xs=>∃x r,xs=x::r∧Sees K H d x∧SeesL K H ds r
end
mutual
noncomputable def alike:Dv→Dv→Bool
 |.leaf _,.leaf _=>true
 |.seq t ds,.seq u es=>t == u&&alikeL ds es
 |_,_=>false
noncomputable def alikeL:List Dv→List Dv→Bool
 |d::ds,e::es=>alike d e&&alikeL ds es
 |_,_=>true
end
mutual
noncomputable def eqDv:Dv→Dv→Bool
 |.leaf v,.leaf w=>eqV v w
 |.seq _ ds,.seq _ es=>eqDvL ds es
 |_,_=>false
noncomputable def eqDvL:List Dv→List Dv→Bool
 |[],[]=>true
 |d::ds,e::es=>eqDv d e&&eqDvL ds es
 |_,_=>false
end
mutual
noncomputable def deep:Dv→Nat
 |.leaf _=>0
 |.seq _ ds=>deepL ds+1
noncomputable def deepL:List Dv→Nat
 |[]=>0
 |d::ds=>max (deep d) (deepL ds)
end
theorem SeesL.length {K:PySem.W.Frag} {H:Hp}:∀{ds:List Dv} {xs:List V},SeesL K H ds xs→ds.length=xs.length
 |[],xs,h=>by unfold SeesL at h;subst h;rfl
 |d::ds,xs,h=>by
  unfold SeesL at h
  obtain⟨x,r,rfl,_,h⟩:=h
  simp[h.length]
theorem ad3 (n:Nat) (f:Nat→Bool):(List.range (n+1)).all f=(f 0&&(List.range n).all fun j=>f (j+1)):=by
 rw[List.range_succ_eq_map,List.all_cons,List.all_map];rfl
theorem aej:∀(ds es:List Dv),eqDvL ds es=(decide (ds.length=es.length)&&(List.range (min ds.length es.length)).all fun j=>eqDv (ds.getD j (.leaf .non)) (es.getD j (.leaf .non)))
 |[],[]=>by simp[eqDvL]
 |[],e::es=>by simp[eqDvL]
 |d::ds,[]=>by simp[eqDvL]
 |d::ds,e::es=>by
  have ih:=aej ds es
  rw[eqDvL,ih]
  have hm:min (d::ds).length (e::es).length=min ds.length es.length+1:=by simp[Nat.succ_min_succ]
  rw[hm,ad3]
  simp only[List.length_cons,Nat.add_right_cancel_iff,List.getD_cons_zero,List.getD_cons_succ]
  cases eqDv d e<;>cases decide (ds.length=es.length)<;>simp
theorem agd {v:V} (h:flatV v=true):eqV v v=true:=by
 cases v<;>first|rfl|(simp[eqV];done)|exact absurd h (by simp[flatV])
mutual
theorem afb {X:Cx} {pins:List (Addr×Obj)} {σ:St} {H:Hp} {s:Shared} (I:Inv X pins σ H s):∀(d e:Dv) (x:V),alike d e=true→Sees X.K H d x→Sees X.K H e x→eqDv d e=true
 |.leaf a,.leaf b,x,_,hx,hy=>by
  unfold Sees at hx hy
  obtain⟨rfl,fx⟩:=hx
  obtain⟨rfl,fy⟩:=hy
  rw[eqDv]
  exact agd fx
 |.leaf a,.seq t es,_,h,_,_=>by simp[alike] at h
 |.seq t ds,.leaf b,_,h,_,_=>by simp[alike] at h
 |.seq t ds,.seq t' es,x,h,hx,hy=>by
  rw[alike,Bool.and_eq_true] at h
  have ht:=beq_iff_eq.mp h.1
  subst ht
  unfold Sees at hx hy
  obtain⟨a,xs,rfl,hsx,hL⟩:=hx
  obtain⟨b,ys,e,hsy,hM⟩:=hy
  cases e
  rw[eqDv]
  have exy:xs=ys:=by
   cases t with
   |true=>exact I.tuple_inj (by simpa using hsx) (by simpa using hsy)
   |false=>exact I.list_inj (by simpa using hsx) (by simpa using hsy)
  subst exy
  exact ad9 I ds es xs h.2 hL hM
theorem ad9 {X:Cx} {pins:List (Addr×Obj)} {σ:St} {H:Hp} {s:Shared} (I:Inv X pins σ H s):∀(ds es:List Dv) (xs:List V),alikeL ds es=true→SeesL X.K H ds xs→SeesL X.K H es xs→eqDvL ds es=true
 |[],[],_,_,_,_=>by rw[eqDvL]
 |[],e::es,xs,_,hx,hy=>by
  unfold SeesL at hx hy
  obtain⟨x,r,e1,_⟩:=hy
  rw[hx] at e1;cases e1
 |d::ds,[],xs,_,hx,hy=>by
  unfold SeesL at hx hy
  obtain⟨x,r,e1,_⟩:=hx
  rw[hy] at e1;cases e1
 |d::ds,e::es,xs,h,hx,hy=>by
  rw[alikeL,Bool.and_eq_true] at h
  unfold SeesL at hx hy
  obtain⟨x,r,rfl,hx,hxr⟩:=hx
  obtain⟨y,r',e1,hy,hyr⟩:=hy
  cases e1
  rw[eqDvL,afb I d e x h.1 hx hy,ad9 I ds es r h.2 hxr hyr]
  rfl
end
theorem aie {X:Cx} {pins:List (Addr×Obj)} {σ:St} {H:Hp} {s:Shared} (I:Inv X pins σ H s) {A:Around} {t:Bool} {ds es:List Dv} {a b:Addr} {xs ys:List V} (hu:A.units < cLine)
  (hsx:if t=true then SqT X.K H a xs else SqL X.K H a xs) (hsy:if t=true then SqT X.K H b ys else SqL X.K H b ys) (l1:ds.length=xs.length) (l2:es.length=ys.length)
  (ih:∀(j:Nat) (u v:Value) (us vs:List Value),Vals xs us→Vals ys vs→us[j]?=some u→vs[j]?=some v→SeqAt.EqAt A.in1 s u v (eqDv (ds.getD j (.leaf .non)) (es.getD j (.leaf .non)))):
  SeqAt.RcAt A s (.ref a) (.ref b) (eqDvL ds es):=by
 rw[aej]
 cases t with
 |false=>
  obtain⟨its,rv,pl,_⟩:=I.list (show SqL X.K H a xs by simpa using hsx)
  obtain⟨its2,rv2,pl2,_⟩:=I.list (show SqL X.K H b ys by simpa using hsy)
  have n1:=rv.length
  have n2:=rv2.length
  by_cases hl:ds.length=es.length
  ·have q:=SeqAt.RcAt.lists (e:=fun j=>eqDv (ds.getD j (.leaf .non)) (es.getD j (.leaf .non))) pl.isList pl2.isList (by simp;omega) (by omega:A.units < cLine) (fun j h1 h2=>by
    have h1:j < its.length:=by simpa using h1
    have h2:j < its2.length:=by simpa using h2
    have e:=ih j (its[j]) (its2[j]) its its2 rv rv2 (by simp[h1]) (by simp[h2])
    simpa using e)
   rw[decide_eq_true hl,Bool.true_and]
   have em:min ds.length es.length=its.toArray.size:=by simp;omega
   rw[em]
   exact q
  ·have q:=SeqAt.RcAt.lists_lengths (A:=A) pl.isList pl2.isList (by simp;omega) (by omega:A.units < cLine)
   rw[decide_eq_false hl,Bool.false_and]
   exact q
 |true=>
  obtain⟨its,rv,pl,_⟩:=I.tuple (show SqT X.K H a xs by simpa using hsx)
  obtain⟨its2,rv2,pl2,_⟩:=I.tuple (show SqT X.K H b ys by simpa using hsy)
  have n1:=rv.length
  have n2:=rv2.length
  have q:=SeqAt.RcAt.tuples (e:=fun j=>eqDv (ds.getD j (.leaf .non)) (es.getD j (.leaf .non))) (show s.heap.IsTuple a its.toArray from pl) (show s.heap.IsTuple b its2.toArray from pl2) (by omega:A.units < cLine) (fun j h1 h2=>by
    have h1:j < its.length:=by simpa using h1
    have h2:j < its2.length:=by simpa using h2
    have e:=ih j (its[j]) (its2[j]) its its2 rv rv2 (by simp[h1]) (by simp[h2])
    simpa using e)
  have em:min its.toArray.size its2.toArray.size=min ds.length es.length:=by simp;omega
  have eb:(its.toArray.size == its2.toArray.size)=decide (ds.length=es.length):=by
   rw[Bool.eq_iff_iff];simp;omega
  rw[em,eb,Bool.and_comm] at q
  exact q
mutual
theorem aif {X:Cx} {pins:List (Addr×Obj)} {σ:St} {H:Hp} {s:Shared} (I:Inv X pins σ H s):∀(d e:Dv) (A:Around) (x y:V) (u v:Value),A.units+deep d < cLine→alike d e=true→Sees X.K H d x→Sees X.K H e y→RelV x u→RelV y v→SeqAt.EqAt A s u v (eqDv d e)
 |.leaf a,.leaf b,A,x,y,u,v,_,_,hx,hy,rx,ry=>by
  unfold Sees at hx hy
  obtain⟨rfl,fx⟩:=hx
  obtain⟨rfl,fy⟩:=hy
  rw[eqDv]
  exact akz rx ry fx fy
 |.leaf a,.seq t es,A,x,y,u,v,_,h,_,_,_,_=>by simp[alike] at h
 |.seq t ds,.leaf b,A,x,y,u,v,_,h,_,_,_,_=>by simp[alike] at h
 |.seq t ds,.seq t' es,A,x,y,u,v,hu,h,hx,hy,rx,ry=>by
  have h0:=h
  rw[alike,Bool.and_eq_true] at h
  have ht:=beq_iff_eq.mp h.1
  subst ht
  have hx0:=hx
  have hy0:=hy
  unfold Sees at hx hy
  obtain⟨a,xs,rfl,hsx,hL⟩:=hx
  obtain⟨b,ys,rfl,hsy,hM⟩:=hy
  cases rx
  cases ry
  by_cases hab:a=b
  ·subst hab
   rw[afb I _ _ _ h0 hx0 hy0]
   exact SeqAt.EqAt.same _
  ·rw[deep] at hu
   have hu1:A.in1.units+deepL ds < cLine:=by show A.units+1+deepL ds < cLine;omega
   have ih:=acg I ds es A.in1 xs ys hu1 h.2 hL hM
   rw[eqDv]
   exact SeqAt.EqAt.of_refs hab (aie I (by omega) hsx hsy hL.length hM.length ih)
theorem acg {X:Cx} {pins:List (Addr×Obj)} {σ:St} {H:Hp} {s:Shared} (I:Inv X pins σ H s):∀(ds es:List Dv) (A:Around) (xs ys:List V),A.units+deepL ds < cLine→alikeL ds es=true→SeesL X.K H ds xs→SeesL X.K H es ys→
  ∀(j:Nat) (u v:Value) (us vs:List Value),Vals xs us→Vals ys vs→us[j]?=some u→vs[j]?=some v→SeqAt.EqAt A s u v (eqDv (ds.getD j (.leaf .non)) (es.getD j (.leaf .non)))
 |[],es,A,xs,ys,_,_,hx,hy,j,u,v,us,vs,rx,ry,e1,e2=>by
  unfold SeesL at hx
  subst hx
  cases rx
  simp at e1
 |d::ds,[],A,xs,ys,_,_,hx,hy,j,u,v,us,vs,rx,ry,e1,e2=>by
  unfold SeesL at hy
  subst hy
  cases ry
  simp at e2
 |d::ds,e::es,A,xs,ys,hu,h,hx,hy,j,u,v,us,vs,rx,ry,e1,e2=>by
  rw[alikeL,Bool.and_eq_true] at h
  rw[deepL] at hu
  unfold SeesL at hx hy
  obtain⟨x,r,rfl,hx,hxr⟩:=hx
  obtain⟨y,r',rfl,hy,hyr⟩:=hy
  cases rx with
  |cons p1 p2=>
   cases ry with
   |cons q1 q2=>
    cases j with
    |zero=>
     simp at e1 e2
     subst e1 e2
     exact aif I d e A x y _ _ (by omega) h.1 hx hy p1 q1
    |succ k=>
     have z:=acg I ds es A r r' (by omega) h.2 hxr hyr k u v _ _ p2 q2 (by simpa using e1) (by simpa using e2)
     simpa using z
end
theorem hu6 {A:Around} {k:Nat} (hr:Room k A):A.units+4+2 < cLine:=by have:=hr.units;omega
noncomputable def rEqD (K:PySem.W.Frag) (n:Nat):R2:=fun x y H Q=>∃t ds es,Sees K H (.seq t ds) x∧Sees K H (.seq t es) y∧alikeL ds es=true∧deepL ds≤n∧Q (.bl (eqDvL ds es)) H
noncomputable def rNeD (K:PySem.W.Frag) (n:Nat):R2:=fun x y H Q=>∃t ds es,Sees K H (.seq t ds) x∧Sees K H (.seq t es) y∧alikeL ds es=true∧deepL ds≤n∧Q (.bl (!eqDvL ds es)) H
theorem rc_of {X:Cx} {pins:List (Addr×Obj)} {σ:St} {H:Hp} {s:Shared} (I:Inv X pins σ H s) {A:Around} {n:Nat} (hu:A.units+n+2 < cLine) {t:Bool} {ds es:List Dv} {x y:V} {u v:Value} (hx:Sees X.K H (.seq t ds) x) (hy:Sees X.K H (.seq t es) y) (ha:alikeL ds es=true) (hd:deepL ds≤n)
  (rx:RelV x u) (ry:RelV y v):SeqAt.RcAt A s u v (eqDvL ds es):=by
 unfold Sees at hx hy
 obtain⟨a,xs,rfl,hsx,hL⟩:=hx
 obtain⟨b,ys,rfl,hsy,hM⟩:=hy
 cases rx
 cases ry
 exact aie I (by omega) hsx hsy hL.length hM.length (acg I ds es A.in1 xs ys (by show A.units+1+deepL ds < cLine;omega) ha hL hM)
theorem aea {X:Cx} {n:Nat} (hu:X.A.units+n+2 < cLine):OpR X (compareOp .Eq) (rEqD X.K n):=by
 intro pins s σ H x y v u Q I rx ry h
 obtain⟨t,ds,es,hx,hy,ha,hd,q⟩:=h
 exact rc_of I hu hx hy ha hd rx ry X.prog X.w X.xe _ ⟨.bl _,H,I,rfl,q⟩
theorem aig {X:Cx} {pins:List (Addr×Obj)} {σ:St} {H:Hp} {s:Shared} (I:Inv X pins σ H s) {A:Around} {t:Bool} {ds es:List Dv} {a b:Addr} {xs ys:List V} (hu:A.units < cLine)
  (hsx:if t=true then SqT X.K H a xs else SqL X.K H a xs) (hsy:if t=true then SqT X.K H b ys else SqL X.K H b ys) (l1:ds.length=xs.length) (l2:es.length=ys.length)
  (ih:∀(j:Nat) (u v:Value) (us vs:List Value),Vals xs us→Vals ys vs→us[j]?=some u→vs[j]?=some v→SeqAt.EqAt A.in1 s u v (eqDv (ds.getD j (.leaf .non)) (es.getD j (.leaf .non)))):
  SeqAt.RcNeAt A s (.ref a) (.ref b) (!eqDvL ds es):=by
 rw[aej]
 cases t with
 |false=>
  obtain⟨its,rv,pl,_⟩:=I.list (show SqL X.K H a xs by simpa using hsx)
  obtain⟨its2,rv2,pl2,_⟩:=I.list (show SqL X.K H b ys by simpa using hsy)
  have n1:=rv.length
  have n2:=rv2.length
  by_cases hl:ds.length=es.length
  ·have q:=SeqAt.RcNeAt.lists (e:=fun j=>eqDv (ds.getD j (.leaf .non)) (es.getD j (.leaf .non))) pl.isList pl2.isList (by simp;omega) (by omega:A.units < cLine) (fun j h1 h2=>by
    have h1:j < its.length:=by simpa using h1
    have h2:j < its2.length:=by simpa using h2
    have e:=ih j (its[j]) (its2[j]) its its2 rv rv2 (by simp[h1]) (by simp[h2])
    simpa using e)
   rw[decide_eq_true hl,Bool.true_and]
   have em:min ds.length es.length=its.toArray.size:=by simp;omega
   rw[em]
   exact q
  ·have q:=SeqAt.RcNeAt.lists_lengths (A:=A) pl.isList pl2.isList (by simp;omega) (by omega:A.units < cLine)
   rw[decide_eq_false hl,Bool.false_and]
   exact q
 |true=>
  obtain⟨its,rv,pl,_⟩:=I.tuple (show SqT X.K H a xs by simpa using hsx)
  obtain⟨its2,rv2,pl2,_⟩:=I.tuple (show SqT X.K H b ys by simpa using hsy)
  have n1:=rv.length
  have n2:=rv2.length
  have q:=SeqAt.RcNeAt.tuples (e:=fun j=>eqDv (ds.getD j (.leaf .non)) (es.getD j (.leaf .non))) (show s.heap.IsTuple a its.toArray from pl) (show s.heap.IsTuple b its2.toArray from pl2) (by omega:A.units < cLine) (fun j h1 h2=>by
    have h1:j < its.length:=by simpa using h1
    have h2:j < its2.length:=by simpa using h2
    have e:=ih j (its[j]) (its2[j]) its its2 rv rv2 (by simp[h1]) (by simp[h2])
    simpa using e)
  have em:min its.toArray.size its2.toArray.size=min ds.length es.length:=by simp;omega
  have eb:(its.toArray.size == its2.toArray.size)=decide (ds.length=es.length):=by
   rw[Bool.eq_iff_iff];simp;omega
  rw[em,eb,Bool.and_comm] at q
  exact q
theorem aih {X:Cx} {n:Nat} (hu:X.A.units+n+2 < cLine):OpR X (compareOp .NotEq) (rNeD X.K n):=by
 intro pins s σ H x y v u Q I rx ry h
 obtain⟨t,ds,es,hx,hy,ha,hd,q⟩:=h
 unfold Sees at hx hy
 obtain⟨a,xs,rfl,hsx,hL⟩:=hx
 obtain⟨b,ys,rfl,hsy,hM⟩:=hy
 cases rx
 cases ry
 exact aig I (by omega) hsx hsy hL.length hM.length (acg I ds es X.A.in1 xs ys (by show X.A.units+1+deepL ds < cLine;omega) ha hL hM) X.prog X.w X.xe _ ⟨.bl _,H,I,rfl,q⟩
noncomputable def dInts (ns:List Int):List Dv:=ns.map fun i=>.leaf (.int i)
theorem aeb {K:PySem.W.Frag} {H:Hp}:∀(ns:List Int),SeesL K H (dInts ns) (ns.map V.int)
 |[]=>by unfold dInts SeesL;rfl
 |n::ns=>by
  show SeesL K H (.leaf (.int n)::dInts ns) (.int n::ns.map V.int)
  unfold SeesL
  exact⟨_,_,rfl,by unfold Sees;exact⟨rfl,rfl⟩,aeb ns⟩
theorem age {K:PySem.W.Frag} {H:Hp} {a:Addr} {ns:List Int} (h:SqT K H a (ns.map V.int)):Sees K H (.seq true (dInts ns)) (.ref a):=by
 unfold Sees
 exact⟨a,_,rfl,by simpa using h,aeb ns⟩
theorem aec:∀(ns ms:List Int),alikeL (dInts ns) (dInts ms)=true
 |[],_=>by unfold dInts;simp[alikeL]
 |_::_,[]=>by unfold dInts;simp[alikeL]
 |n::ns,m::ms=>by
  show alikeL (.leaf (.int n)::dInts ns) (.leaf (.int m)::dInts ms)=true
  rw[alikeL,alike,aec ns ms];rfl
theorem afc:∀(ns:List Int),deepL (dInts ns)=0
 |[]=>by unfold dInts;simp[deepL]
 |n::ns=>by
  show deepL (.leaf (.int n)::dInts ns)=0
  rw[deepL,deep,afc ns];rfl
theorem aii:∀(ns ms:List Int),eqDvL (dInts ns) (dInts ms)=decide (ns=ms)
 |[],[]=>by unfold dInts;simp[eqDvL]
 |[],_::_=>by unfold dInts;simp[eqDvL]
 |_::_,[]=>by unfold dInts;simp[eqDvL]
 |n::ns,m::ms=>by
  show eqDvL (.leaf (.int n)::dInts ns) (.leaf (.int m)::dInts ms)=_
  rw[eqDvL,eqDv,aii ns ms]
  show ((n == m)&&decide (ns=ms))=_
  rw[Bool.eq_iff_iff];simp
end L2
namespace L2
open PySem PySem.Spec PyProof.Rows
noncomputable def compChk (sc:Scope) (env:Env) (x:Str) (fs:List Str):Bool:=
 sc.kind == .function&&sc.names.all (fun y=>y.2 != .cell&&(y.2 != .local || sc.names.lookup y.1 == some .local)&&(y.2 != .free || env.kindOf y.1 == some .cell || env.kindOf y.1 == some .free))&&
  sc.names.lookup x == some .local&&fs.all (fun f=>sc.names.lookup f == some .free)
structure CompSc (sc:Scope) (env:Env) (x:Str) (fs:List Str):Prop where
 kind:sc.kind=.function
 nocell:∀y∈sc.names,y.2≠.cell
 own:∀y∈sc.names,y.2=.local→sc.names.lookup y.1=some .local
 fr:∀y∈sc.names,y.2=.free→env.kindOf y.1=some .cell∨env.kindOf y.1=some .free
 x:sc.names.lookup x=some .local
 fs:∀f∈fs,sc.names.lookup f=some .free
theorem CompSc.of {sc:Scope} {env:Env} {x:Str} {fs:List Str} (h:compChk sc env x fs=true):CompSc sc env x fs:=by
 unfold compChk at h
 simp only[Bool.and_eq_true,beq_iff_eq,List.all_eq_true,Bool.or_eq_true,bne_iff_ne,ne_eq] at h
 obtain⟨⟨⟨h1,h2⟩,h3⟩,h4⟩:=h
 refine⟨h1,fun y hy=>(h2 y hy).1.1,fun y hy e=>?_,fun y hy e=>?_,h3,h4⟩
 ·rcases (h2 y hy).1.2 with z|z
  ·exact absurd e z
  ·exact z
 ·rcases (h2 y hy).2 with (z|z)|z
  ·exact absurd e z
  ·exact .inl z
  ·exact .inr z
theorem ac6 {env:Env}:∀(names:List (Str×NameKind)) (acc:List (Str×Addr)),(∀n,(n,NameKind.free)∈names→∃c,env.cells.lookup n=some c)→
  ∃cl,(forIn names acc fun y r=>(do if (y.2 == NameKind.free)=true then do let c←cellOf env y.1;pure (ForInStep.yield ((y.1,c)::r)) else pure (ForInStep.yield r):Sem (ForInStep (List (Str×Addr)))))=pure cl∧
   (∀n c,cl.lookup n=some c→acc.lookup n=some c∨env.cells.lookup n=some c)∧∀n,(∃c,acc.lookup n=some c)∨(n,NameKind.free)∈names→∃c,cl.lookup n=some c
 |[],acc,_=>⟨acc,rfl,fun _ _ e=>.inl e,fun n h=>h.elim id fun z=>nomatch z⟩
 |(n,k)::r,acc,h=>by
  have hr:∀m,(m,NameKind.free)∈r→∃c,env.cells.lookup m=some c:=fun m hm=>h m (List.mem_cons_of_mem _ hm)
  by_cases hk:k=.free
  ·subst hk
   obtain⟨c,hc⟩:=h n List.mem_cons_self
   obtain⟨cl,e,h1,h2⟩:=ac6 r ((n,c)::acc) hr
   refine⟨cl,?_,fun m c' hm=>?_,fun m hm=>h2 m ?_⟩
   ·rw[List.forIn_cons]
    simp only[beq_self_eq_true,if_true,cellOf,hc,pure_bind]
    exact e
   ·rcases h1 m c' hm with z|z
    ·rw[List.lookup_cons] at z
     cases q:m == n with
     |true=>
      rw[q] at z
      cases z
      rw[beq_iff_eq.mp q]
      exact .inr hc
     |false=>rw[q] at z;exact .inl z
    ·exact .inr z
   ·rw[List.lookup_cons]
    rcases hm with ⟨c',z⟩|hm
    ·cases q:m == n with
     |true=>exact .inl ⟨c,rfl⟩
     |false=>exact .inl ⟨c',z⟩
    ·rcases List.mem_cons.mp hm with z|z
     ·cases z
      rw[beq_self_eq_true]
      exact .inl ⟨c,rfl⟩
     ·exact .inr z
  ·obtain⟨cl,e,h1,h2⟩:=ac6 r acc hr
   refine⟨cl,?_,h1,fun m hm=>h2 m ?_⟩
   ·rw[List.forIn_cons]
    have hb:(k == NameKind.free)=false:=by simpa using hk
    simp only[hb,Bool.false_eq_true,if_false,pure_bind]
    exact e
   ·rcases hm with z|hm
    ·exact .inl z
    ·rcases List.mem_cons.mp hm with z|z
     ·cases z;exact absurd rfl hk
     ·exact .inr z
theorem ag9 {env:Env} {sc:Scope} (h:∀n,(n,NameKind.free)∈sc.names→∃c,env.cells.lookup n=some c):
  ∃cl,closureFor sc env=pure cl∧(∀n c,cl.lookup n=some c→env.cells.lookup n=some c)∧∀n,(n,NameKind.free)∈sc.names→∃c,cl.lookup n=some c:=by
 obtain⟨cl,e,h1,h2⟩:=ac6 sc.names [] h
 refine⟨cl,?_,fun n c z=>(h1 n c z).elim (fun q=>nomatch q) id,fun n hn=>h2 n (.inr hn)⟩
 unfold closureFor
 simp only[bind_pure]
 exact e
theorem aca {env:Env}:∀{names:List (Str×NameKind)} {x:Str} {k:NameKind},(names.map fun (n,k)=>if (k == NameKind.free&&env.scope.kind == .function&&env.kindOf n == some .cell) then (n,NameKind.cell) else (n,k)).lookup x=some k→
  k=.cell∨k=.free→names.lookup x=some .free∨names.lookup x=some .cell
 |[],_,_,h,_=>by simp at h
 |(n,k0)::r,x,k,h,hk=>by
  have ih:=@aca env r x k
  have h:List.lookup x ((if (k0 == NameKind.free&&env.scope.kind == .function&&env.kindOf n == some .cell)=true then (n,NameKind.cell) else (n,k0))::(r.map fun (n,k)=>if (k == NameKind.free&&env.scope.kind == .function&&env.kindOf n == some .cell) then (n,NameKind.cell) else (n,k)))=some k:=h
  by_cases hc:(k0 == NameKind.free&&env.scope.kind == .function&&env.kindOf n == some .cell)=true
  ·rw[if_pos hc] at h
   simp only[List.lookup_cons] at h ⊢
   cases hx:x == n with
   |true=>
    simp only[Bool.and_eq_true,beq_iff_eq] at hc
    rw[hc.1.1]
    exact .inl rfl
   |false=>rw[hx] at h;exact ih h hk
  ·rw[if_neg hc] at h
   simp only[List.lookup_cons] at h ⊢
   cases hx:x == n with
   |true=>
    rw[hx] at h
    cases h
    rcases hk with rfl|rfl
    ·exact .inr rfl
    ·exact .inl rfl
   |false=>rw[hx] at h;exact ih h hk
theorem ade {env:Env}:∀{names:List (Str×NameKind)} {x:Str},names.lookup x=some .free→
  (names.map fun (n,k)=>if (k == NameKind.free&&env.scope.kind == .function&&env.kindOf n == some .cell) then (n,NameKind.cell) else (n,k)).lookup x=some .cell∨(names.map fun (n,k)=>if (k == NameKind.free&&env.scope.kind == .function&&env.kindOf n == some .cell) then (n,NameKind.cell) else (n,k)).lookup x=some .free
 |[],_,h=>by simp at h
 |(n,k0)::r,x,h=>by
  have ih:=@ade env r x
  show List.lookup x ((if (k0 == NameKind.free&&env.scope.kind == .function&&env.kindOf n == some .cell)=true then (n,NameKind.cell) else (n,k0))::_)=_∨List.lookup x ((if (k0 == NameKind.free&&env.scope.kind == .function&&env.kindOf n == some .cell)=true then (n,NameKind.cell) else (n,k0))::_)=_
  simp only[List.lookup_cons] at h
  by_cases hc:(k0 == NameKind.free&&env.scope.kind == .function&&env.kindOf n == some .cell)=true
  ·rw[if_pos hc]
   simp only[List.lookup_cons]
   cases hx:x == n with
   |true=>exact .inl rfl
   |false=>rw[hx] at h;exact ih h
  ·rw[if_neg hc]
   simp only[List.lookup_cons]
   cases hx:x == n with
   |true=>rw[hx] at h;exact .inr h
   |false=>rw[hx] at h;exact ih h
noncomputable def cxComp (X:Cx) (scope:Scope) (cl:List (Str×Addr)) (C:Addr) (N:List Str) (s₀:Shared) (H₀:Hp) (fp:List Addr) (xe:Value→Shared→Prop):Cx:=
 {X with N:=N,s₀:=s₀,H₀:=H₀,env:=compEnvC scope cl C X.env,outer:=X.stack,stack:=X.stack,ex:=fp,fn:=fun _=>false,pn:=[],xe:=xe}
inductive HidC (g:TG) (tt:TT) (te:TE):Type where
 |mk:HidC g tt te
noncomputable def PF (X:Cx) (ifs:List Expr) (tt:TT):Prop:=
 ∀(pins:List (Addr×Obj)) (s:Shared) (σ:St) (H:Hp) (Q:Bool→Hp→Prop),Inv X pins σ H s→tt σ H Q→
  wpAny (model X.prog X.w) X.A (forIn ifs true fun c r=>if r=true then do let ok←isTrue c X.env (eval c X.env);pure (ForInStep.yield ok) else pure (ForInStep.yield r)) (TP X pins σ Q) X.xe s
noncomputable def tYes:TT:=fun _ H Q=>Q true H
theorem aij {X:Cx}:PF X [] tYes:=fun _ _ _ H _ I h=>by
 simp only[List.forIn_nil]
 exact wpAny_pure ⟨H,I,h⟩
noncomputable def Comp (g:TG) (tt:TT) (te:TE) (_:HidC g tt te) (J:It) (σ0:St) (D:Addr) (Q:Hp→Prop) (H:Hp):Prop:=
 ∃W:Nat→Nat→List V→St→Hp→Prop,(∃m,W 0 m [] σ0 (upd H D (.lst [])))∧∀i m ys σ H,W i m ys σ H→
  (J.stop i H∧Q H)∨(J.go i H∧∃N:List V→St→Hp→Prop,(∀ys σ H,N ys σ H→∃m',m' < m∧W (i+1) m' ys σ H)∧
   ∀y H',J.yld i H y H'→g y σ H' fun σ2 H2=>tt σ2 H2 fun b H2'=>if b=true then te σ2 H2' fun v H3=>H3 D=some (.lst ys)∧ys.length < sizeLine∧N (ys++[v]) σ2 (upd H3 D (.lst (ys++[v]))) else N ys σ2 H2')
noncomputable def tComp (wi:TI) (ix:List Nat) (g:TG) (tt:TT) (te:TE) (h:HidC g tt te):TE:=fun σ H Q=>wi σ H fun J H1=>∀D,H1 D=none→Comp g tt te h J (none::ix.map fun i=>(σ[i]?).join) D (fun H'=>Q (.ref D) H') H1
theorem aha {lo:Int} {n:Nat} {g:TG} {tt:TT} {te:TE} {h:HidC g tt te} {σ0:St} {D:Addr} {Q:Hp→Prop} {H:Hp} (Pv:Nat→List V→St→Hp→Prop) (h0:Pv 0 [] σ0 (upd H D (.lst [])))
  (hs:∀i ys σ H,i < n→Pv i ys σ H→g (.int (lo+i)) σ H fun σ2 H2=>tt σ2 H2 fun b H2'=>if b=true then te σ2 H2' fun v H3=>H3 D=some (.lst ys)∧ys.length < sizeLine∧Pv (i+1) (ys++[v]) σ2 (upd H3 D (.lst (ys++[v]))) else Pv (i+1) ys σ2 H2') (hd:∀ys σ H,Pv n ys σ H→Q H):
  Comp g tt te h (Itr lo n) σ0 D Q H:=by
 refine⟨fun i m ys σ H=>i+m=n∧Pv i ys σ H,⟨n,Nat.zero_add n,h0⟩,fun i m ys σ H ⟨e,p⟩=>?_⟩
 by_cases hi:i < n
 ·refine .inr ⟨hi,Pv (i+1),fun ys σ H q=>⟨m - 1,by omega,by omega,q⟩,?_⟩
  rintro y H' ⟨rfl,rfl⟩
  exact hs i ys σ H' hi p
 ·have e':i=n:=by omega
  subst e'
  exact .inl ⟨Nat.le_refl _,hd ys σ H p⟩
theorem aik {K:PySem.W.Frag} {a:Addr} {xs:List V} {g:TG} {tt:TT} {te:TE} {h:HidC g tt te} {σ0:St} {D:Addr} {Q:Hp→Prop} {H:Hp} (Pv:Nat→List V→St→Hp→Prop) (h0:Pv 0 [] σ0 (upd H D (.lst []))) (hl:∀i ys σ H,i≤xs.length→Pv i ys σ H→SqL K H a xs)
  (hs:∀i x ys σ H,xs[i]?=some x→Pv i ys σ H→g x σ H fun σ2 H2=>tt σ2 H2 fun b H2'=>if b=true then te σ2 H2' fun v H3=>H3 D=some (.lst ys)∧ys.length < sizeLine∧Pv (i+1) (ys++[v]) σ2 (upd H3 D (.lst (ys++[v]))) else Pv (i+1) ys σ2 H2') (hd:∀ys σ H,Pv xs.length ys σ H→Q H):
  Comp g tt te h (Itl K a) σ0 D Q H:=by
 refine⟨fun i m ys σ H=>i+m=xs.length∧Pv i ys σ H,⟨xs.length,Nat.zero_add _,h0⟩,fun i m ys σ H ⟨e,p⟩=>?_⟩
 have hq:=hl i ys σ H (by omega) p
 by_cases hi:i < xs.length
 ·have ex:xs[i]?=some xs[i]:=List.getElem?_eq_getElem hi
  refine .inr ⟨⟨xs,_,hq,ex⟩,Pv (i+1),fun ys σ H q=>⟨m - 1,by omega,by omega,q⟩,?_⟩
  rintro y H' ⟨rfl,hy⟩
  exact hs i y ys σ H' (hy xs hq) p
 ·have e':i=xs.length:=by omega
  subst e'
  exact .inl ⟨⟨xs,hq,Nat.le_refl _⟩,hd ys σ H p⟩
theorem aek {prog:Program} {w:World} {A:Around} {R:Result→Shared→Prop} {s:Shared} {elt target iter:Expr} {ifs:List Expr} {scope:Scope} {pos:Pos} {it acc:Value} {env:Env} (I:Nat→Shared→Prop)
  (turn:∀n s,I n s→wpAny (model prog w) A (pyNext it) (fun r s₁=>match r with
   |none=>R (.ok .next) s₁
   |some v=>wpAny (model prog w) A (letOwnedTupleGo target it v) (fun _ s₁'=>wpAny (model prog w) A (assign target env v) (fun _ s₂=>
    wpAny (model prog w) A (forIn ifs true fun c r=>if r=true then do let ok←isTrue c env (eval c env);pure (ForInStep.yield ok) else pure (ForInStep.yield r)) (fun ok s₃=>
     if ok=true then wpAny (model prog w) A (eval elt env) (fun x s₄=>
      wpAny (model prog w) A (call (.builtin "list.append") [acc,x]) (fun _ s₅=>∃m,m < n∧I m s₅) (notedBy (model prog w) A env fun e s'=>R (.error e) s') s₄) (notedBy (model prog w) A env fun e s'=>R (.error e) s') s₃
     else ∃m,m < n∧I m s₃) (notedBy (model prog w) A env fun e s'=>R (.error e) s') s₂) (notedBy (model prog w) A env fun e s'=>R (.error e) s') s₁') (notedBy (model prog w) A env fun e s'=>R (.error e) s') s₁) (notedBy (model prog w) A env fun e s'=>R (.error e) s') s)
  (n:Nat) (h:I n s):codeAny (model prog w) A (.compLoop (.ListComp elt [⟨target,iter,ifs,0⟩] scope pos) 0 it acc env) R s:=by
 refine codeAny_loop rfl I (fun n s hI=>?_) n h
 show wpAny _ _ ((compTurn (.ListComp elt [⟨target,iter,ifs,0⟩] scope pos) 0 it acc env).onRaise (fun x=>do noteFrame x env;theTreesLotGoes x)) _ _ s
 refine wpAny_noted ?_
 rw[compTurn_list]
 refine wpAny_bind (wpAny_standAt (wpAny_bind (wpAny_mono (turn n s hI) (fun r s₁ h₁=>?_) fun _ _ h'=>h')))
 cases r with
 |none=>exact wpAny_pure h₁
 |some v=>
  refine wpAny_bind (wpAny_mono h₁ (fun _ s₁' h₁'=>?_) fun _ _ h'=>h')
  refine wpAny_bind (wpAny_mono h₁' (fun _ s₂ h₂=>wpAny_bind (wpAny_mono h₂ (fun ok s₃ h₃=>?_) fun _ _ h'=>h')) fun _ _ h'=>h')
  cases ok with
  |false=>exact wpAny_pure ⟨rfl,h₃⟩
  |true=>
   exact wpAny_bind (wpAny_bind (wpAny_mono h₃ (fun x s₄ h₄=>wpAny_bind (wpAny_mono h₄ (fun _ s₅ h₅=>wpAny_pure (wpAny_pure ⟨rfl,h₅⟩)) fun _ _ h'=>h')) fun _ _ h'=>h'))
structure TurnG (ck:Cx→Prop) (P:Program) (w:World) (K:PySem.W.Frag) (tg:Expr) (J:It) (fp:List Addr) (it:Addr) (tn:Nat→Heap→Prop):Prop where
 obj:∀i h,tn i h→∀b∈fp,∃o,h.get? b=some o∧∀v,o.data≠.cell v
 keep:∀i h h',tn i h→(∀b∈fp,∀o,h.get? b=some o→h'.get? b=some o)→tn i h'
 item:∀(X:Cx),X.prog=P→X.w=w→X.K=K→ck X→∀(i:Nat) (pins:List (Addr×Obj)) (s:Shared) (σ:St) (H:Hp) (E:Value→Shared→Prop),Inv X pins σ H s→(∀b∈fp,FpOk X pins H b)→tn i s.heap→J.go i H→
  wpAny (model P w) X.A (pyNext (.ref it)) (fun r s1=>∃u,r=some u∧wpAny (model P w) X.A (letOwnedTupleGo tg (.ref it) u) (fun _ s2=>∃x H',Inv X pins σ H' s2∧RelV x u∧J.yld i H x H'∧tn (i+1) s2.heap∧∀b∈fp,H' b=none) E s1) E s
 done:∀(X:Cx),X.prog=P→X.w=w→X.K=K→ck X→∀(i:Nat) (pins:List (Addr×Obj)) (s:Shared) (σ:St) (H:Hp) (E:Value→Shared→Prop),Inv X pins σ H s→(∀b∈fp,FpOk X pins H b)→tn i s.heap→J.stop i H→
  wpAny (model P w) X.A (pyNext (.ref it)) (fun r s1=>r=none∧Inv X pins σ H s1) E s
 self:∀(A:Around) (i:Nat) (s:Shared) (Q:Value→Shared→Prop) (E:Value→Shared→Prop),tn i s.heap→Q (.ref it) s→wpAny (model P w) A (pyIter (.ref it)) Q E s
theorem Turn.g {P:Program} {w:World} {K:PySem.W.Frag} {tg:Expr} {J:It} {fp:List Addr} {it:Addr} {tn:Nat→Heap→Prop} (T:Turn P w K tg J fp it tn):TurnG (fun X=>X.calm=true) P w K tg J fp it tn:=⟨T.obj,T.keep,T.item,T.done,T.self⟩
section
variable {X:Cx}
theorem aed {ck:Cx→Prop} {pins:List (Addr×Obj)} {σ:St} {H2:Hp} {s2:Shared} {it:Addr} {fp:List Addr} {tn:Nat→Heap→Prop} {J:It} {tg iter elt:Expr} {ifs:List Expr} {scope:Scope} {cl:List (Str×Addr)} {pos:Pos} {x:Str} {fs:List Str} {ix:List Nat} {g:TG} {tt:TT} {te:TE}
  {Qf:Addr→Hp→Prop} {E:Value→Shared→Prop} {RR:Value→Addr→Result→Shared→Prop}
  (I2:Inv X pins σ H2 s2) (T:TurnG ck X.prog X.w X.K tg J fp it tn) (st2:tn 0 s2.heap) (f2:∀b∈fp,FpOk X pins H2 b) (hc:∀C s₀ H₀ xe,ck (cxComp X scope cl C (x::fs) s₀ H₀ fp xe)) (S:CompSc scope X.env x fs)
  (c1:∀n c,cl.lookup n=some c→X.env.cells.lookup n=some c) (c2:∀n,(n,NameKind.free)∈scope.names→∃c,cl.lookup n=some c) (hix:ix.map (X.N[·]?)=fs.map some)
  (hg:∀C s₀ H₀ xe,PG (cxComp X scope cl C (x::fs) s₀ H₀ fp xe) tg g) (hf:∀C s₀ H₀ xe,PF (cxComp X scope cl C (x::fs) s₀ H₀ fp xe) ifs tt) (he:∀C s₀ H₀ xe,PE (cxComp X scope cl C (x::fs) s₀ H₀ fp xe) elt te)
  (h:∀D,H2 D=none→Comp g tt te .mk J (none::ix.map fun i=>(σ[i]?).join) D (Qf D) H2)
  (fin:∀D C H' s',Inv X pins σ H' s'→Qf D H'→(∃m,s'.heap.Ns C m)→FpOk X pins H' C→RR (.ref D) C (.ok .next) s'):
  wpAny (model X.prog X.w) X.A (newList []) (fun acc s₃=>wpAny (model X.prog X.w) X.A (newFunctionEnv scope X.env.globals cl [] X.env.qual none .none (some X.env)) (fun cenv s₄=>
   codeAny (model X.prog X.w) X.A (.compStart (.ListComp elt [⟨tg,iter,ifs,0⟩] scope pos) 0 (.ref it) acc {cenv with scope:=relabel scope X.env}) (RR acc cenv.locals) s₄) E s₃) E s2:=by
 have hD:H2 s2.heap.objs.size=none:=I2.hok.fresh (Nat.le_refl _)
 obtain⟨W,⟨m0,w0⟩,turn⟩:=h _ hD
 refine wpAny_newObj_type (wpAny_newFunctionEnv S.nocell (by intro y hy;simp at hy) (fun h₁ hns₁ hsb₁=>?_) S.kind)
 have I3:Inv X pins σ (upd H2 s2.heap.objs.size (.lst [])) {s2 with heap:=s2.heap.push {cls:=.type "list",dict:=none,data:=.seq ([]:List Value).toArray}}:=
  I2.laid (t':=s2.toks) (fun b u e=>Heap.get?_push_of_some _ e) (Nat.le_refl _) ⟨by decide,[],0,.nil,Heap.get?_push_size _ rfl⟩
 obtain⟨e3,he3⟩:∃s3:Shared,s3={s2 with heap:=s2.heap.push {cls:=.type "list",dict:=none,data:=.seq ([]:List Value).toArray}}:=⟨_,rfl⟩
 rw[←he3] at I3
 have hh3:s2.heap.push {cls:=.type "list",dict:=none,data:=.seq ([]:List Value).toArray}=e3.heap:=by rw[he3]
 have sz3:e3.heap.objs.size=s2.heap.objs.size+1:=by rw[←hh3,Heap.size_push]
 dsimp only at hns₁ hsb₁ ⊢
 rw[hh3] at hns₁ hsb₁ ⊢
 generalize hH3:upd H2 s2.heap.objs.size (.lst [])=H3 at *
 have live:∀b∈fp,b < s2.heap.objs.size:=fun b hb=>let ⟨_,e,_⟩:=T.obj _ _ st2 b hb;Heap.lt_size e
 have f3:∀b∈fp,FpOk X pins H3 b:=fun b hb=>by
  refine⟨?_,(f2 b hb).2⟩
  rw[←hH3,aaf (Nat.ne_of_lt (live b hb))]
  exact (f2 b hb).1
 have C0:FpOk X pins H3 e3.heap.objs.size:=I3.fpOk (Nat.le_refl _) (I3.hok.fresh (Nat.le_refl _))
 have old3:∀b o,e3.heap.get? b=some o→h₁.get? b=some o:=fun b o e=>hsb₁.extBut b o (Nat.ne_of_lt (Heap.lt_size e)) (Heap.get?_push_of_some _ e)
 have nofs:∀b∈fp,b∉frs X.stack:=fun b hb z=>(List.mem_cons.mp (I3.stkSub b z)).elim (f3 b hb).2.1 (f3 b hb).2.2.1
 have hst1:tn 0 h₁:=T.keep _ _ _ st2 fun b _ o e=>old3 b o (by rw[←hh3];exact Heap.get?_push_of_some _ e)
 have e0:=I3.env0
 have ok:∀xe,(cxComp X scope cl e3.heap.objs.size (x::fs) e3 H3 fp xe).Ok:=fun xe=>by
  refine⟨I3.ok.mod,S.kind,I3.ok.glob,I3.ok.blt,Nat.le_refl _,fun y z c h1 h2=>I3.ok.inj y z c (c1 _ _ h1) (c1 _ _ h2),fun y hy=>?_,fun y c z=>?_,I3.ok.hd,I3.ok.frames,.inl rfl,fun b hb=>⟨?_,fun y c e=>(f3 b hb).2.2.2.2.1 y c (c1 _ _ e)⟩,e0.bs,e0.bsz,fun b o e hb=>?_,nofs,e0.funs,e0.frf⟩
  ·have q:scope.names.lookup y=some .free∨scope.names.lookup y=some .cell:=by
    rcases hy with hy|hy
    ·exact aca hy (.inl rfl)
    ·exact aca hy (.inr rfl)
   rcases q with q|q
   ·exact c2 y (PySem.mem_of_lookup q)
   ·exact absurd rfl (S.nocell _ (PySem.mem_of_lookup q))
  ·cases z
  ·exact Nat.ne_of_lt (Nat.lt_of_lt_of_le (live b hb) (by rw[sz3];exact Nat.le_succ _))
  ·rcases (f3 b hb).2.2.2.1 with z|z
   ·exact I3.ok.noex b o e z
   ·exact absurd (Nat.lt_of_lt_of_le (Heap.lt_size e) (Nat.le_trans I3.ok.bsz z)) (Nat.lt_irrefl _)
 have cellUp:∀c v,e3.heap.IsCell c v→h₁.IsCell c v:=fun c v ⟨o,ho,hd⟩=>⟨o,old3 _ _ ho,hd⟩
 have J0:∀xe,Inv (cxComp X scope cl e3.heap.objs.size (x::fs) e3 H3 fp xe) [] (none::ix.map fun i=>(σ[i]?).join) H3 {e3 with heap:=h₁,toks:=e3.toks+([]:List (Str×Value)).length}:=fun xe=>by
  have hk:∀b o,e3.heap.get? b=some o→h₁.get? b=some o:=old3
  refine⟨ok xe,rfl,I3.bare,Un.kept hk,⟨_,hns₁,fun i y v h1 h2 h3=>?_⟩,fun y c e=>?_,I3.hok.fresh (Nat.le_refl _),fun y c e=>I3.freeC y c (c1 _ _ e),fun p hp=>absurd (show p∈([]:List (Addr×Obj)) from hp) (by simp),I3.hok.kept hk,?_⟩
  ·cases i with
   |zero=>cases h2
   |succ i=>
    have h1:fs[i]?=some y:=h1
    have h2:(ix.map fun i=>(σ[i]?).join)[i]?=some (some v):=h2
    have hy:=S.fs y (List.mem_of_getElem? h1)
    rw[List.getElem?_map] at h2
    cases ej:ix[i]? with
    |none=>rw[ej] at h2;cases h2
    |some j=>
     rw[ej] at h2
     have h2:(σ[j]?).join=some v:=Option.some.inj h2
     have hσ:σ[j]?=some (some v):=by
      cases q:σ[j]? with
      |none=>rw[q] at h2;cases h2
      |some o=>rw[q] at h2;cases o with
       |none=>cases h2
       |some o=>cases h2;rfl
     have hN:X.N[j]?=some y:=by
      have z:=congrArg (·[i]?) hix
      simp only[List.getElem?_map,ej,h1,Option.map_some] at z
      exact Option.some.inj z
     have kf:=S.fr _ (PySem.mem_of_lookup hy) rfl
     obtain⟨m,hn,hl⟩:=I3.loc
     obtain⟨u,r,l⟩:=hl j y v hN hσ (by rcases kf with k|k;exact .inr (.inl k);exact .inr (.inr k))
     refine⟨u,r,.inr ⟨ade hy,?_⟩⟩
     rcases l with ⟨l,_⟩|⟨_,c,e,z⟩
     ·rcases kf with k|k<;>(rw[l] at k;cases k)
     ·obtain⟨c',e'⟩:=c2 y (PySem.mem_of_lookup hy)
      have q:=c1 _ _ e'
      rw[e] at q;cases q
      exact⟨c,e',cellUp _ _ z⟩
  ·obtain⟨v,z⟩:=I3.cell y c (c1 _ _ e)
   exact⟨v,cellUp _ _ z⟩
  ·have z:=congrArg List.length hix
   simp only[List.length_map] at z
   show (none::_:St).length=(x::fs).length
   simp only[List.length_cons,List.length_map,z]
 have back:∀{xe σ' H' s'},Inv (cxComp X scope cl e3.heap.objs.size (x::fs) e3 H3 fp xe) [] σ' H' s'→Inv X pins σ H' s':=fun {xe σ' H' s'} J=>
  I3.call' (s':=s') (ch:=fp) J.os J.base J.hok J.bare fun b hb=>⟨(f3 b hb).2.2.2.1,(f3 b hb).2.1,(f3 b hb).2.2.2.2.1,(f3 b hb).2.2.2.2.2⟩
 have stat:∀{xe} {H':Hp},(∀b∈fp,H' b=none)→∀b∈fp,FpOk (cxComp X scope cl e3.heap.objs.size (x::fs) e3 H3 fp xe) [] H' b:=fun {xe H'} hn b hb=>
  ⟨hn b hb,Nat.ne_of_lt (Nat.lt_of_lt_of_le (live b hb) (by rw[sz3];exact Nat.le_succ _)),nofs b hb,.inl hb,fun y c e=>(f3 b hb).2.2.2.2.1 y c (c1 _ _ e),fun p hp=>absurd (show p∈([]:List (Addr×Obj)) from hp) (by simp)⟩
 have loop:∀s4:Shared,s4={e3 with heap:=h₁,toks:=e3.toks+([]:List (Str×Value)).length}→
   codeAny (model X.prog X.w) X.A (.compLoop (.ListComp elt [⟨tg,iter,ifs,0⟩] scope pos) 0 (.ref it) (.ref s2.heap.objs.size) (compEnvC scope cl e3.heap.objs.size X.env)) (RR (.ref s2.heap.objs.size) e3.heap.objs.size) s4:=by
  rintro s4 rfl
  let xe:=notedBy (model X.prog X.w) X.A (compEnvC scope cl e3.heap.objs.size X.env) fun e s'=>RR (.ref s2.heap.objs.size) e3.heap.objs.size (.error e) s'
  refine aek (fun n s'=>∃i ys σ' H',Inv (cxComp X scope cl e3.heap.objs.size (x::fs) e3 H3 fp xe) [] σ' H' s'∧tn i s'.heap∧(∀b∈fp,H' b=none)∧W i n ys σ' H') ?_ m0 ⟨0,[],_,_,J0 xe,hst1,fun b hb=>(f3 b hb).1,w0⟩
  rintro n s5 ⟨i,ys,σ5,H5,J5,st5,fr5,w5⟩
  rcases turn i n ys σ5 H5 w5 with ⟨stop,qn⟩|⟨go,N,hN,step⟩
  ·refine thn (T.done (cxComp X scope cl e3.heap.objs.size (x::fs) e3 H3 fp xe) rfl rfl rfl (hc _ _ _ _) i [] s5 σ5 H5 xe J5 (stat fr5) st5 stop) fun r s6 ⟨hr,J6⟩=>?_
   subst hr
   obtain⟨m,hn,_⟩:=J6.loc
   exact fin _ _ H5 s6 (back J6) qn ⟨m,hn⟩ ⟨J6.free,C0.2⟩
  ·refine thn (T.item (cxComp X scope cl e3.heap.objs.size (x::fs) e3 H3 fp xe) rfl rfl rfl (hc _ _ _ _) i [] s5 σ5 H5 xe J5 (stat fr5) st5 go) fun r s6 ⟨u,hr,h6⟩=>?_
   subst hr
   refine thn h6 fun _ s7 ⟨y,H7,J7,r7,y7,st7,fr7⟩=>?_
   have J7':=J7.pinned (stat fr7) (T.obj _ _ st7)
   refine thn (hg _ _ _ xe _ s7 σ5 H7 y u _ J7' r7 (step y H7 y7)) fun _ s8 ⟨σ8,H8,J8,q8⟩=>?_
   refine thn (hf _ _ _ xe _ s8 σ8 H8 _ J8 q8) fun ok s8' ⟨H8',J8',q8'⟩=>?_
   cases ok with
   |false=>
    obtain⟨m',hm',w9⟩:=hN _ _ _ (by simpa using q8')
    refine⟨m',hm',i+1,ys,σ8,_,J8'.unpinned,T.keep _ _ _ st7 fun b hb o e=>(J8'.pin (b,o) (List.mem_append_right _ (List.mem_append_right _ (abq hb e)))).1,fun b hb=>?_,w9⟩
    obtain⟨o,e,d⟩:=T.obj _ _ st7 b hb
    exact (J8'.pin (b,o) (List.mem_append_right _ (List.mem_append_right _ (abq hb e)))).2.1
   |true=>
   rw[if_pos rfl] at q8' ⊢
   refine thn (he _ _ _ xe _ s8' σ8 H8' _ J8' q8') fun uv s9 ⟨v,H9,J9,r9,hD9,hl9,n9⟩=>?_
   obtain⟨m',hm',w9⟩:=hN _ _ _ n9
   refine thn (adt (X:=cxComp X scope cl e3.heap.objs.size (x::fs) e3 H3 fp xe) _ s9 σ8 H9 (.ref s2.heap.objs.size) [v] _ [uv] (fun _ H'=>H'=upd H9 s2.heap.objs.size (.lst (ys++[v]))) J9 rfl (.cons r9 .nil) ⟨_,ys,v,rfl,rfl,hD9,hl9,rfl⟩) fun _ s10 ⟨_,H10,J10,_,eH⟩=>?_
   subst eH
   refine⟨m',hm',i+1,ys++[v],σ8,_,J10.unpinned,T.keep _ _ _ st7 fun b hb o e=>(J10.pin (b,o) (List.mem_append_right _ (List.mem_append_right _ (abq hb e)))).1,fun b hb=>?_,w9⟩
   obtain⟨o,e,d⟩:=T.obj _ _ st7 b hb
   exact (J10.pin (b,o) (List.mem_append_right _ (List.mem_append_right _ (abq hb e)))).2.1
 subst he3
 exact codeAny_compStart_list (loop _ rfl) (T.self X.A 0 _ _ _ hst1 (loop _ rfl))
theorem CompSc.clos {pins:List (Addr×Obj)} {σ:St} {H:Hp} {s:Shared} {scope:Scope} {x:Str} {fs:List Str} (S:CompSc scope X.env x fs) (I:Inv X pins σ H s):
  ∃cl,closureFor scope X.env=pure cl∧(∀n c,cl.lookup n=some c→X.env.cells.lookup n=some c)∧∀n,(n,NameKind.free)∈scope.names→∃c,cl.lookup n=some c:=
 ag9 fun n hn=>I.ok.has n (S.fr _ hn rfl)
theorem ail {tg iter elt:Expr} {ifs:List Expr} {scope:Scope} {pos:Pos} {x:Str} {fs:List Str} {ix:List Nat} {wi:TI} {g:TG} {tt:TT} {te:TE} (hc:X.calm=true) (hi:PI X tg iter wi) (hk:compChk scope X.env x fs=true) (hix:ix.map (X.N[·]?)=fs.map some)
  (hg:∀cl C s₀ H₀ fp xe,PG (cxComp X scope cl C (x::fs) s₀ H₀ fp xe) tg g) (hf:∀cl C s₀ H₀ fp xe,PF (cxComp X scope cl C (x::fs) s₀ H₀ fp xe) ifs tt) (he:∀cl C s₀ H₀ fp xe,PE (cxComp X scope cl C (x::fs) s₀ H₀ fp xe) elt te) (hs:∀x,foldedSetIterable iter X.env x=pure x:=by intro _;rfl):
  PE X (.ListComp elt [⟨tg,iter,ifs,0⟩] scope pos) (tComp wi ix g tt te .mk):=by
 intro pins s σ H Q I h
 have S:=CompSc.of hk
 obtain⟨cl,hcl,c1,c2⟩:=S.clos I
 rw[eval_ListComp]
 refine wpAny_comprehension_free (use:=none) rfl hs hcl S.kind S.own (thn (hi pins s σ H _ I h) fun v s1 h1=>thn h1 fun itv s2 h2=>?_)
 obtain⟨it,fp,tn,J,H2,e,I2,T,st2,f2,q⟩:=h2
 subst e
 refine aed (RR:=fun acc C=>compPost (model X.prog X.w) X.A X.xe none (EP X pins σ Q) acc C) I2 T.g st2 f2 (fun _ _ _ _=>hc) S c1 c2 hix (fun C s₀ H₀ xe=>hg cl C s₀ H₀ fp xe) (fun C s₀ H₀ xe=>hf cl C s₀ H₀ fp xe) (fun C s₀ H₀ xe=>he cl C s₀ H₀ fp xe) q fun D C H' s' I' q' ⟨m,hn⟩ ⟨f0,f1,_,f3,f4,f5⟩=>?_
 exact⟨m,hn,fun h' hs'=>⟨.ref D,H',I'.turned (t':=s'.toks) (fun b o hb e=>(hs'.2 b hb).trans e) f0 f1 f3 f4 f5,rfl,q'⟩⟩
theorem al1 {tg iter elt:Expr} {ifs:List Expr} {scope:Scope} {pos spos py:Pos} {x y:Str} {i:Nat} {fs:List Str} {ix:List Nat} {wi:TI} {g:TG} {tt:TT} {te:TE} (hN:X.N.Nodup) (hy:X.N[i]?=some y) (hl:X.env.kindOf y=some .local) (hc:X.calm=true) (hi:PI X tg iter wi)
  (hk:compChk scope X.env x fs=true) (hix:ix.map (X.N[·]?)=fs.map some)
  (hg:∀cl C s₀ H₀ fp xe,PG (cxComp X scope cl C (x::fs) s₀ H₀ fp xe) tg g) (hf:∀cl C s₀ H₀ fp xe,PF (cxComp X scope cl C (x::fs) s₀ H₀ fp xe) ifs tt) (he:∀cl C s₀ H₀ fp xe,PE (cxComp X scope cl C (x::fs) s₀ H₀ fp xe) elt te)
  (hsw:swapsWith (.ListComp elt [⟨tg,iter,ifs,0⟩] scope pos) (some (.Name y py)) spos.line X.env=pure true:=by rfl) (hs:∀x,foldedSetIterable iter X.env x=pure x:=by intro _;rfl):
  PS X (.Assign [.Name y py] (.ListComp elt [⟨tg,iter,ifs,0⟩] scope pos) spos) (tAsg (tComp wi ix g tt te .mk) (gName i)):=by
 intro pins s σ H D I h
 have S:=CompSc.of hk
 obtain⟨cl,hcl,c1,c2⟩:=S.clos I
 rw[exec_Assign_Name_used _ _ _ _ hsw]
 refine wpAny_bind (wpAny_standAt (wpAny_bind ?_))
 show wpAny _ X.A (do let _←comprehension (.ListComp elt [⟨tg,iter,ifs,0⟩] scope pos) scope X.env _ (newList []) false (eval iter X.env) (some (assign (.Name y py) X.env))) _ _ s
 refine wpAny_bind (wpAny_mono (wpAny_comprehension_free (use:=some (assign (.Name y py) X.env)) (Q:=fun _ s'=>SP X pins D .next s') rfl hs hcl S.kind S.own
  (thn (hi pins s σ H _ I h) fun v s1 h1=>thn h1 fun itv s2 h2=>?_)) (fun _ s' hq=>wpAny_pure (wpAny_pure hq)) fun _ _ e=>e)
 obtain⟨it,fp,tn,J,H2,e,I2,T,st2,f2,q⟩:=h2
 subst e
 refine aed (RR:=fun acc C=>compPost (model X.prog X.w) X.A X.xe (some (assign (.Name y py) X.env)) (fun _ s'=>SP X pins D .next s') acc C) I2 T.g st2 f2 (fun _ _ _ _=>hc) S c1 c2 hix (fun C s₀ H₀ xe=>hg cl C s₀ H₀ fp xe) (fun C s₀ H₀ xe=>hf cl C s₀ H₀ fp xe) (fun C s₀ H₀ xe=>he cl C s₀ H₀ fp xe) q
  fun D' C H' s' I' q' ⟨m,hn⟩ ⟨f0,f1,_,f3,f4,f5⟩=>?_
 show wpAny _ X.A (assign (.Name y py) X.env (.ref D')) _ _ _
 refine wpAny_assign_Name (aeu (v:=.ref D') I' hN hy (.inl hl) rfl (fun s'' I'' ⟨a,sb,ha⟩=>?_) (.inr hl))
 have hne:C≠a:=by
  rcases ha with ha|ha
  ·rw[ha];exact f1
  ·exact fun z=>f4 _ _ ha z.symm
 exact⟨m,hn.sameBut sb hne,fun h' hs'=>⟨_,H',I''.turned (t':=s''.toks) (fun b o hb e=>(hs'.2 b hb).trans e) f0 f1 f3 f4 f5,q'⟩⟩
end
end L2
namespace L2
open PySem PySem.Spec PyProof.Rows
section
variable {X:Cx} {pins:List (Addr×Obj)} {σ:List (Option V)} {H H':Hp} {s:Shared} {h':Heap}
theorem Inv.turnedL {t':Nat} {ch:List Addr} (I:Inv X pins σ H s) (k:∀b o,b∉ch→s.heap.get? b=some o→h'.get? b=some o) (hf:∀b∈ch,FpOk X pins H b):Inv X pins σ H {s with heap:=h',toks:=t'}:=by
 have nit:∀b u,H b=some u→b∉ch:=fun b u e z=>by rw[(hf b z).1] at e;cases e
 refine I.step (g':=s.gens) (d':=s.drawn) (ch:=ch) (fun b hb=>⟨(hf b hb).2.2.2.1,(hf b hb).2.1,(hf b hb).2.2.2.2.1,(hf b hb).2.2.2.2.2⟩) (fun b o _ _ hc e _=>k b o hc e) (fun b o _ _ hc e _=>⟨o.slots,k b o hc e⟩) (fun _ _ _ _ n=>n)
  (fun b o hc e=>⟨o,k b o hc e⟩) (fun _ _ e=>e) (fun _ _ _ e=>e) (fun b ps e=>⟨#[],by rw[e];simp⟩) (fun m hm=>?_) (fun b u e=>?_) I.bare
 ·obtain⟨o,es,ep,ho,r⟩:=hm
  exact⟨o,es,ep,k _ o (fun z=>(hf _ z).2.1 rfl) ho,r⟩
 ·refine (I.hok b u e).stay (fun c v hc q=>k c v ?_ q) (fun _ q=>q) fun _ _ q=>q
  rcases hc with z|z
  ·rw[z];exact nit b u e
  ·exact nit c _ z
end
noncomputable def Ite (K:PySem.W.Frag) (a:Addr):It:=
 ⟨fun i H=>∃xs x,SqL K H a xs∧xs[i]?=some x,fun i H v H'=>∃t x,v=.ref t∧H t=none∧H'=upd H t (.tup [.int i,x])∧∀xs,SqL K H a xs→xs[i]?=some x,fun i H=>∃xs,SqL K H a xs∧xs.length≤i⟩
theorem aim {P:Program} {w:World} {K:PySem.W.Frag} {elts:List Expr} {x1} {pos:Pos} (a e it:Addr) (hne:e≠it):
  Turn P w K (.Tuple elts x1 pos) (Ite K a) [e,it] e (fun i h=>(∃old,IsEnum h e it i old)∧h.IsListIter it a i) where
 mem:=by simp
 obj:=fun i h st b hb=>by
  obtain⟨⟨old,he⟩,o,ho,c,d⟩:=st
  have hb:b=e∨b=it:=by simpa using hb
  rcases hb with rfl|rfl
  ·exact⟨_,he,fun v z=>by
    have z':Data.fields _=Data.cell v:=z
    cases z'⟩
  ·exact⟨o,ho,fun v z=>by rw[d] at z;cases z⟩
 keep:=fun i h h' st k=>⟨let ⟨old,he⟩:=st.1;⟨old,k e (by simp) _ he⟩,st.2.at fun o q=>k it (by simp) o q⟩
 item:=by
  intro X hP hw hK hc i pins s σ H E I hf st hg
  subst hP hw hK
  obtain⟨xs,x,hq,hx⟩:=hg
  obtain⟨its,rv,p,hz⟩:=I.list hq
  obtain⟨u,hu,ru⟩:=rv.get hx
  obtain⟨⟨old,he⟩,hit⟩:=st
  refine wpAny_pyNext_enum_item he hit p.isList (x:=u) (by simpa using hu) hne fun h1 eo hit1 ht hsz kk=>?_
  refine⟨_,rfl,wpAny_letOwnedTupleGo_enum eo fun h2 en sb=>?_⟩
  have hT:H s.heap.objs.size=none:=I.hok.fresh (Nat.le_refl _)
  have hef:e≠s.heap.objs.size:=Nat.ne_of_lt (Heap.lt_size he)
  have hif:it≠s.heap.objs.size:=Nat.ne_of_lt (let ⟨_,ho,_⟩:=hit;Heap.lt_size ho)
  have ht2:h2.get? s.heap.objs.size=some {cls:=.type "tuple",data:=.seq #[.int i s.toks,u]}:=(sb.2 _ (Ne.symm hef)).trans ht
  have I1:Inv X pins σ (upd H s.heap.objs.size (.tup [.int i,x])) {s with heap:=s.heap.push {cls:=.type "tuple",data:=.seq #[.int i s.toks,u]}}:=
   I.laid (t':=s.toks) (fun b o q=>Heap.get?_push_of_some _ q) (Nat.le_refl _) ⟨by show 2≤sizeLine;decide,[.int i s.toks,u],.cons ⟨_,rfl⟩ (.cons ru .nil),⟨_,Heap.get?_push_size _ rfl,rfl,_,rfl⟩⟩
  have hf1:∀b∈[e,it],FpOk X pins (upd H s.heap.objs.size (.tup [.int i,x])) b:=fun b hb=>by
   refine⟨?_,(hf b hb).2⟩
   have hb':b=e∨b=it:=by simpa using hb
   rw[aaf (by rcases hb' with rfl|rfl;exact hef;exact hif)]
   exact (hf b hb).1
  have I2:Inv X pins σ (upd H s.heap.objs.size (.tup [.int i,x])) {s with heap:=h2,toks:=s.toks+1}:=by
   have J:=Inv.turnedL (t':=s.toks+1) (h':=h2) (ch:=[e,it]) I1 ?k hf1
   ·exact J
   intro b o hb q
   dsimp only at q
   have hb1:b≠e:=fun z=>hb (by simp[z])
   have hb2:b≠it:=fun z=>hb (by simp[z])
   rcases PySem.Heap.get?_push_cases q with ⟨rfl,rfl⟩|q
   ·exact ht2
   ·exact (sb.2 b hb1).trans (kk b o hb1 hb2 q)
  refine⟨.ref s.heap.objs.size,_,I2,rfl,⟨_,x,rfl,hT,rfl,fun ys hy=>by rw[I.list_inj hy hq];exact hx⟩,⟨⟨_,en⟩,hit1.extBut sb.extBut (Ne.symm hne)⟩,fun b hb=>(hf1 b hb).1⟩
 done:=by
  intro X hP hw hK hc i pins s σ H E I hf st hg
  subst hP hw hK
  obtain⟨xs,hq,hx⟩:=hg
  obtain⟨its,rv,p,hz⟩:=I.list hq
  obtain⟨⟨old,he⟩,hit⟩:=st
  obtain⟨f0,f1,f2,f3,f4,f5⟩:=hf it (by simp)
  have hl:=rv.length
  exact wpAny_pyNext_enum_end (I.ok.hd hc) he hit p.isList (by simp;omega) fun h' eb=>⟨rfl,I.turned (t':=s.toks) (fun b o hb e=>eb b o hb e) f0 f1 f3 f4 f5⟩
 self:=fun _ _ _ _ _ st h=>let ⟨_,he⟩:=st.1;wpAny_pyIter_enum he h
section
variable {X:Cx}
noncomputable def iEnum (K:PySem.W.Frag) (ta:TA):TI:=fun σ H R=>ta σ H fun vs H1=>∃a,vs=[.ref a]∧(∃xs,SqL K H1 a xs)∧R (Ite K a) H1
theorem ain:bootBuiltins "enumerate"=some (.type "enumerate"):=by decide+kernel
theorem aio {e:Expr} {ta:TA} {p pos tpos:Pos} {elts:List Expr} {x1} (hg:Gl X "enumerate") (hm:X.mg "enumerate"=none) (ha:PA X [e] ta) (hs:starEach [e] X.env=[(false,eval e X.env)]:=by rfl):
  PI X (.Tuple elts x1 tpos) (.Call (.Name "enumerate" p) [e] [] pos) (iEnum X.K ta):=by
 intro pins s σ H R I h
 refine Call_ (aev I hg hm ain (PyProof.Rows.callWith_type1 (thn (ha pos pins s σ H _ I h) fun us s1 ⟨vs,H1,I1,r1,q1⟩=>?_) hs rfl))
 obtain⟨a,ev,⟨xs,hq⟩,q⟩:=q1
 subst ev
 cases r1 with
 |cons r rr=>
  cases rr
  cases r
  obtain⟨its,rv,pl,hz⟩:=I1.list hq
  refine call_enumerate_list pl.isList fun h' he hit hsz kk=>wpAny_pyIter_enum he ?_
  have I2:Inv X pins σ H1 {s1 with heap:=h'}:=I1.kept (t':=s1.toks) kk
  refine⟨s1.heap.objs.size+1,[s1.heap.objs.size+1,s1.heap.objs.size],_,_,H1,rfl,I2,aim a _ _ (Nat.ne_of_gt (Nat.lt_succ_self _)),⟨⟨_,he⟩,hit⟩,fun b hb=>?_,q⟩
  have hb:b=s1.heap.objs.size+1∨b=s1.heap.objs.size:=by simpa using hb
  have hle:s1.heap.objs.size≤b:=by rcases hb with rfl|rfl;exact Nat.le_succ _;exact Nat.le_refl _
  exact I1.fpOk hle (I1.hok.fresh hle)
end
theorem afd {K:PySem.W.Frag} {a:Addr} {xs:List V} {g:TG} {tb:TS} {h:HidF g tb} {D:Ends} {σ:St} {H:Hp} (Pv:Nat→St→Hp→Prop) (h0:Pv 0 σ H) (hl:∀i σ H,i≤xs.length→Pv i σ H→SqL K H a xs)
  (hs:∀i x t σ H,xs[i]?=some x→Pv i σ H→H t=none→g (.ref t) σ (upd H t (.tup [.int i,x])) fun σ2 H2=>tb {D with nx:=Pv (i+1),ct:=Pv (i+1),bk:=D.nx} σ2 H2) (hd:∀σ H,Pv xs.length σ H→D.nx σ H):Loop g tb h (Ite K a) D σ H:=by
 refine⟨fun i m σ H=>i+m=xs.length∧Pv i σ H,⟨xs.length,Nat.zero_add _,h0⟩,fun i m σ H ⟨e,p⟩=>?_⟩
 have hq:=hl i σ H (by omega) p
 by_cases hi:i < xs.length
 ·have ex:xs[i]?=some xs[i]:=List.getElem?_eq_getElem hi
  refine .inr ⟨⟨xs,_,hq,ex⟩,Pv (i+1),fun σ H q=>⟨m - 1,by omega,by omega,q⟩,?_⟩
  rintro y H' ⟨t,x,rfl,ht,rfl,hy⟩
  exact hs i x t σ H (hy xs hq) p ht
 ·have e':i=xs.length:=by omega
  subst e'
  exact .inl ⟨⟨xs,hq,Nat.le_refl _⟩,hd σ H p⟩
end L2
namespace L2
open PySem PySem.Spec PyProof.Rows
section
variable {X:Cx} {pins:List (Addr×Obj)} {σ:St} {H:Hp} {s:Shared} {a:Addr} {kvs:List (Key×V)} {k:Key} {u r:Value} {z:V} {A:Around} {E:Value→Shared→Prop}
end
section
variable {X:Cx} {o e f:Expr} {apos cpos:Pos} {td ty tx:TE}
end
inductive HidW (c:TT) (tb:TS):Type where
 |mk:HidW c tb
inductive HidB (tb:TS):Type where
 |mk:HidB tb
noncomputable def LoopW (c:TT) (tb:TS) (_:HidW c tb):TS:=tWhile c tb
noncomputable def TurnW (tb:TS) (_:HidB tb) (Pv:Nat→St→Hp→Prop) (m:Nat) (D:Ends) (σ:St) (H:Hp):Prop:=
 ∃N:St→Hp→Prop,(∀σ' H',N σ' H'→∃m',m' < m∧Pv m' σ' H')∧tb {D with nx:=N,ct:=N,bk:=D.nx} σ H
theorem aip {X:Cx} {c:Expr} {body:List Stmt} {tc:TT} {tb:TS} {pos:Pos} (hp:PassesOwn (model X.prog X.w) X.A X.env X.xe) (hc:PT X c tc) (hb:PSs X body tb):PS X (.While c body [] pos) (LoopW tc tb .mk):=ajs hp hc hb
theorem ahb {c:TT} {tb:TS} {h:HidW c tb} {D:Ends} {σ:St} {H:Hp} (Pv:Nat→St→Hp→Prop) (m0:Nat) (h0:Pv m0 σ H)
 (hs:∀m σ H,Pv m σ H→c σ H fun b H1=>if b=true then TurnW tb .mk Pv m D σ H1 else D.nx σ H1):LoopW c tb h D σ H:=⟨Pv,⟨m0,h0⟩,hs⟩
theorem turnW {tb:TS} {h:HidB tb} {Pv:Nat→St→Hp→Prop} {m:Nat} {D:Ends} {σ:St} {H:Hp}
 (q:tb {D with nx:=fun σ' H'=>∃m',m' < m∧Pv m' σ' H',ct:=fun σ' H'=>∃m',m' < m∧Pv m' σ' H',bk:=D.nx} σ H):TurnW tb h Pv m D σ H:=⟨_,fun _ _ h=>h,q⟩
end L2
namespace L2
open PySem PySem.Spec PyProof.Rows
section
variable {X:Cx} {pins:List (Addr×Obj)} {σ:List (Option V)} {H:Hp} {s:Shared} {a:Addr}
end
end L2
namespace L2
open PySem PySem.Spec PyProof.Rows
end L2
namespace L2
open PySem PySem.Spec PyProof.Rows
noncomputable def dFl (xs:List V):List Dv:=xs.map .leaf
theorem agf {K:PySem.W.Frag} {H:Hp}:∀(xs:List V),xs.all flatV=true→SeesL K H (dFl xs) xs
 |[],_=>by unfold dFl SeesL;rfl
 |x::xs,h=>by
  rw[List.all_cons,Bool.and_eq_true] at h
  show SeesL K H (.leaf x::dFl xs) (x::xs)
  unfold SeesL
  exact⟨_,_,rfl,by unfold Sees;exact⟨rfl,h.1⟩,agf xs h.2⟩
theorem abi {K:PySem.W.Frag} {H:Hp} {a:Addr} {xs:List V} (h:SqT K H a xs) (hf:xs.all flatV=true):Sees K H (.seq true (dFl xs)) (.ref a):=by
 unfold Sees
 exact⟨a,_,rfl,by simpa using h,agf xs hf⟩
theorem ab2:∀(xs ys:List V),alikeL (dFl xs) (dFl ys)=true
 |[],_=>by unfold dFl;simp[alikeL]
 |_::_,[]=>by unfold dFl;simp[alikeL]
 |x::xs,y::ys=>by
  show alikeL (.leaf x::dFl xs) (.leaf y::dFl ys)=true
  rw[alikeL,alike,ab2 xs ys];rfl
theorem aco:∀(xs:List V),deepL (dFl xs)=0
 |[]=>by unfold dFl;simp[deepL]
 |x::xs=>by
  show deepL (.leaf x::dFl xs)=0
  rw[deepL,deep,aco xs];rfl
theorem ahc:∀(xs:List V),xs.all flatV=true→eqDvL (dFl xs) (dFl xs)=true
 |[],_=>by unfold dFl;simp[eqDvL]
 |x::xs,h=>by
  rw[List.all_cons,Bool.and_eq_true] at h
  show eqDvL (.leaf x::dFl xs) (.leaf x::dFl xs)=true
  rw[eqDvL,eqDv,ahc xs h.2,agd h.1];rfl
end L2
namespace L2
open PySem PySem.Spec PyProof.Rows
end L2
namespace L2
open PySem PySem.Spec PyProof.Rows
theorem aiq {X:Cx} {K:PySem.W.Frag} (h:X.K=K):IxR X (rIxT K):=h ▸ aal
end L2
namespace L2
open PySem PySem.Spec PyProof.Rows
structure FunD (K:PySem.W.Frag) (x qual:Str) (st:Stmt) (f:Addr) (fd:FuncData):Prop where
 ex:∃(oc:Value) (od:Option Addr) (dV kV doc pm:Value) (an:Option Addr) (cdv ct:Value) (osl:Array (Option Value)),
  fd=PySem.W.fnOf x qual (defArgs st) (defBody st) (defScope st) dV kV doc pm an cdv ct∧K.lookup f=some ⟨oc,od,.func fd,osl⟩∧PySem.W.codeIn K cdv qual=true
 kp:PySem.W.keepIn K (.ref f)=true
section
variable {P:Program} {w:World} {K:PySem.W.Frag} {mg:Str→Option Value} {base:Heap}
theorem FunD.okE {x qual:Str} {st:Stmt} {f:Addr} {fd:FuncData} {N ps:List Str} {k:Nat} {sp:Sp} (F:FunD K x qual st f fd) (S:FnScope N ps (defScope st)) (len:∀vs H Q E,sp vs H Q E→vs.length=ps.length)
  (hbody:Body P w K mg base qual st N k sp):FnOk P w K mg base (CXe P w) (k+1) f fd ps sp:=by
 obtain⟨oc,od,dV,kV,doc,pm,an,cdv,ct,osl,rfl,lk,hcd⟩:=F.ex
 exact alp lk hcd S len fun A outer s H vs Q E hr hsp=>hbody f cdv A outer s H vs Q E hr hsp
noncomputable def RawMD (K:PySem.W.Frag) (C:Addr) (m qual:Str) (st:Stmt) (ps:List Str) (dvs:List V):Prop:=∃f fd ds,Meth K C m f∧FunD K m qual st f fd∧Binds K fd ps ds∧Vals dvs ds
noncomputable def RawID (K:PySem.W.Frag) (mg:Str→Option Value) (x:Str) (C:Addr) (qual:Str) (st:Stmt) (ps:List Str) (dvs:List V):Prop:=∃f fd ds,mg x=some (.ref C)∧Mk K C f∧FunD K "__init__" qual st f fd∧Binds K fd ps ds∧Vals dvs ds
theorem RawMD.have {C:Addr} {m qual:Str} {st:Stmt} {N ps:List Str} {dvs:List V} {k:Nat} {sp:Sp} (R:RawMD K C m qual st ps dvs) (S:FnScope N ps (defScope st)) (len:∀vs H Q E,sp vs H Q E→vs.length=ps.length)
  (hbody:Body P w K mg base qual st N k sp):HaveM P w K mg base C m (k+1) ps dvs sp:=
 let ⟨f,fd,ds,hm,F,hb,hd⟩:=R
 ⟨f,fd,ds,hm,hb,hd,F.okE S len hbody⟩
theorem RawID.have {C:Addr} {x qual:Str} {st:Stmt} {N ps:List Str} {dvs:List V} {k:Nat} {sp:Sp} (R:RawID K mg x C qual st ps dvs) (S:FnScope N ps (defScope st)) (len:∀vs H Q E,sp vs H Q E→vs.length=ps.length)
  (hbody:Body P w K mg base qual st N k sp):HaveI P w K mg base x C (k+1) ps dvs sp:=
 let ⟨f,fd,ds,hm,M,F,hb,hd⟩:=R
 ⟨f,fd,ds,hm,M,hb,hd,F.okE S len hbody⟩
end
end L2
namespace L2
open PySem PySem.Spec PyProof.Rows
end L2
namespace L2
open PySem PySem.Spec PyProof.Rows
end L2
namespace L2
open PySem PySem.Spec PyProof.Rows
section
variable {X:Cx}
end
theorem Vals.at {xs:List V} {us:List Value} (r:Vals xs us) (m:Nat) (h1:m < xs.length) (h2:m < us.length):RelV xs[m] us[m]:=by
 obtain⟨u,hu,ru⟩:=r.get (List.getElem?_eq_getElem h1)
 rw[List.getElem?_eq_getElem h2] at hu
 cases hu
 exact ru
end L2
namespace L2
open PySem PySem.Spec PyProof.Rows
noncomputable def isN:V→Bool
 |.non=>true
 |_=>false
noncomputable def NTup (K:PySem.W.Frag) (H:Hp) (x:V):Prop:=x=.non∨∃a xs,x=.ref a∧SqT K H a xs
noncomputable def nU:Value→Bool
 |.none=>true
 |_=>false
theorem nU_of {K:PySem.W.Frag} {H:Hp} {x:V} {u:Value} (h:NTup K H x) (r:RelV x u):nU u=isN x:=by
 rcases h with rfl|⟨a,xs,rfl,_⟩
 ·cases r;rfl
 ·cases r;rfl
theorem ak2 {K:PySem.W.Frag} {H:Hp}:∀{xs:List V} {us:List Value},Vals xs us→(∀x∈xs,NTup K H x)→us.any nU=xs.any isN
 |_,_,.nil,_=>rfl
 |x::xs,u::us,.cons r t,h=>by
  rw[List.any_cons,List.any_cons,nU_of (h x (List.mem_cons_self ..)) r,ak2 t fun z hz=>h z (List.mem_cons_of_mem _ hz)]
theorem afy {X:Cx} {pins:List (Addr×Obj)} {σ:St} {H:Hp} {s:Shared} (I:Inv X pins σ H s) {A:Around} (hu:A.units < cLine):∀{xs:List V} {us:List Value},Vals xs us→(∀x∈xs,NTup X.K H x)→∀u∈us,SeqAt.EqAt A s u .none (nU u)
 |_,_,.nil,_=>fun u hu=>by cases hu
 |x::xs,u::us,.cons r t,h=>fun u' hu'=>by
  rcases List.mem_cons.mp hu' with rfl|hu'
  ·rcases h x (List.mem_cons_self ..) with rfl|⟨a,ys,rfl,hs⟩
   ·cases r
    exact SeqAt.EqAt.same _
   ·cases r
    obtain⟨its,r,p,hz⟩:=I.tuple hs
    intro prog w E Q hq
    unfold eqBool
    refine wpAny_holding ?_
    refine wpAny_ite_split (fun hab=>absurd (eq_of_beq hab) (fun z=>nomatch z)) (fun _=>?_)
    exact wpAny_bind (SeqAt.RcAt.tuple_none (A:=A) (s:=s) (show s.heap.IsTuple a its.toArray from p) hu prog w E _ (wpAny_truthy_bool hq))
  ·exact afy I hu t (fun z hz=>h z (List.mem_cons_of_mem _ hz)) u' hu'
noncomputable def rInN (K:PySem.W.Frag):R2:=fun x y H Q=>∃p xs,x=.non∧y=.ref p∧SqL K H p xs∧(∀z∈xs,NTup K H z)∧Q (.bl (xs.any isN)) H
theorem ak3 {X:Cx} (hu:X.A.units+4+2 < cLine):OpR X (compareOp .In) (rInN X.K):=by
 intro pins s σ H x y v u Q I rx ry h
 obtain⟨p,xs,rfl,rfl,hq,hn,q⟩:=h
 cases rx
 cases ry
 obtain⟨its,r,pl,hz⟩:=I.list hq
 refine SeqAt.in_listAt nU pl.isList (fun w hw=>afy I (by show X.A.units+1 < cLine;omega) r hn w (by simpa using hw)) ⟨.bl _,H,I,rfl,?_⟩
 rw[show its.toArray.any nU=its.any nU by simp,ak2 r hn]
 exact q
noncomputable def rIndexN (K:PySem.W.Frag):V→List V→Hp→VK→Prop:=fun x vs H Q=>∃l xs j,x=.ref l∧vs=[.non]∧SqL K H l xs∧(∀z∈xs,NTup K H z)∧xs.findIdx? isN=some j∧Q (.int j) H
theorem afe {X:Cx} (hu:X.A.units+4+2 < cLine):MtR X "list.index" (rIndexN X.K):=by
 intro pins s σ H x vs v us Q I rx rv h
 obtain⟨l,xs,j,rfl,rfl,hq,hn,hj,q⟩:=h
 cases rx
 obtain⟨u,rfl,ru⟩:=rv.one
 cases ru
 obtain⟨its,r,pl,hz⟩:=I.list hq
 obtain⟨⟨cls,dd,data,sl⟩,ho,hc,n,hd⟩:=pl.isList
 simp only at hc hd
 subst hc hd
 obtain⟨hjl,hit,hno⟩:=List.findIdx?_eq_some_iff_getElem.mp hj
 have hl:=r.length
 have eqx:∀m (h1:m < xs.length) (h2:m < its.length),nU its[m]=isN xs[m]:=fun m h1 h2=>nU_of (hn _ (List.getElem_mem h1)) (r.at m h1 h2)
 refine call_meets F.slot_list_index ⟨_,ho,rfl⟩ F.entry_list_index (F.args_list_index_2 _ _) (SeqAt.list_indexAt l its.toArray n dd sl .none nU j (by simp;omega) (by have:=line63;omega) ?_ ?_) ⟨ho,fun w hw=>afy I ?_ r hn w (by simpa using hw),⟨.int j,H,I.tok _,⟨_,rfl⟩,q⟩⟩
 ·simp only[List.getElem_toArray]
  rw[eqx j hjl (by omega)]
  exact hit
 ·intro m hm hmj
  simp only[List.size_toArray] at hm
  simp only[List.getElem_toArray]
  rw[eqx m (by omega) hm]
  simpa using hno m hmj
 ·show X.A.units+1 < cLine
  omega
end L2
namespace L2
open PySem PySem.Spec PyProof.Rows
theorem aff {α β:Type} {f:α→β}:∀{l:List α} {j:Nat},(l.map f).eraseIdx j=(l.eraseIdx j).map f
 |[],_=>rfl
 |_::_,0=>rfl
 |x::l,j+1=>congrArg (f x::·) (aff (l:=l) (j:=j))
section
variable {prog:Program} {w:World} {K:Type} [DecidableEq K] {knd:HeapKind prog w K} {A:Around} {E:Value→Shared→Prop} {s:Shared}
theorem afg {d a:Addr} {xs:List (K×Addr×Value)} {k:K} {j:Nat} {p:Addr×Value} {Q:Option DictEntry→Shared→Prop} (hu:knd.room A) (hkey:knd.is s.heap k a) (hm:s.heap.DictOfH knd d xs) (hj:xs[j]?=some (k,p)) (hsz:xs.length≤sizeLine)
  (hQ:∀e h',e.val=p.2→h'.DictOfH knd d (xs.eraseIdx j)→Heap.SameBut d s.heap h'→Q (some e) {s with heap:=h',toks:=s.toks+knd.draws k}):wpAny (model prog w) A (Builtin.Dict.takeOut d (.ref a)) Q E s:=by
 obtain⟨o,es,ep,ho,hc,hd,he,his,hn⟩:=hm
 have hes:=size_of_entries he
 unfold Builtin.Dict.takeOut
 try with_reducible refine wpAny_holding ?_
 refine wpAny_bind (knd.pyHash hu hkey ?_)
 refine wpAny_bind (wpAny_dictFind_heap (s:={s with toks:=s.toks+knd.draws k}) hu hkey ho hd he his hn (fun hno=>absurd hj (hno j p)) fun j' p' hj'=>?_)
 have ej:j'=j:=idxH_unique hn hj' hj
 subst ej
 refine wpAny_bind (wpAny_dictEntries (s:={s with toks:=s.toks+knd.draws k}) ho hd ?_)
 have ee:es[j']?=some (entryOfKey knd (k,p)):=by rw[entry_at he,hj];rfl
 rw[ee]
 refine wpAny_bind (wpAny_updateDictKeys (hz:=by omega) (s:={s with toks:=s.toks+knd.draws k}) ho hd (wpAny_pure (hQ (entryOfKey knd (k,p)) _ rfl ⟨_,_,ep+1,Heap.get?_update_self _ ho (Obj.isFreed_of_dict (Obj.data_mapDictKeys hd _)),hc.mapDictKeys _,Obj.data_mapDictKeys hd _,?_,?_,?_⟩ (Heap.SameBut.update ..))))
 ·have hlt:j' < es.size:=by rw[hes];exact (List.getElem?_eq_some_iff.mp hj).1
  simp[Array.eraseIdxIfInBounds,hlt,he,aff]
 ·intro x hx
  exact knd.keeps (his x ((List.eraseIdx_sublist ..).subset hx)) ho hd (Heap.SameBut.update ..)
 ·exact hn.sublist ((List.eraseIdx_sublist ..).map _)
theorem ahd {d a:Addr}:MeetsIn prog w (Builtin.«dict.pop» ⟨[.ref d,.ref a],[]⟩) (fun A R s=>knd.room A.in1∧∃k xs j p,knd.is s.heap k a∧s.heap.DictOfH knd d xs∧xs.length≤sizeLine∧xs[j]?=some (k,p)∧
   ∀h',h'.DictOfH knd d (xs.eraseIdx j)→Heap.SameBut d s.heap h'→R (.ok (.ret p.2)) {s with heap:=h',toks:=s.toks+knd.draws k}):=
 .of_wp fun A R s ⟨hu,k,xs,j,p,hkey,hm,hsz,hj,h⟩=>by
  unfold Builtin.«dict.pop»
  refine wpAny_bind ?_
  unfold Builtin.Dict.keyAndDefault
  refine wpAny_bind (wpAny_notOrdered_dict hm.typeIs ?_)
  show wpAny _ _ (pure (d,Value.ref a,none)) _ _ s
  refine wpAny_pure ?_
  obtain⟨o,es,ep,ho,hc,hd,he,his,hn⟩:=id hm
  have hes:=size_of_entries he
  have hne:es.isEmpty=false:=by
   have hlt:=(List.getElem?_eq_some_iff.mp hj).1
   cases hE:es.isEmpty with
   |false=>rfl
   |true=>
    rw[Array.isEmpty_iff.mp hE] at hes
    have h0:xs.length=0:=by simpa using hes.symm
    omega
  have hk:(keyPart (.ref a)).isSome=false:=rfl
  simp only[hk,Bool.false_eq_true,if_false]
  refine wpAny_bind (wpAny_dictEntries ho hd ?_)
  refine wpAny_bind (wpAny_pure ?_)
  rw[hne]
  simp only[Bool.false_eq_true,if_false]
  refine wpAny_bind (afg hu hkey hm hj hsz fun e h' ev hm' hs'=>?_)
  simp only[Option.isNone_some,Bool.false_eq_true,if_false]
  exact wpAny_bind (wpAny_letGo (wpAny_pure ⟨e.val,rfl,by rw[ev];exact h h' hm' hs'⟩))
end
theorem KT.erase {H:Hp}:∀{kvs:List (List Key×V)} {xs:List (List Key×Addr×Value)} (j:Nat),KT H kvs xs→KT H (kvs.eraseIdx j) (xs.eraseIdx j)
 |_,_,_,.nil=>.nil
 |_,_,0,.cons _ t=>t
 |_,_,j+1,.cons r t=>.cons r (KT.erase j t)
theorem KT.find {H:Hp} {k:List Key} {v:V}:∀{kvs:List (List Key×V)} {xs:List (List Key×Addr×Value)},KT H kvs xs→(xs.map (·.1)).Nodup→valV kvs k=some v→∃(j:Nat) (p:Addr×Value),xs[j]?=some (k,p)∧RelV v p.2∧dropK kvs k=kvs.eraseIdx j
 |_,_,.nil,_,h=>by cases h
 |kv::kvs,x::xs,.cons r t,hn,h=>by
  obtain⟨h1,h2⟩:=List.nodup_cons.mp hn
  by_cases c:kv.1=k
  ·rw[aa6 c] at h
   refine⟨0,x.2,?_,?_,?_⟩
   ·show some x=some (k,x.2)
    rw[←c,r.1]
   ·cases h;exact r.2.2
   ·have hk:∀y∈kvs,y.1≠k:=fun y hy e=>by
     have hx:k∈xs.map (·.1):=by
      have:xs.map (·.1)=kvs.map (·.1):=by
       have aux:∀{a:List (List Key×V)} {b:List (List Key×Addr×Value)},KT H a b→b.map (·.1)=a.map (·.1):=fun q=>by
        induction q with
        |nil=>rfl
        |cons r _ ih=>rw[List.map_cons,List.map_cons,ih,r.1]
       exact aux t
      rw[this]
      exact List.mem_map.mpr ⟨y,hy,e⟩
     exact h1 (by show x.1∈_;rw[←r.1,c];exact hx)
    show (kv::kvs).filter _=kvs
    rw[List.filter_cons,if_neg (by simp[c]),List.filter_eq_self.mpr fun y hy=>by simpa using hk y hy]
  ·rw[aa2 c] at h
   obtain⟨j,p,e1,e2,e3⟩:=KT.find t h2 h
   refine⟨j+1,p,by simpa using e1,e2,?_⟩
   show (kv::kvs).filter _=kv::kvs.eraseIdx j
   rw[List.filter_cons,if_pos (by simp[c]),←e3]
   rfl
theorem d_popT {X:Cx} {pins:List (Addr×Obj)} {σ:St} {H:Hp} {s:Shared} {a b:Addr} {kvs:List (List Key×V)} {k:List Key} {A:Around} {E:Value→Shared→Prop} {v:V} {Q:Value→Shared→Prop} (hu:A.units+1 < cLine) (I:Inv X pins σ H s) (e:H a=some (.dT kvs)) (eb:H b=some (.tup (k.map kV))) (l:valV kvs k=some v)
  (h:∀w' s',Inv X pins σ (upd H a (.dT (dropK kvs k))) s'→RelV v w'→Q w' s'):wpAny (model X.prog X.w) A (call (.builtin "dict.pop") [.ref a,.ref b]) Q E s:=by
 obtain⟨z,hd,xs,rel,dd⟩:=als I.hok e
 have hz:xs.length≤sizeLine:=by rw[←Paired.length rel];exact z
 have hn:(xs.map (·.1)).Nodup:=let ⟨_,_,_,_,_,_,_,_,q⟩:=dd;q
 obtain⟨j,p,hj,rv,ed⟩:=KT.find rel hn l
 refine call_meetsIn PySem.F.slot_dict_pop dd.typeIs PySem.F.entry_dict_pop (PySem.F.args_dict_pop_2 _ _) (ahd (knd:=tupleKind (mixKind X.prog X.w))) ⟨tupleKind_room_in1 hu,k,xs,j,p,add I.hok eb,dd,hz,hj,fun h' dd' hs=>h _ _ ?_ rv⟩
 obtain⟨q,es,ep,hq,h2,h3,h4,_,h5⟩:=dd'
 refine afu I (by rw[e];exact True.intro) hs ⟨q,hq⟩ ⟨?_,hd,_,KT.keeps (ed ▸ KT.erase j rel) fun c ys ec=>?_,q,es,ep,hq,h2,h3,h4,h5⟩
 ·exact Nat.le_trans (agb kvs k) z
 ·rw[aaf (ne_of ec e (fun z=>nomatch z))]
  exact ec
noncomputable def tDPopT (td ty:TE):TE:=fun σ H Q=>td σ H fun x H1=>∃a,x=.ref a∧IsD H1 a∧ty σ H1 fun y H2=>∃kvs k v b,H2 a=some (.dT kvs)∧y=.ref b∧H2 b=some (.tup (k.map kV))∧valV kvs k=some v∧Q v (upd H2 a (.dT (dropK kvs k)))
theorem aka {X:Cx} {o e:Expr} {apos cpos:Pos} {td ty:TE} (hu:X.A.units+1 < cLine) (ho:PE X o td) (he:PE X e ty) (m:M1 X o "pop" apos e cpos):PE X (.Call (.Attribute o "pop" apos) [e] [] cpos) (tDPopT td ty):=by
 intro pins s σ H Q I h
 refine wpAny_Call_method m.base m.few m.line PySem.F.plainAttrs_dict PySem.F.slot_dict_pop PySem.F.type_dict_pop (thn (ho pins s σ H _ I h) fun u s1 ⟨x,H1,I1,rx,a,ex,d,q1⟩=>?_)
 subst ex
 obtain rfl:u=Value.ref a:=rx
 obtain⟨t1,t2,_⟩:=ak1 I1 d
 refine⟨t1,t2,?_⟩
 rw[m.trees]
 refine Calls.callWith_builtin rfl (Calls.evalArgs_plain (Calls.spliced_cons (thn (he pins s1 σ H1 _ I1 q1) fun iv s2 ⟨y,H2,I2,ry,kvs,k,v,b,ea,ey,eb,l,q2⟩=>Calls.spliced_nil ?_)))
 subst ey
 cases ry
 exact d_popT hu I2 ea eb l fun w' s3 I3 rw'=>⟨v,_,I3,rw',q2⟩
end L2
namespace L2
open PySem PySem.Spec PyProof.Rows
noncomputable def RawD (h:Heap) (d:Addr) (es:Array DictEntry) (ep:Nat):Prop:=∃o,h.get? d=some o∧o.ExactDict∧o.data=.dict es ep
theorem RawD.ty {s:Shared} {d:Addr} {es:Array DictEntry} {ep:Nat} (r:RawD s.heap d es ep):s.TypeIs (.ref d) "dict":=let ⟨o,ho,hc,_⟩:=r;⟨o,ho,hc.1⟩
theorem RawD.lt {h:Heap} {d:Addr} {es:Array DictEntry} {ep:Nat} (r:RawD h d es ep):d < h.objs.size:=let ⟨_,ho,_⟩:=r;Heap.lt_size ho
theorem RawD.kept {h h':Heap} {d:Addr} {es:Array DictEntry} {ep:Nat} (r:RawD h d es ep) (k:∀o,h.get? d=some o→h'.get? d=some o):RawD h' d es ep:=let ⟨o,ho,q⟩:=r;⟨o,k _ ho,q⟩
section
variable {prog:Program} {w:World} {A:Around} {E:Value→Shared→Prop} {s:Shared} {d it:Addr} {es:Array DictEntry} {ep i:Nat}
theorem akb {Q:Value→Shared→Prop} (nd:(d == sysModules)=false) (r:RawD s.heap d es ep)
  (q:Q (.ref s.heap.objs.size) {s with heap:=s.heap.push {cls:=.type "dict_keyiterator",data:=.fields #[.ref d,.int 0 0,.int es.size 0,.int ep 0]}}):wpAny (model prog w) A (pyIter (.ref d)) Q E s:=by
 obtain⟨o,e0,ec,ed⟩:=id r
 refine wpAny_pyIter_slot r.ty PySem.F.slot_dict_iter (wpAny_call_entry PySem.F.slot_dict_iter r.ty PySem.F.entry_dict_iter ?_ (PySem.F.args_dict_iter_1 _))
 unfold Builtin.«dict.__iter__» Builtin.Dict.dictSlotNone Builtin.Dict.showsAll
 refine wpAny_bind (wpAny_bind (wpAny_notOrdered_dict r.ty (wpAny_pure ?_)))
 refine wpAny_bind (m:=if d == sysModules then _ else _) ?_
 rw[if_neg (by rw[nd];exact Bool.false_ne_true)]
 refine wpAny_pure (wpAny_bind (wpAny_dictEntries e0 ed (wpAny_bind (wpAny_dictEpoch e0 ed ?_))))
 exact wpAny_bind (wpAny_newObj_type (wpAny_pure ⟨_,rfl,"dict_keyiterator",_,⟨_,Heap.get?_push_size _ rfl,rfl⟩,PySem.F.slot_dict_keyiterator_next.lookup,by simpa[rawInt] using q⟩))
theorem akc {Q:Option Value→Shared→Prop} (t:s.heap.IsKeyIter it d i es.size ep) (r:RawD s.heap d es ep) (hi:i < es.size)
  (q:∀h',h'.IsKeyIter it d (i+1) es.size ep→Heap.SameBut it s.heap h'→Q (some es[i].key) {s with heap:=h'}):wpAny (model prog w) A (pyNext (.ref it)) Q E s:=by
 obtain⟨b,b0,bc,bd⟩:=id t
 obtain⟨o,e0,ec,ed⟩:=id r
 unfold pyNext
 refine wpAny_bind (wpAny_attempt (wpAny_callSpecial?_slot (name:=Str.ofString "__next__") t.typeIs PySem.F.slot_dict_keyiterator_next (wpAny_call_entry PySem.F.slot_dict_keyiterator_next t.typeIs PySem.F.entry_dict_keyiterator_next ?_ (PySem.F.args_dict_keyiterator_next_1 _))))
 refine wpAny_bind (wpAny_pure (wpAny_bind (wpAny_bind (wpAny_bind (wpAny_typeNameOfWhole_keyiter t.typeIs (wpAny_pure (wpAny_bind (wpAny_fieldsOf b0 bd ?_))))))))
 simp only[show Builtin.Dict_items.ownsTuple "dict_keyiterator"=false by decide,Bool.false_eq_true,if_false]
 show wpAny _ _ (if (Value.ref d == Value.none)=true then _ else _) _ _ s
 rw[if_neg (show ¬((Value.ref d == Value.none)=true) from Bool.false_ne_true)]
 refine wpAny_bind (wpAny_pure (wpAny_bind (wpAny_dictEntries e0 ed ?_)))
 rw[if_neg (by simp)]
 refine wpAny_bind (wpAny_pure (wpAny_bind (wpAny_dictEpoch e0 ed ?_)))
 rw[if_neg (by simp)]
 refine wpAny_pure ?_
 simp only[show ¬((i:Int) < 0) from by omega,if_false,Int.toNat_natCast,Array.getElem?_eq_getElem hi]
 refine wpAny_bind (wpAny_bind (wpAny_typeNameOfWhole_keyiter t.typeIs (wpAny_pure (wpAny_bind (wpAny_isOneOf_keyiter t.typeIs ?_)))))
 show wpAny _ _ (setField (.ref it) 1 (rawInt ((i:Int)+1)) >>= _) _ _ s
 refine wpAny_bind (wpAny_setField b0 bd (by simp) ?_)
 have t2:(s.heap.update it (Obj.mapFields (·.setIfInBounds 1 (rawInt ((i:Int)+1))))).IsKeyIter it d (i+1) es.size ep:=⟨_,Heap.get?_update_self _ b0 (Obj.isFreed_of_fields (Obj.data_mapFields bd _)),(Obj.cls_mapFields ..).trans bc,by rw[Obj.data_mapFields bd];simp[rawInt]⟩
 refine wpAny_bind (wpAny_holding (wpAny_bind (wpAny_isOneOf_keyiter (s:={s with heap:=s.heap.update it (Obj.mapFields (·.setIfInBounds 1 (rawInt ((i:Int)+1))))}) t2.typeIs ?_)))
 show wpAny _ _ (pure es[i].key) _ _ _
 exact wpAny_pure (wpAny_pure ⟨_,rfl,wpAny_pure (q _ t2 (Heap.SameBut.update ..))⟩)
theorem al2 {Q:Option Value→Shared→Prop} (hh:A.handled=none) (t:s.heap.IsKeyIter it d es.size es.size ep) (r:RawD s.heap d es ep)
  (q:∀h',Heap.ExtBut it s.heap h'→Q none {s with heap:=h'}):wpAny (model prog w) A (pyNext (.ref it)) Q E s:=by
 obtain⟨b,b0,bc,bd⟩:=id t
 obtain⟨o,e0,ec,ed⟩:=id r
 unfold pyNext
 refine wpAny_bind (wpAny_attempt (wpAny_callSpecial?_slot (name:=Str.ofString "__next__") t.typeIs PySem.F.slot_dict_keyiterator_next (wpAny_call_entry PySem.F.slot_dict_keyiterator_next t.typeIs PySem.F.entry_dict_keyiterator_next ?_ (PySem.F.args_dict_keyiterator_next_1 _))))
 refine wpAny_bind (wpAny_pure (wpAny_bind (wpAny_bind (wpAny_bind (wpAny_typeNameOfWhole_keyiter t.typeIs (wpAny_pure (wpAny_bind (wpAny_fieldsOf b0 bd ?_))))))))
 simp only[show Builtin.Dict_items.ownsTuple "dict_keyiterator"=false by decide,Bool.false_eq_true,if_false]
 show wpAny _ _ (if (Value.ref d == Value.none)=true then _ else _) _ _ s
 rw[if_neg (show ¬((Value.ref d == Value.none)=true) from Bool.false_ne_true)]
 refine wpAny_bind (wpAny_pure (wpAny_bind (wpAny_dictEntries e0 ed ?_)))
 rw[if_neg (by simp)]
 refine wpAny_bind (wpAny_pure (wpAny_bind (wpAny_dictEpoch e0 ed ?_)))
 rw[if_neg (by simp)]
 refine wpAny_pure ?_
 simp only[show ¬((es.size:Int) < 0) from by omega,if_false,Int.toNat_natCast,Array.getElem?_eq_none (Nat.le_refl es.size)]
 refine wpAny_bind (wpAny_bind (wpAny_typeNameOfWhole_keyiter t.typeIs (wpAny_pure ?_)))
 show wpAny _ _ (setField (.ref it) 0 .none >>= _) _ _ s
 refine wpAny_bind (wpAny_setField b0 bd (by simp) ?_)
 show wpAny _ _ (newExc (.type "StopIteration") [] >>= _) _ _ _
 refine wpAny_bind ?_
 simp only[newExc,newTuple]
 refine wpAny_bind (wpAny_newObj_type (wpAny_bind (m:=firstArgMember _ _) (wpAny_of_eq (a:=Value.none) (by first|rfl|(simp only[firstArgMember];rfl)) (wpAny_newObj_type ?_ (by size_fits)))) (by size_fits))
 simp only[raiseNew]
 refine wpAny_bind (wpAny_handled ?_)
 rw[show A.in1.handled=none from hh]
 refine wpAny_bind (wpAny_pure (wpAny_throw ?_))
 refine wpAny_bind (m:=isInstance _ _) (wpAny_isInstance (b:=true) (T:="StopIteration") ⟨_,Heap.get?_push_size _ rfl,rfl⟩ isSubtype_stop ?_)
 exact wpAny_pure (q _ (((Heap.SameBut.update ..).extBut.push _).push _))
theorem air (hh:A.handled=none) (I:Addr) (ne:d≠I):Walks prog w A I [I,d] [I] es.size (fun i v=>∃h:i < es.size,v=es[i].key) (fun i h=>h.IsKeyIter I d i es.size ep∧RawD h d es ep) where
 sub:=fun b hb=>List.mem_cons.mpr (.inl (List.mem_singleton.mp hb))
 frame:=fun _ _ _ x k=>⟨x.1.at fun o e=>k I (List.mem_cons_self ..) o e,x.2.kept fun o e=>k d (List.mem_cons_of_mem _ (List.mem_cons_self ..)) o e⟩
 item:=fun i s Q E hi x q=>akc x.1 x.2 hi fun h' t2 sb=>q _ h' s.toks ⟨hi,rfl⟩ ⟨t2,x.2.kept fun o e=>(sb.2 d ne).trans e⟩ fun b o hb e=>(sb.2 b fun z=>hb (List.mem_singleton.mpr z)).trans e
 done:=fun s Q E x q=>al2 hh x.1 x.2 fun h' eb=>q h' s.toks fun b o hb e=>eb b o (fun z=>hb (List.mem_singleton.mpr z)) e
 self:=fun _ _ _ _ x q=>wpAny_pyIter_keyiter x.1 q
theorem al3 (nd:(d == sysModules)=false):PySem.W.KdlSrc prog w "dict" d d es.size (fun i v=>∃h:i < es.size,v=es[i].key) (fun h=>RawD h d es ep) where
 type:=fun _ r=>r.ty
 there:=fun _ r=>⟨r.lt,r.lt⟩
 keep:=fun _ _ r k=>r.kept fun o e=>k d (.inl rfl) o e
 notList:=by decide
 notTuple:=by decide
 hint:=fun _ _ _ _ r q=>PySem.W.kdl_hint_dict r.ty q
 iter:=fun _ _ hh r=>⟨_,_,(fun _ _ q=>akb nd r q),air hh _ (Nat.ne_of_lt r.lt),⟨⟨_,Heap.get?_push_size _ rfl,rfl,rfl⟩,r.kept fun o e=>Heap.get?_push_of_some _ e⟩⟩
end
noncomputable def KysAt (H:Hp) (ks:List (List Key)) (vs:List V):Prop:=Paired (fun k v=>∃a,v=V.ref a∧H a=some (.tup (k.map kV))) ks vs
theorem kys_of {H:Hp} {kvs:List (List Key×V)} {ys:List (List Key×Addr×Value)} (r:KT H kvs ys):Vals (ys.map fun y=>V.ref y.2.1) (ys.map fun y=>Value.ref y.2.1)∧KysAt H (kvs.map (·.1)) (ys.map fun y=>V.ref y.2.1):=by
 induction r with
 |nil=>exact⟨.nil,.nil⟩
 |cons r t ih=>exact⟨.cons rfl ih.1,.cons ⟨_,rfl,r.2.1⟩ ih.2⟩
theorem afz {X:Cx} (hc:X.calm=true):CallR X (.type "list") (fun xs H Q=>∃p kvs,xs=[.ref p]∧H p=some (.dT kvs)∧∀l vs,H l=none→KysAt H (kvs.map (·.1)) vs→Q (.ref l) (upd H l (.lst vs))):=by
 intro pins s σ H xs us Q I r h
 obtain⟨p,kvs,rfl,hp,q⟩:=h
 obtain⟨u,rfl,ru⟩:=vals1 r
 cases ru
 obtain⟨z,nd,ys,rel,o,es,ep,e0,ec,ed,he,_⟩:=als I.hok hp
 have hsz:=size_of_entries he
 have hlen:=Paired.length rel
 refine PySem.W.kdl_call (al3 (es:=es) (ep:=ep) nd) (I.ok.hd hc) ⟨o,e0,ec,ed⟩ (by omega) fun h' tk acc c kp hl it=>?_
 have hv:∃vs,Vals vs acc.toList∧KysAt H (kvs.map (·.1)) vs:=by
  have hacc:acc.toList=ys.map fun y=>Value.ref y.2.1:=by
   refine List.ext_getElem? fun j=>?_
   rw[List.getElem?_map]
   by_cases c:j < es.size
   ·have hj:j < acc.toList.length:=by rw[Array.length_toList,it.1];exact c
    obtain⟨_,e⟩:=it.2 j _ (by rw[←Array.getElem?_toList];exact List.getElem?_eq_getElem hj)
    rw[List.getElem?_eq_getElem hj,e]
    have e3:=entry_at he j
    rw[Array.getElem?_eq_getElem c,List.getElem?_eq_getElem (by omega)] at e3
    have e3:=Option.some.inj e3
    rw[e3,List.getElem?_eq_getElem (by omega)]
    rfl
   ·rw[List.getElem?_eq_none (by rw[Array.length_toList,it.1];omega),List.getElem?_eq_none (by omega)]
    rfl
  rw[hacc]
  exact⟨_,kys_of rel⟩
 obtain⟨vs,rv,hk⟩:=hv
 have hvl:=rv.length
 have I2:=I.laid (t':=tk) kp (Nat.le_refl _) (show ObjOk X.prog X.w _ h' _ (.lst vs) from ⟨by rw[hvl,Array.length_toList,it.1];omega,acc.toList,c,rv,hl⟩)
 exact⟨.ref s.heap.objs.size,_,I2,rfl,q _ _ (I.hok.fresh (Nat.le_refl _)) hk⟩
end L2
namespace L2
open PySem PySem.Spec PyProof.Rows
section
variable {X:Cx}
end
end L2
namespace L2
open PySem PySem.Spec PyProof.Rows
end L2
namespace L2
open PySem PySem.Spec PyProof.Rows
end L2
namespace L2
open PySem PySem.Spec PyProof.Rows
section
variable {prog:Program} {w:World} {A:Around} {E:Value→Shared→Prop} {s:Shared}
end
end L2
namespace L2
open PySem PySem.Spec PyProof.Rows
noncomputable def tVarM (i:Nat):TE:=fun σ H Q=>match σ[i]? with
 |some (some v)=>Q v H
 |_=>False
theorem akd {i:Nat} {σ:St} {H:Hp} {Q:VK} (h:tVarM i σ H Q):tVar i σ H Q:=by
 unfold tVarM at h
 split at h
 ·rename_i v e;exact⟨v,e,h⟩
 ·exact h.elim
theorem pvM {X:Cx} (i:Nat) {x:Str} {pos:Pos} (hN:X.N[i]?=some x:=by rfl) (hv:Vis X.env.scope x:=by first|exact Or.inl rfl|exact Or.inr (Or.inl rfl)|exact Or.inr (Or.inr rfl)) (hd:(x == ("__debug__":Str))=false:=by decide)
 (hcd:(x == ("__classdict__":Str))=false:=by decide):PE X (.Name x pos) (tVarM i):=fun pins s σ H Q I h=>pe_var hN hv hd hcd pins s σ H Q I (akd h)
theorem rI0_ii {g:Int→Int→V} {i j:Int} {H:Hp} {Q:VK}:rI0 g (.int i) (.int j) H Q=Q (g i j) H:=propext ⟨fun ⟨_,_,e1,e2,h⟩=>by cases e1;cases e2;exact h,fun h=>⟨_,_,rfl,rfl,h⟩⟩
theorem rI_ii {C:Int→Int→Prop} {g:Int→Int→V} {i j:Int} {H:Hp} {Q:VK}:rI C g (.int i) (.int j) H Q=(C i j∧Q (g i j) H):=propext ⟨fun ⟨_,_,e1,e2,h⟩=>by cases e1;cases e2;exact h,fun h=>⟨_,_,rfl,rfl,h⟩⟩
theorem ex_int {c:Int} {P:Int→Prop}:(∃i,V.int c=V.int i∧P i)=P c:=propext ⟨fun ⟨_,e,h⟩=>by cases e;exact h,fun h=>⟨_,rfl,h⟩⟩
theorem ex_bl {c:Bool} {P:Bool→Prop}:(∃i,V.bl c=V.bl i∧P i)=P c:=propext ⟨fun ⟨_,e,h⟩=>by cases e;exact h,fun h=>⟨_,rfl,h⟩⟩
theorem ex_ref {c:Addr} {P:Addr→Prop}:(∃i,V.ref c=V.ref i∧P i)=P c:=propext ⟨fun ⟨_,e,h⟩=>by cases e;exact h,fun h=>⟨_,rfl,h⟩⟩
end L2
namespace L2
open PySem PySem.Spec PyProof.Rows
section
open PySem.Builtin PySem.Builtin.Str
end
end L2
namespace Hd
open PySem PySem.W PySem.Calls PyProof.Rows
noncomputable def runT (tb:String→Option Builtin) (p:Program) (w:World) (n0:Nat) (ann:Option Value):Nat→SharedT→Thread→Option SharedT
 |0,_,_=>none
 |n+1,s,t=>match through t with
  |true=>some s
  |false=>match stepOk n0 ann t with
   |false=>none
   |true=>match stepT (denote tb) p w s t with
    |some (s',t')=>runT tb p w n0 ann n s' t'
    |none=>none
theorem ais {tb:String→Option Builtin} {p:Program} {w:World} {n0:Nat} {ann:Option Value}:∀{n:Nat} {s r:SharedT} {t:Thread},runT tb p w n0 ann n s t=some r→topRun tb p w n0 ann n s.abs t=some r.abs
 |0,_,_,_,h=>by cases h
 |n+1,s,r,t,h=>by
  unfold runT at h
  unfold topRun
  cases he:through t with
  |true=>rw[he] at h;cases h;rfl
  |false=>
   rw[he] at h
   cases hk:stepOk n0 ann t with
   |false=>rw[hk] at h;cases h
   |true=>
    rw[hk] at h
    cases hs:stepT (denote tb) p w s t with
    |none=>rw[hs] at h;cases h
    |some x=>obtain⟨s2,t2⟩:=x;rw[hs] at h;rw[stepT_spec hs];exact ais h
noncomputable def grow:List Obj→Nat→BT→BT
 |[],_,t=>t
 |o::l,n,t=>grow l (n+1) (t.ins n o)
noncomputable def bootT (P:Params):BT:=grow (boot_heap P).objs.toList 0 .nil
noncomputable def bootS (w:World) (os:OsState):SharedT:=⟨bootT w.params,(boot_heap w.params).objs.size,(boot_heap w.params).life, #[],boot_drawn,boot_toks,os⟩
theorem ake (w:World) (os:OsState):(bootS w os).abs=⟨boot_heap w.params, #[],boot_drawn,boot_toks,os⟩:=by kernel_rfl
theorem ait (w:World):((boot_heap w.params).isNs mainGlobals&&(#[]:Array GenState).size == 0)=true:=by kernel_rfl
noncomputable abbrev ann0 (w:World):Option Value:=(boot_heap w.params).nsMap mainGlobals "__annotations__"
noncomputable def look {α:Type} (p:Program) (Yf:Shared→α) (H0:Heap) (s:Shared):Bool×α:=
 (staticsOk (importedModules p.main.body) H0 s.heap&&namesBound p s.heap&&gensDone s&&laidKept H0 s.heap,Yf s)
noncomputable def ran (p:Program) (N:Nat) (w:World) (os:OsState):Option SharedT:=runT treeTable p w (boot_heap w.params).objs.size (ann0 w) N (bootS w os) (topStub p)
noncomputable def once {α:Type} (p:Program) (Yf:Shared→α) (N:Nat) (w:World) (os:OsState):=(ran p N w os).map fun s=>look p Yf (boot_heap w.params) s.abs
noncomputable def seen (p q:Program) (loose:List Str) (Xt:Shared→Bool) (N:Nat) (w:World) (os:OsState):=(ran p N w os).map fun s=>openSeen q loose (importedModules p.main.body) Xt true s.abs
theorem aiu {p q:Program} {loose:List Str} {Xt:Shared→Bool} {α:Type} {Yf:Shared→α} {Ya:World→α} {N:Nat}
  (e:opening p=plainProg p.main.scope.names) (hN:Nat.ble 600 N=true) (f:∀s,fenceModules? p s=some s)
  (one:∀(w:World) (os:OsState),once p Yf N w os=some (true,Ya w)) (two:∀(w:World) (os:OsState),seen p q loose Xt N w os=some (openGood q loose)):LeftO p q loose Xt Yf Ya N:=fun w=>by
 obtain⟨⟨h,gs,d,k,os⟩,e1,e2⟩:=Option.map_eq_some_iff.mp (boot_open e hN f w)
 obtain⟨rfl,rfl,rfl,rfl⟩:h=boot_heap w.params∧gs= #[]∧d=boot_drawn∧k=boot_toks:=by simpa using e2
 obtain⟨sT,r,l⟩:=Option.map_eq_some_iff.mp (one w os)
 obtain⟨sT',r',l2⟩:=Option.map_eq_some_iff.mp (two w os)
 obtain rfl:sT=sT':=Option.some.inj (r.symm.trans r')
 have r:=ais r
 rw[ake] at r
 obtain⟨l1,l3⟩:_∧_:=by simpa only[look,Prod.mk.injEq] using l
 have t:topFrom treeTable p w N ⟨boot_heap w.params, #[],boot_drawn,boot_toks,os⟩=some sT.abs:=by
  unfold topFrom
  dsimp only
  rw[ait w,r]
  show (match staticsOk (importedModules p.main.body) (boot_heap w.params) sT.abs.heap&&namesBound p sT.abs.heap&&gensDone sT.abs&&laidKept (boot_heap w.params) sT.abs.heap with|true=>_|false=>_)=_
  rw[l1]
 unfold openEnds
 rw[e1]
 show (topFrom treeTable p w N _).map _=_
 rw[t]
 exact congrArg some (Prod.ext l2 l3)
end Hd
namespace Hd
open PySem PySem.W
noncomputable def dig:Nat→Nat→List Nat
 |0,_=>[]
 |k+1,n=>match Nat.beq n 0 with
  |true=>[]
  |false=>Nat.sub (n % 256) 1::dig k (n / 256)
noncomputable def S (n:Nat):Str:=⟨⟨dig 200 n⟩⟩
noncomputable def ent (P:Params) (x:Str) (t:Nat) (v:Value):DictEntry:=⟨PyData.keyHash P x,.str x t,v⟩
noncomputable def dO (n:Nat) (l:List DictEntry):Obj:=⟨.type "dict",none,.dict ⟨l⟩ n, #[]⟩
noncomputable def tO (l:List Value):Obj:=⟨.type "tuple",none,.seq ⟨l⟩ 0, #[]⟩
noncomputable def cO (l:List Value):Obj:=⟨.type "code",none,.fields ⟨l⟩, #[]⟩
end Hd
namespace Hd
open PySem PySem.W PySem.Calls PyProof.Rows
noncomputable def goT (tb:String→Option Builtin) (p:Program) (w:World) (n0:Nat) (ann:Option Value):Nat→SharedT→Thread→Option (SharedT×Thread)
 |0,s,t=>some (s,t)
 |n+1,s,t=>match through t with
  |true=>none
  |false=>match stepOk n0 ann t with
   |false=>none
   |true=>match stepT (denote tb) p w s t with
    |some (s',t')=>goT tb p w n0 ann n s' t'
    |none=>none
end Hd
namespace Hd
open PySem PySem.W PySem.Calls PyProof.Rows
theorem tw_run:(fun (_:(String→Option Builtin)→Program→World→Nat→Option Value→Nat→SharedT→Thread→Option SharedT)=>true) runT=true:=by k_qdec
theorem tw_go:(fun (_:(String→Option Builtin)→Program→World→Nat→Option Value→Nat→SharedT→Thread→Option (SharedT×Thread))=>true) goT=true:=by k_qdec
theorem tw_boot:(fun (_:World→OsState→SharedT) (_:World→Option Value)=>true) bootS ann0=true:=by k_qdec
theorem tw_look:(fun (_:{α:Type}→Program→(Shared→α)→Heap→Shared→Bool×α)=>true) @look=true:=by k_qdec
theorem tw_once:(fun (_:{α:Type}→Program→(Shared→α)→Nat→World→OsState→Option (Bool×α))=>true) @once=true:=by k_qdec
theorem tw_seen:(fun (_:Program→Program→List Str→(Shared→Bool)→Nat→World→OsState→Option _)=>true) seen=true:=by k_qdec
end Hd
namespace L2
open PySem PySem.Spec PyProof.Rows
structure RoomH (k:Nat) (A:Around):Prop where
 dp:A.depth+3 * k+5 < recursionLimit
 un:A.units+16 * k+200 < cLine
theorem Room.h {k:Nat} {A:Around} (r:Room k A):RoomH k A:=⟨r.dp,r.un⟩
theorem RoomH.deeper {k:Nat} {A:Around} (r:RoomH (k+1) A) (env:Env):RoomH k (A.deeper env):=
 ⟨by have:=r.dp;show A.depth+1+3 * k+5 < _;omega,by have:=r.un;show A.units+3+16 * k+200 < _;omega⟩
noncomputable def cxOfH (P:Program) (w:World) (K:PySem.W.Frag) (mg:Str→Option Value) (base:Heap) (N:List Str) (qual:Str) (scope:Scope) (f:Addr) (cd:Value) (A:Around) (outer:List Env) (s:Shared) (H:Hp) (E:XK):Cx:=
 {cxOf (CXe P w) P w K mg base N qual scope f cd A outer s H E with calm:=false}
theorem al4 {P:Program} {w:World} {K:PySem.W.Frag} {mg:Str→Option Value} {base:Heap} {N:List Str} {qual:Str} {scope:Scope} {f:Addr} {cd:Value} {A:Around} {outer:List Env} {s:Shared} {H:Hp} {E:XK}:(cxOfH P w K mg base N qual scope f cd A outer s H E).K=K:=rfl
end L2
namespace L2
open PySem PySem.Spec PyProof.Rows
noncomputable def BindsK (K:PySem.W.Frag) (fd:FuncData) (ps ks:List Str):Prop:=∀(s:Shared) (us:List Value) (a b:Value),K.In s.heap→us.length+2=ps.length→BindsTo s fd ⟨us,ks.zip [a,b]⟩ (ps.zip (us++[b,a]))
noncomputable def RawMK (K:PySem.W.Frag) (C:Addr) (m qual:Str) (st:Stmt) (ps ks:List Str):Prop:=∃f fd,Meth K C m f∧FunD K m qual st f fd∧BindsK K fd ps ks
noncomputable def HaveMK (P:Program) (w:World) (K:PySem.W.Frag) (mg:Str→Option Value) (base:Heap) (C:Addr) (m:Str) (k:Nat) (ps ks:List Str) (sp:Sp):Prop:=
 ∃f fd,Meth K C m f∧BindsK K fd ps ks∧FnOk P w K mg base (CXe P w) k f fd ps sp
theorem RawMK.have {P:Program} {w:World} {K:PySem.W.Frag} {mg:Str→Option Value} {base:Heap} {C:Addr} {m qual:Str} {st:Stmt} {N ps ks:List Str} {k:Nat} {sp:Sp} (R:RawMK K C m qual st ps ks) (S:FnScope N ps (defScope st)) (len:∀vs H Q E,sp vs H Q E→vs.length=ps.length)
  (hbody:Body P w K mg base qual st N k sp):HaveMK P w K mg base C m (k+1) ps ks sp:=
 let ⟨f,fd,hm,F,hb⟩:=R
 ⟨f,fd,hm,hb,F.okE S len hbody⟩
end L2
namespace L2
open PySem PySem.Spec PyProof.Rows
end L2
namespace L2
open PySem PySem.Spec PyProof.Rows
end L2
namespace L2
open PySem PySem.Spec PyProof.Rows
section
variable {prog:Program} {w:World} {A:Around} {E:Value→Shared→Prop} {s:Shared}
end
section
variable {X:Cx}
end
end L2
namespace L2
open PySem PySem.Spec PyProof.Rows
section
variable {prog:Program} {w:World} {A:Around} {E:Value→Shared→Prop} {s:Shared}
end
section
variable {X:Cx}
end
end L2
namespace L2
open PySem PySem.Spec PyProof.Rows
section
variable {X:Cx} {pins:List (Addr×Obj)} {σ:List (Option V)} {H:Hp} {s:Shared} {a:Addr}
end
end L2
namespace L2
open PySem PySem.Spec PyProof.Rows
section
open PySem.W
noncomputable def In (p:Array Nat) (n:Nat):Prop:=0 < n∧∀x∈p.toList,x < n
theorem In.at {p:Array Nat} {n:Nat} (h:In p n) (i:Nat):p.getD i 0 < n:=by
 rw[Array.getD_eq_getD_getElem?]
 cases e:p[i]? with
 |none=>exact h.1
 |some x=>exact h.2 x (List.mem_of_getElem? (by rw[Array.getElem?_toList];exact e))
structure Od (lt:Nat→Nat→Bool) (n:Nat):Prop where
 tr:∀i j k,i < n→j < n→k < n→lt i j=true→lt j k=true→lt i k=true
 ir:∀i,i < n→lt i i=false
 to:∀i j,i < n→j < n→i≠j→lt i j=true∨lt j i=true
variable {lt:Nat→Nat→Bool} {n:Nat}
structure Pm (p:Array Nat) (n:Nat):Prop where
 sz:p.size=n
 lt:∀i,i < n→p.getD i 0 < n
 ne:∀i j,i < n→j < n→i≠j→p.getD i 0≠p.getD j 0
 pe:p.Perm (List.range n).toArray
end
end L2
namespace L2
open PySem PySem.Spec PyProof.Rows
section
variable {prog:Program} {w:World} {A:Around} {E:Value→Shared→Prop} {s:Shared}
end
end L2
namespace L2
open PySem PySem.Spec PyProof.Rows
end L2
namespace L2
open PySem PySem.Spec PyProof.Rows
section
variable {prog:Program} {w:World} {K:Type} [DecidableEq K] {knd:HeapKind prog w K} {A:Around} {E:Value→Shared→Prop} {s:Shared}
end
end L2
namespace L2
open PySem PySem.Spec PyProof.Rows
end L2
namespace L2
open PySem PySem.Spec PyProof.Rows
end L2
namespace L2
open PySem PySem.Spec PyProof.Rows
section
variable {M:Model} {A:Around} {E:Value→Shared→Prop} {s:Shared} {env:Env}
end
section
variable {M:Model} {A:Around} {E:Value→Shared→Prop} {s:Shared} {env:Env}
end
section
variable {X:Cx}
end
end L2
namespace L2
open PySem PySem.Spec PyProof.Rows
section
variable {prog:Program} {w:World} {A:Around} {E:Value→Shared→Prop} {s:Shared}
end
section
variable {prog:Program} {w:World} {A:Around} {E:Value→Shared→Prop} {s:Shared}
end
section
variable {X:Cx}
end
end L2
namespace L2
open PySem PySem.Spec PyProof.Rows
noncomputable def setO (a:Addr) (n:Nat):HO:=.ext fun h=>∃o es ep t,h.get? a=some o∧o.ExactSet∧o.data=.set es ep t∧t.fits es.size=true∧es.size=n
theorem aiv {X:Cx}:CallR X (.builtin "len") (fun xs H Q=>∃(a:Addr) (n:Nat),xs=[.ref a]∧H a=some (setO a n)∧n < 4096∧Q (.int n) H):=by
 intro pins s σ H xs us Q I r h
 obtain⟨a,n,rfl,ha,hn,q⟩:=h
 obtain⟨u,rfl,rx⟩:=vals1 r
 cases rx
 obtain⟨⟨o,es,ep,t,g1,g2,g3,g4,rfl⟩,_⟩:=(show ObjOk X.prog X.w H s.heap a (setO a n) from I.hok a _ ha)
 exact call_len_set g1 g2 g3 g4 (by omega) ⟨.int es.size,H,I.tok _,⟨_,rfl⟩,q⟩
end L2
namespace L2
open PySem PySem.Spec PyProof.Rows
section
variable {K:PySem.W.Frag} {h:Heap} {mg:Str→Option Value} {x qual:Str} {st:Stmt} {ps:List Str} {C f:Addr} {oc:Value} {od an:Option Addr} {osl:Array (Option Value)} {kV doc pm cdv ct:Value}
noncomputable def GF (K:PySem.W.Frag) (x:Str) (st:Stmt):Prop:=∃f fd,PySem.W.nsIn K mainGlobals x=some (some (.ref f))∧Fun K x x st f fd
theorem GF.mk (a:PySem.W.nsIn K mainGlobals x=some (some (.ref f))) (l:K.lookup f=some ⟨oc,od,.func (PySem.W.fnOf x x (defArgs st) (defBody st) (defScope st) .none kV doc pm an cdv ct),osl⟩) (c:PySem.W.codeIn K cdv x=true) (k:PySem.W.keepIn K (.ref f)=true):GF K x st:=⟨_,_,a,aib l c k⟩
theorem GF.raw (g:GF K x st) (X:K.In h) (G:h.Ns mainGlobals mg) (b:∀(kV doc pm:Value) (an:Option Addr) (cdv ct:Value) (us:List Value),us.length=ps.length→bindArgs (PySem.W.fnOf x x (defArgs st) (defBody st) (defScope st) .none kV doc pm an cdv ct) ⟨us,[]⟩=pure (ps.zip us)):Raw K mg x x st ps []:=
 let ⟨_,_,a,F⟩:=g
 ⟨_,_,_,PySem.W.mg_of X G a,F,F.binds b,.nil⟩
theorem GF.law (g:GF K x st) (X:K.In h) (G:h.Ns mainGlobals mg) {p:Str} (b:∀(kV doc pm:Value) (an:Option Addr) (cdv ct u:Value),bindArgs (PySem.W.fnOf x x (defArgs st) (defBody st) (defScope st) .none kV doc pm an cdv ct) ⟨[u],[]⟩=pure [(p,u)]):∃f fd,mg x=some (.ref f)∧Fun K x x st f fd∧∀(s:Shared) (u:Value),BindsTo s fd ⟨[u],[]⟩ [(p,u)]:=by
 obtain⟨f,fd,a,F⟩:=g
 refine⟨f,fd,PySem.W.mg_of X G a,F,fun s u=>?_⟩
 obtain⟨oc,od,kV,doc,pm,an,cdv,ct,osl,rfl,lk,hcd⟩:=F.ex
 exact .of_eq (b ..)
noncomputable def MF (K:PySem.W.Frag) (C:Addr) (x qual:Str) (st:Stmt):Prop:=∃f fd,Meth K C x f∧Fun K x qual st f fd
theorem MF.mk (a:PySem.W.findIn K (.ref C) x=some (some (.ref f))) (i:PySem.W.isFn K (.ref f)=true) (l:K.lookup f=some ⟨oc,od,.func (PySem.W.fnOf x qual (defArgs st) (defBody st) (defScope st) .none kV doc pm an cdv ct),osl⟩) (c:PySem.W.codeIn K cdv qual=true) (k:PySem.W.keepIn K (.ref f)=true):MF K C x qual st:=⟨_,_,⟨a,i,k⟩,aib l c k⟩
theorem MF.raw (g:MF K C x qual st) (b:∀(kV doc pm:Value) (an:Option Addr) (cdv ct:Value) (us:List Value),us.length=ps.length→bindArgs (PySem.W.fnOf x qual (defArgs st) (defBody st) (defScope st) .none kV doc pm an cdv ct) ⟨us,[]⟩=pure (ps.zip us)):RawM K C x qual st ps []:=
 let ⟨_,_,a,F⟩:=g
 ⟨_,_,_,a,F,F.binds b,.nil⟩
noncomputable def IF (K:PySem.W.Frag) (C:Addr) (qual:Str) (st:Stmt):Prop:=∃f fd,Mk K C f∧Fun K "__init__" qual st f fd
theorem IF.mk (m:PySem.W.makesIn K C=true) (kc:PySem.W.keepIn K (.ref C)=true) (a:PySem.W.findIn K (.ref C) "__init__"=some (some (.ref f))) (i:PySem.W.isFn K (.ref f)=true) (l:K.lookup f=some ⟨oc,od,.func (PySem.W.fnOf "__init__" qual (defArgs st) (defBody st) (defScope st) .none kV doc pm an cdv ct),osl⟩) (c:PySem.W.codeIn K cdv qual=true) (k:PySem.W.keepIn K (.ref f)=true):IF K C qual st:=⟨_,_,⟨m,a,i,kc⟩,aib l c k⟩
theorem IF.raw (g:IF K C qual st) (X:K.In h) (G:h.Ns mainGlobals mg) (n:PySem.W.nsIn K mainGlobals x=some (some (.ref C))) (b:∀(kV doc pm:Value) (an:Option Addr) (cdv ct:Value) (us:List Value),us.length=ps.length→bindArgs (PySem.W.fnOf "__init__" qual (defArgs st) (defBody st) (defScope st) .none kV doc pm an cdv ct) ⟨us,[]⟩=pure (ps.zip us)):RawI K mg x C qual st ps []:=
 let ⟨_,_,a,F⟩:=g
 ⟨_,_,_,PySem.W.mg_of X G n,a,F,F.binds b,.nil⟩
end
end L2
namespace L2
open PySem PySem.Spec PyProof.Rows
namespace ST
noncomputable def stp (m i:Nat):Nat:=(i * 5+1) % (m+1)
noncomputable def orb (m:Nat):Nat→Nat→List Nat
 |0,_=>[]
 |k+1,i=>i::orb m k (stp m i)
theorem cov7:∀i,i < 8→∀j,j < 8→j∈orb 7 8 i:=by decide
theorem cov31:∀i,i < 32→∀j,j < 32→j∈orb 31 32 i:=by decide+kernel
noncomputable def stpN (m:Nat):Nat→Nat→Nat
 |0,i=>i
 |k+1,i=>stpN m k (stp m i)
theorem aiw {m j:Nat}:∀{k i:Nat},j∈orb m k i→∃n,n < k∧stpN m n i=j
 |0,_,h=>by cases h
 |k+1,i,h=>by
  rcases List.mem_cons.mp h with h|h
  ·exact⟨0,by omega,h.symm⟩
  ·obtain⟨n,h1,h2⟩:=aiw h
   exact⟨n+1,by omega,h2⟩
noncomputable def Mk (m:Nat):Prop:=m=7∨m=31
theorem cov {m:Nat} (hm:Mk m) {i j:Nat} (hi:i≤m) (hj:j≤m):∃n,n≤m∧stpN m n i=j:=by
 rcases hm with rfl|rfl
 ·obtain⟨n,h1,h2⟩:=aiw (cov7 i (by omega) j (by omega));exact⟨n,by omega,h2⟩
 ·obtain⟨n,h1,h2⟩:=aiw (cov31 i (by omega) j (by omega));exact⟨n,by omega,h2⟩
noncomputable def lp (m:Nat):Nat→Nat×Nat→Nat×Nat
 |0,x=>x
 |k+1,x=>SetTable.leap m (lp m k x).1 (lp m k x).2
theorem lp_le {m:Nat} {x:Nat×Nat} (h:x.1≤m):∀k,(lp m k x).1≤m
 |0=>h
 |k+1=>by
  show (_ % (m+1))≤m
  have:=Nat.mod_lt ((lp m k x).1 * 5+1+(lp m k x).2 / 32) (show 0 < m+1 by omega)
  omega
theorem aix {m:Nat} {x:Nat×Nat}:∀k,(lp m k x).2=x.2 / 32 ^ k
 |0=>by show x.2=_;rw[Nat.pow_zero,Nat.div_one]
 |k+1=>by
  show (lp m k x).2 / 32=_
  rw[aix k,Nat.div_div_eq_div_mul,Nat.pow_succ]
theorem lp_far {m:Nat} {x:Nat×Nat} (hx:x.2 < 2 ^ 64) {k:Nat} (hk:13≤k):(lp m k x).2=0:=by
 rw[aix]
 apply Nat.div_eq_of_lt
 have:(32:Nat) ^ 13≤32 ^ k:=Nat.pow_le_pow_right (by omega) hk
 have e:(32:Nat) ^ 13=2 ^ 65:=by decide
 omega
theorem afh {m:Nat}:∀{n i:Nat},stpN m (n+1) i=stp m (stpN m n i)
 |0,_=>rfl
 |n+1,i=>afh (n:=n) (i:=stp m i)
theorem ak4 {m:Nat} {x:Nat×Nat} (hx:x.2 < 2 ^ 64):∀n,(lp m (13+n) x).1=stpN m n (lp m 13 x).1
 |0=>rfl
 |n+1=>by
  rw[afh,←ak4 hx n]
  show ((lp m (13+n) x).1 * 5+1+(lp m (13+n) x).2 / 32) % (m+1)=_
  rw[lp_far hx (by omega)]
  rfl
theorem ak5 {m:Nat} (hm:Mk m) {x:Nat×Nat} (h:x.1≤m) (hx:x.2 < 2 ^ 64) {j:Nat} (hj:j≤m):∃k,k≤13+m∧(lp m k x).1=j:=by
 obtain⟨n,h1,h2⟩:=cov hm (lp_le h 13) hj
 exact⟨13+n,by omega,by rw[ak4 hx];exact h2⟩
theorem aiy (h:Int):SetTable.bits h < 2 ^ 64:=by unfold SetTable.bits;omega
noncomputable def adv (t:SetTable):Nat→SetTable.Probe→SetTable.Probe
 |0,p=>p
 |k+1,p=>adv t k (t.advance p)
theorem ael {t:SetTable}:∀{a b:Nat} {p:SetTable.Probe},adv t (a+b) p=adv t b (adv t a p)
 |0,b,p=>by rw[Nat.zero_add];rfl
 |a+1,b,p=>by rw[show a+1+b=(a+b)+1 by omega];exact ael (a:=a) (p:=t.advance p)
noncomputable def lead (t:SetTable) (x:Nat×Nat):SetTable.Probe:=⟨x.1,SetTable.runEnd t.mask x.1 - x.1,x.1,x.2,none⟩
theorem aiz {t:SetTable}:∀{r j i q:Nat} {d:Option Nat},adv t r ⟨j,r,i,q,d⟩=⟨j+r,0,i,q,d⟩
 |0,_,_,_,_=>rfl
 |r+1,j,i,q,d=>by
  show adv t r (t.advance ⟨j,r+1,i,q,d⟩)=_
  have:t.advance ⟨j,r+1,i,q,d⟩=⟨j+1,r,i,q,d⟩:=by unfold SetTable.advance;rw[if_pos (Nat.succ_pos r)];rfl
  rw[this,aiz]
  congr 1
  omega
theorem akf {t:SetTable} {j i q:Nat}:t.advance ⟨j,0,i,q,none⟩=lead t (SetTable.leap t.mask i q):=by
 unfold SetTable.advance
 rw[if_neg (Nat.lt_irrefl 0)]
 rfl
theorem run_le (m i:Nat):SetTable.runEnd m i - i≤9:=by unfold SetTable.runEnd;split<;>omega
theorem agg {t:SetTable} {x:Nat×Nat}:∀k,∃n,n≤10 * k∧adv t n (lead t x)=lead t (lp t.mask k x)
 |0=>⟨0,Nat.le_refl _,rfl⟩
 |k+1=>by
  obtain⟨n,h1,h2⟩:=agg (t:=t) (x:=x) k
  have h3:=run_le t.mask (lp t.mask k x).1
  refine⟨n+(SetTable.runEnd t.mask (lp t.mask k x).1 - (lp t.mask k x).1+1),by omega,?_⟩
  rw[ael,h2,ael]
  show t.advance (adv t _ _)=_
  unfold lead
  rw[aiz,akf]
  rfl
theorem afi {t:SetTable} {j i:Nat} (h:t.slot j=.live i):t.place[i]?=some j:=by
 unfold SetTable.slot at h
 dsimp only at h
 split at h
 ·rename_i e
  injection h with h
  subst h
  exact eq_of_beq e
 ·split at h<;>cases h
theorem agh {t:SetTable} (hd:t.dummies= #[]) {j:Nat}:t.slot j≠.dummy:=by
 intro h
 unfold SetTable.slot at h
 dsimp only at h
 split at h
 ·cases h
 ·split at h
  ·rename_i e
   unfold SetTable.has at e
   rw[hd] at e
   simp at e
  ·cases h
theorem ai0 {t:SetTable} (hd:t.dummies= #[]) (hn:t.place.size≤t.mask):∃j,j≤t.mask∧t.slot j=.empty:=by
 apply Classical.byContradiction
 intro hno
 have live:∀j,j≤t.mask→∃i:Nat,i < t.place.size∧t.place[i]?=some j:=fun j hj=>by
  cases e:t.slot j with
  |empty=>exact absurd ⟨j,hj,e⟩ hno
  |dummy=>exact absurd e (agh hd)
  |live i=>
   have h1:=afi e
   exact⟨i,(Array.getElem?_eq_some_iff.mp h1).1,h1⟩
 have sub:List.range (t.mask+1) ⊆ t.place.toList:=fun j hj=>by
  obtain⟨i,hi,e⟩:=live j (by have:=List.mem_range.mp hj;omega)
  rw[←Array.getElem?_toList] at e
  exact List.mem_of_getElem? e
 have:=(List.nodup_range (n:=t.mask+1)).length_le_of_subset sub
 rw[List.length_range,Array.length_toList] at this
 omega
theorem al5 {t:SetTable} (hm:Mk t.mask) (hd:t.dummies= #[]) (hn:t.place.size≤t.mask) (h:Int):∃n,n≤10 * (13+t.mask)∧t.slot (adv t n (t.probeStart h)).j=.empty:=by
 obtain⟨j,hj,e⟩:=ai0 hd hn
 have e0:t.probeStart h=lead t (SetTable.bits h % (t.mask+1),SetTable.bits h):=rfl
 have h1:SetTable.bits h % (t.mask+1)≤t.mask:=by
  have:=Nat.mod_lt (SetTable.bits h) (show 0 < t.mask+1 by omega)
  omega
 obtain⟨k,hk,e1⟩:=ak5 hm (x:=(SetTable.bits h % (t.mask+1),SetTable.bits h)) h1 (aiy h) hj
 obtain⟨n,hn,e2⟩:=agg (t:=t) (x:=(SetTable.bits h % (t.mask+1),SetTable.bits h)) k
 refine⟨n,by omega,?_⟩
 rw[e0,e2]
 show t.slot (lp t.mask k _).1=_
 rw[e1]
 exact e
theorem ai1 {t:SetTable} {p:SetTable.Probe} (h:p.dummy=none):(t.advance p).dummy=none:=by
 unfold SetTable.advance
 split
 ·exact h
 ·exact h
theorem ahp {t:SetTable} (hd:t.dummies= #[]) {hashAt:Nat→Int} {h:Int}:∀{n fuel:Nat} {p:SetTable.Probe},n < fuel→p.dummy=none→t.slot (adv t n p).j=.empty→
  (∃j,SetTable.probe.go t hashAt h fuel p=some (.empty j none))∨∃j i m,m < n∧SetTable.probe.go t hashAt h fuel p=some (.candidate j i (adv t (m+1) p))∧t.slot j=.live i∧(adv t (m+1) p).dummy=none∧t.slot (adv t (n - (m+1)) (adv t (m+1) p)).j=.empty
 |n,fuel+1,p,hf,hp,he=>by
  unfold SetTable.probe.go
  cases e:t.slot p.j with
  |empty=>dsimp only;exact .inl ⟨p.j,by rw[hp]⟩
  |dummy=>exact absurd e (agh hd)
  |live i=>
   dsimp only
   have hn:n≠0:=fun z=>by subst z;rw[show adv t 0 p=p from rfl,e] at he;cases he
   obtain⟨m,rfl⟩:∃m,n=m+1:=⟨n - 1,by omega⟩
   by_cases q:(hashAt i == h)=true
   ·rw[if_pos q]
    refine .inr ⟨p.j,i,0,by omega,rfl,e,ai1 hp,?_⟩
    rw[←ael,show 0+1+(m+1 - (0+1))=m+1 by omega]
    exact he
   ·rw[if_neg q]
    rcases ahp hd (n:=m) (fuel:=fuel) (p:=t.advance p) (by omega) (ai1 hp) he with h1|⟨j,i',m',a1,a2,a3,a4,a5⟩
    ·exact .inl h1
    ·refine .inr ⟨j,i',m'+1,by omega,a2,a3,a4,?_⟩
     rw[show m+1 - (m'+1+1)=m - (m'+1) by omega]
     exact a5
theorem agi {m:Nat} {x:Nat×Nat}:∀n,lp m (n+1) x=lp m n (SetTable.leap m x.1 x.2)
 |0=>rfl
 |n+1=>by
  show SetTable.leap m (lp m (n+1) x).1 (lp m (n+1) x).2=_
  rw[agi n]
  rfl
theorem ai2 {m:Nat} {ow:Array (Option Nat)}:∀{n fuel:Nat} {x:Nat×Nat},n < fuel→ow.getD (lp m n x).1 (some 0)=none→∃j,SetTable.layClean.free m ow fuel x.1 x.2=some j∧ow.getD j (some 0)=none
 |n,fuel+1,x,hf,he=>by
  unfold SetTable.layClean.free
  cases e:(List.range (SetTable.runEnd m x.1+1 - x.1)).find? fun k=>(ow.getD (x.1+k) (some 0)).isNone with
  |some k=>
   have h1:=List.find?_some e
   exact⟨_,rfl,Option.isNone_iff_eq_none.mp h1⟩
  |none=>
   dsimp only
   cases n with
   |zero=>
    exfalso
    have h1:=List.find?_eq_none.mp e 0 (List.mem_range.mpr (by unfold SetTable.runEnd;split<;>omega))
    apply h1
    rw[Nat.add_zero]
    exact Option.isNone_iff_eq_none.mpr he
   |succ n=>
    rw[agi] at he
    exact ai2 (x:=SetTable.leap m x.1 x.2) (by omega) he
structure Ow (m:Nat) (ow:Array (Option Nat)) (js:List Nat):Prop where
 sz:ow.size=m+1
 nd:js.Nodup
 le:∀j∈js,j≤m
 at_:∀j,j≤m→ow[j]?=some (if j∈js then some (js.idxOf j) else none)
theorem Ow.zero (m:Nat):Ow m (Array.replicate (m+1) none) []:=⟨by simp,.nil,(fun j h=>by cases h),fun j hj=>by
 rw[Array.getElem?_replicate,if_pos (by omega)];rfl⟩
theorem Ow.next {m:Nat} (hm:Mk m) {ow:Array (Option Nat)} {js:List Nat} (h:Ow m ow js) (hl:js.length≤m) (hs:Int):
  ∃j,SetTable.layClean.free m ow (SetTable.turns m) (SetTable.bits hs % (m+1)) (SetTable.bits hs)=some j∧Ow m (ow.setIfInBounds j (some js.length)) (js++[j]):=by
 have hno:∃j,j≤m∧j∉js:=by
  apply Classical.byContradiction
  intro hno
  have sub:List.range (m+1) ⊆ js:=fun j hj=>Classical.byContradiction fun q=>hno ⟨j,by have:=List.mem_range.mp hj;omega,q⟩
  have:=(List.nodup_range (n:=m+1)).length_le_of_subset sub
  rw[List.length_range] at this
  omega
 obtain⟨j0,hj0,hj1⟩:=hno
 have h1:SetTable.bits hs % (m+1)≤m:=by
  have:=Nat.mod_lt (SetTable.bits hs) (show 0 < m+1 by omega)
  omega
 obtain⟨k,hk,e1⟩:=ak5 hm (x:=(SetTable.bits hs % (m+1),SetTable.bits hs)) h1 (aiy hs) hj0
 obtain⟨j,e2,e3⟩:=ai2 (m:=m) (ow:=ow) (n:=k) (fuel:=SetTable.turns m) (x:=(SetTable.bits hs % (m+1),SetTable.bits hs)) (by unfold SetTable.turns;omega) (by
  rw[e1,Array.getD_eq_getD_getElem?,h.at_ j0 hj0,if_neg hj1];rfl)
 refine⟨j,e2,?_⟩
 have hjm:j≤m:=by
  apply Classical.byContradiction
  intro q
  rw[Array.getD_eq_getD_getElem?,Array.getElem?_eq_none (by rw[h.sz];omega)] at e3
  cases e3
 have hjn:j∉js:=fun q=>by
  rw[Array.getD_eq_getD_getElem?,h.at_ j hjm,if_pos q] at e3
  cases e3
 refine⟨by rw[Array.size_setIfInBounds];exact h.sz,?_,?_,fun i hi=>?_⟩
 ·rw[List.nodup_append]
  refine⟨h.nd,by simp,fun a ha b hb e=>?_⟩
  rw[List.mem_singleton.mp hb] at e
  exact hjn (e ▸ ha)
 ·intro i hi
  rcases List.mem_append.mp hi with q|q
  ·exact h.le i q
  ·rw[List.mem_singleton.mp q];exact hjm
 ·rw[Array.getElem?_setIfInBounds]
  by_cases q:j=i
  ·subst q
   rw[if_pos rfl,if_pos (by rw[h.sz];omega),if_pos (List.mem_append_right _ (List.mem_singleton.mpr rfl)),List.idxOf_append,if_neg hjn]
   simp
  ·rw[if_neg q,h.at_ i hi]
   by_cases r:i∈js
   ·rw[if_pos r,if_pos (List.mem_append_left _ r),List.idxOf_append,if_pos r]
   ·rw[if_neg r,if_neg]
    intro z
    rcases List.mem_append.mp z with z|z
    ·exact r z
    ·exact q (List.mem_singleton.mp z).symm
theorem agj {m:Nat} (hm:Mk m):∀(hs:List Int) (ow:Array (Option Nat)) (js:List Nat),Ow m ow js→js.length+hs.length≤m+1→
  ∃ow' js',(hs.foldl (fun (acc:Option (Array (Option Nat)×Nat)) h=>do
   let (owner,k)←acc
   let j←SetTable.layClean.free m owner (SetTable.turns m) (SetTable.bits h % (m+1)) (SetTable.bits h)
   pure (owner.setIfInBounds j (some k),k+1)) (some (ow,js.length)))=some (ow',js'.length)∧Ow m ow' js'∧js'.length=js.length+hs.length
 |[],ow,js,h,_=>⟨ow,js,rfl,h,rfl⟩
 |x::hs,ow,js,h,hl=>by
  rw[List.length_cons] at hl
  obtain⟨j,e1,h1⟩:=h.next hm (by omega) x
  obtain⟨ow',js',e2,h2,h3⟩:=agj hm hs _ _ h1 (by rw[List.length_append];simp;omega)
  refine⟨ow',js',?_,h2,by rw[h3,List.length_append,List.length_cons];simp;omega⟩
  rw[List.foldl_cons]
  rw[List.length_append,List.length_singleton] at e2
  show List.foldl _ ((some (ow,js.length)).bind _) hs=_
  rw[Option.bind_some]
  dsimp only
  show List.foldl _ ((SetTable.layClean.free m ow (SetTable.turns m) (SetTable.bits x % (m+1)) (SetTable.bits x)).bind _) hs=_
  rw[e1,Option.bind_some]
  exact e2
theorem al6 {m:Nat} (hm:Mk m) {finger moves:Nat} {led plain:Bool} {hs:Array Int} (hl:hs.size≤m):
  ∃t order,SetTable.laid m finger moves led plain hs=some (t,order)∧t.mask=m∧t.place.size=hs.size∧t.dummies= #[]∧order.size=hs.size∧∀i∈order.toList,i < hs.size:=by
 obtain⟨ow,js,e,h,hlen⟩:=agj hm hs.toList _ _ (Ow.zero m) (by simp;omega)
 have e2:SetTable.layClean m hs=some ow:=by
  unfold SetTable.layClean
  rw[←Array.foldl_toList]
  show Option.map _ (List.foldl _ (some (_,([]:List Nat).length)) _)=_
  rw[e]
  rfl
 have hlen:js.length=hs.size:=by rw[hlen];simp
 have key:∀l:List Nat,(∀j∈l,j≤m)→l.filterMap (fun j=>(ow.getD j none).map (j,·))=(l.filter fun j=>decide (j∈js)).map fun j=>(j,js.idxOf j):=by
  intro l
  induction l with
  |nil=>intro _;rfl
  |cons j l ih=>
   intro hj
   have h0:ow.getD j none=if j∈js then some (js.idxOf j) else none:=by rw[Array.getD_eq_getD_getElem?,h.at_ j (hj j (List.mem_cons_self ..))];rfl
   by_cases q:j∈js
   ·rw[List.filterMap_cons,h0,if_pos q,List.filter_cons,if_pos (decide_eq_true q),List.map_cons,←ih fun i hi=>hj i (List.mem_cons_of_mem _ hi)]
    rfl
   ·rw[List.filterMap_cons,h0,if_neg q,List.filter_cons,if_neg (by simpa using q),←ih fun i hi=>hj i (List.mem_cons_of_mem _ hi)]
    rfl
 have hk:=key (List.range (m+1)) (fun j hj=>by have:=List.mem_range.mp hj;omega)
 have hcnt:((List.range (m+1)).filter fun j=>decide (j∈js)).length=js.length:=by
  refine ((List.perm_ext_iff_of_nodup ((List.nodup_range).filter _) h.nd).mpr fun j=>?_).length_eq
  rw[List.mem_filter,List.mem_range,decide_eq_true_eq]
  exact⟨fun z=>z.2,fun z=>⟨by have:=h.le j z;omega,z⟩⟩
 unfold SetTable.laid
 rw[e2]
 refine⟨_,_,rfl,rfl,?_,rfl,?_,?_⟩
 ·try dsimp only
  rw[hk,List.size_toArray,List.length_map,List.length_map,hcnt,hlen]
 ·try dsimp only
  rw[hk,List.size_toArray,List.length_map,List.length_map,hcnt,hlen]
 ·intro i hi
  try dsimp only at hi
  rw[hk,List.map_map] at hi
  obtain⟨j,hj,rfl⟩:=List.mem_map.mp hi
  have:=of_decide_eq_true (List.mem_filter.mp hj).2
  show js.idxOf j < _
  rw[←hlen]
  exact List.idxOf_lt_length_of_mem this
section
variable {prog:Program} {w:World} {A:Around} {E:Value→Shared→Prop} {s:Shared} {a:Addr} {o:Obj} {items:Array Value} {n:Nat} {Q:Bool→Shared→Prop}
theorem al7 (ho:s.heap.get? a=some o) (hc:o.cls=.type "tuple") (hd:o.data=.seq items n) (hi:∀v∈items.toList,v.scannable=true) (h:∀b,Q b s):wpAny (model prog w) A (hashByValue 8 (.ref a)) Q E s:=by
 unfold hashByValue
 refine wpAny_bind (wpAny_specialOf (T:="tuple") ⟨o,ho,hc⟩ F.slot_tuple_hash.lookup ?_)
 show wpAny _ _ (seqItems? (.ref a) >>= _) _ _ s
 refine wpAny_bind (wpAny_seqItems ho hd ?_)
 refine wpAny_bind ?_
 show wpAny _ _ (forIn items _ _) _ _ s
 rw[←Array.forIn_toList]
 refine wpAny_forIn_list _ (fun rest r s'=>r.1=none∧s'=s∧∀v∈rest,v.scannable=true) _ ?_ ?_ _ _ ⟨rfl,rfl,hi⟩
 ·rintro v rest r s' ⟨hr,rfl,hall⟩
  rw[hashByValue_scannable _ (hall v List.mem_cons_self)]
  refine wpAny_bind (wpAny_pure ?_)
  cases e:plainKind v with
  |true=>
   simp only[Bool.not_true,Bool.false_eq_true,if_false]
   exact wpAny_pure ⟨rfl,rfl,fun u hu'=>hall u (List.mem_cons_of_mem _ hu')⟩
  |false=>
   simp only[Bool.not_false,if_true]
   exact wpAny_pure (wpAny_pure (h false))
 ·rintro⟨r1,r2⟩ s' ⟨hr,rfl,_⟩
  simp only at hr
  subst hr
  exact wpAny_pure (h true)
theorem ai3 (ho:s.heap.get? a=some o) (hc:o.cls=.type "tuple") (hd:o.data=.seq items n) (hi:∀v∈items.toList,v.scannable=true) (h:Q false s):wpAny (model prog w) A (ofAClassStatement 8 (.ref a)) Q E s:=by
 unfold ofAClassStatement
 refine wpAny_bind (wpAny_typeOf (T:="tuple") ⟨o,ho,hc⟩ ?_)
 dsimp only
 rw[if_pos (by decide)]
 refine wpAny_bind (wpAny_pure ?_)
 simp only[Bool.not_true,Bool.false_eq_true,if_false]
 refine wpAny_bind (wpAny_seqItems ho hd ?_)
 dsimp only
 refine wpAny_bind ?_
 rw[←Array.forIn_toList]
 refine wpAny_forIn_list _ (fun rest r s'=>r.1=none∧s'=s∧∀v∈rest,v.scannable=true) _ ?_ ?_ _ _ ⟨rfl,rfl,hi⟩
 ·rintro v rest r s' ⟨hr,rfl,hall⟩
  have e:ofAClassStatement 7 v=pure false:=by
   have:=hall v List.mem_cons_self
   cases v<;>first|rfl|(unfold ofAClassStatement;rfl)|(simp[Value.scannable] at this)
  rw[e]
  refine wpAny_bind (wpAny_pure ?_)
  simp only[Bool.false_eq_true,if_false]
  exact wpAny_pure ⟨rfl,rfl,fun u hu'=>hall u (List.mem_cons_of_mem _ hu')⟩
 ·rintro⟨r1,r2⟩ s' ⟨hr,rfl,_⟩
  simp only at hr
  subst hr
  exact wpAny_pure h
end
section
variable {prog:Program} {w:World} {K:Type} [DecidableEq K] {knd:KeyKind prog w K} {A:Around} {E:Value→Shared→Prop} {s:Shared} {S a:Addr} {o:Obj} {es:Array (Int×Value)} {ep:Nat} {t:SetTable} {k:List K}
noncomputable def Sc (knd:KeyKind prog w K):Prop:=∀k v,knd.is k v=true→v.scannable=true
theorem adj (hsc:Sc knd):∀{ks:List K} {vs:List Value},ItemsAre knd ks vs→∀v∈vs,v.scannable=true
 |_,_,.nil,v,h=>by cases h
 |_,_,.cons h1 h2,v,h=>by
  rcases List.mem_cons.mp h with rfl|h
  ·exact hsc _ _ h1
  ·exact adj hsc h2 v h
theorem unseen {x:Value} (hx:∃a k,x=.ref a∧IsTupleKey knd s.heap k a) (hsc:Sc knd) {Q:Bool→Shared→Prop} (l:List Value) (hl:∀y∈l,∃b k',y=.ref b∧IsTupleKey knd s.heap k' b) (h:Q false s):wpAny (model prog w) A (searchCouldBeSeen x l) Q E s:=by
 obtain⟨a,k,rfl,ka⟩:=hx
 unfold searchCouldBeSeen
 refine wpAny_bind ?_
 refine wpAny_forIn_list _ (fun rest r s'=>r.1=none∧s'=s∧∀y∈rest,∃b k',y=.ref b∧IsTupleKey knd s.heap k' b) _ ?_ ?_ _ _ ⟨rfl,rfl,hl⟩
 ·rintro v rest r s' ⟨hr,rfl,hall⟩
  obtain⟨b,k',rfl,kb⟩:=hall v List.mem_cons_self
  have hrest:=fun u hu'=>hall u (List.mem_cons_of_mem _ hu')
  dsimp only
  split
  ·exact wpAny_pure ⟨rfl,rfl,hrest⟩
  ·refine wpAny_bind (wpAny_eqIsQuiet_tuple ka ?_)
   simp only[Bool.not_true,Bool.false_eq_true,if_false]
   refine wpAny_bind (wpAny_eqIsQuiet_tuple kb ?_)
   simp only[Bool.not_true,Bool.false_eq_true,if_false]
   obtain⟨oa,ia,na,ha1,ha2,ha3,ha4⟩:=ka
   obtain⟨ob,ib,nb,hb1,hb2,hb3,hb4⟩:=kb
   refine wpAny_bind (ai3 ha1 ha2 ha3 (adj hsc ha4) ?_)
   simp only[Bool.false_eq_true,if_false]
   refine wpAny_bind (ai3 hb1 hb2 hb3 (adj hsc hb4) ?_)
   simp only[Bool.false_eq_true,if_false]
   exact wpAny_pure ⟨rfl,rfl,hrest⟩
 ·rintro⟨r1,r2⟩ s' ⟨hr,rfl,_⟩
  simp only at hr
  subst hr
  exact wpAny_pure h
theorem ai4 (hsc:Sc knd) (hu:A.units < cLine) (ho:s.heap.get? S=some o) (hd:o.data=.set es ep t) (hf:t.fits es.size=true) (hm:Mk t.mask) (hdm:t.dummies= #[])
  (hes:∀e∈es.toList,∃k' b,e=(tupleKeyHash knd k',.ref b)∧IsTupleKey knd s.heap k' b∧k'≠k) (hx:IsTupleKey knd s.heap k a) {Q:SetFound→Shared→Prop} (h:∀j,Q (.free j false) s):
  ∀(n fuel:Nat) (stand:Option SetTable.Probe),n < fuel→n≤10 * (13+t.mask)→(stand.getD (t.probeStart (tupleKeyHash knd k))).dummy=none→t.slot (adv t n (stand.getD (t.probeStart (tupleKeyHash knd k)))).j=.empty→
   wpAny (model prog w) A (setSearchFrom S (.ref a) (tupleKeyHash knd k) true fuel stand) Q E s:=by
 intro n
 induction n using Nat.strongRecOn with
 |_ n ih=>
  intro fuel stand hn hb hp he
  obtain⟨fuel,rfl⟩:∃f,fuel=f+1:=⟨fuel - 1,by omega⟩
  have hps:t.place.size=es.size:=by
   simp only[SetTable.fits,Bool.and_eq_true,beq_iff_eq] at hf;exact hf.1
  unfold setSearchFrom
  refine wpAny_bind (wpAny_setState_of ho hd hf ?_)
  dsimp only
  have hg:t.gaveWay=false:=by unfold SetTable.gaveWay;rcases hm with e|e<;>rw[e]<;>decide
  rw[hg]
  simp only[Bool.false_eq_true,if_false]
  unfold SetTable.probe
  rcases ahp hdm (hashAt:=_) (h:=tupleKeyHash knd k) (fuel:=10 * SetTable.turns t.mask) (show n < 10 * SetTable.turns t.mask by unfold SetTable.turns;omega) hp he with ⟨j,e1⟩|⟨j,i,m,hmn,e1,e2,e3,e4⟩
  ·rw[e1]
   dsimp only
   exact wpAny_pure (h j)
  ·rw[e1]
   dsimp only
   have hi:=afi e2
   have hi1:i < es.size:=by rw[←hps];exact (Array.getElem?_eq_some_iff.mp hi).1
   obtain⟨k',b,e5,kb,hne⟩:=hes es[i] (by simp)
   have hei:es[i]?=some (tupleKeyHash knd k',.ref b):=by rw[Array.getElem?_eq_getElem hi1,e5]
   have main:wpAny (model prog w) A (do
     let equal←holding [Value.ref b] (eqBool (.ref b) (.ref a))
     let (es',_,t')←setState S
     if (true&&equal)=true then pure (SetFound.there none) else do
     let some same:=t'.sameMemory t.moves t.mask|unsupported "set.changed-during-lookup:is-the-new-block-at-the-old-address"
     let still←match (if same then t'.slot j else .empty) with
      |.live i'=>match es'[i']? with
       |some (_,y')=>do pure (if←isSame y' (.ref b) then some i' else none)
       |none=>pure none
      |_=>pure none
     match still with
     |none=>rule "set.search.anew";setSearchFrom S (.ref a) (tupleKeyHash knd k) true fuel none
     |some i'=>if equal then return .there (some i') else setSearchFrom S (.ref a) (tupleKeyHash knd k) true fuel (some (adv t (m+1) (stand.getD (t.probeStart (tupleKeyHash knd k)))))) Q E s:=by
    refine wpAny_bind (wpAny_holding (wpAny_eqBool_tuple hu kb hx ?_))
    rw[decide_eq_false hne]
    refine wpAny_bind (wpAny_setState_of ho hd hf ?_)
    dsimp only
    rw[if_neg (by simp)]
    have hsm:t.sameMemory t.moves t.mask=some true:=by unfold SetTable.sameMemory;simp
    rw[hsm]
    dsimp only
    rw[if_pos rfl,e2]
    dsimp only
    rw[hei]
    dsimp only
    refine wpAny_bind (wpAny_isSame_ref_self (wpAny_bind (wpAny_pure ?_)))
    simp only[if_true,Bool.false_eq_true,if_false]
    exact ih (n - (m+1)) (by omega) fuel _ (by omega) (by omega) e3 e4
   cases hl:t.led with
   |true=>
    simp only[Bool.not_true,Bool.false_eq_true,if_false]
    rw[hei]
    exact main
   |false=>
    simp only[Bool.not_false,if_true]
    refine wpAny_bind (unseen ⟨a,k,rfl,hx⟩ hsc _ (fun y hy=>?_) ?_)
    ·obtain⟨e,he,rfl⟩:=List.mem_map.mp hy
     rw[Array.toList_filter] at he
     obtain⟨k2,b2,e6,kb2,_⟩:=hes e (List.mem_filter.mp he).1
     exact⟨b2,k2,by rw[e6],kb2⟩
    ·simp only[Bool.false_eq_true,if_false]
     rw[hei]
     exact main
end
theorem agk {xs:Array Nat} {j:Nat}:SetTable.below xs j≤xs.size:=by
 have key:∀fuel lo hi,lo≤hi→SetTable.below.go xs j fuel lo hi≤hi:=by
  intro fuel
  induction fuel with
  |zero=>intro lo hi h;exact h
  |succ f ih=>
   intro lo hi h
   unfold SetTable.below.go
   split
   ·dsimp only
    split
    ·exact ih _ _ (by omega)
    ·exact Nat.le_trans (ih _ _ (by omega)) (by omega)
   ·exact h
 exact key _ _ _ (Nat.zero_le _)
theorem agl {α:Type} {xs:Array α} {p:Nat} {x:α} (h:p≤xs.size):(SetTable.insertAt xs p x).size=xs.size+1:=by
 unfold SetTable.insertAt
 rw[Array.size_append,Array.size_push,Array.size_extract,Array.size_extract]
 omega
theorem al8 {α:Type} {xs:Array α} {p:Nat} {x y:α} (h:y∈(SetTable.insertAt xs p x).toList):y=x∨y∈xs.toList:=by
 unfold SetTable.insertAt at h
 rw[Array.toList_append,Array.toList_push] at h
 rcases List.mem_append.mp h with h|h
 ·rcases List.mem_append.mp h with h|h
  ·rw[Array.toList_extract] at h
   exact .inr (List.mem_of_mem_drop (List.mem_of_mem_take h))
  ·exact .inl (List.mem_singleton.mp h)
 ·rw[Array.toList_extract] at h
  exact .inr (List.mem_of_mem_drop (List.mem_of_mem_take h))
theorem akg {j:Nat}:SetTable.has #[] j=false:=by unfold SetTable.has;simp
theorem al9 {α:Type} {es:Array α} {order:Array Nat} (h:∀i∈order.toList,i < es.size):(order.filterMap (es[·]?)).size=order.size∧∀e∈(order.filterMap (es[·]?)).toList,e∈es.toList:=by
 rw[←Array.length_toList,Array.toList_filterMap,←Array.length_toList]
 refine⟨?_,fun e he=>?_⟩
 ·generalize order.toList=l at *
  induction l with
  |nil=>rfl
  |cons i l ih=>
   have hi:=h i (List.mem_cons_self ..)
   rw[List.filterMap_cons,Array.getElem?_eq_getElem hi,List.length_cons,List.length_cons,ih fun i hi=>h i (List.mem_cons_of_mem _ hi)]
 ·obtain⟨i,_,hi⟩:=List.mem_filterMap.mp he
  rw[←Array.getElem?_toList] at hi
  exact List.mem_of_getElem? hi
section
variable {prog:Program} {w:World} {K:Type} [DecidableEq K] {knd:KeyKind prog w K} {A:Around} {E:Value→Shared→Prop} {s:Shared} {S a:Addr} {k:List K} {ks:List (List K)}
noncomputable def TB (knd:KeyKind prog w K) (h:Heap) (S:Addr) (ks:List (List K)):Prop:=∃o es ep t,h.get? S=some o∧o.ExactSet∧o.data=.set es ep t∧Mk t.mask∧t.dummies= #[]∧t.place.size=es.size∧es.size=ks.length∧(t.mask=7→es.size≤4)∧
 ∀e∈es.toList,∃k' b,k'∈ks∧e=(tupleKeyHash knd k',.ref b)∧IsTupleKey knd h k' b
theorem aem {h h':Heap} {o:Obj} {es ep t} (x:IsTupleKey knd h k a) (ho:h.get? S=some o) (hd:o.data=.set es ep t) (hs:Heap.SameBut S h h'):IsTupleKey knd h' k a:=by
 obtain⟨o',items,n,ho',hc,hd',hi⟩:=x
 have hne:a≠S:=by
  rintro rfl
  obtain rfl:o'=o:=Option.some.inj (ho'.symm.trans ho)
  rw[hd] at hd';exact nomatch hd'
 exact⟨o',items,n,(hs.2 a hne).trans ho',hc,hd',hi⟩
theorem fits_mk {t:SetTable} {n:Nat} (h1:t.place.size=n) (h2:t.dummies= #[]) (h3:n≤t.mask):t.fits n=true:=by
 unfold SetTable.fits SetTable.fill
 rw[h1,h2]
 simp
 exact h3
theorem ai5 {h:Heap} {o:Obj} {es:Array (Int×Value)} {ep:Nat} {t:SetTable} (ho:h.get? S=some o) (hd:o.data=.set es ep t) (es':Array (Int×Value)) (t':SetTable):
  (h.update S (Obj.putSet es' t')).get? S=some {o with data:=.set es' (ep+1) t'}:=by
 have:=Heap.get?_update_self (Obj.putSet es' t') ho (by rw[putSet_of es' t' hd];rfl)
 rw[putSet_of es' t' hd] at this
 exact this
theorem add_of (hsc:Sc knd) (hu:A.units < cLine) (hT:TB knd s.heap S ks) (hk:k∉ks) (hl:ks.length≤12) (hx:IsTupleKey knd s.heap k a) {Q:Bool→Shared→Prop}
  (h:∀h',Heap.SameBut S s.heap h'→TB knd h' S (ks++[k])→Q true {s with heap:=h'}):wpAny (model prog w) A (setAddHashed S (.ref a) (tupleKeyHash knd k)) Q E s:=by
 obtain⟨o,es,ep,t,ho,hex,hd,hm,hdm,hps,hel,h4,hes⟩:=hT
 have hmk:es.size≤t.mask:=by rcases hm with e|e<;>rw[e] at h4 ⊢<;>omega
 have hf:t.fits es.size=true:=fits_mk hps hdm hmk
 obtain⟨n,hn,he⟩:=al5 hm hdm (by rw[hps];exact hmk) (tupleKeyHash knd k)
 unfold setAddHashed
 refine wpAny_holding ?_
 show wpAny (model prog w) A (setAddHashedIn S (.ref a) (tupleKeyHash knd k) (99999+1)) Q E s
 unfold setAddHashedIn
 refine wpAny_bind (wpAny_setState_of ho hd hf ?_)
 dsimp only
 have hbs:byScan (.ref a) es=false:=rfl
 rw[hbs]
 simp only[Bool.false_eq_true,if_false]
 have hmm:t.mask≤31:=by rcases hm with e|e<;>omega
 refine wpAny_bind ?_
 unfold setSearch
 refine ai4 hsc hu ho hd hf hm hdm (fun e he=>?_) hx (fun j=>?_) n 100000 none (by omega) hn rfl he
 ·obtain⟨k',b,a1,a2,a3⟩:=hes e he
  exact⟨k',b,a2,a3,fun z=>hk (z ▸ a1)⟩
 dsimp only
 refine wpAny_bind (wpAny_setState_of ho hd hf ?_)
 dsimp only
 obtain⟨oa,ia,na,ha1,ha2,ha3,ha4⟩:=id hx
 have tail:∀pl:Bool,wpAny (model prog w) A (do
   storeSet S (SetTable.insertAt es (SetTable.below t.place j) (tupleKeyHash knd k,.ref a)) {(t.put j).1 with plain:=pl}
   if (!false&&({(t.put j).1 with plain:=pl}:SetTable).tooFull)=true then do
    setRelay S (SetTable.grown (es.size+1))
    pure true
   else pure true) Q E s:=by
  intro pl
  have ht1:({(t.put j).1 with plain:=pl}:SetTable).place.size=es.size+1:=by
   show (SetTable.insertAt t.place _ j).size=_
   rw[agl agk,hps]
  have ht2:({(t.put j).1 with plain:=pl}:SetTable).dummies= #[]:=by
   show (if SetTable.has t.dummies j=true then _ else t.dummies)=_
   rw[hdm,akg,if_neg Bool.false_ne_true]
  have ht3:({(t.put j).1 with plain:=pl}:SetTable).mask=t.mask:=rfl
  have htf:({(t.put j).1 with plain:=pl}:SetTable).tooFull=decide ((es.size+1) * 5≥t.mask * 3):=by
   unfold SetTable.tooFull SetTable.fill
   rw[ht1,ht2,ht3]
   rfl
  generalize ({(t.put j).1 with plain:=pl}:SetTable)=t2 at *
  have hE:(SetTable.insertAt es (SetTable.below t.place j) (tupleKeyHash knd k,Value.ref a)).size=es.size+1:=agl (by rw[←hps];exact agk)
  have hM:∀e∈(SetTable.insertAt es (SetTable.below t.place j) (tupleKeyHash knd k,Value.ref a)).toList,∃k' b,k'∈ks++[k]∧e=(tupleKeyHash knd k',.ref b)∧IsTupleKey knd s.heap k' b:=fun e he=>by
   rcases al8 he with rfl|he
   ·exact⟨k,a,List.mem_append_right _ (List.mem_singleton.mpr rfl),rfl,hx⟩
   ·obtain⟨k',b,a1,a2,a3⟩:=hes e he
    exact⟨k',b,List.mem_append_left _ a1,a2,a3⟩
  generalize SetTable.insertAt es (SetTable.below t.place j) (tupleKeyHash knd k,Value.ref a)=es2 at *
  refine wpAny_bind (wpAny_storeSet_of ho hd ?_ (by rw[hE,sizeLine_eq];omega))
  have hg:=ai5 ho hd es2 t2
  have hsb:=Heap.SameBut.update s.heap S (Obj.putSet es2 t2)
  have hM2:∀e∈es2.toList,∃k' b,k'∈ks++[k]∧e=(tupleKeyHash knd k',.ref b)∧IsTupleKey knd (s.heap.update S (Obj.putSet es2 t2)) k' b:=fun e he=>by
   obtain⟨k',b,a1,a2,a3⟩:=hM e he
   exact⟨k',b,a1,a2,aem a3 ho hd hsb⟩
  generalize s.heap.update S (Obj.putSet es2 t2)=h1 at *
  by_cases c:(es.size+1) * 5≥t.mask * 3
  ·rw[htf,decide_eq_true c,if_pos (by rfl)]
   have h7:t.mask=7:=by rcases hm with e|e<;>omega
   have h5:es.size=4:=by have:=h4 h7;omega
   have hf2:t2.fits es2.size=true:=fits_mk (by rw[ht1,hE]) ht2 (by rw[ht3,hE];omega)
   unfold setRelay
   refine wpAny_bind (wpAny_bind (wpAny_setState_of (s:={s with heap:=h1}) hg rfl hf2 ?_))
   dsimp only
   have hw:SetTable.grown (es.size+1)=20:=by rw[h5];rfl
   rw[hw,if_neg (by rw[sizeLine_eq];decide)]
   obtain⟨t3,order,e1,m1,m2,m3,m4,m5⟩:=al6 (m:=31) (.inr rfl) (finger:=t2.finger) (moves:=t2.movedTo 31) (led:=t2.led) (plain:=t2.plain) (hs:=es2.map (·.1)) (by rw[Array.size_map,hE];omega)
   have e2:t2.relaid (es2.map (·.1)) 20=some (t3,order):=e1
   rw[e2]
   rw[Array.size_map] at m2 m4 m5
   obtain⟨f1,f2⟩:=al9 (es:=es2) (order:=order) m5
   have hsz:(order.filterMap (es2[·]?)).size=es2.size:=by rw[f1,m4]
   show wpAny (model prog w) A ((do
    if (order.filterMap (es2[·]?)).size != es2.size then unsupported "internal:set-table-lost-an-element"
    pure (order.filterMap (es2[·]?),t3):Sem (Array (Int×Value)×SetTable)) >>= fun x=>storeSet S x.1 x.2) _ _ _
   refine wpAny_bind ?_
   rw[if_neg (by rw[hsz];simp)]
   refine wpAny_pure ?_
   dsimp only
   generalize order.filterMap (es2[·]?)=es3 at *
   refine wpAny_storeSet_of (s:={s with heap:=h1}) hg rfl ?_ (by rw[hsz,hE,sizeLine_eq];omega)
   have hg3:=ai5 (t:=t2) (es:=es2) (ep:=ep+1) hg rfl es3 t3
   have hsb3:=Heap.SameBut.update h1 S (Obj.putSet es3 t3)
   refine wpAny_pure (h _ (hsb.trans hsb3) ⟨_,es3,ep+1+1,t3,hg3,hex,rfl,by rw[m1];exact .inr rfl,m3,by rw[m2,hsz],by rw[hsz,hE,hel,List.length_append];rfl,fun z=>by rw[m1] at z;omega,fun e he=>?_⟩)
   obtain⟨k',b,a1,a2,a3⟩:=hM2 e (f2 e he)
   exact⟨k',b,a1,a2,aem (es:=es2) (ep:=ep+1) (t:=t2) a3 hg rfl hsb3⟩
  ·rw[htf,decide_eq_false c,if_neg (by simp)]
   refine wpAny_pure (h _ hsb ⟨_,es2,ep+1,t2,hg,hex,rfl,by rw[ht3];exact hm,ht2,by rw[ht1,hE],by rw[hE,hel,List.length_append];rfl,fun z=>by rw[ht3] at z;rw[hE];omega,hM2⟩)
 cases hpl:t.plain with
 |true=>
  rw[if_pos (show (t.put j).1.plain=true from hpl)]
  refine wpAny_bind (al7 ha1 ha2 ha3 (adj hsc ha4) fun b=>?_)
  cases b with
  |true=>rw[if_pos rfl];exact tail t.plain
  |false=>rw[if_neg Bool.false_ne_true];exact tail false
 |false=>
  rw[if_neg (show ¬(t.put j).1.plain=true from fun z=>by rw[show (t.put j).1.plain=t.plain from rfl,hpl] at z;cases z)]
  refine wpAny_bind (wpAny_pure ?_)
  rw[if_pos rfl]
  exact tail t.plain
end
section
variable {prog:Program} {w:World} {K:Type} [DecidableEq K] {knd:KeyKind prog w K} {A:Around} {R:Result→Shared→Prop} {I:Addr} {fp wr:List Addr} {G:Array GenState→Array GenState→Prop} {n:Nat} {P:Nat→Value→Prop} {St:Nat→Shared→Prop}
theorem ai6 {h h':Heap} {k:List K} {a:Addr} (x:IsTupleKey knd h k a) (hk:∀o,h.get? a=some o→h'.get? a=some o):IsTupleKey knd h' k a:=by
 obtain⟨o',items,n,ho',hc,hd',hi⟩:=x
 exact⟨o',items,n,hk _ ho',hc,hd',hi⟩
theorem TB.keep {h h':Heap} {S:Addr} {ks:List (List K)} (hT:TB knd h S ks) (hS:∀o,h.get? S=some o→h'.get? S=some o) (hk:∀b k,IsTupleKey knd h k b→∀o,h.get? b=some o→h'.get? b=some o):TB knd h' S ks:=by
 obtain⟨o,es,ep,t,ho,h1,h2,h3,h4,h5,h6,h7,h8⟩:=hT
 refine⟨o,es,ep,t,hS _ ho,h1,h2,h3,h4,h5,h6,h7,fun e he=>?_⟩
 obtain⟨k',b,a1,a2,a3⟩:=h8 e he
 exact⟨k',b,a1,a2,ai6 a3 (hk b k' a3)⟩
theorem ama (hsc:Sc knd) (hu:A.units+1 < cLine) (W:WalksS prog w A.in1 I fp wr G n P St) (S:Addr) (hSf:S∉fp) (hwr:∀i s b k,St i s→IsTupleKey knd s.heap k b→b∉wr)
  (key:Nat→List K) (hnd:∀i j,i < j→j < n→key i≠key j) (hb:n≤12):
  ∀(k i:Nat) (s:Shared),n - i=k→i≤n→St i s→TB knd s.heap S ((List.range i).map key)→
   (∀j v,j < n→P j v→∃a,v=.ref a∧IsTupleKey knd s.heap (key j) a)→
   (∀s',Moved (S::wr) G s s'→TB knd s'.heap S ((List.range n).map key)→R (.ok (.ret .none)) s')→
   codeAny (model prog w) A (.builtin "set.update.loop" ⟨[.ref S,.ref I],[]⟩) R s:=by
 have hSw:S∉wr:=fun h=>hSf (W.sub _ h)
 have hsub:∀b∈wr,b∈S::wr:=fun b hb=>List.mem_cons_of_mem _ hb
 intro k
 induction k with
 |zero=>
  intro i s hk hi hst hS hv hR
  have hin:i=n:=by omega
  subst hin
  refine codeAny_builtin F.entry_set_update_loop ?_
  rw[Around.under_plainId F.plain_set_update_loop _]
  show wpAny _ A.in1 (pyNext (.ref I) >>= _) _ _ s
  refine wpAny_bind (W.done s _ _ hst fun s' hm=>?_)
  show wpAny _ A.in1 (ret Value.none) _ _ s'
  exact wpAny_pure (hR s' (hm.mono hsub) (hS.keep (fun o e=>hm.heap S _ hSw e) fun b k kb o e=>hm.heap b _ (hwr _ _ b k hst kb) e))
 |succ k ih=>
  intro i s hk hi hst hS hv hR
  have hlt:i < n:=by omega
  refine codeAny_builtin F.entry_set_update_loop ?_
  rw[Around.under_plainId F.plain_set_update_loop _]
  show wpAny _ A.in1 (pyNext (.ref I) >>= _) _ _ s
  refine wpAny_bind (W.item i s _ _ hlt hst fun v s' hP hst' hm=>?_)
  obtain⟨a,rfl,ka⟩:=hv i v hlt hP
  have mv:∀b k,IsTupleKey knd s.heap k b→IsTupleKey knd s'.heap k b:=fun b k kb=>ai6 kb fun o e=>hm.heap b _ (hwr _ _ b k hst kb) e
  have hS':TB knd s'.heap S ((List.range i).map key):=hS.keep (fun o e=>hm.heap S _ hSw e) fun b k kb o e=>hm.heap b _ (hwr _ _ b k hst kb) e
  have ka':=mv _ _ ka
  show wpAny _ A.in1 (holding [Value.ref a] (setAdd S (.ref a)) >>= _) _ _ s'
  refine wpAny_bind (wpAny_holding ?_)
  unfold setAdd
  refine wpAny_holding ?_
  have hu1:A.in1.units < cLine:=by
   first|exact hu|(show A.units+1 < cLine;exact hu)|(simp[Around.in1];omega)
  refine wpAny_bind (wpAny_pyHash_tuple hu1 ka' ?_)
  refine add_of (s:={s' with toks:=s'.toks+((key i).length+1)}) hsc hu1 hS' ?_ (by rw[List.length_map,List.length_range];omega) ka' fun h' hsb hS2=>?_
  ·intro z
   obtain⟨j,hj,e⟩:=List.mem_map.mp z
   exact hnd j i (List.mem_range.mp hj) hlt e
  have hSi:TB knd h' S ((List.range (i+1)).map key):=by rw[List.range_succ,List.map_append];exact hS2
  obtain⟨oS,esS,epS,tS,hoS,_,hdS,_⟩:=hS'
  refine wpAny_pure ⟨plainId_quiet F.plain_set_update_loop _,ih (i+1) _ (by omega) hlt (W.frame _ s' _ _ hst' (Nat.le_add_right s'.toks _) fun b hb o e=>?_) hSi (fun j v hj hPj=>?_) fun s'' hm'' hS''=>?_⟩
  ·rw[hsb.2 b (fun h:b=S=>hSf (by rw[←h];exact hb))];exact e
  ·obtain⟨b,rfl,kb⟩:=hv j v hj hPj
   exact⟨b,rfl,aem (mv _ _ kb) hoS hdS hsb⟩
  ·refine hR s'' (Moved.trans W.gtrans ((hm.mono hsub).then_heap (Nat.le_add_right s'.toks _) fun b o hb e=>?_) hm'') hS''
   rw[hsb.2 b (fun h:b=S=>hb (by rw[h];exact List.mem_cons_self))];exact e
end
section
variable {prog:Program} {w:World} {K:Type} [DecidableEq K] {knd:KeyKind prog w K} {A:Around} {E:Value→Shared→Prop} {s:Shared}
theorem TB.fresh {h:Heap} {S:Addr} {led:Bool} (hg:h.get? S=some {cls:=.type "set",dict:=none,data:=.set #[] 0 (.fresh 0 0 led)}):TB knd h S []:=
 ⟨_,_,_,_,hg,⟨rfl,rfl,rfl⟩,rfl,.inl rfl,rfl,rfl,rfl,fun _=>Nat.zero_le _,fun e he=>by cases he⟩
set_option maxHeartbeats 3200000 in
theorem call_of (hsc:Sc knd) {l:Addr} {items:Array Value} {Q:Value→Shared→Prop} (hu:A.units+8 < cLine)
  (hh:A.handled=none) (hl:s.heap.IsList l items) (key:Nat→List K) (hi:∀j v,items[j]?=some v→∃a,v=.ref a∧IsTupleKey knd s.heap (key j) a) (hnd:∀i j,i < j→j < items.size→key i≠key j) (hb:items.size≤12)
  (h:∀(h':Heap) (tk:Nat),TB knd h' s.heap.objs.size ((List.range items.size).map key)→
   (∀b o,b < s.heap.objs.size→s.heap.get? b=some o→h'.get? b=some o)→Q (.ref s.heap.objs.size) {s with heap:=h',toks:=tk}):
  wpAny (model prog w) A (call (.type "set") [.ref l]) Q E s:=by
 obtain⟨c,tl,hmro⟩:=F.called_set.mro
 have hmade:=F.called_set.made
 have hsub:=F.called_set.sub
 refine wpAny_call (codeAny_of_tree ?_)
 show wpAny _ _ (callAny (.type "set") _) _ _ _
 refine wpAny_pure ⟨Code.quiet_builtin _ (by decide+kernel),codeAny_builtin F.entry_type_call ?_⟩
 rw[Around.under_plain (weight_type_call_type "set" [.ref l] []) rfl]
 have h1:=F.called_set.notType
 have h2:=F.called_set.canCreate
 have hct:=PySem.F.typeCall_set_1 (.ref l)
 repeat (any_goals (first|assumption|wp_step))
 refine codeAny_mono (code_set_new_1 (.ref l) (E:=E) (Q₁:=fun obj s₁=>∃led:Bool,obj=.ref s.heap.objs.size∧s₁={s with heap:=s.heap.push {cls:=.type "set",dict:=none,data:=.set #[] 0 (.fresh 0 0 led)}}) fun led=>⟨led,rfl,rfl⟩) fun r s₁ hr=>?_
 cases r with
 |error e=>exact hr
 |ok fl=>
  cases fl with
  |ret obj=>
   obtain⟨led,rfl,rfl⟩:=hr
   have hS:(s.heap.push {cls:=.type "set",dict:=none,data:=.set #[] 0 (.fresh 0 0 led)}).get? s.heap.objs.size=some {cls:=.type "set",dict:=none,data:=.set #[] 0 (.fresh 0 0 led)}:=Heap.get?_push_size _ rfl
   have hT:Shared.TypeIs {s with heap:=s.heap.push {cls:=.type "set",dict:=none,data:=.set #[] 0 (.fresh 0 0 led)}} (.ref s.heap.objs.size) "set":=⟨_,hS,rfl⟩
   have hli:=F.called_set.init.lookup
   have hbi:=F.called_set.init.bind (.ref s.heap.objs.size)
   repeat (any_goals (first|assumption|wp_step))
   refine codeAny_mono (codeAny_call_builtin (R:=wants (fun r s₂=>r=.none∧∃h' tk,s₂={s with heap:=h',toks:=tk}∧
     TB knd h' s.heap.objs.size ((List.range items.size).map key)∧
     (∀b o,b < s.heap.objs.size→s.heap.get? b=some o→h'.get? b=some o)) E) F.called_set.init.plain F.entry_set_init (check_set_init_1 hT ?_)) fun r₂ s₂ hr₂=>?_
   ·obtain⟨ol,hol,hcl,nl,hdl⟩:=hl
    obtain⟨ocls,odict,odata,oslots⟩:=ol
    simp only at hcl hdl
    subst hcl;subst hdl
    have hol':(s.heap.push {cls:=.type "set",dict:=none,data:=.set #[] 0 (.fresh 0 0 led)}).get? l=some {cls:=.type "list",dict:=odict,data:=.seq items nl,slots:=oslots}:=Heap.get?_push_of_some _ hol
    have hsls:=PySem.F.sub_list_set
    have hslf:=PySem.F.sub_list_frozenset
    have hne:(Value.type "list" == Value.type "dict")=false:=by decide
    have hl1:(s.heap.push {cls:=.type "set",dict:=none,data:=.set #[] 0 (.fresh 0 0 led)}).IsList l items:=⟨_,hol',rfl,nl,rfl⟩
    unfold Builtin.«set.__init__» noKeywords Builtin.Frozenset.updateFrom
    generalize hPI:pyIter=PI
    wp_walk
    subst hPI
    refine wpAny_pyIter_list hl1 ?_
    refine wpAny_bind (wpAny_runValue ?_)
    have hlS:l < s.heap.objs.size:=Heap.lt_size hol
    have hh3:A.in1.in1.in1.handled=none:=by simp[hh]
    have hneI:l≠(s.heap.push {cls:=.type "set",dict:=none,data:=.set #[] 0 (.fresh 0 0 led)}).objs.size:=by
     rw[Heap.size_push];exact Nat.ne_of_lt (Nat.lt_succ_of_lt hlS)
    have hSf:s.heap.objs.size∉[(s.heap.push {cls:=.type "set",dict:=none,data:=.set #[] 0 (.fresh 0 0 led)}).objs.size,l]:=by
     rw[Heap.size_push];simp only[List.mem_cons,List.mem_singleton,List.not_mem_nil,or_false,not_or]
     exact⟨Nat.ne_of_lt (Nat.lt_succ_self _),Nat.ne_of_gt hlS⟩
    refine ama (knd:=knd) hsc (by show A.units+1+1+1 < cLine;omega) ((Walks.list hh3 _ l hneI items).toS) s.heap.objs.size hSf (fun i s9 b k hst kb=>?_) key hnd hb (items.size - 0) 0 _ (by omega) (Nat.zero_le _)
     ⟨⟨_,Heap.get?_push_size _ rfl,rfl,rfl⟩,(hl1.push _)⟩ ?hS0 (fun j v hj hv=>?_) ?hR
    case hS0=>
     exact TB.fresh (Heap.get?_push_of_some _ hS)
    case hR=>
     intro s' hm hS'
     obtain⟨h',g',d',tk',os'⟩:=s'
     have eg:g'=s.gens:=hm.gens
     have ed:d'=s.drawn:=hm.drawn
     have eo:os'=s.os:=hm.os
     subst eg;subst ed;subst eo
     show wpAny _ _ _ _ _ _
     refine wpAny_pure ?_
     show wpAny _ _ (ret Value.none) _ _ _
     refine wpAny_pure ⟨rfl,h',tk',rfl,hS',fun b o hb e=>?_⟩
     have hb1:b≠s.heap.objs.size:=Nat.ne_of_lt hb
     have hb2:b≠(s.heap.push {cls:=.type "set",dict:=none,data:=.set #[] 0 (.fresh 0 0 led)}).objs.size:=by
      rw[Heap.size_push];exact Nat.ne_of_lt (Nat.lt_succ_of_lt hb)
     exact hm.heap b o (by simp only[List.mem_cons,List.mem_singleton,List.not_mem_nil,or_false,not_or];exact⟨hb1,hb2⟩) (Heap.get?_push_of_some _ (Heap.get?_push_of_some _ e))
    ·intro z
     rw[List.mem_singleton] at z
     obtain⟨o9,_,_,e9,c9,_⟩:=kb
     obtain⟨o8,e8,c8,_⟩:=hst.1
     rw[z,e8] at e9
     cases e9
     rw[c8] at c9
     exact absurd c9 (by decide)
    ·obtain⟨b,rfl,kb⟩:=hi j v hv
     exact⟨b,rfl,ai6 kb fun o e=>Heap.get?_push_of_some _ (Heap.get?_push_of_some _ e)⟩
   ·cases r₂ with
    |error e=>exact hr₂
    |ok fl₂=>
     cases fl₂ with
     |ret r=>
      obtain⟨rfl,h',tk,rfl,hS',hk'⟩:=hr₂
      repeat (any_goals (first|assumption|wp_step))
      exact h _ _ hS' hk'
     |_=>exact hr₂.elim
  |_=>exact hr.elim
end
end ST
end L2
namespace L2
open PySem PySem.Spec PyProof.Rows
theorem sc_mix {P:Program} {w:World}:ST.Sc (mixKind P w):=fun k v h=>by
 rcases aa1 h with ⟨i,t,rfl,rfl⟩|⟨x,t,rfl,rfl⟩<;>rfl
theorem ai7 {X:Cx} (hc:X.calm=true) (hu:X.A.units+8 < cLine):CallR X (.type "set") (fun xs H Q=>∃(p:Addr) (bs:List Addr) (kss:List (List Key)),xs=[.ref p]∧SqL X.K H p (bs.map V.ref)∧bs.length=kss.length∧(∀(i:Nat) b ks,bs[i]?=some b→kss[i]?=some ks→H b=some (.tup (ks.map kV)))∧kss.Nodup∧kss.length≤12∧∀l,H l=none→Q (.ref l) (upd H l (setO l kss.length))):=by
 intro pins s σ H xs us Q I r h
 obtain⟨p,bs,kss,rfl,hq,hlen,hks,hnd,hl,q⟩:=h
 obtain⟨u,rfl,rx⟩:=vals1 r
 cases rx
 obtain⟨its,r',pl,hz⟩:=I.list hq
 have hn:its.length=kss.length:=by
  have:=r'.length
  rw[List.length_map] at this
  omega
 have hsz:its.toArray.size=kss.length:=by simp[hn]
 have hfr:H s.heap.objs.size=none:=I.hok.fresh (Nat.le_refl _)
 refine ST.call_of (knd:=mixKind X.prog X.w) sc_mix hu (I.ok.hd hc) pl.isList (fun j=>kss.getD j []) (fun j v hv=>?_) (fun i j hij hj=>?_) (by rw[hsz];exact hl) fun h' tk hT hk=>?_
 ·rw[←Array.getElem?_toList] at hv
  have hv:its[j]?=some v:=by simpa using hv
  have hjl:j < kss.length:=by rw[←hn];exact (List.getElem?_eq_some_iff.mp hv).1
  obtain⟨b,hb⟩:∃b,bs[j]?=some b:=⟨_,List.getElem?_eq_getElem (by omega)⟩
  have hks2:=hks j b kss[j] hb (List.getElem?_eq_getElem hjl)
  have:v=.ref b:=by
   obtain⟨u,hu1,hu2⟩:=r'.get (i:=j) (x:=V.ref b) (by rw[List.getElem?_map,hb];rfl)
   rw[hv] at hu1
   cases hu1
   cases hu2
   rfl
  refine⟨b,this,?_⟩
  rw[List.getD_eq_getElem?_getD,List.getElem?_eq_getElem hjl]
  exact add I.hok hks2
 ·rw[hsz] at hj
  rw[List.getD_eq_getElem?_getD,List.getD_eq_getElem?_getD,List.getElem?_eq_getElem hj,List.getElem?_eq_getElem (by omega)]
  intro z
  exact absurd ((List.getElem_inj hnd).mp z) (by omega)
 ·rw[hsz] at hT
  obtain⟨o,es,ep,t,g1,g2,g3,g4,g5,g6,g7,g8,_⟩:=hT
  rw[List.length_map,List.length_range] at g7
  have hm:es.size≤t.mask:=by rcases g4 with e|e<;>rw[e] at g8 ⊢<;>omega
  refine⟨.ref s.heap.objs.size,_,I.laid (t':=tk) (fun b u e=>hk b u (Heap.lt_size e) e) (Nat.le_refl _) (o:=setO s.heap.objs.size kss.length) ⟨⟨o,es,ep,t,g1,g2,g3,ST.fits_mk g6 g5 hm,g7⟩,⟨o,g1⟩,fun h1 h2 ⟨o,es,ep,t,a1,a2,a3,a4,a5⟩ k=>⟨o,es,ep,t,k o a1,a2,a3,a4,a5⟩⟩,rfl,q _ hfr⟩
theorem hu8 {A:Around} {k:Nat} (hr:Room k A):A.units+8 < cLine:=by have:=hr.units;omega
noncomputable def rNeN (K:PySem.W.Frag) (n:Nat):R2:=fun x y H Q=>rNe x y H Q∨rNeD K n x y H Q
theorem op_neN {X:Cx} {n:Nat} (hu:X.A.units+n+2 < cLine):OpR X (compareOp .NotEq) (rNeN X.K n):=fun pins s σ H x y v u Q I rx ry h=>h.elim (ajv pins s σ H x y v u Q I rx ry) (aih hu pins s σ H x y v u Q I rx ry)
end L2
set_option hygiene false in
local macro_rules| `(tactic|walk_at "wp")=> `(tactic|simp only[↓L2.rI0_ii, ↓L2.rI_ii, ↓L2.ex_int, ↓L2.ex_bl, ↓L2.ex_ref,L2.tSeq,L2.tNext,L2.tAsg,L2.gName,L2.tRet,L2.tRetN,L2.tDrop,L2.tIfS,L2.tIf,L2.tTest,L2.tB,L2.tOp,L2.tVar,L2.tVarM,L2.tC,L2.rI,L2.rI0,L2.tAnd,L2.tOr,L2.tNot,L2.tAndV,L2.tOrV,L2.tNotV,L2.tCallE,L2.tMethE,L2.tMakeE,L2.tCB,L2.tCons,L2.tNil,L2.tLst,L2.tTup,L2.rIxL,L2.rIxT,L2.rSlT,L2.rCatT,L2.rIn,L2.tFld,L2.sFld,L2.rEq,L2.rNe,L2.start,L2.CDiv,L2.CPow,L2.CMul,L2.kn_int,L2.kn_bl,L2.cxOf_K,L2.al4,L2.alx,L2.aly,L2.alz,L2.aj5,L2.aj6,L2.aag,L2.alh,L2.HO.ins.injEq,L2.rCat,L2.rSlL,L2.tSl,L2.tPart,L2.tNoPart,L2.aj9,L2.al0,L2.tForE,L2.iRng1,L2.iList,L2.iEnum,L2.gTup,L2.gNil,L2.gCons,L2.tBM,L2.rAppend,L2.gSub,L2.rSetL,L2.tComp,L2.tYes,Option.join_some,Option.join_none,PySem.sizeLine_eq,Nat.reduceLeDiff,eq_self,decide_eq_true_eq,
 List.map_cons,List.map_nil,List.length_cons,List.length_nil,List.cons_append,List.nil_append,List.append_nil,List.replicate,Nat.reduceSub,Nat.reduceAdd,List.getElem?_cons_zero,List.getElem?_cons_succ,List.set_cons_zero,List.set_cons_succ,
 Option.some.injEq,List.cons.injEq,L2.V.int.injEq,L2.V.bl.injEq,L2.V.ref.injEq,L2.V.ty.injEq,L2.V.str.injEq,exists_eq_left,exists_eq_left',exists_and_left,exists_eq',exists_const,and_assoc,and_true,true_and, ↓reduceIte,Int.reduceLE,Int.reduceLT,Nat.reducePow,Int.reducePow,Int.reduceNeg,L2.na10,Nat.reduceLT,Int.reduceToNat,Int.reduceAdd,Int.reduceMul,Int.reduceSub,true_or,or_true,decide_true,decide_false])
noncomputable def PySem.W.Fast.tw10047365572860470834:PySem.Program:=PySem.Challenge.pw_frameland_k36_book_any_row
theorem PySem.W.Fast.te10047365572860470834:PySem.Challenge.pw_frameland_k36_book_any_row=PySem.W.Fast.tw10047365572860470834:=rfl
namespace Pf
open PySem L2
noncomputable def top (i:Nat):Stmt:=PySem.Challenge.pw_frameland_k36_book_any_row.main.body.getD i (.Pass ⟨0,0,0,0⟩)
noncomputable abbrev af0:Stmt:=top 1
theorem acz:FnScope ["marks","hand","passed","place"] ["marks","hand"] (defScope af0):=⟨rfl,rfl,rfl,by decide+kernel,rfl,by decide+kernel,by decide+kernel⟩
noncomputable abbrev acp:Stmt:=inClass (top 3) 0
theorem afj:FnScope ["self","many"] ["self","many"] (defScope acp):=⟨rfl,rfl,rfl,by decide+kernel,rfl,by decide+kernel,by decide+kernel⟩
noncomputable abbrev acq:Stmt:=inClass (top 3) 1
theorem adf:FnScope ["self","task","page","place"] ["self","task","page"] (defScope acq):=⟨rfl,rfl,rfl,by decide+kernel,rfl,by decide+kernel,by decide+kernel⟩
noncomputable abbrev ac7:Stmt:=inClass (top 3) 2
theorem adw:FnScope ["self","task","page","place"] ["self","task","page"] (defScope ac7):=⟨rfl,rfl,rfl,by decide+kernel,rfl,by decide+kernel,by decide+kernel⟩
noncomputable abbrev abn:Stmt:=inClass (top 3) 3
theorem aa9:FnScope ["self","task","page","entry","place"] ["self","task","page","entry"] (defScope abn):=⟨rfl,rfl,rfl,by decide+kernel,rfl,by decide+kernel,by decide+kernel⟩
noncomputable abbrev ab3:Stmt:=inClass (top 3) 4
theorem aby:FnScope ["self","task","page","place"] ["self","task","page"] (defScope ab3):=⟨rfl,rfl,rfl,by decide+kernel,rfl,by decide+kernel,by decide+kernel⟩
noncomputable abbrev abj:Stmt:=inClass (top 3) 5
theorem abt:FnScope ["self","task","key"] ["self","task"] (defScope abj):=⟨rfl,rfl,rfl,by decide+kernel,rfl,by decide+kernel,by decide+kernel⟩
noncomputable abbrev acr:Stmt:=inClass (top 3) 6
theorem afk:FnScope ["self"] ["self"] (defScope acr):=⟨rfl,rfl,rfl,by decide+kernel,rfl,by decide+kernel,by decide+kernel⟩
noncomputable abbrev abd:Stmt:=inClass (top 3) 7
theorem aah:FnScope ["self","choice","place","row","gone"] ["self"] (defScope abd):=⟨rfl,rfl,rfl,by decide+kernel,rfl,by decide+kernel,by decide+kernel⟩
noncomputable abbrev aen:Stmt:=top 5
theorem ai8:FnScope ["_law_script","_law_k"] ["_law_script","_law_k"] (defScope aen):=⟨rfl,rfl,rfl,by decide+kernel,rfl,by decide+kernel,by decide+kernel⟩
noncomputable abbrev ac8:Stmt:=top 6
theorem adx:FnScope ["_law_digits","_law_cell_here","_law_k","_law_one"] ["_law_digits","_law_cell_here","_law_k"] (defScope ac8):=⟨rfl,rfl,rfl,by decide+kernel,rfl,by decide+kernel,by decide+kernel⟩
noncomputable abbrev ady:Stmt:=top 7
theorem ahe:FnScope ["_law_found"] ["_law_found"] (defScope ady):=⟨rfl,rfl,rfl,by decide+kernel,rfl,by decide+kernel,by decide+kernel⟩
noncomputable abbrev adz:Stmt:=top 8
theorem ac9:FnScope ["_law_found","_law_many","_law_pairs","_law_row"] ["_law_found","_law_many"] (defScope adz):=⟨rfl,rfl,rfl,by decide+kernel,rfl,by decide+kernel,by decide+kernel⟩
noncomputable abbrev ad0:Stmt:=top 9
theorem ahf:FnScope ["_law_row","_law_pair"] ["_law_row","_law_pair"] (defScope ad0):=⟨rfl,rfl,rfl,by decide+kernel,rfl,by decide+kernel,by decide+kernel⟩
noncomputable abbrev aeo:Stmt:=top 10
theorem ab0:FnScope ["_law_ahead","_law_behind","_law_pair","_law_entry","_law_k","_law_new"] ["_law_ahead","_law_behind","_law_pair","_law_entry"] (defScope aeo):=⟨rfl,rfl,rfl,by decide+kernel,rfl,by decide+kernel,by decide+kernel⟩
noncomputable abbrev aep:Stmt:=top 11
theorem afl:FnScope ["_law_ahead","_law_behind","_law_pair","_law_k"] ["_law_ahead","_law_behind","_law_pair"] (defScope aep):=⟨rfl,rfl,rfl,by decide+kernel,rfl,by decide+kernel,by decide+kernel⟩
noncomputable abbrev ada:Stmt:=top 12
theorem ab4:FnScope ["_law_ahead","_law_behind","_law_pair","_law_whole_here","_law_k","_law_row","_law_goes"] ["_law_ahead","_law_behind","_law_pair","_law_whole_here"] (defScope ada):=⟨rfl,rfl,rfl,by decide+kernel,rfl,by decide+kernel,by decide+kernel⟩
noncomputable abbrev aeq:Stmt:=top 13
theorem acb:FnScope ["_law_book","_law_told","_law_pair","_law_last","_law_found","_law_due","_law_row"] ["_law_book","_law_told","_law_pair","_law_last"] (defScope aeq):=⟨rfl,rfl,rfl,by decide+kernel,rfl,by decide+kernel,by decide+kernel⟩
noncomputable abbrev akh:Stmt:=top 14
theorem abm:FnScope ["_law_script","_law_many","_law_base","_law_digits","_law_book","_law_told","_law_last","_law_k","_law_cell_here","_law_number_here","_law_pair","_law_entry","_law_ahead"] ["_law_script"] (defScope akh):=⟨rfl,rfl,rfl,by decide+kernel,rfl,by decide+kernel,by decide+kernel⟩
structure Adr where
 Aa:Addr
structure Txt (K:PySem.W.Frag) (mg:Str→Option Value) (A:Adr):Prop where
 Bp:mg "bool"=none
 Av:mg "enumerate"=none
 Cj:mg "int"=none
 Ah:mg "isinstance"=none
 Ag:mg "len"=none
 A0:mg "list"=none
 Ck:mg "min"=none
 Ao:mg "range"=none
 Cl:mg "set"=none
 B9:mg "tuple"=none
 Bf:Raw K mg "swept" "swept" af0 ["marks","hand"] []
 Bw:Raw K mg "_law_cell" "_law_cell" aen ["_law_script","_law_k"] []
 Bg:Raw K mg "_law_number" "_law_number" ac8 ["_law_digits","_law_cell_here","_law_k"] []
 Bq:Raw K mg "_law_whole" "_law_whole" ady ["_law_found"] []
 Br:Raw K mg "_law_right" "_law_right" adz ["_law_found","_law_many"] []
 Bs:Raw K mg "_law_is_of" "_law_is_of" ad0 ["_law_row","_law_pair"] []
 Bx:Raw K mg "_law_kept" "_law_kept" aeo ["_law_ahead","_law_behind","_law_pair","_law_entry"] []
 By:Raw K mg "_law_used" "_law_used" aep ["_law_ahead","_law_behind","_law_pair"] []
 Bh:Raw K mg "_law_struck" "_law_struck" ada ["_law_ahead","_law_behind","_law_pair","_law_whole_here"] []
 Bz:Raw K mg "_law_seen" "_law_seen" aeq ["_law_book","_law_told","_law_pair","_law_last"] []
 Ab:Cls K A.Aa
 Ac:NoAttr K A.Aa "rows"
 Ad:NoAttr K A.Aa "found"
 Am:NoAttr K A.Aa "hand"
 A4:RawI K mg "Book" A.Aa "Book.__init__" acp ["self","many"] []
 A5:RawM K A.Aa "look" "Book.look" acq ["self","task","page"] []
 Bi:RawM K A.Aa "use" "Book.use" ac7 ["self","task","page"] []
 A6:RawM K A.Aa "keep" "Book.keep" abn ["self","task","page","entry"] []
 Aq:RawM K A.Aa "strike" "Book.strike" ab3 ["self","task","page"] []
 Ar:RawM K A.Aa "strike_task" "Book.strike_task" abj ["self","task"] []
 A7:RawM K A.Aa "told" "Book.told" acr ["self"] []
 Aj:RawM K A.Aa "place_for_new" "Book.place_for_new" abd ["self"] []
 Cm:∃f fd,mg "law"=some (.ref f)∧Fun K "law" "law" akh f fd∧∀(s:Shared) (u:Value),BindsTo s fd ⟨[u],[]⟩ [("_law_script",u)]
theorem el1 {P:List Value→Prop} (h:∀a0,P [a0]):∀us:List Value,us.length=1→P us
 |[a0],_=>h a0
theorem el2 {P:List Value→Prop} (h:∀a0 a1,P [a0,a1]):∀us:List Value,us.length=2→P us
 |[a0,a1],_=>h a0 a1
theorem el3 {P:List Value→Prop} (h:∀a0 a1 a2,P [a0,a1,a2]):∀us:List Value,us.length=3→P us
 |[a0,a1,a2],_=>h a0 a1 a2
theorem el4 {P:List Value→Prop} (h:∀a0 a1 a2 a3,P [a0,a1,a2,a3]):∀us:List Value,us.length=4→P us
 |[a0,a1,a2,a3],_=>h a0 a1 a2 a3
theorem txt_mk {K:PySem.W.Frag} {h:Heap} {mg:Str→Option Value} (X:K.In h) (G:h.Ns mainGlobals mg)
 {Aa:Addr}
 (Cd:PySem.W.nsIn K mainGlobals "Book"=some (some (.ref Aa)))
 (Ca:PySem.W.nsIn K mainGlobals "bool"=some none)
 (A1:PySem.W.nsIn K mainGlobals "enumerate"=some none)
 (Ce:PySem.W.nsIn K mainGlobals "int"=some none)
 (Ax:PySem.W.nsIn K mainGlobals "isinstance"=some none)
 (Cf:PySem.W.nsIn K mainGlobals "len"=some none)
 (Cb:PySem.W.nsIn K mainGlobals "list"=some none)
 (Cg:PySem.W.nsIn K mainGlobals "min"=some none)
 (B0:PySem.W.nsIn K mainGlobals "range"=some none)
 (Ch:PySem.W.nsIn K mainGlobals "set"=some none)
 (B1:PySem.W.nsIn K mainGlobals "tuple"=some none)
 (Cc:GF K "swept" af0)
 (B2:GF K "_law_cell" aen)
 (Bj:GF K "_law_number" ac8)
 (Bt:GF K "_law_whole" ady)
 (Bu:GF K "_law_right" adz)
 (Bv:GF K "_law_is_of" ad0)
 (B3:GF K "_law_kept" aeo)
 (B4:GF K "_law_used" aep)
 (Bk:GF K "_law_struck" ada)
 (B5:GF K "_law_seen" aeq)
 (Ci:Cls K Aa)
 (A2:PySem.W.findIn K (.ref Aa) "rows"=some none)
 (Ay:PySem.W.findIn K (.ref Aa) "found"=some none)
 (A3:PySem.W.findIn K (.ref Aa) "hand"=some none)
 (A8:IF K Aa "Book.__init__" acp)
 (A9:MF K Aa "look" "Book.look" acq)
 (Bl:MF K Aa "use" "Book.use" ac7)
 (Ba:MF K Aa "keep" "Book.keep" abn)
 (Az:MF K Aa "strike" "Book.strike" ab3)
 (As:MF K Aa "strike_task" "Book.strike_task" abj)
 (Bb:MF K Aa "told" "Book.told" acr)
 (Ap:MF K Aa "place_for_new" "Book.place_for_new" abd)
 (Cn:GF K "law" akh)
 :∃A:Adr,Txt K mg A:=⟨⟨Aa⟩,PySem.W.mg_none_of X G Ca,
  PySem.W.mg_none_of X G A1,
  PySem.W.mg_none_of X G Ce,
  PySem.W.mg_none_of X G Ax,
  PySem.W.mg_none_of X G Cf,
  PySem.W.mg_none_of X G Cb,
  PySem.W.mg_none_of X G Cg,
  PySem.W.mg_none_of X G B0,
  PySem.W.mg_none_of X G Ch,
  PySem.W.mg_none_of X G B1,
  Cc.raw X G (fun _ _ _ _ _ _=>el2 (fun _ _=>rfl)),
  B2.raw X G (fun _ _ _ _ _ _=>el2 (fun _ _=>rfl)),
  Bj.raw X G (fun _ _ _ _ _ _=>el3 (fun _ _ _=>rfl)),
  Bt.raw X G (fun _ _ _ _ _ _=>el1 (fun _=>rfl)),
  Bu.raw X G (fun _ _ _ _ _ _=>el2 (fun _ _=>rfl)),
  Bv.raw X G (fun _ _ _ _ _ _=>el2 (fun _ _=>rfl)),
  B3.raw X G (fun _ _ _ _ _ _=>el4 (fun _ _ _ _=>rfl)),
  B4.raw X G (fun _ _ _ _ _ _=>el3 (fun _ _ _=>rfl)),
  Bk.raw X G (fun _ _ _ _ _ _=>el4 (fun _ _ _ _=>rfl)),
  B5.raw X G (fun _ _ _ _ _ _=>el4 (fun _ _ _ _=>rfl)),
  Ci,
  A2,
  Ay,
  A3,
  A8.raw X G Cd (fun _ _ _ _ _ _=>el2 (fun _ _=>rfl)),
  A9.raw (fun _ _ _ _ _ _=>el3 (fun _ _ _=>rfl)),
  Bl.raw (fun _ _ _ _ _ _=>el3 (fun _ _ _=>rfl)),
  Ba.raw (fun _ _ _ _ _ _=>el4 (fun _ _ _ _=>rfl)),
  Az.raw (fun _ _ _ _ _ _=>el3 (fun _ _ _=>rfl)),
  As.raw (fun _ _ _ _ _ _=>el2 (fun _ _=>rfl)),
  Bb.raw (fun _ _ _ _ _ _=>el1 (fun _=>rfl)),
  Ap.raw (fun _ _ _ _ _ _=>el1 (fun _=>rfl)),
  Cn.law X G fun _ _ _ _ _ _ _=>rfl⟩
section
variable {P:Program} {w:World} {K:PySem.W.Frag} {mg:Str→Option Value} {base:Heap} {A:Adr}
theorem ac0 {H H':Hp} {t:Addr} {o:HO} (s:Same H H') (h:H t=none):Same H (upd H' t o):=fun b u e=>by
 rw[aaf (aay e h)];exact s b u e
theorem ac1 {H H':Hp} {p:Addr} (s:Same H H') (h:H' p=none):H p=none:=by
 cases e:H p with
 |none=>rfl
 |some o=>rw[s p o e] at h;cases h
noncomputable def ai9 (K:PySem.W.Frag) (a:Addr) (ns:List Int):Sp:=fun vs H Q _=>∃(k:Int),vs=[.ref a,.int k]∧SqL K H a (ns.map V.int)∧0≤k∧Q (.int (ns.getD k.toNat 0)) H
theorem h_cell (T:Txt K mg A) (a:Addr) (ns:List Int):Have P w K mg base "_law_cell" 1 ["_law_script","_law_k"] [] (ai9 K a ns):=by
 refine T.Bw.have ai8 (fun vs H Q E z=>?_) ?_
 ·obtain⟨k,rfl,_⟩:=z;rfl
 ·intro f cdv A' outer s H vs Q E hr z
  obtain⟨k,rfl,hs,hk,q⟩:=z
  refine⟨_,(aab (aa8 (aar alk (pvM 1) (aap aa0 rfl T.Ag PySem.boot_len (aaa (pvM 0) aad)) (nomark _)) (aae (aaw (aak aaz (pvM 0) (pvM 1) (fun _ _=>rfl)))) aam)
   (aae (aaw aac))),?_⟩
  walk_at "wp"
  refine⟨ns.length,.inl ⟨_,hs,by simp⟩,?_⟩
  by_cases c:k < (ns.length:Int)
  ·rw[if_pos c]
   refine⟨_,hs,.int (ns.getD k.toNat 0),?_,q⟩
   have hlt:k.toNat < ns.length:=by omega
   have e:atI (ns.map V.int) ((k.toNat:Nat):Int)=some (.int (ns.getD k.toNat 0)):=aa5 (by simp[hlt])
   rw[show ((k.toNat:Nat):Int)=k by omega] at e
   exact e
  ·rw[if_neg c]
   have hge:ns.length≤k.toNat:=by omega
   rw[show ns.getD k.toNat 0=0 by simp[List.getD,hge]] at q
   exact q
structure Rw where
 t:Int
 g:Int
 e:Int
 u:Bool
noncomputable def RowAt (H:Hp) (v:V):Option Rw→Prop
 |none=>v=.non
 |some r=>∃a,v=.ref a∧H a=some (.tup [.int r.t,.int r.g,.int r.e,.bl r.u])
noncomputable abbrev RsAt (H:Hp):List V→List (Option Rw)→Prop:=Paired (RowAt H)
theorem RowAt.same {H H':Hp} (s:Same H H') {v:V}:∀{r:Option Rw},RowAt H v r→RowAt H' v r
 |none,h=>h
 |some _,⟨a,e,h⟩=>⟨a,e,s _ _ h⟩
theorem RsAt.same {H H':Hp} (s:Same H H') {vs:List V} {rs:List (Option Rw)} (h:RsAt H vs rs):RsAt H' vs rs:=Paired.mapP h fun _ _ q=>q.same s
noncomputable def isK (t g:Int):Option Rw→Bool
 |none=>false
 |some r=>decide (r.t=t)&&decide (r.g=g)
noncomputable def fnd (rows:List (Option Rw)) (t g:Int):Option Nat:=rows.findIdx? (isK t g)
noncomputable def ky (t g:Int):List Key:=[.inl t,.inl g]
noncomputable def Lnk (rows:List (Option Rw)) (kvs:List (List Key×V)):Prop:=(∀t g,valV kvs (ky t g)=(fnd rows t g).map fun (j:Nat)=>V.int (j:Int))∧∀x∈kvs,∃t g,x.1=ky t g
noncomputable def bkF (ra fa:Addr) (hd:Int):List (Str×V):=putF "hand" (.int hd) (putF "found" (.ref fa) (putF "rows" (.ref ra) []))
theorem aav {ra fa:Addr} {hd:Int}:(bkF ra fa hd).lookup ("rows":Str)=some (.ref ra):=by rfl
theorem abk {ra fa:Addr} {hd:Int}:(bkF ra fa hd).lookup ("found":Str)=some (.ref fa):=by rfl
theorem ab7 {ra fa:Addr} {hd:Int} {m:Str} (h:¬m∈(["rows","found","hand"]:List Str)):(bkF ra fa hd).lookup m=none:=by
 simp only[List.mem_cons,List.not_mem_nil,or_false,not_or] at h
 unfold bkF
 simp only[acl,h.1,h.2.1,h.2.2,if_false]
 rfl
noncomputable def BkAt (C:Addr) (H:Hp) (p ra fa:Addr) (rows:List (Option Rw)) (n:Nat) (hd:Int):Prop:=∃dx vs kvs,H p=some (.ins C dx (bkF ra fa hd))∧H ra=some (.lst vs)∧RsAt H vs rows∧H fa=some (.dT kvs)∧Lnk rows kvs∧kvs.length≤n
theorem BkAt.same {C:Addr} {H H':Hp} {p ra fa:Addr} {rows:List (Option Rw)} {n:Nat} {hd:Int} (h:BkAt C H p ra fa rows n hd) (s:Same H H'):BkAt C H' p ra fa rows n hd:=let ⟨dx,vs,kvs,h1,h2,h3,h4,h5,h6⟩:=h;⟨dx,vs,kvs,s _ _ h1,s _ _ h2,h3.same s,s _ _ h4,h5,h6⟩
noncomputable def Kp (ex:List Addr) (H H':Hp):Prop:=∀c o,H c=some o→c∉ex→H' c=some o
theorem acd {α β:Type} {F:α→β→Prop}:∀{xs:List α} {ys:List β} {i:Nat} {x:α},Paired F xs ys→xs[i]?=some x→∃y,ys[i]?=some y∧F x y
 |_,_,_,_,.nil,e=>by simp at e
 |_,_,0,_,.cons r _,e=>by simp at e;subst e;exact⟨_,rfl,r⟩
 |_,_,i+1,x,.cons _ t,e=>by
  obtain⟨u,h1,h2⟩:=acd (i:=i) (x:=x) t (by simpa using e)
  exact⟨u,by simpa using h1,h2⟩
theorem aa7 {α β:Type} {F:α→β→Prop}:∀{xs:List α} {ys:List β} {i:Nat} {y:β},Paired F xs ys→ys[i]?=some y→∃x,xs[i]?=some x∧F x y
 |_,_,_,_,.nil,e=>by simp at e
 |_,_,0,_,.cons r _,e=>by simp at e;subst e;exact⟨_,rfl,r⟩
 |_,_,i+1,y,.cons _ t,e=>by
  obtain⟨u,h1,h2⟩:=aa7 (i:=i) (y:=y) t (by simpa using e)
  exact⟨u,by simpa using h1,h2⟩
theorem ace {α β:Type} {F:α→β→Prop} {x:α} {y:β} (hxy:F x y):∀{xs:List α} {ys:List β} (i:Nat),Paired F xs ys→Paired F (xs.set i x) (ys.set i y)
 |_,_,_,.nil=>.nil
 |_,_,0,.cons _ t=>.cons hxy t
 |_,_,i+1,.cons r t=>.cons r (ace hxy i t)
theorem aa3 {rows:List (Option Rw)} {t g:Int} {j:Nat} (h:fnd rows t g=some j):∃r:Rw,rows[j]?=some (some r)∧r.t=t∧r.g=g:=by
 obtain⟨hj,h1,_⟩:=List.findIdx?_eq_some_iff_getElem.mp h
 cases e:rows[j] with
 |none=>rw[e] at h1;cases h1
 |some r=>
  rw[e] at h1
  have h1:(decide (r.t=t)&&decide (r.g=g))=true:=h1
  rw[Bool.and_eq_true] at h1
  exact⟨r,by rw[List.getElem?_eq_getElem hj,e],of_decide_eq_true h1.1,of_decide_eq_true h1.2⟩
theorem RowAt.same2 {H:Hp} {a:Addr} {xs:List V} {o:HO} (hx:H a=some (.lst xs)) {v:V}:∀{r:Option Rw},RowAt H v r→RowAt (upd H a o) v r
 |none,h=>h
 |some _,⟨b,e,h⟩=>⟨b,e,by rw[aaf (fun z=>by rw[z,hx] at h;cases h)];exact h⟩
theorem RsAt.same2 {H:Hp} {a:Addr} {xs:List V} {o:HO} (hx:H a=some (.lst xs)) {vs:List V} {rs:List (Option Rw)} (h:RsAt H vs rs):RsAt (upd H a o) vs rs:=Paired.mapP h fun _ _ q=>q.same2 hx
theorem RowAt.sameD {H:Hp} {a:Addr} {xs:List (List Key×V)} {o:HO} (hx:H a=some (.dT xs)) {v:V}:∀{r:Option Rw},RowAt H v r→RowAt (upd H a o) v r
 |none,h=>h
 |some _,⟨b,e,h⟩=>⟨b,e,by rw[aaf (fun z=>by rw[z,hx] at h;cases h)];exact h⟩
theorem RsAt.sameD {H:Hp} {a:Addr} {xs:List (List Key×V)} {o:HO} (hx:H a=some (.dT xs)) {vs:List V} {rs:List (Option Rw)} (h:RsAt H vs rs):RsAt (upd H a o) vs rs:=Paired.mapP h fun _ _ q=>q.sameD hx
theorem agm {α:Type} {p:α→Bool} {x y:α} (e:p y=p x):∀{l:List α} {j:Nat},l[j]?=some x→(l.set j y).findIdx? p=l.findIdx? p
 |[],_,h=>by simp at h
 |z::l,0,h=>by
  simp at h
  subst h
  rw[List.set_cons_zero,List.findIdx?_cons,List.findIdx?_cons,e]
 |z::l,j+1,h=>by
  rw[List.set_cons_succ,List.findIdx?_cons,List.findIdx?_cons,agm e (by simpa using h)]
theorem ak6 {α:Type} {p:α→Bool} {y:α} (e:p y=true):∀{l:List α} {j:Nat},l.findIdx? p=none→j < l.length→(l.set j y).findIdx? p=some j
 |[],_,_,h=>by simp at h
 |z::l,0,_,_=>by rw[List.set_cons_zero,List.findIdx?_cons,e];rfl
 |z::l,j+1,hn,h=>by
  rw[List.findIdx?_cons] at hn
  cases hz:p z with
  |true=>rw[hz] at hn;cases hn
  |false=>
   rw[hz] at hn
   have hn:(l.findIdx? p).map (·+1)=none:=by simpa using hn
   rw[List.set_cons_succ,List.findIdx?_cons,hz,ak6 e (Option.map_eq_none_iff.mp hn) (by simpa using h)]
   rfl
theorem aer {rows:List (Option Rw)} {kvs:List (List Key×V)} {j:Nat} {r r':Rw} (h:Lnk rows kvs) (hj:rows[j]?=some (some r)) (ht:r'.t=r.t) (hg:r'.g=r.g):Lnk (rows.set j (some r')) kvs:=⟨fun t g=>by
 rw[h.1 t g]
 unfold fnd
 rw[agm (x:=some r) (by show (decide (r'.t=t)&&decide (r'.g=g))=(decide (r.t=t)&&decide (r.g=g));rw[ht,hg]) hj],h.2⟩
theorem aja {rows:List (Option Rw)} {kvs:List (List Key×V)} {j:Nat} {r:Rw} (h:Lnk rows kvs) (hj:rows[j]?=some none) (hn:fnd rows r.t r.g=none):Lnk (rows.set j (some r)) (putK kvs (ky r.t r.g) (.int (j:Int))):=by
 refine⟨fun t g=>?_,fun x hx=>?_⟩
 rotate_left
 ·have hval:valV kvs (ky r.t r.g)=none:=by rw[h.1,hn];rfl
  rw[aeh _ hval] at hx
  rcases List.mem_append.mp hx with hx|hx
  ·exact h.2 x hx
  ·rw[List.mem_singleton.mp hx];exact⟨_,_,rfl⟩
 rw[aga,h.1 t g]
 by_cases c:ky t g=ky r.t r.g
 ·rw[if_pos c]
  have c1:t=r.t:=by injection c with a b;injection a
  have c2:g=r.g:=by injection c with a b;injection b with b _;injection b
  subst c1 c2
  unfold fnd
  rw[ak6 (by show (decide (r.t=r.t)&&decide (r.g=r.g))=true;simp) hn (List.getElem?_eq_some_iff.mp hj).1]
  rfl
 ·rw[if_neg c]
  unfold fnd
  rw[agm (x:=none) (by
   show (decide (r.t=t)&&decide (r.g=g))=false
   rw[Bool.and_eq_false_iff]
   by_cases d:r.t=t
   ·refine .inr (decide_eq_false fun d2=>c ?_)
    rw[←d,←d2]
   ·exact .inl (decide_eq_false d)) hj]
noncomputable def useR (rows:List (Option Rw)) (t g:Int):List (Option Rw):=match fnd rows t g with
 |none=>rows
 |some j=>match rows[j]? with
  |some (some r)=>rows.set j (some ⟨t,g,r.e,true⟩)
  |_=>rows
noncomputable def lookE (rows:List (Option Rw)) (t g:Int):V:=match fnd rows t g with
 |none=>.non
 |some j=>match rows[j]? with
  |some (some r)=>.int r.e
  |_=>.non
noncomputable def sp_no:Sp:=fun _ _ _ _=>False
noncomputable def ajb (C:Addr):Sp:=fun vs H Q _=>∃(p ra fa:Addr) (rows:List (Option Rw)) (n:Nat) (hd:Int) (t g:Int),vs=[.ref p,.int t,.int g]∧BkAt C H p ra fa rows n hd∧∀H',Same H H'→Q (lookE rows t g) H'
theorem h_look (T:Txt K mg A):HaveM P w K mg base A.Aa "look" 1 ["self","task","page"] [] (ajb A.Aa):=by
 refine T.A5.have adf (fun vs H Q E z=>?_) ?_
 ·obtain⟨p,ra,fa,rows,n,hd,t,g,rfl,_⟩:=z;rfl
 ·intro f cdv A' outer s H vs Q E hr z
  obtain⟨p,ra,fa,rows,n,hd,t,g,rfl,hB,q⟩:=z
  obtain⟨dx,vs,kvs,h1,h2,h3,h4,h5,h6⟩:=id hB
  refine⟨_,(aab (aas (i:=3) adf.nd rfl (Or.inl rfl) (acv (ac4 hr) (aan (pvM 0) rfl) (aa4 (aaa (pvM 1) (aaa (pvM 2) aad))) ⟨rfl,rfl,rfl,rfl⟩))
   (aae (aaw (ajr (aar aez (pvM 3) abb (nomark _)) abb (aak aal (aak aaz (aan (pvM 0) rfl) (pvM 3) (fun _ _=>rfl)) aac (fun _ _=>rfl)))))),?_⟩
  unfold tDGet1
  walk_at "wp"
  simp only[h1]
  walk_at "wp"
  refine⟨T.Ab,T.Ad,_,abk,fa,rfl,.inr ⟨kvs,.inl h4⟩,fun kp hkp=>?_⟩
  have b1:=aaj (o:=.tup [V.int t,V.int g]) (aai (H:=H)) hkp
  refine⟨_,DGet.t (k:=ky t g) (b1 _ _ h4) aag,?_⟩
  have q:=q _ b1
  unfold lookE at q
  rw[h5.1 t g]
  cases e:fnd rows t g with
  |none=>
   rw[e] at q
   show if V.non=V.non then _ else _
   rw[if_pos rfl]
   exact q
  |some j=>
   obtain⟨r,hr1,rt,rg⟩:=aa3 e
   obtain⟨x,hx,c,rfl,hc⟩:=aa7 h3 hr1
   rw[e] at q
   simp only[hr1] at q
   rw[if_neg (fun z=>nomatch z)]
   exact⟨_,dx,_,b1 _ _ h1,T.Ab,T.Ac,_,aav,ra,rfl,vs,_,rfl,SqL.of (b1 _ _ h2),_,aa5 hx,c,rfl,_,SqT.of (b1 _ _ hc),_,rfl,q⟩
noncomputable def ak7 (C:Addr):Sp:=fun vs H Q _=>∃(p ra fa:Addr) (rows:List (Option Rw)) (n:Nat) (hd:Int) (t g:Int),vs=[.ref p,.int t,.int g]∧BkAt C H p ra fa rows n hd∧∀H',BkAt C H' p ra fa (useR rows t g) n hd→Kp [ra] H H'→Q .non H'
theorem h_use (T:Txt K mg A):HaveM P w K mg base A.Aa "use" 1 ["self","task","page"] [] (ak7 A.Aa):=by
 refine T.Bi.have adw (fun vs H Q E z=>?_) ?_
 ·obtain⟨p,ra,fa,rows,n,hd,t,g,rfl,_⟩:=z;rfl
 ·intro f cdv A' outer s H vs Q E hr z
  obtain⟨p,ra,fa,rows,n,hd,t,g,rfl,hB,q⟩:=z
  obtain⟨dx,vs,kvs,h1,h2,h3,h4,h5,h6⟩:=id hB
  refine⟨_,(aab (aas (i:=3) adw.nd rfl (Or.inl rfl) (acv (ac4 hr) (aan (pvM 0) rfl) (aa4 (aaa (pvM 1) (aaa (pvM 2) aad))) ⟨rfl,rfl,rfl,rfl⟩))
   (aae (aa8 (aar ab9 (pvM 3) abb (nomark _)) (aae (aci (aa4 (aaa (pvM 1) (aaa (pvM 2) (aaa (aak aal (aak aaz (aan (pvM 0) rfl) (pvM 3) (fun _ _=>rfl)) aac (fun _ _=>rfl)) (aaa abu aad))))) (ach (aan (pvM 0) rfl) (pvM 3) abo))) aam))),?_⟩
  unfold tDGet1
  walk_at "wp"
  simp only[h1]
  walk_at "wp"
  refine⟨T.Ab,T.Ad,_,abk,fa,rfl,.inr ⟨kvs,.inl h4⟩,fun kp hkp=>?_⟩
  have b1:=aaj (o:=.tup [V.int t,V.int g]) (aai (H:=H)) hkp
  refine⟨_,DGet.t (k:=ky t g) (b1 _ _ h4) aag,?_⟩
  unfold useR at q
  rw[h5.1 t g]
  cases e:fnd rows t g with
  |none=>
   simp only[e] at q
   rw[if_neg (by decide)]
   exact q _ (hB.same b1) fun c o hc _=>b1 _ _ hc
  |some j=>
   obtain⟨r,hr1,rt,rg⟩:=aa3 e
   obtain⟨x,hx,c,rfl,hc⟩:=aa7 h3 hr1
   simp only[e,hr1] at q
   refine iteT ⟨_,dx,_,b1 _ _ h1,T.Ab,T.Ac,_,aav,ra,rfl,vs,_,rfl,SqL.of (b1 _ _ h2),_,aa5 hx,c,rfl,_,SqT.of (b1 _ _ hc),_,rfl,fun np hnp=>?_⟩
   have b2:=aaj (o:=.tup [V.int t,V.int g,V.int r.e,V.bl true]) b1 hnp
   have b2':=aaj (o:=.tup [V.int t,V.int g,V.int r.e,V.bl true]) (aai (H:=upd H kp (.tup [V.int t,V.int g]))) hnp
   have hr2:=b2 _ _ h2
   have npr:np≠ra:=fun z=>by rw[z,b1 _ _ h2] at hnp;cases hnp
   have hvl:j < vs.length:=(List.getElem?_eq_some_iff.mp hx).1
   refine⟨_,dx,_,b2 _ _ h1,T.Ab,T.Ac,_,aav,ra,rfl,vs,_,rfl,hr2,j,by unfold ixN;rw[if_pos (by omega),if_pos (by omega)];rfl,?_⟩
   refine q _ ⟨dx,vs.set j (.ref np),kvs,?_,aag,?_,?_,aer h5 hr1 rt.symm rg.symm,h6⟩ ?_
   ·rw[aaf (fun z=>by rw[z,h2] at h1;cases h1)];exact b2 _ _ h1
   ·exact ace (F:=RowAt _) (show RowAt _ (V.ref np) (some _) from ⟨np,rfl,by rw[aaf npr,aag]⟩) j (RsAt.same2 hr2 (h3.same b2))
   ·rw[aaf (fun z=>by rw[z,h2] at h4;cases h4)];exact b2 _ _ h4
   ·intro c o hc hx
    rw[aaf (fun z=>hx (by simp[z]))]
    exact b2 _ _ hc
theorem aki (T:Txt K mg A):HaveM P w K mg base A.Aa "strike" 1 ["self","task","page"] [] sp_no:=T.Aq.have aby (fun vs H Q E z=>False.elim z) (fun _ _ _ _ _ _ _ _ _ _ z=>False.elim z)
theorem amb (T:Txt K mg A):Have P w K mg base "swept" 1 ["marks","hand"] [] sp_no:=T.Bf.have acz (fun vs H Q E z=>False.elim z) (fun _ _ _ _ _ _ _ _ _ _ z=>False.elim z)
noncomputable def ajc (C:Addr):Sp:=fun vs H Q _=>∃(p ra fa:Addr) (rows:List (Option Rw)) (n j:Nat) (hd:Int),vs=[.ref p]∧BkAt C H p ra fa rows n hd∧rows.findIdx? Option.isNone=some j∧Q (.int j) H
theorem h_new (T:Txt K mg A):HaveM P w K mg base A.Aa "place_for_new" 2 ["self"] [] (ajc A.Aa):=by
 have Aw:=amb (P:=P) (w:=w) (base:=base) T
 have Af:=aki (P:=P) (w:=w) (base:=base) T
 refine T.Aj.have aah (fun vs H Q E z=>?_) ?_
 ·obtain⟨p,ra,fa,rows,n,j,hd,rfl,_⟩:=z;rfl
 ·intro f cdv A' outer s H vs Q E hr z
  obtain⟨p,ra,fa,rows,n,j,hd,rfl,hB,hj,q⟩:=z
  obtain⟨dx,vs,kvs,h1,h2,h3,h4,h5,h6⟩:=id hB
  refine⟨_,(aab (aa8 (aar (ak3 (hu6 hr)) abb (aan (pvM 0) rfl) (by with_unfolding_all rfl)) (aae (aaw (ajz PySem.F.plainAttrs_list PySem.F.slot_list_index PySem.F.type_list_index (afe (hu6 hr)) (aan (pvM 0) rfl) (aaa abb aad)))) aam)
   (aab (aas (i:=1) aah.nd rfl (Or.inl rfl) (aaq Aw (hr.mono (by decide)) aat (aaa (ail rfl (acj (aan (pvM 0) rfl)) (x:="row") (fs:=[]) (ix:=[]) rfl rfl (fun _ _ _ _ _ _=>(abc (i:=0) (show (["row"]:List Str).Nodup by decide+kernel) rfl (Or.inl rfl))) (fun _ _ _ _ _ _=>aij) (fun _ _ _ _ _ _=>(aak (aiq (K:=K) rfl) (pvM 0) aac (fun _ _=>rfl)))) (aaa (aan (pvM 0) rfl) aad))))
   (aab (abr PassesOwn.leaving rfl (acj (aak aal (pvM 1) aac (fun _ _=>rfl))) (abc (i:=2) aah.nd rfl (Or.inl rfl)) (aab (aas (i:=3) aah.nd rfl (Or.inl rfl) (aak aaz (aan (pvM 0) rfl) (pvM 2) (fun _ _=>rfl)))
   (aae (aci (aa4 (aaa (aak aal (pvM 3) aac (fun _ _=>rfl)) (aaa (aak aal (pvM 3) aac (fun _ _=>rfl)) (aaa (aak aal (pvM 3) aac (fun _ _=>rfl)) (aaa abu aad))))) (ach (aan (pvM 0) rfl) (pvM 2) abo)))))
   (aab (aas (i:=4) aah.nd rfl (Or.inl rfl) (aak aaz (aan (pvM 0) rfl) (aak aal (pvM 1) aac (fun _ _=>rfl)) (fun _ _=>rfl)))
   (aab (ab1 (abx (pvM 0) T.Ab Af (hr.mono (by decide)) aat (aaa (aak aal (pvM 4) aac (fun _ _=>rfl)) (aaa (aak aal (pvM 4) aac (fun _ _=>rfl)) aad))))
   (aab (ae0 (pvM 0) (aao abf (aao abw (aak aal (pvM 1) aac (fun _ _=>rfl)) aac) (aap aa0 rfl T.Ag PySem.boot_len (aaa (aan (pvM 0) rfl) aad))) rfl)
   (aae (aaw (aak aal (pvM 1) aac (fun _ _=>rfl)))))))))),?_⟩
  unfold sp_no
  walk_at "wp"
  simp only[h1]
  walk_at "wp"
  have hn:∀z∈vs,NTup K H z:=fun z hz=>by
   obtain⟨i,hi⟩:=List.mem_iff_getElem?.mp hz
   obtain⟨y,_,hy⟩:=acd h3 hi
   cases y with
   |none=>exact .inl hy
   |some r=>obtain⟨a,e,h⟩:=hy;exact .inr ⟨a,_,e,SqT.of h⟩
  have e1:∀{vs:List V} {rows:List (Option Rw)},RsAt H vs rows→vs.findIdx? isN=rows.findIdx? Option.isNone:=fun h=>by
   induction h with
   |nil=>rfl
   |cons r t ih=>
    rename_i x y xs ys
    rw[List.findIdx?_cons,List.findIdx?_cons,ih]
    have:isN x=y.isNone:=by
     cases y with
     |none=>have r:x=.non:=r;rw[r];rfl
     |some y=>obtain⟨a,e,_⟩:=r;rw[e];rfl
    rw[this]
  have ej:vs.findIdx? isN=some j:=(e1 h3).trans hj
  have ha:vs.any isN=true:=by
   obtain⟨hl,h1,_⟩:=List.findIdx?_eq_some_iff_getElem.mp ej
   exact List.any_eq_true.mpr ⟨_,List.getElem_mem hl,h1⟩
  refine⟨T.Ab,T.Ac,_,aav,ra,vs,rfl,rfl,SqL.of h2,hn,true,by rw[ha],?_⟩
  exact iteT ⟨_,dx,_,h1,T.Ab,T.Ac,_,aav,.inl ⟨rfl,_,SqL.of h2⟩,ra,vs,j,rfl,rfl,SqL.of h2,hn,ej,q⟩
noncomputable def keepR (rows:List (Option Rw)) (t g e:Int) (j0:Nat):List (Option Rw):=match fnd rows t g with
 |none=>rows.set j0 (some ⟨t,g,e,false⟩)
 |some j=>match rows[j]? with
  |some (some r)=>rows.set j (some ⟨t,g,e,r.u⟩)
  |_=>rows
noncomputable def ajd (C:Addr):Sp:=fun vs H Q _=>∃(p ra fa:Addr) (rows:List (Option Rw)) (n j0:Nat) (hd:Int) (t g e:Int),vs=[.ref p,.int t,.int g,.int e]∧BkAt C H p ra fa rows n hd∧n < 1000000∧0 < rows.length∧(fnd rows t g=none→rows.findIdx? Option.isNone=some j0)∧∀H',BkAt C H' p ra fa (keepR rows t g e j0) (n+1) hd→Kp [ra,fa] H H'→Q .non H'
theorem b_keep (T:Txt K mg A):Body P w K mg base "Book.keep" abn ["self","task","page","entry","place"] 2 (ajd A.Aa):=by
 have Ae:=h_new (P:=P) (w:=w) (base:=base) T
 ·intro f cdv A' outer s H vs Q E hr z
  obtain⟨p,ra,fa,rows,n,j0,hd,t,g,e,rfl,hB,hn,h0,hj0,q⟩:=z
  obtain⟨dx,vs,kvs,h1,h2,h3,h4,h5,h6⟩:=id hB
  have hvl:=Paired.length h3
  refine⟨_,(aab (aa8 (aar adg (aap aa0 rfl T.Ag PySem.boot_len (aaa (aan (pvM 0) rfl) aad)) aac (nomark _)) (aae ac2) aam)
   (aab (aas (i:=4) aa9.nd rfl (Or.inl rfl) (acv (ac4 hr) (aan (pvM 0) rfl) (aa4 (aaa (pvM 1) (aaa (pvM 2) aad))) ⟨rfl,rfl,rfl,rfl⟩))
   (aab (aa8 (aar ab9 (pvM 4) abb (nomark _)) (aab (aci (aa4 (aaa (pvM 1) (aaa (pvM 2) (aaa (pvM 3) (aaa (aak aal (aak aaz (aan (pvM 0) rfl) (pvM 4) (fun _ _=>rfl)) aac (fun _ _=>rfl)) aad))))) (ach (aan (pvM 0) rfl) (pvM 4) abo))
   (aae ac2)) aam)
   (aab (aas (i:=4) aa9.nd rfl (Or.inl rfl) (abz (pvM 0) T.Ab Ae (hr.mono (by decide)) aat))
   (aab (aci (aa4 (aaa (pvM 1) (aaa (pvM 2) (aaa (pvM 3) (aaa abu aad))))) (ach (aan (pvM 0) rfl) (pvM 4) abo))
   (aae (aei (ac4 hr) (aan (pvM 0) rfl) (aa4 (aaa (pvM 1) (aaa (pvM 2) aad))) (pvM 4) rfl))))))),?_⟩
  unfold tDGet1 ajc sDPut
  walk_at "wp"
  simp only[h1]
  walk_at "wp"
  refine⟨T.Ab,T.Ac,_,aav,_,.inl ⟨_,SqL.of h2,rfl⟩,?_⟩
  rw[if_neg (by omega)]
  refine⟨T.Ab,T.Ad,_,abk,fa,rfl,.inr ⟨kvs,.inl h4⟩,fun kp hkp=>?_⟩
  have b1:=aaj (o:=.tup [V.int t,V.int g]) (aai (H:=H)) hkp
  have hkp':upd H kp (.tup [V.int t,V.int g]) kp=some (.tup [V.int t,V.int g]):=aag
  generalize upd H kp (.tup [V.int t,V.int g])=H1 at *
  refine⟨_,DGet.t (k:=ky t g) (b1 _ _ h4) hkp',?_⟩
  unfold keepR at q
  rw[h5.1 t g]
  cases e2:fnd rows t g with
  |some j=>
   obtain⟨r,hr1,rt,rg⟩:=aa3 e2
   obtain⟨x,hx,c,rfl,hc⟩:=aa7 h3 hr1
   simp only[e2,hr1] at q
   refine iteT ⟨_,dx,_,b1 _ _ h1,T.Ab,T.Ac,_,aav,ra,rfl,vs,_,rfl,SqL.of (b1 _ _ h2),_,aa5 hx,c,rfl,_,SqT.of (b1 _ _ hc),_,rfl,fun np hnp=>?_⟩
   have b2:=aaj (o:=.tup [V.int t,V.int g,V.int e,V.bl r.u]) b1 hnp
   have hr2:=b2 _ _ h2
   have npr:np≠ra:=fun z=>by rw[z,b1 _ _ h2] at hnp;cases hnp
   have hvl:j < vs.length:=(List.getElem?_eq_some_iff.mp hx).1
   refine⟨_,dx,_,b2 _ _ h1,T.Ab,T.Ac,_,aav,ra,rfl,vs,_,rfl,hr2,j,by unfold ixN;rw[if_pos (by omega),if_pos (by omega)];rfl,?_⟩
   refine q _ ⟨dx,vs.set j (.ref np),kvs,?_,aag,?_,?_,aer h5 hr1 rt.symm rg.symm,by omega⟩ ?_
   ·rw[aaf (fun z=>by rw[z,h2] at h1;cases h1)];exact b2 _ _ h1
   ·exact ace (F:=RowAt _) (show RowAt _ (V.ref np) (some _) from ⟨np,rfl,by rw[aaf npr,aag]⟩) j (RsAt.same2 hr2 (h3.same b2))
   ·rw[aaf (fun z=>by rw[z,h2] at h4;cases h4)];exact b2 _ _ h4
   ·intro c o hc hx
    rw[aaf (fun z=>hx (by simp[z]))]
    exact b2 _ _ hc
  |none=>
   simp only[e2] at q
   have hj:=hj0 e2
   obtain⟨hjl,hjn,_⟩:=List.findIdx?_eq_some_iff_getElem.mp hj
   rw[if_neg (by decide)]
   refine⟨dx,_,b1 _ _ h1,ab7 (by decide+kernel),ra,fa,rows,n,j0,hd,hB.same b1,hj,fun np hnp=>?_⟩
   have hrn:rows[j0]?=some none:=by
    rw[List.getElem?_eq_getElem hjl]
    cases ec:rows[j0] with
    |none=>rfl
    |some r=>rw[ec] at hjn;cases hjn
   have b2:=aaj (o:=.tup [V.int t,V.int g,V.int e,V.bl false]) b1 hnp
   have hnp':upd H1 np (.tup [V.int t,V.int g,V.int e,V.bl false]) np=some (.tup [V.int t,V.int g,V.int e,V.bl false]):=aag
   have npr:np≠ra:=fun z=>by rw[z,b1 _ _ h2] at hnp;cases hnp
   generalize upd H1 np (.tup [V.int t,V.int g,V.int e,V.bl false])=H2 at *
   have hr2:=b2 _ _ h2
   have hpr:p≠ra:=fun z=>by rw[z,h2] at h1;cases h1
   have hfr:fa≠ra:=fun z=>by rw[z,h2] at h4;cases h4
   have hpf:p≠fa:=fun z=>by rw[z,h4] at h1;cases h1
   refine⟨_,dx,_,b2 _ _ h1,T.Ab,T.Ac,_,aav,ra,rfl,vs,hr2,j0,by unfold ixN;rw[if_pos (by omega),if_pos (by omega)];rfl,?_⟩
   have k1:upd H2 ra (.lst (vs.set j0 (V.ref np))) p=some (.ins A.Aa dx (bkF ra fa hd)):=by rw[aaf hpr];exact b2 _ _ h1
   have k2:upd H2 ra (.lst (vs.set j0 (V.ref np))) ra=some (.lst (vs.set j0 (V.ref np))):=aag
   have k3:RsAt (upd H2 ra (.lst (vs.set j0 (V.ref np)))) (vs.set j0 (V.ref np)) (rows.set j0 (some ⟨t,g,e,false⟩)):=ace (F:=RowAt _) (show RowAt _ (V.ref np) (some _) from ⟨np,rfl,by rw[aaf npr];exact hnp'⟩) j0 (RsAt.same2 hr2 (h3.same b2))
   have k4:upd H2 ra (.lst (vs.set j0 (V.ref np))) fa=some (.dT kvs):=by rw[aaf hfr];exact b2 _ _ h4
   have kf:Kp [ra,fa] H (upd H2 ra (.lst (vs.set j0 (V.ref np)))):=fun c o hc hx=>by
    rw[aaf (fun z=>hx (by simp[z]))]
    exact b2 _ _ hc
   generalize upd H2 ra (.lst (vs.set j0 (V.ref np)))=H3 at *
   refine⟨_,dx,_,k1,T.Ab,T.Ad,_,abk,fun kk hkk=>?_⟩
   have b4:=aaj (o:=.tup [V.int t,V.int g]) (aai (H:=H3)) hkk
   have hval:valV kvs (ky t g)=none:=by rw[h5.1 t g,e2];rfl
   refine⟨fa,rfl,_,DPut.t (k:=ky t g) (b4 _ _ k4) aag (by have:sizeLine=16777216:=PySem.sizeLine_eq;omega),?_⟩
   refine q _ ⟨dx,vs.set j0 (V.ref np),_,?_,?_,?_,aag,aja (r:=⟨t,g,e,false⟩) h5 hrn e2,?_⟩ ?_
   ·rw[aaf hpf];exact b4 _ _ k1
   ·rw[aaf (fun z=>hfr z.symm)];exact b4 _ _ k2
   ·exact RsAt.sameD (b4 _ _ k4) (k3.same b4)
   ·rw[show ky (⟨t,g,e,false⟩:Rw).t (⟨t,g,e,false⟩:Rw).g=ky t g from rfl,aeh _ hval,List.length_append]
    exact Nat.add_le_add h6 (Nat.le_refl _)
   ·intro c o hc hx
    rw[aaf (fun z=>hx (by simp[z]))]
    exact b4 _ _ (kf c o hc hx)
noncomputable def aes (C:Addr):Sp:=fun vs H Q _=>∃(p ra fa:Addr) (rows:List (Option Rw)) (n:Nat) (hd:Int),vs=[.ref p]∧BkAt C H p ra fa rows n hd∧∀t us,H t=none→RsAt (upd H t (.lst us)) us rows→Q (.ref t) (upd H t (.lst us))
theorem h_told (T:Txt K mg A):HaveM P w K mg base A.Aa "told" 1 ["self"] [] (aes A.Aa):=by
 refine T.A7.have afk (fun vs H Q E z=>?_) ?_
 ·obtain⟨p,ra,fa,rows,n,hd,rfl,_⟩:=z;rfl
 ·intro f cdv A' outer s H vs Q E hr z
  obtain⟨p,ra,fa,rows,n,hd,rfl,hB,q⟩:=z
  obtain⟨dx,vs,kvs,h1,h2,h3,h4,h5,h6⟩:=id hB
  refine⟨_,(aae (aaw (adp ae6 rfl T.A0 PyProof.Rows.boot_list (aaa (aan (pvM 0) rfl) aad)))),?_⟩
  walk_at "wp"
  simp only[h1]
  walk_at "wp"
  exact⟨T.Ab,T.Ac,_,aav,ra,rfl,_,.inl (SqL.of h2),fun l hl=>q _ _ hl (h3.same (aaj aai hl))⟩
noncomputable def agn (C:Addr):Sp:=fun vs H Q _=>∃(p dx:Addr) (m:Int),vs=[.ref p,.int m]∧0≤m∧m≤1000000∧H p=some (.ins C dx [])∧∀H' ra fa,Kp [p] H H'→BkAt C H' p ra fa (List.replicate m.toNat none) 0 0→H ra=none→H fa=none→Q .non H'
theorem amc (T:Txt K mg A):HaveI P w K mg base "Book" A.Aa 1 ["self","many"] [] (agn A.Aa):=by
 refine T.A4.have afj (fun vs H Q E z=>?_) ?_
 ·obtain⟨p,dx,m,rfl,_⟩:=z;rfl
 ·intro f cdv A' outer s H vs Q E hr z
  obtain⟨p,dx,m,rfl,h0,hm,hp,q⟩:=z
  refine⟨_,(aab (ae0 (pvM 0) (aao op_rep (ad5 (aaa abb aad)) (pvM 1)) rfl)
   (aab (ae0 (pvM 0) agc rfl)
   (aae (ae0 (pvM 0) aac rfl)))),?_⟩
  unfold tDNewT rRep
  walk_at "wp"
  intro l1 hl1
  have b1:=aaj (o:=.lst [V.non]) (aai (H:=H)) hl1
  refine⟨[.non],rfl,by omega,by omega,by show 1 * m.toNat≤16777216;omega,fun ra hra=>?_⟩
  have hra0:H ra=none:=ac1 b1 hra
  have b2:=aaj (o:=.lst (List.replicate m.toNat [V.non]).flatten) b1 hra
  have npr:p≠ra:=fun z=>by rw[←z,b1 _ _ hp] at hra;cases hra
  refine⟨A.Aa,dx,[],b2 _ _ hp,T.Ab,T.Ac,by decide,fun fa hfa=>?_⟩
  have npf:fa≠p:=fun z=>by rw[z,aag] at hfa;cases hfa
  have nfr:fa≠ra:=fun z=>by rw[z,aaf npr.symm,aag] at hfa;cases hfa
  have hfa0:H fa=none:=by
   rw[aaf npf] at hfa
   exact ac1 b2 hfa
  refine⟨A.Aa,dx,putF "rows" (.ref ra) [],by rw[aaf npf.symm,aag],T.Ab,T.Ad,by show 1 < 1000;decide,T.Ab,T.Am,by show 2 < 1000;decide,?_⟩
  refine q _ ra fa ?_ ⟨dx,(List.replicate m.toNat [V.non]).flatten,[],aag,?_,?_,?_,⟨fun t g=>?_,fun _ z=>nomatch z⟩,Nat.le_refl _⟩ hra0 hfa0
  ·intro c o hc hx
   have ncp:c≠p:=fun z=>hx (by simp[z])
   rw[aaf ncp,aaf (aay hc hfa0),aaf ncp]
   exact b2 _ _ hc
  ·rw[aaf npr.symm,aaf nfr.symm,aaf npr.symm,aag]
  ·have e:∀k:Nat,(List.replicate k [V.non]).flatten=List.replicate k V.non:=fun k=>by
    induction k with
    |zero=>rfl
    |succ k ih=>rw[List.replicate_succ,List.flatten_cons,ih];rfl
   rw[e]
   have e2:∀k:Nat,∀HH:Hp,RsAt HH (List.replicate k V.non) (List.replicate k none):=fun k HH=>by
    induction k with
    |zero=>exact .nil
    |succ k ih=>exact .cons rfl ih
   exact e2 _ _
  ·rw[aaf npf,aag]
  ·have e:fnd (List.replicate m.toNat none) t g=none:=by
    unfold fnd
    rw[List.findIdx?_eq_none_iff]
    intro x hx
    rw[List.eq_of_mem_replicate hx]
    rfl
   rw[e]
   rfl
noncomputable def Uq (rows:List (Option Rw)):Prop:=∀(i j:Nat) (r s:Rw),rows[i]?=some (some r)→rows[j]?=some (some s)→r.t=s.t→r.g=s.g→i=j
theorem aje {kvs:List (List Key×V)} {k j:List Key}:valV (dropK kvs k) j=if j=k then none else valV kvs j:=by
 induction kvs with
 |nil=>split<;>rfl
 |cons p r ih=>
  unfold dropK at ih ⊢
  rw[List.filter_cons]
  by_cases c:p.1=k
  ·rw[if_neg (by simp[c]),ih]
   by_cases d:j=k
   ·rw[if_pos d,if_pos d]
   ·rw[if_neg d,if_neg d,aa2 (fun e=>d (e.symm.trans c))]
  ·rw[if_pos (by simp[c])]
   by_cases d:p.1=j
   ·rw[aa6 d,aa6 d,if_neg (fun e=>c (d.trans e))]
   ·rw[aa2 d,aa2 d,ih]
noncomputable def strikeR (rows:List (Option Rw)) (t g:Int):List (Option Rw):=match fnd rows t g with
 |none=>rows
 |some j=>rows.set j none
theorem ahg {rows:List (Option Rw)} {kvs:List (List Key×V)} {j:Nat} {t g:Int} (h:Lnk rows kvs) (hu:Uq rows) (hj:fnd rows t g=some j):Lnk (rows.set j none) (dropK kvs (ky t g)):=by
 refine⟨fun t' g'=>?_,fun x hx=>h.2 x (List.mem_filter.mp hx).1⟩
 obtain⟨r,hr,rt,rg⟩:=aa3 hj
 rw[aje,h.1 t' g']
 by_cases c:ky t' g'=ky t g
 ·rw[if_pos c]
  have c1:t'=t:=by injection c with a b;injection a
  have c2:g'=g:=by injection c with a b;injection b with b _;injection b
  subst c1 c2
  have e:fnd (rows.set j none) t' g'=none:=by
   unfold fnd
   rw[List.findIdx?_eq_none_iff]
   intro x hx
   obtain⟨i,hi⟩:=List.mem_iff_getElem?.mp hx
   rw[List.getElem?_set] at hi
   by_cases e:j=i
   ·rw[if_pos e] at hi
    split at hi
    ·cases hi;rfl
    ·cases hi
   ·rw[if_neg e] at hi
    cases x with
    |none=>rfl
    |some s=>
     show (decide (s.t=t')&&decide (s.g=g'))=false
     rw[Bool.and_eq_false_iff]
     by_cases d1:s.t=t'
     ·by_cases d2:s.g=g'
      ·exact absurd (hu j i r s hr hi (rt.trans d1.symm) (rg.trans d2.symm)) e
      ·exact .inr (decide_eq_false d2)
     ·exact .inl (decide_eq_false d1)
  rw[e]
  rfl
 ·rw[if_neg c]
  unfold fnd
  rw[agm (x:=some r) (by
   show false=(decide (r.t=t')&&decide (r.g=g'))
   symm
   rw[Bool.and_eq_false_iff]
   by_cases d:r.t=t'
   ·refine .inr (decide_eq_false fun d2=>c ?_)
    rw[←d,←d2,rt,rg]
   ·exact .inl (decide_eq_false d)) hr]
noncomputable def af1 (C:Addr):Sp:=fun vs H Q _=>∃(p ra fa:Addr) (rows:List (Option Rw)) (n:Nat) (hd:Int) (t g:Int),vs=[.ref p,.int t,.int g]∧BkAt C H p ra fa rows n hd∧Uq rows∧∀H',BkAt C H' p ra fa (strikeR rows t g) n hd→Kp [ra,fa] H H'→Q .non H'
theorem ajf (T:Txt K mg A):HaveM P w K mg base A.Aa "strike" 1 ["self","task","page"] [] (af1 A.Aa):=by
 refine T.Aq.have aby (fun vs H Q E z=>?_) ?_
 ·obtain⟨p,ra,fa,rows,n,hd,t,g,rfl,_⟩:=z;rfl
 ·intro f cdv A' outer s H vs Q E hr z
  obtain⟨p,ra,fa,rows,n,hd,t,g,rfl,hB,hu,q⟩:=z
  obtain⟨dx,vs,kvs,h1,h2,h3,h4,h5,h6⟩:=id hB
  refine⟨_,(aae (aa8 (akw (pc_din (ac4 hr) (aa4 (aaa (pvM 1) (aaa (pvM 2) aad))) (aan (pvM 0) rfl))) (aab (aas (i:=3) aby.nd rfl (Or.inl rfl) (aka (ac4 hr) (aan (pvM 0) rfl) (aa4 (aaa (pvM 1) (aaa (pvM 2) aad))) ⟨rfl,rfl,rfl,rfl⟩))
   (aae (aci abb (ach (aan (pvM 0) rfl) (pvM 3) abo)))) aam)),?_⟩
  unfold tDIn tDPopT
  walk_at "wp"
  intro kp hkp
  have b1:=aaj (o:=.tup [V.int t,V.int g]) (aai (H:=H)) hkp
  have hkp':upd H kp (.tup [V.int t,V.int g]) kp=some (.tup [V.int t,V.int g]):=aag
  generalize upd H kp (.tup [V.int t,V.int g])=H1 at *
  refine⟨_,dx,_,b1 _ _ h1,T.Ab,T.Ad,_,abk,fa,rfl,_,DGet.t (k:=ky t g) (b1 _ _ h4) hkp',?_⟩
  unfold strikeR at q
  rw[h5.1 t g]
  cases e:fnd rows t g with
  |none=>
   simp only[e] at q
   rw[if_neg (by simp)]
   exact q _ (hB.same b1) fun c o hc _=>b1 _ _ hc
  |some j=>
   obtain⟨r,hr1,rt,rg⟩:=aa3 e
   simp only[e] at q
   rw[if_pos (by simp)]
   refine⟨_,dx,_,b1 _ _ h1,T.Ab,T.Ad,_,abk,fa,rfl,.inr ⟨kvs,.inl (b1 _ _ h4)⟩,fun kk hkk=>?_⟩
   have b2:=aaj (o:=.tup [V.int t,V.int g]) b1 hkk
   refine⟨kvs,b2 _ _ h4,ky t g,rfl,V.int (j:Int),by rw[h5.1 t g,e];rfl,?_⟩
   have hpf:p≠fa:=fun z=>by rw[z,h4] at h1;cases h1
   have hrf:ra≠fa:=fun z=>by rw[z,h4] at h2;cases h2
   have hpr:p≠ra:=fun z=>by rw[z,h2] at h1;cases h1
   generalize upd H1 kk (.tup [V.int t,V.int g])=H2 at *
   have k1:upd H2 fa (.dT (dropK kvs (ky t g))) p=some (.ins A.Aa dx (bkF ra fa hd)):=by rw[aaf hpf];exact b2 _ _ h1
   have k2:upd H2 fa (.dT (dropK kvs (ky t g))) ra=some (.lst vs):=by rw[aaf hrf];exact b2 _ _ h2
   have k3:=RsAt.sameD (o:=.dT (dropK kvs (ky t g))) (b2 _ _ h4) (h3.same b2)
   have k4:upd H2 fa (.dT (dropK kvs (ky t g))) fa=some (.dT (dropK kvs (ky t g))):=aag
   have kf:Kp [ra,fa] H (upd H2 fa (.dT (dropK kvs (ky t g)))):=fun c o hc hx=>by
    rw[aaf (fun z=>hx (by simp[z]))]
    exact b2 _ _ hc
   generalize upd H2 fa (.dT (dropK kvs (ky t g)))=H3 at *
   have hjl:j < vs.length:=by rw[Paired.length h3];exact (List.getElem?_eq_some_iff.mp hr1).1
   refine⟨_,dx,_,k1,T.Ab,T.Ac,_,aav,ra,rfl,vs,_,rfl,k2,j,by unfold ixN;rw[if_pos (by omega),if_pos (by omega)];rfl,?_⟩
   refine q _ ⟨dx,vs.set j .non,dropK kvs (ky t g),?_,aag,?_,?_,ahg h5 hu e,Nat.le_trans (agb ..) h6⟩ ?_
   ·rw[aaf hpr];exact k1
   ·exact ace (F:=RowAt _) (show RowAt _ V.non none from rfl) j (RsAt.same2 k2 k3)
   ·rw[aaf (fun z=>hrf z.symm)];exact k4
   ·intro c o hc hx
    rw[aaf (fun z=>hx (by simp[z]))]
    exact kf c o hc hx
noncomputable def rg (n:Nat) (h:Int) (j:Nat):List Int:=(List.range j).map fun (i:Nat)=>(h+(i:Int)) % (n:Int)
theorem ak8 {n j:Nat} {h:Int}:(rg n h j).length=j:=by unfold rg;rw[List.length_map,List.length_range]
theorem amd {n j:Nat} {h:Int}:rg n h (j+1)=rg n h j++[(h+j) % (n:Int)]:=by unfold rg;rw[List.range_succ,List.map_append];rfl
noncomputable def sp_sw (K:PySem.W.Frag):Sp:=fun vs H Q _=>∃(m:Addr) (h:Int) (bs:List Bool),vs=[.ref m,.int h]∧SqL K H m (bs.map V.bl)∧0≤h∧h < bs.length∧bs.length≤1000∧
 ∀(t u:Addr) (j:Nat) H',Same H H'→H t=none→H u=none→j≤bs.length→(∀i < j,bs.getD ((h+i) % (bs.length:Int)).toNat false=true)→(j=bs.length∨bs.getD ((h+j) % (bs.length:Int)).toNat false=false)→
  H' t=some (.tup [.int ((h+j) % (bs.length:Int)),.ref u])→H' u=some (.lst ((rg bs.length h j).map V.int))→Q (.ref t) H'
theorem h_sw (T:Txt K mg A):Have P w K mg base "swept" 1 ["marks","hand"] [] (sp_sw K):=by
 refine T.Bf.have acz (fun vs H Q E z=>?_) ?_
 ·obtain⟨m,h,bs,rfl,_⟩:=z;rfl
 ·intro f cdv A' outer s H vs Q E hr z
  obtain⟨m,h,bs,rfl,hm,h0,h1,h2,q⟩:=z
  refine⟨_,(aab (aas (i:=2) acz.nd rfl (Or.inl rfl) (ad5 aad))
   (aab (aas (i:=3) acz.nd rfl (Or.inl rfl) (pvM 1))
   (aab (aip PassesOwn.leaving (PW.pt (aew (aar alk (aap aa0 rfl T.Ag PySem.boot_len (aaa (pvM 2) aad)) (aap aa0 rfl T.Ag PySem.boot_len (aaa (pvM 0) aad)) (nomark _)) (adm (abe (aak aaz (pvM 0) (pvM 3) (fun _ _=>rfl)))))) (aab (ab1 (ajz PySem.F.plainAttrs_list PySem.F.slot_list_append PySem.F.type_list_append adt (pvM 2) (aaa (pvM 3) aad)))
   (aae (aas (i:=3) acz.nd rfl (Or.inl rfl) (aao abf (aao abw (pvM 3) aac) (aap aa0 rfl T.Ag PySem.boot_len (aaa (pvM 0) aad)))))))
   (aae (aaw (aa4 (aaa (pvM 3) (aaa (pvM 2) aad)))))))),?_⟩
  walk_at "wp"
  intro u hu
  refine ahb (fun mm σ H'=>∃j:Nat,mm=bs.length - j∧j≤bs.length∧σ=[some (.ref m),some (.int h),some (.ref u),some (.int ((h+j) % (bs.length:Int)))]∧Same H H'∧H' u=some (.lst ((rg bs.length h j).map V.int))∧(∀i < j,bs.getD ((h+i) % (bs.length:Int)).toNat false=true)) bs.length ⟨0,rfl,Nat.zero_le _,?_,aaj aai hu,aag,fun i hi=>absurd hi (Nat.not_lt_zero _)⟩ (fun mm σ H'=>?_)
  ·rw[show (h+((0:Nat):Int)) % (bs.length:Int)=h by rw[Int.emod_eq_of_lt]<;>omega]
  ·rintro⟨j,rfl,hj,rfl,sm,hu',hall⟩
   walk_at "wp"
   refine⟨j,.inl ⟨_,SqL.of hu',by rw[List.length_map,ak8]⟩,bs.length,.inl ⟨_,sm.seq hm,by simp⟩,?_⟩
   have hpos:(0:Int) < bs.length:=by omega
   have hp0:=Int.emod_nonneg (h+j) (show (bs.length:Int)≠0 by omega)
   have hp1:=Int.emod_lt_of_pos (h+j) hpos
   have hat:atI (bs.map V.bl) ((h+j) % (bs.length:Int))=some (.bl (bs.getD ((h+j) % (bs.length:Int)).toNat false)):=by
    generalize (h+j) % (bs.length:Int)=p at *
    have e:=aa5 (xs:=bs.map V.bl) (j:=p.toNat) (v:=.bl (bs.getD p.toNat false)) (by
     have:p.toNat < bs.length:=by omega
     simp[this])
    rw[show ((p.toNat:Nat):Int)=p by omega] at e
    exact e
   by_cases c:(j:Int) < bs.length
   ·rw[if_pos c]
    refine⟨_,sm.seq hm,_,hat,_,rfl,?_⟩
    cases hb:bs.getD ((h+j) % (bs.length:Int)).toNat false with
    |true=>
     refine iteT (turnW ?_)
     walk_at "wp"
     refine⟨.inl ⟨rfl,_,SqL.of hu'⟩,_,hu',by rw[List.length_map,ak8];omega,bs.length,.inl ⟨_,(ac0 sm hu).seq hm,by simp⟩,hpos,bs.length - (j+1),by omega,j+1,rfl,by omega,?_,ac0 sm hu,?_,fun i hi=>?_⟩
     ·rw[Int.emod_add_emod]
      congr 1
      omega
     ·rw[amd,List.map_append];rfl
     ·rcases (by omega:i < j∨i=j) with hi|rfl
      ·exact hall i hi
      ·exact hb
    |false=>
     refine iteF fun t ht=>?_
     exact q t u j _ (aaj sm ht) (ac1 sm ht) hu hj hall (.inr hb) aag (by rw[aaf (aay hu' ht)];exact hu')
   ·rw[if_neg c]
    refine iteF fun t ht=>?_
    exact q t u j _ (aaj sm ht) (ac1 sm ht) hu hj hall (.inl (by omega)) aag (by rw[aaf (aay hu' ht)];exact hu')
noncomputable def off (r:Rw):Rw:=⟨r.t,r.g,r.e,false⟩
noncomputable def clr (L:List Rw) (is:List Int):List Rw:=is.foldl (fun L i=>L.modify i.toNat off) L
theorem adb {is:List Int}:∀{L:List Rw},(clr L is).length=L.length:=by
 induction is with
 |nil=>intro L;rfl
 |cons i is ih=>intro L;show (clr (L.modify i.toNat off) is).length=_;rw[ih,List.length_modify]
theorem ago {L:List Rw} {is:List Int} {i:Int}:clr L (is++[i])=(clr L is).modify i.toNat off:=by unfold clr;rw[List.foldl_append];rfl
theorem ajg {L:List Rw} {k:Nat} {r:Rw} (h:L[k]?=some r):L.modify k off=L.set k (off r):=by
 apply List.ext_getElem?
 intro i
 rw[List.getElem?_modify,List.getElem?_set]
 by_cases e:k=i
 ·subst e
  rw[if_pos rfl,if_pos (List.getElem?_eq_some_iff.mp h).1,h]
  show some (if k=k then off r else r)=some (off r)
  rw[if_pos rfl]
 ·rw[if_neg e]
  cases L[i]? with
  |none=>rfl
  |some x=>
   show some (if k=i then off x else x)=some x
   rw[if_neg e]
theorem aet {L:List Rw} {k i:Nat} {s:Rw} (h:(L.modify k off)[i]?=some s):∃r,L[i]?=some r∧s.t=r.t∧s.g=r.g:=by
 rw[List.getElem?_modify] at h
 cases e:L[i]? with
 |none=>rw[e] at h;cases h
 |some r=>
  rw[e] at h
  refine⟨r,rfl,?_⟩
  have h:(if k=i then off r else r)=s:=by simpa using h
  subst h
  split<;>exact⟨rfl,rfl⟩
theorem uq_mod {L:List Rw} {k:Nat} (h:Uq (L.map some)):Uq ((L.modify k off).map some):=by
 intro i j r s hi hj et eg
 have gt:∀{M:List Rw} {i:Nat} {x:Rw},(M.map some)[i]?=some (some x)→M[i]?=some x:=fun {M i x} q=>by
  rw[List.getElem?_map] at q
  cases e:M[i]? with
  |none=>rw[e] at q;cases q
  |some y=>rw[e] at q;cases q;rfl
 obtain⟨r',hr',e1,e2⟩:=aet (gt hi)
 obtain⟨s',hs',e3,e4⟩:=aet (gt hj)
 exact h i j r' s' (by rw[List.getElem?_map,hr'];rfl) (by rw[List.getElem?_map,hs'];rfl) (by rw[←e1,←e3];exact et) (by rw[←e2,←e4];exact eg)
theorem ak9 {is:List Int}:∀{L:List Rw},Uq (L.map some)→Uq ((clr L is).map some):=by
 induction is with
 |nil=>intro L h;exact h
 |cons i is ih=>intro L h;exact ih (uq_mod h)
theorem akj {ra fa:Addr} {hd:Int}:(bkF ra fa hd).lookup ("hand":Str)=some (.int hd):=by rfl
theorem ame {ra fa:Addr} {hd hd':Int}:putF "hand" (.int hd') (bkF ra fa hd)=bkF ra fa hd':=by rfl
theorem RowAt.sameI {H:Hp} {a C dx:Addr} {fs:List (Str×V)} {o:HO} (hx:H a=some (.ins C dx fs)) {v:V}:∀{r:Option Rw},RowAt H v r→RowAt (upd H a o) v r
 |none,h=>h
 |some _,⟨b,e,h⟩=>⟨b,e,by rw[aaf (fun z=>by rw[z,hx] at h;cases h)];exact h⟩
noncomputable def ajh (C:Addr):Sp:=fun vs H Q _=>∃(p ra fa:Addr) (L:List Rw) (n:Nat) (hd:Int),vs=[.ref p]∧BkAt C H p ra fa (L.map some) n hd∧Uq (L.map some)∧L.length≤1000∧0≤hd∧hd < L.length∧
 ∀(j:Nat) H',j≤L.length→(∀i < j,(L.map (·.u)).getD ((hd+i) % (L.length:Int)).toNat false=true)→(j=L.length∨(L.map (·.u)).getD ((hd+j) % (L.length:Int)).toNat false=false)→
  BkAt C H' p ra fa (((clr L (rg L.length hd j)).map some).set ((hd+j) % (L.length:Int)).toNat none) n (((hd+j) % (L.length:Int)+1) % (L.length:Int))→Kp [p,ra,fa] H H'→Q (.int ((hd+j) % (L.length:Int))) H'
theorem h_newF (T:Txt K mg A):HaveM P w K mg base A.Aa "place_for_new" 2 ["self"] [] (ajh A.Aa):=by
 have Aw:=h_sw (P:=P) (w:=w) (base:=base) T
 have Af:=ajf (P:=P) (w:=w) (base:=base) T
 refine T.Aj.have aah (fun vs H Q E z=>?_) ?_
 ·obtain⟨p,ra,fa,L,n,hd,rfl,_⟩:=z;rfl
 ·intro f cdv A' outer s H vs Q E hr z
  obtain⟨p,ra,fa,L,n,hd,rfl,hB,hu,hL,h0,hlt,q⟩:=z
  obtain⟨dx,vs,kvs,h1,h2,h3,h4,h5,h6⟩:=id hB
  have hvl:=Paired.length h3
  rw[List.length_map] at hvl
  refine⟨_,(aab (aa8 (aar (ak3 (hu6 hr)) abb (aan (pvM 0) rfl) (by with_unfolding_all rfl)) (aae (aaw (ajz PySem.F.plainAttrs_list PySem.F.slot_list_index PySem.F.type_list_index (afe (hu6 hr)) (aan (pvM 0) rfl) (aaa abb aad)))) aam)
   (aab (aas (i:=1) aah.nd rfl (Or.inl rfl) (aaq Aw (hr.mono (by decide)) aat (aaa (ail rfl (acj (aan (pvM 0) rfl)) (x:="row") (fs:=[]) (ix:=[]) rfl rfl (fun _ _ _ _ _ _=>(abc (i:=0) (show (["row"]:List Str).Nodup by decide+kernel) rfl (Or.inl rfl))) (fun _ _ _ _ _ _=>aij) (fun _ _ _ _ _ _=>(aak (aiq (K:=K) rfl) (pvM 0) aac (fun _ _=>rfl)))) (aaa (aan (pvM 0) rfl) aad))))
   (aab (abr PassesOwn.leaving rfl (acj (aak aal (pvM 1) aac (fun _ _=>rfl))) (abc (i:=2) aah.nd rfl (Or.inl rfl)) (aab (aas (i:=3) aah.nd rfl (Or.inl rfl) (aak aaz (aan (pvM 0) rfl) (pvM 2) (fun _ _=>rfl)))
   (aae (aci (aa4 (aaa (aak aal (pvM 3) aac (fun _ _=>rfl)) (aaa (aak aal (pvM 3) aac (fun _ _=>rfl)) (aaa (aak aal (pvM 3) aac (fun _ _=>rfl)) (aaa abu aad))))) (ach (aan (pvM 0) rfl) (pvM 2) abo)))))
   (aab (aas (i:=4) aah.nd rfl (Or.inl rfl) (aak aaz (aan (pvM 0) rfl) (aak aal (pvM 1) aac (fun _ _=>rfl)) (fun _ _=>rfl)))
   (aab (ab1 (abx (pvM 0) T.Ab Af (hr.mono (by decide)) aat (aaa (aak aal (pvM 4) aac (fun _ _=>rfl)) (aaa (aak aal (pvM 4) aac (fun _ _=>rfl)) aad))))
   (aab (ae0 (pvM 0) (aao abf (aao abw (aak aal (pvM 1) aac (fun _ _=>rfl)) aac) (aap aa0 rfl T.Ag PySem.boot_len (aaa (aan (pvM 0) rfl) aad))) rfl)
   (aae (aaw (aak aal (pvM 1) aac (fun _ _=>rfl)))))))))),?_⟩
  walk_at "wp"
  simp only[h1]
  walk_at "wp"
  have hn:∀z∈vs,NTup K H z:=fun z hz=>by
   obtain⟨i,hi⟩:=List.mem_iff_getElem?.mp hz
   obtain⟨y,_,hy⟩:=acd h3 hi
   cases y with
   |none=>exact .inl hy
   |some r=>obtain⟨a,e,h⟩:=hy;exact .inr ⟨a,_,e,SqT.of h⟩
  have ha:vs.any isN=false:=by
   rw[List.any_eq_false]
   intro z hz
   obtain⟨i,hi⟩:=List.mem_iff_getElem?.mp hz
   obtain⟨y,hy1,hy⟩:=acd h3 hi
   obtain⟨r,_,rfl⟩:=List.mem_map.mp (List.mem_of_getElem? hy1)
   obtain⟨a,rfl,_⟩:=hy
   exact Bool.false_ne_true
  refine⟨T.Ab,T.Ac,_,aav,ra,vs,rfl,rfl,SqL.of h2,hn,false,by rw[ha],iteF ?_⟩
  refine⟨_,dx,_,h1,T.Ab,T.Ac,_,aav,ra,rfl,⟨_,SqL.of h2⟩,fun D hD=>?_⟩
  refine aik (xs:=vs) (fun i ys σ H'=>∃v,σ=[v]∧Same H H'∧H' D=some (.lst ys)∧ys=((L.take i).map (·.u)).map V.bl) ⟨_,rfl,aaj aai hD,aag,rfl⟩ (fun i ys σ H' _ ⟨_,_,s2,_⟩=>SqL.of (s2 _ _ h2)) (fun i v ys σ H' hi=>?_) (fun ys σ H2=>?_)
  ·rintro⟨v0,rfl,s2,hDD,rfl⟩
   obtain⟨y,hy1,hy2⟩:=acd h3 hi
   rw[List.getElem?_map] at hy1
   cases hr:L[i]? with
   |none=>rw[hr] at hy1;cases hy1
   |some r=>
    rw[hr] at hy1
    cases hy1
    obtain⟨c,rfl,hc⟩:=hy2
    have hil:=(List.getElem?_eq_some_iff.mp hr).1
    walk_at "wp"
    refine⟨_,SqT.of (s2 _ _ hc),_,rfl,hDD,by rw[List.length_map,List.length_map,List.length_take];omega,ac0 s2 hD,?_⟩
    rw[List.take_add_one,hr,List.map_append,List.map_append]
    rfl
  rintro⟨v0,rfl,s2,hDD,rfl⟩
  rw[hvl,List.take_length] at hDD
  unfold sp_sw
  walk_at "wp"
  refine⟨_,dx,_,s2 _ _ h1,T.Ab,T.Am,_,akj,?_⟩
  refine⟨hd,rfl,L.map (·.u),SqL.of hDD,h0,by rw[List.length_map];exact hlt,by rw[List.length_map];exact hL,fun t u j H3 s3 ht0 hu0 hj hall hor hT hU=>?_⟩
  simp only[List.length_map] at hj hall hor hT hU
  have s03:=s2.trans s3
  have nur:u∉[ra]:=fun z=>by rw[List.mem_singleton.mp z,s2 _ _ h2] at hu0;cases hu0
  have ntr:t∉[ra]:=fun z=>by rw[List.mem_singleton.mp z,s2 _ _ h2] at ht0;cases ht0
  have lp:(0:Int) < (L.length:Int):=by omega
  refine⟨_,SqT.of hT,_,rfl,u,rfl,⟨_,SqL.of hU⟩,acy (xs:=(rg L.length hd j).map V.int) (fun i σ H'=>∃v2 v3,σ=[some (.ref p),some (.ref t),v2,v3,none]∧BkAt A.Aa H' p ra fa ((clr L ((rg L.length hd j).take i)).map some) n hd∧Kp [ra] H3 H') ⟨_,_,rfl,hB.same s03,(fun _ _ h _=>h)⟩ (fun i σ H' _ ⟨_,_,_,_,e⟩=>SqL.of (e _ _ hU nur)) (fun i x σ H' hi=>?_) (fun σ H4=>?_)⟩
  ·rintro⟨v2,v3,rfl,hB',kp'⟩
   obtain⟨dx',vs',kvs',k1,k2,k3,k4,k5,k6⟩:=id hB'
   have hvl':=Paired.length k3
   rw[List.length_map,adb] at hvl'
   rw[List.getElem?_map] at hi
   cases hz:(rg L.length hd j)[i]? with
   |none=>rw[hz] at hi;cases hi
   |some z=>
    rw[hz] at hi
    cases hi
    have hz2:0≤z∧z < L.length:=by
     have hm:=List.mem_of_getElem? hz
     unfold rg at hm
     obtain⟨a,_,rfl⟩:=List.mem_map.mp hm
     exact⟨Int.emod_nonneg _ (by omega),Int.emod_lt_of_pos _ lp⟩
    have htk:(rg L.length hd j).take (i+1)=(rg L.length hd j).take i++[z]:=by rw[List.take_add_one,hz];rfl
    obtain⟨r,hr⟩:∃r,(clr L ((rg L.length hd j).take i))[z.toNat]?=some r:=⟨_,List.getElem?_eq_getElem (by rw[adb];omega)⟩
    have hr':((clr L ((rg L.length hd j).take i)).map some)[z.toNat]?=some (some r):=by rw[List.getElem?_map,hr];rfl
    obtain⟨x,hx,c,rfl,hc⟩:=aa7 k3 hr'
    have hxz:atI vs' z=some (V.ref c):=by
     have:=aa5 hx
     rwa[show ((z.toNat:Nat):Int)=z by omega] at this
    walk_at "wp"
    refine⟨_,dx',_,k1,T.Ab,T.Ac,_,aav,ra,rfl,vs',SqL.of k2,_,hxz,?_⟩
    refine⟨c,rfl,_,SqT.of hc,_,rfl,c,rfl,_,SqT.of hc,_,rfl,c,rfl,_,SqT.of hc,_,rfl,fun np hnp=>?_⟩
    have b:=aaj (o:=.tup [.int r.t,.int r.g,.int r.e,.bl false]) (aai (H:=H')) hnp
    have npr:np≠ra:=fun z=>by rw[z,k2] at hnp;cases hnp
    refine⟨_,dx',_,b _ _ k1,T.Ab,T.Ac,_,aav,ra,rfl,vs',b _ _ k2,z.toNat,by unfold ixN;rw[if_pos hz2.1,if_pos (by omega)],⟨dx',vs'.set z.toNat (.ref np),kvs',?_,aag,?_,?_,?_,k6⟩,?_⟩
    ·rw[aaf (fun z=>by rw[z,k2] at k1;cases k1)];exact b _ _ k1
    ·rw[htk,ago,ajg hr,List.map_set]
     exact ace (F:=RowAt _) (show RowAt _ (V.ref np) (some _) from ⟨np,rfl,by rw[aaf npr];exact aag⟩) z.toNat (RsAt.same2 (b _ _ k2) (k3.same b))
    ·rw[aaf (fun z=>by rw[z,k2] at k4;cases k4)];exact b _ _ k4
    ·rw[htk,ago,ajg hr,List.map_set]
     exact aer k5 hr' rfl rfl
    ·intro c o hc hx
     rw[aaf (fun z=>hx (by simp[z]))]
     exact b _ _ (kp' c o hc hx)
  rintro⟨v2,v3,rfl,hB4,kp4⟩
  rw[List.length_map,List.take_length] at hB4
  have hpl:0≤(hd+j) % (L.length:Int)∧(hd+j) % (L.length:Int) < L.length:=⟨Int.emod_nonneg _ (by omega),Int.emod_lt_of_pos _ lp⟩
  have hT4:=kp4 _ _ hT ntr
  have q:=q j
  generalize (hd+j) % (L.length:Int)=pl at *
  have u4:=ak9 (is:=rg L.length hd j) hu
  have l4:(clr L (rg L.length hd j)).length=L.length:=adb
  generalize clr L (rg L.length hd j)=L4 at *
  obtain⟨dx4,vs4,kvs4,k1,k2,k3,k4,k5,k6⟩:=id hB4
  have hvl4:=Paired.length k3
  rw[List.length_map] at hvl4
  obtain⟨r,hr⟩:∃r,L4[pl.toNat]?=some r:=⟨_,List.getElem?_eq_getElem (by omega)⟩
  have hr':(L4.map some)[pl.toNat]?=some (some r):=by rw[List.getElem?_map,hr];rfl
  obtain⟨x,hx,c,rfl,hc⟩:=aa7 k3 hr'
  have hxz:atI vs4 pl=some (V.ref c):=by
   have:=aa5 hx
   rwa[show ((pl.toNat:Nat):Int)=pl by omega] at this
  have hf:strikeR (L4.map some) r.t r.g=(L4.map some).set pl.toNat none:=by
   unfold strikeR
   cases e:fnd (L4.map some) r.t r.g with
   |none=>
    have:=List.findIdx?_eq_none_iff.mp e (some r) (List.mem_of_getElem? hr')
    have this:(decide (r.t=r.t)&&decide (r.g=r.g))=false:=this
    simp at this
   |some j'=>
    obtain⟨r',h1',e1,e2⟩:=aa3 e
    show (L4.map some).set j' none=_
    rw[u4 j' pl.toNat r' r h1' hr' e1 e2]
  walk_at "wp"
  refine⟨_,dx4,_,k1,T.Ab,T.Ac,_,aav,_,SqT.of hT4,_,rfl,ra,rfl,vs4,pl,rfl,SqL.of k2,_,hxz,dx4,_,k1,ab7 (by decide+kernel),c,rfl,_,SqT.of hc,_,rfl,c,rfl,_,SqT.of hc,_,rfl,?_⟩
  refine⟨p,ra,fa,_,n,hd,r.t,r.g,rfl,hB4,u4,fun H5 hB5 kp5=>?_⟩
  rw[hf] at hB5
  have hT5:=kp5 _ _ hT4 (fun z=>by
   rcases List.mem_cons.mp z with z|z
   ·rw[z,k2] at hT4;cases hT4
   ·rw[List.mem_singleton.mp z,k4] at hT4;cases hT4)
  obtain⟨dx5,vs5,kvs5,m1,m2,m3,m4,m5,m6⟩:=id hB5
  have hvl5:=Paired.length m3
  rw[List.length_set,List.length_map,l4] at hvl5
  have ntp:t≠p:=fun z=>by rw[z,m1] at hT5;cases hT5
  refine⟨_,SqT.of hT5,_,rfl,pl,rfl,_,dx5,_,m1,T.Ab,T.Ac,_,aav,_,.inl ⟨_,SqL.of m2,rfl⟩,by omega,_,dx5,_,m1,T.Ab,T.Am,by show 3 < 1000;decide,_,SqT.of (by rw[aaf ntp];exact hT5),_,rfl,?_⟩
  rw[ame,hvl5]
  refine q _ hj hall hor ⟨dx5,vs5,kvs5,aag,?_,Paired.mapP m3 fun _ _ z=>z.sameI m1,?_,m5,m6⟩ ?_
  ·rw[aaf (fun z=>by rw[z,m1] at m2;cases m2)];exact m2
  ·rw[aaf (fun z=>by rw[z,m1] at m4;cases m4)];exact m4
  ·intro c o hc hx
   rw[aaf (fun z=>hx (by simp[z]))]
   refine kp5 _ _ (kp4 _ _ (s03 _ _ hc) (fun z=>hx ?_)) (fun z=>hx ?_)
   ·rw[List.mem_singleton.mp z];simp
   ·rcases List.mem_cons.mp z with z|z
    ·simp[z]
    ·rw[List.mem_singleton.mp z];simp
theorem agp {is:List Int}:∀{L:List Rw} {i:Nat} {s:Rw},(clr L is)[i]?=some s→∃r,L[i]?=some r∧s.t=r.t∧s.g=r.g:=by
 induction is with
 |nil=>intro L i s h;exact⟨s,h,rfl,rfl⟩
 |cons k is ih=>
  intro L i s h
  obtain⟨r,h1,e1,e2⟩:=ih (L:=L.modify k.toNat off) h
  obtain⟨r',h2,e3,e4⟩:=aet h1
  exact⟨r',h2,e1.trans e3,e2.trans e4⟩
theorem amf {L:List Rw} {is:List Int} {k:Nat} {t g:Int} (h:fnd (L.map some) t g=none):fnd (((clr L is).map some).set k none) t g=none:=by
 unfold fnd
 rw[List.findIdx?_eq_none_iff]
 intro x hx
 rcases List.mem_or_eq_of_mem_set hx with hx|rfl
 ·obtain⟨s,hs,rfl⟩:=List.mem_map.mp hx
  obtain⟨i,hi⟩:=List.mem_iff_getElem?.mp hs
  obtain⟨r,hr,e1,e2⟩:=agp hi
  have:=List.findIdx?_eq_none_iff.mp h (some r) (List.mem_map.mpr ⟨r,List.mem_of_getElem? hr,rfl⟩)
  have this:(decide (r.t=t)&&decide (r.g=g))=false:=this
  show (decide (s.t=t)&&decide (s.g=g))=false
  rw[e1,e2]
  exact this
 ·rfl
noncomputable def agq (C:Addr):Sp:=fun vs H Q _=>∃(p ra fa:Addr) (L:List Rw) (n:Nat) (hd t g e:Int),vs=[.ref p,.int t,.int g,.int e]∧BkAt C H p ra fa (L.map some) n hd∧Uq (L.map some)∧L.length≤1000∧0≤hd∧hd < L.length∧n < 1000000∧
 (∀(j:Nat) r,fnd (L.map some) t g=some j→L[j]?=some r→∀H',BkAt C H' p ra fa ((L.set j ⟨t,g,e,r.u⟩).map some) n hd→Kp [ra,fa] H H'→Q .non H')∧
 (fnd (L.map some) t g=none→∀(j:Nat) H',j≤L.length→(∀i < j,(L.map (·.u)).getD ((hd+i) % (L.length:Int)).toNat false=true)→(j=L.length∨(L.map (·.u)).getD ((hd+j) % (L.length:Int)).toNat false=false)→
  BkAt C H' p ra fa (((clr L (rg L.length hd j)).set ((hd+j) % (L.length:Int)).toNat ⟨t,g,e,false⟩).map some) (n+1) (((hd+j) % (L.length:Int)+1) % (L.length:Int))→Kp [p,ra,fa] H H'→Q .non H')
theorem amg (T:Txt K mg A):Body P w K mg base "Book.keep" abn ["self","task","page","entry","place"] 2 (agq A.Aa):=by
 have Ae:=h_newF (P:=P) (w:=w) (base:=base) T
 ·intro f cdv A' outer s H vs Q E hr z
  obtain⟨p,ra,fa,L,n,hd,t,g,e,rfl,hB,hu,hL,h0,hlt,hn,qs,qn⟩:=z
  obtain⟨dx,vs,kvs,h1,h2,h3,h4,h5,h6⟩:=id hB
  have hvl:=Paired.length h3
  rw[List.length_map] at hvl
  refine⟨_,(aab (aa8 (aar adg (aap aa0 rfl T.Ag PySem.boot_len (aaa (aan (pvM 0) rfl) aad)) aac (nomark _)) (aae ac2) aam)
   (aab (aas (i:=4) aa9.nd rfl (Or.inl rfl) (acv (ac4 hr) (aan (pvM 0) rfl) (aa4 (aaa (pvM 1) (aaa (pvM 2) aad))) ⟨rfl,rfl,rfl,rfl⟩))
   (aab (aa8 (aar ab9 (pvM 4) abb (nomark _)) (aab (aci (aa4 (aaa (pvM 1) (aaa (pvM 2) (aaa (pvM 3) (aaa (aak aal (aak aaz (aan (pvM 0) rfl) (pvM 4) (fun _ _=>rfl)) aac (fun _ _=>rfl)) aad))))) (ach (aan (pvM 0) rfl) (pvM 4) abo))
   (aae ac2)) aam)
   (aab (aas (i:=4) aa9.nd rfl (Or.inl rfl) (abz (pvM 0) T.Ab Ae (hr.mono (by decide)) aat))
   (aab (aci (aa4 (aaa (pvM 1) (aaa (pvM 2) (aaa (pvM 3) (aaa abu aad))))) (ach (aan (pvM 0) rfl) (pvM 4) abo))
   (aae (aei (ac4 hr) (aan (pvM 0) rfl) (aa4 (aaa (pvM 1) (aaa (pvM 2) aad))) (pvM 4) rfl))))))),?_⟩
  unfold tDGet1 ajh sDPut
  walk_at "wp"
  simp only[h1]
  walk_at "wp"
  refine⟨T.Ab,T.Ac,_,aav,_,.inl ⟨_,SqL.of h2,rfl⟩,?_⟩
  rw[if_neg (by omega)]
  refine⟨T.Ab,T.Ad,_,abk,fa,rfl,.inr ⟨kvs,.inl h4⟩,fun kp hkp=>?_⟩
  have b1:=aaj (o:=.tup [V.int t,V.int g]) (aai (H:=H)) hkp
  have hkp':upd H kp (.tup [V.int t,V.int g]) kp=some (.tup [V.int t,V.int g]):=aag
  generalize upd H kp (.tup [V.int t,V.int g])=H1 at *
  refine⟨_,DGet.t (k:=ky t g) (b1 _ _ h4) hkp',?_⟩
  rw[h5.1 t g]
  cases e2:fnd (L.map some) t g with
  |some j=>
   obtain⟨r,hr1,rt,rg'⟩:=aa3 e2
   obtain⟨x,hx,c,rfl,hc⟩:=aa7 h3 hr1
   have hrL:L[j]?=some r:=by
    rw[List.getElem?_map] at hr1
    cases eL:L[j]? with
    |none=>rw[eL] at hr1;cases hr1
    |some y=>rw[eL] at hr1;cases hr1;rfl
   have q:=qs j r e2 hrL
   refine iteT ⟨_,dx,_,b1 _ _ h1,T.Ab,T.Ac,_,aav,ra,rfl,vs,_,rfl,SqL.of (b1 _ _ h2),_,aa5 hx,c,rfl,_,SqT.of (b1 _ _ hc),_,rfl,fun np hnp=>?_⟩
   have b2:=aaj (o:=.tup [V.int t,V.int g,V.int e,V.bl r.u]) b1 hnp
   have hr2:=b2 _ _ h2
   have npr:np≠ra:=fun z=>by rw[z,b1 _ _ h2] at hnp;cases hnp
   have hvl:j < vs.length:=(List.getElem?_eq_some_iff.mp hx).1
   refine⟨_,dx,_,b2 _ _ h1,T.Ab,T.Ac,_,aav,ra,rfl,vs,_,rfl,hr2,j,by unfold ixN;rw[if_pos (by omega),if_pos (by omega)];rfl,?_⟩
   refine q _ ⟨dx,vs.set j (.ref np),kvs,?_,aag,?_,?_,?_,h6⟩ ?_
   ·rw[aaf (fun z=>by rw[z,h2] at h1;cases h1)];exact b2 _ _ h1
   ·rw[List.map_set]
    exact ace (F:=RowAt _) (show RowAt _ (V.ref np) (some _) from ⟨np,rfl,by rw[aaf npr,aag]⟩) j (RsAt.same2 hr2 (h3.same b2))
   ·rw[aaf (fun z=>by rw[z,h2] at h4;cases h4)];exact b2 _ _ h4
   ·rw[List.map_set];exact aer h5 hr1 rt.symm rg'.symm
   ·intro c o hc hx
    rw[aaf (fun z=>hx (by simp[z]))]
    exact b2 _ _ hc
  |none=>
   have q:=qn e2
   rw[if_neg (by decide)]
   refine⟨dx,_,b1 _ _ h1,ab7 (by decide+kernel),ra,fa,L,n,hd,hB.same b1,hu,hL,h0,hlt,fun j H2 hj hall hor hB2 kp2 np hnp=>?_⟩
   have q:=q j
   have hpl:0≤(hd+j) % (L.length:Int)∧(hd+j) % (L.length:Int) < L.length:=⟨Int.emod_nonneg _ (by omega),Int.emod_lt_of_pos _ (by omega)⟩
   have hfc:=amf (is:=rg L.length hd j) (k:=((hd+j) % (L.length:Int)).toNat) e2
   have l4:(clr L (rg L.length hd j)).length=L.length:=adb
   generalize (((hd+j) % (L.length:Int)+1) % (L.length:Int))=hd2 at *
   generalize (hd+j) % (L.length:Int)=pl at *
   generalize clr L (rg L.length hd j)=L4 at *
   obtain⟨dx2,vs2,kvs2,m1,m2,m3,m4,m5,m6⟩:=id hB2
   have hvl2:=Paired.length m3
   rw[List.length_set,List.length_map,l4] at hvl2
   have hrn:((L4.map some).set pl.toNat none)[pl.toNat]?=some none:=by rw[List.getElem?_set_self (by rw[List.length_map];omega)]
   have b2:=aaj (o:=.tup [V.int t,V.int g,V.int e,V.bl false]) (aai (H:=H2)) hnp
   have hnp':upd H2 np (.tup [V.int t,V.int g,V.int e,V.bl false]) np=some (.tup [V.int t,V.int g,V.int e,V.bl false]):=aag
   have npr:np≠ra:=fun z=>by rw[z,m2] at hnp;cases hnp
   generalize upd H2 np (.tup [V.int t,V.int g,V.int e,V.bl false])=H3 at *
   have hr2:=b2 _ _ m2
   have hpr:p≠ra:=fun z=>by rw[z,m2] at m1;cases m1
   have hfr:fa≠ra:=fun z=>by rw[z,m2] at m4;cases m4
   have hpf:p≠fa:=fun z=>by rw[z,m4] at m1;cases m1
   refine⟨_,dx2,_,b2 _ _ m1,T.Ab,T.Ac,_,aav,ra,rfl,vs2,hr2,pl.toNat,by unfold ixN;rw[if_pos hpl.1,if_pos (by omega)],?_⟩
   have k1:upd H3 ra (.lst (vs2.set pl.toNat (V.ref np))) p=some (.ins A.Aa dx2 (bkF ra fa hd2)):=by rw[aaf hpr];exact b2 _ _ m1
   have k2:upd H3 ra (.lst (vs2.set pl.toNat (V.ref np))) ra=some (.lst (vs2.set pl.toNat (V.ref np))):=aag
   have k3:RsAt (upd H3 ra (.lst (vs2.set pl.toNat (V.ref np)))) (vs2.set pl.toNat (V.ref np)) (((L4.map some).set pl.toNat none).set pl.toNat (some ⟨t,g,e,false⟩)):=ace (F:=RowAt _) (show RowAt _ (V.ref np) (some _) from ⟨np,rfl,by rw[aaf npr];exact hnp'⟩) pl.toNat (RsAt.same2 hr2 (m3.same b2))
   have k4:upd H3 ra (.lst (vs2.set pl.toNat (V.ref np))) fa=some (.dT kvs2):=by rw[aaf hfr];exact b2 _ _ m4
   have kf:Kp [p,ra,fa] H (upd H3 ra (.lst (vs2.set pl.toNat (V.ref np)))):=fun c o hc hx=>by
    rw[aaf (fun z=>hx (by simp[z]))]
    exact b2 _ _ (kp2 c o (b1 _ _ hc) hx)
   generalize upd H3 ra (.lst (vs2.set pl.toNat (V.ref np)))=H4 at *
   refine⟨_,dx2,_,k1,T.Ab,T.Ad,_,abk,fun kk hkk=>?_⟩
   have b4:=aaj (o:=.tup [V.int t,V.int g]) (aai (H:=H4)) hkk
   have hval:valV kvs2 (ky t g)=none:=by rw[m5.1 t g,hfc];rfl
   refine⟨fa,rfl,_,DPut.t (k:=ky t g) (b4 _ _ k4) aag (by have:sizeLine=16777216:=PySem.sizeLine_eq;omega),?_⟩
   have el:((L4.map some).set pl.toNat none).set pl.toNat (some ⟨t,g,e,false⟩)=(L4.set pl.toNat ⟨t,g,e,false⟩).map some:=by rw[List.set_set,List.map_set]
   have hlk:=aja (r:=⟨t,g,e,false⟩) m5 hrn hfc
   rw[el] at k3 hlk
   rw[show ((pl.toNat:Nat):Int)=pl by omega] at hlk
   refine q _ hj hall hor ⟨dx2,vs2.set pl.toNat (V.ref np),_,?_,?_,?_,aag,hlk,?_⟩ ?_
   ·rw[aaf hpf];exact b4 _ _ k1
   ·rw[aaf (fun z=>hfr z.symm)];exact b4 _ _ k2
   ·exact RsAt.sameD (b4 _ _ k4) (k3.same b4)
   ·rw[show ky (⟨t,g,e,false⟩:Rw).t (⟨t,g,e,false⟩:Rw).g=ky t g from rfl,aeh _ hval,List.length_append]
    exact Nat.add_le_add m6 (Nat.le_refl _)
   ·intro c o hc hx
    rw[aaf (fun z=>hx (by simp[z]))]
    exact b4 _ _ (kf c o hc hx)
noncomputable def agr (C:Addr):Sp:=fun vs H Q _=>∃(p ra fa:Addr) (n:Nat) (hd t g e:Int),vs=[.ref p,.int t,.int g,.int e]∧BkAt C H p ra fa [] n hd∧Q .non H
theorem amh (T:Txt K mg A):Body P w K mg base "Book.keep" abn ["self","task","page","entry","place"] 2 (agr A.Aa):=by
 have Ae:=h_new (P:=P) (w:=w) (base:=base) T
 intro f cdv A' outer s H vs Q E hr z
 obtain⟨p,ra,fa,n,hd,t,g,e,rfl,hB,q⟩:=z
 obtain⟨dx,vs,kvs,h1,h2,h3,h4,h5,h6⟩:=id hB
 have hvl:=Paired.length h3
 refine⟨_,(aab (aa8 (aar adg (aap aa0 rfl T.Ag PySem.boot_len (aaa (aan (pvM 0) rfl) aad)) aac (nomark _)) (aae ac2) aam)
  (aab (aas (i:=4) aa9.nd rfl (Or.inl rfl) (acv (ac4 hr) (aan (pvM 0) rfl) (aa4 (aaa (pvM 1) (aaa (pvM 2) aad))) ⟨rfl,rfl,rfl,rfl⟩))
  (aab (aa8 (aar ab9 (pvM 4) abb (nomark _)) (aab (aci (aa4 (aaa (pvM 1) (aaa (pvM 2) (aaa (pvM 3) (aaa (aak aal (aak aaz (aan (pvM 0) rfl) (pvM 4) (fun _ _=>rfl)) aac (fun _ _=>rfl)) aad))))) (ach (aan (pvM 0) rfl) (pvM 4) abo))
  (aae ac2)) aam)
  (aab (aas (i:=4) aa9.nd rfl (Or.inl rfl) (abz (pvM 0) T.Ab Ae (hr.mono (by decide)) aat))
  (aab (aci (aa4 (aaa (pvM 1) (aaa (pvM 2) (aaa (pvM 3) (aaa abu aad))))) (ach (aan (pvM 0) rfl) (pvM 4) abo))
  (aae (aei (ac4 hr) (aan (pvM 0) rfl) (aa4 (aaa (pvM 1) (aaa (pvM 2) aad))) (pvM 4) rfl))))))),?_⟩
 unfold tDGet1 ajc sDPut
 walk_at "wp"
 simp only[h1]
 walk_at "wp"
 refine⟨T.Ab,T.Ac,_,aav,_,.inl ⟨_,SqL.of h2,rfl⟩,?_⟩
 rw[if_pos (by rw[hvl];rfl)]
 exact q
noncomputable def ags (C:Addr):Sp:=fun vs H Q E=>agr C vs H Q E∨ajd C vs H Q E∨agq C vs H Q E
theorem ami (T:Txt K mg A):HaveM P w K mg base A.Aa "keep" 3 ["self","task","page","entry"] [] (ags A.Aa):=T.A6.have aa9 (fun vs H Q E z=>by
 rcases z with ⟨p,ra,fa,n,hd,t,g,e,rfl,_⟩|⟨p,ra,fa,rows,n,j0,hd,t,g,e,rfl,_⟩|⟨p,ra,fa,L,n,hd,t,g,e,rfl,_⟩<;>rfl) (fun f cdv A' outer s H vs Q E hr z=>z.elim (amh T f cdv A' outer s H vs Q E hr) fun z=>z.elim (b_keep T f cdv A' outer s H vs Q E hr) (amg T f cdv A' outer s H vs Q E hr))
noncomputable def offR (t:Int):Option Rw→Option Rw
 |none=>none
 |some r=>if r.t=t then none else some r
noncomputable def offT (t:Int) (rows:List (Option Rw)):List (Option Rw):=rows.map (offR t)
noncomputable def Cut (t:Int) (rows rows':List (Option Rw)):Prop:=rows'.length=rows.length∧∀j:Nat,rows'[j]?=rows[j]?∨(rows'[j]?=some none∧∃r,rows[j]?=some (some r)∧r.t=t)
theorem ala {t:Int} {rows rows':List (Option Rw)} (h:Cut t rows rows') (hu:Uq rows):Uq rows':=fun i j r s hi hj e1 e2=>by
 have o:∀(i:Nat) (r:Rw),rows'[i]?=some (some r)→rows[i]?=some (some r):=fun i r hi=>by
  rcases h.2 i with q|⟨q,_⟩
  ·rw[←q];exact hi
  ·rw[q] at hi;cases hi
 exact hu i j r s (o i r hi) (o j s hj) e1 e2
theorem ahh {t g:Int} {rows rows':List (Option Rw)} (h:Cut t rows rows'):Cut t rows (strikeR rows' t g):=by
 unfold strikeR
 cases e:fnd rows' t g with
 |none=>exact h
 |some j=>
  obtain⟨r,hr,e1,e2⟩:=aa3 e
  refine⟨by rw[←h.1];exact List.length_set,fun i=>?_⟩
  show (rows'.set j none)[i]?=_∨_
  rw[List.getElem?_set]
  by_cases c:j=i
  ·subst c
   rw[if_pos rfl,if_pos (List.getElem?_eq_some_iff.mp hr).1]
   refine .inr ⟨rfl,r,?_,e1⟩
   rcases h.2 j with q|⟨q,_⟩
   ·rw[←q];exact hr
   ·rw[q] at hr;cases hr
  ·rw[if_neg c];exact h.2 i
theorem amj {rows:List (Option Rw)} {j:Nat} {t g:Int} (h:fnd rows t g=none):fnd (rows.set j none) t g=none:=by
 unfold fnd at *
 rw[List.findIdx?_eq_none_iff] at *
 intro x hx
 rcases List.mem_or_eq_of_mem_set hx with hx|rfl
 ·exact h x hx
 ·rfl
theorem amk {rows:List (Option Rw)} {t g:Int} (hu:Uq rows):fnd (strikeR rows t g) t g=none:=by
 unfold strikeR
 cases e:fnd rows t g with
 |none=>exact e
 |some j=>
  obtain⟨r,hr,e1,e2⟩:=aa3 e
  show fnd (rows.set j none) t g=none
  cases e3:fnd (rows.set j none) t g with
  |none=>rfl
  |some i=>
   obtain⟨s,hs,e4,e5⟩:=aa3 e3
   rw[List.getElem?_set] at hs
   by_cases c:j=i
   ·rw[if_pos c] at hs
    split at hs<;>cases hs
   ·rw[if_neg c] at hs
    exact absurd (hu j i r s hr hs (e1.trans e4.symm) (e2.trans e5.symm)) c
theorem aml {t:Int} {rows rows':List (Option Rw)} (h:Cut t rows rows') (hn:∀g,fnd rows' t g=none):rows'=offT t rows:=by
 refine List.ext_getElem? fun j=>?_
 unfold offT
 rw[List.getElem?_map]
 rcases h.2 j with q|⟨q,r,hr,e⟩
 ·cases hj:rows[j]? with
  |none=>rw[q,hj];rfl
  |some o=>
   rw[hj] at q
   rw[q]
   cases o with
   |none=>rfl
   |some r=>
    show some (some r)=some (if r.t=t then none else some r)
    by_cases c:r.t=t
    ·have:=List.findIdx?_eq_none_iff.mp (hn r.g) (some r) (List.mem_of_getElem? q)
     have this:(decide (r.t=t)&&decide (r.g=r.g))=false:=this
     rw[decide_eq_true c,decide_eq_true rfl] at this
     cases this
    ·rw[if_neg c]
 ·rw[q,hr]
  show some none=some (if r.t=t then none else some r)
  rw[if_pos e]
theorem akk {t g t' g':Int} {rows:List (Option Rw)} (h:fnd rows t' g'=none):fnd (strikeR rows t g) t' g'=none:=by
 unfold strikeR
 cases fnd rows t g with
 |none=>exact h
 |some j=>exact amj h
theorem amm {kvs:List (List Key×V)} {k:List Key} {v:V} (h:valV kvs k=some v):k∈kvs.map (·.1):=by
 induction kvs with
 |nil=>cases h
 |cons x r ih=>
  by_cases c:x.1=k
  ·rw[List.map_cons,c];exact List.mem_cons_self ..
  ·rw[aa2 c] at h
   exact List.mem_cons_of_mem _ (ih h)
noncomputable def agt (C:Addr):Sp:=fun vs H Q _=>∃(p ra fa:Addr) (rows:List (Option Rw)) (n:Nat) (hd:Int) (t:Int),vs=[.ref p,.int t]∧BkAt C H p ra fa rows n hd∧Uq rows∧n < 1000000∧∀H',BkAt C H' p ra fa (offT t rows) n hd→Kp [ra,fa] H H'→Q .non H'
theorem amn (T:Txt K mg A):HaveM P w K mg base A.Aa "strike_task" 2 ["self","task"] [] (agt A.Aa):=by
 have Af:=ajf (P:=P) (w:=w) (base:=base) T
 refine T.Ar.have abt (fun vs H Q E z=>?_) ?_
 ·obtain⟨p,ra,fa,rows,n,hd,t,rfl,_⟩:=z;rfl
 ·intro f cdv A' outer s H vs Q E hr z
  obtain⟨p,ra,fa,rows,n,hd,t,rfl,hB,hu,hn,q⟩:=z
  obtain⟨dx,vs,kvs,h1,h2,h3,h4,h5,h6⟩:=id hB
  refine⟨_,(aae (abr PassesOwn.leaving rfl (acj (adp (afz rfl) rfl T.A0 PyProof.Rows.boot_list (aaa (aan (pvM 0) rfl) aad))) (abc (i:=2) abt.nd rfl (Or.inl rfl)) (aae (aa8 (aar adg (aak aal (pvM 2) aac (fun _ _=>rfl)) (pvM 1) (nomark _)) (aae (ab1 (abx (pvM 0) T.Ab Af (hr.mono (by decide)) aat (aaa (aak aal (pvM 2) aac (fun _ _=>rfl)) (aaa (aak aal (pvM 2) aac (fun _ _=>rfl)) aad))))) aam)))),?_⟩
  walk_at "wp"
  simp only[h1]
  walk_at "wp"
  refine⟨T.Ab,T.Ad,_,abk,fa,rfl,kvs,h4,fun l us hl hk=>?_⟩
  have b1:=aaj (o:=.lst us) (aai (H:=H)) hl
  have hl':upd H l (.lst us) l=some (.lst us):=aag
  have hk:KysAt (upd H l (.lst us)) (kvs.map (·.1)) us:=Paired.mapP hk fun _ _ ⟨a,e,h⟩=>⟨a,e,b1 _ _ h⟩
  have hB:=hB.same b1
  have hlx:l∉[ra,fa]:=fun z=>by
   rcases List.mem_cons.mp z with z|z
   ·rw[z,h2] at hl;cases hl
   ·rw[List.mem_singleton.mp z,h4] at hl;cases hl
  have tx:∀c xs,upd H l (.lst us) c=some (.tup xs)→c∉[ra,fa]:=fun c xs hc z=>by
   rcases List.mem_cons.mp z with z|z
   ·rw[z,b1 _ _ h2] at hc;cases hc
   ·rw[List.mem_singleton.mp z,b1 _ _ h4] at hc;cases hc
  have q2:∀H',BkAt A.Aa H' p ra fa (offT t rows) n hd→Kp [ra,fa] (upd H l (.lst us)) H'→Q .non H':=fun H' hB' kp=>q H' hB' fun c o hc hx=>kp c o (b1 _ _ hc) hx
  generalize upd H l (.lst us)=H1 at *
  refine⟨⟨_,SqL.of hl'⟩,acy (xs:=us) (fun i σ H'=>∃v2 rows',σ=[some (.ref p),some (.int t),v2]∧BkAt A.Aa H' p ra fa rows' n hd∧Cut t rows rows'∧(∀k < i,∀g,(kvs.map (·.1))[k]?=some (ky t g)→fnd rows' t g=none)∧Kp [ra,fa] H1 H') ⟨_,_,rfl,hB,⟨rfl,fun _=>.inl rfl⟩,(fun k h=>absurd h (Nat.not_lt_zero _)),fun _ _ h _=>h⟩ (fun i σ H' _ ⟨_,_,_,_,_,_,e⟩=>SqL.of (e _ _ hl' hlx)) (fun i x σ H' hi=>?_) (fun σ H'=>?_)⟩
  ·rintro⟨v2,rows',rfl,hB',hcut,hno,kp⟩
   obtain⟨k,hk1,a,rfl,ha⟩:=aa7 hk hi
   obtain⟨y,hy,rfl⟩:=List.mem_map.mp (List.mem_of_getElem? hk1)
   obtain⟨kt,kg,ek⟩:=h5.2 y hy
   rw[ek] at ha hk1
   have ha':=kp _ _ ha (tx _ _ ha)
   have ha':H' a=some (.tup [V.int kt,V.int kg]):=ha'
   obtain⟨dx',vs',kvs',k1,_⟩:=id hB'
   unfold af1
   walk_at "wp"
   refine⟨_,SqT.of ha',_,rfl,rfl,?_⟩
   by_cases c:kt=t
   ·subst c
    rw[if_pos rfl]
    refine⟨dx',_,k1,ab7 (by decide+kernel),_,SqT.of ha',_,rfl,_,SqT.of ha',_,rfl,?_⟩
    refine⟨ra,fa,rows',n,hd,kt,rfl,kg,rfl,hB',ala hcut hu,fun H2 hB2 kp2=>⟨_,hB2,ahh hcut,fun k hk g hg=>?_,fun c o hc hx=>kp2 c o (kp c o hc hx) hx⟩⟩
    rcases (by omega:k < i∨k=i) with h|rfl
    ·exact akk (hno k h g hg)
    ·rw[hk1] at hg
     have e:kg=g:=by injection hg with hg;injection hg with _ b;injection b with b _;injection b
     rw[←e]
     exact amk (ala hcut hu)
   ·rw[if_neg (fun z=>c (V.int.inj z))]
    refine⟨_,hB',hcut,fun k hk g hg=>?_,kp⟩
    rcases (by omega:k < i∨k=i) with h|rfl
    ·exact hno k h g hg
    ·rw[hk1] at hg
     have e:kt=t:=by injection hg with hg;injection hg with a b;injection a
     exact absurd e c
  ·rintro⟨v2,rows',rfl,hB',hcut,hno,kp⟩
   walk_at "wp"
   have e:rows'=offT t rows:=aml hcut fun g=>by
    cases e:fnd rows' t g with
    |none=>rfl
    |some j=>
     obtain⟨r,hr,e1,e2⟩:=aa3 e
     have hr0:rows[j]?=some (some r):=by
      rcases hcut.2 j with z|⟨z,_⟩
      ·rw[←z];exact hr
      ·rw[z] at hr;cases hr
     have hv:=h5.1 t g
     cases e3:fnd rows t g with
     |none=>
      have:=List.findIdx?_eq_none_iff.mp e3 (some r) (List.mem_of_getElem? hr0)
      have this:(decide (r.t=t)&&decide (r.g=g))=false:=this
      rw[decide_eq_true e1,decide_eq_true e2] at this
      cases this
     |some j'=>
      rw[e3] at hv
      obtain⟨k,hk2⟩:=List.mem_iff_getElem?.mp (amm hv)
      have:=hno k (by rw[←Paired.length hk];exact (List.getElem?_eq_some_iff.mp hk2).1) g hk2
      rw[e] at this
      cases this
   rw[e] at hB'
   exact q2 _ hB' kp
theorem akl {xs:List V} {lo hi:Nat}:cutV xs (some (lo:Int)) (some (hi:Int))=(xs.take hi).drop lo:=by
 unfold cutV
 show (xs.drop (if (lo:Int) < 0 then ((lo:Int)+(xs.length:Int)).toNat else min (lo:Int).toNat xs.length)).take ((if (hi:Int) < 0 then ((hi:Int)+(xs.length:Int)).toNat else min (hi:Int).toNat xs.length) - (if (lo:Int) < 0 then ((lo:Int)+(xs.length:Int)).toNat else min (lo:Int).toNat xs.length))=_
 rw[if_neg (by omega),if_neg (by omega),Int.toNat_natCast,Int.toNat_natCast,List.drop_take]
 refine List.ext_getElem? fun k=>?_
 rw[List.getElem?_take,List.getElem?_take,List.getElem?_drop,List.getElem?_drop]
 by_cases h1:k < hi - lo
 ·rw[if_pos h1]
  by_cases h2:k < min hi xs.length - min lo xs.length
  ·rw[if_pos h2,Nat.min_eq_left (by omega)]
  ·rw[if_neg h2,List.getElem?_eq_none_iff.mpr (by omega)]
 ·rw[if_neg h1]
  by_cases h2:k < min hi xs.length - min lo xs.length
  ·rw[if_pos h2,List.getElem?_eq_none_iff.mpr (by omega)]
  ·rw[if_neg h2]
theorem ab5 {xs:List V} {hi:Nat}:cutV xs none (some (hi:Int))=xs.take hi:=by
 unfold cutV
 show (xs.drop 0).take ((if (hi:Int) < 0 then ((hi:Int)+(xs.length:Int)).toNat else min (hi:Int).toNat xs.length) - 0)=_
 rw[if_neg (by omega),Int.toNat_natCast,List.drop_zero,Nat.sub_zero]
 rcases Nat.le_total hi xs.length with h|h
 ·rw[Nat.min_eq_left h]
 ·rw[Nat.min_eq_right h,List.take_length,List.take_of_length_le h]
theorem ad1 {xs:List V} {lo:Nat}:cutV xs (some (lo:Int)) none=xs.drop lo:=by
 unfold cutV
 show (xs.drop (if (lo:Int) < 0 then ((lo:Int)+(xs.length:Int)).toNat else min (lo:Int).toNat xs.length)).take (xs.length - (if (lo:Int) < 0 then ((lo:Int)+(xs.length:Int)).toNat else min (lo:Int).toNat xs.length))=_
 rw[if_neg (by omega),Int.toNat_natCast]
 rcases Nat.le_total lo xs.length with h|h
 ·rw[Nat.min_eq_left h]
  exact List.take_of_length_le (by rw[List.length_drop];omega)
 ·rw[Nat.min_eq_right h,Nat.sub_self,List.take_zero,List.drop_eq_nil_of_le h]
noncomputable def sp_whole:Sp:=fun vs H Q _=>∃i:Int,vs=[.int i]∧Q (.bl true) H
theorem aji (T:Txt K mg A):Have P w K mg base "_law_whole" 1 ["_law_found"] [] sp_whole:=by
 refine T.Bq.have ahe (fun vs H Q E z=>?_) ?_
 ·obtain⟨i,rfl,_⟩:=z;rfl
 ·intro f cdv A' outer s H vs Q E hr z
  obtain⟨i,rfl,q⟩:=z
  refine⟨_,(aae (aaw (aey (aap acx rfl T.Ah PyProof.Rows.boot_isinstance (aaa (pvM 0) (aaa (acw (n:="int") rfl T.Cj PyProof.Rows.boot_int) aad))) (aex (pe_not (aap acx rfl T.Ah PyProof.Rows.boot_isinstance (aaa (pvM 0) (aaa (acw (n:="bool") rfl T.Bp PyProof.Rows.boot_bool) aad)))))))),?_⟩
  walk_at "wp"
  exact⟨by decide,iteT ⟨by decide,q⟩⟩
theorem acs {α β:Type} {F:α→β→Prop}:∀{xs:List α} {ys:List β} {zs:List α} {ws:List β},Paired F xs ys→Paired F zs ws→Paired F (xs++zs) (ys++ws)
 |_,_,_,_,.nil,h=>h
 |_,_,_,_,.cons r t,h=>.cons r (acs t h)
theorem BkAt.lst {C p ra fa rq:Addr} {H:Hp} {rows:List (Option Rw)} {n:Nat} {hd:Int} {xs:List V} {o:HO} (hx:H rq=some (.lst xs)) (nr:ra≠rq) (h:BkAt C H p ra fa rows n hd):BkAt C (upd H rq o) p ra fa rows n hd:=by
 obtain⟨dx,vs,kvs,h1,h2,h3,h4,h5,h6⟩:=h
 exact⟨dx,vs,kvs,by rw[aaf (fun z=>by rw[z,hx] at h1;cases h1)];exact h1,by rw[aaf nr];exact h2,RsAt.same2 hx h3,by rw[aaf (fun z=>by rw[z,hx] at h4;cases h4)];exact h4,h5,h6⟩
theorem RsAt.kp {ex:List Addr} {H H':Hp} (k:Kp ex H H') (hx:∀c xs,H c=some (.tup xs)→c∉ex) {vs:List V} {rs:List (Option Rw)} (h:RsAt H vs rs):RsAt H' vs rs:=Paired.mapP h fun _ y q=>by
 match y,q with
 |none,q=>exact q
 |some _,⟨a,e,h⟩=>exact⟨a,e,k _ _ h (hx _ _ h)⟩
theorem BkAt.tup {C p ra fa:Addr} {H:Hp} {rows:List (Option Rw)} {n:Nat} {hd:Int} (h:BkAt C H p ra fa rows n hd):∀c xs,H c=some (.tup xs)→c∉[ra,fa]:=fun c xs hc z=>by
 obtain⟨dx,vs,kvs,h1,h2,h3,h4,h5,h6⟩:=h
 rcases List.mem_cons.mp z with z|z
 ·rw[z,h2] at hc;cases hc
 ·rw[List.mem_singleton.mp z,h4] at hc;cases hc
theorem BkAt.kp {C p ra fa:Addr} {ex:List Addr} {H H':Hp} {rows:List (Option Rw)} {n:Nat} {hd:Int} (h:BkAt C H p ra fa rows n hd) (k:Kp ex H H') (hp:p∉ex) (hr:ra∉ex) (hf:fa∉ex) (ht:∀c xs,H c=some (.tup xs)→c∉ex):BkAt C H' p ra fa rows n hd:=by
 obtain⟨dx,vs,kvs,h1,h2,h3,h4,h5,h6⟩:=h
 exact⟨dx,vs,kvs,k _ _ h1 hp,k _ _ h2 hr,RsAt.kp k ht h3,k _ _ h4 hf,h5,h6⟩
theorem akm {L:List Rw} {is:List Int} {t g:Int} (h:fnd (L.map some) t g=none):fnd ((clr L is).map some) t g=none:=by
 unfold fnd
 rw[List.findIdx?_eq_none_iff]
 intro x hx
 obtain⟨s,hs,rfl⟩:=List.mem_map.mp hx
 obtain⟨i,hi⟩:=List.mem_iff_getElem?.mp hs
 obtain⟨r,hr,e1,e2⟩:=agp hi
 have:=List.findIdx?_eq_none_iff.mp h (some r) (List.mem_map.mpr ⟨r,List.mem_of_getElem? hr,rfl⟩)
 have this:(decide (r.t=t)&&decide (r.g=g))=false:=this
 show (decide (s.t=t)&&decide (s.g=g))=false
 rw[e1,e2]
 exact this
theorem alb {L:List Rw} {k:Nat} {r:Rw} (h:L[k]?=some r) {t g:Int} (hn:fnd (L.map some) t g=none):¬(r.t=t∧r.g=g):=fun ⟨e1,e2⟩=>by
 have:=List.findIdx?_eq_none_iff.mp hn (some r) (List.mem_map.mpr ⟨r,List.mem_of_getElem? h,rfl⟩)
 have this:(decide (r.t=t)&&decide (r.g=g))=false:=this
 rw[decide_eq_true e1,decide_eq_true e2] at this
 cases this
theorem uq_put {L:List Rw} {k:Nat} {s:Rw} (hu:Uq (L.map some)) (hn:fnd (L.map some) s.t s.g=none):Uq ((L.set k s).map some):=fun i j r y hi hj e1 e2=>by
 have gt:∀{M:List Rw} {i:Nat} {x:Rw},(M.map some)[i]?=some (some x)→M[i]?=some x:=fun {M i x} q=>by
  rw[List.getElem?_map] at q
  cases e:M[i]? with
  |none=>rw[e] at q;cases q
  |some y=>rw[e] at q;cases q;rfl
 have ri:=gt hi
 have rj:=gt hj
 rw[List.getElem?_set] at ri rj
 by_cases a:k=i
 ·by_cases b:k=j
  ·exact a.symm.trans b
  ·rw[if_neg b] at rj
   rw[if_pos a] at ri
   split at ri
   ·cases ri
    exact absurd ⟨e1.symm,e2.symm⟩ (alb rj hn)
   ·cases ri
 ·rw[if_neg a] at ri
  by_cases b:k=j
  ·rw[if_pos b] at rj
   split at rj
   ·cases rj
    exact absurd ⟨e1,e2⟩ (alb ri hn)
   ·cases rj
  ·rw[if_neg b] at rj
   exact hu i j r y (by rw[List.getElem?_map,ri];rfl) (by rw[List.getElem?_map,rj];rfl) e1 e2
noncomputable def sp_number:Sp:=fun vs H Q _=>∃(b:Bool) (c k:Int),vs=[.bl b,.int c,.int k]∧0≤k∧k < 1000∧∀z:Int,Q (.int z) H
theorem akn (T:Txt K mg A):Have P w K mg base "_law_number" 1 ["_law_digits","_law_cell_here","_law_k"] [] sp_number:=by
 refine T.Bg.have adx (fun vs H Q E z=>?_) ?_
 ·obtain⟨b,c,k,rfl,_⟩:=z;rfl
 ·intro f cdv A' outer s H vs Q E hr z
  obtain⟨b,c,k,rfl,k0,k1,q⟩:=z
  refine⟨_,(aab (aa8 (abe (pvM 0)) (aae (aaw (aao abf (pvM 1) (aao aht aac aac)))) aam)
   (aab (aas (i:=3) adx.nd rfl (Or.inl rfl) (aao abf (aao abw (aao abw (aao act (pvM 1) aac) (aao act (aao act (pvM 2) (pvM 2)) aac)) (pvM 2)) aac))
   (aae (aaw (aao abw (aao act (pvM 3) aac) (aao abf (aao abw (aao abw (aao act (pvM 3) aac) (aao act (pvM 1) aac)) (aao act (aao act (pvM 2) (pvM 2)) (pvM 2))) aac)))))),?_⟩
  walk_at "wp"
  cases b with
  |true=>exact iteT (q _)
  |false=>exact iteF ⟨.inl ⟨by omega,by omega⟩,.inl ⟨by omega,by omega⟩,.inr ⟨by omega,by omega⟩,q _⟩
theorem aau {H:Hp} {a:Addr} {o:HO} (h:H a=none):Same H (upd H a o)∧upd H a o a=some o:=⟨aaj aai h,aag⟩
noncomputable def dvR:Option Rw→Dv
 |none=>.leaf .non
 |some r=>.seq true (dFl [.int r.t,.int r.g,.int r.e,.bl r.u])
theorem sees_R {H:Hp} {v:V}:∀{r:Option Rw},RowAt H v r→Sees K H (dvR r) v
 |none,h=>by obtain rfl:v=.non:=h;unfold dvR Sees;exact⟨rfl,rfl⟩
 |some r,h=>by obtain⟨a,rfl,h⟩:=h;unfold dvR;exact abi (SqT.of h) rfl
theorem ajj {H:Hp}:∀{us:List V} {rs:List (Option Rw)},RsAt H us rs→SeesL K H (rs.map dvR) us
 |_,_,.nil=>by rw[List.map_nil];unfold SeesL;rfl
 |_,_,.cons r t=>by rw[List.map_cons];unfold SeesL;exact⟨_,_,rfl,sees_R r,ajj t⟩
theorem alc {H:Hp} {a:Addr} {us:List V} {rs:List (Option Rw)} (h:H a=some (.lst us)) (hr:RsAt H us rs):Sees K H (.seq false (rs.map dvR)) (.ref a):=by
 unfold Sees
 exact⟨a,us,rfl,by rw[if_neg Bool.false_ne_true];exact SqL.of h,ajj hr⟩
theorem amo:∀r:Option Rw,alike (dvR r) (dvR r)=true∧eqDv (dvR r) (dvR r)=true∧deep (dvR r)≤1
 |none=>⟨by unfold dvR alike;rfl,by unfold dvR eqDv;rfl,by unfold dvR deep;omega⟩
 |some r=>by
  unfold dvR
  refine⟨?_,?_,?_⟩
  ·rw[alike,ab2];rfl
  ·rw[eqDv,ahc _ rfl]
  ·rw[deep,aco];exact Nat.le_refl _
theorem agu:∀rs:List (Option Rw),alikeL (rs.map dvR) (rs.map dvR)=true∧eqDvL (rs.map dvR) (rs.map dvR)=true∧deepL (rs.map dvR)≤1
 |[]=>⟨by simp[alikeL],by simp[eqDvL],by simp[deepL]⟩
 |r::rs=>by
  obtain⟨a1,a2,a3⟩:=amo r
  obtain⟨b1,b2,b3⟩:=agu rs
  rw[List.map_cons]
  exact⟨by rw[alikeL,a1,b1];rfl,by rw[eqDvL,a2,b2];rfl,by rw[deepL];omega⟩
theorem ako {H:Hp} {a b:Addr} {us vs:List V} {rs:List (Option Rw)} {Q:VK} (h1:H a=some (.lst us)) (r1:RsAt H us rs) (h2:H b=some (.lst vs)) (r2:RsAt H vs rs) (q:Q (.bl true) H):rEqD K 4 (.ref a) (.ref b) H Q:=by
 obtain⟨b1,b2,b3⟩:=agu rs
 exact⟨false,_,_,alc h1 r1,alc h2 r2,b1,by omega,by rw[b2];exact q⟩
noncomputable def sp_isof:Sp:=fun vs H Q _=>∃(v:V) (pa:Addr) (row:Option Rw) (t g:Int),vs=[v,.ref pa]∧RowAt H v row∧H pa=some (.tup [.int t,.int g])∧∀H',Same H H'→Q (.bl (isK t g row)) H'
theorem agv (T:Txt K mg A):Have P w K mg base "_law_is_of" 1 ["_law_row","_law_pair"] [] sp_isof:=by
 refine T.Bs.have ahf (fun vs H Q E z=>?_) ?_
 ·obtain⟨v,pa,row,t,g,rfl,_⟩:=z;rfl
 ·intro f cdv A' outer s H vs Q E hr z
  obtain⟨v,pa,row,t,g,rfl,hv,hp,q⟩:=z
  refine⟨_,(aae (aaw (aey (abg ab9 (pvM 0) abb (nomark _)) (aex (abg (aea (n:=4) (hu6 hr)) (aba ad7 (pvM 0) abp (abh aac)) (pvM 1) (nomark _)))))),?_⟩
  cases row with
  |none=>
   obtain rfl:v=.non:=hv
   walk_at "wp"
   exact iteF (q _ aai)
  |some r=>
   obtain⟨a,rfl,ha⟩:=hv
   walk_at "wp"
   rw[if_pos (by simp)]
   refine⟨_,SqT.of ha,(fun z=>absurd z.2 (by show ¬HT.sIx 4 4 (some 2)=4;decide)),fun g1 hg1=>?_⟩
   have ecut:cutV [V.int r.t,V.int r.g,V.int r.e,V.bl r.u] none (some 2)=[V.int r.t,V.int r.g]:=ab5 (hi:=2)
   rw[ecut]
   have b1:=aaj (o:=.tup [V.int r.t,V.int r.g]) (aai (H:=H)) hg1
   refine⟨true,_,_,age (ns:=[r.t,r.g]) (SqT.of aag),age (ns:=[t,g]) (SqT.of (b1 _ _ hp)),aec _ _,by rw[afc];exact Nat.zero_le _,?_⟩
   rw[aii]
   have e:decide ([r.t,r.g]=[t,g])=isK t g (some r):=by
    show _=(decide (r.t=t)&&decide (r.g=g))
    rw[Bool.eq_iff_iff]
    simp
   rw[e]
   exact q _ b1
noncomputable def kysO (rows:List (Option Rw)):List (List Key):=rows.filterMap fun r=>r.map fun r=>ky r.t r.g
theorem ald {t g t' g':Int} (h:ky t g=ky t' g'):t=t'∧g=g':=by
 injection h with h1 h2
 injection h2 with h2 _
 exact⟨Sum.inl.inj h1,Sum.inl.inj h2⟩
theorem af2:∀{rows:List (Option Rw)},Uq rows→(kysO rows).Nodup
 |[],_=>.nil
 |none::rows,h=>by
  show (kysO rows).Nodup
  exact af2 fun i j r s hi hj e1 e2=>by have:=h (i+1) (j+1) r s hi hj e1 e2;omega
 |some r::rows,h=>by
  show (ky r.t r.g::kysO rows).Nodup
  rw[List.nodup_cons]
  refine⟨fun q=>?_,af2 fun i j r s hi hj e1 e2=>by have:=h (i+1) (j+1) r s hi hj e1 e2;omega⟩
  obtain⟨x,hx,e⟩:=List.mem_filterMap.mp q
  cases x with
  |none=>cases e
  |some s=>
   have e:=Option.some.inj e
   obtain⟨j,hj⟩:=List.mem_iff_getElem?.mp hx
   obtain⟨e1,e2⟩:=ald e
   have:=h (j+1) 0 s r hj rfl e1 e2
   omega
theorem agw (rows:List (Option Rw)):(kysO rows).length≤rows.length:=List.length_filterMap_le ..
noncomputable def sp_right:Sp:=fun vs H Q _=>∃(l:Addr) (us:List V) (rows:List (Option Rw)) (m:Int),vs=[.ref l,.int m]∧H l=some (.lst us)∧RsAt H us rows∧Uq rows∧(rows.length:Int)=m∧m≤12∧∀H',Same H H'→Q (.bl true) H'
theorem amp (T:Txt K mg A):Have P w K mg base "_law_right" 2 ["_law_found","_law_many"] [] sp_right:=by
 have Al:=aji (P:=P) (w:=w) (base:=base) T
 refine T.Br.have ac9 (fun vs H Q E z=>?_) ?_
 ·obtain⟨l,us,rows,m,rfl,_⟩:=z;rfl
 ·intro f cdv A' outer s H vs Q E hr z
  obtain⟨l,us,rows,m,rfl,hl,hU,huq,hm,hm12,q⟩:=z
  have hul:=Paired.length hU
  refine⟨_,(aab (aa8 (PW.pt (ad2 (abv (abe (aap acx rfl T.Ah PyProof.Rows.boot_isinstance (aaa (pvM 0) (aaa (acw (n:="list") rfl T.A0 PyProof.Rows.boot_list) aad))))) (adc (aar ajv (aap aa0 rfl T.Ag PySem.boot_len (aaa (pvM 0) aad)) (pvM 1) (nomark _))))) (aae (aaw abu)) aam)
   (aab (aas (i:=2) ac9.nd rfl (Or.inl rfl) (ad5 aad))
   (aab (abr PassesOwn.leaving rfl (acj (pvM 0)) (abc (i:=3) ac9.nd rfl (Or.inl rfl)) (aab (aa8 (aar aez (pvM 3) abb (nomark _)) (aae afq) aam)
   (aab (aa8 (PW.pt (ad2 (abv (abe (aap acx rfl T.Ah PyProof.Rows.boot_isinstance (aaa (pvM 3) (aaa (acw (n:="tuple") rfl T.B9 PyProof.Rows.boot_tuple) aad))))) (ad2 (aar ajv (aap aa0 rfl T.Ag PySem.boot_len (aaa (pvM 3) aad)) aac (nomark _)) (adc (abv (abe (aap acx rfl T.Ah PyProof.Rows.boot_isinstance (aaa (aak aal (pvM 3) aac (fun _ _=>rfl)) (aaa (acw (n:="bool") rfl T.Bp PyProof.Rows.boot_bool) aad))))))))) (aae (aaw abu)) aam)
   (aab (aa8 (PW.pt (ad2 (abv (abe (aaq Al (hr.mono (by decide)) aat (aaa (aak aal (pvM 3) aac (fun _ _=>rfl)) aad)))) (ad2 (abv (abe (aaq Al (hr.mono (by decide)) aat (aaa (aak aal (pvM 3) aac (fun _ _=>rfl)) aad)))) (adc (abv (abe (aaq Al (hr.mono (by decide)) aat (aaa (aak aal (pvM 3) aac (fun _ _=>rfl)) aad)))))))) (aae (aaw abu)) aam)
   (aae (ab1 (ajz PySem.F.plainAttrs_list PySem.F.slot_list_append PySem.F.type_list_append adt (pvM 2) (aaa (aba ad7 (pvM 3) abp (abh aac)) aad))))))))
   (aae (aaw (abg adg (aap aiv rfl T.Ag PySem.boot_len (aaa (adp (ai7 rfl (hu8 hr)) rfl T.Cl PyProof.Rows.boot_set (aaa (pvM 2) aad)) aad)) (aap aa0 rfl T.Ag PySem.boot_len (aaa (pvM 2) aad)) (nomark _))))))),?_⟩
  unfold sp_whole
  walk_at "wp"
  refine⟨by decide,kn_lst hl,?_⟩
  rw[aj8 hl]
  refine iteF ⟨_,.inl ⟨_,SqL.of hl,rfl⟩,?_⟩
  rw[decide_eq_true (show ((us.length:Nat):Int)=m by omega)]
  refine iteF fun lp hlp=>⟨⟨_,SqL.of (aaj aai hlp _ _ hl)⟩,?_⟩
  have hlpl:lp≠l:=fun z=>by rw[z,hl] at hlp;cases hlp
  refine acy (K:=K) (xs:=us) (fun i σ H'=>∃v3 bs,σ=[some (.ref l),some (.int m),some (.ref lp),v3]∧Same H H'∧H' lp=some (.lst (bs.map V.ref))∧bs.length=(kysO (rows.take i)).length∧∀(j:Nat) b ks,bs[j]?=some b→(kysO (rows.take i))[j]?=some ks→H' b=some (.tup (ks.map kV))) ⟨_,[],rfl,aaj aai hlp,aag,rfl,fun j b ks h=>(by cases h)⟩ (fun i σ H' _ ⟨_,_,_,e,_⟩=>SqL.of (e _ _ hl)) (fun i v σ H' hi=>?_) (fun σ H'=>?_)
  ·rintro⟨v3,bs,rfl,s1,hp1,hbl,hbs⟩
   obtain⟨y,hy1,hy2⟩:=acd hU hi
   have htk:rows.take (i+1)=rows.take i++[y]:=by rw[List.take_add_one,hy1];rfl
   cases y with
   |none=>
    obtain rfl:v=.non:=hy2
    have e0:kysO (rows.take (i+1))=kysO (rows.take i):=by rw[htk];unfold kysO;rw[List.filterMap_append];exact List.append_nil _
    walk_at "wp"
    unfold tCont
    exact⟨_,rfl,s1,bs,hp1,by rw[e0];exact hbl,by rw[e0];exact hbs⟩
   |some r=>
    obtain⟨a,rfl,ha⟩:=hy2
    have ha1:=s1 _ _ ha
    have e0:kysO (rows.take (i+1))=kysO (rows.take i)++[ky r.t r.g]:=by rw[htk];unfold kysO;rw[List.filterMap_append];rfl
    unfold tCont
    walk_at "wp"
    rw[if_neg (fun z=>nomatch z)]
    refine⟨by decide,kn_tup ha1,?_⟩
    rw[aj7 ha1]
    refine iteF ⟨4,.inr ⟨_,SqT.of ha1,rfl⟩,?_⟩
    rw[if_neg (by decide)]
    refine⟨_,SqT.of ha1,_,rfl,by decide,kn_bl.mpr trivial,?_⟩
    have hib:isTy "bool" H' (V.bl r.u)=true:=rfl
    rw[hib]
    refine iteF ⟨_,SqT.of ha1,_,rfl,_,rfl,iteF ⟨_,SqT.of ha1,_,rfl,_,rfl,iteF ⟨_,SqT.of ha1,_,rfl,_,rfl,iteF ⟨.inl ⟨rfl,_,SqL.of hp1⟩,_,SqT.of ha1,(fun z=>absurd z.2 (by show ¬HT.sIx 4 4 (some 2)=4;decide)),fun g1 hg1=>?_⟩⟩⟩⟩
    have ecut:cutV [V.int r.t,V.int r.g,V.int r.e,V.bl r.u] none (some 2)=[V.int r.t,V.int r.g]:=ab5 (hi:=2)
    rw[ecut]
    have b1:=aaj (o:=.tup [V.int r.t,V.int r.g]) (aai (H:=H')) hg1
    have hg1':upd H' g1 (.tup [V.int r.t,V.int r.g]) g1=some (.tup [V.int r.t,V.int r.g]):=aag
    have hg1l:g1≠lp:=fun z=>by rw[z,hp1] at hg1;cases hg1
    generalize upd H' g1 (.tup [V.int r.t,V.int r.g])=H2 at *
    have hp2:=b1 _ _ hp1
    have hkl:=agw (rows.take i)
    rw[List.length_take] at hkl
    refine⟨_,hp2,by rw[List.length_map,hbl];omega,ac0 (s1.trans b1) hlp,bs++[g1],by rw[List.map_append];rfl,by rw[e0,List.length_append,List.length_append,hbl];rfl,fun j b ks hb hk=>?_⟩
    rw[e0] at hk
    have hbn:b≠lp∧H2 b=some (.tup (ks.map kV)):=by
     rcases (by omega:j < bs.length∨bs.length≤j) with c|c
     ·rw[List.getElem?_append_left c] at hb
      rw[List.getElem?_append_left (by omega)] at hk
      have:=hbs j b ks hb hk
      exact⟨(fun z=>by rw[z,hp1] at this;cases this),b1 _ _ this⟩
     ·rw[List.getElem?_append_right c] at hb
      rw[List.getElem?_append_right (by omega),←hbl] at hk
      have hj:j - bs.length=0:=by
       have:=(List.getElem?_eq_some_iff.mp hb).1
       simp at this
       omega
      rw[hj] at hb hk
      cases hb
      cases hk
      exact⟨hg1l,hg1'⟩
    rw[aaf hbn.1]
    exact hbn.2
  ·rintro⟨v3,bs,rfl,s1,hp1,hbl,hbs⟩
   rw[List.take_of_length_le (by omega)] at hbl hbs
   walk_at "wp"
   have hkl:=agw rows
   refine⟨bs,SqL.of hp1,kysO rows,hbl,hbs,af2 huq,by omega,fun l9 hl9=>⟨_,rfl,by omega,bs.length,.inl ⟨_,SqL.of (aaj aai hl9 _ _ hp1),by rw[List.length_map]⟩,?_⟩⟩
   rw[decide_eq_true (show ((kysO rows).length:Int)=(bs.length:Int) by rw[hbl])]
   exact q _ (aaj s1 hl9)
theorem adk {α β:Type} {F:α→β→Prop}:∀{xs:List α} {ys:List β} (n:Nat),Paired F xs ys→Paired F (xs.take n) (ys.take n)
 |_,_,0,_=>by rw[List.take_zero,List.take_zero];exact .nil
 |_,_,n+1,.nil=>.nil
 |_,_,n+1,.cons r t=>.cons r (adk n t)
theorem adl {α β:Type} {F:α→β→Prop}:∀{xs:List α} {ys:List β} (n:Nat),Paired F xs ys→Paired F (xs.drop n) (ys.drop n)
 |_,_,0,h=>h
 |_,_,n+1,.nil=>.nil
 |_,_,n+1,.cons r t=>adl n t
theorem af3 {α:Type} {l:List α} {i:Nat} {x:α} (h:i < l.length):l.set i x=(l.take i++[x])++l.drop (i+1):=by
 rw[List.set_eq_take_append_cons_drop,if_pos h,List.append_assoc]
 rfl
theorem ajk {rows:List (Option Rw)} {t g:Int} {i:Nat} {y:Option Rw} (hy:rows[i]?=some y) (hk:isK t g y=true) (hno:∀(j:Nat) y,j < i→rows[j]?=some y→isK t g y=false):fnd rows t g=some i:=by
 unfold fnd
 rw[List.findIdx?_eq_some_iff_getElem]
 have hil:=(List.getElem?_eq_some_iff.mp hy).1
 refine⟨hil,?_,fun j hj=>?_⟩
 ·rw[(List.getElem?_eq_some_iff.mp hy).2];exact hk
 ·rw[hno j _ hj (List.getElem?_eq_getElem (by omega))]
  decide
theorem ajl {rows:List (Option Rw)} {t g:Int} (hno:∀(j:Nat) y,j < rows.length→rows[j]?=some y→isK t g y=false):fnd rows t g=none:=by
 unfold fnd
 rw[List.findIdx?_eq_none_iff]
 intro x hx
 obtain⟨j,hj⟩:=List.mem_iff_getElem?.mp hx
 exact hno j x (List.getElem?_eq_some_iff.mp hj).1 hj
theorem ab6 {t g:Int}:∀{y:Option Rw},isK t g y=true→∃r,y=some r∧r.t=t∧r.g=g
 |none,h=>by cases h
 |some r,h=>by
  have h:(decide (r.t=t)&&decide (r.g=g))=true:=h
  rw[Bool.and_eq_true] at h
  exact⟨r,rfl,of_decide_eq_true h.1,of_decide_eq_true h.2⟩
noncomputable def sp_used:Sp:=fun vs H Q _=>∃(la lb pa:Addr) (us ub:List V) (ra:List (Option Rw)) (t g:Int),vs=[.ref la,.ref lb,.ref pa]∧H la=some (.lst us)∧RsAt H us ra∧H lb=some (.lst ub)∧RsAt H ub (useR ra t g)∧H pa=some (.tup [.int t,.int g])∧ra.length≤1000∧∀H',Same H H'→Q (.bl true) H'
theorem h_used (T:Txt K mg A):Have P w K mg base "_law_used" 2 ["_law_ahead","_law_behind","_law_pair"] [] sp_used:=by
 have Ai:=agv (P:=P) (w:=w) (base:=base) T
 refine T.By.have afl (fun vs H Q E z=>?_) ?_
 ·obtain⟨la,lb,pa,us,ub,ra,t,g,rfl,_⟩:=z;rfl
 ·intro f cdv A' outer s H vs Q E hr z
  obtain⟨la,lb,pa,us,ub,ra,t,g,rfl,ha,hA,hb,hB,hp,hl,q⟩:=z
  have hul:=Paired.length hA
  refine⟨_,(aab (abr PassesOwn.leaving rfl (ab8 rfl T.Ao (aaa (aap aa0 rfl T.Ag PySem.boot_len (aaa (pvM 0) aad)) aad)) (abc (i:=3) afl.nd rfl (Or.inl rfl)) (aae (aa8 (abe (aaq Ai (hr.mono (by decide)) aat (aaa (aak aaz (pvM 0) (pvM 3) (fun _ _=>rfl)) (aaa (pvM 2) aad)))) (aae (aaw (abg (aea (n:=4) (hu6 hr)) (pvM 1) (aao ad8 (aao ad8 (aba acm (pvM 0) abp (abh (pvM 3))) (ad5 (aaa (aao ads (aba ad7 (aak aaz (pvM 0) (pvM 3) (fun _ _=>rfl)) abp (abh aac)) (aa4 (aaa abu aad))) aad))) (aba acm (pvM 0) (abh (aao abw (pvM 3) aac)) abp)) (nomark _)))) aam)))
   (aae (aaw (abg (aea (n:=4) (hu6 hr)) (pvM 1) (pvM 0) (nomark _))))),?_⟩
  unfold sp_isof
  walk_at "wp"
  refine⟨_,.inl ⟨_,SqL.of ha,rfl⟩,by omega,by omega,?_⟩
  refine acf (fun i σ H'=>∃v3,σ=[some (.ref la),some (.ref lb),some (.ref pa),v3]∧Same H H'∧∀(j:Nat) y,j < i→ra[j]?=some y→isK t g y=false) ⟨_,rfl,aai,fun j r h=>absurd h (Nat.not_lt_zero _)⟩ (fun i σ H' hi=>?_) (fun σ H'=>?_)
  ·rintro⟨v3,rfl,s1,hno⟩
   walk_at "wp"
   rw[Int.zero_add]
   obtain⟨y,hy⟩:∃y,ra[i]?=some y:=⟨_,List.getElem?_eq_getElem (by omega)⟩
   obtain⟨v,hv,hvy⟩:=aa7 hA hy
   refine⟨_,SqL.of (s1 _ _ ha),_,aa5 hv,y,RowAt.same s1 hvy,t,g,s1 _ _ hp,fun H2 s2=>?_⟩
   have s12:=s1.trans s2
   cases hk:isK t g y with
   |false=>
    refine iteF ⟨s12,fun j z hj hz=>?_⟩
    rcases (by omega:j < i∨j=i) with h|rfl
    ·exact hno j z h hz
    ·rw[hy] at hz;cases hz;exact hk
   |true=>
    obtain⟨r,rfl,rt,rg⟩:=ab6 hk
    obtain⟨c,rfl,hc⟩:=hvy
    have hc2:=s12 _ _ hc
    have hil:=(List.getElem?_eq_some_iff.mp hy).1
    have hu:useR ra t g=ra.set i (some ⟨t,g,r.e,true⟩):=by
     unfold useR
     rw[ajk hy hk hno]
     simp only[hy]
    rw[hu,af3 hil] at hB
    rw[if_pos rfl]
    refine⟨_,SqL.of (s12 _ _ ha),fun p1 h1=>?_⟩
    rw[show cutV us none (some (i:Int))=us.take i from ab5]
    obtain⟨b1,g1⟩:=aau (o:=.lst (us.take i)) h1
    generalize upd H2 p1 (.lst (us.take i))=H3 at *
    have s13:=s12.trans b1
    refine⟨_,SqL.of (s13 _ _ ha),_,aa5 hv,c,rfl,_,SqT.of (s13 _ _ hc),(fun z=>absurd z.2 (by show ¬HT.sIx 4 4 (some 3)=4;decide)),fun p2 h2=>?_⟩
    rw[show cutV [V.int r.t,V.int r.g,V.int r.e,V.bl r.u] none (some 3)=[V.int r.t,V.int r.g,V.int r.e] from ab5 (hi:=3)]
    obtain⟨b2,g2⟩:=aau (o:=.tup [V.int r.t,V.int r.g,V.int r.e]) h2
    generalize upd H3 p2 (.tup [V.int r.t,V.int r.g,V.int r.e])=H4 at *
    refine fun p3 h3=>?_
    obtain⟨b3,g3⟩:=aau (o:=.tup [V.bl true]) h3
    generalize upd H4 p3 (.tup [V.bl true])=H5 at *
    refine⟨_,SqT.of (b3 _ _ g2),_,SqT.of g3,(fun z=>nomatch z),(by show 3+1≤16777216;decide),(fun z=>nomatch z),fun _ p4 h4=>?_⟩
    rw[show [V.int r.t,V.int r.g,V.int r.e]++[V.bl true]=[V.int t,V.int g,V.int r.e,V.bl true] by rw[rt,rg];rfl]
    obtain⟨b4,g4⟩:=aau (o:=.tup [V.int t,V.int g,V.int r.e,V.bl true]) h4
    generalize upd H5 p4 (.tup [V.int t,V.int g,V.int r.e,V.bl true])=H6 at *
    refine fun p5 h5=>?_
    obtain⟨b5,g5⟩:=aau (o:=.lst [V.ref p4]) h5
    generalize upd H6 p5 (.lst [V.ref p4])=H7 at *
    refine⟨_,b5 _ _ ((b2.trans (b3.trans b4)) _ _ g1),_,rfl,by rw[List.length_take];show min i us.length+1≤16777216;omega,fun p6 h6=>?_⟩
    obtain⟨b6,g6⟩:=aau (o:=.lst (us.take i++[V.ref p4])) h6
    generalize upd H7 p6 (.lst (us.take i++[V.ref p4]))=H8 at *
    have s8:=(s13.trans (b2.trans (b3.trans b4))).trans (b5.trans b6)
    refine⟨_,SqL.of (s8 _ _ ha),fun p7 h7=>?_⟩
    rw[show cutV us (some ((i:Int)+1)) none=us.drop (i+1) from ad1 (lo:=i+1)]
    obtain⟨b7,g7⟩:=aau (o:=.lst (us.drop (i+1))) h7
    generalize upd H8 p7 (.lst (us.drop (i+1)))=H9 at *
    refine⟨_,b7 _ _ g6,_,rfl,by rw[List.length_append,List.length_take,List.length_drop];show min i us.length+1+(us.length - (i+1))≤16777216;omega,fun p8 h8=>?_⟩
    obtain⟨b8,g8⟩:=aau (o:=.lst (us.take i++[V.ref p4]++us.drop (i+1))) h8
    generalize upd H9 p8 (.lst (us.take i++[V.ref p4]++us.drop (i+1)))=H10 at *
    have s10:=s8.trans (b7.trans b8)
    have b10:=b5.trans (b6.trans (b7.trans b8))
    exact ako (s10 _ _ hb) (hB.same s10) g8 (acs (acs (adk i (hA.same s10)) (.cons (RowAt.same b10 (show RowAt _ (V.ref p4) (some ⟨t,g,r.e,true⟩) from ⟨p4,rfl,g4⟩)) .nil)) (adl (i+1) (hA.same s10))) (q _ s10)
  ·rintro⟨v3,rfl,s1,hno⟩
   walk_at "wp"
   have hn:useR ra t g=ra:=by
    unfold useR
    rw[ajl fun j y hj hy=>hno j y (by omega) hy]
   rw[hn] at hB
   exact ako (s1 _ _ hb) (hB.same s1) (s1 _ _ ha) (hA.same s1) (q _ s1)
theorem ajm {is:List Int}:∀{L:List Rw} {i:Nat} {s:Rw},(clr L is)[i]?=some s→∃r,L[i]?=some r∧(s=r∨s=off r):=by
 induction is with
 |nil=>intro L i s h;exact⟨s,h,.inl rfl⟩
 |cons j is ih=>
  intro L i s h
  obtain⟨r,h1,h2⟩:=ih (L:=L.modify j.toNat off) h
  rw[List.getElem?_modify] at h1
  cases e:L[i]? with
  |none=>rw[e] at h1;cases h1
  |some r0=>
   rw[e] at h1
   have h1:some (if j.toNat=i then off r0 else r0)=some r:=h1
   have h1:=Option.some.inj h1
   refine⟨r0,rfl,?_⟩
   split at h1
   ·subst h1
    exact h2.elim .inr fun h=>.inr (by rw[h];rfl)
   ·subst h1
    exact h2
noncomputable def rv (r:Rw):List V:=[.int r.t,.int r.g,.int r.e,.bl r.u]
theorem abl (r:Rw):(rv r).all flatV=true:=rfl
theorem rv_ne {r s:Rw} (h:¬(r.t=s.t∧r.g=s.g)):eqDvL (dFl (rv r)) (dFl (rv s))=false:=by
 cases e:eqDvL (dFl (rv r)) (dFl (rv s)) with
 |false=>rfl
 |true=>
  exfalso
  apply h
  unfold rv dFl at e
  simp only[List.map_cons,List.map_nil,eqDvL,eqDv,Bool.and_eq_true] at e
  exact⟨eq_of_beq e.1,eq_of_beq e.2.1⟩
noncomputable def Kept (t g e:Int) (ra rb:List (Option Rw)):Prop:=
 (∃j r,fnd ra t g=some j∧ra[j]?=some (some r)∧rb=ra.set j (some ⟨t,g,e,r.u⟩))∨
 (fnd ra t g=none∧∃j0,ra.findIdx? Option.isNone=some j0∧rb=ra.set j0 (some ⟨t,g,e,false⟩))∨
 (fnd ra t g=none∧∃(L:List Rw) (is:List Int) (k:Nat),ra=L.map some∧(L.length=0∨k < L.length)∧rb=((clr L is).set k ⟨t,g,e,false⟩).map some)
noncomputable def sp_kept:Sp:=fun vs H Q _=>∃(la lb pa:Addr) (us ub:List V) (ra rb:List (Option Rw)) (t g e:Int),vs=[.ref la,.ref lb,.ref pa,.int e]∧H la=some (.lst us)∧RsAt H us ra∧H lb=some (.lst ub)∧RsAt H ub rb∧H pa=some (.tup [.int t,.int g])∧Kept t g e ra rb∧ra.length≤1000∧∀H',Same H H'→Q (.bl true) H'
theorem h_kept (T:Txt K mg A):Have P w K mg base "_law_kept" 2 ["_law_ahead","_law_behind","_law_pair","_law_entry"] [] sp_kept:=by
 have Ai:=agv (P:=P) (w:=w) (base:=base) T
 refine T.Bx.have ab0 (fun vs H Q E z=>?_) ?_
 ·obtain⟨la,lb,pa,us,ub,ra,rb,t,g,e,rfl,_⟩:=z;rfl
 ·intro f cdv A' outer s H vs Q E hr z
  obtain⟨la,lb,pa,us,ub,ra,rb,t,g,e,rfl,ha,hA,hb,hB,hp,hK,hl,q⟩:=z
  have hul:=Paired.length hA
  refine⟨_,(aab (abr PassesOwn.leaving rfl (ab8 rfl T.Ao (aaa (aap aa0 rfl T.Ag PySem.boot_len (aaa (pvM 0) aad)) aad)) (abc (i:=4) ab0.nd rfl (Or.inl rfl)) (aae (aa8 (abe (aaq Ai (hr.mono (by decide)) aat (aaa (aak aaz (pvM 0) (pvM 4) (fun _ _=>rfl)) (aaa (pvM 2) aad)))) (aae (aaw (abg (aea (n:=4) (hu6 hr)) (pvM 1) (aao ad8 (aao ad8 (aba acm (pvM 0) abp (abh (pvM 4))) (ad5 (aaa (aao ads (pvM 2) (aa4 (aaa (pvM 3) (aaa (aak aal (aak aaz (pvM 0) (pvM 4) (fun _ _=>rfl)) aac (fun _ _=>rfl)) aad)))) aad))) (aba acm (pvM 0) (abh (aao abw (pvM 4) aac)) abp)) (nomark _)))) aam)))
   (aab (abr PassesOwn.leaving rfl (ab8 rfl T.Ao (aaa (aap aa0 rfl T.Ag PySem.boot_len (aaa (pvM 0) aad)) aad)) (abc (i:=4) ab0.nd rfl (Or.inl rfl)) (aae (aa8 (aar aez (aak aaz (pvM 0) (pvM 4) (fun _ _=>rfl)) abb (nomark _)) (aae (aaw (abg (aea (n:=4) (hu6 hr)) (pvM 1) (aao ad8 (aao ad8 (aba acm (pvM 0) abp (abh (pvM 4))) (ad5 (aaa (aao ads (pvM 2) (aa4 (aaa (pvM 3) (aaa abu aad)))) aad))) (aba acm (pvM 0) (abh (aao abw (pvM 4) aac)) abp)) (nomark _)))) aam)))
   (aab (aas (i:=5) ab0.nd rfl (Or.inl rfl) aac)
   (aab (abr PassesOwn.leaving rfl (ab8 rfl T.Ao (aaa (aap aa0 rfl T.Ag PySem.boot_len (aaa (pvM 0) aad)) aad)) (abc (i:=4) ab0.nd rfl (Or.inl rfl)) (aae (aa8 (aar (aea (n:=4) (hu6 hr)) (aak aaz (pvM 1) (pvM 4) (fun _ _=>rfl)) (aao ads (pvM 2) (aa4 (aaa (pvM 3) (aaa abu aad)))) (nomark _)) (aae (aas (i:=5) ab0.nd rfl (Or.inl rfl) (aao abw (pvM 5) aac))) (aae (aa8 (PW.pt (aew (aar (aih (n:=4) (hu6 hr)) (aak aaz (pvM 1) (pvM 4) (fun _ _=>rfl)) (aak aaz (pvM 0) (pvM 4) (fun _ _=>rfl)) (nomark _)) (adm (aar (aih (n:=4) (hu6 hr)) (aak aaz (pvM 1) (pvM 4) (fun _ _=>rfl)) (aao ads (aba ad7 (aak aaz (pvM 0) (pvM 4) (fun _ _=>rfl)) abp (abh aac)) (aa4 (aaa abu aad))) (nomark _))))) (aae (aaw abu)) aam)))))
   (aae (aaw (abg adg (pvM 5) (aap (ahx rfl) rfl T.Ck PyProof.Rows.boot_min (aaa aac (aaa (aap aa0 rfl T.Ag PySem.boot_len (aaa (pvM 0) aad)) aad))) (nomark _)))))))),?_⟩
  unfold sp_isof
  walk_at "wp"
  refine⟨_,.inl ⟨_,SqL.of ha,rfl⟩,by omega,by omega,?_⟩
  refine acf (fun i σ H'=>∃v4,σ=[some (.ref la),some (.ref lb),some (.ref pa),some (.int e),v4,none]∧Same H H'∧∀(j:Nat) y,j < i→ra[j]?=some y→isK t g y=false) ⟨_,rfl,aai,fun j r h=>absurd h (Nat.not_lt_zero _)⟩ (fun i σ H' hi=>?_) (fun σ H'=>?_)
  ·rintro⟨v4,rfl,s1,hno⟩
   walk_at "wp"
   rw[Int.zero_add]
   obtain⟨y,hy⟩:∃y,ra[i]?=some y:=⟨_,List.getElem?_eq_getElem (by omega)⟩
   obtain⟨v,hv,hvy⟩:=aa7 hA hy
   refine⟨_,SqL.of (s1 _ _ ha),_,aa5 hv,y,RowAt.same s1 hvy,t,g,s1 _ _ hp,fun H2 s2=>?_⟩
   have s12:=s1.trans s2
   cases hk:isK t g y with
   |false=>
    refine iteF ⟨s12,fun j z hj hz=>?_⟩
    rcases (by omega:j < i∨j=i) with h|rfl
    ·exact hno j z h hz
    ·rw[hy] at hz;cases hz;exact hk
   |true=>
    obtain⟨r,rfl,rt,rg⟩:=ab6 hk
    obtain⟨c,rfl,hc⟩:=hvy
    have hil:=(List.getElem?_eq_some_iff.mp hy).1
    have hf:=ajk hy hk hno
    have hu:rb=ra.set i (some ⟨t,g,e,r.u⟩):=by
     rcases hK with ⟨j,r',e1,e2,e3⟩|⟨e1,_⟩|⟨e1,_⟩
     ·rw[hf] at e1;cases e1
      rw[hy] at e2;cases e2
      exact e3
     ·rw[hf] at e1;cases e1
     ·rw[hf] at e1;cases e1
    rw[hu,af3 hil] at hB
    rw[if_pos rfl]
    refine⟨_,SqL.of (s12 _ _ ha),fun p1 h1=>?_⟩
    rw[show cutV us none (some (i:Int))=us.take i from ab5]
    obtain⟨b1,g1⟩:=aau (o:=.lst (us.take i)) h1
    generalize upd H2 p1 (.lst (us.take i))=H3 at *
    have s13:=s12.trans b1
    refine⟨_,SqL.of (s13 _ _ ha),_,aa5 hv,c,rfl,_,SqT.of (s13 _ _ hc),_,rfl,fun p3 h3=>?_⟩
    obtain⟨b3,g3⟩:=aau (o:=.tup [V.int e,V.bl r.u]) h3
    generalize upd H3 p3 (.tup [V.int e,V.bl r.u])=H5 at *
    refine⟨_,SqT.of (b3 _ _ (s13 _ _ hp)),_,SqT.of g3,(fun z=>nomatch z),(by show 2+2≤16777216;decide),(fun z=>nomatch z),fun _ p4 h4=>?_⟩
    rw[show [V.int t,V.int g]++[V.int e,V.bl r.u]=[V.int t,V.int g,V.int e,V.bl r.u] from rfl]
    obtain⟨b4,g4⟩:=aau (o:=.tup [V.int t,V.int g,V.int e,V.bl r.u]) h4
    generalize upd H5 p4 (.tup [V.int t,V.int g,V.int e,V.bl r.u])=H6 at *
    refine fun p5 h5=>?_
    obtain⟨b5,g5⟩:=aau (o:=.lst [V.ref p4]) h5
    generalize upd H6 p5 (.lst [V.ref p4])=H7 at *
    refine⟨_,b5 _ _ ((b3.trans b4) _ _ g1),_,rfl,by rw[List.length_take];show min i us.length+1≤16777216;omega,fun p6 h6=>?_⟩
    obtain⟨b6,g6⟩:=aau (o:=.lst (us.take i++[V.ref p4])) h6
    generalize upd H7 p6 (.lst (us.take i++[V.ref p4]))=H8 at *
    have s8:=(s13.trans (b3.trans b4)).trans (b5.trans b6)
    refine⟨_,SqL.of (s8 _ _ ha),fun p7 h7=>?_⟩
    rw[show cutV us (some ((i:Int)+1)) none=us.drop (i+1) from ad1 (lo:=i+1)]
    obtain⟨b7,g7⟩:=aau (o:=.lst (us.drop (i+1))) h7
    generalize upd H8 p7 (.lst (us.drop (i+1)))=H9 at *
    refine⟨_,b7 _ _ g6,_,rfl,by rw[List.length_append,List.length_take,List.length_drop];show min i us.length+1+(us.length - (i+1))≤16777216;omega,fun p8 h8=>?_⟩
    obtain⟨b8,g8⟩:=aau (o:=.lst (us.take i++[V.ref p4]++us.drop (i+1))) h8
    generalize upd H9 p8 (.lst (us.take i++[V.ref p4]++us.drop (i+1)))=H10 at *
    have s10:=s8.trans (b7.trans b8)
    have b10:=b5.trans (b6.trans (b7.trans b8))
    exact ako (s10 _ _ hb) (hB.same s10) g8 (acs (acs (adk i (hA.same s10)) (.cons (RowAt.same b10 (show RowAt _ (V.ref p4) (some ⟨t,g,e,r.u⟩) from ⟨p4,rfl,g4⟩)) .nil)) (adl (i+1) (hA.same s10))) (q _ s10)
  rintro⟨v4,rfl,s1,hno⟩
  have hfn:fnd ra t g=none:=ajl fun j y hj hy=>hno j y (by omega) hy
  clear hno
  walk_at "wp"
  refine⟨_,.inl ⟨_,SqL.of (s1 _ _ ha),rfl⟩,by omega,by omega,?_⟩
  refine acf (fun i σ H2=>∃v4,σ=[some (.ref la),some (.ref lb),some (.ref pa),some (.int e),v4,none]∧Same H H2∧∀(j:Nat) y,j < i→ra[j]?=some y→y.isNone=false) ⟨_,rfl,s1,fun j r h=>absurd h (Nat.not_lt_zero _)⟩ (fun i σ H2 hi=>?_) (fun σ H2=>?_)
  ·rintro⟨v4,rfl,s12,hno⟩
   walk_at "wp"
   rw[Int.zero_add]
   obtain⟨y,hy⟩:∃y,ra[i]?=some y:=⟨_,List.getElem?_eq_getElem (by omega)⟩
   obtain⟨v,hv,hvy⟩:=aa7 hA hy
   refine⟨_,SqL.of (s12 _ _ ha),_,aa5 hv,?_⟩
   cases y with
   |some r=>
    obtain⟨c,rfl,hc⟩:=hvy
    rw[if_neg (fun z=>nomatch z)]
    refine⟨s12,fun j z hj hz=>?_⟩
    rcases (by omega:j < i∨j=i) with h|rfl
    ·exact hno j z h hz
    ·rw[hy] at hz;cases hz;rfl
   |none=>
    obtain rfl:v=.non:=hvy
    rw[if_pos rfl]
    have hil:=(List.getElem?_eq_some_iff.mp hy).1
    have hf:ra.findIdx? Option.isNone=some i:=by
     rw[List.findIdx?_eq_some_iff_getElem]
     refine⟨hil,?_,fun j hj=>?_⟩
     ·rw[(List.getElem?_eq_some_iff.mp hy).2];rfl
     ·rw[hno j _ hj (List.getElem?_eq_getElem (by omega))]
      decide
    have hu:rb=ra.set i (some ⟨t,g,e,false⟩):=by
     rcases hK with ⟨j,r',e1,e2,e3⟩|⟨_,j0,e1,e2⟩|⟨_,L,is,k,e1,_⟩
     ·rw[hfn] at e1;cases e1
     ·rw[hf] at e1;cases e1;exact e2
     ·rw[e1,List.getElem?_map] at hy
      cases e9:L[i]? with
      |none=>rw[e9] at hy;cases hy
      |some _=>rw[e9] at hy;cases hy
    rw[hu,af3 hil] at hB
    refine⟨_,SqL.of (s12 _ _ ha),fun p1 h1=>?_⟩
    rw[show cutV us none (some (i:Int))=us.take i from ab5]
    obtain⟨b1,g1⟩:=aau (o:=.lst (us.take i)) h1
    generalize upd H2 p1 (.lst (us.take i))=H3 at *
    have s13:=s12.trans b1
    refine fun p3 h3=>?_
    obtain⟨b3,g3⟩:=aau (o:=.tup [V.int e,V.bl false]) h3
    generalize upd H3 p3 (.tup [V.int e,V.bl false])=H5 at *
    refine⟨_,SqT.of (b3 _ _ (s13 _ _ hp)),_,SqT.of g3,(fun z=>nomatch z),(by show 2+2≤16777216;decide),(fun z=>nomatch z),fun _ p4 h4=>?_⟩
    rw[show [V.int t,V.int g]++[V.int e,V.bl false]=[V.int t,V.int g,V.int e,V.bl false] from rfl]
    obtain⟨b4,g4⟩:=aau (o:=.tup [V.int t,V.int g,V.int e,V.bl false]) h4
    generalize upd H5 p4 (.tup [V.int t,V.int g,V.int e,V.bl false])=H6 at *
    refine fun p5 h5=>?_
    obtain⟨b5,g5⟩:=aau (o:=.lst [V.ref p4]) h5
    generalize upd H6 p5 (.lst [V.ref p4])=H7 at *
    refine⟨_,b5 _ _ ((b3.trans b4) _ _ g1),_,rfl,by rw[List.length_take];show min i us.length+1≤16777216;omega,fun p6 h6=>?_⟩
    obtain⟨b6,g6⟩:=aau (o:=.lst (us.take i++[V.ref p4])) h6
    generalize upd H7 p6 (.lst (us.take i++[V.ref p4]))=H8 at *
    have s8:=(s13.trans (b3.trans b4)).trans (b5.trans b6)
    refine⟨_,SqL.of (s8 _ _ ha),fun p7 h7=>?_⟩
    rw[show cutV us (some ((i:Int)+1)) none=us.drop (i+1) from ad1 (lo:=i+1)]
    obtain⟨b7,g7⟩:=aau (o:=.lst (us.drop (i+1))) h7
    generalize upd H8 p7 (.lst (us.drop (i+1)))=H9 at *
    refine⟨_,b7 _ _ g6,_,rfl,by rw[List.length_append,List.length_take,List.length_drop];show min i us.length+1+(us.length - (i+1))≤16777216;omega,fun p8 h8=>?_⟩
    obtain⟨b8,g8⟩:=aau (o:=.lst (us.take i++[V.ref p4]++us.drop (i+1))) h8
    generalize upd H9 p8 (.lst (us.take i++[V.ref p4]++us.drop (i+1)))=H10 at *
    have s10:=s8.trans (b7.trans b8)
    have b10:=b5.trans (b6.trans (b7.trans b8))
    exact ako (s10 _ _ hb) (hB.same s10) g8 (acs (acs (adk i (hA.same s10)) (.cons (RowAt.same b10 (show RowAt _ (V.ref p4) (some ⟨t,g,e,false⟩) from ⟨p4,rfl,g4⟩)) .nil)) (adl (i+1) (hA.same s10))) (q _ s10)
  rintro⟨v4,rfl,s2,hno⟩
  obtain⟨L,is,k,rfl,hkl,rfl⟩:∃(L:List Rw) (is:List Int) (k:Nat),ra=L.map some∧(L.length=0∨k < L.length)∧rb=((clr L is).set k ⟨t,g,e,false⟩).map some:=by
   rcases hK with ⟨j,r',e1,e2,e3⟩|⟨_,j0,e1,e2⟩|⟨_,h⟩
   ·rw[hfn] at e1;cases e1
   ·exfalso
    obtain⟨h1,h2,_⟩:=List.findIdx?_eq_some_iff_getElem.mp e1
    have:=hno j0 ra[j0] (by omega) (List.getElem?_eq_getElem h1)
    rw[this] at h2
    cases h2
   ·exact h
  clear hno hK
  rw[List.length_map] at *
  walk_at "wp"
  refine⟨_,.inl ⟨_,SqL.of (s2 _ _ ha),rfl⟩,by omega,by omega,?_⟩
  refine acf (fun i σ H3=>∃v4,σ=[some (.ref la),some (.ref lb),some (.ref pa),some (.int e),v4,some (.int (if k < i then 1 else 0))]∧Same H H3) ⟨_,by rw[if_neg (Nat.not_lt_zero _)],s2⟩ (fun i σ H3 hi=>?_) (fun σ H3=>?_)
  ·rintro⟨v4,rfl,s3⟩
   have hcl:(clr L is).length=L.length:=adb
   obtain⟨r,hr1⟩:∃r,L[i]?=some r:=⟨_,List.getElem?_eq_getElem (by omega)⟩
   obtain⟨z,hz⟩:∃z,((clr L is).set k ⟨t,g,e,false⟩)[i]?=some z:=⟨_,List.getElem?_eq_getElem (by rw[List.length_set,hcl];omega)⟩
   obtain⟨_,hv,c,rfl,hc⟩:=aa7 hB (show (((clr L is).set k ⟨t,g,e,false⟩).map some)[i]?=some (some z) by rw[List.getElem?_map,hz];rfl)
   obtain⟨_,hv2,d,rfl,hd⟩:=aa7 hA (show (L.map some)[i]?=some (some r) by rw[List.getElem?_map,hr1];rfl)
   walk_at "wp"
   rw[Int.zero_add]
   refine⟨_,SqL.of (s3 _ _ hb),_,aa5 hv,fun p1 h1=>?_⟩
   obtain⟨b1,g1⟩:=aau (o:=.tup [V.int e,V.bl false]) h1
   generalize upd H3 p1 (.tup [V.int e,V.bl false])=H4 at *
   refine⟨_,SqT.of (b1 _ _ (s3 _ _ hp)),_,SqT.of g1,(fun z=>nomatch z),(by show 2+2≤16777216;decide),(fun z=>nomatch z),fun _ p2 h2=>?_⟩
   rw[show [V.int t,V.int g]++[V.int e,V.bl false]=rv ⟨t,g,e,false⟩ from rfl]
   obtain⟨b2,g2⟩:=aau (o:=.tup (rv ⟨t,g,e,false⟩)) h2
   generalize upd H4 p2 (.tup (rv ⟨t,g,e,false⟩))=H5 at *
   have s5:=s3.trans (b1.trans b2)
   have hc5:H5 c=some (.tup (rv z)):=s5 _ _ hc
   have hd5:H5 d=some (.tup (rv r)):=s5 _ _ hd
   by_cases ik:i=k
   ·subst ik
    rw[List.getElem?_set_self (by omega)] at hz
    cases hz
    refine⟨true,_,_,abi (SqT.of hc5) (abl _),abi (SqT.of g2) (abl _),ab2 _ _,by rw[aco];exact Nat.zero_le _,?_⟩
    rw[ahc _ (abl _)]
    exact⟨_,rfl,by rw[if_pos rfl];exact⟨by rw[if_neg (Nat.lt_irrefl _),if_pos (Nat.lt_succ_self _)];rfl,s5⟩⟩
   ·rw[List.getElem?_set_ne (Ne.symm ik)] at hz
    obtain⟨r',hr2,hzr⟩:=ajm hz
    rw[hr1] at hr2
    cases hr2
    have hkeys:z.t=r.t∧z.g=r.g:=by rcases hzr with rfl|rfl<;>exact⟨rfl,rfl⟩
    have hne:¬(z.t=t∧z.g=g):=fun h=>by
     have h9:=List.findIdx?_eq_none_iff.mp hfn (some r) (List.mem_map.mpr ⟨r,List.mem_of_getElem? hr1,rfl⟩)
     have h9:(decide (r.t=t)&&decide (r.g=g))=false:=h9
     rw[decide_eq_true (hkeys.1.symm.trans h.1),decide_eq_true (hkeys.2.symm.trans h.2)] at h9
     cases h9
    have hcnt:(if k < i then (1:Int) else 0)=if k < i+1 then 1 else 0:=by
     by_cases q1:k < i
     ·rw[if_pos q1,if_pos (by omega)]
     ·rw[if_neg q1,if_neg (by omega)]
    refine⟨true,_,_,abi (SqT.of hc5) (abl _),abi (SqT.of g2) (abl _),ab2 _ _,by rw[aco];exact Nat.zero_le _,?_⟩
    rw[rv_ne hne]
    refine⟨_,rfl,iteF ⟨_,SqL.of (s5 _ _ hb),_,aa5 hv,_,SqL.of (s5 _ _ ha),_,aa5 hv2,?_⟩⟩
    refine⟨true,_,_,abi (SqT.of hc5) (abl _),abi (SqT.of hd5) (abl _),ab2 _ _,by rw[aco];exact Nat.zero_le _,_,rfl,?_⟩
    cases hbb:eqDvL (dFl (rv z)) (dFl (rv r)) with
    |true=>exact iteF (iteF ⟨hcnt,s5⟩)
    |false=>
     have hzo:z=off r:=hzr.elim (fun h=>by rw[h,ahc _ (abl _)] at hbb;cases hbb) id
     rw[if_pos (by rfl)]
     refine⟨_,SqL.of (s5 _ _ hb),_,aa5 hv,_,SqL.of (s5 _ _ ha),_,aa5 hv2,d,rfl,_,SqT.of hd5,(fun z=>absurd z.2 (by show ¬HT.sIx 4 4 (some 3)=4;decide)),fun p3 h3=>?_⟩
     rw[show cutV (rv r) none (some 3)=[V.int r.t,V.int r.g,V.int r.e] from ab5 (hi:=3)]
     obtain⟨b3,g3⟩:=aau (o:=.tup [V.int r.t,V.int r.g,V.int r.e]) h3
     generalize upd H5 p3 (.tup [V.int r.t,V.int r.g,V.int r.e])=H6 at *
     refine fun p4 h4=>?_
     obtain⟨b4,g4⟩:=aau (o:=.tup [V.bl false]) h4
     generalize upd H6 p4 (.tup [V.bl false])=H7 at *
     refine⟨_,SqT.of (b4 _ _ g3),_,SqT.of g4,(fun z=>nomatch z),(by show 3+1≤16777216;decide),(fun z=>nomatch z),fun _ p5 h5=>?_⟩
     rw[show [V.int r.t,V.int r.g,V.int r.e]++[V.bl false]=rv (off r) from rfl]
     obtain⟨b5,g5⟩:=aau (o:=.tup (rv (off r))) h5
     generalize upd H7 p5 (.tup (rv (off r)))=H8 at *
     have s8:=s5.trans (b3.trans (b4.trans b5))
     have hc8:H8 c=some (.tup (rv (off r))):=by rw[←hzo];exact (b3.trans (b4.trans b5)) _ _ hc5
     refine⟨true,_,_,abi (SqT.of hc8) (abl _),abi (SqT.of g5) (abl _),ab2 _ _,by rw[aco];exact Nat.zero_le _,_,rfl,?_⟩
     rw[ahc _ (abl _)]
     exact iteF ⟨hcnt,s8⟩
  ·rintro⟨v4,rfl,s3⟩
   walk_at "wp"
   refine⟨_,.inl ⟨_,SqL.of (s3 _ _ ha),rfl⟩,?_⟩
   have e9:(if k < ((us.length:Nat):Int).toNat then (1:Int) else 0)=if ((us.length:Nat):Int) < 1 then ((us.length:Nat):Int) else 1:=by
    rw[Int.toNat_natCast,hul]
    rcases hkl with h|h
    ·rw[h,if_neg (Nat.not_lt_zero _)];rfl
    ·rw[if_pos h,if_neg (by omega)]
   rw[decide_eq_true e9]
   exact q _ s3
noncomputable def tIs (t:Int):Option Rw→Bool
 |none=>false
 |some r=>decide (r.t=t)
noncomputable def goesB (t g:Int) (wh:Bool) (y:Option Rw):Bool:=isK t g y || (wh&&tIs t y)
noncomputable def Struck (t g:Int) (wh:Bool) (ra rb:List (Option Rw)):Prop:=rb.length=ra.length∧∀(i:Nat) y,ra[i]?=some y→rb[i]?=some (if goesB t g wh y=true then none else y)
noncomputable def sp_struck:Sp:=fun vs H Q _=>∃(la lb pa:Addr) (us ub:List V) (ra rb:List (Option Rw)) (t g:Int) (wh:Bool),vs=[.ref la,.ref lb,.ref pa,.bl wh]∧H la=some (.lst us)∧RsAt H us ra∧H lb=some (.lst ub)∧RsAt H ub rb∧H pa=some (.tup [.int t,.int g])∧Struck t g wh ra rb∧∀H',Same H H'→Q (.bl true) H'
theorem akp (T:Txt K mg A):Have P w K mg base "_law_struck" 2 ["_law_ahead","_law_behind","_law_pair","_law_whole_here"] [] sp_struck:=by
 have Ai:=agv (P:=P) (w:=w) (base:=base) T
 refine T.Bh.have ab4 (fun vs H Q E z=>?_) ?_
 ·obtain⟨la,lb,pa,us,ub,ra,rb,t,g,wh,rfl,_⟩:=z;rfl
 ·intro f cdv A' outer s H vs Q E hr z
  obtain⟨la,lb,pa,us,ub,ra,rb,t,g,wh,rfl,ha,hA,hb,hB,hp,⟨hlen,hS⟩,q⟩:=z
  have hul:=Paired.length hA
  refine⟨_,(aab (abr PassesOwn.leaving rfl (aio rfl T.Av (aaa (pvM 0) aad)) (akx (n:=2) rfl (adi (abc (i:=4) ab4.nd rfl (Or.inl rfl)) (adi (abc (i:=5) ab4.nd rfl (Or.inl rfl)) aho))) (ac5 (aas (i:=6) ab4.nd rfl (Or.inl rfl) (pe_or (aaq Ai (hr.mono (by decide)) aat (aaa (pvM 5) (aaa (pvM 2) aad))) (aex (aey (pvM 3) (aey (abg ab9 (pvM 5) abb (nomark _)) (aex (abg adg (aak aal (pvM 5) aac (fun _ _=>rfl)) (aak aal (pvM 2) aac (fun _ _=>rfl)) (nomark _))))))))
   (aae (aa8 (PW.pt (ad2 (PW.pt (aew (abe (pvM 6)) (adm (aar ab9 (aak aaz (pvM 1) (pvM 4) (fun _ _=>rfl)) abb (nomark _))))) (adc (PW.pt (aew (abv (abe (pvM 6))) (adm (aar (op_neN (n:=4) (hu6 hr)) (aak aaz (pvM 1) (pvM 4) (fun _ _=>rfl)) (pvM 5) (nomark _)))))))) (aae (aaw abu)) aam))))
   (aae (aaw abu))),?_⟩
  unfold sp_isof
  walk_at "wp"
  refine⟨⟨_,SqL.of ha⟩,afd (xs:=us) (fun i σ H'=>∃v4 v5 v6,σ=[some (.ref la),some (.ref lb),some (.ref pa),some (.bl wh),v4,v5,v6]∧Same H H') ⟨_,_,_,rfl,aai⟩ (fun i σ H' _ ⟨_,_,_,_,e⟩=>SqL.of (e _ _ ha)) (fun i x tt σ H' hi=>?_) (fun σ H'=>?_)⟩
  ·rintro⟨v4,v5,v6,rfl,s1⟩ ht
   obtain⟨y,hy,hxy⟩:=acd hA hi
   obtain⟨b1,g1⟩:=aau (o:=.tup [V.int i,x]) ht
   generalize upd H' tt (.tup [V.int i,x])=H1 at *
   have s2:=s1.trans b1
   have hyb:=hS i y hy
   obtain⟨x2,hx2,hxb⟩:=aa7 hB hyb
   walk_at "wp"
   refine⟨_,SqT.of g1,rfl,_,_,rfl,_,_,rfl,rfl,fun σ H2=>σ=[some (.ref la),some (.ref lb),some (.ref pa),some (.bl wh),some (.int (i:Int)),some x,some (.bl (goesB t g wh y))]∧Same H H2,?_,fun σ2 H2=>?_⟩
   ·walk_at "wp"
    refine⟨y,RowAt.same s2 hxy,t,g,s2 _ _ hp,fun H2 b2=>?_⟩
    have s3:=s2.trans b2
    cases hk:isK t g y with
    |true=>exact iteT ⟨by unfold goesB;rw[hk];rfl,s3⟩
    |false=>
     refine iteF ?_
     cases wh with
     |false=>exact iteF ⟨by unfold goesB;rw[hk];rfl,s3⟩
     |true=>
      rw[if_pos rfl]
      cases y with
      |none=>
       obtain rfl:x=.non:=hxy
       exact iteF ⟨by unfold goesB;rw[hk];rfl,s3⟩
      |some r=>
       obtain⟨c,rfl,hc⟩:=hxy
       rw[if_pos (by simp)]
       refine⟨c,rfl,_,SqT.of (s3 _ _ hc),_,rfl,_,SqT.of (s3 _ _ hp),_,rfl,rfl,?_,s3⟩
       unfold goesB
       rw[hk]
       show decide (V.int r.t=V.int t)=decide (r.t=t)
       rw[Bool.eq_iff_iff]
       simp
   ·rintro⟨rfl,s3⟩
    generalize goesB t g wh y=go at *
    walk_at "wp"
    cases go with
    |true=>
     rw[if_pos rfl] at hxb ⊢
     obtain rfl:x2=.non:=hxb
     exact⟨_,SqL.of (s3 _ _ hb),_,aa5 hx2,iteF (iteF (iteF s3))⟩
    |false=>
     rw[if_neg Bool.false_ne_true] at hxb
     refine iteF (iteF ?_)
     rw[if_pos (by rfl)]
     refine⟨_,SqL.of (s3 _ _ hb),_,aa5 hx2,?_⟩
     cases y with
     |none=>
      obtain rfl:x2=.non:=hxb
      obtain rfl:x=.non:=hxy
      exact .inl ⟨rfl,_,rfl,iteF s3⟩
     |some r=>
      obtain⟨c,rfl,hc⟩:=hxb
      obtain⟨d,rfl,hd⟩:=hxy
      refine .inr ⟨true,_,_,abi (xs:=rv r) (SqT.of (s3 _ _ hc)) (abl _),abi (xs:=rv r) (SqT.of (s3 _ _ hd)) (abl _),ab2 _ _,by rw[aco];exact Nat.zero_le _,_,rfl,?_⟩
      rw[ahc _ (abl _)]
      exact iteF s3
  ·rintro⟨v4,v5,v6,rfl,s1⟩
   walk_at "wp"
   exact q _ s1
noncomputable def Last (rows:List (Option Rw)) (lv:List (List Key×V)):Prop:=∀(i:Nat) r,rows[i]?=some (some r)→valV lv (ky r.t r.g)=some (.int r.e)
noncomputable def DueI (rows:List (Option Rw)) (t g:Int) (i:Nat) (v:V):Prop:=(v=.non∧∀(j:Nat) y,j < i→rows[j]?=some y→isK t g y=false)∨∃(j:Nat) (r:Rw),j < i∧rows[j]?=some (some r)∧isK t g (some r)=true∧v=.int r.e
noncomputable def agx (C:Addr):Sp:=fun vs H Q _=>∃(p ra fa l pa ld:Addr) (us:List V) (rows:List (Option Rw)) (n:Nat) (hd t g:Int) (lv:List (List Key×V)),vs=[.ref p,.ref l,.ref pa,.ref ld]∧BkAt C H p ra fa rows n hd∧H l=some (.lst us)∧RsAt H us rows∧Uq rows∧H pa=some (.tup [.int t,.int g])∧H ld=some (.dT lv)∧Last rows lv∧∀H',Same H H'→Q (.bl true) H'
theorem amq (T:Txt K mg A):Have P w K mg base "_law_seen" 2 ["_law_book","_law_told","_law_pair","_law_last"] [] (agx A.Aa):=by
 have Ai:=agv (P:=P) (w:=w) (base:=base) T
 have Al:=aji (P:=P) (w:=w) (base:=base) T
 have Bc:=h_look (P:=P) (w:=w) (base:=base) T
 refine T.Bz.have acb (fun vs H Q E z=>?_) ?_
 ·obtain⟨p,ra,fa,l,pa,ld,us,rows,n,hd,t,g,lv,rfl,_⟩:=z;rfl
 ·intro f cdv A' outer s H vs Q E hr z
  obtain⟨p,ra,fa,l,pa,ld,us,rows,n,hd,t,g,lv,rfl,hBk,hl,hU,huq,hp,hd1,hL,q⟩:=z
  obtain⟨dx,_,_,m1,_⟩:=id hBk
  have hul:=Paired.length hU
  refine⟨_,(aab (aas (i:=4) acb.nd rfl (Or.inl rfl) (abx (pvM 0) T.Ab Bc (hr.mono (by decide)) aat (aaa (aak aal (pvM 2) aac (fun _ _=>rfl)) (aaa (aak aal (pvM 2) aac (fun _ _=>rfl)) aad))))
   (aab (aas (i:=5) acb.nd rfl (Or.inl rfl) abb)
   (aab (abr PassesOwn.leaving rfl (acj (pvM 1)) (abc (i:=6) acb.nd rfl (Or.inl rfl)) (aab (aa8 (PW.pt (aew (aar ab9 (pvM 6) abb (nomark _)) (adm (PW.pt (ad2 (akw (ah8 (ac4 hr) (aba ad7 (pvM 6) abp (abh aac)) (pvM 3))) (adc (aar ajv (alv (ac4 hr) (pvM 3) (aba ad7 (pvM 6) abp (abh aac)) (fun _ _=>rfl)) (aak aal (pvM 6) aac (fun _ _=>rfl)) (nomark _)))))))) (aae (aaw abu)) aam)
   (aae (aa8 (abe (aaq Ai (hr.mono (by decide)) aat (aaa (pvM 6) (aaa (pvM 2) aad)))) (aae (aas (i:=5) acb.nd rfl (Or.inl rfl) (aak aal (pvM 6) aac (fun _ _=>rfl)))) aam))))
   (aab (aa8 (aar aez (pvM 5) abb (nomark _)) (aae (aaw (abg aez (pvM 4) abb (nomark _)))) aam)
   (aae (aaw (aey (aaq Al (hr.mono (by decide)) aat (aaa (pvM 4) aad)) (aex (abg adg (pvM 4) (pvM 5) (nomark _)))))))))),?_⟩
  unfold sp_isof sp_whole ajb tDNotIn tDGet
  walk_at "wp"
  refine⟨dx,_,m1,ab7 (by decide+kernel),_,SqT.of hp,_,rfl,_,SqT.of hp,_,rfl,ra,fa,rows,n,hd,t,rfl,g,rfl,hBk,fun H1 s1=>⟨⟨_,SqL.of (s1 _ _ hl)⟩,?_⟩⟩
  refine acy (K:=K) (xs:=us) (fun i σ H'=>∃v v6,σ=[some (.ref p),some (.ref l),some (.ref pa),some (.ref ld),some (lookE rows t g),some v,v6]∧Same H H'∧DueI rows t g i v) ⟨_,_,rfl,s1,.inl ⟨rfl,fun j y h=>absurd h (Nat.not_lt_zero _)⟩⟩ (fun i σ H' _ ⟨_,_,_,e,_⟩=>SqL.of (e _ _ hl)) (fun i x σ H' hi=>?_) (fun σ H'=>?_)
  ·rintro⟨v,v6,rfl,s2,hv⟩
   obtain⟨y,hy,hxy⟩:=acd hU hi
   have fin:∀H3,Same H H3→((isK t g y=true→∃r,y=some r∧v=.non)∧(isK t g y=false→DueI rows t g (i+1) v)):=fun H3 s3=>by
    refine⟨fun hk=>?_,fun hk=>?_⟩
    ·obtain⟨r,rfl,rt,rg⟩:=ab6 hk
     refine⟨r,rfl,?_⟩
     rcases hv with ⟨h,_⟩|⟨j,r',hj,hrj,hkj,_⟩
     ·exact h
     ·exfalso
      obtain⟨r2,e2,rt2,rg2⟩:=ab6 hkj
      cases e2
      have:=huq i j r r' hy hrj (rt.trans rt2.symm) (rg.trans rg2.symm)
      omega
    ·rcases hv with ⟨h,hno⟩|⟨j,r',hj,hrj,hkj,h⟩
     ·refine .inl ⟨h,fun j z hj hz=>?_⟩
      rcases (by omega:j < i∨j=i) with h|rfl
      ·exact hno j z h hz
      ·rw[hy] at hz;cases hz;exact hk
     ·exact .inr ⟨j,r',by omega,hrj,hkj,h⟩
   cases y with
   |none=>
    obtain rfl:x=.non:=hxy
    walk_at "wp"
    refine iteF (iteF ⟨none,rfl,t,g,s2 _ _ hp,fun H3 s3=>iteF ?_⟩)
    exact⟨s2.trans s3,(fin _ (s2.trans s3)).2 rfl⟩
   |some r=>
    obtain⟨c,rfl,hc⟩:=hxy
    have hlr:=hL i r hy
    walk_at "wp"
    rw[if_pos (by simp)]
    refine⟨_,SqT.of (s2 _ _ hc),(fun z=>absurd z.2 (by show ¬HT.sIx 4 4 (some 2)=4;decide)),fun g1 h1=>?_⟩
    rw[show cutV [V.int r.t,V.int r.g,V.int r.e,V.bl r.u] none (some 2)=[V.int r.t,V.int r.g] from ab5 (hi:=2)]
    obtain⟨b1,e1⟩:=aau (o:=.tup [V.int r.t,V.int r.g]) h1
    generalize upd H' g1 (.tup [V.int r.t,V.int r.g])=H2 at *
    have s3:=s2.trans b1
    refine⟨_,DGet.t (k:=ky r.t r.g) (s3 _ _ hd1) e1,?_⟩
    rw[hlr]
    refine iteF ⟨_,SqT.of (s3 _ _ hc),(fun z=>absurd z.2 (by show ¬HT.sIx 4 4 (some 2)=4;decide)),fun g2 h2=>?_⟩
    rw[show cutV [V.int r.t,V.int r.g,V.int r.e,V.bl r.u] none (some 2)=[V.int r.t,V.int r.g] from ab5 (hi:=2)]
    obtain⟨b2,e2⟩:=aau (o:=.tup [V.int r.t,V.int r.g]) h2
    generalize upd H2 g2 (.tup [V.int r.t,V.int r.g])=H4 at *
    have s4:=s3.trans b2
    refine⟨V.int r.e,by rw[←hlr];exact DGet.t (k:=ky r.t r.g) (s4 _ _ hd1) e2,_,SqT.of (s4 _ _ hc),_,rfl,rfl,?_⟩
    rw[decide_eq_true rfl]
    refine iteF ⟨some r,⟨c,rfl,s4 _ _ hc⟩,t,g,s4 _ _ hp,fun H5 b5=>?_⟩
    have s5:=s4.trans b5
    cases hk:isK t g (some r) with
    |false=>exact iteF ⟨s5,(fin _ s5).2 hk⟩
    |true=>
     rw[if_pos rfl]
     exact⟨_,SqT.of (s5 _ _ hc),_,rfl,s5,.inr ⟨i,r,Nat.lt_succ_self _,hy,hk,rfl⟩⟩
  ·rintro⟨v,v6,rfl,s2,hv⟩
   walk_at "wp"
   rcases hv with ⟨rfl,hno⟩|⟨j,r,hj,hrj,hkj,rfl⟩
   ·have e:lookE rows t g=.non:=by
     unfold lookE
     rw[ajl fun j y hj hy=>hno j y (by omega) hy]
    rw[if_pos rfl,e,decide_eq_true rfl]
    exact q _ s2
   ·have e:lookE rows t g=.int r.e:=by
     obtain⟨r2,e2,rt2,rg2⟩:=ab6 hkj
     cases e2
     have hf:fnd rows t g=some j:=ajk hrj hkj fun i y hi hy=>by
      cases hk:isK t g y with
      |false=>rfl
      |true=>
       obtain⟨r3,rfl,rt3,rg3⟩:=ab6 hk
       have:=huq i j r3 r hy hrj (rt3.trans rt2.symm) (rg3.trans rg2.symm)
       omega
     unfold lookE
     rw[hf]
     simp only[hrj]
    rw[if_neg (fun z=>nomatch z),e]
    exact⟨_,rfl,rfl,by rw[decide_eq_true rfl];exact q _ s2⟩
theorem akq {rows:List (Option Rw)} (h:rows.findIdx? Option.isNone=none):∃L:List Rw,rows=L.map some:=by
 induction rows with
 |nil=>exact⟨[],rfl⟩
 |cons x r ih=>
  have hx:=List.findIdx?_eq_none_iff.mp h x (List.mem_cons_self ..)
  obtain⟨L,rfl⟩:=ih (List.findIdx?_eq_none_iff.mpr fun y hy=>List.findIdx?_eq_none_iff.mp h y (List.mem_cons_of_mem _ hy))
  cases x with
  |none=>cases hx
  |some y=>exact⟨y::L,rfl⟩
theorem uq_at {rows:List (Option Rw)} {j:Nat} {o:Option Rw} (hu:Uq rows) (h:∀r,o=some r→∀(i:Nat) (s:Rw),i≠j→rows[i]?=some (some s)→¬(s.t=r.t∧s.g=r.g)):Uq (rows.set j o):=fun i k r s hi hk e1 e2=>by
 rw[List.getElem?_set] at hi hk
 by_cases a:j=i
 ·by_cases b:j=k
  ·exact a.symm.trans b
  ·rw[if_neg b] at hk
   rw[if_pos a] at hi
   split at hi
   ·exact absurd ⟨e1.symm,e2.symm⟩ (h r (Option.some.inj hi) k s (fun z=>b z.symm) hk)
   ·cases hi
 ·rw[if_neg a] at hi
  by_cases b:j=k
  ·rw[if_pos b] at hk
   split at hk
   ·exact absurd ⟨e1,e2⟩ (h s (Option.some.inj hk) i r (fun z=>a z.symm) hi)
   ·cases hk
  ·rw[if_neg b] at hk
   exact hu i k r s hi hk e1 e2
theorem ale {rows:List (Option Rw)} {j:Nat} {r r':Rw} (hu:Uq rows) (hj:rows[j]?=some (some r)) (h1:r'.t=r.t) (h2:r'.g=r.g):Uq (rows.set j (some r')):=uq_at hu fun x hx i s hi hs z=>by
 cases hx
 exact hi (hu i j s r hs hj (z.1.trans h1) (z.2.trans h2))
theorem af4 {rows:List (Option Rw)} {j:Nat} {s:Rw} {t g:Int} (h:fnd rows t g=none) (hs:rows[j]?=some (some s)):¬(s.t=t∧s.g=g):=fun z=>by
 have:=List.findIdx?_eq_none_iff.mp h (some s) (List.mem_of_getElem? hs)
 have this:(decide (s.t=t)&&decide (s.g=g))=false:=this
 rw[decide_eq_true z.1,decide_eq_true z.2] at this
 cases this
theorem akr {rows:List (Option Rw)} {j:Nat} {r':Rw} (hu:Uq rows) (h:fnd rows r'.t r'.g=none):Uq (rows.set j (some r')):=uq_at hu fun x hx i s hi hs z=>by
 cases hx
 exact af4 h hs z
theorem agy {rows:List (Option Rw)} {i j:Nat} {s:Rw} {t g:Int} (hu:Uq rows) (h:fnd rows t g=some j) (hs:rows[i]?=some (some s)) (hi:i≠j):¬(s.t=t∧s.g=g):=fun z=>by
 obtain⟨r,h1,h2,h3⟩:=aa3 h
 exact hi (hu i j s r hs h1 (z.1.trans h2.symm) (z.2.trans h3.symm))
theorem agz {t g e:Int} {ra rb:List (Option Rw)} (h:Kept t g e ra rb):rb.length=ra.length:=by
 rcases h with ⟨j,r,_,_,rfl⟩|⟨_,j0,_,rfl⟩|⟨_,L,is,k,rfl,_,rfl⟩
 ·rw[List.length_set]
 ·rw[List.length_set]
 ·rw[List.length_map,List.length_set,adb,List.length_map]
theorem ajn {t g e:Int} {ra rb:List (Option Rw)} (h:Kept t g e ra rb) (hu:Uq ra):Uq rb:=by
 rcases h with ⟨j,r,h1,h2,rfl⟩|⟨h1,j0,_,rfl⟩|⟨h1,L,is,k,rfl,_,rfl⟩
 ·obtain⟨r',a1,a2,a3⟩:=aa3 h1
  rw[h2] at a1
  cases a1
  exact ale hu h2 a2.symm a3.symm
 ·exact akr hu h1
 ·exact uq_put (ak9 hu) (akm h1)
theorem aks {lv:List (List Key×V)} {t g e:Int} {s:Rw} (h:(s.t=t∧s.g=g∧s.e=e)∨(¬(s.t=t∧s.g=g)∧valV lv (ky s.t s.g)=some (.int s.e))):valV (putK lv (ky t g) (.int e)) (ky s.t s.g)=some (.int s.e):=by
 rw[aga]
 rcases h with ⟨rfl,rfl,rfl⟩|⟨h1,h2⟩
 ·rw[if_pos rfl]
 ·rw[if_neg (fun z=>h1 (ald z))]
  exact h2
theorem ajo {t g e:Int} {ra rb:List (Option Rw)} {lv:List (List Key×V)} (h:Kept t g e ra rb) (hu:Uq ra) (hl:Last ra lv):Last rb (putK lv (ky t g) (.int e)):=fun i s hs=>by
 refine aks ?_
 rcases h with ⟨j,r,h1,h2,rfl⟩|⟨h1,j0,_,rfl⟩|⟨h1,L,is,k,rfl,_,rfl⟩
 ·rw[List.getElem?_set] at hs
  by_cases c:j=i
  ·rw[if_pos c] at hs
   split at hs
   ·cases hs;exact .inl ⟨rfl,rfl,rfl⟩
   ·cases hs
  ·rw[if_neg c] at hs
   exact .inr ⟨agy hu h1 hs (Ne.symm c),hl i s hs⟩
 ·rw[List.getElem?_set] at hs
  by_cases c:j0=i
  ·rw[if_pos c] at hs
   split at hs
   ·cases hs;exact .inl ⟨rfl,rfl,rfl⟩
   ·cases hs
  ·rw[if_neg c] at hs
   exact .inr ⟨af4 h1 hs,hl i s hs⟩
 ·rw[List.getElem?_map] at hs
  cases e9:((clr L is).set k ⟨t,g,e,false⟩)[i]? with
  |none=>rw[e9] at hs;cases hs
  |some s'=>
   rw[e9] at hs
   cases hs
   rw[List.getElem?_set] at e9
   by_cases c:k=i
   ·rw[if_pos c] at e9
    split at e9
    ·cases e9;exact .inl ⟨rfl,rfl,rfl⟩
    ·cases e9
   ·rw[if_neg c] at e9
    obtain⟨r,hr,hz⟩:=ajm e9
    have hr2:(L.map some)[i]?=some (some r):=by rw[List.getElem?_map,hr];rfl
    have:=hl i r hr2
    have hk:=af4 h1 hr2
    rcases hz with rfl|rfl
    ·exact .inr ⟨hk,this⟩
    ·exact .inr ⟨hk,this⟩
theorem ajp {t g:Int} {ra:List (Option Rw)}:(useR ra t g).length=ra.length:=by
 unfold useR
 split
 ·rfl
 ·split
  ·rw[List.length_set]
  ·rfl
theorem alf {t g:Int} {ra:List (Option Rw)}:useR ra t g=ra∨∃j r,fnd ra t g=some j∧ra[j]?=some (some r)∧r.t=t∧r.g=g∧useR ra t g=ra.set j (some ⟨t,g,r.e,true⟩):=by
 cases e:fnd ra t g with
 |none=>exact .inl (by unfold useR;rw[e])
 |some j=>
  obtain⟨r,h1,h2,h3⟩:=aa3 e
  exact .inr ⟨j,r,rfl,h1,h2,h3,by unfold useR;rw[e];simp only[h1]⟩
theorem alg {t g:Int} {ra:List (Option Rw)} (hu:Uq ra):Uq (useR ra t g):=by
 rcases alf (t:=t) (g:=g) (ra:=ra) with h|⟨j,r,_,h1,h2,h3,h⟩
 ·rw[h];exact hu
 ·rw[h];exact ale hu h1 h2.symm h3.symm
theorem akt {t g:Int} {ra:List (Option Rw)} {lv:List (List Key×V)} (hl:Last ra lv):Last (useR ra t g) lv:=fun i s hs=>by
 rcases alf (t:=t) (g:=g) (ra:=ra) with h|⟨j,r,_,h1,h2,h3,h⟩
 ·rw[h] at hs;exact hl i s hs
 ·rw[h,List.getElem?_set] at hs
  by_cases c:j=i
  ·rw[if_pos c] at hs
   split at hs
   ·cases hs
    have:=hl j r h1
    rw[h2,h3] at this
    exact this
   ·cases hs
  ·rw[if_neg c] at hs
   exact hl i s hs
theorem af5 {t g:Int} {wh:Bool} {ra rb:List (Option Rw)} {lv:List (List Key×V)} (h:Struck t g wh ra rb) (hl:Last ra lv):Last rb lv:=fun i s hs=>by
 have hi:i < ra.length:=by rw[←h.1];exact (List.getElem?_eq_some_iff.mp hs).1
 have:=h.2 i ra[i] (List.getElem?_eq_getElem hi)
 rw[hs] at this
 have this:=Option.some.inj this
 split at this
 ·cases this
 ·exact hl i s (by rw[List.getElem?_eq_getElem hi,this])
theorem afm {t g:Int} {wh:Bool} {ra rb:List (Option Rw)} (h:Struck t g wh ra rb) (hu:Uq ra):Uq rb:=fun i j r s hi hj=>by
 have old:∀{i:Nat} {r:Rw},rb[i]?=some (some r)→ra[i]?=some (some r):=fun {i r} hi=>by
  have hl:i < ra.length:=by rw[←h.1];exact (List.getElem?_eq_some_iff.mp hi).1
  have:=h.2 i ra[i] (List.getElem?_eq_getElem hl)
  rw[hi] at this
  have this:=Option.some.inj this
  split at this
  ·cases this
  ·rw[List.getElem?_eq_getElem hl,this]
 exact hu i j r s (old hi) (old hj)
theorem ahi {t g:Int} {ra:List (Option Rw)} (hu:Uq ra):Struck t g false ra (strikeR ra t g):=by
 unfold strikeR
 cases e:fnd ra t g with
 |none=>
  refine⟨rfl,fun i y hy=>?_⟩
  rw[hy]
  have:isK t g y=false:=by
   have:=List.findIdx?_eq_none_iff.mp e y (List.mem_of_getElem? hy)
   simpa using this
  unfold goesB
  rw[this,Bool.false_and,Bool.or_false,if_neg Bool.false_ne_true]
 |some j=>
  obtain⟨r,h1,h2,h3⟩:=aa3 e
  refine⟨List.length_set,fun i y hy=>?_⟩
  show (ra.set j none)[i]?=_
  unfold goesB
  rw[Bool.false_and,Bool.or_false,List.getElem?_set]
  by_cases c:j=i
  ·subst c
   rw[h1] at hy
   cases hy
   have hk:isK t g (some r)=true:=by
    show (decide (r.t=t)&&decide (r.g=g))=true
    rw[decide_eq_true h2,decide_eq_true h3];rfl
   rw[if_pos rfl,if_pos (List.getElem?_eq_some_iff.mp h1).1,if_pos hk]
  ·rw[if_neg c,hy]
   cases hk:isK t g y with
   |false=>rw[if_neg Bool.false_ne_true]
   |true=>
    exfalso
    obtain⟨s,rfl,st,sg⟩:=ab6 hk
    exact agy hu e hy (Ne.symm c) ⟨st,sg⟩
theorem ahj {t g:Int} {ra:List (Option Rw)}:Struck t g true ra (offT t ra):=by
 refine⟨List.length_map .., fun i y hy=>?_⟩
 unfold offT
 rw[List.getElem?_map,hy]
 show some (offR t y)=_
 congr 1
 cases y with
 |none=>rfl
 |some r=>
  unfold goesB isK tIs offR
  by_cases c:r.t=t
  ·simp[c]
  ·simp[c]
structure I36 (C:Addr) (m:Int) (sl p ra fa ld:Addr) (cs:List Int) (i:Nat) (G:Hp) (l:Addr) (rows:List (Option Rw)) (n:Nat) (hd:Int) (us:List V) (lv:List (List Key×V)):Prop where
 b:BkAt C G p ra fa rows n hd
 n9:n≤i
 ln:(rows.length:Int)=m
 u:Uq rows
 h0:0≤hd
 h1:0 < m→hd < m
 tl:G l=some (.lst us)
 r:RsAt G us rows
 d:G ld=some (.dT lv)
 la:Last rows lv
 ll:lv.length≤i
 s:G sl=some (.lst (cs.map V.int))
 ne:l≠ra
theorem I36.same {C:Addr} {m:Int} {sl p ra fa ld:Addr} {cs:List Int} {i:Nat} {G G':Hp} {l:Addr} {rows:List (Option Rw)} {n:Nat} {hd:Int} {us:List V} {lv:List (List Key×V)} (h:I36 C m sl p ra fa ld cs i G l rows n hd us lv) (s:Same G G'):I36 C m sl p ra fa ld cs i G' l rows n hd us lv:=
 ⟨h.b.same s,h.n9,h.ln,h.u,h.h0,h.h1,s _ _ h.tl,h.r.same s,s _ _ h.d,h.la,h.ll,s _ _ h.s,h.ne⟩
theorem I36.up {C:Addr} {m:Int} {sl p ra fa ld:Addr} {cs:List Int} {i:Nat} {G:Hp} {l:Addr} {rows:List (Option Rw)} {n:Nat} {hd:Int} {us:List V} {lv:List (List Key×V)} (h:I36 C m sl p ra fa ld cs i G l rows n hd us lv):I36 C m sl p ra fa ld cs (i+1) G l rows n hd us lv:=
 ⟨h.b,Nat.le_succ_of_le h.n9,h.ln,h.u,h.h0,h.h1,h.tl,h.r,h.d,h.la,Nat.le_succ_of_le h.ll,h.s,h.ne⟩
structure C36 (C a:Addr) (m bs:Int) (dg:Bool) (sl p ra fa ld:Addr) (cs:List Int) (i:Nat) (c z:Int) (pa:Addr) (t g e:Int) (k:Bool) (σ:St) (G:Hp):Prop where
 ex:∃l la rows n hd us lv,σ=[some (.ref a),some (.int m),some (.int bs),some (.bl dg),some (.ref p),some (.ref l),some (.ref ld),some (.int (i:Int)),some (.int c),some (.int z),some (.ref pa),some (.int e),some (.ref la)]∧G pa=some (.tup [V.int t,V.int g])∧I36 C m sl p ra fa ld cs (i+1) G l rows n hd us lv∧(k=true→la=l)
theorem Kp.wide {ex ey:List Addr} {H H':Hp} (k:Kp ex H H') (h:∀x∈ex,x∈ey):Kp ey H H':=fun c o hc hx=>k c o hc fun z=>hx (h _ z)
theorem I36.kp {C:Addr} {m:Int} {sl p ra fa ld:Addr} {cs:List Int} {i:Nat} {G G':Hp} {l:Addr} {rows:List (Option Rw)} {n:Nat} {hd:Int} {us:List V} {lv:List (List Key×V)} (h:I36 C m sl p ra fa ld cs i G l rows n hd us lv) (slr:sl≠ra) (ldf:ld≠fa) (k:Kp [p,ra,fa] G G'):
  G' l=some (.lst us)∧RsAt G' us rows∧G' ld=some (.dT lv)∧G' sl=some (.lst (cs.map V.int))∧∀c xs,G c=some (.tup xs)→G' c=some (.tup xs):=by
 obtain⟨dx,vs,kvs,h1,h2,h3,h4,h5,h6⟩:=h.b
 have no:∀c o,G c=some o→(∀C dx fs,o≠.ins C dx fs)→(c=ra→False)→(c=fa→False)→G' c=some o:=fun c o hc n1 n2 n3=>k c o hc fun z=>by
  simp only[List.mem_cons,List.not_mem_nil,or_false] at z
  rcases z with z|z|z
  ·rw[z,h1] at hc;exact n1 _ _ _ (Option.some.inj hc).symm
  ·exact n2 z
  ·exact n3 z
 have tup:∀c xs,G c=some (.tup xs)→G' c=some (.tup xs):=fun c xs hc=>no c _ hc (fun _ _ _ z=>nomatch z) (fun z=>by rw[z,h2] at hc;cases hc) (fun z=>by rw[z,h4] at hc;cases hc)
 refine⟨no _ _ h.tl (fun _ _ _ z=>nomatch z) h.ne (fun z=>by have:=h.tl;rw[z,h4] at this;cases this),?_,no _ _ h.d (fun _ _ _ z=>nomatch z) (fun z=>by have:=h.d;rw[z,h2] at this;cases this) ldf,no _ _ h.s (fun _ _ _ z=>nomatch z) slr (fun z=>by have:=h.s;rw[z,h4] at this;cases this),tup⟩
 exact Paired.mapP h.r fun _ y q=>by
  match y,q with
  |none,q=>exact q
  |some _,⟨a,e,h⟩=>exact⟨a,e,tup _ _ h⟩
theorem BkAt.dt {C p ra fa ld:Addr} {H:Hp} {rows:List (Option Rw)} {n:Nat} {hd:Int} {xs:List (List Key×V)} {o:HO} (hx:H ld=some (.dT xs)) (nr:ld≠fa) (h:BkAt C H p ra fa rows n hd):BkAt C (upd H ld o) p ra fa rows n hd:=by
 obtain⟨dx,vs,kvs,h1,h2,h3,h4,h5,h6⟩:=h
 exact⟨dx,vs,kvs,by rw[aaf (fun z=>by rw[z,hx] at h1;cases h1)];exact h1,by rw[aaf (fun z=>by rw[z,hx] at h2;cases h2)];exact h2,RsAt.sameD hx h3,by rw[aaf nr.symm];exact h4,h5,h6⟩
theorem aku {C p ra fa:Addr} {H:Hp} {rows:List (Option Rw)} {n:Nat} {hd t g e m:Int} {Q:VK} {E:XK} (hB:BkAt C H p ra fa rows n hd) (hu:Uq rows) (hm:(rows.length:Int)=m) (m12:m≤12) (hn:n < 1000) (h0:0≤hd) (h1:0 < m→hd < m)
  (q:∀H' rows' n' hd',BkAt C H' p ra fa rows' n' hd'→Kp [p,ra,fa] H H'→Kept t g e rows rows'→n'≤n+1→0≤hd'→(0 < m→hd' < m)→Q .non H'):ags C [.ref p,.int t,.int g,.int e] H Q E:=by
 cases rows with
 |nil=>
  refine .inl ⟨p,ra,fa,n,hd,t,g,e,rfl,hB,q H [] n hd hB (fun _ _ h _=>h) (.inr (.inr ⟨rfl,[],[],0,rfl,.inl rfl,rfl⟩)) (Nat.le_succ _) h0 h1⟩
 |cons y rs=>
  have hpos:0 < (y::rs).length:=Nat.succ_pos _
  generalize y::rs=rows at *
  cases ej:rows.findIdx? Option.isNone with
  |some j0=>
   refine .inr (.inl ⟨p,ra,fa,rows,n,j0,hd,t,g,e,rfl,hB,by omega,hpos,fun _=>ej,fun H' hB' k=>q H' _ _ _ hB' (k.wide fun x hx=>List.mem_cons_of_mem _ hx) ?_ (Nat.le_refl _) h0 h1⟩)
   unfold keepR
   cases ef:fnd rows t g with
   |none=>exact .inr (.inl ⟨ef,j0,ej,rfl⟩)
   |some j=>
    obtain⟨r,hr,_,_⟩:=aa3 ef
    refine .inl ⟨j,r,ef,hr,?_⟩
    simp only[hr]
  |none=>
   obtain⟨L,rfl⟩:=akq ej
   rw[List.length_map] at hm hpos
   have hm1:=h1 (by omega)
   refine .inr (.inr ⟨p,ra,fa,L,n,hd,t,g,e,rfl,hB,hu,by omega,h0,by omega,by omega,fun j r ef hr H' hB' k=>?_,fun ef j H' hj _ _ hB' k=>?_⟩)
   ·refine q H' _ _ _ hB' (k.wide fun x hx=>List.mem_cons_of_mem _ hx) (.inl ⟨j,r,ef,by rw[List.getElem?_map,hr];rfl,by rw[List.map_set]⟩) (Nat.le_succ _) h0 h1
   ·have hlp:(0:Int) < (L.length:Int):=by omega
    have e1:=Int.emod_nonneg ((hd+j) % (L.length:Int)+1) (show (L.length:Int)≠0 by omega)
    have e2:=Int.emod_lt_of_pos ((hd+j) % (L.length:Int)+1) hlp
    have e3:=Int.emod_nonneg (hd+j) (show (L.length:Int)≠0 by omega)
    have e4:=Int.emod_lt_of_pos (hd+j) hlp
    exact q H' _ _ _ hB' k (.inr (.inr ⟨ef,L,_,_,rfl,.inr (by omega),rfl⟩)) (Nat.le_refl _) e1 (fun _=>by omega)
noncomputable def spLaw (K:PySem.W.Frag):Sp:=fun vs H Q _=>∃(a:Addr) (ns:List Int),vs=[.ref a]∧SqL K H a (ns.map V.int)∧ns.length≤63∧∀H',Q (.bl true) H'
theorem akv (T:Txt K mg A):Body P w K mg base "law" akh ["_law_script","_law_many","_law_base","_law_digits","_law_book","_law_told","_law_last","_law_k","_law_cell_here","_law_number_here","_law_pair","_law_entry","_law_ahead"] 7 (spLaw K):=by
 have Bd:=amc (P:=P) (w:=w) (base:=base) T
 have Be:=ami (P:=P) (w:=w) (base:=base) T
 have Bm:=h_use (P:=P) (w:=w) (base:=base) T
 have Af:=ajf (P:=P) (w:=w) (base:=base) T
 have At:=amn (P:=P) (w:=w) (base:=base) T
 have An:=h_told (P:=P) (w:=w) (base:=base) T
 have Bn:=akn (P:=P) (w:=w) (base:=base) T
 have Au:=amp (P:=P) (w:=w) (base:=base) T
 have B6:=h_kept (P:=P) (w:=w) (base:=base) T
 have B7:=h_used (P:=P) (w:=w) (base:=base) T
 have Bo:=akp (P:=P) (w:=w) (base:=base) T
 have B8:=amq (P:=P) (w:=w) (base:=base) T
 intro f cdv A' outer s H vs Q E hr z
 obtain⟨a,ns,rfl,hs,hns,q⟩:=z
 have Ak:=h_cell (P:=P) (w:=w) (base:=base) T a ns
 refine⟨_,(aab (aas (i:=1) abm.nd rfl (Or.inl rfl) (aao abf (aaq Ak (hr.mono (by decide)) aat (aaa (pvM 0) (aaa aac aad))) aac))
   (ac5 (aa8 (aar adg (aao abf (aao ack (aaq Ak (hr.mono (by decide)) aat (aaa (pvM 0) (aaa aac aad))) aac) aac) aac (nomark _)) (aae (aas (i:=1) abm.nd rfl (Or.inl rfl) (aao abf (aao ack (aaq Ak (hr.mono (by decide)) aat (aaa (pvM 0) (aaa aac aad))) aac) aac))) aam)
   (aab (aas (i:=2) abm.nd rfl (Or.inl rfl) (aao act (aao abf (aaq Ak (hr.mono (by decide)) aat (aaa (pvM 0) (aaa aac aad))) aac) (aao abf (aao ack (aaq Ak (hr.mono (by decide)) aat (aaa (pvM 0) (aaa aac aad))) aac) (aao aht aac aac))))
   (aab (aas (i:=3) abm.nd rfl (Or.inl rfl) (abg adg (aao abf (aao ack (aaq Ak (hr.mono (by decide)) aat (aaa (pvM 0) (aaa aac aad))) aac) aac) aac (nomark _)))
   (aab (aas (i:=4) abm.nd rfl (Or.inl rfl) (aj3 Bd (hr.mono (by decide)) aat (aaa (pvM 1) aad)))
   (aab (al1 (i:=5) abm.nd rfl rfl rfl (ab8 rfl T.Ao (aaa (pvM 1) aad)) (x:="_law_k") (fs:=[]) (ix:=[]) rfl rfl (fun _ _ _ _ _ _=>(abc (i:=0) (show (["_law_k"]:List Str).Nodup by decide+kernel) rfl (Or.inl rfl))) (fun _ _ _ _ _ _=>aij) (fun _ _ _ _ _ _=>abb))
   (aab (aas (i:=6) abm.nd rfl (Or.inl rfl) agc)
   (aab (abr PassesOwn.leaving rfl (aio rfl T.Av (aaa (aba acm (pvM 0) (abh aac) (abh aac)) aad)) (akx (n:=2) rfl (adi (abc (i:=7) abm.nd rfl (Or.inl rfl)) (adi (abc (i:=8) abm.nd rfl (Or.inl rfl)) aho))) (aab (aas (i:=9) abm.nd rfl (Or.inl rfl) (aaq Bn (hr.mono (by decide)) aat (aaa (pvM 3) (aaa (pvM 8) (aaa (pvM 7) aad)))))
   (aab (aas (i:=10) abm.nd rfl (Or.inl rfl) (aa4 (aaa (aao abw (pvM 2) (aao abf (aao ack (pvM 9) aac) aac)) (aaa (aao abw (pvM 2) (aao abf (aao ack (pvM 9) aac) aac)) aad))))
   (aab (aas (i:=11) abm.nd rfl (Or.inl rfl) (aao abf (aao ack (pvM 9) aac) (aao aht aac aac)))
   (aab (aas (i:=12) abm.nd rfl (Or.inl rfl) (pvM 5))
   (ac5 (aa8 (aar alk (aao abf (pvM 9) aac) aac (nomark _)) (aab (ab1 (abx (pvM 4) T.Ab Be (hr.mono (by decide)) aat (aaa (aak aal (pvM 10) aac (fun _ _=>rfl)) (aaa (aak aal (pvM 10) aac (fun _ _=>rfl)) (aaa (pvM 11) aad)))))
   (aab (aei (ac4 hr) (pvM 6) (pvM 10) (pvM 11) rfl)
   (aab (aas (i:=5) abm.nd rfl (Or.inl rfl) (abz (pvM 4) T.Ab An (hr.mono (by decide)) aat))
   (aab (aa8 (PW.pt (ad2 (abv (abe (aaq Au (hr.mono (by decide)) aat (aaa (pvM 5) (aaa (pvM 1) aad))))) (adc (abv (abe (aaq B6 (hr.mono (by decide)) aat (aaa (pvM 12) (aaa (pvM 5) (aaa (pvM 10) (aaa (pvM 11) aad)))))))))) (aae (aaw abu)) aam)
   (aae (aas (i:=12) abm.nd rfl (Or.inl rfl) (pvM 5))))))) aam)
   (ac5 (aa8 (aar ah5 (aao abf (pvM 9) aac) (aa4 (aaa aac (aaa aac (aaa aac aad)))) (by with_unfolding_all rfl)) (aab (ab1 (abx (pvM 4) T.Ab Bm (hr.mono (by decide)) aat (aaa (aak aal (pvM 10) aac (fun _ _=>rfl)) (aaa (aak aal (pvM 10) aac (fun _ _=>rfl)) aad))))
   (aab (aas (i:=5) abm.nd rfl (Or.inl rfl) (abz (pvM 4) T.Ab An (hr.mono (by decide)) aat))
   (aae (aa8 (PW.pt (ad2 (abv (abe (aaq Au (hr.mono (by decide)) aat (aaa (pvM 5) (aaa (pvM 1) aad))))) (adc (abv (abe (aaq B7 (hr.mono (by decide)) aat (aaa (pvM 12) (aaa (pvM 5) (aaa (pvM 10) aad))))))))) (aae (aaw abu)) aam)))) aam)
   (ac5 (aa8 (aar op_gt (aao abf (pvM 9) aac) aac (nomark _)) (ac5 (aa8 (aar adg (aao abf (pvM 9) aac) aac (nomark _)) (aae (ab1 (abx (pvM 4) T.Ab Af (hr.mono (by decide)) aat (aaa (aak aal (pvM 10) aac (fun _ _=>rfl)) (aaa (aak aal (pvM 10) aac (fun _ _=>rfl)) aad))))) (aae (ab1 (abx (pvM 4) T.Ab At (hr.mono (by decide)) aat (aaa (aak aal (pvM 10) aac (fun _ _=>rfl)) aad)))))
   (aab (aas (i:=5) abm.nd rfl (Or.inl rfl) (abz (pvM 4) T.Ab An (hr.mono (by decide)) aat))
   (aae (aa8 (PW.pt (ad2 (abv (abe (aaq Au (hr.mono (by decide)) aat (aaa (pvM 5) (aaa (pvM 1) aad))))) (adc (abv (abe (aaq Bo (hr.mono (by decide)) aat (aaa (pvM 12) (aaa (pvM 5) (aaa (pvM 10) (aaa (abg adg (aao abf (pvM 9) aac) aac (nomark _)) aad)))))))))) (aae (aaw abu)) aam)))) aam)
   (aae (aa8 (abv (abe (aaq B8 (hr.mono (by decide)) aat (aaa (pvM 4) (aaa (pvM 5) (aaa (pvM 10) (aaa (pvM 6) aad))))))) (aae (aaw abu)) aam))))))))))
   (aae (aaw abu)))))))))),?_⟩
 unfold ai9
 walk_at "wp"
 refine⟨hs,?_⟩
 refine⟨fun σ H1=>∃m:Int,σ=[some (.ref a),some (.int m),none,none,none,none,none,none,none,none,none,none,none]∧0≤m∧m≤12∧H1=H,?_,fun σ1 H1=>?_⟩
 ·walk_at "wp"
  refine⟨hs,ite2 (fun _=>⟨hs,by omega,by omega⟩) (fun _=>⟨by omega,by omega⟩)⟩
 rintro⟨m,rfl,m0,m1,rfl⟩
 unfold agn
 walk_at "wp"
 refine⟨hs,hs,.inl ⟨by omega,by omega⟩,hs,fun p dx hp hdx hne=>⟨m0,by omega,fun H2 ra fa kp hBk hra hfa=>⟨by omega,by omega,fun l0 hl0=>?_⟩⟩⟩
 have s2:Same H1 H2:=fun c o h=>kp c o (by rw[aaf (aay h hp),aaf (aay h hdx)];exact h) (fun z=>aay h hp (List.mem_singleton.mp z))
 clear kp hra hfa hp hdx hne
 generalize ns.getD 1 0 % 2 * (ns.getD 1 0 / 2 % 1000000000000000000000000000000)=bs at *
 generalize decide (ns.getD 0 0 / 1000 % 2=1)=dg at *
 refine aha (fun i ys σ G=>∃v0,σ=[v0]∧Same H2 G∧G l0=some (.lst ys)∧ys=List.replicate i V.non) ⟨_,rfl,aaj aai hl0,aag,rfl⟩ (fun i ys σ G hi=>?_) (fun ys σ G=>?_)
 ·rintro⟨v0,rfl,sG,hD,rfl⟩
  walk_at "wp"
  exact⟨hD,by rw[List.length_replicate];omega,ac0 sG hl0,by rw[←List.replicate_succ,List.replicate_succ']⟩
 rintro⟨v0,rfl,s3,gl0,rfl⟩
 unfold tDNewT
 walk_at "wp"
 intro ld hld
 obtain⟨s4,gld⟩:=aau (o:=.dT []) hld
 have hBk4:=(hBk.same s3).same s4
 have ldf:ld≠fa:=fun z=>by
  obtain⟨_,_,_,_,_,_,h4,_⟩:=hBk
  rw[z,s3 _ _ h4] at hld;cases hld
 have l0r:l0≠ra:=fun z=>by
  obtain⟨_,_,_,_,h2,_⟩:=hBk
  rw[z,h2] at hl0;cases hl0
 generalize upd G ld (.dT [])=H4 at *
 have hs4:SqL K H4 a (ns.map V.int):=(s2.trans (s3.trans s4)).seq hs
 refine⟨_,hs4,fun sl hsl=>?_⟩
 have hcut:cutV (ns.map V.int) (some 1) (some 71)=((ns.take 71).drop 1).map V.int:=by rw[show cutV (ns.map V.int) (some 1) (some 71)=((ns.map V.int).take 71).drop 1 from akl (lo:=1) (hi:=71),←List.map_take,←List.map_drop]
 rw[hcut]
 have hcl:((ns.take 71).drop 1).length≤62:=by rw[List.length_drop,List.length_take];omega
 generalize (ns.take 71).drop 1=cs at *
 obtain⟨s5,gsl⟩:=aau (o:=.lst (cs.map V.int)) hsl
 have slr:sl≠ra:=fun z=>by
  obtain⟨_,_,_,_,h2,_⟩:=hBk4
  rw[z,h2] at hsl;cases hsl
 generalize upd H4 sl (.lst (cs.map V.int))=H5 at *
 have hrep:∀k:Nat,RsAt H5 (List.replicate k V.non) (List.replicate k none):=fun k=>by
  induction k with
  |zero=>exact .nil
  |succ k ih=>rw[List.replicate_succ,List.replicate_succ];exact .cons rfl ih
 have rno:∀{k j:Nat} {r:Rw},(List.replicate k (none:Option Rw))[j]?=some (some r)→False:=fun {k j r} h=>by
  rw[List.getElem?_replicate] at h
  split at h
  ·cases h
  ·cases h
 have hI0:I36 A.Aa m sl p ra fa ld cs 0 H5 l0 (List.replicate m.toNat none) 0 0 (List.replicate m.toNat V.non) []:=
  ⟨hBk4.same s5,Nat.le_refl _,by rw[List.length_replicate];omega,fun i j r s hi=>(rno hi).elim,Int.le_refl _,fun h=>h,s5 _ _ (s4 _ _ gl0),hrep _,s5 _ _ gld,fun i r h=>(rno h).elim,Nat.le_refl _,gsl,l0r⟩
 refine⟨⟨_,SqL.of gsl⟩,afd (K:=K) (xs:=cs.map V.int) (fun i σ G=>∃v7 v8 v9 v10 v11 v12 l rows n hd us lv,σ=[some (.ref a),some (.int m),some (.int bs),some (.bl dg),some (.ref p),some (.ref l),some (.ref ld),v7,v8,v9,v10,v11,v12]∧I36 A.Aa m sl p ra fa ld cs i G l rows n hd us lv) ⟨_,_,_,_,_,_,_,_,_,_,_,_,rfl,hI0⟩ (fun i σ G _ h=>by obtain⟨_,_,_,_,_,_,_,_,_,_,_,_,_,h⟩:=h;exact SqL.of h.s) (fun i v t0 σ G hi=>?_) (fun σ G=>?_)⟩
 ·rintro⟨v7,v8,v9,v10,v11,v12,l,rows,n,hd,us,lv,rfl,hI⟩ ht0
  obtain⟨b0,g0⟩:=aau (o:=.tup [V.int (i:Int),v]) ht0
  have hI:=hI.same b0
  obtain⟨c,rfl⟩:∃c:Int,v=V.int c:=by
   obtain⟨c,_,e⟩:=List.mem_map.mp (List.mem_of_getElem? hi)
   exact⟨c,e.symm⟩
  have hil:=(List.getElem?_eq_some_iff.mp hi).1
  rw[List.length_map] at hil
  generalize upd G t0 (.tup [V.int (i:Int),V.int c])=G1 at *
  unfold sp_number
  walk_at "wp"
  refine⟨_,SqT.of g0,rfl,_,_,rfl,_,_,rfl,rfl,_,rfl,_,rfl,by omega,by omega,fun z pa hpa=>?_⟩
  obtain⟨b1,gpa⟩:=aau (o:=.tup [V.int (bs+z / 8 % 3),V.int (bs+z / 24 % 4)]) hpa
  generalize upd G1 pa (.tup [V.int (bs+z / 8 % 3),V.int (bs+z / 24 % 4)])=G2 at *
  have hI:=hI.same b1
  generalize bs+z / 8 % 3=t at *
  generalize bs+z / 24 % 4=g at *
  generalize z / 96 % 1000000000000000000000000000000=e at *
  refine⟨C36 A.Aa a m bs dg sl p ra fa ld cs i c z pa t g e true,?_,fun σ3 G3=>?_⟩
  ·unfold aes sDPut
   walk_at "wp"
   refine ite2 (fun _=>?_) (fun _=>⟨⟨l,l,rows,n,hd,us,lv,rfl,gpa,hI.up,fun _=>rfl⟩⟩)
   obtain⟨dx,_,_,e1,_⟩:=id hI.b
   have hn9:=hI.n9
   have hll:=hI.ll
   refine⟨dx,_,e1,ab7 (by decide+kernel),_,SqT.of gpa,_,rfl,_,SqT.of gpa,_,rfl,aku hI.b hI.u hI.ln m1 (by omega) hI.h0 hI.h1 fun H6 rows' n' hd' hB6 k6 hK hn' h0' h1'=>?_⟩
   obtain⟨f1,f2,f3,f4,f5⟩:=hI.kp slr ldf k6
   have f6:=f5 _ _ gpa
   have hz:=PySem.sizeLine_eq
   refine⟨_,.inr ⟨lv,ky t g,pa,f3,rfl,f6,by omega,rfl⟩,?_⟩
   have hB7:=hB6.dt (o:=.dT (putK lv (ky t g) (.int e))) f3 ldf
   have r7:=RsAt.sameD (o:=.dT (putK lv (ky t g) (.int e))) f3 f2
   have g7:upd H6 ld (.dT (putK lv (ky t g) (.int e))) ld=some (.dT (putK lv (ky t g) (.int e))):=aag
   have k7:∀c o,H6 c=some o→c≠ld→upd H6 ld (.dT (putK lv (ky t g) (.int e))) c=some o:=fun c o h n=>by rw[aaf n];exact h
   have l7:=k7 _ _ f1 (fun z=>by rw[z,f3] at f1;cases f1)
   have sl7:=k7 _ _ f4 (fun z=>by rw[z,f3] at f4;cases f4)
   have pa7:=k7 _ _ f6 (fun z=>by rw[z,f3] at f6;cases f6)
   have hlp:=acn lv (ky t g) (V.int e)
   generalize upd H6 ld (.dT (putK lv (ky t g) (.int e)))=H7 at *
   obtain⟨dx7,_,_,e7,er7,_⟩:=id hB7
   refine⟨dx7,_,e7,ab7 (by decide+kernel),ra,fa,rows',n',hd',hB7,fun t1 us1 ht1 hT1=>?_⟩
   obtain⟨b8,g8⟩:=aau (o:=.lst us1) ht1
   have t1r:t1≠ra:=fun z=>by rw[z,er7] at ht1;cases ht1
   generalize upd H7 t1 (.lst us1)=H8 at *
   have hln:=hI.ln
   unfold sp_right
   refine⟨t1,us1,rows',m,rfl,g8,hT1,ajn hK hI.u,by rw[agz hK];exact hI.ln,m1,fun H9 s9=>⟨true,rfl,iteF ?_⟩⟩
   have s89:=b8.trans s9
   unfold sp_kept
   refine⟨l,t1,pa,us,us1,rows,rows',t,g,e,rfl,s89 _ _ l7,r7.same s89,s9 _ _ g8,hT1.same s9,s89 _ _ pa7,hK,by omega,fun H10 s10=>⟨true,rfl,iteF ⟨⟨t1,t1,rows',n',hd',us1,putK lv (ky t g) (.int e),rfl,s10 _ _ (s89 _ _ pa7),?_,fun _=>rfl⟩⟩⟩⟩
   have sA:=s89.trans s10
   exact⟨hB7.same sA,by omega,by rw[agz hK];exact hI.ln,ajn hK hI.u,h0',h1',(s9.trans s10) _ _ g8,hT1.same (s9.trans s10),sA _ _ g7,ajo hK hI.u hI.la,by omega,sA _ _ sl7,t1r⟩
  rintro⟨l3,la3,rows3,n3,hd3,us3,lv3,rfl,gpa3,hI3,hk3⟩
  obtain rfl:la3=l3:=hk3 rfl
  clear hI gpa hk3 b0 g0 b1 hpa ht0
  refine⟨C36 A.Aa a m bs dg sl p ra fa ld cs i c z pa t g e (decide (5 < z % 8)),?_,fun σ4 G4=>?_⟩
  ·unfold aes
   walk_at "wp"
   intro p3 h3
   obtain⟨b3,g3⟩:=aau (o:=.tup [V.int 3,V.int 4,V.int 5]) h3
   have hI3:=hI3.same b3
   have gpa3:=b3 _ _ gpa3
   generalize upd G3 p3 (.tup [V.int 3,V.int 4,V.int 5])=G9 at *
   refine⟨_,.inr (SqT.of g3),rfl,rfl,?_⟩
   rw[if_neg Bool.false_ne_true]
   cases hin:inV (V.int (z % 8)) [V.int 3,V.int 4,V.int 5] with
   |false=>exact iteF ⟨⟨la3,la3,rows3,n3,hd3,us3,lv3,rfl,gpa3,hI3,fun _=>rfl⟩⟩
   |true=>
    have h345:¬5 < z % 8:=fun h=>by
     unfold inV at hin
     simp[eqV] at hin
     omega
    rw[if_pos rfl]
    obtain⟨dx,_,_,e1,_⟩:=id hI3.b
    refine⟨dx,_,e1,ab7 (by decide+kernel),_,SqT.of gpa3,_,rfl,_,SqT.of gpa3,_,rfl,?_⟩
    unfold ak7
    refine⟨p,ra,fa,rows3,n3,hd3,t,g,rfl,hI3.b,fun H6 hB6 k6=>?_⟩
    obtain⟨f1,f2,f3,f4,f5⟩:=hI3.kp slr ldf (k6.wide fun x hx=>by rw[List.mem_singleton.mp hx];simp)
    have f6:=f5 _ _ gpa3
    obtain⟨dx7,_,_,e7,er7,_⟩:=id hB6
    refine⟨dx7,_,e7,ab7 (by decide+kernel),ra,fa,useR rows3 t g,n3,hd3,hB6,fun t1 us1 ht1 hT1=>?_⟩
    obtain⟨b8,g8⟩:=aau (o:=.lst us1) ht1
    have t1r:t1≠ra:=fun z=>by rw[z,er7] at ht1;cases ht1
    generalize upd H6 t1 (.lst us1)=H8 at *
    have hln:=hI3.ln
    unfold sp_right
    refine⟨t1,us1,useR rows3 t g,m,rfl,g8,hT1,alg hI3.u,by rw[ajp];exact hI3.ln,m1,fun H9 s9=>⟨true,rfl,iteF ?_⟩⟩
    have s89:=b8.trans s9
    unfold sp_used
    refine⟨la3,t1,pa,us3,us1,rows3,t,g,rfl,s89 _ _ f1,f2.same s89,s9 _ _ g8,hT1.same s9,s89 _ _ f6,by omega,fun H10 s10=>⟨true,rfl,iteF ⟨⟨t1,la3,useR rows3 t g,n3,hd3,us1,lv3,rfl,s10 _ _ (s89 _ _ f6),?_,fun h=>absurd (of_decide_eq_true h) h345⟩⟩⟩⟩
    have sA:=s89.trans s10
    exact⟨hB6.same sA,hI3.n9,by rw[ajp];exact hI3.ln,alg hI3.u,hI3.h0,hI3.h1,(s9.trans s10) _ _ g8,hT1.same (s9.trans s10),sA _ _ f3,akt hI3.la,hI3.ll,sA _ _ f4,t1r⟩
  rintro⟨l4,la4,rows4,n4,hd4,us4,lv4,rfl,gpa4,hI4,hk4⟩
  clear hI3 gpa3
  refine⟨C36 A.Aa a m bs dg sl p ra fa ld cs i c z pa t g e false,?_,fun σ5 G5=>?_⟩
  ·unfold aes
   walk_at "wp"
   refine ite2 (fun h5=>?_) (fun h5=>⟨⟨l4,la4,rows4,n4,hd4,us4,lv4,rfl,gpa4,hI4,fun h=>nomatch h⟩⟩)
   obtain rfl:la4=l4:=hk4 (decide_eq_true h5)
   obtain⟨dx,_,_,e1,_⟩:=id hI4.b
   have hn9:=hI4.n9
   refine⟨fun σ G=>σ=[some (.ref a),some (.int m),some (.int bs),some (.bl dg),some (.ref p),some (.ref la4),some (.ref ld),some (.int (i:Int)),some (.int c),some (.int z),some (.ref pa),some (.int e),some (.ref la4)]∧Kp [p,ra,fa] G4 G∧∃rows',BkAt A.Aa G p ra fa rows' n4 hd4∧Struck t g (decide (z % 8=7)) rows4 rows',?_,fun σ6 G6=>?_⟩
   ·walk_at "wp"
    refine ite2 (fun h6=>?_) (fun h6=>?_)
    ·refine⟨dx,_,e1,ab7 (by decide+kernel),_,SqT.of gpa4,_,rfl,_,SqT.of gpa4,_,rfl,?_⟩
     unfold af1
     refine⟨p,ra,fa,rows4,n4,hd4,t,g,rfl,hI4.b,hI4.u,fun H6 hB6 k6=>⟨k6.wide fun x hx=>List.mem_cons_of_mem _ hx,_,hB6,?_⟩⟩
     rw[decide_eq_false (by omega)]
     exact ahi hI4.u
    ·have h7:z % 8=7:=by omega
     refine⟨dx,_,e1,ab7 (by decide+kernel),_,SqT.of gpa4,_,rfl,?_⟩
     unfold agt
     refine⟨p,ra,fa,rows4,n4,hd4,t,rfl,hI4.b,hI4.u,by omega,fun H6 hB6 k6=>⟨k6.wide fun x hx=>List.mem_cons_of_mem _ hx,_,hB6,?_⟩⟩
     rw[decide_eq_true h7]
     exact ahj
   rintro⟨rfl,k6,rows',hB6,hS⟩
   obtain⟨f1,f2,f3,f4,f5⟩:=hI4.kp slr ldf k6
   have f6:=f5 _ _ gpa4
   obtain⟨dx7,_,_,e7,er7,_⟩:=id hB6
   walk_at "wp"
   refine⟨dx7,_,e7,ab7 (by decide+kernel),ra,fa,rows',n4,hd4,hB6,fun t1 us1 ht1 hT1=>?_⟩
   obtain⟨b8,g8⟩:=aau (o:=.lst us1) ht1
   have t1r:t1≠ra:=fun z=>by rw[z,er7] at ht1;cases ht1
   generalize upd G6 t1 (.lst us1)=H8 at *
   have hln:=hI4.ln
   unfold sp_right
   refine⟨t1,us1,rows',m,rfl,g8,hT1,afm hS hI4.u,by rw[hS.1];exact hI4.ln,m1,fun H9 s9=>⟨true,rfl,iteF ?_⟩⟩
   have s89:=b8.trans s9
   unfold sp_struck
   refine⟨la4,t1,pa,us4,us1,rows4,rows',t,g,decide (z % 8=7),rfl,s89 _ _ f1,f2.same s89,s9 _ _ g8,hT1.same s9,s89 _ _ f6,hS,fun H10 s10=>⟨true,rfl,iteF ⟨⟨t1,la4,rows',n4,hd4,us1,lv4,rfl,s10 _ _ (s89 _ _ f6),?_,fun h=>nomatch h⟩⟩⟩⟩
   ·have sA:=s89.trans s10
    exact⟨hB6.same sA,hI4.n9,by rw[hS.1];exact hI4.ln,afm hS hI4.u,hI4.h0,hI4.h1,(s9.trans s10) _ _ g8,hT1.same (s9.trans s10),sA _ _ f3,af5 hS hI4.la,hI4.ll,sA _ _ f4,t1r⟩
  rintro⟨l5,la5,rows5,n5,hd5,us5,lv5,rfl,gpa5,hI5,_⟩
  clear hI4 gpa4
  unfold agx
  walk_at "wp"
  exact⟨ra,fa,us5,rows5,n5,hd5,hI5.b,hI5.tl,hI5.r,hI5.u,t,g,gpa5,lv5,hI5.d,hI5.la,fun H' s'=>iteF ⟨_,_,_,_,_,hI5.same s'⟩⟩
 ·rintro⟨v7,v8,v9,v10,v11,v12,l,rows,n,hd,us,lv,rfl,hI⟩
  walk_at "wp"
  exact q _
end
theorem walk {l:PySem.W.OpenLaw} {q:Program} {loose:List Str} {XP:(Str→Option Value)→Heap→Prop} {YP:World→Heap→Prop} {d:DefRec} {K:Params→PySem.W.Frag} (hn:l.most=some 63) (hdf:d.params.defaults=[]) (hdn:d.name="law")
  (hY:∀(w:World) (h:Heap),YP w h→(K w.params).In h)
  (F:∀(w:World) (mg:Str→Option Value) (h:Heap),(K w.params).In h→h.Ns mainGlobals mg→∃A:Adr,Txt (K w.params) mg A):
  PySem.W.WalkO q loose XP YP l.row.toRowW d [] (fun f vs=>PySem.call f vs):=by
 refine L2.alw (n:=63) (k:=7+1) (x:="_law_script") (CX:=fun w=>CXe l.prog w) (sp:=fun w=>spLaw (K w.params)) hn (by decide) hdf ⟨rfl,by decide,by decide⟩ hY ?_ (fun _ _ a ns hl _ hS=>⟨a,ns,rfl,hS,hl,fun _=>rfl⟩) fun _ _ _ _ _ ⟨_,_,_,_,_,_,_,_,_,_,z⟩=>z
 intro w mg fa h KX G hmg
 rw[hdn] at hmg
 obtain⟨A,T⟩:=F w mg h KX G
 obtain⟨f,fd,e,Fn,hb⟩:=T.Cm
 have e0:=hmg.symm.trans e
 cases e0
 exact⟨fd,hb,fun base _ _=>Fn.okE abm (fun vs H Q E z=>by obtain⟨a,ns,rfl,_⟩:=z;rfl) (akv (P:=l.prog) (w:=w) (base:=base) T)⟩
section
open Hd
noncomputable def o2 (_:Params):Obj:=⟨.none,none,.dict ⟨[]⟩ 0, #[]⟩
noncomputable def o3 (P:Params):Obj:=dO 21 [ent P (S 6944663249689206880) 165 (.str (S 831241226243985397815366666620828996931629173173453454527789486029955693) 295),ent P (S 27127582262911072) 166 .none,ent P (S 116512114954948911152848992) 167 .none,ent P (S 455126385231797511086176) 168 (.builtin "__main__.__loader__#opaque"),ent P (S 6944661016558198880) 169 .none,ent P (S 500416834696884185539869749159288928) 170 (.ref 6),ent P (S 29827167671303893903271485536) 171 (.ref 4),ent P (S 6944663245527933024) 173 (.str (S 9700865007064396754801562313776) 172),ent P (S 455125376429887381069920) 174 .none,ent P (S 504413714548) 198 (.ref 21),ent P (S 1819308099) 294 (.ref 85),ent P (S 2018578202597599112544) 304 (.ref 96),ent P (S 139509984824270207699807584) 314 (.ref 103),ent P (S 483700176494498687380832) 321 (.ref 110),ent P (S 554461310576473642528096) 331 (.ref 117),ent P (S 488476733368916435430752) 339 (.ref 124),ent P (S 2166440394359520259424) 351 (.ref 131),ent P (S 1870503807290540453216) 361 (.ref 138),ent P (S 131038410202151457438985568) 374 (.ref 145),ent P (S 2054967305178938764640) 387 (.ref 152),ent P (S 7889517) 393 (.ref 157)]
noncomputable def o15 (_:Params):Obj:=tO []
noncomputable def o17 (_:Params):Obj:=tO [(.str (S 500035707502) 192),(.str (S 1701798505) 193),(.str (S 111490714854001) 194),(.str (S 439770836337) 195)]
noncomputable def o20 (_:Params):Obj:=cO [(.str (S 504413714548) 189),(.str (S 504413714548) 190),(.str (S 9700865007064396754801562313776) 191),(.int (2) 0),(.int (2) 0),(.int (0) 0),(.int (0) 0),(.int (3) 0),(.ref 15),(.bool true),(.int (181) 0),(.ref 16),.none,(.ref 17),(.ref 18),(.ref 19),(.int (196) 0),(.int (2) 0),(.str (S 9700865007064396754801562313776) 197)]
noncomputable def o21 (_:Params):Obj:=⟨(.type "function"),none,.func (PySem.W.fnOf (Str.ofString "swept") (Str.ofString "swept") (defArgs (top 1)) (defBody (top 1)) (defScope (top 1)) .none .none .none (.str (S 604424633459520194665304702243205991) 187) none (.ref 20) .none), #[]⟩
noncomputable def o31 (_:Params):Obj:=tO [(.str (S 1735222900) 216),(.str (S 2054120046) 217)]
noncomputable def o34 (_:Params):Obj:=cO [(.str (S 6944679725401530464) 213),(.str (S 7635756109259221455877975339075) 214),(.str (S 9700865007064396754801562313776) 215),(.int (12) 0),(.int (2) 0),(.int (0) 0),(.int (0) 0),(.int (3) 0),(.ref 29),(.bool true),(.int (181) 0),(.ref 30),.none,(.ref 31),(.ref 32),(.ref 33),(.int (218) 0),(.int (12) 0),(.str (S 9700865007064396754801562313776) 219)]
noncomputable def o35 (_:Params):Obj:=⟨(.type "function"),none,.func (PySem.W.fnOf (Str.ofString "__init__") (Str.ofString "Book.__init__") (defArgs (inClass (top 3) 0)) (defBody (inClass (top 3) 0)) (defScope (inClass (top 3) 0)) .none .none .none (.str (S 2199408573624556516036856156156775) 199) none (.ref 34) .none), #[]⟩
noncomputable def o38 (_:Params):Obj:=tO [(.str (S 1735222900) 224),(.str (S 1819566709) 225),(.str (S 1718116977) 226),(.str (S 439770836337) 227)]
noncomputable def o41 (_:Params):Obj:=cO [(.str (S 1819308141) 221),(.str (S 2000350455740721295427) 222),(.str (S 9700865007064396754801562313776) 223),(.int (17) 0),(.int (3) 0),(.int (0) 0),(.int (0) 0),(.int (3) 0),(.ref 36),(.bool true),(.int (181) 0),(.ref 37),.none,(.ref 38),(.ref 39),(.ref 40),(.int (228) 0),(.int (17) 0),(.str (S 9700865007064396754801562313776) 229)]
noncomputable def o42 (_:Params):Obj:=⟨(.type "function"),none,.func (PySem.W.fnOf (Str.ofString "look") (Str.ofString "Book.look") (defArgs (inClass (top 3) 1)) (defBody (inClass (top 3) 1)) (defScope (inClass (top 3) 1)) .none .none .none (.str (S 2199408573624556516036856156156775) 199) none (.ref 41) .none), #[]⟩
noncomputable def o45 (_:Params):Obj:=tO [(.str (S 1735222900) 234),(.str (S 1819566709) 235),(.str (S 1718116977) 236),(.str (S 439770836337) 237)]
noncomputable def o48 (_:Params):Obj:=cO [(.str (S 6714486) 231),(.str (S 7382655635221934147) 232),(.str (S 9700865007064396754801562313776) 233),(.int (21) 0),(.int (3) 0),(.int (0) 0),(.int (0) 0),(.int (3) 0),(.ref 43),(.bool true),(.int (181) 0),(.ref 44),.none,(.ref 45),(.ref 46),(.ref 47),(.int (238) 0),(.int (21) 0),(.str (S 9700865007064396754801562313776) 239)]
noncomputable def o49 (_:Params):Obj:=⟨(.type "function"),none,.func (PySem.W.fnOf (Str.ofString "use") (Str.ofString "Book.use") (defArgs (inClass (top 3) 2)) (defBody (inClass (top 3) 2)) (defScope (inClass (top 3) 2)) .none .none .none (.str (S 2199408573624556516036856156156775) 199) none (.ref 48) .none), #[]⟩
noncomputable def o52 (_:Params):Obj:=tO [(.str (S 1735222900) 244),(.str (S 1819566709) 245),(.str (S 1718116977) 246),(.str (S 525923086182) 247),(.str (S 439770836337) 248)]
noncomputable def o55 (_:Params):Obj:=cO [(.str (S 1902536300) 241),(.str (S 2091860784319611039811) 242),(.str (S 9700865007064396754801562313776) 243),(.int (26) 0),(.int (4) 0),(.int (0) 0),(.int (0) 0),(.int (3) 0),(.ref 50),(.bool true),(.int (181) 0),(.ref 51),.none,(.ref 52),(.ref 53),(.ref 54),(.int (249) 0),(.int (26) 0),(.str (S 9700865007064396754801562313776) 250)]
noncomputable def o56 (_:Params):Obj:=⟨(.type "function"),none,.func (PySem.W.fnOf (Str.ofString "keep") (Str.ofString "Book.keep") (defArgs (inClass (top 3) 3)) (defBody (inClass (top 3) 3)) (defScope (inClass (top 3) 3)) .none .none .none (.str (S 2199408573624556516036856156156775) 199) none (.ref 55) .none), #[]⟩
noncomputable def o59 (_:Params):Obj:=tO [(.str (S 1735222900) 255),(.str (S 1819566709) 256),(.str (S 1718116977) 257),(.str (S 439770836337) 258)]
noncomputable def o62 (_:Params):Obj:=cO [(.str (S 112615828452724) 252),(.str (S 123822412855397544384032835) 253),(.str (S 9700865007064396754801562313776) 254),(.int (37) 0),(.int (3) 0),(.int (0) 0),(.int (0) 0),(.int (3) 0),(.ref 57),(.bool true),(.int (181) 0),(.ref 58),.none,(.ref 59),(.ref 60),(.ref 61),(.int (259) 0),(.int (37) 0),(.str (S 9700865007064396754801562313776) 260)]
noncomputable def o63 (_:Params):Obj:=⟨(.type "function"),none,.func (PySem.W.fnOf (Str.ofString "strike") (Str.ofString "Book.strike") (defArgs (inClass (top 3) 4)) (defBody (inClass (top 3) 4)) (defScope (inClass (top 3) 4)) .none .none .none (.str (S 2199408573624556516036856156156775) 199) none (.ref 62) .none), #[]⟩
noncomputable def o66 (_:Params):Obj:=tO [(.str (S 1735222900) 265),(.str (S 1819566709) 266),(.str (S 8021612) 267)]
noncomputable def o69 (_:Params):Obj:=cO [(.str (S 131113599269184769279358324) 262),(.str (S 144160926956031509666854269501697978435) 263),(.str (S 9700865007064396754801562313776) 264),(.int (42) 0),(.int (2) 0),(.int (0) 0),(.int (0) 0),(.int (3) 0),(.ref 64),(.bool true),(.int (181) 0),(.ref 65),.none,(.ref 66),(.ref 67),(.ref 68),(.int (268) 0),(.int (42) 0),(.str (S 9700865007064396754801562313776) 269)]
noncomputable def o70 (_:Params):Obj:=⟨(.type "function"),none,.func (PySem.W.fnOf (Str.ofString "strike_task") (Str.ofString "Book.strike_task") (defArgs (inClass (top 3) 5)) (defBody (inClass (top 3) 5)) (defScope (inClass (top 3) 5)) .none .none .none (.str (S 2199408573624556516036856156156775) 199) none (.ref 69) .none), #[]⟩
noncomputable def o73 (_:Params):Obj:=tO [(.str (S 1735222900) 274)]
noncomputable def o76 (_:Params):Obj:=cO [(.str (S 1701671029) 271),(.str (S 1871007083238733672515) 272),(.str (S 9700865007064396754801562313776) 273),(.int (47) 0),(.int (1) 0),(.int (0) 0),(.int (0) 0),(.int (3) 0),(.ref 71),(.bool true),(.int (181) 0),(.ref 72),.none,(.ref 73),(.ref 74),(.ref 75),(.int (275) 0),(.int (47) 0),(.str (S 9700865007064396754801562313776) 276)]
noncomputable def o77 (_:Params):Obj:=⟨(.type "function"),none,.func (PySem.W.fnOf (Str.ofString "told") (Str.ofString "Book.told") (defArgs (inClass (top 3) 6)) (defBody (inClass (top 3) 6)) (defScope (inClass (top 3) 6)) .none .none .none (.str (S 2199408573624556516036856156156775) 199) none (.ref 76) .none), #[]⟩
noncomputable def o81 (_:Params):Obj:=cO [(.str (S 9539081618956132404483869273457) 278),(.str (S 10488331158346578517991439945993700223512643) 279),(.str (S 9700865007064396754801562313776) 280),(.int (50) 0),(.int (1) 0),(.int (0) 0),(.int (0) 0),(.int (3) 0),(.ref 78),(.bool true),(.int (181) 0),(.ref 79),.none,.none,.none,(.ref 80),(.int (281) 0),(.int (50) 0),(.str (S 9700865007064396754801562313776) 282)]
noncomputable def o82 (_:Params):Obj:=⟨(.type "function"),none,.func (PySem.W.fnOf (Str.ofString "place_for_new") (Str.ofString "Book.place_for_new") (defArgs (inClass (top 3) 7)) (defBody (inClass (top 3) 7)) (defScope (inClass (top 3) 7)) .none .none .none (.str (S 2199408573624556516036856156156775) 199) none (.ref 81) .none), #[]⟩
noncomputable def o83 (_:Params):Obj:=⟨(.type "tuple"),none,.seq #[(.str (Str.ofString "found") 284),(.str (Str.ofString "hand") 285),(.str (Str.ofString "rows") 286)] 0, #[]⟩
noncomputable def o84 (P:Params):Obj:=dO 4 [ent P (S 455125450472104437637216) 208 (.str (S 2199408573624556516036856156156775) 199),ent P (S 500416517772168279997240570217455712) 212 (.int (10) 211),ent P (S 6944679725401530464) 220 (.ref 35),ent P (S 1819308141) 230 (.ref 42),ent P (S 6714486) 240 (.ref 49),ent P (S 1902536300) 251 (.ref 56),ent P (S 112615828452724) 261 (.ref 63),ent P (S 131113599269184769279358324) 270 (.ref 70),ent P (S 1701671029) 277 (.ref 77),ent P (S 9539081618956132404483869273457) 283 (.ref 82),ent P (S 140854816109632365363434125429399349832812124725344) 287 (.ref 83),ent P (S 6944679699547512928) 289 (.ref 86),ent P (S 116512133262362862868258912) 291 (.ref 87),ent P (S 27127582262911072) 292 .none]
noncomputable def o85 (_:Params):Obj:=⟨(.type "type"),none,.cls {name:=(Str.ofString "Book"),bases:=[(.type "object")],mro:=[(.ref 85),(.type "object")],ns:=84,qualname:=(Str.ofString "Book"),hasDict:=true,slotNames:=[],subclasses:=[],abstract:=false,collection:=none,hasDel:=false}, #[none,none,(some (.str (S 1819308099) 201)),(some (.str (S 1819308099) 209)),(some (.builtin "object.__new__")),(some (.bool true))]⟩
noncomputable def o86 (_:Params):Obj:=⟨(.type "getset_descriptor"),none,.fields ⟨[(.str (S 6944679699547512928) 288),(.ref 85),(.builtin "function.__dict__"),(.builtin "function.__dict__#set")]⟩, #[]⟩
noncomputable def o87 (_:Params):Obj:=⟨(.type "getset_descriptor"),none,.fields ⟨[(.str (S 116512133262362862868258912) 290),(.ref 85),(.builtin "ExceptionGroup.__weakref__"),.none]⟩, #[]⟩
noncomputable def o92 (_:Params):Obj:=tO [(.str (S 141979911977246466280418656) 300),(.str (S 119161592376672) 301)]
noncomputable def o95 (_:Params):Obj:=cO [(.str (S 2018578202597599112544) 297),(.str (S 2018578202597599112544) 298),(.str (S 9700865007064396754801562313776) 299),(.int (62) 0),(.int (2) 0),(.int (0) 0),(.int (0) 0),(.int (3) 0),(.ref 90),(.bool true),(.int (181) 0),(.ref 91),.none,(.ref 92),(.ref 93),(.ref 94),(.int (302) 0),(.int (62) 0),(.str (S 9700865007064396754801562313776) 303)]
noncomputable def o96 (_:Params):Obj:=⟨(.type "function"),none,.func (PySem.W.fnOf (Str.ofString "_law_cell") (Str.ofString "_law_cell") (defArgs (top 5)) (defBody (top 5)) (defScope (top 5)) .none .none .none (.str (S 831241226243985397815366666620828996931629173173453454527789486029955693) 295) none (.ref 95) .none), #[]⟩
noncomputable def o99 (_:Params):Obj:=tO [(.str (S 140789874832602138455207264) 308),(.str (S 2077948713125189379357033996905824) 309),(.str (S 119161592376672) 310),(.str (S 7381241873922420064) 311)]
noncomputable def o102 (_:Params):Obj:=cO [(.str (S 139509984824270207699807584) 305),(.str (S 139509984824270207699807584) 306),(.str (S 9700865007064396754801562313776) 307),(.int (66) 0),(.int (3) 0),(.int (0) 0),(.int (0) 0),(.int (3) 0),(.ref 97),(.bool true),(.int (181) 0),(.ref 98),.none,(.ref 99),(.ref 100),(.ref 101),(.int (312) 0),(.int (66) 0),(.str (S 9700865007064396754801562313776) 313)]
noncomputable def o103 (_:Params):Obj:=⟨(.type "function"),none,.func (PySem.W.fnOf (Str.ofString "_law_number") (Str.ofString "_law_number") (defArgs (top 6)) (defBody (top 6)) (defScope (top 6)) .none .none .none (.str (S 831241226243985397815366666620828996931629173173453454527789486029955693) 295) none (.ref 102) .none), #[]⟩
noncomputable def o106 (_:Params):Obj:=tO [(.str (S 479015137796973828140384) 318)]
noncomputable def o109 (_:Params):Obj:=cO [(.str (S 483700176494498687380832) 315),(.str (S 483700176494498687380832) 316),(.str (S 9700865007064396754801562313776) 317),(.int (71) 0),(.int (1) 0),(.int (0) 0),(.int (0) 0),(.int (3) 0),(.ref 104),(.bool true),(.int (181) 0),(.ref 105),.none,(.ref 106),(.ref 107),(.ref 108),(.int (319) 0),(.int (71) 0),(.str (S 9700865007064396754801562313776) 320)]
noncomputable def o110 (_:Params):Obj:=⟨(.type "function"),none,.func (PySem.W.fnOf (Str.ofString "_law_whole") (Str.ofString "_law_whole") (defArgs (top 7)) (defBody (top 7)) (defScope (top 7)) .none .none .none (.str (S 831241226243985397815366666620828996931629173173453454527789486029955693) 295) none (.ref 109) .none), #[]⟩
noncomputable def o113 (_:Params):Obj:=tO [(.str (S 479015137796973828140384) 325),(.str (S 2258528875839108574560) 326),(.str (S 549923553395530331745632) 327),(.str (S 8678563340116716896) 328)]
noncomputable def o116 (_:Params):Obj:=cO [(.str (S 554461310576473642528096) 322),(.str (S 554461310576473642528096) 323),(.str (S 9700865007064396754801562313776) 324),(.int (73) 0),(.int (2) 0),(.int (0) 0),(.int (0) 0),(.int (3) 0),(.ref 111),(.bool true),(.int (181) 0),(.ref 112),.none,(.ref 113),(.ref 114),(.ref 115),(.int (329) 0),(.int (73) 0),(.str (S 9700865007064396754801562313776) 330)]
noncomputable def o117 (_:Params):Obj:=⟨(.type "function"),none,.func (PySem.W.fnOf (Str.ofString "_law_right") (Str.ofString "_law_right") (defArgs (top 8)) (defBody (top 8)) (defScope (top 8)) .none .none .none (.str (S 831241226243985397815366666620828996931629173173453454527789486029955693) 295) none (.ref 116) .none), #[]⟩
noncomputable def o120 (_:Params):Obj:=tO [(.str (S 8678563340116716896) 335),(.str (S 2129041382651486956896) 336)]
noncomputable def o123 (_:Params):Obj:=cO [(.str (S 488476733368916435430752) 332),(.str (S 488476733368916435430752) 333),(.str (S 9700865007064396754801562313776) 334),(.int (86) 0),(.int (2) 0),(.int (0) 0),(.int (0) 0),(.int (3) 0),(.ref 118),(.bool true),(.int (181) 0),(.ref 119),.none,(.ref 120),(.ref 121),(.ref 122),(.int (337) 0),(.int (86) 0),(.str (S 9700865007064396754801562313776) 338)]
noncomputable def o124 (_:Params):Obj:=⟨(.type "function"),none,.func (PySem.W.fnOf (Str.ofString "_law_is_of") (Str.ofString "_law_is_of") (defArgs (top 9)) (defBody (top 9)) (defScope (top 9)) .none .none .none (.str (S 831241226243985397815366666620828996931629173173453454527789486029955693) 295) none (.ref 123) .none), #[]⟩
noncomputable def o127 (_:Params):Obj:=tO [(.str (S 478774175226688602008928) 343),(.str (S 122627653410414978071162208) 344),(.str (S 2129041382651486956896) 345),(.str (S 578258548573362689568096) 346),(.str (S 119161592376672) 347),(.str (S 8675744192303099232) 348)]
noncomputable def o130 (_:Params):Obj:=cO [(.str (S 2166440394359520259424) 340),(.str (S 2166440394359520259424) 341),(.str (S 9700865007064396754801562313776) 342),(.int (88) 0),(.int (4) 0),(.int (0) 0),(.int (0) 0),(.int (3) 0),(.ref 125),(.bool true),(.int (181) 0),(.ref 126),.none,(.ref 127),(.ref 128),(.ref 129),(.int (349) 0),(.int (88) 0),(.str (S 9700865007064396754801562313776) 350)]
noncomputable def o131 (_:Params):Obj:=⟨(.type "function"),none,.func (PySem.W.fnOf (Str.ofString "_law_kept") (Str.ofString "_law_kept") (defArgs (top 10)) (defBody (top 10)) (defScope (top 10)) .none .none .none (.str (S 831241226243985397815366666620828996931629173173453454527789486029955693) 295) none (.ref 130) .none), #[]⟩
noncomputable def o134 (_:Params):Obj:=tO [(.str (S 478774175226688602008928) 355),(.str (S 122627653410414978071162208) 356),(.str (S 2129041382651486956896) 357),(.str (S 119161592376672) 358)]
noncomputable def o137 (_:Params):Obj:=cO [(.str (S 1870503807290540453216) 352),(.str (S 1870503807290540453216) 353),(.str (S 9700865007064396754801562313776) 354),(.int (102) 0),(.int (3) 0),(.int (0) 0),(.int (0) 0),(.int (3) 0),(.ref 132),(.bool true),(.int (181) 0),(.ref 133),.none,(.ref 134),(.ref 135),(.ref 136),(.int (359) 0),(.int (102) 0),(.str (S 9700865007064396754801562313776) 360)]
noncomputable def o138 (_:Params):Obj:=⟨(.type "function"),none,.func (PySem.W.fnOf (Str.ofString "_law_used") (Str.ofString "_law_used") (defArgs (top 11)) (defBody (top 11)) (defScope (top 11)) .none .none .none (.str (S 831241226243985397815366666620828996931629173173453454527789486029955693) 295) none (.ref 137) .none), #[]⟩
noncomputable def o141 (_:Params):Obj:=tO [(.str (S 478774175226688602008928) 365),(.str (S 122627653410414978071162208) 366),(.str (S 2129041382651486956896) 367),(.str (S 531954870560015425272030216522460512) 368),(.str (S 119161592376672) 369),(.str (S 8678563340116716896) 370),(.str (S 2147203827103114095968) 371)]
noncomputable def o144 (_:Params):Obj:=cO [(.str (S 131038410202151457438985568) 362),(.str (S 131038410202151457438985568) 363),(.str (S 9700865007064396754801562313776) 364),(.int (107) 0),(.int (4) 0),(.int (0) 0),(.int (0) 0),(.int (3) 0),(.ref 139),(.bool true),(.int (181) 0),(.ref 140),.none,(.ref 141),(.ref 142),(.ref 143),(.int (372) 0),(.int (107) 0),(.str (S 9700865007064396754801562313776) 373)]
noncomputable def o145 (_:Params):Obj:=⟨(.type "function"),none,.func (PySem.W.fnOf (Str.ofString "_law_struck") (Str.ofString "_law_struck") (defArgs (top 12)) (defBody (top 12)) (defScope (top 12)) .none .none .none (.str (S 831241226243985397815366666620828996931629173173453454527789486029955693) 295) none (.ref 144) .none), #[]⟩
noncomputable def o148 (_:Params):Obj:=tO [(.str (S 2000350444956258823520) 378),(.str (S 1871007083449387478368) 379),(.str (S 2129041382651486956896) 380),(.str (S 2166655442341238828384) 381),(.str (S 479015137796973828140384) 382),(.str (S 7383200104131489120) 383),(.str (S 8678563340116716896) 384)]
noncomputable def o151 (_:Params):Obj:=cO [(.str (S 2054967305178938764640) 375),(.str (S 2054967305178938764640) 376),(.str (S 9700865007064396754801562313776) 377),(.int (113) 0),(.int (4) 0),(.int (0) 0),(.int (0) 0),(.int (3) 0),(.ref 146),(.bool true),(.int (181) 0),(.ref 147),.none,(.ref 148),(.ref 149),(.ref 150),(.int (385) 0),(.int (113) 0),(.str (S 9700865007064396754801562313776) 386)]
noncomputable def o152 (_:Params):Obj:=⟨(.type "function"),none,.func (PySem.W.fnOf (Str.ofString "_law_seen") (Str.ofString "_law_seen") (defArgs (top 13)) (defBody (top 13)) (defScope (top 13)) .none .none .none (.str (S 831241226243985397815366666620828996931629173173453454527789486029955693) 295) none (.ref 151) .none), #[]⟩
noncomputable def o156 (_:Params):Obj:=cO [(.str (S 7889517) 388),(.str (S 7889517) 389),(.str (S 9700865007064396754801562313776) 390),(.int (124) 0),(.int (1) 0),(.int (0) 0),(.int (0) 0),(.int (3) 0),(.ref 153),(.bool true),(.int (181) 0),(.ref 154),.none,.none,.none,(.ref 155),(.int (391) 0),(.int (124) 0),(.str (S 9700865007064396754801562313776) 392)]
noncomputable def o157 (_:Params):Obj:=⟨(.type "function"),none,.func (PySem.W.fnOf (Str.ofString "law") (Str.ofString "law") (defArgs (top 14)) (defBody (top 14)) (defScope (top 14)) .none .none .none (.str (S 831241226243985397815366666620828996931629173173453454527789486029955693) 295) none (.ref 156) .none), #[]⟩
noncomputable def Kf:Params→PySem.W.Frag:=fun P=>(nat_lit 2,o2 P)::(nat_lit 3,o3 P)::(nat_lit 15,o15 P)::(nat_lit 17,o17 P)::(nat_lit 18,o15 P)::(nat_lit 20,o20 P)::(nat_lit 21,o21 P)::(nat_lit 29,o15 P)::(nat_lit 31,o31 P)::(nat_lit 32,o15 P)::(nat_lit 34,o34 P)::(nat_lit 35,o35 P)::(nat_lit 36,o15 P)::(nat_lit 38,o38 P)::(nat_lit 39,o15 P)::(nat_lit 41,o41 P)::(nat_lit 42,o42 P)::(nat_lit 43,o15 P)::(nat_lit 45,o45 P)::(nat_lit 46,o15 P)::(nat_lit 48,o48 P)::(nat_lit 49,o49 P)::(nat_lit 50,o15 P)::(nat_lit 52,o52 P)::(nat_lit 53,o15 P)::(nat_lit 55,o55 P)::(nat_lit 56,o56 P)::(nat_lit 57,o15 P)::(nat_lit 59,o59 P)::(nat_lit 60,o15 P)::(nat_lit 62,o62 P)::(nat_lit 63,o63 P)::(nat_lit 64,o15 P)::(nat_lit 66,o66 P)::(nat_lit 67,o15 P)::(nat_lit 69,o69 P)::(nat_lit 70,o70 P)::(nat_lit 71,o15 P)::(nat_lit 73,o73 P)::(nat_lit 74,o15 P)::(nat_lit 76,o76 P)::(nat_lit 77,o77 P)::(nat_lit 78,o15 P)::(nat_lit 81,o81 P)::(nat_lit 82,o82 P)::(nat_lit 83,o83 P)::(nat_lit 84,o84 P)::(nat_lit 85,o85 P)::(nat_lit 86,o86 P)::(nat_lit 87,o87 P)::(nat_lit 90,o15 P)::(nat_lit 92,o92 P)::(nat_lit 93,o15 P)::(nat_lit 95,o95 P)::(nat_lit 96,o96 P)::(nat_lit 97,o15 P)::(nat_lit 99,o99 P)::(nat_lit 100,o15 P)::(nat_lit 102,o102 P)::(nat_lit 103,o103 P)::(nat_lit 104,o15 P)::(nat_lit 106,o106 P)::(nat_lit 107,o15 P)::(nat_lit 109,o109 P)::(nat_lit 110,o110 P)::(nat_lit 111,o15 P)::(nat_lit 113,o113 P)::(nat_lit 114,o15 P)::(nat_lit 116,o116 P)::(nat_lit 117,o117 P)::(nat_lit 118,o15 P)::(nat_lit 120,o120 P)::(nat_lit 121,o15 P)::(nat_lit 123,o123 P)::(nat_lit 124,o124 P)::(nat_lit 125,o15 P)::(nat_lit 127,o127 P)::(nat_lit 128,o15 P)::(nat_lit 130,o130 P)::(nat_lit 131,o131 P)::(nat_lit 132,o15 P)::(nat_lit 134,o134 P)::(nat_lit 135,o15 P)::(nat_lit 137,o137 P)::(nat_lit 138,o138 P)::(nat_lit 139,o15 P)::(nat_lit 141,o141 P)::(nat_lit 142,o15 P)::(nat_lit 144,o144 P)::(nat_lit 145,o145 P)::(nat_lit 146,o15 P)::(nat_lit 148,o148 P)::(nat_lit 149,o15 P)::(nat_lit 151,o151 P)::(nat_lit 152,o152 P)::(nat_lit 153,o15 P)::(nat_lit 156,o156 P)::(nat_lit 157,o157 P)::[]
noncomputable def Kc (P:Params):List (Option Obj):=(Kf P).map fun p=>some p.2
noncomputable def adr:List Addr:=2::3::15::17::18::20::21::29::31::32::34::35::36::38::39::41::42::43::45::46::48::49::50::52::53::55::56::57::59::60::62::63::64::66::67::69::70::71::73::74::76::77::78::81::82::83::84::85::86::87::90::92::93::95::96::97::99::100::102::103::104::106::107::109::110::111::113::114::116::117::118::120::121::123::124::125::127::128::130::131::132::134::135::137::138::139::141::142::144::145::146::148::149::151::152::153::156::157::[]
noncomputable def _root_.PySem.W.Fast.tw2978598463251682248:Params→PySem.W.Frag:=Kf
theorem _root_.PySem.W.Fast.te2978598463251682248:@Eq (Params→PySem.W.Frag) Kf _root_.PySem.W.Fast.tw2978598463251682248:=rfl
noncomputable def _root_.PySem.W.Fast.tw178197174607172993:List Addr:=adr
theorem _root_.PySem.W.Fast.te178197174607172993:@Eq (List Addr) adr _root_.PySem.W.Fast.tw178197174607172993:=rfl
theorem afn (P:Params):adr=(Kf P).map (·.1):=by kernel_rfl
theorem kc_eq (P:Params):Kc P=(Kf P).map fun p=>some p.2:=rfl
noncomputable def vw:Program:=PySem.W.view PySem.Challenge.pw_frameland_k36_book_any_row [1,3,5,6,7,8,9,10,11,12,13,14]
noncomputable def lhs:=once PySem.Challenge.pw_frameland_k36_book_any_row (fun s=>adr.map s.heap.get?) 1780
noncomputable def rhs (w:World):=some (true,Kc w.params)
noncomputable def lht:=seen PySem.Challenge.pw_frameland_k36_book_any_row vw [] (fun s=>PySem.W.xlAt vw [] s&&PySem.W.recOk (PySem.W.RowW.records (PySem.Challenge.rw_frameland_k36_book_any_row).row.toRowW) s) 1780
noncomputable def rht:=some (PySem.W.openGood vw [])
theorem twins:(fun (_:World→OsState→_) (_:World→_) (_:World→OsState→_) (_:Option _)=>true) lhs rhs lht rht=true:=by k_qdec
theorem amr:∀(w:World) (os:OsState),PySem.W.Fast.tw7128866508377749982 w os=PySem.W.Fast.tw12590348191598281069 w:=by intro w os;kernel_rfl
theorem ams:∀(w:World) (os:OsState),PySem.W.Fast.tw7374437481920917934 w os=PySem.W.Fast.tw10733892774512676622:=by intro w os;kernel_rfl
theorem left:PySem.W.LeftO PySem.Challenge.pw_frameland_k36_book_any_row vw [] (fun s=>PySem.W.xlAt vw [] s&&PySem.W.recOk (PySem.W.RowW.records (PySem.Challenge.rw_frameland_k36_book_any_row).row.toRowW) s) (fun s=>adr.map s.heap.get?) (fun w=>(Kf w.params).map fun p=>some p.2) (1780):=by
 refine aiu (by kernel_rfl) (by kernel_rfl) (by intro s;kernel_rfl) (fun w os=>?_) fun w os=>?_
 ·rw[←kc_eq];exact (congrFun (congrFun PySem.W.Fast.te7128866508377749982 w) os).trans ((amr w os).trans (congrFun PySem.W.Fast.te12590348191598281069 w).symm)
 ·exact (congrFun (congrFun PySem.W.Fast.te7374437481920917934 w) os).trans ((ams w os).trans PySem.W.Fast.te10733892774512676622.symm)
end
end Pf
open PySem PySem.W PyProof.Rows
set_option maxRecDepth 100000 in
set_option maxHeartbeats 0 in
theorem PySem.Challenge.cw_frameland_k36_book_any_row_holds : PySem.Challenge.rw_frameland_k36_book_any_row.Holds := by
 w_on;o_law
 refine holds_open (q:=Pf.vw) (loose:=[]) (Xt:=fun s=>xlAt Pf.vw [] s&&recOk (RowW.records (PySem.Challenge.rw_frameland_k36_book_any_row).row.toRowW) s) (XP:=XL Pf.vw []) (Yf:=Hook.obs (kHook Pf.Kf Pf.adr Pf.afn)) (Ya:=Hook.val (kHook Pf.Kf Pf.adr Pf.afn)) (YP:=Hook.says (kHook Pf.Kf Pf.adr Pf.afn)) (N:=(1780)) Pf.left (Hook.of (kHook Pf.Kf Pf.adr Pf.afn)) (Hook.keeps (kHook Pf.Kf Pf.adr Pf.afn)) (fun s e=>xl_of s (Bool.and_eq_true_iff.mp e).1) XL.keeps (by rfl) (by rfl) (by rfl) (fun s e=>recFacts_of (Bool.and_eq_true_iff.mp e).2) (by rfl) (by first|assumption|decide+kernel) (by decide+kernel) ⟨rfl,rfl,rfl,rfl,rfl,by decide+kernel⟩ ?hw ?hc
 case hw=>w_witness2
 k_fill
 refine Pf.walk (l:=PySem.Challenge.rw_frameland_k36_book_any_row) rfl rfl rfl (fun w h Y=>PySem.W.kIn_of Y) ?F
 case F=>
  intro w mg h KX G
  refine' Pf.txt_mk KX G ?_ ?_ ?_ ?_ ?_ ?_ ?_ ?_ ?_ ?_ ?_ (.mk ?_ ?_ ?_ ?_) (.mk ?_ ?_ ?_ ?_) (.mk ?_ ?_ ?_ ?_) (.mk ?_ ?_ ?_ ?_) (.mk ?_ ?_ ?_ ?_) (.mk ?_ ?_ ?_ ?_) (.mk ?_ ?_ ?_ ?_) (.mk ?_ ?_ ?_ ?_) (.mk ?_ ?_ ?_ ?_) (.mk ?_ ?_ ?_ ?_) ⟨?_,?_,?_,?_⟩ ?_ ?_ ?_ (.mk ?_ ?_ ?_ ?_ ?_ ?_ ?_) (.mk ?_ ?_ ?_ ?_ ?_) (.mk ?_ ?_ ?_ ?_ ?_) (.mk ?_ ?_ ?_ ?_ ?_) (.mk ?_ ?_ ?_ ?_ ?_) (.mk ?_ ?_ ?_ ?_ ?_) (.mk ?_ ?_ ?_ ?_ ?_) (.mk ?_ ?_ ?_ ?_ ?_) (.mk ?_ ?_ ?_ ?_)
  all_goals first|k_is|skip
