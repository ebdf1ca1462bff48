import PyProof.Rows.All
import Wide.All
import OpenK.AllK
import Wide.FinOn
import Lean
import PyProof.EqAt
import PyProof.EqKinds
import PyProof.TupleCall
import PyProof.NeKinds
import PyProof.EnumMake
import PyProof.EnumStmt
import PyProof.LayNew
import KE.KDictLaws
import KE.KDictSum
import KE.LcSums
import PyProof.Rows.SumAny
import PyProof.Rows.SortWalk
import PyProof.DictWalks
import PyProof.Rows.SortRev
import KE.KRevIter
import KE.KIntText
import PyProof.CallStr
import PyProof.StrCalls2
import PyProof.Rows.StrJoin2
import PyProof.StrWalks
import PyProof.Rows.Range3
import PyProof.ZipIter
import PySem.Challenge.RW_frameland_k96_rows_shown
set_option Elab.async false
set_option linter.all false
set_option maxRecDepth 100000
namespace L2
open PySem PySem.Spec PyProof.Rows
abbrev Key := Sum Int Str
def keyIs : Key → Value → Bool
  | .inl k, v => Value.isInt k v
  | .inr x, v => Value.isStrOf x v
def keyH (w : World) : Key → Int
  | .inl k => hashInt k
  | .inr x => hashStr w x
theorem keyIs_shape : ∀ {k : Key} {v : Value}, keyIs k v = true → (∃ i t, k = Sum.inl i ∧ v = Value.int i t) ∨ (∃ x t, k = Sum.inr x ∧ v = Value.str x t)
  | .inl i, v, h => by
    obtain ⟨t, e⟩ := Value.isInt_shape (k := i) (v := v) h
    exact .inl ⟨i, t, rfl, e⟩
  | .inr x, v, h => by
    obtain ⟨t, e⟩ := Value.isStrOf_shape (x := x) (v := v) h
    exact .inr ⟨x, t, rfl, e⟩
theorem key_ll (a b : Int) : decide ((Sum.inl a : Key) = Sum.inl b) = (a == b) := by
  by_cases e : a = b
  · subst e; simp
  · have h : ¬ (Sum.inl a : Key) = Sum.inl b := fun q => e (Sum.inl.inj q)
    rw [decide_eq_false h]
    exact (beq_eq_false_iff_ne.mpr e).symm
theorem key_rr (a b : Str) : decide ((Sum.inr a : Key) = Sum.inr b) = decide (a = b) := by
  by_cases e : a = b
  · subst e; simp
  · have h : ¬ (Sum.inr a : Key) = Sum.inr b := fun q => e (Sum.inr.inj q)
    rw [decide_eq_false h, decide_eq_false e]
theorem key_lr (a : Int) (b : Str) : decide ((Sum.inl a : Key) = Sum.inr b) = false := decide_eq_false (fun q => nomatch q)
theorem key_rl (a : Str) (b : Int) : decide ((Sum.inr a : Key) = Sum.inl b) = false := decide_eq_false (fun q => nomatch q)
def mixKind (prog : Program) (w : World) : PySem.KeyKind prog w Key where
  is := keyIs
  hash := keyH w
  inj := fun v a b ha hb => by
    rcases keyIs_shape ha with ⟨i, t, rfl, rfl⟩ | ⟨x, t, rfl, rfl⟩
    · rcases keyIs_shape hb with ⟨j, u, rfl, e⟩ | ⟨y, u, rfl, e⟩
      · injection e with e1 _; rw [e1]
      · exact nomatch e
    · rcases keyIs_shape hb with ⟨j, u, rfl, e⟩ | ⟨y, u, rfl, e⟩
      · exact nomatch e
      · injection e with e1 _; rw [e1]
  byValue := fun k v h => by
    rcases keyIs_shape h with ⟨i, t, rfl, rfl⟩ | ⟨x, t, rfl, rfl⟩ <;> rfl
  pyHash := fun hv h => by
    rcases keyIs_shape hv with ⟨i, t, rfl, rfl⟩ | ⟨x, t, rfl, rfl⟩
    · exact wpAny_pyHash_int h
    · exact wpAny_pyHash_str h
  eqBool := fun hu hv h => by
    rcases keyIs_shape hu with ⟨i, t, rfl, rfl⟩ | ⟨x, t, rfl, rfl⟩
    · rcases keyIs_shape hv with ⟨j, u, rfl, rfl⟩ | ⟨y, u, rfl, rfl⟩
      · rw [key_ll] at h; exact wpAny_eqBool_int h
      · rw [key_lr] at h; exact SeqAt.EqAt.int_str i t y u _ _ _ _ h
    · rcases keyIs_shape hv with ⟨j, u, rfl, rfl⟩ | ⟨y, u, rfl, rfl⟩
      · rw [key_rl] at h; exact SeqAt.EqAt.str_int x t j u _ _ _ _ h
      · rw [key_rr] at h; exact wpAny_eqBool_str h
  «strs» := fun k x t v h => by
    rcases keyIs_shape h with ⟨i, u, rfl, e⟩ | ⟨y, u, rfl, e⟩
    · exact nomatch e
    · injection e with e1 _
      subst e1
      cases v <;> rfl
end L2
namespace L2
open PySem PySem.Spec PyProof.Rows
inductive V where
  | non | bl (b : Bool) | int (i : Int) | str (x : Str) | byt (b : Array UInt8) | flt (b : UInt64) | ref (a : Addr) | ty (n : String)
  deriving DecidableEq
def RelV : V → Value → Prop
  | .non, u => u = Value.none
  | .bl b, u => u = Value.bool b
  | .int i, u => ∃ t, u = Value.int i t
  | .str x, u => ∃ t, u = Value.str x t
  | .byt b, u => ∃ t, u = Value.bytes b t
  | .flt b, u => ∃ t, u = Value.float b t
  | .ref a, u => u = Value.ref a
  | .ty n, u => u = Value.type n
abbrev Vals : List V → List Value → Prop := Paired RelV
theorem Vals.length {xs : List V} {us : List Value} (r : Vals xs us) : xs.length = us.length := Paired.length r
theorem Vals.get : ∀ {xs : List V} {us : List Value} {i : Nat} {x : V}, Vals xs us → xs[i]? = some x → ∃ u, us[i]? = some u ∧ RelV x u
  | _, _, _, _, .nil, e => by simp at e
  | _, _, 0, _, .cons r _, e => by simp at e; subst e; exact ⟨_, rfl, r⟩
  | _, _, i + 1, x, .cons _ t, e => by
    obtain ⟨u, h1, h2⟩ := Vals.get (i := i) (x := x) t (by simpa using e)
    exact ⟨u, by simpa using h1, h2⟩
theorem Vals.set {x : V} {u : Value} (r : RelV x u) : ∀ {xs : List V} {us : List Value} (i : Nat), Vals xs us → Vals (xs.set i x) (us.set i u)
  | _, _, _, .nil => .nil
  | _, _, 0, .cons _ t => .cons r t
  | _, _, i + 1, .cons q t => .cons q (Vals.set r i t)
theorem Vals.append : ∀ {xs ys : List V} {us ws : List Value}, Vals xs us → Vals ys ws → Vals (xs ++ ys) (us ++ ws)
  | _, _, _, _, .nil, s => s
  | _, _, _, _, .cons r t, s => .cons r (Vals.append t s)
theorem Vals.take : ∀ {xs : List V} {us : List Value} (n : Nat), Vals xs us → Vals (xs.take n) (us.take n)
  | _, _, 0, _ => .nil
  | _, _, _ + 1, .nil => .nil
  | _, _, n + 1, .cons r t => .cons r (Vals.take n t)
theorem Vals.drop : ∀ {xs : List V} {us : List Value} (n : Nat), Vals xs us → Vals (xs.drop n) (us.drop n)
  | _, _, 0, r => r
  | _, _, _ + 1, .nil => .nil
  | _, _, n + 1, .cons _ t => Vals.drop n t
def RelO : Option V → Option Value → Prop
  | some v, some u => RelV v u
  | none, none => True
  | _, _ => False
def KV {κ : Type} : List (κ × V) → List (κ × Value) → Prop := Paired fun (p : κ × V) (q : κ × Value) => p.1 = q.1 ∧ RelV p.2 q.2
def kV : Key → V
  | .inl i => .int i
  | .inr x => .str x
inductive HO where
    | lst (xs : List V)
    | tup (xs : List V)
    | dK (kvs : List (Key × V)) | dT (kvs : List (List Key × V))
    | set (S : Int → Bool) (n : Nat)
    | ins (C dx : Addr) (fs : List (Str × V))
    | own (x : Addr)
    | xd (fs : List (Str × V))
    | met (f x : Addr)
    | rng (lo hi : Int)
    | frz (o : Obj) (u : HO)
    | tbl (ps : Array Value)
    | ext (φ : Heap → Prop)
abbrev Hp := Addr → Option HO
def upd (H : Hp) (a : Addr) (o : HO) : Hp := fun b => if b = a then some o else H b
theorem upd_same {H : Hp} {a : Addr} {o : HO} : upd H a o a = some o := by unfold upd; rw [if_pos rfl]
theorem upd_ne {H : Hp} {a b : Addr} {o : HO} (h : b ≠ a) : upd H a o b = H b := by unfold upd; rw [if_neg h]
theorem ne_of_none {H : Hp} {a b : Addr} {o : HO} (h : H a = some o) (h' : H b = none) : a ≠ b := by
  intro e; subst e; rw [h] at h'; cases h'
section
variable (P : Program) (w : World)
def ObjOk (H : Hp) (h : Heap) (a : Addr) : HO → Prop
  | .lst xs => xs.length ≤ sizeLine ∧ ∃ (its : List Value) (n : Nat), Vals xs its ∧ h.get? a = some { cls := .type "list", data := .seq its.toArray n }
  | .tup xs => xs.length ≤ sizeLine ∧ ∃ its : List Value, Vals xs its ∧ IsTup h a its.toArray
  | .dK kvs => kvs.length ≤ sizeLine ∧ (a == sysModules) = false ∧ ∃ vs, KV kvs vs ∧ h.DictOf (mixKind P w) a vs
  | .dT kvs => kvs.length ≤ sizeLine ∧ (a == sysModules) = false ∧ ∃ xs : List (List Key × Addr × Value),
      Paired (fun (p : List Key × V) (q : List Key × Addr × Value) => p.1 = q.1 ∧ H q.2.1 = some (.tup (p.1.map kV)) ∧ RelV p.2 q.2.2) kvs xs ∧
      ∃ o es ep, h.get? a = some o ∧ o.ExactDict ∧ o.data = .dict es ep ∧ es.toList = xs.map (entryOfKey (tupleKind (mixKind P w))) ∧ (xs.map (·.1)).Nodup
  | .set S n => h.SetOf (intKind P w) a S n
  | .ins C dx fs => H dx = some (.own a) ∧ fs.length ≤ 1000 ∧ dx ≠ a ∧ h.get? a = some (PySem.W.instObj C dx) ∧
      ∃ mA, h.Ns1 dx mA ∧ (∀ f, RelO (fs.lookup f) (mA f)) ∧ PySem.Within mA (fs.map (·.1))
  | .own _ => ∃ o, h.get? a = some o
  | .xd fs => ∃ mA, h.Ns1 a mA ∧ ∀ f, RelO (fs.lookup f) (mA f)
  | .rng lo hi => ∃ t u v, h.get? a = some { cls := .type "range", data := .fields #[.int lo t, .int hi u, .int 1 v] }
  | .frz o u => h.get? a = some o ∧ ObjOk H h a u
  | .tbl ps => h.get? a = some { cls := .none, data := .fields ps }
  | .met f x => h.get? a = some (PySem.W.methodObj (.ref f) (.ref x))
  | .ext φ => φ h ∧ (∃ o, h.get? a = some o) ∧ ∀ h1 h2 : Heap, φ h1 → (∀ o, h1.get? a = some o → h2.get? a = some o) → φ h2
def HOk (H : Hp) (h : Heap) : Prop := ∀ a o, H a = some o → ObjOk P w H h a o
end
section
variable {P : Program} {w : World} {H H' : Hp} {h h' : Heap} {a : Addr} {o : HO}
theorem ObjOk.lt (x : ObjOk P w H h a o) : a < h.objs.size := by
  cases o with
  | lst xs => obtain ⟨_, _, _, _, e⟩ := x; exact Heap.lt_size e
  | tup xs => obtain ⟨_, _, _, p⟩ := x; exact p.lt
  | dK kvs => obtain ⟨_, _, _, _, o, _, _, e, _⟩ := x; exact Heap.lt_size e
  | dT kvs => obtain ⟨_, _, _, _, o, _, _, e, _⟩ := x; exact Heap.lt_size e
  | set S n => obtain ⟨o, _, _, _, e, _⟩ := x; exact Heap.lt_size e
  | ins C dx fs => obtain ⟨_, _, _, e, _⟩ := x; exact Heap.lt_size e
  | own y => obtain ⟨_, e⟩ := x; exact Heap.lt_size e
  | xd fs => obtain ⟨_, ⟨_, _, _, e, _⟩, _⟩ := x; exact Heap.lt_size e
  | rng lo hi => obtain ⟨_, _, _, e⟩ := x; exact Heap.lt_size e
  | frz ob u => obtain ⟨e, _⟩ := x; exact Heap.lt_size e
  | tbl ps => exact Heap.lt_size (show h.get? a = some _ from x)
  | met f y => exact Heap.lt_size (show h.get? a = some _ from x)
  | ext φ => obtain ⟨_, ⟨_, e⟩, _⟩ := x; exact Heap.lt_size e
theorem Paired.mapP {α β : Type} {F G : α → β → Prop} : ∀ {l₁ : List α} {l₂ : List β}, Paired F l₁ l₂ → (∀ a b, F a b → G a b) → Paired G l₁ l₂
  | _, _, .nil, _ => .nil
  | _, _, .cons r t, f => .cons (f _ _ r) (Paired.mapP t f)
theorem ObjOk.stay (x : ObjOk P w H h a o) (k : ∀ b u, (b = a ∨ H b = some (.own a)) → h.get? b = some u → h'.get? b = some u)
    (ho : ∀ b, H b = some (.own a) → H' b = some (.own a)) (ht : ∀ b xs, H b = some (.tup xs) → H' b = some (.tup xs)) : ObjOk P w H' h' a o := by
  induction o with
  | lst xs => obtain ⟨z, its, n, r, e⟩ := x; exact ⟨z, its, n, r, k _ _ (.inl rfl) e⟩
  | tup xs => obtain ⟨z, its, r, ob, e, c⟩ := x; exact ⟨z, its, r, ob, k _ _ (.inl rfl) e, c⟩
  | dK kvs => obtain ⟨z, y, vs, r, ob, es, ep, e, c⟩ := x; exact ⟨z, y, vs, r, ob, es, ep, k _ _ (.inl rfl) e, c⟩
  | dT kvs =>
    obtain ⟨z, y, xs, r, ob, es, ep, e, c⟩ := x
    exact ⟨z, y, xs, Paired.mapP r fun p q z => ⟨z.1, ht _ _ z.2.1, z.2.2⟩, ob, es, ep, k _ _ (.inl rfl) e, c⟩
  | set S n => obtain ⟨ob, es, ep, t, e, c⟩ := x; exact ⟨ob, es, ep, t, k _ _ (.inl rfl) e, c⟩
  | ins C dx fs =>
    obtain ⟨d, z, ne, e, mA, ⟨od, es, ep, e2, c⟩, r⟩ := x
    exact ⟨ho _ d, z, ne, k _ _ (.inl rfl) e, mA, ⟨od, es, ep, k _ _ (.inr d) e2, c⟩, r⟩
  | own y => obtain ⟨ob, e⟩ := x; exact ⟨ob, k _ _ (.inl rfl) e⟩
  | xd fs => obtain ⟨mA, ⟨od, es, ep, e, c⟩, r⟩ := x; exact ⟨mA, ⟨od, es, ep, k _ _ (.inl rfl) e, c⟩, r⟩
  | rng lo hi => obtain ⟨t, u, v, e⟩ := x; exact ⟨t, u, v, k _ _ (.inl rfl) e⟩
  | frz ob u ih => obtain ⟨e, q⟩ := x; exact ⟨k _ _ (.inl rfl) e, ih q⟩
  | tbl ps =>
    have e : h.get? a = some { cls := .none, data := .fields ps } := x
    show h'.get? a = some { cls := .none, data := .fields ps }
    exact k a _ (.inl rfl) e
  | met f y =>
    have e : h.get? a = some (PySem.W.methodObj (.ref f) (.ref y)) := x
    show h'.get? a = some (PySem.W.methodObj (.ref f) (.ref y))
    exact k a _ (.inl rfl) e
  | ext φ => obtain ⟨p, ⟨o, e⟩, st⟩ := x; exact ⟨st _ _ p fun o q => k _ _ (.inl rfl) q, ⟨o, k _ _ (.inl rfl) e⟩, st⟩
theorem HOk.lt (x : HOk P w H h) (e : H a = some o) : a < h.objs.size := (x a o e).lt
theorem HOk.fresh (x : HOk P w H h) (e : h.objs.size ≤ a) : H a = none := by
  cases q : H a with
  | none => rfl
  | some u => exact absurd (Nat.lt_of_lt_of_le (x.lt q) e) (Nat.lt_irrefl _)
theorem HOk.kept (x : HOk P w H h) (k : ∀ b u, h.get? b = some u → h'.get? b = some u) : HOk P w H h' := fun a o e =>
  (x a o e).stay (fun b u _ q => k b u q) (fun _ q => q) fun _ _ q => q
theorem HOk.laid (x : HOk P w H h) (k : ∀ b u, h.get? b = some u → h'.get? b = some u) (hp : h.objs.size ≤ a) (new : ObjOk P w (upd H a o) h' a o) : HOk P w (upd H a o) h' := fun b u e => by
  have hn := x.fresh hp
  by_cases hb : b = a
  · subst hb; rw [upd_same] at e; cases e; exact new
  · rw [upd_ne hb] at e
    exact (x b u e).stay (fun c v _ q => k c v q) (fun c q => by rw [upd_ne (ne_of_none q hn)]; exact q) fun c xs q => by rw [upd_ne (ne_of_none q hn)]; exact q
end
def Rd (H : Hp) (a : Addr) (u : HO) : Prop := H a = some u ∨ ∃ o, H a = some (.frz o u)
theorem Rd.of {H : Hp} {a : Addr} {u : HO} (h : H a = some u) : Rd H a u := .inl h
theorem Rd.ok {P : Program} {w : World} {H : Hp} {h : Heap} {a : Addr} {u : HO} (r : Rd H a u) (x : HOk P w H h) : ObjOk P w H h a u := by
  rcases r with r | ⟨o, r⟩
  · exact x a u r
  · obtain ⟨_, q⟩ := x a _ r
    exact q
def Mut : Option HO → Prop
  | some (.lst _) => True
  | some (.dK _) => True
  | some (.dT _) => True
  | some (.set _ _) => True
  | some (.ins _ _ _) => True
  | some (.ext _) => True
  | _ => False
section
variable {P : Program} {w : World} {H : Hp} {h h' : Heap} {x e : Addr} {o' : HO}
theorem HOk.write (ok : HOk P w H h) (mu : Mut (H x)) (he : e = x ∨ H e = some (.own x)) (k : ∀ b u, b ≠ e → h.get? b = some u → h'.get? b = some u) (heo : ∃ u, h'.get? e = some u)
    (new : ObjOk P w (upd H x o') h' x o') : HOk P w (upd H x o') h' := fun b u q => by
  have nown : ∀ c y, H c = some (.own y) → c ≠ x := fun c y r z => by subst z; rw [r] at mu; exact mu
  have ntup : ∀ c xs, H c = some (.tup xs) → c ≠ x := fun c xs r z => by subst z; rw [r] at mu; exact mu
  by_cases hb : b = x
  · subst hb; rw [upd_same] at q; cases q; exact new
  · rw [upd_ne hb] at q
    by_cases hbe : b = e
    · have q' : H b = some (.own x) := by
        rcases he with z | z
        · exact absurd (hbe.trans z) hb
        · rw [hbe]; exact z
      rw [q] at q'; cases q'
      obtain ⟨v, hv⟩ := heo
      exact ⟨v, by rw [hbe]; exact hv⟩
    · refine (ok b u q).stay (fun c v hc r => k c v ?_ r) (fun c r => by rw [upd_ne (nown c b r)]; exact r) fun c xs r => by rw [upd_ne (ntup c xs r)]; exact r
      rcases hc with rfl | hc
      · exact hbe
      · rintro rfl
        rcases he with z | z
        · exact nown c b hc z
        · rw [hc] at z; cases z; exact hb rfl
end
structure Un (fs ex : List Addr) (H H' : Hp) (h h' : Heap) : Prop where
  keep : ∀ b o, h.get? b = some o → H b = none → b ∉ fs → b ∉ ex → h'.get? b = some o
  slot : ∀ b o, h.get? b = some o → H b = none → b ∈ fs → b ∉ ex → ∃ sl, h'.get? b = some { o with slots := sl }
  free : ∀ b o, h.get? b = some o → H b = none → b ∉ ex → H' b = none
  there : ∀ b o, h.get? b = some o → b ∉ ex → ∃ o', h'.get? b = some o'
  tups : ∀ b xs, H b = some (.tup xs) → H' b = some (.tup xs)
  frzs : ∀ b o u, H b = some (.frz o u) → H' b = some (.frz o u)
  tbls : ∀ b ps, H b = some (.tbl ps) → ∃ more, H' b = some (.tbl (ps ++ more))
section
variable {fs fs' ex ex' : List Addr} {H H1 H2 : Hp} {h h1 h2 h' : Heap} {a x e : Addr} {o : HO}
theorem Un.any (u : Un fs ex H H1 h h1) {b : Addr} {ob : Obj} (q : h.get? b = some ob) (n : H b = none) (hx : b ∉ ex) : ∃ sl, h1.get? b = some { ob with slots := sl } := by
  by_cases hb : b ∈ fs
  · exact u.slot b ob q n hb hx
  · exact ⟨ob.slots, u.keep b ob q n hb hx⟩
theorem Un.kept (k : ∀ b u, h.get? b = some u → h'.get? b = some u) : Un fs ex H H h h' :=
  ⟨fun b ob q _ _ _ => k b ob q, fun b ob q _ _ _ => ⟨ob.slots, k b ob q⟩, fun _ _ _ n _ => n, fun b ob q _ => ⟨ob, k b ob q⟩, fun _ _ q => q, fun _ _ _ q => q, fun _ ps q => ⟨#[], by rw [q]; simp⟩⟩
theorem Un.refl : Un fs ex H H h h := Un.kept fun _ _ q => q
theorem Un.laid (k : ∀ b u, h.get? b = some u → h'.get? b = some u) (hp : h.objs.size ≤ a) (hn : H a = none) : Un fs ex H (upd H a o) h h' where
  keep := fun b u q _ _ _ => k b u q
  slot := fun b u q _ _ _ => ⟨u.slots, k b u q⟩
  free := fun b u q n _ => by rw [upd_ne (Nat.ne_of_lt (Nat.lt_of_lt_of_le (Heap.lt_size q) hp))]; exact n
  there := fun b u q _ => ⟨u, k b u q⟩
  tups := fun b xs q => by rw [upd_ne (ne_of_none q hn)]; exact q
  frzs := fun b u xs q => by rw [upd_ne (ne_of_none q hn)]; exact q
  tbls := fun b ps q => ⟨#[], by rw [upd_ne (ne_of_none q hn), q]; simp⟩
theorem Un.write (mu : Mut (H x)) (he : e = x ∨ H e = some (.own x)) (k : ∀ b u, b ≠ e → h.get? b = some u → h'.get? b = some u) (heo : ∃ u, h'.get? e = some u) : Un fs ex H (upd H x o) h h' := by
  have hx : ∀ b, H b = none → b ≠ x := fun b n z => by subst z; rw [n] at mu; exact mu
  have hb : ∀ b, H b = none → b ≠ e := fun b n z => by
    subst z
    rcases he with r | r
    · exact hx b n r
    · rw [n] at r; cases r
  have hm : ∀ b u, H b = some u → ¬ Mut (some u) → b ≠ x := fun b u q nm z => by subst z; rw [q] at mu; exact nm mu
  refine ⟨fun b u q n _ _ => k b u (hb b n) q, fun b u q n _ _ => ⟨u.slots, k b u (hb b n) q⟩, fun b u q n _ => by rw [upd_ne (hx b n)]; exact n, fun b u q _ => ?_,
    fun b xs q => by rw [upd_ne (hm b _ q fun z => z)]; exact q, fun b u xs q => by rw [upd_ne (hm b _ q fun z => z)]; exact q, fun b ps q => ⟨#[], by rw [upd_ne (hm b _ q fun z => z), q]; simp⟩⟩
  by_cases hbe : b = e
  · subst hbe; exact heo
  · exact ⟨u, k b u hbe q⟩
end
def trk (h : Heap) (H : Hp) : List Addr := (List.range h.objs.size).filter fun a => (H a).isSome
def hidT (h : Heap) (H : Hp) : Heap := PySem.W.hideAll h (trk h H)
theorem hidT_size (h : Heap) (H : Hp) : (hidT h H).objs.size = h.objs.size := PySem.W.hideAll_size _ _
theorem hidT_get {h : Heap} {H : Hp} {b : Addr} {o : Obj} (e : h.get? b = some o) (n : H b = none) : (hidT h H).get? b = some o :=
  PySem.W.hideAll_get _ e fun hm => by
    have q : (H b).isSome = true := (List.mem_filter.mp hm).2
    rw [n] at q; simp at q
theorem of_hidT {h : Heap} {H : Hp} {b : Addr} {o : Obj} (e : (hidT h H).get? b = some o) : h.get? b = some o ∧ H b = none := by
  have e' : h.get? b = some o := PySem.W.of_hideAll (trk h H) e
  refine ⟨e', ?_⟩
  cases q : H b with
  | none => rfl
  | some x =>
    have hm : b ∈ trk h H := List.mem_filter.mpr ⟨List.mem_range.mpr (Heap.lt_size e'), by simp [q]⟩
    have z : (hidT h H).get? b = none := PySem.W.hideAll_none (trk h H) hm
    rw [z] at e; cases e
def allNews (g h : Heap) (L : Addr) : List (Addr × Obj) := (List.range h.objs.size).filterMap fun a => if a = L ∨ (g.get? a).isSome = true then none else (h.get? a).map fun o => (a, o)
def rest (g h : Heap) (L d : Addr) : List (Addr × Obj) := (allNews g h L).filter fun p => decide (p.1 ≠ d)
end L2
namespace L2
open PySem PySem.Spec PyProof.Rows
structure Mod (K : PySem.W.Frag) (mg : Str → Option Value) (base : Heap) : Prop where
  kin : K.In base
  glob : base.Ns mainGlobals mg
  blt : ∃ mb, base.Ns builtinsNs mb ∧ ∀ x : Str, x ≠ "__name__" → mb x = bootBuiltins x
  nolimit : base.NoLimit
structure Cx where
  prog : Program
  w : World
  K : PySem.W.Frag
  mg : Str → Option Value
  base : Heap
  A : Around
  N : List Str
  s₀ : Shared
  H₀ : Hp
  env : Env
  outer : List Env
  stack : List Env
  ex : List Addr
  fn : Str → Bool
  calm : Bool
  pn : List (Addr × Obj)
  xe : Value → Shared → Prop
def frs (l : List Env) : List Addr := l.filterMap (·.frame)
abbrev Cx.fs (X : Cx) : List Addr := frs X.outer
def Vis (sc : Scope) (x : Str) : Prop := sc.names.lookup x = some .local ∨ sc.names.lookup x = some .cell ∨ sc.names.lookup x = some .free
def Loc (sc : Scope) (x : Str) : Prop := sc.names.lookup x = some .local ∨ sc.names.lookup x = some .cell
def Look (env : Env) (h : Heap) (m : Str → Option Value) (x : Str) (u : Value) : Prop :=
  (env.kindOf x = some .local ∧ m x = some u) ∨ ((env.kindOf x = some .cell ∨ env.kindOf x = some .free) ∧ ∃ c, env.cells.lookup x = some c ∧ h.IsCell c (some u))
structure Cx.Ok (X : Cx) : Prop where
  mod : Mod X.K X.mg X.base
  kind : X.env.scope.kind = .function
  glob : X.env.globals = mainGlobals
  blt : X.env.builtins = builtinsNs
  above : X.s₀.heap.objs.size ≤ X.env.locals
  inj : ∀ x y c, X.env.cells.lookup x = some c → X.env.cells.lookup y = some c → x = y
  has : ∀ x, (X.env.kindOf x = some .cell ∨ X.env.kindOf x = some .free) → ∃ c, X.env.cells.lookup x = some c
  cab : ∀ x c, X.fn x = true → X.env.cells.lookup x = some c → X.s₀.heap.objs.size ≤ c
  hd : X.calm = true → X.A.handled = none
  frames : X.A.frames = some X.stack
  stk : X.stack = X.outer ∨ (X.stack = X.env :: X.outer ∧ X.env.frame = some X.env.locals)
  exf : ∀ b ∈ X.ex, b ≠ X.env.locals ∧ ∀ x c, X.env.cells.lookup x = some c → c ≠ b
  bs : ∀ b o, X.base.get? b = some o → X.s₀.heap.get? b = some o ∧ X.H₀ b = none
  bsz : X.base.objs.size ≤ X.s₀.heap.objs.size
  noex : ∀ b o, X.base.get? b = some o → b ∉ X.ex
  exfs : ∀ b ∈ X.ex, b ∉ X.fs
  funs : X.s₀.heap.FunFrames X.base X.outer
  frf : ∀ b ∈ X.fs, X.H₀ b = none
structure Inv (X : Cx) (pins : List (Addr × Obj)) (σ : List (Option V)) (H : Hp) (s : Shared) : Prop where
  ok : X.Ok
  os : s.os = X.s₀.os
  bare : AllBare s.gens
  base : Un X.fs X.ex X.H₀ H X.s₀.heap s.heap
  loc : ∃ m, s.heap.Ns X.env.locals m ∧ ∀ (i : Nat) (x : Str) (v : V), X.N[i]? = some x → σ[i]? = some (some v) → Vis X.env.scope x → ∃ u, RelV v u ∧ Look X.env s.heap m x u
  cell : ∀ x c, X.env.cells.lookup x = some c → ∃ v, s.heap.IsCell c v
  free : H X.env.locals = none
  freeC : ∀ x c, X.env.cells.lookup x = some c → H c = none
  pin : ∀ p ∈ X.pn ++ pins, s.heap.get? p.1 = some p.2 ∧ H p.1 = none ∧ p.1 ≠ X.env.locals ∧ p.1 ∉ X.fs ∧ ∀ v, p.2.data ≠ .cell v
  hok : HOk X.prog X.w H s.heap
  len : σ.length = X.N.length
section
variable {X : Cx} {pins : List (Addr × Obj)} {σ : List (Option V)} {H H' : Hp} {s : Shared} {h' : Heap}
theorem Cx.Ok.nofr (ok : X.Ok) {b : Addr} {o : Obj} (e : X.base.get? b = some o) : b ∉ X.fs := fun hb => by
  have := (ok.funs.mem hb).1
  rw [e] at this; cases this
theorem Inv.bs (I : Inv X pins σ H s) : ∀ b o, X.base.get? b = some o → s.heap.get? b = some o ∧ H b = none := fun b o e =>
  ⟨I.base.keep b o (I.ok.bs b o e).1 (I.ok.bs b o e).2 (I.ok.nofr e) (I.ok.noex b o e), I.base.free b o (I.ok.bs b o e).1 (I.ok.bs b o e).2 (I.ok.noex b o e)⟩
theorem Inv.bk (I : Inv X pins σ H s) : ∀ b o, X.base.get? b = some o → s.heap.get? b = some o := fun b o e => (I.bs b o e).1
theorem Inv.mod (I : Inv X pins σ H s) : Mod X.K X.mg X.base := I.ok.mod
theorem Inv.kIn (I : Inv X pins σ H s) : X.K.In s.heap := I.ok.mod.kin.keeps I.bk
theorem Inv.lt (I : Inv X pins σ H s) : X.env.locals < s.heap.objs.size := let ⟨_, hn, _⟩ := I.loc; hn.lt
theorem Inv.sz (I : Inv X pins σ H s) : X.s₀.heap.objs.size ≤ s.heap.objs.size := Nat.le_trans I.ok.above (Nat.le_of_lt I.lt)
theorem Inv.nofs (I : Inv X pins σ H s) {a : Addr} (h : s.heap.objs.size ≤ a) : a ∉ X.fs := fun hb => by
  obtain ⟨_, o, ho, _⟩ := I.ok.funs.mem hb
  exact absurd (Nat.lt_of_lt_of_le (Heap.lt_size ho) (Nat.le_trans I.sz h)) (Nat.lt_irrefl _)
theorem Inv.cne (I : Inv X pins σ H s) : ∀ x c, X.env.cells.lookup x = some c → c ≠ X.env.locals := fun x c e z => by
  obtain ⟨v, o, ho, hd⟩ := I.cell x c e
  obtain ⟨m, ⟨o', es, ep, ho', hd', _⟩, _⟩ := I.loc
  rw [z, ho'] at ho; cases ho; rw [hd'] at hd; cases hd
theorem Inv.funs (I : Inv X pins σ H s) : s.heap.FunFrames X.base X.outer := by
  have all : ∀ (l : List Env), (∀ b ∈ frs l, b ∈ X.fs) → X.s₀.heap.FunFrames X.base l → s.heap.FunFrames X.base l := by
    intro l
    induction l with
    | nil => intro _ _; trivial
    | cons env r ih =>
      intro hs hl
      obtain ⟨hk, ⟨L, o, hf, hn, ho, hd⟩, hr⟩ := hl
      have hL : L ∈ X.fs := hs L (by unfold frs; rw [List.filterMap_cons, hf]; exact List.mem_cons_self)
      obtain ⟨sl, e⟩ := I.base.slot L o ho (I.ok.frf L hL) hL fun z => I.ok.exfs L z hL
      exact ⟨hk, ⟨L, _, hf, hn, e, hd⟩, ih (fun b hb => hs b (by unfold frs; rw [List.filterMap_cons, hf]; exact List.mem_cons_of_mem _ hb)) hr⟩
  exact all X.outer (fun _ hb => hb) I.ok.funs
theorem Inv.stack (I : Inv X pins σ H s) : s.heap.FunFrames X.base X.stack := by
  rcases I.ok.stk with e | ⟨e, hf⟩
  · rw [e]; exact I.funs
  · rw [e]
    obtain ⟨m, hn, _⟩ := I.loc
    refine .cons (by rw [I.ok.kind]; decide) hf hn ?_ I.funs
    exact Heap.get?_none_of_le (Nat.le_trans I.ok.bsz I.ok.above)
theorem Inv.stkSub (I : Inv X pins σ H s) : ∀ b ∈ frs X.stack, b ∈ X.env.locals :: X.fs := fun b hb => by
  rcases I.ok.stk with e | ⟨e, hf⟩
  · rw [e] at hb; exact List.mem_cons_of_mem _ hb
  · rw [e] at hb
    unfold frs at hb
    rw [List.filterMap_cons, hf] at hb
    exact hb
theorem Inv.stkFree (I : Inv X pins σ H s) : ∀ b ∈ frs X.stack, H b = none := fun b hb => by
  rcases List.mem_cons.mp (I.stkSub b hb) with e | hb
  · rw [e]; exact I.free
  · obtain ⟨_, o, ho, _⟩ := I.ok.funs.mem hb
    exact I.base.free b o ho (I.ok.frf b hb) fun z => I.ok.exfs b z hb
theorem Inv.step {g' : Array GenState} {t' : Nat} {d' : Drawn} {ch : List Addr} (I : Inv X pins σ H s)
    (hch : ∀ b ∈ ch, (b ∈ X.ex ∨ X.s₀.heap.objs.size ≤ b) ∧ b ≠ X.env.locals ∧ (∀ x c, X.env.cells.lookup x = some c → c ≠ b) ∧ ∀ p ∈ X.pn ++ pins, p.1 ≠ b)
    (keep : ∀ b o, b ≠ X.env.locals → b ∉ X.fs → b ∉ ch → s.heap.get? b = some o → H b = none → h'.get? b = some o)
    (slot : ∀ b o, b ≠ X.env.locals → b ∈ X.fs → b ∉ ch → s.heap.get? b = some o → H b = none → ∃ sl, h'.get? b = some { o with slots := sl }) (free : ∀ b o, b ∉ ch → s.heap.get? b = some o → H b = none → H' b = none)
    (there : ∀ b o, b ∉ ch → s.heap.get? b = some o → ∃ o', h'.get? b = some o')
    (tups : ∀ b xs, H b = some (.tup xs) → H' b = some (.tup xs)) (frzs : ∀ b o u, H b = some (.frz o u) → H' b = some (.frz o u)) (tbls : ∀ b ps, H b = some (.tbl ps) → ∃ more, H' b = some (.tbl (ps ++ more)))
    (ns : ∀ m, s.heap.Ns X.env.locals m → h'.Ns X.env.locals m) (hok : HOk X.prog X.w H' h') (hg : AllBare g') :
    Inv X pins σ H' { s with heap := h', gens := g', drawn := d', toks := t' } := by
  have neL : ∀ b o, X.s₀.heap.get? b = some o → b ≠ X.env.locals := fun b o e => Nat.ne_of_lt (Nat.lt_of_lt_of_le (Heap.lt_size e) I.ok.above)
  have neC : ∀ b o, X.s₀.heap.get? b = some o → b ∉ X.ex → b ∉ ch := fun b o e hx hb => by
    rcases (hch b hb).1 with z | z
    · exact hx z
    · exact absurd (Nat.lt_of_lt_of_le (Heap.lt_size e) z) (Nat.lt_irrefl _)
  have cellK : ∀ x c, X.env.cells.lookup x = some c → ∀ v, s.heap.IsCell c v → h'.IsCell c v := fun x c e v ⟨o, ho, hd⟩ => by
    have nch : c ∉ ch := fun z => (hch c z).2.2.1 x c e rfl
    by_cases hc : c ∈ X.fs
    · obtain ⟨sl, q⟩ := slot c o (I.cne x c e) hc nch ho (I.freeC x c e)
      exact ⟨_, q, hd⟩
    · exact ⟨o, keep c o (I.cne x c e) hc nch ho (I.freeC x c e), hd⟩
  refine ⟨I.ok, I.os, hg, ⟨fun b o e n hb hx => ?_, fun b o e n hb hx => ?_, fun b o e n hx => ?_, fun b o e hx => ?_, fun b xs e => tups b xs (I.base.tups b xs e), fun b o xs e => frzs b o xs (I.base.frzs b o xs e), fun b ps e => ?_⟩, ?_, fun x c e => ?_, ?_, fun x c e => ?_, fun p hp => ?_, hok, I.len⟩
  · exact keep b o (neL b o e) hb (neC b o e hx) (I.base.keep b o e n hb hx) (I.base.free b o e n hx)
  · obtain ⟨sl, e1⟩ := I.base.slot b o e n hb hx
    obtain ⟨sl', e2⟩ := slot b _ (neL b o e) hb (neC b o e hx) e1 (I.base.free b o e n hx)
    exact ⟨sl', e2⟩
  · obtain ⟨o', e1⟩ := I.base.there b o e hx
    exact free b o' (neC b o e hx) e1 (I.base.free b o e n hx)
  · obtain ⟨o', e1⟩ := I.base.there b o e hx
    exact there b o' (neC b o e hx) e1
  · obtain ⟨m1, e1⟩ := I.base.tbls b ps e
    obtain ⟨m2, e2⟩ := tbls b _ e1
    exact ⟨m1 ++ m2, by rw [e2, Array.append_assoc]⟩
  · obtain ⟨m, hn, hl⟩ := I.loc
    refine ⟨m, ns m hn, fun i x v e1 e2 e3 => ?_⟩
    obtain ⟨u, r, l⟩ := hl i x v e1 e2 e3
    refine ⟨u, r, ?_⟩
    rcases l with l | ⟨k, c, e, z⟩
    · exact .inl l
    · exact .inr ⟨k, c, e, cellK x c e _ z⟩
  · obtain ⟨v, z⟩ := I.cell x c e
    exact ⟨v, cellK x c e v z⟩
  · obtain ⟨m, ⟨o, _, _, ho, _⟩, _⟩ := I.loc
    exact free _ o (fun z => (hch _ z).2.1 rfl) ho I.free
  · obtain ⟨v, o, ho, hd⟩ := I.cell x c e
    exact free c o (fun z => (hch c z).2.2.1 x c e rfl) ho (I.freeC x c e)
  · obtain ⟨e, n, ne, nf, d⟩ := I.pin p hp
    have nch : p.1 ∉ ch := fun z => (hch p.1 z).2.2.2 p hp rfl
    exact ⟨keep p.1 p.2 ne nf nch e n, free p.1 p.2 nch e n, ne, nf, d⟩
theorem Inv.un {t' : Nat} (I : Inv X pins σ H s) (u : Un X.fs [] H H' s.heap h') (hok : HOk X.prog X.w H' h') : Inv X pins σ H' { s with heap := h', toks := t' } := by
  obtain ⟨m, ⟨o, es, ep, ho, r⟩, _⟩ := id I.loc
  obtain ⟨sl, hL⟩ := u.any ho I.free (by simp)
  exact I.step (g' := s.gens) (d' := s.drawn) (ch := []) (fun _ z => nomatch z) (fun b o _ hb _ e n => u.keep b o e n hb (by simp)) (fun b o _ hb _ e n => u.slot b o e n hb (by simp)) (fun b o _ e n => u.free b o e n (by simp)) (fun b o _ e => u.there b o e (by simp)) u.tups u.frzs u.tbls (fun m' hm => by
    obtain ⟨o', es', ep', ho', r'⟩ := hm
    rw [ho] at ho'; cases ho'
    exact ⟨_, es', ep', hL, r'⟩) hok I.bare
theorem Inv.call {g' : Array GenState} {t' : Nat} {d' : Drawn} {ch : List Addr} (I : Inv X pins σ H s) (u : Un (frs X.stack) ch H H' s.heap h') (hok : HOk X.prog X.w H' h') (hg : AllBare g')
    (hch : ∀ b ∈ ch, (b ∈ X.ex ∨ X.s₀.heap.objs.size ≤ b) ∧ b ≠ X.env.locals ∧ (∀ x c, X.env.cells.lookup x = some c → c ≠ b) ∧ ∀ p ∈ X.pn ++ pins, p.1 ≠ b) :
    Inv X pins σ H' { s with heap := h', gens := g', drawn := d', toks := t' } := by
  obtain ⟨m, ⟨o, es, ep, ho, r⟩, _⟩ := id I.loc
  obtain ⟨sl, hL⟩ := u.any ho I.free fun z => (hch _ z).2.1 rfl
  exact I.step (ch := ch) hch (fun b o hL hb hc e n => u.keep b o e n (fun z => (List.mem_cons.mp (I.stkSub b z)).elim hL hb) hc) (fun b o _ _ hc e n => u.any e n hc) (fun b o hc e n => u.free b o e n hc) (fun b o hc e => u.there b o e hc) u.tups u.frzs u.tbls (fun m' hm => by
    obtain ⟨o', es', ep', ho', r'⟩ := hm
    rw [ho] at ho'; cases ho'
    exact ⟨_, es', ep', hL, r'⟩) hok hg
theorem Inv.turned {t' : Nat} {it : Addr} (I : Inv X pins σ H s) (k : ∀ b o, b ≠ it → s.heap.get? b = some o → h'.get? b = some o) (hn : H it = none) (hL : it ≠ X.env.locals)
    (h1 : it ∈ X.ex ∨ X.s₀.heap.objs.size ≤ it) (h2 : ∀ x c, X.env.cells.lookup x = some c → c ≠ it) (h3 : ∀ p ∈ X.pn ++ pins, p.1 ≠ it) : Inv X pins σ H { s with heap := h', toks := t' } := by
  have nit : ∀ b u, H b = some u → b ≠ it := fun b u e z => by rw [z, hn] at e; cases e
  refine I.step (g' := s.gens) (d' := s.drawn) (ch := [it]) (fun b hb => ?_) (fun b o _ _ hc e _ => k b o (fun z => hc (by simp [z])) e) (fun b o _ _ hc e _ => ⟨o.slots, k b o (fun z => hc (by simp [z])) e⟩) (fun _ _ _ _ n => n)
    (fun b o hc e => ⟨o, k b o (fun z => hc (by simp [z])) e⟩) (fun _ _ e => e) (fun _ _ _ e => e) (fun b ps e => ⟨#[], by rw [e]; simp⟩) (fun m hm => ?_) (fun b u e => ?_) I.bare
  · have e : b = it := by simpa using hb
    subst e
    exact ⟨h1, hL, h2, h3⟩
  · obtain ⟨o, es, ep, ho, r⟩ := hm
    exact ⟨o, es, ep, k _ o (Ne.symm hL) ho, r⟩
  · refine (I.hok b u e).stay (fun c v hc q => k c v ?_ q) (fun _ q => q) fun _ _ q => q
    rcases hc with z | z
    · rw [z]; exact nit b u e
    · exact nit c _ z
theorem Inv.tok (I : Inv X pins σ H s) (t : Nat) : Inv X pins σ H { s with toks := t } := I.un (h' := s.heap) (t' := t) Un.refl I.hok
theorem Inv.kept {t' : Nat} (I : Inv X pins σ H s) (k : ∀ b u, s.heap.get? b = some u → h'.get? b = some u) : Inv X pins σ H { s with heap := h', toks := t' } := I.un (Un.kept k) (I.hok.kept k)
theorem Inv.laid {a : Addr} {o : HO} {t' : Nat} (I : Inv X pins σ H s) (k : ∀ b u, s.heap.get? b = some u → h'.get? b = some u) (hp : s.heap.objs.size ≤ a) (new : ObjOk X.prog X.w (upd H a o) h' a o) :
    Inv X pins σ (upd H a o) { s with heap := h', toks := t' } := I.un (Un.laid k hp (I.hok.fresh hp)) (I.hok.laid k hp new)
theorem Inv.write {x e : Addr} {o : HO} {t' : Nat} (I : Inv X pins σ H s) (mu : Mut (H x)) (he : e = x ∨ H e = some (.own x)) (k : ∀ b u, b ≠ e → s.heap.get? b = some u → h'.get? b = some u) (heo : ∃ u, h'.get? e = some u)
    (new : ObjOk X.prog X.w (upd H x o) h' x o) : Inv X pins σ (upd H x o) { s with heap := h', toks := t' } := I.un (Un.write mu he k heo) (I.hok.write mu he k heo new)
theorem Inv.pins_of {pins' : List (Addr × Obj)} (I : Inv X pins σ H s) (h : ∀ p ∈ pins', s.heap.get? p.1 = some p.2 ∧ H p.1 = none ∧ p.1 ≠ X.env.locals ∧ p.1 ∉ X.fs ∧ ∀ v, p.2.data ≠ .cell v) : Inv X pins' σ H s :=
  ⟨I.ok, I.os, I.bare, I.base, I.loc, I.cell, I.free, I.freeC, fun p hp => (List.mem_append.mp hp).elim (fun z => I.pin p (List.mem_append_left _ z)) (h p), I.hok, I.len⟩
theorem nodup_ix {N : List Str} (hN : N.Nodup) {i j : Nat} {x : Str} (a : N[i]? = some x) (b : N[j]? = some x) : i = j := by
  obtain ⟨h1, e1⟩ := List.getElem?_eq_some_iff.mp a
  obtain ⟨h2, e2⟩ := List.getElem?_eq_some_iff.mp b
  exact (List.getElem_inj hN).mp (e1.trans e2.symm)
theorem store_ok2 {M : Model} {A : Around} {E : Value → Shared → Prop} {i : Nat} {x : Str} {v : V} {u : Value} {Q : Unit → Shared → Prop} (I : Inv X pins σ H s) (hN : X.N.Nodup) (hi : X.N[i]? = some x) (hx : Loc X.env.scope x) (r : RelV v u)
    (h : ∀ s', Inv X pins (σ.set i (some v)) H s' → (∃ a, Heap.SameBut a s.heap s'.heap ∧ (a = X.env.locals ∨ X.env.cells.lookup x = some a)) → Q () s') (hf : X.fn x = true ∨ X.env.scope.names.lookup x = some .local := by first | exact .inl rfl | exact .inr rfl | assumption) : wpAny M A (storeName X.env x u) Q E s := by
  obtain ⟨m, hn, hl⟩ := id I.loc
  have hcls : (X.env.scope.kind == .class || (X.env.scope.kind == .module && X.env.locals != X.env.globals)) = false := by rw [I.ok.kind]; rfl
  have hiσ : i < σ.length := by rw [I.len]; exact (List.getElem?_eq_some_iff.mp hi).1
  have cne := I.cne
  have tracked : ∀ {a : Addr} {h' : Heap}, (∃ o, s.heap.get? a = some o ∧ H a = none) → Heap.SameBut a s.heap h' → HOk X.prog X.w H h' := fun {a h'} ha hs b ob e => by
    obtain ⟨_, _, hfree⟩ := ha
    refine (I.hok b ob e).stay (fun c w' hc q => (hs.2 c ?_).trans q) (fun _ q => q) fun _ _ q => q
    rintro rfl
    rcases hc with rfl | hc
    · rw [hfree] at e; cases e
    · rw [hfree] at hc; cases hc
  rcases hx with hk | hk
  · refine wpAny_storeName_local hk hn (fun h' hn' hs => ?_) hcls
    obtain ⟨oL, _, _, hoL, _⟩ := id hn
    refine h _ ⟨I.ok, I.os, I.bare, ⟨fun b o e n hb hx => ?_, fun b o e n hb hx => ?_, I.base.free, fun b o e hx => ?_, I.base.tups, I.base.frzs, I.base.tbls⟩, ⟨_, hn', fun j y v' e1 e2 e3 => ?_⟩, fun y c e => ?_, I.free, I.freeC, fun p hp => ?_, tracked ⟨oL, hoL, I.free⟩ hs, by simpa using I.len⟩ ⟨_, hs, .inl rfl⟩
    · exact (hs.2 b (Nat.ne_of_lt (Nat.lt_of_lt_of_le (Heap.lt_size e) I.ok.above))).trans (I.base.keep b o e n hb hx)
    · obtain ⟨sl, e1⟩ := I.base.slot b o e n hb hx
      exact ⟨sl, (hs.2 b (Nat.ne_of_lt (Nat.lt_of_lt_of_le (Heap.lt_size e) I.ok.above))).trans e1⟩
    · obtain ⟨o', e1⟩ := I.base.there b o e hx
      exact ⟨o', (hs.2 b (Nat.ne_of_lt (Nat.lt_of_lt_of_le (Heap.lt_size e) I.ok.above))).trans e1⟩
    · by_cases hj : j = i
      · subst hj
        rw [hi] at e1; cases e1
        rw [List.getElem?_set_self hiσ] at e2
        cases e2
        exact ⟨u, r, .inl ⟨hk, by simp⟩⟩
      · rw [List.getElem?_set_ne (Ne.symm hj)] at e2
        obtain ⟨u', r', q⟩ := hl j y v' e1 e2 e3
        refine ⟨u', r', ?_⟩
        rcases q with ⟨k, e⟩ | ⟨k, c, e, z⟩
        · refine .inl ⟨k, ?_⟩
          have : y ≠ x := fun e => hj (nodup_ix hN e1 (e ▸ hi))
          simp [this, e]
        · exact .inr ⟨k, c, e, z.sameBut hs (cne y c e)⟩
    · obtain ⟨w', z⟩ := I.cell y c e
      exact ⟨w', z.sameBut hs (cne y c e)⟩
    · obtain ⟨e, n, ne, nf, d⟩ := I.pin p hp
      exact ⟨(hs.2 p.1 ne).trans e, n, ne, nf, d⟩
  · have hfn : X.fn x = true := by
      rcases hf with z | z
      · exact z
      · rw [z] at hk; cases hk
    obtain ⟨c, hc⟩ := I.ok.has x (.inl hk)
    obtain ⟨w', z⟩ := I.cell x c hc
    refine wpAny_storeName_cell I.ok.kind hk hc z (fun h' hc' hs => ?_)
    obtain ⟨oc, hoc, hocd⟩ := id z
    refine h { s with heap := h' } ⟨I.ok, I.os, I.bare, ⟨fun b o e n hb hx => ?_, fun b o e n hb hx => ?_, I.base.free, fun b o e hx => ?_, I.base.tups, I.base.frzs, I.base.tbls⟩, ⟨m, hn.sameBut hs (Ne.symm (cne x c hc)), fun j y v' e1 e2 e3 => ?_⟩, fun y c' e => ?_, I.free, I.freeC, fun p hp => ?_, tracked ⟨oc, hoc, I.freeC x c hc⟩ hs, by simpa using I.len⟩ ⟨c, hs, .inr hc⟩
    · exact (hs.2 b (Nat.ne_of_lt (Nat.lt_of_lt_of_le (Heap.lt_size e) (I.ok.cab x c hfn hc)))).trans (I.base.keep b o e n hb hx)
    · obtain ⟨sl, e1⟩ := I.base.slot b o e n hb hx
      exact ⟨sl, (hs.2 b (Nat.ne_of_lt (Nat.lt_of_lt_of_le (Heap.lt_size e) (I.ok.cab x c hfn hc)))).trans e1⟩
    · obtain ⟨o', e1⟩ := I.base.there b o e hx
      exact ⟨o', (hs.2 b (Nat.ne_of_lt (Nat.lt_of_lt_of_le (Heap.lt_size e) (I.ok.cab x c hfn hc)))).trans e1⟩
    · by_cases hj : j = i
      · subst hj
        rw [hi] at e1; cases e1
        rw [List.getElem?_set_self hiσ] at e2
        cases e2
        exact ⟨u, r, .inr ⟨.inl hk, c, hc, hc'⟩⟩
      · rw [List.getElem?_set_ne (Ne.symm hj)] at e2
        obtain ⟨u', r', q⟩ := hl j y v' e1 e2 e3
        refine ⟨u', r', ?_⟩
        rcases q with q | ⟨k, c', e, z'⟩
        · exact .inl q
        · refine .inr ⟨k, c', e, z'.sameBut hs ?_⟩
          rintro rfl
          exact hj (nodup_ix hN e1 (I.ok.inj _ _ _ e hc ▸ hi))
    · by_cases hcc : c' = c
      · subst hcc; exact ⟨_, hc'⟩
      · obtain ⟨w2, z2⟩ := I.cell y c' e
        exact ⟨w2, z2.sameBut hs hcc⟩
    · obtain ⟨e, n, ne, nf, d⟩ := I.pin p hp
      refine ⟨(hs.2 p.1 ?_).trans e, n, ne, nf, d⟩
      intro q
      rw [q, hoc] at e
      have q' : oc = p.2 := Option.some.inj e
      exact d w' (by rw [← q']; exact hocd)
theorem store_ok {M : Model} {A : Around} {E : Value → Shared → Prop} {i : Nat} {x : Str} {v : V} {u : Value} {Q : Unit → Shared → Prop} (I : Inv X pins σ H s) (hN : X.N.Nodup) (hi : X.N[i]? = some x) (hx : Loc X.env.scope x) (r : RelV v u)
    (h : ∀ s', Inv X pins (σ.set i (some v)) H s' → Q () s') (hf : X.fn x = true ∨ X.env.scope.names.lookup x = some .local := by first | exact .inl rfl | exact .inr rfl | assumption) : wpAny M A (storeName X.env x u) Q E s :=
  store_ok2 I hN hi hx r (fun s' I' _ => h s' I') hf
theorem Inv.call' {s' : Shared} {ch : List Addr} (I : Inv X pins σ H s) (ho : s'.os = s.os) (u : Un (frs X.stack) ch H H' s.heap s'.heap) (hok : HOk X.prog X.w H' s'.heap) (hg : AllBare s'.gens)
    (hch : ∀ b ∈ ch, (b ∈ X.ex ∨ X.s₀.heap.objs.size ≤ b) ∧ b ≠ X.env.locals ∧ (∀ x c, X.env.cells.lookup x = some c → c ≠ b) ∧ ∀ p ∈ X.pn ++ pins, p.1 ≠ b) : Inv X pins σ H' s' := by
  obtain ⟨h', g', d', t', o'⟩ := s'
  have e : o' = s.os := ho
  subst e
  exact I.call (g' := g') (t' := t') (d' := d') u hok hg hch
end
abbrev XK := Value → Option Addr → Hp → Prop
abbrev St := List (Option V)
abbrev VK := V → Hp → Prop
abbrev TE := St → Hp → VK → Prop
abbrev TT := St → Hp → (Bool → Hp → Prop) → Prop
abbrev TA := St → Hp → (List V → Hp → Prop) → Prop
structure Ends where
  nx : St → Hp → Prop
  rt : VK
  bk : St → Hp → Prop := fun _ _ => False
  ct : St → Hp → Prop := fun _ _ => False
abbrev TS := Ends → St → Hp → Prop
def EP (X : Cx) (pins : List (Addr × Obj)) (σ : St) (Q : VK) (u : Value) (s' : Shared) : Prop := ∃ v H', Inv X pins σ H' s' ∧ RelV v u ∧ Q v H'
def TP (X : Cx) (pins : List (Addr × Obj)) (σ : St) (Q : Bool → Hp → Prop) (b : Bool) (s' : Shared) : Prop := ∃ H', Inv X pins σ H' s' ∧ Q b H'
def AP (X : Cx) (pins : List (Addr × Obj)) (σ : St) (Q : List V → Hp → Prop) (us : List Value) (s' : Shared) : Prop := ∃ vs H', Inv X pins σ H' s' ∧ Vals vs us ∧ Q vs H'
def SP (X : Cx) (pins : List (Addr × Obj)) (D : Ends) (f : Flow) (s' : Shared) : Prop :=
  match f with
  | .next => ∃ σ' H', Inv X pins σ' H' s' ∧ D.nx σ' H'
  | .brk => ∃ σ' H', Inv X pins σ' H' s' ∧ D.bk σ' H'
  | .cont => ∃ σ' H', Inv X pins σ' H' s' ∧ D.ct σ' H'
  | .ret u => ∃ v σ' H', Inv X pins σ' H' s' ∧ RelV v u ∧ D.rt v H'
def PE (X : Cx) (e : Expr) (t : TE) : Prop :=
  ∀ (pins : List (Addr × Obj)) (s : Shared) (σ : St) (H : Hp) (Q : VK), Inv X pins σ H s → t σ H Q → wpAny (model X.prog X.w) X.A (eval e X.env) (EP X pins σ Q) X.xe s
def PT (X : Cx) (e : Expr) (t : TT) : Prop :=
  ∀ (pins : List (Addr × Obj)) (s : Shared) (σ : St) (H : Hp) (Q : Bool → Hp → Prop), Inv X pins σ H s → t σ H Q → wpAny (model X.prog X.w) X.A (isTrue e X.env (eval e X.env)) (TP X pins σ Q) X.xe s
def PW (X : Cx) (e : Expr) (t : TT) : Prop :=
  ∀ (whole : Sem Value) (pins : List (Addr × Obj)) (s : Shared) (σ : St) (H : Hp) (Q : Bool → Hp → Prop), Inv X pins σ H s → t σ H Q → wpAny (model X.prog X.w) X.A (isTrue e X.env whole) (TP X pins σ Q) X.xe s
theorem PW.pt {X : Cx} {e : Expr} {t : TT} (h : PW X e t) : PT X e t := h _
def PA (X : Cx) (es : List Expr) (t : TA) : Prop :=
  ∀ (pos : Pos) (pins : List (Addr × Obj)) (s : Shared) (σ : St) (H : Hp) (Q : List V → Hp → Prop), Inv X pins σ H s → t σ H Q → wpAny (model X.prog X.w) X.A (spliced (backTo pos (starEach es X.env))) (AP X pins σ Q) X.xe s
def PS (X : Cx) (st : Stmt) (t : TS) : Prop :=
  ∀ (pins : List (Addr × Obj)) (s : Shared) (σ : St) (H : Hp) (D : Ends), Inv X pins σ H s → t D σ H → wpAny (model X.prog X.w) X.A (exec st X.env) (SP X pins D) X.xe s
def PSs (X : Cx) (st : List Stmt) (t : TS) : Prop :=
  ∀ (pins : List (Addr × Obj)) (s : Shared) (σ : St) (H : Hp) (D : Ends), Inv X pins σ H s → t D σ H → wpAny (model X.prog X.w) X.A (execs st X.env) (SP X pins D) X.xe s
theorem thn {α : Type} {t : Sem α} {Q Q' : α → Shared → Prop} {M : Model} {A : Around} {E : Value → Shared → Prop} {s : Shared} (h : wpAny M A t Q E s) (hQ : ∀ a s, Q a s → Q' a s) : wpAny M A t Q' E s := wpAny_mono h hQ fun _ _ x => x
end L2
namespace L2
open PySem PySem.Spec PyProof.Rows
section
variable {X : Cx}
def tVar (i : Nat) : TE := fun σ H Q => ∃ v, σ[i]? = some (some v) ∧ Q v H
def tC (v : V) : TE := fun _ H Q => Q v H
theorem pe_var {i : Nat} {x : Str} {pos : Pos} (hN : X.N[i]? = some x) (hv : Vis X.env.scope x) (hd : (x == ("__debug__" : Str)) = false := by decide) (hcd : (x == ("__classdict__" : Str)) = false := by decide) : PE X (.Name x pos) (tVar i) := by
  intro pins s σ H Q I h
  obtain ⟨v, e, h⟩ := h
  obtain ⟨m, hn, hl⟩ := I.loc
  obtain ⟨u, r, l⟩ := hl i x v hN e hv
  have fin : EP X pins σ Q u s := ⟨v, H, I, r, h⟩
  rcases l with ⟨hk, hm⟩ | ⟨hk, c, hc, hcell⟩
  · exact wpAny_Name (wpAny_loadName_local I.ok.kind hk hn hm fin) hd
  · rcases hk with hk | hk
    · exact wpAny_Name (wpAny_loadName_cell I.ok.kind hk hc hcell fin) hd
    · exact wpAny_Name (wpAny_loadName_free I.ok.kind hk hc hcell fin hcd) hd
theorem pe_int {i j pos} : PE X (.Constant (.int i) j pos) (tC (.int i)) := fun _ _ _ H _ I h => wpAny_Constant_int ⟨.int i, H, I.tok _, ⟨_, rfl⟩, h⟩
theorem pe_bl {b j pos} : PE X (.Constant (.bool b) j pos) (tC (.bl b)) := fun _ _ _ H _ I h => Constant_bool ⟨.bl b, H, I, rfl, h⟩
theorem pe_non {j pos} : PE X (.Constant .none j pos) (tC .non) := fun _ _ _ H _ I h => Constant_none ⟨.non, H, I, rfl, h⟩
theorem pe_str {x j pos} : PE X (.Constant (.str x) j pos) (tC (.str x)) := fun _ _ _ H _ I h => Calls.Constant_str ⟨.str x, H, I.tok _, ⟨_, rfl⟩, h⟩
def Gl (X : Cx) (x : Str) : Prop := X.env.kindOf x = some .globalImplicit
theorem ld_glob {E : Value → Shared → Prop} {pins : List (Addr × Obj)} {s : Shared} {σ : St} {H : Hp} {x : Str} {u : Value} {pos : Pos} {Q : Value → Shared → Prop} (I : Inv X pins σ H s) (hg : Gl X x) (hm : X.mg x = some u) (h : Q u s)
    (hd : (x == ("__debug__" : Str)) = false := by decide) : wpAny (model X.prog X.w) X.A (eval (.Name x pos) X.env) Q E s :=
  Calls.Name_function_global I.ok.kind hg (Calls.loadGlobal_global (by rw [I.ok.glob]; exact I.mod.glob.keeps I.bk) hm h) hd
theorem ld_blt {E : Value → Shared → Prop} {pins : List (Addr × Obj)} {s : Shared} {σ : St} {H : Hp} {x : Str} {u : Value} {pos : Pos} {Q : Value → Shared → Prop} (I : Inv X pins σ H s) (hg : Gl X x) (hm : X.mg x = none) (hv : bootBuiltins x = some u) (h : Q u s)
    (hn : x ≠ "__name__" := by decide) (hd : (x == ("__debug__" : Str)) = false := by decide) : wpAny (model X.prog X.w) X.A (eval (.Name x pos) X.env) Q E s := by
  obtain ⟨mb, h1, h2⟩ := I.mod.blt
  exact Calls.Name_function_global I.ok.kind hg (Calls.loadGlobal_builtin (by rw [I.ok.glob]; exact I.mod.glob.keeps I.bk) hm (by rw [I.ok.blt]; exact h1.keeps I.bk) ((h2 x hn).trans hv) h) hd
theorem pe_glob {x : Str} {v : V} {u : Value} {pos : Pos} (hg : Gl X x) (hm : X.mg x = some u) (r : RelV v u) (hd : (x == ("__debug__" : Str)) = false := by decide) : PE X (.Name x pos) (tC v) :=
  fun _ _ _ H _ I h => ld_glob I hg hm ⟨v, H, I, r, h⟩ hd
theorem pe_bltn {x : Str} {v : V} {u : Value} {pos : Pos} (hg : Gl X x) (hm : X.mg x = none) (hv : bootBuiltins x = some u) (r : RelV v u) (hn : x ≠ "__name__" := by decide) (hd : (x == ("__debug__" : Str)) = false := by decide) : PE X (.Name x pos) (tC v) :=
  fun _ _ _ H _ I h => ld_blt I hg hm hv ⟨v, H, I, r, h⟩ hn hd
variable {a b : Expr} {ta tb : TE} {pos : Pos}
def PC (X : Cx) (op : CmpOp) (a b : Expr) (t : TE) : Prop :=
  ∀ (pins : List (Addr × Obj)) (s : Shared) (σ : St) (H : Hp) (Q : VK), Inv X pins σ H s → t σ H Q →
    wpAny (model X.prog X.w) X.A (eval a X.env) (fun v s₁ => wpAny (model X.prog X.w) X.A (eval b X.env) (fun u s₂ => wpAny (model X.prog X.w) X.A (compareOp op v u) (EP X pins σ Q) X.xe s₂) X.xe s₁) X.xe s
def tB (t : TE) : TT := fun σ H Q => t σ H fun x H1 => ∃ c, x = .bl c ∧ Q c H1
theorem pt_val {e : Expr} {t : TE} (h : PE X e t) (he : ∀ whole, isTrue e X.env whole = (do let v ← whole; standAt e.pos; holding [v] (truthy v)) := by intro _; rfl) : PT X e (tB t) := by
  intro pins s σ H Q I hw
  refine isTrue_plain (thn (h pins s σ H _ I hw) fun v s1 ⟨x, H1, I1, r1, q1⟩ => ?_) (he _)
  obtain ⟨d, rfl, q⟩ := q1
  cases r1
  exact wpAny_truthy_bool ⟨H1, I1, q⟩
variable {tA tB' : TT} {rest : List Expr}
def tAnd (t u : TT) : TT := fun σ H Q => t σ H fun c H1 => if c = true then u σ H1 Q else Q false H1
def tOr (t u : TT) : TT := fun σ H Q => t σ H fun c H1 => if c = true then Q true H1 else u σ H1 Q
def tNot (t : TT) : TT := fun σ H Q => t σ H fun c H1 => Q (!c) H1
theorem pw_and1 (ha : PT X a tA) : PW X (.BoolOp .And [a] pos) tA := by
  intro wh pins s σ H Q I h
  refine isTrue_and (thn (ha pins s σ H Q I h) fun c s1 e => ?_)
  cases c with
  | true => exact isTrue_and_nil e
  | false => exact e
theorem pw_or1 (ha : PT X a tA) : PW X (.BoolOp .Or [a] pos) tA := by
  intro wh pins s σ H Q I h
  refine isTrue_or (thn (ha pins s σ H Q I h) fun c s1 e => ?_)
  cases c with
  | false => exact isTrue_or_nil e
  | true => exact e
theorem pw_and (ha : PT X a tA) (hb : PW X (.BoolOp .And (b :: rest) pos) tB') : PW X (.BoolOp .And (a :: b :: rest) pos) (tAnd tA tB') := by
  intro wh pins s σ H Q I h
  refine isTrue_and (thn (ha pins s σ H _ I h) fun c s1 ⟨H1, I1, q1⟩ => ?_)
  cases c with
  | true => exact hb wh pins s1 σ H1 Q I1 q1
  | false => exact ⟨H1, I1, q1⟩
theorem pw_or (ha : PT X a tA) (hb : PW X (.BoolOp .Or (b :: rest) pos) tB') : PW X (.BoolOp .Or (a :: b :: rest) pos) (tOr tA tB') := by
  intro wh pins s σ H Q I h
  refine isTrue_or (thn (ha pins s σ H _ I h) fun c s1 ⟨H1, I1, q1⟩ => ?_)
  cases c with
  | true => exact ⟨H1, I1, q1⟩
  | false => exact hb wh pins s1 σ H1 Q I1 q1
theorem pt_not (ha : PT X a tA) : PT X (.UnaryOp .Not a pos) (tNot tA) := by
  intro pins s σ H Q I h
  exact isTrue_not (ha pins s σ H (fun c H1 => Q (!c) H1) I h)
def tIf (t : TT) (ta tb : TE) : TE := fun σ H Q => t σ H fun c H1 => if c = true then ta σ H1 Q else tb σ H1 Q
theorem pe_ifExp {c : Expr} (hc : PT X c tA) (ha : PE X a ta) (hb : PE X b tb) : PE X (.IfExp c a b pos) (tIf tA ta tb) := by
  intro pins s σ H Q I h
  refine wpAny_IfExp (thn (hc pins s σ H _ I h) fun d s1 ⟨H1, I1, q1⟩ => ?_)
  cases d with
  | true => exact ha pins s1 σ H1 Q I1 q1
  | false => exact hb pins s1 σ H1 Q I1 q1
end
end L2
namespace L2
open PySem PySem.Spec PyProof.Rows
def SqL (K : PySem.W.Frag) (H : Hp) (a : Addr) (xs : List V) : Prop :=
  Rd H a (.lst xs) ∨
    ∃ (o : Obj) (its : Array Value) (n : Nat), K.lookup a = some o ∧ o.cls = .type "list" ∧ o.dict = none ∧ o.data = .seq its n ∧ its.size ≤ sizeLine ∧ Vals xs its.toList
def SqT (K : PySem.W.Frag) (H : Hp) (a : Addr) (xs : List V) : Prop :=
  Rd H a (.tup xs) ∨
    ∃ (o : Obj) (its : Array Value) (n : Nat), K.lookup a = some o ∧ o.cls = .type "tuple" ∧ o.data = .seq its n ∧ its.size ≤ sizeLine ∧ Vals xs its.toList
def absV : Value → Option V
  | .none => some .non
  | .bool b => some (.bl b)
  | .int i _ => some (.int i)
  | .str x _ => some (.str x)
  | .bytes b _ => some (.byt b)
  | .float b _ => some (.flt b)
  | .ref a => some (.ref a)
  | .type n => some (.ty n)
  | _ => none
theorem RelV.abs {x : V} {u : Value} (r : RelV x u) : absV u = some x := by
  cases x with
  | non => cases r; rfl
  | bl _ => cases r; rfl
  | int _ => obtain ⟨t, rfl⟩ := r; rfl
  | str _ => obtain ⟨t, rfl⟩ := r; rfl
  | byt _ => obtain ⟨t, rfl⟩ := r; rfl
  | flt _ => obtain ⟨t, rfl⟩ := r; rfl
  | ref _ => cases r; rfl
  | ty _ => cases r; rfl
theorem RelV.inj {x y : V} {u : Value} (r : RelV x u) (q : RelV y u) : x = y := Option.some.inj (r.abs.symm.trans q.abs)
theorem Vals.inj : ∀ {xs ys : List V} {us : List Value}, Vals xs us → Vals ys us → xs = ys
  | _, _, _, .nil, .nil => rfl
  | _, _, _, .cons r t, .cons r' t' => by rw [r.inj r', Vals.inj t t']
section
variable {X : Cx} {pins : List (Addr × Obj)} {σ : St} {H : Hp} {s : Shared} {a : Addr} {xs ys : List V}
theorem SqL.of {K : PySem.W.Frag} (h : H a = some (.lst xs)) : SqL K H a xs := .inl (.inl h)
theorem SqT.of {K : PySem.W.Frag} (h : H a = some (.tup xs)) : SqT K H a xs := .inl (.inl h)
theorem Inv.list (I : Inv X pins σ H s) (h : SqL X.K H a xs) : ∃ its : List Value, Vals xs its ∧ PlainL s.heap a its.toArray ∧ xs.length ≤ sizeLine := by
  rcases h with h | ⟨o, its, n, hk, hc, hd, hs, hz, r⟩
  · obtain ⟨z, its, n, r, e⟩ := h.ok I.hok
    exact ⟨its, r, ⟨_, n, e, rfl, rfl, rfl⟩, z⟩
  · refine ⟨its.toList, r, ⟨o, n, I.kIn a o hk, hc, hd, by simpa using hs⟩, ?_⟩
    have e := r.length
    simp only [Array.length_toList] at e
    omega
theorem Inv.tuple (I : Inv X pins σ H s) (h : SqT X.K H a xs) : ∃ its : List Value, Vals xs its ∧ IsTup s.heap a its.toArray ∧ xs.length ≤ sizeLine := by
  rcases h with h | ⟨o, its, n, hk, hc, hs, hz, r⟩
  · obtain ⟨z, its, r, p⟩ := h.ok I.hok
    exact ⟨its, r, p, z⟩
  · refine ⟨its.toList, r, ⟨o, I.kIn a o hk, hc, n, by simpa using hs⟩, ?_⟩
    have e := r.length
    simp only [Array.length_toList] at e
    omega
theorem Inv.list_inj (I : Inv X pins σ H s) (h : SqL X.K H a xs) (h' : SqL X.K H a ys) : xs = ys := by
  obtain ⟨its, r, ⟨o, n, e, _, _, d⟩, _⟩ := I.list h
  obtain ⟨its', r', ⟨o', n', e', _, _, d'⟩, _⟩ := I.list h'
  rw [e] at e'; cases e'
  rw [d] at d'
  injection d' with d1 _
  have : its = its' := by simpa using congrArg Array.toList d1
  subst this
  exact r.inj r'
theorem Inv.tuple_inj (I : Inv X pins σ H s) (h : SqT X.K H a xs) (h' : SqT X.K H a ys) : xs = ys := by
  obtain ⟨its, r, ⟨o, e, _, n, d⟩, _⟩ := I.tuple h
  obtain ⟨its', r', ⟨o', e', _, n', d'⟩, _⟩ := I.tuple h'
  rw [e] at e'; cases e'
  rw [d] at d'
  injection d' with d1 _
  have : its = its' := by simpa using congrArg Array.toList d1
  subst this
  exact r.inj r'
end
abbrev Cx.wish (X : Cx) (E : Value → Shared → Prop) : Cx := { X with xe := E }
abbrev Cx.nox (X : Cx) : Cx := X.wish fun _ _ => False
theorem Cx.Ok.wish {X : Cx} (ok : X.Ok) (E : Value → Shared → Prop) : (X.wish E).Ok :=
  ⟨ok.mod, ok.kind, ok.glob, ok.blt, ok.above, ok.inj, ok.has, ok.cab, ok.hd, ok.frames, ok.stk, ok.exf, ok.bs, ok.bsz, ok.noex, ok.exfs, ok.funs, ok.frf⟩
theorem Cx.Ok.unwish {X : Cx} {E : Value → Shared → Prop} (ok : (X.wish E).Ok) : X.Ok :=
  ⟨ok.mod, ok.kind, ok.glob, ok.blt, ok.above, ok.inj, ok.has, ok.cab, ok.hd, ok.frames, ok.stk, ok.exf, ok.bs, ok.bsz, ok.noex, ok.exfs, ok.funs, ok.frf⟩
section
variable {X : Cx} {pins : List (Addr × Obj)} {σ : St} {H : Hp} {s : Shared} {E : Value → Shared → Prop}
theorem Inv.wish (I : Inv X pins σ H s) (E : Value → Shared → Prop) : Inv (X.wish E) pins σ H s := ⟨I.ok.wish E, I.os, I.bare, I.base, I.loc, I.cell, I.free, I.freeC, I.pin, I.hok, I.len⟩
theorem Inv.unwish (I : Inv (X.wish E) pins σ H s) : Inv X pins σ H s := ⟨I.ok.unwish, I.os, I.bare, I.base, I.loc, I.cell, I.free, I.freeC, I.pin, I.hok, I.len⟩
theorem SP.unwish {D : Ends} {f : Flow} {s' : Shared} (h : SP (X.wish E) pins D f s') : SP X pins D f s' := by
  cases f with
  | next => obtain ⟨σ', H', I, q⟩ := h; exact ⟨σ', H', I.unwish, q⟩
  | brk => obtain ⟨σ', H', I, q⟩ := h; exact ⟨σ', H', I.unwish, q⟩
  | cont => obtain ⟨σ', H', I, q⟩ := h; exact ⟨σ', H', I.unwish, q⟩
  | ret u => obtain ⟨v, σ', H', I, r, q⟩ := h; exact ⟨v, σ', H', I.unwish, r, q⟩
theorem PE.nox {e : Expr} {t : TE} (h : PE X.nox e t) : PE X e t := fun pins s σ H Q I hw =>
  wpAny_mono (h pins s σ H Q (I.wish _) hw) (fun _ _ ⟨v, H', I', r, q⟩ => ⟨v, H', I'.unwish, r, q⟩) fun _ _ z => False.elim z
theorem PT.nox {e : Expr} {t : TT} (h : PT X.nox e t) : PT X e t := fun pins s σ H Q I hw =>
  wpAny_mono (h pins s σ H Q (I.wish _) hw) (fun _ _ ⟨H', I', q⟩ => ⟨H', I'.unwish, q⟩) fun _ _ z => False.elim z
theorem PSs.nox {st : List Stmt} {t : TS} (h : PSs X.nox st t) : PSs X st t := fun pins s σ H D I hw =>
  wpAny_mono (h pins s σ H D (I.wish _) hw) (fun _ _ q => q.unwish) fun _ _ z => False.elim z
end
section
variable {X : Cx} {st : Stmt} {rest : List Stmt} {t u : TS} {e : Expr} {te : TE} {pos : Pos}
def tNext : TS := fun D σ H => D.nx σ H
def tSeq (t u : TS) : TS := fun D σ H => t { D with nx := u D } σ H
theorem pss_nil : PSs X [] tNext := fun _ _ σ H _ I h => wpAny_execs_nil ⟨σ, H, I, h⟩
theorem pss_cons (h1 : PS X st t) (h2 : PSs X rest u) : PSs X (st :: rest) (tSeq t u) := by
  intro pins s σ H D I h
  refine wpAny_execs_cons (thn (h1 pins s σ H { D with nx := u D } I h) fun f s1 q => ?_)
  cases f with
  | next =>
    obtain ⟨σ', H', I', q⟩ := q
    exact h2 pins s1 σ' H' D I' q
  | ret v => exact q
  | brk => exact q
  | cont => exact q
theorem pss_one (h1 : PS X st t) : PSs X [st] t := by
  intro pins s σ H D I h
  refine wpAny_execs_cons (thn (h1 pins s σ H D I h) fun f s1 q => ?_)
  cases f with
  | next => exact wpAny_execs_nil q
  | ret v => exact q
  | brk => exact q
  | cont => exact q
theorem Inv.quiet {pins : List (Addr × Obj)} {σ : St} {H : Hp} {s : Shared} (I : Inv X pins σ H s) : interactive X.env = false := by simp [interactive, I.ok.kind]
def tDrop (te : TE) : TS := fun D σ H => te σ H fun _ H1 => D.nx σ H1
theorem ps_expr (he : PE X e te) (hs : swapsWith e none pos.line X.env = pure false := by rfl) : PS X (.Expr e pos) (tDrop te) := by
  intro pins s σ H D I h
  exact wpAny_Expr_any (thn (he pins s σ H _ I h) fun v s1 ⟨x, H1, I1, r1, q1⟩ => ⟨σ, H1, I1, q1⟩) I.quiet hs
def tRet (te : TE) : TS := fun D σ H => te σ H D.rt
theorem ps_ret (he : PE X e te) : PS X (.Return (some e) pos) (tRet te) := by
  intro pins s σ H D I h
  exact wpAny_Return_some (thn (he pins s σ H _ I h) fun v s1 ⟨x, H1, I1, r1, q1⟩ => ⟨x, σ, H1, I1, r1, q1⟩)
def tIfS (c : TT) (t u : TS) : TS := fun D σ H => c σ H fun b H1 => if b = true then t D σ H1 else u D σ H1
theorem ps_if {c : Expr} {a b : List Stmt} {tc : TT} (hc : PT X c tc) (ha : PSs X a t) (hb : PSs X b u) : PS X (.If c a b pos) (tIfS tc t u) := by
  intro pins s σ H D I h
  refine wpAny_If (thn (hc pins s σ H _ I h) fun d s1 ⟨H1, I1, q1⟩ => ?_)
  cases d with
  | true => exact ha pins s1 σ H1 D I1 q1
  | false => exact hb pins s1 σ H1 D I1 q1
end
abbrev TG := V → St → Hp → (St → Hp → Prop) → Prop
abbrev TGs := List V → St → Hp → (St → Hp → Prop) → Prop
def PG (X : Cx) (target : Expr) (t : TG) : Prop :=
  ∀ (pins : List (Addr × Obj)) (s : Shared) (σ : St) (H : Hp) (v : V) (u : Value) (Q : St → Hp → Prop), Inv X pins σ H s → RelV v u → t v σ H Q →
    wpAny (model X.prog X.w) X.A (assign target X.env u) (fun _ s' => ∃ σ' H', Inv X pins σ' H' s' ∧ Q σ' H') X.xe s
def PGs (X : Cx) (ts : List Expr) (t : TGs) : Prop :=
  ∀ (pins : List (Addr × Obj)) (s : Shared) (σ : St) (H : Hp) (vs : List V) (us : List Value) (Q : St → Hp → Prop), Inv X pins σ H s → Vals vs us → t vs σ H Q →
    wpAny (model X.prog X.w) X.A (assignInOrder ((assignEach ts X.env).map (·.2)) us) (fun _ s' => ∃ σ' H', Inv X pins σ' H' s' ∧ Q σ' H') X.xe s
section
variable {X : Cx} {pos : Pos}
def gName (i : Nat) : TG := fun v σ H Q => Q (σ.set i (some v)) H
theorem pg_name {i : Nat} {x : Str} (hN : X.N.Nodup) (hi : X.N[i]? = some x) (hx : Loc X.env.scope x) (hf : X.fn x = true ∨ X.env.scope.names.lookup x = some .local := by first | exact .inl rfl | exact .inr rfl | assumption) : PG X (.Name x pos) (gName i) := by
  intro pins s σ H v u Q I r h
  exact wpAny_assign_Name (store_ok I hN hi hx r (fun s' I' => ⟨_, H, I', h⟩) hf)
def gNil : TGs := fun vs σ H Q => vs = [] ∧ Q σ H
def gCons (t : TG) (u : TGs) : TGs := fun vs σ H Q => ∃ v r, vs = v :: r ∧ t v σ H fun σ' H' => u r σ' H' Q
theorem pgs_nil : PGs X [] gNil := by
  intro pins s σ H vs us Q I r h
  obtain ⟨e, h⟩ := h
  subst e
  cases r
  exact assignInOrder_nil ⟨σ, H, I, h⟩
theorem pgs_cons {e : Expr} {es : List Expr} {t : TG} {u : TGs} (h1 : PG X e t) (h2 : PGs X es u)
    (hs : (assignEach (e :: es) X.env).map (·.2) = assign e X.env :: (assignEach es X.env).map (·.2) := by rfl) : PGs X (e :: es) (gCons t u) := by
  intro pins s σ H vs us Q I r h
  obtain ⟨v, vr, e1, h⟩ := h
  subst e1
  cases r with
  | cons r rr =>
    rw [hs]
    refine assignInOrder_cons (thn (h1 pins s σ H _ _ _ I r h) fun _ s1 ⟨σ1, H1, I1, q1⟩ => ?_)
    exact h2 pins s1 σ1 H1 _ _ Q I1 rr q1
def gTup (K : PySem.W.Frag) (n : Nat) (t : TGs) : TG := fun v σ H Q => ∃ a xs, v = .ref a ∧ SqT K H a xs ∧ xs.length = n ∧ t xs σ H Q
theorem pg_tup {es : List Expr} {k : Nat} {t : TGs} {n : Nat} (hc : X.calm = true) (h : PGs X es t)
    (hn : (assignEach es X.env).length = n := by rfl) (hst : (assignEach es X.env).findIdx? (·.1) = none := by rfl) : PG X (.Tuple es k pos) (gTup X.K n t) := by
  intro pins s σ H v u Q I r hw
  obtain ⟨a, xs, e1, hq, hl, hw⟩ := hw
  subst e1
  cases r
  obtain ⟨its, rv, ht, hz⟩ := I.tuple hq
  refine assign_Tuple_tuple (I.ok.hd hc) ht (by simp [hn, ← hl, rv.length]) hst fun h' hx => ?_
  have I1 : Inv X pins σ H { s with heap := h' } := I.kept (t' := s.toks) fun b o e => hx b o (Nat.ne_of_lt (Heap.lt_size e)) e
  exact h pins _ σ H xs _ Q I1 (by simpa using rv) hw
def tAsg (te : TE) (g : TG) : TS := fun D σ H => te σ H fun x H1 => g x σ H1 D.nx
theorem ps_asg {tg e : Expr} {te : TE} {g : TG} (he : PE X e te) (hg : PG X tg g) (hs : swapsWithSole [tg] e pos.line X.env = pure false := by rfl) (hw : swappedStores [tg] e X.env = pure none := by rfl)
    (h1 : (assignEach [tg] X.env).map (·.2) = [assign tg X.env] := by rfl) : PS X (.Assign [tg] e pos) (tAsg te g) := by
  intro pins s σ H D I h
  refine wpAny_Assign_stores (thn (he pins s σ H _ I h) fun v s1 ⟨x, H1, I1, r1, q1⟩ => ?_) hs hw
  rw [h1]
  exact thn (hg pins s1 σ H1 x v _ I1 r1 q1) fun _ s2 q => q
theorem ps_set {i : Nat} {x : Str} {e : Expr} {te : TE} {pos' : Pos} (hN : X.N.Nodup) (hi : X.N[i]? = some x) (hx : Loc X.env.scope x) (he : PE X e te) (hs : swapsWith e (some (.Name x pos')) pos.line X.env = pure false := by rfl) (hf : X.fn x = true ∨ X.env.scope.names.lookup x = some .local := by first | exact .inl rfl | exact .inr rfl | assumption) :
    PS X (.Assign [.Name x pos'] e pos) (tAsg te (gName i)) := by
  intro pins s σ H D I h
  refine wpAny_Assign_Name (thn (he pins s σ H _ I h) fun v s1 ⟨y, H1, I1, r1, q1⟩ => ?_) hs
  exact store_ok I1 hN hi hx r1 (fun s2 I2 => ⟨_, H1, I2, q1⟩) hf
end
section
variable {X : Cx} {pos : Pos}
def tWhile (c : TT) (tb : TS) : TS := fun D σ H => ∃ W : Nat → St → Hp → Prop, (∃ m, W m σ H) ∧ ∀ m σ H, W m σ H →
  c σ H fun b H1 => if b = true then ∃ N : St → Hp → Prop, (∀ σ' H', N σ' H' → ∃ m', m' < m ∧ W m' σ' H') ∧ tb { D with nx := N, ct := N, bk := D.nx } σ H1 else D.nx σ H1
theorem ps_while {c : Expr} {body : List Stmt} {tc : TT} {tb : TS} (hp : PassesOwn (model X.prog X.w) X.A X.env X.xe) (hc : PT X c tc) (hb : PSs X body tb) : PS X (.While c body [] pos) (tWhile tc tb) := by
  intro pins s σ H D I h
  obtain ⟨W, ⟨m0, w0⟩, turn⟩ := h
  refine wpAny_While (codeAny_whileLoop (fun n s' => ∃ σ' H', Inv X pins σ' H' s' ∧ W n σ' H') ?_ m0 ⟨σ, H, I, w0⟩)
  rintro n s1 ⟨σ1, H1, I1, w1⟩
  refine wpAny_passesOwn hp (thn (hc pins s1 σ1 H1 _ I1 (turn n σ1 H1 w1)) fun b s2 ⟨H2, I2, q2⟩ => ?_)
  cases b with
  | true =>
    obtain ⟨N, hN, q2⟩ := q2
    rw [if_pos rfl]
    refine wpAny_passesOwn hp (thn (hb pins s2 σ1 H2 _ I2 q2) fun f s3 q3 => ?_)
    cases f with
    | next =>
      obtain ⟨σ3, H3, I3, n3⟩ := q3
      obtain ⟨m', hm, w3⟩ := hN σ3 H3 n3
      exact ⟨m', hm, σ3, H3, I3, w3⟩
    | cont =>
      obtain ⟨σ3, H3, I3, n3⟩ := q3
      obtain ⟨m', hm, w3⟩ := hN σ3 H3 n3
      exact ⟨m', hm, σ3, H3, I3, w3⟩
    | brk => exact q3
    | ret v => exact q3
  | false =>
    rw [if_neg Bool.false_ne_true]
    exact wpAny_execs_nil ⟨σ1, H2, I2, q2⟩
end
structure It where
  go : Nat → Hp → Prop
  yld : Nat → Hp → V → Hp → Prop
  stop : Nat → Hp → Prop
def FpOk (X : Cx) (pins : List (Addr × Obj)) (H : Hp) (b : Addr) : Prop :=
  H b = none ∧ b ≠ X.env.locals ∧ b ∉ X.fs ∧ (b ∈ X.ex ∨ X.s₀.heap.objs.size ≤ b) ∧ (∀ x c, X.env.cells.lookup x = some c → c ≠ b) ∧ ∀ p ∈ X.pn ++ pins, p.1 ≠ b
theorem Inv.fpOk {X : Cx} {pins : List (Addr × Obj)} {σ : St} {H H' : Hp} {s : Shared} {b : Addr} (I : Inv X pins σ H s) (hb : s.heap.objs.size ≤ b) (hn : H' b = none) : FpOk X pins H' b := by
  refine ⟨hn, Nat.ne_of_gt (Nat.lt_of_lt_of_le I.lt hb), I.nofs hb, .inr (Nat.le_trans I.sz hb), fun x c e z => ?_, fun p hp z => ?_⟩
  · obtain ⟨v, q⟩ := I.cell x c e
    exact absurd (Nat.lt_of_lt_of_le q.lt (by rw [z]; exact hb)) (Nat.lt_irrefl _)
  · exact absurd (Nat.lt_of_lt_of_le (Heap.lt_size (I.pin p hp).1) (by rw [z]; exact hb)) (Nat.lt_irrefl _)
structure Turn (P : Program) (w : World) (K : PySem.W.Frag) (tg : Expr) (J : It) (fp : List Addr) (it : Addr) (tn : Nat → Heap → Prop) : Prop where
  mem : it ∈ fp
  obj : ∀ i h, tn i h → ∀ b ∈ fp, ∃ o, h.get? b = some o ∧ ∀ v, o.data ≠ .cell v
  keep : ∀ i h h', tn i h → (∀ b ∈ fp, ∀ o, h.get? b = some o → h'.get? b = some o) → tn i h'
  item : ∀ (X : Cx), X.prog = P → X.w = w → X.K = K → X.calm = true → ∀ (i : Nat) (pins : List (Addr × Obj)) (s : Shared) (σ : St) (H : Hp) (E : Value → Shared → Prop), Inv X pins σ H s → (∀ b ∈ fp, FpOk X pins H b) → tn i s.heap → J.go i H →
    wpAny (model P w) X.A (pyNext (.ref it)) (fun r s1 => ∃ u, r = some u ∧
      wpAny (model P w) X.A (letOwnedTupleGo tg (.ref it) u) (fun _ s2 => ∃ x H', Inv X pins σ H' s2 ∧ RelV x u ∧ J.yld i H x H' ∧ tn (i + 1) s2.heap ∧ ∀ b ∈ fp, H' b = none) E s1) E s
  done : ∀ (X : Cx), X.prog = P → X.w = w → X.K = K → X.calm = true → ∀ (i : Nat) (pins : List (Addr × Obj)) (s : Shared) (σ : St) (H : Hp) (E : Value → Shared → Prop), Inv X pins σ H s → (∀ b ∈ fp, FpOk X pins H b) → tn i s.heap → J.stop i H →
    wpAny (model P w) X.A (pyNext (.ref it)) (fun r s1 => r = none ∧ Inv X pins σ H s1) E s
  self : ∀ (A : Around) (i : Nat) (s : Shared) (Q : Value → Shared → Prop) (E : Value → Shared → Prop), tn i s.heap → Q (.ref it) s → wpAny (model P w) A (pyIter (.ref it)) Q E s
abbrev TI := St → Hp → (It → Hp → Prop) → Prop
def PIE (X : Cx) (pins : List (Addr × Obj)) (σ : St) (tg : Expr) (R : It → Hp → Prop) (itv : Value) (s2 : Shared) : Prop :=
  ∃ (it : Addr) (fp : List Addr) (tn : Nat → Heap → Prop) (J : It) (H' : Hp), itv = .ref it ∧ Inv X pins σ H' s2 ∧ Turn X.prog X.w X.K tg J fp it tn ∧ tn 0 s2.heap ∧ (∀ b ∈ fp, FpOk X pins H' b) ∧ R J H'
def PI (X : Cx) (tg iter : Expr) (wi : TI) : Prop :=
  ∀ (pins : List (Addr × Obj)) (s : Shared) (σ : St) (H : Hp) (R : It → Hp → Prop), Inv X pins σ H s → wi σ H R →
    wpAny (model X.prog X.w) X.A (eval iter X.env) (fun v s1 => wpAny (model X.prog X.w) X.A (pyIter v) (PIE X pins σ tg R) X.xe s1) X.xe s
theorem go_of {M : Model} {A : Around} {E : Value → Shared → Prop} {s : Shared} {tg : Expr} {it : Addr} {u : Value} {o : Obj} {n : String} {vs : Array Value} {Q : Unit → Shared → Prop} (ho : s.heap.get? it = some o) (hc : o.cls = .type n) (hd : o.data = .fields vs)
    (hn : ["enumerate", "zip", "dict_itemiterator", "dict_reverseitemiterator", "odict_iterator", "itertools.zip_longest", "itertools.pairwise"].contains n = false) (hQ : Q () s) : wpAny M A (letOwnedTupleGo tg (.ref it) u) Q E s := by
  unfold letOwnedTupleGo
  cases tg <;> first
    | exact wpAny_pure hQ
    | (cases u <;> first
        | exact wpAny_pure hQ
        | (refine wpAny_bind (wpAny_load ho ?_)
           rw [hc, hd]
           show wpAny M A (if (["enumerate", "zip", "dict_itemiterator", "dict_reverseitemiterator", "odict_iterator", "itertools.zip_longest", "itertools.pairwise"].contains n && vs[0]? == some (rawInt _)) = true then _ else _) Q E s
           rw [if_neg (by intro h; rw [hn, Bool.false_and] at h; cases h)]
           exact wpAny_pure hQ))
def Itl (K : PySem.W.Frag) (a : Addr) : It :=
  ⟨fun i H => ∃ xs x, SqL K H a xs ∧ xs[i]? = some x, fun i H x H' => H' = H ∧ ∀ xs, SqL K H a xs → xs[i]? = some x, fun i H => ∃ xs, SqL K H a xs ∧ xs.length ≤ i⟩
def Itt (K : PySem.W.Frag) (a : Addr) : It :=
  ⟨fun i H => ∃ xs x, SqT K H a xs ∧ xs[i]? = some x, fun i H x H' => H' = H ∧ ∀ xs, SqT K H a xs → xs[i]? = some x, fun i H => ∃ xs, SqT K H a xs ∧ xs.length ≤ i⟩
def Itr (lo : Int) (n : Nat) : It := ⟨fun i _ => i < n, fun i H x H' => H' = H ∧ x = .int (lo + i), fun i _ => n ≤ i⟩
theorem turn_list {P : Program} {w : World} {K : PySem.W.Frag} {tg : Expr} (a it : Addr) : Turn P w K tg (Itl K a) [it] it (fun i h => h.IsListIter it a i) where
  mem := by simp
  obj := fun i h st b hb => by
    have e : b = it := by simpa using hb
    subst e
    obtain ⟨o, e, c, d⟩ := st
    exact ⟨o, e, fun v z => by rw [d] at z; cases z⟩
  keep := fun i h h' st k => st.at fun o e => k it (by simp) o e
  item := by
    intro X hP hw hK hc i pins s σ H E I hf st hg
    subst hP hw hK
    obtain ⟨xs, x, hq, hx⟩ := hg
    obtain ⟨its, rv, p, hz⟩ := I.list hq
    obtain ⟨u, hu, ru⟩ := rv.get hx
    obtain ⟨f0, f1, f2, f3, f4, f5⟩ := hf it (by simp)
    refine wpAny_pyNext_list_item st p.isList (x := u) (by simpa using hu) fun h' st' sb => ?_
    have I1 : Inv X pins σ H { s with heap := h' } := I.turned (t' := s.toks) (fun b o hb e => (sb.2 b hb).trans e) f0 f1 f3 f4 f5
    obtain ⟨o, e, c, d⟩ := id st'
    exact ⟨u, rfl, go_of (s := { s with heap := h' }) e c d (by decide) ⟨x, H, I1, ru, ⟨rfl, fun ys hy => by rw [I.list_inj hy hq]; exact hx⟩, st', fun b hb => (hf b hb).1⟩⟩
  done := by
    intro X hP hw hK hc i pins s σ H E I hf st hg
    subst hP hw hK
    obtain ⟨xs, hq, hx⟩ := hg
    obtain ⟨its, rv, p, hz⟩ := I.list hq
    obtain ⟨f0, f1, f2, f3, f4, f5⟩ := hf it (by simp)
    have hl := rv.length
    exact wpAny_pyNext_list_end (I.ok.hd hc) st p.isList (by simp; omega) fun h' eb => ⟨rfl, I.turned (t' := s.toks) (fun b o hb e => eb b o hb e) f0 f1 f3 f4 f5⟩
  self := fun _ _ _ _ _ st h => wpAny_pyIter_listiter st h
theorem turn_tuple {P : Program} {w : World} {K : PySem.W.Frag} {tg : Expr} (a it : Addr) : Turn P w K tg (Itt K a) [it] it (fun i h => h.IsTupleIter it a i) where
  mem := by simp
  obj := fun i h st b hb => by
    have e : b = it := by simpa using hb
    subst e
    obtain ⟨o, e, c, d⟩ := st
    exact ⟨o, e, fun v z => by rw [d] at z; cases z⟩
  keep := fun i h h' st k => st.at fun o e => k it (by simp) o e
  item := by
    intro X hP hw hK hc i pins s σ H E I hf st hg
    subst hP hw hK
    obtain ⟨xs, x, hq, hx⟩ := hg
    obtain ⟨its, rv, p, hz⟩ := I.tuple hq
    obtain ⟨u, hu, ru⟩ := rv.get hx
    obtain ⟨f0, f1, f2, f3, f4, f5⟩ := hf it (by simp)
    refine wpAny_pyNext_tuple_item st (show s.heap.IsTuple a its.toArray from p) (x := u) (by simpa using hu) fun h' st' sb => ?_
    have I1 : Inv X pins σ H { s with heap := h' } := I.turned (t' := s.toks) (fun b o hb e => (sb.2 b hb).trans e) f0 f1 f3 f4 f5
    obtain ⟨o, e, c, d⟩ := id st'
    exact ⟨u, rfl, go_of (s := { s with heap := h' }) e c d (by decide) ⟨x, H, I1, ru, ⟨rfl, fun ys hy => by rw [I.tuple_inj hy hq]; exact hx⟩, st', fun b hb => (hf b hb).1⟩⟩
  done := by
    intro X hP hw hK hc i pins s σ H E I hf st hg
    subst hP hw hK
    obtain ⟨xs, hq, hx⟩ := hg
    obtain ⟨its, rv, p, hz⟩ := I.tuple hq
    obtain ⟨f0, f1, f2, f3, f4, f5⟩ := hf it (by simp)
    have hl := rv.length
    exact wpAny_pyNext_tuple_end (I.ok.hd hc) st (show s.heap.IsTuple a its.toArray from p) (by simp; omega) fun h' eb => ⟨rfl, I.turned (t' := s.toks) (fun b o hb e => eb b o hb e) f0 f1 f3 f4 f5⟩
  self := fun _ _ _ _ _ st h => wpAny_pyIter_tupleiter st h
theorem turn_range {P : Program} {w : World} {K : PySem.W.Frag} {tg : Expr} (it : Addr) (lo : Int) (n : Nat) : Turn P w K tg (Itr lo n) [it] it (fun i h => IsRangeIter h it (lo + (i : Nat) * 1) ((n : Int) - (i : Nat)) 1) where
  mem := by simp
  obj := fun i h st b hb => by
    have e : b = it := by simpa using hb
    subst e
    exact ⟨_, st, fun v z => by
      have z' : Data.fields _ = Data.cell v := z
      cases z'⟩
  keep := fun i h h' st k => k it (by simp) _ st
  item := by
    intro X hP hw hK hc i pins s σ H E I hf st hg
    subst hP hw hK
    obtain ⟨f0, f1, f2, f3, f4, f5⟩ := hf it (by simp)
    have W := Walks.range (prog := X.prog) (w := X.w) (I.ok.hd hc) it lo 1 n
    refine W.item i s _ _ hg st fun v h' tk hv st' kk => ?_
    obtain ⟨t, rfl⟩ := hv
    have I1 : Inv X pins σ H { s with heap := h', toks := tk } := I.turned (fun b o hb e => kk b o (by simpa using hb) e) f0 f1 f3 f4 f5
    refine ⟨_, rfl, go_of (s := { s with heap := h', toks := tk }) (n := "range_iterator") st' rfl rfl (by decide) ⟨.int (lo + i), H, I1, ⟨t, ?_⟩, ⟨rfl, rfl⟩, st', fun b hb => (hf b hb).1⟩⟩
    rw [Int.mul_one]
  done := by
    intro X hP hw hK hc i pins s σ H E I hf st hg
    subst hP hw hK
    obtain ⟨f0, f1, f2, f3, f4, f5⟩ := hf it (by simp)
    exact wpAny_pyNext_range_end (I.ok.hd hc) st (by have : n ≤ i := hg; omega) fun h' eb => ⟨rfl, I.turned (t' := s.toks) (fun b o hb e => eb b o hb e) f0 f1 f3 f4 f5⟩
  self := fun _ _ _ _ _ st h => wpAny_pyIter_rangeiter st h
end L2
namespace L2
open PySem PySem.Spec PyProof.Rows
section
variable {X : Cx} {tg : Expr}
def iList (K : PySem.W.Frag) (tl : TE) : TI := fun σ H R => tl σ H fun x H1 => ∃ a, x = .ref a ∧ (∃ xs, SqL K H1 a xs) ∧ R (Itl K a) H1
def iTup (K : PySem.W.Frag) (tl : TE) : TI := fun σ H R => tl σ H fun x H1 => ∃ a, x = .ref a ∧ (∃ xs, SqT K H1 a xs) ∧ R (Itt K a) H1
theorem pi_list {l : Expr} {tl : TE} (hl : PE X l tl) : PI X tg l (iList X.K tl) := by
  intro pins s σ H R I h
  refine thn (hl pins s σ H _ I h) fun v s1 ⟨x, H1, I1, r1, q1⟩ => ?_
  obtain ⟨a, e, ⟨xs, hq⟩, q⟩ := q1
  subst e
  cases r1
  obtain ⟨its, rv, p, hz⟩ := I1.list hq
  refine wpAny_pyIter_list p.isList ?_
  refine ⟨s1.heap.objs.size, [s1.heap.objs.size], _, _, H1, rfl, I1.kept (t' := s1.toks) fun b o e => Heap.get?_push_of_some _ e, turn_list a _, ⟨_, Heap.get?_push_size _ rfl, rfl, rfl⟩, fun b hb => ?_, q⟩
  have e : b = s1.heap.objs.size := by simpa using hb
  subst e
  exact I1.fpOk (Nat.le_refl _) (I1.hok.fresh (Nat.le_refl _))
theorem pi_tup {l : Expr} {tl : TE} (hl : PE X l tl) : PI X tg l (iTup X.K tl) := by
  intro pins s σ H R I h
  refine thn (hl pins s σ H _ I h) fun v s1 ⟨x, H1, I1, r1, q1⟩ => ?_
  obtain ⟨a, e, ⟨xs, hq⟩, q⟩ := q1
  subst e
  cases r1
  obtain ⟨its, rv, p, hz⟩ := I1.tuple hq
  refine wpAny_pyIter_tuple (show s1.heap.IsTuple a its.toArray from p) ?_
  refine ⟨s1.heap.objs.size, [s1.heap.objs.size], _, _, H1, rfl, I1.kept (t' := s1.toks) fun b o e => Heap.get?_push_of_some _ e, turn_tuple a _, ⟨_, Heap.get?_push_size _ rfl, rfl, rfl⟩, fun b hb => ?_, q⟩
  have e : b = s1.heap.objs.size := by simpa using hb
  subst e
  exact I1.fpOk (Nat.le_refl _) (I1.hok.fresh (Nat.le_refl _))
theorem range_it {pins : List (Addr × Obj)} {σ : St} {H : Hp} {s : Shared} {R : It → Hp → Prop} {E : Value → Shared → Prop} {lo hi : Int} {t u v : Tok} {tk : Nat} (I : Inv X pins σ H s) (h1 : -(2 ^ 62) ≤ lo) (h2 : lo < 2 ^ 62) (h3 : -(2 ^ 62) ≤ hi) (h4 : hi < 2 ^ 62)
    (q : R (Itr lo (hi - lo).toNat) H) : wpAny (model X.prog X.w) X.A (pyIter (.ref s.heap.objs.size)) (PIE X pins σ tg R) E { s with heap := s.heap.push { cls := .type "range", data := .fields #[.int lo t, .int hi u, .int 1 v] }, toks := tk } := by
  refine wpAny_pyIter_range (IsRange.new ..) (small_one h1 h2 h3 h4) ?_
  have I1 : Inv X pins σ H { s with heap := s.heap.push { cls := .type "range", data := .fields #[.int lo t, .int hi u, .int 1 v] }, toks := tk } := I.kept fun b o e => Heap.get?_push_of_some _ e
  refine ⟨(s.heap.push { cls := .type "range", data := .fields #[.int lo t, .int hi u, .int 1 v] }).objs.size, [(s.heap.push { cls := .type "range", data := .fields #[.int lo t, .int hi u, .int 1 v] }).objs.size], _, _, H, rfl,
    I1.kept (t' := tk) fun b o e => Heap.get?_push_of_some _ e, turn_range _ lo (hi - lo).toNat, ?_, fun b hb => ?_, q⟩
  · have e1 : lo + ((0 : Nat) : Int) * 1 = lo := by simp
    have e2 : (((hi - lo).toNat : Nat) : Int) - ((0 : Nat) : Int) = Builtin.Range.rangeSize lo hi 1 := by rw [rangeSize_one]; split <;> omega
    show IsRangeIter _ _ (lo + ((0 : Nat) : Int) * 1) ((((hi - lo).toNat : Nat) : Int) - ((0 : Nat) : Int)) 1
    rw [e1, e2]
    exact Heap.get?_push_size _ rfl
  · have e : b = (s.heap.push { cls := .type "range", data := .fields #[.int lo t, .int hi u, .int 1 v] }).objs.size := by simpa using hb
    subst e
    exact I1.fpOk (Nat.le_refl _) (I1.hok.fresh (Nat.le_refl _))
def iRng1 (ta : TA) : TI := fun σ H R => ta σ H fun vs H1 => ∃ j : Int, vs = [.int j] ∧ -(2 ^ 62) ≤ j ∧ j < 2 ^ 62 ∧ R (Itr 0 j.toNat) H1
theorem pi_range1 {a : Expr} {ta : TA} {p pos : Pos} (hg : Gl X "range") (hm : X.mg "range" = none) (ha : PA X [a] ta) (hs : starEach [a] X.env = [(false, eval a X.env)] := by rfl) : PI X tg (.Call (.Name "range" p) [a] [] pos) (iRng1 ta) := by
  intro pins s σ H R I h
  refine Call_ (ld_blt I hg hm boot_range (PyProof.Rows.callWith_type1 (thn (ha pos pins s σ H _ I h) fun us s1 ⟨vs, H1, I1, r1, q1⟩ => ?_) hs rfl))
  obtain ⟨j, e, q1, q2, q⟩ := q1
  subst e
  cases r1 with
  | cons r rr =>
    cases rr
    obtain ⟨t, rfl⟩ := r
    exact call_range_1 (range_it I1 (by omega) (by omega) q1 q2 (by simpa using q))
def tFor (wi : TI) (g : TG) (tb : TS) : TS := fun D σ H => wi σ H fun J H1 => ∃ W : Nat → Nat → St → Hp → Prop, (∃ m, W 0 m σ H1) ∧ ∀ i m σ H, W i m σ H →
  (J.stop i H ∧ D.nx σ H) ∨ (J.go i H ∧ ∃ N : St → Hp → Prop, (∀ σ' H', N σ' H' → ∃ m', m' < m ∧ W (i + 1) m' σ' H') ∧ ∀ x H', J.yld i H x H' → g x σ H' fun σ2 H2 => tb { D with nx := N, ct := N, bk := D.nx } σ2 H2)
def pinsAt (fp : List Addr) (h : Heap) : List (Addr × Obj) := fp.filterMap fun b => (h.get? b).map fun o => (b, o)
theorem mem_pinsAt {fp : List Addr} {h : Heap} {b : Addr} {o : Obj} (hb : b ∈ fp) (e : h.get? b = some o) : (b, o) ∈ pinsAt fp h := List.mem_filterMap.mpr ⟨b, hb, by rw [e]; rfl⟩
theorem of_pinsAt {fp : List Addr} {h : Heap} {p : Addr × Obj} (hp : p ∈ pinsAt fp h) : p.1 ∈ fp ∧ h.get? p.1 = some p.2 := by
  obtain ⟨b, hb, e⟩ := List.mem_filterMap.mp hp
  cases q : h.get? b with
  | none => rw [q] at e; cases e
  | some o =>
    rw [q] at e
    have e' : (b, o) = p := Option.some.inj e
    subst e'
    exact ⟨hb, q⟩
theorem Inv.pinned {pins : List (Addr × Obj)} {σ : St} {H : Hp} {s : Shared} {fp : List Addr} (I : Inv X pins σ H s) (hf : ∀ b ∈ fp, FpOk X pins H b) (ho : ∀ b ∈ fp, ∃ o, s.heap.get? b = some o ∧ ∀ v, o.data ≠ .cell v) : Inv X (pins ++ pinsAt fp s.heap) σ H s :=
  I.pins_of fun p hp => (List.mem_append.mp hp).elim (fun z => I.pin p (List.mem_append_right _ z)) fun z => by
    obtain ⟨hb, e⟩ := of_pinsAt z
    obtain ⟨f0, f1, f2, _⟩ := hf p.1 hb
    obtain ⟨o, e', d⟩ := ho p.1 hb
    rw [e] at e'; cases e'
    exact ⟨e, f0, f1, f2, d⟩
theorem Inv.unpinned {pins pl : List (Addr × Obj)} {σ : St} {H : Hp} {s : Shared} (I : Inv X (pins ++ pl) σ H s) : Inv X pins σ H s := I.pins_of fun p hp => I.pin p (List.mem_append_right _ (List.mem_append_left _ hp))
theorem ps_for {iter : Expr} {body : List Stmt} {wi : TI} {g : TG} {tb : TS} {pos : Pos} (hp : PassesOwn (model X.prog X.w) X.A X.env X.xe) (hc : X.calm = true) (hi : PI X tg iter wi) (hg : PG X tg g) (hb : PSs X body tb)
    (hs : ∀ x, foldedSetIterable iter X.env x = pure x := by intro _; rfl) : PS X (.For tg iter body [] pos) (tFor wi g tb) := by
  intro pins s σ H D I h
  refine wpAny_For (thn (hi pins s σ H _ I h) fun v s1 h1 => thn h1 fun itv s2 h2 => ?_) hs
  obtain ⟨it, fp, tn, J, H2, e, I2, T, st2, f2, W, ⟨m0, w0⟩, turn⟩ := h2
  subst e
  have stat : ∀ {H' : Hp}, (∀ b ∈ fp, H' b = none) → ∀ b ∈ fp, FpOk X pins H' b := fun hn b hb => ⟨hn b hb, (f2 b hb).2⟩
  refine codeAny_forLoop_any (fun n s' => ∃ i σ' H', Inv X pins σ' H' s' ∧ tn i s'.heap ∧ (∀ b ∈ fp, H' b = none) ∧ W i n σ' H') ?_ m0 ⟨0, σ, H2, I2, st2, fun b hb => (f2 b hb).1, w0⟩
  rintro n s3 ⟨i, σ3, H3, I3, st3, fr3, w3⟩
  rcases turn i n σ3 H3 w3 with ⟨stop, qn⟩ | ⟨go, N, hN, step⟩
  · refine wpAny_passesOwn hp (thn (T.done X rfl rfl rfl hc i pins s3 σ3 H3 X.xe I3 (stat fr3) st3 stop) fun r s4 ⟨hr, I4⟩ => ?_)
    subst hr
    exact wpAny_execs_nil ⟨σ3, H3, I4, qn⟩
  · refine wpAny_passesOwn hp (thn (T.item X rfl rfl rfl hc i pins s3 σ3 H3 X.xe I3 (stat fr3) st3 go) fun r s4 ⟨u, hr, h4⟩ => ?_)
    subst hr
    refine wpAny_passesOwn hp (thn h4 fun _ s5 ⟨x, H5, I5, r5, y5, st5, fr5⟩ => ?_)
    have I5' := I5.pinned (stat fr5) (T.obj _ _ st5)
    refine wpAny_passesOwn hp (thn (hg _ s5 σ3 H5 x u _ I5' r5 (step x H5 y5)) fun _ s6 ⟨σ6, H6, I6, q6⟩ => ?_)
    refine wpAny_passesOwn hp (thn (hb _ s6 σ6 H6 _ I6 q6) fun f s7 q7 => ?_)
    have again : ∀ {σ7 : St} {H7 : Hp}, Inv X (pins ++ pinsAt fp s5.heap) σ7 H7 s7 → N σ7 H7 → ∃ m, m < n ∧ ∃ i σ' H', Inv X pins σ' H' s7 ∧ tn i s7.heap ∧ (∀ b ∈ fp, H' b = none) ∧ W i m σ' H' := fun {σ7 H7} I7 n7 => by
      obtain ⟨m', hm, w7⟩ := hN σ7 H7 n7
      refine ⟨m', hm, i + 1, σ7, H7, I7.unpinned, T.keep _ _ _ st5 fun b hb o e => (I7.pin (b, o) (List.mem_append_right _ (List.mem_append_right _ (mem_pinsAt hb e)))).1, fun b hb => ?_, w7⟩
      obtain ⟨o, e, d⟩ := T.obj _ _ st5 b hb
      exact (I7.pin (b, o) (List.mem_append_right _ (List.mem_append_right _ (mem_pinsAt hb e)))).2.1
    cases f with
    | next => obtain ⟨σ7, H7, I7, n7⟩ := q7; exact again I7 n7
    | cont => obtain ⟨σ7, H7, I7, n7⟩ := q7; exact again I7 n7
    | brk => obtain ⟨σ7, H7, I7, q7⟩ := q7; exact ⟨σ7, H7, I7.unpinned, q7⟩
    | ret v => obtain ⟨x7, σ7, H7, I7, r7, q7⟩ := q7; exact ⟨x7, σ7, H7, I7.unpinned, r7, q7⟩
end
theorem for_list {K : PySem.W.Frag} {a : Addr} {xs : List V} {g : TG} {tb : TS} {D : Ends} {σ : St} {H : Hp} (Pv : Nat → St → Hp → Prop) (h0 : Pv 0 σ H) (hl : ∀ i σ H, i ≤ xs.length → Pv i σ H → SqL K H a xs)
    (hs : ∀ i x σ H, xs[i]? = some x → Pv i σ H → g x σ H fun σ2 H2 => tb { D with nx := Pv (i + 1), ct := Pv (i + 1), bk := D.nx } σ2 H2) (hd : ∀ σ H, Pv xs.length σ H → D.nx σ H) :
    ∃ W : Nat → Nat → St → Hp → Prop, (∃ m, W 0 m σ H) ∧ ∀ i m σ H, W i m σ H →
      ((Itl K a).stop i H ∧ D.nx σ H) ∨ ((Itl K a).go i H ∧ ∃ N : St → Hp → Prop, (∀ σ' H', N σ' H' → ∃ m', m' < m ∧ W (i + 1) m' σ' H') ∧ ∀ x H', (Itl K a).yld i H x H' → g x σ H' fun σ2 H2 => tb { D with nx := N, ct := N, bk := D.nx } σ2 H2) := by
  refine ⟨fun i m σ H => m = xs.length - i ∧ i ≤ xs.length ∧ Pv i σ H, ⟨xs.length, by simp, Nat.zero_le _, h0⟩, ?_⟩
  rintro i m σ H ⟨rfl, hi, p⟩
  have q := hl i σ H hi p
  by_cases hlt : i < xs.length
  · refine .inr ⟨⟨xs, xs[i], q, by simp [hlt]⟩, Pv (i + 1), fun σ' H' p' => ⟨xs.length - (i + 1), by omega, rfl, hlt, p'⟩, fun x H' y => ?_⟩
    obtain ⟨e, y⟩ := y
    subst e
    exact hs i x σ _ (y xs q) p
  · have e : i = xs.length := by omega
    subst e
    exact .inl ⟨⟨xs, q, Nat.le_refl _⟩, hd σ H p⟩
theorem for_tup {K : PySem.W.Frag} {a : Addr} {xs : List V} {g : TG} {tb : TS} {D : Ends} {σ : St} {H : Hp} (Pv : Nat → St → Hp → Prop) (h0 : Pv 0 σ H) (hl : ∀ i σ H, i ≤ xs.length → Pv i σ H → SqT K H a xs)
    (hs : ∀ i x σ H, xs[i]? = some x → Pv i σ H → g x σ H fun σ2 H2 => tb { D with nx := Pv (i + 1), ct := Pv (i + 1), bk := D.nx } σ2 H2) (hd : ∀ σ H, Pv xs.length σ H → D.nx σ H) :
    ∃ W : Nat → Nat → St → Hp → Prop, (∃ m, W 0 m σ H) ∧ ∀ i m σ H, W i m σ H →
      ((Itt K a).stop i H ∧ D.nx σ H) ∨ ((Itt K a).go i H ∧ ∃ N : St → Hp → Prop, (∀ σ' H', N σ' H' → ∃ m', m' < m ∧ W (i + 1) m' σ' H') ∧ ∀ x H', (Itt K a).yld i H x H' → g x σ H' fun σ2 H2 => tb { D with nx := N, ct := N, bk := D.nx } σ2 H2) := by
  refine ⟨fun i m σ H => m = xs.length - i ∧ i ≤ xs.length ∧ Pv i σ H, ⟨xs.length, by simp, Nat.zero_le _, h0⟩, ?_⟩
  rintro i m σ H ⟨rfl, hi, p⟩
  have q := hl i σ H hi p
  by_cases hlt : i < xs.length
  · refine .inr ⟨⟨xs, xs[i], q, by simp [hlt]⟩, Pv (i + 1), fun σ' H' p' => ⟨xs.length - (i + 1), by omega, rfl, hlt, p'⟩, fun x H' y => ?_⟩
    obtain ⟨e, y⟩ := y
    subst e
    exact hs i x σ _ (y xs q) p
  · have e : i = xs.length := by omega
    subst e
    exact .inl ⟨⟨xs, q, Nat.le_refl _⟩, hd σ H p⟩
theorem for_range {lo : Int} {n : Nat} {g : TG} {tb : TS} {D : Ends} {σ : St} {H : Hp} (Pv : Nat → St → Hp → Prop) (h0 : Pv 0 σ H)
    (hs : ∀ i σ H, i < n → Pv i σ H → g (.int (lo + i)) σ H fun σ2 H2 => tb { D with nx := Pv (i + 1), ct := Pv (i + 1), bk := D.nx } σ2 H2) (hd : ∀ σ H, Pv n σ H → D.nx σ H) :
    ∃ W : Nat → Nat → St → Hp → Prop, (∃ m, W 0 m σ H) ∧ ∀ i m σ H, W i m σ H →
      ((Itr lo n).stop i H ∧ D.nx σ H) ∨ ((Itr lo n).go i H ∧ ∃ N : St → Hp → Prop, (∀ σ' H', N σ' H' → ∃ m', m' < m ∧ W (i + 1) m' σ' H') ∧ ∀ x H', (Itr lo n).yld i H x H' → g x σ H' fun σ2 H2 => tb { D with nx := N, ct := N, bk := D.nx } σ2 H2) := by
  refine ⟨fun i m σ H => m = n - i ∧ i ≤ n ∧ Pv i σ H, ⟨n, by simp, Nat.zero_le _, h0⟩, ?_⟩
  rintro i m σ H ⟨rfl, hi, p⟩
  by_cases hlt : i < n
  · refine .inr ⟨hlt, Pv (i + 1), fun σ' H' p' => ⟨n - (i + 1), by omega, rfl, hlt, p'⟩, fun x H' y => ?_⟩
    obtain ⟨e, y⟩ := y
    subst e y
    exact hs i σ _ hlt p
  · have e : i = n := by omega
    subst e
    exact .inl ⟨Nat.le_refl _, hd σ H p⟩
end L2
namespace L2
open PySem PySem.Spec PyProof.Rows
abbrev R2 := V → V → Hp → VK → Prop
def OpR (X : Cx) (f : Value → Value → Sem Value) (r : R2) : Prop :=
  ∀ (pins : List (Addr × Obj)) (s : Shared) (σ : St) (H : Hp) (x y : V) (v u : Value) (Q : VK), Inv X pins σ H s → RelV x v → RelV y u → r x y H Q →
    wpAny (model X.prog X.w) X.A (f v u) (EP X pins σ Q) X.xe s
def UnR (X : Cx) (f : Value → Sem Value) (r : V → Hp → VK → Prop) : Prop :=
  ∀ (pins : List (Addr × Obj)) (s : Shared) (σ : St) (H : Hp) (x : V) (v : Value) (Q : VK), Inv X pins σ H s → RelV x v → r x H Q →
    wpAny (model X.prog X.w) X.A (f v) (EP X pins σ Q) X.xe s
def CallR (X : Cx) (f : Value) (r : List V → Hp → VK → Prop) : Prop :=
  ∀ (pins : List (Addr × Obj)) (s : Shared) (σ : St) (H : Hp) (xs : List V) (us : List Value) (Q : VK), Inv X pins σ H s → Vals xs us → r xs H Q →
    wpAny (model X.prog X.w) X.A (call f us) (EP X pins σ Q) X.xe s
def TruR (X : Cx) (r : V → Hp → (Bool → Hp → Prop) → Prop) : Prop :=
  ∀ (pins : List (Addr × Obj)) (s : Shared) (σ : St) (H : Hp) (x : V) (v : Value) (Q : Bool → Hp → Prop), Inv X pins σ H s → RelV x v → r x H Q →
    wpAny (model X.prog X.w) X.A (truthy v) (TP X pins σ Q) X.xe s
def tOp (r : R2) (ta tb : TE) : TE := fun σ H Q => ta σ H fun x H1 => tb σ H1 fun y H2 => r x y H2 Q
def tUn (r : V → Hp → VK → Prop) (ta : TE) : TE := fun σ H Q => ta σ H fun x H1 => r x H1 Q
def rI (C : Int → Int → Prop) (g : Int → Int → V) : R2 := fun x y H Q => ∃ i j, x = .int i ∧ y = .int j ∧ C i j ∧ Q (g i j) H
def rI0 (g : Int → Int → V) : R2 := fun x y H Q => ∃ i j, x = .int i ∧ y = .int j ∧ Q (g i j) H
def rU (g : Int → V) : V → Hp → VK → Prop := fun x H Q => ∃ i, x = .int i ∧ Q (g i) H
section
variable {X : Cx} {a b c : Expr} {ta tb tc : TE} {pos : Pos}
theorem binT (ha : PE X a ta) (hb : PE X b tb) {pins : List (Addr × Obj)} {s : Shared} {σ : St} {H : Hp} {R : V → V → Hp → Prop} (I : Inv X pins σ H s)
    (h : ta σ H fun x H1 => tb σ H1 fun y H2 => R x y H2) {Q : Value → Shared → Prop} {f : Value → Value → Sem Value}
    (hf : ∀ v u s2 x y H2, Inv X pins σ H2 s2 → RelV x v → RelV y u → R x y H2 → wpAny (model X.prog X.w) X.A (f v u) Q X.xe s2) :
    wpAny (model X.prog X.w) X.A (eval a X.env) (fun v s₁ => wpAny (model X.prog X.w) X.A (eval b X.env) (fun u s₂ => wpAny (model X.prog X.w) X.A (f v u) Q X.xe s₂) X.xe s₁) X.xe s := by
  refine thn (ha pins s σ H _ I h) fun v s1 ⟨x, H1, I1, r1, q1⟩ => ?_
  refine thn (hb pins s1 σ H1 _ I1 q1) fun u s2 ⟨y, H2, I2, r2, q2⟩ => ?_
  exact hf v u s2 x y H2 I2 r1 r2 q2
theorem pe_op {op : Operator} {r : R2} (ho : OpR X (binaryOp op) r) (ha : PE X a ta) (hb : PE X b tb) : PE X (.BinOp a op b pos) (tOp r ta tb) := by
  intro pins s σ H Q I h
  exact wpAny_BinOp (binT ha hb I h fun v u s2 x y H2 I2 rx ry q => ho pins s2 σ H2 x y v u Q I2 rx ry q)
theorem pe_un {op : UnaryOp} {r : V → Hp → VK → Prop} (ho : UnR X (unaryOp op) r) (ha : PE X a ta) : PE X (.UnaryOp op a pos) (tUn r ta) := by
  intro pins s σ H Q I h
  exact UnaryOp_ (thn (ha pins s σ H _ I h) fun v s1 ⟨x, H1, I1, r1, q1⟩ => ho pins s1 σ H1 x v Q I1 r1 q1)
theorem opI {f : Value → Value → Sem Value} {C : Int → Int → Prop} {g : Int → Int → Int}
    (rule : ∀ (i j : Int) (t u : Tok) (s : Shared) (Q : Value → Shared → Prop) (E : Value → Shared → Prop), C i j → Q (.int (g i j) s.toks) { s with toks := s.toks + 1 } → wpAny (model X.prog X.w) X.A (f (.int i t) (.int j u)) Q E s) :
    OpR X f (rI C fun i j => .int (g i j)) := by
  intro pins s σ H x y v u Q I rx ry h
  obtain ⟨i, j, rfl, rfl, hc, q⟩ := h
  obtain ⟨t, rfl⟩ := rx
  obtain ⟨t', rfl⟩ := ry
  exact rule i j t t' s _ _ hc ⟨.int (g i j), H, I.tok _, ⟨_, rfl⟩, q⟩
theorem opI0 {f : Value → Value → Sem Value} {g : Int → Int → Int}
    (rule : ∀ (i j : Int) (t u : Tok) (s : Shared) (Q : Value → Shared → Prop) (E : Value → Shared → Prop), Q (.int (g i j) s.toks) { s with toks := s.toks + 1 } → wpAny (model X.prog X.w) X.A (f (.int i t) (.int j u)) Q E s) :
    OpR X f (rI0 fun i j => .int (g i j)) := by
  intro pins s σ H x y v u Q I rx ry h
  obtain ⟨i, j, rfl, rfl, q⟩ := h
  obtain ⟨t, rfl⟩ := rx
  obtain ⟨t', rfl⟩ := ry
  exact rule i j t t' s _ _ ⟨.int (g i j), H, I.tok _, ⟨_, rfl⟩, q⟩
theorem opB0 {f : Value → Value → Sem Value} {g : Int → Int → Bool}
    (rule : ∀ (i j : Int) (t u : Tok) (s : Shared) (Q : Value → Shared → Prop) (E : Value → Shared → Prop), Q (.bool (g i j)) s → wpAny (model X.prog X.w) X.A (f (.int i t) (.int j u)) Q E s) :
    OpR X f (rI0 fun i j => .bl (g i j)) := by
  intro pins s σ H x y v u Q I rx ry h
  obtain ⟨i, j, rfl, rfl, q⟩ := h
  obtain ⟨t, rfl⟩ := rx
  obtain ⟨t', rfl⟩ := ry
  exact rule i j t t' s _ _ ⟨.bl (g i j), H, I, rfl, q⟩
def CDiv (i j : Int) : Prop := 0 < j ∧ j < 1073741824
def CMul (i j : Int) : Prop := (-(2 ^ 64) < i ∧ i < 2 ^ 64) ∨ (-(2 ^ 64) < j ∧ j < 2 ^ 64)
theorem CMul.ok {i j : Int} (h : CMul i j) : IntMulOk i j := by
  rcases h with ⟨h1, h2⟩ | ⟨h1, h2⟩
  · exact .of_left (intBits_le_64 h1 h2)
  · exact .of_right (intBits_le_64 h1 h2)
theorem op_add : OpR X (binaryOp .Add) (rI0 fun i j => .int (i + j)) := opI0 fun _ _ _ _ _ _ _ q => add_int q
theorem op_sub : OpR X (binaryOp .Sub) (rI0 fun i j => .int (i - j)) := opI0 fun _ _ _ _ _ _ _ q => sub_int q
theorem op_mul : OpR X (binaryOp .Mult) (rI CMul fun i j => .int (i * j)) := opI fun _ _ _ _ _ _ _ hc q => mul_int q hc.ok
theorem op_fdiv : OpR X (binaryOp .FloorDiv) (rI CDiv fun i j => .int (i / j)) := opI fun i j _ _ _ _ _ hc q => by
  have h1 : (0 : Int) < j := hc.1
  have h2 : j < 1073741824 := hc.2
  exact floordiv_int (by omega) (by rw [Int.fdiv_eq_ediv_of_nonneg i (by omega)]; exact q) (.inl (PyProof.noPylong_small (by omega)))
theorem op_mod : OpR X (binaryOp .Mod) (rI (fun _ j => 0 < j) fun i j => .int (i % j)) := opI fun i j _ _ _ _ _ hc q => by
  have h1 : (0 : Int) < j := hc
  exact mod_int' (by omega) (by rw [Int.fmod_eq_emod_of_nonneg i (by omega)]; exact q)
end
def scal : V → V → Bool
  | .non, .non => true | .non, .int _ => true | .int _, .non => true | .non, .bl _ => true | .bl _, .non => true | .non, .str _ => true | .str _, .non => true
  | .int _, .int _ => true | .bl _, .bl _ => true | .str _, .str _ => true | .byt _, .byt _ => true
  | .int _, .str _ => true | .str _, .int _ => true | .bl _, .str _ => true | .str _, .bl _ => true
  | _, _ => false
def rEq : R2 := fun x y H Q => scal x y = true ∧ Q (.bl (decide (x = y))) H
def rNe : R2 := fun x y H Q => scal x y = true ∧ Q (.bl (!decide (x = y))) H
theorem dec_int {i j : Int} : decide (V.int i = V.int j) = (i == j) := by
  rw [Bool.eq_iff_iff]
  simp
theorem dec_bl {i j : Bool} : decide (V.bl i = V.bl j) = (i == j) := by
  rw [Bool.eq_iff_iff]
  simp
theorem dec_str {i j : Str} : decide (V.str i = V.str j) = (i == j) := by
  rw [Bool.eq_iff_iff]
  simp
theorem dec_byt {i j : Array UInt8} : decide (V.byt i = V.byt j) = (i.toList == j.toList) := by
  rw [Bool.eq_iff_iff]
  cases i
  cases j
  simp
section
variable {X : Cx} {a b c : Expr} {ta tb tc : TE} {pos : Pos}
theorem fin_bl {pins : List (Addr × Obj)} {σ : St} {H : Hp} {s : Shared} {Q : VK} {k k' : Bool} (I : Inv X pins σ H s) (q : Q (.bl k) H) (e : k = k') : EP X pins σ Q (.bool k') s := by
  subst e
  exact ⟨.bl k, H, I, rfl, q⟩
theorem op_eq : OpR X (compareOp .Eq) rEq := by
  intro pins s σ H x y v u Q I rx ry h
  obtain ⟨hs, q⟩ := h
  cases x with
  | non =>
    cases rx
    cases y with
    | non => cases ry; exact PySem.EqNone.eq_none_none (fin_bl I q (by simp))
    | bl j => cases ry; exact PySem.EqNone.eq_none_bool (fin_bl I q (by simp))
    | int j => obtain ⟨t', rfl⟩ := ry; exact PySem.EqNone.eq_none_int (fin_bl I q (by simp))
    | str j => obtain ⟨t', rfl⟩ := ry; exact PySem.EqNone.eq_none_str (fin_bl I q (by simp))
    | _ => exact absurd (show false = true from hs) Bool.false_ne_true
  | bl i =>
    cases rx
    cases y with
    | non => cases ry; exact PySem.EqNone.eq_bool_none (fin_bl I q (by simp))
    | bl j => cases ry; exact eq_bool (fin_bl I q dec_bl)
    | str j => obtain ⟨t', rfl⟩ := ry; exact PySem.EqMixed.eq_bool_str (fin_bl I q (by simp))
    | _ => exact absurd (show false = true from hs) Bool.false_ne_true
  | int i =>
    obtain ⟨t, rfl⟩ := rx
    cases y with
    | non => cases ry; exact PySem.EqNone.eq_int_none (fin_bl I q (by simp))
    | int j => obtain ⟨t', rfl⟩ := ry; exact eq_int (fin_bl I q dec_int)
    | str j => obtain ⟨t', rfl⟩ := ry; exact PySem.EqMixed.eq_int_str (fin_bl I q (by simp))
    | _ => exact absurd (show false = true from hs) Bool.false_ne_true
  | str i =>
    obtain ⟨t, rfl⟩ := rx
    cases y with
    | non => cases ry; exact PySem.EqNone.eq_str_none (fin_bl I q (by simp))
    | bl j => cases ry; exact PySem.EqMixed.eq_str_bool (fin_bl I q (by simp))
    | int j => obtain ⟨t', rfl⟩ := ry; exact PySem.EqMixed.eq_str_int (fin_bl I q (by simp))
    | str j => obtain ⟨t', rfl⟩ := ry; exact eq_str (fin_bl I q dec_str)
    | _ => exact absurd (show false = true from hs) Bool.false_ne_true
  | byt i =>
    obtain ⟨t, rfl⟩ := rx
    cases y with
    | byt j => obtain ⟨t', rfl⟩ := ry; exact PySem.W.eq_bytes (fin_bl I q dec_byt)
    | _ => exact absurd (show false = true from hs) Bool.false_ne_true
  | _ => cases y <;> exact absurd (show false = true from hs) Bool.false_ne_true
theorem op_ne : OpR X (compareOp .NotEq) rNe := by
  intro pins s σ H x y v u Q I rx ry h
  obtain ⟨hs, q⟩ := h
  cases x with
  | non =>
    cases rx
    cases y with
    | non => cases ry; exact PySem.EqNone.ne_none_none (fin_bl I q (by simp))
    | bl j => cases ry; exact PySem.EqNone.ne_none_bool (fin_bl I q (by simp))
    | int j => obtain ⟨t', rfl⟩ := ry; exact PySem.EqNone.ne_none_int (fin_bl I q (by simp))
    | str j => obtain ⟨t', rfl⟩ := ry; exact PySem.EqNone.ne_none_str (fin_bl I q (by simp))
    | _ => exact absurd (show false = true from hs) Bool.false_ne_true
  | bl i =>
    cases rx
    cases y with
    | non => cases ry; exact PySem.EqNone.ne_bool_none (fin_bl I q (by simp))
    | bl j => cases ry; exact ne_bool (fin_bl I q (congrArg not dec_bl))
    | str j => obtain ⟨t', rfl⟩ := ry; exact PySem.EqMixed.ne_bool_str (fin_bl I q (by simp))
    | _ => exact absurd (show false = true from hs) Bool.false_ne_true
  | int i =>
    obtain ⟨t, rfl⟩ := rx
    cases y with
    | non => cases ry; exact PySem.EqNone.ne_int_none (fin_bl I q (by simp))
    | int j => obtain ⟨t', rfl⟩ := ry; exact ne_int (fin_bl I q (congrArg not dec_int))
    | str j => obtain ⟨t', rfl⟩ := ry; exact PySem.EqMixed.ne_int_str (fin_bl I q (by simp))
    | _ => exact absurd (show false = true from hs) Bool.false_ne_true
  | str i =>
    obtain ⟨t, rfl⟩ := rx
    cases y with
    | non => cases ry; exact PySem.EqNone.ne_str_none (fin_bl I q (by simp))
    | bl j => cases ry; exact PySem.EqMixed.ne_str_bool (fin_bl I q (by simp))
    | int j => obtain ⟨t', rfl⟩ := ry; exact PySem.EqMixed.ne_str_int (fin_bl I q (by simp))
    | str j => obtain ⟨t', rfl⟩ := ry; exact ne_str (fin_bl I q (congrArg not dec_str))
    | _ => exact absurd (show false = true from hs) Bool.false_ne_true
  | byt i =>
    obtain ⟨t, rfl⟩ := rx
    cases y with
    | byt j => obtain ⟨t', rfl⟩ := ry; exact PySem.W.ne_bytes (fin_bl I q (congrArg not dec_byt))
    | _ => exact absurd (show false = true from hs) Bool.false_ne_true
  | _ => cases y <;> exact absurd (show false = true from hs) Bool.false_ne_true
theorem op_lt : OpR X (compareOp .Lt) (rI0 fun i j => .bl (decide (i < j))) := opB0 fun _ _ _ _ _ _ _ q => lt_int q
theorem op_gt : OpR X (compareOp .Gt) (rI0 fun i j => .bl (decide (j < i))) := opB0 fun _ _ _ _ _ _ _ q => gt_int q
theorem op_isN : OpR X (compareOp .Is) (fun x y H Q => y = .non ∧ Q (.bl (decide (x = .non))) H) := by
  intro pins s σ H x y v u Q I rx ry h
  obtain ⟨rfl, q⟩ := h
  cases ry
  refine is_none_gen (fin_bl I q ?_)
  cases x <;> first
    | (cases rx; rfl)
    | (obtain ⟨t, rfl⟩ := rx; rfl)
theorem OpR.or {f : Value → Value → Sem Value} {r r' : R2} (h : OpR X f r) (h' : OpR X f r') : OpR X f (fun x y H Q => r x y H Q ∨ r' x y H Q) := by
  intro pins s σ H x y v u Q I rx ry q
  rcases q with q | q
  · exact h pins s σ H x y v u Q I rx ry q
  · exact h' pins s σ H x y v u Q I rx ry q
theorem nomark (b : Expr) {op : CmpOp} (h : op ≠ .In := by decide) (h2 : op ≠ .NotIn := by decide) : behindInMarks op b = false := by
  have e1 : (op == CmpOp.In) = false := by cases op <;> first | rfl | exact absurd rfl h
  have e2 : (op == CmpOp.NotIn) = false := by cases op <;> first | rfl | exact absurd rfl h2
  cases b <;> simp [behindInMarks, e1, e2]
theorem pe_cmpR {op : CmpOp} {r : R2} (ho : OpR X (compareOp op) r) (ha : PE X a ta) (hb : PE X b tb) (hm : behindInMarks op b = false) : PE X (.Compare a [op] [b] pos) (tOp r ta tb) := by
  intro pins s σ H Q I h
  exact wpAny_Compare1 (binT ha hb I h fun v u s2 x y H2 I2 rx ry q => ho pins s2 σ H2 x y v u Q I2 rx ry q) hm
def tTest (t : TE) : TT := fun σ H Q => t σ H fun x H' => ∃ k, x = .bl k ∧ Q k H'
theorem pt_cmpR {op : CmpOp} {r : R2} (ho : OpR X (compareOp op) r) (ha : PE X a ta) (hb : PE X b tb) (hm : behindInMarks op b = false) : PT X (.Compare a [op] [b] pos) (tTest (tOp r ta tb)) := by
  intro pins s σ H Q I h
  refine wpAny_isTrue_Compare1 (thn (ha pins s σ H _ I h) fun v s1 ⟨x, H1, I1, r1, q1⟩ => thn (hb pins s1 σ H1 _ I1 q1) fun u s2 ⟨y, H2, I2, r2, q2⟩ =>
    thn (ho pins s2 σ H2 x y v u _ I2 r1 r2 q2) fun c s3 ⟨z, H3, I3, r3, k, e, q3⟩ => ?_) hm
  subst e
  cases r3
  exact wpAny_truthy_bool ⟨H3, I3, q3⟩
def TruV (K : PySem.W.Frag) (x : V) (H : Hp) (k : Bool) : Prop :=
  match x with
  | .non => k = false
  | .bl b => k = b
  | .int i => k = (i != 0)
  | .str y => y.length ≤ sizeLine ∧ k = ((y.length : Int) != 0)
  | .byt y => y.size ≤ sizeLine ∧ k = ((y.size : Int) != 0)
  | .ref p => (∃ xs, SqL K H p xs ∧ k = !xs.isEmpty) ∨ (∃ xs, SqT K H p xs ∧ k = !xs.isEmpty) ∨ ∃ kvs, H p = some (.dK kvs) ∧ k = !kvs.isEmpty
  | _ => False
theorem line63 : (sizeLine : Nat) < 2 ^ 63 := by rw [sizeLine_eq]; decide
theorem vals1 {x : V} {us : List Value} (r : Vals [x] us) : ∃ u, us = [u] ∧ RelV x u := by
  cases r with
  | cons r1 r2 => cases r2; exact ⟨_, rfl, r1⟩
theorem vals2 {x y : V} {us : List Value} (r : Vals [x, y] us) : ∃ u w', us = [u, w'] ∧ RelV x u ∧ RelV y w' := by
  cases r with
  | cons r1 r2 =>
    cases r2 with
    | cons r3 r4 => cases r4; exact ⟨_, _, rfl, r1, r3⟩
theorem call_abs : CallR X (.builtin "abs") (fun xs H Q => ∃ i, xs = [.int i] ∧ Q (.int (if i < 0 then -i else i)) H) := by
  intro pins s σ H xs us Q I r h
  obtain ⟨i, rfl, q⟩ := h
  obtain ⟨u, rfl, t, rfl⟩ := vals1 r
  exact call_abs_int fun u tk => ⟨.int (if i < 0 then -i else i), H, I.tok _, ⟨_, rfl⟩, q⟩
theorem call_min2 (hc : X.calm = true) : CallR X (.builtin "min") (fun xs H Q => ∃ i j, xs = [.int i, .int j] ∧ Q (.int (if j < i then j else i)) H) := by
  intro pins s σ H xs us Q I r h
  obtain ⟨i, j, rfl, q⟩ := h
  obtain ⟨u, w', rfl, ⟨t, rfl⟩, ⟨t', rfl⟩⟩ := vals2 r
  refine min_two_ints (I.ok.hd hc) fun h' tk k => ⟨_, H, I.kept k, ?_, q⟩
  by_cases hj : j < i
  · rw [if_pos hj, if_pos hj]; exact ⟨_, rfl⟩
  · rw [if_neg hj, if_neg hj]; exact ⟨_, rfl⟩
def LenV (K : PySem.W.Frag) (x : V) (H : Hp) (n : Nat) : Prop :=
  match x with
  | .str y => y.length ≤ sizeLine ∧ n = y.length
  | .byt y => y.size ≤ sizeLine ∧ n = y.size
  | .ref p => (∃ xs, SqL K H p xs ∧ n = xs.length) ∨ ∃ xs, SqT K H p xs ∧ n = xs.length
  | _ => False
theorem call_len : CallR X (.builtin "len") (fun xs H Q => ∃ x n, xs = [x] ∧ LenV X.K x H n ∧ Q (.int n) H) := by
  intro pins s σ H xs us Q I r h
  obtain ⟨x, n, rfl, e, q⟩ := h
  obtain ⟨u, rfl, rx⟩ := vals1 r
  have hl := line63
  have hs : sizeLine = 16777216 := sizeLine_eq
  cases x with
  | str y =>
    obtain ⟨t, rfl⟩ := rx
    obtain ⟨hy, e'⟩ : y.length ≤ sizeLine ∧ n = y.length := e
    subst e'
    exact len_str (by omega) ⟨.int _, H, I.tok _, ⟨_, rfl⟩, q⟩
  | byt y =>
    obtain ⟨t, rfl⟩ := rx
    obtain ⟨hy, e'⟩ : y.size ≤ sizeLine ∧ n = y.size := e
    subst e'
    exact PySem.W.len_bytes (by omega) ⟨.int _, H, I.tok _, ⟨_, rfl⟩, q⟩
  | ref p =>
    cases rx
    have e' : (∃ xs, SqL X.K H p xs ∧ n = xs.length) ∨ ∃ xs, SqT X.K H p xs ∧ n = xs.length := e
    rcases e' with ⟨xs, hx, e'⟩ | ⟨xs, hx, e'⟩
    · subst e'
      obtain ⟨its, r', pl, hz⟩ := I.list hx
      have hlen := r'.length
      exact Calls.call_len_list pl.isList (by simp only [List.size_toArray]; omega) ⟨.int xs.length, H, I.tok _, ⟨_, by simp only [List.size_toArray]; rw [hlen]⟩, q⟩
    · subst e'
      obtain ⟨its, r', pl, hz⟩ := I.tuple hx
      have hlen := r'.length
      exact len_tuple pl (by simp only [List.size_toArray]; omega) ⟨.int xs.length, H, I.tok _, ⟨_, by simp only [List.size_toArray]; rw [hlen]⟩, q⟩
  | _ => exact (show False from e).elim
end
end L2
namespace L2
open PySem PySem.Spec PyProof.Rows
structure ObjM (h : Heap) (x dx C : Addr) (mA : Str → Option Value) : Prop where
  obj : h.get? x = some (PySem.W.instObj C dx)
  ns : h.Ns1 dx mA
  ne : dx ≠ x
theorem lookIn_ns {h : Heap} {dx : Addr} {mA : Str → Option Value} (n : h.Ns1 dx mA) : ∃ od, h.get? dx = some od ∧ ∀ name, PySem.W.lookIn name od = some (mA name) := by
  obtain ⟨o, es, ep, ho, hd, hk, _, hm⟩ := n
  refine ⟨o, ho, fun name => ?_⟩
  have e := hm name
  unfold nsFind findBy at e
  rw [← Array.find?_toList] at e
  unfold PySem.W.lookIn
  rw [hd]
  dsimp only
  split
  · rename_i y q
    rw [q] at e
    exact congrArg some e
  · rename_i q
    rw [q] at e
    have a : es.toList.any (·.refKey) = false := by
      rw [List.any_eq_false]
      intro y hy
      obtain ⟨z, t, hkey⟩ := hk y (Array.mem_toList_iff.mp hy)
      simp [DictEntry.refKey, hkey]
    have a' : ¬ es.toList.any (·.refKey) = true := by rw [a]; exact Bool.false_ne_true
    rw [if_neg a']
    exact congrArg some e
theorem ObjM.look {h : Heap} {x dx C : Addr} {mA : Str → Option Value} (I : ObjM h x dx C mA) : ∃ od, PySem.W.InstAt h x (PySem.W.instObj C dx) C (some od) ∧ ∀ name, PySem.W.lookIn name od = some (mA name) :=
  let ⟨od, ho, hl⟩ := lookIn_ns I.ns
  ⟨od, ⟨I.obj, rfl, rfl, ho⟩, hl⟩
section
variable {prog : Program} {w : World} {A : Around} {E : Value → Shared → Prop} {s : Shared} {K : PySem.W.Frag} {x dx C f : Addr} {mA : Str → Option Value} {name : Str} {v : Value}
end
section
variable {P : Program} {w : World} {H H' : Hp} {h h' : Heap} {a C dx : Addr} {fs fs' : List (Str × V)}
theorem ins_get (hok : HOk P w H h) (e : H a = some (.ins C dx fs)) : ∃ mA, ObjM h a dx C mA ∧ (∀ f, RelO (fs.lookup f) (mA f)) ∧ PySem.Within mA (fs.map (·.1)) ∧ fs.length ≤ 1000 ∧ H dx = some (.own a) := by
  obtain ⟨d, z, ne, ob, mA, n, r, q⟩ := (show ObjOk P w H h a (.ins C dx fs) from hok a _ e)
  exact ⟨mA, ⟨ob, n, ne⟩, r, q, z, d⟩
end
structure Cls (K : PySem.W.Frag) (C : Addr) : Prop where
  pg : PySem.W.plainGet K C Str.empty = true
  hd : PySem.W.hasDictIn K C = true
  po : PySem.W.plainOver K C = true
  sa : PySem.W.findIn K (.ref C) "__setattr__" = some (some (.builtin "object.__setattr__"))
theorem Cls.get {K : PySem.W.Frag} {C : Addr} (c : Cls K C) (f : Str) : PySem.W.plainGet K C f = true := c.pg
structure Meth (K : PySem.W.Frag) (C : Addr) (m : Str) (f : Addr) : Prop where
  at_ : PySem.W.findIn K (.ref C) m = some (some (.ref f))
  fn : PySem.W.isFn K (.ref f) = true
  kp : PySem.W.keepIn K (.ref f) = true
section
variable {X : Cx} {pins : List (Addr × Obj)} {σ : St} {H : Hp} {s : Shared} {a C dx : Addr} {fs : List (Str × V)} {f : Str} {v : V} {A : Around} {E : Value → Shared → Prop}
end
section
variable {X : Cx} {o e value : Expr} {f : Str} {pos pos' tpos : Pos} {ta tv : TE}
end
section
variable {X : Cx} {pins : List (Addr × Obj)} {σ : St} {H : Hp} {s : Shared} {A : Around} {E : Value → Shared → Prop} {Q : Value → Shared → Prop} {c : Value} {b : Bool}
inductive TyOf (K : PySem.W.Frag) (H : Hp) : V → Value → Prop where
  | non : TyOf K H .non (.type "NoneType")
  | bl (x : Bool) : TyOf K H (.bl x) (.type "bool")
  | int (i : Int) : TyOf K H (.int i) (.type "int")
  | str (x : Str) : TyOf K H (.str x) (.type "str")
  | flt (x : UInt64) : TyOf K H (.flt x) (.type "float")
  | lst {a : Addr} {xs : List V} (e : H a = some (.lst xs)) : TyOf K H (.ref a) (.type "list")
  | frz {a : Addr} {o : Obj} {xs : List V} (e : H a = some (.frz o (.lst xs))) : TyOf K H (.ref a) (.type "list")
  | tup {a : Addr} {xs : List V} (e : H a = some (.tup xs)) : TyOf K H (.ref a) (.type "tuple")
  | dK {a : Addr} {kvs : List (Key × V)} (e : H a = some (.dK kvs)) : TyOf K H (.ref a) (.type "dict")
  | dT {a : Addr} {kvs : List (List Key × V)} (e : H a = some (.dT kvs)) : TyOf K H (.ref a) (.type "dict")
  | ins {a C dx : Addr} {fs : List (Str × V)} (e : H a = some (.ins C dx fs)) (cl : Cls K C) (ha : PySem.W.findIn K (.ref C) "__class__" = some (some (.builtin "object.__class__")))
      (hn : PySem.W.specialIn K (.builtin "object.__class__") "__get__" = some (some (.builtin "getset_descriptor.__get__"))) (htk : PySem.W.takesIn K (.builtin "object.__class__") = some true)
      (hm : PySem.W.mroIn K C (.type "object") = some true) : TyOf K H (.ref a) (.ref C)
theorem isinst_ok {x : V} {u t : Value} (I : Inv X pins σ H s) (rx : RelV x u) (ty : TyOf X.K H x t) (e : PySem.W.kitOne X.K t c = some b) (h : ∀ tk, Q (.bool b) { s with toks := tk }) :
    wpAny (model X.prog X.w) A (call (.builtin "isinstance") [u, c]) Q E s := by
  cases ty with
  | non => cases (show u = Value.none from rx); exact PySem.W.kia_one PySem.W.kitx_none I.kIn True.intro e (fun z => nomatch z) h
  | bl y => cases (show u = Value.bool y from rx); exact PySem.W.kia_one PySem.W.kitx_bool I.kIn True.intro e (fun z => nomatch z) h
  | int i => obtain ⟨t, q⟩ := (show ∃ t, u = Value.int i t from rx); cases q; exact PySem.W.kia_one PySem.W.kitx_int I.kIn True.intro e (fun z => nomatch z) h
  | str y => obtain ⟨t, q⟩ := (show ∃ t, u = Value.str y t from rx); cases q; exact PySem.W.kia_one PySem.W.kitx_str I.kIn True.intro e (fun z => nomatch z) h
  | flt y => obtain ⟨t, q⟩ := (show ∃ t, u = Value.float y t from rx); cases q; exact PySem.W.kia_one PySem.W.kitx_float I.kIn True.intro e (fun z => nomatch z) h
  | @lst a xs ea =>
    cases (show u = Value.ref a from rx)
    obtain ⟨_, _, n, _, h1⟩ := (show ObjOk X.prog X.w H s.heap a (.lst xs) from I.hok a _ ea)
    exact PySem.W.kia_one PySem.W.kitx_list I.kIn ⟨_, h1, rfl⟩ e (fun z => nomatch z) h
  | @frz a ob xs ea =>
    cases (show u = Value.ref a from rx)
    obtain ⟨_, _, _, n, _, h1⟩ := (show ObjOk X.prog X.w H s.heap a (.frz ob (.lst xs)) from I.hok a _ ea)
    exact PySem.W.kia_one PySem.W.kitx_list I.kIn ⟨_, h1, rfl⟩ e (fun z => nomatch z) h
  | @tup a xs ea =>
    cases (show u = Value.ref a from rx)
    obtain ⟨_, _, _, p⟩ := (show ObjOk X.prog X.w H s.heap a (.tup xs) from I.hok a _ ea)
    obtain ⟨o, h1, h2, _⟩ := p
    exact PySem.W.kia_one PySem.W.kitx_tuple I.kIn ⟨o, h1, h2⟩ e (fun z => nomatch z) h
  | @dK a kvs ea =>
    cases (show u = Value.ref a from rx)
    obtain ⟨_, _, vs, _, p⟩ := (show ObjOk X.prog X.w H s.heap a (.dK kvs) from I.hok a _ ea)
    obtain ⟨o, es, ep, h1, h2, _⟩ := p
    exact PySem.W.kia_one PySem.W.kitx_dict I.kIn ⟨o, h1, h2.1⟩ e (fun z => nomatch z) h
  | @dT a kvs ea =>
    cases (show u = Value.ref a from rx)
    obtain ⟨_, _, xs, _, o, es, ep, h1, h2, _⟩ := (show ObjOk X.prog X.w H s.heap a (.dT kvs) from I.hok a _ ea)
    exact PySem.W.kia_one PySem.W.kitx_dict I.kIn ⟨o, h1, h2.1⟩ e (fun z => nomatch z) h
  | @ins a C dx fs ea cl ha hn htk hm =>
    cases (show u = Value.ref a from rx)
    obtain ⟨mA, O, _⟩ := ins_get I.hok ea
    obtain ⟨od, J, _⟩ := O.look
    exact PySem.W.kia_one (PySem.W.kitx_own (cl.get _) cl.hd ha hn htk hm) I.kIn J e (fun z => nomatch z) h
end
end L2
namespace L2
open PySem PySem.Spec PyProof.Rows
structure Room (k : Nat) (A : Around) : Prop where
  hd : A.handled = none
  dp : A.depth + 3 * k + 5 < recursionLimit
  un : A.units + 16 * k + 200 < cLine
theorem Room.mono {j k : Nat} {A : Around} (r : Room k A) (h : j ≤ k) : Room j A := ⟨r.hd, by have := r.dp; omega, by have := r.un; omega⟩
theorem Room.deeper {k : Nat} {A : Around} (r : Room (k + 1) A) (env : Env) : Room k (A.deeper env) :=
  ⟨r.hd, by have := r.dp; show A.depth + 1 + 3 * k + 5 < _; omega, by have := r.un; show A.units + 3 + 16 * k + 200 < _; omega⟩
theorem Room.depth {k : Nat} {A : Around} (r : Room k A) : A.depth < recursionLimit := by have := r.dp; omega
theorem Room.units {k : Nat} {A : Around} (r : Room k A) : A.units + 64 < cLine := by have := r.un; omega
def tNil : TA := fun _ H Q => Q [] H
def tCons (ta : TE) (tr : TA) : TA := fun σ H Q => ta σ H fun x H1 => tr σ H1 fun xs H2 => Q (x :: xs) H2
section
variable {X : Cx} {e : Expr} {es : List Expr} {te : TE} {t : TA} {pos : Pos}
theorem pa_nil : PA X [] tNil := fun _ _ _ _ H Q I h => Calls.spliced_nil ⟨[], H, I, .nil, h⟩
theorem pa_cons (ha : PE X e te) (hr : PA X es t) (hs : starEach (e :: es) X.env = (false, eval e X.env) :: starEach es X.env := by rfl) : PA X (e :: es) (tCons te t) := by
  intro pos pins s σ H Q I h
  rw [hs]
  show wpAny _ _ (spliced ((false, eval e X.env) :: backTo pos (starEach es X.env))) _ _ s
  refine Calls.spliced_cons (thn (ha pins s σ H _ I h) fun u s1 ⟨x, H1, I1, r1, q1⟩ => ?_)
  exact thn (hr pos pins s1 σ H1 _ I1 q1) fun us s2 ⟨xs, H2, I2, r2, q2⟩ => ⟨x :: xs, H2, I2, .cons r1 r2, q2⟩
def tTup (t : TA) : TE := fun σ H Q => t σ H fun xs H1 => xs.length ≤ sizeLine ∧ ∀ p, H1 p = none → Q (.ref p) (upd H1 p (.tup xs))
def tLst (t : TA) : TE := fun σ H Q => t σ H fun xs H1 => xs.length ≤ sizeLine ∧ ∀ p, H1 p = none → Q (.ref p) (upd H1 p (.lst xs))
theorem pe_tup {x1} (h : PA X es t) : PE X (.Tuple es x1 pos) (tTup t) := by
  intro pins s σ H Q I hq
  refine wpAny_Tuple_spliced (thn (h pos pins s σ H _ I hq) fun us s1 ⟨xs, H1, I1, r, z, q⟩ => ⟨by rw [← r.length]; exact z, ?_⟩)
  have hf : H1 s1.heap.objs.size = none := I1.hok.fresh (Nat.le_refl _)
  refine ⟨.ref s1.heap.objs.size, upd H1 s1.heap.objs.size (.tup xs), I1.laid (t' := s1.toks) (fun b u e => Heap.get?_push_of_some _ e) (Nat.le_refl _) ?_, rfl, q _ hf⟩
  exact ⟨z, us, r, ⟨_, Heap.get?_push_size _ rfl, rfl, _, rfl⟩⟩
theorem pe_lst (h : PA X es t) : PE X (.List es pos) (tLst t) := by
  intro pins s σ H Q I hq
  refine wpAny_List_spliced (thn (h pos pins s σ H _ I hq) fun us s1 ⟨xs, H1, I1, r, z, q⟩ => ⟨by rw [← r.length]; exact z, ?_⟩)
  have hf : H1 s1.heap.objs.size = none := I1.hok.fresh (Nat.le_refl _)
  refine ⟨.ref s1.heap.objs.size, upd H1 s1.heap.objs.size (.lst xs), I1.laid (t' := s1.toks) (fun b u e => Heap.get?_push_of_some _ e) (Nat.le_refl _) ?_, rfl, q _ hf⟩
  exact ⟨z, us, 0, r, Heap.get?_push_size _ rfl⟩
end
abbrev Sp := List V → Hp → VK → XK → Prop
abbrev CXT := List Env → Hp → Shared → XK → Value → Shared → Prop
structure Env0 (P : Program) (w : World) (K : PySem.W.Frag) (mg : Str → Option Value) (base : Heap) (A : Around) (outer : List Env) (s : Shared) (H : Hp) : Prop where
  frames : A.frames = some outer
  mod : Mod K mg base
  bs : ∀ b o, base.get? b = some o → s.heap.get? b = some o ∧ H b = none
  bsz : base.objs.size ≤ s.heap.objs.size
  funs : s.heap.FunFrames base outer
  frf : ∀ b ∈ frs outer, H b = none
  hok : HOk P w H s.heap
  bare : AllBare s.gens
def CE (outer : List Env) (P : Program) (w : World) (H : Hp) (s : Shared) (Q : VK) (u : Value) (s' : Shared) : Prop :=
  ∃ v H', s'.os = s.os ∧ AllBare s'.gens ∧ Un (frs outer) [] H H' s.heap s'.heap ∧ HOk P w H' s'.heap ∧ RelV v u ∧ Q v H'
def CR (CX : CXT) (outer : List Env) (P : Program) (w : World) (H : Hp) (s : Shared) (Q : VK) (E : XK) (r : Result) (s' : Shared) : Prop :=
  match r with
  | .ok (.ret u) => CE outer P w H s Q u s'
  | .ok _ => False
  | .error e => CX outer H s E e s'
structure FnOk (P : Program) (w : World) (K : PySem.W.Frag) (mg : Str → Option Value) (base : Heap) (CX : CXT) (k : Nat) (f : Addr) (fd : FuncData) (ps : List Str) (sp : Sp) : Prop where
  len : ∀ vs H Q E, sp vs H Q E → vs.length = ps.length
  run : ∀ (A : Around) (outer : List Env) (s : Shared) (H : Hp) (args : Args) (us : List Value) (vs : List V) (Q : VK) (E : XK), Room k A → Env0 P w K mg base A outer s H → BindsTo s fd args (ps.zip us) → Vals vs us → sp vs H Q E →
    codeAny (model P w) A (.call (.ref f) args) (CR CX outer P w H s Q E) s
section
variable {X : Cx} {pins : List (Addr × Obj)} {σ : St} {H : Hp} {s s' : Shared}
theorem Inv.env0 (I : Inv X pins σ H s) : Env0 X.prog X.w X.K X.mg X.base X.A X.stack s H :=
  ⟨I.ok.frames, I.ok.mod, I.bs, Nat.le_trans I.ok.bsz I.sz, I.stack, I.stkFree, I.hok, I.bare⟩
theorem Inv.after {Q : VK} {u : Value} (I : Inv X pins σ H s) (h : CE X.stack X.prog X.w H s Q u s') : EP X pins σ Q u s' := by
  obtain ⟨v, H', os, bare, un, hok, r, q⟩ := h
  obtain ⟨hh, g, d, t, os'⟩ := s'
  obtain rfl : os' = s.os := os
  exact ⟨v, H', I.call (h' := hh) (g' := g) (d' := d) (t' := t) (ch := []) un hok bare (fun b z => absurd z (by simp)), r, q⟩
end
def Binds (K : PySem.W.Frag) (fd : FuncData) (ps : List Str) (ds : List Value) : Prop :=
  ∀ (s : Shared) (us : List Value), K.In s.heap → (us ++ ds).length = ps.length → BindsTo s fd ⟨us, []⟩ (ps.zip (us ++ ds))
theorem Binds.all {K : PySem.W.Frag} {fd : FuncData} {ps : List Str} (h : ∀ us : List Value, us.length = ps.length → bindArgs fd ⟨us, []⟩ = pure (ps.zip us)) : Binds K fd ps [] := fun s us _ hl => by
  rw [List.append_nil] at hl ⊢
  exact .of_eq (h us hl)
section
variable {X : Cx} {CX : CXT} {k : Nat} {f C : Addr} {fd : FuncData} {ps : List Str} {sp : Sp} {dvs : List V} {ds : List Value} {E : XK} {x m : Str} {p pos apos : Pos} {e o : Expr} {es : List Expr} {ta : TE} {t : TA}
structure Mk (K : PySem.W.Frag) (C f : Addr) : Prop where
  makes : PySem.W.makesIn K C = true
  init : PySem.W.findIn K (.ref C) "__init__" = some (some (.ref f))
  fn : PySem.W.isFn K (.ref f) = true
  kp : PySem.W.keepIn K (.ref C) = true
end
section
variable {X : Cx} {CX : CXT} {k : Nat} {f C : Addr} {fd : FuncData} {ps ks : List Str} {sp : Sp} {E : XK} {x m : Str} {p pos apos kpos : Pos} {e o : Expr} {es : List Expr} {kws : List Keyword} {te ta : TE} {t tk : TA} {nm : Option Str}
variable {g : List Value → List Value → List Value} {gV : List V → List V → List V}
end
structure FnScope (N P : List Str) (sc : Scope) : Prop where
  kind : sc.kind = .function
  co : sc.isCoroutine = false
  gen : sc.isGenerator = false
  nd : N.Nodup
  pre : N.take P.length = P
  par : ∀ x ∈ P, sc.names.lookup x = some .local ∨ sc.names.lookup x = some .cell
  nofree : ∀ y ∈ sc.names, y.2 ≠ .free
theorem bindL_out {kindOf : Str → Option NameKind} {x : Str} : ∀ {binds : List (Str × Value)} {m : Str → Option Value}, (∀ v, (x, v) ∉ binds) → bindL kindOf binds m x = m x
  | [], _, _ => rfl
  | (n, v) :: r, m, h => by
    unfold bindL
    rw [bindL_out fun w hw => h w (List.mem_cons_of_mem _ hw)]
    split
    · have : x ≠ n := by rintro rfl; exact h v List.mem_cons_self
      simp [this]
    · rfl
theorem bindC_out {kindOf : Str → Option NameKind} {x : Str} : ∀ {binds : List (Str × Value)} {m : Str → Option Value}, (∀ v, (x, v) ∉ binds) → bindC kindOf binds m x = m x
  | [], _, _ => rfl
  | (n, v) :: r, m, h => by
    unfold bindC
    rw [bindC_out fun w hw => h w (List.mem_cons_of_mem _ hw)]
    split
    · rfl
    · have : x ≠ n := by rintro rfl; exact h v List.mem_cons_self
      simp [this]
theorem bindL_get {kindOf : Str → Option NameKind} {x : Str} {v : Value} : ∀ {P : List Str} {vs : List Value} {i : Nat} {m : Str → Option Value}, P.Nodup → P[i]? = some x → vs[i]? = some v → kindOf x = some .local →
    bindL kindOf (P.zip vs) m x = some v
  | [], _, _, _, _, h, _, _ => by simp at h
  | _ :: _, [], _, _, _, _, h, _ => by simp at h
  | p :: P, w :: vs, 0, m, nd, h1, h2, hk => by
    simp at h1 h2; subst h1; subst h2
    show bindL kindOf ((p, w) :: P.zip vs) m p = _
    unfold bindL
    rw [bindL_out fun v hv => (List.nodup_cons.mp nd).1 (List.of_mem_zip hv).1, if_pos hk]
    simp
  | p :: P, w :: vs, i + 1, m, nd, h1, h2, hk => by
    show bindL kindOf ((p, w) :: P.zip vs) m x = _
    unfold bindL
    exact bindL_get (i := i) (List.nodup_cons.mp nd).2 (by simpa using h1) (by simpa using h2) hk
theorem bindC_get {kindOf : Str → Option NameKind} {x : Str} {v : Value} : ∀ {P : List Str} {vs : List Value} {i : Nat} {m : Str → Option Value}, P.Nodup → P[i]? = some x → vs[i]? = some v → kindOf x ≠ some .local →
    bindC kindOf (P.zip vs) m x = some v
  | [], _, _, _, _, h, _, _ => by simp at h
  | _ :: _, [], _, _, _, _, h, _ => by simp at h
  | p :: P, w :: vs, 0, m, nd, h1, h2, hk => by
    simp at h1 h2; subst h1; subst h2
    show bindC kindOf ((p, w) :: P.zip vs) m p = _
    unfold bindC
    rw [bindC_out fun v hv => (List.nodup_cons.mp nd).1 (List.of_mem_zip hv).1, if_neg hk]
    simp
  | p :: P, w :: vs, i + 1, m, nd, h1, h2, hk => by
    show bindC kindOf ((p, w) :: P.zip vs) m x = _
    unfold bindC
    exact bindC_get (i := i) (List.nodup_cons.mp nd).2 (by simpa using h1) (by simpa using h2) hk
def start (N : List Str) (vs : List V) : St := vs.map some ++ List.replicate (N.length - vs.length) none
def cxOf (CX : CXT) (P : Program) (w : World) (K : PySem.W.Frag) (mg : Str → Option Value) (base : Heap) (N : List Str) (qual : Str) (scope : Scope) (f : Addr) (cd : Value) (A : Around) (outer : List Env) (s : Shared) (H : Hp) (E : XK) : Cx where
  prog := P
  w := w
  K := K
  mg := mg
  base := base
  A := A.deeper (envOfC qual scope s.heap.objs.size f cd)
  N := N
  s₀ := s
  H₀ := H
  env := envOfC qual scope s.heap.objs.size f cd
  outer := outer
  stack := envOfC qual scope s.heap.objs.size f cd :: outer
  ex := []
  calm := true
  fn := fun _ => true
  pn := []
  xe := fun e s' => wpAny (model P w) (A.deeper (envOfC qual scope s.heap.objs.size f cd)) (leaving (envOfC qual scope s.heap.objs.size f cd) e) (fun _ s'' => CX outer H s E e s'') (fun e' s'' => CX outer H s E e' s'') s'
theorem cell_has {sc : Scope} {n : Nat} {x : Str} (h : sc.names.lookup x = some .cell) : ∃ c, (cellsFrom n sc.names []).lookup x = some c := by
  have q := PySem.W.cellsFrom_some sc.names n [] (.inl h)
  exact Option.isSome_iff_exists.mp q
theorem inv_start {CX : CXT} {P : Program} {w : World} {K : PySem.W.Frag} {mg : Str → Option Value} {base : Heap} {N ps : List Str} {qual : Str} {scope : Scope} {f : Addr} {cd : Value} {A : Around} {outer : List Env} {s s1 : Shared} {H : Hp} {E : XK} {us : List Value} {vs : List V}
    (S : FnScope N ps scope) (hd : A.handled = none) (e0 : Env0 P w K mg base A outer s H) (hl : vs.length = ps.length) (r : Vals vs us)
    (x : InCallC s s.heap.objs.size (bindL (envOfC qual scope s.heap.objs.size f cd).kindOf (ps.zip us) fun _ => none) (cellsFrom (s.heap.objs.size + 1) scope.names []) (bindC (envOfC qual scope s.heap.objs.size f cd).kindOf (ps.zip us) fun _ => none) s1) :
    Inv (cxOf CX P w K mg base N qual scope f cd A outer s H E) [] (start N vs) H s1 := by
  have hpl : ps.length ≤ N.length := by have := congrArg List.length S.pre; rw [List.length_take] at this; omega
  obtain ⟨h1, tk, rfl, hk⟩ := x.done
  have noA : ∀ b : Addr, b ∉ (cxOf CX P w K mg base N qual scope f cd A outer s H E).ex := fun b z => absurd (show b ∈ ([] : List Addr) from z) (by simp)
  refine ⟨⟨e0.mod, S.kind, rfl, rfl, Nat.le_refl _, fun y z c h1 h2 => ?_, fun y hy => ?_, fun y c _ h => ?_, fun _ => hd, Around.frames_deeper e0.frames, .inr ⟨rfl, rfl⟩, fun b z => absurd z (noA b), e0.bs, e0.bsz, fun b _ _ => noA b, fun b z => absurd z (noA b), e0.funs, e0.frf⟩,
    rfl, e0.bare, Un.kept hk, ⟨_, x.toInCall.ns, fun i y v h1 h2 h3 => ?_⟩, fun y c h => ⟨_, x.cell y c h⟩, e0.hok.fresh (Nat.le_refl _), fun y c h => ?_, fun p hp => absurd (show p ∈ ([] : List (Addr × Obj)) from hp) (by simp), e0.hok.kept hk, ?_⟩
  · exact name_of_addr x.apart (PySem.mem_of_lookup h1) (PySem.mem_of_lookup h2)
  · have hy : scope.names.lookup y = some .cell ∨ scope.names.lookup y = some .free := hy
    rcases hy with hy | hy
    · exact cell_has hy
    · exact absurd rfl (S.nofree _ (PySem.mem_of_lookup hy))
  · exact Nat.le_of_lt (x.above y c (PySem.mem_of_lookup h))
  · have hi : i < vs.length := by
      unfold start at h2
      by_cases hi : i < vs.length
      · exact hi
      · rw [List.getElem?_append_right (by simpa using hi)] at h2
        rw [List.getElem?_replicate] at h2
        split at h2 <;> cases h2
    have ha : vs[i]? = some v := by
      unfold start at h2
      rw [List.getElem?_append_left (by simpa using hi), List.getElem?_map] at h2
      cases e : vs[i]? with
      | none => rw [e] at h2; cases h2
      | some a => rw [e] at h2; cases h2; rfl
    obtain ⟨u, hu, rv⟩ := r.get ha
    have hp : ps[i]? = some y := by
      rw [← S.pre, List.getElem?_take_of_lt (by omega)]; exact h1
    have ndP : ps.Nodup := by rw [← S.pre]; exact S.nd.sublist (List.take_sublist _ _)
    refine ⟨u, rv, ?_⟩
    rcases S.par y (List.mem_of_getElem? hp) with k | k
    · exact .inl ⟨k, bindL_get ndP hp hu k⟩
    · obtain ⟨c, e⟩ := cell_has (n := s.heap.objs.size + 1) k
      refine .inr ⟨.inl k, c, e, ?_⟩
      have q := x.cell y c e
      rw [bindC_get ndP hp hu (by show scope.names.lookup y ≠ _; rw [k]; decide)] at q
      exact q
  · exact e0.hok.fresh (Nat.le_of_lt (x.above y c (PySem.mem_of_lookup h)))
  · unfold start
    show _ = N.length
    rw [List.length_append, List.length_map, List.length_replicate]
    omega
theorem fn_of {CX : CXT} {P : Program} {w : World} {K : PySem.W.Frag} {mg : Str → Option Value} {base : Heap} {k : Nat} {f : Addr} {name qual : Str} {params : Arguments} {body : List Stmt} {scope : Scope} {dV kV doc pm cdv ct oc : Value} {an od : Option Addr}
    {osl : Array (Option Value)} {N ps : List Str} {sp : Sp} (lk : K.lookup f = some ⟨oc, od, .func (PySem.W.fnOf name qual params body scope dV kV doc pm an cdv ct), osl⟩) (hcd : PySem.W.codeIn K cdv qual = true) (S : FnScope N ps scope)
    (len : ∀ vs H Q E, sp vs H Q E → vs.length = ps.length)
    (hbody : ∀ (A : Around) (outer : List Env) (s : Shared) (H : Hp) (vs : List V) (Q : VK) (E : XK), Room k (A.deeper (envOfC qual scope s.heap.objs.size f cdv)) → sp vs H Q E →
      ∃ t, PSs (cxOf CX P w K mg base N qual scope f cdv A outer s H E) body t ∧ t { nx := fun _ H' => Q .non H', rt := Q } (start N vs) H) :
    FnOk P w K mg base CX (k + 1) f (PySem.W.fnOf name qual params body scope dV kV doc pm an cdv ct) ps sp := by
  refine ⟨len, fun A outer s H args us vs Q E hr e0 hb r hsp => ?_⟩
  have hl := len _ _ _ _ hsp
  have KX : K.In s.heap := e0.mod.kin.keeps fun b o e => (e0.bs b o e).1
  have lim : s.heap.NoLimit := e0.mod.nolimit.keeps fun b o e => (e0.bs b o e).1
  have hkind : ∀ y ∈ ps.zip us, scope.names.lookup y.1 = some .local ∨ (scope.names.lookup y.1 = some .cell ∧ ((cellsFrom (s.heap.objs.size + 1) scope.names []).lookup y.1).isSome = true) := fun ⟨n, v⟩ hy => by
    rcases S.par n (List.of_mem_zip hy).1 with q | q
    · exact .inl q
    · exact .inr ⟨q, PySem.W.cellsFrom_some _ _ _ (.inl q)⟩
  refine codeAny_call_function hr.depth (KX _ _ lk) rfl S.co S.gen rfl (PySem.W.codeRec_of KX hcd) (hb _ _ _ _ ?_)
  refine wpAny_newFunctionEnv_cells S.kind hkind fun env he s1 x => ?_
  subst he
  refine ⟨lim.keeps x.toInCall.keep, codeAny_func ?_⟩
  obtain ⟨t, ht, hq⟩ := hbody A outer s H vs Q E (hr.deeper _) hsp
  have I : Inv (cxOf CX P w K mg base N qual scope f cdv A outer s H E) [] (start N vs) H s1 := inv_start S hr.hd e0 hl r x
  refine wpAny_mono (ht [] s1 (start N vs) H _ I hq) (fun fl s' hs => ?_) fun e s' hs => hs
  have fin : ∀ {σ' : St} {H' : Hp} {v : V} {u : Value}, Inv (cxOf CX P w K mg base N qual scope f cdv A outer s H E) [] σ' H' s' → RelV v u → Q v H' → CE outer P w H s Q u s' :=
    fun {σ' H' v u} J rv q => ⟨v, H', J.os, J.bare, J.base, J.hok, rv, q⟩
  cases fl with
  | ret u =>
    obtain ⟨v, σ', H', J, rv, q⟩ := hs
    exact fin J rv q
  | next =>
    obtain ⟨σ', H', J, q⟩ := hs
    exact fin (v := V.non) (u := Value.none) J rfl q
  | brk =>
    obtain ⟨_, _, _, q⟩ := hs
    exact False.elim q
  | cont =>
    obtain ⟨_, _, _, q⟩ := hs
    exact False.elim q
end L2
namespace L2
open PySem PySem.Spec PyProof.Rows
section
variable {X : Cx} {x : Str} {p pos : Pos} {e : Expr} {es : List Expr} {t : TA} {id T : String} {r : List V → Hp → VK → Prop}
def tCB (r : List V → Hp → VK → Prop) (t : TA) : TE := fun σ H Q => t σ H fun vs H1 => r vs H1 Q
theorem pe_callB (hc : CallR X (.builtin id) r) (hg : Gl X x) (hm : X.mg x = none) (hv : bootBuiltins x = some (.builtin id)) (ha : PA X (e :: es) t) (hn : x ≠ "__name__" := by decide) (hdb : (x == ("__debug__" : Str)) = false := by decide)
    (he : starEach (e :: es) X.env = (false, eval e X.env) :: starEach es X.env := by rfl) (hpl : (backTo pos (starEach es X.env)).any (·.1) = false := by rfl) : PE X (.Call (.Name x p) (e :: es) [] pos) (tCB r t) := by
  intro pins s σ H Q I h
  refine wpAny_Call_Name_kw (ld_blt I hg hm hv ?_ hn hdb)
  exact PyProof.Rows.callWith_builtin1 (thn (ha pos pins s σ H _ I h) fun us s1 ⟨vs, H1, I1, r1, q1⟩ => hc pins s1 σ H1 vs us Q I1 r1 q1) he hpl
theorem pe_callTy (hc : CallR X (.type T) r) (hg : Gl X x) (hm : X.mg x = none) (hv : bootBuiltins x = some (.type T)) (ha : PA X (e :: es) t) (hn : x ≠ "__name__" := by decide) (hdb : (x == ("__debug__" : Str)) = false := by decide)
    (he : starEach (e :: es) X.env = (false, eval e X.env) :: starEach es X.env := by rfl) (hpl : (backTo pos (starEach es X.env)).any (·.1) = false := by rfl) : PE X (.Call (.Name x p) (e :: es) [] pos) (tCB r t) := by
  intro pins s σ H Q I h
  refine wpAny_Call_Name_kw (ld_blt I hg hm hv ?_ hn hdb)
  exact PyProof.Rows.callWith_type1 (thn (ha pos pins s σ H _ I h) fun us s1 ⟨vs, H1, I1, r1, q1⟩ => hc pins s1 σ H1 vs us Q I1 r1 q1) he hpl
end
end L2
namespace HT
open PySem PyProof.Rows
section
open PySem.SeqAt
open PySem.AutoSeq1 (wpAny_loadPart')
open PySem.MeetsSeq PySem.MeetsSeq2 PySem.MeetsSeq3
end
section
variable {prog : Program} {w : World} {A : Around} {E : Value → Shared → Prop} {s : Shared}
theorem cat_tup {t b : Addr} {vs ws : List Value} {Q : Value → Shared → Prop} (ht : IsTup s.heap t vs.toArray) (hb : IsTup s.heap b ws.toArray) (hv : vs ≠ [])
    (h1 : ws = [] → Q (.ref t) s) (h2 : ws ≠ [] → Q (.ref s.heap.objs.size) { s with heap := s.heap.push { cls := .type "tuple", data := .seq (vs ++ ws).toArray } })
    (hsz : vs.length + ws.length ≤ sizeLine) : wpAny (model prog w) A (binaryOp .Add (.ref t) (.ref b)) Q E s := by
  obtain ⟨⟨cls, dd, data, sl⟩, ho, hc, n, hd⟩ := id ht
  obtain ⟨⟨cls2, dd2, data2, sl2⟩, ho2, hc2, n2, hd2⟩ := id hb
  simp only at hc hd hc2 hd2
  subst hc hd hc2 hd2
  have e : vs.toArray ++ ws.toArray = (vs ++ ws).toArray := by simp
  by_cases hw : ws = []
  · exact concat_meets ⟨_, ho, rfl⟩ ⟨_, ho2, rfl⟩ noFill_tuple_add seq_tuple_add PySem.F.slot_tuple_add PySem.F.entry_tuple_add (PySem.F.args_tuple_add_2 _ _)
      (tuple_addW1 t b vs.toArray ws.toArray n n2 dd dd2 sl sl2 (by simpa using hv) (by simp [hw])) ⟨ho, ho2, h1 hw⟩
  · refine concat_meets ⟨_, ho, rfl⟩ ⟨_, ho2, rfl⟩ noFill_tuple_add seq_tuple_add PySem.F.slot_tuple_add PySem.F.entry_tuple_add (PySem.F.args_tuple_add_2 _ _)
      (tuple_addW2 t b vs.toArray ws.toArray n n2 dd dd2 sl sl2 (by simpa using hv) (by simpa using hw) (by rw [List.size_toArray, List.size_toArray]; exact hsz)) ⟨ho, ho2, ?_⟩
    rw [e]
    exact h2 hw
def sIx (n d : Nat) : Option Int → Nat
  | none => d
  | some v => if v < 0 then (v + (n : Int)).toNat else min v.toNat n
theorem sIx_le (n d : Nat) (hd : d ≤ n) (o : Option Int) : sIx n d o ≤ n := by
  cases o with
  | none => exact hd
  | some v =>
    show (if v < 0 then (v + (n : Int)).toNat else min v.toNat n) ≤ n
    by_cases hv : v < 0
    · rw [if_pos hv]; omega
    · rw [if_neg hv]; exact Nat.min_le_right _ _
theorem clip_eq (v : Int) (n d : Nat) : (if v < 0 then max (v + (n : Int)) 0 else min v (n : Int)) = ((sIx n d (some v) : Nat) : Int) := by
  show (if v < 0 then max (v + (n : Int)) 0 else min v (n : Int)) = (((if v < 0 then (v + (n : Int)).toNat else min v.toNat n) : Nat) : Int)
  by_cases hv : v < 0
  · simp only [if_pos hv]; omega
  · simp only [if_neg hv]; omega
theorem adjust_gen (lo hi : Option Int) (n : Nat) : Builtin.Slice.sliceAdjust lo hi 1 (n : Int) = (((sIx n 0 lo : Nat) : Int), ((sIx n n hi : Nat) : Int)) := by
  have h1 : ¬ ((1 : Int) < 0) := by omega
  unfold Builtin.Slice.sliceAdjust
  simp only [h1, if_false]
  refine Prod.ext ?_ ?_
  · cases lo with
    | none => rfl
    | some v => exact clip_eq v n 0
  · cases hi with
    | none => rfl
    | some v => exact clip_eq v n n
theorem places_gen (i j : Nat) : Builtin.Slice.slicePlaces (i : Int) (j : Int) 1 = j - i := by
  unfold Builtin.Slice.slicePlaces
  have h1 : (1 : Int) > 0 := by omega
  simp only [h1, if_true, Int.ediv_one]
  split <;> omega
theorem slicePart_ {v : Value} {o : Option Int} {Q : Option Int → Shared → Prop} (p : IsPart v o) (h : Q o s) : wpAny (model prog w) A (Builtin.Slice.slicePartIndex v) Q E s := by
  cases p with
  | none => exact slicePart_none h
  | int i t => exact slicePart_int h
theorem sliceApplied_gen {sl : Addr} {vl vu : Value} {lo hi : Option Int} {n : Nat} {Q : Int × Int × Nat → Shared → Prop} (hs : s.heap.IsSliceOf sl vl vu .none) (pl : IsPart vl lo) (pu : IsPart vu hi)
    (h : Q (((sIx n 0 lo : Nat) : Int), 1, sIx n n hi - sIx n 0 lo) s) : wpAny (model prog w) A (Builtin.Slice.sliceApplied (.ref sl) (pure (n : Int))) Q E s := by
  obtain ⟨os, hos, hcs, hds⟩ := id hs
  unfold Builtin.Slice.sliceApplied Builtin.Slice.sliceFields
  refine wpAny_bind (wpAny_bind (wpAny_field hos hds (x := vl) rfl (wpAny_bind (wpAny_field hos hds (x := vu) rfl (wpAny_bind (wpAny_field hos hds (x := .none) rfl (wpAny_pure ?_)))))))
  refine wpAny_bind (slicePart_none ?_)
  show wpAny _ _ (if ((1 : Int) == 0) = true then _ else _) _ _ s
  rw [if_neg (by decide)]
  refine wpAny_bind (slicePart_ pl (wpAny_bind (slicePart_ pu (wpAny_bind (wpAny_pure ?_)))))
  show wpAny _ _ (match Builtin.Slice.sliceAdjust lo hi 1 (n : Int) with | (lo, hi) => pure (lo, (1 : Int), Builtin.Slice.slicePlaces lo hi 1)) _ _ s
  rw [adjust_gen lo hi n]
  show wpAny _ _ (pure (((sIx n 0 lo : Nat) : Int), (1 : Int), Builtin.Slice.slicePlaces ((sIx n 0 lo : Nat) : Int) ((sIx n n hi : Nat) : Int) 1)) _ _ s
  rw [places_gen]
  exact wpAny_pure h
theorem pick_gen (xs : Array Value) (i k : Nat) : ((List.range k).filterMap fun (m : Nat) => xs[((i : Int) + (m : Int) * 1).toNat]?).toArray = ((xs.toList.drop i).take k).toArray := by
  have e : (fun (m : Nat) => xs[((i : Int) + (m : Int) * 1).toNat]?) = fun m => xs[i + m]? := by
    funext m
    have : ((i : Int) + (m : Int) * 1).toNat = i + m := by omega
    rw [this]
  rw [e]
  have := pick_run xs i k
  rw [List.filterMap_map] at this
  have e2 : ((fun x => xs[x]?) ∘ fun x => i + x) = fun m => xs[i + m]? := rfl
  rw [e2] at this
  rw [this]
theorem getItem_tuple_cut {t sl : Addr} {items : Array Value} {vl vu : Value} {lo hi : Option Int} {Q : Value → Shared → Prop} (ht : IsTup s.heap t items) (hs : s.heap.IsSliceOf sl vl vu .none) (pl : IsPart vl lo) (pu : IsPart vu hi)
    (hw : ¬ (sIx items.size 0 lo = 0 ∧ sIx items.size items.size hi = items.size))
    (h : Q (.ref s.heap.objs.size) { s with heap := s.heap.push { cls := .type "tuple", data := .seq ((items.toList.drop (sIx items.size 0 lo)).take (sIx items.size items.size hi - sIx items.size 0 lo)).toArray } })
    (hsz : items.size ≤ sizeLine) : wpAny (model prog w) A (getItem (.ref t) (.ref sl)) Q E s := by
  have htake : sizeOk (.seq ((items.toList.drop (sIx items.size 0 lo)).take (sIx items.size items.size hi - sIx items.size 0 lo)).toArray) := by
    show ((items.toList.drop (sIx items.size 0 lo)).take (sIx items.size items.size hi - sIx items.size 0 lo)).toArray.size ≤ sizeLine
    rw [List.size_toArray, List.length_take, List.length_drop, Array.length_toList]
    omega
  have hj : sIx items.size items.size hi ≤ items.size := sIx_le _ _ (Nat.le_refl _) hi
  obtain ⟨os, hos, hcs, hds⟩ := id hs
  have hTs : s.TypeIs (.ref sl) "slice" := ⟨os, hos, hcs⟩
  unfold getItem
  try with_reducible refine wpAny_holding ?_
  first | refine wpAny_bind (wpAny_pure ?_) | skip
  refine wpAny_bind (wpAny_sequenceKey ht.typeIs (by decide) ?_)
  refine wpAny_bind (wpAny_callSpecial?_slot (name := Str.ofString "__getitem__") ht.typeIs PyProof.Rows.slot_tuple_getitem
    (wpAny_call_entry PyProof.Rows.slot_tuple_getitem ht.typeIs entry_tuple_getitem ?_ (args_tuple_getitem _ _)))
  show wpAny _ _ (Builtin.Tuple.tupleItemsOf (.ref t) >>= _) _ _ s
  refine wpAny_bind (tupleItemsOf_ ht ?_)
  refine wpAny_bind (wpAny_typeOf hTs ?_)
  rw [if_pos (by decide)]
  refine wpAny_bind (sliceApplied_gen hs pl pu ?_)
  have hno : ¬ ((((sIx items.size 0 lo : Nat) : Int) == 0 && (1 : Int) == 1 && (sIx items.size items.size hi - sIx items.size 0 lo) == items.size) = true) := by
    intro q
    rw [Bool.and_eq_true, Bool.and_eq_true] at q
    have q1 : ((sIx items.size 0 lo : Nat) : Int) = 0 := eq_of_beq q.1.1
    have q2 : sIx items.size items.size hi - sIx items.size 0 lo = items.size := eq_of_beq q.2
    exact hw ⟨by omega, by omega⟩
  show wpAny _ _ (if (((sIx items.size 0 lo : Nat) : Int) == 0 && (1 : Int) == 1 && (sIx items.size items.size hi - sIx items.size 0 lo) == items.size) = true then _ else _) _ _ s
  rw [if_neg hno, pick_gen]
  first
    | exact wpAny_bind (m := Builtin.Tuple.tupleExact _) (wpAny_newObj_type (wpAny_pure ⟨_, rfl, wpAny_pure h⟩) htake)
    | exact wpAny_bind (m := Builtin.Tuple.tupleExact _) (wpAny_newObj_type (wpAny_bind (wpAny_pure (wpAny_pure ⟨_, rfl, wpAny_pure h⟩))) htake)
    | exact wpAny_bind (wpAny_bind (m := Builtin.Tuple.tupleExact _) (wpAny_newObj_type (wpAny_pure (wpAny_pure ⟨_, rfl, wpAny_pure h⟩)) htake))
    | exact wpAny_bind (wpAny_bind (m := Builtin.Tuple.tupleExact _) (wpAny_newObj_type (wpAny_pure ⟨_, rfl, wpAny_pure h⟩) htake))
end
end HT
namespace L2
open PySem PySem.Spec PyProof.Rows
abbrev TO := St → Hp → (Option Int → Hp → Prop) → Prop
def PO (X : Cx) (e : Option Expr) (t : TO) : Prop :=
  ∀ (pins : List (Addr × Obj)) (s : Shared) (σ : St) (H : Hp) (Q : Option Int → Hp → Prop), Inv X pins σ H s → t σ H Q →
    wpAny (model X.prog X.w) X.A (evalPart e X.env) (fun u s' => ∃ o H', Inv X pins σ H' s' ∧ IsPart u o ∧ Q o H') X.xe s
def tNoPart : TO := fun _ H Q => Q none H
def tPart (t : TE) : TO := fun σ H Q => t σ H fun x H1 => ∃ i, x = .int i ∧ Q (some i) H1
section
variable {X : Cx} {e : Expr} {te : TE} {lo hi : Option Expr} {tl th : TO} {pos p2 : Pos}
theorem po_none : PO X none tNoPart := by
  intro pins s σ H Q I h
  rw [evalPart_none]
  exact wpAny_pure ⟨none, H, I, .none, h⟩
theorem po_some (h : PE X e te) : PO X (some e) (tPart te) := by
  intro pins s σ H Q I hw
  rw [evalPart_some]
  refine thn (h pins s σ H _ I hw) fun u s1 ⟨x, H1, I1, r1, q1⟩ => ?_
  obtain ⟨i, rfl, q⟩ := q1
  obtain ⟨t, rfl⟩ := r1
  exact ⟨some i, H1, I1, .int i t, q⟩
def SlR (X : Cx) (r : V → Option Int → Option Int → Hp → VK → Prop) : Prop :=
  ∀ (pins : List (Addr × Obj)) (s : Shared) (σ : St) (H : Hp) (x : V) (v vl vu : Value) (lo hi : Option Int) (sl : Addr) (Q : VK), Inv X pins σ H s → RelV x v → s.heap.IsSliceOf sl vl vu .none → IsPart vl lo → IsPart vu hi → r x lo hi H Q →
    ∃ T id, typeLookup (.type T) "__getitem__" = pure (some (.builtin id)) ∧ s.TypeIs v T ∧ wpAny (model X.prog X.w) X.A (getItem v (.ref sl)) (EP X pins σ Q) X.xe s
theorem SlR.or {r r' : V → Option Int → Option Int → Hp → VK → Prop} (h : SlR X r) (h' : SlR X r') : SlR X (fun x lo hi H Q => r x lo hi H Q ∨ r' x lo hi H Q) := by
  intro pins s σ H x v vl vu lo hi sl Q I rx hs pl pu q
  rcases q with q | q
  · exact h pins s σ H x v vl vu lo hi sl Q I rx hs pl pu q
  · exact h' pins s σ H x v vl vu lo hi sl Q I rx hs pl pu q
def tSl (r : V → Option Int → Option Int → Hp → VK → Prop) (te : TE) (tl th : TO) : TE := fun σ H Q => te σ H fun x H1 => tl σ H1 fun l H2 => th σ H2 fun u H3 => r x l u H3 Q
theorem pe_slice {r : V → Option Int → Option Int → Hp → VK → Prop} (hr : SlR X r) (he : PE X e te) (hl : PO X lo tl) (hu : PO X hi th) : PE X (.Subscript e (.Slice lo hi none p2) pos) (tSl r te tl th) := by
  intro pins s σ H Q I h
  refine Subscript_ (thn (he pins s σ H _ I h) fun v s1 ⟨x, H1, I1, r1, q1⟩ => ?_)
  refine wpAny_Slice (thn (hl pins s1 σ H1 _ I1 q1) fun vl s2 ⟨l, H2, I2, pl, q2⟩ => thn (hu pins s2 σ H2 _ I2 q2) fun vu s3 ⟨u, H3, I3, pu, q3⟩ => ?_)
  rw [evalPart_none]
  refine wpAny_pure ?_
  have I4 : Inv X pins σ H3 { s3 with heap := s3.heap.push { cls := .type "slice", data := .fields #[vl, vu, .none] } } := I3.kept (t' := s3.toks) fun b ob q => Heap.get?_push_of_some _ q
  obtain ⟨T, id, hT, ht, hg⟩ := hr pins { s3 with heap := s3.heap.push { cls := .type "slice", data := .fields #[vl, vu, .none] } } σ H3 x v vl vu l u s3.heap.objs.size Q I4 r1 (Heap.IsSliceOf.new ..) pl pu q3
  show wpAny (model X.prog X.w) X.A (subscriptTail e (.Slice lo hi none p2) v (.ref s3.heap.objs.size)) (EP X pins σ Q) X.xe { s3 with heap := s3.heap.push { cls := .type "slice", data := .fields #[vl, vu, .none] } }
  exact tail_any (ops := [.ref s3.heap.objs.size, v]) ht hT hg (by with_unfolding_all rfl)
def cutV (xs : List V) (lo hi : Option Int) : List V := (xs.drop (HT.sIx xs.length 0 lo)).take (HT.sIx xs.length xs.length hi - HT.sIx xs.length 0 lo)
theorem cutV_length (xs : List V) (lo hi : Option Int) : (cutV xs lo hi).length ≤ xs.length := by
  unfold cutV
  rw [List.length_take, List.length_drop]
  omega
def rSlT (K : PySem.W.Frag) : V → Option Int → Option Int → Hp → VK → Prop := fun x lo hi H Q => ∃ a xs, x = .ref a ∧ SqT K H a xs ∧
  ¬ (HT.sIx xs.length 0 lo = 0 ∧ HT.sIx xs.length xs.length hi = xs.length) ∧ ∀ p, H p = none → Q (.ref p) (upd H p (.tup (cutV xs lo hi)))
theorem sl_tup : SlR X (rSlT X.K) := by
  intro pins s σ H x v vl vu lo hi sl Q I rx hs pl pu h
  obtain ⟨a, xs, rfl, hx, hw, q⟩ := h
  cases rx
  obtain ⟨its, r, ht, hz⟩ := I.tuple hx
  have hlen : its.toArray.size = xs.length := by rw [List.size_toArray]; exact r.length.symm
  refine ⟨"tuple", _, PyProof.Rows.slot_tuple_getitem.lookup, ht.typeIs, ?_⟩
  refine HT.getItem_tuple_cut ht hs pl pu (by rw [hlen]; exact hw) ?_ (by rw [hlen]; exact hz)
  rw [hlen]
  refine ⟨.ref s.heap.objs.size, _, I.laid (t' := s.toks) (o := .tup (cutV xs lo hi)) (fun b ob q => Heap.get?_push_of_some _ q) (Nat.le_refl _) ?_, rfl, q _ (I.hok.fresh (Nat.le_refl _))⟩
  exact ⟨Nat.le_trans (cutV_length xs lo hi) hz, _, (r.drop (HT.sIx xs.length 0 lo)).take (HT.sIx xs.length xs.length hi - HT.sIx xs.length 0 lo), IsTup.new _ _⟩
def rCatT (K : PySem.W.Frag) : R2 := fun x y H Q => ∃ a b xs ys, x = .ref a ∧ y = .ref b ∧ SqT K H a xs ∧ SqT K H b ys ∧ xs ≠ [] ∧ xs.length + ys.length ≤ sizeLine ∧
  (ys = [] → Q (.ref a) H) ∧ (ys ≠ [] → ∀ p, H p = none → Q (.ref p) (upd H p (.tup (xs ++ ys))))
theorem Vals.nil_iff {xs : List V} {us : List Value} (r : Vals xs us) : us = [] ↔ xs = [] := by
  cases r with
  | nil => simp
  | cons _ _ => simp
theorem op_catT : OpR X (binaryOp .Add) (rCatT X.K) := by
  intro pins s σ H x y v u Q I rx ry h
  obtain ⟨a, b, xs, ys, rfl, rfl, ha, hb, hx, hz, q1, q2⟩ := h
  cases rx
  cases ry
  obtain ⟨its, r1, p1, _⟩ := I.tuple ha
  obtain ⟨its2, r2, p2, _⟩ := I.tuple hb
  refine HT.cat_tup p1 p2 (fun z => hx (r1.nil_iff.mp z)) (fun z => ⟨.ref a, H, I, rfl, q1 (r2.nil_iff.mp z)⟩) (fun z => ?_) (by rw [← r1.length, ← r2.length]; exact hz)
  refine ⟨.ref s.heap.objs.size, _, I.laid (t' := s.toks) (o := .tup (xs ++ ys)) (fun b ob q => Heap.get?_push_of_some _ q) (Nat.le_refl _) ?_, rfl, q2 (fun w => z (r2.nil_iff.mpr w)) _ (I.hok.fresh (Nat.le_refl _))⟩
  exact ⟨by rw [List.length_append]; exact hz, _, r1.append r2, IsTup.new _ _⟩
end
end L2
namespace L2
open PySem PySem.Spec PyProof.Rows
def ixN (n : Nat) (i : Int) : Option Nat := if 0 ≤ i then (if i < n then some i.toNat else none) else if -(n : Int) ≤ i then some (i + n).toNat else none
def atI {α : Type} (xs : List α) (i : Int) : Option α := (ixN xs.length i).bind fun j => xs[j]?
theorem ixN_seq {n : Nat} {i : Int} {j : Nat} (h : ixN n i = some j) : seqIndex? i n = some j ∧ j < n ∧ -(n : Int) ≤ i ∧ i < n := by
  unfold ixN at h
  by_cases h0 : 0 ≤ i
  · rw [if_pos h0] at h
    by_cases h1 : i < n
    · rw [if_pos h1] at h
      have e : i.toNat = j := Option.some.inj h
      exact ⟨by rw [seqIndex_of h0 h1, e], by omega, by omega, h1⟩
    · rw [if_neg h1] at h; cases h
  · rw [if_neg h0] at h
    by_cases h1 : -(n : Int) ≤ i
    · rw [if_pos h1] at h
      have e : (i + n).toNat = j := Option.some.inj h
      exact ⟨by rw [seqIndex_neg (by omega) h1, e], by omega, h1, by omega⟩
    · rw [if_neg h1] at h; cases h
theorem atI_get {α : Type} {xs : List α} {i : Int} {v : α} (h : atI xs i = some v) : ∃ j, seqIndex? i xs.length = some j ∧ xs[j]? = some v ∧ j < xs.length ∧ -(xs.length : Int) ≤ i ∧ i < xs.length := by
  unfold atI at h
  cases e : ixN xs.length i with
  | none => rw [e] at h; cases h
  | some j =>
    rw [e] at h
    obtain ⟨h1, h2, h3, h4⟩ := ixN_seq e
    exact ⟨j, h1, h, h2, h3, h4⟩
theorem atI_nat {α : Type} {xs : List α} {j : Nat} {v : α} (h : xs[j]? = some v) : atI xs (j : Int) = some v := by
  have hj : j < xs.length := (List.getElem?_eq_some_iff.mp h).1
  have e : ixN xs.length (j : Int) = some j := by
    unfold ixN
    rw [if_pos (by omega), if_pos (by omega)]; simp
  unfold atI; rw [e]; exact h
def PlainIx (b : Expr) : Prop := ∀ o i, subscripted b false o i = operate [o, i] (getItem o i)
def IxR (X : Cx) (r : R2) : Prop :=
  ∀ (value slice : Expr) (pins : List (Addr × Obj)) (s : Shared) (σ : St) (H : Hp) (x y : V) (v u : Value) (Q : VK), Inv X pins σ H s → RelV x v → RelV y u → r x y H Q →
    subscripted slice false v u = operate [v, u] (getItem v u) → wpAny (model X.prog X.w) X.A (subscriptTail value slice v u) (EP X pins σ Q) X.xe s
def MtR (X : Cx) (id : String) (r : V → List V → Hp → VK → Prop) : Prop :=
  ∀ (pins : List (Addr × Obj)) (s : Shared) (σ : St) (H : Hp) (x : V) (xs : List V) (v : Value) (us : List Value) (Q : VK), Inv X pins σ H s → RelV x v → Vals xs us → r x xs H Q →
    wpAny (model X.prog X.w) X.A (call (.builtin id) (v :: us)) (EP X pins σ Q) X.xe s
section
variable {X : Cx} {a b : Expr} {ta tb : TE} {pos : Pos}
theorem IxR.or {r r' : R2} (h : IxR X r) (h' : IxR X r') : IxR X (fun x y H Q => r x y H Q ∨ r' x y H Q) := by
  intro value slice pins s σ H x y v u Q I rx ry q hs
  rcases q with q | q
  · exact h value slice pins s σ H x y v u Q I rx ry q hs
  · exact h' value slice pins s σ H x y v u Q I rx ry q hs
theorem MtR.or {id : String} {r r' : V → List V → Hp → VK → Prop} (h : MtR X id r) (h' : MtR X id r') : MtR X id (fun x xs H Q => r x xs H Q ∨ r' x xs H Q) := by
  intro pins s σ H x xs v us Q I rx rs q
  rcases q with q | q
  · exact h pins s σ H x xs v us Q I rx rs q
  · exact h' pins s σ H x xs v us Q I rx rs q
theorem pe_ix {r : R2} (hr : IxR X r) (ha : PE X a ta) (hb : PE X b tb) (hs : PlainIx b) : PE X (.Subscript a b pos) (tOp r ta tb) := by
  intro pins s σ H Q I h
  exact Subscript_ (binT ha hb I h fun v u s2 x y H2 I2 rx ry q => hr a b pins s2 σ H2 x y v u Q I2 rx ry q (hs _ _))
def rIxL (K : PySem.W.Frag) : R2 := fun x y H Q => ∃ p xs i v, x = .ref p ∧ y = .int i ∧ SqL K H p xs ∧ atI xs i = some v ∧ Q v H
def rIxT (K : PySem.W.Frag) : R2 := fun x y H Q => ∃ p xs i v, x = .ref p ∧ y = .int i ∧ SqT K H p xs ∧ atI xs i = some v ∧ Q v H
def rIxS : R2 := fun x y H Q => ∃ z i c, x = .str z ∧ y = .int i ∧ z.length ≤ sizeLine ∧ atI z.cps.toList i = some c ∧ Q (.str ⟨#[c]⟩) H
theorem ix_list : IxR X (rIxL X.K) := by
  intro value slice pins s σ H x y v u Q I rx ry h hs
  obtain ⟨p, xs, i, z, rfl, rfl, hq, he, q⟩ := h
  cases rx
  obtain ⟨t, rfl⟩ := ry
  obtain ⟨its, r, pl, hz⟩ := I.list hq
  obtain ⟨j, h1, h2, h3, h4, h5⟩ := atI_get he
  obtain ⟨w, ew, rw'⟩ := r.get h2
  have hl := r.length
  have hn := line63
  have fin : EP X pins σ Q w s := ⟨z, H, I, rw', q⟩
  by_cases h0 : 0 ≤ i
  · have hj : i.toNat = j := by
      rw [seqIndex_of h0 h5] at h1
      exact Option.some.inj h1
    exact item_listR pl.isList h0 (by omega) (by rw [hj]; simpa using ew) fin hs
  · have hj : (i + (its.toArray.size : Int)).toNat = j := by
      rw [seqIndex_neg (by omega) h4] at h1
      rw [List.size_toArray, ← hl]
      exact Option.some.inj h1
    exact subscriptTail_builtinR (x := w) pl.isList.typeIs slot_list_getitem.lookup
      (wpAny_getItem_list_neg (Q := fun r s' => r = w ∧ EP X pins σ Q r s') pl.isList (by omega) (by rw [List.size_toArray] <;> omega) (by omega) (by rw [hj]; simpa using ew) ⟨rfl, fin⟩) hs
theorem ix_tup : IxR X (rIxT X.K) := by
  intro value slice pins s σ H x y v u Q I rx ry h hs
  obtain ⟨p, xs, i, z, rfl, rfl, hq, he, q⟩ := h
  cases rx
  obtain ⟨t, rfl⟩ := ry
  obtain ⟨its, r, pl, hz⟩ := I.tuple hq
  obtain ⟨j, h1, h2, h3, h4, h5⟩ := atI_get he
  obtain ⟨w, ew, rw'⟩ := r.get h2
  have hl := r.length
  have hn := line63
  have fin : EP X pins σ Q w s := ⟨z, H, I, rw', q⟩
  exact subscriptTail_builtinR (x := w) pl.typeIs slot_tuple_getitem.lookup
    (getItem_tuple (j := j) (Q := fun r s' => r = w ∧ EP X pins σ Q r s') pl (by omega) (by omega) (by rw [List.size_toArray, ← hl]; exact h1) (by simpa using ew) ⟨rfl, fin⟩) hs
theorem ix_str : IxR X rIxS := by
  intro value slice pins s σ H x y v u Q I rx ry h hs
  obtain ⟨z, i, c, rfl, rfl, hz, he, q⟩ := h
  obtain ⟨t, rfl⟩ := rx
  obtain ⟨t', rfl⟩ := ry
  obtain ⟨j, h1, h2, h3, h4, h5⟩ := atI_get he
  have hl : z.cps.toList.length = z.length := by simp [Str.length]
  rw [hl] at h1 h4 h5
  have hn := line63
  exact tail_any (typeIs_str s z t) slot_str_getitem.lookup (getItem_str (c := c) (by
    have e1 : decide (i < -(2 ^ 63 : Int)) = false := decide_eq_false (by omega)
    have e2 : decide (i ≥ 2 ^ 63) = false := decide_eq_false (by omega)
    rw [e1, e2, Bool.or_false]) (by rw [h1]; simpa using h2) ⟨.str ⟨#[c]⟩, H, I.tok _, ⟨_, rfl⟩, q⟩) hs
theorem Inv.lst {pins : List (Addr × Obj)} {σ : St} {H : Hp} {s : Shared} {p : Addr} {xs : List V} (I : Inv X pins σ H s) (h : H p = some (.lst xs)) :
    ∃ (its : List Value) (n : Nat), Vals xs its ∧ s.heap.get? p = some { cls := .type "list", data := .seq its.toArray n } ∧ xs.length ≤ sizeLine := by
  obtain ⟨z, its, n, r, e⟩ := I.hok p _ h
  exact ⟨its, n, r, e, z⟩
theorem slice_bounds (lo hi : Option Int) (n : Nat) : (sliceBounds lo hi none n).1 = ((HT.sIx n 0 lo : Nat) : Int) ∧ (sliceBounds lo hi none n).2.1 = ((HT.sIx n n hi : Nat) : Int) ∧ (sliceBounds lo hi none n).2.2 = 1 := by
  refine ⟨?_, ?_, rfl⟩
  · cases lo with
    | none => simp [sliceBounds, HT.sIx]
    | some i =>
      simp only [sliceBounds, HT.sIx, Option.getD_none, show (1 : Int) > 0 by decide, if_true]
      by_cases h : i < 0
      · simp only [h, if_true] <;> omega
      · simp only [h, if_false] <;> omega
  · cases hi with
    | none => simp [sliceBounds, HT.sIx]
    | some i =>
      simp only [sliceBounds, HT.sIx, Option.getD_none, show (1 : Int) > 0 by decide, if_true]
      by_cases h : i < 0
      · simp only [h, if_true] <;> omega
      · simp only [h, if_false] <;> omega
theorem slicePick_cut (its : List Value) (lo hi : Option Int) : slicePick its.toArray lo hi none = ((its.drop (HT.sIx its.length 0 lo)).take (HT.sIx its.length its.length hi - HT.sIx its.length 0 lo)).toArray := by
  obtain ⟨h1, h2, h3⟩ := slice_bounds lo hi its.toArray.size
  unfold slicePick
  rw [h1, h2, h3]
  simp only [sliceRange_one, pick_run, List.size_toArray] <;> rfl
def rSlL (K : PySem.W.Frag) : V → Option Int → Option Int → Hp → VK → Prop := fun x lo hi H Q => ∃ a xs, x = .ref a ∧ SqL K H a xs ∧ ∀ p, H p = none → Q (.ref p) (upd H p (.lst (cutV xs lo hi)))
theorem sl_list : SlR X (rSlL X.K) := by
  intro pins s σ H x v vl vu lo hi sl Q I rx hs pl pu h
  obtain ⟨a, xs, rfl, hx, q⟩ := h
  cases rx
  obtain ⟨its, r, ht, hz⟩ := I.list hx
  have hlen := r.length
  refine ⟨"list", _, slot_list_getitem.lookup, ht.isList.typeIs, ?_⟩
  refine wpAny_getItem_list_slice ht.isList hs pl pu .none (by simp) ?_ (by rw [List.size_toArray] <;> omega)
  rw [slicePick_cut, ← hlen]
  refine ⟨.ref s.heap.objs.size, _, I.laid (t' := s.toks) (o := .lst (cutV xs lo hi)) (fun b ob q => Heap.get?_push_of_some _ q) (Nat.le_refl _) ?_, rfl, q _ (I.hok.fresh (Nat.le_refl _))⟩
  exact ⟨Nat.le_trans (cutV_length xs lo hi) hz, _, 0, (r.drop (HT.sIx xs.length 0 lo)).take (HT.sIx xs.length xs.length hi - HT.sIx xs.length 0 lo), Heap.get?_push_size _ rfl⟩
def flatV : V → Bool
  | .non => true
  | .bl _ => true
  | .int _ => true
  | .str _ => true
  | _ => false
def eqV : V → V → Bool
  | .non, .non => true
  | .bl a, .bl b => a == b
  | .bl a, .int b => (if a then 1 else 0) == b
  | .int a, .bl b => a == (if b then 1 else 0)
  | .int a, .int b => a == b
  | .str a, .str b => a == b
  | _, _ => false
theorem eqAt_V {A : Around} {s : Shared} {y x : V} {u v : Value} (ry : RelV y u) (rx : RelV x v) (fy : flatV y = true) (fx : flatV x = true) : SeqAt.EqAt A s u v (eqV y x) := by
  cases y with
  | non =>
    cases ry
    cases x with
    | non => cases rx; exact SeqAt.EqAt.same _
    | bl b => cases rx; exact SeqAt.EqAt.none_bool b
    | int b => obtain ⟨t, rfl⟩ := rx; exact SeqAt.EqAt.none_int b t
    | str b => obtain ⟨t, rfl⟩ := rx; exact SeqAt.EqAt.none_str b t
    | _ => exact absurd (show false = true from fx) Bool.false_ne_true
  | bl a =>
    cases ry
    cases x with
    | non => cases rx; exact SeqAt.EqAt.bool_none a
    | bl b => cases rx; exact SeqAt.EqAt.bool_bool a b
    | int b => obtain ⟨t, rfl⟩ := rx; exact SeqAt.EqAt.bool_int a b t
    | str b => obtain ⟨t, rfl⟩ := rx; exact SeqAt.EqAt.bool_str a b t
    | _ => exact absurd (show false = true from fx) Bool.false_ne_true
  | int a =>
    obtain ⟨t', rfl⟩ := ry
    cases x with
    | non => cases rx; exact SeqAt.EqAt.int_none a t'
    | bl b => cases rx; exact SeqAt.EqAt.int_bool a t' b
    | int b => obtain ⟨t, rfl⟩ := rx; exact SeqAt.EqAt.int_int a t' b t
    | str b => obtain ⟨t, rfl⟩ := rx; exact SeqAt.EqAt.int_str a t' b t
    | _ => exact absurd (show false = true from fx) Bool.false_ne_true
  | str a =>
    obtain ⟨t', rfl⟩ := ry
    cases x with
    | non => cases rx; exact SeqAt.EqAt.str_none a t'
    | bl b => cases rx; exact SeqAt.EqAt.str_bool a t' b
    | int b => obtain ⟨t, rfl⟩ := rx; exact SeqAt.EqAt.str_int a t' b t
    | str b => obtain ⟨t, rfl⟩ := rx; exact SeqAt.EqAt.str_str a t' b t
    | _ => exact absurd (show false = true from fx) Bool.false_ne_true
  | _ => exact absurd (show false = true from fy) Bool.false_ne_true
def eqU (x : V) (u : Value) : Bool := match u with
  | .none => eqV .non x
  | .bool b => eqV (.bl b) x
  | .int i _ => eqV (.int i) x
  | .str z _ => eqV (.str z) x
  | _ => false
theorem eqU_of {x y : V} {u : Value} (r : RelV y u) (f : flatV y = true) : eqU x u = eqV y x := by
  cases y with
  | non => cases r; rfl
  | bl b => cases r; rfl
  | int i => obtain ⟨t, rfl⟩ := r; rfl
  | str z => obtain ⟨t, rfl⟩ := r; rfl
  | _ => exact absurd (show false = true from f) Bool.false_ne_true
theorem any_eqU {x : V} : ∀ {xs : List V} {us : List Value}, Vals xs us → xs.all flatV = true → us.any (eqU x) = xs.any fun y => eqV y x
  | _, _, .nil, _ => rfl
  | y :: xs, u :: us, .cons r t, f => by
    rw [List.all_cons, Bool.and_eq_true] at f
    rw [List.any_cons, List.any_cons, eqU_of r f.1, any_eqU t f.2]
theorem mem_eqAt {A : Around} {s : Shared} {x : V} {v : Value} (rx : RelV x v) (fx : flatV x = true) : ∀ {xs : List V} {us : List Value}, Vals xs us → xs.all flatV = true → ∀ u ∈ us, SeqAt.EqAt A s u v (eqU x u)
  | _, _, .nil, _ => fun u hu => by cases hu
  | y :: xs, u :: us, .cons r t, f => fun u' hu => by
    rw [List.all_cons, Bool.and_eq_true] at f
    rcases List.mem_cons.mp hu with rfl | hu
    · rw [eqU_of r f.1]; exact eqAt_V r rx f.1 fx
    · exact mem_eqAt rx fx t f.2 u' hu
def inV (x : V) (xs : List V) : Bool := xs.any fun y => eqV y x
def rIn (K : PySem.W.Frag) (neg : Bool) : R2 := fun x y H Q => ∃ p xs, y = .ref p ∧ (SqL K H p xs ∨ SqT K H p xs) ∧ flatV x = true ∧ xs.all flatV = true ∧ Q (.bl (if neg then !inV x xs else inV x xs)) H
theorem op_notIn_seq : OpR X (compareOp .NotIn) (rIn X.K true) := by
  intro pins s σ H x y v u Q I rx ry h
  obtain ⟨p, xs, rfl, hq, fx, fs, q⟩ := h
  cases ry
  rcases hq with hq | hq
  · obtain ⟨its, r, pl, hz⟩ := I.list hq
    refine SeqAt.notIn_listAt (eqU x) pl.isList (fun w hw => mem_eqAt rx fx r fs w (by simpa using hw)) ⟨.bl _, H, I, rfl, ?_⟩
    rw [show its.toArray.any (eqU x) = its.any (eqU x) by simp, any_eqU r fs]
    exact q
  · obtain ⟨its, r, pl, hz⟩ := I.tuple hq
    refine SeqAt.notIn_tupleAt (eqU x) pl (fun w hw => mem_eqAt rx fx r fs w (by simpa using hw)) ⟨.bl _, H, I, rfl, ?_⟩
    rw [show its.toArray.any (eqU x) = its.any (eqU x) by simp, any_eqU r fs]
    exact q
theorem CallR.or {f : Value} {r r' : List V → Hp → VK → Prop} (h : CallR X f r) (h' : CallR X f r') : CallR X f (fun xs H Q => r xs H Q ∨ r' xs H Q) := by
  intro pins s σ H xs us Q I rs q
  rcases q with q | q
  · exact h pins s σ H xs us Q I rs q
  · exact h' pins s σ H xs us Q I rs q
theorem call_tuple_of : CallR X (.type "tuple") (fun xs H Q => ∃ p ys, xs = [.ref p] ∧ ((SqL X.K H p ys ∧ ∀ l, H l = none → Q (.ref l) (upd H l (.tup ys))) ∨ (SqT X.K H p ys ∧ Q (.ref p) H))) := by
  intro pins s σ H xs us Q I r h
  obtain ⟨p, ys, rfl, h⟩ := h
  obtain ⟨u, rfl, rx⟩ := vals1 r
  cases rx
  rcases h with ⟨hq, q⟩ | ⟨hq, q⟩
  · obtain ⟨its, r', pl, hz⟩ := I.list hq
    have hlen := r'.length
    refine call_tuple_list pl.isList (fun h' kp => ?_) (by simp only [List.size_toArray] <;> omega)
    have I1 : Inv X pins σ H { s with heap := h' } := I.kept (t' := s.toks) kp
    have I2 : Inv X pins σ (upd H h'.objs.size (.tup ys)) { s with heap := h'.push { cls := .type "tuple", data := .seq its.toArray } } :=
      I1.laid (t' := s.toks) (fun b o e => Heap.get?_push_of_some _ e) (Nat.le_refl _) (show ObjOk X.prog X.w _ _ _ (.tup ys) from ⟨hz, its, r', IsTup.new _ _⟩)
    exact ⟨.ref h'.objs.size, _, I2, rfl, q _ (I1.hok.fresh (Nat.le_refl _))⟩
  · obtain ⟨its, r', pl, hz⟩ := I.tuple hq
    exact call_tuple_same pl ⟨.ref p, H, I, rfl, q⟩
def tyV (K : PySem.W.Frag) (T : String) (x : V) (H : Hp) : Prop := match x with
  | .str _ => T = "str"
  | .int _ => T = "int"
  | .ref p => (T = "list" ∧ ∃ xs, SqL K H p xs) ∨ (T = "tuple" ∧ ∃ o, K.lookup p = some o ∧ o.cls = .type "tuple" ∧ o.dict = none) ∨
      (T = "dict" ∧ ((∃ kvs, H p = some (.dK kvs)) ∨ ∃ kvs, H p = some (.dT kvs))) ∨ (T = "set" ∧ ∃ S n, H p = some (.set S n))
  | _ => False
theorem tyV_is {pins : List (Addr × Obj)} {σ : St} {H : Hp} {s : Shared} {T : String} {x : V} {v : Value} (I : Inv X pins σ H s) (r : RelV x v) (ty : tyV X.K T x H) :
    s.TypeIs v T ∧ ∀ a, v = .ref a → ∃ ob, s.heap.get? a = some ob ∧ ob.dict = none := by
  cases x with
  | str z =>
    obtain ⟨t, rfl⟩ := r
    cases (show T = "str" from ty)
    exact ⟨typeIs_str s z t, fun _ e => nomatch e⟩
  | int i =>
    obtain ⟨t, rfl⟩ := r
    cases (show T = "int" from ty)
    exact ⟨typeIs_int s i t, fun _ e => nomatch e⟩
  | ref p =>
    cases r
    rcases ty with ⟨rfl, xs, hq⟩ | ⟨rfl, o, hk, hc, hd⟩ | ⟨rfl, hk⟩ | ⟨rfl, S, n, hk⟩
    · obtain ⟨its, _, pl, _⟩ := I.list hq
      refine ⟨pl.isList.typeIs, fun a e => ?_⟩
      cases e
      obtain ⟨o, n, e, c, hd, _⟩ := pl
      exact ⟨o, e, hd⟩
    · refine ⟨⟨o, I.kIn p o hk, hc⟩, fun a e => ?_⟩
      cases e
      exact ⟨o, I.kIn _ o hk, hd⟩
    · have z : ∃ o, s.heap.get? p = some o ∧ o.ExactDict := by
        rcases hk with ⟨kvs, hk⟩ | ⟨kvs, hk⟩
        · obtain ⟨_, _, _, _, o, _, _, e, ex, _⟩ := I.hok p _ hk
          exact ⟨o, e, ex⟩
        · obtain ⟨_, _, _, _, o, _, _, e, ex, _⟩ := I.hok p _ hk
          exact ⟨o, e, ex⟩
      obtain ⟨o, e, ex⟩ := z
      refine ⟨⟨o, e, ex.1⟩, fun a e2 => ?_⟩
      cases e2
      exact ⟨o, e, ex.2.1⟩
    · obtain ⟨o, _, _, _, e, ex, _⟩ := I.hok p _ hk
      refine ⟨⟨o, e, ex.1⟩, fun a e2 => ?_⟩
      cases e2
      exact ⟨o, e, ex.2.1⟩
  | _ => exact False.elim ty
def tBM (K : PySem.W.Frag) (T : String) (r : V → List V → Hp → VK → Prop) (to : TE) (t : TA) : TE := fun σ H Q => to σ H fun x H1 => tyV K T x H1 ∧ t σ H1 fun xs H2 => r x xs H2 Q
variable {o e : Expr} {es : List Expr} {to : TE} {t : TA} {name : Str} {apos cpos : Pos} {T id : String} {r : V → List V → Hp → VK → Prop}
theorem pe_bm (pa : PlainAttrs T) (slot : Slot T name id) (hty : typeOf (.builtin id) = pure (.type "method_descriptor")) (hm : MtR X id r) (ho : PE X o to) (ha : PA X (e :: es) t)
    (hbase : attributeBase o name X.env (eval o X.env) = eval o X.env := by rfl)
    (hfew : ((backTo cpos (starEach (e :: es) X.env)).all (fun x => !x.1) && (backToKw cpos (keywordEach [] X.env)).all (fun x => x.1.isSome)
      && decide ((e :: es).length + ([] : List Keyword).length + (if ([] : List Keyword).isEmpty then 0 else 1) < 30)) = true := by rfl)
    (hline : (apos.endLine == cpos.line) = true := by rfl) (hs : starEach (e :: es) X.env = (false, eval e X.env) :: starEach es X.env := by rfl) (hplain : (backTo cpos (starEach es X.env)).any (·.1) = false := by rfl) :
    PE X (.Call (.Attribute o name apos) (e :: es) [] cpos) (tBM X.K T r to t) := by
  intro pins s σ H Q I h
  refine wpAny_Call_method_late hbase hfew hline rfl (thn (ho pins s σ H _ I h) fun v s1 ⟨x, H1, I1, r1, ty, q1⟩ => ?_)
  obtain ⟨h1, h2⟩ := tyV_is I1 r1 ty
  refine ⟨T, id, pa, slot, hty, h1, h2, ?_⟩
  have hA := ha cpos pins s1 σ H1 _ I1 q1
  rw [hs] at hA ⊢
  refine Calls.callWith_builtin (by show (false || (backTo cpos (starEach es X.env)).any (·.1)) = false; rw [hplain] <;> rfl) (Calls.evalArgs_plain ?_)
  exact thn hA fun us s2 ⟨vs, H2, I2, r2, q2⟩ => hm pins s2 σ H2 x vs v us Q I2 r1 r2 q2
end
end L2
namespace L2
open PySem PySem.Spec PyProof.Rows
def MtM (X : Cx) (id : String) (r : V → List V → Hp → VK → Prop) : Prop :=
  ∀ (pins : List (Addr × Obj)) (s : Shared) (σ : St) (H : Hp) (x : V) (xs : List V) (v : Value) (us : List Value) (Q : VK), Inv X pins σ H s → RelV x v → Vals xs us → r x xs H Q →
    wpAny (model X.prog X.w) X.A (call (.builtin id) (v :: us)) (EP X pins σ Q) X.xe s
theorem Vals.one : ∀ {x : V} {us : List Value}, Vals [x] us → ∃ u, us = [u] ∧ RelV x u
  | _, _, .cons r .nil => ⟨_, rfl, r⟩
theorem Vals.two : ∀ {x y : V} {us : List Value}, Vals [x, y] us → ∃ u v, us = [u, v] ∧ RelV x u ∧ RelV y v
  | _, _, _, .cons r (.cons q .nil) => ⟨_, _, rfl, r, q⟩
section
variable {X : Cx} {pins : List (Addr × Obj)} {σ : St} {H : Hp} {s : Shared} {l b : Addr} {xs ys zs : List V}
theorem Inv.lset {its its' : List Value} {n : Nat} {f : Array Value → Array Value} {t' : Nat} (I : Inv X pins σ H s) (hH : H l = some (.lst xs))
    (e : s.heap.get? l = some { cls := .type "list", data := .seq its.toArray n }) (hf : f its.toArray = its'.toArray) (hv : Vals ys its') (hz : ys.length ≤ sizeLine) :
    Inv X pins σ (upd H l (.lst ys)) { s with heap := s.heap.update l (Obj.mapSeq f), toks := t' } := by
  have q := PySem.IsL.update e f
  rw [hf] at q
  refine I.write (x := l) (e := l) (by rw [hH]; exact trivial) (.inl rfl) (fun b' u hb hu => (Heap.get?_update_other s.heap (Obj.mapSeq f) (Ne.symm hb)).trans hu) ⟨_, q⟩ ?_
  exact ⟨hz, its', _, hv, q⟩
theorem Inv.lnew {its : List Value} {t' : Nat} (I : Inv X pins σ H s) (hv : Vals ys its) (hz : ys.length ≤ sizeLine) :
    Inv X pins σ (upd H s.heap.objs.size (.lst ys)) { s with heap := s.heap.push { cls := .type "list", data := .seq its.toArray }, toks := t' } :=
  I.laid (fun _ _ q => Heap.get?_push_of_some _ q) (Nat.le_refl _) ⟨hz, its, 0, hv, Heap.get?_push_size _ rfl⟩
theorem Inv.fresh (I : Inv X pins σ H s) : H s.heap.objs.size = none := I.hok.fresh (Nat.le_refl _)
theorem Inv.lstM (I : Inv X pins σ H s) (hH : H l = some (.lst xs)) : xs.length ≤ sizeLine ∧ ∃ (its : List Value) (n : Nat), Vals xs its ∧ xs.length = its.length ∧ s.heap.get? l = some { cls := .type "list", data := .seq its.toArray n } := by
  obtain ⟨z, its, n, r, e⟩ := I.hok l _ hH
  exact ⟨z, its, n, r, r.length, e⟩
end
section
variable {X : Cx}
def rAppend : V → List V → Hp → VK → Prop := fun x vs H Q => ∃ l xs y, x = .ref l ∧ vs = [y] ∧ H l = some (.lst xs) ∧ xs.length < sizeLine ∧ Q .non (upd H l (.lst (xs ++ [y])))
theorem mt_append : MtM X "list.append" rAppend := by
  intro pins s σ H x vs v us Q I rx rv h
  obtain ⟨l, xs, y, rfl, rfl, hH, hz, q⟩ := h
  cases rx
  obtain ⟨u, rfl, ru⟩ := rv.one
  obtain ⟨z, its, n, r, hl, e⟩ := I.lstM hH
  refine call_meets F.slot_list_append ⟨_, e, rfl⟩ F.entry_list_append (F.args_list_append_2 _ _) (PySem.list_append l its.toArray n u (by rw [List.size_toArray]; omega)) ⟨e, ?_⟩
  refine ⟨.non, _, I.lset (its' := its ++ [u]) hH e (by simp) (r.append (.cons ru .nil)) ?_, rfl, q⟩
  rw [List.length_append, List.length_singleton]
  omega
def rExtend : V → List V → Hp → VK → Prop := fun x vs H Q => ∃ l b xs zs, x = .ref l ∧ vs = [.ref b] ∧ H l = some (.lst xs) ∧ H b = some (.lst zs) ∧ xs.length + zs.length ≤ sizeLine ∧ Q .non (upd H l (.lst (xs ++ zs)))
def rCat : R2 := fun x y H Q => ∃ l b xs zs, x = .ref l ∧ y = .ref b ∧ H l = some (.lst xs) ∧ H b = some (.lst zs) ∧ xs.length + zs.length ≤ sizeLine ∧ ∀ p, H p = none → Q (.ref p) (upd H p (.lst (xs ++ zs)))
theorem op_cat : OpR X (binaryOp .Add) rCat := by
  intro pins s σ H x y v u Q I rx ry h
  obtain ⟨l, b, xs, zs, rfl, rfl, hH, hB, hz, q⟩ := h
  cases rx
  cases ry
  obtain ⟨z, its, n, r, hl, e⟩ := I.lstM hH
  obtain ⟨z2, its2, n2, r2, hl2, e2⟩ := I.lstM hB
  refine PySem.P.add_list e e2 ?_ (by rw [List.size_toArray, List.size_toArray]; omega)
  have ea : its.toArray ++ its2.toArray = (its ++ its2).toArray := by simp
  rw [ea]
  exact ⟨.ref _, _, I.lnew (t' := s.toks) (r.append r2) (by rw [List.length_append]; omega), rfl, q _ I.fresh⟩
end
section
variable {prog : Program} {w : World} {A : Around} {E : Value → Shared → Prop} {s : Shared}
end
section
variable {X : Cx}
end
end L2
namespace L2
open PySem PySem.Spec PyProof.Rows
section
variable {κ : Type} [DecidableEq κ]
def valV (kvs : List (κ × V)) (k : κ) : Option V := (kvs.find? fun kv => decide (kv.1 = k)).map (·.2)
def putK (kvs : List (κ × V)) (k : κ) (v : V) : List (κ × V) :=
  if (kvs.any fun kv => decide (kv.1 = k)) = true then kvs.map (fun kv => if kv.1 = k then (kv.1, v) else kv) else kvs ++ [(k, v)]
theorem KV.any {kvs : List (κ × V)} {vs : List (κ × Value)} (r : KV kvs vs) (k : κ) : (kvs.any fun kv => decide (kv.1 = k)) = vs.any fun kv => decide (kv.1 = k) := by
  unfold KV at r
  induction r with
  | nil => rfl
  | cons h t ih => rw [List.any_cons, List.any_cons, ih, h.1]
theorem KV.length {kvs : List (κ × V)} {vs : List (κ × Value)} (r : KV kvs vs) : kvs.length = vs.length := Paired.length r
end
section
variable {P : Program} {w : World} {H : Hp} {h : Heap} {a : Addr}
end
def DGet (H : Hp) (a : Addr) (y : V) (r : Option V) : Prop :=
  (∃ kvs k, Rd H a (.dK kvs) ∧ y = kV k ∧ r = valV kvs k) ∨ ∃ kvs k b, Rd H a (.dT kvs) ∧ y = .ref b ∧ H b = some (.tup (k.map kV)) ∧ r = valV kvs k
def DPut (H : Hp) (a : Addr) (y v : V) (H' : Hp) : Prop :=
  (∃ kvs k, H a = some (.dK kvs) ∧ y = kV k ∧ kvs.length < sizeLine ∧ H' = upd H a (.dK (putK kvs k v))) ∨
  ∃ kvs k b, H a = some (.dT kvs) ∧ y = .ref b ∧ H b = some (.tup (k.map kV)) ∧ kvs.length < sizeLine ∧ H' = upd H a (.dT (putK kvs k v))
theorem DGet.k {H : Hp} {a : Addr} {kvs : List (Key × V)} {k : Key} (e : H a = some (.dK kvs)) : DGet H a (kV k) (valV kvs k) := .inl ⟨kvs, k, .inl e, rfl, rfl⟩
theorem DGet.t {H : Hp} {a b : Addr} {kvs : List (List Key × V)} {k : List Key} (e : H a = some (.dT kvs)) (eb : H b = some (.tup (k.map kV))) : DGet H a (.ref b) (valV kvs k) := .inr ⟨kvs, k, b, .inl e, rfl, eb, rfl⟩
theorem DPut.k {H : Hp} {a : Addr} {kvs : List (Key × V)} {k : Key} {v : V} (e : H a = some (.dK kvs)) (hl : kvs.length < sizeLine) : DPut H a (kV k) v (upd H a (.dK (putK kvs k v))) := .inl ⟨kvs, k, e, rfl, hl, rfl⟩
theorem DPut.t {H : Hp} {a b : Addr} {kvs : List (List Key × V)} {k : List Key} {v : V} (e : H a = some (.dT kvs)) (eb : H b = some (.tup (k.map kV))) (hl : kvs.length < sizeLine) :
    DPut H a (.ref b) v (upd H a (.dT (putK kvs k v))) := .inr ⟨kvs, k, b, e, rfl, eb, hl, rfl⟩
section
variable {X : Cx} {pins : List (Addr × Obj)} {σ : St} {H : Hp} {s : Shared} {a : Addr} {y v : V} {u r : Value} {o : Option V} {A : Around} {E : Value → Shared → Prop}
end
section
variable {X : Cx} {pins : List (Addr × Obj)} {σ : St} {H : Hp} {s : Shared} {a : Addr} {kvs : List (Key × V)} {k : Key} {u : Value} {A : Around} {E : Value → Shared → Prop}
end
section
variable {X : Cx} {o i e value : Expr} {pos pos' tpos : Pos} {td ty tv : TE}
end
section
variable {X : Cx} {pos : Pos}
end
section
variable {X : Cx} {pins : List (Addr × Obj)} {σ : St} {H : Hp} {s : Shared} {a : Addr} {y d : V} {u r : Value} {o : Option V} {A : Around} {E : Value → Shared → Prop}
end
section
variable {X : Cx} {o e f : Expr} {apos cpos : Pos} {td ty tx : TE}
end
section
variable {X : Cx} {pins : List (Addr × Obj)} {σ : St} {H : Hp} {s : Shared} {a : Addr} {kvs : List (Key × V)} {A : Around} {E : Value → Shared → Prop}
end
section
variable {X : Cx} {pins : List (Addr × Obj)} {σ : St} {H : Hp} {s : Shared} {a : Addr} {y : V} {u : Value} {A : Around} {E : Value → Shared → Prop}
end
end L2
namespace Att
open PySem PySem.W PySem.Calls PyProof.Rows
theorem ints_of_wellAll {P : Params} {h : Heap} : ∀ (ns : List Int) (vs : List Value), WellAll P h vs (ns.map WData.int) → IntsAre vs ns := by
  intro ns
  induction ns with
  | nil =>
    intro vs w
    rw [List.map_nil] at w
    cases w
    exact .nil
  | cons n ns ih =>
    intro vs w
    rw [List.map_cons] at w
    cases w with
    | cons a b =>
      cases a
      exact .cons _ _ (ih _ b)
theorem script_of {l : OpenLaw} {n : Nat} (hn : l.most = some n) {P : Params} {h : Heap} {args : List WData} {vals : List Value}
    (hpre : l.row.toRowW.claim.pre args = true) (hwl : WellAll P h vals args) :
    ∃ a vs ns, vals = [Value.ref a] ∧ args = [WData.list (ns.map WData.int)] ∧ h.get? a = some { cls := .type "list", data := .seq vs.toArray } ∧ IntsAre vs ns ∧ ns.length ≤ n := by
  have hsh : WShape.hasAll [] args [.list .int] = true := (pre_splitW hpre).1
  have hc : l.pre.holds [] { args := args } = true := (pre_splitW hpre).2
  obtain ⟨d, r, rfl, h1, h2⟩ := hasAllW_cons hsh
  obtain rfl := hasAllW_nil h2
  obtain ⟨xs, rfl, h3⟩ := hasW_list h1
  obtain ⟨ns, rfl⟩ := items_int h3
  have hlen : ns.length ≤ n := by
    unfold OpenLaw.pre at hc
    have h4 : (WTm.not (.lt (.lit (.int (n : Int))) (.len (.arg 0)))).holds [] { args := [.list (ns.map .int)] } = true := by
      have h4 := (holds_andW hc).1
      rw [hn] at h4
      exact h4
    have h5 := condW_of h4 (w_not (w_lt w_lit (w_len_list (w_arg rfl))))
    rw [List.length_map] at h5
    refine Nat.le_of_not_lt fun q => ?_
    have q' : (n : Int) < ((ns.length : Nat) : Int) := by omega
    first
      | (rw [decide_eq_true q'] at h5; exact absurd h5 (by decide))
      | (simp at h5; omega)
  cases hwl with
  | cons w1 w2 =>
    cases w2
    cases w1 with
    | list ho hall => exact ⟨_, _, ns, rfl, rfl, ho, ints_of_wellAll ns _ hall, hlen⟩
theorem post_true (l : OpenLaw) (args : List WData) : l.row.toRowW.claim.post args (.bool true) args = true :=
  postW_of (r := l.row.toRowW) (X := (true == true))
    (show WShape.has [] (.bool true) .bool = true by first | rfl | decide | simp [WShape.has, WShape.arms, WShape.armsAll])
    (show (WTm.eq .res (.lit (.bool true))).value [] { args := args, res := some (.bool true), after := args } = some (.bool (true == true)) from w_eq_bool (w_res rfl) w_lit) rfl
theorem attach_call {l : OpenLaw} {n : Nat} {q : Program} {loose : List Str} {XP : (Str → Option Value) → Heap → Prop} {YP : World → Heap → Prop} {d : DefRec}
    (hn : l.most = some n) (hdf : d.params.defaults = [])
    (call : ∀ (w : World) (s₀ s₁ : Shared) (mg mb : Str → Option Value) (fa : Addr) (o : Obj) (pm cd doc : Value) (a : Addr) (vs : List Value) (ns : List Int),
      Ground q loose [] XP w s₀ mg mb s₁.heap → YP w s₁.heap →
      s₁.heap.get? fa = some o → o.data = .func (docDef d.name d.params d.body d.scope pm cd doc) → s₁.heap.CodeRec cd d.name → mg d.name = some (.ref fa) →
      s₁.heap.get? a = some { cls := .type "list", data := .seq vs.toArray } → IntsAre vs ns → ns.length ≤ n → s₁.gens = #[] →
      codeAny (model l.prog w) callerA (.call (.ref fa) ⟨[.ref a], []⟩) (fun r s' => r = .ok (.ret (.bool true)) ∧ OldK s₁.heap s'.heap ∧ s'.os = s₁.os ∧ AllBare s'.gens) s₁) :
    WalkO q loose XP YP l.row.toRowW d [] (fun f vs => PySem.call f vs) := by
  intro w s₀ s₁ mg mb G Y fa o pm cd doc dV kV ho hd hcd hD hmg hg args vals as hpre hlay hrd hwl hlo
  obtain rfl : dV = .none := Dflts.none hD hdf
  obtain rfl : kV = .none := Dflts.noKw hD
  obtain ⟨a, vs, ns, rfl, rfl, hobj, hints, hlen⟩ := script_of hn hpre hwl
  refine enter_call (codeAny_mono (call w s₀ s₁ mg mb fa o pm cd doc a vs ns G Y ho (fd_plain hd) hcd hmg hobj hints hlen hg) fun r s' hq => ?_)
  obtain ⟨rfl, h2, h3, h4⟩ := hq
  exact ⟨.inl ⟨.bool true, .bool true, [], rfl, fun _ => rfl, .bool true, post_true l _, fun _ => ⟨List.Pairwise.nil, fun _ hm => (nomatch hm)⟩⟩, h2, h3, h4⟩
section
variable {prog : Program} {w : World} {A : Around} {E : Value → Shared → Prop} {s : Shared} {K : Frag}
def ledger (h : Heap) (L d : Addr) : List (Addr × Obj) := (List.range h.objs.size).filterMap fun a => if a = L ∨ a = d then none else (h.get? a).map fun o => (a, o)
end
end Att
namespace L2
open PySem PySem.Spec PyProof.Rows
theorem vals_ints : ∀ {vs : List Value} {ns : List Int}, IntsAre vs ns → Vals (ns.map V.int) vs
  | _, _, .nil => .nil
  | _, _, .cons n t h => .cons ⟨t, rfl⟩ (vals_ints h)
def Only (H : Hp) : Prop := ∀ b, H b = none ∨ ∃ o xs, H b = some (.frz o (.lst xs))
theorem law_call {P : Program} {w : World} {K : PySem.W.Frag} {mg mb : Str → Option Value} {CX : CXT} {k : Nat} {fa a : Addr} {fd : FuncData} {x : Str} {sp : Sp} {s₁ : Shared} {vs : List Value} {ns : List Int}
    (KX : K.In s₁.heap) (hns : s₁.heap.Ns mainGlobals mg) (hb : s₁.heap.Ns builtinsNs mb) (hbb : ∀ x : Str, x ≠ "__name__" → mb x = bootBuiltins x) (hlim : s₁.heap.NoLimit) (hg : s₁.gens = #[])
    (ha : s₁.heap.get? a = some { cls := .type "list", data := .seq vs.toArray }) (hi : IntsAre vs ns) (hl : ns.length ≤ sizeLine) (hr : Room k callerA)
    (F : ∀ base : Heap, K.In base → base.Ns mainGlobals mg → FnOk P w K mg base CX k fa fd [x] sp) (hbind : ∀ (s : Shared) (u : Value), BindsTo s fd ⟨[u], []⟩ [(x, u)])
    (hsp : ∀ H : Hp, Only H → SqL K H a (ns.map V.int) → sp [.ref a] H (fun v _ => v = .bl true) fun _ _ _ => False)
    (hCX : ∀ H e s', CX [] H s₁ (fun _ _ _ => False) e s' → False) :
    codeAny (model P w) callerA (.call (.ref fa) ⟨[.ref a], []⟩) (fun r s' => r = .ok (.ret (.bool true)) ∧ OldK s₁.heap s'.heap ∧ s'.os = s₁.os ∧ AllBare s'.gens) s₁ := by
  have rv := vals_ints hi
  have lenV := hi.length
  have core : ∀ H : Hp, Only H → SqL K H a (ns.map V.int) → HOk P w H s₁.heap → (∀ b, H b ≠ none → b = a) → (H a ≠ none → K.lookup a = none) →
      codeAny (model P w) callerA (.call (.ref fa) ⟨[.ref a], []⟩) (fun r s' => r = .ok (.ret (.bool true)) ∧ OldK s₁.heap s'.heap ∧ s'.os = s₁.os ∧ AllBare s'.gens) s₁ := by
    intro H hO hS hok hA hK
    have base_of : ∀ {b : Addr} {o : Obj}, s₁.heap.get? b = some o → H b = none → (hidT s₁.heap H).get? b = some o := fun e n => hidT_get e n
    have noA : ∀ {b : Addr} {o : Obj} {es : Array DictEntry} {ep : Nat}, s₁.heap.get? b = some o → o.data = .dict es ep → H b = none := fun {b o es ep} e d => by
      cases q : H b with
      | none => rfl
      | some u =>
        have e' : b = a := hA b (by rw [q]; simp)
        subst e'
        rw [ha] at e; cases e
        have d' : Data.seq vs.toArray _ = Data.dict es ep := d
        cases d'
    have nsK : ∀ {b : Addr} {m : Str → Option Value}, s₁.heap.Ns b m → (hidT s₁.heap H).Ns b m := fun {b m} ⟨o, es, ep, e, d, r⟩ => ⟨o, es, ep, base_of e (noA e d), d, r⟩
    have hKb : K.In (hidT s₁.heap H) := fun b o e => base_of (KX b o e) (by
      cases q : H b with
      | none => rfl
      | some u =>
        have e' : b = a := hA b (by rw [q]; simp)
        subst e'
        rw [hK (by rw [q]; simp)] at e; cases e)
    have hM : Mod K mg (hidT s₁.heap H) := ⟨hKb, nsK hns, ⟨mb, nsK hb, hbb⟩, let ⟨mc, h1, h2⟩ := hlim; ⟨mc, nsK h1, h2⟩⟩
    have e0 : Env0 P w K mg (hidT s₁.heap H) callerA [] s₁ H := ⟨rfl, hM, fun b o e => of_hidT e, Nat.le_of_eq (hidT_size _ _), trivial, fun b hb => absurd (show b ∈ ([] : List Addr) from hb) (by simp), hok, .of_eq hg⟩
    refine codeAny_mono ((F _ hKb (nsK hns)).run callerA [] s₁ H ⟨[.ref a], []⟩ [.ref a] [.ref a] _ _ hr e0 (hbind s₁ (.ref a)) (.cons rfl .nil) (hsp H hO hS)) fun r s' h => ?_
    cases r with
    | error e => exact (hCX H e s' h).elim
    | ok fl =>
      cases fl with
      | next => exact False.elim h
      | brk => exact False.elim h
      | cont => exact False.elim h
      | ret u =>
        obtain ⟨v, H', os, bare, un, hok', r', q⟩ := h
        have q' : v = .bl true := q
        subst q'
        obtain rfl : u = Value.bool true := r'
        refine ⟨rfl, OldK.of_keep fun b o e => ?_, os, bare⟩
        cases q : H b with
        | none => exact un.keep b o e q (by intro z; exact absurd (show b ∈ ([] : List Addr) from z) (by simp)) (by simp)
        | some u =>
          rcases hO b with z | ⟨ob, xs, z⟩
          · rw [q] at z; cases z
          · have z2 := un.frzs b ob _ z
            obtain ⟨e1, _⟩ := hok b _ z
            obtain ⟨e2, _⟩ := hok' b _ z2
            rw [e] at e1; cases e1
            exact e2
  cases hk : K.lookup a with
  | some o =>
    have e := KX a o hk
    rw [ha] at e
    cases e
    refine core (fun _ => none) (fun _ => .inl rfl) (.inr ⟨_, vs.toArray, _, hk, rfl, rfl, rfl, by rw [List.size_toArray, lenV]; exact hl, by simpa using rv⟩) (fun b u z => by have z' : (none : Option HO) = some u := z; cases z') (fun b z => absurd rfl z) fun z => absurd rfl z
  | none =>
    refine core (fun b => if b = a then some (.frz { cls := .type "list", data := .seq vs.toArray } (.lst (ns.map V.int))) else none) (fun b => ?_) (.inl (.inr ⟨{ cls := .type "list", data := .seq vs.toArray }, if_pos rfl⟩)) (fun b u z => ?_) (fun b z => ?_) fun _ => hk
    · by_cases hb : b = a
      · exact .inr ⟨_, _, if_pos hb⟩
      · exact .inl (if_neg hb)
    · by_cases hb : b = a
      · have z' := (if_pos hb).symm.trans z
        cases z'
        subst hb
        exact ⟨ha, by rw [List.length_map]; exact hl, vs, _, rv, ha⟩
      · have z' := (if_neg hb).symm.trans z
        cases z'
    · by_cases hb : b = a
      · exact hb
      · exact absurd (if_neg hb) z
end L2
namespace L2
open PySem PySem.Spec PyProof.Rows
theorem walk_of {l : PySem.W.OpenLaw} {n k : Nat} {q : Program} {loose : List Str} {XP : (Str → Option Value) → Heap → Prop} {YP : World → Heap → Prop} {d : DefRec} {K : Params → PySem.W.Frag} {CX : World → CXT} {sp : World → Sp} {x : Str}
    (hn : l.most = some n) (hn2 : n ≤ sizeLine) (hdf : d.params.defaults = []) (hr : Room k callerA)
    (hY : ∀ (w : World) (h : Heap), YP w h → (K w.params).In h)
    (F : ∀ (w : World) (mg : Str → Option Value) (fa : Addr) (h : Heap), (K w.params).In h → h.Ns mainGlobals mg → mg d.name = some (.ref fa) →
      ∃ fd : FuncData, (∀ (s : Shared) (u : Value), BindsTo s fd ⟨[u], []⟩ [(x, u)]) ∧
        ∀ base : Heap, (K w.params).In base → base.Ns mainGlobals mg → FnOk l.prog w (K w.params) mg base (CX w) k fa fd [x] (sp w))
    (hsp : ∀ (w : World) (H : Hp) (a : Addr) (ns : List Int), ns.length ≤ n → Only H → SqL (K w.params) H a (ns.map V.int) → sp w [.ref a] H (fun v _ => v = .bl true) fun _ _ _ => False)
    (hCX : ∀ (w : World) (H : Hp) (s : Shared) (e : Value) (s' : Shared), CX w [] H s (fun _ _ _ => False) e s' → False) :
    PySem.W.WalkO q loose XP YP l.row.toRowW d [] (fun f vs => PySem.call f vs) := by
  refine Att.attach_call hn hdf fun w s₀ s₁ mg mb fa o pm cd doc a vs ns G Y ho hd hcd hmg hobj hints hlen hg => ?_
  have KX := hY w _ Y
  obtain ⟨fd, hb, hF⟩ := F w mg fa _ KX G.T.g hmg
  exact law_call KX G.T.g G.T.b G.T.builtins G.T.nolimit hg hobj hints (Nat.le_trans hlen hn2) hr hF hb (fun H hO hS => hsp w H a ns hlen hO hS) fun H e s' => hCX w H s₁ e s'
end L2
namespace L2
open PySem PySem.Spec PyProof.Rows
def defArgs (s : Stmt) : Arguments := match s with
  | .FunctionDef _ a _ _ _ _ _ _ _ _ => a
  | _ => { posonlyargs := [], args := [], vararg := none, kwonlyargs := [], kw_defaults := [], kwarg := none, defaults := [] }
def defBody (s : Stmt) : List Stmt := match s with
  | .FunctionDef _ _ b _ _ _ _ _ _ _ => b
  | _ => []
def defScope (s : Stmt) : Scope := match s with
  | .FunctionDef _ _ _ _ _ _ sc _ _ _ => sc
  | _ => { kind := .function, names := [], isGenerator := false, isCoroutine := false }
abbrev CX0 : CXT := fun _ _ _ _ _ _ => False
structure Fun (K : PySem.W.Frag) (x qual : Str) (st : Stmt) (f : Addr) (fd : FuncData) : Prop where
  ex : ∃ (oc : Value) (od : Option Addr) (kV doc pm : Value) (an : Option Addr) (cdv ct : Value) (osl : Array (Option Value)),
    fd = PySem.W.fnOf x qual (defArgs st) (defBody st) (defScope st) .none kV doc pm an cdv ct ∧ K.lookup f = some ⟨oc, od, .func fd, osl⟩ ∧ PySem.W.codeIn K cdv qual = true
  kp : PySem.W.keepIn K (.ref f) = true
section
variable {P : Program} {w : World} {K : PySem.W.Frag} {mg : Str → Option Value} {base : Heap}
theorem Fun.ok {x qual : Str} {st : Stmt} {f : Addr} {fd : FuncData} {N ps : List Str} {k : Nat} {sp : Sp} (F : Fun K x qual st f fd) (S : FnScope N ps (defScope st)) (len : ∀ vs H Q E, sp vs H Q E → vs.length = ps.length)
    (hbody : ∀ (cdv : Value) (A : Around) (outer : List Env) (s : Shared) (H : Hp) (vs : List V) (Q : VK) (E : XK), Room k (A.deeper (envOfC qual (defScope st) s.heap.objs.size f cdv)) → sp vs H Q E →
      ∃ t, PSs (cxOf CX0 P w K mg base N qual (defScope st) f cdv A outer s H E).nox (defBody st) t ∧ t { nx := fun _ H' => Q .non H', rt := Q } (start N vs) H) : FnOk P w K mg base CX0 (k + 1) f fd ps sp := by
  obtain ⟨oc, od, kV, doc, pm, an, cdv, ct, osl, rfl, lk, hcd⟩ := F.ex
  refine fn_of lk hcd S len fun A outer s H vs Q E hr hsp => ?_
  obtain ⟨t, h, q⟩ := hbody cdv A outer s H vs Q E hr hsp
  exact ⟨t, h.nox, q⟩
theorem Fun.binds {x qual : Str} {st : Stmt} {f : Addr} {fd : FuncData} {ps : List Str} (F : Fun K x qual st f fd)
    (h : ∀ (kV doc pm : Value) (an : Option Addr) (cdv ct : Value) (us : List Value), us.length = ps.length → bindArgs (PySem.W.fnOf x qual (defArgs st) (defBody st) (defScope st) .none kV doc pm an cdv ct) ⟨us, []⟩ = pure (ps.zip us)) : Binds K fd ps [] := by
  obtain ⟨oc, od, kV, doc, pm, an, cdv, ct, osl, rfl, lk, hcd⟩ := F.ex
  exact .all (h kV doc pm an cdv ct)
theorem fun_mk {x qual : Str} {st : Stmt} {f : Addr} {oc : Value} {od an : Option Addr} {osl : Array (Option Value)} {kV doc pm cdv ct : Value} (l : K.lookup f = some ⟨oc, od, .func (PySem.W.fnOf x qual (defArgs st) (defBody st) (defScope st) .none kV doc pm an cdv ct), osl⟩)
    (c : PySem.W.codeIn K cdv qual = true) (k : PySem.W.keepIn K (.ref f) = true) : Fun K x qual st f (PySem.W.fnOf x qual (defArgs st) (defBody st) (defScope st) .none kV doc pm an cdv ct) := ⟨⟨oc, od, kV, doc, pm, an, cdv, ct, osl, rfl, l, c⟩, k⟩
end
section
variable {X : Cx}
end
theorem iteF {A B : Prop} (h : B) : if false = true then A else B := by
  rw [if_neg Bool.false_ne_true]
  exact h
theorem iteT {A B : Prop} (h : A) : if true = true then A else B := by
  rw [if_pos rfl]
  exact h
theorem ite2 {c A B : Prop} [Decidable c] (h1 : c → A) (h2 : ¬ c → B) : if c then A else B := by
  by_cases h : c
  · rw [if_pos h]
    exact h1 h
  · rw [if_neg h]
    exact h2 h
def Same (H H' : Hp) : Prop := ∀ b o, H b = some o → H' b = some o
theorem Same.trans {H H1 H2 : Hp} (a : Same H H1) (b : Same H1 H2) : Same H H2 := fun c o h => b c o (a c o h)
theorem Same.free {H H' : Hp} (e : Same H H') {l : Addr} (h : H' l = Option.none) : H l = Option.none := by
  cases q : H l with
  | none => rfl
  | some o =>
    rw [e l o q] at h
    cases h
theorem Same.seq {K : PySem.W.Frag} {H H' : Hp} {a : Addr} {xs : List V} (e : Same H H') (h : SqL K H a xs) : SqL K H' a xs := by
  rcases h with (h | ⟨o, h⟩) | h
  · exact .inl (.inl (e _ _ h))
  · exact .inl (.inr ⟨o, e _ _ h⟩)
  · exact .inr h
section
variable {κ : Type} [DecidableEq κ]
end
end L2
set_option maxHeartbeats 4000000
namespace L2
open PySem PySem.Spec PyProof.Rows

structure Fly (B : Heap) (l : List Env) (h : Heap) (H H' : Hp) (h' : Heap) (ea : Addr) (cls : Value) : Prop where
  fl : ∃ a0, Heap.FlyingW B l ea cls a0 h'
  trk : ∀ b u, H' b = some u → ∃ o, B.get? b = some o
  kept : ∀ b o, h.get? b = some o → H b = none → b ∉ frs l → B.get? b = some o
  alive : ∀ b o, h.get? b = some o → b ∉ frs l → ∃ o', B.get? b = some o'
def CXe (P : Program) (w : World) : CXT := fun outer H s E e s' => ∃ ea cls H' B, e = .ref ea ∧ s'.os = s.os ∧ AllBare s'.gens ∧ Un (frs outer) [] H H' s.heap s'.heap ∧ HOk P w H' s'.heap ∧ Fly B outer s.heap H H' s'.heap ea cls ∧ E cls none H'
abbrev XKs := Value → St → Hp → Prop
def XW (X : Cx) (K : XKs) : Prop := ∀ (pins : List (Addr × Obj)) (σ : St) (H : Hp) (s s' : Shared) (ea : Addr) (cls : Value) (H' : Hp) (B : Heap), Inv X pins σ H s → s'.os = s.os → AllBare s'.gens →
  Un (frs X.stack) [] H H' s.heap s'.heap → HOk X.prog X.w H' s'.heap → Fly B X.stack s.heap H H' s'.heap ea cls → K cls σ H' → X.xe (.ref ea) s'

theorem frs_cons {env : Env} {l : List Env} {L : Addr} (h : env.frame = some L) : frs (env :: l) = L :: frs l := by
  unfold frs; rw [List.filterMap_cons, h]

theorem HOk.flown {P : Program} {w : World} {H : Hp} {B h h' : Heap} (x : HOk P w H h) (t : ∀ b u, H b = some u → ∃ o, B.get? b = some o) (s : B.StaysIn h) (s' : B.StaysIn h') : HOk P w H h' := fun a o e =>
  (x a o e).stay (fun b u hb q => by
    have hB : ∃ o, B.get? b = some o := by
      rcases hb with rfl | hb
      · exact t _ _ e
      · exact t _ _ hb
    obtain ⟨o', ho⟩ := hB
    have e1 := s b o' ho
    rw [q] at e1; cases e1
    exact s' b _ ho) (fun _ q => q) fun _ _ q => q

theorem xw_def {P : Program} {w : World} {K : PySem.W.Frag} {mg : Str → Option Value} {base : Heap} {N : List Str} {qual : Str} {scope : Scope} {f : Addr} {cd : Value} {A : Around} {outer : List Env} {s0 : Shared} {H0 : Hp} {E : XK} :
    XW (cxOf (CXe P w) P w K mg base N qual scope f cd A outer s0 H0 E) (fun c _ H' => E c none H') := by
  intro pins σ H s s' ea cls H' B I os bare un hok fly hK
  have I' := I.call' (s' := s') (ch := []) os un hok bare (fun b z => absurd z (by simp))
  have hfr := I.ok.frames
  have hstk : (cxOf (CXe P w) P w K mg base N qual scope f cd A outer s0 H0 E).stack = envOfC qual scope s0.heap.objs.size f cd :: outer := rfl
  rw [hstk] at hfr
  obtain ⟨a0, hfl⟩ := fly.fl
  have hf : (envOfC qual scope s0.heap.objs.size f cd).frame = some s0.heap.objs.size := rfl
  show wpAny _ _ (leaving (envOfC qual scope s0.heap.objs.size f cd) (.ref ea)) _ _ s'
  refine wpAny_leaves_onW hfr hf hfl fun h' fl' up => ?_
  have hfs : frs (envOfC qual scope s0.heap.objs.size f cd :: outer) = s0.heap.objs.size :: frs outer := frs_cons hf
  have nf : ∀ b o, s0.heap.get? b = some o → b ∉ frs outer → b ∉ frs (envOfC qual scope s0.heap.objs.size f cd :: outer) := fun b o e n z => by
    rw [hfs] at z
    rcases List.mem_cons.mp z with z | z
    · exact absurd (Heap.lt_size e) (by rw [z]; exact Nat.lt_irrefl _)
    · exact n z
  have stay : ∀ b o, s0.heap.get? b = some o → H0 b = none → b ∉ frs outer → B.get? b = some o := fun b o e n hb =>
    fly.kept b o (I.base.keep b o e n hb (by intro z; exact absurd z (by simp [cxOf]))) (I.base.free b o e n (by intro z; exact absurd z (by simp [cxOf]))) (nf b o e hb)
  have live : ∀ b o, s0.heap.get? b = some o → b ∉ frs outer → ∃ o', B.get? b = some o' := fun b o e hb => by
    obtain ⟨o1, e1⟩ := I.base.there b o e (by intro z; exact absurd z (by simp [cxOf]))
    exact fly.alive b o1 e1 (nf b o e hb)
  refine ⟨ea, cls, H', B, rfl, I'.os, bare, ?_, hok.flown fly.trk hfl.1 fl'.1, ⟨⟨a0, fl'⟩, fly.trk, stay, live⟩, hK⟩
  have noA : ∀ b : Addr, b ∉ (cxOf (CXe P w) P w K mg base N qual scope f cd A outer s0 H0 E).ex := fun b z => absurd z (by simp [cxOf])
  have slotOf : ∀ b, b ∈ frs outer → ∀ o, s'.heap.get? b = some o → ∃ sl, h'.get? b = some { o with slots := sl } := fun b hb o e => by
    have hm : b ∈ frs (envOfC qual scope s0.heap.objs.size f cd :: outer) := by rw [hfs]; exact List.mem_cons_of_mem _ hb
    obtain ⟨_, o', ho', hd⟩ := hfl.2.2.1.mem hm
    rw [e] at ho'; cases ho'
    exact up b o e hd
  refine ⟨fun b o e n hb _ => fl'.1 b o (stay b o e n hb), fun b o e n hb _ => ?_, fun b o e n _ => I'.base.free b o e n (noA b), fun b o e _ => ?_, I'.base.tups, I'.base.frzs, I'.base.tbls⟩
  · obtain ⟨sl, e1⟩ := I'.base.slot b o e n hb (noA b)
    obtain ⟨sl', e2⟩ := slotOf b hb _ e1
    exact ⟨sl', e2⟩
  · by_cases hb : b ∈ frs outer
    · obtain ⟨o1, e1⟩ := I'.base.there b o e (noA b)
      obtain ⟨sl, e2⟩ := slotOf b hb _ e1
      exact ⟨_, e2⟩
    · obtain ⟨o1, e1⟩ := live b o e hb
      exact ⟨o1, fl'.1 b o1 e1⟩

def Have (P : Program) (w : World) (K : PySem.W.Frag) (mg : Str → Option Value) (base : Heap) (x : Str) (k : Nat) (ps : List Str) (dvs : List V) (sp : Sp) : Prop :=
  ∃ f fd ds, mg x = some (.ref f) ∧ PySem.W.keepIn K (.ref f) = true ∧ Binds K fd ps ds ∧ Vals dvs ds ∧ FnOk P w K mg base (CXe P w) k f fd ps sp
def HaveM (P : Program) (w : World) (K : PySem.W.Frag) (mg : Str → Option Value) (base : Heap) (C : Addr) (m : Str) (k : Nat) (ps : List Str) (dvs : List V) (sp : Sp) : Prop :=
  ∃ f fd ds, Meth K C m f ∧ Binds K fd ps ds ∧ Vals dvs ds ∧ FnOk P w K mg base (CXe P w) k f fd ps sp
def HaveI (P : Program) (w : World) (K : PySem.W.Frag) (mg : Str → Option Value) (base : Heap) (x : Str) (C : Addr) (k : Nat) (ps : List Str) (dvs : List V) (sp : Sp) : Prop :=
  ∃ f fd ds, mg x = some (.ref C) ∧ Mk K C f ∧ Binds K fd ps ds ∧ Vals dvs ds ∧ FnOk P w K mg base (CXe P w) k f fd ps sp
def tCallE (Kx : XKs) (sp : Sp) (dvs : List V) (t : TA) : TE := fun σ H Q => t σ H fun vs H1 => sp (vs ++ dvs) H1 Q (fun c _ H' => Kx c σ H')
section
variable {X : Cx} {Kx : XKs} {k : Nat} {f C : Addr} {fd : FuncData} {ps : List Str} {sp : Sp} {dvs : List V} {ds : List Value} {x m : Str} {p pos apos : Pos} {e o : Expr} {es : List Expr} {ta : TE} {t : TA}
theorem run_fnE {pins : List (Addr × Obj)} {σ : St} {H : Hp} {s : Shared} {Q : VK} {us : List Value} {vs : List V} (F : FnOk X.prog X.w X.K X.mg X.base (CXe X.prog X.w) k f fd ps sp) (hr : Room k X.A) (hb : Binds X.K fd ps ds) (hd : Vals dvs ds) (hx : XW X Kx)
    (I : Inv X pins σ H s) (r : Vals vs us) (h : sp (vs ++ dvs) H Q (fun c _ H' => Kx c σ H')) : wpAny (model X.prog X.w) X.A (call (.ref f) us) (EP X pins σ Q) X.xe s := by
  have r2 : Vals (vs ++ dvs) (us ++ ds) := r.append hd
  have hl : (us ++ ds).length = ps.length := by rw [← r2.length]; exact F.len _ _ _ _ h
  refine wpAny_call (codeAny_mono (F.run X.A X.stack s H ⟨us, []⟩ (us ++ ds) (vs ++ dvs) Q _ hr I.env0 (hb s us I.kIn hl) r2 h) fun r s' hq => ?_)
  cases r with
  | error e =>
    obtain ⟨ea, cls, H', B, rfl, os, bare, un, hok, fly, hK⟩ := hq
    exact hx pins σ H s s' ea cls H' B I os bare un hok fly hK
  | ok fl =>
    cases fl with
    | ret u => exact I.after hq
    | next => exact False.elim hq
    | brk => exact False.elim hq
    | cont => exact False.elim hq
theorem pe_callE (F : Have X.prog X.w X.K X.mg X.base x k ps dvs sp) (hr : Room k X.A) (hx : XW X Kx) (ha : PA X (e :: es) t) (hg : Gl X x := by rfl) (hdb : (x == ("__debug__" : Str)) = false := by decide)
    (he : starEach (e :: es) X.env = (false, eval e X.env) :: starEach es X.env := by rfl) (hpl : (backTo pos (starEach es X.env)).any (·.1) = false := by rfl) :
    PE X (.Call (.Name x p) (e :: es) [] pos) (tCallE Kx sp dvs t) := by
  obtain ⟨f, fd, ds, hm, hk, hb, hd, F⟩ := F
  intro pins s σ H Q I h
  refine wpAny_Call_Name_kw (ld_glob I hg hm ?_ hdb)
  refine PySem.W.callWith_K (h₀ := X.base) I.ok.mod.kin hk (thn (ha pos pins s σ H _ I h) fun us s1 ⟨vs, H1, I1, r, q⟩ => ⟨I1.kIn, ?_⟩) he hpl
  exact run_fnE F hr hb hd hx I1 r q
theorem pe_globE {v : V} (hg : Gl X x) (hm : ∃ u, X.mg x = some u ∧ RelV v u) (hd : (x == ("__debug__" : Str)) = false := by decide) : PE X (.Name x pos) (tC v) := by
  obtain ⟨u, hm, r⟩ := hm
  exact pe_glob hg hm r hd
theorem pe_bltnE {n : String} (hg : Gl X x) (hm : X.mg x = none) (hv : bootBuiltins x = some (.type n)) (hn : x ≠ "__name__" := by decide) (hd : (x == ("__debug__" : Str)) = false := by decide) : PE X (.Name x pos) (tC (.ty n)) := pe_bltn hg hm hv rfl hn hd
end
def Raw (K : PySem.W.Frag) (mg : Str → Option Value) (x qual : Str) (st : Stmt) (ps : List Str) (dvs : List V) : Prop := ∃ f fd ds, mg x = some (.ref f) ∧ Fun K x qual st f fd ∧ Binds K fd ps ds ∧ Vals dvs ds
def RawM (K : PySem.W.Frag) (C : Addr) (m qual : Str) (st : Stmt) (ps : List Str) (dvs : List V) : Prop := ∃ f fd ds, Meth K C m f ∧ Fun K m qual st f fd ∧ Binds K fd ps ds ∧ Vals dvs ds
def RawI (K : PySem.W.Frag) (mg : Str → Option Value) (x : Str) (C : Addr) (qual : Str) (st : Stmt) (ps : List Str) (dvs : List V) : Prop := ∃ f fd ds, mg x = some (.ref C) ∧ Mk K C f ∧ Fun K "__init__" qual st f fd ∧ Binds K fd ps ds ∧ Vals dvs ds
section
variable {P : Program} {w : World} {K : PySem.W.Frag} {mg : Str → Option Value} {base : Heap}
def Body (P : Program) (w : World) (K : PySem.W.Frag) (mg : Str → Option Value) (base : Heap) (qual : Str) (st : Stmt) (N : List Str) (k : Nat) (sp : Sp) : Prop :=
  ∀ (f : Addr) (cdv : Value) (A : Around) (outer : List Env) (s : Shared) (H : Hp) (vs : List V) (Q : VK) (E : XK), Room k (A.deeper (envOfC qual (defScope st) s.heap.objs.size f cdv)) → sp vs H Q E →
    ∃ t, PSs (cxOf (CXe P w) P w K mg base N qual (defScope st) f cdv A outer s H E) (defBody st) t ∧ t { nx := fun _ H' => Q .non H', rt := Q } (start N vs) H
theorem Fun.okE {x qual : Str} {st : Stmt} {f : Addr} {fd : FuncData} {N ps : List Str} {k : Nat} {sp : Sp} (F : Fun K x qual st f fd) (S : FnScope N ps (defScope st)) (len : ∀ vs H Q E, sp vs H Q E → vs.length = ps.length)
    (hbody : Body P w K mg base qual st N k sp) : FnOk P w K mg base (CXe P w) (k + 1) f fd ps sp := by
  obtain ⟨oc, od, kV, doc, pm, an, cdv, ct, osl, rfl, lk, hcd⟩ := F.ex
  exact fn_of lk hcd S len fun A outer s H vs Q E hr hsp => hbody f cdv A outer s H vs Q E hr hsp
theorem Raw.have {x qual : Str} {st : Stmt} {N ps : List Str} {dvs : List V} {k : Nat} {sp : Sp} (R : Raw K mg x qual st ps dvs) (S : FnScope N ps (defScope st)) (len : ∀ vs H Q E, sp vs H Q E → vs.length = ps.length)
    (hbody : Body P w K mg base qual st N k sp) : Have P w K mg base x (k + 1) ps dvs sp :=
  let ⟨f, fd, ds, hm, F, hb, hd⟩ := R
  ⟨f, fd, ds, hm, F.kp, hb, hd, F.okE S len hbody⟩
theorem RawM.have {C : Addr} {m qual : Str} {st : Stmt} {N ps : List Str} {dvs : List V} {k : Nat} {sp : Sp} (R : RawM K C m qual st ps dvs) (S : FnScope N ps (defScope st)) (len : ∀ vs H Q E, sp vs H Q E → vs.length = ps.length)
    (hbody : Body P w K mg base qual st N k sp) : HaveM P w K mg base C m (k + 1) ps dvs sp :=
  let ⟨f, fd, ds, hm, F, hb, hd⟩ := R
  ⟨f, fd, ds, hm, hb, hd, F.okE S len hbody⟩
theorem RawI.have {C : Addr} {x qual : Str} {st : Stmt} {N ps : List Str} {dvs : List V} {k : Nat} {sp : Sp} (R : RawI K mg x C qual st ps dvs) (S : FnScope N ps (defScope st)) (len : ∀ vs H Q E, sp vs H Q E → vs.length = ps.length)
    (hbody : Body P w K mg base qual st N k sp) : HaveI P w K mg base x C (k + 1) ps dvs sp :=
  let ⟨f, fd, ds, hm, M, F, hb, hd⟩ := R
  ⟨f, fd, ds, hm, M, hb, hd, F.okE S len hbody⟩
end
end L2
namespace L2
open PySem PySem.Spec PyProof.Rows

def XR (X : Cx) (K : XKs) : Prop := ∀ (pins : List (Addr × Obj)) (σ : St) (H : Hp) (s : Shared) (h' : Heap) (e : Addr) (cls : Value) (args : List Value), Inv X pins σ H s → Heap.MadeExcOf s.heap h' e cls args → K cls σ H → X.xe (.ref e) { s with heap := h' }

theorem HOk.alive {P : Program} {w : World} {H : Hp} {h : Heap} (x : HOk P w H h) {b : Addr} {u : HO} (e : H b = some u) : ∃ o, h.get? b = some o := by
  have q := x b u e
  cases u with
  | lst xs => obtain ⟨_, _, _, _, e⟩ := q; exact ⟨_, e⟩
  | tup xs => obtain ⟨_, _, _, ⟨o, e, _⟩⟩ := q; exact ⟨_, e⟩
  | dK kvs => obtain ⟨_, _, _, _, o, _, _, e, _⟩ := q; exact ⟨_, e⟩
  | dT kvs => obtain ⟨_, _, _, _, o, _, _, e, _⟩ := q; exact ⟨_, e⟩
  | set S n => obtain ⟨o, _, _, _, e, _⟩ := q; exact ⟨_, e⟩
  | ins C dx fs => obtain ⟨_, _, _, e, _⟩ := q; exact ⟨_, e⟩
  | own y => exact q
  | xd fs => obtain ⟨_, ⟨_, _, _, e, _⟩, _⟩ := q; exact ⟨_, e⟩
  | rng lo hi => obtain ⟨_, _, _, e⟩ := q; exact ⟨_, e⟩
  | frz ob u => obtain ⟨e, _⟩ := q; exact ⟨_, e⟩
  | tbl ps => exact ⟨_, q⟩
  | met f y => exact ⟨_, q⟩
  | ext φ => obtain ⟨_, e, _⟩ := q; exact e

theorem xr_def {P : Program} {w : World} {K : PySem.W.Frag} {mg : Str → Option Value} {base : Heap} {N : List Str} {qual : Str} {scope : Scope} {f : Addr} {cd : Value} {A : Around} {outer : List Env} {s0 : Shared} {H0 : Hp} {E : XK} :
    XR (cxOf (CXe P w) P w K mg base N qual scope f cd A outer s0 H0 E) (fun c _ H' => E c none H') := by
  intro pins σ H s h1 ea cls args I mk hK
  have hfr := I.ok.frames
  have hstk : (cxOf (CXe P w) P w K mg base N qual scope f cd A outer s0 H0 E).stack = envOfC qual scope s0.heap.objs.size f cd :: outer := rfl
  have hfun := I.stack
  have hfree := I.stkFree
  rw [hstk] at hfr hfun hfree
  have hf : (envOfC qual scope s0.heap.objs.size f cd).frame = some s0.heap.objs.size := rfl
  have hfs : frs (envOfC qual scope s0.heap.objs.size f cd :: outer) = s0.heap.objs.size :: frs outer := frs_cons hf
  have noA : ∀ b : Addr, b ∉ (cxOf (CXe P w) P w K mg base N qual scope f cd A outer s0 H0 E).ex := fun b z => absurd z (by simp [cxOf])
  have nf : ∀ b o, s0.heap.get? b = some o → b ∉ frs outer → b ∉ frs (envOfC qual scope s0.heap.objs.size f cd :: outer) := fun b o e n z => by
    rw [hfs] at z
    rcases List.mem_cons.mp z with z | z
    · exact absurd (Heap.lt_size e) (by rw [z]; exact Nat.lt_irrefl _)
    · exact n z
  show wpAny _ _ (leaving (envOfC qual scope s0.heap.objs.size f cd) (.ref ea)) _ _ _
  refine wpAny_leaves_madeW (base := PySem.W.hideAll s.heap (frs (envOfC qual scope s0.heap.objs.size f cd :: outer))) (h := s.heap) hfr hf (fun b o q => PySem.W.of_hideAll _ q)
    (PySem.W.funFrames_hide hfun fun env he b hb => List.mem_filterMap.mpr ⟨env, he, hb⟩) mk fun h' t fl' _ _ up => ?_
  have inB : ∀ b o, s.heap.get? b = some o → b ∉ frs (envOfC qual scope s0.heap.objs.size f cd :: outer) → (PySem.W.hideAll s.heap (frs (envOfC qual scope s0.heap.objs.size f cd :: outer))).get? b = some o := fun b o e n => PySem.W.hideAll_get _ e n
  have stay : ∀ b o, s0.heap.get? b = some o → H0 b = none → b ∉ frs outer → (PySem.W.hideAll s.heap (frs (envOfC qual scope s0.heap.objs.size f cd :: outer))).get? b = some o := fun b o e n hb =>
    inB b o (I.base.keep b o e n hb (noA b)) (nf b o e hb)
  have live : ∀ b o, s0.heap.get? b = some o → b ∉ frs outer → ∃ o', (PySem.W.hideAll s.heap (frs (envOfC qual scope s0.heap.objs.size f cd :: outer))).get? b = some o' := fun b o e hb => by
    obtain ⟨o1, e1⟩ := I.base.there b o e (noA b)
    exact ⟨o1, inB b o1 e1 (nf b o e hb)⟩
  have trk : ∀ b u, H b = some u → ∃ o, (PySem.W.hideAll s.heap (frs (envOfC qual scope s0.heap.objs.size f cd :: outer))).get? b = some o := fun b u e => by
    obtain ⟨o, ho⟩ := I.hok.alive e
    exact ⟨o, inB b o ho fun z => by rw [hfree b z] at e; cases e⟩
  have slotOf : ∀ b, b ∈ frs outer → ∀ o, s.heap.get? b = some o → ∃ sl, h'.get? b = some { o with slots := sl } := fun b hb o e => by
    have hm : b ∈ frs (envOfC qual scope s0.heap.objs.size f cd :: outer) := by rw [hfs]; exact List.mem_cons_of_mem _ hb
    obtain ⟨_, o', ho', hd⟩ := hfun.mem hm
    rw [e] at ho'; cases ho'
    exact up b o (mk.keeps b o e) hd
  refine ⟨ea, cls, H, _, rfl, I.os, I.bare, ?_, I.hok.flown trk (fun b o q => PySem.W.of_hideAll _ q) fl'.1, ⟨⟨_, fl'⟩, trk, stay, live⟩, hK⟩
  refine ⟨fun b o e n hb _ => fl'.1 b o (stay b o e n hb), fun b o e n hb _ => ?_, fun b o e n _ => I.base.free b o e n (noA b), fun b o e _ => ?_, I.base.tups, I.base.frzs, I.base.tbls⟩
  · obtain ⟨sl, e1⟩ := I.base.slot b o e n hb (noA b)
    obtain ⟨sl', e2⟩ := slotOf b hb _ e1
    exact ⟨sl', e2⟩
  · by_cases hb : b ∈ frs outer
    · obtain ⟨o1, e1⟩ := I.base.there b o e (noA b)
      obtain ⟨sl, e2⟩ := slotOf b hb _ e1
      exact ⟨_, e2⟩
    · obtain ⟨o1, e1⟩ := live b o e hb
      exact ⟨o1, fl'.1 b o1 e1⟩

abbrev mroVE : List Value := [.type "ValueError", .type "Exception", .type "BaseException", .type "object"]
structure XC (K : PySem.W.Frag) (mg : Str → Option Value) (x : Str) (C : Addr) : Prop where
  m : mg x = some (.ref C)
  ex : PySem.W.excIn K C mroVE "ValueError.__new__" = true
theorem exc_obj {K : PySem.W.Frag} {h : Heap} {C : Addr} {l : List Value} {id : String} (hin : K.In h) (q : PySem.W.excIn K C l id = true) :
    ∃ bm N nm qn bs hdct sn sub ab col dd k0 k1 k2 k3 k5 mN, h.get? C = some (excClassObj nm qn C N bs bm hdct sn sub ab col dd k0 k1 k2 k3 k5 id) ∧ h.Ns N mN ∧ mN "__init__" = none ∧ OwnTail h l bm := by
  unfold PySem.W.excIn at q
  split at q
  case h_2 => cases q
  case h_1 dd cd sl ho =>
    split at q
    case h_2 => cases q
    case h_1 C' bm k0 k1 k2 k3 n k5 hm hs =>
      rw [Bool.and_eq_true, Bool.and_eq_true, Bool.and_eq_true, Bool.and_eq_true, Bool.and_eq_true] at q
      obtain ⟨⟨⟨⟨⟨q1, q2⟩, q3⟩, q4⟩, q5⟩, q6⟩ := q
      have e1 := beq_iff_eq.mp q1
      have e2 := beq_iff_eq.mp q2
      have e6 := beq_iff_eq.mp q6
      subst e1 e2
      obtain ⟨nm, bs, mro, ns, qn, hd, sn, sub, ab, col, del⟩ := cd
      have e3 : del = false := by
        cases del with
        | false => rfl
        | true => cases q3
      have hm' : mro = .ref C' :: bm := hm
      subst e3 hm'
      obtain ⟨l'⟩ := sl
      have hs' : l' = [k0, k1, k2, k3, some (.builtin n), k5] := hs
      subst hs'
      exact ⟨bm, ns, nm, qn, bs, hd, sn, sub, ab, col, dd, k0, k1, k2, k3, k5, _, hin _ _ ho, .of_isNs (PySem.W.isNs_of_in hin q5), PySem.W.nsMap_none_of_in hin q5 e6, PySem.W.tail_of_in hin q4⟩
def tRaise (Kx : XKs) (C : Addr) (t : TA) : TS := fun _ σ H => t σ H fun vs H1 => vs.length ≤ sizeLine ∧ Kx (.ref C) σ H1
theorem ps_raise {X : Cx} {Kx : XKs} {C : Addr} {x : Str} {np cpos pos : Pos} {e : Expr} {es : List Expr} {t : TA} (hx : XR X Kx) (hc : X.calm = true) (c : XC X.K X.mg x C) (ha : PA X (e :: es) t) (hg : Gl X x := by rfl) (hd : (x == ("__debug__" : Str)) = false := by decide)
    (he : starEach (e :: es) X.env = (false, eval e X.env) :: starEach es X.env := by rfl) (hpl : (backTo cpos (starEach es X.env)).any (·.1) = false := by rfl) :
    PS X (.Raise (some (.Call (.Name x np) (e :: es) [] cpos)) none pos) (tRaise Kx C t) := by
  intro pins s σ H D I h
  obtain ⟨bm, N, nm, qn, bs, hdct, sn, sub, ab, col, dd, k0, k1, k2, k3, k5, mN, hC, hN, hni, T⟩ := exc_obj I.mod.kin c.ex
  refine wpAny_Raise_call_subT (C := C) (nm := nm) (q := qn) (N := N) (bs := bs) (bm := bm) (hdct := hdct) (sn := sn) (sub := sub) (ab := ab) (col := col) (dd := dd) (k0 := k0) (k1 := k1) (k2 := k2) (k3 := k3) (k5 := k5) (mN := mN) PySem.F.excBase_ValueError (T.hasType PySem.F.excBase_ValueError.hasBase) (I.ok.hd hc) (by rw [he]; show (false || (backTo cpos (starEach es X.env)).any (·.1)) = false; rw [hpl]; rfl) hni
    (ld_glob I hg c.m ⟨rfl, ?_⟩ hd)
  have q := ha cpos pins s σ H _ I h
  rw [he] at q ⊢
  refine Calls.evalArgs_plain (wpAny_mono q (fun us s2 hq => ?_) fun _ _ y => y)
  obtain ⟨vs, H1, I1, r, hl, hk⟩ := hq
  exact ⟨rfl, by rw [← r.length]; exact hl, I1.bk _ _ hC, hN.keeps I1.bk, T.keeps I1.bk, fun h' ea mk => hx pins σ H1 s2 h' ea (.ref C) us I1 mk hk⟩

end L2
namespace L2
open PySem PySem.Spec PyProof.Rows
def kdO : Option HO → String
  | some (.lst _) => "list"
  | some (.frz _ (.lst _)) => "list"
  | some (.tup _) => "tuple"
  | some (.dK _) => "dict"
  | some (.dT _) => "dict"
  | _ => ""
def kd (H : Hp) : V → String
  | .non => "NoneType"
  | .bl _ => "bool"
  | .int _ => "int"
  | .str _ => "str"
  | .ref a => kdO (H a)
  | _ => ""
def Kn (H : Hp) (x : V) : Prop := kd H x ≠ ""
def isTy (n : String) (H : Hp) (x : V) : Bool := kd H x == n || (kd H x == "bool" && n == "int")
theorem kd_ty {K : PySem.W.Frag} {H : Hp} {x : V} (h : Kn H x) : TyOf K H x (.type (kd H x)) := by
  cases x with
  | non => exact .non
  | bl b => exact .bl b
  | int i => exact .int i
  | str s => exact .str s
  | ref a =>
    have h : kdO (H a) ≠ "" := h
    show TyOf K H (.ref a) (.type (kdO (H a)))
    cases e : H a with
    | none => rw [e] at h; exact absurd rfl h
    | some o =>
      rw [e] at h
      cases o with
      | lst xs => exact .lst e
      | tup xs => exact .tup e
      | dK k => exact .dK e
      | dT k => exact .dT e
      | frz ob u =>
        cases u with
        | lst xs => exact .frz e
        | _ => exact absurd rfl h
      | _ => exact absurd rfl h
  | _ => exact absurd rfl h
theorem kdO_cases (o : Option HO) : kdO o = "" ∨ kdO o = "list" ∨ kdO o = "tuple" ∨ kdO o = "dict" := by
  unfold kdO
  split <;> simp
theorem Kn.cases {H : Hp} {x : V} (h : Kn H x) : kd H x = "NoneType" ∨ kd H x = "bool" ∨ kd H x = "int" ∨ kd H x = "str" ∨ kd H x = "list" ∨ kd H x = "tuple" ∨ kd H x = "dict" := by
  cases x with
  | ref a =>
    have h : kdO (H a) ≠ "" := h
    show kdO (H a) = _ ∨ kdO (H a) = _ ∨ kdO (H a) = _ ∨ kdO (H a) = _ ∨ kdO (H a) = _ ∨ kdO (H a) = _ ∨ kdO (H a) = _
    rcases kdO_cases (H a) with e | e | e | e
    · exact absurd e h
    · exact .inr (.inr (.inr (.inr (.inl e))))
    · exact .inr (.inr (.inr (.inr (.inr (.inl e)))))
    · exact .inr (.inr (.inr (.inr (.inr (.inr e)))))
  | non => exact .inl rfl
  | bl b => exact .inr (.inl rfl)
  | int i => exact .inr (.inr (.inl rfl))
  | str z => exact .inr (.inr (.inr (.inl rfl)))
  | _ => exact absurd rfl h
theorem kit_scal (K : PySem.W.Frag) : ∀ k ∈ ["NoneType", "bool", "int", "str", "list", "tuple", "dict"], ∀ n ∈ ["bool", "int", "str", "list", "tuple", "dict"], PySem.W.kitOne K (.type k) (.type n) = some (k == n || (k == "bool" && n == "int")) := by
  have e : ∀ k ∈ ["NoneType", "bool", "int", "str", "list", "tuple", "dict"], ∀ n ∈ ["bool", "int", "str", "list", "tuple", "dict"], (if (Value.type k == Value.type n) = true then some true else if PySem.W.kitMeta n = true then (fastBuiltinMro k).map (·.contains (.type n)) else none) = some (k == n || (k == "bool" && n == "int")) := by decide +kernel
  exact fun k hk n hn => e k hk n hn
theorem call_isi {X : Cx} : CallR X (.builtin "isinstance") (fun xs H Q => ∃ x n, xs = [x, .ty n] ∧ n ∈ ["bool", "int", "str", "list", "tuple", "dict"] ∧ Kn H x ∧ Q (.bl (isTy n H x)) H) := by
  intro pins s σ H xs us Q I r h
  obtain ⟨x, n, rfl, hn, hk, q⟩ := h
  cases r with
  | cons r1 rr =>
    cases rr with
    | cons r2 rr =>
      cases rr
      cases r2
      refine isinst_ok I r1 (kd_ty hk) (kit_scal X.K _ ?_ n hn) fun tk => ⟨.bl _, H, I.tok tk, rfl, q⟩
      rcases hk.cases with e | e | e | e | e | e | e <;> rw [e] <;> simp
theorem op_neg {X : Cx} : UnR X (unaryOp .USub) (rU fun i => .int (-i)) := by
  intro pins s σ H x v Q I rx h
  obtain ⟨i, rfl, q⟩ := h
  obtain ⟨t, rfl⟩ := rx
  exact neg_int ⟨.int _, H, I.tok _, ⟨_, rfl⟩, q⟩
end L2
namespace L2
open PySem PySem.Spec PyProof.Rows
theorem kn_str {H : Hp} {i : Str} : Kn H (.str i) ↔ True := ⟨fun _ => trivial, fun _ => (by decide : "str" ≠ "")⟩
theorem cxOf_K {CX : CXT} {P : Program} {w : World} {K : PySem.W.Frag} {mg : Str → Option Value} {base : Heap} {N : List Str} {qual : Str} {scope : Scope} {f : Addr} {cd : Value} {A : Around} {outer : List Env} {s : Shared} {H : Hp} {E : XK} :
    (cxOf CX P w K mg base N qual scope f cd A outer s H E).K = K := rfl
def whole : V → Bool
  | .int _ => true
  | _ => false
def within (x : V) (l h : Int) : Bool := match x with
  | .int i => decide (l ≤ i) && decide (i ≤ h)
  | _ => false
end L2
namespace L2
open PySem PySem.Spec PyProof.Rows
inductive Hid (t u : TS) : Type where
  | mk : Hid t u
def tCut (t u : TS) (_ : Hid t u) : TS := fun D σ H => ∃ M : St → Hp → Prop, t { D with nx := M } σ H ∧ ∀ σ' H', M σ' H' → u D σ' H'
theorem pss_cut {X : Cx} {st : Stmt} {rest : List Stmt} {t u : TS} (h1 : PS X st t) (h2 : PSs X rest u) : PSs X (st :: rest) (tCut t u .mk) := by
  intro pins s σ H D I h
  obtain ⟨M, h, hM⟩ := h
  refine wpAny_execs_cons (thn (h1 pins s σ H { D with nx := M } I h) fun f s1 q => ?_)
  cases f with
  | next =>
    obtain ⟨σ', H', I', q⟩ := q
    exact h2 pins s1 σ' H' D I' (hM σ' H' q)
  | ret v => exact q
  | brk => exact q
  | cont => exact q
def lstO : Option HO → Option (List V)
  | some (.lst xs) => some xs
  | some (.frz _ (.lst xs)) => some xs
  | _ => none
def tupO : Option HO → Option (List V)
  | some (.tup xs) => some xs
  | some (.frz _ (.tup xs)) => some xs
  | _ => none
theorem lstO_lst {xs : List V} : lstO (some (.lst xs)) = some xs := rfl
theorem tupO_tup {xs : List V} : tupO (some (.tup xs)) = some xs := rfl
theorem sq_lstO {K : PySem.W.Frag} {H : Hp} {a : Addr} {xs : List V} (h : lstO (H a) = some xs) : SqL K H a xs := by
  unfold lstO at h
  split at h
  · rename_i e; cases h; exact .inl (.inl e)
  · rename_i e; cases h; exact .inl (.inr ⟨_, e⟩)
  · cases h
def rIxH : R2 := fun x y H Q => ∃ p xs i v, x = .ref p ∧ y = .int i ∧ lstO (H p) = some xs ∧ atI xs i = some v ∧ Q v H
theorem ix_lst {X : Cx} : IxR X rIxH := by
  intro value slice pins s σ H x y v u Q I rx ry h hs
  obtain ⟨p, xs, i, w', e1, e2, e3, e4, q⟩ := h
  exact ix_list value slice pins s σ H x y v u Q I rx ry ⟨p, xs, i, w', e1, e2, sq_lstO e3, e4, q⟩ hs
theorem scal_ii {i j : Int} : scal (.int i) (.int j) = true := rfl
theorem scal_bb {i j : Bool} : scal (.bl i) (.bl j) = true := rfl
theorem scal_ss {i j : Str} : scal (.str i) (.str j) = true := rfl
theorem na10 : Int.natAbs 10 = 10 := rfl
theorem same_refl {H : Hp} : Same H H := fun _ _ h => h
theorem same_upd {H H' : Hp} {p : Addr} {o : HO} (s : Same H H') (h : H' p = none) : Same H (upd H' p o) := fun b u e => by
  have q := s b u e
  rw [upd_ne (ne_of_none q h)]
  exact q
end L2
namespace L2
open PySem PySem.Spec PyProof.Rows
end L2
namespace L2
open PySem PySem.Spec PyProof.Rows
inductive HidF (g : TG) (tb : TS) : Type where
  | mk : HidF g tb
def Loop (g : TG) (tb : TS) (_ : HidF g tb) (J : It) : TS := fun D σ H => ∃ W : Nat → Nat → St → Hp → Prop, (∃ m, W 0 m σ H) ∧ ∀ i m σ H, W i m σ H →
  (J.stop i H ∧ D.nx σ H) ∨ (J.go i H ∧ ∃ N : St → Hp → Prop, (∀ σ' H', N σ' H' → ∃ m', m' < m ∧ W (i + 1) m' σ' H') ∧ ∀ x H', J.yld i H x H' → g x σ H' fun σ2 H2 => tb { D with nx := N, ct := N, bk := D.nx } σ2 H2)
def tForE (wi : TI) (g : TG) (tb : TS) (h : HidF g tb) : TS := fun D σ H => wi σ H fun J H1 => Loop g tb h J D σ H1
theorem ps_forE {X : Cx} {tg iter : Expr} {body : List Stmt} {wi : TI} {g : TG} {tb : TS} {pos : Pos} (hp : PassesOwn (model X.prog X.w) X.A X.env X.xe) (hc : X.calm = true) (hi : PI X tg iter wi) (hg : PG X tg g) (hb : PSs X body tb)
    (hs : ∀ x, foldedSetIterable iter X.env x = pure x := by intro _; rfl) : PS X (.For tg iter body [] pos) (tForE wi g tb .mk) := ps_for hp hc hi hg hb hs
theorem loop_range {lo : Int} {n : Nat} {g : TG} {tb : TS} {h : HidF g tb} {D : Ends} {σ : St} {H : Hp} (Pv : Nat → St → Hp → Prop) (h0 : Pv 0 σ H)
    (hs : ∀ i σ H, i < n → Pv i σ H → g (.int (lo + i)) σ H fun σ2 H2 => tb { D with nx := Pv (i + 1), ct := Pv (i + 1), bk := D.nx } σ2 H2) (hd : ∀ σ H, Pv n σ H → D.nx σ H) : Loop g tb h (Itr lo n) D σ H := for_range Pv h0 hs hd
theorem loop_list {K : PySem.W.Frag} {a : Addr} {xs : List V} {g : TG} {tb : TS} {h : HidF g tb} {D : Ends} {σ : St} {H : Hp} (Pv : Nat → St → Hp → Prop) (h0 : Pv 0 σ H) (hl : ∀ i σ H, i ≤ xs.length → Pv i σ H → SqL K H a xs)
    (hs : ∀ i x σ H, xs[i]? = some x → Pv i σ H → g x σ H fun σ2 H2 => tb { D with nx := Pv (i + 1), ct := Pv (i + 1), bk := D.nx } σ2 H2) (hd : ∀ σ H, Pv xs.length σ H → D.nx σ H) : Loop g tb h (Itl K a) D σ H := for_list Pv h0 hl hs hd
theorem loop_tup {K : PySem.W.Frag} {a : Addr} {xs : List V} {g : TG} {tb : TS} {h : HidF g tb} {D : Ends} {σ : St} {H : Hp} (Pv : Nat → St → Hp → Prop) (h0 : Pv 0 σ H) (hl : ∀ i σ H, i ≤ xs.length → Pv i σ H → SqT K H a xs)
    (hs : ∀ i x σ H, xs[i]? = some x → Pv i σ H → g x σ H fun σ2 H2 => tb { D with nx := Pv (i + 1), ct := Pv (i + 1), bk := D.nx } σ2 H2) (hd : ∀ σ H, Pv xs.length σ H → D.nx σ H) : Loop g tb h (Itt K a) D σ H := for_tup Pv h0 hl hs hd
end L2
namespace L2
open PySem PySem.Spec PyProof.Rows
end L2
namespace L2
open PySem PySem.Spec PyProof.Rows
end L2
namespace L2
open PySem PySem.Spec PyProof.Rows
end L2
namespace L2
open PySem PySem.Spec PyProof.Rows
end L2
namespace L2
open PySem PySem.Spec PyProof.Rows
end L2
namespace L2
open PySem PySem.Spec PyProof.Rows
section
variable {X : Cx} {pins pins2 : List (Addr × Obj)} {σ : St} {H : Hp} {s : Shared} {E' : Value → Shared → Prop}
end
end L2
namespace PySem.W
open PySem PySem.Spec PySem.Calls PyProof.Rows
open Builtin Builtin.ObjectAttr Builtin.Getset_descriptor
def ExcAt (e C : Addr) (h : Heap) : Prop := ∃ o, h.get? e = some o ∧ o.cls = .ref C
section
variable {K : Frag} {e C : Addr}
theorem ExcAt.ty {M : Model} {h : Heap} (p : ExcAt e C h) : Looks M h (typeOf (.ref e)) (.ref C) := by
  obtain ⟨o, h1, h2⟩ := p
  exact h2 ▸ (Looks.ld h1).andThen .now
variable {prog : Program} {w : World} {A : Around} {E : Value → Shared → Prop} {s : Shared}
end
end PySem.W
namespace L2
open PySem PySem.Spec PyProof.Rows
def clsV : V → Value
  | .ref a => .ref a
  | .ty n => .type n
  | _ => .none
theorem clsV_ref {a : Addr} : clsV (.ref a) = .ref a := rfl
theorem clsV_ty {n : String} : clsV (.ty n) = .type n := rfl
end L2
namespace L2
open PySem PySem.Spec PyProof.Rows
inductive Dv where
  | leaf (v : V)
  | seq (t : Bool) (ds : List Dv)
mutual
def Sees (K : PySem.W.Frag) (H : Hp) : Dv → V → Prop
  | .leaf v, x => x = v ∧ flatV v = true
  | .seq t ds, x => ∃ a xs, x = .ref a ∧ (if t = true then SqT K H a xs else SqL K H a xs) ∧ SeesL K H ds xs
def SeesL (K : PySem.W.Frag) (H : Hp) : List Dv → List V → Prop
  | [], xs => xs = []
  | d :: ds, xs => ∃ x r, xs = x :: r ∧ Sees K H d x ∧ SeesL K H ds r
end
mutual
def alike : Dv → Dv → Bool
  | .leaf _, .leaf _ => true
  | .seq t ds, .seq u es => t == u && alikeL ds es
  | _, _ => false
def alikeL : List Dv → List Dv → Bool
  | d :: ds, e :: es => alike d e && alikeL ds es
  | _, _ => true
end
mutual
def eqDv : Dv → Dv → Bool
  | .leaf v, .leaf w => eqV v w
  | .seq _ ds, .seq _ es => eqDvL ds es
  | _, _ => false
def eqDvL : List Dv → List Dv → Bool
  | [], [] => true
  | d :: ds, e :: es => eqDv d e && eqDvL ds es
  | _, _ => false
end
mutual
def deep : Dv → Nat
  | .leaf _ => 0
  | .seq _ ds => deepL ds + 1
def deepL : List Dv → Nat
  | [] => 0
  | d :: ds => max (deep d) (deepL ds)
end
theorem SeesL.length {K : PySem.W.Frag} {H : Hp} : ∀ {ds : List Dv} {xs : List V}, SeesL K H ds xs → ds.length = xs.length
  | [], xs, h => by unfold SeesL at h; subst h; rfl
  | d :: ds, xs, h => by
    unfold SeesL at h
    obtain ⟨x, r, rfl, _, h⟩ := h
    simp [h.length]
theorem all_range_succ (n : Nat) (f : Nat → Bool) : (List.range (n + 1)).all f = (f 0 && (List.range n).all fun j => f (j + 1)) := by
  rw [List.range_succ_eq_map, List.all_cons, List.all_map]; rfl
theorem eqDvL_eq : ∀ (ds es : List Dv), eqDvL ds es = (decide (ds.length = es.length) && (List.range (min ds.length es.length)).all fun j => eqDv (ds.getD j (.leaf .non)) (es.getD j (.leaf .non)))
  | [], [] => by simp [eqDvL]
  | [], e :: es => by simp [eqDvL]
  | d :: ds, [] => by simp [eqDvL]
  | d :: ds, e :: es => by
    have ih := eqDvL_eq ds es
    rw [eqDvL, ih]
    have hm : min (d :: ds).length (e :: es).length = min ds.length es.length + 1 := by simp [Nat.succ_min_succ]
    rw [hm, all_range_succ]
    simp only [List.length_cons, Nat.add_right_cancel_iff, List.getD_cons_zero, List.getD_cons_succ]
    cases eqDv d e <;> cases decide (ds.length = es.length) <;> simp
theorem eqV_self {v : V} (h : flatV v = true) : eqV v v = true := by
  cases v <;> first | rfl | (simp [eqV]; done) | exact absurd h (by simp [flatV])
mutual
theorem sees_same {X : Cx} {pins : List (Addr × Obj)} {σ : St} {H : Hp} {s : Shared} (I : Inv X pins σ H s) : ∀ (d e : Dv) (x : V), alike d e = true → Sees X.K H d x → Sees X.K H e x → eqDv d e = true
  | .leaf a, .leaf b, x, _, hx, hy => by
    unfold Sees at hx hy
    obtain ⟨rfl, fx⟩ := hx
    obtain ⟨rfl, fy⟩ := hy
    rw [eqDv]
    exact eqV_self fx
  | .leaf a, .seq t es, _, h, _, _ => by simp [alike] at h
  | .seq t ds, .leaf b, _, h, _, _ => by simp [alike] at h
  | .seq t ds, .seq t' es, x, h, hx, hy => by
    rw [alike, Bool.and_eq_true] at h
    have ht := beq_iff_eq.mp h.1
    subst ht
    unfold Sees at hx hy
    obtain ⟨a, xs, rfl, hsx, hL⟩ := hx
    obtain ⟨b, ys, e, hsy, hM⟩ := hy
    cases e
    rw [eqDv]
    have exy : xs = ys := by
      cases t with
      | true => exact I.tuple_inj (by simpa using hsx) (by simpa using hsy)
      | false => exact I.list_inj (by simpa using hsx) (by simpa using hsy)
    subst exy
    exact sees_sameL I ds es xs h.2 hL hM
theorem sees_sameL {X : Cx} {pins : List (Addr × Obj)} {σ : St} {H : Hp} {s : Shared} (I : Inv X pins σ H s) : ∀ (ds es : List Dv) (xs : List V), alikeL ds es = true → SeesL X.K H ds xs → SeesL X.K H es xs → eqDvL ds es = true
  | [], [], _, _, _, _ => by rw [eqDvL]
  | [], e :: es, xs, _, hx, hy => by
    unfold SeesL at hx hy
    obtain ⟨x, r, e1, _⟩ := hy
    rw [hx] at e1; cases e1
  | d :: ds, [], xs, _, hx, hy => by
    unfold SeesL at hx hy
    obtain ⟨x, r, e1, _⟩ := hx
    rw [hy] at e1; cases e1
  | d :: ds, e :: es, xs, h, hx, hy => by
    rw [alikeL, Bool.and_eq_true] at h
    unfold SeesL at hx hy
    obtain ⟨x, r, rfl, hx, hxr⟩ := hx
    obtain ⟨y, r', e1, hy, hyr⟩ := hy
    cases e1
    rw [eqDvL, sees_same I d e x h.1 hx hy, sees_sameL I ds es r h.2 hxr hyr]
    rfl
end
theorem rc_deep {X : Cx} {pins : List (Addr × Obj)} {σ : St} {H : Hp} {s : Shared} (I : Inv X pins σ H s) {A : Around} {t : Bool} {ds es : List Dv} {a b : Addr} {xs ys : List V} (hu : A.units < cLine)
    (hsx : if t = true then SqT X.K H a xs else SqL X.K H a xs) (hsy : if t = true then SqT X.K H b ys else SqL X.K H b ys) (l1 : ds.length = xs.length) (l2 : es.length = ys.length)
    (ih : ∀ (j : Nat) (u v : Value) (us vs : List Value), Vals xs us → Vals ys vs → us[j]? = some u → vs[j]? = some v → SeqAt.EqAt A.in1 s u v (eqDv (ds.getD j (.leaf .non)) (es.getD j (.leaf .non)))) :
    SeqAt.RcAt A s (.ref a) (.ref b) (eqDvL ds es) := by
  rw [eqDvL_eq]
  cases t with
  | false =>
    obtain ⟨its, rv, pl, _⟩ := I.list (show SqL X.K H a xs by simpa using hsx)
    obtain ⟨its2, rv2, pl2, _⟩ := I.list (show SqL X.K H b ys by simpa using hsy)
    have n1 := rv.length
    have n2 := rv2.length
    by_cases hl : ds.length = es.length
    · have q := SeqAt.RcAt.lists (e := fun j => eqDv (ds.getD j (.leaf .non)) (es.getD j (.leaf .non))) pl.isList pl2.isList (by simp; omega) (by omega : A.units < cLine) (fun j h1 h2 => by
        have h1 : j < its.length := by simpa using h1
        have h2 : j < its2.length := by simpa using h2
        have e := ih j (its[j]) (its2[j]) its its2 rv rv2 (by simp [h1]) (by simp [h2])
        simpa using e)
      rw [decide_eq_true hl, Bool.true_and]
      have em : min ds.length es.length = its.toArray.size := by simp; omega
      rw [em]
      exact q
    · have q := SeqAt.RcAt.lists_lengths (A := A) pl.isList pl2.isList (by simp; omega) (by omega : A.units < cLine)
      rw [decide_eq_false hl, Bool.false_and]
      exact q
  | true =>
    obtain ⟨its, rv, pl, _⟩ := I.tuple (show SqT X.K H a xs by simpa using hsx)
    obtain ⟨its2, rv2, pl2, _⟩ := I.tuple (show SqT X.K H b ys by simpa using hsy)
    have n1 := rv.length
    have n2 := rv2.length
    have q := SeqAt.RcAt.tuples (e := fun j => eqDv (ds.getD j (.leaf .non)) (es.getD j (.leaf .non))) (show s.heap.IsTuple a its.toArray from pl) (show s.heap.IsTuple b its2.toArray from pl2) (by omega : A.units < cLine) (fun j h1 h2 => by
        have h1 : j < its.length := by simpa using h1
        have h2 : j < its2.length := by simpa using h2
        have e := ih j (its[j]) (its2[j]) its its2 rv rv2 (by simp [h1]) (by simp [h2])
        simpa using e)
    have em : min its.toArray.size its2.toArray.size = min ds.length es.length := by simp; omega
    have eb : (its.toArray.size == its2.toArray.size) = decide (ds.length = es.length) := by
      rw [Bool.eq_iff_iff]; simp; omega
    rw [em, eb, Bool.and_comm] at q
    exact q
mutual
theorem eqAt_deep {X : Cx} {pins : List (Addr × Obj)} {σ : St} {H : Hp} {s : Shared} (I : Inv X pins σ H s) : ∀ (d e : Dv) (A : Around) (x y : V) (u v : Value), A.units + deep d < cLine → alike d e = true → Sees X.K H d x → Sees X.K H e y → RelV x u → RelV y v → SeqAt.EqAt A s u v (eqDv d e)
  | .leaf a, .leaf b, A, x, y, u, v, _, _, hx, hy, rx, ry => by
    unfold Sees at hx hy
    obtain ⟨rfl, fx⟩ := hx
    obtain ⟨rfl, fy⟩ := hy
    rw [eqDv]
    exact eqAt_V rx ry fx fy
  | .leaf a, .seq t es, A, x, y, u, v, _, h, _, _, _, _ => by simp [alike] at h
  | .seq t ds, .leaf b, A, x, y, u, v, _, h, _, _, _, _ => by simp [alike] at h
  | .seq t ds, .seq t' es, A, x, y, u, v, hu, h, hx, hy, rx, ry => by
    have h0 := h
    rw [alike, Bool.and_eq_true] at h
    have ht := beq_iff_eq.mp h.1
    subst ht
    have hx0 := hx
    have hy0 := hy
    unfold Sees at hx hy
    obtain ⟨a, xs, rfl, hsx, hL⟩ := hx
    obtain ⟨b, ys, rfl, hsy, hM⟩ := hy
    cases rx
    cases ry
    by_cases hab : a = b
    · subst hab
      rw [sees_same I _ _ _ h0 hx0 hy0]
      exact SeqAt.EqAt.same _
    · rw [deep] at hu
      have hu1 : A.in1.units + deepL ds < cLine := by show A.units + 1 + deepL ds < cLine; omega
      have ih := eqAt_deepL I ds es A.in1 xs ys hu1 h.2 hL hM
      rw [eqDv]
      exact SeqAt.EqAt.of_refs hab (rc_deep I (by omega) hsx hsy hL.length hM.length ih)
theorem eqAt_deepL {X : Cx} {pins : List (Addr × Obj)} {σ : St} {H : Hp} {s : Shared} (I : Inv X pins σ H s) : ∀ (ds es : List Dv) (A : Around) (xs ys : List V), A.units + deepL ds < cLine → alikeL ds es = true → SeesL X.K H ds xs → SeesL X.K H es ys →
    ∀ (j : Nat) (u v : Value) (us vs : List Value), Vals xs us → Vals ys vs → us[j]? = some u → vs[j]? = some v → SeqAt.EqAt A s u v (eqDv (ds.getD j (.leaf .non)) (es.getD j (.leaf .non)))
  | [], es, A, xs, ys, _, _, hx, hy, j, u, v, us, vs, rx, ry, e1, e2 => by
    unfold SeesL at hx
    subst hx
    cases rx
    simp at e1
  | d :: ds, [], A, xs, ys, _, _, hx, hy, j, u, v, us, vs, rx, ry, e1, e2 => by
    unfold SeesL at hy
    subst hy
    cases ry
    simp at e2
  | d :: ds, e :: es, A, xs, ys, hu, h, hx, hy, j, u, v, us, vs, rx, ry, e1, e2 => by
    rw [alikeL, Bool.and_eq_true] at h
    rw [deepL] at hu
    unfold SeesL at hx hy
    obtain ⟨x, r, rfl, hx, hxr⟩ := hx
    obtain ⟨y, r', rfl, hy, hyr⟩ := hy
    cases rx with
    | cons p1 p2 =>
      cases ry with
      | cons q1 q2 =>
        cases j with
        | zero =>
          simp at e1 e2
          subst e1 e2
          exact eqAt_deep I d e A x y _ _ (by omega) h.1 hx hy p1 q1
        | succ k =>
          have z := eqAt_deepL I ds es A r r' (by omega) h.2 hxr hyr k u v _ _ p2 q2 (by simpa using e1) (by simpa using e2)
          simpa using z
end
theorem hu6 {A : Around} {k : Nat} (hr : Room k A) : A.units + 4 + 2 < cLine := by have := hr.units; omega
def rNeD (K : PySem.W.Frag) (n : Nat) : R2 := fun x y H Q => ∃ t ds es, Sees K H (.seq t ds) x ∧ Sees K H (.seq t es) y ∧ alikeL ds es = true ∧ deepL ds ≤ n ∧ Q (.bl (!eqDvL ds es)) H
theorem rcNe_deep {X : Cx} {pins : List (Addr × Obj)} {σ : St} {H : Hp} {s : Shared} (I : Inv X pins σ H s) {A : Around} {t : Bool} {ds es : List Dv} {a b : Addr} {xs ys : List V} (hu : A.units < cLine)
    (hsx : if t = true then SqT X.K H a xs else SqL X.K H a xs) (hsy : if t = true then SqT X.K H b ys else SqL X.K H b ys) (l1 : ds.length = xs.length) (l2 : es.length = ys.length)
    (ih : ∀ (j : Nat) (u v : Value) (us vs : List Value), Vals xs us → Vals ys vs → us[j]? = some u → vs[j]? = some v → SeqAt.EqAt A.in1 s u v (eqDv (ds.getD j (.leaf .non)) (es.getD j (.leaf .non)))) :
    SeqAt.RcNeAt A s (.ref a) (.ref b) (!eqDvL ds es) := by
  rw [eqDvL_eq]
  cases t with
  | false =>
    obtain ⟨its, rv, pl, _⟩ := I.list (show SqL X.K H a xs by simpa using hsx)
    obtain ⟨its2, rv2, pl2, _⟩ := I.list (show SqL X.K H b ys by simpa using hsy)
    have n1 := rv.length
    have n2 := rv2.length
    by_cases hl : ds.length = es.length
    · have q := SeqAt.RcNeAt.lists (e := fun j => eqDv (ds.getD j (.leaf .non)) (es.getD j (.leaf .non))) pl.isList pl2.isList (by simp; omega) (by omega : A.units < cLine) (fun j h1 h2 => by
        have h1 : j < its.length := by simpa using h1
        have h2 : j < its2.length := by simpa using h2
        have e := ih j (its[j]) (its2[j]) its its2 rv rv2 (by simp [h1]) (by simp [h2])
        simpa using e)
      rw [decide_eq_true hl, Bool.true_and]
      have em : min ds.length es.length = its.toArray.size := by simp; omega
      rw [em]
      exact q
    · have q := SeqAt.RcNeAt.lists_lengths (A := A) pl.isList pl2.isList (by simp; omega) (by omega : A.units < cLine)
      rw [decide_eq_false hl, Bool.false_and]
      exact q
  | true =>
    obtain ⟨its, rv, pl, _⟩ := I.tuple (show SqT X.K H a xs by simpa using hsx)
    obtain ⟨its2, rv2, pl2, _⟩ := I.tuple (show SqT X.K H b ys by simpa using hsy)
    have n1 := rv.length
    have n2 := rv2.length
    have q := SeqAt.RcNeAt.tuples (e := fun j => eqDv (ds.getD j (.leaf .non)) (es.getD j (.leaf .non))) (show s.heap.IsTuple a its.toArray from pl) (show s.heap.IsTuple b its2.toArray from pl2) (by omega : A.units < cLine) (fun j h1 h2 => by
        have h1 : j < its.length := by simpa using h1
        have h2 : j < its2.length := by simpa using h2
        have e := ih j (its[j]) (its2[j]) its its2 rv rv2 (by simp [h1]) (by simp [h2])
        simpa using e)
    have em : min its.toArray.size its2.toArray.size = min ds.length es.length := by simp; omega
    have eb : (its.toArray.size == its2.toArray.size) = decide (ds.length = es.length) := by
      rw [Bool.eq_iff_iff]; simp; omega
    rw [em, eb, Bool.and_comm] at q
    exact q
theorem op_neD {X : Cx} {n : Nat} (hu : X.A.units + n + 2 < cLine) : OpR X (compareOp .NotEq) (rNeD X.K n) := by
  intro pins s σ H x y v u Q I rx ry h
  obtain ⟨t, ds, es, hx, hy, ha, hd, q⟩ := h
  unfold Sees at hx hy
  obtain ⟨a, xs, rfl, hsx, hL⟩ := hx
  obtain ⟨b, ys, rfl, hsy, hM⟩ := hy
  cases rx
  cases ry
  exact rcNe_deep I (by omega) hsx hsy hL.length hM.length (eqAt_deepL I ds es X.A.in1 xs ys (by show X.A.units + 1 + deepL ds < cLine; omega) ha hL hM) X.prog X.w X.xe _ ⟨.bl _, H, I, rfl, q⟩
end L2
namespace L2
open PySem PySem.Spec PyProof.Rows
def compChk (sc : Scope) (env : Env) (x : Str) (fs : List Str) : Bool :=
  sc.kind == .function && sc.names.all (fun y => y.2 != .cell && (y.2 != .local || sc.names.lookup y.1 == some .local) && (y.2 != .free || env.kindOf y.1 == some .cell || env.kindOf y.1 == some .free)) &&
    sc.names.lookup x == some .local && fs.all (fun f => sc.names.lookup f == some .free)
structure CompSc (sc : Scope) (env : Env) (x : Str) (fs : List Str) : Prop where
  kind : sc.kind = .function
  nocell : ∀ y ∈ sc.names, y.2 ≠ .cell
  own : ∀ y ∈ sc.names, y.2 = .local → sc.names.lookup y.1 = some .local
  fr : ∀ y ∈ sc.names, y.2 = .free → env.kindOf y.1 = some .cell ∨ env.kindOf y.1 = some .free
  x : sc.names.lookup x = some .local
  fs : ∀ f ∈ fs, sc.names.lookup f = some .free
theorem CompSc.of {sc : Scope} {env : Env} {x : Str} {fs : List Str} (h : compChk sc env x fs = true) : CompSc sc env x fs := by
  unfold compChk at h
  simp only [Bool.and_eq_true, beq_iff_eq, List.all_eq_true, Bool.or_eq_true, bne_iff_ne, ne_eq] at h
  obtain ⟨⟨⟨h1, h2⟩, h3⟩, h4⟩ := h
  refine ⟨h1, fun y hy => (h2 y hy).1.1, fun y hy e => ?_, fun y hy e => ?_, h3, h4⟩
  · rcases (h2 y hy).1.2 with z | z
    · exact absurd e z
    · exact z
  · rcases (h2 y hy).2 with (z | z) | z
    · exact absurd e z
    · exact .inl z
    · exact .inr z
theorem closure_ex {env : Env} : ∀ (names : List (Str × NameKind)) (acc : List (Str × Addr)), (∀ n, (n, NameKind.free) ∈ names → ∃ c, env.cells.lookup n = some c) →
    ∃ cl, (forIn names acc fun y r => (do if (y.2 == NameKind.free) = true then do let c ← cellOf env y.1; pure (ForInStep.yield ((y.1, c) :: r)) else pure (ForInStep.yield r) : Sem (ForInStep (List (Str × Addr))))) = pure cl ∧
      (∀ n c, cl.lookup n = some c → acc.lookup n = some c ∨ env.cells.lookup n = some c) ∧ ∀ n, (∃ c, acc.lookup n = some c) ∨ (n, NameKind.free) ∈ names → ∃ c, cl.lookup n = some c
  | [], acc, _ => ⟨acc, rfl, fun _ _ e => .inl e, fun n h => h.elim id fun z => nomatch z⟩
  | (n, k) :: r, acc, h => by
    have hr : ∀ m, (m, NameKind.free) ∈ r → ∃ c, env.cells.lookup m = some c := fun m hm => h m (List.mem_cons_of_mem _ hm)
    by_cases hk : k = .free
    · subst hk
      obtain ⟨c, hc⟩ := h n List.mem_cons_self
      obtain ⟨cl, e, h1, h2⟩ := closure_ex r ((n, c) :: acc) hr
      refine ⟨cl, ?_, fun m c' hm => ?_, fun m hm => h2 m ?_⟩
      · rw [List.forIn_cons]
        simp only [beq_self_eq_true, if_true, cellOf, hc, pure_bind]
        exact e
      · rcases h1 m c' hm with z | z
        · rw [List.lookup_cons] at z
          cases q : m == n with
          | true =>
            rw [q] at z
            cases z
            rw [beq_iff_eq.mp q]
            exact .inr hc
          | false => rw [q] at z; exact .inl z
        · exact .inr z
      · rw [List.lookup_cons]
        rcases hm with ⟨c', z⟩ | hm
        · cases q : m == n with
          | true => exact .inl ⟨c, rfl⟩
          | false => exact .inl ⟨c', z⟩
        · rcases List.mem_cons.mp hm with z | z
          · cases z
            rw [beq_self_eq_true]
            exact .inl ⟨c, rfl⟩
          · exact .inr z
    · obtain ⟨cl, e, h1, h2⟩ := closure_ex r acc hr
      refine ⟨cl, ?_, h1, fun m hm => h2 m ?_⟩
      · rw [List.forIn_cons]
        have hb : (k == NameKind.free) = false := by simpa using hk
        simp only [hb, Bool.false_eq_true, if_false, pure_bind]
        exact e
      · rcases hm with z | hm
        · exact .inl z
        · rcases List.mem_cons.mp hm with z | z
          · cases z; exact absurd rfl hk
          · exact .inr z
theorem closure_of {env : Env} {sc : Scope} (h : ∀ n, (n, NameKind.free) ∈ sc.names → ∃ c, env.cells.lookup n = some c) :
    ∃ cl, closureFor sc env = pure cl ∧ (∀ n c, cl.lookup n = some c → env.cells.lookup n = some c) ∧ ∀ n, (n, NameKind.free) ∈ sc.names → ∃ c, cl.lookup n = some c := by
  obtain ⟨cl, e, h1, h2⟩ := closure_ex sc.names [] h
  refine ⟨cl, ?_, fun n c z => (h1 n c z).elim (fun q => nomatch q) id, fun n hn => h2 n (.inr hn)⟩
  unfold closureFor
  simp only [bind_pure]
  exact e
theorem relabel_kind {env : Env} : ∀ {names : List (Str × NameKind)} {x : Str} {k : NameKind}, (names.map fun (n, k) => if (k == NameKind.free && env.scope.kind == .function && env.kindOf n == some .cell) then (n, NameKind.cell) else (n, k)).lookup x = some k →
    k = .cell ∨ k = .free → names.lookup x = some .free ∨ names.lookup x = some .cell
  | [], _, _, h, _ => by simp at h
  | (n, k0) :: r, x, k, h, hk => by
    have ih := @relabel_kind env r x k
    have h : List.lookup x ((if (k0 == NameKind.free && env.scope.kind == .function && env.kindOf n == some .cell) = true then (n, NameKind.cell) else (n, k0)) :: (r.map fun (n, k) => if (k == NameKind.free && env.scope.kind == .function && env.kindOf n == some .cell) then (n, NameKind.cell) else (n, k))) = some k := h
    by_cases hc : (k0 == NameKind.free && env.scope.kind == .function && env.kindOf n == some .cell) = true
    · rw [if_pos hc] at h
      simp only [List.lookup_cons] at h ⊢
      cases hx : x == n with
      | true =>
        simp only [Bool.and_eq_true, beq_iff_eq] at hc
        rw [hc.1.1]
        exact .inl rfl
      | false => rw [hx] at h; exact ih h hk
    · rw [if_neg hc] at h
      simp only [List.lookup_cons] at h ⊢
      cases hx : x == n with
      | true =>
        rw [hx] at h
        cases h
        rcases hk with rfl | rfl
        · exact .inr rfl
        · exact .inl rfl
      | false => rw [hx] at h; exact ih h hk
theorem relabel_free {env : Env} : ∀ {names : List (Str × NameKind)} {x : Str}, names.lookup x = some .free →
    (names.map fun (n, k) => if (k == NameKind.free && env.scope.kind == .function && env.kindOf n == some .cell) then (n, NameKind.cell) else (n, k)).lookup x = some .cell ∨ (names.map fun (n, k) => if (k == NameKind.free && env.scope.kind == .function && env.kindOf n == some .cell) then (n, NameKind.cell) else (n, k)).lookup x = some .free
  | [], _, h => by simp at h
  | (n, k0) :: r, x, h => by
    have ih := @relabel_free env r x
    show List.lookup x ((if (k0 == NameKind.free && env.scope.kind == .function && env.kindOf n == some .cell) = true then (n, NameKind.cell) else (n, k0)) :: _) = _ ∨ List.lookup x ((if (k0 == NameKind.free && env.scope.kind == .function && env.kindOf n == some .cell) = true then (n, NameKind.cell) else (n, k0)) :: _) = _
    simp only [List.lookup_cons] at h
    by_cases hc : (k0 == NameKind.free && env.scope.kind == .function && env.kindOf n == some .cell) = true
    · rw [if_pos hc]
      simp only [List.lookup_cons]
      cases hx : x == n with
      | true => exact .inl rfl
      | false => rw [hx] at h; exact ih h
    · rw [if_neg hc]
      simp only [List.lookup_cons]
      cases hx : x == n with
      | true => rw [hx] at h; exact .inr h
      | false => rw [hx] at h; exact ih h
def cxComp (X : Cx) (scope : Scope) (cl : List (Str × Addr)) (C : Addr) (N : List Str) (s₀ : Shared) (H₀ : Hp) (fp : List Addr) (xe : Value → Shared → Prop) : Cx :=
  { X with N := N, s₀ := s₀, H₀ := H₀, env := compEnvC scope cl C X.env, outer := X.stack, stack := X.stack, ex := fp, fn := fun _ => false, pn := [], xe := xe }
theorem xw_no {X : Cx} : XW X (fun _ _ _ => False) := fun _ _ _ _ _ _ _ _ _ _ _ _ _ _ _ h => h.elim
inductive HidC (g : TG) (tt : TT) (te : TE) : Type where
  | mk : HidC g tt te
def PF (X : Cx) (ifs : List Expr) (tt : TT) : Prop :=
  ∀ (pins : List (Addr × Obj)) (s : Shared) (σ : St) (H : Hp) (Q : Bool → Hp → Prop), Inv X pins σ H s → tt σ H Q →
    wpAny (model X.prog X.w) X.A (forIn ifs true fun c r => if r = true then do let ok ← isTrue c X.env (eval c X.env); pure (ForInStep.yield ok) else pure (ForInStep.yield r)) (TP X pins σ Q) X.xe s
def tYes : TT := fun _ H Q => Q true H
theorem pf_nil {X : Cx} : PF X [] tYes := fun _ _ _ H _ I h => by
  simp only [List.forIn_nil]
  exact wpAny_pure ⟨H, I, h⟩
def Comp (g : TG) (tt : TT) (te : TE) (_ : HidC g tt te) (J : It) (σ0 : St) (D : Addr) (Q : Hp → Prop) (H : Hp) : Prop :=
  ∃ W : Nat → Nat → List V → St → Hp → Prop, (∃ m, W 0 m [] σ0 (upd H D (.lst []))) ∧ ∀ i m ys σ H, W i m ys σ H →
    (J.stop i H ∧ Q H) ∨ (J.go i H ∧ ∃ N : List V → St → Hp → Prop, (∀ ys σ H, N ys σ H → ∃ m', m' < m ∧ W (i + 1) m' ys σ H) ∧
      ∀ y H', J.yld i H y H' → g y σ H' fun σ2 H2 => tt σ2 H2 fun b H2' => if b = true then te σ2 H2' fun v H3 => H3 D = some (.lst ys) ∧ ys.length < sizeLine ∧ N (ys ++ [v]) σ2 (upd H3 D (.lst (ys ++ [v]))) else N ys σ2 H2')
def tComp (wi : TI) (ix : List Nat) (g : TG) (tt : TT) (te : TE) (h : HidC g tt te) : TE := fun σ H Q => wi σ H fun J H1 => ∀ D, H1 D = none → Comp g tt te h J (none :: ix.map fun i => (σ[i]?).join) D (fun H' => Q (.ref D) H') H1
theorem compLoop_turn {prog : Program} {w : World} {A : Around} {R : Result → Shared → Prop} {s : Shared} {elt target iter : Expr} {ifs : List Expr} {scope : Scope} {pos : Pos} {it acc : Value} {env : Env} (I : Nat → Shared → Prop)
    (turn : ∀ n s, I n s → wpAny (model prog w) A (pyNext it) (fun r s₁ => match r with
      | none => R (.ok .next) s₁
      | some v => wpAny (model prog w) A (letOwnedTupleGo target it v) (fun _ s₁' => wpAny (model prog w) A (assign target env v) (fun _ s₂ =>
          wpAny (model prog w) A (forIn ifs true fun c r => if r = true then do let ok ← isTrue c env (eval c env); pure (ForInStep.yield ok) else pure (ForInStep.yield r)) (fun ok s₃ =>
            if ok = true then wpAny (model prog w) A (eval elt env) (fun x s₄ =>
              wpAny (model prog w) A (call (.builtin "list.append") [acc, x]) (fun _ s₅ => ∃ m, m < n ∧ I m s₅) (notedBy (model prog w) A env fun e s' => R (.error e) s') s₄) (notedBy (model prog w) A env fun e s' => R (.error e) s') s₃
            else ∃ m, m < n ∧ I m s₃) (notedBy (model prog w) A env fun e s' => R (.error e) s') s₂) (notedBy (model prog w) A env fun e s' => R (.error e) s') s₁') (notedBy (model prog w) A env fun e s' => R (.error e) s') s₁) (notedBy (model prog w) A env fun e s' => R (.error e) s') s)
    (n : Nat) (h : I n s) : codeAny (model prog w) A (.compLoop (.ListComp elt [⟨target, iter, ifs, 0⟩] scope pos) 0 it acc env) R s := by
  refine codeAny_loop rfl I (fun n s hI => ?_) n h
  show wpAny _ _ ((compTurn (.ListComp elt [⟨target, iter, ifs, 0⟩] scope pos) 0 it acc env).onRaise (fun x => do noteFrame x env; theTreesLotGoes x)) _ _ s
  refine wpAny_noted ?_
  rw [compTurn_list]
  refine wpAny_bind (wpAny_standAt (wpAny_bind (wpAny_mono (turn n s hI) (fun r s₁ h₁ => ?_) fun _ _ h' => h')))
  cases r with
  | none => exact wpAny_pure h₁
  | some v =>
    refine wpAny_bind (wpAny_mono h₁ (fun _ s₁' h₁' => ?_) fun _ _ h' => h')
    refine wpAny_bind (wpAny_mono h₁' (fun _ s₂ h₂ => wpAny_bind (wpAny_mono h₂ (fun ok s₃ h₃ => ?_) fun _ _ h' => h')) fun _ _ h' => h')
    cases ok with
    | false => exact wpAny_pure ⟨rfl, h₃⟩
    | true =>
      exact wpAny_bind (wpAny_bind (wpAny_mono h₃ (fun x s₄ h₄ => wpAny_bind (wpAny_mono h₄ (fun _ s₅ h₅ => wpAny_pure (wpAny_pure ⟨rfl, h₅⟩)) fun _ _ h' => h')) fun _ _ h' => h'))
section
variable {X : Cx}
theorem comp_block {pins : List (Addr × Obj)} {σ : St} {H2 : Hp} {s2 : Shared} {it : Addr} {fp : List Addr} {tn : Nat → Heap → Prop} {J : It} {tg iter elt : Expr} {ifs : List Expr} {scope : Scope} {cl : List (Str × Addr)} {pos : Pos} {x : Str} {fs : List Str} {ix : List Nat} {g : TG} {tt : TT} {te : TE}
    {Qf : Addr → Hp → Prop} {E : Value → Shared → Prop} {RR : Value → Addr → Result → Shared → Prop}
    (I2 : Inv X pins σ H2 s2) (T : Turn X.prog X.w X.K tg J fp it tn) (st2 : tn 0 s2.heap) (f2 : ∀ b ∈ fp, FpOk X pins H2 b) (hc : X.calm = true) (S : CompSc scope X.env x fs)
    (c1 : ∀ n c, cl.lookup n = some c → X.env.cells.lookup n = some c) (c2 : ∀ n, (n, NameKind.free) ∈ scope.names → ∃ c, cl.lookup n = some c) (hix : ix.map (X.N[·]?) = fs.map some)
    (hg : ∀ C s₀ H₀ xe, PG (cxComp X scope cl C (x :: fs) s₀ H₀ fp xe) tg g) (hf : ∀ C s₀ H₀ xe, PF (cxComp X scope cl C (x :: fs) s₀ H₀ fp xe) ifs tt) (he : ∀ C s₀ H₀ xe, PE (cxComp X scope cl C (x :: fs) s₀ H₀ fp xe) elt te)
    (h : ∀ D, H2 D = none → Comp g tt te .mk J (none :: ix.map fun i => (σ[i]?).join) D (Qf D) H2)
    (fin : ∀ D C H' s', Inv X pins σ H' s' → Qf D H' → (∃ m, s'.heap.Ns C m) → FpOk X pins H' C → RR (.ref D) C (.ok .next) s') :
    wpAny (model X.prog X.w) X.A (newList []) (fun acc s₃ => wpAny (model X.prog X.w) X.A (newFunctionEnv scope X.env.globals cl [] X.env.qual none .none (some X.env)) (fun cenv s₄ =>
      codeAny (model X.prog X.w) X.A (.compStart (.ListComp elt [⟨tg, iter, ifs, 0⟩] scope pos) 0 (.ref it) acc { cenv with scope := relabel scope X.env }) (RR acc cenv.locals) s₄) E s₃) E s2 := by
  have hD : H2 s2.heap.objs.size = none := I2.hok.fresh (Nat.le_refl _)
  obtain ⟨W, ⟨m0, w0⟩, turn⟩ := h _ hD
  refine wpAny_newObj_type (wpAny_newFunctionEnv S.nocell (by intro y hy; simp at hy) (fun h₁ hns₁ hsb₁ => ?_) S.kind)
  have I3 : Inv X pins σ (upd H2 s2.heap.objs.size (.lst [])) { s2 with heap := s2.heap.push { cls := .type "list", dict := none, data := .seq ([] : List Value).toArray } } :=
    I2.laid (t' := s2.toks) (fun b u e => Heap.get?_push_of_some _ e) (Nat.le_refl _) ⟨by decide, [], 0, .nil, Heap.get?_push_size _ rfl⟩
  obtain ⟨e3, he3⟩ : ∃ s3 : Shared, s3 = { s2 with heap := s2.heap.push { cls := .type "list", dict := none, data := .seq ([] : List Value).toArray } } := ⟨_, rfl⟩
  rw [← he3] at I3
  have hh3 : s2.heap.push { cls := .type "list", dict := none, data := .seq ([] : List Value).toArray } = e3.heap := by rw [he3]
  have sz3 : e3.heap.objs.size = s2.heap.objs.size + 1 := by rw [← hh3, Heap.size_push]
  dsimp only at hns₁ hsb₁ ⊢
  rw [hh3] at hns₁ hsb₁ ⊢
  generalize hH3 : upd H2 s2.heap.objs.size (.lst []) = H3 at *
  have live : ∀ b ∈ fp, b < s2.heap.objs.size := fun b hb => let ⟨_, e, _⟩ := T.obj _ _ st2 b hb; Heap.lt_size e
  have f3 : ∀ b ∈ fp, FpOk X pins H3 b := fun b hb => by
    refine ⟨?_, (f2 b hb).2⟩
    rw [← hH3, upd_ne (Nat.ne_of_lt (live b hb))]
    exact (f2 b hb).1
  have C0 : FpOk X pins H3 e3.heap.objs.size := I3.fpOk (Nat.le_refl _) (I3.hok.fresh (Nat.le_refl _))
  have old3 : ∀ b o, e3.heap.get? b = some o → h₁.get? b = some o := fun b o e => hsb₁.extBut b o (Nat.ne_of_lt (Heap.lt_size e)) (Heap.get?_push_of_some _ e)
  have nofs : ∀ b ∈ fp, b ∉ frs X.stack := fun b hb z => (List.mem_cons.mp (I3.stkSub b z)).elim (f3 b hb).2.1 (f3 b hb).2.2.1
  have hst1 : tn 0 h₁ := T.keep _ _ _ st2 fun b _ o e => old3 b o (by rw [← hh3]; exact Heap.get?_push_of_some _ e)
  have e0 := I3.env0
  have ok : ∀ xe, (cxComp X scope cl e3.heap.objs.size (x :: fs) e3 H3 fp xe).Ok := fun xe => by
    refine ⟨I3.ok.mod, S.kind, I3.ok.glob, I3.ok.blt, Nat.le_refl _, fun y z c h1 h2 => I3.ok.inj y z c (c1 _ _ h1) (c1 _ _ h2), fun y hy => ?_, fun y c z => ?_, I3.ok.hd, I3.ok.frames, .inl rfl, fun b hb => ⟨?_, fun y c e => (f3 b hb).2.2.2.2.1 y c (c1 _ _ e)⟩, e0.bs, e0.bsz, fun b o e hb => ?_, nofs, e0.funs, e0.frf⟩
    · have q : scope.names.lookup y = some .free ∨ scope.names.lookup y = some .cell := by
        rcases hy with hy | hy
        · exact relabel_kind hy (.inl rfl)
        · exact relabel_kind hy (.inr rfl)
      rcases q with q | q
      · exact c2 y (PySem.mem_of_lookup q)
      · exact absurd rfl (S.nocell _ (PySem.mem_of_lookup q))
    · cases z
    · exact Nat.ne_of_lt (Nat.lt_of_lt_of_le (live b hb) (by rw [sz3]; exact Nat.le_succ _))
    · rcases (f3 b hb).2.2.2.1 with z | z
      · exact I3.ok.noex b o e z
      · exact absurd (Nat.lt_of_lt_of_le (Heap.lt_size e) (Nat.le_trans I3.ok.bsz z)) (Nat.lt_irrefl _)
  have cellUp : ∀ c v, e3.heap.IsCell c v → h₁.IsCell c v := fun c v ⟨o, ho, hd⟩ => ⟨o, old3 _ _ ho, hd⟩
  have J0 : ∀ xe, Inv (cxComp X scope cl e3.heap.objs.size (x :: fs) e3 H3 fp xe) [] (none :: ix.map fun i => (σ[i]?).join) H3 { e3 with heap := h₁, toks := e3.toks + ([] : List (Str × Value)).length } := fun xe => by
    have hk : ∀ b o, e3.heap.get? b = some o → h₁.get? b = some o := old3
    refine ⟨ok xe, rfl, I3.bare, Un.kept hk, ⟨_, hns₁, fun i y v h1 h2 h3 => ?_⟩, fun y c e => ?_, I3.hok.fresh (Nat.le_refl _), fun y c e => I3.freeC y c (c1 _ _ e), fun p hp => absurd (show p ∈ ([] : List (Addr × Obj)) from hp) (by simp), I3.hok.kept hk, ?_⟩
    · cases i with
      | zero => cases h2
      | succ i =>
        have h1 : fs[i]? = some y := h1
        have h2 : (ix.map fun i => (σ[i]?).join)[i]? = some (some v) := h2
        have hy := S.fs y (List.mem_of_getElem? h1)
        rw [List.getElem?_map] at h2
        cases ej : ix[i]? with
        | none => rw [ej] at h2; cases h2
        | some j =>
          rw [ej] at h2
          have h2 : (σ[j]?).join = some v := Option.some.inj h2
          have hσ : σ[j]? = some (some v) := by
            cases q : σ[j]? with
            | none => rw [q] at h2; cases h2
            | some o => rw [q] at h2; cases o with
              | none => cases h2
              | some o => cases h2; rfl
          have hN : X.N[j]? = some y := by
            have z := congrArg (·[i]?) hix
            simp only [List.getElem?_map, ej, h1, Option.map_some] at z
            exact Option.some.inj z
          have kf := S.fr _ (PySem.mem_of_lookup hy) rfl
          obtain ⟨m, hn, hl⟩ := I3.loc
          obtain ⟨u, r, l⟩ := hl j y v hN hσ (by rcases kf with k | k; exact .inr (.inl k); exact .inr (.inr k))
          refine ⟨u, r, .inr ⟨relabel_free hy, ?_⟩⟩
          rcases l with ⟨l, _⟩ | ⟨_, c, e, z⟩
          · rcases kf with k | k <;> (rw [l] at k; cases k)
          · obtain ⟨c', e'⟩ := c2 y (PySem.mem_of_lookup hy)
            have q := c1 _ _ e'
            rw [e] at q; cases q
            exact ⟨c, e', cellUp _ _ z⟩
    · obtain ⟨v, z⟩ := I3.cell y c (c1 _ _ e)
      exact ⟨v, cellUp _ _ z⟩
    · have z := congrArg List.length hix
      simp only [List.length_map] at z
      show (none :: _ : St).length = (x :: fs).length
      simp only [List.length_cons, List.length_map, z]
  have back : ∀ {xe σ' H' s'}, Inv (cxComp X scope cl e3.heap.objs.size (x :: fs) e3 H3 fp xe) [] σ' H' s' → Inv X pins σ H' s' := fun {xe σ' H' s'} J =>
    I3.call' (s' := s') (ch := fp) J.os J.base J.hok J.bare fun b hb => ⟨(f3 b hb).2.2.2.1, (f3 b hb).2.1, (f3 b hb).2.2.2.2.1, (f3 b hb).2.2.2.2.2⟩
  have stat : ∀ {xe} {H' : Hp}, (∀ b ∈ fp, H' b = none) → ∀ b ∈ fp, FpOk (cxComp X scope cl e3.heap.objs.size (x :: fs) e3 H3 fp xe) [] H' b := fun {xe H'} hn b hb =>
    ⟨hn b hb, Nat.ne_of_lt (Nat.lt_of_lt_of_le (live b hb) (by rw [sz3]; exact Nat.le_succ _)), nofs b hb, .inl hb, fun y c e => (f3 b hb).2.2.2.2.1 y c (c1 _ _ e), fun p hp => absurd (show p ∈ ([] : List (Addr × Obj)) from hp) (by simp)⟩
  have loop : ∀ s4 : Shared, s4 = { e3 with heap := h₁, toks := e3.toks + ([] : List (Str × Value)).length } →
      codeAny (model X.prog X.w) X.A (.compLoop (.ListComp elt [⟨tg, iter, ifs, 0⟩] scope pos) 0 (.ref it) (.ref s2.heap.objs.size) (compEnvC scope cl e3.heap.objs.size X.env)) (RR (.ref s2.heap.objs.size) e3.heap.objs.size) s4 := by
    rintro s4 rfl
    let xe := notedBy (model X.prog X.w) X.A (compEnvC scope cl e3.heap.objs.size X.env) fun e s' => RR (.ref s2.heap.objs.size) e3.heap.objs.size (.error e) s'
    refine compLoop_turn (fun n s' => ∃ i ys σ' H', Inv (cxComp X scope cl e3.heap.objs.size (x :: fs) e3 H3 fp xe) [] σ' H' s' ∧ tn i s'.heap ∧ (∀ b ∈ fp, H' b = none) ∧ W i n ys σ' H') ?_ m0 ⟨0, [], _, _, J0 xe, hst1, fun b hb => (f3 b hb).1, w0⟩
    rintro n s5 ⟨i, ys, σ5, H5, J5, st5, fr5, w5⟩
    rcases turn i n ys σ5 H5 w5 with ⟨stop, qn⟩ | ⟨go, N, hN, step⟩
    · refine thn (T.done (cxComp X scope cl e3.heap.objs.size (x :: fs) e3 H3 fp xe) rfl rfl rfl hc i [] s5 σ5 H5 xe J5 (stat fr5) st5 stop) fun r s6 ⟨hr, J6⟩ => ?_
      subst hr
      obtain ⟨m, hn, _⟩ := J6.loc
      exact fin _ _ H5 s6 (back J6) qn ⟨m, hn⟩ ⟨J6.free, C0.2⟩
    · refine thn (T.item (cxComp X scope cl e3.heap.objs.size (x :: fs) e3 H3 fp xe) rfl rfl rfl hc i [] s5 σ5 H5 xe J5 (stat fr5) st5 go) fun r s6 ⟨u, hr, h6⟩ => ?_
      subst hr
      refine thn h6 fun _ s7 ⟨y, H7, J7, r7, y7, st7, fr7⟩ => ?_
      have J7' := J7.pinned (stat fr7) (T.obj _ _ st7)
      refine thn (hg _ _ _ xe _ s7 σ5 H7 y u _ J7' r7 (step y H7 y7)) fun _ s8 ⟨σ8, H8, J8, q8⟩ => ?_
      refine thn (hf _ _ _ xe _ s8 σ8 H8 _ J8 q8) fun ok s8' ⟨H8', J8', q8'⟩ => ?_
      cases ok with
      | false =>
        obtain ⟨m', hm', w9⟩ := hN _ _ _ (by simpa using q8')
        refine ⟨m', hm', i + 1, ys, σ8, _, J8'.unpinned, T.keep _ _ _ st7 fun b hb o e => (J8'.pin (b, o) (List.mem_append_right _ (List.mem_append_right _ (mem_pinsAt hb e)))).1, fun b hb => ?_, w9⟩
        obtain ⟨o, e, d⟩ := T.obj _ _ st7 b hb
        exact (J8'.pin (b, o) (List.mem_append_right _ (List.mem_append_right _ (mem_pinsAt hb e)))).2.1
      | true =>
      rw [if_pos rfl] at q8' ⊢
      refine thn (he _ _ _ xe _ s8' σ8 H8' _ J8' q8') fun uv s9 ⟨v, H9, J9, r9, hD9, hl9, n9⟩ => ?_
      obtain ⟨m', hm', w9⟩ := hN _ _ _ n9
      refine thn (mt_append (X := cxComp X scope cl e3.heap.objs.size (x :: fs) e3 H3 fp xe) _ s9 σ8 H9 (.ref s2.heap.objs.size) [v] _ [uv] (fun _ H' => H' = upd H9 s2.heap.objs.size (.lst (ys ++ [v]))) J9 rfl (.cons r9 .nil) ⟨_, ys, v, rfl, rfl, hD9, hl9, rfl⟩) fun _ s10 ⟨_, H10, J10, _, eH⟩ => ?_
      subst eH
      refine ⟨m', hm', i + 1, ys ++ [v], σ8, _, J10.unpinned, T.keep _ _ _ st7 fun b hb o e => (J10.pin (b, o) (List.mem_append_right _ (List.mem_append_right _ (mem_pinsAt hb e)))).1, fun b hb => ?_, w9⟩
      obtain ⟨o, e, d⟩ := T.obj _ _ st7 b hb
      exact (J10.pin (b, o) (List.mem_append_right _ (List.mem_append_right _ (mem_pinsAt hb e)))).2.1
  subst he3
  exact codeAny_compStart_list (loop _ rfl) (T.self X.A 0 _ _ _ hst1 (loop _ rfl))
theorem CompSc.clos {pins : List (Addr × Obj)} {σ : St} {H : Hp} {s : Shared} {scope : Scope} {x : Str} {fs : List Str} (S : CompSc scope X.env x fs) (I : Inv X pins σ H s) :
    ∃ cl, closureFor scope X.env = pure cl ∧ (∀ n c, cl.lookup n = some c → X.env.cells.lookup n = some c) ∧ ∀ n, (n, NameKind.free) ∈ scope.names → ∃ c, cl.lookup n = some c :=
  closure_of fun n hn => I.ok.has n (S.fr _ hn rfl)
theorem pe_comp {tg iter elt : Expr} {ifs : List Expr} {scope : Scope} {pos : Pos} {x : Str} {fs : List Str} {ix : List Nat} {wi : TI} {g : TG} {tt : TT} {te : TE} (hc : X.calm = true) (hi : PI X tg iter wi) (hk : compChk scope X.env x fs = true) (hix : ix.map (X.N[·]?) = fs.map some)
    (hg : ∀ cl C s₀ H₀ fp xe, PG (cxComp X scope cl C (x :: fs) s₀ H₀ fp xe) tg g) (hf : ∀ cl C s₀ H₀ fp xe, PF (cxComp X scope cl C (x :: fs) s₀ H₀ fp xe) ifs tt) (he : ∀ cl C s₀ H₀ fp xe, PE (cxComp X scope cl C (x :: fs) s₀ H₀ fp xe) elt te) (hs : ∀ x, foldedSetIterable iter X.env x = pure x := by intro _; rfl) :
    PE X (.ListComp elt [⟨tg, iter, ifs, 0⟩] scope pos) (tComp wi ix g tt te .mk) := by
  intro pins s σ H Q I h
  have S := CompSc.of hk
  obtain ⟨cl, hcl, c1, c2⟩ := S.clos I
  rw [eval_ListComp]
  refine wpAny_comprehension_free (use := none) rfl hs hcl S.kind S.own (thn (hi pins s σ H _ I h) fun v s1 h1 => thn h1 fun itv s2 h2 => ?_)
  obtain ⟨it, fp, tn, J, H2, e, I2, T, st2, f2, q⟩ := h2
  subst e
  refine comp_block (RR := fun acc C => compPost (model X.prog X.w) X.A X.xe none (EP X pins σ Q) acc C) I2 T st2 f2 hc S c1 c2 hix (fun C s₀ H₀ xe => hg cl C s₀ H₀ fp xe) (fun C s₀ H₀ xe => hf cl C s₀ H₀ fp xe) (fun C s₀ H₀ xe => he cl C s₀ H₀ fp xe) q fun D C H' s' I' q' ⟨m, hn⟩ ⟨f0, f1, _, f3, f4, f5⟩ => ?_
  exact ⟨m, hn, fun h' hs' => ⟨.ref D, H', I'.turned (t' := s'.toks) (fun b o hb e => (hs'.2 b hb).trans e) f0 f1 f3 f4 f5, rfl, q'⟩⟩
end
end L2
namespace L2
open PySem PySem.Spec PyProof.Rows
section
variable {X : Cx} {pins : List (Addr × Obj)} {σ : List (Option V)} {H H' : Hp} {s : Shared} {h' : Heap}
theorem Inv.turnedL {t' : Nat} {ch : List Addr} (I : Inv X pins σ H s) (k : ∀ b o, b ∉ ch → s.heap.get? b = some o → h'.get? b = some o) (hf : ∀ b ∈ ch, FpOk X pins H b) : Inv X pins σ H { s with heap := h', toks := t' } := by
  have nit : ∀ b u, H b = some u → b ∉ ch := fun b u e z => by rw [(hf b z).1] at e; cases e
  refine I.step (g' := s.gens) (d' := s.drawn) (ch := ch) (fun b hb => ⟨(hf b hb).2.2.2.1, (hf b hb).2.1, (hf b hb).2.2.2.2.1, (hf b hb).2.2.2.2.2⟩) (fun b o _ _ hc e _ => k b o hc e) (fun b o _ _ hc e _ => ⟨o.slots, k b o hc e⟩) (fun _ _ _ _ n => n)
    (fun b o hc e => ⟨o, k b o hc e⟩) (fun _ _ e => e) (fun _ _ _ e => e) (fun b ps e => ⟨#[], by rw [e]; simp⟩) (fun m hm => ?_) (fun b u e => ?_) I.bare
  · obtain ⟨o, es, ep, ho, r⟩ := hm
    exact ⟨o, es, ep, k _ o (fun z => (hf _ z).2.1 rfl) ho, r⟩
  · refine (I.hok b u e).stay (fun c v hc q => k c v ?_ q) (fun _ q => q) fun _ _ q => q
    rcases hc with z | z
    · rw [z]; exact nit b u e
    · exact nit c _ z
end
section
variable {X : Cx}
end
end L2
namespace L2
open PySem PySem.Spec PyProof.Rows
section
variable {X : Cx} {pins : List (Addr × Obj)} {σ : St} {H : Hp} {s : Shared} {a : Addr} {kvs : List (Key × V)} {k : Key} {u r : Value} {z : V} {A : Around} {E : Value → Shared → Prop}
end
section
variable {X : Cx} {o e f : Expr} {apos cpos : Pos} {td ty tx : TE}
end
theorem bools_of : ∀ {bs : List Bool} {us : List Value}, Vals (bs.map V.bl) us → LSm.BoolsAre us bs
  | [], _, h => by cases h; exact .nil
  | b :: bs, _, h => by
    cases h with
    | cons r rr =>
      cases r
      exact .cons _ (bools_of rr)
theorem call_all {X : Cx} (hc : X.calm = true) : CallR X (.builtin "all") (fun xs H Q => ∃ (p : Addr) (bs : List Bool), xs = [.ref p] ∧ SqL X.K H p (bs.map V.bl) ∧ Q (.bl (bs.all id)) H) := by
  intro pins s σ H xs us Q I r h
  obtain ⟨p, bs, rfl, hq, q⟩ := h
  obtain ⟨u, rfl, rx⟩ := vals1 r
  cases rx
  obtain ⟨its, r', pl, hz⟩ := I.list hq
  have hb := bools_of r'
  have hl := pl.isList
  have hlt : p < s.heap.objs.size := by obtain ⟨_, e, _⟩ := id hl; exact Heap.lt_size e
  refine call_all_walk (wpAny_pyIter_list hl ?_)
  refine ⟨s.heap.objs.size, [s.heap.objs.size, p], [s.heap.objs.size], its.toArray.size, _, _, fun i => (bs[i]?).getD true, rfl, Walks.list (A := X.A.in1) (I.ok.hd hc) _ p (Nat.ne_of_lt hlt) its.toArray,
    ⟨⟨_, Heap.get?_push_size _ rfl, rfl, rfl⟩, hl.push _⟩, fun i v s' Q' E' hP hQ => ?_, fun h' tk hk => ?_⟩
  · obtain ⟨b, e, rfl⟩ := hb.get i v (by simpa using hP)
    simp only [e, Option.getD_some] at hQ
    exact wpAny_truthy_bool hQ
  · have e : ((List.range its.toArray.size).all fun i => (bs[i]?).getD true) = bs.all id := by
      rw [List.size_toArray, hb.length]; exact LSm.range_all bs
    rw [e]
    exact ⟨.bl (bs.all id), H, I.kept (t' := tk) (LSm.kept_iter hk), rfl, q⟩
inductive HidW (c : TT) (tb : TS) : Type where
  | mk : HidW c tb
inductive HidB (tb : TS) : Type where
  | mk : HidB tb
def LoopW (c : TT) (tb : TS) (_ : HidW c tb) : TS := tWhile c tb
def TurnW (tb : TS) (_ : HidB tb) (Pv : Nat → St → Hp → Prop) (m : Nat) (D : Ends) (σ : St) (H : Hp) : Prop :=
  ∃ N : St → Hp → Prop, (∀ σ' H', N σ' H' → ∃ m', m' < m ∧ Pv m' σ' H') ∧ tb { D with nx := N, ct := N, bk := D.nx } σ H
theorem ps_whileE {X : Cx} {c : Expr} {body : List Stmt} {tc : TT} {tb : TS} {pos : Pos} (hp : PassesOwn (model X.prog X.w) X.A X.env X.xe) (hc : PT X c tc) (hb : PSs X body tb) : PS X (.While c body [] pos) (LoopW tc tb .mk) := ps_while hp hc hb
theorem loop_while {c : TT} {tb : TS} {h : HidW c tb} {D : Ends} {σ : St} {H : Hp} (Pv : Nat → St → Hp → Prop) (m0 : Nat) (h0 : Pv m0 σ H)
    (hs : ∀ m σ H, Pv m σ H → c σ H fun b H1 => if b = true then TurnW tb .mk Pv m D σ H1 else D.nx σ H1) : LoopW c tb h D σ H := ⟨Pv, ⟨m0, h0⟩, hs⟩
theorem turnW {tb : TS} {h : HidB tb} {Pv : Nat → St → Hp → Prop} {m : Nat} {D : Ends} {σ : St} {H : Hp}
    (q : tb { D with nx := fun σ' H' => ∃ m', m' < m ∧ Pv m' σ' H', ct := fun σ' H' => ∃ m', m' < m ∧ Pv m' σ' H', bk := D.nx } σ H) : TurnW tb h Pv m D σ H := ⟨_, fun _ _ h => h, q⟩
end L2
namespace L2
open PySem PySem.Spec PyProof.Rows
section
variable {X : Cx} {pins : List (Addr × Obj)} {σ : List (Option V)} {H : Hp} {s : Shared} {a : Addr}
end
end L2
namespace L2
open PySem PySem.Spec PyProof.Rows
end L2
namespace L2
open PySem PySem.Spec PyProof.Rows
def dFl (xs : List V) : List Dv := xs.map .leaf
theorem seesL_fl {K : PySem.W.Frag} {H : Hp} : ∀ (xs : List V), xs.all flatV = true → SeesL K H (dFl xs) xs
  | [], _ => by unfold dFl SeesL; rfl
  | x :: xs, h => by
    rw [List.all_cons, Bool.and_eq_true] at h
    show SeesL K H (.leaf x :: dFl xs) (x :: xs)
    unfold SeesL
    exact ⟨_, _, rfl, by unfold Sees; exact ⟨rfl, h.1⟩, seesL_fl xs h.2⟩
theorem sees_flT {K : PySem.W.Frag} {H : Hp} {a : Addr} {xs : List V} (h : SqT K H a xs) (hf : xs.all flatV = true) : Sees K H (.seq true (dFl xs)) (.ref a) := by
  unfold Sees
  exact ⟨a, _, rfl, by simpa using h, seesL_fl xs hf⟩
theorem alike_fl : ∀ (xs ys : List V), alikeL (dFl xs) (dFl ys) = true
  | [], _ => by unfold dFl; simp [alikeL]
  | _ :: _, [] => by unfold dFl; simp [alikeL]
  | x :: xs, y :: ys => by
    show alikeL (.leaf x :: dFl xs) (.leaf y :: dFl ys) = true
    rw [alikeL, alike, alike_fl xs ys]; rfl
theorem deep_fl : ∀ (xs : List V), deepL (dFl xs) = 0
  | [] => by unfold dFl; simp [deepL]
  | x :: xs => by
    show deepL (.leaf x :: dFl xs) = 0
    rw [deepL, deep, deep_fl xs]; rfl
theorem eq_fl : ∀ (xs : List V), xs.all flatV = true → eqDvL (dFl xs) (dFl xs) = true
  | [], _ => by unfold dFl; simp [eqDvL]
  | x :: xs, h => by
    rw [List.all_cons, Bool.and_eq_true] at h
    show eqDvL (.leaf x :: dFl xs) (.leaf x :: dFl xs) = true
    rw [eqDvL, eqDv, eq_fl xs h.2, eqV_self h.1]; rfl
end L2
namespace L2
open PySem PySem.Spec PyProof.Rows
end L2
namespace L2
open PySem PySem.Spec PyProof.Rows
end L2
namespace L2
open PySem PySem.Spec PyProof.Rows
structure FunD (K : PySem.W.Frag) (x qual : Str) (st : Stmt) (f : Addr) (fd : FuncData) : Prop where
  ex : ∃ (oc : Value) (od : Option Addr) (dV kV doc pm : Value) (an : Option Addr) (cdv ct : Value) (osl : Array (Option Value)),
    fd = PySem.W.fnOf x qual (defArgs st) (defBody st) (defScope st) dV kV doc pm an cdv ct ∧ K.lookup f = some ⟨oc, od, .func fd, osl⟩ ∧ PySem.W.codeIn K cdv qual = true
  kp : PySem.W.keepIn K (.ref f) = true
section
variable {P : Program} {w : World} {K : PySem.W.Frag} {mg : Str → Option Value} {base : Heap}
theorem FunD.okE {x qual : Str} {st : Stmt} {f : Addr} {fd : FuncData} {N ps : List Str} {k : Nat} {sp : Sp} (F : FunD K x qual st f fd) (S : FnScope N ps (defScope st)) (len : ∀ vs H Q E, sp vs H Q E → vs.length = ps.length)
    (hbody : Body P w K mg base qual st N k sp) : FnOk P w K mg base (CXe P w) (k + 1) f fd ps sp := by
  obtain ⟨oc, od, dV, kV, doc, pm, an, cdv, ct, osl, rfl, lk, hcd⟩ := F.ex
  exact fn_of lk hcd S len fun A outer s H vs Q E hr hsp => hbody f cdv A outer s H vs Q E hr hsp
def RawMD (K : PySem.W.Frag) (C : Addr) (m qual : Str) (st : Stmt) (ps : List Str) (dvs : List V) : Prop := ∃ f fd ds, Meth K C m f ∧ FunD K m qual st f fd ∧ Binds K fd ps ds ∧ Vals dvs ds
def RawID (K : PySem.W.Frag) (mg : Str → Option Value) (x : Str) (C : Addr) (qual : Str) (st : Stmt) (ps : List Str) (dvs : List V) : Prop := ∃ f fd ds, mg x = some (.ref C) ∧ Mk K C f ∧ FunD K "__init__" qual st f fd ∧ Binds K fd ps ds ∧ Vals dvs ds
theorem RawMD.have {C : Addr} {m qual : Str} {st : Stmt} {N ps : List Str} {dvs : List V} {k : Nat} {sp : Sp} (R : RawMD K C m qual st ps dvs) (S : FnScope N ps (defScope st)) (len : ∀ vs H Q E, sp vs H Q E → vs.length = ps.length)
    (hbody : Body P w K mg base qual st N k sp) : HaveM P w K mg base C m (k + 1) ps dvs sp :=
  let ⟨f, fd, ds, hm, F, hb, hd⟩ := R
  ⟨f, fd, ds, hm, hb, hd, F.okE S len hbody⟩
theorem RawID.have {C : Addr} {x qual : Str} {st : Stmt} {N ps : List Str} {dvs : List V} {k : Nat} {sp : Sp} (R : RawID K mg x C qual st ps dvs) (S : FnScope N ps (defScope st)) (len : ∀ vs H Q E, sp vs H Q E → vs.length = ps.length)
    (hbody : Body P w K mg base qual st N k sp) : HaveI P w K mg base x C (k + 1) ps dvs sp :=
  let ⟨f, fd, ds, hm, M, F, hb, hd⟩ := R
  ⟨f, fd, ds, hm, M, hb, hd, F.okE S len hbody⟩
end
end L2
namespace L2
open PySem PySem.Spec PyProof.Rows
end L2
namespace L2
open PySem PySem.Spec PyProof.Rows
end L2
namespace L2
open PySem PySem.Spec PyProof.Rows
section
variable {X : Cx}
end
theorem Vals.at {xs : List V} {us : List Value} (r : Vals xs us) (m : Nat) (h1 : m < xs.length) (h2 : m < us.length) : RelV xs[m] us[m] := by
  obtain ⟨u, hu, ru⟩ := r.get (List.getElem?_eq_getElem h1)
  rw [List.getElem?_eq_getElem h2] at hu
  cases hu
  exact ru
end L2
namespace L2
open PySem PySem.Spec PyProof.Rows
end L2
namespace L2
open PySem PySem.Spec PyProof.Rows
section
variable {prog : Program} {w : World} {K : Type} [DecidableEq K] {knd : HeapKind prog w K} {A : Around} {E : Value → Shared → Prop} {s : Shared}
end
end L2
namespace L2
open PySem PySem.Spec PyProof.Rows
def RawD (h : Heap) (d : Addr) (es : Array DictEntry) (ep : Nat) : Prop := ∃ o, h.get? d = some o ∧ o.ExactDict ∧ o.data = .dict es ep
theorem RawD.ty {s : Shared} {d : Addr} {es : Array DictEntry} {ep : Nat} (r : RawD s.heap d es ep) : s.TypeIs (.ref d) "dict" := let ⟨o, ho, hc, _⟩ := r; ⟨o, ho, hc.1⟩
section
variable {prog : Program} {w : World} {A : Around} {E : Value → Shared → Prop} {s : Shared} {d it : Addr} {es : Array DictEntry} {ep i : Nat}
end
end L2
namespace L2
open PySem PySem.Spec PyProof.Rows
def tCompM (wi : TI) (k : Nat) (ix : List Nat) (g : TG) (tt : TT) (te : TE) (h : HidC g tt te) : TE := fun σ H Q => wi σ H fun J H1 => ∀ D, H1 D = none → Comp g tt te h J (List.replicate k none ++ ix.map fun i => (σ[i]?).join) D (fun H' => Q (.ref D) H') H1
section
variable {X : Cx}
theorem comp_blockM {pins : List (Addr × Obj)} {σ : St} {H2 : Hp} {s2 : Shared} {it : Addr} {fp : List Addr} {tn : Nat → Heap → Prop} {J : It} {tg iter elt : Expr} {ifs : List Expr} {scope : Scope} {cl : List (Str × Addr)} {pos : Pos} {x : Str} {xs fs : List Str} {ix : List Nat} {g : TG} {tt : TT} {te : TE}
    {Qf : Addr → Hp → Prop} {E : Value → Shared → Prop} {RR : Value → Addr → Result → Shared → Prop}
    (I2 : Inv X pins σ H2 s2) (T : Turn X.prog X.w X.K tg J fp it tn) (st2 : tn 0 s2.heap) (f2 : ∀ b ∈ fp, FpOk X pins H2 b) (hc : X.calm = true) (S : CompSc scope X.env x fs)
    (c1 : ∀ n c, cl.lookup n = some c → X.env.cells.lookup n = some c) (c2 : ∀ n, (n, NameKind.free) ∈ scope.names → ∃ c, cl.lookup n = some c) (hix : ix.map (X.N[·]?) = fs.map some)
    (hg : ∀ C s₀ H₀ xe, PG (cxComp X scope cl C (xs ++ fs) s₀ H₀ fp xe) tg g) (hf : ∀ C s₀ H₀ xe, PF (cxComp X scope cl C (xs ++ fs) s₀ H₀ fp xe) ifs tt) (he : ∀ C s₀ H₀ xe, PE (cxComp X scope cl C (xs ++ fs) s₀ H₀ fp xe) elt te)
    (h : ∀ D, H2 D = none → Comp g tt te .mk J (List.replicate xs.length none ++ ix.map fun i => (σ[i]?).join) D (Qf D) H2)
    (fin : ∀ D C H' s', Inv X pins σ H' s' → Qf D H' → (∃ m, s'.heap.Ns C m) → FpOk X pins H' C → RR (.ref D) C (.ok .next) s') :
    wpAny (model X.prog X.w) X.A (newList []) (fun acc s₃ => wpAny (model X.prog X.w) X.A (newFunctionEnv scope X.env.globals cl [] X.env.qual none .none (some X.env)) (fun cenv s₄ =>
      codeAny (model X.prog X.w) X.A (.compStart (.ListComp elt [⟨tg, iter, ifs, 0⟩] scope pos) 0 (.ref it) acc { cenv with scope := relabel scope X.env }) (RR acc cenv.locals) s₄) E s₃) E s2 := by
  have hD : H2 s2.heap.objs.size = none := I2.hok.fresh (Nat.le_refl _)
  obtain ⟨W, ⟨m0, w0⟩, turn⟩ := h _ hD
  refine wpAny_newObj_type (wpAny_newFunctionEnv S.nocell (by intro y hy; simp at hy) (fun h₁ hns₁ hsb₁ => ?_) S.kind)
  have I3 : Inv X pins σ (upd H2 s2.heap.objs.size (.lst [])) { s2 with heap := s2.heap.push { cls := .type "list", dict := none, data := .seq ([] : List Value).toArray } } :=
    I2.laid (t' := s2.toks) (fun b u e => Heap.get?_push_of_some _ e) (Nat.le_refl _) ⟨by decide, [], 0, .nil, Heap.get?_push_size _ rfl⟩
  obtain ⟨e3, he3⟩ : ∃ s3 : Shared, s3 = { s2 with heap := s2.heap.push { cls := .type "list", dict := none, data := .seq ([] : List Value).toArray } } := ⟨_, rfl⟩
  rw [← he3] at I3
  have hh3 : s2.heap.push { cls := .type "list", dict := none, data := .seq ([] : List Value).toArray } = e3.heap := by rw [he3]
  have sz3 : e3.heap.objs.size = s2.heap.objs.size + 1 := by rw [← hh3, Heap.size_push]
  dsimp only at hns₁ hsb₁ ⊢
  rw [hh3] at hns₁ hsb₁ ⊢
  generalize hH3 : upd H2 s2.heap.objs.size (.lst []) = H3 at *
  have live : ∀ b ∈ fp, b < s2.heap.objs.size := fun b hb => let ⟨_, e, _⟩ := T.obj _ _ st2 b hb; Heap.lt_size e
  have f3 : ∀ b ∈ fp, FpOk X pins H3 b := fun b hb => by
    refine ⟨?_, (f2 b hb).2⟩
    rw [← hH3, upd_ne (Nat.ne_of_lt (live b hb))]
    exact (f2 b hb).1
  have C0 : FpOk X pins H3 e3.heap.objs.size := I3.fpOk (Nat.le_refl _) (I3.hok.fresh (Nat.le_refl _))
  have old3 : ∀ b o, e3.heap.get? b = some o → h₁.get? b = some o := fun b o e => hsb₁.extBut b o (Nat.ne_of_lt (Heap.lt_size e)) (Heap.get?_push_of_some _ e)
  have nofs : ∀ b ∈ fp, b ∉ frs X.stack := fun b hb z => (List.mem_cons.mp (I3.stkSub b z)).elim (f3 b hb).2.1 (f3 b hb).2.2.1
  have hst1 : tn 0 h₁ := T.keep _ _ _ st2 fun b _ o e => old3 b o (by rw [← hh3]; exact Heap.get?_push_of_some _ e)
  have e0 := I3.env0
  have ok : ∀ xe, (cxComp X scope cl e3.heap.objs.size (xs ++ fs) e3 H3 fp xe).Ok := fun xe => by
    refine ⟨I3.ok.mod, S.kind, I3.ok.glob, I3.ok.blt, Nat.le_refl _, fun y z c h1 h2 => I3.ok.inj y z c (c1 _ _ h1) (c1 _ _ h2), fun y hy => ?_, fun y c z => ?_, I3.ok.hd, I3.ok.frames, .inl rfl, fun b hb => ⟨?_, fun y c e => (f3 b hb).2.2.2.2.1 y c (c1 _ _ e)⟩, e0.bs, e0.bsz, fun b o e hb => ?_, nofs, e0.funs, e0.frf⟩
    · have q : scope.names.lookup y = some .free ∨ scope.names.lookup y = some .cell := by
        rcases hy with hy | hy
        · exact relabel_kind hy (.inl rfl)
        · exact relabel_kind hy (.inr rfl)
      rcases q with q | q
      · exact c2 y (PySem.mem_of_lookup q)
      · exact absurd rfl (S.nocell _ (PySem.mem_of_lookup q))
    · cases z
    · exact Nat.ne_of_lt (Nat.lt_of_lt_of_le (live b hb) (by rw [sz3]; exact Nat.le_succ _))
    · rcases (f3 b hb).2.2.2.1 with z | z
      · exact I3.ok.noex b o e z
      · exact absurd (Nat.lt_of_lt_of_le (Heap.lt_size e) (Nat.le_trans I3.ok.bsz z)) (Nat.lt_irrefl _)
  have cellUp : ∀ c v, e3.heap.IsCell c v → h₁.IsCell c v := fun c v ⟨o, ho, hd⟩ => ⟨o, old3 _ _ ho, hd⟩
  have J0 : ∀ xe, Inv (cxComp X scope cl e3.heap.objs.size (xs ++ fs) e3 H3 fp xe) [] (List.replicate xs.length none ++ ix.map fun i => (σ[i]?).join) H3 { e3 with heap := h₁, toks := e3.toks + ([] : List (Str × Value)).length } := fun xe => by
    have hk : ∀ b o, e3.heap.get? b = some o → h₁.get? b = some o := old3
    refine ⟨ok xe, rfl, I3.bare, Un.kept hk, ⟨_, hns₁, fun i y v h1 h2 h3 => ?_⟩, fun y c e => ?_, I3.hok.fresh (Nat.le_refl _), fun y c e => I3.freeC y c (c1 _ _ e), fun p hp => absurd (show p ∈ ([] : List (Addr × Obj)) from hp) (by simp), I3.hok.kept hk, ?_⟩
    · by_cases hlt : i < xs.length
      · have h2 : (List.replicate xs.length (none : Option V) ++ ix.map fun i => (σ[i]?).join)[i]? = some (some v) := h2
        rw [List.getElem?_append_left (by rw [List.length_replicate]; exact hlt)] at h2
        have z := List.eq_of_mem_replicate (List.mem_of_getElem? h2)
        cases z
      · have h1 : (xs ++ fs)[i]? = some y := h1
        have h2 : (List.replicate xs.length (none : Option V) ++ ix.map fun i => (σ[i]?).join)[i]? = some (some v) := h2
        rw [List.getElem?_append_right (by omega)] at h1
        rw [List.getElem?_append_right (by rw [List.length_replicate]; omega), List.length_replicate] at h2
        generalize i - xs.length = i at h1 h2
        have hy := S.fs y (List.mem_of_getElem? h1)
        rw [List.getElem?_map] at h2
        cases ej : ix[i]? with
        | none => rw [ej] at h2; cases h2
        | some j =>
          rw [ej] at h2
          have h2 : (σ[j]?).join = some v := Option.some.inj h2
          have hσ : σ[j]? = some (some v) := by
            cases q : σ[j]? with
            | none => rw [q] at h2; cases h2
            | some o => rw [q] at h2; cases o with
              | none => cases h2
              | some o => cases h2; rfl
          have hN : X.N[j]? = some y := by
            have z := congrArg (·[i]?) hix
            simp only [List.getElem?_map, ej, h1, Option.map_some] at z
            exact Option.some.inj z
          have kf := S.fr _ (PySem.mem_of_lookup hy) rfl
          obtain ⟨m, hn, hl⟩ := I3.loc
          obtain ⟨u, r, l⟩ := hl j y v hN hσ (by rcases kf with k | k; exact .inr (.inl k); exact .inr (.inr k))
          refine ⟨u, r, .inr ⟨relabel_free hy, ?_⟩⟩
          rcases l with ⟨l, _⟩ | ⟨_, c, e, z⟩
          · rcases kf with k | k <;> (rw [l] at k; cases k)
          · obtain ⟨c', e'⟩ := c2 y (PySem.mem_of_lookup hy)
            have q := c1 _ _ e'
            rw [e] at q; cases q
            exact ⟨c, e', cellUp _ _ z⟩
    · obtain ⟨v, z⟩ := I3.cell y c (c1 _ _ e)
      exact ⟨v, cellUp _ _ z⟩
    · have z := congrArg List.length hix
      simp only [List.length_map] at z
      show (List.replicate xs.length none ++ _ : St).length = (xs ++ fs).length
      rw [List.length_append, List.length_append, List.length_replicate, List.length_map, z]
  have back : ∀ {xe σ' H' s'}, Inv (cxComp X scope cl e3.heap.objs.size (xs ++ fs) e3 H3 fp xe) [] σ' H' s' → Inv X pins σ H' s' := fun {xe σ' H' s'} J =>
    I3.call' (s' := s') (ch := fp) J.os J.base J.hok J.bare fun b hb => ⟨(f3 b hb).2.2.2.1, (f3 b hb).2.1, (f3 b hb).2.2.2.2.1, (f3 b hb).2.2.2.2.2⟩
  have stat : ∀ {xe} {H' : Hp}, (∀ b ∈ fp, H' b = none) → ∀ b ∈ fp, FpOk (cxComp X scope cl e3.heap.objs.size (xs ++ fs) e3 H3 fp xe) [] H' b := fun {xe H'} hn b hb =>
    ⟨hn b hb, Nat.ne_of_lt (Nat.lt_of_lt_of_le (live b hb) (by rw [sz3]; exact Nat.le_succ _)), nofs b hb, .inl hb, fun y c e => (f3 b hb).2.2.2.2.1 y c (c1 _ _ e), fun p hp => absurd (show p ∈ ([] : List (Addr × Obj)) from hp) (by simp)⟩
  have loop : ∀ s4 : Shared, s4 = { e3 with heap := h₁, toks := e3.toks + ([] : List (Str × Value)).length } →
      codeAny (model X.prog X.w) X.A (.compLoop (.ListComp elt [⟨tg, iter, ifs, 0⟩] scope pos) 0 (.ref it) (.ref s2.heap.objs.size) (compEnvC scope cl e3.heap.objs.size X.env)) (RR (.ref s2.heap.objs.size) e3.heap.objs.size) s4 := by
    rintro s4 rfl
    let xe := notedBy (model X.prog X.w) X.A (compEnvC scope cl e3.heap.objs.size X.env) fun e s' => RR (.ref s2.heap.objs.size) e3.heap.objs.size (.error e) s'
    refine compLoop_turn (fun n s' => ∃ i ys σ' H', Inv (cxComp X scope cl e3.heap.objs.size (xs ++ fs) e3 H3 fp xe) [] σ' H' s' ∧ tn i s'.heap ∧ (∀ b ∈ fp, H' b = none) ∧ W i n ys σ' H') ?_ m0 ⟨0, [], _, _, J0 xe, hst1, fun b hb => (f3 b hb).1, w0⟩
    rintro n s5 ⟨i, ys, σ5, H5, J5, st5, fr5, w5⟩
    rcases turn i n ys σ5 H5 w5 with ⟨stop, qn⟩ | ⟨go, N, hN, step⟩
    · refine thn (T.done (cxComp X scope cl e3.heap.objs.size (xs ++ fs) e3 H3 fp xe) rfl rfl rfl hc i [] s5 σ5 H5 xe J5 (stat fr5) st5 stop) fun r s6 ⟨hr, J6⟩ => ?_
      subst hr
      obtain ⟨m, hn, _⟩ := J6.loc
      exact fin _ _ H5 s6 (back J6) qn ⟨m, hn⟩ ⟨J6.free, C0.2⟩
    · refine thn (T.item (cxComp X scope cl e3.heap.objs.size (xs ++ fs) e3 H3 fp xe) rfl rfl rfl hc i [] s5 σ5 H5 xe J5 (stat fr5) st5 go) fun r s6 ⟨u, hr, h6⟩ => ?_
      subst hr
      refine thn h6 fun _ s7 ⟨y, H7, J7, r7, y7, st7, fr7⟩ => ?_
      have J7' := J7.pinned (stat fr7) (T.obj _ _ st7)
      refine thn (hg _ _ _ xe _ s7 σ5 H7 y u _ J7' r7 (step y H7 y7)) fun _ s8 ⟨σ8, H8, J8, q8⟩ => ?_
      refine thn (hf _ _ _ xe _ s8 σ8 H8 _ J8 q8) fun ok s8' ⟨H8', J8', q8'⟩ => ?_
      cases ok with
      | false =>
        obtain ⟨m', hm', w9⟩ := hN _ _ _ (by simpa using q8')
        refine ⟨m', hm', i + 1, ys, σ8, _, J8'.unpinned, T.keep _ _ _ st7 fun b hb o e => (J8'.pin (b, o) (List.mem_append_right _ (List.mem_append_right _ (mem_pinsAt hb e)))).1, fun b hb => ?_, w9⟩
        obtain ⟨o, e, d⟩ := T.obj _ _ st7 b hb
        exact (J8'.pin (b, o) (List.mem_append_right _ (List.mem_append_right _ (mem_pinsAt hb e)))).2.1
      | true =>
      rw [if_pos rfl] at q8' ⊢
      refine thn (he _ _ _ xe _ s8' σ8 H8' _ J8' q8') fun uv s9 ⟨v, H9, J9, r9, hD9, hl9, n9⟩ => ?_
      obtain ⟨m', hm', w9⟩ := hN _ _ _ n9
      refine thn (mt_append (X := cxComp X scope cl e3.heap.objs.size (xs ++ fs) e3 H3 fp xe) _ s9 σ8 H9 (.ref s2.heap.objs.size) [v] _ [uv] (fun _ H' => H' = upd H9 s2.heap.objs.size (.lst (ys ++ [v]))) J9 rfl (.cons r9 .nil) ⟨_, ys, v, rfl, rfl, hD9, hl9, rfl⟩) fun _ s10 ⟨_, H10, J10, _, eH⟩ => ?_
      subst eH
      refine ⟨m', hm', i + 1, ys ++ [v], σ8, _, J10.unpinned, T.keep _ _ _ st7 fun b hb o e => (J10.pin (b, o) (List.mem_append_right _ (List.mem_append_right _ (mem_pinsAt hb e)))).1, fun b hb => ?_, w9⟩
      obtain ⟨o, e, d⟩ := T.obj _ _ st7 b hb
      exact (J10.pin (b, o) (List.mem_append_right _ (List.mem_append_right _ (mem_pinsAt hb e)))).2.1
  subst he3
  exact codeAny_compStart_list (loop _ rfl) (T.self X.A 0 _ _ _ hst1 (loop _ rfl))
theorem pe_compM {tg iter elt : Expr} {ifs : List Expr} {scope : Scope} {pos : Pos} {x : Str} {xs fs : List Str} {ix : List Nat} {wi : TI} {g : TG} {tt : TT} {te : TE} (hc : X.calm = true) (hi : PI X tg iter wi) (hk : compChk scope X.env x fs = true) (hix : ix.map (X.N[·]?) = fs.map some)
    (hg : ∀ cl C s₀ H₀ fp xe, PG (cxComp X scope cl C (xs ++ fs) s₀ H₀ fp xe) tg g) (hf : ∀ cl C s₀ H₀ fp xe, PF (cxComp X scope cl C (xs ++ fs) s₀ H₀ fp xe) ifs tt) (he : ∀ cl C s₀ H₀ fp xe, PE (cxComp X scope cl C (xs ++ fs) s₀ H₀ fp xe) elt te) (hs : ∀ x, foldedSetIterable iter X.env x = pure x := by intro _; rfl) :
    PE X (.ListComp elt [⟨tg, iter, ifs, 0⟩] scope pos) (tCompM wi xs.length ix g tt te .mk) := by
  intro pins s σ H Q I h
  have S := CompSc.of hk
  obtain ⟨cl, hcl, c1, c2⟩ := S.clos I
  rw [eval_ListComp]
  refine wpAny_comprehension_free (use := none) rfl hs hcl S.kind S.own (thn (hi pins s σ H _ I h) fun v s1 h1 => thn h1 fun itv s2 h2 => ?_)
  obtain ⟨it, fp, tn, J, H2, e, I2, T, st2, f2, q⟩ := h2
  subst e
  refine comp_blockM (xs := xs) (RR := fun acc C => compPost (model X.prog X.w) X.A X.xe none (EP X pins σ Q) acc C) I2 T st2 f2 hc S c1 c2 hix (fun C s₀ H₀ xe => hg cl C s₀ H₀ fp xe) (fun C s₀ H₀ xe => hf cl C s₀ H₀ fp xe) (fun C s₀ H₀ xe => he cl C s₀ H₀ fp xe) q fun D C H' s' I' q' ⟨m, hn⟩ ⟨f0, f1, _, f3, f4, f5⟩ => ?_
  exact ⟨m, hn, fun h' hs' => ⟨.ref D, H', I'.turned (t' := s'.toks) (fun b o hb e => (hs'.2 b hb).trans e) f0 f1 f3 f4 f5, rfl, q'⟩⟩
end
theorem pg_tupC {X : Cx} {K : PySem.W.Frag} {es : List Expr} {k : Nat} {pos : Pos} {t : TGs} {n : Nat} (h : X.K = K) (hc : X.calm = true) (hs : PGs X es t) (hn : (assignEach es X.env).length = n := by rfl) (hst : (assignEach es X.env).findIdx? (·.1) = none := by rfl) : PG X (.Tuple es k pos) (gTup K n t) := h ▸ pg_tup hc hs hn hst
end L2
namespace L2
open PySem PySem.Spec PyProof.Rows
end L2
namespace L2
open PySem PySem.Spec PyProof.Rows
end L2
namespace L2
open PySem PySem.Spec PyProof.Rows
section
variable {prog : Program} {w : World} {A : Around} {E : Value → Shared → Prop} {s : Shared}
end
end L2
namespace L2
open PySem PySem.Spec PyProof.Rows
def tVarM (i : Nat) : TE := fun σ H Q => match σ[i]? with
  | some (some v) => Q v H
  | _ => False
theorem tVarM_le {i : Nat} {σ : St} {H : Hp} {Q : VK} (h : tVarM i σ H Q) : tVar i σ H Q := by
  unfold tVarM at h
  split at h
  · rename_i v e; exact ⟨v, e, h⟩
  · exact h.elim
theorem pvM {X : Cx} (i : Nat) {x : Str} {pos : Pos} (hN : X.N[i]? = some x := by rfl) (hv : Vis X.env.scope x := by first | exact Or.inl rfl | exact Or.inr (Or.inl rfl) | exact Or.inr (Or.inr rfl)) (hd : (x == ("__debug__" : Str)) = false := by decide)
    (hcd : (x == ("__classdict__" : Str)) = false := by decide) : PE X (.Name x pos) (tVarM i) := fun pins s σ H Q I h => pe_var hN hv hd hcd pins s σ H Q I (tVarM_le h)
theorem rI0_ii {g : Int → Int → V} {i j : Int} {H : Hp} {Q : VK} : rI0 g (.int i) (.int j) H Q = Q (g i j) H := propext ⟨fun ⟨_, _, e1, e2, h⟩ => by cases e1; cases e2; exact h, fun h => ⟨_, _, rfl, rfl, h⟩⟩
theorem rI_ii {C : Int → Int → Prop} {g : Int → Int → V} {i j : Int} {H : Hp} {Q : VK} : rI C g (.int i) (.int j) H Q = (C i j ∧ Q (g i j) H) := propext ⟨fun ⟨_, _, e1, e2, h⟩ => by cases e1; cases e2; exact h, fun h => ⟨_, _, rfl, rfl, h⟩⟩
theorem ex_int {c : Int} {P : Int → Prop} : (∃ i, V.int c = V.int i ∧ P i) = P c := propext ⟨fun ⟨_, e, h⟩ => by cases e; exact h, fun h => ⟨_, rfl, h⟩⟩
theorem ex_bl {c : Bool} {P : Bool → Prop} : (∃ i, V.bl c = V.bl i ∧ P i) = P c := propext ⟨fun ⟨_, e, h⟩ => by cases e; exact h, fun h => ⟨_, rfl, h⟩⟩
theorem ex_ref {c : Addr} {P : Addr → Prop} : (∃ i, V.ref c = V.ref i ∧ P i) = P c := propext ⟨fun ⟨_, e, h⟩ => by cases e; exact h, fun h => ⟨_, rfl, h⟩⟩
end L2
namespace L2
open PySem PySem.Spec PyProof.Rows
theorem mt_startswith {X : Cx} : MtR X "str.startswith" (fun x xs H Q => ∃ a b, x = .str a ∧ xs = [.str b] ∧ Q (.bl (Txt.startswith a b)) H) := by
  intro pins s σ H x xs v us Q I rx rv h
  obtain ⟨a, b, rfl, rfl, q⟩ := h
  obtain ⟨t, rfl⟩ := rx
  obtain ⟨u, rfl, rb⟩ := vals1 rv
  obtain ⟨t2, rfl⟩ := rb
  exact PySem.SC.startswith ⟨.bl _, H, I, rfl, q⟩
theorem strs_of : ∀ {ys : List Str} {us : List Value}, Vals (ys.map V.str) us → StrsAre us ys
  | [], _, h => by cases h; exact .nil
  | y :: ys, _, h => by
    cases h with
    | cons r rr =>
      obtain ⟨t, rfl⟩ := r
      exact .cons y t (strs_of rr)
theorem of_strs : ∀ {l : List (Str × Tok)}, Vals ((l.map (·.1)).map V.str) (strValues l)
  | [] => .nil
  | p :: l => .cons ⟨p.2, rfl⟩ of_strs
theorem mt_join {X : Cx} : MtR X "str.join" (fun x xs H Q => ∃ a p ys, x = .str a ∧ xs = [.ref p] ∧ SqL X.K H p (ys.map V.str) ∧ (ys.map (·.length)).sum + ys.length * a.length ≤ 16777216 ∧ Q (.str (Txt.join a ys)) H) := by
  intro pins s σ H x xs v us Q I rx rv h
  obtain ⟨a, p, ys, rfl, rfl, hq, hk, q⟩ := h
  obtain ⟨t, rfl⟩ := rx
  obtain ⟨u, rfl, rb⟩ := vals1 rv
  cases rb
  obtain ⟨its, r', pl, hz⟩ := I.list hq
  exact join_list pl.isList (by simpa using strs_of r') hk fun t' k => ⟨.str _, H, I.tok _, ⟨t', rfl⟩, q⟩
section
open PySem.Builtin PySem.Builtin.Str
theorem split_new {prog : Program} {w : World} {A : Around} {E : Value → Shared → Prop} {s : Shared} {x y : Str} {t u : Tok} {Q : Value → Shared → Prop} (hy : (y.length == 0) = false)
    (hq : ∀ (l : List (Str × Tok)) k, l.map (·.1) = Txt.split x y → Q (.ref s.heap.objs.size) { s with heap := s.heap.push { cls := .type "list", data := .seq (strValues l).toArray }, toks := k })
    (hsz : x.length ≤ sizeLine) (hsz2 : (partsBetween x (occurrences x y 0 x.length (x.length + 1)) y.length).length ≤ sizeLine) :
    wpAny (model prog w) A (call (.builtin "str.split") [.str x t, .str y u]) Q E s := by
  cases h1 : (decide (x.length < y.length) || decide (strKind x < strKind y))
  · cases hf : (occurrences x y 0 x.length (x.length + 1)).isEmpty
    · refine call_meets F.slot_str_split (typeIs_str _ _ _) F.entry_str_split (F.args_str_split_2 _ _) (meets_str_split_sep x y t u h1 hy hf hsz hsz2) ?_
      show wants Q E _ { s with toks := _, heap := s.heap.push { cls := .type "list", data := .seq (strsFrom s.toks (partsBetween x (occurrences x y 0 x.length (x.length + 1)) y.length)).toArray } }
      rw [strsFrom_eq]
      exact hq (numbered s.toks _) _ ((numbered_texts _ _).trans ((if_neg (ne_true_of_eq_false h1)).trans (if_neg (ne_true_of_eq_false hf))).symm)
    · exact call_meets F.slot_str_split (typeIs_str _ _ _) F.entry_str_split (F.args_str_split_2 _ _) (meets_str_split_not_found x y t u h1 hy hf) (hq [(x, t)] _ ((if_neg (ne_true_of_eq_false h1)).trans (if_pos hf)).symm)
  · exact call_meets F.slot_str_split (typeIs_str _ _ _) F.entry_str_split (F.args_str_split_2 _ _) (meets_str_split_cannot_occur x y t u h1) (hq [(x, t)] _ (if_pos h1).symm)
theorem mt_split {X : Cx} : MtR X "str.split" (fun x xs H Q => ∃ a b, x = .str a ∧ xs = [.str b] ∧ (b.length == 0) = false ∧ a.length ≤ sizeLine ∧ (partsBetween a (occurrences a b 0 a.length (a.length + 1)) b.length).length ≤ sizeLine ∧ (Txt.split a b).length ≤ sizeLine ∧
    ∀ l, H l = none → Q (.ref l) (upd H l (.lst ((Txt.split a b).map V.str)))) := by
  intro pins s σ H x xs v us Q I rx rv h
  obtain ⟨a, b, rfl, rfl, hb, h1, h2, h3, q⟩ := h
  obtain ⟨t, rfl⟩ := rx
  obtain ⟨u, rfl, rb⟩ := vals1 rv
  obtain ⟨t2, rfl⟩ := rb
  refine split_new hb (fun l k e => ?_) h1 h2
  exact ⟨.ref s.heap.objs.size, _, I.laid (t' := k) (fun b o e => Heap.get?_push_of_some _ e) (Nat.le_refl _) (show ObjOk X.prog X.w _ _ _ (.lst ((Txt.split a b).map V.str)) from ⟨by rw [List.length_map]; exact h3, strValues l, 0, by rw [← e]; exact of_strs, Heap.get?_push_size _ rfl⟩), rfl, q _ (I.hok.fresh (Nat.le_refl _))⟩
end
theorem call_intT {X : Cx} : CallR X (.type "int") (fun xs H Q => ∃ a n, xs = [.str a] ∧ PySem.intText? a = some n ∧ a.length ≤ 640 ∧ Q (.int n) H) := by
  intro pins s σ H xs us Q I r h
  obtain ⟨a, n, rfl, hn, hl, q⟩ := h
  obtain ⟨u, rfl, rx⟩ := vals1 r
  obtain ⟨t, rfl⟩ := rx
  exact PySem.W.KIN.call_text hn hl ⟨.int n, H, I.tok _, ⟨_, rfl⟩, q⟩
theorem call_strI {X : Cx} : CallR X (.type "str") (fun xs H Q => ∃ i : Int, xs = [.int i] ∧ i.natAbs.log2 < 1920 ∧ Q (.str (toString i)) H) := by
  intro pins s σ H xs us Q I r h
  obtain ⟨i, rfl, hl, q⟩ := h
  obtain ⟨u, rfl, rx⟩ := vals1 r
  obtain ⟨t, rfl⟩ := rx
  exact PySem.P.str_of_int hl ⟨.str _, H, I.tok _, ⟨_, rfl⟩, q⟩
def Its (x : Str) : It := ⟨fun i _ => i < x.cps.size, fun i H v H' => H' = H ∧ ∃ c, x.cps[i]? = some c ∧ v = .str ⟨#[c]⟩, fun i _ => x.cps.size ≤ i⟩
theorem turn_strA {P : Program} {w : World} {K : PySem.W.Frag} {tg : Expr} (it : Addr) (x : Str) (t : Tok) : Turn P w K tg (Its x) [it] it (fun i h => h.IsStrIter it "str_ascii_iterator" x t i) where
  mem := by simp
  obj := fun i h st b hb => by
    have e : b = it := by simpa using hb
    subst e
    obtain ⟨o, e, c, d⟩ := st
    exact ⟨o, e, fun v z => by rw [d] at z; cases z⟩
  keep := fun i h h' st k => let ⟨o, ho, r⟩ := st; ⟨o, k it (by simp) o ho, r⟩
  item := by
    intro X hP hw hK hc i pins s σ H E I hf st hg
    subst hP hw hK
    have hg : i < x.cps.size := hg
    obtain ⟨f0, f1, f2, f3, f4, f5⟩ := hf it (by simp)
    refine wpAny_pyNext_ascii_item st (c := x.cps[i]) (by simp [hg]) fun h' st' sb => ?_
    have I1 : Inv X pins σ H { s with heap := h', toks := s.toks + 1 } := I.turned (t' := s.toks + 1) (fun b o hb e => (sb.2 b hb).trans e) f0 f1 f3 f4 f5
    obtain ⟨ob, e, c, d⟩ := id st'
    exact ⟨_, rfl, go_of (s := { s with heap := h', toks := s.toks + 1 }) e c d (by decide) ⟨.str ⟨#[x.cps[i]]⟩, H, I1, ⟨_, rfl⟩, ⟨rfl, _, by simp [hg], rfl⟩, st', fun b hb => (hf b hb).1⟩⟩
  done := by
    intro X hP hw hK hc i pins s σ H E I hf st hg
    subst hP hw hK
    have hg : x.cps.size ≤ i := hg
    obtain ⟨f0, f1, f2, f3, f4, f5⟩ := hf it (by simp)
    exact wpAny_pyNext_ascii_end (I.ok.hd hc) st (by simp [hg]) fun h' eb => ⟨rfl, I.turned (t' := s.toks) (fun b o hb e => eb b o hb e) f0 f1 f3 f4 f5⟩
  self := fun _ _ _ _ _ st h => wpAny_pyIter_striter_ascii st h
theorem turn_strW {P : Program} {w : World} {K : PySem.W.Frag} {tg : Expr} (it : Addr) (x : Str) (t : Tok) : Turn P w K tg (Its x) [it] it (fun i h => h.IsStrIter it "str_iterator" x t i) where
  mem := by simp
  obj := fun i h st b hb => by
    have e : b = it := by simpa using hb
    subst e
    obtain ⟨o, e, c, d⟩ := st
    exact ⟨o, e, fun v z => by rw [d] at z; cases z⟩
  keep := fun i h h' st k => let ⟨o, ho, r⟩ := st; ⟨o, k it (by simp) o ho, r⟩
  item := by
    intro X hP hw hK hc i pins s σ H E I hf st hg
    subst hP hw hK
    have hg : i < x.cps.size := hg
    obtain ⟨f0, f1, f2, f3, f4, f5⟩ := hf it (by simp)
    refine wpAny_pyNext_wide_item st (c := x.cps[i]) (by simp [hg]) fun h' st' sb => ?_
    have I1 : Inv X pins σ H { s with heap := h', toks := s.toks + 1 } := I.turned (t' := s.toks + 1) (fun b o hb e => (sb.2 b hb).trans e) f0 f1 f3 f4 f5
    obtain ⟨ob, e, c, d⟩ := id st'
    exact ⟨_, rfl, go_of (s := { s with heap := h', toks := s.toks + 1 }) e c d (by decide) ⟨.str ⟨#[x.cps[i]]⟩, H, I1, ⟨_, rfl⟩, ⟨rfl, _, by simp [hg], rfl⟩, st', fun b hb => (hf b hb).1⟩⟩
  done := by
    intro X hP hw hK hc i pins s σ H E I hf st hg
    subst hP hw hK
    have hg : x.cps.size ≤ i := hg
    obtain ⟨f0, f1, f2, f3, f4, f5⟩ := hf it (by simp)
    exact wpAny_pyNext_wide_end (I.ok.hd hc) st (by simp [hg]) fun h' eb => ⟨rfl, I.turned (t' := s.toks) (fun b o hb e => eb b o hb e) f0 f1 f3 f4 f5⟩
  self := fun _ _ _ _ _ st h => wpAny_pyIter_striter_wide st h
def iStr (tl : TE) : TI := fun σ H R => tl σ H fun x H1 => ∃ a, x = .str a ∧ R (Its a) H1
theorem pi_str {X : Cx} {tg l : Expr} {tl : TE} (hl : PE X l tl) : PI X tg l (iStr tl) := by
  intro pins s σ H R I h
  refine thn (hl pins s σ H _ I h) fun v s1 ⟨x, H1, I1, r1, q1⟩ => ?_
  obtain ⟨a, e, q⟩ := q1
  subst e
  obtain ⟨t, rfl⟩ := r1
  have hfr : H1 s1.heap.objs.size = none := I1.hok.fresh (Nat.le_refl _)
  have fp : ∀ b ∈ [s1.heap.objs.size], FpOk X pins H1 b := fun b hb => by
    have e : b = s1.heap.objs.size := by simpa using hb
    subst e
    exact I1.fpOk (Nat.le_refl _) hfr
  cases ha : a.cps.all (· < 128)
  · exact wpAny_pyIter_wide ha ⟨s1.heap.objs.size, [s1.heap.objs.size], _, _, H1, rfl, I1.kept (t' := s1.toks) fun b o e => Heap.get?_push_of_some _ e, turn_strW _ a t, ⟨_, Heap.get?_push_size _ rfl, rfl, rfl⟩, fp, q⟩
  · exact wpAny_pyIter_ascii ha ⟨s1.heap.objs.size, [s1.heap.objs.size], _, _, H1, rfl, I1.kept (t' := s1.toks) fun b o e => Heap.get?_push_of_some _ e, turn_strA _ a t, ⟨_, Heap.get?_push_size _ rfl, rfl, rfl⟩, fp, q⟩
theorem comp_str {x : Str} {g : TG} {tt : TT} {te : TE} {h : HidC g tt te} {σ0 : St} {D : Addr} {Q : Hp → Prop} {H : Hp} (Pv : Nat → List V → St → Hp → Prop) (h0 : Pv 0 [] σ0 (upd H D (.lst [])))
    (hs : ∀ i c ys σ H, x.cps[i]? = some c → Pv i ys σ H → g (.str ⟨#[c]⟩) σ H fun σ2 H2 => tt σ2 H2 fun b H2' => if b = true then te σ2 H2' fun v H3 => H3 D = some (.lst ys) ∧ ys.length < sizeLine ∧ Pv (i + 1) (ys ++ [v]) σ2 (upd H3 D (.lst (ys ++ [v]))) else Pv (i + 1) ys σ2 H2') (hd : ∀ ys σ H, Pv x.cps.size ys σ H → Q H) :
    Comp g tt te h (Its x) σ0 D Q H := by
  refine ⟨fun i m ys σ H => i + m = x.cps.size ∧ Pv i ys σ H, ⟨x.cps.size, Nat.zero_add _, h0⟩, fun i m ys σ H ⟨e, p⟩ => ?_⟩
  by_cases hi : i < x.cps.size
  · refine .inr ⟨hi, Pv (i + 1), fun ys σ H q => ⟨m - 1, by omega, by omega, q⟩, ?_⟩
    rintro y H' ⟨rfl, c, hc, rfl⟩
    exact hs i c ys σ H' hc p
  · have e' : i = x.cps.size := by omega
    subst e'
    exact .inl ⟨Nat.le_refl _, hd ys σ H p⟩
theorem op_inS {X : Cx} : OpR X (compareOp .In) (fun x y H Q => ∃ a b, x = .str a ∧ y = .str b ∧ Q (.bl (!(Builtin.Str.occurrences b a 0 b.length 1).isEmpty)) H) := by
  intro pins s σ H x y u v Q I rx ry h
  obtain ⟨a, b, rfl, rfl, q⟩ := h
  obtain ⟨t, rfl⟩ := rx
  obtain ⟨t2, rfl⟩ := ry
  exact PySem.P.in_str ⟨.bl _, H, I, rfl, q⟩
theorem sl_str {X : Cx} : SlR X (fun x lo hi H Q => ∃ a, x = .str a ∧ a.length ≤ sizeLine ∧ Q (.str (Txt.slice a lo hi)) H) := by
  intro pins s σ H x v vl vu lo hi sl Q I rx hs pl pu h
  obtain ⟨a, rfl, hl, q⟩ := h
  obtain ⟨t, rfl⟩ := rx
  refine ⟨"str", _, PySem.F.slot_str_getitem.lookup, typeIs_str _ _ _, ?_⟩
  have fin : ∀ (l u : Option (Int × Tok)), l.map (·.1) = lo → u.map (·.1) = hi → s.heap.IsSlice sl l u none → wpAny (model X.prog X.w) X.A (getItem (.str a t) (.ref sl)) (EP X pins σ Q) X.xe s := fun l u e1 e2 hS => by
    subst e1 e2
    refine wpAny_getItem_str_slice (l := l) (u := u) (st := none) hS rfl ?_
    exact post_val_or_str ⟨Nat.le_trans (Txt.slice_le a _ _) hl, fun t' k => ⟨.str _, H, I.tok _, ⟨t', rfl⟩, q⟩⟩
  cases pl with
  | none => cases pu with
    | none => exact fin none none rfl rfl hs
    | int j t2 => exact fin none (some (j, t2)) rfl rfl hs
  | int i t1 => cases pu with
    | none => exact fin (some (i, t1)) none rfl rfl hs
    | int j t2 => exact fin (some (i, t1)) (some (j, t2)) rfl rfl hs
end L2
namespace Hd
open PySem PySem.W PySem.Calls PyProof.Rows
def runT (tb : String → Option Builtin) (p : Program) (w : World) (n0 : Nat) (ann : Option Value) : Nat → SharedT → Thread → Option SharedT
  | 0, _, _ => none
  | n + 1, s, t => match through t with
    | true => some s
    | false => match stepOk n0 ann t with
      | false => none
      | true => match stepT (denote tb) p w s t with
        | some (s', t') => runT tb p w n0 ann n s' t'
        | none => none
theorem runT_of {tb : String → Option Builtin} {p : Program} {w : World} {n0 : Nat} {ann : Option Value} : ∀ {n : Nat} {s r : SharedT} {t : Thread}, runT tb p w n0 ann n s t = some r → topRun tb p w n0 ann n s.abs t = some r.abs
  | 0, _, _, _, h => by cases h
  | n + 1, s, r, t, h => by
    unfold runT at h
    unfold topRun
    cases he : through t with
    | true => rw [he] at h; cases h; rfl
    | false =>
      rw [he] at h
      cases hk : stepOk n0 ann t with
      | false => rw [hk] at h; cases h
      | true =>
        rw [hk] at h
        cases hs : stepT (denote tb) p w s t with
        | none => rw [hs] at h; cases h
        | some x => obtain ⟨s2, t2⟩ := x; rw [hs] at h; rw [stepT_spec hs]; exact runT_of h
def grow : List Obj → Nat → BT → BT
  | [], _, t => t
  | o :: l, n, t => grow l (n + 1) (t.ins n o)
noncomputable def bootT (P : Params) : BT := grow (boot_heap P).objs.toList 0 .nil
noncomputable def bootS (w : World) (os : OsState) : SharedT := ⟨bootT w.params, (boot_heap w.params).objs.size, (boot_heap w.params).life, #[], boot_drawn, boot_toks, os⟩
theorem boot_abs (w : World) (os : OsState) : (bootS w os).abs = ⟨boot_heap w.params, #[], boot_drawn, boot_toks, os⟩ := by kernel_rfl
theorem boot_size (w : World) : ((boot_heap w.params).isNs mainGlobals && (#[] : Array GenState).size == 0) = true := by kernel_rfl
noncomputable abbrev ann0 (w : World) : Option Value := (boot_heap w.params).nsMap mainGlobals "__annotations__"
def look {α : Type} (p : Program) (Yf : Shared → α) (H0 : Heap) (s : Shared) : Bool × α :=
  (staticsOk (importedModules p.main.body) H0 s.heap && namesBound p s.heap && gensDone s && laidKept H0 s.heap, Yf s)
noncomputable def ran (p : Program) (N : Nat) (w : World) (os : OsState) : Option SharedT := runT treeTable p w (boot_heap w.params).objs.size (ann0 w) N (bootS w os) (topStub p)
noncomputable def once {α : Type} (p : Program) (Yf : Shared → α) (N : Nat) (w : World) (os : OsState) := (ran p N w os).map fun s => look p Yf (boot_heap w.params) s.abs
noncomputable def seen (p q : Program) (loose : List Str) (Xt : Shared → Bool) (N : Nat) (w : World) (os : OsState) := (ran p N w os).map fun s => openSeen q loose (importedModules p.main.body) Xt true s.abs
theorem left_once {p q : Program} {loose : List Str} {Xt : Shared → Bool} {α : Type} {Yf : Shared → α} {Ya : World → α} {N : Nat}
    (e : opening p = plainProg p.main.scope.names) (hN : Nat.ble 600 N = true) (f : ∀ s, fenceModules? p s = some s)
    (one : ∀ (w : World) (os : OsState), once p Yf N w os = some (true, Ya w)) (two : ∀ (w : World) (os : OsState), seen p q loose Xt N w os = some (openGood q loose)) : LeftO p q loose Xt Yf Ya N := fun w => by
  obtain ⟨⟨h, gs, d, k, os⟩, e1, e2⟩ := Option.map_eq_some_iff.mp (boot_open e hN f w)
  obtain ⟨rfl, rfl, rfl, rfl⟩ : h = boot_heap w.params ∧ gs = #[] ∧ d = boot_drawn ∧ k = boot_toks := by simpa using e2
  obtain ⟨sT, r, l⟩ := Option.map_eq_some_iff.mp (one w os)
  obtain ⟨sT', r', l2⟩ := Option.map_eq_some_iff.mp (two w os)
  obtain rfl : sT = sT' := Option.some.inj (r.symm.trans r')
  have r := runT_of r
  rw [boot_abs] at r
  obtain ⟨l1, l3⟩ : _ ∧ _ := by simpa only [look, Prod.mk.injEq] using l
  have t : topFrom treeTable p w N ⟨boot_heap w.params, #[], boot_drawn, boot_toks, os⟩ = some sT.abs := by
    unfold topFrom
    dsimp only
    rw [boot_size w, r]
    show (match staticsOk (importedModules p.main.body) (boot_heap w.params) sT.abs.heap && namesBound p sT.abs.heap && gensDone sT.abs && laidKept (boot_heap w.params) sT.abs.heap with | true => _ | false => _) = _
    rw [l1]
  unfold openEnds
  rw [e1]
  show (topFrom treeTable p w N _).map _ = _
  rw [t]
  exact congrArg some (Prod.ext l2 l3)
end Hd
namespace Hd
open PySem PySem.W
def dig : Nat → Nat → List Nat
  | 0, _ => []
  | k + 1, n => match Nat.beq n 0 with
    | true => []
    | false => Nat.sub (n % 256) 1 :: dig k (n / 256)
def S (n : Nat) : Str := ⟨⟨dig 200 n⟩⟩
def ent (P : Params) (x : Str) (t : Nat) (v : Value) : DictEntry := ⟨PyData.keyHash P x, .str x t, v⟩
def dO (n : Nat) (l : List DictEntry) : Obj := ⟨.type "dict", none, .dict ⟨l⟩ n, #[]⟩
def tO (l : List Value) : Obj := ⟨.type "tuple", none, .seq ⟨l⟩ 0, #[]⟩
def cO (l : List Value) : Obj := ⟨.type "code", none, .fields ⟨l⟩, #[]⟩
end Hd
namespace Hd
open PySem PySem.W PySem.Calls PyProof.Rows
def goT (tb : String → Option Builtin) (p : Program) (w : World) (n0 : Nat) (ann : Option Value) : Nat → SharedT → Thread → Option (SharedT × Thread)
  | 0, s, t => some (s, t)
  | n + 1, s, t => match through t with
    | true => none
    | false => match stepOk n0 ann t with
      | false => none
      | true => match stepT (denote tb) p w s t with
        | some (s', t') => goT tb p w n0 ann n s' t'
        | none => none
end Hd
namespace Hd
open PySem PySem.W PySem.Calls PyProof.Rows
theorem tw_run : (fun (_ : (String → Option Builtin) → Program → World → Nat → Option Value → Nat → SharedT → Thread → Option SharedT) => true) runT = true := by k_qdec
theorem tw_go : (fun (_ : (String → Option Builtin) → Program → World → Nat → Option Value → Nat → SharedT → Thread → Option (SharedT × Thread)) => true) goT = true := by k_qdec
theorem tw_boot : (fun (_ : World → OsState → SharedT) (_ : World → Option Value) => true) bootS ann0 = true := by k_qdec
theorem tw_look : (fun (_ : {α : Type} → Program → (Shared → α) → Heap → Shared → Bool × α) => true) @look = true := by k_qdec
theorem tw_once : (fun (_ : {α : Type} → Program → (Shared → α) → Nat → World → OsState → Option (Bool × α)) => true) @once = true := by k_qdec
theorem tw_seen : (fun (_ : Program → Program → List Str → (Shared → Bool) → Nat → World → OsState → Option _) => true) seen = true := by k_qdec
end Hd
namespace L2
open PySem PySem.Spec PyProof.Rows
structure RoomH (k : Nat) (A : Around) : Prop where
  dp : A.depth + 3 * k + 5 < recursionLimit
  un : A.units + 16 * k + 200 < cLine
theorem Room.h {k : Nat} {A : Around} (r : Room k A) : RoomH k A := ⟨r.dp, r.un⟩
theorem RoomH.deeper {k : Nat} {A : Around} (r : RoomH (k + 1) A) (env : Env) : RoomH k (A.deeper env) :=
  ⟨by have := r.dp; show A.depth + 1 + 3 * k + 5 < _; omega, by have := r.un; show A.units + 3 + 16 * k + 200 < _; omega⟩
def cxOfH (P : Program) (w : World) (K : PySem.W.Frag) (mg : Str → Option Value) (base : Heap) (N : List Str) (qual : Str) (scope : Scope) (f : Addr) (cd : Value) (A : Around) (outer : List Env) (s : Shared) (H : Hp) (E : XK) : Cx :=
  { cxOf (CXe P w) P w K mg base N qual scope f cd A outer s H E with calm := false }
def rCatS : R2 := fun x y H Q => ∃ a b, x = .str a ∧ y = .str b ∧ a.length + b.length ≤ 16777216 ∧ Q (.str (a ++ b)) H
theorem op_catS {X : Cx} : OpR X (binaryOp .Add) rCatS := by
  intro pins s σ H x y v u Q I rx ry h
  obtain ⟨a, b, rfl, rfl, hz, q⟩ := h
  obtain ⟨t, rfl⟩ := rx
  obtain ⟨t2, rfl⟩ := ry
  exact add_str (fun t' tk => ⟨.str (a ++ b), H, I.tok _, ⟨_, rfl⟩, q⟩) (by rw [sizeLine_eq]; omega)
theorem cxOfH_K {P : Program} {w : World} {K : PySem.W.Frag} {mg : Str → Option Value} {base : Heap} {N : List Str} {qual : Str} {scope : Scope} {f : Addr} {cd : Value} {A : Around} {outer : List Env} {s : Shared} {H : Hp} {E : XK} : (cxOfH P w K mg base N qual scope f cd A outer s H E).K = K := rfl
end L2
namespace L2
open PySem PySem.Spec PyProof.Rows
def BindsK (K : PySem.W.Frag) (fd : FuncData) (ps ks : List Str) : Prop := ∀ (s : Shared) (us : List Value) (a b : Value), K.In s.heap → us.length + 2 = ps.length → BindsTo s fd ⟨us, ks.zip [a, b]⟩ (ps.zip (us ++ [b, a]))
def RawMK (K : PySem.W.Frag) (C : Addr) (m qual : Str) (st : Stmt) (ps ks : List Str) : Prop := ∃ f fd, Meth K C m f ∧ FunD K m qual st f fd ∧ BindsK K fd ps ks
def HaveMK (P : Program) (w : World) (K : PySem.W.Frag) (mg : Str → Option Value) (base : Heap) (C : Addr) (m : Str) (k : Nat) (ps ks : List Str) (sp : Sp) : Prop :=
  ∃ f fd, Meth K C m f ∧ BindsK K fd ps ks ∧ FnOk P w K mg base (CXe P w) k f fd ps sp
theorem RawMK.have {P : Program} {w : World} {K : PySem.W.Frag} {mg : Str → Option Value} {base : Heap} {C : Addr} {m qual : Str} {st : Stmt} {N ps ks : List Str} {k : Nat} {sp : Sp} (R : RawMK K C m qual st ps ks) (S : FnScope N ps (defScope st)) (len : ∀ vs H Q E, sp vs H Q E → vs.length = ps.length)
    (hbody : Body P w K mg base qual st N k sp) : HaveMK P w K mg base C m (k + 1) ps ks sp :=
  let ⟨f, fd, hm, F, hb⟩ := R
  ⟨f, fd, hm, hb, F.okE S len hbody⟩
end L2
namespace L2
open PySem PySem.Spec PyProof.Rows
def Itr3 (lo c : Int) (n : Nat) : It := ⟨fun i _ => i < n, fun i H x H' => H' = H ∧ x = .int (lo + i * c), fun i _ => n ≤ i⟩
theorem turn_range3 {P : Program} {w : World} {K : PySem.W.Frag} {tg : Expr} (it : Addr) (lo c : Int) (n : Nat) : Turn P w K tg (Itr3 lo c n) [it] it (fun i h => IsRangeIter h it (lo + (i : Nat) * c) ((n : Int) - (i : Nat)) c) where
  mem := by simp
  obj := fun i h st b hb => by
    have e : b = it := by simpa using hb
    subst e
    exact ⟨_, st, fun v z => by
      have z' : Data.fields _ = Data.cell v := z
      cases z'⟩
  keep := fun i h h' st k => k it (by simp) _ st
  item := by
    intro X hP hw hK hc i pins s σ H E I hf st hg
    subst hP hw hK
    obtain ⟨f0, f1, f2, f3, f4, f5⟩ := hf it (by simp)
    have W := Walks.range (prog := X.prog) (w := X.w) (I.ok.hd hc) it lo c n
    refine W.item i s _ _ hg st fun v h' tk hv st' kk => ?_
    obtain ⟨t, rfl⟩ := hv
    have I1 : Inv X pins σ H { s with heap := h', toks := tk } := I.turned (fun b o hb e => kk b o (by simpa using hb) e) f0 f1 f3 f4 f5
    exact ⟨_, rfl, go_of (s := { s with heap := h', toks := tk }) (n := "range_iterator") st' rfl rfl (by decide) ⟨.int (lo + i * c), H, I1, ⟨t, rfl⟩, ⟨rfl, rfl⟩, st', fun b hb => (hf b hb).1⟩⟩
  done := by
    intro X hP hw hK hc i pins s σ H E I hf st hg
    subst hP hw hK
    obtain ⟨f0, f1, f2, f3, f4, f5⟩ := hf it (by simp)
    exact wpAny_pyNext_range_end (I.ok.hd hc) st (by have : n ≤ i := hg; omega) fun h' eb => ⟨rfl, I.turned (t' := s.toks) (fun b o hb e => eb b o hb e) f0 f1 f3 f4 f5⟩
  self := fun _ _ _ _ _ st h => wpAny_pyIter_rangeiter st h
def nR3 (lo hi c : Int) : Nat := if lo < hi then ((hi - lo - 1) / c + 1).toNat else 0
theorem rangeSize_c {a b c : Int} (hc : 0 < c) : Builtin.Range.rangeSize a b c = (nR3 a b c : Nat) := by
  unfold Builtin.Range.rangeSize nR3
  rw [if_pos (show c > 0 from hc)]
  split
  · have := Int.ediv_nonneg (show 0 ≤ b - a - 1 by omega) (show 0 ≤ c by omega)
    omega
  · rfl
theorem small_c {a b c : Int} (hc : 0 < c) (hc' : c < 2 ^ 30) (ha : 0 ≤ a) (ha' : a < 2 ^ 30) (hb : 0 ≤ b) (hb' : b < 2 ^ 30) : Builtin.Range.small a b c = true := by
  unfold Builtin.Range.small Builtin.Range.rangeSize
  rw [if_pos (show c > 0 from hc)]
  have h1 : a < b → 0 ≤ (b - a - 1) / c ∧ (b - a - 1) / c ≤ b - a - 1 ∧ (b - a - 1) / c * c ≤ b - a - 1 := fun h => ⟨Int.ediv_nonneg (by omega) (by omega), Int.ediv_le_self _ (by omega), Int.ediv_mul_le _ (by omega)⟩
  simp only [Builtin.Range.rangeFitsLong, Bool.and_eq_true, Bool.or_eq_true, decide_eq_true_eq, beq_iff_eq, show c > 0 from hc, if_true]
  by_cases hab : a < b
  · have := h1 hab
    rw [if_pos hab]
    generalize hq : (b - a - 1) / c = q at *
    omega
  · rw [if_neg hab]
    omega
theorem range_it3 {X : Cx} {tg : Expr} {pins : List (Addr × Obj)} {σ : St} {H : Hp} {s : Shared} {R : It → Hp → Prop} {E : Value → Shared → Prop} {lo hi c : Int} {t u v : Tok} {tk : Nat} (I : Inv X pins σ H s) (hc : 0 < c) (hc' : c < 2 ^ 30) (h1 : 0 ≤ lo) (h2 : lo < 2 ^ 30) (h3 : 0 ≤ hi) (h4 : hi < 2 ^ 30)
    (q : R (Itr3 lo c (nR3 lo hi c)) H) : wpAny (model X.prog X.w) X.A (pyIter (.ref s.heap.objs.size)) (PIE X pins σ tg R) E { s with heap := s.heap.push { cls := .type "range", data := .fields #[.int lo t, .int hi u, .int c v] }, toks := tk } := by
  refine wpAny_pyIter_range (IsRange.new ..) (small_c hc hc' h1 h2 h3 h4) ?_
  have I1 : Inv X pins σ H { s with heap := s.heap.push { cls := .type "range", data := .fields #[.int lo t, .int hi u, .int c v] }, toks := tk } := I.kept fun b o e => Heap.get?_push_of_some _ e
  refine ⟨(s.heap.push { cls := .type "range", data := .fields #[.int lo t, .int hi u, .int c v] }).objs.size, [(s.heap.push { cls := .type "range", data := .fields #[.int lo t, .int hi u, .int c v] }).objs.size], _, _, H, rfl,
    I1.kept (t' := tk) fun b o e => Heap.get?_push_of_some _ e, turn_range3 _ lo c (nR3 lo hi c), ?_, fun b hb => ?_, q⟩
  · have e1 : lo + ((0 : Nat) : Int) * c = lo := by simp
    have e2 : ((nR3 lo hi c : Nat) : Int) - ((0 : Nat) : Int) = Builtin.Range.rangeSize lo hi c := by rw [rangeSize_c hc]; simp
    show IsRangeIter _ _ (lo + ((0 : Nat) : Int) * c) (((nR3 lo hi c : Nat) : Int) - ((0 : Nat) : Int)) c
    rw [e1, e2]
    exact Heap.get?_push_size _ rfl
  · have e : b = (s.heap.push { cls := .type "range", data := .fields #[.int lo t, .int hi u, .int c v] }).objs.size := by simpa using hb
    subst e
    exact I1.fpOk (Nat.le_refl _) (I1.hok.fresh (Nat.le_refl _))
def iRng3 (ta : TA) : TI := fun σ H R => ta σ H fun vs H1 => ∃ i j c : Int, vs = [.int i, .int j, .int c] ∧ (0 < c ∧ c < 2 ^ 30 ∧ 0 ≤ i ∧ i < 2 ^ 30 ∧ 0 ≤ j ∧ j < 2 ^ 30) ∧ R (Itr3 i c (nR3 i j c)) H1
theorem pi_range3 {X : Cx} {tg : Expr} {a b c : Expr} {ta : TA} {p pos : Pos} (hg : Gl X "range") (hm : X.mg "range" = none) (ha : PA X [a, b, c] ta) (hs : starEach [a, b, c] X.env = [(false, eval a X.env), (false, eval b X.env), (false, eval c X.env)] := by rfl) (hs2 : starEach [b, c] X.env = [(false, eval b X.env), (false, eval c X.env)] := by rfl) :
    PI X tg (.Call (.Name "range" p) [a, b, c] [] pos) (iRng3 ta) := by
  intro pins s σ H R I h
  refine Call_ (ld_blt I hg hm boot_range (PyProof.Rows.callWith_type1 (thn (ha pos pins s σ H _ I h) fun us s1 ⟨vs, H1, I1, r1, q1⟩ => ?_) (by rw [hs, hs2]) (by rw [hs2]; rfl)))
  obtain ⟨i, j, c, e, ⟨q5, q6, q1, q2, q3, q4⟩, q⟩ := q1
  subst e
  cases r1 with
  | cons r rr =>
    cases rr with
    | cons r' rr =>
      cases rr with
      | cons r'' rr =>
        cases rr
        obtain ⟨t, rfl⟩ := r
        obtain ⟨t', rfl⟩ := r'
        obtain ⟨t'', rfl⟩ := r''
        exact call_range_3 (by omega) (range_it3 I1 q5 q6 q1 q2 q3 q4 q) (.inl (PyProof.noPylong_small (by omega)))
theorem loop_range3 {lo c : Int} {n : Nat} {g : TG} {tb : TS} {h : HidF g tb} {D : Ends} {σ : St} {H : Hp} (Pv : Nat → St → Hp → Prop) (h0 : Pv 0 σ H)
    (hs : ∀ i σ H, i < n → Pv i σ H → g (.int (lo + i * c)) σ H fun σ2 H2 => tb { D with nx := Pv (i + 1), ct := Pv (i + 1), bk := D.nx } σ2 H2) (hd : ∀ σ H, Pv n σ H → D.nx σ H) : Loop g tb h (Itr3 lo c n) D σ H := by
  refine ⟨fun i m σ H => m = n - i ∧ i ≤ n ∧ Pv i σ H, ⟨n, by simp, Nat.zero_le _, h0⟩, ?_⟩
  rintro i m σ H ⟨rfl, hi, p⟩
  by_cases hlt : i < n
  · refine .inr ⟨hlt, Pv (i + 1), fun σ' H' p' => ⟨n - (i + 1), by omega, rfl, hlt, p'⟩, fun x H' y => ?_⟩
    obtain ⟨e, y⟩ := y
    subst e y
    exact hs i σ _ hlt p
  · have e : i = n := by omega
    subst e
    exact .inl ⟨Nat.le_refl _, hd σ H p⟩
end L2
namespace L2
open PySem PySem.Spec PyProof.Rows
end L2
namespace L2
open PySem PySem.Spec PyProof.Rows
section
variable {prog : Program} {w : World} {A : Around} {E : Value → Shared → Prop} {s : Shared}
theorem nextOf_tup {it t : Addr} {i : Nat} {items : Array Value} {x : Value} {Q : Value → Shared → Prop} (hit : s.heap.IsTupleIter it t i) (ht : s.heap.IsTuple t items) (hx : items[i]? = some x)
    (hQ : ∀ h', h'.IsTupleIter it t (i + 1) → Heap.SameBut it s.heap h' → Q x { s with heap := h' }) : wpAny (model prog w) A (Builtin.SmallTypes.nextOf (.ref it)) Q E s := by
  obtain ⟨o, ho, hc, hd⟩ := id hit
  obtain ⟨ol, hol, _, nl, hdl⟩ := ht
  unfold Builtin.SmallTypes.nextOf
  refine wpAny_bind (wpAny_callSpecial?_slot (name := Str.ofString "__next__") hit.typeIs F.slot_tuple_iterator_next (wpAny_call_entry F.slot_tuple_iterator_next hit.typeIs F.entry_tuple_iterator_next ?_ (F.args_tuple_iterator_next_1 _)))
  show wpAny _ _ (field (.ref it) 0 >>= _) _ _ s
  refine wpAny_bind (wpAny_field ho hd (x := .ref t) rfl ?_)
  show wpAny _ _ (if (Value.ref t == Value.none) = true then _ else _) _ _ s
  rw [if_neg (show ¬ ((Value.ref t == Value.none) = true) from Bool.false_ne_true)]
  show wpAny _ _ (field (.ref it) 1 >>= _) _ _ s
  refine wpAny_bind (wpAny_field ho hd (x := .int i 0) rfl ?_)
  show wpAny _ _ (seqItems? (.ref t) >>= _) _ _ s
  refine wpAny_bind (wpAny_seqItems hol hdl ?_)
  simp only [Int.toNat_natCast, hx]
  refine wpAny_bind (wpAny_setField ho hd (by simp) (wpAny_pure ⟨x, rfl, wpAny_pure (hQ _ ?_ (Heap.SameBut.update ..))⟩))
  exact ⟨_, Heap.get?_update_self _ ho (Obj.isFreed_of_fields (Obj.data_mapFields hd _)), (Obj.cls_mapFields ..).trans hc, by rw [Obj.data_mapFields hd]; simp [rawInt]⟩
theorem nextOf_tup_end {it t : Addr} {i : Nat} {items : Array Value} {Q : Value → Shared → Prop} (hh : A.handled = none) (hit : s.heap.IsTupleIter it t i) (ht : s.heap.IsTuple t items) (hx : items[i]? = none)
    (hE : ∀ h' e, Heap.ExtBut it s.heap h' → (∃ o, h'.get? e = some o ∧ o.cls = .type "StopIteration") → E (.ref e) { s with heap := h' }) : wpAny (model prog w) A (Builtin.SmallTypes.nextOf (.ref it)) Q E s := by
  obtain ⟨o, ho, hc, hd⟩ := id hit
  obtain ⟨ol, hol, _, nl, hdl⟩ := ht
  unfold Builtin.SmallTypes.nextOf
  refine wpAny_bind (wpAny_callSpecial?_slot (name := Str.ofString "__next__") hit.typeIs F.slot_tuple_iterator_next (wpAny_call_entry F.slot_tuple_iterator_next hit.typeIs F.entry_tuple_iterator_next ?_ (F.args_tuple_iterator_next_1 _)))
  show wpAny _ _ (field (.ref it) 0 >>= _) _ _ s
  refine wpAny_bind (wpAny_field ho hd (x := .ref t) rfl ?_)
  show wpAny _ _ (if (Value.ref t == Value.none) = true then _ else _) _ _ s
  rw [if_neg (show ¬ ((Value.ref t == Value.none) = true) from Bool.false_ne_true)]
  show wpAny _ _ (field (.ref it) 1 >>= _) _ _ s
  refine wpAny_bind (wpAny_field ho hd (x := .int i 0) rfl ?_)
  show wpAny _ _ (seqItems? (.ref t) >>= _) _ _ s
  refine wpAny_bind (wpAny_seqItems hol hdl ?_)
  simp only [Int.toNat_natCast, hx]
  refine wpAny_bind (wpAny_rule (wpAny_bind (wpAny_setField ho hd (by simp) ?_)))
  show wpAny _ _ (newExc (.type "StopIteration") [] >>= _) _ _ _
  refine wpAny_bind ?_
  simp only [newExc, newTuple]
  refine wpAny_bind (wpAny_newObj_type ?_ (by size_fits))
  refine wpAny_bind (m := firstArgMember _ _) (wpAny_of_eq (a := Value.none) (by first | rfl | (simp only [firstArgMember]; rfl)) ?_)
  refine wpAny_newObj_type ?_ (by size_fits)
  simp only [raiseNew]
  refine wpAny_bind (wpAny_handled ?_)
  first | rw [show A.in1.handled = none from hh] | rw [hh]
  refine wpAny_bind (wpAny_pure (wpAny_throw ?_))
  exact hE _ _ (((Heap.SameBut.update ..).extBut.push _).push _) ⟨_, Heap.get?_push_size _ rfl, rfl⟩
structure ZipSt (h : Heap) (z TI TO i1 i2 l1 l2 : Addr) (k : Nat) : Prop where
  z : IsZip h z TI TO .none
  ti : IsPair h TI (.ref i1) (.ref i2)
  to : ∃ a b, IsPair h TO a b
  i1 : h.IsTupleIter i1 l1 k
  i2 : h.IsListIter i2 l2 k
theorem zip_item {z TI TO i1 i2 l1 l2 : Addr} {k : Nat} {xs ys : Array Value} {x y : Value} {Q : Option Value → Shared → Prop} (D : ZipApart z TI TO i1 i2 l1 l2) (S : ZipSt s.heap z TI TO i1 i2 l1 l2 k) (hl1 : s.heap.IsTuple l1 xs) (hl2 : s.heap.IsList l2 ys) (hx : xs[k]? = some x) (hy : ys[k]? = some y)
    (hQ : ∀ h', IsZip h' z TI TO (rawInt s.heap.objs.size) → IsPair h' TO x y → h'.IsTupleIter i1 l1 (k + 1) → h'.IsListIter i2 l2 (k + 1) → IsPair h' s.heap.objs.size x y → h'.objs.size = s.heap.objs.size + 1 →
      (∀ c o, c ≠ z → c ≠ TO → c ≠ i1 → c ≠ i2 → s.heap.get? c = some o → h'.get? c = some o) → Q (some (.ref s.heap.objs.size)) { s with heap := h' }) : wpAny (model prog w) A (pyNext (.ref z)) Q E s := by
  obtain ⟨hz, hTI, ⟨a, b, hTO⟩, h1, h2⟩ := S
  have hT : s.TypeIs (.ref z) "zip" := ⟨_, hz, rfl⟩
  unfold pyNext
  refine wpAny_bind (wpAny_attempt (wpAny_callSpecial?_slot (name := Str.ofString "__next__") hT F.slot_zip_next (wpAny_call_entry F.slot_zip_next hT F.entry_zip_next ?_ (F.args_zip_next_1 _))))
  show wpAny _ _ (field (.ref z) 2 >>= _) _ _ _
  refine wpAny_bind (wpAny_field hz rfl (x := .bool false) rfl ?_)
  show wpAny _ _ (field (.ref z) 3 >>= _) _ _ _
  refine wpAny_bind (wpAny_field hz rfl (x := .ref TI) rfl ?_)
  refine wpAny_bind (wpAny_seqItems hTI rfl ?_)
  show wpAny _ _ (Builtin.SmallTypes.ownedTupleIsFree (.ref z) >>= _) _ _ _
  refine wpAny_bind ?_
  unfold Builtin.SmallTypes.ownedTupleIsFree
  refine wpAny_bind (wpAny_field hz rfl (x := .none) rfl (wpAny_pure ?_))
  simp only [if_true]
  refine wpAny_bind (wpAny_rule ?_)
  refine wpAny_bind (wpAny_field hz rfl (x := .ref TO) rfl ?_)
  refine wpAny_bind (wpAny_setField_rec hz (by simp) fun g1 hz1 e1 => ?_)
  replace hz1 : IsZip g1 z TI TO .ellipsis := hz1
  refine wpAny_bind ?_
  simp only [List.zipIdx_cons, List.zipIdx_nil, List.forIn_cons, List.forIn_nil]
  refine wpAny_bind (wpAny_bind (wpAny_onRaise ?_))
  show wpAny _ _ (Builtin.SmallTypes.nextOf (.ref i1) >>= _) _ _ _
  refine wpAny_bind (nextOf_tup (h1.extBut e1.extBut D.i1z) (hl1.extBut e1.extBut D.l1z) hx fun g2 h1' e2 => wpAny_pure ?_)
  have hTO2 : IsPair g2 TO a b := e2.extBut _ _ D.TOi1 (e1.extBut _ _ D.TOz hTO)
  refine wpAny_bind (wpAny_seqItems hTO2 rfl ?_)
  refine wpAny_bind (wpAny_updateSeq_pair hTO2 fun g3 hTO3 e3 => ?_)
  replace hTO3 : IsPair g3 TO x b := hTO3
  refine wpAny_bind (wpAny_letGo (wpAny_pure ?_))
  refine wpAny_bind (wpAny_bind (wpAny_onRaise ?_))
  show wpAny _ _ (Builtin.SmallTypes.nextOf (.ref i2) >>= _) _ _ _
  refine wpAny_bind (wpAny_nextOf_list_item (((h2.extBut e1.extBut D.i2z).extBut e2.extBut D.i12.symm).extBut e3.extBut D.TOi2.symm) (((hl2.extBut e1.extBut D.l2z).extBut e2.extBut D.l2i1).extBut e3.extBut D.l2TO) hy fun g4 h2' e4 => wpAny_pure ?_)
  have hTO4 : IsPair g4 TO x b := e4.extBut _ _ D.TOi2 hTO3
  refine wpAny_bind (wpAny_seqItems hTO4 rfl ?_)
  refine wpAny_bind (wpAny_updateSeq_pair hTO4 fun g5 hTO5 e5 => ?_)
  replace hTO5 : IsPair g5 TO x y := hTO5
  refine wpAny_bind (wpAny_letGo (wpAny_pure (wpAny_pure ?_)))
  refine wpAny_bind (wpAny_seqItems hTO5 rfl ?_)
  refine wpAny_bind (wpAny_newTuple ?_)
  have hsz : g5.objs.size = s.heap.objs.size := by rw [e5.1, e4.1, e3.1, e2.1, e1.1]
  have hz5 : IsZip g5 z TI TO .ellipsis := e5.extBut _ _ D.TOz.symm (e4.extBut _ _ D.i2z.symm (e3.extBut _ _ D.TOz.symm (e2.extBut _ _ D.i1z.symm hz1)))
  have hk5 : ∀ c o, c ≠ z → c ≠ TO → c ≠ i1 → c ≠ i2 → s.heap.get? c = some o → g5.get? c = some o := fun c o c1 c2 c3 c4 e => e5.extBut _ _ c2 (e4.extBut _ _ c4 (e3.extBut _ _ c2 (e2.extBut _ _ c3 (e1.extBut _ _ c1 e))))
  have h15 : g5.IsTupleIter i1 l1 (k + 1) := ((h1'.extBut e3.extBut D.TOi1.symm).extBut e4.extBut D.i12).extBut e5.extBut D.TOi1.symm
  have h25 : g5.IsListIter i2 l2 (k + 1) := h2'.extBut e5.extBut D.TOi2.symm
  have hzlt : z < g5.objs.size := Heap.lt_size hz5
  show wpAny _ _ (Builtin.SmallTypes.ownedTupleHandOut (.ref z) (.ref g5.objs.size) >>= _) _ _ _
  refine wpAny_bind ?_
  unfold Builtin.SmallTypes.ownedTupleHandOut
  have hz6 : IsZip (g5.push { cls := .type "tuple", data := .seq #[x, y] }) z TI TO .ellipsis := Heap.get?_push_of_some _ hz5
  refine wpAny_bind (wpAny_setField_rec hz6 (by simp) fun g7 hz7 e7 => ?_)
  replace hz7 : IsZip g7 z TI TO (rawInt g5.objs.size) := hz7
  refine wpAny_setField_rec hz7 (by simp) fun g8 hz8 e8 => ?_
  replace hz8 : IsZip g8 z TI TO (rawInt g5.objs.size) := hz8
  have up : ∀ c o, c ≠ z → g5.get? c = some o → g8.get? c = some o := fun c o c1 e => e8.extBut _ _ c1 (e7.extBut _ _ c1 (Heap.get?_push_of_some _ e))
  have hT8 : IsPair g8 g5.objs.size x y := e8.extBut _ _ (Nat.ne_of_gt hzlt) (e7.extBut _ _ (Nat.ne_of_gt hzlt) (Heap.get?_push_size _ rfl))
  have hs8 : g8.objs.size = g5.objs.size + 1 := by rw [e8.1, e7.1, Heap.size_push]
  rw [hsz] at hz8 hT8 hs8
  refine wpAny_pure ⟨_, rfl, wpAny_pure ?_⟩
  show Q (some (.ref g5.objs.size)) _
  rw [hsz]
  exact hQ g8 hz8 (up _ _ D.TOz hTO5) (let ⟨o, ho, r⟩ := h15; ⟨o, up _ o D.i1z ho, r⟩) (let ⟨o, ho, r⟩ := h25; ⟨o, up _ o D.i2z ho, r⟩) hT8 hs8 fun c o c1 c2 c3 c4 e => up c o c1 (hk5 c o c1 c2 c3 c4 e)
theorem zip_done {z TI TO i1 i2 l1 l2 : Addr} {k : Nat} {xs : Array Value} {Q : Option Value → Shared → Prop} (hh : A.handled = none) (D : ZipApart z TI TO i1 i2 l1 l2) (S : ZipSt s.heap z TI TO i1 i2 l1 l2 k) (hl1 : s.heap.IsTuple l1 xs) (hx : xs[k]? = none)
    (hQ : ∀ h', (∀ c o, c ≠ z → c ≠ i1 → s.heap.get? c = some o → h'.get? c = some o) → Q none { s with heap := h' }) : wpAny (model prog w) A (pyNext (.ref z)) Q E s := by
  obtain ⟨hz, hTI, ⟨a, b, hTO⟩, h1, h2⟩ := S
  have hT : s.TypeIs (.ref z) "zip" := ⟨_, hz, rfl⟩
  unfold pyNext
  refine wpAny_bind (wpAny_attempt (wpAny_callSpecial?_slot (name := Str.ofString "__next__") hT F.slot_zip_next (wpAny_call_entry F.slot_zip_next hT F.entry_zip_next ?_ (F.args_zip_next_1 _))))
  show wpAny _ _ (field (.ref z) 2 >>= _) _ _ _
  refine wpAny_bind (wpAny_field hz rfl (x := .bool false) rfl ?_)
  show wpAny _ _ (field (.ref z) 3 >>= _) _ _ _
  refine wpAny_bind (wpAny_field hz rfl (x := .ref TI) rfl ?_)
  refine wpAny_bind (wpAny_seqItems hTI rfl ?_)
  show wpAny _ _ (Builtin.SmallTypes.ownedTupleIsFree (.ref z) >>= _) _ _ _
  refine wpAny_bind ?_
  unfold Builtin.SmallTypes.ownedTupleIsFree
  refine wpAny_bind (wpAny_field hz rfl (x := .none) rfl (wpAny_pure ?_))
  simp only [if_true]
  refine wpAny_bind (wpAny_rule ?_)
  refine wpAny_bind (wpAny_field hz rfl (x := .ref TO) rfl ?_)
  refine wpAny_bind (wpAny_setField_rec hz (by simp) fun g1 hz1 e1 => ?_)
  replace hz1 : IsZip g1 z TI TO .ellipsis := hz1
  refine wpAny_bind ?_
  simp only [List.zipIdx_cons, List.zipIdx_nil, List.forIn_cons, List.forIn_nil]
  refine wpAny_bind (wpAny_bind (wpAny_onRaise ?_))
  show wpAny _ _ (Builtin.SmallTypes.nextOf (.ref i1) >>= _) _ _ _
  refine wpAny_bind (nextOf_tup_end hh (h1.extBut e1.extBut D.i1z) (hl1.extBut e1.extBut D.l1z) hx fun g2 e e2 he => ?_)
  obtain ⟨oe, hoe, hce⟩ := he
  have hz2 : IsZip g2 z TI TO .ellipsis := e2 _ _ D.i1z.symm hz1
  have hez : e ≠ z := fun x => by subst x; rw [hz2] at hoe; cases hoe; simp at hce
  refine wpAny_setField_rec hz2 (by simp) fun g3 _ e3 => ?_
  refine wpAny_bind (wpAny_isInstance (T := "StopIteration") (b := true) ⟨oe, e3.extBut _ _ hez hoe, hce⟩ isSubtype_stop ?_)
  exact wpAny_pure (hQ _ fun c o c1 c3 x => e3.extBut _ _ c1 (e2 _ _ c3 (e1.extBut _ _ c1 x)))
abbrev zH1 (h : Heap) (l1 : Addr) : Heap := h.push { cls := .type "tuple_iterator", data := .fields #[.ref l1, .int 0 0] }
abbrev zH2 (h : Heap) (l1 l2 : Addr) : Heap := (zH1 h l1).push { cls := .type "list_iterator", data := .fields #[.ref l2, .int 0 0] }
abbrev zH3 (h : Heap) (l1 l2 : Addr) : Heap := (zH2 h l1 l2).push { cls := .type "tuple", data := .seq #[.ref h.objs.size, .ref (zH1 h l1).objs.size] }
abbrev zH4 (h : Heap) (l1 l2 : Addr) : Heap := (zH3 h l1 l2).push { cls := .type "tuple", data := .seq #[.none, .none] }
abbrev zH5 (h : Heap) (l1 l2 : Addr) : Heap := (zH4 h l1 l2).push { cls := .type "zip", data := .fields #[.none, .bool false, .bool false, .ref (zH2 h l1 l2).objs.size, .ref (zH3 h l1 l2).objs.size] }
theorem meets_zip (l1 l2 : Addr) (xs ys : Array Value) :
    Meets (Builtin.«zip.__new__» ⟨[.type "zip", .ref l1, .ref l2], []⟩) (fun _ R s => s.heap.IsTuple l1 xs ∧ s.heap.IsList l2 ys ∧ R (.ok (.ret (.ref (zH4 s.heap l1 l2).objs.size))) { s with heap := zH5 s.heap l1 l2 }) :=
  .of_wp fun prog w A R s h => by
    obtain ⟨hp, g, d, tk, os⟩ := s; obtain ⟨hl1, hl2, h⟩ := h
    have hsub := sub_zip
    have hL1 : Heap.IsTuple (Shared.heap ⟨hp, g, d, tk, os⟩) l1 xs := hl1
    have hL2 : Heap.IsList (Shared.heap ⟨hp.push { cls := .type "tuple_iterator", data := .fields #[.ref l1, .int 0 0] }, g, d, tk, os⟩) l2 ys := Heap.IsList.push hl2 _
    wp_walk using wpAny_pyIter_tuple hL1, wpAny_pyIter_list hL2
    exact ⟨_, rfl, h⟩
theorem call_zip {l1 l2 : Addr} {xs ys : Array Value} {Q : Value → Shared → Prop} (hl1 : s.heap.IsTuple l1 xs) (hl2 : s.heap.IsList l2 ys)
    (h : ∀ h', ZipSt h' (s.heap.objs.size + 4) (s.heap.objs.size + 2) (s.heap.objs.size + 3) s.heap.objs.size (s.heap.objs.size + 1) l1 l2 0 → (∀ c o, s.heap.get? c = some o → h'.get? c = some o) → Q (.ref (s.heap.objs.size + 4)) { s with heap := h' }) :
    wpAny (model prog w) A (call (.type "zip") [.ref l1, .ref l2]) Q E s := by
  refine callType_new F.called_zip (by decide) (F.typeCall_zip_2 _ _) (F.newCall_zip_2 _ _) (fun obj => F.args_object_init_3 obj _ _) F.entry_zip_new (meets_zip l1 l2 xs ys) ⟨hl1, hl2, ?_⟩
  have z1 : (zH1 s.heap l1).objs.size = s.heap.objs.size + 1 := Heap.size_push ..
  have z2 : (zH2 s.heap l1 l2).objs.size = s.heap.objs.size + 2 := by rw [Heap.size_push, z1]
  have z3 : (zH3 s.heap l1 l2).objs.size = s.heap.objs.size + 3 := by rw [Heap.size_push, z2]
  have z4 : (zH4 s.heap l1 l2).objs.size = s.heap.objs.size + 4 := by rw [Heap.size_push, z3]
  have g5 : (zH5 s.heap l1 l2).get? (zH4 s.heap l1 l2).objs.size = some _ := Heap.get?_push_size _ rfl
  have g4 : (zH5 s.heap l1 l2).get? (zH3 s.heap l1 l2).objs.size = some _ := Heap.get?_push_of_some _ (Heap.get?_push_size _ rfl)
  have g3 : (zH5 s.heap l1 l2).get? (zH2 s.heap l1 l2).objs.size = some _ := Heap.get?_push_of_some _ (Heap.get?_push_of_some _ (Heap.get?_push_size _ rfl))
  have g2 : (zH5 s.heap l1 l2).get? (zH1 s.heap l1).objs.size = some _ := Heap.get?_push_of_some _ (Heap.get?_push_of_some _ (Heap.get?_push_of_some _ (Heap.get?_push_size _ rfl)))
  have g1 : (zH5 s.heap l1 l2).get? s.heap.objs.size = some _ := Heap.get?_push_of_some _ (Heap.get?_push_of_some _ (Heap.get?_push_of_some _ (Heap.get?_push_of_some _ (Heap.get?_push_size _ rfl))))
  show _ ∧ _
  rw [z2, z3, z4] at g5
  rw [z1, z2] at g3
  rw [z3] at g4
  rw [z1] at g2
  rw [z4]
  exact ⟨⟨_, g5, rfl⟩, h _ ⟨g5, g3, ⟨_, _, g4⟩, ⟨_, g1, rfl, rfl⟩, ⟨_, g2, rfl, rfl⟩⟩ fun c o x => Heap.get?_push_of_some _ (Heap.get?_push_of_some _ (Heap.get?_push_of_some _ (Heap.get?_push_of_some _ (Heap.get?_push_of_some _ x))))⟩
end
def Itz (K : PySem.W.Frag) (a b : Addr) : It :=
  ⟨fun i H => ∃ xs ys x y, SqT K H a xs ∧ SqL K H b ys ∧ xs[i]? = some x ∧ ys[i]? = some y, fun i H v H' => ∃ t x y, v = .ref t ∧ H t = none ∧ H' = upd H t (.tup [x, y]) ∧ ∀ xs ys, SqT K H a xs → SqL K H b ys → xs[i]? = some x ∧ ys[i]? = some y, fun i H => ∃ xs, SqT K H a xs ∧ xs.length ≤ i⟩
theorem turn_zip {P : Program} {w : World} {K : PySem.W.Frag} {elts : List Expr} {x1} {pos : Pos} (a b z TI TO i1 i2 : Addr) (D : ZipApart z TI TO i1 i2 a b) :
    Turn P w K (.Tuple elts x1 pos) (Itz K a b) [z, TI, TO, i1, i2] z (fun i h => ZipSt h z TI TO i1 i2 a b i) where
  mem := by simp
  obj := fun i h st c hc => by
    have cell_no : ∀ {v : Option Value} {ys : Array Value}, Data.fields ys ≠ Data.cell v := fun z => by cases z
    have cell_no2 : ∀ {v : Option Value} {ys : Array Value} {n : Nat}, Data.seq ys n ≠ Data.cell v := fun z => by cases z
    have hc : c = z ∨ c = TI ∨ c = TO ∨ c = i1 ∨ c = i2 := by simpa using hc
    obtain ⟨hz, hTI, ⟨u, v, hTO⟩, ⟨o1, h1, _, d1⟩, ⟨o2, h2, _, d2⟩⟩ := st
    rcases hc with rfl | rfl | rfl | rfl | rfl
    · exact ⟨_, hz, fun v => cell_no⟩
    · exact ⟨_, hTI, fun v => cell_no2⟩
    · exact ⟨_, hTO, fun v => cell_no2⟩
    · exact ⟨o1, h1, fun v z => cell_no (d1.symm.trans z)⟩
    · exact ⟨o2, h2, fun v z => cell_no (d2.symm.trans z)⟩
  keep := fun i h h' st k => ⟨k z (by simp) _ st.z, k TI (by simp) _ st.ti, let ⟨u, v, e⟩ := st.to; ⟨u, v, k TO (by simp) _ e⟩, let ⟨o, e, r⟩ := st.i1; ⟨o, k i1 (by simp) _ e, r⟩, let ⟨o, e, r⟩ := st.i2; ⟨o, k i2 (by simp) _ e, r⟩⟩
  item := by
    intro X hP hw hK hc i pins s σ H E I hf st hg
    subst hP hw hK
    obtain ⟨xs, ys, x, y, hq, hq2, hx, hy⟩ := hg
    obtain ⟨its, rv, p, hz⟩ := I.tuple hq
    obtain ⟨its2, rv2, p2, hz2⟩ := I.list hq2
    obtain ⟨u, hu, ru⟩ := rv.get hx
    obtain ⟨u2, hu2, ru2⟩ := rv2.get hy
    refine zip_item D st (show s.heap.IsTuple a its.toArray from p) p2.isList (x := u) (y := u2) (by simpa using hu) (by simpa using hu2) fun h1 ez eto e1 e2 ht hsz kk => ?_
    refine ⟨_, rfl, wpAny_letOwnedTupleGo_zip ez fun h2 en sb => ?_⟩
    have hT : H s.heap.objs.size = none := I.hok.fresh (Nat.le_refl _)
    have lt : ∀ {c o}, s.heap.get? c = some o → c ≠ s.heap.objs.size := fun e => Nat.ne_of_lt (Heap.lt_size e)
    have hzf := lt st.z
    have hTIf := lt st.ti
    have hTOf := let ⟨_, _, e⟩ := st.to; lt e
    have h1f := let ⟨_, e, _⟩ := st.i1; lt e
    have h2f := let ⟨_, e, _⟩ := st.i2; lt e
    have ht2 : h2.get? s.heap.objs.size = some { cls := .type "tuple", data := .seq #[u, u2] } := (sb.2 _ (Ne.symm hzf)).trans ht
    have I1 : Inv X pins σ (upd H s.heap.objs.size (.tup [x, y])) { s with heap := s.heap.push { cls := .type "tuple", data := .seq #[u, u2] } } :=
      I.laid (t' := s.toks) (fun b o q => Heap.get?_push_of_some _ q) (Nat.le_refl _) ⟨by show 2 ≤ sizeLine; decide, [u, u2], .cons ru (.cons ru2 .nil), ⟨_, Heap.get?_push_size _ rfl, rfl, _, rfl⟩⟩
    have hf1 : ∀ c ∈ [z, TI, TO, i1, i2], FpOk X pins (upd H s.heap.objs.size (.tup [x, y])) c := fun c hc => by
      refine ⟨?_, (hf c hc).2⟩
      have hc' : c = z ∨ c = TI ∨ c = TO ∨ c = i1 ∨ c = i2 := by simpa using hc
      rw [upd_ne (by rcases hc' with rfl | rfl | rfl | rfl | rfl; exact hzf; exact hTIf; exact hTOf; exact h1f; exact h2f)]
      exact (hf c hc).1
    have I2 : Inv X pins σ (upd H s.heap.objs.size (.tup [x, y])) { s with heap := h2, toks := s.toks } := by
      have J := Inv.turnedL (t' := s.toks) (h' := h2) (ch := [z, TI, TO, i1, i2]) I1 ?k hf1
      · exact J
      intro c o hc q
      dsimp only at q
      simp only [List.mem_cons, List.not_mem_nil, or_false, not_or] at hc
      rcases PySem.Heap.get?_push_cases q with ⟨rfl, rfl⟩ | q
      · exact ht2
      · exact (sb.2 c hc.1).trans (kk c o hc.1 hc.2.2.1 hc.2.2.2.1 hc.2.2.2.2 q)
    refine ⟨.ref s.heap.objs.size, _, I2, rfl, ⟨_, x, y, rfl, hT, rfl, fun vs us h1 h2 => ⟨by rw [I.tuple_inj h1 hq]; exact hx, by rw [I.list_inj h2 hq2]; exact hy⟩⟩, ⟨en, sb.extBut _ _ D.TIz (kk _ _ D.TIz D.TITO D.TIi1 D.TIi2 st.ti), ⟨_, _, sb.extBut _ _ D.TOz eto⟩, e1.extBut sb.extBut D.i1z, e2.extBut sb.extBut D.i2z⟩, fun b hb => (hf1 b hb).1⟩
  done := by
    intro X hP hw hK hc i pins s σ H E I hf st hg
    subst hP hw hK
    obtain ⟨xs, hq, hx⟩ := hg
    obtain ⟨its, rv, p, hz⟩ := I.tuple hq
    have hl := rv.length
    refine zip_done (I.ok.hd hc) D st (show s.heap.IsTuple a its.toArray from p) (by simp; omega) fun h' kk => ⟨rfl, ?_⟩
    exact Inv.turnedL (t' := s.toks) (h' := h') (ch := [z, i1]) I (fun c o hc q => by
      simp only [List.mem_cons, List.not_mem_nil, or_false, not_or] at hc
      exact kk c o hc.1 hc.2 q) (fun c hc => hf c (by
      have hc : c = z ∨ c = i1 := by simpa using hc
      rcases hc with rfl | rfl <;> simp))
  self := fun _ _ _ _ _ st h => wpAny_pyIter_zip st.z h
section
variable {X : Cx}
def iZip (K : PySem.W.Frag) (ta : TA) : TI := fun σ H R => ta σ H fun vs H1 => ∃ a b xs ys, vs = [.ref a, .ref b] ∧ SqT K H1 a xs ∧ SqL K H1 b ys ∧ R (Itz K a b) H1
theorem boot_zip : bootBuiltins "zip" = some (.type "zip") := by decide +kernel
theorem zip_apart (n a b : Nat) (ha : a < n) (hb : b < n) : ZipApart (n + 4) (n + 2) (n + 3) n (n + 1) a b := by
  constructor <;> (show ¬ ((_ : Nat) = _)) <;> omega
theorem zip_le (n c : Nat) (h : c = n + 4 ∨ c = n + 2 ∨ c = n + 3 ∨ c = n ∨ c = n + 1) : n ≤ c := by omega
theorem pi_zip {e e2 : Expr} {ta : TA} {p pos tpos : Pos} {elts : List Expr} {x1} (hg : Gl X "zip") (hm : X.mg "zip" = none) (ha : PA X [e, e2] ta) (hs : starEach [e, e2] X.env = (false, eval e X.env) :: starEach [e2] X.env := by rfl) (hp : (backTo pos (starEach [e2] X.env)).any (·.1) = false := by rfl) :
    PI X (.Tuple elts x1 tpos) (.Call (.Name "zip" p) [e, e2] [] pos) (iZip X.K ta) := by
  intro pins s σ H R I h
  refine Call_ (ld_blt I hg hm boot_zip (PyProof.Rows.callWith_type1 (thn (ha pos pins s σ H _ I h) fun us s1 ⟨vs, H1, I1, r1, q1⟩ => ?_) hs hp))
  obtain ⟨a, b, xs, ys, ev, hq, hq2, q⟩ := q1
  subst ev
  obtain ⟨u, u2, rfl, ru, ru2⟩ : ∃ u u2, us = [u, u2] ∧ RelV (.ref a) u ∧ RelV (.ref b) u2 := by
    cases r1 with
    | cons r rr =>
      cases rr with
      | cons r2 rr2 => cases rr2; exact ⟨_, _, rfl, r, r2⟩
  cases ru
  cases ru2
  obtain ⟨its, rv, pl, hz⟩ := I1.tuple hq
  obtain ⟨its2, rv2, pl2, hz2⟩ := I1.list hq2
  have hta : a < s1.heap.objs.size := let ⟨_, e, _⟩ := (show s1.heap.IsTuple a its.toArray from pl); Heap.lt_size e
  have htb : b < s1.heap.objs.size := let ⟨_, e, _⟩ := pl2.isList; Heap.lt_size e
  refine call_zip (show s1.heap.IsTuple a its.toArray from pl) pl2.isList fun h' st kk => wpAny_pyIter_zip st.z ?_
  have I2 : Inv X pins σ H1 { s1 with heap := h' } := I1.kept (t' := s1.toks) kk
  have D := zip_apart s1.heap.objs.size a b hta htb
  refine ⟨s1.heap.objs.size + 4, [s1.heap.objs.size + 4, s1.heap.objs.size + 2, s1.heap.objs.size + 3, s1.heap.objs.size, s1.heap.objs.size + 1], _, _, H1, rfl, I2, turn_zip a b _ _ _ _ _ D, st, fun c hc => ?_, q⟩
  have hle : s1.heap.objs.size ≤ c := by
    simp only [List.mem_cons, List.not_mem_nil, or_false] at hc
    exact zip_le _ c hc
  exact I1.fpOk hle (I1.hok.fresh hle)
end
theorem comp_zip {K : PySem.W.Frag} {a b : Addr} {xs ys : List V} {g : TG} {tt : TT} {te : TE} {h : HidC g tt te} {σ0 : St} {D : Addr} {Q : Hp → Prop} {H : Hp} (Pv : Nat → List V → St → Hp → Prop) (hn : xs.length = ys.length) (h0 : Pv 0 [] σ0 (upd H D (.lst []))) (hl : ∀ i zs σ H, i ≤ xs.length → Pv i zs σ H → SqT K H a xs ∧ SqL K H b ys)
    (hs : ∀ i x y t zs σ H, xs[i]? = some x → ys[i]? = some y → Pv i zs σ H → H t = none → g (.ref t) σ (upd H t (.tup [x, y])) fun σ2 H2 => tt σ2 H2 fun b H2' => if b = true then te σ2 H2' fun v H3 => H3 D = some (.lst zs) ∧ zs.length < sizeLine ∧ Pv (i + 1) (zs ++ [v]) σ2 (upd H3 D (.lst (zs ++ [v]))) else Pv (i + 1) zs σ2 H2') (hd : ∀ zs σ H, Pv xs.length zs σ H → Q H) :
    Comp g tt te h (Itz K a b) σ0 D Q H := by
  refine ⟨fun i m zs σ H => i + m = xs.length ∧ Pv i zs σ H, ⟨xs.length, Nat.zero_add _, h0⟩, fun i m zs σ H ⟨e, p⟩ => ?_⟩
  obtain ⟨hq, hq2⟩ := hl i zs σ H (by omega) p
  by_cases hi : i < xs.length
  · have ex : xs[i]? = some xs[i] := List.getElem?_eq_getElem hi
    have ey : ys[i]? = some (ys[i]'(by omega)) := List.getElem?_eq_getElem (by omega)
    refine .inr ⟨⟨xs, ys, _, _, hq, hq2, ex, ey⟩, Pv (i + 1), fun zs σ H q => ⟨m - 1, by omega, by omega, q⟩, ?_⟩
    rintro v H' ⟨t, x, y, rfl, ht, rfl, hy⟩
    exact hs i x y t zs σ H (hy xs ys hq hq2).1 (hy xs ys hq hq2).2 p ht
  · have e' : i = xs.length := by omega
    subst e'
    exact .inl ⟨⟨xs, hq, Nat.le_refl _⟩, hd zs σ H p⟩
theorem tuple_indexAt (l : Addr) (items : Array Value) (n : Nat) (dd : Option Addr) (sl : Array (Option Value)) (x : Value) (e : Value → Bool) (j : Nat) (hj : j < items.size) (hit : e items[j] = true) (hno : ∀ m (hm : m < items.size), m < j → e items[m] = false) :
    Meets (Builtin.«tuple.index» ⟨[.ref l, x], []⟩)
      (fun A R s => s.heap.get? l = some { cls := .type "tuple", dict := dd, data := .seq items n, slots := sl } ∧ (∀ y, y ∈ items → SeqAt.EqAt A.in1 s y x (e y)) ∧ R (.ok (.ret (.int j s.toks))) { s with toks := s.toks + 1 }) := by
  intro prog w A R s h
  obtain ⟨hl, he, h⟩ := h
  show wpAny _ _ (Builtin.Tuple.tupleItemsOf (.ref l) >>= _) _ _ s
  refine wpAny_bind (wpAny_tupleItemsOf hl rfl ?_)
  simp only [pure_bind]
  refine wpAny_bind ?_
  rw [Std.Legacy.Range.forIn_eq_forIn_range']
  have hsz : (List.range' ([:min items.size items.size] : Std.Legacy.Range).start ([:min items.size items.size] : Std.Legacy.Range).size ([:min items.size items.size] : Std.Legacy.Range).step) = List.range' 0 items.size 1 := by
    simp [Std.Legacy.Range.size]
  rw [hsz]
  refine wpAny_forIn_list _ (fun rest r s' => r.1 = none ∧ s' = s ∧ ∃ m, rest = List.range' m (items.size - m) 1 ∧ m ≤ j) _ ?_ ?_ _ _ ⟨rfl, rfl, 0, by simp, Nat.zero_le _⟩
  · rintro i rest r s' ⟨hr, rfl, m, hm, hmj⟩
    obtain ⟨k, hk⟩ : ∃ k, items.size - m = k + 1 := ⟨items.size - m - 1, by omega⟩
    rw [hk, List.range'_succ] at hm
    obtain ⟨rfl, rfl⟩ := List.cons.inj hm
    have hi : i < items.size := by omega
    rw [Array.getElem?_eq_getElem hi]
    refine wpAny_bind (he _ (Array.getElem_mem hi) prog w _ _ ?_)
    by_cases c : i = j
    · subst c
      rw [hit]
      simp only [if_true]
      refine wpAny_bind (wpAny_mono (show wpAny _ _ (retInt (i : Int)) _ (fun e s' => R (.error e) s') _ from wpAny_ret_mkInt (Q := fun v s2 => v = .int i s'.toks ∧ s2 = { s' with toks := s'.toks + 1 }) ⟨rfl, rfl⟩) ?_ (fun _ _ z => z))
      rintro _ _ ⟨v, rfl, rfl, rfl⟩
      exact wpAny_pure (wpAny_pure h)
    · rw [hno i hi (by omega)]
      simp only [Bool.false_eq_true, if_false]
      exact wpAny_pure ⟨rfl, rfl, i + 1, by rw [show items.size - (i + 1) = k by omega], by omega⟩
  · rintro r s' ⟨hr, rfl, m, hm, hmj⟩
    have := congrArg List.length hm
    rw [List.length_range'] at this
    simp only [List.length_nil] at this
    omega
theorem mt_indexT {X : Cx} : MtR X "tuple.index" (fun x vs H Q => ∃ l xs y j, x = .ref l ∧ vs = [y] ∧ SqT X.K H l xs ∧ flatV y = true ∧ xs.all flatV = true ∧ xs.findIdx? (fun z => eqV z y) = some j ∧ Q (.int j) H) := by
  intro pins s σ H x vs v us Q I rx rv h
  obtain ⟨l, xs, y, j, rfl, rfl, hq, fy, fs, hj, q⟩ := h
  cases rx
  obtain ⟨u, rfl, ru⟩ := rv.one
  obtain ⟨its, r, pl, hz⟩ := I.tuple hq
  obtain ⟨⟨cls, dd, data, sl⟩, ho, hc, n, hd⟩ := (show s.heap.IsTuple l its.toArray from pl)
  simp only at hc hd
  subst hc hd
  obtain ⟨hjl, hit, hno⟩ := List.findIdx?_eq_some_iff_getElem.mp hj
  have hl := r.length
  have eqx : ∀ m (h1 : m < xs.length) (h2 : m < its.length), eqU y its[m] = eqV xs[m] y := fun m h1 h2 => eqU_of (r.at m h1 h2) (List.all_eq_true.mp fs _ (List.getElem_mem h1))
  refine call_meets F.slot_tuple_index ⟨_, ho, rfl⟩ F.entry_tuple_index (F.args_tuple_index_2 _ _) (tuple_indexAt l its.toArray n dd sl u (eqU y) j (by simp; omega) ?_ ?_) ⟨ho, fun w hw => mem_eqAt ru fy r fs w (by simpa using hw), ⟨.int j, H, I.tok _, ⟨_, rfl⟩, q⟩⟩
  · simp only [List.getElem_toArray]
    rw [eqx j hjl (by omega)]
    exact hit
  · intro m hm hmj
    simp only [List.size_toArray] at hm
    simp only [List.getElem_toArray]
    rw [eqx m (by omega) hm]
    simpa using hno m hmj
end L2
namespace L2
open PySem PySem.Spec PyProof.Rows
section
variable {prog : Program} {w : World} {A : Around} {E : Value → Shared → Prop} {s : Shared}
structure ZipStT (h : Heap) (z TI TO i1 i2 l1 l2 : Addr) (k : Nat) : Prop where
  z : IsZip h z TI TO .none
  ti : IsPair h TI (.ref i1) (.ref i2)
  to : ∃ a b, IsPair h TO a b
  i1 : h.IsTupleIter i1 l1 k
  i2 : h.IsTupleIter i2 l2 k
theorem zip_itemT {z TI TO i1 i2 l1 l2 : Addr} {k : Nat} {xs ys : Array Value} {x y : Value} {Q : Option Value → Shared → Prop} (D : ZipApart z TI TO i1 i2 l1 l2) (S : ZipStT s.heap z TI TO i1 i2 l1 l2 k) (hl1 : s.heap.IsTuple l1 xs) (hl2 : s.heap.IsTuple l2 ys) (hx : xs[k]? = some x) (hy : ys[k]? = some y)
    (hQ : ∀ h', IsZip h' z TI TO (rawInt s.heap.objs.size) → IsPair h' TO x y → h'.IsTupleIter i1 l1 (k + 1) → h'.IsTupleIter i2 l2 (k + 1) → IsPair h' s.heap.objs.size x y → h'.objs.size = s.heap.objs.size + 1 →
      (∀ c o, c ≠ z → c ≠ TO → c ≠ i1 → c ≠ i2 → s.heap.get? c = some o → h'.get? c = some o) → Q (some (.ref s.heap.objs.size)) { s with heap := h' }) : wpAny (model prog w) A (pyNext (.ref z)) Q E s := by
  obtain ⟨hz, hTI, ⟨a, b, hTO⟩, h1, h2⟩ := S
  have hT : s.TypeIs (.ref z) "zip" := ⟨_, hz, rfl⟩
  unfold pyNext
  refine wpAny_bind (wpAny_attempt (wpAny_callSpecial?_slot (name := Str.ofString "__next__") hT F.slot_zip_next (wpAny_call_entry F.slot_zip_next hT F.entry_zip_next ?_ (F.args_zip_next_1 _))))
  show wpAny _ _ (field (.ref z) 2 >>= _) _ _ _
  refine wpAny_bind (wpAny_field hz rfl (x := .bool false) rfl ?_)
  show wpAny _ _ (field (.ref z) 3 >>= _) _ _ _
  refine wpAny_bind (wpAny_field hz rfl (x := .ref TI) rfl ?_)
  refine wpAny_bind (wpAny_seqItems hTI rfl ?_)
  show wpAny _ _ (Builtin.SmallTypes.ownedTupleIsFree (.ref z) >>= _) _ _ _
  refine wpAny_bind ?_
  unfold Builtin.SmallTypes.ownedTupleIsFree
  refine wpAny_bind (wpAny_field hz rfl (x := .none) rfl (wpAny_pure ?_))
  simp only [if_true]
  refine wpAny_bind (wpAny_rule ?_)
  refine wpAny_bind (wpAny_field hz rfl (x := .ref TO) rfl ?_)
  refine wpAny_bind (wpAny_setField_rec hz (by simp) fun g1 hz1 e1 => ?_)
  replace hz1 : IsZip g1 z TI TO .ellipsis := hz1
  refine wpAny_bind ?_
  simp only [List.zipIdx_cons, List.zipIdx_nil, List.forIn_cons, List.forIn_nil]
  refine wpAny_bind (wpAny_bind (wpAny_onRaise ?_))
  show wpAny _ _ (Builtin.SmallTypes.nextOf (.ref i1) >>= _) _ _ _
  refine wpAny_bind (nextOf_tup (h1.extBut e1.extBut D.i1z) (hl1.extBut e1.extBut D.l1z) hx fun g2 h1' e2 => wpAny_pure ?_)
  have hTO2 : IsPair g2 TO a b := e2.extBut _ _ D.TOi1 (e1.extBut _ _ D.TOz hTO)
  refine wpAny_bind (wpAny_seqItems hTO2 rfl ?_)
  refine wpAny_bind (wpAny_updateSeq_pair hTO2 fun g3 hTO3 e3 => ?_)
  replace hTO3 : IsPair g3 TO x b := hTO3
  refine wpAny_bind (wpAny_letGo (wpAny_pure ?_))
  refine wpAny_bind (wpAny_bind (wpAny_onRaise ?_))
  show wpAny _ _ (Builtin.SmallTypes.nextOf (.ref i2) >>= _) _ _ _
  refine wpAny_bind (nextOf_tup (((h2.extBut e1.extBut D.i2z).extBut e2.extBut D.i12.symm).extBut e3.extBut D.TOi2.symm) (((hl2.extBut e1.extBut D.l2z).extBut e2.extBut D.l2i1).extBut e3.extBut D.l2TO) hy fun g4 h2' e4 => wpAny_pure ?_)
  have hTO4 : IsPair g4 TO x b := e4.extBut _ _ D.TOi2 hTO3
  refine wpAny_bind (wpAny_seqItems hTO4 rfl ?_)
  refine wpAny_bind (wpAny_updateSeq_pair hTO4 fun g5 hTO5 e5 => ?_)
  replace hTO5 : IsPair g5 TO x y := hTO5
  refine wpAny_bind (wpAny_letGo (wpAny_pure (wpAny_pure ?_)))
  refine wpAny_bind (wpAny_seqItems hTO5 rfl ?_)
  refine wpAny_bind (wpAny_newTuple ?_)
  have hsz : g5.objs.size = s.heap.objs.size := by rw [e5.1, e4.1, e3.1, e2.1, e1.1]
  have hz5 : IsZip g5 z TI TO .ellipsis := e5.extBut _ _ D.TOz.symm (e4.extBut _ _ D.i2z.symm (e3.extBut _ _ D.TOz.symm (e2.extBut _ _ D.i1z.symm hz1)))
  have hk5 : ∀ c o, c ≠ z → c ≠ TO → c ≠ i1 → c ≠ i2 → s.heap.get? c = some o → g5.get? c = some o := fun c o c1 c2 c3 c4 e => e5.extBut _ _ c2 (e4.extBut _ _ c4 (e3.extBut _ _ c2 (e2.extBut _ _ c3 (e1.extBut _ _ c1 e))))
  have h15 : g5.IsTupleIter i1 l1 (k + 1) := ((h1'.extBut e3.extBut D.TOi1.symm).extBut e4.extBut D.i12).extBut e5.extBut D.TOi1.symm
  have h25 : g5.IsTupleIter i2 l2 (k + 1) := h2'.extBut e5.extBut D.TOi2.symm
  have hzlt : z < g5.objs.size := Heap.lt_size hz5
  show wpAny _ _ (Builtin.SmallTypes.ownedTupleHandOut (.ref z) (.ref g5.objs.size) >>= _) _ _ _
  refine wpAny_bind ?_
  unfold Builtin.SmallTypes.ownedTupleHandOut
  have hz6 : IsZip (g5.push { cls := .type "tuple", data := .seq #[x, y] }) z TI TO .ellipsis := Heap.get?_push_of_some _ hz5
  refine wpAny_bind (wpAny_setField_rec hz6 (by simp) fun g7 hz7 e7 => ?_)
  replace hz7 : IsZip g7 z TI TO (rawInt g5.objs.size) := hz7
  refine wpAny_setField_rec hz7 (by simp) fun g8 hz8 e8 => ?_
  replace hz8 : IsZip g8 z TI TO (rawInt g5.objs.size) := hz8
  have up : ∀ c o, c ≠ z → g5.get? c = some o → g8.get? c = some o := fun c o c1 e => e8.extBut _ _ c1 (e7.extBut _ _ c1 (Heap.get?_push_of_some _ e))
  have hT8 : IsPair g8 g5.objs.size x y := e8.extBut _ _ (Nat.ne_of_gt hzlt) (e7.extBut _ _ (Nat.ne_of_gt hzlt) (Heap.get?_push_size _ rfl))
  have hs8 : g8.objs.size = g5.objs.size + 1 := by rw [e8.1, e7.1, Heap.size_push]
  rw [hsz] at hz8 hT8 hs8
  refine wpAny_pure ⟨_, rfl, wpAny_pure ?_⟩
  show Q (some (.ref g5.objs.size)) _
  rw [hsz]
  exact hQ g8 hz8 (up _ _ D.TOz hTO5) (let ⟨o, ho, r⟩ := h15; ⟨o, up _ o D.i1z ho, r⟩) (let ⟨o, ho, r⟩ := h25; ⟨o, up _ o D.i2z ho, r⟩) hT8 hs8 fun c o c1 c2 c3 c4 e => up c o c1 (hk5 c o c1 c2 c3 c4 e)
theorem zip_doneT {z TI TO i1 i2 l1 l2 : Addr} {k : Nat} {xs : Array Value} {Q : Option Value → Shared → Prop} (hh : A.handled = none) (D : ZipApart z TI TO i1 i2 l1 l2) (S : ZipStT s.heap z TI TO i1 i2 l1 l2 k) (hl1 : s.heap.IsTuple l1 xs) (hx : xs[k]? = none)
    (hQ : ∀ h', (∀ c o, c ≠ z → c ≠ i1 → s.heap.get? c = some o → h'.get? c = some o) → Q none { s with heap := h' }) : wpAny (model prog w) A (pyNext (.ref z)) Q E s := by
  obtain ⟨hz, hTI, ⟨a, b, hTO⟩, h1, h2⟩ := S
  have hT : s.TypeIs (.ref z) "zip" := ⟨_, hz, rfl⟩
  unfold pyNext
  refine wpAny_bind (wpAny_attempt (wpAny_callSpecial?_slot (name := Str.ofString "__next__") hT F.slot_zip_next (wpAny_call_entry F.slot_zip_next hT F.entry_zip_next ?_ (F.args_zip_next_1 _))))
  show wpAny _ _ (field (.ref z) 2 >>= _) _ _ _
  refine wpAny_bind (wpAny_field hz rfl (x := .bool false) rfl ?_)
  show wpAny _ _ (field (.ref z) 3 >>= _) _ _ _
  refine wpAny_bind (wpAny_field hz rfl (x := .ref TI) rfl ?_)
  refine wpAny_bind (wpAny_seqItems hTI rfl ?_)
  show wpAny _ _ (Builtin.SmallTypes.ownedTupleIsFree (.ref z) >>= _) _ _ _
  refine wpAny_bind ?_
  unfold Builtin.SmallTypes.ownedTupleIsFree
  refine wpAny_bind (wpAny_field hz rfl (x := .none) rfl (wpAny_pure ?_))
  simp only [if_true]
  refine wpAny_bind (wpAny_rule ?_)
  refine wpAny_bind (wpAny_field hz rfl (x := .ref TO) rfl ?_)
  refine wpAny_bind (wpAny_setField_rec hz (by simp) fun g1 hz1 e1 => ?_)
  replace hz1 : IsZip g1 z TI TO .ellipsis := hz1
  refine wpAny_bind ?_
  simp only [List.zipIdx_cons, List.zipIdx_nil, List.forIn_cons, List.forIn_nil]
  refine wpAny_bind (wpAny_bind (wpAny_onRaise ?_))
  show wpAny _ _ (Builtin.SmallTypes.nextOf (.ref i1) >>= _) _ _ _
  refine wpAny_bind (nextOf_tup_end hh (h1.extBut e1.extBut D.i1z) (hl1.extBut e1.extBut D.l1z) hx fun g2 e e2 he => ?_)
  obtain ⟨oe, hoe, hce⟩ := he
  have hz2 : IsZip g2 z TI TO .ellipsis := e2 _ _ D.i1z.symm hz1
  have hez : e ≠ z := fun x => by subst x; rw [hz2] at hoe; cases hoe; simp at hce
  refine wpAny_setField_rec hz2 (by simp) fun g3 _ e3 => ?_
  refine wpAny_bind (wpAny_isInstance (T := "StopIteration") (b := true) ⟨oe, e3.extBut _ _ hez hoe, hce⟩ isSubtype_stop ?_)
  exact wpAny_pure (hQ _ fun c o c1 c3 x => e3.extBut _ _ c1 (e2 _ _ c3 (e1.extBut _ _ c1 x)))
abbrev zH1T (h : Heap) (l1 : Addr) : Heap := h.push { cls := .type "tuple_iterator", data := .fields #[.ref l1, .int 0 0] }
abbrev zH2T (h : Heap) (l1 l2 : Addr) : Heap := (zH1T h l1).push { cls := .type "tuple_iterator", data := .fields #[.ref l2, .int 0 0] }
abbrev zH3T (h : Heap) (l1 l2 : Addr) : Heap := (zH2T h l1 l2).push { cls := .type "tuple", data := .seq #[.ref h.objs.size, .ref (zH1T h l1).objs.size] }
abbrev zH4T (h : Heap) (l1 l2 : Addr) : Heap := (zH3T h l1 l2).push { cls := .type "tuple", data := .seq #[.none, .none] }
abbrev zH5T (h : Heap) (l1 l2 : Addr) : Heap := (zH4T h l1 l2).push { cls := .type "zip", data := .fields #[.none, .bool false, .bool false, .ref (zH2T h l1 l2).objs.size, .ref (zH3T h l1 l2).objs.size] }
theorem meets_zipT (l1 l2 : Addr) (xs ys : Array Value) :
    Meets (Builtin.«zip.__new__» ⟨[.type "zip", .ref l1, .ref l2], []⟩) (fun _ R s => s.heap.IsTuple l1 xs ∧ s.heap.IsTuple l2 ys ∧ R (.ok (.ret (.ref (zH4T s.heap l1 l2).objs.size))) { s with heap := zH5T s.heap l1 l2 }) :=
  .of_wp fun prog w A R s h => by
    obtain ⟨hp, g, d, tk, os⟩ := s; obtain ⟨hl1, hl2, h⟩ := h
    have hsub := sub_zip
    have hL1 : Heap.IsTuple (Shared.heap ⟨hp, g, d, tk, os⟩) l1 xs := hl1
    have hL2 : Heap.IsTuple (Shared.heap ⟨hp.push { cls := .type "tuple_iterator", data := .fields #[.ref l1, .int 0 0] }, g, d, tk, os⟩) l2 ys := Heap.IsTuple.push hl2 _
    wp_walk using wpAny_pyIter_tuple hL1, wpAny_pyIter_tuple hL2
    exact ⟨_, rfl, h⟩
theorem call_zipT {l1 l2 : Addr} {xs ys : Array Value} {Q : Value → Shared → Prop} (hl1 : s.heap.IsTuple l1 xs) (hl2 : s.heap.IsTuple l2 ys)
    (h : ∀ h', ZipStT h' (s.heap.objs.size + 4) (s.heap.objs.size + 2) (s.heap.objs.size + 3) s.heap.objs.size (s.heap.objs.size + 1) l1 l2 0 → (∀ c o, s.heap.get? c = some o → h'.get? c = some o) → Q (.ref (s.heap.objs.size + 4)) { s with heap := h' }) :
    wpAny (model prog w) A (call (.type "zip") [.ref l1, .ref l2]) Q E s := by
  refine callType_new F.called_zip (by decide) (F.typeCall_zip_2 _ _) (F.newCall_zip_2 _ _) (fun obj => F.args_object_init_3 obj _ _) F.entry_zip_new (meets_zipT l1 l2 xs ys) ⟨hl1, hl2, ?_⟩
  have z1 : (zH1T s.heap l1).objs.size = s.heap.objs.size + 1 := Heap.size_push ..
  have z2 : (zH2T s.heap l1 l2).objs.size = s.heap.objs.size + 2 := by rw [Heap.size_push, z1]
  have z3 : (zH3T s.heap l1 l2).objs.size = s.heap.objs.size + 3 := by rw [Heap.size_push, z2]
  have z4 : (zH4T s.heap l1 l2).objs.size = s.heap.objs.size + 4 := by rw [Heap.size_push, z3]
  have g5 : (zH5T s.heap l1 l2).get? (zH4T s.heap l1 l2).objs.size = some _ := Heap.get?_push_size _ rfl
  have g4 : (zH5T s.heap l1 l2).get? (zH3T s.heap l1 l2).objs.size = some _ := Heap.get?_push_of_some _ (Heap.get?_push_size _ rfl)
  have g3 : (zH5T s.heap l1 l2).get? (zH2T s.heap l1 l2).objs.size = some _ := Heap.get?_push_of_some _ (Heap.get?_push_of_some _ (Heap.get?_push_size _ rfl))
  have g2 : (zH5T s.heap l1 l2).get? (zH1T s.heap l1).objs.size = some _ := Heap.get?_push_of_some _ (Heap.get?_push_of_some _ (Heap.get?_push_of_some _ (Heap.get?_push_size _ rfl)))
  have g1 : (zH5T s.heap l1 l2).get? s.heap.objs.size = some _ := Heap.get?_push_of_some _ (Heap.get?_push_of_some _ (Heap.get?_push_of_some _ (Heap.get?_push_of_some _ (Heap.get?_push_size _ rfl))))
  show _ ∧ _
  rw [z2, z3, z4] at g5
  rw [z1, z2] at g3
  rw [z3] at g4
  rw [z1] at g2
  rw [z4]
  exact ⟨⟨_, g5, rfl⟩, h _ ⟨g5, g3, ⟨_, _, g4⟩, ⟨_, g1, rfl, rfl⟩, ⟨_, g2, rfl, rfl⟩⟩ fun c o x => Heap.get?_push_of_some _ (Heap.get?_push_of_some _ (Heap.get?_push_of_some _ (Heap.get?_push_of_some _ (Heap.get?_push_of_some _ x))))⟩
end
def ItzT (K : PySem.W.Frag) (a b : Addr) : It :=
  ⟨fun i H => ∃ xs ys x y, SqT K H a xs ∧ SqT K H b ys ∧ xs[i]? = some x ∧ ys[i]? = some y, fun i H v H' => ∃ t x y, v = .ref t ∧ H t = none ∧ H' = upd H t (.tup [x, y]) ∧ ∀ xs ys, SqT K H a xs → SqT K H b ys → xs[i]? = some x ∧ ys[i]? = some y, fun i H => ∃ xs, SqT K H a xs ∧ xs.length ≤ i⟩
theorem turn_zipT {P : Program} {w : World} {K : PySem.W.Frag} {elts : List Expr} {x1} {pos : Pos} (a b z TI TO i1 i2 : Addr) (D : ZipApart z TI TO i1 i2 a b) :
    Turn P w K (.Tuple elts x1 pos) (ItzT K a b) [z, TI, TO, i1, i2] z (fun i h => ZipStT h z TI TO i1 i2 a b i) where
  mem := by simp
  obj := fun i h st c hc => by
    have cell_no : ∀ {v : Option Value} {ys : Array Value}, Data.fields ys ≠ Data.cell v := fun z => by cases z
    have cell_no2 : ∀ {v : Option Value} {ys : Array Value} {n : Nat}, Data.seq ys n ≠ Data.cell v := fun z => by cases z
    have hc : c = z ∨ c = TI ∨ c = TO ∨ c = i1 ∨ c = i2 := by simpa using hc
    obtain ⟨hz, hTI, ⟨u, v, hTO⟩, ⟨o1, h1, _, d1⟩, ⟨o2, h2, _, d2⟩⟩ := st
    rcases hc with rfl | rfl | rfl | rfl | rfl
    · exact ⟨_, hz, fun v => cell_no⟩
    · exact ⟨_, hTI, fun v => cell_no2⟩
    · exact ⟨_, hTO, fun v => cell_no2⟩
    · exact ⟨o1, h1, fun v z => cell_no (d1.symm.trans z)⟩
    · exact ⟨o2, h2, fun v z => cell_no (d2.symm.trans z)⟩
  keep := fun i h h' st k => ⟨k z (by simp) _ st.z, k TI (by simp) _ st.ti, let ⟨u, v, e⟩ := st.to; ⟨u, v, k TO (by simp) _ e⟩, let ⟨o, e, r⟩ := st.i1; ⟨o, k i1 (by simp) _ e, r⟩, let ⟨o, e, r⟩ := st.i2; ⟨o, k i2 (by simp) _ e, r⟩⟩
  item := by
    intro X hP hw hK hc i pins s σ H E I hf st hg
    subst hP hw hK
    obtain ⟨xs, ys, x, y, hq, hq2, hx, hy⟩ := hg
    obtain ⟨its, rv, p, hz⟩ := I.tuple hq
    obtain ⟨its2, rv2, p2, hz2⟩ := I.tuple hq2
    obtain ⟨u, hu, ru⟩ := rv.get hx
    obtain ⟨u2, hu2, ru2⟩ := rv2.get hy
    refine zip_itemT D st (show s.heap.IsTuple a its.toArray from p) (show s.heap.IsTuple b its2.toArray from p2) (x := u) (y := u2) (by simpa using hu) (by simpa using hu2) fun h1 ez eto e1 e2 ht hsz kk => ?_
    refine ⟨_, rfl, wpAny_letOwnedTupleGo_zip ez fun h2 en sb => ?_⟩
    have hT : H s.heap.objs.size = none := I.hok.fresh (Nat.le_refl _)
    have lt : ∀ {c o}, s.heap.get? c = some o → c ≠ s.heap.objs.size := fun e => Nat.ne_of_lt (Heap.lt_size e)
    have hzf := lt st.z
    have hTIf := lt st.ti
    have hTOf := let ⟨_, _, e⟩ := st.to; lt e
    have h1f := let ⟨_, e, _⟩ := st.i1; lt e
    have h2f := let ⟨_, e, _⟩ := st.i2; lt e
    have ht2 : h2.get? s.heap.objs.size = some { cls := .type "tuple", data := .seq #[u, u2] } := (sb.2 _ (Ne.symm hzf)).trans ht
    have I1 : Inv X pins σ (upd H s.heap.objs.size (.tup [x, y])) { s with heap := s.heap.push { cls := .type "tuple", data := .seq #[u, u2] } } :=
      I.laid (t' := s.toks) (fun b o q => Heap.get?_push_of_some _ q) (Nat.le_refl _) ⟨by show 2 ≤ sizeLine; decide, [u, u2], .cons ru (.cons ru2 .nil), ⟨_, Heap.get?_push_size _ rfl, rfl, _, rfl⟩⟩
    have hf1 : ∀ c ∈ [z, TI, TO, i1, i2], FpOk X pins (upd H s.heap.objs.size (.tup [x, y])) c := fun c hc => by
      refine ⟨?_, (hf c hc).2⟩
      have hc' : c = z ∨ c = TI ∨ c = TO ∨ c = i1 ∨ c = i2 := by simpa using hc
      rw [upd_ne (by rcases hc' with rfl | rfl | rfl | rfl | rfl; exact hzf; exact hTIf; exact hTOf; exact h1f; exact h2f)]
      exact (hf c hc).1
    have I2 : Inv X pins σ (upd H s.heap.objs.size (.tup [x, y])) { s with heap := h2, toks := s.toks } := by
      have J := Inv.turnedL (t' := s.toks) (h' := h2) (ch := [z, TI, TO, i1, i2]) I1 ?k hf1
      · exact J
      intro c o hc q
      dsimp only at q
      simp only [List.mem_cons, List.not_mem_nil, or_false, not_or] at hc
      rcases PySem.Heap.get?_push_cases q with ⟨rfl, rfl⟩ | q
      · exact ht2
      · exact (sb.2 c hc.1).trans (kk c o hc.1 hc.2.2.1 hc.2.2.2.1 hc.2.2.2.2 q)
    refine ⟨.ref s.heap.objs.size, _, I2, rfl, ⟨_, x, y, rfl, hT, rfl, fun vs us h1 h2 => ⟨by rw [I.tuple_inj h1 hq]; exact hx, by rw [I.tuple_inj h2 hq2]; exact hy⟩⟩, ⟨en, sb.extBut _ _ D.TIz (kk _ _ D.TIz D.TITO D.TIi1 D.TIi2 st.ti), ⟨_, _, sb.extBut _ _ D.TOz eto⟩, e1.extBut sb.extBut D.i1z, e2.extBut sb.extBut D.i2z⟩, fun b hb => (hf1 b hb).1⟩
  done := by
    intro X hP hw hK hc i pins s σ H E I hf st hg
    subst hP hw hK
    obtain ⟨xs, hq, hx⟩ := hg
    obtain ⟨its, rv, p, hz⟩ := I.tuple hq
    have hl := rv.length
    refine zip_doneT (I.ok.hd hc) D st (show s.heap.IsTuple a its.toArray from p) (by simp; omega) fun h' kk => ⟨rfl, ?_⟩
    exact Inv.turnedL (t' := s.toks) (h' := h') (ch := [z, i1]) I (fun c o hc q => by
      simp only [List.mem_cons, List.not_mem_nil, or_false, not_or] at hc
      exact kk c o hc.1 hc.2 q) (fun c hc => hf c (by
      have hc : c = z ∨ c = i1 := by simpa using hc
      rcases hc with rfl | rfl <;> simp))
  self := fun _ _ _ _ _ st h => wpAny_pyIter_zip st.z h
section
variable {X : Cx}
def iZipT (K : PySem.W.Frag) (ta : TA) : TI := fun σ H R => ta σ H fun vs H1 => ∃ a b xs ys, vs = [.ref a, .ref b] ∧ SqT K H1 a xs ∧ SqT K H1 b ys ∧ R (ItzT K a b) H1
theorem pi_zipT {e e2 : Expr} {ta : TA} {p pos tpos : Pos} {elts : List Expr} {x1} (hg : Gl X "zip") (hm : X.mg "zip" = none) (ha : PA X [e, e2] ta) (hs : starEach [e, e2] X.env = (false, eval e X.env) :: starEach [e2] X.env := by rfl) (hp : (backTo pos (starEach [e2] X.env)).any (·.1) = false := by rfl) :
    PI X (.Tuple elts x1 tpos) (.Call (.Name "zip" p) [e, e2] [] pos) (iZipT X.K ta) := by
  intro pins s σ H R I h
  refine Call_ (ld_blt I hg hm boot_zip (PyProof.Rows.callWith_type1 (thn (ha pos pins s σ H _ I h) fun us s1 ⟨vs, H1, I1, r1, q1⟩ => ?_) hs hp))
  obtain ⟨a, b, xs, ys, ev, hq, hq2, q⟩ := q1
  subst ev
  obtain ⟨u, u2, rfl, ru, ru2⟩ : ∃ u u2, us = [u, u2] ∧ RelV (.ref a) u ∧ RelV (.ref b) u2 := by
    cases r1 with
    | cons r rr =>
      cases rr with
      | cons r2 rr2 => cases rr2; exact ⟨_, _, rfl, r, r2⟩
  cases ru
  cases ru2
  obtain ⟨its, rv, pl, hz⟩ := I1.tuple hq
  obtain ⟨its2, rv2, pl2, hz2⟩ := I1.tuple hq2
  have hta : a < s1.heap.objs.size := let ⟨_, e, _⟩ := (show s1.heap.IsTuple a its.toArray from pl); Heap.lt_size e
  have htb : b < s1.heap.objs.size := let ⟨_, e, _⟩ := (show s1.heap.IsTuple b its2.toArray from pl2); Heap.lt_size e
  refine call_zipT (show s1.heap.IsTuple a its.toArray from pl) (show s1.heap.IsTuple b its2.toArray from pl2) fun h' st kk => wpAny_pyIter_zip st.z ?_
  have I2 : Inv X pins σ H1 { s1 with heap := h' } := I1.kept (t' := s1.toks) kk
  have D := zip_apart s1.heap.objs.size a b hta htb
  refine ⟨s1.heap.objs.size + 4, [s1.heap.objs.size + 4, s1.heap.objs.size + 2, s1.heap.objs.size + 3, s1.heap.objs.size, s1.heap.objs.size + 1], _, _, H1, rfl, I2, turn_zipT a b _ _ _ _ _ D, st, fun c hc => ?_, q⟩
  have hle : s1.heap.objs.size ≤ c := by
    simp only [List.mem_cons, List.not_mem_nil, or_false] at hc
    exact zip_le _ c hc
  exact I1.fpOk hle (I1.hok.fresh hle)
end
theorem comp_zipT {K : PySem.W.Frag} {a b : Addr} {xs ys : List V} {g : TG} {tt : TT} {te : TE} {h : HidC g tt te} {σ0 : St} {D : Addr} {Q : Hp → Prop} {H : Hp} (Pv : Nat → List V → St → Hp → Prop) (hn : xs.length = ys.length) (h0 : Pv 0 [] σ0 (upd H D (.lst []))) (hl : ∀ i zs σ H, i ≤ xs.length → Pv i zs σ H → SqT K H a xs ∧ SqT K H b ys)
    (hs : ∀ i x y t zs σ H, xs[i]? = some x → ys[i]? = some y → Pv i zs σ H → H t = none → g (.ref t) σ (upd H t (.tup [x, y])) fun σ2 H2 => tt σ2 H2 fun b H2' => if b = true then te σ2 H2' fun v H3 => H3 D = some (.lst zs) ∧ zs.length < sizeLine ∧ Pv (i + 1) (zs ++ [v]) σ2 (upd H3 D (.lst (zs ++ [v]))) else Pv (i + 1) zs σ2 H2') (hd : ∀ zs σ H, Pv xs.length zs σ H → Q H) :
    Comp g tt te h (ItzT K a b) σ0 D Q H := by
  refine ⟨fun i m zs σ H => i + m = xs.length ∧ Pv i zs σ H, ⟨xs.length, Nat.zero_add _, h0⟩, fun i m zs σ H ⟨e, p⟩ => ?_⟩
  obtain ⟨hq, hq2⟩ := hl i zs σ H (by omega) p
  by_cases hi : i < xs.length
  · have ex : xs[i]? = some xs[i] := List.getElem?_eq_getElem hi
    have ey : ys[i]? = some (ys[i]'(by omega)) := List.getElem?_eq_getElem (by omega)
    refine .inr ⟨⟨xs, ys, _, _, hq, hq2, ex, ey⟩, Pv (i + 1), fun zs σ H q => ⟨m - 1, by omega, by omega, q⟩, ?_⟩
    rintro v H' ⟨t, x, y, rfl, ht, rfl, hy⟩
    exact hs i x y t zs σ H (hy xs ys hq hq2).1 (hy xs ys hq hq2).2 p ht
  · have e' : i = xs.length := by omega
    subst e'
    exact .inl ⟨⟨xs, hq, Nat.le_refl _⟩, hd zs σ H p⟩
end L2
set_option hygiene false in
local macro_rules | `(tactic| walk_at "wp") => `(tactic| simp only [↓L2.rI0_ii, ↓L2.rI_ii, ↓L2.ex_int, ↓L2.ex_bl, ↓L2.ex_ref, L2.tSeq, L2.tNext, L2.tAsg, L2.gName, L2.tRet, L2.tDrop, L2.tIfS, L2.tIf, L2.tTest, L2.tB, L2.tOp, L2.tUn, L2.tVar, L2.tVarM, L2.tC, L2.rI, L2.rI0, L2.rU, L2.tAnd, L2.tOr, L2.tNot, L2.tCallE, L2.tCB, L2.tCons, L2.tNil, L2.tLst, L2.tTup, L2.rIxL, L2.rIxT, L2.rSlT, L2.rCatT, L2.rIn, L2.tRaise, L2.rEq, L2.rNe, L2.start, L2.CDiv, L2.CMul, L2.kn_str, L2.cxOf_K, L2.cxOfH_K, L2.rCatS, L2.scal_ii, L2.scal_bb, L2.scal_ss, L2.rIxH, L2.lstO_lst, L2.tupO_tup, L2.upd_same, L2.HO.ins.injEq, L2.rCat, L2.rSlL, L2.tSl, L2.tPart, L2.tNoPart, L2.clsV_ref, L2.clsV_ty, L2.tForE, L2.iRng1, L2.iRng3, L2.iList, L2.iTup, L2.iZip, L2.iZipT, L2.gTup, L2.gNil, L2.gCons, L2.tBM, L2.rAppend, L2.tComp, L2.tCompM, L2.iStr, L2.tYes, Option.join_some, Option.join_none, PySem.sizeLine_eq, Nat.reduceLeDiff, eq_self, decide_eq_true_eq, 
  List.map_cons, List.map_nil, List.length_cons, List.length_nil, List.cons_append, List.nil_append, List.append_nil, List.replicate, Nat.reduceSub, Nat.reduceAdd, List.getElem?_cons_zero, List.getElem?_cons_succ, List.set_cons_zero, List.set_cons_succ,
  Option.some.injEq, List.cons.injEq, L2.V.int.injEq, L2.V.bl.injEq, L2.V.ref.injEq, L2.V.ty.injEq, L2.V.str.injEq, exists_eq_left, exists_eq_left', exists_and_left, exists_eq', exists_const, and_assoc, and_true, true_and, ↓reduceIte, Int.reduceLE, Int.reduceLT, Nat.reducePow, Int.reducePow, Int.reduceNeg, L2.na10, Nat.reduceLT, Int.reduceToNat, Int.reduceAdd, Int.reduceMul, Int.reduceSub, true_or, or_true, decide_true, decide_false])
namespace Pf
open PySem L2
def top (i : Nat) : Stmt := PySem.Challenge.pw_frameland_k96_rows_shown.main.body.getD i (.Pass ⟨0, 0, 0, 0⟩)
abbrev s_is_number : Stmt := top 10
theorem sc_is_number : FnScope ["word"] ["word"] (defScope s_is_number) := ⟨rfl, rfl, rfl, by decide +kernel, rfl, by decide +kernel, by decide +kernel⟩
abbrev s_read_number : Stmt := top 11
theorem sc_read_number : FnScope ["word"] ["word"] (defScope s_read_number) := ⟨rfl, rfl, rfl, by decide +kernel, rfl, by decide +kernel, by decide +kernel⟩
abbrev s_read_value : Stmt := top 12
theorem sc_read_value : FnScope ["word", "number"] ["word"] (defScope s_read_value) := ⟨rfl, rfl, rfl, by decide +kernel, rfl, by decide +kernel, by decide +kernel⟩
abbrev s_read_rights : Stmt := top 13
theorem sc_read_rights : FnScope ["word"] ["word"] (defScope s_read_rights) := ⟨rfl, rfl, rfl, by decide +kernel, rfl, by decide +kernel, by decide +kernel⟩
abbrev s_show_rights : Stmt := top 14
theorem sc_show_rights : FnScope ["rights"] ["rights"] (defScope s_show_rights) := ⟨rfl, rfl, rfl, by decide +kernel, rfl, by decide +kernel, by decide +kernel⟩
abbrev s_read_word : Stmt := top 15
theorem sc_read_word : FnScope ["kind", "word"] ["kind", "word"] (defScope s_read_word) := ⟨rfl, rfl, rfl, by decide +kernel, rfl, by decide +kernel, by decide +kernel⟩
abbrev s_show_word : Stmt := top 16
theorem sc_show_word : FnScope ["kind", "part"] ["kind", "part"] (defScope s_show_word) := ⟨rfl, rfl, rfl, by decide +kernel, rfl, by decide +kernel, by decide +kernel⟩
abbrev s_read_row : Stmt := top 17
theorem sc_read_row : FnScope ["text", "words", "form", "deed"] ["text"] (defScope s_read_row) := ⟨rfl, rfl, rfl, by decide +kernel, rfl, by decide +kernel, by decide +kernel⟩
abbrev s_show_row : Stmt := top 18
theorem sc_show_row : FnScope ["deed", "parts", "form"] ["deed"] (defScope s_show_row) := ⟨rfl, rfl, rfl, by decide +kernel, rfl, by decide +kernel, by decide +kernel⟩
abbrev s_l_cell_at : Stmt := top 20
theorem sc_l_cell_at : FnScope ["_law_script", "_law_k"] ["_law_script", "_law_k"] (defScope s_l_cell_at) := ⟨rfl, rfl, rfl, by decide +kernel, rfl, by decide +kernel, by decide +kernel⟩
abbrev s_l_form : Stmt := top 21
theorem sc_l_form : FnScope ["_law_cell", "_law_forms"] ["_law_cell"] (defScope s_l_form) := ⟨rfl, rfl, rfl, by decide +kernel, rfl, by decide +kernel, by decide +kernel⟩
abbrev s_l_number : Stmt := top 22
theorem sc_l_number : FnScope ["_law_cell", "_law_kind", "_law_least", "_law_k", "_law_number_here"] ["_law_cell", "_law_kind"] (defScope s_l_number) := ⟨rfl, rfl, rfl, by decide +kernel, rfl, by decide +kernel, by decide +kernel⟩
abbrev s_l_figures : Stmt := top 23
theorem sc_l_figures : FnScope ["_law_number_here", "_law_written", "_law_rest"] ["_law_number_here"] (defScope s_l_figures) := ⟨rfl, rfl, rfl, by decide +kernel, rfl, by decide +kernel, by decide +kernel⟩
abbrev s_l_shown : Stmt := top 24
theorem sc_l_shown : FnScope ["_law_deed", "_law_kinds", "_law_written", "_law_k", "_law_part"] ["_law_deed", "_law_kinds"] (defScope s_l_shown) := ⟨rfl, rfl, rfl, by decide +kernel, rfl, by decide +kernel, by decide +kernel⟩
abbrev s_form_of : Stmt := top 9
theorem sc_form_of : FnScope ["first_word", "length", "form"] ["first_word", "length"] (defScope s_form_of) := ⟨rfl, rfl, rfl, by decide +kernel, rfl, by decide +kernel, by decide +kernel⟩
abbrev s_law : Stmt := top 25
theorem sc_law : FnScope ["_law_script", "_law_deeds", "_law_at", "_law_word", "_law_kinds", "_law_deed", "_law_k", "_law_shown_here"] ["_law_script"] (defScope s_law) := ⟨rfl, rfl, rfl, by decide +kernel, rfl, by decide +kernel, by decide +kernel⟩
structure Adr where
  C_NoRow : Addr
  C_RIGHTS : Addr
  C_FORMS : Addr
  C_FORMS_0 : Addr
  C_FORMS_1 : Addr
  C_FORMS_2 : Addr
  C_FORMS_3 : Addr
  C_FORMS_4 : Addr
  C_FORMS_5 : Addr
  C_FORMS_6 : Addr
  C_FORMS_7 : Addr
  C_FORMS_8 : Addr
  C_FORMS_9 : Addr
  C_FORMS_10 : Addr
  C_FORMS_11 : Addr
  C_FORMS_12 : Addr
  C_FORMS_13 : Addr
  C_FORMS_14 : Addr
  C_NO_BANK : Addr
structure Txt (K : PySem.W.Frag) (mg : Str → Option Value) (A : Adr) : Prop where
  b_abs : mg "abs" = none
  b_all : mg "all" = none
  b_int : mg "int" = none
  b_isinstance : mg "isinstance" = none
  b_len : mg "len" = none
  b_min : mg "min" = none
  b_range : mg "range" = none
  b_str : mg "str" = none
  b_tuple : mg "tuple" = none
  b_zip : mg "zip" = none
  c_FIGURES : ∃ u, mg "FIGURES" = some u ∧ RelV (.str "0123456789") u
  c_MOST_FIGURES : ∃ u, mg "MOST_FIGURES" = some u ∧ RelV (.int 60) u
  c_RIGHTS : ∃ u, mg "RIGHTS" = some u ∧ RelV (.ref A.C_RIGHTS) u
  q_RIGHTS : ∀ H, SqT K H A.C_RIGHTS [V.str "--", V.str "r-", V.str "-w", V.str "rw"]
  d_RIGHTS : ∃ o, K.lookup A.C_RIGHTS = some o ∧ o.cls = .type "tuple" ∧ o.dict = none
  c_FORMS : ∃ u, mg "FORMS" = some u ∧ RelV (.ref A.C_FORMS) u
  q_FORMS : ∀ H, SqT K H A.C_FORMS [V.ref A.C_FORMS_0, V.ref A.C_FORMS_1, V.ref A.C_FORMS_2, V.ref A.C_FORMS_3, V.ref A.C_FORMS_4, V.ref A.C_FORMS_5, V.ref A.C_FORMS_6, V.ref A.C_FORMS_7, V.ref A.C_FORMS_8, V.ref A.C_FORMS_9, V.ref A.C_FORMS_10, V.ref A.C_FORMS_11, V.ref A.C_FORMS_12, V.ref A.C_FORMS_13, V.ref A.C_FORMS_14]
  d_FORMS : ∃ o, K.lookup A.C_FORMS = some o ∧ o.cls = .type "tuple" ∧ o.dict = none
  q_FORMS_0 : ∀ H, SqT K H A.C_FORMS_0 [V.str "new"]
  q_FORMS_1 : ∀ H, SqT K H A.C_FORMS_1 [V.str "fork", V.str "number"]
  q_FORMS_2 : ∀ H, SqT K H A.C_FORMS_2 [V.str "end", V.str "number"]
  q_FORMS_3 : ∀ H, SqT K H A.C_FORMS_3 [V.str "bank", V.str "number"]
  q_FORMS_4 : ∀ H, SqT K H A.C_FORMS_4 [V.str "drop", V.str "number"]
  q_FORMS_5 : ∀ H, SqT K H A.C_FORMS_5 [V.str "lay", V.str "number", V.str "number", V.str "number", V.str "rights"]
  q_FORMS_6 : ∀ H, SqT K H A.C_FORMS_6 [V.str "lay", V.str "number", V.str "number", V.str "number", V.str "rights", V.str "number", V.str "number"]
  q_FORMS_7 : ∀ H, SqT K H A.C_FORMS_7 [V.str "lift", V.str "number", V.str "number", V.str "number"]
  q_FORMS_8 : ∀ H, SqT K H A.C_FORMS_8 [V.str "guard", V.str "number", V.str "number", V.str "number", V.str "rights"]
  q_FORMS_9 : ∀ H, SqT K H A.C_FORMS_9 [V.str "read", V.str "number", V.str "number"]
  q_FORMS_10 : ∀ H, SqT K H A.C_FORMS_10 [V.str "write", V.str "number", V.str "number", V.str "value"]
  q_FORMS_11 : ∀ H, SqT K H A.C_FORMS_11 [V.str "fold"]
  q_FORMS_12 : ∀ H, SqT K H A.C_FORMS_12 [V.str "see", V.str "number", V.str "number"]
  q_FORMS_13 : ∀ H, SqT K H A.C_FORMS_13 [V.str "laid", V.str "number"]
  q_FORMS_14 : ∀ H, SqT K H A.C_FORMS_14 [V.str "live"]
  c_NO_BANK : ∃ u, mg "NO_BANK" = some u ∧ RelV (.ref A.C_NO_BANK) u
  q_NO_BANK : ∀ H, SqT K H A.C_NO_BANK [V.non, V.int 0]
  d_NO_BANK : ∃ o, K.lookup A.C_NO_BANK = some o ∧ o.cls = .type "tuple" ∧ o.dict = none
  r_is_number : Raw K mg "is_number" "is_number" s_is_number ["word"] []
  r_read_number : Raw K mg "read_number" "read_number" s_read_number ["word"] []
  r_read_value : Raw K mg "read_value" "read_value" s_read_value ["word"] []
  r_read_rights : Raw K mg "read_rights" "read_rights" s_read_rights ["word"] []
  r_show_rights : Raw K mg "show_rights" "show_rights" s_show_rights ["rights"] []
  r_read_word : Raw K mg "read_word" "read_word" s_read_word ["kind", "word"] []
  r_show_word : Raw K mg "show_word" "show_word" s_show_word ["kind", "part"] []
  r_read_row : Raw K mg "read_row" "read_row" s_read_row ["text"] []
  r_show_row : Raw K mg "show_row" "show_row" s_show_row ["deed"] []
  r_l_cell_at : Raw K mg "_law_cell_at" "_law_cell_at" s_l_cell_at ["_law_script", "_law_k"] []
  r_l_form : Raw K mg "_law_form" "_law_form" s_l_form ["_law_cell"] []
  r_l_number : Raw K mg "_law_number" "_law_number" s_l_number ["_law_cell", "_law_kind"] []
  r_l_figures : Raw K mg "_law_figures" "_law_figures" s_l_figures ["_law_number_here"] []
  r_l_shown : Raw K mg "_law_shown" "_law_shown" s_l_shown ["_law_deed", "_law_kinds"] []
  r_form_of : Raw K mg "form_of" "form_of" s_form_of ["first_word", "length"] []
  m_NoRow : ∃ u, mg "NoRow" = some u ∧ RelV (.ref A.C_NoRow) u
  x_NoRow : XC K mg "NoRow" A.C_NoRow
  r_law : ∃ f fd, mg "law" = some (.ref f) ∧ Fun K "law" "law" s_law f fd ∧ ∀ (s : Shared) (u : Value), BindsTo s fd ⟨[u], []⟩ [("_law_script", u)]
theorem el1 {P : List Value → Prop} (h : ∀ a0, P [a0]) : ∀ us : List Value, us.length = 1 → P us
  | [a0], _ => h a0
theorem el2 {P : List Value → Prop} (h : ∀ a0 a1, P [a0, a1]) : ∀ us : List Value, us.length = 2 → P us
  | [a0, a1], _ => h a0 a1
theorem txt_mk {K : PySem.W.Frag} {h : Heap} {mg : Str → Option Value} (X : K.In h) (G : h.Ns mainGlobals mg)
    {C_NoRow : Addr}
    {C_NO_BANK : Addr}
    {C_FORMS_14 : Addr}
    {C_FORMS_13 : Addr}
    {C_FORMS_12 : Addr}
    {C_FORMS_11 : Addr}
    {C_FORMS_10 : Addr}
    {C_FORMS_9 : Addr}
    {C_FORMS_8 : Addr}
    {C_FORMS_7 : Addr}
    {C_FORMS_6 : Addr}
    {C_FORMS_5 : Addr}
    {C_FORMS_4 : Addr}
    {C_FORMS_3 : Addr}
    {C_FORMS_2 : Addr}
    {C_FORMS_1 : Addr}
    {C_FORMS_0 : Addr}
    {C_FORMS : Addr}
    {C_RIGHTS : Addr}
    {t_FIGURES : Tok}
    {t_MOST_FIGURES : Tok}
    {t_RIGHTS_0 : Tok}
    {t_RIGHTS_1 : Tok}
    {t_RIGHTS_2 : Tok}
    {t_RIGHTS_3 : Tok}
    {un_RIGHTS : Nat} {sl_RIGHTS : Array (Option Value)}
    {un_FORMS : Nat} {sl_FORMS : Array (Option Value)}
    {t_FORMS_0_0 : Tok}
    {un_FORMS_0 : Nat} {sl_FORMS_0 : Array (Option Value)}
    {t_FORMS_1_0 : Tok}
    {t_FORMS_1_1 : Tok}
    {un_FORMS_1 : Nat} {sl_FORMS_1 : Array (Option Value)}
    {t_FORMS_2_0 : Tok}
    {t_FORMS_2_1 : Tok}
    {un_FORMS_2 : Nat} {sl_FORMS_2 : Array (Option Value)}
    {t_FORMS_3_0 : Tok}
    {t_FORMS_3_1 : Tok}
    {un_FORMS_3 : Nat} {sl_FORMS_3 : Array (Option Value)}
    {t_FORMS_4_0 : Tok}
    {t_FORMS_4_1 : Tok}
    {un_FORMS_4 : Nat} {sl_FORMS_4 : Array (Option Value)}
    {t_FORMS_5_0 : Tok}
    {t_FORMS_5_1 : Tok}
    {t_FORMS_5_2 : Tok}
    {t_FORMS_5_3 : Tok}
    {t_FORMS_5_4 : Tok}
    {un_FORMS_5 : Nat} {sl_FORMS_5 : Array (Option Value)}
    {t_FORMS_6_0 : Tok}
    {t_FORMS_6_1 : Tok}
    {t_FORMS_6_2 : Tok}
    {t_FORMS_6_3 : Tok}
    {t_FORMS_6_4 : Tok}
    {t_FORMS_6_5 : Tok}
    {t_FORMS_6_6 : Tok}
    {un_FORMS_6 : Nat} {sl_FORMS_6 : Array (Option Value)}
    {t_FORMS_7_0 : Tok}
    {t_FORMS_7_1 : Tok}
    {t_FORMS_7_2 : Tok}
    {t_FORMS_7_3 : Tok}
    {un_FORMS_7 : Nat} {sl_FORMS_7 : Array (Option Value)}
    {t_FORMS_8_0 : Tok}
    {t_FORMS_8_1 : Tok}
    {t_FORMS_8_2 : Tok}
    {t_FORMS_8_3 : Tok}
    {t_FORMS_8_4 : Tok}
    {un_FORMS_8 : Nat} {sl_FORMS_8 : Array (Option Value)}
    {t_FORMS_9_0 : Tok}
    {t_FORMS_9_1 : Tok}
    {t_FORMS_9_2 : Tok}
    {un_FORMS_9 : Nat} {sl_FORMS_9 : Array (Option Value)}
    {t_FORMS_10_0 : Tok}
    {t_FORMS_10_1 : Tok}
    {t_FORMS_10_2 : Tok}
    {t_FORMS_10_3 : Tok}
    {un_FORMS_10 : Nat} {sl_FORMS_10 : Array (Option Value)}
    {t_FORMS_11_0 : Tok}
    {un_FORMS_11 : Nat} {sl_FORMS_11 : Array (Option Value)}
    {t_FORMS_12_0 : Tok}
    {t_FORMS_12_1 : Tok}
    {t_FORMS_12_2 : Tok}
    {un_FORMS_12 : Nat} {sl_FORMS_12 : Array (Option Value)}
    {t_FORMS_13_0 : Tok}
    {t_FORMS_13_1 : Tok}
    {un_FORMS_13 : Nat} {sl_FORMS_13 : Array (Option Value)}
    {t_FORMS_14_0 : Tok}
    {un_FORMS_14 : Nat} {sl_FORMS_14 : Array (Option Value)}
    {t_NO_BANK_1 : Tok}
    {un_NO_BANK : Nat} {sl_NO_BANK : Array (Option Value)}
    {f_0 : Addr} {od_0 an_0 : Option Addr} {sl_0 : Array (Option Value)} {oc_0 kV_0 dc_0 pm_0 cd_0 ct_0 : Value}
    {f_1 : Addr} {od_1 an_1 : Option Addr} {sl_1 : Array (Option Value)} {oc_1 kV_1 dc_1 pm_1 cd_1 ct_1 : Value}
    {f_2 : Addr} {od_2 an_2 : Option Addr} {sl_2 : Array (Option Value)} {oc_2 kV_2 dc_2 pm_2 cd_2 ct_2 : Value}
    {f_3 : Addr} {od_3 an_3 : Option Addr} {sl_3 : Array (Option Value)} {oc_3 kV_3 dc_3 pm_3 cd_3 ct_3 : Value}
    {f_4 : Addr} {od_4 an_4 : Option Addr} {sl_4 : Array (Option Value)} {oc_4 kV_4 dc_4 pm_4 cd_4 ct_4 : Value}
    {f_5 : Addr} {od_5 an_5 : Option Addr} {sl_5 : Array (Option Value)} {oc_5 kV_5 dc_5 pm_5 cd_5 ct_5 : Value}
    {f_6 : Addr} {od_6 an_6 : Option Addr} {sl_6 : Array (Option Value)} {oc_6 kV_6 dc_6 pm_6 cd_6 ct_6 : Value}
    {f_7 : Addr} {od_7 an_7 : Option Addr} {sl_7 : Array (Option Value)} {oc_7 kV_7 dc_7 pm_7 cd_7 ct_7 : Value}
    {f_8 : Addr} {od_8 an_8 : Option Addr} {sl_8 : Array (Option Value)} {oc_8 kV_8 dc_8 pm_8 cd_8 ct_8 : Value}
    {f_9 : Addr} {od_9 an_9 : Option Addr} {sl_9 : Array (Option Value)} {oc_9 kV_9 dc_9 pm_9 cd_9 ct_9 : Value}
    {f_10 : Addr} {od_10 an_10 : Option Addr} {sl_10 : Array (Option Value)} {oc_10 kV_10 dc_10 pm_10 cd_10 ct_10 : Value}
    {f_11 : Addr} {od_11 an_11 : Option Addr} {sl_11 : Array (Option Value)} {oc_11 kV_11 dc_11 pm_11 cd_11 ct_11 : Value}
    {f_12 : Addr} {od_12 an_12 : Option Addr} {sl_12 : Array (Option Value)} {oc_12 kV_12 dc_12 pm_12 cd_12 ct_12 : Value}
    {f_13 : Addr} {od_13 an_13 : Option Addr} {sl_13 : Array (Option Value)} {oc_13 kV_13 dc_13 pm_13 cd_13 ct_13 : Value}
    {f_14 : Addr} {od_14 an_14 : Option Addr} {sl_14 : Array (Option Value)} {oc_14 kV_14 dc_14 pm_14 cd_14 ct_14 : Value}
    {f_15 : Addr} {od_15 an_15 : Option Addr} {sl_15 : Array (Option Value)} {oc_15 kV_15 dc_15 pm_15 cd_15 ct_15 : Value}
    (a_NoRow : PySem.W.nsIn K mainGlobals "NoRow" = some (some (.ref C_NoRow)))
    (zb_abs : PySem.W.nsIn K mainGlobals "abs" = some none)
    (zb_all : PySem.W.nsIn K mainGlobals "all" = some none)
    (zb_int : PySem.W.nsIn K mainGlobals "int" = some none)
    (zb_isinstance : PySem.W.nsIn K mainGlobals "isinstance" = some none)
    (zb_len : PySem.W.nsIn K mainGlobals "len" = some none)
    (zb_min : PySem.W.nsIn K mainGlobals "min" = some none)
    (zb_range : PySem.W.nsIn K mainGlobals "range" = some none)
    (zb_str : PySem.W.nsIn K mainGlobals "str" = some none)
    (zb_tuple : PySem.W.nsIn K mainGlobals "tuple" = some none)
    (zb_zip : PySem.W.nsIn K mainGlobals "zip" = some none)
    (zc_FIGURES : PySem.W.nsIn K mainGlobals "FIGURES" = some (some (.str "0123456789" t_FIGURES)))
    (zc_MOST_FIGURES : PySem.W.nsIn K mainGlobals "MOST_FIGURES" = some (some (.int 60 t_MOST_FIGURES)))
    (a_RIGHTS : PySem.W.nsIn K mainGlobals "RIGHTS" = some (some (.ref C_RIGHTS)))
    (zq_RIGHTS : K.lookup C_RIGHTS = some ⟨.type "tuple", none, .seq #[.str "--" t_RIGHTS_0, .str "r-" t_RIGHTS_1, .str "-w" t_RIGHTS_2, .str "rw" t_RIGHTS_3] un_RIGHTS, sl_RIGHTS⟩)
    (a_FORMS : PySem.W.nsIn K mainGlobals "FORMS" = some (some (.ref C_FORMS)))
    (zq_FORMS : K.lookup C_FORMS = some ⟨.type "tuple", none, .seq #[.ref C_FORMS_0, .ref C_FORMS_1, .ref C_FORMS_2, .ref C_FORMS_3, .ref C_FORMS_4, .ref C_FORMS_5, .ref C_FORMS_6, .ref C_FORMS_7, .ref C_FORMS_8, .ref C_FORMS_9, .ref C_FORMS_10, .ref C_FORMS_11, .ref C_FORMS_12, .ref C_FORMS_13, .ref C_FORMS_14] un_FORMS, sl_FORMS⟩)
    (zq_FORMS_0 : K.lookup C_FORMS_0 = some ⟨.type "tuple", none, .seq #[.str "new" t_FORMS_0_0] un_FORMS_0, sl_FORMS_0⟩)
    (zq_FORMS_1 : K.lookup C_FORMS_1 = some ⟨.type "tuple", none, .seq #[.str "fork" t_FORMS_1_0, .str "number" t_FORMS_1_1] un_FORMS_1, sl_FORMS_1⟩)
    (zq_FORMS_2 : K.lookup C_FORMS_2 = some ⟨.type "tuple", none, .seq #[.str "end" t_FORMS_2_0, .str "number" t_FORMS_2_1] un_FORMS_2, sl_FORMS_2⟩)
    (zq_FORMS_3 : K.lookup C_FORMS_3 = some ⟨.type "tuple", none, .seq #[.str "bank" t_FORMS_3_0, .str "number" t_FORMS_3_1] un_FORMS_3, sl_FORMS_3⟩)
    (zq_FORMS_4 : K.lookup C_FORMS_4 = some ⟨.type "tuple", none, .seq #[.str "drop" t_FORMS_4_0, .str "number" t_FORMS_4_1] un_FORMS_4, sl_FORMS_4⟩)
    (zq_FORMS_5 : K.lookup C_FORMS_5 = some ⟨.type "tuple", none, .seq #[.str "lay" t_FORMS_5_0, .str "number" t_FORMS_5_1, .str "number" t_FORMS_5_2, .str "number" t_FORMS_5_3, .str "rights" t_FORMS_5_4] un_FORMS_5, sl_FORMS_5⟩)
    (zq_FORMS_6 : K.lookup C_FORMS_6 = some ⟨.type "tuple", none, .seq #[.str "lay" t_FORMS_6_0, .str "number" t_FORMS_6_1, .str "number" t_FORMS_6_2, .str "number" t_FORMS_6_3, .str "rights" t_FORMS_6_4, .str "number" t_FORMS_6_5, .str "number" t_FORMS_6_6] un_FORMS_6, sl_FORMS_6⟩)
    (zq_FORMS_7 : K.lookup C_FORMS_7 = some ⟨.type "tuple", none, .seq #[.str "lift" t_FORMS_7_0, .str "number" t_FORMS_7_1, .str "number" t_FORMS_7_2, .str "number" t_FORMS_7_3] un_FORMS_7, sl_FORMS_7⟩)
    (zq_FORMS_8 : K.lookup C_FORMS_8 = some ⟨.type "tuple", none, .seq #[.str "guard" t_FORMS_8_0, .str "number" t_FORMS_8_1, .str "number" t_FORMS_8_2, .str "number" t_FORMS_8_3, .str "rights" t_FORMS_8_4] un_FORMS_8, sl_FORMS_8⟩)
    (zq_FORMS_9 : K.lookup C_FORMS_9 = some ⟨.type "tuple", none, .seq #[.str "read" t_FORMS_9_0, .str "number" t_FORMS_9_1, .str "number" t_FORMS_9_2] un_FORMS_9, sl_FORMS_9⟩)
    (zq_FORMS_10 : K.lookup C_FORMS_10 = some ⟨.type "tuple", none, .seq #[.str "write" t_FORMS_10_0, .str "number" t_FORMS_10_1, .str "number" t_FORMS_10_2, .str "value" t_FORMS_10_3] un_FORMS_10, sl_FORMS_10⟩)
    (zq_FORMS_11 : K.lookup C_FORMS_11 = some ⟨.type "tuple", none, .seq #[.str "fold" t_FORMS_11_0] un_FORMS_11, sl_FORMS_11⟩)
    (zq_FORMS_12 : K.lookup C_FORMS_12 = some ⟨.type "tuple", none, .seq #[.str "see" t_FORMS_12_0, .str "number" t_FORMS_12_1, .str "number" t_FORMS_12_2] un_FORMS_12, sl_FORMS_12⟩)
    (zq_FORMS_13 : K.lookup C_FORMS_13 = some ⟨.type "tuple", none, .seq #[.str "laid" t_FORMS_13_0, .str "number" t_FORMS_13_1] un_FORMS_13, sl_FORMS_13⟩)
    (zq_FORMS_14 : K.lookup C_FORMS_14 = some ⟨.type "tuple", none, .seq #[.str "live" t_FORMS_14_0] un_FORMS_14, sl_FORMS_14⟩)
    (a_NO_BANK : PySem.W.nsIn K mainGlobals "NO_BANK" = some (some (.ref C_NO_BANK)))
    (zq_NO_BANK : K.lookup C_NO_BANK = some ⟨.type "tuple", none, .seq #[.none, .int 0 t_NO_BANK_1] un_NO_BANK, sl_NO_BANK⟩)
    (a_0_ : PySem.W.nsIn K mainGlobals "is_number" = some (some (.ref f_0)))
    (l_0_ : K.lookup f_0 = some ⟨oc_0, od_0, .func (PySem.W.fnOf "is_number" "is_number" (defArgs s_is_number) (defBody s_is_number) (defScope s_is_number) .none kV_0 dc_0 pm_0 an_0 cd_0 ct_0), sl_0⟩)
    (c_0_ : PySem.W.codeIn K cd_0 "is_number" = true)
    (k_0_ : PySem.W.keepIn K (.ref f_0) = true)
    (a_1_ : PySem.W.nsIn K mainGlobals "read_number" = some (some (.ref f_1)))
    (l_1_ : K.lookup f_1 = some ⟨oc_1, od_1, .func (PySem.W.fnOf "read_number" "read_number" (defArgs s_read_number) (defBody s_read_number) (defScope s_read_number) .none kV_1 dc_1 pm_1 an_1 cd_1 ct_1), sl_1⟩)
    (c_1_ : PySem.W.codeIn K cd_1 "read_number" = true)
    (k_1_ : PySem.W.keepIn K (.ref f_1) = true)
    (a_2_ : PySem.W.nsIn K mainGlobals "read_value" = some (some (.ref f_2)))
    (l_2_ : K.lookup f_2 = some ⟨oc_2, od_2, .func (PySem.W.fnOf "read_value" "read_value" (defArgs s_read_value) (defBody s_read_value) (defScope s_read_value) .none kV_2 dc_2 pm_2 an_2 cd_2 ct_2), sl_2⟩)
    (c_2_ : PySem.W.codeIn K cd_2 "read_value" = true)
    (k_2_ : PySem.W.keepIn K (.ref f_2) = true)
    (a_3_ : PySem.W.nsIn K mainGlobals "read_rights" = some (some (.ref f_3)))
    (l_3_ : K.lookup f_3 = some ⟨oc_3, od_3, .func (PySem.W.fnOf "read_rights" "read_rights" (defArgs s_read_rights) (defBody s_read_rights) (defScope s_read_rights) .none kV_3 dc_3 pm_3 an_3 cd_3 ct_3), sl_3⟩)
    (c_3_ : PySem.W.codeIn K cd_3 "read_rights" = true)
    (k_3_ : PySem.W.keepIn K (.ref f_3) = true)
    (a_4_ : PySem.W.nsIn K mainGlobals "show_rights" = some (some (.ref f_4)))
    (l_4_ : K.lookup f_4 = some ⟨oc_4, od_4, .func (PySem.W.fnOf "show_rights" "show_rights" (defArgs s_show_rights) (defBody s_show_rights) (defScope s_show_rights) .none kV_4 dc_4 pm_4 an_4 cd_4 ct_4), sl_4⟩)
    (c_4_ : PySem.W.codeIn K cd_4 "show_rights" = true)
    (k_4_ : PySem.W.keepIn K (.ref f_4) = true)
    (a_5_ : PySem.W.nsIn K mainGlobals "read_word" = some (some (.ref f_5)))
    (l_5_ : K.lookup f_5 = some ⟨oc_5, od_5, .func (PySem.W.fnOf "read_word" "read_word" (defArgs s_read_word) (defBody s_read_word) (defScope s_read_word) .none kV_5 dc_5 pm_5 an_5 cd_5 ct_5), sl_5⟩)
    (c_5_ : PySem.W.codeIn K cd_5 "read_word" = true)
    (k_5_ : PySem.W.keepIn K (.ref f_5) = true)
    (a_6_ : PySem.W.nsIn K mainGlobals "show_word" = some (some (.ref f_6)))
    (l_6_ : K.lookup f_6 = some ⟨oc_6, od_6, .func (PySem.W.fnOf "show_word" "show_word" (defArgs s_show_word) (defBody s_show_word) (defScope s_show_word) .none kV_6 dc_6 pm_6 an_6 cd_6 ct_6), sl_6⟩)
    (c_6_ : PySem.W.codeIn K cd_6 "show_word" = true)
    (k_6_ : PySem.W.keepIn K (.ref f_6) = true)
    (a_7_ : PySem.W.nsIn K mainGlobals "read_row" = some (some (.ref f_7)))
    (l_7_ : K.lookup f_7 = some ⟨oc_7, od_7, .func (PySem.W.fnOf "read_row" "read_row" (defArgs s_read_row) (defBody s_read_row) (defScope s_read_row) .none kV_7 dc_7 pm_7 an_7 cd_7 ct_7), sl_7⟩)
    (c_7_ : PySem.W.codeIn K cd_7 "read_row" = true)
    (k_7_ : PySem.W.keepIn K (.ref f_7) = true)
    (a_8_ : PySem.W.nsIn K mainGlobals "show_row" = some (some (.ref f_8)))
    (l_8_ : K.lookup f_8 = some ⟨oc_8, od_8, .func (PySem.W.fnOf "show_row" "show_row" (defArgs s_show_row) (defBody s_show_row) (defScope s_show_row) .none kV_8 dc_8 pm_8 an_8 cd_8 ct_8), sl_8⟩)
    (c_8_ : PySem.W.codeIn K cd_8 "show_row" = true)
    (k_8_ : PySem.W.keepIn K (.ref f_8) = true)
    (a_9_ : PySem.W.nsIn K mainGlobals "_law_cell_at" = some (some (.ref f_9)))
    (l_9_ : K.lookup f_9 = some ⟨oc_9, od_9, .func (PySem.W.fnOf "_law_cell_at" "_law_cell_at" (defArgs s_l_cell_at) (defBody s_l_cell_at) (defScope s_l_cell_at) .none kV_9 dc_9 pm_9 an_9 cd_9 ct_9), sl_9⟩)
    (c_9_ : PySem.W.codeIn K cd_9 "_law_cell_at" = true)
    (k_9_ : PySem.W.keepIn K (.ref f_9) = true)
    (a_10_ : PySem.W.nsIn K mainGlobals "_law_form" = some (some (.ref f_10)))
    (l_10_ : K.lookup f_10 = some ⟨oc_10, od_10, .func (PySem.W.fnOf "_law_form" "_law_form" (defArgs s_l_form) (defBody s_l_form) (defScope s_l_form) .none kV_10 dc_10 pm_10 an_10 cd_10 ct_10), sl_10⟩)
    (c_10_ : PySem.W.codeIn K cd_10 "_law_form" = true)
    (k_10_ : PySem.W.keepIn K (.ref f_10) = true)
    (a_11_ : PySem.W.nsIn K mainGlobals "_law_number" = some (some (.ref f_11)))
    (l_11_ : K.lookup f_11 = some ⟨oc_11, od_11, .func (PySem.W.fnOf "_law_number" "_law_number" (defArgs s_l_number) (defBody s_l_number) (defScope s_l_number) .none kV_11 dc_11 pm_11 an_11 cd_11 ct_11), sl_11⟩)
    (c_11_ : PySem.W.codeIn K cd_11 "_law_number" = true)
    (k_11_ : PySem.W.keepIn K (.ref f_11) = true)
    (a_12_ : PySem.W.nsIn K mainGlobals "_law_figures" = some (some (.ref f_12)))
    (l_12_ : K.lookup f_12 = some ⟨oc_12, od_12, .func (PySem.W.fnOf "_law_figures" "_law_figures" (defArgs s_l_figures) (defBody s_l_figures) (defScope s_l_figures) .none kV_12 dc_12 pm_12 an_12 cd_12 ct_12), sl_12⟩)
    (c_12_ : PySem.W.codeIn K cd_12 "_law_figures" = true)
    (k_12_ : PySem.W.keepIn K (.ref f_12) = true)
    (a_13_ : PySem.W.nsIn K mainGlobals "_law_shown" = some (some (.ref f_13)))
    (l_13_ : K.lookup f_13 = some ⟨oc_13, od_13, .func (PySem.W.fnOf "_law_shown" "_law_shown" (defArgs s_l_shown) (defBody s_l_shown) (defScope s_l_shown) .none kV_13 dc_13 pm_13 an_13 cd_13 ct_13), sl_13⟩)
    (c_13_ : PySem.W.codeIn K cd_13 "_law_shown" = true)
    (k_13_ : PySem.W.keepIn K (.ref f_13) = true)
    (a_14_ : PySem.W.nsIn K mainGlobals "form_of" = some (some (.ref f_14)))
    (l_14_ : K.lookup f_14 = some ⟨oc_14, od_14, .func (PySem.W.fnOf "form_of" "form_of" (defArgs s_form_of) (defBody s_form_of) (defScope s_form_of) .none kV_14 dc_14 pm_14 an_14 cd_14 ct_14), sl_14⟩)
    (c_14_ : PySem.W.codeIn K cd_14 "form_of" = true)
    (k_14_ : PySem.W.keepIn K (.ref f_14) = true)
    (ze_NoRow : PySem.W.excIn K C_NoRow mroVE "ValueError.__new__" = true)
    (a_15_ : PySem.W.nsIn K mainGlobals "law" = some (some (.ref f_15)))
    (l_15_ : K.lookup f_15 = some ⟨oc_15, od_15, .func (PySem.W.fnOf "law" "law" (defArgs s_law) (defBody s_law) (defScope s_law) .none kV_15 dc_15 pm_15 an_15 cd_15 ct_15), sl_15⟩)
    (c_15_ : PySem.W.codeIn K cd_15 "law" = true)
    (k_15_ : PySem.W.keepIn K (.ref f_15) = true)
    : ∃ A : Adr, Txt K mg A := ⟨⟨C_NoRow, C_RIGHTS, C_FORMS, C_FORMS_0, C_FORMS_1, C_FORMS_2, C_FORMS_3, C_FORMS_4, C_FORMS_5, C_FORMS_6, C_FORMS_7, C_FORMS_8, C_FORMS_9, C_FORMS_10, C_FORMS_11, C_FORMS_12, C_FORMS_13, C_FORMS_14, C_NO_BANK⟩, {
      b_abs := PySem.W.mg_none_of X G zb_abs
      b_all := PySem.W.mg_none_of X G zb_all
      b_int := PySem.W.mg_none_of X G zb_int
      b_isinstance := PySem.W.mg_none_of X G zb_isinstance
      b_len := PySem.W.mg_none_of X G zb_len
      b_min := PySem.W.mg_none_of X G zb_min
      b_range := PySem.W.mg_none_of X G zb_range
      b_str := PySem.W.mg_none_of X G zb_str
      b_tuple := PySem.W.mg_none_of X G zb_tuple
      b_zip := PySem.W.mg_none_of X G zb_zip
      c_FIGURES := ⟨_, PySem.W.mg_of X G zc_FIGURES, ⟨_, rfl⟩⟩
      c_MOST_FIGURES := ⟨_, PySem.W.mg_of X G zc_MOST_FIGURES, ⟨_, rfl⟩⟩
      c_RIGHTS := ⟨_, PySem.W.mg_of X G a_RIGHTS, rfl⟩
      q_RIGHTS := fun _ => .inr ⟨_, _, _, zq_RIGHTS, rfl, rfl, by show 4 ≤ sizeLine; rw [sizeLine_eq]; decide, .cons ⟨_, rfl⟩ (.cons ⟨_, rfl⟩ (.cons ⟨_, rfl⟩ (.cons ⟨_, rfl⟩ (.nil))))⟩
      d_RIGHTS := ⟨_, zq_RIGHTS, rfl, rfl⟩
      c_FORMS := ⟨_, PySem.W.mg_of X G a_FORMS, rfl⟩
      q_FORMS := fun _ => .inr ⟨_, _, _, zq_FORMS, rfl, rfl, by show 15 ≤ sizeLine; rw [sizeLine_eq]; decide, .cons rfl (.cons rfl (.cons rfl (.cons rfl (.cons rfl (.cons rfl (.cons rfl (.cons rfl (.cons rfl (.cons rfl (.cons rfl (.cons rfl (.cons rfl (.cons rfl (.cons rfl (.nil)))))))))))))))⟩
      d_FORMS := ⟨_, zq_FORMS, rfl, rfl⟩
      q_FORMS_0 := fun _ => .inr ⟨_, _, _, zq_FORMS_0, rfl, rfl, by show 1 ≤ sizeLine; rw [sizeLine_eq]; decide, .cons ⟨_, rfl⟩ (.nil)⟩
      q_FORMS_1 := fun _ => .inr ⟨_, _, _, zq_FORMS_1, rfl, rfl, by show 2 ≤ sizeLine; rw [sizeLine_eq]; decide, .cons ⟨_, rfl⟩ (.cons ⟨_, rfl⟩ (.nil))⟩
      q_FORMS_2 := fun _ => .inr ⟨_, _, _, zq_FORMS_2, rfl, rfl, by show 2 ≤ sizeLine; rw [sizeLine_eq]; decide, .cons ⟨_, rfl⟩ (.cons ⟨_, rfl⟩ (.nil))⟩
      q_FORMS_3 := fun _ => .inr ⟨_, _, _, zq_FORMS_3, rfl, rfl, by show 2 ≤ sizeLine; rw [sizeLine_eq]; decide, .cons ⟨_, rfl⟩ (.cons ⟨_, rfl⟩ (.nil))⟩
      q_FORMS_4 := fun _ => .inr ⟨_, _, _, zq_FORMS_4, rfl, rfl, by show 2 ≤ sizeLine; rw [sizeLine_eq]; decide, .cons ⟨_, rfl⟩ (.cons ⟨_, rfl⟩ (.nil))⟩
      q_FORMS_5 := fun _ => .inr ⟨_, _, _, zq_FORMS_5, rfl, rfl, by show 5 ≤ sizeLine; rw [sizeLine_eq]; decide, .cons ⟨_, rfl⟩ (.cons ⟨_, rfl⟩ (.cons ⟨_, rfl⟩ (.cons ⟨_, rfl⟩ (.cons ⟨_, rfl⟩ (.nil)))))⟩
      q_FORMS_6 := fun _ => .inr ⟨_, _, _, zq_FORMS_6, rfl, rfl, by show 7 ≤ sizeLine; rw [sizeLine_eq]; decide, .cons ⟨_, rfl⟩ (.cons ⟨_, rfl⟩ (.cons ⟨_, rfl⟩ (.cons ⟨_, rfl⟩ (.cons ⟨_, rfl⟩ (.cons ⟨_, rfl⟩ (.cons ⟨_, rfl⟩ (.nil)))))))⟩
      q_FORMS_7 := fun _ => .inr ⟨_, _, _, zq_FORMS_7, rfl, rfl, by show 4 ≤ sizeLine; rw [sizeLine_eq]; decide, .cons ⟨_, rfl⟩ (.cons ⟨_, rfl⟩ (.cons ⟨_, rfl⟩ (.cons ⟨_, rfl⟩ (.nil))))⟩
      q_FORMS_8 := fun _ => .inr ⟨_, _, _, zq_FORMS_8, rfl, rfl, by show 5 ≤ sizeLine; rw [sizeLine_eq]; decide, .cons ⟨_, rfl⟩ (.cons ⟨_, rfl⟩ (.cons ⟨_, rfl⟩ (.cons ⟨_, rfl⟩ (.cons ⟨_, rfl⟩ (.nil)))))⟩
      q_FORMS_9 := fun _ => .inr ⟨_, _, _, zq_FORMS_9, rfl, rfl, by show 3 ≤ sizeLine; rw [sizeLine_eq]; decide, .cons ⟨_, rfl⟩ (.cons ⟨_, rfl⟩ (.cons ⟨_, rfl⟩ (.nil)))⟩
      q_FORMS_10 := fun _ => .inr ⟨_, _, _, zq_FORMS_10, rfl, rfl, by show 4 ≤ sizeLine; rw [sizeLine_eq]; decide, .cons ⟨_, rfl⟩ (.cons ⟨_, rfl⟩ (.cons ⟨_, rfl⟩ (.cons ⟨_, rfl⟩ (.nil))))⟩
      q_FORMS_11 := fun _ => .inr ⟨_, _, _, zq_FORMS_11, rfl, rfl, by show 1 ≤ sizeLine; rw [sizeLine_eq]; decide, .cons ⟨_, rfl⟩ (.nil)⟩
      q_FORMS_12 := fun _ => .inr ⟨_, _, _, zq_FORMS_12, rfl, rfl, by show 3 ≤ sizeLine; rw [sizeLine_eq]; decide, .cons ⟨_, rfl⟩ (.cons ⟨_, rfl⟩ (.cons ⟨_, rfl⟩ (.nil)))⟩
      q_FORMS_13 := fun _ => .inr ⟨_, _, _, zq_FORMS_13, rfl, rfl, by show 2 ≤ sizeLine; rw [sizeLine_eq]; decide, .cons ⟨_, rfl⟩ (.cons ⟨_, rfl⟩ (.nil))⟩
      q_FORMS_14 := fun _ => .inr ⟨_, _, _, zq_FORMS_14, rfl, rfl, by show 1 ≤ sizeLine; rw [sizeLine_eq]; decide, .cons ⟨_, rfl⟩ (.nil)⟩
      c_NO_BANK := ⟨_, PySem.W.mg_of X G a_NO_BANK, rfl⟩
      q_NO_BANK := fun _ => .inr ⟨_, _, _, zq_NO_BANK, rfl, rfl, by show 2 ≤ sizeLine; rw [sizeLine_eq]; decide, .cons rfl (.cons ⟨_, rfl⟩ (.nil))⟩
      d_NO_BANK := ⟨_, zq_NO_BANK, rfl, rfl⟩
      r_is_number := ⟨_, _, _, PySem.W.mg_of X G a_0_, fun_mk (st := s_is_number) l_0_ c_0_ k_0_, (fun_mk (st := s_is_number) l_0_ c_0_ k_0_).binds (ps := ["word"]) fun _ _ _ _ _ _ => el1 (fun _ => rfl), .nil⟩
      r_read_number := ⟨_, _, _, PySem.W.mg_of X G a_1_, fun_mk (st := s_read_number) l_1_ c_1_ k_1_, (fun_mk (st := s_read_number) l_1_ c_1_ k_1_).binds (ps := ["word"]) fun _ _ _ _ _ _ => el1 (fun _ => rfl), .nil⟩
      r_read_value := ⟨_, _, _, PySem.W.mg_of X G a_2_, fun_mk (st := s_read_value) l_2_ c_2_ k_2_, (fun_mk (st := s_read_value) l_2_ c_2_ k_2_).binds (ps := ["word"]) fun _ _ _ _ _ _ => el1 (fun _ => rfl), .nil⟩
      r_read_rights := ⟨_, _, _, PySem.W.mg_of X G a_3_, fun_mk (st := s_read_rights) l_3_ c_3_ k_3_, (fun_mk (st := s_read_rights) l_3_ c_3_ k_3_).binds (ps := ["word"]) fun _ _ _ _ _ _ => el1 (fun _ => rfl), .nil⟩
      r_show_rights := ⟨_, _, _, PySem.W.mg_of X G a_4_, fun_mk (st := s_show_rights) l_4_ c_4_ k_4_, (fun_mk (st := s_show_rights) l_4_ c_4_ k_4_).binds (ps := ["rights"]) fun _ _ _ _ _ _ => el1 (fun _ => rfl), .nil⟩
      r_read_word := ⟨_, _, _, PySem.W.mg_of X G a_5_, fun_mk (st := s_read_word) l_5_ c_5_ k_5_, (fun_mk (st := s_read_word) l_5_ c_5_ k_5_).binds (ps := ["kind", "word"]) fun _ _ _ _ _ _ => el2 (fun _ _ => rfl), .nil⟩
      r_show_word := ⟨_, _, _, PySem.W.mg_of X G a_6_, fun_mk (st := s_show_word) l_6_ c_6_ k_6_, (fun_mk (st := s_show_word) l_6_ c_6_ k_6_).binds (ps := ["kind", "part"]) fun _ _ _ _ _ _ => el2 (fun _ _ => rfl), .nil⟩
      r_read_row := ⟨_, _, _, PySem.W.mg_of X G a_7_, fun_mk (st := s_read_row) l_7_ c_7_ k_7_, (fun_mk (st := s_read_row) l_7_ c_7_ k_7_).binds (ps := ["text"]) fun _ _ _ _ _ _ => el1 (fun _ => rfl), .nil⟩
      r_show_row := ⟨_, _, _, PySem.W.mg_of X G a_8_, fun_mk (st := s_show_row) l_8_ c_8_ k_8_, (fun_mk (st := s_show_row) l_8_ c_8_ k_8_).binds (ps := ["deed"]) fun _ _ _ _ _ _ => el1 (fun _ => rfl), .nil⟩
      r_l_cell_at := ⟨_, _, _, PySem.W.mg_of X G a_9_, fun_mk (st := s_l_cell_at) l_9_ c_9_ k_9_, (fun_mk (st := s_l_cell_at) l_9_ c_9_ k_9_).binds (ps := ["_law_script", "_law_k"]) fun _ _ _ _ _ _ => el2 (fun _ _ => rfl), .nil⟩
      r_l_form := ⟨_, _, _, PySem.W.mg_of X G a_10_, fun_mk (st := s_l_form) l_10_ c_10_ k_10_, (fun_mk (st := s_l_form) l_10_ c_10_ k_10_).binds (ps := ["_law_cell"]) fun _ _ _ _ _ _ => el1 (fun _ => rfl), .nil⟩
      r_l_number := ⟨_, _, _, PySem.W.mg_of X G a_11_, fun_mk (st := s_l_number) l_11_ c_11_ k_11_, (fun_mk (st := s_l_number) l_11_ c_11_ k_11_).binds (ps := ["_law_cell", "_law_kind"]) fun _ _ _ _ _ _ => el2 (fun _ _ => rfl), .nil⟩
      r_l_figures := ⟨_, _, _, PySem.W.mg_of X G a_12_, fun_mk (st := s_l_figures) l_12_ c_12_ k_12_, (fun_mk (st := s_l_figures) l_12_ c_12_ k_12_).binds (ps := ["_law_number_here"]) fun _ _ _ _ _ _ => el1 (fun _ => rfl), .nil⟩
      r_l_shown := ⟨_, _, _, PySem.W.mg_of X G a_13_, fun_mk (st := s_l_shown) l_13_ c_13_ k_13_, (fun_mk (st := s_l_shown) l_13_ c_13_ k_13_).binds (ps := ["_law_deed", "_law_kinds"]) fun _ _ _ _ _ _ => el2 (fun _ _ => rfl), .nil⟩
      r_form_of := ⟨_, _, _, PySem.W.mg_of X G a_14_, fun_mk (st := s_form_of) l_14_ c_14_ k_14_, (fun_mk (st := s_form_of) l_14_ c_14_ k_14_).binds (ps := ["first_word", "length"]) fun _ _ _ _ _ _ => el2 (fun _ _ => rfl), .nil⟩
      m_NoRow := ⟨_, PySem.W.mg_of X G a_NoRow, rfl⟩
      x_NoRow := ⟨PySem.W.mg_of X G a_NoRow, ze_NoRow⟩
      r_law := ⟨_, _, PySem.W.mg_of X G a_15_, fun_mk (st := s_law) l_15_ c_15_ k_15_, fun _ _ => .of_eq rfl⟩
    }⟩

section
variable {P : Program} {w : World} {K : PySem.W.Frag} {mg : Str → Option Value} {base : Heap} {A : Adr}
theorem same_put {H H' : Hp} {t : Addr} {o : HO} (s : Same H H') (h : H t = none) : Same H (upd H' t o) := fun b u e => by
  rw [upd_ne (ne_of_none e h)]; exact s b u e

def sp_cell (K : PySem.W.Frag) (a : Addr) (ns : List Int) : Sp := fun vs H Q _ => ∃ (k : Int), vs = [.ref a, .int k] ∧ SqL K H a (ns.map V.int) ∧ 0 ≤ k ∧ Q (.int (ns.getD k.toNat 0)) H
theorem h_cell (T : Txt K mg A) (a : Addr) (ns : List Int) : Have P w K mg base "_law_cell_at" 1 ["_law_script", "_law_k"] [] (sp_cell K a ns) := by
  refine T.r_l_cell_at.have sc_l_cell_at (fun vs H Q E z => ?_) ?_
  · obtain ⟨k, rfl, _⟩ := z; rfl
  · intro f cdv A' outer s H vs Q E hr z
    obtain ⟨k, rfl, hs, hk, q⟩ := z
    refine ⟨_, (pss_cons (ps_if (pt_cmpR op_lt (pvM 1) (pe_callB call_len rfl T.b_len PySem.boot_len (pa_cons (pvM 0) pa_nil)) (nomark _)) (pss_one (ps_ret (pe_ix ix_list (pvM 0) (pvM 1) (fun _ _ => rfl)))) pss_nil)
      (pss_one (ps_ret pe_int))), ?_⟩
    walk_at "wp"
    refine ⟨ns.length, .inl ⟨_, hs, by simp⟩, ?_⟩
    by_cases c : k < (ns.length : Int)
    · rw [if_pos c]
      refine ⟨_, hs, .int (ns.getD k.toNat 0), ?_, q⟩
      have hlt : k.toNat < ns.length := by omega
      have e : atI (ns.map V.int) ((k.toNat : Nat) : Int) = some (.int (ns.getD k.toNat 0)) := atI_nat (by simp [hlt])
      rw [show ((k.toNat : Nat) : Int) = k by omega] at e
      exact e
    · rw [if_neg c]
      have hge : ns.length ≤ k.toNat := by omega
      rw [show ns.getD k.toNat 0 = 0 by simp [List.getD, hge]] at q
      exact q
theorem cutV_to {xs : List V} {hi : Nat} : cutV xs none (some (hi : Int)) = xs.take hi := by
  unfold cutV
  show (xs.drop 0).take ((if (hi : Int) < 0 then ((hi : Int) + (xs.length : Int)).toNat else min (hi : Int).toNat xs.length) - 0) = _
  rw [if_neg (by omega), Int.toNat_natCast, List.drop_zero, Nat.sub_zero]
  rcases Nat.le_total hi xs.length with h | h
  · rw [Nat.min_eq_left h]
  · rw [Nat.min_eq_right h, List.take_length, List.take_of_length_le h]
theorem cutV_from {xs : List V} {lo : Nat} : cutV xs (some (lo : Int)) none = xs.drop lo := by
  unfold cutV
  show (xs.drop (if (lo : Int) < 0 then ((lo : Int) + (xs.length : Int)).toNat else min (lo : Int).toNat xs.length)).take (xs.length - (if (lo : Int) < 0 then ((lo : Int) + (xs.length : Int)).toNat else min (lo : Int).toNat xs.length)) = _
  rw [if_neg (by omega), Int.toNat_natCast]
  rcases Nat.le_total lo xs.length with h | h
  · rw [Nat.min_eq_left h]
    exact List.take_of_length_le (by rw [List.length_drop]; omega)
  · rw [Nat.min_eq_right h, Nat.sub_self, List.take_zero, List.drop_eq_nil_of_le h]

structure Good (a : Str) : Prop where
  l1 : 1 ≤ a.length
  l2 : a.length ≤ 60
  z : a.cps[0]? = some 48 → a.length = 1
  d : ∀ (i : Nat) c, a.cps[i]? = some c → 48 ≤ c ∧ c ≤ 57
theorem head_dig : ∀ m : Nat, 1 ≤ m → ((Nat.toDigits 10 m).map Char.toNat)[0]? ≠ some 48 := fun m => by
  induction m using Nat.strongRecOn with
  | _ m ih =>
    intro h1
    by_cases h : m < 10
    · rw [Nat.toDigits_of_lt_base h]
      have : m = 1 ∨ m = 2 ∨ m = 3 ∨ m = 4 ∨ m = 5 ∨ m = 6 ∨ m = 7 ∨ m = 8 ∨ m = 9 := by omega
      rcases this with rfl | rfl | rfl | rfl | rfl | rfl | rfl | rfl | rfl <;> decide
    · have hm : m % 10 < 10 := Nat.mod_lt m (by decide)
      have t : Nat.toDigits 10 (m / 10) ++ Nat.toDigits 10 (m % 10) = Nat.toDigits 10 (10 * (m / 10) + m % 10) := Nat.toDigits_append_toDigits (by decide) (by omega) hm
      rw [Nat.div_add_mod] at t
      rw [← t, List.map_append]
      have hne : 0 < ((Nat.toDigits 10 (m / 10)).map Char.toNat).length := by
        rw [List.length_map]
        exact toDigits_len_ge 10 (m / 10)
      rw [List.getElem?_append_left hne]
      exact ih (m / 10) (by omega) (by omega)
theorem num_txt {n : Int} (h0 : 0 ≤ n) (h1 : n < 10 ^ 60) : Good (Str.ofString (toString n)) ∧ PySem.intText? (Str.ofString (toString n)) = some n := by
  have hl : (Str.ofString (toString n)).length ≤ 60 := PyProof.Rows.toString_length_le h0 (by decide) h1
  obtain ⟨m, rfl⟩ := Int.eq_ofNat_of_zero_le h0
  have hs := PySem.W.KIN.signs_num m
  have hd : PySem.NumText.AllDigits (PySem.Str.ofString (toString ((m : Nat) : Int))).cps.toList := by
    intro c hc
    rw [hs] at hc
    obtain ⟨ch, hch, e⟩ := List.mem_map.mp hc
    have r := PyProof.Rows.digit_range (Nat.isDigit_of_mem_toDigits (by decide) (by decide) hch)
    rw [← e]
    exact r
  have hne : (PySem.Str.ofString (toString ((m : Nat) : Int))).cps.toList ≠ [] := by
    rw [hs]
    intro e
    have h := toDigits_len_ge 10 m
    rw [List.map_eq_nil_iff.mp e] at h
    exact absurd h (by decide)
  have e := PySem.intText_digits hd hne (by omega)
  rw [hs, PySem.W.KIN.val_back] at e
  have hll : (PySem.Str.ofString (toString ((m : Nat) : Int))).cps.toList.length = (PySem.Str.ofString (toString ((m : Nat) : Int))).length := Array.length_toList
  refine ⟨⟨?_, hl, fun h => ?_, fun i c hc => hd c ?_⟩, e⟩
  · have := List.length_pos_iff.mpr hne
    omega
  · rw [← Array.getElem?_toList, hs] at h
    have hm : ¬ 1 ≤ m := fun z => head_dig m z h
    obtain rfl : m = 0 := by omega
    rw [← hll, hs]; rfl
  · rw [← Array.getElem?_toList] at hc
    exact List.mem_of_getElem? hc
theorem fig_in {c : Nat} (h : 48 ≤ c ∧ c ≤ 57) : (!(Builtin.Str.occurrences (Str.ofString "0123456789") ⟨#[c]⟩ 0 (Str.ofString "0123456789").length 1).isEmpty) = true := by
  have : c = 48 ∨ c = 49 ∨ c = 50 ∨ c = 51 ∨ c = 52 ∨ c = 53 ∨ c = 54 ∨ c = 55 ∨ c = 56 ∨ c = 57 := by omega
  rcases this with rfl | rfl | rfl | rfl | rfl | rfl | rfl | rfl | rfl | rfl <;> decide +kernel
def sp_isnum : Sp := fun vs H Q _ => ∃ a, vs = [.str a] ∧ Good a ∧ ∀ H', Same H H' → Q (.bl true) H'
theorem h_isnum (T : Txt K mg A) : Have P w K mg base "is_number" 1 ["word"] [] sp_isnum := by
  refine T.r_is_number.have sc_is_number (fun vs H Q E z => ?_) ?_
  · obtain ⟨a, rfl, _⟩ := z; rfl
  · intro f cdv A' outer s H vs Q E hr z
    obtain ⟨a, rfl, hG, q⟩ := z
    refine ⟨_, (pss_cons (ps_if (PW.pt (pw_or (pt_cmpR op_lt (pe_callB call_len rfl T.b_len PySem.boot_len (pa_cons (pvM 0) pa_nil)) pe_int (nomark _)) (pw_or1 (pt_cmpR op_gt (pe_callB call_len rfl T.b_len PySem.boot_len (pa_cons (pvM 0) pa_nil)) (pe_globE rfl T.c_MOST_FIGURES) (nomark _))))) (pss_one (ps_ret pe_bl)) pss_nil)
      (pss_cons (ps_if (PW.pt (pw_and (pt_cmpR op_eq (pe_ix ix_str (pvM 0) pe_int (fun _ _ => rfl)) pe_str (nomark _)) (pw_and1 (pt_cmpR op_gt (pe_callB call_len rfl T.b_len PySem.boot_len (pa_cons (pvM 0) pa_nil)) pe_int (nomark _))))) (pss_one (ps_ret pe_bl)) pss_nil)
      (pss_one (ps_ret (pe_callB (call_all rfl) rfl T.b_all (by decide +kernel) (pa_cons (pe_comp rfl (pi_str (pvM 0)) (x := "sign") (fs := []) (ix := []) rfl rfl (fun _ _ _ _ _ _ => (pg_name (i := 0) (show (["sign"] : List Str).Nodup by decide +kernel) rfl (Or.inl rfl))) (fun _ _ _ _ _ _ => pf_nil) (fun _ _ _ _ _ _ => (pe_cmpR op_inS (pvM 0) (pe_globE rfl T.c_FIGURES) (by with_unfolding_all rfl)))) pa_nil)))))), ?_⟩
    unfold rIxS
    walk_at "wp"
    have hz := PySem.sizeLine_eq
    have hl1 := hG.l1
    have hl2 := hG.l2
    have hsz : a.cps.size = a.length := rfl
    obtain ⟨c, hc⟩ : ∃ c, a.cps[0]? = some c := ⟨_, Array.getElem?_eq_getElem (by omega)⟩
    have fin : ∀ D, H D = none → Comp (gName 0) tYes (tOp (fun x y H Q => ∃ a b, x = V.str a ∧ y = V.str b ∧ Q (V.bl !(Builtin.Str.occurrences b a 0 b.length 1).isEmpty) H) (tVarM 0) (tC (V.str (Str.ofString "0123456789")))) HidC.mk (Its a) [none] D (fun H' => ∃ x, SqL K H' D (List.map V.bl x) ∧ Q (V.bl (x.all id)) H') H := fun D hD => by
      refine comp_str (fun i ys σ H' => ∃ v, σ = [v] ∧ Same H H' ∧ H' D = some (.lst ys) ∧ ys = List.replicate i (V.bl true)) ⟨_, rfl, same_upd same_refl hD, upd_same, rfl⟩ (fun i c ys σ H' hi => ?_) (fun ys σ H' => ?_)
      · rintro ⟨v, rfl, s1, hD1, rfl⟩
        have hil : i < a.cps.size := (Array.getElem?_eq_some_iff.mp hi).1
        walk_at "wp"
        rw [fig_in (hG.d i c hi)]
        exact ⟨hD1, by rw [List.length_replicate]; omega, same_put s1 hD, by rw [← List.replicate_succ']; rfl⟩
      · rintro ⟨v, rfl, s1, hD1, rfl⟩
        refine ⟨List.replicate a.cps.size true, SqL.of (by rw [List.map_replicate]; exact hD1), ?_⟩
        rw [List.all_eq_true.mpr (fun x hx => by rw [List.eq_of_mem_replicate hx]; rfl)]
        exact q _ s1
    refine ⟨_, ⟨by omega, rfl⟩, ?_⟩
    rw [if_neg (by omega)]
    refine ⟨_, ⟨by omega, rfl⟩, ?_⟩
    rw [if_neg (by omega)]
    refine ⟨by omega, c, atI_nat (j := 0) (by rw [Array.getElem?_toList]; exact hc), ite2 (fun e => ?_) (fun _ => iteF fin)⟩
    have hc48 : c = 48 := by
      have h1 : (⟨#[c]⟩ : Str).cps = #[48] := by rw [e]; decide +kernel
      simpa using h1
    refine ⟨_, ⟨by omega, rfl⟩, ?_⟩
    rw [if_neg (by have := hG.z (by rw [hc, hc48]); omega)]
    exact fin
def sp_rnum : Sp := fun vs H Q _ => ∃ a n, vs = [.str a] ∧ Good a ∧ PySem.intText? a = some n ∧ ∀ H', Same H H' → Q (.int n) H'
theorem h_rnum (T : Txt K mg A) : Have P w K mg base "read_number" 2 ["word"] [] sp_rnum := by
  have H_is_number := h_isnum (P := P) (w := w) (base := base) T
  refine T.r_read_number.have sc_read_number (fun vs H Q E z => ?_) ?_
  · obtain ⟨a, n, rfl, _⟩ := z; rfl
  · intro f cdv A' outer s H vs Q E hr z
    obtain ⟨a, n, rfl, hG, hn, q⟩ := z
    refine ⟨_, (pss_cons (ps_if (pt_not (pt_val (pe_callE H_is_number (hr.mono (by decide)) xw_def (pa_cons (pvM 0) pa_nil)))) (pss_one (ps_raise xr_def rfl T.x_NoRow (pa_cons pe_str pa_nil))) pss_nil)
      (pss_one (ps_ret (pe_callTy call_intT rfl T.b_int PyProof.Rows.boot_int (pa_cons (pvM 0) pa_nil))))), ?_⟩
    unfold sp_isnum
    walk_at "wp"
    have hl2 := hG.l2
    exact ⟨hG, fun H' s1 => iteF ⟨n, hn, by omega, q _ s1⟩⟩
def sp_rval : Sp := fun vs H Q _ => ∃ a n, vs = [.str a] ∧ a.length ≤ 61 ∧ ((Txt.startswith a (Str.ofString "-") = false ∧ Good a ∧ PySem.intText? a = some n) ∨ ∃ m, Txt.startswith a (Str.ofString "-") = true ∧ Good (Txt.slice a (some 1) none) ∧ PySem.intText? (Txt.slice a (some 1) none) = some m ∧ m ≠ 0 ∧ n = 0 - m) ∧ ∀ H', Same H H' → Q (.int n) H'
theorem h_rval (T : Txt K mg A) : Have P w K mg base "read_value" 3 ["word"] [] sp_rval := by
  have H_read_number := h_rnum (P := P) (w := w) (base := base) T
  refine T.r_read_value.have sc_read_value (fun vs H Q E z => ?_) ?_
  · obtain ⟨a, n, rfl, _⟩ := z; rfl
  · intro f cdv A' outer s H vs Q E hr z
    obtain ⟨a, n, rfl, hl, hc, q⟩ := z
    refine ⟨_, (pss_cons (ps_if (pt_not (pt_val (pe_bm PySem.F.plainAttrs_str PySem.F.slot_str_startswith PySem.F.type_str_startswith mt_startswith (pvM 0) (pa_cons pe_str pa_nil)))) (pss_one (ps_ret (pe_callE H_read_number (hr.mono (by decide)) xw_def (pa_cons (pvM 0) pa_nil)))) pss_nil)
      (pss_cons (ps_set (i := 1) sc_read_value.nd rfl (Or.inl rfl) (pe_callE H_read_number (hr.mono (by decide)) xw_def (pa_cons (pe_slice sl_str (pvM 0) (po_some pe_int) po_none) pa_nil)))
      (pss_cons (ps_if (pt_cmpR op_eq (pvM 1) pe_int (nomark _)) (pss_one (ps_raise xr_def rfl T.x_NoRow (pa_cons pe_str pa_nil))) pss_nil)
      (pss_one (ps_ret (pe_op op_sub pe_int (pvM 1))))))), ?_⟩
    unfold sp_rnum
    walk_at "wp"
    refine ⟨rfl, ?_⟩
    rcases hc with ⟨h1, h2, h3⟩ | ⟨m, h1, h2, h3, h4, rfl⟩
    · rw [h1]
      exact iteT ⟨h2, n, h3, q⟩
    · rw [h1]
      refine iteF ⟨by omega, h2, m, h3, fun H' s1 => ?_⟩
      rw [if_neg h4]
      exact q _ s1

theorem app_sep {c : Nat} : ∀ {p q u v : List Nat}, c ∉ p → c ∉ q → p ++ c :: u = q ++ c :: v → p = q ∧ u = v
  | [], [], u, v, _, _, e => by cases e; exact ⟨rfl, rfl⟩
  | [], y :: q, u, v, _, h, e => by cases e; exact absurd (List.mem_cons_self ..) h
  | x :: p, [], u, v, h, _, e => by cases e; exact absurd (List.mem_cons_self ..) h
  | x :: p, y :: q, u, v, h1, h2, e => by
    obtain ⟨rfl, e2⟩ := List.cons.inj e
    obtain ⟨rfl, rfl⟩ := app_sep (fun z => h1 (List.mem_cons_of_mem _ z)) (fun z => h2 (List.mem_cons_of_mem _ z)) e2
    exact ⟨rfl, rfl⟩
theorem str_of {a b : Str} (h : a.cps.toList = b.cps.toList) : a = b := by
  cases a; cases b
  simp only at h
  rw [Array.toList_inj] at h
  rw [h]
theorem join_inj {c : Nat} : ∀ {ps qs : List Str}, ps ≠ [] → qs ≠ [] → (∀ p ∈ ps, c ∉ p.cps.toList) → (∀ p ∈ qs, c ∉ p.cps.toList) → Str.join ⟨#[c]⟩ ps = Str.join ⟨#[c]⟩ qs → ps = qs
  | [], _, h, _, _, _, _ => absurd rfl h
  | _, [], _, h, _, _, _ => absurd rfl h
  | [p], [q], _, _, _, _, e => by rw [show p = q from e]
  | [p], q :: q2 :: r, _, _, h1, h2, e => by
    have e1 : p = q ++ ⟨#[c]⟩ ++ Str.join ⟨#[c]⟩ (q2 :: r) := e
    exact absurd (by rw [e1]; simp [Str.cps_append]) (h1 p (List.mem_cons_self ..))
  | p :: p2 :: r, [q], _, _, h1, h2, e => by
    have e1 : p ++ ⟨#[c]⟩ ++ Str.join ⟨#[c]⟩ (p2 :: r) = q := e
    exact absurd (by rw [← e1]; simp [Str.cps_append]) (h2 q (List.mem_cons_self ..))
  | p :: p2 :: r, q :: q2 :: t, _, _, h1, h2, e => by
    have e1 : p ++ ⟨#[c]⟩ ++ Str.join ⟨#[c]⟩ (p2 :: r) = q ++ ⟨#[c]⟩ ++ Str.join ⟨#[c]⟩ (q2 :: t) := e
    have e2 := congrArg (fun z : Str => z.cps.toList) e1
    simp only [Str.cps_append, Array.toList_append, List.append_assoc] at e2
    obtain ⟨e3, e4⟩ := app_sep (h1 p (List.mem_cons_self ..)) (h2 q (List.mem_cons_self ..)) (show p.cps.toList ++ c :: (Str.join ⟨#[c]⟩ (p2 :: r)).cps.toList = q.cps.toList ++ c :: (Str.join ⟨#[c]⟩ (q2 :: t)).cps.toList from e2)
    rw [str_of e3, join_inj (by simp) (by simp) (fun z hz => h1 z (List.mem_cons_of_mem _ hz)) (fun z hz => h2 z (List.mem_cons_of_mem _ hz)) (str_of e4)]
theorem sp_is : (Str.ofString " " : Str) = ⟨#[32]⟩ := by decide +kernel
theorem txt_join (c : Str) (ws : List Str) : Txt.join c ws = Str.join c ws := PySem.StrLaws.glued_eq_join c ws
theorem split_join {ws : List Str} (h0 : ws ≠ []) (h : ∀ p ∈ ws, 32 ∉ p.cps.toList) : Txt.split (Txt.join (Str.ofString " ") ws) (Str.ofString " ") = ws := by
  rw [txt_join, sp_is]
  have e := PySem.StrLaws.join_split (Str.join ⟨#[32]⟩ ws) ⟨#[32]⟩
  have hf := PySem.StrLaws.split_free (Str.join ⟨#[32]⟩ ws) 32
  have hn := PyProof.Rows.split_pos (Str.join ⟨#[32]⟩ ws) ⟨#[32]⟩
  exact join_inj (fun z => by rw [z] at hn; exact absurd hn (by decide)) h0 hf h e
inductive Fk where
  | n | v | r
structure Fm where
  w : Str
  ks : List Fk
def fkW : Fk → Str
  | .n => "number"
  | .v => "value"
  | .r => "rights"
def fms : List Fm := [⟨"new", []⟩, ⟨"fork", [.n]⟩, ⟨"end", [.n]⟩, ⟨"bank", [.n]⟩, ⟨"drop", [.n]⟩, ⟨"lay", [.n, .n, .n, .r]⟩, ⟨"lay", [.n, .n, .n, .r, .n, .n]⟩, ⟨"lift", [.n, .n, .n]⟩, ⟨"guard", [.n, .n, .n, .r]⟩, ⟨"read", [.n, .n]⟩, ⟨"write", [.n, .n, .v]⟩, ⟨"fold", []⟩, ⟨"see", [.n, .n]⟩, ⟨"laid", [.n]⟩, ⟨"live", []⟩]
def fA (A : Adr) : List Addr := [A.C_FORMS_0, A.C_FORMS_1, A.C_FORMS_2, A.C_FORMS_3, A.C_FORMS_4, A.C_FORMS_5, A.C_FORMS_6, A.C_FORMS_7, A.C_FORMS_8, A.C_FORMS_9, A.C_FORMS_10, A.C_FORMS_11, A.C_FORMS_12, A.C_FORMS_13, A.C_FORMS_14]
def fI (f : Fm) : List V := V.str f.w :: f.ks.map fun k => V.str (fkW k)
theorem f_at (T : Txt K mg A) : ∀ (i : Nat) (f : Fm), fms[i]? = some f → ∃ a, (fA A)[i]? = some a ∧ ∀ H, SqT K H a (fI f)
  | 0, _, e => by cases e; exact ⟨_, rfl, T.q_FORMS_0⟩
  | 1, _, e => by cases e; exact ⟨_, rfl, T.q_FORMS_1⟩
  | 2, _, e => by cases e; exact ⟨_, rfl, T.q_FORMS_2⟩
  | 3, _, e => by cases e; exact ⟨_, rfl, T.q_FORMS_3⟩
  | 4, _, e => by cases e; exact ⟨_, rfl, T.q_FORMS_4⟩
  | 5, _, e => by cases e; exact ⟨_, rfl, T.q_FORMS_5⟩
  | 6, _, e => by cases e; exact ⟨_, rfl, T.q_FORMS_6⟩
  | 7, _, e => by cases e; exact ⟨_, rfl, T.q_FORMS_7⟩
  | 8, _, e => by cases e; exact ⟨_, rfl, T.q_FORMS_8⟩
  | 9, _, e => by cases e; exact ⟨_, rfl, T.q_FORMS_9⟩
  | 10, _, e => by cases e; exact ⟨_, rfl, T.q_FORMS_10⟩
  | 11, _, e => by cases e; exact ⟨_, rfl, T.q_FORMS_11⟩
  | 12, _, e => by cases e; exact ⟨_, rfl, T.q_FORMS_12⟩
  | 13, _, e => by cases e; exact ⟨_, rfl, T.q_FORMS_13⟩
  | 14, _, e => by cases e; exact ⟨_, rfl, T.q_FORMS_14⟩
  | n + 15, _, e => by cases e
def fkey : List (Str × Nat) := fms.map fun f => (f.w, f.ks.length)
theorem fkey_nd : fkey.Nodup := by decide +kernel
theorem f_one {i j : Nat} {f g : Fm} (hf : fms[i]? = some f) (hg : fms[j]? = some g) (e1 : f.w = g.w) (e2 : f.ks.length = g.ks.length) : i = j := by
  have h1 : fkey[i]? = some (f.w, f.ks.length) := by unfold fkey; rw [List.getElem?_map, hf]; rfl
  have h2 : fkey[j]? = some (f.w, f.ks.length) := by unfold fkey; rw [List.getElem?_map, hg, e1, e2]; rfl
  exact (List.getElem?_inj (List.getElem?_eq_some_iff.mp h1).1 fkey_nd).mp (h1.trans h2.symm)
def sp_form (K : PySem.W.Frag) : Sp := fun vs H Q _ => ∃ (k : Nat) (f : Fm) (L : Int), vs = [.str f.w, .int L] ∧ fms[k]? = some f ∧ L = 1 + f.ks.length ∧ ∀ a, (∀ H, SqT K H a (fI f)) → Q (.ref a) H
theorem h_form (T : Txt K mg A) : Have P w K mg base "form_of" 1 ["first_word", "length"] [] (sp_form K) := by
  refine T.r_form_of.have sc_form_of (fun vs H Q E z => ?_) ?_
  · obtain ⟨k, f, L, rfl, _⟩ := z; rfl
  · intro f cdv A' outer s H vs Q E hr z
    obtain ⟨k, f, L, rfl, hk, hL, q⟩ := z
    refine ⟨_, (pss_cons (ps_forE PassesOwn.leaving rfl (pi_tup (pe_globE rfl T.c_FORMS)) (pg_name (i := 2) sc_form_of.nd rfl (Or.inl rfl)) (pss_one (ps_if (PW.pt (pw_and (pt_cmpR op_eq (pe_ix ix_tup (pvM 2) pe_int (fun _ _ => rfl)) (pvM 0) (nomark _)) (pw_and1 (pt_cmpR op_eq (pe_callB call_len rfl T.b_len PySem.boot_len (pa_cons (pvM 2) pa_nil)) (pvM 1) (nomark _))))) (pss_one (ps_ret (pvM 2))) pss_nil)))
      (pss_one (ps_raise xr_def rfl T.x_NoRow (pa_cons pe_str pa_nil)))), ?_⟩
    walk_at "wp"
    have hkl : k < 15 := (List.getElem?_eq_some_iff.mp hk).1
    refine ⟨⟨_, T.q_FORMS H⟩, loop_tup (K := K) (xs := (fA A).map V.ref) (fun i σ H' => ∃ v2, σ = [some (.str f.w), some (.int L), v2] ∧ H' = H ∧ i ≤ k) ⟨_, rfl, rfl, Nat.zero_le _⟩ (fun i σ H' _ _ => T.q_FORMS H') (fun i x σ H' hi => ?_) (fun σ H' => ?_)⟩
    · rintro ⟨v2, rfl, rfl, hik⟩
      obtain ⟨g, hg⟩ : ∃ g, fms[i]? = some g := ⟨_, List.getElem?_eq_getElem (show i < fms.length by show i < 15; omega)⟩
      obtain ⟨a, ha, hq⟩ := f_at T i g hg
      rw [List.getElem?_map, ha] at hi
      obtain rfl : V.ref a = x := Option.some.inj hi
      walk_at "wp"
      refine ⟨_, hq H', V.str g.w, atI_nat (j := 0) rfl, ?_⟩
      refine ⟨rfl, ?_⟩
      by_cases e1 : g.w = f.w
      · rw [if_pos (by rw [e1])]
        refine ⟨_, .inr ⟨_, hq H', rfl⟩, ?_⟩
        have hln : (fI g).length = g.ks.length + 1 := by unfold fI; rw [List.length_cons, List.length_map]
        by_cases e2 : g.ks.length = f.ks.length
        · obtain rfl := f_one hg hk e1 e2
          rw [hk] at hg
          cases hg
          rw [if_pos (by omega)]
          exact q a hq
        · rw [if_neg (by omega)]
          have : i ≠ k := fun e => e2 (by rw [e, hk] at hg; cases hg; rfl)
          omega
      · rw [if_neg (fun z => e1 (V.str.inj z))]
        refine iteF ?_
        have : i ≠ k := fun e => e1 (by rw [e, hk] at hg; cases hg; rfl)
        omega
    · rintro ⟨v2, rfl, rfl, hik⟩
      exact absurd hik (by show ¬ 15 ≤ k; omega)
def okF : Fk → Int → Prop
  | .n, x => 0 ≤ x ∧ x < 10 ^ 60
  | .v, x => -(10 ^ 60) < x ∧ x < 10 ^ 60
  | .r, x => 0 ≤ x ∧ x < 4
def rts : List Str := ["--", "r-", "-w", "rw"]
def wtF : Fk → Int → Str
  | .r, x => rts.getD x.toNat ""
  | _, x => Str.ofString (toString x)
def sp_rrt : Sp := fun vs H Q _ => ∃ x, vs = [.str (wtF .r x)] ∧ okF .r x ∧ Q (.int x) H
theorem h_rrt (T : Txt K mg A) : Have P w K mg base "read_rights" 1 ["word"] [] sp_rrt := by
  refine T.r_read_rights.have sc_read_rights (fun vs H Q E z => ?_) ?_
  · obtain ⟨x, rfl, _⟩ := z; rfl
  · intro f cdv A' outer s H vs Q E hr z
    obtain ⟨x, rfl, hx, q⟩ := z
    refine ⟨_, (pss_cons (ps_if (pt_cmpR op_notIn_seq (pvM 0) (pe_globE rfl T.c_RIGHTS) (by with_unfolding_all rfl)) (pss_one (ps_raise xr_def rfl T.x_NoRow (pa_cons pe_str pa_nil))) pss_nil)
      (pss_one (ps_ret (pe_bm PySem.F.plainAttrs_tuple PySem.F.slot_tuple_index PySem.F.type_tuple_index mt_indexT (pe_globE rfl T.c_RIGHTS) (pa_cons (pvM 0) pa_nil))))), ?_⟩
    walk_at "wp"
    have hx0 := hx.1
    have hx4 := hx.2
    have key : ∀ j : Nat, x = j → (inV (V.str (wtF .r x)) (rts.map V.str)) = true → List.findIdx? (fun z => eqV z (V.str (wtF .r x))) (rts.map V.str) = some j → (if (!inV (V.str (wtF .r x)) (rts.map V.str)) = true then E (Value.ref A.C_NoRow) none H else tyV K "tuple" (V.ref A.C_RIGHTS) H ∧ ∃ x_2, SqT K H A.C_RIGHTS x_2 ∧ flatV (V.str (wtF Fk.r x)) = true ∧ x_2.all flatV = true ∧ ∃ x_3, List.findIdx? (fun z => eqV z (V.str (wtF Fk.r x))) x_2 = some x_3 ∧ Q (V.int ↑x_3) H) := fun j e h1 h2 => by
      rw [h1]
      exact iteF ⟨.inr (.inl ⟨rfl, T.d_RIGHTS⟩), _, T.q_RIGHTS H, rfl, rfl, j, h2, by rw [← e]; exact q⟩
    refine ⟨_, .inr (T.q_RIGHTS H), rfl, rfl, ?_⟩
    obtain rfl | rfl | rfl | rfl : x = 0 ∨ x = 1 ∨ x = 2 ∨ x = 3 := by omega
    · exact key 0 rfl (by decide +kernel) (by decide +kernel)
    · exact key 1 rfl (by decide +kernel) (by decide +kernel)
    · exact key 2 rfl (by decide +kernel) (by decide +kernel)
    · exact key 3 rfl (by decide +kernel) (by decide +kernel)
theorem slice1 (a : Str) (h : 1 ≤ a.length) : Txt.slice a (some 1) none = ⟨(a.cps.toList.drop 1).toArray⟩ := by
  have e := PySem.StrLaws.sliceText_from (x := a) (i := 1) ⟨by decide, by show (1 : Int) ≤ ((a.cps.toList.length : Nat) : Int); rw [Array.length_toList]; show (1 : Int) ≤ ((a.length : Nat) : Int); omega⟩
  have e2 : Txt.slice a (some 1) none = PySem.StrLaws.sliceText a (some 1) none := rfl
  rw [e2, e]
  refine str_of ?_
  show (List.take _ (List.drop 1 a.cps.toList)) = List.drop 1 a.cps.toList
  exact List.take_of_length_le (by rw [List.length_drop]; omega)
theorem dash_is {a : Str} : Txt.startswith a (Str.ofString "-") = decide (a.cps.toList[0]? = some 45) := by
  have e : (Str.ofString "-" : Str) = ⟨#[45]⟩ := by decide +kernel
  rw [e]
  have h := PySem.StrLaws.subAt_one a 45 0
  unfold Txt.startswith
  rw [Bool.eq_iff_iff, Bool.and_eq_true, decide_eq_true_eq, decide_eq_true_eq]
  exact h
theorem no_dash {a : Str} (h : Good a) : Txt.startswith a (Str.ofString "-") = false := by
  rw [dash_is, decide_eq_false]
  intro z
  rw [Array.getElem?_toList] at z
  have := h.d 0 45 z
  omega
theorem neg_txt {n : Int} (h0 : 0 < n) : (Str.ofString (toString (-n))).cps.toList = 45 :: (Str.ofString (toString n)).cps.toList := by
  obtain ⟨m, rfl⟩ : ∃ m : Nat, n = ((m + 1 : Nat) : Int) := ⟨n.toNat - 1, by omega⟩
  have e : toString (-((m + 1 : Nat) : Int)) = "-" ++ toString ((m + 1 : Nat) : Int) := rfl
  rw [e, PyProof.Rows.signs_ofString, PyProof.Rows.signs_ofString, String.toList_append, List.map_append]
  rfl
theorem val_txt {x : Int} (h : okF .v x) : (Str.ofString (toString x)).length ≤ 61 ∧ ((Txt.startswith (Str.ofString (toString x)) (Str.ofString "-") = false ∧ Good (Str.ofString (toString x)) ∧ PySem.intText? (Str.ofString (toString x)) = some x) ∨ ∃ m, Txt.startswith (Str.ofString (toString x)) (Str.ofString "-") = true ∧ Good (Txt.slice (Str.ofString (toString x)) (some 1) none) ∧ PySem.intText? (Txt.slice (Str.ofString (toString x)) (some 1) none) = some m ∧ m ≠ 0 ∧ x = 0 - m) := by
  by_cases c : 0 ≤ x
  · obtain ⟨g, e⟩ := num_txt c h.2
    exact ⟨by have := g.l2; omega, .inl ⟨no_dash g, g, e⟩⟩
  · obtain ⟨m, rfl⟩ : ∃ m, x = -m := ⟨-x, by omega⟩
    have hm : 0 < m := by omega
    have h1 := h.1
    obtain ⟨g, e⟩ := num_txt (n := m) (by omega) (by omega)
    have hn := neg_txt hm
    have hl : (Str.ofString (toString (-m))).length = 1 + (Str.ofString (toString m)).length := by
      have := congrArg List.length hn
      rw [List.length_cons, Array.length_toList, Array.length_toList] at this
      show (Str.ofString (toString (-m))).cps.size = 1 + (Str.ofString (toString m)).cps.size
      omega
    have hs : Txt.slice (Str.ofString (toString (-m))) (some 1) none = Str.ofString (toString m) := by
      rw [slice1 _ (by omega), hn]
      exact str_of (by simp)
    refine ⟨by have := g.l2; omega, .inr ⟨m, ?_, by rw [hs]; exact g, by rw [hs]; exact e, by omega, by omega⟩⟩
    rw [dash_is, hn]
    rfl
theorem w_free {k : Fk} {x : Int} (h : okF k x) : 32 ∉ (wtF k x).cps.toList ∧ (wtF k x).length ≤ 61 := by
  have num : ∀ {n : Int}, 0 ≤ n → n < 10 ^ 60 → 32 ∉ (Str.ofString (toString n)).cps.toList ∧ (Str.ofString (toString n)).length ≤ 60 := fun h0 h1 => by
    obtain ⟨g, _⟩ := num_txt h0 h1
    refine ⟨fun z => ?_, g.l2⟩
    obtain ⟨i, hi⟩ := List.mem_iff_getElem?.mp z
    rw [Array.getElem?_toList] at hi
    have := g.d i 32 hi
    omega
  cases k with
  | n => obtain ⟨a, b⟩ := num h.1 h.2; exact ⟨a, by show (Str.ofString (toString x)).length ≤ 61; omega⟩
  | v =>
    refine ⟨?_, (val_txt h).1⟩
    show 32 ∉ (Str.ofString (toString x)).cps.toList
    by_cases c : 0 ≤ x
    · exact (num c h.2).1
    · obtain ⟨m, rfl⟩ : ∃ m, x = -m := ⟨-x, by omega⟩
      have h1 := h.1
      rw [neg_txt (by omega), List.mem_cons, not_or]
      exact ⟨by decide, (num (by omega) (by omega)).1⟩
  | r =>
    have h0 := h.1
    have h1 := h.2
    obtain rfl | rfl | rfl | rfl : x = 0 ∨ x = 1 ∨ x = 2 ∨ x = 3 := by omega
    · decide +kernel
    · decide +kernel
    · decide +kernel
    · decide +kernel
def sp_rw : Sp := fun vs H Q _ => ∃ k x, vs = [.str (fkW k), .str (wtF k x)] ∧ okF k x ∧ ∀ H', Same H H' → Q (.int x) H'
theorem h_rw (T : Txt K mg A) : Have P w K mg base "read_word" 4 ["kind", "word"] [] sp_rw := by
  have H_read_rights := h_rrt (P := P) (w := w) (base := base) T
  have H_read_value := h_rval (P := P) (w := w) (base := base) T
  have H_read_number := h_rnum (P := P) (w := w) (base := base) T
  refine T.r_read_word.have sc_read_word (fun vs H Q E z => ?_) ?_
  · obtain ⟨k, x, rfl, _⟩ := z; rfl
  · intro f cdv A' outer s H vs Q E hr z
    obtain ⟨k, x, rfl, hx, q⟩ := z
    refine ⟨_, (pss_cons (ps_if (pt_cmpR op_eq (pvM 0) pe_str (nomark _)) (pss_one (ps_ret (pe_callE H_read_rights (hr.mono (by decide)) xw_def (pa_cons (pvM 1) pa_nil)))) pss_nil)
      (pss_cons (ps_if (pt_cmpR op_eq (pvM 0) pe_str (nomark _)) (pss_one (ps_ret (pe_callE H_read_value (hr.mono (by decide)) xw_def (pa_cons (pvM 1) pa_nil)))) pss_nil)
      (pss_one (ps_ret (pe_callE H_read_number (hr.mono (by decide)) xw_def (pa_cons (pvM 1) pa_nil)))))), ?_⟩
    walk_at "wp"
    cases k with
    | n =>
      rw [if_neg (by decide +kernel), if_neg (by decide +kernel)]
      obtain ⟨g, e⟩ := num_txt hx.1 hx.2
      exact ⟨_, _, rfl, g, e, q⟩
    | v =>
      rw [if_neg (by decide +kernel), if_pos (by decide +kernel)]
      obtain ⟨g, e⟩ := val_txt hx
      exact ⟨_, _, rfl, g, e, q⟩
    | r =>
      rw [if_pos (by decide +kernel)]
      exact ⟨x, rfl, hx, q _ same_refl⟩
def due (f : Fm) (xs : List Int) : List V := V.str f.w :: xs.map V.int ++ if f.w = "lay" ∧ f.ks.length = 4 then [V.non, V.int 0] else []
def rowT (f : Fm) (xs : List Int) : Str := Txt.join (Str.ofString " ") (f.w :: List.zipWith wtF f.ks xs)
def Ok (f : Fm) (xs : List Int) : Prop := (∃ k : Nat, fms[k]? = some f) ∧ xs.length = f.ks.length ∧ ∀ (i : Nat) k x, f.ks[i]? = some k → xs[i]? = some x → okF k x

theorem fw_ok : ∀ f ∈ fms, 32 ∉ f.w.cps.toList ∧ f.w.length ≤ 5 ∧ f.ks.length ≤ 6 := by decide +kernel
def wsF (f : Fm) (xs : List Int) : List Str := f.w :: List.zipWith wtF f.ks xs
theorem ws_ok {f : Fm} {xs : List Int} (h : Ok f xs) : (∀ p ∈ wsF f xs, 32 ∉ p.cps.toList ∧ p.length ≤ 61) ∧ (wsF f xs).length = f.ks.length + 1 ∧ f.ks.length ≤ 6 := by
  obtain ⟨⟨k, hk⟩, hl, hx⟩ := h
  obtain ⟨h1, h2, h3⟩ := fw_ok f (List.mem_of_getElem? hk)
  refine ⟨fun p hp => ?_, ?_, h3⟩
  · rcases List.mem_cons.mp hp with rfl | hp
    · exact ⟨h1, by omega⟩
    · obtain ⟨i, hi⟩ := List.mem_iff_getElem?.mp hp
      rw [List.getElem?_zipWith] at hi
      cases e1 : f.ks[i]? with
      | none => rw [e1] at hi; cases hi
      | some k =>
        cases e2 : xs[i]? with
        | none => rw [e1, e2] at hi; cases hi
        | some x =>
          rw [e1, e2] at hi
          obtain rfl : wtF k x = p := Option.some.inj hi
          exact w_free (hx i k x e1 e2)
  · unfold wsF
    rw [List.length_cons, List.length_zipWith, hl, Nat.min_self]
theorem row_len {f : Fm} {xs : List Int} (h : Ok f xs) : (rowT f xs).length ≤ 1000 ∧ ((wsF f xs).map (·.length)).sum + (wsF f xs).length * (Str.ofString " ").length ≤ 16777216 := by
  obtain ⟨h1, h2, h3⟩ := ws_ok h
  have h4 := PySem.StrLaws.sumLen_le (B := 61) (wsF f xs) (fun y hy => (h1 y hy).2)
  have h5 := PySem.StrLaws.join_length_le (Str.ofString " ") (wsF f xs)
  have h6 : (Str.ofString " " : Str).length = 1 := by decide +kernel
  rw [h6] at h5 ⊢
  have h7 : (wsF f xs).length * 61 ≤ 7 * 61 := Nat.mul_le_mul_right _ (by omega)
  refine ⟨?_, by omega⟩
  show (Txt.join (Str.ofString " ") (wsF f xs)).length ≤ 1000
  rw [txt_join]
  omega
theorem cut1 {x : V} {xs : List V} : cutV (x :: xs) (some 1) none = xs := cutV_from (lo := 1)
def sp_row : Sp := fun vs H Q _ => ∃ f xs, vs = [.str (rowT f xs)] ∧ Ok f xs ∧ ∀ p H', Same H H' → H' p = some (.tup (due f xs)) → Q (.ref p) H'
theorem h_row (T : Txt K mg A) : Have P w K mg base "read_row" 5 ["text"] [] sp_row := by
  have H_form_of := h_form (P := P) (w := w) (base := base) T
  have H_read_word := h_rw (P := P) (w := w) (base := base) T
  refine T.r_read_row.have sc_read_row (fun vs H Q E z => ?_) ?_
  · obtain ⟨f, xs, rfl, _⟩ := z; rfl
  · intro f cdv A' outer s H vs Q E hr z
    obtain ⟨f, xs, rfl, hO, q⟩ := z
    refine ⟨_, (pss_cons (ps_set (i := 1) sc_read_row.nd rfl (Or.inl rfl) (pe_bm PySem.F.plainAttrs_str PySem.F.slot_str_split PySem.F.type_str_split mt_split (pvM 0) (pa_cons pe_str pa_nil)))
      (pss_cons (ps_set (i := 2) sc_read_row.nd rfl (Or.inl rfl) (pe_callE H_form_of (hr.mono (by decide)) xw_def (pa_cons (pe_ix ix_list (pvM 1) pe_int (fun _ _ => rfl)) (pa_cons (pe_callB call_len rfl T.b_len PySem.boot_len (pa_cons (pvM 1) pa_nil)) pa_nil))))
      (pss_cut (ps_set (i := 3) sc_read_row.nd rfl (Or.inl rfl) (pe_op op_catT (pe_tup (pa_cons (pe_ix ix_list (pvM 1) pe_int (fun _ _ => rfl)) pa_nil)) (pe_callTy call_tuple_of rfl T.b_tuple PyProof.Rows.boot_tuple (pa_cons (pe_compM rfl (pi_zip rfl T.b_zip (pa_cons (pe_slice sl_tup (pvM 2) (po_some pe_int) po_none) (pa_cons (pe_slice sl_list (pvM 1) (po_some pe_int) po_none) pa_nil))) (x := "kind") (xs := ["kind", "word"]) (fs := []) (ix := []) rfl rfl (fun _ _ _ _ _ _ => (pg_tupC (K := K) (n := 2) rfl rfl (pgs_cons (pg_name (i := 0) (show (["kind", "word"] : List Str).Nodup by decide +kernel) rfl (Or.inl rfl)) (pgs_cons (pg_name (i := 1) (show (["kind", "word"] : List Str).Nodup by decide +kernel) rfl (Or.inl rfl)) pgs_nil)))) (fun _ _ _ _ _ _ => pf_nil) (fun _ _ _ _ _ _ => (pe_callE H_read_word (hr.mono (by decide)) xw_no (pa_cons (pvM 0) (pa_cons (pvM 1) pa_nil))))) pa_nil))))
      (pss_cons (ps_if (PW.pt (pw_and (pt_cmpR op_eq (pe_ix ix_tup (pvM 3) pe_int (fun _ _ => rfl)) pe_str (nomark _)) (pw_and1 (pt_cmpR op_eq (pe_callB call_len rfl T.b_len PySem.boot_len (pa_cons (pvM 3) pa_nil)) pe_int (nomark _))))) (pss_one (ps_ret (pe_op op_catT (pvM 3) (pe_globE rfl T.c_NO_BANK)))) pss_nil)
      (pss_one (ps_ret (pvM 3))))))), ?_⟩
    walk_at "wp"
    obtain ⟨hw1, hw2, hw3⟩ := ws_ok hO
    obtain ⟨hl1, hl2⟩ := row_len hO
    have hsp : Txt.split (rowT f xs) (Str.ofString " ") = wsF f xs := split_join (fun z => nomatch z) (fun p hp => (hw1 p hp).1)
    have hoc := PySem.StrLaws.occ_length_le (rowT f xs) (Str.ofString " ") 0 (rowT f xs).length ((rowT f xs).length + 1)
    obtain ⟨⟨k, hk⟩, hxl, hxo⟩ := id hO
    refine ⟨rfl, by decide +kernel, by omega, by rw [PySem.length_partsBetween]; omega, by rw [hsp]; omega, fun l hl => ?_⟩
    rw [hsp]
    have s1 := same_upd (o := .lst ((wsF f xs).map V.str)) (same_refl (H := H)) hl
    have hl1' : upd H l (.lst ((wsF f xs).map V.str)) l = some (.lst ((wsF f xs).map V.str)) := upd_same
    generalize upd H l (.lst ((wsF f xs).map V.str)) = H1 at *
    refine ⟨_, SqL.of hl1', V.str f.w, atI_nat (j := 0) rfl, _, .inl ⟨_, SqL.of hl1', rfl⟩, k, f, _, rfl, hk, by rw [List.length_map]; omega, fun a hq => ?_⟩
    refine ⟨fun σ G => ∃ v1 v2 d, σ = [some (.str (rowT f xs)), v1, v2, some (.ref d)] ∧ Same H G ∧ G d = some (.tup (V.str f.w :: xs.map V.int)), ?_, fun σ' G => ?_⟩
    rotate_left
    · rintro ⟨u1, u2, d, rfl, s7, hd7⟩
      walk_at "wp"
      refine ⟨_, SqT.of hd7, V.str f.w, atI_nat (j := 0) rfl, rfl, ?_⟩
      by_cases c1 : f.w = Str.ofString "lay"
      · rw [if_pos (by rw [c1])]
        refine ⟨_, .inr ⟨_, SqT.of hd7, rfl⟩, ?_⟩
        by_cases c2 : f.ks.length = 4
        · rw [if_pos (by rw [List.length_cons, List.length_map]; omega)]
          refine ⟨_, SqT.of hd7, _, T.q_NO_BANK G, (fun z => nomatch z), by rw [List.length_cons, List.length_map]; show xs.length + 1 + 2 ≤ 16777216; omega, (fun z => nomatch z), fun _ p7 hp7 => q p7 _ (same_upd s7 hp7) ?_⟩
          unfold due
          rw [if_pos ⟨c1, c2⟩]
          exact upd_same
        · rw [if_neg (by rw [List.length_cons, List.length_map]; omega)]
          refine q d G s7 ?_
          unfold due
          rw [if_neg (fun z => c2 z.2), List.append_nil]
          exact hd7
      · rw [if_neg (fun z => c1 (V.str.inj z))]
        refine iteF (q d G s7 ?_)
        unfold due
        rw [if_neg (fun z => c1 z.1), List.append_nil]
        exact hd7
    walk_at "wp"
    refine ⟨_, SqL.of hl1', V.str f.w, atI_nat (j := 0) rfl, fun p hp => ?_⟩
    have s2 := same_upd (o := .tup [V.str f.w]) (same_refl (H := H1)) hp
    have hp2 : upd H1 p (.tup [V.str f.w]) p = some (.tup [V.str f.w]) := upd_same
    generalize upd H1 p (.tup [V.str f.w]) = H2 at *
    refine ⟨_, hq H2, (fun z => absurd z.1 (by
      have : HT.sIx (fI f).length 0 (some 1) = min 1 (fI f).length := by simp [HT.sIx]
      rw [this]
      unfold fI
      rw [List.length_cons]
      omega)), fun p1 hp1 => ?_⟩
    rw [show cutV (fI f) (some 1) none = f.ks.map (fun k => V.str (fkW k)) from cut1]
    have s3 := same_upd (o := .tup (f.ks.map fun k => V.str (fkW k))) (same_refl (H := H2)) hp1
    have hp3 : upd H2 p1 (.tup (f.ks.map fun k => V.str (fkW k))) p1 = some (.tup (f.ks.map fun k => V.str (fkW k))) := upd_same
    generalize upd H2 p1 (.tup (f.ks.map fun k => V.str (fkW k))) = H3 at *
    refine ⟨_, SqL.of (s3 _ _ (s2 _ _ hl1')), fun p2 hp2' => ?_⟩
    rw [show cutV ((wsF f xs).map V.str) (some 1) none = (List.zipWith wtF f.ks xs).map V.str from cut1]
    have s4 := same_upd (o := .lst ((List.zipWith wtF f.ks xs).map V.str)) (same_refl (H := H3)) hp2'
    have hp4 : upd H3 p2 (.lst ((List.zipWith wtF f.ks xs).map V.str)) p2 = some (.lst ((List.zipWith wtF f.ks xs).map V.str)) := upd_same
    generalize upd H3 p2 (.lst ((List.zipWith wtF f.ks xs).map V.str)) = H4 at *
    have hp34 := s4 _ _ hp3
    have s14 := ((s1.trans s2).trans s3).trans s4
    have hw4 := s4 _ _ (s3 _ _ hp2)
    clear hl hl1' hp hp2 hp1 hp3 hp2' s1 s2 s3 s4
    refine ⟨_, SqT.of hp34, _, SqL.of hp4, fun D hD => ?_⟩
    refine comp_zip (K := K) (xs := f.ks.map fun k => V.str (fkW k)) (ys := (List.zipWith wtF f.ks xs).map V.str) (fun i zs σ H' => ∃ v0 v1, σ = [v0, v1] ∧ Same H4 H' ∧ H' D = some (.lst zs) ∧ zs = (xs.take i).map V.int) (by rw [List.length_map, List.length_map, List.length_zipWith]; omega) ⟨_, _, rfl, same_upd same_refl hD, upd_same, rfl⟩ (fun i zs σ H' _ ⟨_, _, _, e, _⟩ => ⟨SqT.of (e _ _ hp34), SqL.of (e _ _ hp4)⟩) (fun i x y t zs σ H' hi1 hi2 => ?_) (fun zs σ H' => ?_)
    · rintro ⟨v0, v1, rfl, s5, hD5, rfl⟩ ht
      walk_at "wp"
      rw [List.getElem?_map] at hi1 hi2
      rw [List.getElem?_zipWith] at hi2
      cases e1 : f.ks[i]? with
      | none => rw [e1] at hi1; cases hi1
      | some k' =>
        cases e2 : xs[i]? with
        | none => rw [e1, e2] at hi2; cases hi2
        | some x' =>
          rw [e1] at hi1
          rw [e1, e2] at hi2
          obtain rfl : V.str (fkW k') = x := Option.some.inj hi1
          obtain rfl : V.str (wtF k' x') = y := Option.some.inj hi2
          refine ⟨_, SqT.of upd_same, rfl, _, _, rfl, _, _, rfl, rfl, k', x', rfl, hxo i k' x' e1 e2, fun H6 s6 => ?_⟩
          have s7 := same_upd (o := .tup [V.str (fkW k'), V.str (wtF k' x')]) (same_refl (H := H')) ht
          exact ⟨s6 _ _ (s7 _ _ hD5), by rw [List.length_map, List.length_take]; omega, same_put ((s5.trans s7).trans s6) hD, by rw [List.take_add_one, e2, List.map_append]; rfl⟩
    · rintro ⟨v0, v1, rfl, s5, hD5, rfl⟩
      rw [List.length_map, ← hxl, List.take_length] at hD5
      have hw5 := s5 _ _ hw4
      have s15 := s14.trans s5
      refine ⟨_, .inl ⟨SqL.of hD5, fun l2 hl2 => ?_⟩⟩
      have s6 := same_upd (o := .tup (xs.map V.int)) (same_refl (H := H')) hl2
      have hl6 : upd H' l2 (.tup (xs.map V.int)) l2 = some (.tup (xs.map V.int)) := upd_same
      generalize upd H' l2 (.tup (xs.map V.int)) = H6 at *
      have s16 := s15.trans s6
      have hz := PySem.sizeLine_eq
      exact ⟨_, SqT.of (s6 _ _ hw5), _, SqT.of hl6, (fun z => nomatch z), by rw [List.length_map]; show 1 + xs.length ≤ 16777216; omega, fun h0 => ⟨s16, by rw [h0]; exact s6 _ _ hw5⟩, fun h0 p6 hp6 => ⟨same_upd s16 hp6, rfl⟩⟩

def fkC : Fk → Nat
  | .n => 110
  | .v => 118
  | .r => 114
def kst (f : Fm) : Str := ⟨(f.ks.map fkC).toArray⟩
theorem new_at {H : Hp} {p : Addr} {o : HO} (h : H p = none) : Same H (upd H p o) ∧ upd H p o p = some o := ⟨same_upd same_refl h, upd_same⟩
inductive LF (H : Hp) : List V → List Fm → Prop where
  | nil : LF H [] []
  | cons {t : Addr} {f : Fm} {us : List V} {fs : List Fm} : H t = some (.tup [.str f.w, .str (kst f)]) → LF H us fs → LF H (.ref t :: us) (f :: fs)
theorem LF.same {H H' : Hp} {us : List V} {fs : List Fm} (h : LF H us fs) (s : Same H H') : LF H' us fs := by
  induction h with
  | nil => exact .nil
  | cons e _ ih => exact .cons (s _ _ e) ih
theorem LF.app {H : Hp} {us vs : List V} {fs gs : List Fm} (h : LF H us fs) (h2 : LF H vs gs) : LF H (us ++ vs) (fs ++ gs) := by
  induction h with
  | nil => exact h2
  | cons e _ ih => exact .cons e ih
theorem LF.get {H : Hp} {us : List V} {fs : List Fm} (h : LF H us fs) : ∀ {i : Nat} {f : Fm}, fs[i]? = some f → ∃ t, us[i]? = some (.ref t) ∧ H t = some (.tup [.str f.w, .str (kst f)]) := by
  induction h with
  | nil => intro i f e; cases e
  | cons e _ ih =>
    intro i f h
    cases i with
    | zero => cases h; exact ⟨_, rfl, e⟩
    | succ i => exact ih h
theorem LF.len {H : Hp} {us : List V} {fs : List Fm} (h : LF H us fs) : us.length = fs.length := by
  induction h with
  | nil => rfl
  | cons _ _ ih => rw [List.length_cons, List.length_cons, ih]
def sp_lform : Sp := fun vs H Q _ => ∃ (c : Int), vs = [.int c] ∧ ∀ (k : Nat) f t H', fms[k]? = some f → Same H H' → H' t = some (.tup [.str f.w, .str (kst f)]) → Q (.ref t) H'
theorem h_lform (T : Txt K mg A) : Have P w K mg base "_law_form" 1 ["_law_cell"] [] sp_lform := by
  refine T.r_l_form.have sc_l_form (fun vs H Q E z => ?_) ?_
  · obtain ⟨c, rfl, _⟩ := z; rfl
  · intro f cdv A' outer s H vs Q E hr z
    obtain ⟨c, rfl, q⟩ := z
    refine ⟨_, (@pss_cut _ _ _ _ _ (@ps_set _ _ 1 _ _ _ _ sc_l_form.nd rfl (Or.inl rfl) (@pe_lst _ _ _ _ (@pa_cons _ _ _ _ _ (pe_tup (pa_cons pe_str (pa_cons pe_str pa_nil))) (@pa_cons _ _ _ _ _ (pe_tup (pa_cons pe_str (pa_cons pe_str pa_nil))) (@pa_cons _ _ _ _ _ (pe_tup (pa_cons pe_str (pa_cons pe_str pa_nil))) (@pa_cons _ _ _ _ _ (pe_tup (pa_cons pe_str (pa_cons pe_str pa_nil))) (@pa_cons _ _ _ _ _ (pe_tup (pa_cons pe_str (pa_cons pe_str pa_nil))) (@pa_cons _ _ _ _ _ (pe_tup (pa_cons pe_str (pa_cons pe_str pa_nil))) pa_nil rfl) rfl) rfl) rfl) rfl) rfl)) rfl (Or.inl rfl))
      (@pss_cut _ _ _ _ _ (@ps_set _ _ 1 _ _ _ _ sc_l_form.nd rfl (Or.inl rfl) (pe_op op_cat (pvM 1) (@pe_lst _ _ _ _ (@pa_cons _ _ _ _ _ (pe_tup (pa_cons pe_str (pa_cons pe_str pa_nil))) (@pa_cons _ _ _ _ _ (pe_tup (pa_cons pe_str (pa_cons pe_str pa_nil))) (@pa_cons _ _ _ _ _ (pe_tup (pa_cons pe_str (pa_cons pe_str pa_nil))) (@pa_cons _ _ _ _ _ (pe_tup (pa_cons pe_str (pa_cons pe_str pa_nil))) (@pa_cons _ _ _ _ _ (pe_tup (pa_cons pe_str (pa_cons pe_str pa_nil))) pa_nil rfl) rfl) rfl) rfl) rfl))) rfl (Or.inl rfl))
      (pss_cut (ps_set (i := 1) sc_l_form.nd rfl (Or.inl rfl) (pe_op op_cat (pvM 1) (pe_lst (pa_cons (pe_tup (pa_cons pe_str (pa_cons pe_str pa_nil))) (pa_cons (pe_tup (pa_cons pe_str (pa_cons pe_str pa_nil))) (pa_cons (pe_tup (pa_cons pe_str (pa_cons pe_str pa_nil))) (pa_cons (pe_tup (pa_cons pe_str (pa_cons pe_str pa_nil))) pa_nil)))))))
      (pss_one (ps_ret (pe_ix ix_list (pvM 1) (pe_op op_mod (pvM 0) pe_int) (fun _ _ => rfl))))))), ?_⟩
    have hz := PySem.sizeLine_eq
    refine ⟨fun σ H' => ∃ l us, σ = [some (.int c), some (.ref l)] ∧ Same H H' ∧ H' l = some (.lst us) ∧ LF H' us (fms.take 6), ?_, fun σ1 H1 => ?_⟩
    · walk_at "wp"
      intro p0 e0
      obtain ⟨t0, g0⟩ := new_at (o := .tup [V.str (Str.ofString "new"), V.str (Str.ofString "")]) e0
      generalize upd H p0 _ = G0 at *
      rw [show (Str.ofString "" : Str) = kst fms[0] by decide +kernel] at g0
      intro p1 e1
      obtain ⟨t1, g1⟩ := new_at (o := .tup [V.str (Str.ofString "fork"), V.str (Str.ofString "n")]) e1
      generalize upd G0 p1 _ = G1 at *
      rw [show (Str.ofString "n" : Str) = kst fms[1] by decide +kernel] at g1
      intro p2 e2
      obtain ⟨t2, g2⟩ := new_at (o := .tup [V.str (Str.ofString "end"), V.str (Str.ofString "n")]) e2
      generalize upd G1 p2 _ = G2 at *
      rw [show (Str.ofString "n" : Str) = kst fms[2] by decide +kernel] at g2
      intro p3 e3
      obtain ⟨t3, g3⟩ := new_at (o := .tup [V.str (Str.ofString "bank"), V.str (Str.ofString "n")]) e3
      generalize upd G2 p3 _ = G3 at *
      rw [show (Str.ofString "n" : Str) = kst fms[3] by decide +kernel] at g3
      intro p4 e4
      obtain ⟨t4, g4⟩ := new_at (o := .tup [V.str (Str.ofString "drop"), V.str (Str.ofString "n")]) e4
      generalize upd G3 p4 _ = G4 at *
      rw [show (Str.ofString "n" : Str) = kst fms[4] by decide +kernel] at g4
      intro p5 e5
      obtain ⟨t5, g5⟩ := new_at (o := .tup [V.str (Str.ofString "lay"), V.str (Str.ofString "nnnr")]) e5
      generalize upd G4 p5 _ = G5 at *
      rw [show (Str.ofString "nnnr" : Str) = kst fms[5] by decide +kernel] at g5
      intro l el
      obtain ⟨tl, gl⟩ := new_at (o := .lst [V.ref p0, V.ref p1, V.ref p2, V.ref p3, V.ref p4, V.ref p5]) el
      exact ⟨((((((t0).trans t1).trans t2).trans t3).trans t4).trans t5).trans tl, _, rfl, .cons (f := fms[0]) (tl _ _ (t5 _ _ (t4 _ _ (t3 _ _ (t2 _ _ (t1 _ _ (g0))))))) (.cons (f := fms[1]) (tl _ _ (t5 _ _ (t4 _ _ (t3 _ _ (t2 _ _ (g1)))))) (.cons (f := fms[2]) (tl _ _ (t5 _ _ (t4 _ _ (t3 _ _ (g2))))) (.cons (f := fms[3]) (tl _ _ (t5 _ _ (t4 _ _ (g3)))) (.cons (f := fms[4]) (tl _ _ (t5 _ _ (g4))) (.cons (f := fms[5]) (tl _ _ (g5)) (.nil))))))⟩
    rintro ⟨l1, us1, rfl, s1, hl1, hF1⟩
    refine ⟨fun σ H' => ∃ l us, σ = [some (.int c), some (.ref l)] ∧ Same H H' ∧ H' l = some (.lst us) ∧ LF H' us (fms.take 11), ?_, fun σ2 H2 => ?_⟩
    · walk_at "wp"
      intro p6 e6
      obtain ⟨t6, g6⟩ := new_at (o := .tup [V.str (Str.ofString "lay"), V.str (Str.ofString "nnnrnn")]) e6
      generalize upd H1 p6 _ = G6 at *
      rw [show (Str.ofString "nnnrnn" : Str) = kst fms[6] by decide +kernel] at g6
      intro p7 e7
      obtain ⟨t7, g7⟩ := new_at (o := .tup [V.str (Str.ofString "lift"), V.str (Str.ofString "nnn")]) e7
      generalize upd G6 p7 _ = G7 at *
      rw [show (Str.ofString "nnn" : Str) = kst fms[7] by decide +kernel] at g7
      intro p8 e8
      obtain ⟨t8, g8⟩ := new_at (o := .tup [V.str (Str.ofString "guard"), V.str (Str.ofString "nnnr")]) e8
      generalize upd G7 p8 _ = G8 at *
      rw [show (Str.ofString "nnnr" : Str) = kst fms[8] by decide +kernel] at g8
      intro p9 e9
      obtain ⟨t9, g9⟩ := new_at (o := .tup [V.str (Str.ofString "read"), V.str (Str.ofString "nn")]) e9
      generalize upd G8 p9 _ = G9 at *
      rw [show (Str.ofString "nn" : Str) = kst fms[9] by decide +kernel] at g9
      intro p10 e10
      obtain ⟨t10, g10⟩ := new_at (o := .tup [V.str (Str.ofString "write"), V.str (Str.ofString "nnv")]) e10
      generalize upd G9 p10 _ = G10 at *
      rw [show (Str.ofString "nnv" : Str) = kst fms[10] by decide +kernel] at g10
      intro l el
      obtain ⟨tl, gl⟩ := new_at (o := .lst [V.ref p6, V.ref p7, V.ref p8, V.ref p9, V.ref p10]) el
      have sa := (((((t6).trans t7).trans t8).trans t9).trans t10).trans tl
      have hF := (hF1.same sa).app (LF.cons (f := fms[6]) (tl _ _ (t10 _ _ (t9 _ _ (t8 _ _ (t7 _ _ (g6)))))) (.cons (f := fms[7]) (tl _ _ (t10 _ _ (t9 _ _ (t8 _ _ (g7))))) (.cons (f := fms[8]) (tl _ _ (t10 _ _ (t9 _ _ (g8)))) (.cons (f := fms[9]) (tl _ _ (t10 _ _ (g9))) (.cons (f := fms[10]) (tl _ _ (g10)) (.nil))))))
      exact ⟨_, sa _ _ hl1, _, rfl, by rw [hF1.len]; show 6 + 5 ≤ 16777216; decide, fun p hp => ⟨same_upd (s1.trans sa) hp, _, rfl, hF.same (same_upd same_refl hp)⟩⟩
    rintro ⟨l2, us2, rfl, s2, hl2, hF2⟩
    refine ⟨fun σ H' => ∃ l us, σ = [some (.int c), some (.ref l)] ∧ Same H H' ∧ H' l = some (.lst us) ∧ LF H' us fms, ?_, fun σ3 H3 => ?_⟩
    · walk_at "wp"
      intro p11 e11
      obtain ⟨t11, g11⟩ := new_at (o := .tup [V.str (Str.ofString "fold"), V.str (Str.ofString "")]) e11
      generalize upd H2 p11 _ = G11 at *
      rw [show (Str.ofString "" : Str) = kst fms[11] by decide +kernel] at g11
      intro p12 e12
      obtain ⟨t12, g12⟩ := new_at (o := .tup [V.str (Str.ofString "see"), V.str (Str.ofString "nn")]) e12
      generalize upd G11 p12 _ = G12 at *
      rw [show (Str.ofString "nn" : Str) = kst fms[12] by decide +kernel] at g12
      intro p13 e13
      obtain ⟨t13, g13⟩ := new_at (o := .tup [V.str (Str.ofString "laid"), V.str (Str.ofString "n")]) e13
      generalize upd G12 p13 _ = G13 at *
      rw [show (Str.ofString "n" : Str) = kst fms[13] by decide +kernel] at g13
      intro p14 e14
      obtain ⟨t14, g14⟩ := new_at (o := .tup [V.str (Str.ofString "live"), V.str (Str.ofString "")]) e14
      generalize upd G13 p14 _ = G14 at *
      rw [show (Str.ofString "" : Str) = kst fms[14] by decide +kernel] at g14
      intro l el
      obtain ⟨tl, gl⟩ := new_at (o := .lst [V.ref p11, V.ref p12, V.ref p13, V.ref p14]) el
      have sa := ((((t11).trans t12).trans t13).trans t14).trans tl
      have hF := (hF2.same sa).app (LF.cons (f := fms[11]) (tl _ _ (t14 _ _ (t13 _ _ (t12 _ _ (g11))))) (.cons (f := fms[12]) (tl _ _ (t14 _ _ (t13 _ _ (g12)))) (.cons (f := fms[13]) (tl _ _ (t14 _ _ (g13))) (.cons (f := fms[14]) (tl _ _ (g14)) (.nil)))))
      exact ⟨_, sa _ _ hl2, _, rfl, by rw [hF2.len]; show 11 + 4 ≤ 16777216; decide, fun p hp => ⟨same_upd (s2.trans sa) hp, _, rfl, hF.same (same_upd same_refl hp)⟩⟩
    rintro ⟨l3, us3, rfl, s3, hl3, hF3⟩
    walk_at "wp"
    obtain ⟨j, hj⟩ : ∃ j : Nat, c % 15 = (j : Int) := ⟨(c % 15).toNat, by omega⟩
    have hj15 : j < 15 := by omega
    obtain ⟨f, hf⟩ : ∃ f, fms[j]? = some f := ⟨_, List.getElem?_eq_getElem (show j < fms.length from hj15)⟩
    obtain ⟨t, ht, hT⟩ := hF3.get hf
    rw [hj]
    exact ⟨_, SqL.of hl3, _, atI_nat ht, q j f t H3 hf s3 hT⟩

def sp_srt : Sp := fun vs H Q _ => ∃ x, vs = [.int x] ∧ okF .r x ∧ Q (.str (wtF .r x)) H
theorem h_srt (T : Txt K mg A) : Have P w K mg base "show_rights" 1 ["rights"] [] sp_srt := by
  refine T.r_show_rights.have sc_show_rights (fun vs H Q E z => ?_) ?_
  · obtain ⟨x, rfl, _⟩ := z; rfl
  · intro f cdv A' outer s H vs Q E hr z
    obtain ⟨x, rfl, hx, q⟩ := z
    refine ⟨_, (pss_one (ps_ret (pe_ix ix_tup (pe_globE rfl T.c_RIGHTS) (pvM 0) (fun _ _ => rfl)))), ?_⟩
    walk_at "wp"
    have h0 := hx.1
    have h1 := hx.2
    obtain rfl | rfl | rfl | rfl : x = 0 ∨ x = 1 ∨ x = 2 ∨ x = 3 := by omega
    · exact ⟨_, T.q_RIGHTS H, _, atI_nat (j := 0) rfl, q⟩
    · exact ⟨_, T.q_RIGHTS H, _, atI_nat (j := 1) rfl, q⟩
    · exact ⟨_, T.q_RIGHTS H, _, atI_nat (j := 2) rfl, q⟩
    · exact ⟨_, T.q_RIGHTS H, _, atI_nat (j := 3) rfl, q⟩
theorem log_ok {x : Int} (h0 : -(10 ^ 60) < x) (h1 : x < 10 ^ 60) : x.natAbs.log2 < 1920 := by
  by_cases c : x.natAbs = 0
  · rw [c]; decide
  · have h2 : x.natAbs < 10 ^ 60 := by omega
    have h3 : x.natAbs < 2 ^ 200 := Nat.lt_trans h2 (by decide +kernel)
    have := (Nat.log2_lt c).mpr h3
    omega
def sp_sw : Sp := fun vs H Q _ => ∃ k x, vs = [.str (fkW k), .int x] ∧ okF k x ∧ Q (.str (wtF k x)) H
theorem h_sw (T : Txt K mg A) : Have P w K mg base "show_word" 2 ["kind", "part"] [] sp_sw := by
  have H_show_rights := h_srt (P := P) (w := w) (base := base) T
  refine T.r_show_word.have sc_show_word (fun vs H Q E z => ?_) ?_
  · obtain ⟨k, x, rfl, _⟩ := z; rfl
  · intro f cdv A' outer s H vs Q E hr z
    obtain ⟨k, x, rfl, hx, q⟩ := z
    refine ⟨_, (pss_one (ps_ret (pe_ifExp (pt_cmpR op_eq (pvM 0) pe_str (nomark _)) (pe_callE H_show_rights (hr.mono (by decide)) xw_def (pa_cons (pvM 1) pa_nil)) (pe_callTy call_strI rfl T.b_str PyProof.Rows.boot_str (pa_cons (pvM 1) pa_nil))))), ?_⟩
    walk_at "wp"
    cases k with
    | n =>
      rw [if_neg (by decide +kernel)]
      have h0 := hx.1
      exact ⟨log_ok (by omega) hx.2, q⟩
    | v =>
      rw [if_neg (by decide +kernel)]
      exact ⟨log_ok hx.1 hx.2, q⟩
    | r =>
      rw [if_pos (by decide +kernel)]
      exact ⟨x, rfl, hx, q⟩
theorem due_lay {f : Fm} (h : ∃ k : Nat, fms[k]? = some f) (e : f.w = Str.ofString "lay") : f.ks.length = 4 ∨ f.ks.length = 6 := by
  obtain ⟨k, hk⟩ := h
  have : ∀ f ∈ fms, f.w = Str.ofString "lay" → f.ks.length = 4 ∨ f.ks.length = 6 := by decide +kernel
  exact this f (List.mem_of_getElem? hk) e
def sp_show : Sp := fun vs H Q _ => ∃ p f xs, vs = [.ref p] ∧ H p = some (.tup (due f xs)) ∧ Ok f xs ∧ ∀ H', Same H H' → Q (.str (rowT f xs)) H'
theorem h_show (T : Txt K mg A) : Have P w K mg base "show_row" 3 ["deed"] [] sp_show := by
  have H_form_of := h_form (P := P) (w := w) (base := base) T
  have H_show_word := h_sw (P := P) (w := w) (base := base) T
  refine T.r_show_row.have sc_show_row (fun vs H Q E z => ?_) ?_
  · obtain ⟨p, f, xs, rfl, _⟩ := z; rfl
  · intro f cdv A' outer s H vs Q E hr z
    obtain ⟨p, f, xs, rfl, hp, hO, q⟩ := z
    refine ⟨_, (pss_cons (ps_set (i := 1) sc_show_row.nd rfl (Or.inl rfl) (pvM 0))
      (pss_cut (ps_if (PW.pt (pw_and (pt_cmpR op_eq (pe_ix ix_tup (pvM 0) pe_int (fun _ _ => rfl)) pe_str (nomark _)) (pw_and1 (pt_cmpR op_isN (pe_ix ix_tup (pvM 0) pe_int (fun _ _ => rfl)) pe_non (nomark _))))) (pss_one (ps_set (i := 1) sc_show_row.nd rfl (Or.inl rfl) (pe_slice sl_tup (pvM 0) po_none (po_some pe_int)))) pss_nil)
      (pss_cons (ps_set (i := 2) sc_show_row.nd rfl (Or.inl rfl) (pe_callE H_form_of (hr.mono (by decide)) xw_def (pa_cons (pe_ix ix_tup (pvM 1) pe_int (fun _ _ => rfl)) (pa_cons (pe_callB call_len rfl T.b_len PySem.boot_len (pa_cons (pvM 1) pa_nil)) pa_nil))))
      (pss_one (ps_ret (pe_bm PySem.F.plainAttrs_str PySem.F.slot_str_join PySem.F.type_str_join mt_join pe_str (pa_cons (pe_op op_cat (pe_lst (pa_cons (pe_ix ix_tup (pvM 1) pe_int (fun _ _ => rfl)) pa_nil)) (pe_compM rfl (pi_zipT rfl T.b_zip (pa_cons (pe_slice sl_tup (pvM 2) (po_some pe_int) po_none) (pa_cons (pe_slice sl_tup (pvM 1) (po_some pe_int) po_none) pa_nil))) (x := "kind") (xs := ["kind", "part"]) (fs := []) (ix := []) rfl rfl (fun _ _ _ _ _ _ => (pg_tupC (K := K) (n := 2) rfl rfl (pgs_cons (pg_name (i := 0) (show (["kind", "part"] : List Str).Nodup by decide +kernel) rfl (Or.inl rfl)) (pgs_cons (pg_name (i := 1) (show (["kind", "part"] : List Str).Nodup by decide +kernel) rfl (Or.inl rfl)) pgs_nil)))) (fun _ _ _ _ _ _ => pf_nil) (fun _ _ _ _ _ _ => (pe_callE H_show_word (hr.mono (by decide)) xw_no (pa_cons (pvM 0) (pa_cons (pvM 1) pa_nil)))))) pa_nil))))))), ?_⟩
    walk_at "wp"
    obtain ⟨hw1, hw2, hw3⟩ := ws_ok hO
    obtain ⟨hl1, hl2⟩ := row_len hO
    obtain ⟨⟨k, hk⟩, hxl, hxo⟩ := id hO
    refine ⟨fun σ G => ∃ v2 d, σ = [some (.ref p), some (.ref d), v2] ∧ Same H G ∧ G d = some (.tup (V.str f.w :: xs.map V.int)), ?_, fun σ' G => ?_⟩
    · walk_at "wp"
      refine ⟨_, SqT.of hp, V.str f.w, atI_nat (j := 0) rfl, rfl, ?_⟩
      by_cases c1 : f.w = Str.ofString "lay"
      · rw [if_pos (by rw [c1])]
        have hcl : (V.str f.w :: xs.map V.int).length = xs.length + 1 := by rw [List.length_cons, List.length_map]
        rcases due_lay ⟨k, hk⟩ c1 with c2 | c2
        · have e : due f xs = (V.str f.w :: xs.map V.int) ++ [V.non, V.int 0] := by unfold due; rw [if_pos ⟨c1, c2⟩]
          rw [e] at hp
          refine ⟨_, SqT.of hp, V.non, atI_nat (j := 5) (by rw [List.getElem?_append_right (by omega), hcl, hxl, c2]; rfl), ?_⟩
          rw [if_pos rfl]
          have hl7 : ((V.str f.w :: xs.map V.int) ++ [V.non, V.int 0]).length = 7 := by rw [List.length_append, hcl]; show xs.length + 1 + 2 = 7; omega
          refine ⟨_, SqT.of hp, (fun z => absurd z.2 (by rw [hl7]; decide)), fun d hd => ⟨same_upd same_refl hd, ?_⟩⟩
          rw [show cutV ((V.str f.w :: xs.map V.int) ++ [V.non, V.int 0]) none (some 5) = ((V.str f.w :: xs.map V.int) ++ [V.non, V.int 0]).take 5 from cutV_to (hi := 5), List.take_append_of_le_length (by omega), List.take_of_length_le (by omega)]
        · have e : due f xs = V.str f.w :: xs.map V.int := by unfold due; rw [if_neg (fun z => by have := z.2; omega), List.append_nil]
          rw [e] at hp
          have e4 : xs[4]? = some (xs[4]'(by omega)) := List.getElem?_eq_getElem (by omega)
          refine ⟨_, SqT.of hp, V.int (xs[4]'(by omega)), atI_nat (j := 5) (by rw [List.getElem?_cons_succ, List.getElem?_map, e4]; rfl), ?_⟩
          rw [if_neg (fun z => nomatch z)]
          exact ⟨same_refl, hp⟩
      · rw [if_neg (fun z => c1 (V.str.inj z))]
        have e : due f xs = V.str f.w :: xs.map V.int := by unfold due; rw [if_neg (fun z => c1 z.1), List.append_nil]
        rw [e] at hp
        exact iteF ⟨same_refl, hp⟩
    rintro ⟨v2, d, rfl, s1, hd1⟩
    walk_at "wp"
    refine ⟨_, SqT.of hd1, V.str f.w, atI_nat (j := 0) rfl, _, .inr ⟨_, SqT.of hd1, rfl⟩, k, f, _, rfl, hk, by rw [List.length_cons, List.length_map]; omega, fun a hq => ?_⟩
    walk_at "wp"
    have hnw : ∀ (x : V) (ys : List V), ¬ (HT.sIx (x :: ys).length 0 (some 1) = 0 ∧ HT.sIx (x :: ys).length (x :: ys).length none = (x :: ys).length) := fun x ys z => absurd z.1 (by
      have : HT.sIx (x :: ys).length 0 (some 1) = min 1 (x :: ys).length := by simp [HT.sIx]
      rw [this, List.length_cons]
      omega)
    refine ⟨rfl, _, SqT.of hd1, V.str f.w, atI_nat (j := 0) rfl, fun p0 hp0 => ?_⟩
    obtain ⟨s2, g2⟩ := new_at (o := .lst [V.str f.w]) hp0
    generalize upd G p0 _ = G2 at *
    refine ⟨_, hq G2, hnw _ _, fun p1 hp1 => ?_⟩
    rw [show cutV (fI f) (some 1) none = f.ks.map (fun k => V.str (fkW k)) from cut1]
    obtain ⟨s3, g3⟩ := new_at (o := .tup (f.ks.map fun k => V.str (fkW k))) hp1
    generalize upd G2 p1 _ = G3 at *
    refine ⟨_, SqT.of (s3 _ _ (s2 _ _ hd1)), hnw _ _, fun p2 hp2 => ?_⟩
    rw [show cutV (V.str f.w :: xs.map V.int) (some 1) none = xs.map V.int from cut1]
    obtain ⟨s4, g4⟩ := new_at (o := .tup (xs.map V.int)) hp2
    generalize upd G3 p2 _ = G4 at *
    have g34 := s4 _ _ g3
    have g24 := s4 _ _ (s3 _ _ g2)
    have s14 := ((s1.trans s2).trans s3).trans s4
    refine ⟨_, SqT.of g34, _, SqT.of g4, fun D hD => ?_⟩
    refine comp_zipT (K := K) (xs := f.ks.map fun k => V.str (fkW k)) (ys := xs.map V.int) (fun i zs σ H' => ∃ v0 v1, σ = [v0, v1] ∧ Same G4 H' ∧ H' D = some (.lst zs) ∧ zs = ((List.zipWith wtF f.ks xs).take i).map V.str) (by rw [List.length_map, List.length_map]; omega) ⟨_, _, rfl, same_upd same_refl hD, upd_same, rfl⟩ (fun i zs σ H' _ ⟨_, _, _, e, _⟩ => ⟨SqT.of (e _ _ g34), SqT.of (e _ _ g4)⟩) (fun i x y t zs σ H' hi1 hi2 => ?_) (fun zs σ H' => ?_)
    · rintro ⟨v0, v1, rfl, s5, hD5, rfl⟩ ht
      walk_at "wp"
      rw [List.getElem?_map] at hi1 hi2
      cases e1 : f.ks[i]? with
      | none => rw [e1] at hi1; cases hi1
      | some k' =>
        cases e2 : xs[i]? with
        | none => rw [e2] at hi2; cases hi2
        | some x' =>
          rw [e1] at hi1
          rw [e2] at hi2
          obtain rfl : V.str (fkW k') = x := Option.some.inj hi1
          obtain rfl : V.int x' = y := Option.some.inj hi2
          obtain ⟨s7, g7⟩ := new_at (o := .tup [V.str (fkW k'), V.int x']) ht
          have ez : (List.zipWith wtF f.ks xs)[i]? = some (wtF k' x') := by rw [List.getElem?_zipWith, e1, e2]
          exact ⟨_, SqT.of g7, rfl, _, _, rfl, _, _, rfl, rfl, k', x', rfl, hxo i k' x' e1 e2, s7 _ _ hD5, by rw [List.length_map, List.length_take, List.length_zipWith]; omega, same_put (s5.trans s7) hD, by rw [List.take_add_one, ez, List.map_append]; rfl⟩
    · rintro ⟨v0, v1, rfl, s5, hD5, rfl⟩
      rw [List.take_of_length_le (by rw [List.length_zipWith, List.length_map]; omega)] at hD5
      refine ⟨_, s5 _ _ g24, _, hD5, by rw [List.length_map, List.length_zipWith]; show 1 + min f.ks.length xs.length ≤ 16777216; omega, fun p9 hp9 => ⟨wsF f xs, SqL.of upd_same, hl2, q _ ((s14.trans s5).trans (same_upd same_refl hp9))⟩⟩
theorem join_snoc (c : Str) : ∀ (ws : List Str) (y : Str), ws ≠ [] → Txt.join c (ws ++ [y]) = Txt.join c ws ++ c ++ y
  | [], _, h => absurd rfl h
  | x :: ws, y, _ => by
    refine str_of ?_
    rw [txt_join, txt_join, List.cons_append, ← PySem.StrLaws.glued_cons, ← PySem.StrLaws.glued_cons, List.foldl_append]
    rfl
theorem len_app (a b : Str) : (a ++ b).length = a.length + b.length := PySem.Str.length_append a b
def digs (n : Nat) : Str := if n = 0 then Str.ofString "" else Str.ofString (toString ((n : Nat) : Int))
theorem dig_at : ∀ d : Nat, d < 10 → (Str.ofString "0123456789").cps.toList[d]? = some ((Nat.digitChar d).toNat) := by decide +kernel
theorem digs_step {n : Nat} (h : n ≠ 0) : (digs n).cps.toList = (digs (n / 10)).cps.toList ++ [(Nat.digitChar (n % 10)).toNat] := by
  unfold digs
  rw [if_neg h, PySem.W.KIN.signs_num]
  have hm : n % 10 < 10 := Nat.mod_lt n (by decide)
  by_cases c : n / 10 = 0
  · rw [if_pos c]
    have e : n % 10 = n := by omega
    rw [e, Nat.toDigits_of_lt_base (by omega)]
    rfl
  · rw [if_neg c, PySem.W.KIN.signs_num]
    have t : Nat.toDigits 10 (n / 10) ++ Nat.toDigits 10 (n % 10) = Nat.toDigits 10 (10 * (n / 10) + n % 10) := Nat.toDigits_append_toDigits (by decide) (by omega) hm
    rw [Nat.div_add_mod] at t
    rw [← t, List.map_append, Nat.toDigits_of_lt_base hm]
    rfl
def sp_fig : Sp := fun vs H Q _ => ∃ n : Int, vs = [.int n] ∧ okF .v n ∧ Q (.str (Str.ofString (toString n))) H
theorem h_fig (T : Txt K mg A) : Have P w K mg base "_law_figures" 1 ["_law_number_here"] [] sp_fig := by
  refine T.r_l_figures.have sc_l_figures (fun vs H Q E z => ?_) ?_
  · obtain ⟨n, rfl, _⟩ := z; rfl
  · intro f cdv A' outer s H vs Q E hr z
    obtain ⟨n, rfl, hn, q⟩ := z
    refine ⟨_, (pss_cons (ps_if (pt_cmpR op_eq (pvM 0) pe_int (nomark _)) (pss_one (ps_ret pe_str)) pss_nil)
      (pss_cons (ps_set (i := 1) sc_l_figures.nd rfl (Or.inl rfl) pe_str)
      (pss_cons (ps_set (i := 2) sc_l_figures.nd rfl (Or.inl rfl) (pe_callB call_abs rfl T.b_abs PyProof.Rows.boot_abs (pa_cons (pvM 0) pa_nil)))
      (pss_cons (ps_whileE PassesOwn.leaving (pt_cmpR op_gt (pvM 2) pe_int (nomark _)) (pss_cons (ps_set (i := 1) sc_l_figures.nd rfl (Or.inl rfl) (pe_op op_catS (pe_ix ix_str pe_str (pe_op op_mod (pvM 2) pe_int) (fun _ _ => rfl)) (pvM 1)))
      (pss_one (ps_set (i := 2) sc_l_figures.nd rfl (Or.inl rfl) (pe_op op_fdiv (pvM 2) pe_int)))))
      (pss_cons (ps_if (pt_cmpR op_lt (pvM 0) pe_int (nomark _)) (pss_one (ps_ret (pe_op op_catS pe_str (pvM 1)))) pss_nil)
      (pss_one (ps_ret (pvM 1)))))))), ?_⟩
    unfold rIxS rCatS
    walk_at "wp"
    have hz := PySem.sizeLine_eq
    have hn0 := hn.1
    have hn1 := hn.2
    by_cases c0 : n = 0
    · rw [if_pos c0]
      rw [c0, show Str.ofString (toString (0 : Int)) = Str.ofString "0" by decide +kernel] at q
      exact q
    rw [if_neg c0]
    have hN : digs n.natAbs = Str.ofString (toString ((n.natAbs : Nat) : Int)) := if_neg (by omega)
    obtain ⟨hG, _⟩ := num_txt (n := ((n.natAbs : Nat) : Int)) (by omega) (by omega)
    have hG2 := hG.l2
    refine loop_while (fun m σ H' => ∃ wr rest, σ = [some (.int n), some (.str wr), some (.int rest)] ∧ H' = H ∧ 0 ≤ rest ∧ m = rest.toNat ∧ (digs rest.toNat).cps.toList ++ wr.cps.toList = (digs n.natAbs).cps.toList) n.natAbs ⟨_, _, rfl, rfl, by split <;> omega, by split <;> omega, ?_⟩ (fun m σ H' => ?_)
    · have e : (if n < 0 then -n else n).toNat = n.natAbs := by split <;> omega
      rw [e]
      show _ ++ ([] : List Nat) = _
      rw [List.append_nil]
    rintro ⟨wr, rest, rfl, rfl, h0, rfl, hd⟩
    have hwl : wr.length ≤ 60 := by
      have h1 := congrArg List.length hd
      rw [List.length_append, hN] at h1
      have h2 : (Str.ofString (toString ((n.natAbs : Nat) : Int))).cps.toList.length = (Str.ofString (toString ((n.natAbs : Nat) : Int))).length := Array.length_toList
      have h3 : wr.cps.toList.length = wr.length := Array.length_toList
      omega
    walk_at "wp"
    refine ite2 (fun c => turnW ?_) (fun c => ?_)
    · walk_at "wp"
      have hm : rest.toNat % 10 < 10 := Nat.mod_lt _ (by decide)
      have e10 : rest % 10 = ((rest.toNat % 10 : Nat) : Int) := by omega
      refine ⟨by decide +kernel, (Nat.digitChar (rest.toNat % 10)).toNat, by rw [e10]; exact atI_nat (dig_at _ hm), by show 1 + wr.length ≤ 16777216; omega, ?_⟩
      refine ⟨_, ?_, by omega, rfl, ?_⟩
      · omega
      · have e : (rest / 10).toNat = rest.toNat / 10 := by omega
        rw [e, ← hd, digs_step (n := rest.toNat) (by omega)]
        simp [PySem.Str.cps_append]
    · have e : rest.toNat = 0 := by omega
      rw [e] at hd
      have hw : wr = Str.ofString (toString ((n.natAbs : Nat) : Int)) := str_of (by rw [← hN]; exact hd)
      refine ite2 (fun c2 => ?_) (fun c2 => ?_)
      · refine ⟨by show 1 + wr.length ≤ 16777216; omega, ?_⟩
        have e2 : Str.ofString "-" ++ wr = Str.ofString (toString n) := by
          have h3 : n = -((n.natAbs : Nat) : Int) := by omega
          have h4 := neg_txt (n := ((n.natAbs : Nat) : Int)) (by omega)
          rw [← h3] at h4
          refine str_of ?_
          rw [h4, hw, PySem.Str.cps_append, Array.toList_append, show (Str.ofString "-").cps.toList = [45] by decide +kernel]
          rfl
        rw [e2]
        exact q
      · have e2 : ((n.natAbs : Nat) : Int) = n := by omega
        rw [e2] at hw
        rw [hw]
        exact q
theorem p10 : ∀ t : Nat, t ≤ 59 → 1 ≤ (10 : Int) ^ t ∧ (10 : Int) ^ t * 10 ≤ 10 ^ 60 := fun t h => by
  have h1 : 10 ^ t ≤ 10 ^ 59 := Nat.pow_le_pow_right (by decide) h
  have h2 : 0 < 10 ^ t := Nat.pow_pos (by decide)
  have e : (10 : Int) ^ t = ((10 ^ t : Nat) : Int) := by push_cast; rfl
  rw [e]
  omega
def sp_lnum : Sp := fun vs H Q _ => ∃ (k : Fk) (c : Int), vs = [.int c, .str ⟨#[fkC k]⟩] ∧ ∀ x H', okF k x → Same H H' → Q (.int x) H'
theorem h_lnum (T : Txt K mg A) : Have P w K mg base "_law_number" 1 ["_law_cell", "_law_kind"] [] sp_lnum := by
  refine T.r_l_number.have sc_l_number (fun vs H Q E z => ?_) ?_
  · obtain ⟨k, c, rfl, _⟩ := z; rfl
  · intro f cdv A' outer s H vs Q E hr z
    obtain ⟨k, c, rfl, q⟩ := z
    refine ⟨_, (pss_cons (ps_if (pt_cmpR op_eq (pvM 1) pe_str (nomark _)) (pss_one (ps_ret (pe_op op_mod (pvM 0) pe_int))) pss_nil)
      (pss_cons (ps_set (i := 2) sc_l_number.nd rfl (Or.inl rfl) pe_int)
      (pss_cons (ps_forE PassesOwn.leaving rfl (pi_range1 rfl T.b_range (pa_cons (pe_op op_mod (pe_op op_fdiv (pvM 0) pe_int) pe_int) pa_nil)) (pg_name (i := 3) sc_l_number.nd rfl (Or.inl rfl)) (pss_one (ps_set (i := 2) sc_l_number.nd rfl (Or.inl rfl) (pe_op op_mul (pvM 2) pe_int))))
      (pss_cons (ps_set (i := 4) sc_l_number.nd rfl (Or.inl rfl) (pe_ix ix_lst (pe_lst (pa_cons (pvM 2) (pa_cons (pe_op op_sub (pe_op op_mul (pvM 2) pe_int) pe_int) (pa_cons (pe_op op_add (pvM 2) (pe_op op_mod (pe_op op_fdiv (pvM 0) pe_int) (pe_op op_mul (pvM 2) pe_int))) pa_nil)))) (pe_op op_mod (pvM 0) pe_int) (fun _ _ => rfl)))
      (pss_cons (ps_if (pt_cmpR op_eq (pe_op op_mod (pe_op op_fdiv (pvM 0) pe_int) pe_int) pe_int (nomark _)) (pss_one (ps_ret pe_int)) pss_nil)
      (pss_cons (ps_if (PW.pt (pw_and (pt_cmpR op_eq (pvM 1) pe_str (nomark _)) (pw_and1 (pt_cmpR op_eq (pe_op op_mod (pe_op op_fdiv (pvM 0) pe_int) pe_int) pe_int (nomark _))))) (pss_one (ps_ret (pe_un op_neg (pvM 4)))) pss_nil)
      (pss_one (ps_ret (pvM 4))))))))), ?_⟩
    walk_at "wp"
    by_cases cr : ({ cps := #[fkC k] } : Str) = Str.ofString "r"
    · rw [if_pos cr]
      cases k with
      | n => exact absurd cr (by decide +kernel)
      | v => exact absurd cr (by decide +kernel)
      | r => exact q _ _ ⟨by omega, by omega⟩ same_refl
    rw [if_neg cr]
    refine ⟨by omega, by omega, loop_range (fun i σ H' => ∃ v3, σ = [some (.int c), some (.str ⟨#[fkC k]⟩), some (.int (10 ^ i)), v3, none] ∧ H' = H) ⟨_, rfl, rfl⟩ (fun i σ H' hi => ?_) (fun σ H' => ?_)⟩
    · rintro ⟨v3, rfl, rfl⟩
      walk_at "wp"
      rw [Int.pow_succ]
    · rintro ⟨v3, rfl, rfl⟩
      walk_at "wp"
      obtain ⟨hp1, hp2⟩ := p10 (c / 3 % 60).toNat (by omega)
      generalize (10 : Int) ^ (c / 3 % 60).toNat = L at *
      refine ⟨by omega, fun p hp => ?_⟩
      have hr0 : 0 ≤ c / 180 % (L * 9) := Int.emod_nonneg _ (by omega)
      have hr1 : c / 180 % (L * 9) < L * 9 := Int.emod_lt_of_pos _ (by omega)
      have s1 := same_upd (o := .lst [V.int L, V.int (L * 10 - 1), V.int (L + c / 180 % (L * 9))]) (same_refl (H := H')) hp
      generalize c / 180 % (L * 9) = R at *
      generalize upd H' p _ = G at *
      have fin : ∀ y : Int, 1 ≤ y → y < 10 ^ 60 → (if c / 180 % 7 = 6 then Q (V.int 0) G else if { cps := #[fkC k] } = Str.ofString "v" then if c / 180 % 2 = 1 then ∃ i, V.int y = V.int i ∧ Q (V.int (-i)) G else Q (V.int y) G else if false = true then ∃ i, V.int y = V.int i ∧ Q (V.int (-i)) G else Q (V.int y) G) := fun y h1 h2 => by
        cases k with
        | n => exact ite2 (fun _ => q _ _ ⟨by omega, by omega⟩ s1) (fun _ => by rw [if_neg (by decide +kernel)]; exact iteF (q _ _ ⟨by omega, h2⟩ s1))
        | v => exact ite2 (fun _ => q _ _ ⟨by omega, by omega⟩ s1) (fun _ => by rw [if_pos (by decide +kernel)]; exact ite2 (fun _ => ⟨y, rfl, q _ _ ⟨by omega, by omega⟩ s1⟩) (fun _ => q _ _ ⟨by omega, h2⟩ s1))
        | r => exact absurd (by decide +kernel) cr
      obtain h3 | h3 | h3 : c % 3 = 0 ∨ c % 3 = 1 ∨ c % 3 = 2 := by omega
      · rw [h3]; exact ⟨_, atI_nat (j := 0) rfl, fin _ hp1 (by omega)⟩
      · rw [h3]; exact ⟨_, atI_nat (j := 1) rfl, fin _ (by omega) (by omega)⟩
      · rw [h3]; exact ⟨_, atI_nat (j := 2) rfl, fin _ (by omega) (by omega)⟩
def sp_lsh : Sp := fun vs H Q _ => ∃ p f xs, vs = [.ref p, .str (kst f)] ∧ H p = some (.tup (due f xs)) ∧ Ok f xs ∧ Q (.str (rowT f xs)) H
theorem h_lsh (T : Txt K mg A) : Have P w K mg base "_law_shown" 2 ["_law_deed", "_law_kinds"] [] sp_lsh := by
  have H_l_figures := h_fig (P := P) (w := w) (base := base) T
  refine T.r_l_shown.have sc_l_shown (fun vs H Q E z => ?_) ?_
  · obtain ⟨p, f, xs, rfl, _⟩ := z; rfl
  · intro f cdv A' outer s H vs Q E hr z
    obtain ⟨p, f, xs, rfl, hp, hO, q⟩ := z
    refine ⟨_, (pss_cons (ps_set (i := 2) sc_l_shown.nd rfl (Or.inl rfl) (pe_ix ix_tup (pvM 0) pe_int (fun _ _ => rfl)))
      (pss_cons (ps_forE PassesOwn.leaving rfl (pi_range1 rfl T.b_range (pa_cons (pe_callB call_len rfl T.b_len PySem.boot_len (pa_cons (pvM 1) pa_nil)) pa_nil)) (pg_name (i := 3) sc_l_shown.nd rfl (Or.inl rfl)) (pss_cons (ps_set (i := 4) sc_l_shown.nd rfl (Or.inl rfl) (pe_ix ix_tup (pvM 0) (pe_op op_add pe_int (pvM 3)) (fun _ _ => rfl)))
      (pss_one (ps_if (pt_cmpR op_eq (pe_ix ix_str (pvM 1) (pvM 3) (fun _ _ => rfl)) pe_str (nomark _)) (pss_one (ps_set (i := 2) sc_l_shown.nd rfl (Or.inl rfl) (pe_op op_catS (pe_op op_catS (pe_op op_catS (pvM 2) pe_str) (pe_ix ix_str pe_str (pe_op op_mod (pvM 4) pe_int) (fun _ _ => rfl))) (pe_ix ix_str pe_str (pe_op op_fdiv (pvM 4) pe_int) (fun _ _ => rfl))))) (pss_one (ps_set (i := 2) sc_l_shown.nd rfl (Or.inl rfl) (pe_op op_catS (pe_op op_catS (pvM 2) pe_str) (pe_callE H_l_figures (hr.mono (by decide)) xw_def (pa_cons (pvM 4) pa_nil)))))))))
      (pss_one (ps_ret (pvM 2))))), ?_⟩
    unfold rIxS rCatS
    walk_at "wp"
    have hz := PySem.sizeLine_eq
    obtain ⟨hw1, hw2, hw3⟩ := ws_ok hO
    obtain ⟨⟨k, hk⟩, hxl, hxo⟩ := id hO
    have hks : (kst f).length = f.ks.length := by show ((f.ks.map fkC).toArray).size = _; rw [List.size_toArray, List.length_map]
    have hch : ∀ (m : Nat) (k : Fk), f.ks[m]? = some k → (kst f).cps[m]? = some (fkC k) := fun m k e => by
      show ((f.ks.map fkC).toArray)[m]? = _
      rw [List.getElem?_toArray, List.getElem?_map, e]; rfl
    have h6 : (Str.ofString " " : Str).length = 1 := by decide +kernel
    have hjl : ∀ m, (Txt.join (Str.ofString " ") ((wsF f xs).take m)).length ≤ 1000 := fun m => by
      have h4 := PySem.StrLaws.sumLen_le (B := 61) ((wsF f xs).take m) (fun y hy => (hw1 y (List.mem_of_mem_take hy)).2)
      have h5 := PySem.StrLaws.join_length_le (Str.ofString " ") ((wsF f xs).take m)
      have h8 : ((wsF f xs).take m).length ≤ 7 := by rw [List.length_take]; omega
      rw [h6] at h5
      have h7 : ((wsF f xs).take m).length * 61 ≤ 7 * 61 := Nat.mul_le_mul_right _ h8
      rw [txt_join]
      omega
    refine ⟨_, SqT.of hp, V.str f.w, atI_nat (j := 0) rfl, _, ⟨by omega, rfl⟩, by omega, by omega, loop_range (fun i σ H' => ∃ v3 v4, σ = [some (.ref p), some (.str (kst f)), some (.str (Txt.join (Str.ofString " ") ((wsF f xs).take (i + 1)))), v3, v4] ∧ H' = H) ⟨_, _, rfl, rfl⟩ (fun i σ H' hi => ?_) (fun σ H' => ?_)⟩
    · rintro ⟨v3, v4, rfl, rfl⟩
      have hik : i < f.ks.length := by omega
      have ek : f.ks[i]? = some f.ks[i] := List.getElem?_eq_getElem hik
      have ex : xs[i]? = some (xs[i]'(by omega)) := List.getElem?_eq_getElem (by omega)
      generalize f.ks[i] = k' at ek
      generalize xs[i] = x' at ex
      have hok := hxo i k' x' ek ex
      have ej : Txt.join (Str.ofString " ") ((wsF f xs).take (i + 1 + 1)) = Txt.join (Str.ofString " ") ((wsF f xs).take (i + 1)) ++ Str.ofString " " ++ wtF k' x' := by
        have e : (wsF f xs)[i + 1]? = some (wtF k' x') := by
          show (List.zipWith wtF f.ks xs)[i]? = _
          rw [List.getElem?_zipWith, ek, ex]
        rw [List.take_add_one, e]
        exact join_snoc _ _ _ (fun z => nomatch z)
      have hj1 := hjl (i + 1)
      generalize Txt.join (Str.ofString " ") ((wsF f xs).take (i + 1)) = W at *
      walk_at "wp"
      have hla := len_app
      have h1c : ∀ c : Nat, (⟨#[c]⟩ : Str).length = 1 := fun _ => rfl
      have ed : (due f xs)[i + 1]? = some (V.int x') := by
        unfold due
        rw [List.getElem?_append_left (by rw [List.length_cons, List.length_map]; omega), List.getElem?_cons_succ, List.getElem?_map, ex]
        rfl
      refine ⟨_, SqT.of hp, V.int x', by rw [show (1 + (0 + (i : Int))) = ((i + 1 : Nat) : Int) by omega]; exact atI_nat ed, by omega, fkC k', by rw [Int.zero_add]; exact atI_nat (by rw [Array.getElem?_toList]; exact hch i k' ek), ?_⟩
      rw [ej]
      have hlw : (W ++ Str.ofString " ").length = W.length + 1 := by rw [hla, h6]
      cases k' with
      | n =>
        rw [if_neg (by decide +kernel)]
        have h0 := hok.1
        have h9 := (w_free hok).2
        exact ⟨by omega, x', rfl, ⟨by omega, hok.2⟩, _, rfl, by rw [hlw]; have : (Str.ofString (toString x')).length ≤ 61 := h9; omega, rfl, rfl⟩
      | v =>
        rw [if_neg (by decide +kernel)]
        have h9 := (w_free hok).2
        exact ⟨by omega, x', rfl, hok, _, rfl, by rw [hlw]; have : (Str.ofString (toString x')).length ≤ 61 := h9; omega, rfl, rfl⟩
      | r =>
        rw [if_pos (by decide +kernel)]
        have key : ∀ (j1 j2 c1 c2 : Nat), x' % 2 = (j1 : Int) → x' / 2 = (j2 : Int) → (Str.ofString "-r").cps.toList[j1]? = some c1 → (Str.ofString "-w").cps.toList[j2]? = some c2 → (⟨#[c1]⟩ ++ ⟨#[c2]⟩ : Str) = wtF .r x' → ∃ i_1, V.int x' = V.int i_1 ∧ (Str.ofString "-r").length ≤ 16777216 ∧ ∃ x, atI (Str.ofString "-r").cps.toList (i_1 % 2) = some x ∧ (W ++ Str.ofString " ").length + (⟨#[x]⟩ : Str).length ≤ 16777216 ∧ ∃ i_2, V.int x' = V.int i_2 ∧ (Str.ofString "-w").length ≤ 16777216 ∧ ∃ x_2, atI (Str.ofString "-w").cps.toList (i_2 / 2) = some x_2 ∧ (W ++ Str.ofString " " ++ ⟨#[x]⟩).length + (⟨#[x_2]⟩ : Str).length ≤ 16777216 ∧ W ++ Str.ofString " " ++ ⟨#[x]⟩ ++ ⟨#[x_2]⟩ = W ++ Str.ofString " " ++ wtF .r x' := fun j1 j2 c1 c2 e1 e2 e3 e4 e5 =>
          ⟨x', rfl, by decide +kernel, c1, by rw [e1]; exact atI_nat e3, by rw [hlw, h1c]; omega, x', rfl, by decide +kernel, c2, by rw [e2]; exact atI_nat e4, by rw [hla, hlw, h1c, h1c]; omega, by rw [PySem.Str.append_assoc, e5]⟩
        refine ⟨by omega, ?_⟩
        have h0 := hok.1
        have h1 := hok.2
        obtain rfl | rfl | rfl | rfl : x' = 0 ∨ x' = 1 ∨ x' = 2 ∨ x' = 3 := by omega
        · exact key 0 0 45 45 rfl rfl (by decide +kernel) (by decide +kernel) (by decide +kernel)
        · exact key 1 0 114 45 rfl rfl (by decide +kernel) (by decide +kernel) (by decide +kernel)
        · exact key 0 1 45 119 rfl rfl (by decide +kernel) (by decide +kernel) (by decide +kernel)
        · exact key 1 1 114 119 rfl rfl (by decide +kernel) (by decide +kernel) (by decide +kernel)
    · rintro ⟨v3, v4, rfl, rfl⟩
      walk_at "wp"
      rw [List.take_of_length_le (by omega)]
      exact q

def Row96 (H : Hp) (v : V) : Prop := ∃ t d f xs, v = .ref t ∧ H t = some (.tup [.ref d, .str (kst f)]) ∧ H d = some (.tup (due f xs)) ∧ Ok f xs
theorem due_ok {f : Fm} {xs : List Int} (h : Ok f xs) : (due f xs).length ≤ 100 ∧ (due f xs).all flatV = true := by
  obtain ⟨_, _, h6⟩ := ws_ok h
  have hl := h.2.1
  unfold due
  refine ⟨?_, ?_⟩
  · rw [List.length_append, List.length_cons, List.length_map]
    split
    · show xs.length + 1 + 2 ≤ 100; omega
    · show xs.length + 1 + 0 ≤ 100; omega
  · rw [List.all_append, List.all_cons, List.all_map]
    have : xs.all (flatV ∘ V.int) = true := List.all_eq_true.mpr fun x _ => rfl
    rw [this]
    split <;> rfl
def spLaw (K : PySem.W.Frag) : Sp := fun vs H Q _ => ∃ (a : Addr) (ns : List Int), vs = [.ref a] ∧ SqL K H a (ns.map V.int) ∧ ns.length ≤ 63 ∧ ∀ H', Q (.bl true) H'
theorem body_law (T : Txt K mg A) : Body P w K mg base "law" s_law ["_law_script", "_law_deeds", "_law_at", "_law_word", "_law_kinds", "_law_deed", "_law_k", "_law_shown_here"] 12 (spLaw K) := by
  intro f cdv A' outer s H vs Q E hr z
  obtain ⟨a, ns, rfl, hs, hn, q⟩ := z
  have H_l_cell_at := h_cell (P := P) (w := w) (base := base) T a ns
  have H_l_form := h_lform (P := P) (w := w) (base := base) T
  have H_l_number := h_lnum (P := P) (w := w) (base := base) T
  have H_l_shown := h_lsh (P := P) (w := w) (base := base) T
  have H_show_row := h_show (P := P) (w := w) (base := base) T
  have H_read_row := h_row (P := P) (w := w) (base := base) T
  refine ⟨_, (pss_cons (ps_set (i := 1) sc_law.nd rfl (Or.inl rfl) (pe_lst pa_nil))
      (pss_cons (ps_forE PassesOwn.leaving rfl (pi_range3 rfl T.b_range (pa_cons pe_int (pa_cons (pe_op op_add pe_int (pe_callB (call_min2 rfl) rfl T.b_min PyProof.Rows.boot_min (pa_cons (pe_callB call_len rfl T.b_len PySem.boot_len (pa_cons (pvM 0) pa_nil)) (pa_cons pe_int pa_nil)))) (pa_cons pe_int pa_nil)))) (pg_name (i := 2) sc_law.nd rfl (Or.inl rfl)) (pss_cut (ps_asg (pe_callE H_l_form (hr.mono (by decide)) xw_def (pa_cons (pe_callE H_l_cell_at (hr.mono (by decide)) xw_def (pa_cons (pvM 0) (pa_cons (pvM 2) pa_nil))) pa_nil)) (pg_tup (n := 2) rfl (pgs_cons (pg_name (i := 3) sc_law.nd rfl (Or.inl rfl)) (pgs_cons (pg_name (i := 4) sc_law.nd rfl (Or.inl rfl)) pgs_nil))))
      (pss_cut (ps_set (i := 5) sc_law.nd rfl (Or.inl rfl) (pe_lst (pa_cons (pvM 3) pa_nil)))
      (pss_cut (ps_forE PassesOwn.leaving rfl (pi_range1 rfl T.b_range (pa_cons (pe_callB call_len rfl T.b_len PySem.boot_len (pa_cons (pvM 4) pa_nil)) pa_nil)) (pg_name (i := 6) sc_law.nd rfl (Or.inl rfl)) (pss_one (ps_expr (pe_bm PySem.F.plainAttrs_list PySem.F.slot_list_append PySem.F.type_list_append mt_append (pvM 5) (pa_cons (pe_callE H_l_number (hr.mono (by decide)) xw_def (pa_cons (pe_callE H_l_cell_at (hr.mono (by decide)) xw_def (pa_cons (pvM 0) (pa_cons (pe_op op_add (pe_op op_add (pvM 2) pe_int) (pvM 6)) pa_nil))) (pa_cons (pe_ix ix_str (pvM 4) (pvM 6) (fun _ _ => rfl)) pa_nil))) pa_nil)))))
      (pss_cut (ps_if (PW.pt (pw_and (pt_cmpR op_eq (pvM 3) pe_str (nomark _)) (pw_and1 (pt_cmpR op_eq (pe_callB call_len rfl T.b_len PySem.boot_len (pa_cons (pvM 4) pa_nil)) pe_int (nomark _))))) (pss_one (ps_set (i := 5) sc_law.nd rfl (Or.inl rfl) (pe_op op_cat (pvM 5) (pe_lst (pa_cons pe_non (pa_cons pe_int pa_nil)))))) pss_nil)
      (pss_one (ps_expr (pe_bm PySem.F.plainAttrs_list PySem.F.slot_list_append PySem.F.type_list_append mt_append (pvM 1) (pa_cons (pe_tup (pa_cons (pe_callTy call_tuple_of rfl T.b_tuple PyProof.Rows.boot_tuple (pa_cons (pvM 5) pa_nil)) (pa_cons (pvM 4) pa_nil))) pa_nil)))))))))
      (pss_cons (ps_forE PassesOwn.leaving rfl (pi_list (pvM 1)) (pg_tup (n := 2) rfl (pgs_cons (pg_name (i := 5) sc_law.nd rfl (Or.inl rfl)) (pgs_cons (pg_name (i := 4) sc_law.nd rfl (Or.inl rfl)) pgs_nil))) (pss_cons (ps_set (i := 7) sc_law.nd rfl (Or.inl rfl) (pe_callE H_show_row (hr.mono (by decide)) xw_def (pa_cons (pvM 5) pa_nil)))
      (pss_cons (ps_if (PW.pt (pw_or (pt_not (pt_val (pe_callB call_isi rfl T.b_isinstance PyProof.Rows.boot_isinstance (pa_cons (pvM 7) (pa_cons (pe_bltnE (n := "str") rfl T.b_str PyProof.Rows.boot_str) pa_nil))))) (pw_or1 (pt_cmpR op_ne (pvM 7) (pe_callE H_l_shown (hr.mono (by decide)) xw_def (pa_cons (pvM 5) (pa_cons (pvM 4) pa_nil))) (nomark _))))) (pss_one (ps_ret pe_bl)) pss_nil)
      (pss_one (ps_if (pt_cmpR (op_neD (n := 4) (hu6 hr)) (pe_callE H_read_row (hr.mono (by decide)) xw_def (pa_cons (pvM 7) pa_nil)) (pvM 5) (nomark _)) (pss_one (ps_ret pe_bl)) pss_nil)))))
      (pss_one (ps_ret pe_bl))))), ?_⟩
  walk_at "wp"
  have hz := PySem.sizeLine_eq
  intro r hr0
  have s1 := same_upd (o := .lst []) (same_refl (H := H)) hr0
  have hr1 : upd H r (.lst []) r = some (.lst []) := upd_same
  refine ⟨_, .inl ⟨_, s1.seq hs, rfl⟩, by split <;> omega, by rw [List.length_map]; split <;> omega, ?_⟩
  refine loop_range3 (fun i σ H' => ∃ v2 v3 v4 v5 v6 v7 us, σ = [some (.ref a), some (.ref r), v2, v3, v4, v5, v6, v7] ∧ Same H H' ∧ H' r = some (.lst us) ∧ us.length = i ∧ ∀ u ∈ us, Row96 H' u) ⟨_, _, _, _, _, _, [], rfl, s1, hr1, rfl, fun u hu => by cases hu⟩ (fun i σ H' hi => ?_) (fun σ H' => ?_)
  · rintro ⟨v2, v3, v4, v5, v6, v7, us, rfl, s2, hr2, hul, hrow⟩
    have hi100 : i < 100 := by
      have hb : (1 + if (62 : Int) < (((ns.map V.int).length : Nat) : Int) then 62 else (((ns.map V.int).length : Nat) : Int)) ≤ 63 := by split <;> omega
      generalize (1 + if (62 : Int) < (((ns.map V.int).length : Nat) : Int) then 62 else (((ns.map V.int).length : Nat) : Int)) = h9 at *
      unfold nR3 at hi
      split at hi <;> omega
    walk_at "wp"
    refine ⟨fun σ G => ∃ (k : Nat) (f : Fm), σ = [some (.ref a), some (.ref r), some (.int (0 + (i : Int) * 7)), some (.str f.w), some (.str (kst f)), v5, v6, v7] ∧ fms[k]? = some f ∧ Same H' G, ?_, fun σ1 G1 => ?_⟩
    · walk_at "wp"
      refine ⟨_, rfl, s2.seq hs, by omega, ?_⟩
      walk_at "wp"
      refine ⟨_, rfl, fun k f t G hf sG ht => ?_⟩
      walk_at "wp"
      exact ⟨_, SqT.of ht, rfl, _, _, rfl, _, _, rfl, rfl, k, f, rfl, rfl, hf, sG⟩
    rintro ⟨k, f, rfl, hf, sg1⟩
    have hks : (kst f).length = f.ks.length := by show ((f.ks.map fkC).toArray).size = _; rw [List.size_toArray, List.length_map]
    have hk6 : f.ks.length ≤ 6 := (fw_ok f (List.mem_of_getElem? hf)).2.2
    have hch : ∀ (m : Nat) (k : Fk), f.ks[m]? = some k → (kst f).cps[m]? = some (fkC k) := fun m k e => by
      show ((f.ks.map fkC).toArray)[m]? = _
      rw [List.getElem?_toArray, List.getElem?_map, e]; rfl
    refine ⟨fun σ G => ∃ l, σ = [some (.ref a), some (.ref r), some (.int (0 + (i : Int) * 7)), some (.str f.w), some (.str (kst f)), some (.ref l), v6, v7] ∧ Same G1 G ∧ G l = some (.lst [V.str f.w]) ∧ G1 l = none, ?_, fun σ2 G2 => ?_⟩
    · walk_at "wp"
      exact fun p hp => ⟨same_upd same_refl hp, hp⟩
    rintro ⟨l, rfl, sg2, hl2, hl0⟩
    refine ⟨fun σ G => ∃ v6 xs, σ = [some (.ref a), some (.ref r), some (.int (0 + (i : Int) * 7)), some (.str f.w), some (.str (kst f)), some (.ref l), v6, v7] ∧ Same G1 G ∧ G l = some (.lst (V.str f.w :: xs.map V.int)) ∧ Ok f xs, ?_, fun σ3 G3 => ?_⟩
    · unfold rIxS
      walk_at "wp"
      refine ⟨_, ⟨by omega, rfl⟩, by omega, by omega, loop_range (fun m σ G => ∃ v6 xs, σ = [some (.ref a), some (.ref r), some (.int (0 + (i : Int) * 7)), some (.str f.w), some (.str (kst f)), some (.ref l), v6, v7] ∧ Same G1 G ∧ G l = some (.lst (V.str f.w :: xs.map V.int)) ∧ xs.length = m ∧ ∀ (j : Nat) k x, f.ks[j]? = some k → xs[j]? = some x → okF k x) ⟨_, [], rfl, sg2, hl2, rfl, fun j k x _ e => by cases e⟩ (fun m σ G hm => ?_) (fun σ G => ?_)⟩
      · rintro ⟨v6, xs, rfl, sg, hl3, hxl, hxo⟩
        have hmk : m < f.ks.length := by omega
        have ek : f.ks[m]? = some f.ks[m] := List.getElem?_eq_getElem hmk
        generalize f.ks[m] = k' at ek
        walk_at "wp"
        refine ⟨.inl ⟨rfl, _, SqL.of hl3⟩, _, rfl, sg.seq (sg1.seq (s2.seq hs)), by omega, by omega, fkC k', by rw [Int.zero_add]; exact atI_nat (by rw [Array.getElem?_toList]; exact hch m k' ek), k', _, rfl, fun x G9 hx s9 => ⟨_, s9 _ _ hl3, by rw [List.length_cons, List.length_map]; omega, same_put (sg.trans s9) hl0, xs ++ [x], by rw [List.map_append]; rfl, by rw [List.length_append, hxl]; rfl, fun j k x' e1 e2 => ?_⟩⟩
        by_cases c : j < m
        · rw [List.getElem?_append_left (by omega)] at e2; exact hxo j k x' e1 e2
        · have hj := (List.getElem?_eq_some_iff.mp e2).1
          rw [List.length_append, hxl] at hj
          have hj : j < m + 1 := hj
          obtain rfl : j = m := by omega
          rw [List.getElem?_append_right (by omega), hxl, Nat.sub_self] at e2
          cases e2
          rw [ek] at e1
          cases e1
          exact hx
      · rintro ⟨v6, xs, rfl, sg, hl3, hxl, hxo⟩
        exact ⟨v6, rfl, sg, xs, hl3, ⟨k, hf⟩, by omega, hxo⟩
    rintro ⟨v6', xs, rfl, sg3, hl3, hO⟩
    have hxl := hO.2.1
    refine ⟨fun σ G => ∃ l, σ = [some (.ref a), some (.ref r), some (.int (0 + (i : Int) * 7)), some (.str f.w), some (.str (kst f)), some (.ref l), v6', v7] ∧ Same G1 G ∧ G l = some (.lst (due f xs)), ?_, fun σ4 G4 => ?_⟩
    · walk_at "wp"
      by_cases c1 : f.w = Str.ofString "lay"
      · rw [if_pos c1]
        refine ⟨_, ⟨by omega, rfl⟩, ?_⟩
        by_cases c2 : f.ks.length = 4
        · rw [if_pos (by omega)]
          intro p hp
          obtain ⟨sp, gp⟩ := new_at (o := .lst [V.non, V.int 0]) hp
          generalize upd G3 p _ = Gp at *
          refine ⟨_, sp _ _ hl3, _, rfl, by rw [List.length_cons, List.length_map]; show xs.length + 1 + 2 ≤ 16777216; omega, fun p1 hp1 => ⟨same_upd (sg3.trans sp) hp1, ?_⟩⟩
          unfold due
          rw [if_pos ⟨c1, c2⟩]
        · rw [if_neg (by omega)]
          refine ⟨sg3, ?_⟩
          unfold due
          rw [if_neg (fun z => c2 z.2), List.append_nil]
          exact hl3
      · rw [if_neg c1]
        refine iteF ⟨sg3, ?_⟩
        unfold due
        rw [if_neg (fun z => c1 z.1), List.append_nil]
        exact hl3
    rintro ⟨l4, rfl, sg4, hl4⟩
    walk_at "wp"
    have s14 := sg1.trans sg4
    have hr4 := s14 _ _ hr2
    refine ⟨.inl ⟨rfl, _, SqL.of hr4⟩, _, .inl ⟨SqL.of hl4, fun d hd p hp => ?_⟩⟩
    obtain ⟨sd, gd⟩ := new_at (o := .tup (due f xs)) hd
    generalize upd G4 d _ = Gd at *
    obtain ⟨sp, gp⟩ := new_at (o := .tup [V.ref d, V.str (kst f)]) hp
    generalize upd Gd p _ = Gp at *
    have s15 := (s14.trans sd).trans sp
    have hrp := s15 _ _ hr2
    have keep : ∀ {c : Addr} {ys : List V}, Gp c = some (.tup ys) → upd Gp r (.lst (us ++ [V.ref p])) c = some (.tup ys) := fun {c ys} h => by
      rw [upd_ne (fun e => by rw [e, hrp] at h; cases h)]
      exact h
    refine ⟨us, hrp, by omega, same_put (s2.trans s15) hr0, _, rfl, by rw [List.length_append, hul]; rfl, fun u hu => ?_⟩
    rcases List.mem_append.mp hu with h | h
    · obtain ⟨t', d', f', xs', e1, e2, e3, e4⟩ := hrow u h
      exact ⟨t', d', f', xs', e1, keep (s15 _ _ e2), keep (s15 _ _ e3), e4⟩
    · rw [List.mem_singleton.mp h]
      exact ⟨p, d, f, xs, rfl, keep gp, keep (sp _ _ gd), hO⟩
  · rintro ⟨v2, v3, v4, v5, v6, v7, us, rfl, s2, hr2, hul, hrow⟩
    walk_at "wp"
    refine ⟨⟨_, SqL.of hr2⟩, loop_list (K := K) (xs := us) (fun i σ G => ∃ v4 v5 v7, σ = [some (.ref a), some (.ref r), v2, v3, v4, v5, v6, v7] ∧ Same H' G) ⟨_, _, _, rfl, same_refl⟩ (fun i σ G _ ⟨_, _, _, _, e⟩ => SqL.of (e _ _ hr2)) (fun i x σ G hx => ?_) (fun σ G => ?_)⟩
    · rintro ⟨v4, v5, v7, rfl, s3⟩
      obtain ⟨t, d, f, xs, rfl, ht, hd, hO⟩ := hrow x (List.mem_of_getElem? hx)
      have hd3 := s3 _ _ hd
      walk_at "wp"
      refine ⟨_, SqT.of (s3 _ _ ht), rfl, _, _, rfl, _, _, rfl, rfl, d, f, xs, rfl, hd3, hO, fun G2 s4 => ?_⟩
      walk_at "wp"
      refine ⟨by decide, ?_⟩
      rw [show isTy "str" G2 (V.str (rowT f xs)) = true from rfl]
      refine iteF ⟨d, f, xs, rfl, s4 _ _ hd3, hO, rfl, ?_⟩
      rw [decide_eq_true rfl]
      refine iteF ⟨f, xs, rfl, hO, fun p G5 s5 hp5 => ?_⟩
      have hfl := (due_ok hO).2
      refine ⟨true, dFl (due f xs), dFl (due f xs), sees_flT (SqT.of hp5) hfl, sees_flT (SqT.of (s5 _ _ (s4 _ _ hd3))) hfl, alike_fl _ _, by rw [deep_fl]; decide, _, rfl, ?_⟩
      rw [eq_fl _ hfl]
      exact iteF ((s3.trans s4).trans s5)
    · rintro ⟨v4, v5, v7, rfl, s3⟩
      walk_at "wp"
      exact q _

end

theorem walk {l : PySem.W.OpenLaw} {q : Program} {loose : List Str} {XP : (Str → Option Value) → Heap → Prop} {YP : World → Heap → Prop} {d : DefRec} {K : Params → PySem.W.Frag} (hn : l.most = some 63) (hdf : d.params.defaults = []) (hdn : d.name = "law")
    (hY : ∀ (w : World) (h : Heap), YP w h → (K w.params).In h)
    (F : ∀ (w : World) (mg : Str → Option Value) (h : Heap), (K w.params).In h → h.Ns mainGlobals mg → ∃ A : Adr, Txt (K w.params) mg A) :
    PySem.W.WalkO q loose XP YP l.row.toRowW d [] (fun f vs => PySem.call f vs) := by
  refine L2.walk_of (n := 63) (k := 12 + 1) (x := "_law_script") (CX := fun w => CXe l.prog w) (sp := fun w => spLaw (K w.params)) hn (by decide) hdf ⟨rfl, by decide, by decide⟩ hY ?_ (fun _ _ a ns hl _ hS => ⟨a, ns, rfl, hS, hl, fun _ => rfl⟩) fun _ _ _ _ _ ⟨_, _, _, _, _, _, _, _, _, _, z⟩ => z
  intro w mg fa h KX G hmg
  rw [hdn] at hmg
  obtain ⟨A, T⟩ := F w mg h KX G
  obtain ⟨f, fd, e, Fn, hb⟩ := T.r_law
  have e0 := hmg.symm.trans e
  cases e0
  exact ⟨fd, hb, fun base _ _ => Fn.okE sc_law (fun vs H Q E z => by obtain ⟨a, ns, rfl, _⟩ := z; rfl) (body_law (P := l.prog) (w := w) (base := base) T)⟩

section
open Hd
noncomputable def o2 (_ : Params) : Obj := ⟨.none, none, .dict ⟨[]⟩ 0, #[]⟩
noncomputable def o3 (P : Params) : Obj := dO 32 [ent P (S 6944663249689206880) 165 (.str (S 11739210150939673401112974696943760100158909173761195438357077320301) 353), ent P (S 27127582262911072) 166 .none, ent P (S 116512114954948911152848992) 167 .none, ent P (S 455126385231797511086176) 168 (.builtin "__main__.__loader__#opaque"), ent P (S 6944661016558198880) 169 .none, ent P (S 500416834696884185539869749159288928) 170 (.ref 6), ent P (S 29827167671303893903271485536) 171 (.ref 4), ent P (S 6944663245527933024) 173 (.str (S 9700865007064396754801562313776) 172), ent P (S 455125376429887381069920) 174 .none, ent P (S 545146499936607105348423) 206 (.ref 24), ent P (S 517280591951) 222 (.ref 37), ent P (S 23721221787503175) 226 (.str (S 274952771184632846823985) 225), ent P (S 26081759180413132732766638158) 228 (.int (60) 227), ent P (S 92725278427731) 233 (.ref 40), ent P (S 362091335751) 278 (.ref 56), ent P (S 21479244246831183) 280 (.ref 57), ent P (S 29115482073428071) 289 (.ref 64), ent P (S 2128753430546115228778) 295 (.ref 69), ent P (S 139509984824270207381038707) 302 (.ref 76), ent P (S 483865979046955292190323) 310 (.ref 83), ent P (S 140789856385873457589675635) 317 (.ref 90), ent P (S 140789856385873457909361012) 324 (.ref 97), ent P (S 1871439432311831160435) 332 (.ref 104), ent P (S 1871439432312150845812) 340 (.ref 111), ent P (S 8678563339797948019) 346 (.ref 116), ent P (S 8678563340117633396) 352 (.ref 121), ent P (S 36328676245180164783460216160) 362 (.ref 128), ent P (S 2037460110283838221664) 370 (.ref 135), ent P (S 139509984824270207699807584) 381 (.ref 142), ent P (S 36024116829261990646331370848) 390 (.ref 149), ent P (S 526404389020738252860768) 401 (.ref 156), ent P (S 7889517) 415 (.ref 163)]
noncomputable def o15 (_ : Params) : Obj := ⟨(.type "tuple"), none, .seq #[(.type "ValueError")] 0, #[]⟩
noncomputable def o22 (_ : Params) : Obj := ⟨(.type "tuple"), none, .seq #[] 0, #[]⟩
noncomputable def o23 (P : Params) : Obj := dO 3 [ent P (S 455125450472104437637216) 196 (.str (S 154789842426610354947036250589871895399) 187), ent P (S 500416517772168279997240570217455712) 200 (.int (2) 199), ent P (S 140854816109632365363434125429399349832812124725344) 201 (.ref 22), ent P (S 116512133262362862868258912) 203 (.ref 25), ent P (S 27127582262911072) 204 .none]
noncomputable def o24 (_ : Params) : Obj := ⟨(.type "type"), none, .cls { name := (Str.ofString "FrameError"), bases := [(.type "ValueError")], mro := [(.ref 24), (.type "ValueError"), (.type "Exception"), (.type "BaseException"), (.type "object")], ns := 23, qualname := (Str.ofString "FrameError"), hasDict := true, slotNames := [], subclasses := [(.ref 37)], abstract := false, collection := none, hasDel := false }, #[(some (.ref 15)), none, (some (.str (S 545146499936607105348423) 189)), (some (.str (S 545146499936607105348423) 197)), (some (.builtin "ValueError.__new__")), (some (.bool true))]⟩
noncomputable def o25 (_ : Params) : Obj := ⟨(.type "getset_descriptor"), none, .fields ⟨[(.str (S 116512133262362862868258912) 202), (.ref 24), (.builtin "ExceptionGroup.__weakref__"), .none]⟩, #[]⟩
noncomputable def o28 (_ : Params) : Obj := ⟨(.type "tuple"), none, .seq #[(.ref 24)] 0, #[]⟩
noncomputable def o36 (P : Params) : Obj := dO 2 [ent P (S 455125450472104437637216) 214 (.str (S 154789842426610354947036250589871895399) 187), ent P (S 500416517772168279997240570217455712) 218 (.int (4) 217), ent P (S 140854816109632365363434125429399349832812124725344) 219 (.ref 35), ent P (S 27127582262911072) 220 .none]
noncomputable def o37 (_ : Params) : Obj := ⟨(.type "type"), none, .cls { name := (Str.ofString "NoRow"), bases := [(.ref 24)], mro := [(.ref 37), (.ref 24), (.type "ValueError"), (.type "Exception"), (.type "BaseException"), (.type "object")], ns := 36, qualname := (Str.ofString "NoRow"), hasDict := true, slotNames := [], subclasses := [], abstract := false, collection := none, hasDel := false }, #[(some (.ref 28)), none, (some (.str (S 517280591951) 207)), (some (.str (S 517280591951) 215)), (some (.builtin "ValueError.__new__")), (some (.bool true))]⟩
noncomputable def o40 (_ : Params) : Obj := ⟨(.type "tuple"), none, .seq #[(.str (Str.ofString "--") 229), (.str (Str.ofString "r-") 230), (.str (Str.ofString "-w") 231), (.str (Str.ofString "rw") 232)] 0, #[]⟩
noncomputable def o41 (_ : Params) : Obj := ⟨(.type "tuple"), none, .seq #[(.str (Str.ofString "new") 234)] 0, #[]⟩
noncomputable def o42 (_ : Params) : Obj := ⟨(.type "tuple"), none, .seq #[(.str (Str.ofString "fork") 235), (.str (Str.ofString "number") 236)] 0, #[]⟩
noncomputable def o43 (_ : Params) : Obj := ⟨(.type "tuple"), none, .seq #[(.str (Str.ofString "end") 237), (.str (Str.ofString "number") 238)] 0, #[]⟩
noncomputable def o44 (_ : Params) : Obj := ⟨(.type "tuple"), none, .seq #[(.str (Str.ofString "bank") 239), (.str (Str.ofString "number") 240)] 0, #[]⟩
noncomputable def o45 (_ : Params) : Obj := ⟨(.type "tuple"), none, .seq #[(.str (Str.ofString "drop") 241), (.str (Str.ofString "number") 242)] 0, #[]⟩
noncomputable def o46 (_ : Params) : Obj := ⟨(.type "tuple"), none, .seq #[(.str (Str.ofString "lay") 243), (.str (Str.ofString "number") 244), (.str (Str.ofString "number") 245), (.str (Str.ofString "number") 246), (.str (Str.ofString "rights") 247)] 0, #[]⟩
noncomputable def o47 (_ : Params) : Obj := ⟨(.type "tuple"), none, .seq #[(.str (Str.ofString "lay") 248), (.str (Str.ofString "number") 249), (.str (Str.ofString "number") 250), (.str (Str.ofString "number") 251), (.str (Str.ofString "rights") 252), (.str (Str.ofString "number") 253), (.str (Str.ofString "number") 254)] 0, #[]⟩
noncomputable def o48 (_ : Params) : Obj := ⟨(.type "tuple"), none, .seq #[(.str (Str.ofString "lift") 255), (.str (Str.ofString "number") 256), (.str (Str.ofString "number") 257), (.str (Str.ofString "number") 258)] 0, #[]⟩
noncomputable def o49 (_ : Params) : Obj := ⟨(.type "tuple"), none, .seq #[(.str (Str.ofString "guard") 259), (.str (Str.ofString "number") 260), (.str (Str.ofString "number") 261), (.str (Str.ofString "number") 262), (.str (Str.ofString "rights") 263)] 0, #[]⟩
noncomputable def o50 (_ : Params) : Obj := ⟨(.type "tuple"), none, .seq #[(.str (Str.ofString "read") 264), (.str (Str.ofString "number") 265), (.str (Str.ofString "number") 266)] 0, #[]⟩
noncomputable def o51 (_ : Params) : Obj := ⟨(.type "tuple"), none, .seq #[(.str (Str.ofString "write") 267), (.str (Str.ofString "number") 268), (.str (Str.ofString "number") 269), (.str (Str.ofString "value") 270)] 0, #[]⟩
noncomputable def o52 (_ : Params) : Obj := ⟨(.type "tuple"), none, .seq #[(.str (Str.ofString "fold") 271)] 0, #[]⟩
noncomputable def o53 (_ : Params) : Obj := ⟨(.type "tuple"), none, .seq #[(.str (Str.ofString "see") 272), (.str (Str.ofString "number") 273), (.str (Str.ofString "number") 274)] 0, #[]⟩
noncomputable def o54 (_ : Params) : Obj := ⟨(.type "tuple"), none, .seq #[(.str (Str.ofString "laid") 275), (.str (Str.ofString "number") 276)] 0, #[]⟩
noncomputable def o55 (_ : Params) : Obj := ⟨(.type "tuple"), none, .seq #[(.str (Str.ofString "live") 277)] 0, #[]⟩
noncomputable def o56 (_ : Params) : Obj := ⟨(.type "tuple"), none, .seq #[(.ref 41), (.ref 42), (.ref 43), (.ref 44), (.ref 45), (.ref 46), (.ref 47), (.ref 48), (.ref 49), (.ref 50), (.ref 51), (.ref 52), (.ref 53), (.ref 54), (.ref 55)] 0, #[]⟩
noncomputable def o57 (_ : Params) : Obj := ⟨(.type "tuple"), none, .seq #[.none, (.int (0) 279)] 0, #[]⟩
noncomputable def o58 (_ : Params) : Obj := tO []
noncomputable def o60 (_ : Params) : Obj := tO [(.str (S 479088494671897799387751) 284), (.str (S 115952984221293) 285), (.str (S 1853059175) 286)]
noncomputable def o63 (_ : Params) : Obj := cO [(.str (S 29115482073428071) 281), (.str (S 29115482073428071) 282), (.str (S 9700865007064396754801562313776) 283), (.int (12) 0), (.int (2) 0), (.int (0) 0), (.int (0) 0), (.int (3) 0), (.ref 58), (.bool true), (.int (181) 0), (.ref 59), .none, (.ref 60), (.ref 61), (.ref 62), (.int (287) 0), (.int (12) 0), (.str (S 9700865007064396754801562313776) 288)]
noncomputable def o64 (_ : Params) : Obj := ⟨(.type "function"), none, .func (PySem.W.fnOf (Str.ofString "form_of") (Str.ofString "form_of") (defArgs (top 9)) (defBody (top 9)) (defScope (top 9)) .none .none .none (.str (S 604689095830470621378040935399715687) 223) none (.ref 63) .none), #[]⟩
noncomputable def o68 (_ : Params) : Obj := cO [(.str (S 2128753430546115228778) 290), (.str (S 2128753430546115228778) 291), (.str (S 9700865007064396754801562313776) 292), (.int (17) 0), (.int (1) 0), (.int (0) 0), (.int (0) 0), (.int (3) 0), (.ref 65), (.bool true), (.int (181) 0), (.ref 66), .none, .none, .none, (.ref 67), (.int (293) 0), (.int (17) 0), (.str (S 9700865007064396754801562313776) 294)]
noncomputable def o69 (_ : Params) : Obj := ⟨(.type "function"), none, .func (PySem.W.fnOf (Str.ofString "is_number") (Str.ofString "is_number") (defArgs (top 10)) (defBody (top 10)) (defScope (top 10)) .none .none .none (.str (S 604689095830470621378040935399715687) 223) none (.ref 68) .none), #[]⟩
noncomputable def o72 (_ : Params) : Obj := tO [(.str (S 1702064248) 299)]
noncomputable def o75 (_ : Params) : Obj := cO [(.str (S 139509984824270207381038707) 296), (.str (S 139509984824270207381038707) 297), (.str (S 9700865007064396754801562313776) 298), (.int (23) 0), (.int (1) 0), (.int (0) 0), (.int (0) 0), (.int (3) 0), (.ref 70), (.bool true), (.int (181) 0), (.ref 71), .none, (.ref 72), (.ref 73), (.ref 74), (.int (300) 0), (.int (23) 0), (.str (S 9700865007064396754801562313776) 301)]
noncomputable def o76 (_ : Params) : Obj := ⟨(.type "function"), none, .func (PySem.W.fnOf (Str.ofString "read_number") (Str.ofString "read_number") (defArgs (top 11)) (defBody (top 11)) (defScope (top 11)) .none .none .none (.str (S 604689095830470621378040935399715687) 223) none (.ref 75) .none), #[]⟩
noncomputable def o79 (_ : Params) : Obj := tO [(.str (S 1702064248) 306), (.str (S 126883592042095) 307)]
noncomputable def o82 (_ : Params) : Obj := cO [(.str (S 483865979046955292190323) 303), (.str (S 483865979046955292190323) 304), (.str (S 9700865007064396754801562313776) 305), (.int (27) 0), (.int (1) 0), (.int (0) 0), (.int (0) 0), (.int (3) 0), (.ref 77), (.bool true), (.int (181) 0), (.ref 78), .none, (.ref 79), (.ref 80), (.ref 81), (.int (308) 0), (.int (27) 0), (.str (S 9700865007064396754801562313776) 309)]
noncomputable def o83 (_ : Params) : Obj := ⟨(.type "function"), none, .func (PySem.W.fnOf (Str.ofString "read_value") (Str.ofString "read_value") (defArgs (top 12)) (defBody (top 12)) (defScope (top 12)) .none .none .none (.str (S 604689095830470621378040935399715687) 223) none (.ref 82) .none), #[]⟩
noncomputable def o86 (_ : Params) : Obj := tO [(.str (S 1702064248) 314)]
noncomputable def o89 (_ : Params) : Obj := cO [(.str (S 140789856385873457589675635) 311), (.str (S 140789856385873457589675635) 312), (.str (S 9700865007064396754801562313776) 313), (.int (34) 0), (.int (1) 0), (.int (0) 0), (.int (0) 0), (.int (3) 0), (.ref 84), (.bool true), (.int (181) 0), (.ref 85), .none, (.ref 86), (.ref 87), (.ref 88), (.int (315) 0), (.int (34) 0), (.str (S 9700865007064396754801562313776) 316)]
noncomputable def o90 (_ : Params) : Obj := ⟨(.type "function"), none, .func (PySem.W.fnOf (Str.ofString "read_rights") (Str.ofString "read_rights") (defArgs (top 13)) (defBody (top 13)) (defScope (top 13)) .none .none .none (.str (S 604689095830470621378040935399715687) 223) none (.ref 89) .none), #[]⟩
noncomputable def o93 (_ : Params) : Obj := tO [(.str (S 128047628446323) 321)]
noncomputable def o96 (_ : Params) : Obj := cO [(.str (S 140789856385873457909361012) 318), (.str (S 140789856385873457909361012) 319), (.str (S 9700865007064396754801562313776) 320), (.int (38) 0), (.int (1) 0), (.int (0) 0), (.int (0) 0), (.int (3) 0), (.ref 91), (.bool true), (.int (181) 0), (.ref 92), .none, (.ref 93), (.ref 94), (.ref 95), (.int (322) 0), (.int (38) 0), (.str (S 9700865007064396754801562313776) 323)]
noncomputable def o97 (_ : Params) : Obj := ⟨(.type "function"), none, .func (PySem.W.fnOf (Str.ofString "show_rights") (Str.ofString "show_rights") (defArgs (top 14)) (defBody (top 14)) (defScope (top 14)) .none .none .none (.str (S 604689095830470621378040935399715687) 223) none (.ref 96) .none), #[]⟩
noncomputable def o100 (_ : Params) : Obj := tO [(.str (S 1701800556) 328), (.str (S 1702064248) 329)]
noncomputable def o103 (_ : Params) : Obj := cO [(.str (S 1871439432311831160435) 325), (.str (S 1871439432311831160435) 326), (.str (S 9700865007064396754801562313776) 327), (.int (40) 0), (.int (2) 0), (.int (0) 0), (.int (0) 0), (.int (3) 0), (.ref 98), (.bool true), (.int (181) 0), (.ref 99), .none, (.ref 100), (.ref 101), (.ref 102), (.int (330) 0), (.int (40) 0), (.str (S 9700865007064396754801562313776) 331)]
noncomputable def o104 (_ : Params) : Obj := ⟨(.type "function"), none, .func (PySem.W.fnOf (Str.ofString "read_word") (Str.ofString "read_word") (defArgs (top 15)) (defBody (top 15)) (defScope (top 15)) .none .none .none (.str (S 604689095830470621378040935399715687) 223) none (.ref 103) .none), #[]⟩
noncomputable def o107 (_ : Params) : Obj := tO [(.str (S 1701800556) 336), (.str (S 1970496113) 337)]
noncomputable def o110 (_ : Params) : Obj := cO [(.str (S 1871439432312150845812) 333), (.str (S 1871439432312150845812) 334), (.str (S 9700865007064396754801562313776) 335), (.int (46) 0), (.int (2) 0), (.int (0) 0), (.int (0) 0), (.int (3) 0), (.ref 105), (.bool true), (.int (181) 0), (.ref 106), .none, (.ref 107), (.ref 108), (.ref 109), (.int (338) 0), (.int (46) 0), (.str (S 9700865007064396754801562313776) 339)]
noncomputable def o111 (_ : Params) : Obj := ⟨(.type "function"), none, .func (PySem.W.fnOf (Str.ofString "show_word") (Str.ofString "show_word") (defArgs (top 16)) (defBody (top 16)) (defScope (top 16)) .none .none .none (.str (S 604689095830470621378040935399715687) 223) none (.ref 110) .none), #[]⟩
noncomputable def o115 (_ : Params) : Obj := cO [(.str (S 8678563339797948019) 341), (.str (S 8678563339797948019) 342), (.str (S 9700865007064396754801562313776) 343), (.int (48) 0), (.int (1) 0), (.int (0) 0), (.int (0) 0), (.int (3) 0), (.ref 112), (.bool true), (.int (181) 0), (.ref 113), .none, .none, .none, (.ref 114), (.int (344) 0), (.int (48) 0), (.str (S 9700865007064396754801562313776) 345)]
noncomputable def o116 (_ : Params) : Obj := ⟨(.type "function"), none, .func (PySem.W.fnOf (Str.ofString "read_row") (Str.ofString "read_row") (defArgs (top 17)) (defBody (top 17)) (defScope (top 17)) .none .none .none (.str (S 604689095830470621378040935399715687) 223) none (.ref 115) .none), #[]⟩
noncomputable def o120 (_ : Params) : Obj := cO [(.str (S 8678563340117633396) 347), (.str (S 8678563340117633396) 348), (.str (S 9700865007064396754801562313776) 349), (.int (55) 0), (.int (1) 0), (.int (0) 0), (.int (0) 0), (.int (3) 0), (.ref 117), (.bool true), (.int (181) 0), (.ref 118), .none, .none, .none, (.ref 119), (.int (350) 0), (.int (55) 0), (.str (S 9700865007064396754801562313776) 351)]
noncomputable def o121 (_ : Params) : Obj := ⟨(.type "function"), none, .func (PySem.W.fnOf (Str.ofString "show_row") (Str.ofString "show_row") (defArgs (top 18)) (defBody (top 18)) (defScope (top 18)) .none .none .none (.str (S 604689095830470621378040935399715687) 223) none (.ref 120) .none), #[]⟩
noncomputable def o124 (_ : Params) : Obj := tO [(.str (S 141979911977246466280418656) 358), (.str (S 119161592376672) 359)]
noncomputable def o127 (_ : Params) : Obj := cO [(.str (S 36328676245180164783460216160) 355), (.str (S 36328676245180164783460216160) 356), (.str (S 9700865007064396754801562313776) 357), (.int (62) 0), (.int (2) 0), (.int (0) 0), (.int (0) 0), (.int (3) 0), (.ref 122), (.bool true), (.int (181) 0), (.ref 123), .none, (.ref 124), (.ref 125), (.ref 126), (.int (360) 0), (.int (62) 0), (.str (S 9700865007064396754801562313776) 361)]
noncomputable def o128 (_ : Params) : Obj := ⟨(.type "function"), none, .func (PySem.W.fnOf (Str.ofString "_law_cell_at") (Str.ofString "_law_cell_at") (defArgs (top 20)) (defBody (top 20)) (defScope (top 20)) .none .none .none (.str (S 11739210150939673401112974696943760100158909173761195438357077320301) 353) none (.ref 127) .none), #[]⟩
noncomputable def o131 (_ : Params) : Obj := tO [(.str (S 2018578202597599112544) 366), (.str (S 549831972123162683010400) 367)]
noncomputable def o134 (_ : Params) : Obj := cO [(.str (S 2037460110283838221664) 363), (.str (S 2037460110283838221664) 364), (.str (S 9700865007064396754801562313776) 365), (.int (66) 0), (.int (1) 0), (.int (0) 0), (.int (0) 0), (.int (3) 0), (.ref 129), (.bool true), (.int (181) 0), (.ref 130), .none, (.ref 131), (.ref 132), (.ref 133), (.int (368) 0), (.int (66) 0), (.str (S 9700865007064396754801562313776) 369)]
noncomputable def o135 (_ : Params) : Obj := ⟨(.type "function"), none, .func (PySem.W.fnOf (Str.ofString "_law_form") (Str.ofString "_law_form") (defArgs (top 21)) (defBody (top 21)) (defScope (top 21)) .none .none .none (.str (S 11739210150939673401112974696943760100158909173761195438357077320301) 353) none (.ref 134) .none), #[]⟩
noncomputable def o138 (_ : Params) : Obj := tO [(.str (S 2018578202597599112544) 374), (.str (S 1871149499891998420320) 375), (.str (S 554663791283223243418976) 376), (.str (S 119161592376672) 377), (.str (S 136180446863379631609281413973480205664) 378)]
noncomputable def o141 (_ : Params) : Obj := cO [(.str (S 139509984824270207699807584) 371), (.str (S 139509984824270207699807584) 372), (.str (S 9700865007064396754801562313776) 373), (.int (71) 0), (.int (2) 0), (.int (0) 0), (.int (0) 0), (.int (3) 0), (.ref 136), (.bool true), (.int (181) 0), (.ref 137), .none, (.ref 138), (.ref 139), (.ref 140), (.int (379) 0), (.int (71) 0), (.str (S 9700865007064396754801562313776) 380)]
noncomputable def o142 (_ : Params) : Obj := ⟨(.type "function"), none, .func (PySem.W.fnOf (Str.ofString "_law_number") (Str.ofString "_law_number") (defArgs (top 22)) (defBody (top 22)) (defScope (top 22)) .none .none .none (.str (S 11739210150939673401112974696943760100158909173761195438357077320301) 353) none (.ref 141) .none), #[]⟩
noncomputable def o145 (_ : Params) : Obj := tO [(.str (S 136180446863379631609281413973480205664) 385), (.str (S 34476701206588154122852265312) 386), (.str (S 2166656574838215437664) 387)]
noncomputable def o148 (_ : Params) : Obj := cO [(.str (S 36024116829261990646331370848) 382), (.str (S 36024116829261990646331370848) 383), (.str (S 9700865007064396754801562313776) 384), (.int (83) 0), (.int (1) 0), (.int (0) 0), (.int (0) 0), (.int (3) 0), (.ref 143), (.bool true), (.int (181) 0), (.ref 144), .none, (.ref 145), (.ref 146), (.ref 147), (.int (388) 0), (.int (83) 0), (.str (S 9700865007064396754801562313776) 389)]
noncomputable def o149 (_ : Params) : Obj := ⟨(.type "function"), none, .func (PySem.W.fnOf (Str.ofString "_law_figures") (Str.ofString "_law_figures") (defArgs (top 23)) (defBody (top 23)) (defScope (top 23)) .none .none .none (.str (S 11739210150939673401112974696943760100158909173761195438357077320301) 353) none (.ref 148) .none), #[]⟩
noncomputable def o152 (_ : Params) : Obj := tO [(.str (S 1870499847949168831840) 394), (.str (S 549665661512770843209056) 395), (.str (S 34476701206588154122852265312) 396), (.str (S 119161592376672) 397), (.str (S 2166583389145247411552) 398)]
noncomputable def o155 (_ : Params) : Obj := cO [(.str (S 526404389020738252860768) 391), (.str (S 526404389020738252860768) 392), (.str (S 9700865007064396754801562313776) 393), (.int (94) 0), (.int (2) 0), (.int (0) 0), (.int (0) 0), (.int (3) 0), (.ref 150), (.bool true), (.int (181) 0), (.ref 151), .none, (.ref 152), (.ref 153), (.ref 154), (.int (399) 0), (.int (94) 0), (.str (S 9700865007064396754801562313776) 400)]
noncomputable def o156 (_ : Params) : Obj := ⟨(.type "function"), none, .func (PySem.W.fnOf (Str.ofString "_law_shown") (Str.ofString "_law_shown") (defArgs (top 24)) (defBody (top 24)) (defScope (top 24)) .none .none .none (.str (S 11739210150939673401112974696943760100158909173761195438357077320301) 353) none (.ref 155) .none), #[]⟩
noncomputable def o159 (_ : Params) : Obj := tO [(.str (S 141979911977246466280418656) 405), (.str (S 549665011860828013620576) 406), (.str (S 33040738751245664) 407), (.str (S 1871439432312149929312) 408), (.str (S 549665661512770843209056) 409), (.str (S 1870499847949168831840) 410), (.str (S 119161592376672) 411), (.str (S 531954870560058129484556456087940448) 412)]
noncomputable def o162 (_ : Params) : Obj := cO [(.str (S 7889517) 402), (.str (S 7889517) 403), (.str (S 9700865007064396754801562313776) 404), (.int (103) 0), (.int (1) 0), (.int (0) 0), (.int (0) 0), (.int (3) 0), (.ref 157), (.bool true), (.int (181) 0), (.ref 158), .none, (.ref 159), (.ref 160), (.ref 161), (.int (413) 0), (.int (103) 0), (.str (S 9700865007064396754801562313776) 414)]
noncomputable def o163 (_ : Params) : Obj := ⟨(.type "function"), none, .func (PySem.W.fnOf (Str.ofString "law") (Str.ofString "law") (defArgs (top 25)) (defBody (top 25)) (defScope (top 25)) .none .none .none (.str (S 11739210150939673401112974696943760100158909173761195438357077320301) 353) none (.ref 162) .none), #[]⟩
noncomputable def Kf : Params → PySem.W.Frag := fun P => (nat_lit 2, o2 P) :: (nat_lit 3, o3 P) :: (nat_lit 15, o15 P) :: (nat_lit 22, o22 P) :: (nat_lit 23, o23 P) :: (nat_lit 24, o24 P) :: (nat_lit 25, o25 P) :: (nat_lit 28, o28 P) :: (nat_lit 35, o22 P) :: (nat_lit 36, o36 P) :: (nat_lit 37, o37 P) :: (nat_lit 40, o40 P) :: (nat_lit 41, o41 P) :: (nat_lit 42, o42 P) :: (nat_lit 43, o43 P) :: (nat_lit 44, o44 P) :: (nat_lit 45, o45 P) :: (nat_lit 46, o46 P) :: (nat_lit 47, o47 P) :: (nat_lit 48, o48 P) :: (nat_lit 49, o49 P) :: (nat_lit 50, o50 P) :: (nat_lit 51, o51 P) :: (nat_lit 52, o52 P) :: (nat_lit 53, o53 P) :: (nat_lit 54, o54 P) :: (nat_lit 55, o55 P) :: (nat_lit 56, o56 P) :: (nat_lit 57, o57 P) :: (nat_lit 58, o58 P) :: (nat_lit 60, o60 P) :: (nat_lit 61, o58 P) :: (nat_lit 63, o63 P) :: (nat_lit 64, o64 P) :: (nat_lit 65, o58 P) :: (nat_lit 68, o68 P) :: (nat_lit 69, o69 P) :: (nat_lit 70, o58 P) :: (nat_lit 72, o72 P) :: (nat_lit 73, o58 P) :: (nat_lit 75, o75 P) :: (nat_lit 76, o76 P) :: (nat_lit 77, o58 P) :: (nat_lit 79, o79 P) :: (nat_lit 80, o58 P) :: (nat_lit 82, o82 P) :: (nat_lit 83, o83 P) :: (nat_lit 84, o58 P) :: (nat_lit 86, o86 P) :: (nat_lit 87, o58 P) :: (nat_lit 89, o89 P) :: (nat_lit 90, o90 P) :: (nat_lit 91, o58 P) :: (nat_lit 93, o93 P) :: (nat_lit 94, o58 P) :: (nat_lit 96, o96 P) :: (nat_lit 97, o97 P) :: (nat_lit 98, o58 P) :: (nat_lit 100, o100 P) :: (nat_lit 101, o58 P) :: (nat_lit 103, o103 P) :: (nat_lit 104, o104 P) :: (nat_lit 105, o58 P) :: (nat_lit 107, o107 P) :: (nat_lit 108, o58 P) :: (nat_lit 110, o110 P) :: (nat_lit 111, o111 P) :: (nat_lit 112, o58 P) :: (nat_lit 115, o115 P) :: (nat_lit 116, o116 P) :: (nat_lit 117, o58 P) :: (nat_lit 120, o120 P) :: (nat_lit 121, o121 P) :: (nat_lit 122, o58 P) :: (nat_lit 124, o124 P) :: (nat_lit 125, o58 P) :: (nat_lit 127, o127 P) :: (nat_lit 128, o128 P) :: (nat_lit 129, o58 P) :: (nat_lit 131, o131 P) :: (nat_lit 132, o58 P) :: (nat_lit 134, o134 P) :: (nat_lit 135, o135 P) :: (nat_lit 136, o58 P) :: (nat_lit 138, o138 P) :: (nat_lit 139, o58 P) :: (nat_lit 141, o141 P) :: (nat_lit 142, o142 P) :: (nat_lit 143, o58 P) :: (nat_lit 145, o145 P) :: (nat_lit 146, o58 P) :: (nat_lit 148, o148 P) :: (nat_lit 149, o149 P) :: (nat_lit 150, o58 P) :: (nat_lit 152, o152 P) :: (nat_lit 153, o58 P) :: (nat_lit 155, o155 P) :: (nat_lit 156, o156 P) :: (nat_lit 157, o58 P) :: (nat_lit 159, o159 P) :: (nat_lit 160, o58 P) :: (nat_lit 162, o162 P) :: (nat_lit 163, o163 P) :: []
noncomputable def Kc0 (P : Params) : List (Option Obj) := [some (o2 P), some (o3 P), some (o15 P), some (o22 P), some (o23 P), some (o24 P), some (o25 P), some (o28 P), some (o22 P), some (o36 P), some (o37 P), some (o40 P), some (o41 P), some (o42 P)]
noncomputable def Kc1 (P : Params) : List (Option Obj) := [some (o43 P), some (o44 P), some (o45 P), some (o46 P), some (o47 P), some (o48 P), some (o49 P), some (o50 P), some (o51 P), some (o52 P), some (o53 P), some (o54 P), some (o55 P), some (o56 P)]
noncomputable def Kc2 (P : Params) : List (Option Obj) := [some (o57 P), some (o58 P), some (o60 P), some (o58 P), some (o63 P), some (o64 P), some (o58 P), some (o68 P), some (o69 P), some (o58 P), some (o72 P), some (o58 P), some (o75 P), some (o76 P)]
noncomputable def Kc3 (P : Params) : List (Option Obj) := [some (o58 P), some (o79 P), some (o58 P), some (o82 P), some (o83 P), some (o58 P), some (o86 P), some (o58 P), some (o89 P), some (o90 P), some (o58 P), some (o93 P), some (o58 P), some (o96 P)]
noncomputable def Kc4 (P : Params) : List (Option Obj) := [some (o97 P), some (o58 P), some (o100 P), some (o58 P), some (o103 P), some (o104 P), some (o58 P), some (o107 P), some (o58 P), some (o110 P), some (o111 P), some (o58 P), some (o115 P), some (o116 P)]
noncomputable def Kc5 (P : Params) : List (Option Obj) := [some (o58 P), some (o120 P), some (o121 P), some (o58 P), some (o124 P), some (o58 P), some (o127 P), some (o128 P), some (o58 P), some (o131 P), some (o58 P), some (o134 P), some (o135 P), some (o58 P)]
noncomputable def Kc6 (P : Params) : List (Option Obj) := [some (o138 P), some (o58 P), some (o141 P), some (o142 P), some (o58 P), some (o145 P), some (o58 P), some (o148 P), some (o149 P), some (o58 P), some (o152 P), some (o58 P), some (o155 P), some (o156 P)]
noncomputable def Kc7 (P : Params) : List (Option Obj) := [some (o58 P), some (o159 P), some (o58 P), some (o162 P), some (o163 P)]
noncomputable def Kc (P : Params) : List (Option Obj) := Kc0 P ++ (Kc1 P ++ (Kc2 P ++ (Kc3 P ++ (Kc4 P ++ (Kc5 P ++ (Kc6 P ++ (Kc7 P)))))))
def adr : List Addr := nat_lit 2 :: nat_lit 3 :: nat_lit 15 :: nat_lit 22 :: nat_lit 23 :: nat_lit 24 :: nat_lit 25 :: nat_lit 28 :: nat_lit 35 :: nat_lit 36 :: nat_lit 37 :: nat_lit 40 :: nat_lit 41 :: nat_lit 42 :: nat_lit 43 :: nat_lit 44 :: nat_lit 45 :: nat_lit 46 :: nat_lit 47 :: nat_lit 48 :: nat_lit 49 :: nat_lit 50 :: nat_lit 51 :: nat_lit 52 :: nat_lit 53 :: nat_lit 54 :: nat_lit 55 :: nat_lit 56 :: nat_lit 57 :: nat_lit 58 :: nat_lit 60 :: nat_lit 61 :: nat_lit 63 :: nat_lit 64 :: nat_lit 65 :: nat_lit 68 :: nat_lit 69 :: nat_lit 70 :: nat_lit 72 :: nat_lit 73 :: nat_lit 75 :: nat_lit 76 :: nat_lit 77 :: nat_lit 79 :: nat_lit 80 :: nat_lit 82 :: nat_lit 83 :: nat_lit 84 :: nat_lit 86 :: nat_lit 87 :: nat_lit 89 :: nat_lit 90 :: nat_lit 91 :: nat_lit 93 :: nat_lit 94 :: nat_lit 96 :: nat_lit 97 :: nat_lit 98 :: nat_lit 100 :: nat_lit 101 :: nat_lit 103 :: nat_lit 104 :: nat_lit 105 :: nat_lit 107 :: nat_lit 108 :: nat_lit 110 :: nat_lit 111 :: nat_lit 112 :: nat_lit 115 :: nat_lit 116 :: nat_lit 117 :: nat_lit 120 :: nat_lit 121 :: nat_lit 122 :: nat_lit 124 :: nat_lit 125 :: nat_lit 127 :: nat_lit 128 :: nat_lit 129 :: nat_lit 131 :: nat_lit 132 :: nat_lit 134 :: nat_lit 135 :: nat_lit 136 :: nat_lit 138 :: nat_lit 139 :: nat_lit 141 :: nat_lit 142 :: nat_lit 143 :: nat_lit 145 :: nat_lit 146 :: nat_lit 148 :: nat_lit 149 :: nat_lit 150 :: nat_lit 152 :: nat_lit 153 :: nat_lit 155 :: nat_lit 156 :: nat_lit 157 :: nat_lit 159 :: nat_lit 160 :: nat_lit 162 :: nat_lit 163 :: []
theorem adr_eq (P : Params) : adr = (Kf P).map (·.1) := by kernel_rfl
theorem kc_eq (P : Params) : Kc P = (Kf P).map fun p => some p.2 := by kernel_rfl
noncomputable def vw : Program := PySem.W.view PySem.Challenge.pw_frameland_k96_rows_shown [1, 2, 4, 5, 6, 7, 8, 9, 10, 11, 12, 13, 14, 15, 16, 17, 18, 20, 21, 22, 23, 24, 25]
noncomputable def lhs := once PySem.Challenge.pw_frameland_k96_rows_shown (fun s => adr.map s.heap.get?) 2190
noncomputable def rhs (w : World) := some (true, Kc w.params)
noncomputable def lht := seen PySem.Challenge.pw_frameland_k96_rows_shown vw [] (fun s => PySem.W.xlAt vw [] s && PySem.W.recOk (PySem.W.RowW.records (PySem.Challenge.rw_frameland_k96_rows_shown).row.toRowW) s) 2190
noncomputable def rht := some (PySem.W.openGood vw [])
theorem twins : (fun (_ : World → OsState → _) (_ : World → _) (_ : World → OsState → _) (_ : Option _) => true) lhs rhs lht rht = true := by k_qdec
theorem run_one : ∀ (w : World) (os : OsState), PySem.W.Fast.tw7128866508377749982 w os = PySem.W.Fast.tw12590348191598281069 w := by intro w os; kernel_rfl
theorem run_two : ∀ (w : World) (os : OsState), PySem.W.Fast.tw7374437481920917934 w os = PySem.W.Fast.tw10733892774512676622 := by intro w os; kernel_rfl
theorem left : PySem.W.LeftO PySem.Challenge.pw_frameland_k96_rows_shown vw [] (fun s => PySem.W.xlAt vw [] s && PySem.W.recOk (PySem.W.RowW.records (PySem.Challenge.rw_frameland_k96_rows_shown).row.toRowW) s) (fun s => adr.map s.heap.get?) (fun w => (Kf w.params).map fun p => some p.2) (2190) := by
  refine left_once (by kernel_rfl) (by kernel_rfl) (by intro s; kernel_rfl) (fun w os => ?_) fun w os => ?_
  · rw [← kc_eq]; exact (congrFun (congrFun PySem.W.Fast.te7128866508377749982 w) os).trans ((run_one w os).trans (congrFun PySem.W.Fast.te12590348191598281069 w).symm)
  · exact (congrFun (congrFun PySem.W.Fast.te7374437481920917934 w) os).trans ((run_two w os).trans PySem.W.Fast.te10733892774512676622.symm)
end

end Pf
open PySem PySem.W PyProof.Rows
set_option maxRecDepth 100000 in
set_option maxHeartbeats 0 in
theorem PySem.Challenge.cw_frameland_k96_rows_shown_holds : PySem.Challenge.rw_frameland_k96_rows_shown.Holds := by
  w_on; o_law
  refine holds_open (q := Pf.vw) (loose := []) (Xt := fun s => xlAt Pf.vw [] s && recOk (RowW.records (PySem.Challenge.rw_frameland_k96_rows_shown).row.toRowW) s) (XP := XL Pf.vw []) (Yf := Hook.obs (kHook Pf.Kf Pf.adr Pf.adr_eq)) (Ya := Hook.val (kHook Pf.Kf Pf.adr Pf.adr_eq)) (YP := Hook.says (kHook Pf.Kf Pf.adr Pf.adr_eq)) (N := (2190)) Pf.left (Hook.of (kHook Pf.Kf Pf.adr Pf.adr_eq)) (Hook.keeps (kHook Pf.Kf Pf.adr Pf.adr_eq)) (fun s e => xl_of s (Bool.and_eq_true_iff.mp e).1) XL.keeps (by rfl) (by rfl) (by rfl) (fun s e => recFacts_of (Bool.and_eq_true_iff.mp e).2) (by rfl) (by first | assumption | decide +kernel) (by decide +kernel) ⟨rfl, rfl, rfl, rfl, rfl, by decide +kernel⟩ ?hw ?hc
  case hw => w_witness2
  k_fill
  refine Pf.walk (l := PySem.Challenge.rw_frameland_k96_rows_shown) rfl rfl rfl (fun w h Y => PySem.W.kIn_of Y) ?F
  case F =>
    intro w mg h KX G
    refine' Pf.txt_mk KX G ?g0 ?g1 ?g2 ?g3 ?g4 ?g5 ?g6 ?g7 ?g8 ?g9 ?g10 ?g11 ?g12 ?g13 ?g14 ?g15 ?g16 ?g17 ?g18 ?g19 ?g20 ?g21 ?g22 ?g23 ?g24 ?g25 ?g26 ?g27 ?g28 ?g29 ?g30 ?g31 ?g32 ?g33 ?g34 ?g35 ?g36 ?g37 ?g38 ?g39 ?g40 ?g41 ?g42 ?g43 ?g44 ?g45 ?g46 ?g47 ?g48 ?g49 ?g50 ?g51 ?g52 ?g53 ?g54 ?g55 ?g56 ?g57 ?g58 ?g59 ?g60 ?g61 ?g62 ?g63 ?g64 ?g65 ?g66 ?g67 ?g68 ?g69 ?g70 ?g71 ?g72 ?g73 ?g74 ?g75 ?g76 ?g77 ?g78 ?g79 ?g80 ?g81 ?g82 ?g83 ?g84 ?g85 ?g86 ?g87 ?g88 ?g89 ?g90 ?g91 ?g92 ?g93 ?g94 ?g95 ?g96 ?g97 ?g98
    (case g0 => k_is); (case g1 => k_is); (case g2 => k_is); (case g3 => k_is); (case g4 => k_is); (case g5 => k_is)
    (case g6 => k_is); (case g7 => k_is); (case g8 => k_is); (case g9 => k_is); (case g10 => k_is); (case g11 => k_is)
    (case g12 => k_is); (case g13 => k_is); (case g14 => k_is); (case g15 => k_is); (case g16 => k_is); (case g17 => k_is)
    (case g18 => k_is); (case g19 => k_is); (case g20 => k_is); (case g21 => k_is); (case g22 => k_is); (case g23 => k_is)
    (case g24 => k_is); (case g25 => k_is); (case g26 => k_is); (case g27 => k_is); (case g28 => k_is); (case g29 => k_is)
    (case g30 => k_is); (case g31 => k_is); (case g32 => k_is); (case g33 => k_is); (case g34 => k_is); (case g35 => k_is)
    (case g36 => k_is); (case g37 => k_is); (case g38 => k_is); (case g39 => k_is); (case g40 => k_is); (case g41 => k_is)
    (case g42 => k_is); (case g43 => k_is); (case g44 => k_is); (case g45 => k_is); (case g46 => k_is); (case g47 => k_is)
    (case g48 => k_is); (case g49 => k_is); (case g50 => k_is); (case g51 => k_is); (case g52 => k_is); (case g53 => k_is)
    (case g54 => k_is); (case g55 => k_is); (case g56 => k_is); (case g57 => k_is); (case g58 => k_is); (case g59 => k_is)
    (case g60 => k_is); (case g61 => k_is); (case g62 => k_is); (case g63 => k_is); (case g64 => k_is); (case g65 => k_is)
    (case g66 => k_is); (case g67 => k_is); (case g68 => k_is); (case g69 => k_is); (case g70 => k_is); (case g71 => k_is)
    (case g72 => k_is); (case g73 => k_is); (case g74 => k_is); (case g75 => k_is); (case g76 => k_is); (case g77 => k_is)
    (case g78 => k_is); (case g79 => k_is); (case g80 => k_is); (case g81 => k_is); (case g82 => k_is); (case g83 => k_is)
    (case g84 => k_is); (case g85 => k_is); (case g86 => k_is); (case g87 => k_is); (case g88 => k_is); (case g89 => k_is)
    (case g90 => k_is); (case g91 => k_is); (case g92 => k_is); (case g93 => k_is); (case g94 => k_exc); (case g95 => k_is)
    (case g96 => k_is); (case g97 => k_is); (case g98 => k_is)
