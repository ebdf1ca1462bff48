import PyProof.Rows.All
import Wide.All
import OpenK.AllK
import Wide.FinOn
import Lean
import PyProof.EqAt
import PyProof.EqKinds
import PyProof.TupleCall
import PyProof.NeKinds
import PyProof.EnumMake
import PyProof.EnumStmt
import PyProof.LayNew
import KE.KDictLaws
import KE.KDictSum
import KE.LcSums
import PyProof.Rows.SumAny
import PyProof.Rows.SortWalk
import PyProof.DictWalks
import PyProof.Rows.SortRev
import KE.KRevIter
import KE.KIntText
import PyProof.CallStr
import PyProof.StrCalls2
import PyProof.Rows.StrJoin2
import PyProof.StrWalks
import PyProof.Rows.Range3
import PySem.Challenge.RW_frameland_k25_told_least
set_option Elab.async false
set_option linter.all false
set_option maxRecDepth 100000
namespace L2
open PySem PySem.Spec PyProof.Rows
abbrev Key := Sum Int Str
def keyIs : Key → Value → Bool
  | .inl k, v => Value.isInt k v
  | .inr x, v => Value.isStrOf x v
def keyH (w : World) : Key → Int
  | .inl k => hashInt k
  | .inr x => hashStr w x
theorem keyIs_shape : ∀ {k : Key} {v : Value}, keyIs k v = true → (∃ i t, k = Sum.inl i ∧ v = Value.int i t) ∨ (∃ x t, k = Sum.inr x ∧ v = Value.str x t)
  | .inl i, v, h => by
    obtain ⟨t, e⟩ := Value.isInt_shape (k := i) (v := v) h
    exact .inl ⟨i, t, rfl, e⟩
  | .inr x, v, h => by
    obtain ⟨t, e⟩ := Value.isStrOf_shape (x := x) (v := v) h
    exact .inr ⟨x, t, rfl, e⟩
theorem keyIs_int (i : Int) (t : Tok) : keyIs (.inl i) (.int i t) = true := by simp [keyIs, Value.isInt]
theorem keyIs_str (x : Str) (t : Tok) : keyIs (.inr x) (.str x t) = true := by simp [keyIs, Value.isStrOf]
theorem key_ll (a b : Int) : decide ((Sum.inl a : Key) = Sum.inl b) = (a == b) := by
  by_cases e : a = b
  · subst e; simp
  · have h : ¬ (Sum.inl a : Key) = Sum.inl b := fun q => e (Sum.inl.inj q)
    rw [decide_eq_false h]
    exact (beq_eq_false_iff_ne.mpr e).symm
theorem key_rr (a b : Str) : decide ((Sum.inr a : Key) = Sum.inr b) = decide (a = b) := by
  by_cases e : a = b
  · subst e; simp
  · have h : ¬ (Sum.inr a : Key) = Sum.inr b := fun q => e (Sum.inr.inj q)
    rw [decide_eq_false h, decide_eq_false e]
theorem key_lr (a : Int) (b : Str) : decide ((Sum.inl a : Key) = Sum.inr b) = false := decide_eq_false (fun q => nomatch q)
theorem key_rl (a : Str) (b : Int) : decide ((Sum.inr a : Key) = Sum.inl b) = false := decide_eq_false (fun q => nomatch q)
def mixKind (prog : Program) (w : World) : PySem.KeyKind prog w Key where
  is := keyIs
  hash := keyH w
  inj := fun v a b ha hb => by
    rcases keyIs_shape ha with ⟨i, t, rfl, rfl⟩ | ⟨x, t, rfl, rfl⟩
    · rcases keyIs_shape hb with ⟨j, u, rfl, e⟩ | ⟨y, u, rfl, e⟩
      · injection e with e1 _; rw [e1]
      · exact nomatch e
    · rcases keyIs_shape hb with ⟨j, u, rfl, e⟩ | ⟨y, u, rfl, e⟩
      · exact nomatch e
      · injection e with e1 _; rw [e1]
  byValue := fun k v h => by
    rcases keyIs_shape h with ⟨i, t, rfl, rfl⟩ | ⟨x, t, rfl, rfl⟩ <;> rfl
  pyHash := fun hv h => by
    rcases keyIs_shape hv with ⟨i, t, rfl, rfl⟩ | ⟨x, t, rfl, rfl⟩
    · exact wpAny_pyHash_int h
    · exact wpAny_pyHash_str h
  eqBool := fun hu hv h => by
    rcases keyIs_shape hu with ⟨i, t, rfl, rfl⟩ | ⟨x, t, rfl, rfl⟩
    · rcases keyIs_shape hv with ⟨j, u, rfl, rfl⟩ | ⟨y, u, rfl, rfl⟩
      · rw [key_ll] at h; exact wpAny_eqBool_int h
      · rw [key_lr] at h; exact SeqAt.EqAt.int_str i t y u _ _ _ _ h
    · rcases keyIs_shape hv with ⟨j, u, rfl, rfl⟩ | ⟨y, u, rfl, rfl⟩
      · rw [key_rl] at h; exact SeqAt.EqAt.str_int x t j u _ _ _ _ h
      · rw [key_rr] at h; exact wpAny_eqBool_str h
  «strs» := fun k x t v h => by
    rcases keyIs_shape h with ⟨i, u, rfl, e⟩ | ⟨y, u, rfl, e⟩
    · exact nomatch e
    · injection e with e1 _
      subst e1
      cases v <;> rfl
theorem mixKind_int (prog : Program) (w : World) (i : Int) (t : Tok) : (mixKind prog w).is (.inl i) (.int i t) = true := keyIs_int i t
theorem mixKind_str (prog : Program) (w : World) (x : Str) (t : Tok) : (mixKind prog w).is (.inr x) (.str x t) = true := keyIs_str x t
end L2
namespace L2
open PySem PySem.Spec PyProof.Rows
inductive V where
  | non | bl (b : Bool) | int (i : Int) | str (x : Str) | byt (b : Array UInt8) | flt (b : UInt64) | ref (a : Addr) | ty (n : String)
  deriving DecidableEq
def RelV : V → Value → Prop
  | .non, u => u = Value.none
  | .bl b, u => u = Value.bool b
  | .int i, u => ∃ t, u = Value.int i t
  | .str x, u => ∃ t, u = Value.str x t
  | .byt b, u => ∃ t, u = Value.bytes b t
  | .flt b, u => ∃ t, u = Value.float b t
  | .ref a, u => u = Value.ref a
  | .ty n, u => u = Value.type n
abbrev Vals : List V → List Value → Prop := Paired RelV
theorem Vals.length {xs : List V} {us : List Value} (r : Vals xs us) : xs.length = us.length := Paired.length r
theorem Vals.get : ∀ {xs : List V} {us : List Value} {i : Nat} {x : V}, Vals xs us → xs[i]? = some x → ∃ u, us[i]? = some u ∧ RelV x u
  | _, _, _, _, .nil, e => by simp at e
  | _, _, 0, _, .cons r _, e => by simp at e; subst e; exact ⟨_, rfl, r⟩
  | _, _, i + 1, x, .cons _ t, e => by
    obtain ⟨u, h1, h2⟩ := Vals.get (i := i) (x := x) t (by simpa using e)
    exact ⟨u, by simpa using h1, h2⟩
theorem Vals.set {x : V} {u : Value} (r : RelV x u) : ∀ {xs : List V} {us : List Value} (i : Nat), Vals xs us → Vals (xs.set i x) (us.set i u)
  | _, _, _, .nil => .nil
  | _, _, 0, .cons _ t => .cons r t
  | _, _, i + 1, .cons q t => .cons q (Vals.set r i t)
theorem Vals.append : ∀ {xs ys : List V} {us ws : List Value}, Vals xs us → Vals ys ws → Vals (xs ++ ys) (us ++ ws)
  | _, _, _, _, .nil, s => s
  | _, _, _, _, .cons r t, s => .cons r (Vals.append t s)
theorem Vals.take : ∀ {xs : List V} {us : List Value} (n : Nat), Vals xs us → Vals (xs.take n) (us.take n)
  | _, _, 0, _ => .nil
  | _, _, _ + 1, .nil => .nil
  | _, _, n + 1, .cons r t => .cons r (Vals.take n t)
theorem Vals.drop : ∀ {xs : List V} {us : List Value} (n : Nat), Vals xs us → Vals (xs.drop n) (us.drop n)
  | _, _, 0, r => r
  | _, _, _ + 1, .nil => .nil
  | _, _, n + 1, .cons _ t => Vals.drop n t
def RelO : Option V → Option Value → Prop
  | some v, some u => RelV v u
  | none, none => True
  | _, _ => False
def KV {κ : Type} : List (κ × V) → List (κ × Value) → Prop := Paired fun (p : κ × V) (q : κ × Value) => p.1 = q.1 ∧ RelV p.2 q.2
def kV : Key → V
  | .inl i => .int i
  | .inr x => .str x
inductive HO where
    | lst (xs : List V)
    | tup (xs : List V)
    | dK (kvs : List (Key × V)) | dT (kvs : List (List Key × V))
    | set (S : Int → Bool) (n : Nat)
    | ins (C dx : Addr) (fs : List (Str × V))
    | own (x : Addr)
    | xd (fs : List (Str × V))
    | met (f x : Addr)
    | rng (lo hi : Int)
    | frz (o : Obj) (u : HO)
    | tbl (ps : Array Value)
    | ext (φ : Heap → Prop)
abbrev Hp := Addr → Option HO
def upd (H : Hp) (a : Addr) (o : HO) : Hp := fun b => if b = a then some o else H b
theorem upd_same {H : Hp} {a : Addr} {o : HO} : upd H a o a = some o := by unfold upd; rw [if_pos rfl]
theorem upd_ne {H : Hp} {a b : Addr} {o : HO} (h : b ≠ a) : upd H a o b = H b := by unfold upd; rw [if_neg h]
theorem ne_of {H : Hp} {a b : Addr} {o u : HO} (h : H a = some o) (h' : H b = some u) (d : o ≠ u) : a ≠ b := by
  intro e; subst e; rw [h] at h'; exact d (Option.some.inj h')
theorem ne_of_none {H : Hp} {a b : Addr} {o : HO} (h : H a = some o) (h' : H b = none) : a ≠ b := by
  intro e; subst e; rw [h] at h'; cases h'
section
variable (P : Program) (w : World)
def ObjOk (H : Hp) (h : Heap) (a : Addr) : HO → Prop
  | .lst xs => xs.length ≤ sizeLine ∧ ∃ (its : List Value) (n : Nat), Vals xs its ∧ h.get? a = some { cls := .type "list", data := .seq its.toArray n }
  | .tup xs => xs.length ≤ sizeLine ∧ ∃ its : List Value, Vals xs its ∧ IsTup h a its.toArray
  | .dK kvs => kvs.length ≤ sizeLine ∧ (a == sysModules) = false ∧ ∃ vs, KV kvs vs ∧ h.DictOf (mixKind P w) a vs
  | .dT kvs => kvs.length ≤ sizeLine ∧ (a == sysModules) = false ∧ ∃ xs : List (List Key × Addr × Value),
      Paired (fun (p : List Key × V) (q : List Key × Addr × Value) => p.1 = q.1 ∧ H q.2.1 = some (.tup (p.1.map kV)) ∧ RelV p.2 q.2.2) kvs xs ∧
      ∃ o es ep, h.get? a = some o ∧ o.ExactDict ∧ o.data = .dict es ep ∧ es.toList = xs.map (entryOfKey (tupleKind (mixKind P w))) ∧ (xs.map (·.1)).Nodup
  | .set S n => h.SetOf (intKind P w) a S n
  | .ins C dx fs => H dx = some (.own a) ∧ fs.length ≤ 1000 ∧ dx ≠ a ∧ h.get? a = some (PySem.W.instObj C dx) ∧
      ∃ mA, h.Ns1 dx mA ∧ (∀ f, RelO (fs.lookup f) (mA f)) ∧ PySem.Within mA (fs.map (·.1))
  | .own _ => ∃ o, h.get? a = some o
  | .xd fs => ∃ mA, h.Ns1 a mA ∧ ∀ f, RelO (fs.lookup f) (mA f)
  | .rng lo hi => ∃ t u v, h.get? a = some { cls := .type "range", data := .fields #[.int lo t, .int hi u, .int 1 v] }
  | .frz o u => h.get? a = some o ∧ ObjOk H h a u
  | .tbl ps => h.get? a = some { cls := .none, data := .fields ps }
  | .met f x => h.get? a = some (PySem.W.methodObj (.ref f) (.ref x))
  | .ext φ => φ h ∧ (∃ o, h.get? a = some o) ∧ ∀ h1 h2 : Heap, φ h1 → (∀ o, h1.get? a = some o → h2.get? a = some o) → φ h2
def HOk (H : Hp) (h : Heap) : Prop := ∀ a o, H a = some o → ObjOk P w H h a o
end
section
variable {P : Program} {w : World} {H H' : Hp} {h h' : Heap} {a : Addr} {o : HO}
theorem ObjOk.lt (x : ObjOk P w H h a o) : a < h.objs.size := by
  cases o with
  | lst xs => obtain ⟨_, _, _, _, e⟩ := x; exact Heap.lt_size e
  | tup xs => obtain ⟨_, _, _, p⟩ := x; exact p.lt
  | dK kvs => obtain ⟨_, _, _, _, o, _, _, e, _⟩ := x; exact Heap.lt_size e
  | dT kvs => obtain ⟨_, _, _, _, o, _, _, e, _⟩ := x; exact Heap.lt_size e
  | set S n => obtain ⟨o, _, _, _, e, _⟩ := x; exact Heap.lt_size e
  | ins C dx fs => obtain ⟨_, _, _, e, _⟩ := x; exact Heap.lt_size e
  | own y => obtain ⟨_, e⟩ := x; exact Heap.lt_size e
  | xd fs => obtain ⟨_, ⟨_, _, _, e, _⟩, _⟩ := x; exact Heap.lt_size e
  | rng lo hi => obtain ⟨_, _, _, e⟩ := x; exact Heap.lt_size e
  | frz ob u => obtain ⟨e, _⟩ := x; exact Heap.lt_size e
  | tbl ps => exact Heap.lt_size (show h.get? a = some _ from x)
  | met f y => exact Heap.lt_size (show h.get? a = some _ from x)
  | ext φ => obtain ⟨_, ⟨_, e⟩, _⟩ := x; exact Heap.lt_size e
theorem Paired.mapP {α β : Type} {F G : α → β → Prop} : ∀ {l₁ : List α} {l₂ : List β}, Paired F l₁ l₂ → (∀ a b, F a b → G a b) → Paired G l₁ l₂
  | _, _, .nil, _ => .nil
  | _, _, .cons r t, f => .cons (f _ _ r) (Paired.mapP t f)
theorem ObjOk.stay (x : ObjOk P w H h a o) (k : ∀ b u, (b = a ∨ H b = some (.own a)) → h.get? b = some u → h'.get? b = some u)
    (ho : ∀ b, H b = some (.own a) → H' b = some (.own a)) (ht : ∀ b xs, H b = some (.tup xs) → H' b = some (.tup xs)) : ObjOk P w H' h' a o := by
  induction o with
  | lst xs => obtain ⟨z, its, n, r, e⟩ := x; exact ⟨z, its, n, r, k _ _ (.inl rfl) e⟩
  | tup xs => obtain ⟨z, its, r, ob, e, c⟩ := x; exact ⟨z, its, r, ob, k _ _ (.inl rfl) e, c⟩
  | dK kvs => obtain ⟨z, y, vs, r, ob, es, ep, e, c⟩ := x; exact ⟨z, y, vs, r, ob, es, ep, k _ _ (.inl rfl) e, c⟩
  | dT kvs =>
    obtain ⟨z, y, xs, r, ob, es, ep, e, c⟩ := x
    exact ⟨z, y, xs, Paired.mapP r fun p q z => ⟨z.1, ht _ _ z.2.1, z.2.2⟩, ob, es, ep, k _ _ (.inl rfl) e, c⟩
  | set S n => obtain ⟨ob, es, ep, t, e, c⟩ := x; exact ⟨ob, es, ep, t, k _ _ (.inl rfl) e, c⟩
  | ins C dx fs =>
    obtain ⟨d, z, ne, e, mA, ⟨od, es, ep, e2, c⟩, r⟩ := x
    exact ⟨ho _ d, z, ne, k _ _ (.inl rfl) e, mA, ⟨od, es, ep, k _ _ (.inr d) e2, c⟩, r⟩
  | own y => obtain ⟨ob, e⟩ := x; exact ⟨ob, k _ _ (.inl rfl) e⟩
  | xd fs => obtain ⟨mA, ⟨od, es, ep, e, c⟩, r⟩ := x; exact ⟨mA, ⟨od, es, ep, k _ _ (.inl rfl) e, c⟩, r⟩
  | rng lo hi => obtain ⟨t, u, v, e⟩ := x; exact ⟨t, u, v, k _ _ (.inl rfl) e⟩
  | frz ob u ih => obtain ⟨e, q⟩ := x; exact ⟨k _ _ (.inl rfl) e, ih q⟩
  | tbl ps =>
    have e : h.get? a = some { cls := .none, data := .fields ps } := x
    show h'.get? a = some { cls := .none, data := .fields ps }
    exact k a _ (.inl rfl) e
  | met f y =>
    have e : h.get? a = some (PySem.W.methodObj (.ref f) (.ref y)) := x
    show h'.get? a = some (PySem.W.methodObj (.ref f) (.ref y))
    exact k a _ (.inl rfl) e
  | ext φ => obtain ⟨p, ⟨o, e⟩, st⟩ := x; exact ⟨st _ _ p fun o q => k _ _ (.inl rfl) q, ⟨o, k _ _ (.inl rfl) e⟩, st⟩
theorem HOk.lt (x : HOk P w H h) (e : H a = some o) : a < h.objs.size := (x a o e).lt
theorem HOk.fresh (x : HOk P w H h) (e : h.objs.size ≤ a) : H a = none := by
  cases q : H a with
  | none => rfl
  | some u => exact absurd (Nat.lt_of_lt_of_le (x.lt q) e) (Nat.lt_irrefl _)
theorem HOk.kept (x : HOk P w H h) (k : ∀ b u, h.get? b = some u → h'.get? b = some u) : HOk P w H h' := fun a o e =>
  (x a o e).stay (fun b u _ q => k b u q) (fun _ q => q) fun _ _ q => q
theorem HOk.laid (x : HOk P w H h) (k : ∀ b u, h.get? b = some u → h'.get? b = some u) (hp : h.objs.size ≤ a) (new : ObjOk P w (upd H a o) h' a o) : HOk P w (upd H a o) h' := fun b u e => by
  have hn := x.fresh hp
  by_cases hb : b = a
  · subst hb; rw [upd_same] at e; cases e; exact new
  · rw [upd_ne hb] at e
    exact (x b u e).stay (fun c v _ q => k c v q) (fun c q => by rw [upd_ne (ne_of_none q hn)]; exact q) fun c xs q => by rw [upd_ne (ne_of_none q hn)]; exact q
end
def Rd (H : Hp) (a : Addr) (u : HO) : Prop := H a = some u ∨ ∃ o, H a = some (.frz o u)
theorem Rd.of {H : Hp} {a : Addr} {u : HO} (h : H a = some u) : Rd H a u := .inl h
theorem Rd.ok {P : Program} {w : World} {H : Hp} {h : Heap} {a : Addr} {u : HO} (r : Rd H a u) (x : HOk P w H h) : ObjOk P w H h a u := by
  rcases r with r | ⟨o, r⟩
  · exact x a u r
  · obtain ⟨_, q⟩ := x a _ r
    exact q
def Mut : Option HO → Prop
  | some (.lst _) => True
  | some (.dK _) => True
  | some (.dT _) => True
  | some (.set _ _) => True
  | some (.ins _ _ _) => True
  | some (.ext _) => True
  | _ => False
section
variable {P : Program} {w : World} {H : Hp} {h h' : Heap} {x e : Addr} {o' : HO}
theorem HOk.write (ok : HOk P w H h) (mu : Mut (H x)) (he : e = x ∨ H e = some (.own x)) (k : ∀ b u, b ≠ e → h.get? b = some u → h'.get? b = some u) (heo : ∃ u, h'.get? e = some u)
    (new : ObjOk P w (upd H x o') h' x o') : HOk P w (upd H x o') h' := fun b u q => by
  have nown : ∀ c y, H c = some (.own y) → c ≠ x := fun c y r z => by subst z; rw [r] at mu; exact mu
  have ntup : ∀ c xs, H c = some (.tup xs) → c ≠ x := fun c xs r z => by subst z; rw [r] at mu; exact mu
  by_cases hb : b = x
  · subst hb; rw [upd_same] at q; cases q; exact new
  · rw [upd_ne hb] at q
    by_cases hbe : b = e
    · have q' : H b = some (.own x) := by
        rcases he with z | z
        · exact absurd (hbe.trans z) hb
        · rw [hbe]; exact z
      rw [q] at q'; cases q'
      obtain ⟨v, hv⟩ := heo
      exact ⟨v, by rw [hbe]; exact hv⟩
    · refine (ok b u q).stay (fun c v hc r => k c v ?_ r) (fun c r => by rw [upd_ne (nown c b r)]; exact r) fun c xs r => by rw [upd_ne (ntup c xs r)]; exact r
      rcases hc with rfl | hc
      · exact hbe
      · rintro rfl
        rcases he with z | z
        · exact nown c b hc z
        · rw [hc] at z; cases z; exact hb rfl
end
structure Un (fs ex : List Addr) (H H' : Hp) (h h' : Heap) : Prop where
  keep : ∀ b o, h.get? b = some o → H b = none → b ∉ fs → b ∉ ex → h'.get? b = some o
  slot : ∀ b o, h.get? b = some o → H b = none → b ∈ fs → b ∉ ex → ∃ sl, h'.get? b = some { o with slots := sl }
  free : ∀ b o, h.get? b = some o → H b = none → b ∉ ex → H' b = none
  there : ∀ b o, h.get? b = some o → b ∉ ex → ∃ o', h'.get? b = some o'
  tups : ∀ b xs, H b = some (.tup xs) → H' b = some (.tup xs)
  frzs : ∀ b o u, H b = some (.frz o u) → H' b = some (.frz o u)
  tbls : ∀ b ps, H b = some (.tbl ps) → ∃ more, H' b = some (.tbl (ps ++ more))
section
variable {fs fs' ex ex' : List Addr} {H H1 H2 : Hp} {h h1 h2 h' : Heap} {a x e : Addr} {o : HO}
theorem Un.any (u : Un fs ex H H1 h h1) {b : Addr} {ob : Obj} (q : h.get? b = some ob) (n : H b = none) (hx : b ∉ ex) : ∃ sl, h1.get? b = some { ob with slots := sl } := by
  by_cases hb : b ∈ fs
  · exact u.slot b ob q n hb hx
  · exact ⟨ob.slots, u.keep b ob q n hb hx⟩
theorem Un.trans (a : Un fs ex H H1 h h1) (b : Un fs ex H1 H2 h1 h2) : Un fs ex H H2 h h2 where
  keep := fun c ob q n hc hx => b.keep c ob (a.keep c ob q n hc hx) (a.free c ob q n hx) hc hx
  slot := fun c ob q n hc hx => by
    obtain ⟨sl, e1⟩ := a.slot c ob q n hc hx
    obtain ⟨sl', e2⟩ := b.slot c _ e1 (a.free c ob q n hx) hc hx
    exact ⟨sl', e2⟩
  free := fun c ob q n hx => by
    obtain ⟨o', e1⟩ := a.there c ob q hx
    exact b.free c o' e1 (a.free c ob q n hx) hx
  there := fun c ob q hx => by
    obtain ⟨o', e1⟩ := a.there c ob q hx
    exact b.there c o' e1 hx
  tups := fun c xs q => b.tups c xs (a.tups c xs q)
  frzs := fun c ob xs q => b.frzs c ob xs (a.frzs c ob xs q)
  tbls := fun c ps q => by
    obtain ⟨m1, e1⟩ := a.tbls c ps q
    obtain ⟨m2, e2⟩ := b.tbls c _ e1
    exact ⟨m1 ++ m2, by rw [e2, Array.append_assoc]⟩
theorem Un.kept (k : ∀ b u, h.get? b = some u → h'.get? b = some u) : Un fs ex H H h h' :=
  ⟨fun b ob q _ _ _ => k b ob q, fun b ob q _ _ _ => ⟨ob.slots, k b ob q⟩, fun _ _ _ n _ => n, fun b ob q _ => ⟨ob, k b ob q⟩, fun _ _ q => q, fun _ _ _ q => q, fun _ ps q => ⟨#[], by rw [q]; simp⟩⟩
theorem Un.refl : Un fs ex H H h h := Un.kept fun _ _ q => q
theorem Un.laid (k : ∀ b u, h.get? b = some u → h'.get? b = some u) (hp : h.objs.size ≤ a) (hn : H a = none) : Un fs ex H (upd H a o) h h' where
  keep := fun b u q _ _ _ => k b u q
  slot := fun b u q _ _ _ => ⟨u.slots, k b u q⟩
  free := fun b u q n _ => by rw [upd_ne (Nat.ne_of_lt (Nat.lt_of_lt_of_le (Heap.lt_size q) hp))]; exact n
  there := fun b u q _ => ⟨u, k b u q⟩
  tups := fun b xs q => by rw [upd_ne (ne_of_none q hn)]; exact q
  frzs := fun b u xs q => by rw [upd_ne (ne_of_none q hn)]; exact q
  tbls := fun b ps q => ⟨#[], by rw [upd_ne (ne_of_none q hn), q]; simp⟩
theorem Un.write (mu : Mut (H x)) (he : e = x ∨ H e = some (.own x)) (k : ∀ b u, b ≠ e → h.get? b = some u → h'.get? b = some u) (heo : ∃ u, h'.get? e = some u) : Un fs ex H (upd H x o) h h' := by
  have hx : ∀ b, H b = none → b ≠ x := fun b n z => by subst z; rw [n] at mu; exact mu
  have hb : ∀ b, H b = none → b ≠ e := fun b n z => by
    subst z
    rcases he with r | r
    · exact hx b n r
    · rw [n] at r; cases r
  have hm : ∀ b u, H b = some u → ¬ Mut (some u) → b ≠ x := fun b u q nm z => by subst z; rw [q] at mu; exact nm mu
  refine ⟨fun b u q n _ _ => k b u (hb b n) q, fun b u q n _ _ => ⟨u.slots, k b u (hb b n) q⟩, fun b u q n _ => by rw [upd_ne (hx b n)]; exact n, fun b u q _ => ?_,
    fun b xs q => by rw [upd_ne (hm b _ q fun z => z)]; exact q, fun b u xs q => by rw [upd_ne (hm b _ q fun z => z)]; exact q, fun b ps q => ⟨#[], by rw [upd_ne (hm b _ q fun z => z), q]; simp⟩⟩
  by_cases hbe : b = e
  · subst hbe; exact heo
  · exact ⟨u, k b u hbe q⟩
end
def trk (h : Heap) (H : Hp) : List Addr := (List.range h.objs.size).filter fun a => (H a).isSome
def hidT (h : Heap) (H : Hp) : Heap := PySem.W.hideAll h (trk h H)
theorem hidT_size (h : Heap) (H : Hp) : (hidT h H).objs.size = h.objs.size := PySem.W.hideAll_size _ _
theorem hidT_get {h : Heap} {H : Hp} {b : Addr} {o : Obj} (e : h.get? b = some o) (n : H b = none) : (hidT h H).get? b = some o :=
  PySem.W.hideAll_get _ e fun hm => by
    have q : (H b).isSome = true := (List.mem_filter.mp hm).2
    rw [n] at q; simp at q
theorem of_hidT {h : Heap} {H : Hp} {b : Addr} {o : Obj} (e : (hidT h H).get? b = some o) : h.get? b = some o ∧ H b = none := by
  have e' : h.get? b = some o := PySem.W.of_hideAll (trk h H) e
  refine ⟨e', ?_⟩
  cases q : H b with
  | none => rfl
  | some x =>
    have hm : b ∈ trk h H := List.mem_filter.mpr ⟨List.mem_range.mpr (Heap.lt_size e'), by simp [q]⟩
    have z : (hidT h H).get? b = none := PySem.W.hideAll_none (trk h H) hm
    rw [z] at e; cases e
def allNews (g h : Heap) (L : Addr) : List (Addr × Obj) := (List.range h.objs.size).filterMap fun a => if a = L ∨ (g.get? a).isSome = true then none else (h.get? a).map fun o => (a, o)
def rest (g h : Heap) (L d : Addr) : List (Addr × Obj) := (allNews g h L).filter fun p => decide (p.1 ≠ d)
end L2
namespace L2
open PySem PySem.Spec PyProof.Rows
structure Mod (K : PySem.W.Frag) (mg : Str → Option Value) (base : Heap) : Prop where
  kin : K.In base
  glob : base.Ns mainGlobals mg
  blt : ∃ mb, base.Ns builtinsNs mb ∧ ∀ x : Str, x ≠ "__name__" → mb x = bootBuiltins x
  nolimit : base.NoLimit
structure Cx where
  prog : Program
  w : World
  K : PySem.W.Frag
  mg : Str → Option Value
  base : Heap
  A : Around
  N : List Str
  s₀ : Shared
  H₀ : Hp
  env : Env
  outer : List Env
  stack : List Env
  ex : List Addr
  fn : Str → Bool
  calm : Bool
  pn : List (Addr × Obj)
  xe : Value → Shared → Prop
def frs (l : List Env) : List Addr := l.filterMap (·.frame)
abbrev Cx.fs (X : Cx) : List Addr := frs X.outer
def Vis (sc : Scope) (x : Str) : Prop := sc.names.lookup x = some .local ∨ sc.names.lookup x = some .cell ∨ sc.names.lookup x = some .free
def Loc (sc : Scope) (x : Str) : Prop := sc.names.lookup x = some .local ∨ sc.names.lookup x = some .cell
def Look (env : Env) (h : Heap) (m : Str → Option Value) (x : Str) (u : Value) : Prop :=
  (env.kindOf x = some .local ∧ m x = some u) ∨ ((env.kindOf x = some .cell ∨ env.kindOf x = some .free) ∧ ∃ c, env.cells.lookup x = some c ∧ h.IsCell c (some u))
structure Cx.Ok (X : Cx) : Prop where
  mod : Mod X.K X.mg X.base
  kind : X.env.scope.kind = .function
  glob : X.env.globals = mainGlobals
  blt : X.env.builtins = builtinsNs
  above : X.s₀.heap.objs.size ≤ X.env.locals
  inj : ∀ x y c, X.env.cells.lookup x = some c → X.env.cells.lookup y = some c → x = y
  has : ∀ x, (X.env.kindOf x = some .cell ∨ X.env.kindOf x = some .free) → ∃ c, X.env.cells.lookup x = some c
  cab : ∀ x c, X.fn x = true → X.env.cells.lookup x = some c → X.s₀.heap.objs.size ≤ c
  hd : X.calm = true → X.A.handled = none
  frames : X.A.frames = some X.stack
  stk : X.stack = X.outer ∨ (X.stack = X.env :: X.outer ∧ X.env.frame = some X.env.locals)
  exf : ∀ b ∈ X.ex, b ≠ X.env.locals ∧ ∀ x c, X.env.cells.lookup x = some c → c ≠ b
  bs : ∀ b o, X.base.get? b = some o → X.s₀.heap.get? b = some o ∧ X.H₀ b = none
  bsz : X.base.objs.size ≤ X.s₀.heap.objs.size
  noex : ∀ b o, X.base.get? b = some o → b ∉ X.ex
  exfs : ∀ b ∈ X.ex, b ∉ X.fs
  funs : X.s₀.heap.FunFrames X.base X.outer
  frf : ∀ b ∈ X.fs, X.H₀ b = none
structure Inv (X : Cx) (pins : List (Addr × Obj)) (σ : List (Option V)) (H : Hp) (s : Shared) : Prop where
  ok : X.Ok
  os : s.os = X.s₀.os
  bare : AllBare s.gens
  base : Un X.fs X.ex X.H₀ H X.s₀.heap s.heap
  loc : ∃ m, s.heap.Ns X.env.locals m ∧ ∀ (i : Nat) (x : Str) (v : V), X.N[i]? = some x → σ[i]? = some (some v) → Vis X.env.scope x → ∃ u, RelV v u ∧ Look X.env s.heap m x u
  cell : ∀ x c, X.env.cells.lookup x = some c → ∃ v, s.heap.IsCell c v
  free : H X.env.locals = none
  freeC : ∀ x c, X.env.cells.lookup x = some c → H c = none
  pin : ∀ p ∈ X.pn ++ pins, s.heap.get? p.1 = some p.2 ∧ H p.1 = none ∧ p.1 ≠ X.env.locals ∧ p.1 ∉ X.fs ∧ ∀ v, p.2.data ≠ .cell v
  hok : HOk X.prog X.w H s.heap
  len : σ.length = X.N.length
section
variable {X : Cx} {pins : List (Addr × Obj)} {σ : List (Option V)} {H H' : Hp} {s : Shared} {h' : Heap}
theorem Cx.Ok.nofr (ok : X.Ok) {b : Addr} {o : Obj} (e : X.base.get? b = some o) : b ∉ X.fs := fun hb => by
  have := (ok.funs.mem hb).1
  rw [e] at this; cases this
theorem Inv.bs (I : Inv X pins σ H s) : ∀ b o, X.base.get? b = some o → s.heap.get? b = some o ∧ H b = none := fun b o e =>
  ⟨I.base.keep b o (I.ok.bs b o e).1 (I.ok.bs b o e).2 (I.ok.nofr e) (I.ok.noex b o e), I.base.free b o (I.ok.bs b o e).1 (I.ok.bs b o e).2 (I.ok.noex b o e)⟩
theorem Inv.bk (I : Inv X pins σ H s) : ∀ b o, X.base.get? b = some o → s.heap.get? b = some o := fun b o e => (I.bs b o e).1
theorem Inv.mod (I : Inv X pins σ H s) : Mod X.K X.mg X.base := I.ok.mod
theorem Inv.kIn (I : Inv X pins σ H s) : X.K.In s.heap := I.ok.mod.kin.keeps I.bk
theorem Inv.lt (I : Inv X pins σ H s) : X.env.locals < s.heap.objs.size := let ⟨_, hn, _⟩ := I.loc; hn.lt
theorem Inv.sz (I : Inv X pins σ H s) : X.s₀.heap.objs.size ≤ s.heap.objs.size := Nat.le_trans I.ok.above (Nat.le_of_lt I.lt)
theorem Inv.nofs (I : Inv X pins σ H s) {a : Addr} (h : s.heap.objs.size ≤ a) : a ∉ X.fs := fun hb => by
  obtain ⟨_, o, ho, _⟩ := I.ok.funs.mem hb
  exact absurd (Nat.lt_of_lt_of_le (Heap.lt_size ho) (Nat.le_trans I.sz h)) (Nat.lt_irrefl _)
theorem Inv.cne (I : Inv X pins σ H s) : ∀ x c, X.env.cells.lookup x = some c → c ≠ X.env.locals := fun x c e z => by
  obtain ⟨v, o, ho, hd⟩ := I.cell x c e
  obtain ⟨m, ⟨o', es, ep, ho', hd', _⟩, _⟩ := I.loc
  rw [z, ho'] at ho; cases ho; rw [hd'] at hd; cases hd
theorem Inv.funs (I : Inv X pins σ H s) : s.heap.FunFrames X.base X.outer := by
  have all : ∀ (l : List Env), (∀ b ∈ frs l, b ∈ X.fs) → X.s₀.heap.FunFrames X.base l → s.heap.FunFrames X.base l := by
    intro l
    induction l with
    | nil => intro _ _; trivial
    | cons env r ih =>
      intro hs hl
      obtain ⟨hk, ⟨L, o, hf, hn, ho, hd⟩, hr⟩ := hl
      have hL : L ∈ X.fs := hs L (by unfold frs; rw [List.filterMap_cons, hf]; exact List.mem_cons_self)
      obtain ⟨sl, e⟩ := I.base.slot L o ho (I.ok.frf L hL) hL fun z => I.ok.exfs L z hL
      exact ⟨hk, ⟨L, _, hf, hn, e, hd⟩, ih (fun b hb => hs b (by unfold frs; rw [List.filterMap_cons, hf]; exact List.mem_cons_of_mem _ hb)) hr⟩
  exact all X.outer (fun _ hb => hb) I.ok.funs
theorem Inv.stack (I : Inv X pins σ H s) : s.heap.FunFrames X.base X.stack := by
  rcases I.ok.stk with e | ⟨e, hf⟩
  · rw [e]; exact I.funs
  · rw [e]
    obtain ⟨m, hn, _⟩ := I.loc
    refine .cons (by rw [I.ok.kind]; decide) hf hn ?_ I.funs
    exact Heap.get?_none_of_le (Nat.le_trans I.ok.bsz I.ok.above)
theorem Inv.stkSub (I : Inv X pins σ H s) : ∀ b ∈ frs X.stack, b ∈ X.env.locals :: X.fs := fun b hb => by
  rcases I.ok.stk with e | ⟨e, hf⟩
  · rw [e] at hb; exact List.mem_cons_of_mem _ hb
  · rw [e] at hb
    unfold frs at hb
    rw [List.filterMap_cons, hf] at hb
    exact hb
theorem Inv.stkFree (I : Inv X pins σ H s) : ∀ b ∈ frs X.stack, H b = none := fun b hb => by
  rcases List.mem_cons.mp (I.stkSub b hb) with e | hb
  · rw [e]; exact I.free
  · obtain ⟨_, o, ho, _⟩ := I.ok.funs.mem hb
    exact I.base.free b o ho (I.ok.frf b hb) fun z => I.ok.exfs b z hb
theorem Inv.step {g' : Array GenState} {t' : Nat} {d' : Drawn} {ch : List Addr} (I : Inv X pins σ H s)
    (hch : ∀ b ∈ ch, (b ∈ X.ex ∨ X.s₀.heap.objs.size ≤ b) ∧ b ≠ X.env.locals ∧ (∀ x c, X.env.cells.lookup x = some c → c ≠ b) ∧ ∀ p ∈ X.pn ++ pins, p.1 ≠ b)
    (keep : ∀ b o, b ≠ X.env.locals → b ∉ X.fs → b ∉ ch → s.heap.get? b = some o → H b = none → h'.get? b = some o)
    (slot : ∀ b o, b ≠ X.env.locals → b ∈ X.fs → b ∉ ch → s.heap.get? b = some o → H b = none → ∃ sl, h'.get? b = some { o with slots := sl }) (free : ∀ b o, b ∉ ch → s.heap.get? b = some o → H b = none → H' b = none)
    (there : ∀ b o, b ∉ ch → s.heap.get? b = some o → ∃ o', h'.get? b = some o')
    (tups : ∀ b xs, H b = some (.tup xs) → H' b = some (.tup xs)) (frzs : ∀ b o u, H b = some (.frz o u) → H' b = some (.frz o u)) (tbls : ∀ b ps, H b = some (.tbl ps) → ∃ more, H' b = some (.tbl (ps ++ more)))
    (ns : ∀ m, s.heap.Ns X.env.locals m → h'.Ns X.env.locals m) (hok : HOk X.prog X.w H' h') (hg : AllBare g') :
    Inv X pins σ H' { s with heap := h', gens := g', drawn := d', toks := t' } := by
  have neL : ∀ b o, X.s₀.heap.get? b = some o → b ≠ X.env.locals := fun b o e => Nat.ne_of_lt (Nat.lt_of_lt_of_le (Heap.lt_size e) I.ok.above)
  have neC : ∀ b o, X.s₀.heap.get? b = some o → b ∉ X.ex → b ∉ ch := fun b o e hx hb => by
    rcases (hch b hb).1 with z | z
    · exact hx z
    · exact absurd (Nat.lt_of_lt_of_le (Heap.lt_size e) z) (Nat.lt_irrefl _)
  have cellK : ∀ x c, X.env.cells.lookup x = some c → ∀ v, s.heap.IsCell c v → h'.IsCell c v := fun x c e v ⟨o, ho, hd⟩ => by
    have nch : c ∉ ch := fun z => (hch c z).2.2.1 x c e rfl
    by_cases hc : c ∈ X.fs
    · obtain ⟨sl, q⟩ := slot c o (I.cne x c e) hc nch ho (I.freeC x c e)
      exact ⟨_, q, hd⟩
    · exact ⟨o, keep c o (I.cne x c e) hc nch ho (I.freeC x c e), hd⟩
  refine ⟨I.ok, I.os, hg, ⟨fun b o e n hb hx => ?_, fun b o e n hb hx => ?_, fun b o e n hx => ?_, fun b o e hx => ?_, fun b xs e => tups b xs (I.base.tups b xs e), fun b o xs e => frzs b o xs (I.base.frzs b o xs e), fun b ps e => ?_⟩, ?_, fun x c e => ?_, ?_, fun x c e => ?_, fun p hp => ?_, hok, I.len⟩
  · exact keep b o (neL b o e) hb (neC b o e hx) (I.base.keep b o e n hb hx) (I.base.free b o e n hx)
  · obtain ⟨sl, e1⟩ := I.base.slot b o e n hb hx
    obtain ⟨sl', e2⟩ := slot b _ (neL b o e) hb (neC b o e hx) e1 (I.base.free b o e n hx)
    exact ⟨sl', e2⟩
  · obtain ⟨o', e1⟩ := I.base.there b o e hx
    exact free b o' (neC b o e hx) e1 (I.base.free b o e n hx)
  · obtain ⟨o', e1⟩ := I.base.there b o e hx
    exact there b o' (neC b o e hx) e1
  · obtain ⟨m1, e1⟩ := I.base.tbls b ps e
    obtain ⟨m2, e2⟩ := tbls b _ e1
    exact ⟨m1 ++ m2, by rw [e2, Array.append_assoc]⟩
  · obtain ⟨m, hn, hl⟩ := I.loc
    refine ⟨m, ns m hn, fun i x v e1 e2 e3 => ?_⟩
    obtain ⟨u, r, l⟩ := hl i x v e1 e2 e3
    refine ⟨u, r, ?_⟩
    rcases l with l | ⟨k, c, e, z⟩
    · exact .inl l
    · exact .inr ⟨k, c, e, cellK x c e _ z⟩
  · obtain ⟨v, z⟩ := I.cell x c e
    exact ⟨v, cellK x c e v z⟩
  · obtain ⟨m, ⟨o, _, _, ho, _⟩, _⟩ := I.loc
    exact free _ o (fun z => (hch _ z).2.1 rfl) ho I.free
  · obtain ⟨v, o, ho, hd⟩ := I.cell x c e
    exact free c o (fun z => (hch c z).2.2.1 x c e rfl) ho (I.freeC x c e)
  · obtain ⟨e, n, ne, nf, d⟩ := I.pin p hp
    have nch : p.1 ∉ ch := fun z => (hch p.1 z).2.2.2 p hp rfl
    exact ⟨keep p.1 p.2 ne nf nch e n, free p.1 p.2 nch e n, ne, nf, d⟩
theorem Inv.un {t' : Nat} (I : Inv X pins σ H s) (u : Un X.fs [] H H' s.heap h') (hok : HOk X.prog X.w H' h') : Inv X pins σ H' { s with heap := h', toks := t' } := by
  obtain ⟨m, ⟨o, es, ep, ho, r⟩, _⟩ := id I.loc
  obtain ⟨sl, hL⟩ := u.any ho I.free (by simp)
  exact I.step (g' := s.gens) (d' := s.drawn) (ch := []) (fun _ z => nomatch z) (fun b o _ hb _ e n => u.keep b o e n hb (by simp)) (fun b o _ hb _ e n => u.slot b o e n hb (by simp)) (fun b o _ e n => u.free b o e n (by simp)) (fun b o _ e => u.there b o e (by simp)) u.tups u.frzs u.tbls (fun m' hm => by
    obtain ⟨o', es', ep', ho', r'⟩ := hm
    rw [ho] at ho'; cases ho'
    exact ⟨_, es', ep', hL, r'⟩) hok I.bare
theorem Inv.call {g' : Array GenState} {t' : Nat} {d' : Drawn} {ch : List Addr} (I : Inv X pins σ H s) (u : Un (frs X.stack) ch H H' s.heap h') (hok : HOk X.prog X.w H' h') (hg : AllBare g')
    (hch : ∀ b ∈ ch, (b ∈ X.ex ∨ X.s₀.heap.objs.size ≤ b) ∧ b ≠ X.env.locals ∧ (∀ x c, X.env.cells.lookup x = some c → c ≠ b) ∧ ∀ p ∈ X.pn ++ pins, p.1 ≠ b) :
    Inv X pins σ H' { s with heap := h', gens := g', drawn := d', toks := t' } := by
  obtain ⟨m, ⟨o, es, ep, ho, r⟩, _⟩ := id I.loc
  obtain ⟨sl, hL⟩ := u.any ho I.free fun z => (hch _ z).2.1 rfl
  exact I.step (ch := ch) hch (fun b o hL hb hc e n => u.keep b o e n (fun z => (List.mem_cons.mp (I.stkSub b z)).elim hL hb) hc) (fun b o _ _ hc e n => u.any e n hc) (fun b o hc e n => u.free b o e n hc) (fun b o hc e => u.there b o e hc) u.tups u.frzs u.tbls (fun m' hm => by
    obtain ⟨o', es', ep', ho', r'⟩ := hm
    rw [ho] at ho'; cases ho'
    exact ⟨_, es', ep', hL, r'⟩) hok hg
theorem Inv.turned {t' : Nat} {it : Addr} (I : Inv X pins σ H s) (k : ∀ b o, b ≠ it → s.heap.get? b = some o → h'.get? b = some o) (hn : H it = none) (hL : it ≠ X.env.locals)
    (h1 : it ∈ X.ex ∨ X.s₀.heap.objs.size ≤ it) (h2 : ∀ x c, X.env.cells.lookup x = some c → c ≠ it) (h3 : ∀ p ∈ X.pn ++ pins, p.1 ≠ it) : Inv X pins σ H { s with heap := h', toks := t' } := by
  have nit : ∀ b u, H b = some u → b ≠ it := fun b u e z => by rw [z, hn] at e; cases e
  refine I.step (g' := s.gens) (d' := s.drawn) (ch := [it]) (fun b hb => ?_) (fun b o _ _ hc e _ => k b o (fun z => hc (by simp [z])) e) (fun b o _ _ hc e _ => ⟨o.slots, k b o (fun z => hc (by simp [z])) e⟩) (fun _ _ _ _ n => n)
    (fun b o hc e => ⟨o, k b o (fun z => hc (by simp [z])) e⟩) (fun _ _ e => e) (fun _ _ _ e => e) (fun b ps e => ⟨#[], by rw [e]; simp⟩) (fun m hm => ?_) (fun b u e => ?_) I.bare
  · have e : b = it := by simpa using hb
    subst e
    exact ⟨h1, hL, h2, h3⟩
  · obtain ⟨o, es, ep, ho, r⟩ := hm
    exact ⟨o, es, ep, k _ o (Ne.symm hL) ho, r⟩
  · refine (I.hok b u e).stay (fun c v hc q => k c v ?_ q) (fun _ q => q) fun _ _ q => q
    rcases hc with z | z
    · rw [z]; exact nit b u e
    · exact nit c _ z
theorem Inv.tok (I : Inv X pins σ H s) (t : Nat) : Inv X pins σ H { s with toks := t } := I.un (h' := s.heap) (t' := t) Un.refl I.hok
theorem Inv.kept {t' : Nat} (I : Inv X pins σ H s) (k : ∀ b u, s.heap.get? b = some u → h'.get? b = some u) : Inv X pins σ H { s with heap := h', toks := t' } := I.un (Un.kept k) (I.hok.kept k)
theorem Inv.laid {a : Addr} {o : HO} {t' : Nat} (I : Inv X pins σ H s) (k : ∀ b u, s.heap.get? b = some u → h'.get? b = some u) (hp : s.heap.objs.size ≤ a) (new : ObjOk X.prog X.w (upd H a o) h' a o) :
    Inv X pins σ (upd H a o) { s with heap := h', toks := t' } := I.un (Un.laid k hp (I.hok.fresh hp)) (I.hok.laid k hp new)
theorem Inv.write {x e : Addr} {o : HO} {t' : Nat} (I : Inv X pins σ H s) (mu : Mut (H x)) (he : e = x ∨ H e = some (.own x)) (k : ∀ b u, b ≠ e → s.heap.get? b = some u → h'.get? b = some u) (heo : ∃ u, h'.get? e = some u)
    (new : ObjOk X.prog X.w (upd H x o) h' x o) : Inv X pins σ (upd H x o) { s with heap := h', toks := t' } := I.un (Un.write mu he k heo) (I.hok.write mu he k heo new)
theorem Inv.pins_of {pins' : List (Addr × Obj)} (I : Inv X pins σ H s) (h : ∀ p ∈ pins', s.heap.get? p.1 = some p.2 ∧ H p.1 = none ∧ p.1 ≠ X.env.locals ∧ p.1 ∉ X.fs ∧ ∀ v, p.2.data ≠ .cell v) : Inv X pins' σ H s :=
  ⟨I.ok, I.os, I.bare, I.base, I.loc, I.cell, I.free, I.freeC, fun p hp => (List.mem_append.mp hp).elim (fun z => I.pin p (List.mem_append_left _ z)) (h p), I.hok, I.len⟩
theorem nodup_ix {N : List Str} (hN : N.Nodup) {i j : Nat} {x : Str} (a : N[i]? = some x) (b : N[j]? = some x) : i = j := by
  obtain ⟨h1, e1⟩ := List.getElem?_eq_some_iff.mp a
  obtain ⟨h2, e2⟩ := List.getElem?_eq_some_iff.mp b
  exact (List.getElem_inj hN).mp (e1.trans e2.symm)
theorem store_ok2 {M : Model} {A : Around} {E : Value → Shared → Prop} {i : Nat} {x : Str} {v : V} {u : Value} {Q : Unit → Shared → Prop} (I : Inv X pins σ H s) (hN : X.N.Nodup) (hi : X.N[i]? = some x) (hx : Loc X.env.scope x) (r : RelV v u)
    (h : ∀ s', Inv X pins (σ.set i (some v)) H s' → (∃ a, Heap.SameBut a s.heap s'.heap ∧ (a = X.env.locals ∨ X.env.cells.lookup x = some a)) → Q () s') (hf : X.fn x = true ∨ X.env.scope.names.lookup x = some .local := by first | exact .inl rfl | exact .inr rfl | assumption) : wpAny M A (storeName X.env x u) Q E s := by
  obtain ⟨m, hn, hl⟩ := id I.loc
  have hcls : (X.env.scope.kind == .class || (X.env.scope.kind == .module && X.env.locals != X.env.globals)) = false := by rw [I.ok.kind]; rfl
  have hiσ : i < σ.length := by rw [I.len]; exact (List.getElem?_eq_some_iff.mp hi).1
  have cne := I.cne
  have tracked : ∀ {a : Addr} {h' : Heap}, (∃ o, s.heap.get? a = some o ∧ H a = none) → Heap.SameBut a s.heap h' → HOk X.prog X.w H h' := fun {a h'} ha hs b ob e => by
    obtain ⟨_, _, hfree⟩ := ha
    refine (I.hok b ob e).stay (fun c w' hc q => (hs.2 c ?_).trans q) (fun _ q => q) fun _ _ q => q
    rintro rfl
    rcases hc with rfl | hc
    · rw [hfree] at e; cases e
    · rw [hfree] at hc; cases hc
  rcases hx with hk | hk
  · refine wpAny_storeName_local hk hn (fun h' hn' hs => ?_) hcls
    obtain ⟨oL, _, _, hoL, _⟩ := id hn
    refine h _ ⟨I.ok, I.os, I.bare, ⟨fun b o e n hb hx => ?_, fun b o e n hb hx => ?_, I.base.free, fun b o e hx => ?_, I.base.tups, I.base.frzs, I.base.tbls⟩, ⟨_, hn', fun j y v' e1 e2 e3 => ?_⟩, fun y c e => ?_, I.free, I.freeC, fun p hp => ?_, tracked ⟨oL, hoL, I.free⟩ hs, by simpa using I.len⟩ ⟨_, hs, .inl rfl⟩
    · exact (hs.2 b (Nat.ne_of_lt (Nat.lt_of_lt_of_le (Heap.lt_size e) I.ok.above))).trans (I.base.keep b o e n hb hx)
    · obtain ⟨sl, e1⟩ := I.base.slot b o e n hb hx
      exact ⟨sl, (hs.2 b (Nat.ne_of_lt (Nat.lt_of_lt_of_le (Heap.lt_size e) I.ok.above))).trans e1⟩
    · obtain ⟨o', e1⟩ := I.base.there b o e hx
      exact ⟨o', (hs.2 b (Nat.ne_of_lt (Nat.lt_of_lt_of_le (Heap.lt_size e) I.ok.above))).trans e1⟩
    · by_cases hj : j = i
      · subst hj
        rw [hi] at e1; cases e1
        rw [List.getElem?_set_self hiσ] at e2
        cases e2
        exact ⟨u, r, .inl ⟨hk, by simp⟩⟩
      · rw [List.getElem?_set_ne (Ne.symm hj)] at e2
        obtain ⟨u', r', q⟩ := hl j y v' e1 e2 e3
        refine ⟨u', r', ?_⟩
        rcases q with ⟨k, e⟩ | ⟨k, c, e, z⟩
        · refine .inl ⟨k, ?_⟩
          have : y ≠ x := fun e => hj (nodup_ix hN e1 (e ▸ hi))
          simp [this, e]
        · exact .inr ⟨k, c, e, z.sameBut hs (cne y c e)⟩
    · obtain ⟨w', z⟩ := I.cell y c e
      exact ⟨w', z.sameBut hs (cne y c e)⟩
    · obtain ⟨e, n, ne, nf, d⟩ := I.pin p hp
      exact ⟨(hs.2 p.1 ne).trans e, n, ne, nf, d⟩
  · have hfn : X.fn x = true := by
      rcases hf with z | z
      · exact z
      · rw [z] at hk; cases hk
    obtain ⟨c, hc⟩ := I.ok.has x (.inl hk)
    obtain ⟨w', z⟩ := I.cell x c hc
    refine wpAny_storeName_cell I.ok.kind hk hc z (fun h' hc' hs => ?_)
    obtain ⟨oc, hoc, hocd⟩ := id z
    refine h { s with heap := h' } ⟨I.ok, I.os, I.bare, ⟨fun b o e n hb hx => ?_, fun b o e n hb hx => ?_, I.base.free, fun b o e hx => ?_, I.base.tups, I.base.frzs, I.base.tbls⟩, ⟨m, hn.sameBut hs (Ne.symm (cne x c hc)), fun j y v' e1 e2 e3 => ?_⟩, fun y c' e => ?_, I.free, I.freeC, fun p hp => ?_, tracked ⟨oc, hoc, I.freeC x c hc⟩ hs, by simpa using I.len⟩ ⟨c, hs, .inr hc⟩
    · exact (hs.2 b (Nat.ne_of_lt (Nat.lt_of_lt_of_le (Heap.lt_size e) (I.ok.cab x c hfn hc)))).trans (I.base.keep b o e n hb hx)
    · obtain ⟨sl, e1⟩ := I.base.slot b o e n hb hx
      exact ⟨sl, (hs.2 b (Nat.ne_of_lt (Nat.lt_of_lt_of_le (Heap.lt_size e) (I.ok.cab x c hfn hc)))).trans e1⟩
    · obtain ⟨o', e1⟩ := I.base.there b o e hx
      exact ⟨o', (hs.2 b (Nat.ne_of_lt (Nat.lt_of_lt_of_le (Heap.lt_size e) (I.ok.cab x c hfn hc)))).trans e1⟩
    · by_cases hj : j = i
      · subst hj
        rw [hi] at e1; cases e1
        rw [List.getElem?_set_self hiσ] at e2
        cases e2
        exact ⟨u, r, .inr ⟨.inl hk, c, hc, hc'⟩⟩
      · rw [List.getElem?_set_ne (Ne.symm hj)] at e2
        obtain ⟨u', r', q⟩ := hl j y v' e1 e2 e3
        refine ⟨u', r', ?_⟩
        rcases q with q | ⟨k, c', e, z'⟩
        · exact .inl q
        · refine .inr ⟨k, c', e, z'.sameBut hs ?_⟩
          rintro rfl
          exact hj (nodup_ix hN e1 (I.ok.inj _ _ _ e hc ▸ hi))
    · by_cases hcc : c' = c
      · subst hcc; exact ⟨_, hc'⟩
      · obtain ⟨w2, z2⟩ := I.cell y c' e
        exact ⟨w2, z2.sameBut hs hcc⟩
    · obtain ⟨e, n, ne, nf, d⟩ := I.pin p hp
      refine ⟨(hs.2 p.1 ?_).trans e, n, ne, nf, d⟩
      intro q
      rw [q, hoc] at e
      have q' : oc = p.2 := Option.some.inj e
      exact d w' (by rw [← q']; exact hocd)
theorem store_ok {M : Model} {A : Around} {E : Value → Shared → Prop} {i : Nat} {x : Str} {v : V} {u : Value} {Q : Unit → Shared → Prop} (I : Inv X pins σ H s) (hN : X.N.Nodup) (hi : X.N[i]? = some x) (hx : Loc X.env.scope x) (r : RelV v u)
    (h : ∀ s', Inv X pins (σ.set i (some v)) H s' → Q () s') (hf : X.fn x = true ∨ X.env.scope.names.lookup x = some .local := by first | exact .inl rfl | exact .inr rfl | assumption) : wpAny M A (storeName X.env x u) Q E s :=
  store_ok2 I hN hi hx r (fun s' I' _ => h s' I') hf
theorem Inv.call' {s' : Shared} {ch : List Addr} (I : Inv X pins σ H s) (ho : s'.os = s.os) (u : Un (frs X.stack) ch H H' s.heap s'.heap) (hok : HOk X.prog X.w H' s'.heap) (hg : AllBare s'.gens)
    (hch : ∀ b ∈ ch, (b ∈ X.ex ∨ X.s₀.heap.objs.size ≤ b) ∧ b ≠ X.env.locals ∧ (∀ x c, X.env.cells.lookup x = some c → c ≠ b) ∧ ∀ p ∈ X.pn ++ pins, p.1 ≠ b) : Inv X pins σ H' s' := by
  obtain ⟨h', g', d', t', o'⟩ := s'
  have e : o' = s.os := ho
  subst e
  exact I.call (g' := g') (t' := t') (d' := d') u hok hg hch
end
abbrev XK := Value → Option Addr → Hp → Prop
abbrev St := List (Option V)
abbrev VK := V → Hp → Prop
abbrev TE := St → Hp → VK → Prop
abbrev TT := St → Hp → (Bool → Hp → Prop) → Prop
abbrev TA := St → Hp → (List V → Hp → Prop) → Prop
structure Ends where
  nx : St → Hp → Prop
  rt : VK
  bk : St → Hp → Prop := fun _ _ => False
  ct : St → Hp → Prop := fun _ _ => False
abbrev TS := Ends → St → Hp → Prop
def EP (X : Cx) (pins : List (Addr × Obj)) (σ : St) (Q : VK) (u : Value) (s' : Shared) : Prop := ∃ v H', Inv X pins σ H' s' ∧ RelV v u ∧ Q v H'
def TP (X : Cx) (pins : List (Addr × Obj)) (σ : St) (Q : Bool → Hp → Prop) (b : Bool) (s' : Shared) : Prop := ∃ H', Inv X pins σ H' s' ∧ Q b H'
def AP (X : Cx) (pins : List (Addr × Obj)) (σ : St) (Q : List V → Hp → Prop) (us : List Value) (s' : Shared) : Prop := ∃ vs H', Inv X pins σ H' s' ∧ Vals vs us ∧ Q vs H'
def SP (X : Cx) (pins : List (Addr × Obj)) (D : Ends) (f : Flow) (s' : Shared) : Prop :=
  match f with
  | .next => ∃ σ' H', Inv X pins σ' H' s' ∧ D.nx σ' H'
  | .brk => ∃ σ' H', Inv X pins σ' H' s' ∧ D.bk σ' H'
  | .cont => ∃ σ' H', Inv X pins σ' H' s' ∧ D.ct σ' H'
  | .ret u => ∃ v σ' H', Inv X pins σ' H' s' ∧ RelV v u ∧ D.rt v H'
def PE (X : Cx) (e : Expr) (t : TE) : Prop :=
  ∀ (pins : List (Addr × Obj)) (s : Shared) (σ : St) (H : Hp) (Q : VK), Inv X pins σ H s → t σ H Q → wpAny (model X.prog X.w) X.A (eval e X.env) (EP X pins σ Q) X.xe s
def PT (X : Cx) (e : Expr) (t : TT) : Prop :=
  ∀ (pins : List (Addr × Obj)) (s : Shared) (σ : St) (H : Hp) (Q : Bool → Hp → Prop), Inv X pins σ H s → t σ H Q → wpAny (model X.prog X.w) X.A (isTrue e X.env (eval e X.env)) (TP X pins σ Q) X.xe s
def PW (X : Cx) (e : Expr) (t : TT) : Prop :=
  ∀ (whole : Sem Value) (pins : List (Addr × Obj)) (s : Shared) (σ : St) (H : Hp) (Q : Bool → Hp → Prop), Inv X pins σ H s → t σ H Q → wpAny (model X.prog X.w) X.A (isTrue e X.env whole) (TP X pins σ Q) X.xe s
theorem PW.pt {X : Cx} {e : Expr} {t : TT} (h : PW X e t) : PT X e t := h _
def PA (X : Cx) (es : List Expr) (t : TA) : Prop :=
  ∀ (pos : Pos) (pins : List (Addr × Obj)) (s : Shared) (σ : St) (H : Hp) (Q : List V → Hp → Prop), Inv X pins σ H s → t σ H Q → wpAny (model X.prog X.w) X.A (spliced (backTo pos (starEach es X.env))) (AP X pins σ Q) X.xe s
def PS (X : Cx) (st : Stmt) (t : TS) : Prop :=
  ∀ (pins : List (Addr × Obj)) (s : Shared) (σ : St) (H : Hp) (D : Ends), Inv X pins σ H s → t D σ H → wpAny (model X.prog X.w) X.A (exec st X.env) (SP X pins D) X.xe s
def PSs (X : Cx) (st : List Stmt) (t : TS) : Prop :=
  ∀ (pins : List (Addr × Obj)) (s : Shared) (σ : St) (H : Hp) (D : Ends), Inv X pins σ H s → t D σ H → wpAny (model X.prog X.w) X.A (execs st X.env) (SP X pins D) X.xe s
theorem thn {α : Type} {t : Sem α} {Q Q' : α → Shared → Prop} {M : Model} {A : Around} {E : Value → Shared → Prop} {s : Shared} (h : wpAny M A t Q E s) (hQ : ∀ a s, Q a s → Q' a s) : wpAny M A t Q' E s := wpAny_mono h hQ fun _ _ x => x
end L2
namespace L2
open PySem PySem.Spec PyProof.Rows
section
variable {X : Cx}
def tVar (i : Nat) : TE := fun σ H Q => ∃ v, σ[i]? = some (some v) ∧ Q v H
def tC (v : V) : TE := fun _ H Q => Q v H
theorem pe_var {i : Nat} {x : Str} {pos : Pos} (hN : X.N[i]? = some x) (hv : Vis X.env.scope x) (hd : (x == ("__debug__" : Str)) = false := by decide) (hcd : (x == ("__classdict__" : Str)) = false := by decide) : PE X (.Name x pos) (tVar i) := by
  intro pins s σ H Q I h
  obtain ⟨v, e, h⟩ := h
  obtain ⟨m, hn, hl⟩ := I.loc
  obtain ⟨u, r, l⟩ := hl i x v hN e hv
  have fin : EP X pins σ Q u s := ⟨v, H, I, r, h⟩
  rcases l with ⟨hk, hm⟩ | ⟨hk, c, hc, hcell⟩
  · exact wpAny_Name (wpAny_loadName_local I.ok.kind hk hn hm fin) hd
  · rcases hk with hk | hk
    · exact wpAny_Name (wpAny_loadName_cell I.ok.kind hk hc hcell fin) hd
    · exact wpAny_Name (wpAny_loadName_free I.ok.kind hk hc hcell fin hcd) hd
theorem pe_int {i j pos} : PE X (.Constant (.int i) j pos) (tC (.int i)) := fun _ _ _ H _ I h => wpAny_Constant_int ⟨.int i, H, I.tok _, ⟨_, rfl⟩, h⟩
theorem pe_bl {b j pos} : PE X (.Constant (.bool b) j pos) (tC (.bl b)) := fun _ _ _ H _ I h => Constant_bool ⟨.bl b, H, I, rfl, h⟩
theorem pe_non {j pos} : PE X (.Constant .none j pos) (tC .non) := fun _ _ _ H _ I h => Constant_none ⟨.non, H, I, rfl, h⟩
theorem pe_str {x j pos} : PE X (.Constant (.str x) j pos) (tC (.str x)) := fun _ _ _ H _ I h => Calls.Constant_str ⟨.str x, H, I.tok _, ⟨_, rfl⟩, h⟩
def Gl (X : Cx) (x : Str) : Prop := X.env.kindOf x = some .globalImplicit
theorem ld_glob {E : Value → Shared → Prop} {pins : List (Addr × Obj)} {s : Shared} {σ : St} {H : Hp} {x : Str} {u : Value} {pos : Pos} {Q : Value → Shared → Prop} (I : Inv X pins σ H s) (hg : Gl X x) (hm : X.mg x = some u) (h : Q u s)
    (hd : (x == ("__debug__" : Str)) = false := by decide) : wpAny (model X.prog X.w) X.A (eval (.Name x pos) X.env) Q E s :=
  Calls.Name_function_global I.ok.kind hg (Calls.loadGlobal_global (by rw [I.ok.glob]; exact I.mod.glob.keeps I.bk) hm h) hd
theorem ld_blt {E : Value → Shared → Prop} {pins : List (Addr × Obj)} {s : Shared} {σ : St} {H : Hp} {x : Str} {u : Value} {pos : Pos} {Q : Value → Shared → Prop} (I : Inv X pins σ H s) (hg : Gl X x) (hm : X.mg x = none) (hv : bootBuiltins x = some u) (h : Q u s)
    (hn : x ≠ "__name__" := by decide) (hd : (x == ("__debug__" : Str)) = false := by decide) : wpAny (model X.prog X.w) X.A (eval (.Name x pos) X.env) Q E s := by
  obtain ⟨mb, h1, h2⟩ := I.mod.blt
  exact Calls.Name_function_global I.ok.kind hg (Calls.loadGlobal_builtin (by rw [I.ok.glob]; exact I.mod.glob.keeps I.bk) hm (by rw [I.ok.blt]; exact h1.keeps I.bk) ((h2 x hn).trans hv) h) hd
theorem pe_glob {x : Str} {v : V} {u : Value} {pos : Pos} (hg : Gl X x) (hm : X.mg x = some u) (r : RelV v u) (hd : (x == ("__debug__" : Str)) = false := by decide) : PE X (.Name x pos) (tC v) :=
  fun _ _ _ H _ I h => ld_glob I hg hm ⟨v, H, I, r, h⟩ hd
theorem pe_bltn {x : Str} {v : V} {u : Value} {pos : Pos} (hg : Gl X x) (hm : X.mg x = none) (hv : bootBuiltins x = some u) (r : RelV v u) (hn : x ≠ "__name__" := by decide) (hd : (x == ("__debug__" : Str)) = false := by decide) : PE X (.Name x pos) (tC v) :=
  fun _ _ _ H _ I h => ld_blt I hg hm hv ⟨v, H, I, r, h⟩ hn hd
variable {a b : Expr} {ta tb : TE} {pos : Pos}
def PC (X : Cx) (op : CmpOp) (a b : Expr) (t : TE) : Prop :=
  ∀ (pins : List (Addr × Obj)) (s : Shared) (σ : St) (H : Hp) (Q : VK), Inv X pins σ H s → t σ H Q →
    wpAny (model X.prog X.w) X.A (eval a X.env) (fun v s₁ => wpAny (model X.prog X.w) X.A (eval b X.env) (fun u s₂ => wpAny (model X.prog X.w) X.A (compareOp op v u) (EP X pins σ Q) X.xe s₂) X.xe s₁) X.xe s
def tB (t : TE) : TT := fun σ H Q => t σ H fun x H1 => ∃ c, x = .bl c ∧ Q c H1
theorem pt_val {e : Expr} {t : TE} (h : PE X e t) (he : ∀ whole, isTrue e X.env whole = (do let v ← whole; standAt e.pos; holding [v] (truthy v)) := by intro _; rfl) : PT X e (tB t) := by
  intro pins s σ H Q I hw
  refine isTrue_plain (thn (h pins s σ H _ I hw) fun v s1 ⟨x, H1, I1, r1, q1⟩ => ?_) (he _)
  obtain ⟨d, rfl, q⟩ := q1
  cases r1
  exact wpAny_truthy_bool ⟨H1, I1, q⟩
variable {tA tB' : TT} {rest : List Expr}
def tAnd (t u : TT) : TT := fun σ H Q => t σ H fun c H1 => if c = true then u σ H1 Q else Q false H1
def tOr (t u : TT) : TT := fun σ H Q => t σ H fun c H1 => if c = true then Q true H1 else u σ H1 Q
def tNot (t : TT) : TT := fun σ H Q => t σ H fun c H1 => Q (!c) H1
theorem pw_and1 (ha : PT X a tA) : PW X (.BoolOp .And [a] pos) tA := by
  intro wh pins s σ H Q I h
  refine isTrue_and (thn (ha pins s σ H Q I h) fun c s1 e => ?_)
  cases c with
  | true => exact isTrue_and_nil e
  | false => exact e
theorem pw_or1 (ha : PT X a tA) : PW X (.BoolOp .Or [a] pos) tA := by
  intro wh pins s σ H Q I h
  refine isTrue_or (thn (ha pins s σ H Q I h) fun c s1 e => ?_)
  cases c with
  | false => exact isTrue_or_nil e
  | true => exact e
theorem pw_and (ha : PT X a tA) (hb : PW X (.BoolOp .And (b :: rest) pos) tB') : PW X (.BoolOp .And (a :: b :: rest) pos) (tAnd tA tB') := by
  intro wh pins s σ H Q I h
  refine isTrue_and (thn (ha pins s σ H _ I h) fun c s1 ⟨H1, I1, q1⟩ => ?_)
  cases c with
  | true => exact hb wh pins s1 σ H1 Q I1 q1
  | false => exact ⟨H1, I1, q1⟩
theorem pw_or (ha : PT X a tA) (hb : PW X (.BoolOp .Or (b :: rest) pos) tB') : PW X (.BoolOp .Or (a :: b :: rest) pos) (tOr tA tB') := by
  intro wh pins s σ H Q I h
  refine isTrue_or (thn (ha pins s σ H _ I h) fun c s1 ⟨H1, I1, q1⟩ => ?_)
  cases c with
  | true => exact ⟨H1, I1, q1⟩
  | false => exact hb wh pins s1 σ H1 Q I1 q1
theorem pt_not (ha : PT X a tA) : PT X (.UnaryOp .Not a pos) (tNot tA) := by
  intro pins s σ H Q I h
  exact isTrue_not (ha pins s σ H (fun c H1 => Q (!c) H1) I h)
def tAndV (ta tb : TE) : TE := fun σ H Q => ta σ H fun x H1 => ∃ c, x = .bl c ∧ if c = true then tb σ H1 Q else Q (.bl false) H1
def tOrV (ta tb : TE) : TE := fun σ H Q => ta σ H fun x H1 => ∃ c, x = .bl c ∧ if c = true then Q (.bl true) H1 else tb σ H1 Q
def tNotV (ta : TE) : TE := fun σ H Q => ta σ H fun x H1 => ∃ c, x = .bl c ∧ Q (.bl (!c)) H1
theorem pe_one {op} {t : TE} (h : PE X a t) : PE X (.BoolOp op [a] pos) t := fun pins s σ H Q I hw => BoolOp_one (h pins s σ H Q I hw)
theorem pe_and (ha : PE X a ta) (hb : PE X (.BoolOp .And (b :: rest) pos) tb) : PE X (.BoolOp .And (a :: b :: rest) pos) (tAndV ta tb) := by
  intro pins s σ H Q I h
  refine BoolOp_and (thn (ha pins s σ H _ I h) fun v s1 ⟨x, H1, I1, r1, q1⟩ => ?_)
  obtain ⟨c, rfl, q1⟩ := q1
  cases r1
  refine wpAny_truthy_bool ?_
  cases c with
  | true => exact hb pins s1 σ H1 Q I1 q1
  | false => exact ⟨.bl false, H1, I1, rfl, q1⟩
theorem pe_or (ha : PE X a ta) (hb : PE X (.BoolOp .Or (b :: rest) pos) tb) : PE X (.BoolOp .Or (a :: b :: rest) pos) (tOrV ta tb) := by
  intro pins s σ H Q I h
  refine BoolOp_or (thn (ha pins s σ H _ I h) fun v s1 ⟨x, H1, I1, r1, q1⟩ => ?_)
  obtain ⟨c, rfl, q1⟩ := q1
  cases r1
  refine wpAny_truthy_bool ?_
  cases c with
  | false => exact hb pins s1 σ H1 Q I1 q1
  | true => exact ⟨.bl true, H1, I1, rfl, q1⟩
theorem pe_not (ha : PE X a ta) : PE X (.UnaryOp .Not a pos) (tNotV ta) := by
  intro pins s σ H Q I h
  refine UnaryOp_ (thn (ha pins s σ H _ I h) fun v s1 ⟨x, H1, I1, r1, q1⟩ => ?_)
  obtain ⟨c, rfl, q1⟩ := q1
  cases r1
  exact not_of (wpAny_truthy_bool ⟨.bl (!c), H1, I1, rfl, q1⟩)
def tIf (t : TT) (ta tb : TE) : TE := fun σ H Q => t σ H fun c H1 => if c = true then ta σ H1 Q else tb σ H1 Q
theorem pe_ifExp {c : Expr} (hc : PT X c tA) (ha : PE X a ta) (hb : PE X b tb) : PE X (.IfExp c a b pos) (tIf tA ta tb) := by
  intro pins s σ H Q I h
  refine wpAny_IfExp (thn (hc pins s σ H _ I h) fun d s1 ⟨H1, I1, q1⟩ => ?_)
  cases d with
  | true => exact ha pins s1 σ H1 Q I1 q1
  | false => exact hb pins s1 σ H1 Q I1 q1
end
end L2
namespace L2
open PySem PySem.Spec PyProof.Rows
def SqL (K : PySem.W.Frag) (H : Hp) (a : Addr) (xs : List V) : Prop :=
  Rd H a (.lst xs) ∨
    ∃ (o : Obj) (its : Array Value) (n : Nat), K.lookup a = some o ∧ o.cls = .type "list" ∧ o.dict = none ∧ o.data = .seq its n ∧ its.size ≤ sizeLine ∧ Vals xs its.toList
def SqT (K : PySem.W.Frag) (H : Hp) (a : Addr) (xs : List V) : Prop :=
  Rd H a (.tup xs) ∨
    ∃ (o : Obj) (its : Array Value) (n : Nat), K.lookup a = some o ∧ o.cls = .type "tuple" ∧ o.data = .seq its n ∧ its.size ≤ sizeLine ∧ Vals xs its.toList
def absV : Value → Option V
  | .none => some .non
  | .bool b => some (.bl b)
  | .int i _ => some (.int i)
  | .str x _ => some (.str x)
  | .bytes b _ => some (.byt b)
  | .float b _ => some (.flt b)
  | .ref a => some (.ref a)
  | .type n => some (.ty n)
  | _ => none
theorem RelV.abs {x : V} {u : Value} (r : RelV x u) : absV u = some x := by
  cases x with
  | non => cases r; rfl
  | bl _ => cases r; rfl
  | int _ => obtain ⟨t, rfl⟩ := r; rfl
  | str _ => obtain ⟨t, rfl⟩ := r; rfl
  | byt _ => obtain ⟨t, rfl⟩ := r; rfl
  | flt _ => obtain ⟨t, rfl⟩ := r; rfl
  | ref _ => cases r; rfl
  | ty _ => cases r; rfl
theorem RelV.inj {x y : V} {u : Value} (r : RelV x u) (q : RelV y u) : x = y := Option.some.inj (r.abs.symm.trans q.abs)
theorem Vals.inj : ∀ {xs ys : List V} {us : List Value}, Vals xs us → Vals ys us → xs = ys
  | _, _, _, .nil, .nil => rfl
  | _, _, _, .cons r t, .cons r' t' => by rw [r.inj r', Vals.inj t t']
section
variable {X : Cx} {pins : List (Addr × Obj)} {σ : St} {H : Hp} {s : Shared} {a : Addr} {xs ys : List V}
theorem SqL.of {K : PySem.W.Frag} (h : H a = some (.lst xs)) : SqL K H a xs := .inl (.inl h)
theorem SqT.of {K : PySem.W.Frag} (h : H a = some (.tup xs)) : SqT K H a xs := .inl (.inl h)
theorem Inv.list (I : Inv X pins σ H s) (h : SqL X.K H a xs) : ∃ its : List Value, Vals xs its ∧ PlainL s.heap a its.toArray ∧ xs.length ≤ sizeLine := by
  rcases h with h | ⟨o, its, n, hk, hc, hd, hs, hz, r⟩
  · obtain ⟨z, its, n, r, e⟩ := h.ok I.hok
    exact ⟨its, r, ⟨_, n, e, rfl, rfl, rfl⟩, z⟩
  · refine ⟨its.toList, r, ⟨o, n, I.kIn a o hk, hc, hd, by simpa using hs⟩, ?_⟩
    have e := r.length
    simp only [Array.length_toList] at e
    omega
theorem Inv.tuple (I : Inv X pins σ H s) (h : SqT X.K H a xs) : ∃ its : List Value, Vals xs its ∧ IsTup s.heap a its.toArray ∧ xs.length ≤ sizeLine := by
  rcases h with h | ⟨o, its, n, hk, hc, hs, hz, r⟩
  · obtain ⟨z, its, r, p⟩ := h.ok I.hok
    exact ⟨its, r, p, z⟩
  · refine ⟨its.toList, r, ⟨o, I.kIn a o hk, hc, n, by simpa using hs⟩, ?_⟩
    have e := r.length
    simp only [Array.length_toList] at e
    omega
theorem Inv.list_inj (I : Inv X pins σ H s) (h : SqL X.K H a xs) (h' : SqL X.K H a ys) : xs = ys := by
  obtain ⟨its, r, ⟨o, n, e, _, _, d⟩, _⟩ := I.list h
  obtain ⟨its', r', ⟨o', n', e', _, _, d'⟩, _⟩ := I.list h'
  rw [e] at e'; cases e'
  rw [d] at d'
  injection d' with d1 _
  have : its = its' := by simpa using congrArg Array.toList d1
  subst this
  exact r.inj r'
theorem Inv.tuple_inj (I : Inv X pins σ H s) (h : SqT X.K H a xs) (h' : SqT X.K H a ys) : xs = ys := by
  obtain ⟨its, r, ⟨o, e, _, n, d⟩, _⟩ := I.tuple h
  obtain ⟨its', r', ⟨o', e', _, n', d'⟩, _⟩ := I.tuple h'
  rw [e] at e'; cases e'
  rw [d] at d'
  injection d' with d1 _
  have : its = its' := by simpa using congrArg Array.toList d1
  subst this
  exact r.inj r'
end
abbrev Cx.wish (X : Cx) (E : Value → Shared → Prop) : Cx := { X with xe := E }
abbrev Cx.nox (X : Cx) : Cx := X.wish fun _ _ => False
theorem Cx.Ok.wish {X : Cx} (ok : X.Ok) (E : Value → Shared → Prop) : (X.wish E).Ok :=
  ⟨ok.mod, ok.kind, ok.glob, ok.blt, ok.above, ok.inj, ok.has, ok.cab, ok.hd, ok.frames, ok.stk, ok.exf, ok.bs, ok.bsz, ok.noex, ok.exfs, ok.funs, ok.frf⟩
theorem Cx.Ok.unwish {X : Cx} {E : Value → Shared → Prop} (ok : (X.wish E).Ok) : X.Ok :=
  ⟨ok.mod, ok.kind, ok.glob, ok.blt, ok.above, ok.inj, ok.has, ok.cab, ok.hd, ok.frames, ok.stk, ok.exf, ok.bs, ok.bsz, ok.noex, ok.exfs, ok.funs, ok.frf⟩
section
variable {X : Cx} {pins : List (Addr × Obj)} {σ : St} {H : Hp} {s : Shared} {E : Value → Shared → Prop}
theorem Inv.wish (I : Inv X pins σ H s) (E : Value → Shared → Prop) : Inv (X.wish E) pins σ H s := ⟨I.ok.wish E, I.os, I.bare, I.base, I.loc, I.cell, I.free, I.freeC, I.pin, I.hok, I.len⟩
theorem Inv.unwish (I : Inv (X.wish E) pins σ H s) : Inv X pins σ H s := ⟨I.ok.unwish, I.os, I.bare, I.base, I.loc, I.cell, I.free, I.freeC, I.pin, I.hok, I.len⟩
theorem SP.unwish {D : Ends} {f : Flow} {s' : Shared} (h : SP (X.wish E) pins D f s') : SP X pins D f s' := by
  cases f with
  | next => obtain ⟨σ', H', I, q⟩ := h; exact ⟨σ', H', I.unwish, q⟩
  | brk => obtain ⟨σ', H', I, q⟩ := h; exact ⟨σ', H', I.unwish, q⟩
  | cont => obtain ⟨σ', H', I, q⟩ := h; exact ⟨σ', H', I.unwish, q⟩
  | ret u => obtain ⟨v, σ', H', I, r, q⟩ := h; exact ⟨v, σ', H', I.unwish, r, q⟩
theorem PE.nox {e : Expr} {t : TE} (h : PE X.nox e t) : PE X e t := fun pins s σ H Q I hw =>
  wpAny_mono (h pins s σ H Q (I.wish _) hw) (fun _ _ ⟨v, H', I', r, q⟩ => ⟨v, H', I'.unwish, r, q⟩) fun _ _ z => False.elim z
theorem PT.nox {e : Expr} {t : TT} (h : PT X.nox e t) : PT X e t := fun pins s σ H Q I hw =>
  wpAny_mono (h pins s σ H Q (I.wish _) hw) (fun _ _ ⟨H', I', q⟩ => ⟨H', I'.unwish, q⟩) fun _ _ z => False.elim z
theorem PSs.nox {st : List Stmt} {t : TS} (h : PSs X.nox st t) : PSs X st t := fun pins s σ H D I hw =>
  wpAny_mono (h pins s σ H D (I.wish _) hw) (fun _ _ q => q.unwish) fun _ _ z => False.elim z
end
section
variable {X : Cx} {st : Stmt} {rest : List Stmt} {t u : TS} {e : Expr} {te : TE} {pos : Pos}
def tNext : TS := fun D σ H => D.nx σ H
def tSeq (t u : TS) : TS := fun D σ H => t { D with nx := u D } σ H
theorem pss_nil : PSs X [] tNext := fun _ _ σ H _ I h => wpAny_execs_nil ⟨σ, H, I, h⟩
theorem pss_cons (h1 : PS X st t) (h2 : PSs X rest u) : PSs X (st :: rest) (tSeq t u) := by
  intro pins s σ H D I h
  refine wpAny_execs_cons (thn (h1 pins s σ H { D with nx := u D } I h) fun f s1 q => ?_)
  cases f with
  | next =>
    obtain ⟨σ', H', I', q⟩ := q
    exact h2 pins s1 σ' H' D I' q
  | ret v => exact q
  | brk => exact q
  | cont => exact q
theorem pss_one (h1 : PS X st t) : PSs X [st] t := by
  intro pins s σ H D I h
  refine wpAny_execs_cons (thn (h1 pins s σ H D I h) fun f s1 q => ?_)
  cases f with
  | next => exact wpAny_execs_nil q
  | ret v => exact q
  | brk => exact q
  | cont => exact q
theorem Inv.quiet {pins : List (Addr × Obj)} {σ : St} {H : Hp} {s : Shared} (I : Inv X pins σ H s) : interactive X.env = false := by simp [interactive, I.ok.kind]
def tDrop (te : TE) : TS := fun D σ H => te σ H fun _ H1 => D.nx σ H1
theorem ps_expr (he : PE X e te) (hs : swapsWith e none pos.line X.env = pure false := by rfl) : PS X (.Expr e pos) (tDrop te) := by
  intro pins s σ H D I h
  exact wpAny_Expr_any (thn (he pins s σ H _ I h) fun v s1 ⟨x, H1, I1, r1, q1⟩ => ⟨σ, H1, I1, q1⟩) I.quiet hs
def tRet (te : TE) : TS := fun D σ H => te σ H D.rt
theorem ps_ret (he : PE X e te) : PS X (.Return (some e) pos) (tRet te) := by
  intro pins s σ H D I h
  exact wpAny_Return_some (thn (he pins s σ H _ I h) fun v s1 ⟨x, H1, I1, r1, q1⟩ => ⟨x, σ, H1, I1, r1, q1⟩)
def tIfS (c : TT) (t u : TS) : TS := fun D σ H => c σ H fun b H1 => if b = true then t D σ H1 else u D σ H1
theorem ps_if {c : Expr} {a b : List Stmt} {tc : TT} (hc : PT X c tc) (ha : PSs X a t) (hb : PSs X b u) : PS X (.If c a b pos) (tIfS tc t u) := by
  intro pins s σ H D I h
  refine wpAny_If (thn (hc pins s σ H _ I h) fun d s1 ⟨H1, I1, q1⟩ => ?_)
  cases d with
  | true => exact ha pins s1 σ H1 D I1 q1
  | false => exact hb pins s1 σ H1 D I1 q1
end
abbrev TG := V → St → Hp → (St → Hp → Prop) → Prop
abbrev TGs := List V → St → Hp → (St → Hp → Prop) → Prop
def PG (X : Cx) (target : Expr) (t : TG) : Prop :=
  ∀ (pins : List (Addr × Obj)) (s : Shared) (σ : St) (H : Hp) (v : V) (u : Value) (Q : St → Hp → Prop), Inv X pins σ H s → RelV v u → t v σ H Q →
    wpAny (model X.prog X.w) X.A (assign target X.env u) (fun _ s' => ∃ σ' H', Inv X pins σ' H' s' ∧ Q σ' H') X.xe s
def PGs (X : Cx) (ts : List Expr) (t : TGs) : Prop :=
  ∀ (pins : List (Addr × Obj)) (s : Shared) (σ : St) (H : Hp) (vs : List V) (us : List Value) (Q : St → Hp → Prop), Inv X pins σ H s → Vals vs us → t vs σ H Q →
    wpAny (model X.prog X.w) X.A (assignInOrder ((assignEach ts X.env).map (·.2)) us) (fun _ s' => ∃ σ' H', Inv X pins σ' H' s' ∧ Q σ' H') X.xe s
section
variable {X : Cx} {pos : Pos}
def gName (i : Nat) : TG := fun v σ H Q => Q (σ.set i (some v)) H
theorem pg_name {i : Nat} {x : Str} (hN : X.N.Nodup) (hi : X.N[i]? = some x) (hx : Loc X.env.scope x) (hf : X.fn x = true ∨ X.env.scope.names.lookup x = some .local := by first | exact .inl rfl | exact .inr rfl | assumption) : PG X (.Name x pos) (gName i) := by
  intro pins s σ H v u Q I r h
  exact wpAny_assign_Name (store_ok I hN hi hx r (fun s' I' => ⟨_, H, I', h⟩) hf)
def gNil : TGs := fun vs σ H Q => vs = [] ∧ Q σ H
def gCons (t : TG) (u : TGs) : TGs := fun vs σ H Q => ∃ v r, vs = v :: r ∧ t v σ H fun σ' H' => u r σ' H' Q
theorem pgs_nil : PGs X [] gNil := by
  intro pins s σ H vs us Q I r h
  obtain ⟨e, h⟩ := h
  subst e
  cases r
  exact assignInOrder_nil ⟨σ, H, I, h⟩
theorem pgs_cons {e : Expr} {es : List Expr} {t : TG} {u : TGs} (h1 : PG X e t) (h2 : PGs X es u)
    (hs : (assignEach (e :: es) X.env).map (·.2) = assign e X.env :: (assignEach es X.env).map (·.2) := by rfl) : PGs X (e :: es) (gCons t u) := by
  intro pins s σ H vs us Q I r h
  obtain ⟨v, vr, e1, h⟩ := h
  subst e1
  cases r with
  | cons r rr =>
    rw [hs]
    refine assignInOrder_cons (thn (h1 pins s σ H _ _ _ I r h) fun _ s1 ⟨σ1, H1, I1, q1⟩ => ?_)
    exact h2 pins s1 σ1 H1 _ _ Q I1 rr q1
def gTup (K : PySem.W.Frag) (n : Nat) (t : TGs) : TG := fun v σ H Q => ∃ a xs, v = .ref a ∧ SqT K H a xs ∧ xs.length = n ∧ t xs σ H Q
theorem pg_tup {es : List Expr} {k : Nat} {t : TGs} {n : Nat} (hc : X.calm = true) (h : PGs X es t)
    (hn : (assignEach es X.env).length = n := by rfl) (hst : (assignEach es X.env).findIdx? (·.1) = none := by rfl) : PG X (.Tuple es k pos) (gTup X.K n t) := by
  intro pins s σ H v u Q I r hw
  obtain ⟨a, xs, e1, hq, hl, hw⟩ := hw
  subst e1
  cases r
  obtain ⟨its, rv, ht, hz⟩ := I.tuple hq
  refine assign_Tuple_tuple (I.ok.hd hc) ht (by simp [hn, ← hl, rv.length]) hst fun h' hx => ?_
  have I1 : Inv X pins σ H { s with heap := h' } := I.kept (t' := s.toks) fun b o e => hx b o (Nat.ne_of_lt (Heap.lt_size e)) e
  exact h pins _ σ H xs _ Q I1 (by simpa using rv) hw
def tAsg (te : TE) (g : TG) : TS := fun D σ H => te σ H fun x H1 => g x σ H1 D.nx
theorem ps_asg {tg e : Expr} {te : TE} {g : TG} (he : PE X e te) (hg : PG X tg g) (hs : swapsWithSole [tg] e pos.line X.env = pure false := by rfl) (hw : swappedStores [tg] e X.env = pure none := by rfl)
    (h1 : (assignEach [tg] X.env).map (·.2) = [assign tg X.env] := by rfl) : PS X (.Assign [tg] e pos) (tAsg te g) := by
  intro pins s σ H D I h
  refine wpAny_Assign_stores (thn (he pins s σ H _ I h) fun v s1 ⟨x, H1, I1, r1, q1⟩ => ?_) hs hw
  rw [h1]
  exact thn (hg pins s1 σ H1 x v _ I1 r1 q1) fun _ s2 q => q
theorem ps_set {i : Nat} {x : Str} {e : Expr} {te : TE} {pos' : Pos} (hN : X.N.Nodup) (hi : X.N[i]? = some x) (hx : Loc X.env.scope x) (he : PE X e te) (hs : swapsWith e (some (.Name x pos')) pos.line X.env = pure false := by rfl) (hf : X.fn x = true ∨ X.env.scope.names.lookup x = some .local := by first | exact .inl rfl | exact .inr rfl | assumption) :
    PS X (.Assign [.Name x pos'] e pos) (tAsg te (gName i)) := by
  intro pins s σ H D I h
  refine wpAny_Assign_Name (thn (he pins s σ H _ I h) fun v s1 ⟨y, H1, I1, r1, q1⟩ => ?_) hs
  exact store_ok I1 hN hi hx r1 (fun s2 I2 => ⟨_, H1, I2, q1⟩) hf
end
section
variable {X : Cx} {pos : Pos}
def tWhile (c : TT) (tb : TS) : TS := fun D σ H => ∃ W : Nat → St → Hp → Prop, (∃ m, W m σ H) ∧ ∀ m σ H, W m σ H →
  c σ H fun b H1 => if b = true then ∃ N : St → Hp → Prop, (∀ σ' H', N σ' H' → ∃ m', m' < m ∧ W m' σ' H') ∧ tb { D with nx := N, ct := N, bk := D.nx } σ H1 else D.nx σ H1
theorem ps_while {c : Expr} {body : List Stmt} {tc : TT} {tb : TS} (hp : PassesOwn (model X.prog X.w) X.A X.env X.xe) (hc : PT X c tc) (hb : PSs X body tb) : PS X (.While c body [] pos) (tWhile tc tb) := by
  intro pins s σ H D I h
  obtain ⟨W, ⟨m0, w0⟩, turn⟩ := h
  refine wpAny_While (codeAny_whileLoop (fun n s' => ∃ σ' H', Inv X pins σ' H' s' ∧ W n σ' H') ?_ m0 ⟨σ, H, I, w0⟩)
  rintro n s1 ⟨σ1, H1, I1, w1⟩
  refine wpAny_passesOwn hp (thn (hc pins s1 σ1 H1 _ I1 (turn n σ1 H1 w1)) fun b s2 ⟨H2, I2, q2⟩ => ?_)
  cases b with
  | true =>
    obtain ⟨N, hN, q2⟩ := q2
    rw [if_pos rfl]
    refine wpAny_passesOwn hp (thn (hb pins s2 σ1 H2 _ I2 q2) fun f s3 q3 => ?_)
    cases f with
    | next =>
      obtain ⟨σ3, H3, I3, n3⟩ := q3
      obtain ⟨m', hm, w3⟩ := hN σ3 H3 n3
      exact ⟨m', hm, σ3, H3, I3, w3⟩
    | cont =>
      obtain ⟨σ3, H3, I3, n3⟩ := q3
      obtain ⟨m', hm, w3⟩ := hN σ3 H3 n3
      exact ⟨m', hm, σ3, H3, I3, w3⟩
    | brk => exact q3
    | ret v => exact q3
  | false =>
    rw [if_neg Bool.false_ne_true]
    exact wpAny_execs_nil ⟨σ1, H2, I2, q2⟩
end
structure It where
  go : Nat → Hp → Prop
  yld : Nat → Hp → V → Hp → Prop
  stop : Nat → Hp → Prop
def FpOk (X : Cx) (pins : List (Addr × Obj)) (H : Hp) (b : Addr) : Prop :=
  H b = none ∧ b ≠ X.env.locals ∧ b ∉ X.fs ∧ (b ∈ X.ex ∨ X.s₀.heap.objs.size ≤ b) ∧ (∀ x c, X.env.cells.lookup x = some c → c ≠ b) ∧ ∀ p ∈ X.pn ++ pins, p.1 ≠ b
theorem Inv.fpOk {X : Cx} {pins : List (Addr × Obj)} {σ : St} {H H' : Hp} {s : Shared} {b : Addr} (I : Inv X pins σ H s) (hb : s.heap.objs.size ≤ b) (hn : H' b = none) : FpOk X pins H' b := by
  refine ⟨hn, Nat.ne_of_gt (Nat.lt_of_lt_of_le I.lt hb), I.nofs hb, .inr (Nat.le_trans I.sz hb), fun x c e z => ?_, fun p hp z => ?_⟩
  · obtain ⟨v, q⟩ := I.cell x c e
    exact absurd (Nat.lt_of_lt_of_le q.lt (by rw [z]; exact hb)) (Nat.lt_irrefl _)
  · exact absurd (Nat.lt_of_lt_of_le (Heap.lt_size (I.pin p hp).1) (by rw [z]; exact hb)) (Nat.lt_irrefl _)
structure Turn (P : Program) (w : World) (K : PySem.W.Frag) (tg : Expr) (J : It) (fp : List Addr) (it : Addr) (tn : Nat → Heap → Prop) : Prop where
  mem : it ∈ fp
  obj : ∀ i h, tn i h → ∀ b ∈ fp, ∃ o, h.get? b = some o ∧ ∀ v, o.data ≠ .cell v
  keep : ∀ i h h', tn i h → (∀ b ∈ fp, ∀ o, h.get? b = some o → h'.get? b = some o) → tn i h'
  item : ∀ (X : Cx), X.prog = P → X.w = w → X.K = K → X.calm = true → ∀ (i : Nat) (pins : List (Addr × Obj)) (s : Shared) (σ : St) (H : Hp) (E : Value → Shared → Prop), Inv X pins σ H s → (∀ b ∈ fp, FpOk X pins H b) → tn i s.heap → J.go i H →
    wpAny (model P w) X.A (pyNext (.ref it)) (fun r s1 => ∃ u, r = some u ∧
      wpAny (model P w) X.A (letOwnedTupleGo tg (.ref it) u) (fun _ s2 => ∃ x H', Inv X pins σ H' s2 ∧ RelV x u ∧ J.yld i H x H' ∧ tn (i + 1) s2.heap ∧ ∀ b ∈ fp, H' b = none) E s1) E s
  done : ∀ (X : Cx), X.prog = P → X.w = w → X.K = K → X.calm = true → ∀ (i : Nat) (pins : List (Addr × Obj)) (s : Shared) (σ : St) (H : Hp) (E : Value → Shared → Prop), Inv X pins σ H s → (∀ b ∈ fp, FpOk X pins H b) → tn i s.heap → J.stop i H →
    wpAny (model P w) X.A (pyNext (.ref it)) (fun r s1 => r = none ∧ Inv X pins σ H s1) E s
  self : ∀ (A : Around) (i : Nat) (s : Shared) (Q : Value → Shared → Prop) (E : Value → Shared → Prop), tn i s.heap → Q (.ref it) s → wpAny (model P w) A (pyIter (.ref it)) Q E s
abbrev TI := St → Hp → (It → Hp → Prop) → Prop
def PIE (X : Cx) (pins : List (Addr × Obj)) (σ : St) (tg : Expr) (R : It → Hp → Prop) (itv : Value) (s2 : Shared) : Prop :=
  ∃ (it : Addr) (fp : List Addr) (tn : Nat → Heap → Prop) (J : It) (H' : Hp), itv = .ref it ∧ Inv X pins σ H' s2 ∧ Turn X.prog X.w X.K tg J fp it tn ∧ tn 0 s2.heap ∧ (∀ b ∈ fp, FpOk X pins H' b) ∧ R J H'
def PI (X : Cx) (tg iter : Expr) (wi : TI) : Prop :=
  ∀ (pins : List (Addr × Obj)) (s : Shared) (σ : St) (H : Hp) (R : It → Hp → Prop), Inv X pins σ H s → wi σ H R →
    wpAny (model X.prog X.w) X.A (eval iter X.env) (fun v s1 => wpAny (model X.prog X.w) X.A (pyIter v) (PIE X pins σ tg R) X.xe s1) X.xe s
theorem go_of {M : Model} {A : Around} {E : Value → Shared → Prop} {s : Shared} {tg : Expr} {it : Addr} {u : Value} {o : Obj} {n : String} {vs : Array Value} {Q : Unit → Shared → Prop} (ho : s.heap.get? it = some o) (hc : o.cls = .type n) (hd : o.data = .fields vs)
    (hn : ["enumerate", "zip", "dict_itemiterator", "dict_reverseitemiterator", "odict_iterator", "itertools.zip_longest", "itertools.pairwise"].contains n = false) (hQ : Q () s) : wpAny M A (letOwnedTupleGo tg (.ref it) u) Q E s := by
  unfold letOwnedTupleGo
  cases tg <;> first
    | exact wpAny_pure hQ
    | (cases u <;> first
        | exact wpAny_pure hQ
        | (refine wpAny_bind (wpAny_load ho ?_)
           rw [hc, hd]
           show wpAny M A (if (["enumerate", "zip", "dict_itemiterator", "dict_reverseitemiterator", "odict_iterator", "itertools.zip_longest", "itertools.pairwise"].contains n && vs[0]? == some (rawInt _)) = true then _ else _) Q E s
           rw [if_neg (by intro h; rw [hn, Bool.false_and] at h; cases h)]
           exact wpAny_pure hQ))
def Itl (K : PySem.W.Frag) (a : Addr) : It :=
  ⟨fun i H => ∃ xs x, SqL K H a xs ∧ xs[i]? = some x, fun i H x H' => H' = H ∧ ∀ xs, SqL K H a xs → xs[i]? = some x, fun i H => ∃ xs, SqL K H a xs ∧ xs.length ≤ i⟩
def Itt (K : PySem.W.Frag) (a : Addr) : It :=
  ⟨fun i H => ∃ xs x, SqT K H a xs ∧ xs[i]? = some x, fun i H x H' => H' = H ∧ ∀ xs, SqT K H a xs → xs[i]? = some x, fun i H => ∃ xs, SqT K H a xs ∧ xs.length ≤ i⟩
def Itr (lo : Int) (n : Nat) : It := ⟨fun i _ => i < n, fun i H x H' => H' = H ∧ x = .int (lo + i), fun i _ => n ≤ i⟩
theorem turn_list {P : Program} {w : World} {K : PySem.W.Frag} {tg : Expr} (a it : Addr) : Turn P w K tg (Itl K a) [it] it (fun i h => h.IsListIter it a i) where
  mem := by simp
  obj := fun i h st b hb => by
    have e : b = it := by simpa using hb
    subst e
    obtain ⟨o, e, c, d⟩ := st
    exact ⟨o, e, fun v z => by rw [d] at z; cases z⟩
  keep := fun i h h' st k => st.at fun o e => k it (by simp) o e
  item := by
    intro X hP hw hK hc i pins s σ H E I hf st hg
    subst hP hw hK
    obtain ⟨xs, x, hq, hx⟩ := hg
    obtain ⟨its, rv, p, hz⟩ := I.list hq
    obtain ⟨u, hu, ru⟩ := rv.get hx
    obtain ⟨f0, f1, f2, f3, f4, f5⟩ := hf it (by simp)
    refine wpAny_pyNext_list_item st p.isList (x := u) (by simpa using hu) fun h' st' sb => ?_
    have I1 : Inv X pins σ H { s with heap := h' } := I.turned (t' := s.toks) (fun b o hb e => (sb.2 b hb).trans e) f0 f1 f3 f4 f5
    obtain ⟨o, e, c, d⟩ := id st'
    exact ⟨u, rfl, go_of (s := { s with heap := h' }) e c d (by decide) ⟨x, H, I1, ru, ⟨rfl, fun ys hy => by rw [I.list_inj hy hq]; exact hx⟩, st', fun b hb => (hf b hb).1⟩⟩
  done := by
    intro X hP hw hK hc i pins s σ H E I hf st hg
    subst hP hw hK
    obtain ⟨xs, hq, hx⟩ := hg
    obtain ⟨its, rv, p, hz⟩ := I.list hq
    obtain ⟨f0, f1, f2, f3, f4, f5⟩ := hf it (by simp)
    have hl := rv.length
    exact wpAny_pyNext_list_end (I.ok.hd hc) st p.isList (by simp; omega) fun h' eb => ⟨rfl, I.turned (t' := s.toks) (fun b o hb e => eb b o hb e) f0 f1 f3 f4 f5⟩
  self := fun _ _ _ _ _ st h => wpAny_pyIter_listiter st h
theorem turn_tuple {P : Program} {w : World} {K : PySem.W.Frag} {tg : Expr} (a it : Addr) : Turn P w K tg (Itt K a) [it] it (fun i h => h.IsTupleIter it a i) where
  mem := by simp
  obj := fun i h st b hb => by
    have e : b = it := by simpa using hb
    subst e
    obtain ⟨o, e, c, d⟩ := st
    exact ⟨o, e, fun v z => by rw [d] at z; cases z⟩
  keep := fun i h h' st k => st.at fun o e => k it (by simp) o e
  item := by
    intro X hP hw hK hc i pins s σ H E I hf st hg
    subst hP hw hK
    obtain ⟨xs, x, hq, hx⟩ := hg
    obtain ⟨its, rv, p, hz⟩ := I.tuple hq
    obtain ⟨u, hu, ru⟩ := rv.get hx
    obtain ⟨f0, f1, f2, f3, f4, f5⟩ := hf it (by simp)
    refine wpAny_pyNext_tuple_item st (show s.heap.IsTuple a its.toArray from p) (x := u) (by simpa using hu) fun h' st' sb => ?_
    have I1 : Inv X pins σ H { s with heap := h' } := I.turned (t' := s.toks) (fun b o hb e => (sb.2 b hb).trans e) f0 f1 f3 f4 f5
    obtain ⟨o, e, c, d⟩ := id st'
    exact ⟨u, rfl, go_of (s := { s with heap := h' }) e c d (by decide) ⟨x, H, I1, ru, ⟨rfl, fun ys hy => by rw [I.tuple_inj hy hq]; exact hx⟩, st', fun b hb => (hf b hb).1⟩⟩
  done := by
    intro X hP hw hK hc i pins s σ H E I hf st hg
    subst hP hw hK
    obtain ⟨xs, hq, hx⟩ := hg
    obtain ⟨its, rv, p, hz⟩ := I.tuple hq
    obtain ⟨f0, f1, f2, f3, f4, f5⟩ := hf it (by simp)
    have hl := rv.length
    exact wpAny_pyNext_tuple_end (I.ok.hd hc) st (show s.heap.IsTuple a its.toArray from p) (by simp; omega) fun h' eb => ⟨rfl, I.turned (t' := s.toks) (fun b o hb e => eb b o hb e) f0 f1 f3 f4 f5⟩
  self := fun _ _ _ _ _ st h => wpAny_pyIter_tupleiter st h
theorem turn_range {P : Program} {w : World} {K : PySem.W.Frag} {tg : Expr} (it : Addr) (lo : Int) (n : Nat) : Turn P w K tg (Itr lo n) [it] it (fun i h => IsRangeIter h it (lo + (i : Nat) * 1) ((n : Int) - (i : Nat)) 1) where
  mem := by simp
  obj := fun i h st b hb => by
    have e : b = it := by simpa using hb
    subst e
    exact ⟨_, st, fun v z => by
      have z' : Data.fields _ = Data.cell v := z
      cases z'⟩
  keep := fun i h h' st k => k it (by simp) _ st
  item := by
    intro X hP hw hK hc i pins s σ H E I hf st hg
    subst hP hw hK
    obtain ⟨f0, f1, f2, f3, f4, f5⟩ := hf it (by simp)
    have W := Walks.range (prog := X.prog) (w := X.w) (I.ok.hd hc) it lo 1 n
    refine W.item i s _ _ hg st fun v h' tk hv st' kk => ?_
    obtain ⟨t, rfl⟩ := hv
    have I1 : Inv X pins σ H { s with heap := h', toks := tk } := I.turned (fun b o hb e => kk b o (by simpa using hb) e) f0 f1 f3 f4 f5
    refine ⟨_, rfl, go_of (s := { s with heap := h', toks := tk }) (n := "range_iterator") st' rfl rfl (by decide) ⟨.int (lo + i), H, I1, ⟨t, ?_⟩, ⟨rfl, rfl⟩, st', fun b hb => (hf b hb).1⟩⟩
    rw [Int.mul_one]
  done := by
    intro X hP hw hK hc i pins s σ H E I hf st hg
    subst hP hw hK
    obtain ⟨f0, f1, f2, f3, f4, f5⟩ := hf it (by simp)
    exact wpAny_pyNext_range_end (I.ok.hd hc) st (by have : n ≤ i := hg; omega) fun h' eb => ⟨rfl, I.turned (t' := s.toks) (fun b o hb e => eb b o hb e) f0 f1 f3 f4 f5⟩
  self := fun _ _ _ _ _ st h => wpAny_pyIter_rangeiter st h
end L2
namespace L2
open PySem PySem.Spec PyProof.Rows
section
variable {X : Cx} {tg : Expr}
def iList (K : PySem.W.Frag) (tl : TE) : TI := fun σ H R => tl σ H fun x H1 => ∃ a, x = .ref a ∧ (∃ xs, SqL K H1 a xs) ∧ R (Itl K a) H1
def iTup (K : PySem.W.Frag) (tl : TE) : TI := fun σ H R => tl σ H fun x H1 => ∃ a, x = .ref a ∧ (∃ xs, SqT K H1 a xs) ∧ R (Itt K a) H1
theorem pi_list {l : Expr} {tl : TE} (hl : PE X l tl) : PI X tg l (iList X.K tl) := by
  intro pins s σ H R I h
  refine thn (hl pins s σ H _ I h) fun v s1 ⟨x, H1, I1, r1, q1⟩ => ?_
  obtain ⟨a, e, ⟨xs, hq⟩, q⟩ := q1
  subst e
  cases r1
  obtain ⟨its, rv, p, hz⟩ := I1.list hq
  refine wpAny_pyIter_list p.isList ?_
  refine ⟨s1.heap.objs.size, [s1.heap.objs.size], _, _, H1, rfl, I1.kept (t' := s1.toks) fun b o e => Heap.get?_push_of_some _ e, turn_list a _, ⟨_, Heap.get?_push_size _ rfl, rfl, rfl⟩, fun b hb => ?_, q⟩
  have e : b = s1.heap.objs.size := by simpa using hb
  subst e
  exact I1.fpOk (Nat.le_refl _) (I1.hok.fresh (Nat.le_refl _))
theorem pi_tup {l : Expr} {tl : TE} (hl : PE X l tl) : PI X tg l (iTup X.K tl) := by
  intro pins s σ H R I h
  refine thn (hl pins s σ H _ I h) fun v s1 ⟨x, H1, I1, r1, q1⟩ => ?_
  obtain ⟨a, e, ⟨xs, hq⟩, q⟩ := q1
  subst e
  cases r1
  obtain ⟨its, rv, p, hz⟩ := I1.tuple hq
  refine wpAny_pyIter_tuple (show s1.heap.IsTuple a its.toArray from p) ?_
  refine ⟨s1.heap.objs.size, [s1.heap.objs.size], _, _, H1, rfl, I1.kept (t' := s1.toks) fun b o e => Heap.get?_push_of_some _ e, turn_tuple a _, ⟨_, Heap.get?_push_size _ rfl, rfl, rfl⟩, fun b hb => ?_, q⟩
  have e : b = s1.heap.objs.size := by simpa using hb
  subst e
  exact I1.fpOk (Nat.le_refl _) (I1.hok.fresh (Nat.le_refl _))
theorem range_it {pins : List (Addr × Obj)} {σ : St} {H : Hp} {s : Shared} {R : It → Hp → Prop} {E : Value → Shared → Prop} {lo hi : Int} {t u v : Tok} {tk : Nat} (I : Inv X pins σ H s) (h1 : -(2 ^ 62) ≤ lo) (h2 : lo < 2 ^ 62) (h3 : -(2 ^ 62) ≤ hi) (h4 : hi < 2 ^ 62)
    (q : R (Itr lo (hi - lo).toNat) H) : wpAny (model X.prog X.w) X.A (pyIter (.ref s.heap.objs.size)) (PIE X pins σ tg R) E { s with heap := s.heap.push { cls := .type "range", data := .fields #[.int lo t, .int hi u, .int 1 v] }, toks := tk } := by
  refine wpAny_pyIter_range (IsRange.new ..) (small_one h1 h2 h3 h4) ?_
  have I1 : Inv X pins σ H { s with heap := s.heap.push { cls := .type "range", data := .fields #[.int lo t, .int hi u, .int 1 v] }, toks := tk } := I.kept fun b o e => Heap.get?_push_of_some _ e
  refine ⟨(s.heap.push { cls := .type "range", data := .fields #[.int lo t, .int hi u, .int 1 v] }).objs.size, [(s.heap.push { cls := .type "range", data := .fields #[.int lo t, .int hi u, .int 1 v] }).objs.size], _, _, H, rfl,
    I1.kept (t' := tk) fun b o e => Heap.get?_push_of_some _ e, turn_range _ lo (hi - lo).toNat, ?_, fun b hb => ?_, q⟩
  · have e1 : lo + ((0 : Nat) : Int) * 1 = lo := by simp
    have e2 : (((hi - lo).toNat : Nat) : Int) - ((0 : Nat) : Int) = Builtin.Range.rangeSize lo hi 1 := by rw [rangeSize_one]; split <;> omega
    show IsRangeIter _ _ (lo + ((0 : Nat) : Int) * 1) ((((hi - lo).toNat : Nat) : Int) - ((0 : Nat) : Int)) 1
    rw [e1, e2]
    exact Heap.get?_push_size _ rfl
  · have e : b = (s.heap.push { cls := .type "range", data := .fields #[.int lo t, .int hi u, .int 1 v] }).objs.size := by simpa using hb
    subst e
    exact I1.fpOk (Nat.le_refl _) (I1.hok.fresh (Nat.le_refl _))
def iRng1 (ta : TA) : TI := fun σ H R => ta σ H fun vs H1 => ∃ j : Int, vs = [.int j] ∧ -(2 ^ 62) ≤ j ∧ j < 2 ^ 62 ∧ R (Itr 0 j.toNat) H1
theorem pi_range1 {a : Expr} {ta : TA} {p pos : Pos} (hg : Gl X "range") (hm : X.mg "range" = none) (ha : PA X [a] ta) (hs : starEach [a] X.env = [(false, eval a X.env)] := by rfl) : PI X tg (.Call (.Name "range" p) [a] [] pos) (iRng1 ta) := by
  intro pins s σ H R I h
  refine Call_ (ld_blt I hg hm boot_range (PyProof.Rows.callWith_type1 (thn (ha pos pins s σ H _ I h) fun us s1 ⟨vs, H1, I1, r1, q1⟩ => ?_) hs rfl))
  obtain ⟨j, e, q1, q2, q⟩ := q1
  subst e
  cases r1 with
  | cons r rr =>
    cases rr
    obtain ⟨t, rfl⟩ := r
    exact call_range_1 (range_it I1 (by omega) (by omega) q1 q2 (by simpa using q))
def tFor (wi : TI) (g : TG) (tb : TS) : TS := fun D σ H => wi σ H fun J H1 => ∃ W : Nat → Nat → St → Hp → Prop, (∃ m, W 0 m σ H1) ∧ ∀ i m σ H, W i m σ H →
  (J.stop i H ∧ D.nx σ H) ∨ (J.go i H ∧ ∃ N : St → Hp → Prop, (∀ σ' H', N σ' H' → ∃ m', m' < m ∧ W (i + 1) m' σ' H') ∧ ∀ x H', J.yld i H x H' → g x σ H' fun σ2 H2 => tb { D with nx := N, ct := N, bk := D.nx } σ2 H2)
def pinsAt (fp : List Addr) (h : Heap) : List (Addr × Obj) := fp.filterMap fun b => (h.get? b).map fun o => (b, o)
theorem mem_pinsAt {fp : List Addr} {h : Heap} {b : Addr} {o : Obj} (hb : b ∈ fp) (e : h.get? b = some o) : (b, o) ∈ pinsAt fp h := List.mem_filterMap.mpr ⟨b, hb, by rw [e]; rfl⟩
theorem of_pinsAt {fp : List Addr} {h : Heap} {p : Addr × Obj} (hp : p ∈ pinsAt fp h) : p.1 ∈ fp ∧ h.get? p.1 = some p.2 := by
  obtain ⟨b, hb, e⟩ := List.mem_filterMap.mp hp
  cases q : h.get? b with
  | none => rw [q] at e; cases e
  | some o =>
    rw [q] at e
    have e' : (b, o) = p := Option.some.inj e
    subst e'
    exact ⟨hb, q⟩
theorem Inv.pinned {pins : List (Addr × Obj)} {σ : St} {H : Hp} {s : Shared} {fp : List Addr} (I : Inv X pins σ H s) (hf : ∀ b ∈ fp, FpOk X pins H b) (ho : ∀ b ∈ fp, ∃ o, s.heap.get? b = some o ∧ ∀ v, o.data ≠ .cell v) : Inv X (pins ++ pinsAt fp s.heap) σ H s :=
  I.pins_of fun p hp => (List.mem_append.mp hp).elim (fun z => I.pin p (List.mem_append_right _ z)) fun z => by
    obtain ⟨hb, e⟩ := of_pinsAt z
    obtain ⟨f0, f1, f2, _⟩ := hf p.1 hb
    obtain ⟨o, e', d⟩ := ho p.1 hb
    rw [e] at e'; cases e'
    exact ⟨e, f0, f1, f2, d⟩
theorem Inv.unpinned {pins pl : List (Addr × Obj)} {σ : St} {H : Hp} {s : Shared} (I : Inv X (pins ++ pl) σ H s) : Inv X pins σ H s := I.pins_of fun p hp => I.pin p (List.mem_append_right _ (List.mem_append_left _ hp))
theorem ps_for {iter : Expr} {body : List Stmt} {wi : TI} {g : TG} {tb : TS} {pos : Pos} (hp : PassesOwn (model X.prog X.w) X.A X.env X.xe) (hc : X.calm = true) (hi : PI X tg iter wi) (hg : PG X tg g) (hb : PSs X body tb)
    (hs : ∀ x, foldedSetIterable iter X.env x = pure x := by intro _; rfl) : PS X (.For tg iter body [] pos) (tFor wi g tb) := by
  intro pins s σ H D I h
  refine wpAny_For (thn (hi pins s σ H _ I h) fun v s1 h1 => thn h1 fun itv s2 h2 => ?_) hs
  obtain ⟨it, fp, tn, J, H2, e, I2, T, st2, f2, W, ⟨m0, w0⟩, turn⟩ := h2
  subst e
  have stat : ∀ {H' : Hp}, (∀ b ∈ fp, H' b = none) → ∀ b ∈ fp, FpOk X pins H' b := fun hn b hb => ⟨hn b hb, (f2 b hb).2⟩
  refine codeAny_forLoop_any (fun n s' => ∃ i σ' H', Inv X pins σ' H' s' ∧ tn i s'.heap ∧ (∀ b ∈ fp, H' b = none) ∧ W i n σ' H') ?_ m0 ⟨0, σ, H2, I2, st2, fun b hb => (f2 b hb).1, w0⟩
  rintro n s3 ⟨i, σ3, H3, I3, st3, fr3, w3⟩
  rcases turn i n σ3 H3 w3 with ⟨stop, qn⟩ | ⟨go, N, hN, step⟩
  · refine wpAny_passesOwn hp (thn (T.done X rfl rfl rfl hc i pins s3 σ3 H3 X.xe I3 (stat fr3) st3 stop) fun r s4 ⟨hr, I4⟩ => ?_)
    subst hr
    exact wpAny_execs_nil ⟨σ3, H3, I4, qn⟩
  · refine wpAny_passesOwn hp (thn (T.item X rfl rfl rfl hc i pins s3 σ3 H3 X.xe I3 (stat fr3) st3 go) fun r s4 ⟨u, hr, h4⟩ => ?_)
    subst hr
    refine wpAny_passesOwn hp (thn h4 fun _ s5 ⟨x, H5, I5, r5, y5, st5, fr5⟩ => ?_)
    have I5' := I5.pinned (stat fr5) (T.obj _ _ st5)
    refine wpAny_passesOwn hp (thn (hg _ s5 σ3 H5 x u _ I5' r5 (step x H5 y5)) fun _ s6 ⟨σ6, H6, I6, q6⟩ => ?_)
    refine wpAny_passesOwn hp (thn (hb _ s6 σ6 H6 _ I6 q6) fun f s7 q7 => ?_)
    have again : ∀ {σ7 : St} {H7 : Hp}, Inv X (pins ++ pinsAt fp s5.heap) σ7 H7 s7 → N σ7 H7 → ∃ m, m < n ∧ ∃ i σ' H', Inv X pins σ' H' s7 ∧ tn i s7.heap ∧ (∀ b ∈ fp, H' b = none) ∧ W i m σ' H' := fun {σ7 H7} I7 n7 => by
      obtain ⟨m', hm, w7⟩ := hN σ7 H7 n7
      refine ⟨m', hm, i + 1, σ7, H7, I7.unpinned, T.keep _ _ _ st5 fun b hb o e => (I7.pin (b, o) (List.mem_append_right _ (List.mem_append_right _ (mem_pinsAt hb e)))).1, fun b hb => ?_, w7⟩
      obtain ⟨o, e, d⟩ := T.obj _ _ st5 b hb
      exact (I7.pin (b, o) (List.mem_append_right _ (List.mem_append_right _ (mem_pinsAt hb e)))).2.1
    cases f with
    | next => obtain ⟨σ7, H7, I7, n7⟩ := q7; exact again I7 n7
    | cont => obtain ⟨σ7, H7, I7, n7⟩ := q7; exact again I7 n7
    | brk => obtain ⟨σ7, H7, I7, q7⟩ := q7; exact ⟨σ7, H7, I7.unpinned, q7⟩
    | ret v => obtain ⟨x7, σ7, H7, I7, r7, q7⟩ := q7; exact ⟨x7, σ7, H7, I7.unpinned, r7, q7⟩
end
theorem for_list {K : PySem.W.Frag} {a : Addr} {xs : List V} {g : TG} {tb : TS} {D : Ends} {σ : St} {H : Hp} (Pv : Nat → St → Hp → Prop) (h0 : Pv 0 σ H) (hl : ∀ i σ H, i ≤ xs.length → Pv i σ H → SqL K H a xs)
    (hs : ∀ i x σ H, xs[i]? = some x → Pv i σ H → g x σ H fun σ2 H2 => tb { D with nx := Pv (i + 1), ct := Pv (i + 1), bk := D.nx } σ2 H2) (hd : ∀ σ H, Pv xs.length σ H → D.nx σ H) :
    ∃ W : Nat → Nat → St → Hp → Prop, (∃ m, W 0 m σ H) ∧ ∀ i m σ H, W i m σ H →
      ((Itl K a).stop i H ∧ D.nx σ H) ∨ ((Itl K a).go i H ∧ ∃ N : St → Hp → Prop, (∀ σ' H', N σ' H' → ∃ m', m' < m ∧ W (i + 1) m' σ' H') ∧ ∀ x H', (Itl K a).yld i H x H' → g x σ H' fun σ2 H2 => tb { D with nx := N, ct := N, bk := D.nx } σ2 H2) := by
  refine ⟨fun i m σ H => m = xs.length - i ∧ i ≤ xs.length ∧ Pv i σ H, ⟨xs.length, by simp, Nat.zero_le _, h0⟩, ?_⟩
  rintro i m σ H ⟨rfl, hi, p⟩
  have q := hl i σ H hi p
  by_cases hlt : i < xs.length
  · refine .inr ⟨⟨xs, xs[i], q, by simp [hlt]⟩, Pv (i + 1), fun σ' H' p' => ⟨xs.length - (i + 1), by omega, rfl, hlt, p'⟩, fun x H' y => ?_⟩
    obtain ⟨e, y⟩ := y
    subst e
    exact hs i x σ _ (y xs q) p
  · have e : i = xs.length := by omega
    subst e
    exact .inl ⟨⟨xs, q, Nat.le_refl _⟩, hd σ H p⟩
theorem for_range {lo : Int} {n : Nat} {g : TG} {tb : TS} {D : Ends} {σ : St} {H : Hp} (Pv : Nat → St → Hp → Prop) (h0 : Pv 0 σ H)
    (hs : ∀ i σ H, i < n → Pv i σ H → g (.int (lo + i)) σ H fun σ2 H2 => tb { D with nx := Pv (i + 1), ct := Pv (i + 1), bk := D.nx } σ2 H2) (hd : ∀ σ H, Pv n σ H → D.nx σ H) :
    ∃ W : Nat → Nat → St → Hp → Prop, (∃ m, W 0 m σ H) ∧ ∀ i m σ H, W i m σ H →
      ((Itr lo n).stop i H ∧ D.nx σ H) ∨ ((Itr lo n).go i H ∧ ∃ N : St → Hp → Prop, (∀ σ' H', N σ' H' → ∃ m', m' < m ∧ W (i + 1) m' σ' H') ∧ ∀ x H', (Itr lo n).yld i H x H' → g x σ H' fun σ2 H2 => tb { D with nx := N, ct := N, bk := D.nx } σ2 H2) := by
  refine ⟨fun i m σ H => m = n - i ∧ i ≤ n ∧ Pv i σ H, ⟨n, by simp, Nat.zero_le _, h0⟩, ?_⟩
  rintro i m σ H ⟨rfl, hi, p⟩
  by_cases hlt : i < n
  · refine .inr ⟨hlt, Pv (i + 1), fun σ' H' p' => ⟨n - (i + 1), by omega, rfl, hlt, p'⟩, fun x H' y => ?_⟩
    obtain ⟨e, y⟩ := y
    subst e y
    exact hs i σ _ hlt p
  · have e : i = n := by omega
    subst e
    exact .inl ⟨Nat.le_refl _, hd σ H p⟩
end L2
namespace L2
open PySem PySem.Spec PyProof.Rows
abbrev R2 := V → V → Hp → VK → Prop
def OpR (X : Cx) (f : Value → Value → Sem Value) (r : R2) : Prop :=
  ∀ (pins : List (Addr × Obj)) (s : Shared) (σ : St) (H : Hp) (x y : V) (v u : Value) (Q : VK), Inv X pins σ H s → RelV x v → RelV y u → r x y H Q →
    wpAny (model X.prog X.w) X.A (f v u) (EP X pins σ Q) X.xe s
def UnR (X : Cx) (f : Value → Sem Value) (r : V → Hp → VK → Prop) : Prop :=
  ∀ (pins : List (Addr × Obj)) (s : Shared) (σ : St) (H : Hp) (x : V) (v : Value) (Q : VK), Inv X pins σ H s → RelV x v → r x H Q →
    wpAny (model X.prog X.w) X.A (f v) (EP X pins σ Q) X.xe s
def CallR (X : Cx) (f : Value) (r : List V → Hp → VK → Prop) : Prop :=
  ∀ (pins : List (Addr × Obj)) (s : Shared) (σ : St) (H : Hp) (xs : List V) (us : List Value) (Q : VK), Inv X pins σ H s → Vals xs us → r xs H Q →
    wpAny (model X.prog X.w) X.A (call f us) (EP X pins σ Q) X.xe s
def TruR (X : Cx) (r : V → Hp → (Bool → Hp → Prop) → Prop) : Prop :=
  ∀ (pins : List (Addr × Obj)) (s : Shared) (σ : St) (H : Hp) (x : V) (v : Value) (Q : Bool → Hp → Prop), Inv X pins σ H s → RelV x v → r x H Q →
    wpAny (model X.prog X.w) X.A (truthy v) (TP X pins σ Q) X.xe s
def tOp (r : R2) (ta tb : TE) : TE := fun σ H Q => ta σ H fun x H1 => tb σ H1 fun y H2 => r x y H2 Q
def tUn (r : V → Hp → VK → Prop) (ta : TE) : TE := fun σ H Q => ta σ H fun x H1 => r x H1 Q
def rI (C : Int → Int → Prop) (g : Int → Int → V) : R2 := fun x y H Q => ∃ i j, x = .int i ∧ y = .int j ∧ C i j ∧ Q (g i j) H
def rI0 (g : Int → Int → V) : R2 := fun x y H Q => ∃ i j, x = .int i ∧ y = .int j ∧ Q (g i j) H
def rU (g : Int → V) : V → Hp → VK → Prop := fun x H Q => ∃ i, x = .int i ∧ Q (g i) H
section
variable {X : Cx} {a b c : Expr} {ta tb tc : TE} {pos : Pos}
theorem binT (ha : PE X a ta) (hb : PE X b tb) {pins : List (Addr × Obj)} {s : Shared} {σ : St} {H : Hp} {R : V → V → Hp → Prop} (I : Inv X pins σ H s)
    (h : ta σ H fun x H1 => tb σ H1 fun y H2 => R x y H2) {Q : Value → Shared → Prop} {f : Value → Value → Sem Value}
    (hf : ∀ v u s2 x y H2, Inv X pins σ H2 s2 → RelV x v → RelV y u → R x y H2 → wpAny (model X.prog X.w) X.A (f v u) Q X.xe s2) :
    wpAny (model X.prog X.w) X.A (eval a X.env) (fun v s₁ => wpAny (model X.prog X.w) X.A (eval b X.env) (fun u s₂ => wpAny (model X.prog X.w) X.A (f v u) Q X.xe s₂) X.xe s₁) X.xe s := by
  refine thn (ha pins s σ H _ I h) fun v s1 ⟨x, H1, I1, r1, q1⟩ => ?_
  refine thn (hb pins s1 σ H1 _ I1 q1) fun u s2 ⟨y, H2, I2, r2, q2⟩ => ?_
  exact hf v u s2 x y H2 I2 r1 r2 q2
theorem pe_op {op : Operator} {r : R2} (ho : OpR X (binaryOp op) r) (ha : PE X a ta) (hb : PE X b tb) : PE X (.BinOp a op b pos) (tOp r ta tb) := by
  intro pins s σ H Q I h
  exact wpAny_BinOp (binT ha hb I h fun v u s2 x y H2 I2 rx ry q => ho pins s2 σ H2 x y v u Q I2 rx ry q)
theorem pe_un {op : UnaryOp} {r : V → Hp → VK → Prop} (ho : UnR X (unaryOp op) r) (ha : PE X a ta) : PE X (.UnaryOp op a pos) (tUn r ta) := by
  intro pins s σ H Q I h
  exact UnaryOp_ (thn (ha pins s σ H _ I h) fun v s1 ⟨x, H1, I1, r1, q1⟩ => ho pins s1 σ H1 x v Q I1 r1 q1)
theorem opI {f : Value → Value → Sem Value} {C : Int → Int → Prop} {g : Int → Int → Int}
    (rule : ∀ (i j : Int) (t u : Tok) (s : Shared) (Q : Value → Shared → Prop) (E : Value → Shared → Prop), C i j → Q (.int (g i j) s.toks) { s with toks := s.toks + 1 } → wpAny (model X.prog X.w) X.A (f (.int i t) (.int j u)) Q E s) :
    OpR X f (rI C fun i j => .int (g i j)) := by
  intro pins s σ H x y v u Q I rx ry h
  obtain ⟨i, j, rfl, rfl, hc, q⟩ := h
  obtain ⟨t, rfl⟩ := rx
  obtain ⟨t', rfl⟩ := ry
  exact rule i j t t' s _ _ hc ⟨.int (g i j), H, I.tok _, ⟨_, rfl⟩, q⟩
theorem opI0 {f : Value → Value → Sem Value} {g : Int → Int → Int}
    (rule : ∀ (i j : Int) (t u : Tok) (s : Shared) (Q : Value → Shared → Prop) (E : Value → Shared → Prop), Q (.int (g i j) s.toks) { s with toks := s.toks + 1 } → wpAny (model X.prog X.w) X.A (f (.int i t) (.int j u)) Q E s) :
    OpR X f (rI0 fun i j => .int (g i j)) := by
  intro pins s σ H x y v u Q I rx ry h
  obtain ⟨i, j, rfl, rfl, q⟩ := h
  obtain ⟨t, rfl⟩ := rx
  obtain ⟨t', rfl⟩ := ry
  exact rule i j t t' s _ _ ⟨.int (g i j), H, I.tok _, ⟨_, rfl⟩, q⟩
theorem opB0 {f : Value → Value → Sem Value} {g : Int → Int → Bool}
    (rule : ∀ (i j : Int) (t u : Tok) (s : Shared) (Q : Value → Shared → Prop) (E : Value → Shared → Prop), Q (.bool (g i j)) s → wpAny (model X.prog X.w) X.A (f (.int i t) (.int j u)) Q E s) :
    OpR X f (rI0 fun i j => .bl (g i j)) := by
  intro pins s σ H x y v u Q I rx ry h
  obtain ⟨i, j, rfl, rfl, q⟩ := h
  obtain ⟨t, rfl⟩ := rx
  obtain ⟨t', rfl⟩ := ry
  exact rule i j t t' s _ _ ⟨.bl (g i j), H, I, rfl, q⟩
def CDiv (i j : Int) : Prop := 0 < j ∧ j < 1073741824
def CPow (i j : Int) : Prop := 0 ≤ j ∧ j ≤ 1000000 ∧ i.natAbs < 2 ^ 64
def CMul (i j : Int) : Prop := (-(2 ^ 64) < i ∧ i < 2 ^ 64) ∨ (-(2 ^ 64) < j ∧ j < 2 ^ 64)
theorem CMul.ok {i j : Int} (h : CMul i j) : IntMulOk i j := by
  rcases h with ⟨h1, h2⟩ | ⟨h1, h2⟩
  · exact .of_left (intBits_le_64 h1 h2)
  · exact .of_right (intBits_le_64 h1 h2)
theorem op_add : OpR X (binaryOp .Add) (rI0 fun i j => .int (i + j)) := opI0 fun _ _ _ _ _ _ _ q => add_int q
theorem op_sub : OpR X (binaryOp .Sub) (rI0 fun i j => .int (i - j)) := opI0 fun _ _ _ _ _ _ _ q => sub_int q
theorem op_mul : OpR X (binaryOp .Mult) (rI CMul fun i j => .int (i * j)) := opI fun _ _ _ _ _ _ _ hc q => mul_int q hc.ok
theorem op_fdiv : OpR X (binaryOp .FloorDiv) (rI CDiv fun i j => .int (i / j)) := opI fun i j _ _ _ _ _ hc q => by
  have h1 : (0 : Int) < j := hc.1
  have h2 : j < 1073741824 := hc.2
  exact floordiv_int (by omega) (by rw [Int.fdiv_eq_ediv_of_nonneg i (by omega)]; exact q) (.inl (PyProof.noPylong_small (by omega)))
theorem op_mod : OpR X (binaryOp .Mod) (rI (fun _ j => 0 < j) fun i j => .int (i % j)) := opI fun i j _ _ _ _ _ hc q => by
  have h1 : (0 : Int) < j := hc
  exact mod_int' (by omega) (by rw [Int.fmod_eq_emod_of_nonneg i (by omega)]; exact q)
theorem op_pow : OpR X (binaryOp .Pow) (rI CPow fun i j => .int (i ^ j.toNat)) := opI fun _ _ _ _ _ _ _ hc q => pow_int_small hc.1 hc.2.1 hc.2.2 q
end
def scal : V → V → Bool
  | .non, .non => true | .non, .int _ => true | .int _, .non => true | .non, .bl _ => true | .bl _, .non => true | .non, .str _ => true | .str _, .non => true
  | .int _, .int _ => true | .bl _, .bl _ => true | .str _, .str _ => true | .byt _, .byt _ => true
  | .int _, .str _ => true | .str _, .int _ => true | .bl _, .str _ => true | .str _, .bl _ => true
  | _, _ => false
def rEq : R2 := fun x y H Q => scal x y = true ∧ Q (.bl (decide (x = y))) H
def rNe : R2 := fun x y H Q => scal x y = true ∧ Q (.bl (!decide (x = y))) H
theorem dec_int {i j : Int} : decide (V.int i = V.int j) = (i == j) := by
  rw [Bool.eq_iff_iff]
  simp
theorem dec_bl {i j : Bool} : decide (V.bl i = V.bl j) = (i == j) := by
  rw [Bool.eq_iff_iff]
  simp
theorem dec_str {i j : Str} : decide (V.str i = V.str j) = (i == j) := by
  rw [Bool.eq_iff_iff]
  simp
theorem dec_byt {i j : Array UInt8} : decide (V.byt i = V.byt j) = (i.toList == j.toList) := by
  rw [Bool.eq_iff_iff]
  cases i
  cases j
  simp
section
variable {X : Cx} {a b c : Expr} {ta tb tc : TE} {pos : Pos}
theorem fin_bl {pins : List (Addr × Obj)} {σ : St} {H : Hp} {s : Shared} {Q : VK} {k k' : Bool} (I : Inv X pins σ H s) (q : Q (.bl k) H) (e : k = k') : EP X pins σ Q (.bool k') s := by
  subst e
  exact ⟨.bl k, H, I, rfl, q⟩
theorem op_eq : OpR X (compareOp .Eq) rEq := by
  intro pins s σ H x y v u Q I rx ry h
  obtain ⟨hs, q⟩ := h
  cases x with
  | non =>
    cases rx
    cases y with
    | non => cases ry; exact PySem.EqNone.eq_none_none (fin_bl I q (by simp))
    | bl j => cases ry; exact PySem.EqNone.eq_none_bool (fin_bl I q (by simp))
    | int j => obtain ⟨t', rfl⟩ := ry; exact PySem.EqNone.eq_none_int (fin_bl I q (by simp))
    | str j => obtain ⟨t', rfl⟩ := ry; exact PySem.EqNone.eq_none_str (fin_bl I q (by simp))
    | _ => exact absurd (show false = true from hs) Bool.false_ne_true
  | bl i =>
    cases rx
    cases y with
    | non => cases ry; exact PySem.EqNone.eq_bool_none (fin_bl I q (by simp))
    | bl j => cases ry; exact eq_bool (fin_bl I q dec_bl)
    | str j => obtain ⟨t', rfl⟩ := ry; exact PySem.EqMixed.eq_bool_str (fin_bl I q (by simp))
    | _ => exact absurd (show false = true from hs) Bool.false_ne_true
  | int i =>
    obtain ⟨t, rfl⟩ := rx
    cases y with
    | non => cases ry; exact PySem.EqNone.eq_int_none (fin_bl I q (by simp))
    | int j => obtain ⟨t', rfl⟩ := ry; exact eq_int (fin_bl I q dec_int)
    | str j => obtain ⟨t', rfl⟩ := ry; exact PySem.EqMixed.eq_int_str (fin_bl I q (by simp))
    | _ => exact absurd (show false = true from hs) Bool.false_ne_true
  | str i =>
    obtain ⟨t, rfl⟩ := rx
    cases y with
    | non => cases ry; exact PySem.EqNone.eq_str_none (fin_bl I q (by simp))
    | bl j => cases ry; exact PySem.EqMixed.eq_str_bool (fin_bl I q (by simp))
    | int j => obtain ⟨t', rfl⟩ := ry; exact PySem.EqMixed.eq_str_int (fin_bl I q (by simp))
    | str j => obtain ⟨t', rfl⟩ := ry; exact eq_str (fin_bl I q dec_str)
    | _ => exact absurd (show false = true from hs) Bool.false_ne_true
  | byt i =>
    obtain ⟨t, rfl⟩ := rx
    cases y with
    | byt j => obtain ⟨t', rfl⟩ := ry; exact PySem.W.eq_bytes (fin_bl I q dec_byt)
    | _ => exact absurd (show false = true from hs) Bool.false_ne_true
  | _ => cases y <;> exact absurd (show false = true from hs) Bool.false_ne_true
theorem op_ne : OpR X (compareOp .NotEq) rNe := by
  intro pins s σ H x y v u Q I rx ry h
  obtain ⟨hs, q⟩ := h
  cases x with
  | non =>
    cases rx
    cases y with
    | non => cases ry; exact PySem.EqNone.ne_none_none (fin_bl I q (by simp))
    | bl j => cases ry; exact PySem.EqNone.ne_none_bool (fin_bl I q (by simp))
    | int j => obtain ⟨t', rfl⟩ := ry; exact PySem.EqNone.ne_none_int (fin_bl I q (by simp))
    | str j => obtain ⟨t', rfl⟩ := ry; exact PySem.EqNone.ne_none_str (fin_bl I q (by simp))
    | _ => exact absurd (show false = true from hs) Bool.false_ne_true
  | bl i =>
    cases rx
    cases y with
    | non => cases ry; exact PySem.EqNone.ne_bool_none (fin_bl I q (by simp))
    | bl j => cases ry; exact ne_bool (fin_bl I q (congrArg not dec_bl))
    | str j => obtain ⟨t', rfl⟩ := ry; exact PySem.EqMixed.ne_bool_str (fin_bl I q (by simp))
    | _ => exact absurd (show false = true from hs) Bool.false_ne_true
  | int i =>
    obtain ⟨t, rfl⟩ := rx
    cases y with
    | non => cases ry; exact PySem.EqNone.ne_int_none (fin_bl I q (by simp))
    | int j => obtain ⟨t', rfl⟩ := ry; exact ne_int (fin_bl I q (congrArg not dec_int))
    | str j => obtain ⟨t', rfl⟩ := ry; exact PySem.EqMixed.ne_int_str (fin_bl I q (by simp))
    | _ => exact absurd (show false = true from hs) Bool.false_ne_true
  | str i =>
    obtain ⟨t, rfl⟩ := rx
    cases y with
    | non => cases ry; exact PySem.EqNone.ne_str_none (fin_bl I q (by simp))
    | bl j => cases ry; exact PySem.EqMixed.ne_str_bool (fin_bl I q (by simp))
    | int j => obtain ⟨t', rfl⟩ := ry; exact PySem.EqMixed.ne_str_int (fin_bl I q (by simp))
    | str j => obtain ⟨t', rfl⟩ := ry; exact ne_str (fin_bl I q (congrArg not dec_str))
    | _ => exact absurd (show false = true from hs) Bool.false_ne_true
  | byt i =>
    obtain ⟨t, rfl⟩ := rx
    cases y with
    | byt j => obtain ⟨t', rfl⟩ := ry; exact PySem.W.ne_bytes (fin_bl I q (congrArg not dec_byt))
    | _ => exact absurd (show false = true from hs) Bool.false_ne_true
  | _ => cases y <;> exact absurd (show false = true from hs) Bool.false_ne_true
theorem op_lt : OpR X (compareOp .Lt) (rI0 fun i j => .bl (decide (i < j))) := opB0 fun _ _ _ _ _ _ _ q => lt_int q
theorem op_le : OpR X (compareOp .LtE) (rI0 fun i j => .bl (decide (i ≤ j))) := opB0 fun _ _ _ _ _ _ _ q => le_int q
theorem op_gt : OpR X (compareOp .Gt) (rI0 fun i j => .bl (decide (j < i))) := opB0 fun _ _ _ _ _ _ _ q => gt_int q
theorem op_ge : OpR X (compareOp .GtE) (rI0 fun i j => .bl (decide (j ≤ i))) := opB0 fun _ _ _ _ _ _ _ q => ge_int q
theorem op_isN : OpR X (compareOp .Is) (fun x y H Q => y = .non ∧ Q (.bl (decide (x = .non))) H) := by
  intro pins s σ H x y v u Q I rx ry h
  obtain ⟨rfl, q⟩ := h
  cases ry
  refine is_none_gen (fin_bl I q ?_)
  cases x <;> first
    | (cases rx; rfl)
    | (obtain ⟨t, rfl⟩ := rx; rfl)
theorem op_notN : OpR X (compareOp .IsNot) (fun x y H Q => y = .non ∧ Q (.bl (!decide (x = .non))) H) := by
  intro pins s σ H x y v u Q I rx ry h
  obtain ⟨rfl, q⟩ := h
  cases ry
  refine isnot_none_gen (fin_bl I q ?_)
  cases x <;> first
    | (cases rx; rfl)
    | (obtain ⟨t, rfl⟩ := rx; rfl)
theorem nomark (b : Expr) {op : CmpOp} (h : op ≠ .In := by decide) (h2 : op ≠ .NotIn := by decide) : behindInMarks op b = false := by
  have e1 : (op == CmpOp.In) = false := by cases op <;> first | rfl | exact absurd rfl h
  have e2 : (op == CmpOp.NotIn) = false := by cases op <;> first | rfl | exact absurd rfl h2
  cases b <;> simp [behindInMarks, e1, e2]
theorem pe_cmpR {op : CmpOp} {r : R2} (ho : OpR X (compareOp op) r) (ha : PE X a ta) (hb : PE X b tb) (hm : behindInMarks op b = false) : PE X (.Compare a [op] [b] pos) (tOp r ta tb) := by
  intro pins s σ H Q I h
  exact wpAny_Compare1 (binT ha hb I h fun v u s2 x y H2 I2 rx ry q => ho pins s2 σ H2 x y v u Q I2 rx ry q) hm
def tTest (t : TE) : TT := fun σ H Q => t σ H fun x H' => ∃ k, x = .bl k ∧ Q k H'
theorem pt_cmpR {op : CmpOp} {r : R2} (ho : OpR X (compareOp op) r) (ha : PE X a ta) (hb : PE X b tb) (hm : behindInMarks op b = false) : PT X (.Compare a [op] [b] pos) (tTest (tOp r ta tb)) := by
  intro pins s σ H Q I h
  refine wpAny_isTrue_Compare1 (thn (ha pins s σ H _ I h) fun v s1 ⟨x, H1, I1, r1, q1⟩ => thn (hb pins s1 σ H1 _ I1 q1) fun u s2 ⟨y, H2, I2, r2, q2⟩ =>
    thn (ho pins s2 σ H2 x y v u _ I2 r1 r2 q2) fun c s3 ⟨z, H3, I3, r3, k, e, q3⟩ => ?_) hm
  subst e
  cases r3
  exact wpAny_truthy_bool ⟨H3, I3, q3⟩
def tChain (r r' : R2) (ta tb tc : TE) : TE := fun σ H Q => ta σ H fun x H1 => tb σ H1 fun y H2 => r x y H2 fun z H3 => ∃ k, z = .bl k ∧
  (if k = true then tc σ H3 fun w' H4 => r' y w' H4 Q else Q (.bl false) H3)
theorem pe_chain {op op' : CmpOp} {r r' : R2} (ho : OpR X (compareOp op) r) (ho' : OpR X (compareOp op') r') (ha : PE X a ta) (hb : PE X b tb) (hc : PE X c tc)
    (hm : lastMarks [op, op'] [b, c] = false := by with_unfolding_all rfl) : PE X (.Compare a [op, op'] [b, c] pos) (tChain r r' ta tb tc) := by
  intro pins s σ H Q I h
  refine Compare_chain (thn (ha pins s σ H _ I h) fun v s1 ⟨x, H1, I1, r1, q1⟩ => chain_link (thn (hb pins s1 σ H1 _ I1 q1) fun u s2 ⟨y, H2, I2, r2, q2⟩ =>
    thn (ho pins s2 σ H2 x y v u _ I2 r1 r2 q2) fun d s3 ⟨z, H3, I3, r3, k, e, q3⟩ => ?_)) hm
  subst e
  cases r3
  refine wpAny_truthy_bool ?_
  cases k with
  | false => exact ite_ff ⟨.bl false, H3, I3, rfl, q3⟩
  | true => exact ite_tt (chain_last (thn (hc pins s3 σ H3 _ I3 q3) fun w' s4 ⟨z', H4, I4, r4, q4⟩ => ho' pins s4 σ H4 y z' u w' Q I4 r2 r4 q4))
theorem pt_chain {op op' : CmpOp} {r r' : R2} (ho : OpR X (compareOp op) r) (ho' : OpR X (compareOp op') r') (ha : PE X a ta) (hb : PE X b tb) (hc : PE X c tc)
    (hm : lastMarks [op, op'] [b, c] = false := by with_unfolding_all rfl) : PT X (.Compare a [op, op'] [b, c] pos) (tTest (tChain r r' ta tb tc)) := by
  intro pins s σ H Q I h
  refine isTrue_chain (thn (ha pins s σ H _ I h) fun v s1 ⟨x, H1, I1, r1, q1⟩ => test_link (thn (hb pins s1 σ H1 _ I1 q1) fun u s2 ⟨y, H2, I2, r2, q2⟩ =>
    thn (ho pins s2 σ H2 x y v u _ I2 r1 r2 q2) fun d s3 ⟨z, H3, I3, r3, k, e, q3⟩ => ?_)) hm
  subst e
  cases r3
  refine wpAny_truthy_bool ?_
  cases k with
  | false =>
    obtain ⟨k', e', q'⟩ := q3
    cases e'
    exact ite_ff ⟨H3, I3, q'⟩
  | true =>
    refine ite_tt (test_last (thn (hc pins s3 σ H3 _ I3 q3) fun w' s4 ⟨z', H4, I4, r4, q4⟩ => thn (ho' pins s4 σ H4 y z' u w' _ I4 r2 r4 q4) fun d' s5 ⟨z2, H5, I5, r5, k2, e2, q5⟩ => ?_))
    subst e2
    cases r5
    exact wpAny_truthy_bool ⟨H5, I5, q5⟩
def TruV (K : PySem.W.Frag) (x : V) (H : Hp) (k : Bool) : Prop :=
  match x with
  | .non => k = false
  | .bl b => k = b
  | .int i => k = (i != 0)
  | .str y => y.length ≤ sizeLine ∧ k = ((y.length : Int) != 0)
  | .byt y => y.size ≤ sizeLine ∧ k = ((y.size : Int) != 0)
  | .ref p => (∃ xs, SqL K H p xs ∧ k = !xs.isEmpty) ∨ (∃ xs, SqT K H p xs ∧ k = !xs.isEmpty) ∨ ∃ kvs, H p = some (.dK kvs) ∧ k = !kvs.isEmpty
  | _ => False
theorem line63 : (sizeLine : Nat) < 2 ^ 63 := by rw [sizeLine_eq]; decide
theorem vals1 {x : V} {us : List Value} (r : Vals [x] us) : ∃ u, us = [u] ∧ RelV x u := by
  cases r with
  | cons r1 r2 => cases r2; exact ⟨_, rfl, r1⟩
theorem vals2 {x y : V} {us : List Value} (r : Vals [x, y] us) : ∃ u w', us = [u, w'] ∧ RelV x u ∧ RelV y w' := by
  cases r with
  | cons r1 r2 =>
    cases r2 with
    | cons r3 r4 => cases r4; exact ⟨_, _, rfl, r1, r3⟩
theorem call_max2 (hc : X.calm = true) : CallR X (.builtin "max") (fun xs H Q => ∃ i j, xs = [.int i, .int j] ∧ Q (.int (if j > i then j else i)) H) := by
  intro pins s σ H xs us Q I r h
  obtain ⟨i, j, rfl, q⟩ := h
  obtain ⟨u, w', rfl, ⟨t, rfl⟩, ⟨t', rfl⟩⟩ := vals2 r
  refine max_two_ints (I.ok.hd hc) fun h' tk k => ⟨_, H, I.kept k, ?_, q⟩
  by_cases hj : j > i
  · rw [if_pos hj, if_pos hj]; exact ⟨_, rfl⟩
  · rw [if_neg hj, if_neg hj]; exact ⟨_, rfl⟩
theorem call_min2 (hc : X.calm = true) : CallR X (.builtin "min") (fun xs H Q => ∃ i j, xs = [.int i, .int j] ∧ Q (.int (if j < i then j else i)) H) := by
  intro pins s σ H xs us Q I r h
  obtain ⟨i, j, rfl, q⟩ := h
  obtain ⟨u, w', rfl, ⟨t, rfl⟩, ⟨t', rfl⟩⟩ := vals2 r
  refine min_two_ints (I.ok.hd hc) fun h' tk k => ⟨_, H, I.kept k, ?_, q⟩
  by_cases hj : j < i
  · rw [if_pos hj, if_pos hj]; exact ⟨_, rfl⟩
  · rw [if_neg hj, if_neg hj]; exact ⟨_, rfl⟩
def LenV (K : PySem.W.Frag) (x : V) (H : Hp) (n : Nat) : Prop :=
  match x with
  | .str y => y.length ≤ sizeLine ∧ n = y.length
  | .byt y => y.size ≤ sizeLine ∧ n = y.size
  | .ref p => (∃ xs, SqL K H p xs ∧ n = xs.length) ∨ ∃ xs, SqT K H p xs ∧ n = xs.length
  | _ => False
theorem call_len : CallR X (.builtin "len") (fun xs H Q => ∃ x n, xs = [x] ∧ LenV X.K x H n ∧ Q (.int n) H) := by
  intro pins s σ H xs us Q I r h
  obtain ⟨x, n, rfl, e, q⟩ := h
  obtain ⟨u, rfl, rx⟩ := vals1 r
  have hl := line63
  have hs : sizeLine = 16777216 := sizeLine_eq
  cases x with
  | str y =>
    obtain ⟨t, rfl⟩ := rx
    obtain ⟨hy, e'⟩ : y.length ≤ sizeLine ∧ n = y.length := e
    subst e'
    exact len_str (by omega) ⟨.int _, H, I.tok _, ⟨_, rfl⟩, q⟩
  | byt y =>
    obtain ⟨t, rfl⟩ := rx
    obtain ⟨hy, e'⟩ : y.size ≤ sizeLine ∧ n = y.size := e
    subst e'
    exact PySem.W.len_bytes (by omega) ⟨.int _, H, I.tok _, ⟨_, rfl⟩, q⟩
  | ref p =>
    cases rx
    have e' : (∃ xs, SqL X.K H p xs ∧ n = xs.length) ∨ ∃ xs, SqT X.K H p xs ∧ n = xs.length := e
    rcases e' with ⟨xs, hx, e'⟩ | ⟨xs, hx, e'⟩
    · subst e'
      obtain ⟨its, r', pl, hz⟩ := I.list hx
      have hlen := r'.length
      exact Calls.call_len_list pl.isList (by simp only [List.size_toArray]; omega) ⟨.int xs.length, H, I.tok _, ⟨_, by simp only [List.size_toArray]; rw [hlen]⟩, q⟩
    · subst e'
      obtain ⟨its, r', pl, hz⟩ := I.tuple hx
      have hlen := r'.length
      exact len_tuple pl (by simp only [List.size_toArray]; omega) ⟨.int xs.length, H, I.tok _, ⟨_, by simp only [List.size_toArray]; rw [hlen]⟩, q⟩
  | _ => exact (show False from e).elim
end
end L2
namespace L2
open PySem PySem.Spec PyProof.Rows
structure ObjM (h : Heap) (x dx C : Addr) (mA : Str → Option Value) : Prop where
  obj : h.get? x = some (PySem.W.instObj C dx)
  ns : h.Ns1 dx mA
  ne : dx ≠ x
theorem lookIn_ns {h : Heap} {dx : Addr} {mA : Str → Option Value} (n : h.Ns1 dx mA) : ∃ od, h.get? dx = some od ∧ ∀ name, PySem.W.lookIn name od = some (mA name) := by
  obtain ⟨o, es, ep, ho, hd, hk, _, hm⟩ := n
  refine ⟨o, ho, fun name => ?_⟩
  have e := hm name
  unfold nsFind findBy at e
  rw [← Array.find?_toList] at e
  unfold PySem.W.lookIn
  rw [hd]
  dsimp only
  split
  · rename_i y q
    rw [q] at e
    exact congrArg some e
  · rename_i q
    rw [q] at e
    have a : es.toList.any (·.refKey) = false := by
      rw [List.any_eq_false]
      intro y hy
      obtain ⟨z, t, hkey⟩ := hk y (Array.mem_toList_iff.mp hy)
      simp [DictEntry.refKey, hkey]
    have a' : ¬ es.toList.any (·.refKey) = true := by rw [a]; exact Bool.false_ne_true
    rw [if_neg a']
    exact congrArg some e
theorem ObjM.look {h : Heap} {x dx C : Addr} {mA : Str → Option Value} (I : ObjM h x dx C mA) : ∃ od, PySem.W.InstAt h x (PySem.W.instObj C dx) C (some od) ∧ ∀ name, PySem.W.lookIn name od = some (mA name) :=
  let ⟨od, ho, hl⟩ := lookIn_ns I.ns
  ⟨od, ⟨I.obj, rfl, rfl, ho⟩, hl⟩
section
variable {prog : Program} {w : World} {A : Around} {E : Value → Shared → Prop} {s : Shared} {K : PySem.W.Frag} {x dx C f : Addr} {mA : Str → Option Value} {name : Str} {v : Value}
theorem get_map {expr : Bool} {Q : Value → Shared → Prop} (X : K.In s.heap) (I : ObjM s.heap x dx C mA) (hg : PySem.W.plainGet K C name = true) (hh : PySem.W.hasDictIn K C = true)
    (ha : PySem.W.findIn K (.ref C) name = some none) (hv : mA name = some v) (hv' : PySem.W.handedIn v = true) (h : Q v { s with toks := s.toks + 1 }) :
    wpAny (model prog w) A (getAttr (.ref x) name expr) Q E s := by
  obtain ⟨od, J, hl⟩ := I.look
  exact PySem.W.get_value X J (PySem.W.plainGet_of hg).1 (PySem.W.findObj_own hh ha rfl (by rw [hl, hv])) hv' h
theorem get_meth {pl : Sem Bool} {Q : Value × List Value → Shared → Prop} (X : K.In s.heap) (I : ObjM s.heap x dx C mA) (hg : PySem.W.plainGet K C name = true)
    (hf : PySem.W.findIn K (.ref C) name = some (some (.ref f))) (ht : PySem.W.isFn K (.ref f) = true) (hv : mA name = none) (h : Q (.ref f, [.ref x]) s) :
    wpAny (model prog w) A (getMethod (.ref x) name pl) Q E s := by
  obtain ⟨od, J, hl⟩ := I.look
  exact PySem.W.method_fn X J (PySem.W.plainGet_of hg).1 (PySem.W.plainGet_of hg).2 hf (beq_iff_eq.mp ht) (by show (PySem.W.lookIn name od).map (·.isSome) = some false; rw [hl, hv]; rfl) h
theorem set_map {ns : List Str} {Q : Unit → Shared → Prop} (X : K.In s.heap) (I : ObjM s.heap x dx C mA)
    (hs : PySem.W.findIn K (.ref C) "__setattr__" = some (some (.builtin "object.__setattr__"))) (hp : PySem.W.plainOver K C = true) (ht : PySem.W.takerIn K C name = some none) (hh : PySem.W.hasDictIn K C = true)
    (hw : PySem.Within mA ns) (hsz : ns.length ≤ sizeLine)
    (h : ∀ h', ObjM h' x dx C (fun y => if y = name then some v else mA y) → Heap.SameBut dx s.heap h' → Q () { s with heap := h', toks := s.toks + 2 }) :
    wpAny (model prog w) A (setAttr (.ref x) name v) Q E s := by
  obtain ⟨od, J, hl⟩ := I.look
  refine PySem.W.set_plain X J hs (PySem.W.osa_open (s := { s with toks := s.toks + 1 }) (r := none) X J hp ht fun b => ?_)
  obtain ⟨cd, hc, hd'⟩ := PySem.W.any_some hh
  have hx : s.heap.get? x = some ⟨.ref C, some dx, .plain, #[]⟩ := I.obj
  refine wpAny_bind (wpAny_pure (wpAny_bind (wpAny_bind (wpAny_loadPart hx (wpAny_bind (PySem.W.Looks.here (s := { s with toks := s.toks + 1 }) (PySem.W.looks_clsIn X hc) ?_))))))
  rw [hd']
  refine wpAny_pure (a := some dx) (wpAny_bind (wpAny_pure (wpAny_bind ?_)))
  refine wpAny_nsSet1 (s := { s with toks := s.toks + 1 }) I.ns fun h' hn2 hs2 => ?_
  obtain ⟨oD, esD, epD, hoD, hdD, hcD⟩ := hn2.count (PySem.Within.cons name v hw)
  refine wpAny_bind (wpAny_lookBehind hoD (by rw [hdD]; exact pastItsLine_dict (Nat.le_trans hcD (by rw [List.length_cons]; omega))) ?_)
  exact wpAny_pure (h _ ⟨(hs2.2 _ (Ne.symm I.ne)).trans I.obj, hn2, I.ne⟩ hs2)
theorem make_map {R : Result → Shared → Prop} {vs : List Value} {kw : List (Str × Value)} (X : K.In s.heap) (hm : PySem.W.makesIn K C = true)
    (hi : PySem.W.findIn K (.ref C) "__init__" = some (some (.ref f))) (hf : PySem.W.typeIn K (.ref f) = some (.type "function"))
    (h : codeAny (model prog w) (A.under (.builtin "type.__call__" ⟨.ref C :: vs, kw⟩)) (.call (.ref f) ⟨.ref (s.heap.objs.size + 1) :: vs, kw⟩) (PySem.W.InitBack (s.heap.objs.size + 1) R)
      { s with heap := (s.heap.push PySem.W.emptyDict).push (PySem.W.instObj C s.heap.objs.size) }) :
    codeAny (model prog w) A (.call (.ref C) ⟨vs, kw⟩) R s := by
  obtain ⟨hh, g, d, t, os⟩ := s
  exact PySem.W.make_core (PySem.W.makes_of X hm) (PySem.W.looks_findIn X hi) (fun self => PySem.W.bind_fn X self hf) (.inl rfl) h
end
def putF (f : Str) (v : V) : List (Str × V) → List (Str × V)
  | [] => [(f, v)]
  | (g, x) :: r => if g = f then (g, v) :: r else (g, x) :: putF f v r
theorem lookup_putF (f g : Str) (v : V) : ∀ fs : List (Str × V), (putF f v fs).lookup g = if g = f then some v else fs.lookup g
  | [] => by
    show List.lookup g [(f, v)] = _
    by_cases h : g = f
    · have hb : (g == f) = true := beq_iff_eq.mpr h
      simp only [List.lookup, hb, if_pos h]
    · have hb : (g == f) = false := beq_eq_false_iff_ne.mpr h
      simp only [List.lookup, hb, if_neg h]
  | (k, x) :: r => by
    have ih := lookup_putF f g v r
    rw [show putF f v ((k, x) :: r) = (if k = f then (k, v) :: r else (k, x) :: putF f v r) from rfl]
    by_cases hk : k = f
    · rw [if_pos hk]
      by_cases h : g = k
      · have hb : (g == k) = true := beq_iff_eq.mpr h
        simp only [List.lookup, hb, if_pos (h.trans hk)]
      · have hb : (g == k) = false := beq_eq_false_iff_ne.mpr h
        simp only [List.lookup, hb, if_neg (fun e : g = f => h (e.trans hk.symm))]
    · rw [if_neg hk]
      by_cases h : g = k
      · have hb : (g == k) = true := beq_iff_eq.mpr h
        simp only [List.lookup, hb, if_neg (fun e : g = f => hk (h.symm.trans e))]
      · have hb : (g == k) = false := beq_eq_false_iff_ne.mpr h
        simp only [List.lookup, hb]
        exact ih
theorem keys_putF (f : Str) (v : V) : ∀ fs : List (Str × V), f ∈ (putF f v fs).map (·.1) ∧ ∀ g, g ∈ fs.map (·.1) → g ∈ (putF f v fs).map (·.1)
  | [] => ⟨by simp [putF], fun g h => by simp at h⟩
  | (k, x) :: r => by
    obtain ⟨i1, i2⟩ := keys_putF f v r
    rw [show putF f v ((k, x) :: r) = (if k = f then (k, v) :: r else (k, x) :: putF f v r) from rfl]
    by_cases hk : k = f
    · rw [if_pos hk]
      subst hk
      exact ⟨by simp, fun g h => by simpa using h⟩
    · rw [if_neg hk]
      refine ⟨?_, fun g h => ?_⟩
      · rw [List.map_cons]
        exact List.mem_cons_of_mem _ i1
      · rw [List.map_cons] at h ⊢
        rcases List.mem_cons.mp h with e | e
        · exact List.mem_cons.mpr (.inl e)
        · exact List.mem_cons_of_mem _ (i2 g e)
theorem length_putF (f : Str) (v : V) : ∀ fs : List (Str × V), (putF f v fs).length ≤ fs.length + 1
  | [] => by simp [putF]
  | (k, x) :: r => by
    have ih := length_putF f v r
    rw [show putF f v ((k, x) :: r) = (if k = f then (k, v) :: r else (k, x) :: putF f v r) from rfl]
    by_cases hk : k = f
    · rw [if_pos hk, List.length_cons, List.length_cons]; omega
    · rw [if_neg hk, List.length_cons, List.length_cons]; omega
theorem RelO.some_of {v : V} {o : Option Value} (r : RelO (some v) o) : ∃ u, o = some u ∧ RelV v u := by
  cases o with
  | none => exact (show False from r).elim
  | some u => exact ⟨u, rfl, r⟩
theorem RelO.none_of {o : Option Value} (r : RelO none o) : o = none := by
  cases o with
  | none => rfl
  | some u => exact (show False from r).elim
theorem handed_of {v : V} {u : Value} (r : RelV v u) : PySem.W.handedIn u = true := by
  cases v with
  | non => cases (show u = Value.none from r); rfl
  | bl b => cases (show u = Value.bool b from r); rfl
  | int i => obtain ⟨t, e⟩ := (show ∃ t, u = Value.int i t from r); cases e; rfl
  | str x => obtain ⟨t, e⟩ := (show ∃ t, u = Value.str x t from r); cases e; rfl
  | byt b => obtain ⟨t, e⟩ := (show ∃ t, u = Value.bytes b t from r); cases e; rfl
  | flt b => obtain ⟨t, e⟩ := (show ∃ t, u = Value.float b t from r); cases e; rfl
  | ref a => cases (show u = Value.ref a from r); rfl
  | ty n => cases (show u = Value.type n from r); rfl
section
variable {P : Program} {w : World} {H H' : Hp} {h h' : Heap} {a C dx : Addr} {fs fs' : List (Str × V)}
theorem ins_get (hok : HOk P w H h) (e : H a = some (.ins C dx fs)) : ∃ mA, ObjM h a dx C mA ∧ (∀ f, RelO (fs.lookup f) (mA f)) ∧ PySem.Within mA (fs.map (·.1)) ∧ fs.length ≤ 1000 ∧ H dx = some (.own a) := by
  obtain ⟨d, z, ne, ob, mA, n, r, q⟩ := (show ObjOk P w H h a (.ins C dx fs) from hok a _ e)
  exact ⟨mA, ⟨ob, n, ne⟩, r, q, z, d⟩
end
structure Cls (K : PySem.W.Frag) (C : Addr) : Prop where
  pg : PySem.W.plainGet K C Str.empty = true
  hd : PySem.W.hasDictIn K C = true
  po : PySem.W.plainOver K C = true
  sa : PySem.W.findIn K (.ref C) "__setattr__" = some (some (.builtin "object.__setattr__"))
theorem Cls.get {K : PySem.W.Frag} {C : Addr} (c : Cls K C) (f : Str) : PySem.W.plainGet K C f = true := c.pg
def NoAttr (K : PySem.W.Frag) (C : Addr) (f : Str) : Prop := PySem.W.findIn K (.ref C) f = some none
theorem NoAttr.taker {K : PySem.W.Frag} {C : Addr} {f : Str} (n : NoAttr K C f) : PySem.W.takerIn K C f = some none := by
  unfold PySem.W.takerIn
  rw [show PySem.W.findIn K (.ref C) f = some none from n]
  rfl
structure Meth (K : PySem.W.Frag) (C : Addr) (m : Str) (f : Addr) : Prop where
  at_ : PySem.W.findIn K (.ref C) m = some (some (.ref f))
  fn : PySem.W.isFn K (.ref f) = true
  kp : PySem.W.keepIn K (.ref f) = true
section
variable {X : Cx} {pins : List (Addr × Obj)} {σ : St} {H : Hp} {s : Shared} {a C dx : Addr} {fs : List (Str × V)} {f : Str} {v : V} {A : Around} {E : Value → Shared → Prop}
theorem getattr_ok {b : Bool} {Q : Value → Shared → Prop} (I : Inv X pins σ H s) (e : H a = some (.ins C dx fs)) (c : Cls X.K C) (n : NoAttr X.K C f) (l : fs.lookup f = some v)
    (h : ∀ u s', Inv X pins σ H s' → RelV v u → Q u s') : wpAny (model X.prog X.w) A (getAttr (.ref a) f b) Q E s := by
  obtain ⟨mA, O, r, _, _, _⟩ := ins_get I.hok e
  obtain ⟨u, hu, ru⟩ := RelO.some_of (v := v) (o := mA f) (by rw [← l]; exact r f)
  exact get_map I.kIn O (c.get f) c.hd n hu (handed_of ru) (h u _ (I.tok _) ru)
theorem getmeth_ok {m : Str} {g : Addr} {pl : Sem Bool} {Q : Value × List Value → Shared → Prop} (I : Inv X pins σ H s) (e : H a = some (.ins C dx fs)) (c : Cls X.K C) (k : Meth X.K C m g) (l : fs.lookup m = none)
    (h : Q (.ref g, [.ref a]) s) : wpAny (model X.prog X.w) A (getMethod (.ref a) m pl) Q E s := by
  obtain ⟨mA, O, r, _, _, _⟩ := ins_get I.hok e
  have hn : mA m = none := RelO.none_of (by rw [← l]; exact r m)
  exact get_meth I.kIn O (c.get m) k.at_ k.fn hn h
theorem setattr_ok {y : V} {u : Value} {Q : Unit → Shared → Prop} (I : Inv X pins σ H s) (e : H a = some (.ins C dx fs)) (c : Cls X.K C) (n : NoAttr X.K C f) (hl : fs.length < 1000) (ry : RelV y u)
    (h : ∀ s', Inv X pins σ (upd H a (.ins C dx (putF f y fs))) s' → Q () s') : wpAny (model X.prog X.w) A (setAttr (.ref a) f u) Q E s := by
  obtain ⟨mA, O, r, wi, _, ho⟩ := ins_get I.hok e
  have hz : (fs.map (·.1)).length ≤ sizeLine := by rw [List.length_map, sizeLine_eq]; omega
  refine set_map I.kIn O c.sa c.po n.taker c.hd wi hz fun h' O' sb => h _ ?_
  have hd : ∃ o, h'.get? dx = some o := let ⟨o, _, _, e', _⟩ := O'.ns; ⟨o, e'⟩
  refine I.write (x := a) (e := dx) (by rw [e]; exact True.intro) (.inr ho) (fun b q hb z => (sb.2 b hb).trans z) hd ?_
  refine ⟨by rw [upd_ne O.ne]; exact ho, ?_, O.ne, O'.obj, _, O'.ns, fun g => ?_, fun g hg => ?_⟩
  · have := length_putF f y fs; omega
  · show RelO ((putF f y fs).lookup g) (if g = f then some u else mA g)
    rw [lookup_putF]
    by_cases q : g = f
    · rw [if_pos q, if_pos q]; exact ry
    · rw [if_neg q, if_neg q]; exact r g
  · by_cases q : g = f
    · rw [q]; exact (keys_putF f y fs).1
    · refine (keys_putF f y fs).2 g (wi g fun z => hg ?_)
      show (if g = f then some u else mA g) = none
      rw [if_neg q]; exact z
theorem Inv.made (I : Inv X pins σ H s) : Inv X pins σ (upd (upd H s.heap.objs.size (.own (s.heap.objs.size + 1))) (s.heap.objs.size + 1) (.ins C s.heap.objs.size []))
    { s with heap := (s.heap.push PySem.W.emptyDict).push (PySem.W.instObj C s.heap.objs.size) } := by
  have e1 : (s.heap.push PySem.W.emptyDict).get? s.heap.objs.size = some PySem.W.emptyDict := Heap.get?_push_size s.heap rfl
  have e2 : ((s.heap.push PySem.W.emptyDict).push (PySem.W.instObj C s.heap.objs.size)).get? (s.heap.objs.size + 1) = some (PySem.W.instObj C s.heap.objs.size) := by
    have := Heap.get?_push_size (s.heap.push PySem.W.emptyDict) (o := PySem.W.instObj C s.heap.objs.size) rfl
    rwa [Heap.size_push] at this
  have e3 : (s.heap.push PySem.W.emptyDict).Ns s.heap.objs.size (fun _ => none) := ⟨PySem.W.emptyDict, #[], _, e1, rfl, (fun e he => absurd he (by simp)), fun _ => rfl⟩
  have I1 := I.laid (a := s.heap.objs.size) (o := .own (s.heap.objs.size + 1)) (h' := s.heap.push PySem.W.emptyDict) (t' := s.toks) (fun b u q => Heap.get?_push_of_some _ q) (Nat.le_refl _) ⟨_, e1⟩
  refine I1.laid (a := s.heap.objs.size + 1) (o := .ins C s.heap.objs.size []) (t' := s.toks) (fun b u q => Heap.get?_push_of_some _ q) (Nat.le_of_eq (Heap.size_push _ _)) ?_
  have ne : s.heap.objs.size ≠ s.heap.objs.size + 1 := Nat.ne_of_lt (Nat.lt_succ_self _)
  refine ⟨by rw [upd_ne ne, upd_same], Nat.zero_le _, ne, e2, fun _ => none, (Heap.Ns1.of_empty e3).at fun o q => Heap.get?_push_of_some _ q, fun _ => True.intro, fun y hy => absurd rfl hy⟩
theorem attr_of {prog : Program} {w : World} {env : Env} {e : Expr} {f : Str} {pos : Pos} {s : Shared} {Q : Value → Shared → Prop} (hb : attributeBase e f env (eval e env) = eval e env)
    (h : wpAny (model prog w) A (eval e env) (fun o s₁ => wpAny (model prog w) A (getAttr o f true) Q E s₁) E s) : wpAny (model prog w) A (eval (.Attribute e f pos) env) Q E s :=
  Attribute_any_ h (by rw [arm_eval_Attribute, hb])
end
def tFld (K : PySem.W.Frag) (ta : TE) (f : Str) : TE := fun σ H Q => ta σ H fun x H1 => ∃ a C dx fs v, x = .ref a ∧ H1 a = some (.ins C dx fs) ∧ Cls K C ∧ NoAttr K C f ∧ fs.lookup f = some v ∧ Q v H1
def sFld (K : PySem.W.Frag) (ta tv : TE) (f : Str) : TS := fun D σ H => tv σ H fun y H1 => ta σ H1 fun x H2 => ∃ a C dx fs, x = .ref a ∧ H2 a = some (.ins C dx fs) ∧ Cls K C ∧ NoAttr K C f ∧ fs.length < 1000 ∧
  D.nx σ (upd H2 a (.ins C dx (putF f y fs)))
section
variable {X : Cx} {o e value : Expr} {f : Str} {pos pos' tpos : Pos} {ta tv : TE}
theorem pe_fld (he : PE X e ta) (hb : attributeBase e f X.env (eval e X.env) = eval e X.env) : PE X (.Attribute e f pos) (tFld X.K ta f) := by
  intro pins s σ H Q I h
  refine attr_of hb (thn (he pins s σ H _ I h) fun u s1 ⟨x, H1, I1, rx, a, C, dx, fs, v, ex, ea, c, n, l, q⟩ => ?_)
  subst ex
  obtain rfl : u = Value.ref a := rx
  exact getattr_ok I1 ea c n l fun u' s2 I2 ru => ⟨v, H1, I2, ru, q⟩
theorem ps_fld (ha : PE X o ta) (hv : PE X value tv) (hs : swapsWith value (some (.Attribute o f pos')) pos.line X.env = pure false) : PS X (.Assign [.Attribute o f pos'] value pos) (sFld X.K ta tv f) := by
  intro pins s σ H D I h
  refine plainObj_wpAny_Assign_Attribute (thn (hv pins s σ H _ I h) fun u s1 ⟨y, H1, I1, ry, q⟩ => thn (ha pins s1 σ H1 _ I1 q) fun ov s2 ⟨x, H2, I2, rx, a, C, dx, fs, ex, ea, c, n, l, q2⟩ => ?_) hs
  subst ex
  obtain rfl : ov = Value.ref a := rx
  exact setattr_ok I2 ea c n l ry fun s3 I3 => ⟨σ, _, I3, q2⟩
end
section
variable {X : Cx} {pins : List (Addr × Obj)} {σ : St} {H : Hp} {s : Shared} {A : Around} {E : Value → Shared → Prop} {Q : Value → Shared → Prop} {c : Value} {b : Bool}
inductive TyOf (K : PySem.W.Frag) (H : Hp) : V → Value → Prop where
  | non : TyOf K H .non (.type "NoneType")
  | bl (x : Bool) : TyOf K H (.bl x) (.type "bool")
  | int (i : Int) : TyOf K H (.int i) (.type "int")
  | str (x : Str) : TyOf K H (.str x) (.type "str")
  | flt (x : UInt64) : TyOf K H (.flt x) (.type "float")
  | lst {a : Addr} {xs : List V} (e : H a = some (.lst xs)) : TyOf K H (.ref a) (.type "list")
  | frz {a : Addr} {o : Obj} {xs : List V} (e : H a = some (.frz o (.lst xs))) : TyOf K H (.ref a) (.type "list")
  | tup {a : Addr} {xs : List V} (e : H a = some (.tup xs)) : TyOf K H (.ref a) (.type "tuple")
  | dK {a : Addr} {kvs : List (Key × V)} (e : H a = some (.dK kvs)) : TyOf K H (.ref a) (.type "dict")
  | dT {a : Addr} {kvs : List (List Key × V)} (e : H a = some (.dT kvs)) : TyOf K H (.ref a) (.type "dict")
  | ins {a C dx : Addr} {fs : List (Str × V)} (e : H a = some (.ins C dx fs)) (cl : Cls K C) (ha : PySem.W.findIn K (.ref C) "__class__" = some (some (.builtin "object.__class__")))
      (hn : PySem.W.specialIn K (.builtin "object.__class__") "__get__" = some (some (.builtin "getset_descriptor.__get__"))) (htk : PySem.W.takesIn K (.builtin "object.__class__") = some true)
      (hm : PySem.W.mroIn K C (.type "object") = some true) : TyOf K H (.ref a) (.ref C)
theorem isinst_ok {x : V} {u t : Value} (I : Inv X pins σ H s) (rx : RelV x u) (ty : TyOf X.K H x t) (e : PySem.W.kitOne X.K t c = some b) (h : ∀ tk, Q (.bool b) { s with toks := tk }) :
    wpAny (model X.prog X.w) A (call (.builtin "isinstance") [u, c]) Q E s := by
  cases ty with
  | non => cases (show u = Value.none from rx); exact PySem.W.kia_one PySem.W.kitx_none I.kIn True.intro e (fun z => nomatch z) h
  | bl y => cases (show u = Value.bool y from rx); exact PySem.W.kia_one PySem.W.kitx_bool I.kIn True.intro e (fun z => nomatch z) h
  | int i => obtain ⟨t, q⟩ := (show ∃ t, u = Value.int i t from rx); cases q; exact PySem.W.kia_one PySem.W.kitx_int I.kIn True.intro e (fun z => nomatch z) h
  | str y => obtain ⟨t, q⟩ := (show ∃ t, u = Value.str y t from rx); cases q; exact PySem.W.kia_one PySem.W.kitx_str I.kIn True.intro e (fun z => nomatch z) h
  | flt y => obtain ⟨t, q⟩ := (show ∃ t, u = Value.float y t from rx); cases q; exact PySem.W.kia_one PySem.W.kitx_float I.kIn True.intro e (fun z => nomatch z) h
  | @lst a xs ea =>
    cases (show u = Value.ref a from rx)
    obtain ⟨_, _, n, _, h1⟩ := (show ObjOk X.prog X.w H s.heap a (.lst xs) from I.hok a _ ea)
    exact PySem.W.kia_one PySem.W.kitx_list I.kIn ⟨_, h1, rfl⟩ e (fun z => nomatch z) h
  | @frz a ob xs ea =>
    cases (show u = Value.ref a from rx)
    obtain ⟨_, _, _, n, _, h1⟩ := (show ObjOk X.prog X.w H s.heap a (.frz ob (.lst xs)) from I.hok a _ ea)
    exact PySem.W.kia_one PySem.W.kitx_list I.kIn ⟨_, h1, rfl⟩ e (fun z => nomatch z) h
  | @tup a xs ea =>
    cases (show u = Value.ref a from rx)
    obtain ⟨_, _, _, p⟩ := (show ObjOk X.prog X.w H s.heap a (.tup xs) from I.hok a _ ea)
    obtain ⟨o, h1, h2, _⟩ := p
    exact PySem.W.kia_one PySem.W.kitx_tuple I.kIn ⟨o, h1, h2⟩ e (fun z => nomatch z) h
  | @dK a kvs ea =>
    cases (show u = Value.ref a from rx)
    obtain ⟨_, _, vs, _, p⟩ := (show ObjOk X.prog X.w H s.heap a (.dK kvs) from I.hok a _ ea)
    obtain ⟨o, es, ep, h1, h2, _⟩ := p
    exact PySem.W.kia_one PySem.W.kitx_dict I.kIn ⟨o, h1, h2.1⟩ e (fun z => nomatch z) h
  | @dT a kvs ea =>
    cases (show u = Value.ref a from rx)
    obtain ⟨_, _, xs, _, o, es, ep, h1, h2, _⟩ := (show ObjOk X.prog X.w H s.heap a (.dT kvs) from I.hok a _ ea)
    exact PySem.W.kia_one PySem.W.kitx_dict I.kIn ⟨o, h1, h2.1⟩ e (fun z => nomatch z) h
  | @ins a C dx fs ea cl ha hn htk hm =>
    cases (show u = Value.ref a from rx)
    obtain ⟨mA, O, _⟩ := ins_get I.hok ea
    obtain ⟨od, J, _⟩ := O.look
    exact PySem.W.kia_one (PySem.W.kitx_own (cl.get _) cl.hd ha hn htk hm) I.kIn J e (fun z => nomatch z) h
end
end L2
namespace L2
open PySem PySem.Spec PyProof.Rows
structure Room (k : Nat) (A : Around) : Prop where
  hd : A.handled = none
  dp : A.depth + 3 * k + 5 < recursionLimit
  un : A.units + 16 * k + 200 < cLine
theorem Room.mono {j k : Nat} {A : Around} (r : Room k A) (h : j ≤ k) : Room j A := ⟨r.hd, by have := r.dp; omega, by have := r.un; omega⟩
theorem Room.deeper {k : Nat} {A : Around} (r : Room (k + 1) A) (env : Env) : Room k (A.deeper env) :=
  ⟨r.hd, by have := r.dp; show A.depth + 1 + 3 * k + 5 < _; omega, by have := r.un; show A.units + 3 + 16 * k + 200 < _; omega⟩
theorem make_depth {A : Around} {C : Addr} {us : List Value} {kw : List (Str × Value)} : (A.under (.builtin "type.__call__" ⟨.ref C :: us, kw⟩)).depth = A.depth + 1 := by
  first | rfl | simp [Around.under, Code.weight, Code.isCreation, Code.isGuard, Code.isCaller, Code.frames, Code.isFrame, guardIds]
theorem make_units {A : Around} {C : Addr} {us : List Value} {kw : List (Str × Value)} : (A.under (.builtin "type.__call__" ⟨.ref C :: us, kw⟩)).units = A.units + 1 := by
  first | rfl | simp [Around.under, Code.cUnits, Code.frames, Code.isFrame]
theorem Room.make {k : Nat} {A : Around} (r : Room (k + 1) A) (C : Addr) (us : List Value) (kw : List (Str × Value)) : Room k (A.under (.builtin "type.__call__" ⟨.ref C :: us, kw⟩)) :=
  ⟨r.hd, by have := r.dp; rw [make_depth]; omega, by have := r.un; rw [make_units]; omega⟩
theorem Room.depth {k : Nat} {A : Around} (r : Room k A) : A.depth < recursionLimit := by have := r.dp; omega
theorem Room.units {k : Nat} {A : Around} (r : Room k A) : A.units + 64 < cLine := by have := r.un; omega
def tNil : TA := fun _ H Q => Q [] H
def tCons (ta : TE) (tr : TA) : TA := fun σ H Q => ta σ H fun x H1 => tr σ H1 fun xs H2 => Q (x :: xs) H2
section
variable {X : Cx} {e : Expr} {es : List Expr} {te : TE} {t : TA} {pos : Pos}
theorem pa_nil : PA X [] tNil := fun _ _ _ _ H Q I h => Calls.spliced_nil ⟨[], H, I, .nil, h⟩
theorem pa_cons (ha : PE X e te) (hr : PA X es t) (hs : starEach (e :: es) X.env = (false, eval e X.env) :: starEach es X.env := by rfl) : PA X (e :: es) (tCons te t) := by
  intro pos pins s σ H Q I h
  rw [hs]
  show wpAny _ _ (spliced ((false, eval e X.env) :: backTo pos (starEach es X.env))) _ _ s
  refine Calls.spliced_cons (thn (ha pins s σ H _ I h) fun u s1 ⟨x, H1, I1, r1, q1⟩ => ?_)
  exact thn (hr pos pins s1 σ H1 _ I1 q1) fun us s2 ⟨xs, H2, I2, r2, q2⟩ => ⟨x :: xs, H2, I2, .cons r1 r2, q2⟩
def tTup (t : TA) : TE := fun σ H Q => t σ H fun xs H1 => xs.length ≤ sizeLine ∧ ∀ p, H1 p = none → Q (.ref p) (upd H1 p (.tup xs))
def tLst (t : TA) : TE := fun σ H Q => t σ H fun xs H1 => xs.length ≤ sizeLine ∧ ∀ p, H1 p = none → Q (.ref p) (upd H1 p (.lst xs))
theorem pe_tup {x1} (h : PA X es t) : PE X (.Tuple es x1 pos) (tTup t) := by
  intro pins s σ H Q I hq
  refine wpAny_Tuple_spliced (thn (h pos pins s σ H _ I hq) fun us s1 ⟨xs, H1, I1, r, z, q⟩ => ⟨by rw [← r.length]; exact z, ?_⟩)
  have hf : H1 s1.heap.objs.size = none := I1.hok.fresh (Nat.le_refl _)
  refine ⟨.ref s1.heap.objs.size, upd H1 s1.heap.objs.size (.tup xs), I1.laid (t' := s1.toks) (fun b u e => Heap.get?_push_of_some _ e) (Nat.le_refl _) ?_, rfl, q _ hf⟩
  exact ⟨z, us, r, ⟨_, Heap.get?_push_size _ rfl, rfl, _, rfl⟩⟩
theorem pe_lst (h : PA X es t) : PE X (.List es pos) (tLst t) := by
  intro pins s σ H Q I hq
  refine wpAny_List_spliced (thn (h pos pins s σ H _ I hq) fun us s1 ⟨xs, H1, I1, r, z, q⟩ => ⟨by rw [← r.length]; exact z, ?_⟩)
  have hf : H1 s1.heap.objs.size = none := I1.hok.fresh (Nat.le_refl _)
  refine ⟨.ref s1.heap.objs.size, upd H1 s1.heap.objs.size (.lst xs), I1.laid (t' := s1.toks) (fun b u e => Heap.get?_push_of_some _ e) (Nat.le_refl _) ?_, rfl, q _ hf⟩
  exact ⟨z, us, 0, r, Heap.get?_push_size _ rfl⟩
end
abbrev Sp := List V → Hp → VK → XK → Prop
abbrev CXT := List Env → Hp → Shared → XK → Value → Shared → Prop
structure Env0 (P : Program) (w : World) (K : PySem.W.Frag) (mg : Str → Option Value) (base : Heap) (A : Around) (outer : List Env) (s : Shared) (H : Hp) : Prop where
  frames : A.frames = some outer
  mod : Mod K mg base
  bs : ∀ b o, base.get? b = some o → s.heap.get? b = some o ∧ H b = none
  bsz : base.objs.size ≤ s.heap.objs.size
  funs : s.heap.FunFrames base outer
  frf : ∀ b ∈ frs outer, H b = none
  hok : HOk P w H s.heap
  bare : AllBare s.gens
def CE (outer : List Env) (P : Program) (w : World) (H : Hp) (s : Shared) (Q : VK) (u : Value) (s' : Shared) : Prop :=
  ∃ v H', s'.os = s.os ∧ AllBare s'.gens ∧ Un (frs outer) [] H H' s.heap s'.heap ∧ HOk P w H' s'.heap ∧ RelV v u ∧ Q v H'
def CR (CX : CXT) (outer : List Env) (P : Program) (w : World) (H : Hp) (s : Shared) (Q : VK) (E : XK) (r : Result) (s' : Shared) : Prop :=
  match r with
  | .ok (.ret u) => CE outer P w H s Q u s'
  | .ok _ => False
  | .error e => CX outer H s E e s'
structure FnOk (P : Program) (w : World) (K : PySem.W.Frag) (mg : Str → Option Value) (base : Heap) (CX : CXT) (k : Nat) (f : Addr) (fd : FuncData) (ps : List Str) (sp : Sp) : Prop where
  len : ∀ vs H Q E, sp vs H Q E → vs.length = ps.length
  run : ∀ (A : Around) (outer : List Env) (s : Shared) (H : Hp) (args : Args) (us : List Value) (vs : List V) (Q : VK) (E : XK), Room k A → Env0 P w K mg base A outer s H → BindsTo s fd args (ps.zip us) → Vals vs us → sp vs H Q E →
    codeAny (model P w) A (.call (.ref f) args) (CR CX outer P w H s Q E) s
theorem Env0.make {P : Program} {w : World} {K : PySem.W.Frag} {mg : Str → Option Value} {base : Heap} {A : Around} {outer : List Env} {s : Shared} {H : Hp} (e : Env0 P w K mg base A outer s H) (C : Addr) (us : List Value) (kw : List (Str × Value)) :
    Env0 P w K mg base (A.under (.builtin "type.__call__" ⟨.ref C :: us, kw⟩)) outer s H := ⟨by first | exact e.frames | (simpa [Around.under, Code.envs, Code.isFrame, pushEnvs] using e.frames), e.mod, e.bs, e.bsz, e.funs, e.frf, e.hok, e.bare⟩
section
variable {X : Cx} {pins : List (Addr × Obj)} {σ : St} {H : Hp} {s s' : Shared}
theorem Inv.env0 (I : Inv X pins σ H s) : Env0 X.prog X.w X.K X.mg X.base X.A X.stack s H :=
  ⟨I.ok.frames, I.ok.mod, I.bs, Nat.le_trans I.ok.bsz I.sz, I.stack, I.stkFree, I.hok, I.bare⟩
theorem Inv.after {Q : VK} {u : Value} (I : Inv X pins σ H s) (h : CE X.stack X.prog X.w H s Q u s') : EP X pins σ Q u s' := by
  obtain ⟨v, H', os, bare, un, hok, r, q⟩ := h
  obtain ⟨hh, g, d, t, os'⟩ := s'
  obtain rfl : os' = s.os := os
  exact ⟨v, H', I.call (h' := hh) (g' := g) (d' := d) (t' := t) (ch := []) un hok bare (fun b z => absurd z (by simp)), r, q⟩
end
def Binds (K : PySem.W.Frag) (fd : FuncData) (ps : List Str) (ds : List Value) : Prop :=
  ∀ (s : Shared) (us : List Value), K.In s.heap → (us ++ ds).length = ps.length → BindsTo s fd ⟨us, []⟩ (ps.zip (us ++ ds))
theorem Binds.all {K : PySem.W.Frag} {fd : FuncData} {ps : List Str} (h : ∀ us : List Value, us.length = ps.length → bindArgs fd ⟨us, []⟩ = pure (ps.zip us)) : Binds K fd ps [] := fun s us _ hl => by
  rw [List.append_nil] at hl ⊢
  exact .of_eq (h us hl)
section
variable {X : Cx} {CX : CXT} {k : Nat} {f C : Addr} {fd : FuncData} {ps : List Str} {sp : Sp} {dvs : List V} {ds : List Value} {E : XK} {x m : Str} {p pos apos : Pos} {e o : Expr} {es : List Expr} {ta : TE} {t : TA}
structure Mk (K : PySem.W.Frag) (C f : Addr) : Prop where
  makes : PySem.W.makesIn K C = true
  init : PySem.W.findIn K (.ref C) "__init__" = some (some (.ref f))
  fn : PySem.W.isFn K (.ref f) = true
  kp : PySem.W.keepIn K (.ref C) = true
end
section
variable {X : Cx} {CX : CXT} {k : Nat} {f C : Addr} {fd : FuncData} {ps ks : List Str} {sp : Sp} {E : XK} {x m : Str} {p pos apos kpos : Pos} {e o : Expr} {es : List Expr} {kws : List Keyword} {te ta : TE} {t tk : TA} {nm : Option Str}
variable {g : List Value → List Value → List Value} {gV : List V → List V → List V}
end
structure FnScope (N P : List Str) (sc : Scope) : Prop where
  kind : sc.kind = .function
  co : sc.isCoroutine = false
  gen : sc.isGenerator = false
  nd : N.Nodup
  pre : N.take P.length = P
  par : ∀ x ∈ P, sc.names.lookup x = some .local ∨ sc.names.lookup x = some .cell
  nofree : ∀ y ∈ sc.names, y.2 ≠ .free
theorem bindL_out {kindOf : Str → Option NameKind} {x : Str} : ∀ {binds : List (Str × Value)} {m : Str → Option Value}, (∀ v, (x, v) ∉ binds) → bindL kindOf binds m x = m x
  | [], _, _ => rfl
  | (n, v) :: r, m, h => by
    unfold bindL
    rw [bindL_out fun w hw => h w (List.mem_cons_of_mem _ hw)]
    split
    · have : x ≠ n := by rintro rfl; exact h v List.mem_cons_self
      simp [this]
    · rfl
theorem bindC_out {kindOf : Str → Option NameKind} {x : Str} : ∀ {binds : List (Str × Value)} {m : Str → Option Value}, (∀ v, (x, v) ∉ binds) → bindC kindOf binds m x = m x
  | [], _, _ => rfl
  | (n, v) :: r, m, h => by
    unfold bindC
    rw [bindC_out fun w hw => h w (List.mem_cons_of_mem _ hw)]
    split
    · rfl
    · have : x ≠ n := by rintro rfl; exact h v List.mem_cons_self
      simp [this]
theorem bindL_get {kindOf : Str → Option NameKind} {x : Str} {v : Value} : ∀ {P : List Str} {vs : List Value} {i : Nat} {m : Str → Option Value}, P.Nodup → P[i]? = some x → vs[i]? = some v → kindOf x = some .local →
    bindL kindOf (P.zip vs) m x = some v
  | [], _, _, _, _, h, _, _ => by simp at h
  | _ :: _, [], _, _, _, _, h, _ => by simp at h
  | p :: P, w :: vs, 0, m, nd, h1, h2, hk => by
    simp at h1 h2; subst h1; subst h2
    show bindL kindOf ((p, w) :: P.zip vs) m p = _
    unfold bindL
    rw [bindL_out fun v hv => (List.nodup_cons.mp nd).1 (List.of_mem_zip hv).1, if_pos hk]
    simp
  | p :: P, w :: vs, i + 1, m, nd, h1, h2, hk => by
    show bindL kindOf ((p, w) :: P.zip vs) m x = _
    unfold bindL
    exact bindL_get (i := i) (List.nodup_cons.mp nd).2 (by simpa using h1) (by simpa using h2) hk
theorem bindC_get {kindOf : Str → Option NameKind} {x : Str} {v : Value} : ∀ {P : List Str} {vs : List Value} {i : Nat} {m : Str → Option Value}, P.Nodup → P[i]? = some x → vs[i]? = some v → kindOf x ≠ some .local →
    bindC kindOf (P.zip vs) m x = some v
  | [], _, _, _, _, h, _, _ => by simp at h
  | _ :: _, [], _, _, _, _, h, _ => by simp at h
  | p :: P, w :: vs, 0, m, nd, h1, h2, hk => by
    simp at h1 h2; subst h1; subst h2
    show bindC kindOf ((p, w) :: P.zip vs) m p = _
    unfold bindC
    rw [bindC_out fun v hv => (List.nodup_cons.mp nd).1 (List.of_mem_zip hv).1, if_neg hk]
    simp
  | p :: P, w :: vs, i + 1, m, nd, h1, h2, hk => by
    show bindC kindOf ((p, w) :: P.zip vs) m x = _
    unfold bindC
    exact bindC_get (i := i) (List.nodup_cons.mp nd).2 (by simpa using h1) (by simpa using h2) hk
def start (N : List Str) (vs : List V) : St := vs.map some ++ List.replicate (N.length - vs.length) none
def cxOf (CX : CXT) (P : Program) (w : World) (K : PySem.W.Frag) (mg : Str → Option Value) (base : Heap) (N : List Str) (qual : Str) (scope : Scope) (f : Addr) (cd : Value) (A : Around) (outer : List Env) (s : Shared) (H : Hp) (E : XK) : Cx where
  prog := P
  w := w
  K := K
  mg := mg
  base := base
  A := A.deeper (envOfC qual scope s.heap.objs.size f cd)
  N := N
  s₀ := s
  H₀ := H
  env := envOfC qual scope s.heap.objs.size f cd
  outer := outer
  stack := envOfC qual scope s.heap.objs.size f cd :: outer
  ex := []
  calm := true
  fn := fun _ => true
  pn := []
  xe := fun e s' => wpAny (model P w) (A.deeper (envOfC qual scope s.heap.objs.size f cd)) (leaving (envOfC qual scope s.heap.objs.size f cd) e) (fun _ s'' => CX outer H s E e s'') (fun e' s'' => CX outer H s E e' s'') s'
theorem cell_has {sc : Scope} {n : Nat} {x : Str} (h : sc.names.lookup x = some .cell) : ∃ c, (cellsFrom n sc.names []).lookup x = some c := by
  have q := PySem.W.cellsFrom_some sc.names n [] (.inl h)
  exact Option.isSome_iff_exists.mp q
theorem inv_start {CX : CXT} {P : Program} {w : World} {K : PySem.W.Frag} {mg : Str → Option Value} {base : Heap} {N ps : List Str} {qual : Str} {scope : Scope} {f : Addr} {cd : Value} {A : Around} {outer : List Env} {s s1 : Shared} {H : Hp} {E : XK} {us : List Value} {vs : List V}
    (S : FnScope N ps scope) (hd : A.handled = none) (e0 : Env0 P w K mg base A outer s H) (hl : vs.length = ps.length) (r : Vals vs us)
    (x : InCallC s s.heap.objs.size (bindL (envOfC qual scope s.heap.objs.size f cd).kindOf (ps.zip us) fun _ => none) (cellsFrom (s.heap.objs.size + 1) scope.names []) (bindC (envOfC qual scope s.heap.objs.size f cd).kindOf (ps.zip us) fun _ => none) s1) :
    Inv (cxOf CX P w K mg base N qual scope f cd A outer s H E) [] (start N vs) H s1 := by
  have hpl : ps.length ≤ N.length := by have := congrArg List.length S.pre; rw [List.length_take] at this; omega
  obtain ⟨h1, tk, rfl, hk⟩ := x.done
  have noA : ∀ b : Addr, b ∉ (cxOf CX P w K mg base N qual scope f cd A outer s H E).ex := fun b z => absurd (show b ∈ ([] : List Addr) from z) (by simp)
  refine ⟨⟨e0.mod, S.kind, rfl, rfl, Nat.le_refl _, fun y z c h1 h2 => ?_, fun y hy => ?_, fun y c _ h => ?_, fun _ => hd, Around.frames_deeper e0.frames, .inr ⟨rfl, rfl⟩, fun b z => absurd z (noA b), e0.bs, e0.bsz, fun b _ _ => noA b, fun b z => absurd z (noA b), e0.funs, e0.frf⟩,
    rfl, e0.bare, Un.kept hk, ⟨_, x.toInCall.ns, fun i y v h1 h2 h3 => ?_⟩, fun y c h => ⟨_, x.cell y c h⟩, e0.hok.fresh (Nat.le_refl _), fun y c h => ?_, fun p hp => absurd (show p ∈ ([] : List (Addr × Obj)) from hp) (by simp), e0.hok.kept hk, ?_⟩
  · exact name_of_addr x.apart (PySem.mem_of_lookup h1) (PySem.mem_of_lookup h2)
  · have hy : scope.names.lookup y = some .cell ∨ scope.names.lookup y = some .free := hy
    rcases hy with hy | hy
    · exact cell_has hy
    · exact absurd rfl (S.nofree _ (PySem.mem_of_lookup hy))
  · exact Nat.le_of_lt (x.above y c (PySem.mem_of_lookup h))
  · have hi : i < vs.length := by
      unfold start at h2
      by_cases hi : i < vs.length
      · exact hi
      · rw [List.getElem?_append_right (by simpa using hi)] at h2
        rw [List.getElem?_replicate] at h2
        split at h2 <;> cases h2
    have ha : vs[i]? = some v := by
      unfold start at h2
      rw [List.getElem?_append_left (by simpa using hi), List.getElem?_map] at h2
      cases e : vs[i]? with
      | none => rw [e] at h2; cases h2
      | some a => rw [e] at h2; cases h2; rfl
    obtain ⟨u, hu, rv⟩ := r.get ha
    have hp : ps[i]? = some y := by
      rw [← S.pre, List.getElem?_take_of_lt (by omega)]; exact h1
    have ndP : ps.Nodup := by rw [← S.pre]; exact S.nd.sublist (List.take_sublist _ _)
    refine ⟨u, rv, ?_⟩
    rcases S.par y (List.mem_of_getElem? hp) with k | k
    · exact .inl ⟨k, bindL_get ndP hp hu k⟩
    · obtain ⟨c, e⟩ := cell_has (n := s.heap.objs.size + 1) k
      refine .inr ⟨.inl k, c, e, ?_⟩
      have q := x.cell y c e
      rw [bindC_get ndP hp hu (by show scope.names.lookup y ≠ _; rw [k]; decide)] at q
      exact q
  · exact e0.hok.fresh (Nat.le_of_lt (x.above y c (PySem.mem_of_lookup h)))
  · unfold start
    show _ = N.length
    rw [List.length_append, List.length_map, List.length_replicate]
    omega
theorem fn_of {CX : CXT} {P : Program} {w : World} {K : PySem.W.Frag} {mg : Str → Option Value} {base : Heap} {k : Nat} {f : Addr} {name qual : Str} {params : Arguments} {body : List Stmt} {scope : Scope} {dV kV doc pm cdv ct oc : Value} {an od : Option Addr}
    {osl : Array (Option Value)} {N ps : List Str} {sp : Sp} (lk : K.lookup f = some ⟨oc, od, .func (PySem.W.fnOf name qual params body scope dV kV doc pm an cdv ct), osl⟩) (hcd : PySem.W.codeIn K cdv qual = true) (S : FnScope N ps scope)
    (len : ∀ vs H Q E, sp vs H Q E → vs.length = ps.length)
    (hbody : ∀ (A : Around) (outer : List Env) (s : Shared) (H : Hp) (vs : List V) (Q : VK) (E : XK), Room k (A.deeper (envOfC qual scope s.heap.objs.size f cdv)) → sp vs H Q E →
      ∃ t, PSs (cxOf CX P w K mg base N qual scope f cdv A outer s H E) body t ∧ t { nx := fun _ H' => Q .non H', rt := Q } (start N vs) H) :
    FnOk P w K mg base CX (k + 1) f (PySem.W.fnOf name qual params body scope dV kV doc pm an cdv ct) ps sp := by
  refine ⟨len, fun A outer s H args us vs Q E hr e0 hb r hsp => ?_⟩
  have hl := len _ _ _ _ hsp
  have KX : K.In s.heap := e0.mod.kin.keeps fun b o e => (e0.bs b o e).1
  have lim : s.heap.NoLimit := e0.mod.nolimit.keeps fun b o e => (e0.bs b o e).1
  have hkind : ∀ y ∈ ps.zip us, scope.names.lookup y.1 = some .local ∨ (scope.names.lookup y.1 = some .cell ∧ ((cellsFrom (s.heap.objs.size + 1) scope.names []).lookup y.1).isSome = true) := fun ⟨n, v⟩ hy => by
    rcases S.par n (List.of_mem_zip hy).1 with q | q
    · exact .inl q
    · exact .inr ⟨q, PySem.W.cellsFrom_some _ _ _ (.inl q)⟩
  refine codeAny_call_function hr.depth (KX _ _ lk) rfl S.co S.gen rfl (PySem.W.codeRec_of KX hcd) (hb _ _ _ _ ?_)
  refine wpAny_newFunctionEnv_cells S.kind hkind fun env he s1 x => ?_
  subst he
  refine ⟨lim.keeps x.toInCall.keep, codeAny_func ?_⟩
  obtain ⟨t, ht, hq⟩ := hbody A outer s H vs Q E (hr.deeper _) hsp
  have I : Inv (cxOf CX P w K mg base N qual scope f cdv A outer s H E) [] (start N vs) H s1 := inv_start S hr.hd e0 hl r x
  refine wpAny_mono (ht [] s1 (start N vs) H _ I hq) (fun fl s' hs => ?_) fun e s' hs => hs
  have fin : ∀ {σ' : St} {H' : Hp} {v : V} {u : Value}, Inv (cxOf CX P w K mg base N qual scope f cdv A outer s H E) [] σ' H' s' → RelV v u → Q v H' → CE outer P w H s Q u s' :=
    fun {σ' H' v u} J rv q => ⟨v, H', J.os, J.bare, J.base, J.hok, rv, q⟩
  cases fl with
  | ret u =>
    obtain ⟨v, σ', H', J, rv, q⟩ := hs
    exact fin J rv q
  | next =>
    obtain ⟨σ', H', J, q⟩ := hs
    exact fin (v := V.non) (u := Value.none) J rfl q
  | brk =>
    obtain ⟨_, _, _, q⟩ := hs
    exact False.elim q
  | cont =>
    obtain ⟨_, _, _, q⟩ := hs
    exact False.elim q
end L2
namespace L2
open PySem PySem.Spec PyProof.Rows
section
variable {X : Cx} {x : Str} {p pos : Pos} {e : Expr} {es : List Expr} {t : TA} {id T : String} {r : List V → Hp → VK → Prop}
def tCB (r : List V → Hp → VK → Prop) (t : TA) : TE := fun σ H Q => t σ H fun vs H1 => r vs H1 Q
theorem pe_callB (hc : CallR X (.builtin id) r) (hg : Gl X x) (hm : X.mg x = none) (hv : bootBuiltins x = some (.builtin id)) (ha : PA X (e :: es) t) (hn : x ≠ "__name__" := by decide) (hdb : (x == ("__debug__" : Str)) = false := by decide)
    (he : starEach (e :: es) X.env = (false, eval e X.env) :: starEach es X.env := by rfl) (hpl : (backTo pos (starEach es X.env)).any (·.1) = false := by rfl) : PE X (.Call (.Name x p) (e :: es) [] pos) (tCB r t) := by
  intro pins s σ H Q I h
  refine wpAny_Call_Name_kw (ld_blt I hg hm hv ?_ hn hdb)
  exact PyProof.Rows.callWith_builtin1 (thn (ha pos pins s σ H _ I h) fun us s1 ⟨vs, H1, I1, r1, q1⟩ => hc pins s1 σ H1 vs us Q I1 r1 q1) he hpl
theorem pe_callTy (hc : CallR X (.type T) r) (hg : Gl X x) (hm : X.mg x = none) (hv : bootBuiltins x = some (.type T)) (ha : PA X (e :: es) t) (hn : x ≠ "__name__" := by decide) (hdb : (x == ("__debug__" : Str)) = false := by decide)
    (he : starEach (e :: es) X.env = (false, eval e X.env) :: starEach es X.env := by rfl) (hpl : (backTo pos (starEach es X.env)).any (·.1) = false := by rfl) : PE X (.Call (.Name x p) (e :: es) [] pos) (tCB r t) := by
  intro pins s σ H Q I h
  refine wpAny_Call_Name_kw (ld_blt I hg hm hv ?_ hn hdb)
  exact PyProof.Rows.callWith_type1 (thn (ha pos pins s σ H _ I h) fun us s1 ⟨vs, H1, I1, r1, q1⟩ => hc pins s1 σ H1 vs us Q I1 r1 q1) he hpl
end
end L2
namespace HT
open PySem PyProof.Rows
section
open PySem.SeqAt
open PySem.AutoSeq1 (wpAny_loadPart')
open PySem.MeetsSeq PySem.MeetsSeq2 PySem.MeetsSeq3
end
section
variable {prog : Program} {w : World} {A : Around} {E : Value → Shared → Prop} {s : Shared}
def sIx (n d : Nat) : Option Int → Nat
  | none => d
  | some v => if v < 0 then (v + (n : Int)).toNat else min v.toNat n
theorem sIx_le (n d : Nat) (hd : d ≤ n) (o : Option Int) : sIx n d o ≤ n := by
  cases o with
  | none => exact hd
  | some v =>
    show (if v < 0 then (v + (n : Int)).toNat else min v.toNat n) ≤ n
    by_cases hv : v < 0
    · rw [if_pos hv]; omega
    · rw [if_neg hv]; exact Nat.min_le_right _ _
theorem clip_eq (v : Int) (n d : Nat) : (if v < 0 then max (v + (n : Int)) 0 else min v (n : Int)) = ((sIx n d (some v) : Nat) : Int) := by
  show (if v < 0 then max (v + (n : Int)) 0 else min v (n : Int)) = (((if v < 0 then (v + (n : Int)).toNat else min v.toNat n) : Nat) : Int)
  by_cases hv : v < 0
  · simp only [if_pos hv]; omega
  · simp only [if_neg hv]; omega
theorem adjust_gen (lo hi : Option Int) (n : Nat) : Builtin.Slice.sliceAdjust lo hi 1 (n : Int) = (((sIx n 0 lo : Nat) : Int), ((sIx n n hi : Nat) : Int)) := by
  have h1 : ¬ ((1 : Int) < 0) := by omega
  unfold Builtin.Slice.sliceAdjust
  simp only [h1, if_false]
  refine Prod.ext ?_ ?_
  · cases lo with
    | none => rfl
    | some v => exact clip_eq v n 0
  · cases hi with
    | none => rfl
    | some v => exact clip_eq v n n
theorem places_gen (i j : Nat) : Builtin.Slice.slicePlaces (i : Int) (j : Int) 1 = j - i := by
  unfold Builtin.Slice.slicePlaces
  have h1 : (1 : Int) > 0 := by omega
  simp only [h1, if_true, Int.ediv_one]
  split <;> omega
theorem slicePart_ {v : Value} {o : Option Int} {Q : Option Int → Shared → Prop} (p : IsPart v o) (h : Q o s) : wpAny (model prog w) A (Builtin.Slice.slicePartIndex v) Q E s := by
  cases p with
  | none => exact slicePart_none h
  | int i t => exact slicePart_int h
theorem sliceApplied_gen {sl : Addr} {vl vu : Value} {lo hi : Option Int} {n : Nat} {Q : Int × Int × Nat → Shared → Prop} (hs : s.heap.IsSliceOf sl vl vu .none) (pl : IsPart vl lo) (pu : IsPart vu hi)
    (h : Q (((sIx n 0 lo : Nat) : Int), 1, sIx n n hi - sIx n 0 lo) s) : wpAny (model prog w) A (Builtin.Slice.sliceApplied (.ref sl) (pure (n : Int))) Q E s := by
  obtain ⟨os, hos, hcs, hds⟩ := id hs
  unfold Builtin.Slice.sliceApplied Builtin.Slice.sliceFields
  refine wpAny_bind (wpAny_bind (wpAny_field hos hds (x := vl) rfl (wpAny_bind (wpAny_field hos hds (x := vu) rfl (wpAny_bind (wpAny_field hos hds (x := .none) rfl (wpAny_pure ?_)))))))
  refine wpAny_bind (slicePart_none ?_)
  show wpAny _ _ (if ((1 : Int) == 0) = true then _ else _) _ _ s
  rw [if_neg (by decide)]
  refine wpAny_bind (slicePart_ pl (wpAny_bind (slicePart_ pu (wpAny_bind (wpAny_pure ?_)))))
  show wpAny _ _ (match Builtin.Slice.sliceAdjust lo hi 1 (n : Int) with | (lo, hi) => pure (lo, (1 : Int), Builtin.Slice.slicePlaces lo hi 1)) _ _ s
  rw [adjust_gen lo hi n]
  show wpAny _ _ (pure (((sIx n 0 lo : Nat) : Int), (1 : Int), Builtin.Slice.slicePlaces ((sIx n 0 lo : Nat) : Int) ((sIx n n hi : Nat) : Int) 1)) _ _ s
  rw [places_gen]
  exact wpAny_pure h
theorem pick_gen (xs : Array Value) (i k : Nat) : ((List.range k).filterMap fun (m : Nat) => xs[((i : Int) + (m : Int) * 1).toNat]?).toArray = ((xs.toList.drop i).take k).toArray := by
  have e : (fun (m : Nat) => xs[((i : Int) + (m : Int) * 1).toNat]?) = fun m => xs[i + m]? := by
    funext m
    have : ((i : Int) + (m : Int) * 1).toNat = i + m := by omega
    rw [this]
  rw [e]
  have := pick_run xs i k
  rw [List.filterMap_map] at this
  have e2 : ((fun x => xs[x]?) ∘ fun x => i + x) = fun m => xs[i + m]? := rfl
  rw [e2] at this
  rw [this]
theorem getItem_tuple_cut {t sl : Addr} {items : Array Value} {vl vu : Value} {lo hi : Option Int} {Q : Value → Shared → Prop} (ht : IsTup s.heap t items) (hs : s.heap.IsSliceOf sl vl vu .none) (pl : IsPart vl lo) (pu : IsPart vu hi)
    (hw : ¬ (sIx items.size 0 lo = 0 ∧ sIx items.size items.size hi = items.size))
    (h : Q (.ref s.heap.objs.size) { s with heap := s.heap.push { cls := .type "tuple", data := .seq ((items.toList.drop (sIx items.size 0 lo)).take (sIx items.size items.size hi - sIx items.size 0 lo)).toArray } })
    (hsz : items.size ≤ sizeLine) : wpAny (model prog w) A (getItem (.ref t) (.ref sl)) Q E s := by
  have htake : sizeOk (.seq ((items.toList.drop (sIx items.size 0 lo)).take (sIx items.size items.size hi - sIx items.size 0 lo)).toArray) := by
    show ((items.toList.drop (sIx items.size 0 lo)).take (sIx items.size items.size hi - sIx items.size 0 lo)).toArray.size ≤ sizeLine
    rw [List.size_toArray, List.length_take, List.length_drop, Array.length_toList]
    omega
  have hj : sIx items.size items.size hi ≤ items.size := sIx_le _ _ (Nat.le_refl _) hi
  obtain ⟨os, hos, hcs, hds⟩ := id hs
  have hTs : s.TypeIs (.ref sl) "slice" := ⟨os, hos, hcs⟩
  unfold getItem
  try with_reducible refine wpAny_holding ?_
  first | refine wpAny_bind (wpAny_pure ?_) | skip
  refine wpAny_bind (wpAny_sequenceKey ht.typeIs (by decide) ?_)
  refine wpAny_bind (wpAny_callSpecial?_slot (name := Str.ofString "__getitem__") ht.typeIs PyProof.Rows.slot_tuple_getitem
    (wpAny_call_entry PyProof.Rows.slot_tuple_getitem ht.typeIs entry_tuple_getitem ?_ (args_tuple_getitem _ _)))
  show wpAny _ _ (Builtin.Tuple.tupleItemsOf (.ref t) >>= _) _ _ s
  refine wpAny_bind (tupleItemsOf_ ht ?_)
  refine wpAny_bind (wpAny_typeOf hTs ?_)
  rw [if_pos (by decide)]
  refine wpAny_bind (sliceApplied_gen hs pl pu ?_)
  have hno : ¬ ((((sIx items.size 0 lo : Nat) : Int) == 0 && (1 : Int) == 1 && (sIx items.size items.size hi - sIx items.size 0 lo) == items.size) = true) := by
    intro q
    rw [Bool.and_eq_true, Bool.and_eq_true] at q
    have q1 : ((sIx items.size 0 lo : Nat) : Int) = 0 := eq_of_beq q.1.1
    have q2 : sIx items.size items.size hi - sIx items.size 0 lo = items.size := eq_of_beq q.2
    exact hw ⟨by omega, by omega⟩
  show wpAny _ _ (if (((sIx items.size 0 lo : Nat) : Int) == 0 && (1 : Int) == 1 && (sIx items.size items.size hi - sIx items.size 0 lo) == items.size) = true then _ else _) _ _ s
  rw [if_neg hno, pick_gen]
  first
    | exact wpAny_bind (m := Builtin.Tuple.tupleExact _) (wpAny_newObj_type (wpAny_pure ⟨_, rfl, wpAny_pure h⟩) htake)
    | exact wpAny_bind (m := Builtin.Tuple.tupleExact _) (wpAny_newObj_type (wpAny_bind (wpAny_pure (wpAny_pure ⟨_, rfl, wpAny_pure h⟩))) htake)
    | exact wpAny_bind (wpAny_bind (m := Builtin.Tuple.tupleExact _) (wpAny_newObj_type (wpAny_pure (wpAny_pure ⟨_, rfl, wpAny_pure h⟩)) htake))
    | exact wpAny_bind (wpAny_bind (m := Builtin.Tuple.tupleExact _) (wpAny_newObj_type (wpAny_pure ⟨_, rfl, wpAny_pure h⟩) htake))
end
end HT
namespace L2
open PySem PySem.Spec PyProof.Rows
abbrev TO := St → Hp → (Option Int → Hp → Prop) → Prop
def PO (X : Cx) (e : Option Expr) (t : TO) : Prop :=
  ∀ (pins : List (Addr × Obj)) (s : Shared) (σ : St) (H : Hp) (Q : Option Int → Hp → Prop), Inv X pins σ H s → t σ H Q →
    wpAny (model X.prog X.w) X.A (evalPart e X.env) (fun u s' => ∃ o H', Inv X pins σ H' s' ∧ IsPart u o ∧ Q o H') X.xe s
def tNoPart : TO := fun _ H Q => Q none H
def tPart (t : TE) : TO := fun σ H Q => t σ H fun x H1 => ∃ i, x = .int i ∧ Q (some i) H1
section
variable {X : Cx} {e : Expr} {te : TE} {lo hi : Option Expr} {tl th : TO} {pos p2 : Pos}
theorem po_none : PO X none tNoPart := by
  intro pins s σ H Q I h
  rw [evalPart_none]
  exact wpAny_pure ⟨none, H, I, .none, h⟩
theorem po_some (h : PE X e te) : PO X (some e) (tPart te) := by
  intro pins s σ H Q I hw
  rw [evalPart_some]
  refine thn (h pins s σ H _ I hw) fun u s1 ⟨x, H1, I1, r1, q1⟩ => ?_
  obtain ⟨i, rfl, q⟩ := q1
  obtain ⟨t, rfl⟩ := r1
  exact ⟨some i, H1, I1, .int i t, q⟩
def SlR (X : Cx) (r : V → Option Int → Option Int → Hp → VK → Prop) : Prop :=
  ∀ (pins : List (Addr × Obj)) (s : Shared) (σ : St) (H : Hp) (x : V) (v vl vu : Value) (lo hi : Option Int) (sl : Addr) (Q : VK), Inv X pins σ H s → RelV x v → s.heap.IsSliceOf sl vl vu .none → IsPart vl lo → IsPart vu hi → r x lo hi H Q →
    ∃ T id, typeLookup (.type T) "__getitem__" = pure (some (.builtin id)) ∧ s.TypeIs v T ∧ wpAny (model X.prog X.w) X.A (getItem v (.ref sl)) (EP X pins σ Q) X.xe s
def tSl (r : V → Option Int → Option Int → Hp → VK → Prop) (te : TE) (tl th : TO) : TE := fun σ H Q => te σ H fun x H1 => tl σ H1 fun l H2 => th σ H2 fun u H3 => r x l u H3 Q
theorem pe_slice {r : V → Option Int → Option Int → Hp → VK → Prop} (hr : SlR X r) (he : PE X e te) (hl : PO X lo tl) (hu : PO X hi th) : PE X (.Subscript e (.Slice lo hi none p2) pos) (tSl r te tl th) := by
  intro pins s σ H Q I h
  refine Subscript_ (thn (he pins s σ H _ I h) fun v s1 ⟨x, H1, I1, r1, q1⟩ => ?_)
  refine wpAny_Slice (thn (hl pins s1 σ H1 _ I1 q1) fun vl s2 ⟨l, H2, I2, pl, q2⟩ => thn (hu pins s2 σ H2 _ I2 q2) fun vu s3 ⟨u, H3, I3, pu, q3⟩ => ?_)
  rw [evalPart_none]
  refine wpAny_pure ?_
  have I4 : Inv X pins σ H3 { s3 with heap := s3.heap.push { cls := .type "slice", data := .fields #[vl, vu, .none] } } := I3.kept (t' := s3.toks) fun b ob q => Heap.get?_push_of_some _ q
  obtain ⟨T, id, hT, ht, hg⟩ := hr pins { s3 with heap := s3.heap.push { cls := .type "slice", data := .fields #[vl, vu, .none] } } σ H3 x v vl vu l u s3.heap.objs.size Q I4 r1 (Heap.IsSliceOf.new ..) pl pu q3
  show wpAny (model X.prog X.w) X.A (subscriptTail e (.Slice lo hi none p2) v (.ref s3.heap.objs.size)) (EP X pins σ Q) X.xe { s3 with heap := s3.heap.push { cls := .type "slice", data := .fields #[vl, vu, .none] } }
  exact tail_any (ops := [.ref s3.heap.objs.size, v]) ht hT hg (by with_unfolding_all rfl)
def cutV (xs : List V) (lo hi : Option Int) : List V := (xs.drop (HT.sIx xs.length 0 lo)).take (HT.sIx xs.length xs.length hi - HT.sIx xs.length 0 lo)
theorem cutV_length (xs : List V) (lo hi : Option Int) : (cutV xs lo hi).length ≤ xs.length := by
  unfold cutV
  rw [List.length_take, List.length_drop]
  omega
def rSlT (K : PySem.W.Frag) : V → Option Int → Option Int → Hp → VK → Prop := fun x lo hi H Q => ∃ a xs, x = .ref a ∧ SqT K H a xs ∧
  ¬ (HT.sIx xs.length 0 lo = 0 ∧ HT.sIx xs.length xs.length hi = xs.length) ∧ ∀ p, H p = none → Q (.ref p) (upd H p (.tup (cutV xs lo hi)))
theorem sl_tup : SlR X (rSlT X.K) := by
  intro pins s σ H x v vl vu lo hi sl Q I rx hs pl pu h
  obtain ⟨a, xs, rfl, hx, hw, q⟩ := h
  cases rx
  obtain ⟨its, r, ht, hz⟩ := I.tuple hx
  have hlen : its.toArray.size = xs.length := by rw [List.size_toArray]; exact r.length.symm
  refine ⟨"tuple", _, PyProof.Rows.slot_tuple_getitem.lookup, ht.typeIs, ?_⟩
  refine HT.getItem_tuple_cut ht hs pl pu (by rw [hlen]; exact hw) ?_ (by rw [hlen]; exact hz)
  rw [hlen]
  refine ⟨.ref s.heap.objs.size, _, I.laid (t' := s.toks) (o := .tup (cutV xs lo hi)) (fun b ob q => Heap.get?_push_of_some _ q) (Nat.le_refl _) ?_, rfl, q _ (I.hok.fresh (Nat.le_refl _))⟩
  exact ⟨Nat.le_trans (cutV_length xs lo hi) hz, _, (r.drop (HT.sIx xs.length 0 lo)).take (HT.sIx xs.length xs.length hi - HT.sIx xs.length 0 lo), IsTup.new _ _⟩
end
end L2
namespace L2
open PySem PySem.Spec PyProof.Rows
def ixN (n : Nat) (i : Int) : Option Nat := if 0 ≤ i then (if i < n then some i.toNat else none) else if -(n : Int) ≤ i then some (i + n).toNat else none
def atI {α : Type} (xs : List α) (i : Int) : Option α := (ixN xs.length i).bind fun j => xs[j]?
theorem ixN_seq {n : Nat} {i : Int} {j : Nat} (h : ixN n i = some j) : seqIndex? i n = some j ∧ j < n ∧ -(n : Int) ≤ i ∧ i < n := by
  unfold ixN at h
  by_cases h0 : 0 ≤ i
  · rw [if_pos h0] at h
    by_cases h1 : i < n
    · rw [if_pos h1] at h
      have e : i.toNat = j := Option.some.inj h
      exact ⟨by rw [seqIndex_of h0 h1, e], by omega, by omega, h1⟩
    · rw [if_neg h1] at h; cases h
  · rw [if_neg h0] at h
    by_cases h1 : -(n : Int) ≤ i
    · rw [if_pos h1] at h
      have e : (i + n).toNat = j := Option.some.inj h
      exact ⟨by rw [seqIndex_neg (by omega) h1, e], by omega, h1, by omega⟩
    · rw [if_neg h1] at h; cases h
theorem atI_get {α : Type} {xs : List α} {i : Int} {v : α} (h : atI xs i = some v) : ∃ j, seqIndex? i xs.length = some j ∧ xs[j]? = some v ∧ j < xs.length ∧ -(xs.length : Int) ≤ i ∧ i < xs.length := by
  unfold atI at h
  cases e : ixN xs.length i with
  | none => rw [e] at h; cases h
  | some j =>
    rw [e] at h
    obtain ⟨h1, h2, h3, h4⟩ := ixN_seq e
    exact ⟨j, h1, h, h2, h3, h4⟩
theorem atI_nat {α : Type} {xs : List α} {j : Nat} {v : α} (h : xs[j]? = some v) : atI xs (j : Int) = some v := by
  have hj : j < xs.length := (List.getElem?_eq_some_iff.mp h).1
  have e : ixN xs.length (j : Int) = some j := by
    unfold ixN
    rw [if_pos (by omega), if_pos (by omega)]; simp
  unfold atI; rw [e]; exact h
def PlainIx (b : Expr) : Prop := ∀ o i, subscripted b false o i = operate [o, i] (getItem o i)
def IxR (X : Cx) (r : R2) : Prop :=
  ∀ (value slice : Expr) (pins : List (Addr × Obj)) (s : Shared) (σ : St) (H : Hp) (x y : V) (v u : Value) (Q : VK), Inv X pins σ H s → RelV x v → RelV y u → r x y H Q →
    subscripted slice false v u = operate [v, u] (getItem v u) → wpAny (model X.prog X.w) X.A (subscriptTail value slice v u) (EP X pins σ Q) X.xe s
def MtR (X : Cx) (id : String) (r : V → List V → Hp → VK → Prop) : Prop :=
  ∀ (pins : List (Addr × Obj)) (s : Shared) (σ : St) (H : Hp) (x : V) (xs : List V) (v : Value) (us : List Value) (Q : VK), Inv X pins σ H s → RelV x v → Vals xs us → r x xs H Q →
    wpAny (model X.prog X.w) X.A (call (.builtin id) (v :: us)) (EP X pins σ Q) X.xe s
section
variable {X : Cx} {a b : Expr} {ta tb : TE} {pos : Pos}
theorem pe_ix {r : R2} (hr : IxR X r) (ha : PE X a ta) (hb : PE X b tb) (hs : PlainIx b) : PE X (.Subscript a b pos) (tOp r ta tb) := by
  intro pins s σ H Q I h
  exact Subscript_ (binT ha hb I h fun v u s2 x y H2 I2 rx ry q => hr a b pins s2 σ H2 x y v u Q I2 rx ry q (hs _ _))
def rIxL (K : PySem.W.Frag) : R2 := fun x y H Q => ∃ p xs i v, x = .ref p ∧ y = .int i ∧ SqL K H p xs ∧ atI xs i = some v ∧ Q v H
def rIxT (K : PySem.W.Frag) : R2 := fun x y H Q => ∃ p xs i v, x = .ref p ∧ y = .int i ∧ SqT K H p xs ∧ atI xs i = some v ∧ Q v H
theorem ix_list : IxR X (rIxL X.K) := by
  intro value slice pins s σ H x y v u Q I rx ry h hs
  obtain ⟨p, xs, i, z, rfl, rfl, hq, he, q⟩ := h
  cases rx
  obtain ⟨t, rfl⟩ := ry
  obtain ⟨its, r, pl, hz⟩ := I.list hq
  obtain ⟨j, h1, h2, h3, h4, h5⟩ := atI_get he
  obtain ⟨w, ew, rw'⟩ := r.get h2
  have hl := r.length
  have hn := line63
  have fin : EP X pins σ Q w s := ⟨z, H, I, rw', q⟩
  by_cases h0 : 0 ≤ i
  · have hj : i.toNat = j := by
      rw [seqIndex_of h0 h5] at h1
      exact Option.some.inj h1
    exact item_listR pl.isList h0 (by omega) (by rw [hj]; simpa using ew) fin hs
  · have hj : (i + (its.toArray.size : Int)).toNat = j := by
      rw [seqIndex_neg (by omega) h4] at h1
      rw [List.size_toArray, ← hl]
      exact Option.some.inj h1
    exact subscriptTail_builtinR (x := w) pl.isList.typeIs slot_list_getitem.lookup
      (wpAny_getItem_list_neg (Q := fun r s' => r = w ∧ EP X pins σ Q r s') pl.isList (by omega) (by rw [List.size_toArray] <;> omega) (by omega) (by rw [hj]; simpa using ew) ⟨rfl, fin⟩) hs
theorem ix_tup : IxR X (rIxT X.K) := by
  intro value slice pins s σ H x y v u Q I rx ry h hs
  obtain ⟨p, xs, i, z, rfl, rfl, hq, he, q⟩ := h
  cases rx
  obtain ⟨t, rfl⟩ := ry
  obtain ⟨its, r, pl, hz⟩ := I.tuple hq
  obtain ⟨j, h1, h2, h3, h4, h5⟩ := atI_get he
  obtain ⟨w, ew, rw'⟩ := r.get h2
  have hl := r.length
  have hn := line63
  have fin : EP X pins σ Q w s := ⟨z, H, I, rw', q⟩
  exact subscriptTail_builtinR (x := w) pl.typeIs slot_tuple_getitem.lookup
    (getItem_tuple (j := j) (Q := fun r s' => r = w ∧ EP X pins σ Q r s') pl (by omega) (by omega) (by rw [List.size_toArray, ← hl]; exact h1) (by simpa using ew) ⟨rfl, fin⟩) hs
theorem Inv.lst {pins : List (Addr × Obj)} {σ : St} {H : Hp} {s : Shared} {p : Addr} {xs : List V} (I : Inv X pins σ H s) (h : H p = some (.lst xs)) :
    ∃ (its : List Value) (n : Nat), Vals xs its ∧ s.heap.get? p = some { cls := .type "list", data := .seq its.toArray n } ∧ xs.length ≤ sizeLine := by
  obtain ⟨z, its, n, r, e⟩ := I.hok p _ h
  exact ⟨its, n, r, e, z⟩
theorem slice_bounds (lo hi : Option Int) (n : Nat) : (sliceBounds lo hi none n).1 = ((HT.sIx n 0 lo : Nat) : Int) ∧ (sliceBounds lo hi none n).2.1 = ((HT.sIx n n hi : Nat) : Int) ∧ (sliceBounds lo hi none n).2.2 = 1 := by
  refine ⟨?_, ?_, rfl⟩
  · cases lo with
    | none => simp [sliceBounds, HT.sIx]
    | some i =>
      simp only [sliceBounds, HT.sIx, Option.getD_none, show (1 : Int) > 0 by decide, if_true]
      by_cases h : i < 0
      · simp only [h, if_true] <;> omega
      · simp only [h, if_false] <;> omega
  · cases hi with
    | none => simp [sliceBounds, HT.sIx]
    | some i =>
      simp only [sliceBounds, HT.sIx, Option.getD_none, show (1 : Int) > 0 by decide, if_true]
      by_cases h : i < 0
      · simp only [h, if_true] <;> omega
      · simp only [h, if_false] <;> omega
theorem slicePick_cut (its : List Value) (lo hi : Option Int) : slicePick its.toArray lo hi none = ((its.drop (HT.sIx its.length 0 lo)).take (HT.sIx its.length its.length hi - HT.sIx its.length 0 lo)).toArray := by
  obtain ⟨h1, h2, h3⟩ := slice_bounds lo hi its.toArray.size
  unfold slicePick
  rw [h1, h2, h3]
  simp only [sliceRange_one, pick_run, List.size_toArray] <;> rfl
def rSlL (K : PySem.W.Frag) : V → Option Int → Option Int → Hp → VK → Prop := fun x lo hi H Q => ∃ a xs, x = .ref a ∧ SqL K H a xs ∧ ∀ p, H p = none → Q (.ref p) (upd H p (.lst (cutV xs lo hi)))
theorem sl_list : SlR X (rSlL X.K) := by
  intro pins s σ H x v vl vu lo hi sl Q I rx hs pl pu h
  obtain ⟨a, xs, rfl, hx, q⟩ := h
  cases rx
  obtain ⟨its, r, ht, hz⟩ := I.list hx
  have hlen := r.length
  refine ⟨"list", _, slot_list_getitem.lookup, ht.isList.typeIs, ?_⟩
  refine wpAny_getItem_list_slice ht.isList hs pl pu .none (by simp) ?_ (by rw [List.size_toArray] <;> omega)
  rw [slicePick_cut, ← hlen]
  refine ⟨.ref s.heap.objs.size, _, I.laid (t' := s.toks) (o := .lst (cutV xs lo hi)) (fun b ob q => Heap.get?_push_of_some _ q) (Nat.le_refl _) ?_, rfl, q _ (I.hok.fresh (Nat.le_refl _))⟩
  exact ⟨Nat.le_trans (cutV_length xs lo hi) hz, _, 0, (r.drop (HT.sIx xs.length 0 lo)).take (HT.sIx xs.length xs.length hi - HT.sIx xs.length 0 lo), Heap.get?_push_size _ rfl⟩
def flatV : V → Bool
  | .non => true
  | .bl _ => true
  | .int _ => true
  | .str _ => true
  | _ => false
def eqV : V → V → Bool
  | .non, .non => true
  | .bl a, .bl b => a == b
  | .bl a, .int b => (if a then 1 else 0) == b
  | .int a, .bl b => a == (if b then 1 else 0)
  | .int a, .int b => a == b
  | .str a, .str b => a == b
  | _, _ => false
theorem eqAt_V {A : Around} {s : Shared} {y x : V} {u v : Value} (ry : RelV y u) (rx : RelV x v) (fy : flatV y = true) (fx : flatV x = true) : SeqAt.EqAt A s u v (eqV y x) := by
  cases y with
  | non =>
    cases ry
    cases x with
    | non => cases rx; exact SeqAt.EqAt.same _
    | bl b => cases rx; exact SeqAt.EqAt.none_bool b
    | int b => obtain ⟨t, rfl⟩ := rx; exact SeqAt.EqAt.none_int b t
    | str b => obtain ⟨t, rfl⟩ := rx; exact SeqAt.EqAt.none_str b t
    | _ => exact absurd (show false = true from fx) Bool.false_ne_true
  | bl a =>
    cases ry
    cases x with
    | non => cases rx; exact SeqAt.EqAt.bool_none a
    | bl b => cases rx; exact SeqAt.EqAt.bool_bool a b
    | int b => obtain ⟨t, rfl⟩ := rx; exact SeqAt.EqAt.bool_int a b t
    | str b => obtain ⟨t, rfl⟩ := rx; exact SeqAt.EqAt.bool_str a b t
    | _ => exact absurd (show false = true from fx) Bool.false_ne_true
  | int a =>
    obtain ⟨t', rfl⟩ := ry
    cases x with
    | non => cases rx; exact SeqAt.EqAt.int_none a t'
    | bl b => cases rx; exact SeqAt.EqAt.int_bool a t' b
    | int b => obtain ⟨t, rfl⟩ := rx; exact SeqAt.EqAt.int_int a t' b t
    | str b => obtain ⟨t, rfl⟩ := rx; exact SeqAt.EqAt.int_str a t' b t
    | _ => exact absurd (show false = true from fx) Bool.false_ne_true
  | str a =>
    obtain ⟨t', rfl⟩ := ry
    cases x with
    | non => cases rx; exact SeqAt.EqAt.str_none a t'
    | bl b => cases rx; exact SeqAt.EqAt.str_bool a t' b
    | int b => obtain ⟨t, rfl⟩ := rx; exact SeqAt.EqAt.str_int a t' b t
    | str b => obtain ⟨t, rfl⟩ := rx; exact SeqAt.EqAt.str_str a t' b t
    | _ => exact absurd (show false = true from fx) Bool.false_ne_true
  | _ => exact absurd (show false = true from fy) Bool.false_ne_true
theorem call_list_of : CallR X (.type "list") (fun xs H Q => ∃ p ys, xs = [.ref p] ∧ (SqL X.K H p ys ∨ SqT X.K H p ys) ∧ ∀ l, H l = none → Q (.ref l) (upd H l (.lst ys))) := by
  intro pins s σ H xs us Q I r h
  obtain ⟨p, ys, rfl, hq, q⟩ := h
  obtain ⟨u, rfl, rx⟩ := vals1 r
  cases rx
  have fin : ∀ (its : List Value), Vals ys its → ys.length ≤ sizeLine → ∀ (h' : Heap) (c' : Nat), (∀ b o', s.heap.get? b = some o' → h'.get? b = some o') →
      h'.get? s.heap.objs.size = some { cls := .type "list", dict := none, data := .seq its.toArray c', slots := #[] } → EP X pins σ Q (.ref s.heap.objs.size) { s with heap := h' } := fun its r' hz h' c' kp e =>
    ⟨.ref s.heap.objs.size, _, I.laid (t' := s.toks) kp (Nat.le_refl _) (show ObjOk X.prog X.w _ h' _ (.lst ys) from ⟨hz, its, c', r', e⟩), rfl, q _ (I.hok.fresh (Nat.le_refl _))⟩
  rcases hq with hq | hq
  · obtain ⟨its, r', pl, hz⟩ := I.list hq
    have hlen := r'.length
    obtain ⟨o, ho, hc, n, hd⟩ := pl.isList
    exact call_list_seq p (.inl rfl) ho hc hd (fun h' c' kp e => fin its r' hz h' c' kp e) (by simp only [List.size_toArray] <;> omega)
  · obtain ⟨its, r', pl, hz⟩ := I.tuple hq
    have hlen := r'.length
    obtain ⟨o, ho, hc, n, hd⟩ := pl
    exact call_list_seq p (.inr rfl) ho hc hd (fun h' c' kp e => fin its r' hz h' c' kp e) (by simp only [List.size_toArray] <;> omega)
def tyV (K : PySem.W.Frag) (T : String) (x : V) (H : Hp) : Prop := match x with
  | .str _ => T = "str"
  | .int _ => T = "int"
  | .ref p => (T = "list" ∧ ∃ xs, SqL K H p xs) ∨ (T = "tuple" ∧ ∃ o, K.lookup p = some o ∧ o.cls = .type "tuple" ∧ o.dict = none) ∨
      (T = "dict" ∧ ((∃ kvs, H p = some (.dK kvs)) ∨ ∃ kvs, H p = some (.dT kvs))) ∨ (T = "set" ∧ ∃ S n, H p = some (.set S n))
  | _ => False
theorem tyV_is {pins : List (Addr × Obj)} {σ : St} {H : Hp} {s : Shared} {T : String} {x : V} {v : Value} (I : Inv X pins σ H s) (r : RelV x v) (ty : tyV X.K T x H) :
    s.TypeIs v T ∧ ∀ a, v = .ref a → ∃ ob, s.heap.get? a = some ob ∧ ob.dict = none := by
  cases x with
  | str z =>
    obtain ⟨t, rfl⟩ := r
    cases (show T = "str" from ty)
    exact ⟨typeIs_str s z t, fun _ e => nomatch e⟩
  | int i =>
    obtain ⟨t, rfl⟩ := r
    cases (show T = "int" from ty)
    exact ⟨typeIs_int s i t, fun _ e => nomatch e⟩
  | ref p =>
    cases r
    rcases ty with ⟨rfl, xs, hq⟩ | ⟨rfl, o, hk, hc, hd⟩ | ⟨rfl, hk⟩ | ⟨rfl, S, n, hk⟩
    · obtain ⟨its, _, pl, _⟩ := I.list hq
      refine ⟨pl.isList.typeIs, fun a e => ?_⟩
      cases e
      obtain ⟨o, n, e, c, hd, _⟩ := pl
      exact ⟨o, e, hd⟩
    · refine ⟨⟨o, I.kIn p o hk, hc⟩, fun a e => ?_⟩
      cases e
      exact ⟨o, I.kIn _ o hk, hd⟩
    · have z : ∃ o, s.heap.get? p = some o ∧ o.ExactDict := by
        rcases hk with ⟨kvs, hk⟩ | ⟨kvs, hk⟩
        · obtain ⟨_, _, _, _, o, _, _, e, ex, _⟩ := I.hok p _ hk
          exact ⟨o, e, ex⟩
        · obtain ⟨_, _, _, _, o, _, _, e, ex, _⟩ := I.hok p _ hk
          exact ⟨o, e, ex⟩
      obtain ⟨o, e, ex⟩ := z
      refine ⟨⟨o, e, ex.1⟩, fun a e2 => ?_⟩
      cases e2
      exact ⟨o, e, ex.2.1⟩
    · obtain ⟨o, _, _, _, e, ex, _⟩ := I.hok p _ hk
      refine ⟨⟨o, e, ex.1⟩, fun a e2 => ?_⟩
      cases e2
      exact ⟨o, e, ex.2.1⟩
  | _ => exact False.elim ty
def tBM0 (K : PySem.W.Frag) (T : String) (r : V → List V → Hp → VK → Prop) (to : TE) : TE := fun σ H Q => to σ H fun x H1 => tyV K T x H1 ∧ r x [] H1 Q
def tBM (K : PySem.W.Frag) (T : String) (r : V → List V → Hp → VK → Prop) (to : TE) (t : TA) : TE := fun σ H Q => to σ H fun x H1 => tyV K T x H1 ∧ t σ H1 fun xs H2 => r x xs H2 Q
variable {o e : Expr} {es : List Expr} {to : TE} {t : TA} {name : Str} {apos cpos : Pos} {T id : String} {r : V → List V → Hp → VK → Prop}
theorem pe_bm0 (pa : PlainAttrs T) (slot : Slot T name id) (hty : typeOf (.builtin id) = pure (.type "method_descriptor")) (hm : MtR X id r) (ho : PE X o to)
    (hbase : attributeBase o name X.env (eval o X.env) = eval o X.env := by rfl) (hline : (apos.endLine == cpos.line) = true := by rfl) : PE X (.Call (.Attribute o name apos) [] [] cpos) (tBM0 X.K T r to) := by
  intro pins s σ H Q I h
  refine wpAny_Call_method0_late hbase hline (thn (ho pins s σ H _ I h) fun v s1 ⟨x, H1, I1, r1, ty, q1⟩ => ?_)
  obtain ⟨h1, h2⟩ := tyV_is I1 r1 ty
  exact ⟨T, id, pa, slot, hty, h1, h2, Calls.callWith_builtin rfl (PySem.evalArgs_none (hm pins s1 σ H1 x [] v [] Q I1 r1 .nil q1))⟩
theorem pe_bm (pa : PlainAttrs T) (slot : Slot T name id) (hty : typeOf (.builtin id) = pure (.type "method_descriptor")) (hm : MtR X id r) (ho : PE X o to) (ha : PA X (e :: es) t)
    (hbase : attributeBase o name X.env (eval o X.env) = eval o X.env := by rfl)
    (hfew : ((backTo cpos (starEach (e :: es) X.env)).all (fun x => !x.1) && (backToKw cpos (keywordEach [] X.env)).all (fun x => x.1.isSome)
      && decide ((e :: es).length + ([] : List Keyword).length + (if ([] : List Keyword).isEmpty then 0 else 1) < 30)) = true := by rfl)
    (hline : (apos.endLine == cpos.line) = true := by rfl) (hs : starEach (e :: es) X.env = (false, eval e X.env) :: starEach es X.env := by rfl) (hplain : (backTo cpos (starEach es X.env)).any (·.1) = false := by rfl) :
    PE X (.Call (.Attribute o name apos) (e :: es) [] cpos) (tBM X.K T r to t) := by
  intro pins s σ H Q I h
  refine wpAny_Call_method_late hbase hfew hline rfl (thn (ho pins s σ H _ I h) fun v s1 ⟨x, H1, I1, r1, ty, q1⟩ => ?_)
  obtain ⟨h1, h2⟩ := tyV_is I1 r1 ty
  refine ⟨T, id, pa, slot, hty, h1, h2, ?_⟩
  have hA := ha cpos pins s1 σ H1 _ I1 q1
  rw [hs] at hA ⊢
  refine Calls.callWith_builtin (by show (false || (backTo cpos (starEach es X.env)).any (·.1)) = false; rw [hplain] <;> rfl) (Calls.evalArgs_plain ?_)
  exact thn hA fun us s2 ⟨vs, H2, I2, r2, q2⟩ => hm pins s2 σ H2 x vs v us Q I2 r1 r2 q2
end
end L2
namespace L2
open PySem PySem.Spec PyProof.Rows
def MtM (X : Cx) (id : String) (r : V → List V → Hp → VK → Prop) : Prop :=
  ∀ (pins : List (Addr × Obj)) (s : Shared) (σ : St) (H : Hp) (x : V) (xs : List V) (v : Value) (us : List Value) (Q : VK), Inv X pins σ H s → RelV x v → Vals xs us → r x xs H Q →
    wpAny (model X.prog X.w) X.A (call (.builtin id) (v :: us)) (EP X pins σ Q) X.xe s
theorem Vals.one : ∀ {x : V} {us : List Value}, Vals [x] us → ∃ u, us = [u] ∧ RelV x u
  | _, _, .cons r .nil => ⟨_, rfl, r⟩
theorem Vals.two : ∀ {x y : V} {us : List Value}, Vals [x, y] us → ∃ u v, us = [u, v] ∧ RelV x u ∧ RelV y v
  | _, _, _, .cons r (.cons q .nil) => ⟨_, _, rfl, r, q⟩
theorem Vals.zero : ∀ {us : List Value}, Vals [] us → us = []
  | _, .nil => rfl
theorem Vals.dropLast {xs : List V} {us : List Value} (h : Vals xs us) : Vals xs.dropLast us.dropLast := by
  induction h with
  | nil => exact .nil
  | cons r t ih =>
    cases t with
    | nil => exact .nil
    | cons q t' => exact .cons r ih
theorem erase_last {α : Type} (l : List α) : l.eraseIdx (l.length - 1) = l.dropLast := by
  induction l with
  | nil => rfl
  | cons a r ih =>
    cases r with
    | nil => rfl
    | cons b r =>
      have e : (a :: b :: r).length - 1 = ((b :: r).length - 1) + 1 := by
        have h1 : (a :: b :: r).length = r.length + 2 := rfl
        have h2 : (b :: r).length = r.length + 1 := rfl
        omega
      rw [e, List.eraseIdx_cons_succ, ih]
      all_goals rfl
section
variable {X : Cx} {pins : List (Addr × Obj)} {σ : St} {H : Hp} {s : Shared} {l b : Addr} {xs ys zs : List V}
theorem Inv.lset {its its' : List Value} {n : Nat} {f : Array Value → Array Value} {t' : Nat} (I : Inv X pins σ H s) (hH : H l = some (.lst xs))
    (e : s.heap.get? l = some { cls := .type "list", data := .seq its.toArray n }) (hf : f its.toArray = its'.toArray) (hv : Vals ys its') (hz : ys.length ≤ sizeLine) :
    Inv X pins σ (upd H l (.lst ys)) { s with heap := s.heap.update l (Obj.mapSeq f), toks := t' } := by
  have q := PySem.IsL.update e f
  rw [hf] at q
  refine I.write (x := l) (e := l) (by rw [hH]; exact trivial) (.inl rfl) (fun b' u hb hu => (Heap.get?_update_other s.heap (Obj.mapSeq f) (Ne.symm hb)).trans hu) ⟨_, q⟩ ?_
  exact ⟨hz, its', _, hv, q⟩
theorem Inv.lnew {its : List Value} {t' : Nat} (I : Inv X pins σ H s) (hv : Vals ys its) (hz : ys.length ≤ sizeLine) :
    Inv X pins σ (upd H s.heap.objs.size (.lst ys)) { s with heap := s.heap.push { cls := .type "list", data := .seq its.toArray }, toks := t' } :=
  I.laid (fun _ _ q => Heap.get?_push_of_some _ q) (Nat.le_refl _) ⟨hz, its, 0, hv, Heap.get?_push_size _ rfl⟩
theorem Inv.fresh (I : Inv X pins σ H s) : H s.heap.objs.size = none := I.hok.fresh (Nat.le_refl _)
theorem Inv.lstM (I : Inv X pins σ H s) (hH : H l = some (.lst xs)) : xs.length ≤ sizeLine ∧ ∃ (its : List Value) (n : Nat), Vals xs its ∧ xs.length = its.length ∧ s.heap.get? l = some { cls := .type "list", data := .seq its.toArray n } := by
  obtain ⟨z, its, n, r, e⟩ := I.hok l _ hH
  exact ⟨z, its, n, r, r.length, e⟩
end
section
variable {X : Cx}
def rAppend : V → List V → Hp → VK → Prop := fun x vs H Q => ∃ l xs y, x = .ref l ∧ vs = [y] ∧ H l = some (.lst xs) ∧ xs.length < sizeLine ∧ Q .non (upd H l (.lst (xs ++ [y])))
theorem mt_append : MtM X "list.append" rAppend := by
  intro pins s σ H x vs v us Q I rx rv h
  obtain ⟨l, xs, y, rfl, rfl, hH, hz, q⟩ := h
  cases rx
  obtain ⟨u, rfl, ru⟩ := rv.one
  obtain ⟨z, its, n, r, hl, e⟩ := I.lstM hH
  refine call_meets F.slot_list_append ⟨_, e, rfl⟩ F.entry_list_append (F.args_list_append_2 _ _) (PySem.list_append l its.toArray n u (by rw [List.size_toArray]; omega)) ⟨e, ?_⟩
  refine ⟨.non, _, I.lset (its' := its ++ [u]) hH e (by simp) (r.append (.cons ru .nil)) ?_, rfl, q⟩
  rw [List.length_append, List.length_singleton]
  omega
def rExtend : V → List V → Hp → VK → Prop := fun x vs H Q => ∃ l b xs zs, x = .ref l ∧ vs = [.ref b] ∧ H l = some (.lst xs) ∧ H b = some (.lst zs) ∧ xs.length + zs.length ≤ sizeLine ∧ Q .non (upd H l (.lst (xs ++ zs)))
def rPop : V → List V → Hp → VK → Prop := fun x vs H Q => ∃ l xs y, x = .ref l ∧ vs = [] ∧ H l = some (.lst xs) ∧ xs[xs.length - 1]? = some y ∧ Q y (upd H l (.lst xs.dropLast))
theorem mt_pop : MtM X "list.pop" rPop := by
  intro pins s σ H x vs v us Q I rx rv h
  obtain ⟨l, xs, y, rfl, rfl, hH, hy, q⟩ := h
  cases rx
  have hus := rv.zero
  subst hus
  obtain ⟨z, its, n, r, hl, e⟩ := I.lstM hH
  obtain ⟨u, hu, ru⟩ := r.get hy
  have hy' : its.toArray[its.toArray.size - 1]? = some u := by
    show its.toArray[its.length - 1]? = some u
    rw [← Array.getElem?_toList, ← hl]
    exact hu
  refine call_meets F.slot_list_pop ⟨_, e, rfl⟩ F.entry_list_pop (F.args_list_pop_1 _) (MeetsSeq.list_pop_last l its.toArray n u hy' (by rw [List.size_toArray]; omega)) ⟨e, ?_⟩
  refine ⟨y, _, I.lset (its' := its.dropLast) hH e ?_ r.dropLast ?_, ru, q⟩
  · show its.toArray.eraseIdxIfInBounds (its.toArray.size - 1) = its.dropLast.toArray
    rw [List.size_toArray, List.eraseIdxIfInBounds_toArray, erase_last]
  · rw [List.length_dropLast]
    omega
def rCat : R2 := fun x y H Q => ∃ l b xs zs, x = .ref l ∧ y = .ref b ∧ H l = some (.lst xs) ∧ H b = some (.lst zs) ∧ xs.length + zs.length ≤ sizeLine ∧ ∀ p, H p = none → Q (.ref p) (upd H p (.lst (xs ++ zs)))
theorem op_cat : OpR X (binaryOp .Add) rCat := by
  intro pins s σ H x y v u Q I rx ry h
  obtain ⟨l, b, xs, zs, rfl, rfl, hH, hB, hz, q⟩ := h
  cases rx
  cases ry
  obtain ⟨z, its, n, r, hl, e⟩ := I.lstM hH
  obtain ⟨z2, its2, n2, r2, hl2, e2⟩ := I.lstM hB
  refine PySem.P.add_list e e2 ?_ (by rw [List.size_toArray, List.size_toArray]; omega)
  have ea : its.toArray ++ its2.toArray = (its ++ its2).toArray := by simp
  rw [ea]
  exact ⟨.ref _, _, I.lnew (t' := s.toks) (r.append r2) (by rw [List.length_append]; omega), rfl, q _ I.fresh⟩
end
section
variable {prog : Program} {w : World} {A : Around} {E : Value → Shared → Prop} {s : Shared}
end
section
variable {X : Cx}
end
end L2
namespace L2
open PySem PySem.Spec PyProof.Rows
section
variable {κ : Type} [DecidableEq κ]
def valV (kvs : List (κ × V)) (k : κ) : Option V := (kvs.find? fun kv => decide (kv.1 = k)).map (·.2)
def putK (kvs : List (κ × V)) (k : κ) (v : V) : List (κ × V) :=
  if (kvs.any fun kv => decide (kv.1 = k)) = true then kvs.map (fun kv => if kv.1 = k then (kv.1, v) else kv) else kvs ++ [(k, v)]
def dropK (kvs : List (κ × V)) (k : κ) : List (κ × V) := kvs.filter fun kv => decide (kv.1 ≠ k)
theorem valV_pos {p : κ × V} {r : List (κ × V)} {k : κ} (e : p.1 = k) : valV (p :: r) k = some p.2 := by simp [valV, List.find?_cons, e]
theorem valV_neg {p : κ × V} {r : List (κ × V)} {k : κ} (e : ¬ p.1 = k) : valV (p :: r) k = valV r k := by simp [valV, List.find?_cons, e]
theorem valV_any (k : κ) : ∀ kvs : List (κ × V), (kvs.any fun kv => decide (kv.1 = k)) = (valV kvs k).isSome
  | [] => rfl
  | p :: r => by
    rw [List.any_cons]
    by_cases e : p.1 = k
    · simp only [valV_pos e, decide_eq_true e, Bool.true_or, Option.isSome_some]
    · rw [valV_neg e, decide_eq_false e, Bool.false_or]; exact valV_any k r
theorem length_putK (kvs : List (κ × V)) (k : κ) (v : V) : (putK kvs k v).length ≤ kvs.length + 1 := by
  unfold putK
  split
  · rw [List.length_map]; omega
  · rw [List.length_append, List.length_cons, List.length_nil]; omega
theorem RelO.isSome_eq {o : Option V} {u : Option Value} (r : RelO o u) : o.isSome = u.isSome := by
  cases o with
  | none => cases u with
    | none => rfl
    | some _ => exact (show False from r).elim
  | some _ => cases u with
    | none => exact (show False from r).elim
    | some _ => rfl
theorem RelO.getD {o : Option V} {u : Option Value} {d : V} {d' : Value} (r : RelO o u) (rd : RelV d d') : RelV (o.getD d) (u.getD d') := by
  cases o with
  | none => cases u with
    | none => exact rd
    | some _ => exact (show False from r).elim
  | some _ => cases u with
    | none => exact (show False from r).elim
    | some _ => exact r
theorem KV.any {kvs : List (κ × V)} {vs : List (κ × Value)} (r : KV kvs vs) (k : κ) : (kvs.any fun kv => decide (kv.1 = k)) = vs.any fun kv => decide (kv.1 = k) := by
  unfold KV at r
  induction r with
  | nil => rfl
  | cons h t ih => rw [List.any_cons, List.any_cons, ih, h.1]
theorem KV.repl {kvs : List (κ × V)} {vs : List (κ × Value)} (r : KV kvs vs) (k : κ) {y : V} {u : Value} (ry : RelV y u) :
    KV (kvs.map fun kv => if kv.1 = k then (kv.1, y) else kv) (vs.map fun kv => if kv.1 = k then (kv.1, u) else kv) := by
  unfold KV at r ⊢
  induction r with
  | nil => exact .nil
  | @cons p q ps qs h t ih =>
    rw [List.map_cons, List.map_cons]
    refine .cons ?_ ih
    obtain ⟨h1, h2⟩ := h
    by_cases e : p.1 = k
    · rw [if_pos e, if_pos (h1.symm.trans e)]; exact ⟨h1, ry⟩
    · rw [if_neg e, if_neg (fun z => e (h1.trans z))]; exact ⟨h1, h2⟩
theorem KV.put {kvs : List (κ × V)} {vs : List (κ × Value)} (r : KV kvs vs) (k : κ) {y : V} {u : Value} (ry : RelV y u) : KV (putK kvs k y) (stored vs k u) := by
  unfold putK stored
  rw [r.any k]
  by_cases e : (vs.any fun kv => decide (kv.1 = k)) = true
  · rw [if_pos e, if_pos e]; exact r.repl k ry
  · rw [if_neg e, if_neg e]; exact Paired.snoc r ⟨rfl, ry⟩
theorem KV.drop {kvs : List (κ × V)} {vs : List (κ × Value)} (r : KV kvs vs) (k : κ) : KV (dropK kvs k) (without vs k) := by
  unfold KV at r ⊢
  unfold dropK without
  induction r with
  | nil => exact .nil
  | @cons p q ps qs h t ih =>
    obtain ⟨h1, h2⟩ := h
    rw [List.filter_cons, List.filter_cons]
    by_cases e : p.1 = k
    · have a : ¬ decide (p.1 ≠ k) = true := by simp [e]
      have b : ¬ decide (q.1 ≠ k) = true := by simp [h1.symm.trans e]
      rw [if_neg a, if_neg b]; exact ih
    · have e' : ¬ q.1 = k := fun z => e (h1.trans z)
      have a : decide (p.1 ≠ k) = true := by simp [e]
      have b : decide (q.1 ≠ k) = true := by simp [e']
      rw [if_pos a, if_pos b]; exact .cons ⟨h1, h2⟩ ih
theorem KV.length {kvs : List (κ × V)} {vs : List (κ × Value)} (r : KV kvs vs) : kvs.length = vs.length := Paired.length r
end
theorem kV_is {P : Program} {w : World} {k : Key} {u : Value} (r : RelV (kV k) u) : (mixKind P w).is k u = true := by
  cases k with
  | inl i => obtain ⟨t, e⟩ := (show ∃ t, u = Value.int i t from r); subst e; exact mixKind_int P w i t
  | inr x => obtain ⟨t, e⟩ := (show ∃ t, u = Value.str x t from r); subst e; exact mixKind_str P w x t
theorem items_are {P : Program} {w : World} : ∀ {ks : List Key} {us : List Value}, Vals (ks.map kV) us → ItemsAre (mixKind P w) ks us
  | [], _, r => by rw [List.map_nil] at r; cases r; exact .nil
  | k :: ks, _, r => by
    rw [List.map_cons] at r
    cases r with
    | cons h t => exact .cons (kV_is h) (items_are t)
abbrev KT (H : Hp) : List (List Key × V) → List (List Key × Addr × Value) → Prop := Paired fun p q => p.1 = q.1 ∧ H q.2.1 = some (.tup (p.1.map kV)) ∧ RelV p.2 q.2.2
theorem KT.val {H : Hp} {kvs : List (List Key × V)} {xs : List (List Key × Addr × Value)} (r : KT H kvs xs) (k : List Key) : RelO (valV kvs k) ((atKey xs k).map (·.2)) := by
  induction r with
  | nil => exact True.intro
  | @cons p q ps qs h t ih =>
    obtain ⟨h1, _, h2⟩ := h
    by_cases e : p.1 = k
    · have e' : q.1 = k := h1.symm.trans e
      have b : atKey (q :: qs) k = some q.2 := by simp [atKey, List.find?_cons, e']
      rw [valV_pos e, b]; exact h2
    · have e' : ¬ q.1 = k := fun z => e (h1.trans z)
      have b : atKey (q :: qs) k = atKey qs k := by simp [atKey, List.find?_cons, e']
      rw [valV_neg e, b]; exact ih
theorem KT.repl {H : Hp} {kvs : List (List Key × V)} {xs : List (List Key × Addr × Value)} (r : KT H kvs xs) (k : List Key) {y : V} {u : Value} (ry : RelV y u) :
    KT H (kvs.map fun kv => if kv.1 = k then (kv.1, y) else kv) (xs.map (putAt k u)) := by
  induction r with
  | nil => exact .nil
  | @cons p q ps qs h t ih =>
    rw [List.map_cons, List.map_cons]
    refine .cons ?_ ih
    obtain ⟨h1, h2, h3⟩ := h
    unfold putAt
    by_cases e : p.1 = k
    · rw [if_pos e, if_pos (h1.symm.trans e)]; exact ⟨h1, h2, ry⟩
    · rw [if_neg e, if_neg (fun z => e (h1.trans z))]; exact ⟨h1, h2, h3⟩
theorem KT.put {H : Hp} {kvs : List (List Key × V)} {xs : List (List Key × Addr × Value)} (r : KT H kvs xs) (k : List Key) {b : Addr} {y : V} {u : Value} (hb : H b = some (.tup (k.map kV))) (ry : RelV y u) :
    KT H (putK kvs k y) (storedH xs k b u) := by
  have e : (kvs.any fun kv => decide (kv.1 = k)) = (atKey xs k).isSome := by
    rw [valV_any, (r.val k).isSome_eq, Option.isSome_map]
  unfold putK storedH
  rw [e]
  by_cases q : (atKey xs k).isSome = true
  · rw [if_pos q, if_pos q]; exact r.repl k ry
  · rw [if_neg q, if_neg q]; exact Paired.snoc r ⟨rfl, hb, ry⟩
theorem KT.keeps {H H' : Hp} {kvs : List (List Key × V)} {xs : List (List Key × Addr × Value)} (r : KT H kvs xs) (ht : ∀ b ys, H b = some (.tup ys) → H' b = some (.tup ys)) : KT H' kvs xs :=
  Paired.mapP r fun _ _ z => ⟨z.1, ht _ _ z.2.1, z.2.2⟩
section
variable {P : Program} {w : World} {H : Hp} {h : Heap} {a : Addr}
theorem rd_of {u : HO} (ok : HOk P w H h) (e : Rd H a u) : ObjOk P w H h a u := e.ok ok
theorem dk_rd {kvs : List (Key × V)} (ok : HOk P w H h) (e : Rd H a (.dK kvs)) : kvs.length ≤ sizeLine ∧ (a == sysModules) = false ∧ ∃ vs, KV kvs vs ∧ h.DictOf (mixKind P w) a vs :=
  show ObjOk P w H h a (.dK kvs) from rd_of ok e
theorem dk_of {kvs : List (Key × V)} (ok : HOk P w H h) (e : H a = some (.dK kvs)) : kvs.length ≤ sizeLine ∧ (a == sysModules) = false ∧ ∃ vs, KV kvs vs ∧ h.DictOf (mixKind P w) a vs := dk_rd ok (.inl e)
theorem key_of {ks : List Key} (ok : HOk P w H h) (e : H a = some (.tup (ks.map kV))) : (tupleKind (mixKind P w)).is h ks a := by
  obtain ⟨_, its, r, o, h1, h2, n, h3⟩ := (show ObjOk P w H h a (.tup (ks.map kV)) from ok a _ e)
  exact ⟨o, its.toArray, n, h1, h2, h3, by simpa using items_are r⟩
theorem dt_rd {kvs : List (List Key × V)} (ok : HOk P w H h) (e : Rd H a (.dT kvs)) : kvs.length ≤ sizeLine ∧ (a == sysModules) = false ∧
    ∃ xs, KT H kvs xs ∧ h.DictOfH (tupleKind (mixKind P w)) a xs := by
  obtain ⟨z, y, xs, r, o, es, ep, h1, h2, h3, h4, h5⟩ := (show ObjOk P w H h a (.dT kvs) from rd_of ok e)
  refine ⟨z, y, xs, r, o, es, ep, h1, h2, h3, h4, fun x hx => ?_, h5⟩
  have all : ∀ {l : List (List Key × V)} {m : List (List Key × Addr × Value)}, KT H l m → ∀ x ∈ m, (tupleKind (mixKind P w)).is h x.1 x.2.1 := by
    intro l m q
    induction q with
    | nil => intro x hx; exact nomatch hx
    | @cons p q ps qs hq t ih =>
      intro x hx
      rcases List.mem_cons.mp hx with e | hx
      · subst e
        exact key_of ok (by rw [← hq.1]; exact hq.2.1)
      · exact ih x hx
  exact all r x hx
theorem dt_of {kvs : List (List Key × V)} (ok : HOk P w H h) (e : H a = some (.dT kvs)) : kvs.length ≤ sizeLine ∧ (a == sysModules) = false ∧
    ∃ xs, KT H kvs xs ∧ h.DictOfH (tupleKind (mixKind P w)) a xs := dt_rd ok (.inl e)
end
def DGet (H : Hp) (a : Addr) (y : V) (r : Option V) : Prop :=
  (∃ kvs k, Rd H a (.dK kvs) ∧ y = kV k ∧ r = valV kvs k) ∨ ∃ kvs k b, Rd H a (.dT kvs) ∧ y = .ref b ∧ H b = some (.tup (k.map kV)) ∧ r = valV kvs k
def DPut (H : Hp) (a : Addr) (y v : V) (H' : Hp) : Prop :=
  (∃ kvs k, H a = some (.dK kvs) ∧ y = kV k ∧ kvs.length < sizeLine ∧ H' = upd H a (.dK (putK kvs k v))) ∨
  ∃ kvs k b, H a = some (.dT kvs) ∧ y = .ref b ∧ H b = some (.tup (k.map kV)) ∧ kvs.length < sizeLine ∧ H' = upd H a (.dT (putK kvs k v))
theorem DGet.k {H : Hp} {a : Addr} {kvs : List (Key × V)} {k : Key} (e : H a = some (.dK kvs)) : DGet H a (kV k) (valV kvs k) := .inl ⟨kvs, k, .inl e, rfl, rfl⟩
theorem DGet.t {H : Hp} {a b : Addr} {kvs : List (List Key × V)} {k : List Key} (e : H a = some (.dT kvs)) (eb : H b = some (.tup (k.map kV))) : DGet H a (.ref b) (valV kvs k) := .inr ⟨kvs, k, b, .inl e, rfl, eb, rfl⟩
theorem DPut.k {H : Hp} {a : Addr} {kvs : List (Key × V)} {k : Key} {v : V} (e : H a = some (.dK kvs)) (hl : kvs.length < sizeLine) : DPut H a (kV k) v (upd H a (.dK (putK kvs k v))) := .inl ⟨kvs, k, e, rfl, hl, rfl⟩
theorem DPut.t {H : Hp} {a b : Addr} {kvs : List (List Key × V)} {k : List Key} {v : V} (e : H a = some (.dT kvs)) (eb : H b = some (.tup (k.map kV))) (hl : kvs.length < sizeLine) :
    DPut H a (.ref b) v (upd H a (.dT (putK kvs k v))) := .inr ⟨kvs, k, b, e, rfl, eb, hl, rfl⟩
section
variable {X : Cx} {pins : List (Addr × Obj)} {σ : St} {H : Hp} {s : Shared} {a : Addr} {y v : V} {u r : Value} {o : Option V} {A : Around} {E : Value → Shared → Prop}
theorem Inv.big (I : Inv X pins σ H s) : sysModules < s.heap.objs.size := by
  have h : mainGlobals < s.heap.objs.size := (I.mod.glob.keeps I.bk).lt
  exact Nat.lt_trans (by decide) h
theorem d_write {h' : Heap} {t' : Nat} {ob : HO} (I : Inv X pins σ H s) (mu : Mut (H a)) (hs : Heap.SameBut a s.heap h') (he : ∃ q, h'.get? a = some q) (new : ObjOk X.prog X.w (upd H a ob) h' a ob) :
    Inv X pins σ (upd H a ob) { s with heap := h', toks := t' } :=
  I.write (x := a) (e := a) mu (.inl rfl) (fun b q hb z => (hs.2 b hb).trans z) he new
theorem dk_new {P : Program} {w : World} {H' : Hp} {h' : Heap} {kvs : List (Key × V)} {vs : List (Key × Value)} (z : kvs.length ≤ sizeLine) (hd : (a == sysModules) = false) (rel : KV kvs vs) (dd : h'.DictOf (mixKind P w) a vs) :
    ObjOk P w H' h' a (.dK kvs) := ⟨z, hd, vs, rel, dd⟩
theorem d_setItem {H' : Hp} {Q : Unit → Shared → Prop} (hu : A.units + 1 < cLine) (I : Inv X pins σ H s) (g : DPut H a y v H') (ry : RelV y u) (rv : RelV v r) (h : ∀ s', Inv X pins σ H' s' → Q () s') :
    wpAny (model X.prog X.w) A (setItem (.ref a) u r) Q E s := by
  rcases g with ⟨kvs, k, e, ey, l, eH⟩ | ⟨kvs, k, b, e, ey, eb, l, eH⟩
  · subst ey eH
    obtain ⟨z, hd, vs, rel, dd⟩ := dk_of I.hok e
    have hz : vs.length ≤ sizeLine := by rw [← rel.length]; exact z
    have hl : (putK kvs k v).length ≤ sizeLine := by have := length_putK kvs k v; omega
    refine wpAny_setItem_pairs (hsz := hz) (kV_is ry) dd fun h' dd' hs => h _ ?_
    have he : ∃ q, h'.get? a = some q := let ⟨q, _, _, hq, _⟩ := dd'; ⟨q, hq⟩
    exact d_write I (by rw [e]; exact True.intro) hs he (dk_new hl hd (rel.put k rv) dd')
  · subst ey eH
    cases (show u = Value.ref b from ry)
    obtain ⟨z, hd, xs, rel, dd⟩ := dt_of I.hok e
    have hz : xs.length ≤ sizeLine := by rw [← Paired.length rel]; exact z
    have hl : (putK kvs k v).length ≤ sizeLine := by have := length_putK kvs k v; omega
    refine wpAny_setItem_heap (hsz := hz) (tupleKind_room_in1 hu) (key_of I.hok eb) dd fun h' dd' hs => h _ ?_
    obtain ⟨q, es, ep, hq, h2, h3, h4, _, h5⟩ := dd'
    refine d_write I (by rw [e]; exact True.intro) hs ⟨q, hq⟩ ⟨hl, hd, _, (rel.put k eb rv).keeps fun c ys ec => ?_, q, es, ep, hq, h2, h3, h4, h5⟩
    rw [upd_ne (ne_of ec e (fun z => nomatch z))]
    exact ec
end
section
variable {X : Cx} {pins : List (Addr × Obj)} {σ : St} {H : Hp} {s : Shared} {a : Addr} {kvs : List (Key × V)} {k : Key} {u : Value} {A : Around} {E : Value → Shared → Prop}
end
def sDPut (td ty tv : TE) : TS := fun D σ H => tv σ H fun v H1 => td σ H1 fun x H2 => ty σ H2 fun y H3 => ∃ a H4, x = .ref a ∧ DPut H3 a y v H4 ∧ D.nx σ H4
section
variable {X : Cx} {o i e value : Expr} {pos pos' tpos : Pos} {td ty tv : TE}
theorem ps_dput (hu : X.A.units + 1 < cLine) (ho : PE X o td) (hi : PE X i ty) (hv : PE X value tv) (hs : swapsWith value (some (.Subscript o i pos')) pos.line X.env = pure false) :
    PS X (.Assign [.Subscript o i pos'] value pos) (sDPut td ty tv) := by
  intro pins s σ H D I h
  refine wpAny_Assign_Subscript (thn (hv pins s σ H _ I h) fun r s1 ⟨v, H1, I1, rv, q1⟩ => thn (ho pins s1 σ H1 _ I1 q1) fun u s2 ⟨x, H2, I2, rx, q2⟩ => thn (hi pins s2 σ H2 _ I2 q2) fun iv s3 ⟨y, H3, I3, ry, a, H4, ex, g, q3⟩ => ?_) hs
  subst ex
  obtain rfl : u = Value.ref a := rx
  exact d_setItem hu I3 g ry rv fun s4 I4 => ⟨σ, H4, I4, q3⟩
end
theorem dk_empty {P : Program} {w : World} {H : Hp} (h : Heap) (hb : sysModules < h.objs.size) : ObjOk P w H (h.push { cls := .type "dict", data := .dict #[] }) h.objs.size (.dK []) :=
  ⟨Nat.zero_le _, beq_eq_false_iff_ne.mpr (Ne.symm (Nat.ne_of_lt hb)), [], .nil, Heap.DictOf.new h⟩
def tDNewK : TE := fun _ H Q => ∀ p, H p = none → Q (.ref p) (upd H p (.dK []))
section
variable {X : Cx} {pos : Pos}
theorem pe_dnewK : PE X (.Dict [] [] pos) tDNewK := fun pins s σ H Q I h =>
  wpAny_Dict_empty ⟨.ref s.heap.objs.size, _, I.laid (a := s.heap.objs.size) (o := .dK []) (t' := s.toks) (fun _ _ q => Heap.get?_push_of_some _ q) (Nat.le_refl _) (dk_empty s.heap I.big), rfl, h _ (I.hok.fresh (Nat.le_refl _))⟩
end
section
variable {X : Cx} {pins : List (Addr × Obj)} {σ : St} {H : Hp} {s : Shared} {a : Addr} {y d : V} {u r : Value} {o : Option V} {A : Around} {E : Value → Shared → Prop}
end
section
variable {X : Cx} {o e f : Expr} {apos cpos : Pos} {td ty tx : TE}
end
section
variable {X : Cx} {pins : List (Addr × Obj)} {σ : St} {H : Hp} {s : Shared} {a : Addr} {kvs : List (Key × V)} {A : Around} {E : Value → Shared → Prop}
end
section
variable {X : Cx} {pins : List (Addr × Obj)} {σ : St} {H : Hp} {s : Shared} {a : Addr} {y : V} {u : Value} {A : Around} {E : Value → Shared → Prop}
end
end L2
namespace Att
open PySem PySem.W PySem.Calls PyProof.Rows
theorem ints_of_wellAll {P : Params} {h : Heap} : ∀ (ns : List Int) (vs : List Value), WellAll P h vs (ns.map WData.int) → IntsAre vs ns := by
  intro ns
  induction ns with
  | nil =>
    intro vs w
    rw [List.map_nil] at w
    cases w
    exact .nil
  | cons n ns ih =>
    intro vs w
    rw [List.map_cons] at w
    cases w with
    | cons a b =>
      cases a
      exact .cons _ _ (ih _ b)
theorem script_of {l : OpenLaw} {n : Nat} (hn : l.most = some n) {P : Params} {h : Heap} {args : List WData} {vals : List Value}
    (hpre : l.row.toRowW.claim.pre args = true) (hwl : WellAll P h vals args) :
    ∃ a vs ns, vals = [Value.ref a] ∧ args = [WData.list (ns.map WData.int)] ∧ h.get? a = some { cls := .type "list", data := .seq vs.toArray } ∧ IntsAre vs ns ∧ ns.length ≤ n := by
  have hsh : WShape.hasAll [] args [.list .int] = true := (pre_splitW hpre).1
  have hc : l.pre.holds [] { args := args } = true := (pre_splitW hpre).2
  obtain ⟨d, r, rfl, h1, h2⟩ := hasAllW_cons hsh
  obtain rfl := hasAllW_nil h2
  obtain ⟨xs, rfl, h3⟩ := hasW_list h1
  obtain ⟨ns, rfl⟩ := items_int h3
  have hlen : ns.length ≤ n := by
    unfold OpenLaw.pre at hc
    have h4 : (WTm.not (.lt (.lit (.int (n : Int))) (.len (.arg 0)))).holds [] { args := [.list (ns.map .int)] } = true := by
      have h4 := (holds_andW hc).1
      rw [hn] at h4
      exact h4
    have h5 := condW_of h4 (w_not (w_lt w_lit (w_len_list (w_arg rfl))))
    rw [List.length_map] at h5
    refine Nat.le_of_not_lt fun q => ?_
    have q' : (n : Int) < ((ns.length : Nat) : Int) := by omega
    first
      | (rw [decide_eq_true q'] at h5; exact absurd h5 (by decide))
      | (simp at h5; omega)
  cases hwl with
  | cons w1 w2 =>
    cases w2
    cases w1 with
    | list ho hall => exact ⟨_, _, ns, rfl, rfl, ho, ints_of_wellAll ns _ hall, hlen⟩
theorem post_true (l : OpenLaw) (args : List WData) : l.row.toRowW.claim.post args (.bool true) args = true :=
  postW_of (r := l.row.toRowW) (X := (true == true))
    (show WShape.has [] (.bool true) .bool = true by first | rfl | decide | simp [WShape.has, WShape.arms, WShape.armsAll])
    (show (WTm.eq .res (.lit (.bool true))).value [] { args := args, res := some (.bool true), after := args } = some (.bool (true == true)) from w_eq_bool (w_res rfl) w_lit) rfl
theorem attach_call {l : OpenLaw} {n : Nat} {q : Program} {loose : List Str} {XP : (Str → Option Value) → Heap → Prop} {YP : World → Heap → Prop} {d : DefRec}
    (hn : l.most = some n) (hdf : d.params.defaults = [])
    (call : ∀ (w : World) (s₀ s₁ : Shared) (mg mb : Str → Option Value) (fa : Addr) (o : Obj) (pm cd doc : Value) (a : Addr) (vs : List Value) (ns : List Int),
      Ground q loose [] XP w s₀ mg mb s₁.heap → YP w s₁.heap →
      s₁.heap.get? fa = some o → o.data = .func (docDef d.name d.params d.body d.scope pm cd doc) → s₁.heap.CodeRec cd d.name → mg d.name = some (.ref fa) →
      s₁.heap.get? a = some { cls := .type "list", data := .seq vs.toArray } → IntsAre vs ns → ns.length ≤ n → s₁.gens = #[] →
      codeAny (model l.prog w) callerA (.call (.ref fa) ⟨[.ref a], []⟩) (fun r s' => r = .ok (.ret (.bool true)) ∧ OldK s₁.heap s'.heap ∧ s'.os = s₁.os ∧ AllBare s'.gens) s₁) :
    WalkO q loose XP YP l.row.toRowW d [] (fun f vs => PySem.call f vs) := by
  intro w s₀ s₁ mg mb G Y fa o pm cd doc dV kV ho hd hcd hD hmg hg args vals as hpre hlay hrd hwl hlo
  obtain rfl : dV = .none := Dflts.none hD hdf
  obtain rfl : kV = .none := Dflts.noKw hD
  obtain ⟨a, vs, ns, rfl, rfl, hobj, hints, hlen⟩ := script_of hn hpre hwl
  refine enter_call (codeAny_mono (call w s₀ s₁ mg mb fa o pm cd doc a vs ns G Y ho (fd_plain hd) hcd hmg hobj hints hlen hg) fun r s' hq => ?_)
  obtain ⟨rfl, h2, h3, h4⟩ := hq
  exact ⟨.inl ⟨.bool true, .bool true, [], rfl, fun _ => rfl, .bool true, post_true l _, fun _ => ⟨List.Pairwise.nil, fun _ hm => (nomatch hm)⟩⟩, h2, h3, h4⟩
section
variable {prog : Program} {w : World} {A : Around} {E : Value → Shared → Prop} {s : Shared} {K : Frag}
def ledger (h : Heap) (L d : Addr) : List (Addr × Obj) := (List.range h.objs.size).filterMap fun a => if a = L ∨ a = d then none else (h.get? a).map fun o => (a, o)
end
end Att
namespace L2
open PySem PySem.Spec PyProof.Rows
theorem vals_ints : ∀ {vs : List Value} {ns : List Int}, IntsAre vs ns → Vals (ns.map V.int) vs
  | _, _, .nil => .nil
  | _, _, .cons n t h => .cons ⟨t, rfl⟩ (vals_ints h)
def Only (H : Hp) : Prop := ∀ b, H b = none ∨ ∃ o xs, H b = some (.frz o (.lst xs))
theorem law_call {P : Program} {w : World} {K : PySem.W.Frag} {mg mb : Str → Option Value} {CX : CXT} {k : Nat} {fa a : Addr} {fd : FuncData} {x : Str} {sp : Sp} {s₁ : Shared} {vs : List Value} {ns : List Int}
    (KX : K.In s₁.heap) (hns : s₁.heap.Ns mainGlobals mg) (hb : s₁.heap.Ns builtinsNs mb) (hbb : ∀ x : Str, x ≠ "__name__" → mb x = bootBuiltins x) (hlim : s₁.heap.NoLimit) (hg : s₁.gens = #[])
    (ha : s₁.heap.get? a = some { cls := .type "list", data := .seq vs.toArray }) (hi : IntsAre vs ns) (hl : ns.length ≤ sizeLine) (hr : Room k callerA)
    (F : ∀ base : Heap, K.In base → base.Ns mainGlobals mg → FnOk P w K mg base CX k fa fd [x] sp) (hbind : ∀ (s : Shared) (u : Value), BindsTo s fd ⟨[u], []⟩ [(x, u)])
    (hsp : ∀ H : Hp, Only H → SqL K H a (ns.map V.int) → sp [.ref a] H (fun v _ => v = .bl true) fun _ _ _ => False)
    (hCX : ∀ H e s', CX [] H s₁ (fun _ _ _ => False) e s' → False) :
    codeAny (model P w) callerA (.call (.ref fa) ⟨[.ref a], []⟩) (fun r s' => r = .ok (.ret (.bool true)) ∧ OldK s₁.heap s'.heap ∧ s'.os = s₁.os ∧ AllBare s'.gens) s₁ := by
  have rv := vals_ints hi
  have lenV := hi.length
  have core : ∀ H : Hp, Only H → SqL K H a (ns.map V.int) → HOk P w H s₁.heap → (∀ b, H b ≠ none → b = a) → (H a ≠ none → K.lookup a = none) →
      codeAny (model P w) callerA (.call (.ref fa) ⟨[.ref a], []⟩) (fun r s' => r = .ok (.ret (.bool true)) ∧ OldK s₁.heap s'.heap ∧ s'.os = s₁.os ∧ AllBare s'.gens) s₁ := by
    intro H hO hS hok hA hK
    have base_of : ∀ {b : Addr} {o : Obj}, s₁.heap.get? b = some o → H b = none → (hidT s₁.heap H).get? b = some o := fun e n => hidT_get e n
    have noA : ∀ {b : Addr} {o : Obj} {es : Array DictEntry} {ep : Nat}, s₁.heap.get? b = some o → o.data = .dict es ep → H b = none := fun {b o es ep} e d => by
      cases q : H b with
      | none => rfl
      | some u =>
        have e' : b = a := hA b (by rw [q]; simp)
        subst e'
        rw [ha] at e; cases e
        have d' : Data.seq vs.toArray _ = Data.dict es ep := d
        cases d'
    have nsK : ∀ {b : Addr} {m : Str → Option Value}, s₁.heap.Ns b m → (hidT s₁.heap H).Ns b m := fun {b m} ⟨o, es, ep, e, d, r⟩ => ⟨o, es, ep, base_of e (noA e d), d, r⟩
    have hKb : K.In (hidT s₁.heap H) := fun b o e => base_of (KX b o e) (by
      cases q : H b with
      | none => rfl
      | some u =>
        have e' : b = a := hA b (by rw [q]; simp)
        subst e'
        rw [hK (by rw [q]; simp)] at e; cases e)
    have hM : Mod K mg (hidT s₁.heap H) := ⟨hKb, nsK hns, ⟨mb, nsK hb, hbb⟩, let ⟨mc, h1, h2⟩ := hlim; ⟨mc, nsK h1, h2⟩⟩
    have e0 : Env0 P w K mg (hidT s₁.heap H) callerA [] s₁ H := ⟨rfl, hM, fun b o e => of_hidT e, Nat.le_of_eq (hidT_size _ _), trivial, fun b hb => absurd (show b ∈ ([] : List Addr) from hb) (by simp), hok, .of_eq hg⟩
    refine codeAny_mono ((F _ hKb (nsK hns)).run callerA [] s₁ H ⟨[.ref a], []⟩ [.ref a] [.ref a] _ _ hr e0 (hbind s₁ (.ref a)) (.cons rfl .nil) (hsp H hO hS)) fun r s' h => ?_
    cases r with
    | error e => exact (hCX H e s' h).elim
    | ok fl =>
      cases fl with
      | next => exact False.elim h
      | brk => exact False.elim h
      | cont => exact False.elim h
      | ret u =>
        obtain ⟨v, H', os, bare, un, hok', r', q⟩ := h
        have q' : v = .bl true := q
        subst q'
        obtain rfl : u = Value.bool true := r'
        refine ⟨rfl, OldK.of_keep fun b o e => ?_, os, bare⟩
        cases q : H b with
        | none => exact un.keep b o e q (by intro z; exact absurd (show b ∈ ([] : List Addr) from z) (by simp)) (by simp)
        | some u =>
          rcases hO b with z | ⟨ob, xs, z⟩
          · rw [q] at z; cases z
          · have z2 := un.frzs b ob _ z
            obtain ⟨e1, _⟩ := hok b _ z
            obtain ⟨e2, _⟩ := hok' b _ z2
            rw [e] at e1; cases e1
            exact e2
  cases hk : K.lookup a with
  | some o =>
    have e := KX a o hk
    rw [ha] at e
    cases e
    refine core (fun _ => none) (fun _ => .inl rfl) (.inr ⟨_, vs.toArray, _, hk, rfl, rfl, rfl, by rw [List.size_toArray, lenV]; exact hl, by simpa using rv⟩) (fun b u z => by have z' : (none : Option HO) = some u := z; cases z') (fun b z => absurd rfl z) fun z => absurd rfl z
  | none =>
    refine core (fun b => if b = a then some (.frz { cls := .type "list", data := .seq vs.toArray } (.lst (ns.map V.int))) else none) (fun b => ?_) (.inl (.inr ⟨{ cls := .type "list", data := .seq vs.toArray }, if_pos rfl⟩)) (fun b u z => ?_) (fun b z => ?_) fun _ => hk
    · by_cases hb : b = a
      · exact .inr ⟨_, _, if_pos hb⟩
      · exact .inl (if_neg hb)
    · by_cases hb : b = a
      · have z' := (if_pos hb).symm.trans z
        cases z'
        subst hb
        exact ⟨ha, by rw [List.length_map]; exact hl, vs, _, rv, ha⟩
      · have z' := (if_neg hb).symm.trans z
        cases z'
    · by_cases hb : b = a
      · exact hb
      · exact absurd (if_neg hb) z
end L2
namespace L2
open PySem PySem.Spec PyProof.Rows
theorem walk_of {l : PySem.W.OpenLaw} {n k : Nat} {q : Program} {loose : List Str} {XP : (Str → Option Value) → Heap → Prop} {YP : World → Heap → Prop} {d : DefRec} {K : Params → PySem.W.Frag} {CX : World → CXT} {sp : World → Sp} {x : Str}
    (hn : l.most = some n) (hn2 : n ≤ sizeLine) (hdf : d.params.defaults = []) (hr : Room k callerA)
    (hY : ∀ (w : World) (h : Heap), YP w h → (K w.params).In h)
    (F : ∀ (w : World) (mg : Str → Option Value) (fa : Addr) (h : Heap), (K w.params).In h → h.Ns mainGlobals mg → mg d.name = some (.ref fa) →
      ∃ fd : FuncData, (∀ (s : Shared) (u : Value), BindsTo s fd ⟨[u], []⟩ [(x, u)]) ∧
        ∀ base : Heap, (K w.params).In base → base.Ns mainGlobals mg → FnOk l.prog w (K w.params) mg base (CX w) k fa fd [x] (sp w))
    (hsp : ∀ (w : World) (H : Hp) (a : Addr) (ns : List Int), ns.length ≤ n → Only H → SqL (K w.params) H a (ns.map V.int) → sp w [.ref a] H (fun v _ => v = .bl true) fun _ _ _ => False)
    (hCX : ∀ (w : World) (H : Hp) (s : Shared) (e : Value) (s' : Shared), CX w [] H s (fun _ _ _ => False) e s' → False) :
    PySem.W.WalkO q loose XP YP l.row.toRowW d [] (fun f vs => PySem.call f vs) := by
  refine Att.attach_call hn hdf fun w s₀ s₁ mg mb fa o pm cd doc a vs ns G Y ho hd hcd hmg hobj hints hlen hg => ?_
  have KX := hY w _ Y
  obtain ⟨fd, hb, hF⟩ := F w mg fa _ KX G.T.g hmg
  exact law_call KX G.T.g G.T.b G.T.builtins G.T.nolimit hg hobj hints (Nat.le_trans hlen hn2) hr hF hb (fun H hO hS => hsp w H a ns hlen hO hS) fun H e s' => hCX w H s₁ e s'
end L2
namespace L2
open PySem PySem.Spec PyProof.Rows
def inClass (s : Stmt) (j : Nat) : Stmt := match s with
  | .ClassDef _ _ _ body _ _ _ _ _ _ _ => body.getD j (.Pass ⟨0, 0, 0, 0⟩)
  | _ => .Pass ⟨0, 0, 0, 0⟩
def defArgs (s : Stmt) : Arguments := match s with
  | .FunctionDef _ a _ _ _ _ _ _ _ _ => a
  | _ => { posonlyargs := [], args := [], vararg := none, kwonlyargs := [], kw_defaults := [], kwarg := none, defaults := [] }
def defBody (s : Stmt) : List Stmt := match s with
  | .FunctionDef _ _ b _ _ _ _ _ _ _ => b
  | _ => []
def defScope (s : Stmt) : Scope := match s with
  | .FunctionDef _ _ _ _ _ _ sc _ _ _ => sc
  | _ => { kind := .function, names := [], isGenerator := false, isCoroutine := false }
abbrev CX0 : CXT := fun _ _ _ _ _ _ => False
structure Fun (K : PySem.W.Frag) (x qual : Str) (st : Stmt) (f : Addr) (fd : FuncData) : Prop where
  ex : ∃ (oc : Value) (od : Option Addr) (kV doc pm : Value) (an : Option Addr) (cdv ct : Value) (osl : Array (Option Value)),
    fd = PySem.W.fnOf x qual (defArgs st) (defBody st) (defScope st) .none kV doc pm an cdv ct ∧ K.lookup f = some ⟨oc, od, .func fd, osl⟩ ∧ PySem.W.codeIn K cdv qual = true
  kp : PySem.W.keepIn K (.ref f) = true
section
variable {P : Program} {w : World} {K : PySem.W.Frag} {mg : Str → Option Value} {base : Heap}
theorem Fun.ok {x qual : Str} {st : Stmt} {f : Addr} {fd : FuncData} {N ps : List Str} {k : Nat} {sp : Sp} (F : Fun K x qual st f fd) (S : FnScope N ps (defScope st)) (len : ∀ vs H Q E, sp vs H Q E → vs.length = ps.length)
    (hbody : ∀ (cdv : Value) (A : Around) (outer : List Env) (s : Shared) (H : Hp) (vs : List V) (Q : VK) (E : XK), Room k (A.deeper (envOfC qual (defScope st) s.heap.objs.size f cdv)) → sp vs H Q E →
      ∃ t, PSs (cxOf CX0 P w K mg base N qual (defScope st) f cdv A outer s H E).nox (defBody st) t ∧ t { nx := fun _ H' => Q .non H', rt := Q } (start N vs) H) : FnOk P w K mg base CX0 (k + 1) f fd ps sp := by
  obtain ⟨oc, od, kV, doc, pm, an, cdv, ct, osl, rfl, lk, hcd⟩ := F.ex
  refine fn_of lk hcd S len fun A outer s H vs Q E hr hsp => ?_
  obtain ⟨t, h, q⟩ := hbody cdv A outer s H vs Q E hr hsp
  exact ⟨t, h.nox, q⟩
theorem Fun.binds {x qual : Str} {st : Stmt} {f : Addr} {fd : FuncData} {ps : List Str} (F : Fun K x qual st f fd)
    (h : ∀ (kV doc pm : Value) (an : Option Addr) (cdv ct : Value) (us : List Value), us.length = ps.length → bindArgs (PySem.W.fnOf x qual (defArgs st) (defBody st) (defScope st) .none kV doc pm an cdv ct) ⟨us, []⟩ = pure (ps.zip us)) : Binds K fd ps [] := by
  obtain ⟨oc, od, kV, doc, pm, an, cdv, ct, osl, rfl, lk, hcd⟩ := F.ex
  exact .all (h kV doc pm an cdv ct)
theorem fun_mk {x qual : Str} {st : Stmt} {f : Addr} {oc : Value} {od an : Option Addr} {osl : Array (Option Value)} {kV doc pm cdv ct : Value} (l : K.lookup f = some ⟨oc, od, .func (PySem.W.fnOf x qual (defArgs st) (defBody st) (defScope st) .none kV doc pm an cdv ct), osl⟩)
    (c : PySem.W.codeIn K cdv qual = true) (k : PySem.W.keepIn K (.ref f) = true) : Fun K x qual st f (PySem.W.fnOf x qual (defArgs st) (defBody st) (defScope st) .none kV doc pm an cdv ct) := ⟨⟨oc, od, kV, doc, pm, an, cdv, ct, osl, rfl, l, c⟩, k⟩
end
theorem hu_of {A : Around} {k : Nat} (hr : Room k A) : A.units + 1 < cLine := Nat.lt_of_le_of_lt (Nat.add_le_add_left (by decide : 1 ≤ 64) _) hr.units
section
variable {X : Cx}
end
theorem iteF {A B : Prop} (h : B) : if false = true then A else B := by
  rw [if_neg Bool.false_ne_true]
  exact h
theorem iteT {A B : Prop} (h : A) : if true = true then A else B := by
  rw [if_pos rfl]
  exact h
theorem ite2 {c A B : Prop} [Decidable c] (h1 : c → A) (h2 : ¬ c → B) : if c then A else B := by
  by_cases h : c
  · rw [if_pos h]
    exact h1 h
  · rw [if_neg h]
    exact h2 h
def Same (H H' : Hp) : Prop := ∀ b o, H b = some o → H' b = some o
theorem Same.trans {H H1 H2 : Hp} (a : Same H H1) (b : Same H1 H2) : Same H H2 := fun c o h => b c o (a c o h)
theorem Same.free {H H' : Hp} (e : Same H H') {l : Addr} (h : H' l = Option.none) : H l = Option.none := by
  cases q : H l with
  | none => rfl
  | some o =>
    rw [e l o q] at h
    cases h
theorem Same.seq {K : PySem.W.Frag} {H H' : Hp} {a : Addr} {xs : List V} (e : Same H H') (h : SqL K H a xs) : SqL K H' a xs := by
  rcases h with (h | ⟨o, h⟩) | h
  · exact .inl (.inl (e _ _ h))
  · exact .inl (.inr ⟨o, e _ _ h⟩)
  · exact .inr h
section
variable {κ : Type} [DecidableEq κ]
end
end L2
set_option maxHeartbeats 4000000
namespace L2
open PySem PySem.Spec PyProof.Rows

structure Fly (B : Heap) (l : List Env) (h : Heap) (H H' : Hp) (h' : Heap) (ea : Addr) (cls : Value) : Prop where
  fl : ∃ a0, Heap.FlyingW B l ea cls a0 h'
  trk : ∀ b u, H' b = some u → ∃ o, B.get? b = some o
  kept : ∀ b o, h.get? b = some o → H b = none → b ∉ frs l → B.get? b = some o
  alive : ∀ b o, h.get? b = some o → b ∉ frs l → ∃ o', B.get? b = some o'
def CXe (P : Program) (w : World) : CXT := fun outer H s E e s' => ∃ ea cls H' B, e = .ref ea ∧ s'.os = s.os ∧ AllBare s'.gens ∧ Un (frs outer) [] H H' s.heap s'.heap ∧ HOk P w H' s'.heap ∧ Fly B outer s.heap H H' s'.heap ea cls ∧ E cls none H'
abbrev XKs := Value → St → Hp → Prop
def XW (X : Cx) (K : XKs) : Prop := ∀ (pins : List (Addr × Obj)) (σ : St) (H : Hp) (s s' : Shared) (ea : Addr) (cls : Value) (H' : Hp) (B : Heap), Inv X pins σ H s → s'.os = s.os → AllBare s'.gens →
  Un (frs X.stack) [] H H' s.heap s'.heap → HOk X.prog X.w H' s'.heap → Fly B X.stack s.heap H H' s'.heap ea cls → K cls σ H' → X.xe (.ref ea) s'

theorem frs_cons {env : Env} {l : List Env} {L : Addr} (h : env.frame = some L) : frs (env :: l) = L :: frs l := by
  unfold frs; rw [List.filterMap_cons, h]

theorem HOk.flown {P : Program} {w : World} {H : Hp} {B h h' : Heap} (x : HOk P w H h) (t : ∀ b u, H b = some u → ∃ o, B.get? b = some o) (s : B.StaysIn h) (s' : B.StaysIn h') : HOk P w H h' := fun a o e =>
  (x a o e).stay (fun b u hb q => by
    have hB : ∃ o, B.get? b = some o := by
      rcases hb with rfl | hb
      · exact t _ _ e
      · exact t _ _ hb
    obtain ⟨o', ho⟩ := hB
    have e1 := s b o' ho
    rw [q] at e1; cases e1
    exact s' b _ ho) (fun _ q => q) fun _ _ q => q

theorem xw_def {P : Program} {w : World} {K : PySem.W.Frag} {mg : Str → Option Value} {base : Heap} {N : List Str} {qual : Str} {scope : Scope} {f : Addr} {cd : Value} {A : Around} {outer : List Env} {s0 : Shared} {H0 : Hp} {E : XK} :
    XW (cxOf (CXe P w) P w K mg base N qual scope f cd A outer s0 H0 E) (fun c _ H' => E c none H') := by
  intro pins σ H s s' ea cls H' B I os bare un hok fly hK
  have I' := I.call' (s' := s') (ch := []) os un hok bare (fun b z => absurd z (by simp))
  have hfr := I.ok.frames
  have hstk : (cxOf (CXe P w) P w K mg base N qual scope f cd A outer s0 H0 E).stack = envOfC qual scope s0.heap.objs.size f cd :: outer := rfl
  rw [hstk] at hfr
  obtain ⟨a0, hfl⟩ := fly.fl
  have hf : (envOfC qual scope s0.heap.objs.size f cd).frame = some s0.heap.objs.size := rfl
  show wpAny _ _ (leaving (envOfC qual scope s0.heap.objs.size f cd) (.ref ea)) _ _ s'
  refine wpAny_leaves_onW hfr hf hfl fun h' fl' up => ?_
  have hfs : frs (envOfC qual scope s0.heap.objs.size f cd :: outer) = s0.heap.objs.size :: frs outer := frs_cons hf
  have nf : ∀ b o, s0.heap.get? b = some o → b ∉ frs outer → b ∉ frs (envOfC qual scope s0.heap.objs.size f cd :: outer) := fun b o e n z => by
    rw [hfs] at z
    rcases List.mem_cons.mp z with z | z
    · exact absurd (Heap.lt_size e) (by rw [z]; exact Nat.lt_irrefl _)
    · exact n z
  have stay : ∀ b o, s0.heap.get? b = some o → H0 b = none → b ∉ frs outer → B.get? b = some o := fun b o e n hb =>
    fly.kept b o (I.base.keep b o e n hb (by intro z; exact absurd z (by simp [cxOf]))) (I.base.free b o e n (by intro z; exact absurd z (by simp [cxOf]))) (nf b o e hb)
  have live : ∀ b o, s0.heap.get? b = some o → b ∉ frs outer → ∃ o', B.get? b = some o' := fun b o e hb => by
    obtain ⟨o1, e1⟩ := I.base.there b o e (by intro z; exact absurd z (by simp [cxOf]))
    exact fly.alive b o1 e1 (nf b o e hb)
  refine ⟨ea, cls, H', B, rfl, I'.os, bare, ?_, hok.flown fly.trk hfl.1 fl'.1, ⟨⟨a0, fl'⟩, fly.trk, stay, live⟩, hK⟩
  have noA : ∀ b : Addr, b ∉ (cxOf (CXe P w) P w K mg base N qual scope f cd A outer s0 H0 E).ex := fun b z => absurd z (by simp [cxOf])
  have slotOf : ∀ b, b ∈ frs outer → ∀ o, s'.heap.get? b = some o → ∃ sl, h'.get? b = some { o with slots := sl } := fun b hb o e => by
    have hm : b ∈ frs (envOfC qual scope s0.heap.objs.size f cd :: outer) := by rw [hfs]; exact List.mem_cons_of_mem _ hb
    obtain ⟨_, o', ho', hd⟩ := hfl.2.2.1.mem hm
    rw [e] at ho'; cases ho'
    exact up b o e hd
  refine ⟨fun b o e n hb _ => fl'.1 b o (stay b o e n hb), fun b o e n hb _ => ?_, fun b o e n _ => I'.base.free b o e n (noA b), fun b o e _ => ?_, I'.base.tups, I'.base.frzs, I'.base.tbls⟩
  · obtain ⟨sl, e1⟩ := I'.base.slot b o e n hb (noA b)
    obtain ⟨sl', e2⟩ := slotOf b hb _ e1
    exact ⟨sl', e2⟩
  · by_cases hb : b ∈ frs outer
    · obtain ⟨o1, e1⟩ := I'.base.there b o e (noA b)
      obtain ⟨sl, e2⟩ := slotOf b hb _ e1
      exact ⟨_, e2⟩
    · obtain ⟨o1, e1⟩ := live b o e hb
      exact ⟨o1, fl'.1 b o1 e1⟩

def Have (P : Program) (w : World) (K : PySem.W.Frag) (mg : Str → Option Value) (base : Heap) (x : Str) (k : Nat) (ps : List Str) (dvs : List V) (sp : Sp) : Prop :=
  ∃ f fd ds, mg x = some (.ref f) ∧ PySem.W.keepIn K (.ref f) = true ∧ Binds K fd ps ds ∧ Vals dvs ds ∧ FnOk P w K mg base (CXe P w) k f fd ps sp
def HaveM (P : Program) (w : World) (K : PySem.W.Frag) (mg : Str → Option Value) (base : Heap) (C : Addr) (m : Str) (k : Nat) (ps : List Str) (dvs : List V) (sp : Sp) : Prop :=
  ∃ f fd ds, Meth K C m f ∧ Binds K fd ps ds ∧ Vals dvs ds ∧ FnOk P w K mg base (CXe P w) k f fd ps sp
def HaveI (P : Program) (w : World) (K : PySem.W.Frag) (mg : Str → Option Value) (base : Heap) (x : Str) (C : Addr) (k : Nat) (ps : List Str) (dvs : List V) (sp : Sp) : Prop :=
  ∃ f fd ds, mg x = some (.ref C) ∧ Mk K C f ∧ Binds K fd ps ds ∧ Vals dvs ds ∧ FnOk P w K mg base (CXe P w) k f fd ps sp
def tCallE (Kx : XKs) (sp : Sp) (dvs : List V) (t : TA) : TE := fun σ H Q => t σ H fun vs H1 => sp (vs ++ dvs) H1 Q (fun c _ H' => Kx c σ H')
def tMethE (Kx : XKs) (C : Addr) (m : Str) (sp : Sp) (dvs : List V) (ta : TE) (t : TA) : TE := fun σ H Q => ta σ H fun x H1 => ∃ a dx fs, x = .ref a ∧ H1 a = some (.ins C dx fs) ∧ fs.lookup m = none ∧
  t σ H1 fun vs H2 => sp (x :: (vs ++ dvs)) H2 Q (fun c _ H' => Kx c σ H')
def tMakeE (Kx : XKs) (C : Addr) (sp : Sp) (dvs : List V) (t : TA) : TE := fun σ H Q => t σ H fun vs H1 => ∀ x dx, H1 x = none → H1 dx = none → dx ≠ x →
  sp (.ref x :: (vs ++ dvs)) (upd (upd H1 dx (.own x)) x (.ins C dx [])) (fun v H2 => v = .non ∧ Q (.ref x) H2) (fun c _ H' => Kx c σ H')
section
variable {X : Cx} {Kx : XKs} {k : Nat} {f C : Addr} {fd : FuncData} {ps : List Str} {sp : Sp} {dvs : List V} {ds : List Value} {x m : Str} {p pos apos : Pos} {e o : Expr} {es : List Expr} {ta : TE} {t : TA}
theorem run_fnE {pins : List (Addr × Obj)} {σ : St} {H : Hp} {s : Shared} {Q : VK} {us : List Value} {vs : List V} (F : FnOk X.prog X.w X.K X.mg X.base (CXe X.prog X.w) k f fd ps sp) (hr : Room k X.A) (hb : Binds X.K fd ps ds) (hd : Vals dvs ds) (hx : XW X Kx)
    (I : Inv X pins σ H s) (r : Vals vs us) (h : sp (vs ++ dvs) H Q (fun c _ H' => Kx c σ H')) : wpAny (model X.prog X.w) X.A (call (.ref f) us) (EP X pins σ Q) X.xe s := by
  have r2 : Vals (vs ++ dvs) (us ++ ds) := r.append hd
  have hl : (us ++ ds).length = ps.length := by rw [← r2.length]; exact F.len _ _ _ _ h
  refine wpAny_call (codeAny_mono (F.run X.A X.stack s H ⟨us, []⟩ (us ++ ds) (vs ++ dvs) Q _ hr I.env0 (hb s us I.kIn hl) r2 h) fun r s' hq => ?_)
  cases r with
  | error e =>
    obtain ⟨ea, cls, H', B, rfl, os, bare, un, hok, fly, hK⟩ := hq
    exact hx pins σ H s s' ea cls H' B I os bare un hok fly hK
  | ok fl =>
    cases fl with
    | ret u => exact I.after hq
    | next => exact False.elim hq
    | brk => exact False.elim hq
    | cont => exact False.elim hq
theorem pe_callE (F : Have X.prog X.w X.K X.mg X.base x k ps dvs sp) (hr : Room k X.A) (hx : XW X Kx) (ha : PA X (e :: es) t) (hg : Gl X x := by rfl) (hdb : (x == ("__debug__" : Str)) = false := by decide)
    (he : starEach (e :: es) X.env = (false, eval e X.env) :: starEach es X.env := by rfl) (hpl : (backTo pos (starEach es X.env)).any (·.1) = false := by rfl) :
    PE X (.Call (.Name x p) (e :: es) [] pos) (tCallE Kx sp dvs t) := by
  obtain ⟨f, fd, ds, hm, hk, hb, hd, F⟩ := F
  intro pins s σ H Q I h
  refine wpAny_Call_Name_kw (ld_glob I hg hm ?_ hdb)
  refine PySem.W.callWith_K (h₀ := X.base) I.ok.mod.kin hk (thn (ha pos pins s σ H _ I h) fun us s1 ⟨vs, H1, I1, r, q⟩ => ⟨I1.kIn, ?_⟩) he hpl
  exact run_fnE F hr hb hd hx I1 r q
theorem pe_methE {pl : Sem Bool} (ho : PE X o ta) (c : Cls X.K C) (F : HaveM X.prog X.w X.K X.mg X.base C m k ps dvs sp) (hr : Room k X.A) (hx : XW X Kx) (ha : PA X (e :: es) t)
    (hst : starEach (e :: es) X.env = (false, eval e X.env) :: starEach es X.env := by rfl) (hpl : (backTo pos (starEach es X.env)).any (·.1) = false := by rfl)
    (ht : eval (.Call (.Attribute o m apos) (e :: es) [] pos) X.env = (do
      let ov ← eval o X.env
      standAt apos.atName
      let (f, first) ← holding [ov] (getMethod ov m pl)
      callWith pos f first (backTo pos (starEach (e :: es) X.env)) (backToKw pos (keywordEach [] X.env))) := by rfl) :
    PE X (.Call (.Attribute o m apos) (e :: es) [] pos) (tMethE Kx C m sp dvs ta t) := by
  obtain ⟨f, fd, ds, hm, hb, hd, F⟩ := F
  intro pins s σ H Q I h
  refine PySem.W.methodCall_KW (pl := pl) (thn (ho pins s σ H _ I h) fun u s1 ⟨x, H1, I1, rx, a, dx, fs, ex, ea, l, q⟩ => ?_) ht
  subst ex
  obtain rfl : u = Value.ref a := rx
  refine getmeth_ok I1 ea c hm l ?_
  refine PySem.W.callWith_K (first := [.ref a]) (h₀ := X.base) I.ok.mod.kin hm.kp (thn (ha pos pins s1 σ H1 _ I1 q) fun us s2 ⟨vs, H2, I2, r, q2⟩ => ⟨I2.kIn, ?_⟩) hst hpl
  exact run_fnE (us := .ref a :: us) (vs := .ref a :: vs) F hr hb hd hx I2 (.cons rfl r) q2
theorem pe_methE0 {pl : Sem Bool} (ho : PE X o ta) (c : Cls X.K C) (F : HaveM X.prog X.w X.K X.mg X.base C m k ps dvs sp) (hr : Room k X.A) (hx : XW X Kx)
    (ht : eval (.Call (.Attribute o m apos) [] [] pos) X.env = (do
      let ov ← eval o X.env
      standAt apos.atName
      let (f, first) ← holding [ov] (getMethod ov m pl)
      callWith pos f first (backTo pos (starEach [] X.env)) (backToKw pos (keywordEach [] X.env))) := by rfl) :
    PE X (.Call (.Attribute o m apos) [] [] pos) (tMethE Kx C m sp dvs ta tNil) := by
  obtain ⟨f, fd, ds, hm, hb, hd, F⟩ := F
  intro pins s σ H Q I h
  refine PySem.W.methodCall_KW (pl := pl) (thn (ho pins s σ H _ I h) fun u s1 ⟨x, H1, I1, rx, a, dx, fs, ex, ea, l, q⟩ => ?_) ht
  subst ex
  obtain rfl : u = Value.ref a := rx
  refine getmeth_ok I1 ea c hm l ?_
  exact PySem.W.callWith_K0 (first := [.ref a]) I1.kIn hm.kp (run_fnE (us := [.ref a]) (vs := [.ref a]) F hr hb hd hx I1 (.cons rfl .nil) q)
theorem run_makeE {pins : List (Addr × Obj)} {σ : St} {H : Hp} {s : Shared} {Q : VK} {us : List Value} {vs : List V} (M : Mk X.K C f) (F : FnOk X.prog X.w X.K X.mg X.base (CXe X.prog X.w) k f fd ps sp) (hr : Room (k + 1) X.A) (hb : Binds X.K fd ps ds) (hd : Vals dvs ds)
    (hx : XW X Kx) (I : Inv X pins σ H s) (r : Vals vs us)
    (h : ∀ x dx, H x = none → H dx = none → dx ≠ x → sp (.ref x :: (vs ++ dvs)) (upd (upd H dx (.own x)) x (.ins C dx [])) (fun v H2 => v = .non ∧ Q (.ref x) H2) (fun c _ H' => Kx c σ H')) :
    wpAny (model X.prog X.w) X.A (call (.ref C) us) (EP X pins σ Q) X.xe s := by
  have hq := h (s.heap.objs.size + 1) s.heap.objs.size (I.hok.fresh (Nat.le_succ _)) (I.hok.fresh (Nat.le_refl _)) (Nat.ne_of_lt (Nat.lt_succ_self _))
  have I2 := Inv.made (C := C) I
  have r2 : Vals (V.ref (s.heap.objs.size + 1) :: (vs ++ dvs)) (Value.ref (s.heap.objs.size + 1) :: (us ++ ds)) := .cons rfl (r.append hd)
  have hl : (Value.ref (s.heap.objs.size + 1) :: us ++ ds).length = ps.length := by
    have e := r2.length
    rw [F.len _ _ _ _ hq] at e
    exact e.symm
  refine wpAny_call (make_map (f := f) I.kIn M.makes M.init (beq_iff_eq.mp M.fn) (codeAny_mono (F.run _ X.stack _ _ ⟨Value.ref (s.heap.objs.size + 1) :: us, []⟩ (Value.ref (s.heap.objs.size + 1) :: (us ++ ds)) _ _ _ (hr.make C us [])
    (I2.env0.make C us []) (hb _ (Value.ref (s.heap.objs.size + 1) :: us) I2.kIn hl) r2 hq) fun r s' hq' => ?_))
  cases r with
  | error e =>
    obtain ⟨ea, cls, H', B, rfl, os, bare, un, hok, fly, hK⟩ := hq'
    exact hx pins σ _ _ s' ea cls H' B I2 os bare un hok fly hK
  | ok fl =>
    cases fl with
    | ret u =>
      obtain ⟨v, H', I3, rv, ev, q3⟩ := I2.after hq'
      subst ev
      exact ⟨rv, ⟨V.ref (s.heap.objs.size + 1), H', I3, rfl, q3⟩⟩
    | next => exact False.elim hq'
    | brk => exact False.elim hq'
    | cont => exact False.elim hq'
theorem pe_makeE0 (F : HaveI X.prog X.w X.K X.mg X.base x C k ps dvs sp) (hr : Room (k + 1) X.A) (hx : XW X Kx) (hg : Gl X x := by rfl) (hdb : (x == ("__debug__" : Str)) = false := by decide) :
    PE X (.Call (.Name x p) [] [] pos) (tMakeE Kx C sp dvs tNil) := by
  obtain ⟨f, fd, ds, hm, M, hb, hd, F⟩ := F
  intro pins s σ H Q I h
  refine wpAny_Call_Name_kw (ld_glob I hg hm ?_ hdb)
  exact PySem.W.callWith_K0 I.kIn M.kp (run_makeE (us := []) M F hr hb hd hx I .nil h)
theorem pe_globE {v : V} (hg : Gl X x) (hm : ∃ u, X.mg x = some u ∧ RelV v u) (hd : (x == ("__debug__" : Str)) = false := by decide) : PE X (.Name x pos) (tC v) := by
  obtain ⟨u, hm, r⟩ := hm
  exact pe_glob hg hm r hd
theorem pe_bltnE {n : String} (hg : Gl X x) (hm : X.mg x = none) (hv : bootBuiltins x = some (.type n)) (hn : x ≠ "__name__" := by decide) (hd : (x == ("__debug__" : Str)) = false := by decide) : PE X (.Name x pos) (tC (.ty n)) := pe_bltn hg hm hv rfl hn hd
end
def Raw (K : PySem.W.Frag) (mg : Str → Option Value) (x qual : Str) (st : Stmt) (ps : List Str) (dvs : List V) : Prop := ∃ f fd ds, mg x = some (.ref f) ∧ Fun K x qual st f fd ∧ Binds K fd ps ds ∧ Vals dvs ds
def RawM (K : PySem.W.Frag) (C : Addr) (m qual : Str) (st : Stmt) (ps : List Str) (dvs : List V) : Prop := ∃ f fd ds, Meth K C m f ∧ Fun K m qual st f fd ∧ Binds K fd ps ds ∧ Vals dvs ds
def RawI (K : PySem.W.Frag) (mg : Str → Option Value) (x : Str) (C : Addr) (qual : Str) (st : Stmt) (ps : List Str) (dvs : List V) : Prop := ∃ f fd ds, mg x = some (.ref C) ∧ Mk K C f ∧ Fun K "__init__" qual st f fd ∧ Binds K fd ps ds ∧ Vals dvs ds
section
variable {P : Program} {w : World} {K : PySem.W.Frag} {mg : Str → Option Value} {base : Heap}
def Body (P : Program) (w : World) (K : PySem.W.Frag) (mg : Str → Option Value) (base : Heap) (qual : Str) (st : Stmt) (N : List Str) (k : Nat) (sp : Sp) : Prop :=
  ∀ (f : Addr) (cdv : Value) (A : Around) (outer : List Env) (s : Shared) (H : Hp) (vs : List V) (Q : VK) (E : XK), Room k (A.deeper (envOfC qual (defScope st) s.heap.objs.size f cdv)) → sp vs H Q E →
    ∃ t, PSs (cxOf (CXe P w) P w K mg base N qual (defScope st) f cdv A outer s H E) (defBody st) t ∧ t { nx := fun _ H' => Q .non H', rt := Q } (start N vs) H
theorem Fun.okE {x qual : Str} {st : Stmt} {f : Addr} {fd : FuncData} {N ps : List Str} {k : Nat} {sp : Sp} (F : Fun K x qual st f fd) (S : FnScope N ps (defScope st)) (len : ∀ vs H Q E, sp vs H Q E → vs.length = ps.length)
    (hbody : Body P w K mg base qual st N k sp) : FnOk P w K mg base (CXe P w) (k + 1) f fd ps sp := by
  obtain ⟨oc, od, kV, doc, pm, an, cdv, ct, osl, rfl, lk, hcd⟩ := F.ex
  exact fn_of lk hcd S len fun A outer s H vs Q E hr hsp => hbody f cdv A outer s H vs Q E hr hsp
theorem Raw.have {x qual : Str} {st : Stmt} {N ps : List Str} {dvs : List V} {k : Nat} {sp : Sp} (R : Raw K mg x qual st ps dvs) (S : FnScope N ps (defScope st)) (len : ∀ vs H Q E, sp vs H Q E → vs.length = ps.length)
    (hbody : Body P w K mg base qual st N k sp) : Have P w K mg base x (k + 1) ps dvs sp :=
  let ⟨f, fd, ds, hm, F, hb, hd⟩ := R
  ⟨f, fd, ds, hm, F.kp, hb, hd, F.okE S len hbody⟩
theorem RawM.have {C : Addr} {m qual : Str} {st : Stmt} {N ps : List Str} {dvs : List V} {k : Nat} {sp : Sp} (R : RawM K C m qual st ps dvs) (S : FnScope N ps (defScope st)) (len : ∀ vs H Q E, sp vs H Q E → vs.length = ps.length)
    (hbody : Body P w K mg base qual st N k sp) : HaveM P w K mg base C m (k + 1) ps dvs sp :=
  let ⟨f, fd, ds, hm, F, hb, hd⟩ := R
  ⟨f, fd, ds, hm, hb, hd, F.okE S len hbody⟩
theorem RawI.have {C : Addr} {x qual : Str} {st : Stmt} {N ps : List Str} {dvs : List V} {k : Nat} {sp : Sp} (R : RawI K mg x C qual st ps dvs) (S : FnScope N ps (defScope st)) (len : ∀ vs H Q E, sp vs H Q E → vs.length = ps.length)
    (hbody : Body P w K mg base qual st N k sp) : HaveI P w K mg base x C (k + 1) ps dvs sp :=
  let ⟨f, fd, ds, hm, M, F, hb, hd⟩ := R
  ⟨f, fd, ds, hm, M, hb, hd, F.okE S len hbody⟩
end
end L2
namespace L2
open PySem PySem.Spec PyProof.Rows

def XR (X : Cx) (K : XKs) : Prop := ∀ (pins : List (Addr × Obj)) (σ : St) (H : Hp) (s : Shared) (h' : Heap) (e : Addr) (cls : Value) (args : List Value), Inv X pins σ H s → Heap.MadeExcOf s.heap h' e cls args → K cls σ H → X.xe (.ref e) { s with heap := h' }

theorem HOk.alive {P : Program} {w : World} {H : Hp} {h : Heap} (x : HOk P w H h) {b : Addr} {u : HO} (e : H b = some u) : ∃ o, h.get? b = some o := by
  have q := x b u e
  cases u with
  | lst xs => obtain ⟨_, _, _, _, e⟩ := q; exact ⟨_, e⟩
  | tup xs => obtain ⟨_, _, _, ⟨o, e, _⟩⟩ := q; exact ⟨_, e⟩
  | dK kvs => obtain ⟨_, _, _, _, o, _, _, e, _⟩ := q; exact ⟨_, e⟩
  | dT kvs => obtain ⟨_, _, _, _, o, _, _, e, _⟩ := q; exact ⟨_, e⟩
  | set S n => obtain ⟨o, _, _, _, e, _⟩ := q; exact ⟨_, e⟩
  | ins C dx fs => obtain ⟨_, _, _, e, _⟩ := q; exact ⟨_, e⟩
  | own y => exact q
  | xd fs => obtain ⟨_, ⟨_, _, _, e, _⟩, _⟩ := q; exact ⟨_, e⟩
  | rng lo hi => obtain ⟨_, _, _, e⟩ := q; exact ⟨_, e⟩
  | frz ob u => obtain ⟨e, _⟩ := q; exact ⟨_, e⟩
  | tbl ps => exact ⟨_, q⟩
  | met f y => exact ⟨_, q⟩
  | ext φ => obtain ⟨_, e, _⟩ := q; exact e

theorem xr_def {P : Program} {w : World} {K : PySem.W.Frag} {mg : Str → Option Value} {base : Heap} {N : List Str} {qual : Str} {scope : Scope} {f : Addr} {cd : Value} {A : Around} {outer : List Env} {s0 : Shared} {H0 : Hp} {E : XK} :
    XR (cxOf (CXe P w) P w K mg base N qual scope f cd A outer s0 H0 E) (fun c _ H' => E c none H') := by
  intro pins σ H s h1 ea cls args I mk hK
  have hfr := I.ok.frames
  have hstk : (cxOf (CXe P w) P w K mg base N qual scope f cd A outer s0 H0 E).stack = envOfC qual scope s0.heap.objs.size f cd :: outer := rfl
  have hfun := I.stack
  have hfree := I.stkFree
  rw [hstk] at hfr hfun hfree
  have hf : (envOfC qual scope s0.heap.objs.size f cd).frame = some s0.heap.objs.size := rfl
  have hfs : frs (envOfC qual scope s0.heap.objs.size f cd :: outer) = s0.heap.objs.size :: frs outer := frs_cons hf
  have noA : ∀ b : Addr, b ∉ (cxOf (CXe P w) P w K mg base N qual scope f cd A outer s0 H0 E).ex := fun b z => absurd z (by simp [cxOf])
  have nf : ∀ b o, s0.heap.get? b = some o → b ∉ frs outer → b ∉ frs (envOfC qual scope s0.heap.objs.size f cd :: outer) := fun b o e n z => by
    rw [hfs] at z
    rcases List.mem_cons.mp z with z | z
    · exact absurd (Heap.lt_size e) (by rw [z]; exact Nat.lt_irrefl _)
    · exact n z
  show wpAny _ _ (leaving (envOfC qual scope s0.heap.objs.size f cd) (.ref ea)) _ _ _
  refine wpAny_leaves_madeW (base := PySem.W.hideAll s.heap (frs (envOfC qual scope s0.heap.objs.size f cd :: outer))) (h := s.heap) hfr hf (fun b o q => PySem.W.of_hideAll _ q)
    (PySem.W.funFrames_hide hfun fun env he b hb => List.mem_filterMap.mpr ⟨env, he, hb⟩) mk fun h' t fl' _ _ up => ?_
  have inB : ∀ b o, s.heap.get? b = some o → b ∉ frs (envOfC qual scope s0.heap.objs.size f cd :: outer) → (PySem.W.hideAll s.heap (frs (envOfC qual scope s0.heap.objs.size f cd :: outer))).get? b = some o := fun b o e n => PySem.W.hideAll_get _ e n
  have stay : ∀ b o, s0.heap.get? b = some o → H0 b = none → b ∉ frs outer → (PySem.W.hideAll s.heap (frs (envOfC qual scope s0.heap.objs.size f cd :: outer))).get? b = some o := fun b o e n hb =>
    inB b o (I.base.keep b o e n hb (noA b)) (nf b o e hb)
  have live : ∀ b o, s0.heap.get? b = some o → b ∉ frs outer → ∃ o', (PySem.W.hideAll s.heap (frs (envOfC qual scope s0.heap.objs.size f cd :: outer))).get? b = some o' := fun b o e hb => by
    obtain ⟨o1, e1⟩ := I.base.there b o e (noA b)
    exact ⟨o1, inB b o1 e1 (nf b o e hb)⟩
  have trk : ∀ b u, H b = some u → ∃ o, (PySem.W.hideAll s.heap (frs (envOfC qual scope s0.heap.objs.size f cd :: outer))).get? b = some o := fun b u e => by
    obtain ⟨o, ho⟩ := I.hok.alive e
    exact ⟨o, inB b o ho fun z => by rw [hfree b z] at e; cases e⟩
  have slotOf : ∀ b, b ∈ frs outer → ∀ o, s.heap.get? b = some o → ∃ sl, h'.get? b = some { o with slots := sl } := fun b hb o e => by
    have hm : b ∈ frs (envOfC qual scope s0.heap.objs.size f cd :: outer) := by rw [hfs]; exact List.mem_cons_of_mem _ hb
    obtain ⟨_, o', ho', hd⟩ := hfun.mem hm
    rw [e] at ho'; cases ho'
    exact up b o (mk.keeps b o e) hd
  refine ⟨ea, cls, H, _, rfl, I.os, I.bare, ?_, I.hok.flown trk (fun b o q => PySem.W.of_hideAll _ q) fl'.1, ⟨⟨_, fl'⟩, trk, stay, live⟩, hK⟩
  refine ⟨fun b o e n hb _ => fl'.1 b o (stay b o e n hb), fun b o e n hb _ => ?_, fun b o e n _ => I.base.free b o e n (noA b), fun b o e _ => ?_, I.base.tups, I.base.frzs, I.base.tbls⟩
  · obtain ⟨sl, e1⟩ := I.base.slot b o e n hb (noA b)
    obtain ⟨sl', e2⟩ := slotOf b hb _ e1
    exact ⟨sl', e2⟩
  · by_cases hb : b ∈ frs outer
    · obtain ⟨o1, e1⟩ := I.base.there b o e (noA b)
      obtain ⟨sl, e2⟩ := slotOf b hb _ e1
      exact ⟨_, e2⟩
    · obtain ⟨o1, e1⟩ := live b o e hb
      exact ⟨o1, fl'.1 b o1 e1⟩

abbrev mroVE : List Value := [.type "ValueError", .type "Exception", .type "BaseException", .type "object"]
structure XC (K : PySem.W.Frag) (mg : Str → Option Value) (x : Str) (C : Addr) : Prop where
  m : mg x = some (.ref C)
  ex : PySem.W.excIn K C mroVE "ValueError.__new__" = true
theorem exc_obj {K : PySem.W.Frag} {h : Heap} {C : Addr} {l : List Value} {id : String} (hin : K.In h) (q : PySem.W.excIn K C l id = true) :
    ∃ bm N nm qn bs hdct sn sub ab col dd k0 k1 k2 k3 k5 mN, h.get? C = some (excClassObj nm qn C N bs bm hdct sn sub ab col dd k0 k1 k2 k3 k5 id) ∧ h.Ns N mN ∧ mN "__init__" = none ∧ OwnTail h l bm := by
  unfold PySem.W.excIn at q
  split at q
  case h_2 => cases q
  case h_1 dd cd sl ho =>
    split at q
    case h_2 => cases q
    case h_1 C' bm k0 k1 k2 k3 n k5 hm hs =>
      rw [Bool.and_eq_true, Bool.and_eq_true, Bool.and_eq_true, Bool.and_eq_true, Bool.and_eq_true] at q
      obtain ⟨⟨⟨⟨⟨q1, q2⟩, q3⟩, q4⟩, q5⟩, q6⟩ := q
      have e1 := beq_iff_eq.mp q1
      have e2 := beq_iff_eq.mp q2
      have e6 := beq_iff_eq.mp q6
      subst e1 e2
      obtain ⟨nm, bs, mro, ns, qn, hd, sn, sub, ab, col, del⟩ := cd
      have e3 : del = false := by
        cases del with
        | false => rfl
        | true => cases q3
      have hm' : mro = .ref C' :: bm := hm
      subst e3 hm'
      obtain ⟨l'⟩ := sl
      have hs' : l' = [k0, k1, k2, k3, some (.builtin n), k5] := hs
      subst hs'
      exact ⟨bm, ns, nm, qn, bs, hd, sn, sub, ab, col, dd, k0, k1, k2, k3, k5, _, hin _ _ ho, .of_isNs (PySem.W.isNs_of_in hin q5), PySem.W.nsMap_none_of_in hin q5 e6, PySem.W.tail_of_in hin q4⟩
def tRaise (Kx : XKs) (C : Addr) (t : TA) : TS := fun _ σ H => t σ H fun vs H1 => vs.length ≤ sizeLine ∧ Kx (.ref C) σ H1
theorem ps_raise {X : Cx} {Kx : XKs} {C : Addr} {x : Str} {np cpos pos : Pos} {e : Expr} {es : List Expr} {t : TA} (hx : XR X Kx) (hc : X.calm = true) (c : XC X.K X.mg x C) (ha : PA X (e :: es) t) (hg : Gl X x := by rfl) (hd : (x == ("__debug__" : Str)) = false := by decide)
    (he : starEach (e :: es) X.env = (false, eval e X.env) :: starEach es X.env := by rfl) (hpl : (backTo cpos (starEach es X.env)).any (·.1) = false := by rfl) :
    PS X (.Raise (some (.Call (.Name x np) (e :: es) [] cpos)) none pos) (tRaise Kx C t) := by
  intro pins s σ H D I h
  obtain ⟨bm, N, nm, qn, bs, hdct, sn, sub, ab, col, dd, k0, k1, k2, k3, k5, mN, hC, hN, hni, T⟩ := exc_obj I.mod.kin c.ex
  refine wpAny_Raise_call_subT (C := C) (nm := nm) (q := qn) (N := N) (bs := bs) (bm := bm) (hdct := hdct) (sn := sn) (sub := sub) (ab := ab) (col := col) (dd := dd) (k0 := k0) (k1 := k1) (k2 := k2) (k3 := k3) (k5 := k5) (mN := mN) PySem.F.excBase_ValueError (T.hasType PySem.F.excBase_ValueError.hasBase) (I.ok.hd hc) (by rw [he]; show (false || (backTo cpos (starEach es X.env)).any (·.1)) = false; rw [hpl]; rfl) hni
    (ld_glob I hg c.m ⟨rfl, ?_⟩ hd)
  have q := ha cpos pins s σ H _ I h
  rw [he] at q ⊢
  refine Calls.evalArgs_plain (wpAny_mono q (fun us s2 hq => ?_) fun _ _ y => y)
  obtain ⟨vs, H1, I1, r, hl, hk⟩ := hq
  exact ⟨rfl, by rw [← r.length]; exact hl, I1.bk _ _ hC, hN.keeps I1.bk, T.keeps I1.bk, fun h' ea mk => hx pins σ H1 s2 h' ea (.ref C) us I1 mk hk⟩

theorem Inv.flown {X : Cx} {pins : List (Addr × Obj)} {σ : St} {H H' : Hp} {s s' : Shared} {B h5 : Heap} {ea : Addr} {cls : Value} (I : Inv X pins σ H s) (I' : Inv X pins σ H' s') (fly : Fly B X.stack s.heap H H' s'.heap ea cls)
    (st : B.StaysIn h5) (up : s'.heap.UpToSlots h5) : Inv X pins σ H' { s' with heap := h5 } := by
  obtain ⟨a0, hfl⟩ := fly.fl
  have nf : ∀ b, b ∉ X.fs → b ≠ X.env.locals → b ∉ frs X.stack := fun b h1 h2 z => by
    rcases List.mem_cons.mp (I.stkSub b z) with q | q
    · exact h2 q
    · exact h1 q
  have lt0 : ∀ b o, X.s₀.heap.get? b = some o → b ≠ X.env.locals := fun b o e => Nat.ne_of_lt (Nat.lt_of_lt_of_le (Heap.lt_size e) I.ok.above)
  have cellK : ∀ {c : Addr} {v : Option Value}, s'.heap.IsCell c v → h5.IsCell c v := fun {c v} ⟨o, ho, hd⟩ => by
    obtain ⟨sl, e⟩ := up c o ho fun vs z => by rw [hd] at z; cases z
    exact ⟨_, e, hd⟩
  have slotOf : ∀ b, b ∈ X.fs → ∀ o, s'.heap.get? b = some o → ∃ sl, h5.get? b = some { o with slots := sl } := fun b hb o e => by
    obtain ⟨_, o', ho', hd⟩ := I'.funs.mem hb
    rw [e] at ho'; cases ho'
    exact up b o e hd
  refine ⟨I'.ok, I'.os, I'.bare, ⟨fun b o e n hb hx => ?_, fun b o e n hb hx => ?_, I'.base.free, fun b o e hx => ?_, I'.base.tups, I'.base.frzs, I'.base.tbls⟩, ?_, fun x c e => ?_, I'.free, I'.freeC, fun p hp => ?_, I'.hok.flown fly.trk hfl.1 st, I'.len⟩
  · exact st b o (fly.kept b o (I.base.keep b o e n hb hx) (I.base.free b o e n hx) (nf b hb (lt0 b o e)))
  · obtain ⟨sl, e1⟩ := I'.base.slot b o e n hb hx
    obtain ⟨sl', e2⟩ := slotOf b hb _ e1
    exact ⟨sl', e2⟩
  · by_cases hb : b ∈ X.fs
    · obtain ⟨o1, e1⟩ := I'.base.there b o e hx
      obtain ⟨sl, e2⟩ := slotOf b hb _ e1
      exact ⟨_, e2⟩
    · obtain ⟨o1, e1⟩ := I.base.there b o e hx
      obtain ⟨o2, e2⟩ := fly.alive b o1 e1 (nf b hb (lt0 b o e))
      exact ⟨o2, st b o2 e2⟩
  · obtain ⟨m, hn, hl⟩ := I'.loc
    refine ⟨m, up.ns hn, fun i x v e1 e2 e3 => ?_⟩
    obtain ⟨u, r, l⟩ := hl i x v e1 e2 e3
    refine ⟨u, r, ?_⟩
    rcases l with l | ⟨k, c, e, z⟩
    · exact .inl l
    · exact .inr ⟨k, c, e, cellK z⟩
  · obtain ⟨v, z⟩ := I'.cell x c e
    exact ⟨v, cellK z⟩
  · obtain ⟨e, n, ne, nfs, d⟩ := I.pin p hp
    obtain ⟨_, n', _, _, _⟩ := I'.pin p hp
    exact ⟨st _ _ (fly.kept p.1 p.2 e n (nf p.1 nfs ne)), n', ne, nfs, d⟩

structure XH (K : PySem.W.Frag) (mg : Str → Option Value) (x : Str) (D : Addr) : Prop where
  m : mg x = some (.ref D)
  ty : PySem.W.typeIn K (.ref D) = some (.type "type")
  cl : ∃ cd, PySem.W.clsIn K D = some cd
  be : PySem.W.mroIn K D (.type "BaseException") = some true
def XSub (K : PySem.W.Frag) (C D : Addr) : Prop := PySem.W.mroIn K C (.ref D) = some true
theorem exc_match {K : PySem.W.Frag} {M : Model} {A : Around} {E : Value → Shared → Prop} {Q : Bool → Shared → Prop} {s : Shared} {mg : Str → Option Value} {x : Str} {ea C D : Addr} {o : Obj} (hin : K.In s.heap) (c : XH K mg x D) (sub : XSub K C D)
    (ho : s.heap.get? ea = some o) (hcl : o.cls = .ref C) (q : Q true s) : wpAny M A (excMatches (.ref ea) (.ref D)) Q E s := by
  obtain ⟨cd, hcd⟩ := c.cl
  have L1 := PySem.W.looks_typeIn (M := M) hin c.ty
  have L2' := PySem.W.looks_mroIn (M := M) hin c.be
  have L3 := PySem.W.looks_mroIn (M := M) hin sub
  have L4 : PySem.W.Looks M s.heap (typeOf (.ref ea)) (.ref C) := hcl ▸ (PySem.W.Looks.ld ho).andThen .now
  have L5 : PySem.W.Looks M s.heap (isType (.ref D)) true := by
    unfold PySem.W.clsIn at hcd
    split at hcd
    · rename_i ho'
      intro A' Q' E' s' k q'
      unfold isType loadHead
      exact wpAny_bind (wpAny_loadPart (k _ _ (hin _ _ ho')) (wpAny_pure q'))
    · cases hcd
  have L6 : PySem.W.Looks M s.heap (isExcClass (.ref D)) true := L5.andThen L2'
  obtain ⟨h, g, d, t, os⟩ := s
  have f := tc_notTuple
  unfold excMatches isInstance
  refine wpAny_bind (wpAny_bind (L1.at ?_))
  rw [f]
  refine wpAny_pure ?_
  simp only [Bool.false_eq_true, if_false]
  refine wpAny_bind (wpAny_pure ?_)
  rw [List.forIn_cons]
  refine wpAny_bind (wpAny_bind (wpAny_bind (L6.at ?_)))
  simp only [Bool.not_true, Bool.false_eq_true, if_false]
  refine wpAny_pure ?_
  dsimp only
  rw [List.forIn_nil]
  refine wpAny_pure ?_
  refine wpAny_bind (L4.at ?_)
  rw [List.forIn_cons]
  refine wpAny_bind (wpAny_bind (wpAny_bind (L3.at ?_)))
  simp only [if_true]
  refine wpAny_pure ?_
  dsimp only
  refine wpAny_pure ?_
  exact wpAny_pure q
end L2
namespace L2
open PySem PySem.Spec PyProof.Rows
def kdO : Option HO → String
  | some (.lst _) => "list"
  | some (.frz _ (.lst _)) => "list"
  | some (.tup _) => "tuple"
  | some (.dK _) => "dict"
  | some (.dT _) => "dict"
  | _ => ""
def kd (H : Hp) : V → String
  | .non => "NoneType"
  | .bl _ => "bool"
  | .int _ => "int"
  | .str _ => "str"
  | .ref a => kdO (H a)
  | _ => ""
def Kn (H : Hp) (x : V) : Prop := kd H x ≠ ""
def isTy (n : String) (H : Hp) (x : V) : Bool := kd H x == n || (kd H x == "bool" && n == "int")
theorem kd_ty {K : PySem.W.Frag} {H : Hp} {x : V} (h : Kn H x) : TyOf K H x (.type (kd H x)) := by
  cases x with
  | non => exact .non
  | bl b => exact .bl b
  | int i => exact .int i
  | str s => exact .str s
  | ref a =>
    have h : kdO (H a) ≠ "" := h
    show TyOf K H (.ref a) (.type (kdO (H a)))
    cases e : H a with
    | none => rw [e] at h; exact absurd rfl h
    | some o =>
      rw [e] at h
      cases o with
      | lst xs => exact .lst e
      | tup xs => exact .tup e
      | dK k => exact .dK e
      | dT k => exact .dT e
      | frz ob u =>
        cases u with
        | lst xs => exact .frz e
        | _ => exact absurd rfl h
      | _ => exact absurd rfl h
  | _ => exact absurd rfl h
theorem kdO_cases (o : Option HO) : kdO o = "" ∨ kdO o = "list" ∨ kdO o = "tuple" ∨ kdO o = "dict" := by
  unfold kdO
  split <;> simp
theorem Kn.cases {H : Hp} {x : V} (h : Kn H x) : kd H x = "NoneType" ∨ kd H x = "bool" ∨ kd H x = "int" ∨ kd H x = "str" ∨ kd H x = "list" ∨ kd H x = "tuple" ∨ kd H x = "dict" := by
  cases x with
  | ref a =>
    have h : kdO (H a) ≠ "" := h
    show kdO (H a) = _ ∨ kdO (H a) = _ ∨ kdO (H a) = _ ∨ kdO (H a) = _ ∨ kdO (H a) = _ ∨ kdO (H a) = _ ∨ kdO (H a) = _
    rcases kdO_cases (H a) with e | e | e | e
    · exact absurd e h
    · exact .inr (.inr (.inr (.inr (.inl e))))
    · exact .inr (.inr (.inr (.inr (.inr (.inl e)))))
    · exact .inr (.inr (.inr (.inr (.inr (.inr e)))))
  | non => exact .inl rfl
  | bl b => exact .inr (.inl rfl)
  | int i => exact .inr (.inr (.inl rfl))
  | str z => exact .inr (.inr (.inr (.inl rfl)))
  | _ => exact absurd rfl h
theorem kit_scal (K : PySem.W.Frag) : ∀ k ∈ ["NoneType", "bool", "int", "str", "list", "tuple", "dict"], ∀ n ∈ ["bool", "int", "str", "list", "tuple", "dict"], PySem.W.kitOne K (.type k) (.type n) = some (k == n || (k == "bool" && n == "int")) := by
  have e : ∀ k ∈ ["NoneType", "bool", "int", "str", "list", "tuple", "dict"], ∀ n ∈ ["bool", "int", "str", "list", "tuple", "dict"], (if (Value.type k == Value.type n) = true then some true else if PySem.W.kitMeta n = true then (fastBuiltinMro k).map (·.contains (.type n)) else none) = some (k == n || (k == "bool" && n == "int")) := by decide +kernel
  exact fun k hk n hn => e k hk n hn
theorem call_isi {X : Cx} : CallR X (.builtin "isinstance") (fun xs H Q => ∃ x n, xs = [x, .ty n] ∧ n ∈ ["bool", "int", "str", "list", "tuple", "dict"] ∧ Kn H x ∧ Q (.bl (isTy n H x)) H) := by
  intro pins s σ H xs us Q I r h
  obtain ⟨x, n, rfl, hn, hk, q⟩ := h
  cases r with
  | cons r1 rr =>
    cases rr with
    | cons r2 rr =>
      cases rr
      cases r2
      refine isinst_ok I r1 (kd_ty hk) (kit_scal X.K _ ?_ n hn) fun tk => ⟨.bl _, H, I.tok tk, rfl, q⟩
      rcases hk.cases with e | e | e | e | e | e | e <;> rw [e] <;> simp
theorem op_neg {X : Cx} : UnR X (unaryOp .USub) (rU fun i => .int (-i)) := by
  intro pins s σ H x v Q I rx h
  obtain ⟨i, rfl, q⟩ := h
  obtain ⟨t, rfl⟩ := rx
  exact neg_int ⟨.int _, H, I.tok _, ⟨_, rfl⟩, q⟩
end L2
namespace L2
open PySem PySem.Spec PyProof.Rows
theorem kn_int {H : Hp} {i : Int} : Kn H (.int i) ↔ True := ⟨fun _ => trivial, fun _ => (by decide : "int" ≠ "")⟩
theorem kn_lst {H : Hp} {a : Addr} {xs : List V} (h : H a = some (.lst xs)) : Kn H (.ref a) := fun z => by
  have z : kdO (H a) = "" := z
  rw [h] at z; exact absurd z (show "list" ≠ "" by decide)
theorem kn_tup {H : Hp} {a : Addr} {xs : List V} (h : H a = some (.tup xs)) : Kn H (.ref a) := fun z => by
  have z : kdO (H a) = "" := z
  rw [h] at z; exact absurd z (show "tuple" ≠ "" by decide)
theorem cxOf_K {CX : CXT} {P : Program} {w : World} {K : PySem.W.Frag} {mg : Str → Option Value} {base : Heap} {N : List Str} {qual : Str} {scope : Scope} {f : Addr} {cd : Value} {A : Around} {outer : List Env} {s : Shared} {H : Hp} {E : XK} :
    (cxOf CX P w K mg base N qual scope f cd A outer s H E).K = K := rfl
def whole : V → Bool
  | .int _ => true
  | _ => false
def within (x : V) (l h : Int) : Bool := match x with
  | .int i => decide (l ≤ i) && decide (i ≤ h)
  | _ => false
theorem within_int {i l h : Int} : within (.int i) l h = (decide (l ≤ i) && decide (i ≤ h)) := rfl
theorem isTy_whole {H : Hp} {x : V} (h : Kn H x) : (isTy "int" H x && !isTy "bool" H x) = whole x := by
  cases x with
  | ref a =>
    have h : kdO (H a) ≠ "" := h
    have e : kd H (.ref a) = kdO (H a) := rfl
    unfold isTy
    rw [e]
    rcases kdO_cases (H a) with e | e | e | e <;> rw [e] <;> first | rfl | exact absurd e h
  | _ => first | rfl | exact absurd rfl h
end L2
namespace L2
open PySem PySem.Spec PyProof.Rows
inductive Hid (t u : TS) : Type where
  | mk : Hid t u
def tCut (t u : TS) (_ : Hid t u) : TS := fun D σ H => ∃ M : St → Hp → Prop, t { D with nx := M } σ H ∧ ∀ σ' H', M σ' H' → u D σ' H'
theorem pss_cut {X : Cx} {st : Stmt} {rest : List Stmt} {t u : TS} (h1 : PS X st t) (h2 : PSs X rest u) : PSs X (st :: rest) (tCut t u .mk) := by
  intro pins s σ H D I h
  obtain ⟨M, h, hM⟩ := h
  refine wpAny_execs_cons (thn (h1 pins s σ H { D with nx := M } I h) fun f s1 q => ?_)
  cases f with
  | next =>
    obtain ⟨σ', H', I', q⟩ := q
    exact h2 pins s1 σ' H' D I' (hM σ' H' q)
  | ret v => exact q
  | brk => exact q
  | cont => exact q
def lstO : Option HO → Option (List V)
  | some (.lst xs) => some xs
  | some (.frz _ (.lst xs)) => some xs
  | _ => none
def tupO : Option HO → Option (List V)
  | some (.tup xs) => some xs
  | some (.frz _ (.tup xs)) => some xs
  | _ => none
theorem lstO_lst {xs : List V} : lstO (some (.lst xs)) = some xs := rfl
theorem tupO_tup {xs : List V} : tupO (some (.tup xs)) = some xs := rfl
theorem sq_lstO {K : PySem.W.Frag} {H : Hp} {a : Addr} {xs : List V} (h : lstO (H a) = some xs) : SqL K H a xs := by
  unfold lstO at h
  split at h
  · rename_i e; cases h; exact .inl (.inl e)
  · rename_i e; cases h; exact .inl (.inr ⟨_, e⟩)
  · cases h
def rIxH : R2 := fun x y H Q => ∃ p xs i v, x = .ref p ∧ y = .int i ∧ lstO (H p) = some xs ∧ atI xs i = some v ∧ Q v H
theorem ix_lst {X : Cx} : IxR X rIxH := by
  intro value slice pins s σ H x y v u Q I rx ry h hs
  obtain ⟨p, xs, i, w', e1, e2, e3, e4, q⟩ := h
  exact ix_list value slice pins s σ H x y v u Q I rx ry ⟨p, xs, i, w', e1, e2, sq_lstO e3, e4, q⟩ hs
theorem scal_ii {i j : Int} : scal (.int i) (.int j) = true := rfl
theorem scal_bb {i j : Bool} : scal (.bl i) (.bl j) = true := rfl
theorem scal_ss {i j : Str} : scal (.str i) (.str j) = true := rfl
theorem na10 : Int.natAbs 10 = 10 := rfl
theorem same_refl {H : Hp} : Same H H := fun _ _ h => h
theorem same_upd {H H' : Hp} {p : Addr} {o : HO} (s : Same H H') (h : H' p = none) : Same H (upd H' p o) := fun b u e => by
  have q := s b u e
  rw [upd_ne (ne_of_none q h)]
  exact q
end L2
namespace L2
open PySem PySem.Spec PyProof.Rows
end L2
namespace L2
open PySem PySem.Spec PyProof.Rows
inductive HidF (g : TG) (tb : TS) : Type where
  | mk : HidF g tb
def Loop (g : TG) (tb : TS) (_ : HidF g tb) (J : It) : TS := fun D σ H => ∃ W : Nat → Nat → St → Hp → Prop, (∃ m, W 0 m σ H) ∧ ∀ i m σ H, W i m σ H →
  (J.stop i H ∧ D.nx σ H) ∨ (J.go i H ∧ ∃ N : St → Hp → Prop, (∀ σ' H', N σ' H' → ∃ m', m' < m ∧ W (i + 1) m' σ' H') ∧ ∀ x H', J.yld i H x H' → g x σ H' fun σ2 H2 => tb { D with nx := N, ct := N, bk := D.nx } σ2 H2)
def tForE (wi : TI) (g : TG) (tb : TS) (h : HidF g tb) : TS := fun D σ H => wi σ H fun J H1 => Loop g tb h J D σ H1
theorem ps_forE {X : Cx} {tg iter : Expr} {body : List Stmt} {wi : TI} {g : TG} {tb : TS} {pos : Pos} (hp : PassesOwn (model X.prog X.w) X.A X.env X.xe) (hc : X.calm = true) (hi : PI X tg iter wi) (hg : PG X tg g) (hb : PSs X body tb)
    (hs : ∀ x, foldedSetIterable iter X.env x = pure x := by intro _; rfl) : PS X (.For tg iter body [] pos) (tForE wi g tb .mk) := ps_for hp hc hi hg hb hs
theorem loop_range {lo : Int} {n : Nat} {g : TG} {tb : TS} {h : HidF g tb} {D : Ends} {σ : St} {H : Hp} (Pv : Nat → St → Hp → Prop) (h0 : Pv 0 σ H)
    (hs : ∀ i σ H, i < n → Pv i σ H → g (.int (lo + i)) σ H fun σ2 H2 => tb { D with nx := Pv (i + 1), ct := Pv (i + 1), bk := D.nx } σ2 H2) (hd : ∀ σ H, Pv n σ H → D.nx σ H) : Loop g tb h (Itr lo n) D σ H := for_range Pv h0 hs hd
theorem loop_list {K : PySem.W.Frag} {a : Addr} {xs : List V} {g : TG} {tb : TS} {h : HidF g tb} {D : Ends} {σ : St} {H : Hp} (Pv : Nat → St → Hp → Prop) (h0 : Pv 0 σ H) (hl : ∀ i σ H, i ≤ xs.length → Pv i σ H → SqL K H a xs)
    (hs : ∀ i x σ H, xs[i]? = some x → Pv i σ H → g x σ H fun σ2 H2 => tb { D with nx := Pv (i + 1), ct := Pv (i + 1), bk := D.nx } σ2 H2) (hd : ∀ σ H, Pv xs.length σ H → D.nx σ H) : Loop g tb h (Itl K a) D σ H := for_list Pv h0 hl hs hd
end L2
namespace L2
open PySem PySem.Spec PyProof.Rows
end L2
namespace L2
open PySem PySem.Spec PyProof.Rows
end L2
namespace L2
open PySem PySem.Spec PyProof.Rows
end L2
namespace L2
open PySem PySem.Spec PyProof.Rows
end L2
namespace L2
open PySem PySem.Spec PyProof.Rows
theorem isTy_tup {H : Hp} {a : Addr} {xs : List V} (h : H a = some (.tup xs)) : isTy "tuple" H (.ref a) = true := by
  unfold isTy
  rw [show kd H (.ref a) = kdO (H a) from rfl, h]; rfl
theorem isTy_lst {H : Hp} {a : Addr} {xs : List V} (h : H a = some (.lst xs)) : isTy "list" H (.ref a) = true := by
  unfold isTy
  rw [show kd H (.ref a) = kdO (H a) from rfl, h]; rfl
end L2
namespace L2
open PySem PySem.Spec PyProof.Rows
section
variable {X : Cx} {pins pins2 : List (Addr × Obj)} {σ : St} {H : Hp} {s : Shared} {E' : Value → Shared → Prop}
theorem Cx.Ok.re {pn : List (Addr × Obj)} (ok : X.Ok) : ({ X with xe := E', pn := pn } : Cx).Ok :=
  ⟨ok.mod, ok.kind, ok.glob, ok.blt, ok.above, ok.inj, ok.has, ok.cab, ok.hd, ok.frames, ok.stk, ok.exf, ok.bs, ok.bsz, ok.noex, ok.exfs, ok.funs, ok.frf⟩
theorem Inv.re (I : Inv X pins σ H s) : Inv { X with xe := E', pn := X.pn ++ pins } [] σ H s :=
  ⟨I.ok.re, I.os, I.bare, I.base, I.loc, I.cell, I.free, I.freeC, fun p hp => I.pin p (by rw [List.append_nil] at hp; exact hp), I.hok, I.len⟩
theorem Inv.unre (ok : X.Ok) (I : Inv { X with xe := E', pn := X.pn ++ pins } pins2 σ H s) : Inv X pins σ H s :=
  ⟨ok, I.os, I.bare, I.base, I.loc, I.cell, I.free, I.freeC, fun p hp => I.pin p (List.mem_append_left _ hp), I.hok, I.len⟩
theorem Inv.marked {v : Option Value} (I : Inv X pins σ H s) : Inv { X with A := X.A.mark v, calm := false, xe := E' } pins σ H s :=
  ⟨⟨I.ok.mod, I.ok.kind, I.ok.glob, I.ok.blt, I.ok.above, I.ok.inj, I.ok.has, I.ok.cab, fun z => Bool.noConfusion z, I.ok.frames, I.ok.stk, I.ok.exf, I.ok.bs, I.ok.bsz, I.ok.noex, I.ok.exfs, I.ok.funs, I.ok.frf⟩,
    I.os, I.bare, I.base, I.loc, I.cell, I.free, I.freeC, I.pin, I.hok, I.len⟩
theorem Inv.unmarked {v : Option Value} (ok : X.Ok) (I : Inv { X with A := X.A.mark v, calm := false, xe := E' } pins σ H s) : Inv X pins σ H s :=
  ⟨ok, I.os, I.bare, I.base, I.loc, I.cell, I.free, I.freeC, I.pin, I.hok, I.len⟩
end
end L2
namespace PySem.W
open PySem PySem.Spec PySem.Calls PyProof.Rows
open Builtin Builtin.ObjectAttr Builtin.Getset_descriptor
def ExcAt (e C : Addr) (h : Heap) : Prop := ∃ o, h.get? e = some o ∧ o.cls = .ref C
section
variable {K : Frag} {e C : Addr}
theorem ExcAt.ty {M : Model} {h : Heap} (p : ExcAt e C h) : Looks M h (typeOf (.ref e)) (.ref C) := by
  obtain ⟨o, h1, h2⟩ := p
  exact h2 ▸ (Looks.ld h1).andThen .now
variable {prog : Program} {w : World} {A : Around} {E : Value → Shared → Prop} {s : Shared}
end
end PySem.W
namespace L2
open PySem PySem.Spec PyProof.Rows
def clsV : V → Value
  | .ref a => .ref a
  | .ty n => .type n
  | _ => .none
theorem clsV_ref {a : Addr} : clsV (.ref a) = .ref a := rfl
theorem clsV_ty {n : String} : clsV (.ty n) = .type n := rfl
end L2
namespace L2
open PySem PySem.Spec PyProof.Rows
inductive Dv where
  | leaf (v : V)
  | seq (t : Bool) (ds : List Dv)
mutual
def Sees (K : PySem.W.Frag) (H : Hp) : Dv → V → Prop
  | .leaf v, x => x = v ∧ flatV v = true
  | .seq t ds, x => ∃ a xs, x = .ref a ∧ (if t = true then SqT K H a xs else SqL K H a xs) ∧ SeesL K H ds xs
def SeesL (K : PySem.W.Frag) (H : Hp) : List Dv → List V → Prop
  | [], xs => xs = []
  | d :: ds, xs => ∃ x r, xs = x :: r ∧ Sees K H d x ∧ SeesL K H ds r
end
mutual
def alike : Dv → Dv → Bool
  | .leaf _, .leaf _ => true
  | .seq t ds, .seq u es => t == u && alikeL ds es
  | _, _ => false
def alikeL : List Dv → List Dv → Bool
  | d :: ds, e :: es => alike d e && alikeL ds es
  | _, _ => true
end
mutual
def eqDv : Dv → Dv → Bool
  | .leaf v, .leaf w => eqV v w
  | .seq _ ds, .seq _ es => eqDvL ds es
  | _, _ => false
def eqDvL : List Dv → List Dv → Bool
  | [], [] => true
  | d :: ds, e :: es => eqDv d e && eqDvL ds es
  | _, _ => false
end
mutual
def deep : Dv → Nat
  | .leaf _ => 0
  | .seq _ ds => deepL ds + 1
def deepL : List Dv → Nat
  | [] => 0
  | d :: ds => max (deep d) (deepL ds)
end
theorem SeesL.length {K : PySem.W.Frag} {H : Hp} : ∀ {ds : List Dv} {xs : List V}, SeesL K H ds xs → ds.length = xs.length
  | [], xs, h => by unfold SeesL at h; subst h; rfl
  | d :: ds, xs, h => by
    unfold SeesL at h
    obtain ⟨x, r, rfl, _, h⟩ := h
    simp [h.length]
theorem SeesL.get {K : PySem.W.Frag} {H : Hp} : ∀ {ds : List Dv} {xs : List V} {j : Nat} {d : Dv}, SeesL K H ds xs → ds[j]? = some d → ∃ x, xs[j]? = some x ∧ Sees K H d x
  | [], xs, j, d, h, e => by simp at e
  | d' :: ds, xs, 0, d, h, e => by
    unfold SeesL at h
    obtain ⟨x, r, rfl, hx, h⟩ := h
    simp at e; subst e
    exact ⟨x, rfl, hx⟩
  | d' :: ds, xs, j + 1, d, h, e => by
    unfold SeesL at h
    obtain ⟨x, r, rfl, hx, h⟩ := h
    obtain ⟨y, e1, e2⟩ := SeesL.get (j := j) h (by simpa using e)
    exact ⟨y, by simpa using e1, e2⟩
theorem all_range_succ (n : Nat) (f : Nat → Bool) : (List.range (n + 1)).all f = (f 0 && (List.range n).all fun j => f (j + 1)) := by
  rw [List.range_succ_eq_map, List.all_cons, List.all_map]; rfl
theorem eqDvL_eq : ∀ (ds es : List Dv), eqDvL ds es = (decide (ds.length = es.length) && (List.range (min ds.length es.length)).all fun j => eqDv (ds.getD j (.leaf .non)) (es.getD j (.leaf .non)))
  | [], [] => by simp [eqDvL]
  | [], e :: es => by simp [eqDvL]
  | d :: ds, [] => by simp [eqDvL]
  | d :: ds, e :: es => by
    have ih := eqDvL_eq ds es
    rw [eqDvL, ih]
    have hm : min (d :: ds).length (e :: es).length = min ds.length es.length + 1 := by simp [Nat.succ_min_succ]
    rw [hm, all_range_succ]
    simp only [List.length_cons, Nat.add_right_cancel_iff, List.getD_cons_zero, List.getD_cons_succ]
    cases eqDv d e <;> cases decide (ds.length = es.length) <;> simp
theorem eqV_self {v : V} (h : flatV v = true) : eqV v v = true := by
  cases v <;> first | rfl | (simp [eqV]; done) | exact absurd h (by simp [flatV])
mutual
theorem sees_same {X : Cx} {pins : List (Addr × Obj)} {σ : St} {H : Hp} {s : Shared} (I : Inv X pins σ H s) : ∀ (d e : Dv) (x : V), alike d e = true → Sees X.K H d x → Sees X.K H e x → eqDv d e = true
  | .leaf a, .leaf b, x, _, hx, hy => by
    unfold Sees at hx hy
    obtain ⟨rfl, fx⟩ := hx
    obtain ⟨rfl, fy⟩ := hy
    rw [eqDv]
    exact eqV_self fx
  | .leaf a, .seq t es, _, h, _, _ => by simp [alike] at h
  | .seq t ds, .leaf b, _, h, _, _ => by simp [alike] at h
  | .seq t ds, .seq t' es, x, h, hx, hy => by
    rw [alike, Bool.and_eq_true] at h
    have ht := beq_iff_eq.mp h.1
    subst ht
    unfold Sees at hx hy
    obtain ⟨a, xs, rfl, hsx, hL⟩ := hx
    obtain ⟨b, ys, e, hsy, hM⟩ := hy
    cases e
    rw [eqDv]
    have exy : xs = ys := by
      cases t with
      | true => exact I.tuple_inj (by simpa using hsx) (by simpa using hsy)
      | false => exact I.list_inj (by simpa using hsx) (by simpa using hsy)
    subst exy
    exact sees_sameL I ds es xs h.2 hL hM
theorem sees_sameL {X : Cx} {pins : List (Addr × Obj)} {σ : St} {H : Hp} {s : Shared} (I : Inv X pins σ H s) : ∀ (ds es : List Dv) (xs : List V), alikeL ds es = true → SeesL X.K H ds xs → SeesL X.K H es xs → eqDvL ds es = true
  | [], [], _, _, _, _ => by rw [eqDvL]
  | [], e :: es, xs, _, hx, hy => by
    unfold SeesL at hx hy
    obtain ⟨x, r, e1, _⟩ := hy
    rw [hx] at e1; cases e1
  | d :: ds, [], xs, _, hx, hy => by
    unfold SeesL at hx hy
    obtain ⟨x, r, e1, _⟩ := hx
    rw [hy] at e1; cases e1
  | d :: ds, e :: es, xs, h, hx, hy => by
    rw [alikeL, Bool.and_eq_true] at h
    unfold SeesL at hx hy
    obtain ⟨x, r, rfl, hx, hxr⟩ := hx
    obtain ⟨y, r', e1, hy, hyr⟩ := hy
    cases e1
    rw [eqDvL, sees_same I d e x h.1 hx hy, sees_sameL I ds es r h.2 hxr hyr]
    rfl
end
theorem rc_deep {X : Cx} {pins : List (Addr × Obj)} {σ : St} {H : Hp} {s : Shared} (I : Inv X pins σ H s) {A : Around} {t : Bool} {ds es : List Dv} {a b : Addr} {xs ys : List V} (hu : A.units < cLine)
    (hsx : if t = true then SqT X.K H a xs else SqL X.K H a xs) (hsy : if t = true then SqT X.K H b ys else SqL X.K H b ys) (l1 : ds.length = xs.length) (l2 : es.length = ys.length)
    (ih : ∀ (j : Nat) (u v : Value) (us vs : List Value), Vals xs us → Vals ys vs → us[j]? = some u → vs[j]? = some v → SeqAt.EqAt A.in1 s u v (eqDv (ds.getD j (.leaf .non)) (es.getD j (.leaf .non)))) :
    SeqAt.RcAt A s (.ref a) (.ref b) (eqDvL ds es) := by
  rw [eqDvL_eq]
  cases t with
  | false =>
    obtain ⟨its, rv, pl, _⟩ := I.list (show SqL X.K H a xs by simpa using hsx)
    obtain ⟨its2, rv2, pl2, _⟩ := I.list (show SqL X.K H b ys by simpa using hsy)
    have n1 := rv.length
    have n2 := rv2.length
    by_cases hl : ds.length = es.length
    · have q := SeqAt.RcAt.lists (e := fun j => eqDv (ds.getD j (.leaf .non)) (es.getD j (.leaf .non))) pl.isList pl2.isList (by simp; omega) (by omega : A.units < cLine) (fun j h1 h2 => by
        have h1 : j < its.length := by simpa using h1
        have h2 : j < its2.length := by simpa using h2
        have e := ih j (its[j]) (its2[j]) its its2 rv rv2 (by simp [h1]) (by simp [h2])
        simpa using e)
      rw [decide_eq_true hl, Bool.true_and]
      have em : min ds.length es.length = its.toArray.size := by simp; omega
      rw [em]
      exact q
    · have q := SeqAt.RcAt.lists_lengths (A := A) pl.isList pl2.isList (by simp; omega) (by omega : A.units < cLine)
      rw [decide_eq_false hl, Bool.false_and]
      exact q
  | true =>
    obtain ⟨its, rv, pl, _⟩ := I.tuple (show SqT X.K H a xs by simpa using hsx)
    obtain ⟨its2, rv2, pl2, _⟩ := I.tuple (show SqT X.K H b ys by simpa using hsy)
    have n1 := rv.length
    have n2 := rv2.length
    have q := SeqAt.RcAt.tuples (e := fun j => eqDv (ds.getD j (.leaf .non)) (es.getD j (.leaf .non))) (show s.heap.IsTuple a its.toArray from pl) (show s.heap.IsTuple b its2.toArray from pl2) (by omega : A.units < cLine) (fun j h1 h2 => by
        have h1 : j < its.length := by simpa using h1
        have h2 : j < its2.length := by simpa using h2
        have e := ih j (its[j]) (its2[j]) its its2 rv rv2 (by simp [h1]) (by simp [h2])
        simpa using e)
    have em : min its.toArray.size its2.toArray.size = min ds.length es.length := by simp; omega
    have eb : (its.toArray.size == its2.toArray.size) = decide (ds.length = es.length) := by
      rw [Bool.eq_iff_iff]; simp; omega
    rw [em, eb, Bool.and_comm] at q
    exact q
mutual
theorem eqAt_deep {X : Cx} {pins : List (Addr × Obj)} {σ : St} {H : Hp} {s : Shared} (I : Inv X pins σ H s) : ∀ (d e : Dv) (A : Around) (x y : V) (u v : Value), A.units + deep d < cLine → alike d e = true → Sees X.K H d x → Sees X.K H e y → RelV x u → RelV y v → SeqAt.EqAt A s u v (eqDv d e)
  | .leaf a, .leaf b, A, x, y, u, v, _, _, hx, hy, rx, ry => by
    unfold Sees at hx hy
    obtain ⟨rfl, fx⟩ := hx
    obtain ⟨rfl, fy⟩ := hy
    rw [eqDv]
    exact eqAt_V rx ry fx fy
  | .leaf a, .seq t es, A, x, y, u, v, _, h, _, _, _, _ => by simp [alike] at h
  | .seq t ds, .leaf b, A, x, y, u, v, _, h, _, _, _, _ => by simp [alike] at h
  | .seq t ds, .seq t' es, A, x, y, u, v, hu, h, hx, hy, rx, ry => by
    have h0 := h
    rw [alike, Bool.and_eq_true] at h
    have ht := beq_iff_eq.mp h.1
    subst ht
    have hx0 := hx
    have hy0 := hy
    unfold Sees at hx hy
    obtain ⟨a, xs, rfl, hsx, hL⟩ := hx
    obtain ⟨b, ys, rfl, hsy, hM⟩ := hy
    cases rx
    cases ry
    by_cases hab : a = b
    · subst hab
      rw [sees_same I _ _ _ h0 hx0 hy0]
      exact SeqAt.EqAt.same _
    · rw [deep] at hu
      have hu1 : A.in1.units + deepL ds < cLine := by show A.units + 1 + deepL ds < cLine; omega
      have ih := eqAt_deepL I ds es A.in1 xs ys hu1 h.2 hL hM
      rw [eqDv]
      exact SeqAt.EqAt.of_refs hab (rc_deep I (by omega) hsx hsy hL.length hM.length ih)
theorem eqAt_deepL {X : Cx} {pins : List (Addr × Obj)} {σ : St} {H : Hp} {s : Shared} (I : Inv X pins σ H s) : ∀ (ds es : List Dv) (A : Around) (xs ys : List V), A.units + deepL ds < cLine → alikeL ds es = true → SeesL X.K H ds xs → SeesL X.K H es ys →
    ∀ (j : Nat) (u v : Value) (us vs : List Value), Vals xs us → Vals ys vs → us[j]? = some u → vs[j]? = some v → SeqAt.EqAt A s u v (eqDv (ds.getD j (.leaf .non)) (es.getD j (.leaf .non)))
  | [], es, A, xs, ys, _, _, hx, hy, j, u, v, us, vs, rx, ry, e1, e2 => by
    unfold SeesL at hx
    subst hx
    cases rx
    simp at e1
  | d :: ds, [], A, xs, ys, _, _, hx, hy, j, u, v, us, vs, rx, ry, e1, e2 => by
    unfold SeesL at hy
    subst hy
    cases ry
    simp at e2
  | d :: ds, e :: es, A, xs, ys, hu, h, hx, hy, j, u, v, us, vs, rx, ry, e1, e2 => by
    rw [alikeL, Bool.and_eq_true] at h
    rw [deepL] at hu
    unfold SeesL at hx hy
    obtain ⟨x, r, rfl, hx, hxr⟩ := hx
    obtain ⟨y, r', rfl, hy, hyr⟩ := hy
    cases rx with
    | cons p1 p2 =>
      cases ry with
      | cons q1 q2 =>
        cases j with
        | zero =>
          simp at e1 e2
          subst e1 e2
          exact eqAt_deep I d e A x y _ _ (by omega) h.1 hx hy p1 q1
        | succ k =>
          have z := eqAt_deepL I ds es A r r' (by omega) h.2 hxr hyr k u v _ _ p2 q2 (by simpa using e1) (by simpa using e2)
          simpa using z
end
theorem hu6 {A : Around} {k : Nat} (hr : Room k A) : A.units + 4 + 2 < cLine := by have := hr.units; omega
def rEqD (K : PySem.W.Frag) (n : Nat) : R2 := fun x y H Q => ∃ t ds es, Sees K H (.seq t ds) x ∧ Sees K H (.seq t es) y ∧ alikeL ds es = true ∧ deepL ds ≤ n ∧ Q (.bl (eqDvL ds es)) H
def rNeD (K : PySem.W.Frag) (n : Nat) : R2 := fun x y H Q => ∃ t ds es, Sees K H (.seq t ds) x ∧ Sees K H (.seq t es) y ∧ alikeL ds es = true ∧ deepL ds ≤ n ∧ Q (.bl (!eqDvL ds es)) H
theorem rc_of {X : Cx} {pins : List (Addr × Obj)} {σ : St} {H : Hp} {s : Shared} (I : Inv X pins σ H s) {A : Around} {n : Nat} (hu : A.units + n + 2 < cLine) {t : Bool} {ds es : List Dv} {x y : V} {u v : Value} (hx : Sees X.K H (.seq t ds) x) (hy : Sees X.K H (.seq t es) y) (ha : alikeL ds es = true) (hd : deepL ds ≤ n)
    (rx : RelV x u) (ry : RelV y v) : SeqAt.RcAt A s u v (eqDvL ds es) := by
  unfold Sees at hx hy
  obtain ⟨a, xs, rfl, hsx, hL⟩ := hx
  obtain ⟨b, ys, rfl, hsy, hM⟩ := hy
  cases rx
  cases ry
  exact rc_deep I (by omega) hsx hsy hL.length hM.length (eqAt_deepL I ds es A.in1 xs ys (by show A.units + 1 + deepL ds < cLine; omega) ha hL hM)
theorem op_eqD {X : Cx} {n : Nat} (hu : X.A.units + n + 2 < cLine) : OpR X (compareOp .Eq) (rEqD X.K n) := by
  intro pins s σ H x y v u Q I rx ry h
  obtain ⟨t, ds, es, hx, hy, ha, hd, q⟩ := h
  exact rc_of I hu hx hy ha hd rx ry X.prog X.w X.xe _ ⟨.bl _, H, I, rfl, q⟩
theorem rcNe_deep {X : Cx} {pins : List (Addr × Obj)} {σ : St} {H : Hp} {s : Shared} (I : Inv X pins σ H s) {A : Around} {t : Bool} {ds es : List Dv} {a b : Addr} {xs ys : List V} (hu : A.units < cLine)
    (hsx : if t = true then SqT X.K H a xs else SqL X.K H a xs) (hsy : if t = true then SqT X.K H b ys else SqL X.K H b ys) (l1 : ds.length = xs.length) (l2 : es.length = ys.length)
    (ih : ∀ (j : Nat) (u v : Value) (us vs : List Value), Vals xs us → Vals ys vs → us[j]? = some u → vs[j]? = some v → SeqAt.EqAt A.in1 s u v (eqDv (ds.getD j (.leaf .non)) (es.getD j (.leaf .non)))) :
    SeqAt.RcNeAt A s (.ref a) (.ref b) (!eqDvL ds es) := by
  rw [eqDvL_eq]
  cases t with
  | false =>
    obtain ⟨its, rv, pl, _⟩ := I.list (show SqL X.K H a xs by simpa using hsx)
    obtain ⟨its2, rv2, pl2, _⟩ := I.list (show SqL X.K H b ys by simpa using hsy)
    have n1 := rv.length
    have n2 := rv2.length
    by_cases hl : ds.length = es.length
    · have q := SeqAt.RcNeAt.lists (e := fun j => eqDv (ds.getD j (.leaf .non)) (es.getD j (.leaf .non))) pl.isList pl2.isList (by simp; omega) (by omega : A.units < cLine) (fun j h1 h2 => by
        have h1 : j < its.length := by simpa using h1
        have h2 : j < its2.length := by simpa using h2
        have e := ih j (its[j]) (its2[j]) its its2 rv rv2 (by simp [h1]) (by simp [h2])
        simpa using e)
      rw [decide_eq_true hl, Bool.true_and]
      have em : min ds.length es.length = its.toArray.size := by simp; omega
      rw [em]
      exact q
    · have q := SeqAt.RcNeAt.lists_lengths (A := A) pl.isList pl2.isList (by simp; omega) (by omega : A.units < cLine)
      rw [decide_eq_false hl, Bool.false_and]
      exact q
  | true =>
    obtain ⟨its, rv, pl, _⟩ := I.tuple (show SqT X.K H a xs by simpa using hsx)
    obtain ⟨its2, rv2, pl2, _⟩ := I.tuple (show SqT X.K H b ys by simpa using hsy)
    have n1 := rv.length
    have n2 := rv2.length
    have q := SeqAt.RcNeAt.tuples (e := fun j => eqDv (ds.getD j (.leaf .non)) (es.getD j (.leaf .non))) (show s.heap.IsTuple a its.toArray from pl) (show s.heap.IsTuple b its2.toArray from pl2) (by omega : A.units < cLine) (fun j h1 h2 => by
        have h1 : j < its.length := by simpa using h1
        have h2 : j < its2.length := by simpa using h2
        have e := ih j (its[j]) (its2[j]) its its2 rv rv2 (by simp [h1]) (by simp [h2])
        simpa using e)
    have em : min its.toArray.size its2.toArray.size = min ds.length es.length := by simp; omega
    have eb : (its.toArray.size == its2.toArray.size) = decide (ds.length = es.length) := by
      rw [Bool.eq_iff_iff]; simp; omega
    rw [em, eb, Bool.and_comm] at q
    exact q
theorem op_neD {X : Cx} {n : Nat} (hu : X.A.units + n + 2 < cLine) : OpR X (compareOp .NotEq) (rNeD X.K n) := by
  intro pins s σ H x y v u Q I rx ry h
  obtain ⟨t, ds, es, hx, hy, ha, hd, q⟩ := h
  unfold Sees at hx hy
  obtain ⟨a, xs, rfl, hsx, hL⟩ := hx
  obtain ⟨b, ys, rfl, hsy, hM⟩ := hy
  cases rx
  cases ry
  exact rcNe_deep I (by omega) hsx hsy hL.length hM.length (eqAt_deepL I ds es X.A.in1 xs ys (by show X.A.units + 1 + deepL ds < cLine; omega) ha hL hM) X.prog X.w X.xe _ ⟨.bl _, H, I, rfl, q⟩
def dInts (ns : List Int) : List Dv := ns.map fun i => .leaf (.int i)
theorem seesL_ints {K : PySem.W.Frag} {H : Hp} : ∀ (ns : List Int), SeesL K H (dInts ns) (ns.map V.int)
  | [] => by unfold dInts SeesL; rfl
  | n :: ns => by
    show SeesL K H (.leaf (.int n) :: dInts ns) (.int n :: ns.map V.int)
    unfold SeesL
    exact ⟨_, _, rfl, by unfold Sees; exact ⟨rfl, rfl⟩, seesL_ints ns⟩
theorem sees_tup {K : PySem.W.Frag} {H : Hp} {a : Addr} {ns : List Int} (h : SqT K H a (ns.map V.int)) : Sees K H (.seq true (dInts ns)) (.ref a) := by
  unfold Sees
  exact ⟨a, _, rfl, by simpa using h, seesL_ints ns⟩
theorem alike_ints : ∀ (ns ms : List Int), alikeL (dInts ns) (dInts ms) = true
  | [], _ => by unfold dInts; simp [alikeL]
  | _ :: _, [] => by unfold dInts; simp [alikeL]
  | n :: ns, m :: ms => by
    show alikeL (.leaf (.int n) :: dInts ns) (.leaf (.int m) :: dInts ms) = true
    rw [alikeL, alike, alike_ints ns ms]; rfl
theorem deep_ints : ∀ (ns : List Int), deepL (dInts ns) = 0
  | [] => by unfold dInts; simp [deepL]
  | n :: ns => by
    show deepL (.leaf (.int n) :: dInts ns) = 0
    rw [deepL, deep, deep_ints ns]; rfl
theorem eq_ints : ∀ (ns ms : List Int), eqDvL (dInts ns) (dInts ms) = decide (ns = ms)
  | [], [] => by unfold dInts; simp [eqDvL]
  | [], _ :: _ => by unfold dInts; simp [eqDvL]
  | _ :: _, [] => by unfold dInts; simp [eqDvL]
  | n :: ns, m :: ms => by
    show eqDvL (.leaf (.int n) :: dInts ns) (.leaf (.int m) :: dInts ms) = _
    rw [eqDvL, eqDv, eq_ints ns ms]
    show ((n == m) && decide (ns = ms)) = _
    rw [Bool.eq_iff_iff]; simp
end L2
namespace L2
open PySem PySem.Spec PyProof.Rows
def compChk (sc : Scope) (env : Env) (x : Str) (fs : List Str) : Bool :=
  sc.kind == .function && sc.names.all (fun y => y.2 != .cell && (y.2 != .local || sc.names.lookup y.1 == some .local) && (y.2 != .free || env.kindOf y.1 == some .cell || env.kindOf y.1 == some .free)) &&
    sc.names.lookup x == some .local && fs.all (fun f => sc.names.lookup f == some .free)
structure CompSc (sc : Scope) (env : Env) (x : Str) (fs : List Str) : Prop where
  kind : sc.kind = .function
  nocell : ∀ y ∈ sc.names, y.2 ≠ .cell
  own : ∀ y ∈ sc.names, y.2 = .local → sc.names.lookup y.1 = some .local
  fr : ∀ y ∈ sc.names, y.2 = .free → env.kindOf y.1 = some .cell ∨ env.kindOf y.1 = some .free
  x : sc.names.lookup x = some .local
  fs : ∀ f ∈ fs, sc.names.lookup f = some .free
theorem CompSc.of {sc : Scope} {env : Env} {x : Str} {fs : List Str} (h : compChk sc env x fs = true) : CompSc sc env x fs := by
  unfold compChk at h
  simp only [Bool.and_eq_true, beq_iff_eq, List.all_eq_true, Bool.or_eq_true, bne_iff_ne, ne_eq] at h
  obtain ⟨⟨⟨h1, h2⟩, h3⟩, h4⟩ := h
  refine ⟨h1, fun y hy => (h2 y hy).1.1, fun y hy e => ?_, fun y hy e => ?_, h3, h4⟩
  · rcases (h2 y hy).1.2 with z | z
    · exact absurd e z
    · exact z
  · rcases (h2 y hy).2 with (z | z) | z
    · exact absurd e z
    · exact .inl z
    · exact .inr z
theorem closure_ex {env : Env} : ∀ (names : List (Str × NameKind)) (acc : List (Str × Addr)), (∀ n, (n, NameKind.free) ∈ names → ∃ c, env.cells.lookup n = some c) →
    ∃ cl, (forIn names acc fun y r => (do if (y.2 == NameKind.free) = true then do let c ← cellOf env y.1; pure (ForInStep.yield ((y.1, c) :: r)) else pure (ForInStep.yield r) : Sem (ForInStep (List (Str × Addr))))) = pure cl ∧
      (∀ n c, cl.lookup n = some c → acc.lookup n = some c ∨ env.cells.lookup n = some c) ∧ ∀ n, (∃ c, acc.lookup n = some c) ∨ (n, NameKind.free) ∈ names → ∃ c, cl.lookup n = some c
  | [], acc, _ => ⟨acc, rfl, fun _ _ e => .inl e, fun n h => h.elim id fun z => nomatch z⟩
  | (n, k) :: r, acc, h => by
    have hr : ∀ m, (m, NameKind.free) ∈ r → ∃ c, env.cells.lookup m = some c := fun m hm => h m (List.mem_cons_of_mem _ hm)
    by_cases hk : k = .free
    · subst hk
      obtain ⟨c, hc⟩ := h n List.mem_cons_self
      obtain ⟨cl, e, h1, h2⟩ := closure_ex r ((n, c) :: acc) hr
      refine ⟨cl, ?_, fun m c' hm => ?_, fun m hm => h2 m ?_⟩
      · rw [List.forIn_cons]
        simp only [beq_self_eq_true, if_true, cellOf, hc, pure_bind]
        exact e
      · rcases h1 m c' hm with z | z
        · rw [List.lookup_cons] at z
          cases q : m == n with
          | true =>
            rw [q] at z
            cases z
            rw [beq_iff_eq.mp q]
            exact .inr hc
          | false => rw [q] at z; exact .inl z
        · exact .inr z
      · rw [List.lookup_cons]
        rcases hm with ⟨c', z⟩ | hm
        · cases q : m == n with
          | true => exact .inl ⟨c, rfl⟩
          | false => exact .inl ⟨c', z⟩
        · rcases List.mem_cons.mp hm with z | z
          · cases z
            rw [beq_self_eq_true]
            exact .inl ⟨c, rfl⟩
          · exact .inr z
    · obtain ⟨cl, e, h1, h2⟩ := closure_ex r acc hr
      refine ⟨cl, ?_, h1, fun m hm => h2 m ?_⟩
      · rw [List.forIn_cons]
        have hb : (k == NameKind.free) = false := by simpa using hk
        simp only [hb, Bool.false_eq_true, if_false, pure_bind]
        exact e
      · rcases hm with z | hm
        · exact .inl z
        · rcases List.mem_cons.mp hm with z | z
          · cases z; exact absurd rfl hk
          · exact .inr z
theorem closure_of {env : Env} {sc : Scope} (h : ∀ n, (n, NameKind.free) ∈ sc.names → ∃ c, env.cells.lookup n = some c) :
    ∃ cl, closureFor sc env = pure cl ∧ (∀ n c, cl.lookup n = some c → env.cells.lookup n = some c) ∧ ∀ n, (n, NameKind.free) ∈ sc.names → ∃ c, cl.lookup n = some c := by
  obtain ⟨cl, e, h1, h2⟩ := closure_ex sc.names [] h
  refine ⟨cl, ?_, fun n c z => (h1 n c z).elim (fun q => nomatch q) id, fun n hn => h2 n (.inr hn)⟩
  unfold closureFor
  simp only [bind_pure]
  exact e
theorem relabel_kind {env : Env} : ∀ {names : List (Str × NameKind)} {x : Str} {k : NameKind}, (names.map fun (n, k) => if (k == NameKind.free && env.scope.kind == .function && env.kindOf n == some .cell) then (n, NameKind.cell) else (n, k)).lookup x = some k →
    k = .cell ∨ k = .free → names.lookup x = some .free ∨ names.lookup x = some .cell
  | [], _, _, h, _ => by simp at h
  | (n, k0) :: r, x, k, h, hk => by
    have ih := @relabel_kind env r x k
    have h : List.lookup x ((if (k0 == NameKind.free && env.scope.kind == .function && env.kindOf n == some .cell) = true then (n, NameKind.cell) else (n, k0)) :: (r.map fun (n, k) => if (k == NameKind.free && env.scope.kind == .function && env.kindOf n == some .cell) then (n, NameKind.cell) else (n, k))) = some k := h
    by_cases hc : (k0 == NameKind.free && env.scope.kind == .function && env.kindOf n == some .cell) = true
    · rw [if_pos hc] at h
      simp only [List.lookup_cons] at h ⊢
      cases hx : x == n with
      | true =>
        simp only [Bool.and_eq_true, beq_iff_eq] at hc
        rw [hc.1.1]
        exact .inl rfl
      | false => rw [hx] at h; exact ih h hk
    · rw [if_neg hc] at h
      simp only [List.lookup_cons] at h ⊢
      cases hx : x == n with
      | true =>
        rw [hx] at h
        cases h
        rcases hk with rfl | rfl
        · exact .inr rfl
        · exact .inl rfl
      | false => rw [hx] at h; exact ih h hk
theorem relabel_free {env : Env} : ∀ {names : List (Str × NameKind)} {x : Str}, names.lookup x = some .free →
    (names.map fun (n, k) => if (k == NameKind.free && env.scope.kind == .function && env.kindOf n == some .cell) then (n, NameKind.cell) else (n, k)).lookup x = some .cell ∨ (names.map fun (n, k) => if (k == NameKind.free && env.scope.kind == .function && env.kindOf n == some .cell) then (n, NameKind.cell) else (n, k)).lookup x = some .free
  | [], _, h => by simp at h
  | (n, k0) :: r, x, h => by
    have ih := @relabel_free env r x
    show List.lookup x ((if (k0 == NameKind.free && env.scope.kind == .function && env.kindOf n == some .cell) = true then (n, NameKind.cell) else (n, k0)) :: _) = _ ∨ List.lookup x ((if (k0 == NameKind.free && env.scope.kind == .function && env.kindOf n == some .cell) = true then (n, NameKind.cell) else (n, k0)) :: _) = _
    simp only [List.lookup_cons] at h
    by_cases hc : (k0 == NameKind.free && env.scope.kind == .function && env.kindOf n == some .cell) = true
    · rw [if_pos hc]
      simp only [List.lookup_cons]
      cases hx : x == n with
      | true => exact .inl rfl
      | false => rw [hx] at h; exact ih h
    · rw [if_neg hc]
      simp only [List.lookup_cons]
      cases hx : x == n with
      | true => rw [hx] at h; exact .inr h
      | false => rw [hx] at h; exact ih h
def cxComp (X : Cx) (scope : Scope) (cl : List (Str × Addr)) (C : Addr) (N : List Str) (s₀ : Shared) (H₀ : Hp) (fp : List Addr) (xe : Value → Shared → Prop) : Cx :=
  { X with N := N, s₀ := s₀, H₀ := H₀, env := compEnvC scope cl C X.env, outer := X.stack, stack := X.stack, ex := fp, fn := fun _ => false, pn := [], xe := xe }
theorem xw_no {X : Cx} : XW X (fun _ _ _ => False) := fun _ _ _ _ _ _ _ _ _ _ _ _ _ _ _ h => h.elim
inductive HidC (g : TG) (tt : TT) (te : TE) : Type where
  | mk : HidC g tt te
def PF (X : Cx) (ifs : List Expr) (tt : TT) : Prop :=
  ∀ (pins : List (Addr × Obj)) (s : Shared) (σ : St) (H : Hp) (Q : Bool → Hp → Prop), Inv X pins σ H s → tt σ H Q →
    wpAny (model X.prog X.w) X.A (forIn ifs true fun c r => if r = true then do let ok ← isTrue c X.env (eval c X.env); pure (ForInStep.yield ok) else pure (ForInStep.yield r)) (TP X pins σ Q) X.xe s
def tYes : TT := fun _ H Q => Q true H
theorem pf_nil {X : Cx} : PF X [] tYes := fun _ _ _ H _ I h => by
  simp only [List.forIn_nil]
  exact wpAny_pure ⟨H, I, h⟩
theorem pf_one {X : Cx} {c : Expr} {tt : TT} (h : PT X c tt) : PF X [c] tt := fun pins s σ H Q I hw => wpAny_tests_one (h pins s σ H Q I hw)
def Comp (g : TG) (tt : TT) (te : TE) (_ : HidC g tt te) (J : It) (σ0 : St) (D : Addr) (Q : Hp → Prop) (H : Hp) : Prop :=
  ∃ W : Nat → Nat → List V → St → Hp → Prop, (∃ m, W 0 m [] σ0 (upd H D (.lst []))) ∧ ∀ i m ys σ H, W i m ys σ H →
    (J.stop i H ∧ Q H) ∨ (J.go i H ∧ ∃ N : List V → St → Hp → Prop, (∀ ys σ H, N ys σ H → ∃ m', m' < m ∧ W (i + 1) m' ys σ H) ∧
      ∀ y H', J.yld i H y H' → g y σ H' fun σ2 H2 => tt σ2 H2 fun b H2' => if b = true then te σ2 H2' fun v H3 => H3 D = some (.lst ys) ∧ ys.length < sizeLine ∧ N (ys ++ [v]) σ2 (upd H3 D (.lst (ys ++ [v]))) else N ys σ2 H2')
def tComp (wi : TI) (ix : List Nat) (g : TG) (tt : TT) (te : TE) (h : HidC g tt te) : TE := fun σ H Q => wi σ H fun J H1 => ∀ D, H1 D = none → Comp g tt te h J (none :: ix.map fun i => (σ[i]?).join) D (fun H' => Q (.ref D) H') H1
theorem comp_range {lo : Int} {n : Nat} {g : TG} {tt : TT} {te : TE} {h : HidC g tt te} {σ0 : St} {D : Addr} {Q : Hp → Prop} {H : Hp} (Pv : Nat → List V → St → Hp → Prop) (h0 : Pv 0 [] σ0 (upd H D (.lst [])))
    (hs : ∀ i ys σ H, i < n → Pv i ys σ H → g (.int (lo + i)) σ H fun σ2 H2 => tt σ2 H2 fun b H2' => if b = true then te σ2 H2' fun v H3 => H3 D = some (.lst ys) ∧ ys.length < sizeLine ∧ Pv (i + 1) (ys ++ [v]) σ2 (upd H3 D (.lst (ys ++ [v]))) else Pv (i + 1) ys σ2 H2') (hd : ∀ ys σ H, Pv n ys σ H → Q H) :
    Comp g tt te h (Itr lo n) σ0 D Q H := by
  refine ⟨fun i m ys σ H => i + m = n ∧ Pv i ys σ H, ⟨n, Nat.zero_add n, h0⟩, fun i m ys σ H ⟨e, p⟩ => ?_⟩
  by_cases hi : i < n
  · refine .inr ⟨hi, Pv (i + 1), fun ys σ H q => ⟨m - 1, by omega, by omega, q⟩, ?_⟩
    rintro y H' ⟨rfl, rfl⟩
    exact hs i ys σ H' hi p
  · have e' : i = n := by omega
    subst e'
    exact .inl ⟨Nat.le_refl _, hd ys σ H p⟩
theorem comp_list {K : PySem.W.Frag} {a : Addr} {xs : List V} {g : TG} {tt : TT} {te : TE} {h : HidC g tt te} {σ0 : St} {D : Addr} {Q : Hp → Prop} {H : Hp} (Pv : Nat → List V → St → Hp → Prop) (h0 : Pv 0 [] σ0 (upd H D (.lst []))) (hl : ∀ i ys σ H, i ≤ xs.length → Pv i ys σ H → SqL K H a xs)
    (hs : ∀ i x ys σ H, xs[i]? = some x → Pv i ys σ H → g x σ H fun σ2 H2 => tt σ2 H2 fun b H2' => if b = true then te σ2 H2' fun v H3 => H3 D = some (.lst ys) ∧ ys.length < sizeLine ∧ Pv (i + 1) (ys ++ [v]) σ2 (upd H3 D (.lst (ys ++ [v]))) else Pv (i + 1) ys σ2 H2') (hd : ∀ ys σ H, Pv xs.length ys σ H → Q H) :
    Comp g tt te h (Itl K a) σ0 D Q H := by
  refine ⟨fun i m ys σ H => i + m = xs.length ∧ Pv i ys σ H, ⟨xs.length, Nat.zero_add _, h0⟩, fun i m ys σ H ⟨e, p⟩ => ?_⟩
  have hq := hl i ys σ H (by omega) p
  by_cases hi : i < xs.length
  · have ex : xs[i]? = some xs[i] := List.getElem?_eq_getElem hi
    refine .inr ⟨⟨xs, _, hq, ex⟩, Pv (i + 1), fun ys σ H q => ⟨m - 1, by omega, by omega, q⟩, ?_⟩
    rintro y H' ⟨rfl, hy⟩
    exact hs i y ys σ H' (hy xs hq) p
  · have e' : i = xs.length := by omega
    subst e'
    exact .inl ⟨⟨xs, hq, Nat.le_refl _⟩, hd ys σ H p⟩
theorem comp_tup {K : PySem.W.Frag} {a : Addr} {xs : List V} {g : TG} {tt : TT} {te : TE} {h : HidC g tt te} {σ0 : St} {D : Addr} {Q : Hp → Prop} {H : Hp} (Pv : Nat → List V → St → Hp → Prop) (h0 : Pv 0 [] σ0 (upd H D (.lst []))) (hl : ∀ i ys σ H, i ≤ xs.length → Pv i ys σ H → SqT K H a xs)
    (hs : ∀ i x ys σ H, xs[i]? = some x → Pv i ys σ H → g x σ H fun σ2 H2 => tt σ2 H2 fun b H2' => if b = true then te σ2 H2' fun v H3 => H3 D = some (.lst ys) ∧ ys.length < sizeLine ∧ Pv (i + 1) (ys ++ [v]) σ2 (upd H3 D (.lst (ys ++ [v]))) else Pv (i + 1) ys σ2 H2') (hd : ∀ ys σ H, Pv xs.length ys σ H → Q H) :
    Comp g tt te h (Itt K a) σ0 D Q H := by
  refine ⟨fun i m ys σ H => i + m = xs.length ∧ Pv i ys σ H, ⟨xs.length, Nat.zero_add _, h0⟩, fun i m ys σ H ⟨e, p⟩ => ?_⟩
  have hq := hl i ys σ H (by omega) p
  by_cases hi : i < xs.length
  · have ex : xs[i]? = some xs[i] := List.getElem?_eq_getElem hi
    refine .inr ⟨⟨xs, _, hq, ex⟩, Pv (i + 1), fun ys σ H q => ⟨m - 1, by omega, by omega, q⟩, ?_⟩
    rintro y H' ⟨rfl, hy⟩
    exact hs i y ys σ H' (hy xs hq) p
  · have e' : i = xs.length := by omega
    subst e'
    exact .inl ⟨⟨xs, hq, Nat.le_refl _⟩, hd ys σ H p⟩
theorem compLoop_turn {prog : Program} {w : World} {A : Around} {R : Result → Shared → Prop} {s : Shared} {elt target iter : Expr} {ifs : List Expr} {scope : Scope} {pos : Pos} {it acc : Value} {env : Env} (I : Nat → Shared → Prop)
    (turn : ∀ n s, I n s → wpAny (model prog w) A (pyNext it) (fun r s₁ => match r with
      | none => R (.ok .next) s₁
      | some v => wpAny (model prog w) A (letOwnedTupleGo target it v) (fun _ s₁' => wpAny (model prog w) A (assign target env v) (fun _ s₂ =>
          wpAny (model prog w) A (forIn ifs true fun c r => if r = true then do let ok ← isTrue c env (eval c env); pure (ForInStep.yield ok) else pure (ForInStep.yield r)) (fun ok s₃ =>
            if ok = true then wpAny (model prog w) A (eval elt env) (fun x s₄ =>
              wpAny (model prog w) A (call (.builtin "list.append") [acc, x]) (fun _ s₅ => ∃ m, m < n ∧ I m s₅) (notedBy (model prog w) A env fun e s' => R (.error e) s') s₄) (notedBy (model prog w) A env fun e s' => R (.error e) s') s₃
            else ∃ m, m < n ∧ I m s₃) (notedBy (model prog w) A env fun e s' => R (.error e) s') s₂) (notedBy (model prog w) A env fun e s' => R (.error e) s') s₁') (notedBy (model prog w) A env fun e s' => R (.error e) s') s₁) (notedBy (model prog w) A env fun e s' => R (.error e) s') s)
    (n : Nat) (h : I n s) : codeAny (model prog w) A (.compLoop (.ListComp elt [⟨target, iter, ifs, 0⟩] scope pos) 0 it acc env) R s := by
  refine codeAny_loop rfl I (fun n s hI => ?_) n h
  show wpAny _ _ ((compTurn (.ListComp elt [⟨target, iter, ifs, 0⟩] scope pos) 0 it acc env).onRaise (fun x => do noteFrame x env; theTreesLotGoes x)) _ _ s
  refine wpAny_noted ?_
  rw [compTurn_list]
  refine wpAny_bind (wpAny_standAt (wpAny_bind (wpAny_mono (turn n s hI) (fun r s₁ h₁ => ?_) fun _ _ h' => h')))
  cases r with
  | none => exact wpAny_pure h₁
  | some v =>
    refine wpAny_bind (wpAny_mono h₁ (fun _ s₁' h₁' => ?_) fun _ _ h' => h')
    refine wpAny_bind (wpAny_mono h₁' (fun _ s₂ h₂ => wpAny_bind (wpAny_mono h₂ (fun ok s₃ h₃ => ?_) fun _ _ h' => h')) fun _ _ h' => h')
    cases ok with
    | false => exact wpAny_pure ⟨rfl, h₃⟩
    | true =>
      exact wpAny_bind (wpAny_bind (wpAny_mono h₃ (fun x s₄ h₄ => wpAny_bind (wpAny_mono h₄ (fun _ s₅ h₅ => wpAny_pure (wpAny_pure ⟨rfl, h₅⟩)) fun _ _ h' => h')) fun _ _ h' => h'))
section
variable {X : Cx}
theorem comp_block {pins : List (Addr × Obj)} {σ : St} {H2 : Hp} {s2 : Shared} {it : Addr} {fp : List Addr} {tn : Nat → Heap → Prop} {J : It} {tg iter elt : Expr} {ifs : List Expr} {scope : Scope} {cl : List (Str × Addr)} {pos : Pos} {x : Str} {fs : List Str} {ix : List Nat} {g : TG} {tt : TT} {te : TE}
    {Qf : Addr → Hp → Prop} {E : Value → Shared → Prop} {RR : Value → Addr → Result → Shared → Prop}
    (I2 : Inv X pins σ H2 s2) (T : Turn X.prog X.w X.K tg J fp it tn) (st2 : tn 0 s2.heap) (f2 : ∀ b ∈ fp, FpOk X pins H2 b) (hc : X.calm = true) (S : CompSc scope X.env x fs)
    (c1 : ∀ n c, cl.lookup n = some c → X.env.cells.lookup n = some c) (c2 : ∀ n, (n, NameKind.free) ∈ scope.names → ∃ c, cl.lookup n = some c) (hix : ix.map (X.N[·]?) = fs.map some)
    (hg : ∀ C s₀ H₀ xe, PG (cxComp X scope cl C (x :: fs) s₀ H₀ fp xe) tg g) (hf : ∀ C s₀ H₀ xe, PF (cxComp X scope cl C (x :: fs) s₀ H₀ fp xe) ifs tt) (he : ∀ C s₀ H₀ xe, PE (cxComp X scope cl C (x :: fs) s₀ H₀ fp xe) elt te)
    (h : ∀ D, H2 D = none → Comp g tt te .mk J (none :: ix.map fun i => (σ[i]?).join) D (Qf D) H2)
    (fin : ∀ D C H' s', Inv X pins σ H' s' → Qf D H' → (∃ m, s'.heap.Ns C m) → FpOk X pins H' C → RR (.ref D) C (.ok .next) s') :
    wpAny (model X.prog X.w) X.A (newList []) (fun acc s₃ => wpAny (model X.prog X.w) X.A (newFunctionEnv scope X.env.globals cl [] X.env.qual none .none (some X.env)) (fun cenv s₄ =>
      codeAny (model X.prog X.w) X.A (.compStart (.ListComp elt [⟨tg, iter, ifs, 0⟩] scope pos) 0 (.ref it) acc { cenv with scope := relabel scope X.env }) (RR acc cenv.locals) s₄) E s₃) E s2 := by
  have hD : H2 s2.heap.objs.size = none := I2.hok.fresh (Nat.le_refl _)
  obtain ⟨W, ⟨m0, w0⟩, turn⟩ := h _ hD
  refine wpAny_newObj_type (wpAny_newFunctionEnv S.nocell (by intro y hy; simp at hy) (fun h₁ hns₁ hsb₁ => ?_) S.kind)
  have I3 : Inv X pins σ (upd H2 s2.heap.objs.size (.lst [])) { s2 with heap := s2.heap.push { cls := .type "list", dict := none, data := .seq ([] : List Value).toArray } } :=
    I2.laid (t' := s2.toks) (fun b u e => Heap.get?_push_of_some _ e) (Nat.le_refl _) ⟨by decide, [], 0, .nil, Heap.get?_push_size _ rfl⟩
  obtain ⟨e3, he3⟩ : ∃ s3 : Shared, s3 = { s2 with heap := s2.heap.push { cls := .type "list", dict := none, data := .seq ([] : List Value).toArray } } := ⟨_, rfl⟩
  rw [← he3] at I3
  have hh3 : s2.heap.push { cls := .type "list", dict := none, data := .seq ([] : List Value).toArray } = e3.heap := by rw [he3]
  have sz3 : e3.heap.objs.size = s2.heap.objs.size + 1 := by rw [← hh3, Heap.size_push]
  dsimp only at hns₁ hsb₁ ⊢
  rw [hh3] at hns₁ hsb₁ ⊢
  generalize hH3 : upd H2 s2.heap.objs.size (.lst []) = H3 at *
  have live : ∀ b ∈ fp, b < s2.heap.objs.size := fun b hb => let ⟨_, e, _⟩ := T.obj _ _ st2 b hb; Heap.lt_size e
  have f3 : ∀ b ∈ fp, FpOk X pins H3 b := fun b hb => by
    refine ⟨?_, (f2 b hb).2⟩
    rw [← hH3, upd_ne (Nat.ne_of_lt (live b hb))]
    exact (f2 b hb).1
  have C0 : FpOk X pins H3 e3.heap.objs.size := I3.fpOk (Nat.le_refl _) (I3.hok.fresh (Nat.le_refl _))
  have old3 : ∀ b o, e3.heap.get? b = some o → h₁.get? b = some o := fun b o e => hsb₁.extBut b o (Nat.ne_of_lt (Heap.lt_size e)) (Heap.get?_push_of_some _ e)
  have nofs : ∀ b ∈ fp, b ∉ frs X.stack := fun b hb z => (List.mem_cons.mp (I3.stkSub b z)).elim (f3 b hb).2.1 (f3 b hb).2.2.1
  have hst1 : tn 0 h₁ := T.keep _ _ _ st2 fun b _ o e => old3 b o (by rw [← hh3]; exact Heap.get?_push_of_some _ e)
  have e0 := I3.env0
  have ok : ∀ xe, (cxComp X scope cl e3.heap.objs.size (x :: fs) e3 H3 fp xe).Ok := fun xe => by
    refine ⟨I3.ok.mod, S.kind, I3.ok.glob, I3.ok.blt, Nat.le_refl _, fun y z c h1 h2 => I3.ok.inj y z c (c1 _ _ h1) (c1 _ _ h2), fun y hy => ?_, fun y c z => ?_, I3.ok.hd, I3.ok.frames, .inl rfl, fun b hb => ⟨?_, fun y c e => (f3 b hb).2.2.2.2.1 y c (c1 _ _ e)⟩, e0.bs, e0.bsz, fun b o e hb => ?_, nofs, e0.funs, e0.frf⟩
    · have q : scope.names.lookup y = some .free ∨ scope.names.lookup y = some .cell := by
        rcases hy with hy | hy
        · exact relabel_kind hy (.inl rfl)
        · exact relabel_kind hy (.inr rfl)
      rcases q with q | q
      · exact c2 y (PySem.mem_of_lookup q)
      · exact absurd rfl (S.nocell _ (PySem.mem_of_lookup q))
    · cases z
    · exact Nat.ne_of_lt (Nat.lt_of_lt_of_le (live b hb) (by rw [sz3]; exact Nat.le_succ _))
    · rcases (f3 b hb).2.2.2.1 with z | z
      · exact I3.ok.noex b o e z
      · exact absurd (Nat.lt_of_lt_of_le (Heap.lt_size e) (Nat.le_trans I3.ok.bsz z)) (Nat.lt_irrefl _)
  have cellUp : ∀ c v, e3.heap.IsCell c v → h₁.IsCell c v := fun c v ⟨o, ho, hd⟩ => ⟨o, old3 _ _ ho, hd⟩
  have J0 : ∀ xe, Inv (cxComp X scope cl e3.heap.objs.size (x :: fs) e3 H3 fp xe) [] (none :: ix.map fun i => (σ[i]?).join) H3 { e3 with heap := h₁, toks := e3.toks + ([] : List (Str × Value)).length } := fun xe => by
    have hk : ∀ b o, e3.heap.get? b = some o → h₁.get? b = some o := old3
    refine ⟨ok xe, rfl, I3.bare, Un.kept hk, ⟨_, hns₁, fun i y v h1 h2 h3 => ?_⟩, fun y c e => ?_, I3.hok.fresh (Nat.le_refl _), fun y c e => I3.freeC y c (c1 _ _ e), fun p hp => absurd (show p ∈ ([] : List (Addr × Obj)) from hp) (by simp), I3.hok.kept hk, ?_⟩
    · cases i with
      | zero => cases h2
      | succ i =>
        have h1 : fs[i]? = some y := h1
        have h2 : (ix.map fun i => (σ[i]?).join)[i]? = some (some v) := h2
        have hy := S.fs y (List.mem_of_getElem? h1)
        rw [List.getElem?_map] at h2
        cases ej : ix[i]? with
        | none => rw [ej] at h2; cases h2
        | some j =>
          rw [ej] at h2
          have h2 : (σ[j]?).join = some v := Option.some.inj h2
          have hσ : σ[j]? = some (some v) := by
            cases q : σ[j]? with
            | none => rw [q] at h2; cases h2
            | some o => rw [q] at h2; cases o with
              | none => cases h2
              | some o => cases h2; rfl
          have hN : X.N[j]? = some y := by
            have z := congrArg (·[i]?) hix
            simp only [List.getElem?_map, ej, h1, Option.map_some] at z
            exact Option.some.inj z
          have kf := S.fr _ (PySem.mem_of_lookup hy) rfl
          obtain ⟨m, hn, hl⟩ := I3.loc
          obtain ⟨u, r, l⟩ := hl j y v hN hσ (by rcases kf with k | k; exact .inr (.inl k); exact .inr (.inr k))
          refine ⟨u, r, .inr ⟨relabel_free hy, ?_⟩⟩
          rcases l with ⟨l, _⟩ | ⟨_, c, e, z⟩
          · rcases kf with k | k <;> (rw [l] at k; cases k)
          · obtain ⟨c', e'⟩ := c2 y (PySem.mem_of_lookup hy)
            have q := c1 _ _ e'
            rw [e] at q; cases q
            exact ⟨c, e', cellUp _ _ z⟩
    · obtain ⟨v, z⟩ := I3.cell y c (c1 _ _ e)
      exact ⟨v, cellUp _ _ z⟩
    · have z := congrArg List.length hix
      simp only [List.length_map] at z
      show (none :: _ : St).length = (x :: fs).length
      simp only [List.length_cons, List.length_map, z]
  have back : ∀ {xe σ' H' s'}, Inv (cxComp X scope cl e3.heap.objs.size (x :: fs) e3 H3 fp xe) [] σ' H' s' → Inv X pins σ H' s' := fun {xe σ' H' s'} J =>
    I3.call' (s' := s') (ch := fp) J.os J.base J.hok J.bare fun b hb => ⟨(f3 b hb).2.2.2.1, (f3 b hb).2.1, (f3 b hb).2.2.2.2.1, (f3 b hb).2.2.2.2.2⟩
  have stat : ∀ {xe} {H' : Hp}, (∀ b ∈ fp, H' b = none) → ∀ b ∈ fp, FpOk (cxComp X scope cl e3.heap.objs.size (x :: fs) e3 H3 fp xe) [] H' b := fun {xe H'} hn b hb =>
    ⟨hn b hb, Nat.ne_of_lt (Nat.lt_of_lt_of_le (live b hb) (by rw [sz3]; exact Nat.le_succ _)), nofs b hb, .inl hb, fun y c e => (f3 b hb).2.2.2.2.1 y c (c1 _ _ e), fun p hp => absurd (show p ∈ ([] : List (Addr × Obj)) from hp) (by simp)⟩
  have loop : ∀ s4 : Shared, s4 = { e3 with heap := h₁, toks := e3.toks + ([] : List (Str × Value)).length } →
      codeAny (model X.prog X.w) X.A (.compLoop (.ListComp elt [⟨tg, iter, ifs, 0⟩] scope pos) 0 (.ref it) (.ref s2.heap.objs.size) (compEnvC scope cl e3.heap.objs.size X.env)) (RR (.ref s2.heap.objs.size) e3.heap.objs.size) s4 := by
    rintro s4 rfl
    let xe := notedBy (model X.prog X.w) X.A (compEnvC scope cl e3.heap.objs.size X.env) fun e s' => RR (.ref s2.heap.objs.size) e3.heap.objs.size (.error e) s'
    refine compLoop_turn (fun n s' => ∃ i ys σ' H', Inv (cxComp X scope cl e3.heap.objs.size (x :: fs) e3 H3 fp xe) [] σ' H' s' ∧ tn i s'.heap ∧ (∀ b ∈ fp, H' b = none) ∧ W i n ys σ' H') ?_ m0 ⟨0, [], _, _, J0 xe, hst1, fun b hb => (f3 b hb).1, w0⟩
    rintro n s5 ⟨i, ys, σ5, H5, J5, st5, fr5, w5⟩
    rcases turn i n ys σ5 H5 w5 with ⟨stop, qn⟩ | ⟨go, N, hN, step⟩
    · refine thn (T.done (cxComp X scope cl e3.heap.objs.size (x :: fs) e3 H3 fp xe) rfl rfl rfl hc i [] s5 σ5 H5 xe J5 (stat fr5) st5 stop) fun r s6 ⟨hr, J6⟩ => ?_
      subst hr
      obtain ⟨m, hn, _⟩ := J6.loc
      exact fin _ _ H5 s6 (back J6) qn ⟨m, hn⟩ ⟨J6.free, C0.2⟩
    · refine thn (T.item (cxComp X scope cl e3.heap.objs.size (x :: fs) e3 H3 fp xe) rfl rfl rfl hc i [] s5 σ5 H5 xe J5 (stat fr5) st5 go) fun r s6 ⟨u, hr, h6⟩ => ?_
      subst hr
      refine thn h6 fun _ s7 ⟨y, H7, J7, r7, y7, st7, fr7⟩ => ?_
      have J7' := J7.pinned (stat fr7) (T.obj _ _ st7)
      refine thn (hg _ _ _ xe _ s7 σ5 H7 y u _ J7' r7 (step y H7 y7)) fun _ s8 ⟨σ8, H8, J8, q8⟩ => ?_
      refine thn (hf _ _ _ xe _ s8 σ8 H8 _ J8 q8) fun ok s8' ⟨H8', J8', q8'⟩ => ?_
      cases ok with
      | false =>
        obtain ⟨m', hm', w9⟩ := hN _ _ _ (by simpa using q8')
        refine ⟨m', hm', i + 1, ys, σ8, _, J8'.unpinned, T.keep _ _ _ st7 fun b hb o e => (J8'.pin (b, o) (List.mem_append_right _ (List.mem_append_right _ (mem_pinsAt hb e)))).1, fun b hb => ?_, w9⟩
        obtain ⟨o, e, d⟩ := T.obj _ _ st7 b hb
        exact (J8'.pin (b, o) (List.mem_append_right _ (List.mem_append_right _ (mem_pinsAt hb e)))).2.1
      | true =>
      rw [if_pos rfl] at q8' ⊢
      refine thn (he _ _ _ xe _ s8' σ8 H8' _ J8' q8') fun uv s9 ⟨v, H9, J9, r9, hD9, hl9, n9⟩ => ?_
      obtain ⟨m', hm', w9⟩ := hN _ _ _ n9
      refine thn (mt_append (X := cxComp X scope cl e3.heap.objs.size (x :: fs) e3 H3 fp xe) _ s9 σ8 H9 (.ref s2.heap.objs.size) [v] _ [uv] (fun _ H' => H' = upd H9 s2.heap.objs.size (.lst (ys ++ [v]))) J9 rfl (.cons r9 .nil) ⟨_, ys, v, rfl, rfl, hD9, hl9, rfl⟩) fun _ s10 ⟨_, H10, J10, _, eH⟩ => ?_
      subst eH
      refine ⟨m', hm', i + 1, ys ++ [v], σ8, _, J10.unpinned, T.keep _ _ _ st7 fun b hb o e => (J10.pin (b, o) (List.mem_append_right _ (List.mem_append_right _ (mem_pinsAt hb e)))).1, fun b hb => ?_, w9⟩
      obtain ⟨o, e, d⟩ := T.obj _ _ st7 b hb
      exact (J10.pin (b, o) (List.mem_append_right _ (List.mem_append_right _ (mem_pinsAt hb e)))).2.1
  subst he3
  exact codeAny_compStart_list (loop _ rfl) (T.self X.A 0 _ _ _ hst1 (loop _ rfl))
theorem CompSc.clos {pins : List (Addr × Obj)} {σ : St} {H : Hp} {s : Shared} {scope : Scope} {x : Str} {fs : List Str} (S : CompSc scope X.env x fs) (I : Inv X pins σ H s) :
    ∃ cl, closureFor scope X.env = pure cl ∧ (∀ n c, cl.lookup n = some c → X.env.cells.lookup n = some c) ∧ ∀ n, (n, NameKind.free) ∈ scope.names → ∃ c, cl.lookup n = some c :=
  closure_of fun n hn => I.ok.has n (S.fr _ hn rfl)
theorem pe_comp {tg iter elt : Expr} {ifs : List Expr} {scope : Scope} {pos : Pos} {x : Str} {fs : List Str} {ix : List Nat} {wi : TI} {g : TG} {tt : TT} {te : TE} (hc : X.calm = true) (hi : PI X tg iter wi) (hk : compChk scope X.env x fs = true) (hix : ix.map (X.N[·]?) = fs.map some)
    (hg : ∀ cl C s₀ H₀ fp xe, PG (cxComp X scope cl C (x :: fs) s₀ H₀ fp xe) tg g) (hf : ∀ cl C s₀ H₀ fp xe, PF (cxComp X scope cl C (x :: fs) s₀ H₀ fp xe) ifs tt) (he : ∀ cl C s₀ H₀ fp xe, PE (cxComp X scope cl C (x :: fs) s₀ H₀ fp xe) elt te) (hs : ∀ x, foldedSetIterable iter X.env x = pure x := by intro _; rfl) :
    PE X (.ListComp elt [⟨tg, iter, ifs, 0⟩] scope pos) (tComp wi ix g tt te .mk) := by
  intro pins s σ H Q I h
  have S := CompSc.of hk
  obtain ⟨cl, hcl, c1, c2⟩ := S.clos I
  rw [eval_ListComp]
  refine wpAny_comprehension_free (use := none) rfl hs hcl S.kind S.own (thn (hi pins s σ H _ I h) fun v s1 h1 => thn h1 fun itv s2 h2 => ?_)
  obtain ⟨it, fp, tn, J, H2, e, I2, T, st2, f2, q⟩ := h2
  subst e
  refine comp_block (RR := fun acc C => compPost (model X.prog X.w) X.A X.xe none (EP X pins σ Q) acc C) I2 T st2 f2 hc S c1 c2 hix (fun C s₀ H₀ xe => hg cl C s₀ H₀ fp xe) (fun C s₀ H₀ xe => hf cl C s₀ H₀ fp xe) (fun C s₀ H₀ xe => he cl C s₀ H₀ fp xe) q fun D C H' s' I' q' ⟨m, hn⟩ ⟨f0, f1, _, f3, f4, f5⟩ => ?_
  exact ⟨m, hn, fun h' hs' => ⟨.ref D, H', I'.turned (t' := s'.toks) (fun b o hb e => (hs'.2 b hb).trans e) f0 f1 f3 f4 f5, rfl, q'⟩⟩
theorem ps_setC {tg iter elt : Expr} {ifs : List Expr} {scope : Scope} {pos spos py : Pos} {x y : Str} {i : Nat} {fs : List Str} {ix : List Nat} {wi : TI} {g : TG} {tt : TT} {te : TE} (hN : X.N.Nodup) (hy : X.N[i]? = some y) (hl : X.env.kindOf y = some .local) (hc : X.calm = true) (hi : PI X tg iter wi)
    (hk : compChk scope X.env x fs = true) (hix : ix.map (X.N[·]?) = fs.map some)
    (hg : ∀ cl C s₀ H₀ fp xe, PG (cxComp X scope cl C (x :: fs) s₀ H₀ fp xe) tg g) (hf : ∀ cl C s₀ H₀ fp xe, PF (cxComp X scope cl C (x :: fs) s₀ H₀ fp xe) ifs tt) (he : ∀ cl C s₀ H₀ fp xe, PE (cxComp X scope cl C (x :: fs) s₀ H₀ fp xe) elt te)
    (hsw : swapsWith (.ListComp elt [⟨tg, iter, ifs, 0⟩] scope pos) (some (.Name y py)) spos.line X.env = pure true := by rfl) (hs : ∀ x, foldedSetIterable iter X.env x = pure x := by intro _; rfl) :
    PS X (.Assign [.Name y py] (.ListComp elt [⟨tg, iter, ifs, 0⟩] scope pos) spos) (tAsg (tComp wi ix g tt te .mk) (gName i)) := by
  intro pins s σ H D I h
  have S := CompSc.of hk
  obtain ⟨cl, hcl, c1, c2⟩ := S.clos I
  rw [exec_Assign_Name_used _ _ _ _ hsw]
  refine wpAny_bind (wpAny_standAt (wpAny_bind ?_))
  show wpAny _ X.A (do let _ ← comprehension (.ListComp elt [⟨tg, iter, ifs, 0⟩] scope pos) scope X.env _ (newList []) false (eval iter X.env) (some (assign (.Name y py) X.env))) _ _ s
  refine wpAny_bind (wpAny_mono (wpAny_comprehension_free (use := some (assign (.Name y py) X.env)) (Q := fun _ s' => SP X pins D .next s') rfl hs hcl S.kind S.own
    (thn (hi pins s σ H _ I h) fun v s1 h1 => thn h1 fun itv s2 h2 => ?_)) (fun _ s' hq => wpAny_pure (wpAny_pure hq)) fun _ _ e => e)
  obtain ⟨it, fp, tn, J, H2, e, I2, T, st2, f2, q⟩ := h2
  subst e
  refine comp_block (RR := fun acc C => compPost (model X.prog X.w) X.A X.xe (some (assign (.Name y py) X.env)) (fun _ s' => SP X pins D .next s') acc C) I2 T st2 f2 hc S c1 c2 hix (fun C s₀ H₀ xe => hg cl C s₀ H₀ fp xe) (fun C s₀ H₀ xe => hf cl C s₀ H₀ fp xe) (fun C s₀ H₀ xe => he cl C s₀ H₀ fp xe) q
    fun D' C H' s' I' q' ⟨m, hn⟩ ⟨f0, f1, _, f3, f4, f5⟩ => ?_
  show wpAny _ X.A (assign (.Name y py) X.env (.ref D')) _ _ _
  refine wpAny_assign_Name (store_ok2 (v := .ref D') I' hN hy (.inl hl) rfl (fun s'' I'' ⟨a, sb, ha⟩ => ?_) (.inr hl))
  have hne : C ≠ a := by
    rcases ha with ha | ha
    · rw [ha]; exact f1
    · exact fun z => f4 _ _ ha z.symm
  exact ⟨m, hn.sameBut sb hne, fun h' hs' => ⟨_, H', I''.turned (t' := s''.toks) (fun b o hb e => (hs'.2 b hb).trans e) f0 f1 f3 f4 f5, q'⟩⟩
end
end L2
namespace L2
open PySem PySem.Spec PyProof.Rows
section
variable {X : Cx} {pins : List (Addr × Obj)} {σ : List (Option V)} {H H' : Hp} {s : Shared} {h' : Heap}
end
section
variable {X : Cx}
end
theorem ints_of : ∀ {ns : List Int} {us : List Value}, Vals (ns.map V.int) us → IntsAre us ns
  | [], _, h => by cases h; exact .nil
  | n :: ns, _, h => by
    cases h with
    | cons r rr =>
      obtain ⟨t, rfl⟩ := r
      exact .cons _ _ (ints_of rr)
end L2
namespace L2
open PySem PySem.Spec PyProof.Rows
section
variable {X : Cx} {pins : List (Addr × Obj)} {σ : St} {H : Hp} {s : Shared} {a : Addr} {kvs : List (Key × V)} {k : Key} {u r : Value} {z : V} {A : Around} {E : Value → Shared → Prop}
end
section
variable {X : Cx} {o e f : Expr} {apos cpos : Pos} {td ty tx : TE}
end
theorem call_sum {X : Cx} (hc : X.calm = true) : CallR X (.builtin "sum") (fun xs H Q => ∃ (p : Addr) (ns : List Int), xs = [.ref p] ∧ SqL X.K H p (ns.map V.int) ∧ Q (.int ns.sum) H) := by
  intro pins s σ H xs us Q I r h
  obtain ⟨p, ns, rfl, hq, q⟩ := h
  obtain ⟨u, rfl, rx⟩ := vals1 r
  cases rx
  obtain ⟨its, r', pl, hz⟩ := I.list hq
  have hi := ints_of r'
  obtain ⟨ps, hx⟩ := hi.allInts.items
  have e : preSum (numAt ps) ps.size = ns.sum := by
    have h1 := hi.numsOf
    rw [preSum_eq, List.take_of_length_le (by simp), ← h1, ← nums_intItems, ← hx]
  have hl := pl.isList
  rw [hx] at hl
  refine sum_intListG (I.ok.hd hc) hl fun h' tk t' hk => ?_
  rw [e]
  exact ⟨.int ns.sum, H, I.kept (t' := tk) hk, ⟨t', rfl⟩, q⟩
theorem bools_of : ∀ {bs : List Bool} {us : List Value}, Vals (bs.map V.bl) us → LSm.BoolsAre us bs
  | [], _, h => by cases h; exact .nil
  | b :: bs, _, h => by
    cases h with
    | cons r rr =>
      cases r
      exact .cons _ (bools_of rr)
theorem call_all {X : Cx} (hc : X.calm = true) : CallR X (.builtin "all") (fun xs H Q => ∃ (p : Addr) (bs : List Bool), xs = [.ref p] ∧ SqL X.K H p (bs.map V.bl) ∧ Q (.bl (bs.all id)) H) := by
  intro pins s σ H xs us Q I r h
  obtain ⟨p, bs, rfl, hq, q⟩ := h
  obtain ⟨u, rfl, rx⟩ := vals1 r
  cases rx
  obtain ⟨its, r', pl, hz⟩ := I.list hq
  have hb := bools_of r'
  have hl := pl.isList
  have hlt : p < s.heap.objs.size := by obtain ⟨_, e, _⟩ := id hl; exact Heap.lt_size e
  refine call_all_walk (wpAny_pyIter_list hl ?_)
  refine ⟨s.heap.objs.size, [s.heap.objs.size, p], [s.heap.objs.size], its.toArray.size, _, _, fun i => (bs[i]?).getD true, rfl, Walks.list (A := X.A.in1) (I.ok.hd hc) _ p (Nat.ne_of_lt hlt) its.toArray,
    ⟨⟨_, Heap.get?_push_size _ rfl, rfl, rfl⟩, hl.push _⟩, fun i v s' Q' E' hP hQ => ?_, fun h' tk hk => ?_⟩
  · obtain ⟨b, e, rfl⟩ := hb.get i v (by simpa using hP)
    simp only [e, Option.getD_some] at hQ
    exact wpAny_truthy_bool hQ
  · have e : ((List.range its.toArray.size).all fun i => (bs[i]?).getD true) = bs.all id := by
      rw [List.size_toArray, hb.length]; exact LSm.range_all bs
    rw [e]
    exact ⟨.bl (bs.all id), H, I.kept (t' := tk) (LSm.kept_iter hk), rfl, q⟩
theorem call_any {X : Cx} (hc : X.calm = true) : CallR X (.builtin "any") (fun xs H Q => ∃ (p : Addr) (bs : List Bool), xs = [.ref p] ∧ SqL X.K H p (bs.map V.bl) ∧ Q (.bl (bs.any id)) H) := by
  intro pins s σ H xs us Q I r h
  obtain ⟨p, bs, rfl, hq, q⟩ := h
  obtain ⟨u, rfl, rx⟩ := vals1 r
  cases rx
  obtain ⟨its, r', pl, hz⟩ := I.list hq
  have hb := bools_of r'
  have hl := pl.isList
  have hlt : p < s.heap.objs.size := by obtain ⟨_, e, _⟩ := id hl; exact Heap.lt_size e
  refine call_any_walk (wpAny_pyIter_list hl ?_)
  refine ⟨s.heap.objs.size, [s.heap.objs.size, p], [s.heap.objs.size], its.toArray.size, _, _, fun i => (bs[i]?).getD false, rfl, Walks.list (A := X.A.in1) (I.ok.hd hc) _ p (Nat.ne_of_lt hlt) its.toArray,
    ⟨⟨_, Heap.get?_push_size _ rfl, rfl, rfl⟩, hl.push _⟩, fun i v s' Q' E' hP hQ => ?_, fun h' tk hk => ?_⟩
  · obtain ⟨b, e, rfl⟩ := hb.get i v (by simpa using hP)
    simp only [e, Option.getD_some] at hQ
    exact wpAny_truthy_bool hQ
  · have e : ((List.range its.toArray.size).any fun i => (bs[i]?).getD false) = bs.any id := by
      rw [List.size_toArray, hb.length]; exact LSm.range_any bs
    rw [e]
    exact ⟨.bl (bs.any id), H, I.kept (t' := tk) (LSm.kept_iter hk), rfl, q⟩
theorem kv_at {κ : Type} {kvs : List (κ × V)} {vs : List (κ × Value)} (r : KV kvs vs) : ∀ (j : Nat) (k : κ) (x : Value), vs[j]? = some (k, x) → ∃ v, kvs[j]? = some (k, v) ∧ RelV v x := by
  unfold KV at r
  induction r with
  | nil => intro j k x e; simp at e
  | cons q _ ih =>
    intro j k x e
    cases j with
    | zero =>
      simp at e
      subst e
      exact ⟨_, by simp; exact Prod.ext q.1 rfl, q.2⟩
    | succ j => simpa using ih j k x (by simpa using e)
inductive HidW (c : TT) (tb : TS) : Type where
  | mk : HidW c tb
inductive HidB (tb : TS) : Type where
  | mk : HidB tb
def LoopW (c : TT) (tb : TS) (_ : HidW c tb) : TS := tWhile c tb
def TurnW (tb : TS) (_ : HidB tb) (Pv : Nat → St → Hp → Prop) (m : Nat) (D : Ends) (σ : St) (H : Hp) : Prop :=
  ∃ N : St → Hp → Prop, (∀ σ' H', N σ' H' → ∃ m', m' < m ∧ Pv m' σ' H') ∧ tb { D with nx := N, ct := N, bk := D.nx } σ H
theorem ps_whileE {X : Cx} {c : Expr} {body : List Stmt} {tc : TT} {tb : TS} {pos : Pos} (hp : PassesOwn (model X.prog X.w) X.A X.env X.xe) (hc : PT X c tc) (hb : PSs X body tb) : PS X (.While c body [] pos) (LoopW tc tb .mk) := ps_while hp hc hb
theorem loop_while {c : TT} {tb : TS} {h : HidW c tb} {D : Ends} {σ : St} {H : Hp} (Pv : Nat → St → Hp → Prop) (m0 : Nat) (h0 : Pv m0 σ H)
    (hs : ∀ m σ H, Pv m σ H → c σ H fun b H1 => if b = true then TurnW tb .mk Pv m D σ H1 else D.nx σ H1) : LoopW c tb h D σ H := ⟨Pv, ⟨m0, h0⟩, hs⟩
theorem turnW {tb : TS} {h : HidB tb} {Pv : Nat → St → Hp → Prop} {m : Nat} {D : Ends} {σ : St} {H : Hp}
    (q : tb { D with nx := fun σ' H' => ∃ m', m' < m ∧ Pv m' σ' H', ct := fun σ' H' => ∃ m', m' < m ∧ Pv m' σ' H', bk := D.nx } σ H) : TurnW tb h Pv m D σ H := ⟨_, fun _ _ h => h, q⟩
end L2
namespace L2
open PySem PySem.Spec PyProof.Rows
section
variable {X : Cx} {pins : List (Addr × Obj)} {σ : List (Option V)} {H : Hp} {s : Shared} {a : Addr}
theorem Inv.rewrite {u v : HO} (I : Inv X pins σ H s) (e : H a = some u) (hn : ∀ b, u ≠ .own b) (ht : ∀ xs, u ≠ .tup xs) (h0 : ∀ w, X.H₀ a = some w → (∃ o z, w = .frz o z) ∨ (∃ xs, w = .tup xs) ∨ (∃ ps, w = .tbl ps) → False) (new : ObjOk X.prog X.w (upd H a v) s.heap a v) :
    Inv X pins σ (upd H a v) s where
  ok := I.ok
  os := I.os
  bare := I.bare
  base := ⟨I.base.keep, I.base.slot, fun b o q n hx => by
      have := I.base.free b o q n hx
      rw [upd_ne (fun z => by rw [z, e] at this; cases this)]; exact this, I.base.there,
    fun b xs q => by
      have hb : b ≠ a := fun z => h0 _ (z ▸ q) (.inr (.inl ⟨_, rfl⟩))
      rw [upd_ne hb]; exact I.base.tups b xs q,
    fun b o z q => by
      have hb : b ≠ a := fun z => h0 _ (z ▸ q) (.inl ⟨_, _, rfl⟩)
      rw [upd_ne hb]; exact I.base.frzs b o z q,
    fun b ps q => by
      have hb : b ≠ a := fun z => h0 _ (z ▸ q) (.inr (.inr ⟨_, rfl⟩))
      rw [upd_ne hb]; exact I.base.tbls b ps q⟩
  loc := I.loc
  cell := I.cell
  free := by rw [upd_ne (Ne.symm (ne_of_none e I.free))]; exact I.free
  freeC := fun x c q => by
    have := I.freeC x c q
    rw [upd_ne (Ne.symm (ne_of_none e this))]; exact this
  pin := fun p hp => by
    obtain ⟨p1, p2, p3⟩ := I.pin p hp
    exact ⟨p1, by rw [upd_ne (Ne.symm (ne_of_none e p2))]; exact p2, p3⟩
  hok := fun b w q => by
    by_cases hb : b = a
    · subst hb; rw [upd_same] at q; cases q; exact new
    · rw [upd_ne hb] at q
      refine (I.hok b w q).stay (fun _ _ _ q => q) (fun c q => ?_) fun c xs q => ?_
      · rw [upd_ne (fun z => by rw [z, e] at q; exact hn _ (Option.some.inj q))]; exact q
      · rw [upd_ne (fun z => by rw [z, e] at q; exact ht _ (Option.some.inj q))]; exact q
  len := I.len
theorem Inv.still {w : HO} (I : Inv X pins σ H s) (h : X.H₀ a = some w) (hw : (∃ o z, w = .frz o z) ∨ (∃ xs, w = .tup xs) ∨ (∃ ps, w = .tbl ps)) : (∃ o z, H a = some (.frz o z)) ∨ (∃ xs, H a = some (.tup xs)) ∨ (∃ ps, H a = some (.tbl ps)) := by
  rcases hw with ⟨o, z, rfl⟩ | ⟨xs, rfl⟩ | ⟨ps, rfl⟩
  · exact .inl ⟨o, z, I.base.frzs a o z h⟩
  · exact .inr (.inl ⟨xs, I.base.tups a xs h⟩)
  · obtain ⟨m, e⟩ := I.base.tbls a ps h
    exact .inr (.inr ⟨_, e⟩)
theorem Inv.freeze {kvs : List (Key × V)} (I : Inv X pins σ H s) (e : H a = some (.dK kvs)) : ∃ o, s.heap.get? a = some o ∧ Inv X pins σ (upd H a (.frz o (.dK kvs))) s := by
  obtain ⟨z, hd, vs, rel, o, es, ep, ho, r⟩ := I.hok a _ e
  refine ⟨o, ho, I.rewrite e (fun _ z => by cases z) (fun _ z => by cases z) (fun w hw h => ?_) ⟨ho, z, hd, vs, rel, o, es, ep, ho, r⟩⟩
  rcases I.still hw h with ⟨_, _, q⟩ | ⟨_, q⟩ | ⟨_, q⟩ <;> (rw [e] at q; cases q)
theorem Inv.thaw {kvs : List (Key × V)} {o : Obj} (I : Inv X pins σ H s) (e : H a = some (.frz o (.dK kvs))) (h0 : ∀ o u, X.H₀ a ≠ some (.frz o u)) : Inv X pins σ (upd H a (.dK kvs)) s := by
  obtain ⟨ho, z, hd, vs, rel, dd⟩ := I.hok a _ e
  refine I.rewrite e (fun _ z => by cases z) (fun _ z => by cases z) (fun w hw h => ?_) ⟨z, hd, vs, rel, dd⟩
  rcases h with ⟨_, _, rfl⟩ | h
  · exact h0 _ _ hw
  · rcases I.still hw (.inr h) with ⟨o', z', q⟩ | ⟨_, q⟩ | ⟨_, q⟩
    · rcases h with ⟨xs, rfl⟩ | ⟨ps, rfl⟩
      · have := I.base.tups a xs hw; rw [e] at this; cases this
      · obtain ⟨m, this⟩ := I.base.tbls a ps hw; rw [e] at this; cases this
    · rw [e] at q; cases q
    · rw [e] at q; cases q
end
def thawH (a : Addr) (H : Hp) : Hp := match H a with
  | some (.frz _ (.dK kvs)) => upd H a (.dK kvs)
  | _ => H
theorem thawH_of {a : Addr} {H : Hp} {o : Obj} {kvs : List (Key × V)} (h : H a = some (.frz o (.dK kvs))) : thawH a H = upd H a (.dK kvs) := by unfold thawH; rw [h]
theorem Inv.thawed {X : Cx} {pins : List (Addr × Obj)} {σ : List (Option V)} {H : Hp} {s : Shared} {a : Addr} (I : Inv X pins σ H s) (h0 : ∀ o u, X.H₀ a ≠ some (.frz o u)) : Inv X pins σ (thawH a H) s := by
  unfold thawH
  split
  · rename_i h; exact I.thaw h h0
  · exact I
def thawD (a : Addr) (D : Ends) : Ends := { D with nx := fun σ H => D.nx σ (thawH a H), bk := fun σ H => D.bk σ (thawH a H), ct := fun σ H => D.ct σ (thawH a H), rt := fun v H => D.rt v (thawH a H) }
def tThaw (X : Cx) (t : TS) : TS := fun D σ H => ∃ a, (∀ o u, X.H₀ a ≠ some (.frz o u)) ∧ t (thawD a D) σ H
theorem ps_thaw {X : Cx} {st : Stmt} {t : TS} (h : PS X st t) : PS X st (tThaw X t) := by
  intro pins s σ H D I hh
  obtain ⟨a, h0, hh⟩ := hh
  refine wpAny_mono (h pins s σ H (thawD a D) I hh) (fun f s' q => ?_) fun _ _ e => e
  unfold SP at q ⊢
  cases f with
  | next => obtain ⟨σ', H', I', q⟩ := q; exact ⟨σ', _, I'.thawed h0, q⟩
  | brk => obtain ⟨σ', H', I', q⟩ := q; exact ⟨σ', _, I'.thawed h0, q⟩
  | cont => obtain ⟨σ', H', I', q⟩ := q; exact ⟨σ', _, I'.thawed h0, q⟩
  | ret u => obtain ⟨v, σ', H', I', r, q⟩ := q; exact ⟨v, σ', _, I'.thawed h0, r, q⟩
def Itd (a : Addr) (o : Obj) (kvs : List (Key × V)) : It :=
  ⟨fun i H => H a = some (.frz o (.dK kvs)) ∧ i < kvs.length, fun i H x H' => H' = H ∧ ∃ k v, kvs[i]? = some (k, v) ∧ x = kV k, fun i H => H a = some (.frz o (.dK kvs)) ∧ kvs.length ≤ i⟩
theorem frz_at {X : Cx} {pins : List (Addr × Obj)} {σ : List (Option V)} {H : Hp} {s : Shared} {a : Addr} {o : Obj} {kvs : List (Key × V)} {ep : Nat} {es} (I : Inv X pins σ H s) (e : H a = some (.frz o (.dK kvs))) (he : o.data = .dict es ep) :
    ∃ vs, KV kvs vs ∧ s.heap.DictAt (mixKind X.prog X.w) a vs ep ∧ (a == sysModules) = false := by
  obtain ⟨ho, z, hd, vs, rel, o', es', ep', ho', c, d, r⟩ := I.hok a _ e
  rw [ho] at ho'
  cases ho'
  rw [he] at d
  cases d
  exact ⟨vs, rel, ⟨o, es, ho, c, he, r⟩, hd⟩
theorem turn_dict {P : Program} {w : World} {K : PySem.W.Frag} {tg : Expr} (a it : Addr) (o : Obj) (kvs : List (Key × V)) (ep : Nat) {es} (he : o.data = .dict es ep) : Turn P w K tg (Itd a o kvs) [it] it (fun i h => h.IsKeyIter it a i kvs.length ep) where
  mem := by simp
  obj := fun i h st b hb => by
    have e : b = it := by simpa using hb
    subst e
    obtain ⟨o, e, c, d⟩ := st
    exact ⟨o, e, fun v z => by rw [d] at z; cases z⟩
  keep := fun i h h' st k => st.at fun o e => k it (by simp) o e
  item := by
    intro X hP hw hK hc i pins s σ H E I hf st hg
    subst hP hw hK
    obtain ⟨hg, hi⟩ := hg
    obtain ⟨vs, rel, dat, _⟩ := frz_at I hg he
    obtain ⟨f0, f1, f2, f3, f4, f5⟩ := hf it (by simp)
    have hl := rel.length
    have hi2 : i < vs.length := by rw [← hl]; exact hi
    obtain ⟨⟨k, x⟩, hx⟩ : ∃ p, vs[i]? = some p := ⟨_, List.getElem?_eq_getElem hi2⟩
    obtain ⟨v, hv, rv⟩ := kv_at rel i k x hx
    rw [hl] at st
    refine wpAny_pyNext_dict_item st dat hx fun key h' hk st' sb => ?_
    have I1 : Inv X pins σ H { s with heap := h' } := I.turned (t' := s.toks) (fun b o hb e => (sb.2 b hb).trans e) f0 f1 f3 f4 f5
    obtain ⟨ob, e, c, d⟩ := id st'
    have rk : RelV (kV k) key := by
      rcases keyIs_shape hk with ⟨i, t, rfl, rfl⟩ | ⟨x, t, rfl, rfl⟩
      · exact ⟨t, rfl⟩
      · exact ⟨t, rfl⟩
    rw [← hl] at st'
    exact ⟨key, rfl, go_of (s := { s with heap := h' }) e c d (by decide) ⟨kV k, H, I1, rk, ⟨rfl, k, v, hv, rfl⟩, st', fun b hb => (hf b hb).1⟩⟩
  done := by
    intro X hP hw hK hc i pins s σ H E I hf st hg
    subst hP hw hK
    obtain ⟨hg, hi⟩ := hg
    obtain ⟨vs, rel, dat, _⟩ := frz_at I hg he
    obtain ⟨f0, f1, f2, f3, f4, f5⟩ := hf it (by simp)
    have hl := rel.length
    rw [hl] at st
    exact wpAny_pyNext_dict_end (I.ok.hd hc) st dat (List.getElem?_eq_none_iff.mpr (by rw [← hl]; exact hi)) fun h' eb => ⟨rfl, I.turned (t' := s.toks) (fun b o hb e => eb b o hb e) f0 f1 f3 f4 f5⟩
  self := fun _ _ _ _ _ st h => wpAny_pyIter_keyiter st h
def iDict (tl : TE) : TI := fun σ H R => tl σ H fun x H1 => ∃ a kvs, x = .ref a ∧ H1 a = some (.dK kvs) ∧ ∀ o, R (Itd a o kvs) (upd H1 a (.frz o (.dK kvs)))
theorem pi_dict {X : Cx} {tg l : Expr} {tl : TE} (hl : PE X l tl) : PI X tg l (iDict tl) := by
  intro pins s σ H R I h
  refine thn (hl pins s σ H _ I h) fun v s1 ⟨x, H1, I1, r1, q1⟩ => ?_
  obtain ⟨a, kvs, e, hq, q⟩ := q1
  subst e
  cases r1
  obtain ⟨o, ho, I2⟩ := I1.freeze hq
  obtain ⟨_, _, vs, rel, o', es, ep, ho', c, d, r⟩ := I1.hok a _ hq
  rw [ho] at ho'
  cases ho'
  obtain ⟨vs, rel, dat, hd⟩ := frz_at I2 upd_same d
  refine wpAny_pyIter_dict hd dat ?_
  have hlen : kvs.length = vs.length := rel.length
  have hfr : upd H1 a (.frz o (.dK kvs)) s1.heap.objs.size = none := I2.hok.fresh (Nat.le_refl _)
  refine ⟨s1.heap.objs.size, [s1.heap.objs.size], _, _, upd H1 a (.frz o (.dK kvs)), rfl, I2.kept (t' := s1.toks) fun b o e => Heap.get?_push_of_some _ e, turn_dict a _ o kvs ep d, ⟨_, Heap.get?_push_size _ rfl, rfl, by rw [hlen]; rfl⟩, fun b hb => ?_, q o⟩
  have e : b = s1.heap.objs.size := by simpa using hb
  subst e
  exact I2.fpOk (Nat.le_refl _) hfr
theorem loop_dict {a : Addr} {o : Obj} {kvs : List (Key × V)} {g : TG} {tb : TS} {h : HidF g tb} {D : Ends} {σ : St} {H : Hp} (Pv : Nat → St → Hp → Prop) (h0 : Pv 0 σ H) (hl : ∀ i σ H, i ≤ kvs.length → Pv i σ H → H a = some (.frz o (.dK kvs)))
    (hs : ∀ i k v σ H, kvs[i]? = some (k, v) → Pv i σ H → g (kV k) σ H fun σ2 H2 => tb { D with nx := Pv (i + 1), ct := Pv (i + 1), bk := D.nx } σ2 H2) (hd : ∀ σ H, Pv kvs.length σ H → D.nx σ H) : Loop g tb h (Itd a o kvs) D σ H := by
  refine ⟨fun i m σ H => i + m = kvs.length ∧ Pv i σ H, ⟨kvs.length, Nat.zero_add _, h0⟩, fun i m σ H ⟨e, p⟩ => ?_⟩
  have hq := hl i σ H (by omega) p
  by_cases hi : i < kvs.length
  · refine .inr ⟨⟨hq, hi⟩, Pv (i + 1), fun σ H q => ⟨m - 1, by omega, by omega, q⟩, ?_⟩
    rintro y H' ⟨rfl, k, v, hk, rfl⟩
    exact hs i k v σ _ hk p
  · have e' : i = kvs.length := by omega
    subst e'
    exact .inl ⟨⟨hq, Nat.le_refl _⟩, hd σ H p⟩
end L2
namespace L2
open PySem PySem.Spec PyProof.Rows
def rEqN (K : PySem.W.Frag) (n : Nat) : R2 := fun x y H Q => (x = .non ∧ y = .non ∧ Q (.bl true) H) ∨ (x = .non ∧ (∃ a xs, y = .ref a ∧ SqT K H a xs) ∧ Q (.bl false) H) ∨ ((∃ a xs, x = .ref a ∧ SqT K H a xs) ∧ y = .non ∧ Q (.bl false) H) ∨ rEqD K n x y H Q
theorem op_eqN {X : Cx} {n : Nat} (hu : X.A.units + n + 2 < cLine) : OpR X (compareOp .Eq) (rEqN X.K n) := by
  intro pins s σ H x y u v Q I rx ry h
  rcases h with ⟨rfl, rfl, q⟩ | ⟨rfl, ⟨a, xs, rfl, hy⟩, q⟩ | ⟨⟨a, xs, rfl, hx⟩, rfl, q⟩ | h
  · cases rx; cases ry
    exact SeqAt.RcAt.none_none X.prog X.w X.xe _ ⟨.bl true, H, I, rfl, q⟩
  · cases rx; cases ry
    obtain ⟨its, r, p, hz⟩ := I.tuple hy
    exact SeqAt.RcAt.none_tuple (A := X.A) (s := s) (show s.heap.IsTuple a its.toArray from p) (by omega) X.prog X.w X.xe _ ⟨.bl false, H, I, rfl, q⟩
  · cases rx; cases ry
    obtain ⟨its, r, p, hz⟩ := I.tuple hx
    exact SeqAt.RcAt.tuple_none (A := X.A) (s := s) (show s.heap.IsTuple a its.toArray from p) (by omega) X.prog X.w X.xe _ ⟨.bl false, H, I, rfl, q⟩
  · exact op_eqD hu pins s σ H x y u v Q I rx ry h
end L2
namespace L2
open PySem PySem.Spec PyProof.Rows
end L2
namespace L2
open PySem PySem.Spec PyProof.Rows
end L2
namespace L2
open PySem PySem.Spec PyProof.Rows
theorem ix_tupC {X : Cx} {K : PySem.W.Frag} (h : X.K = K) : IxR X (rIxT K) := h ▸ ix_tup
theorem ix_listC {X : Cx} {K : PySem.W.Frag} (h : X.K = K) : IxR X (rIxL K) := h ▸ ix_list
end L2
namespace L2
open PySem PySem.Spec PyProof.Rows
structure FunD (K : PySem.W.Frag) (x qual : Str) (st : Stmt) (f : Addr) (fd : FuncData) : Prop where
  ex : ∃ (oc : Value) (od : Option Addr) (dV kV doc pm : Value) (an : Option Addr) (cdv ct : Value) (osl : Array (Option Value)),
    fd = PySem.W.fnOf x qual (defArgs st) (defBody st) (defScope st) dV kV doc pm an cdv ct ∧ K.lookup f = some ⟨oc, od, .func fd, osl⟩ ∧ PySem.W.codeIn K cdv qual = true
  kp : PySem.W.keepIn K (.ref f) = true
section
variable {P : Program} {w : World} {K : PySem.W.Frag} {mg : Str → Option Value} {base : Heap}
theorem fund_mk {x qual : Str} {st : Stmt} {f : Addr} {oc : Value} {od an : Option Addr} {osl : Array (Option Value)} {dV kV doc pm cdv ct : Value} (l : K.lookup f = some ⟨oc, od, .func (PySem.W.fnOf x qual (defArgs st) (defBody st) (defScope st) dV kV doc pm an cdv ct), osl⟩)
    (c : PySem.W.codeIn K cdv qual = true) (k : PySem.W.keepIn K (.ref f) = true) : FunD K x qual st f (PySem.W.fnOf x qual (defArgs st) (defBody st) (defScope st) dV kV doc pm an cdv ct) := ⟨⟨oc, od, dV, kV, doc, pm, an, cdv, ct, osl, rfl, l, c⟩, k⟩
theorem FunD.okE {x qual : Str} {st : Stmt} {f : Addr} {fd : FuncData} {N ps : List Str} {k : Nat} {sp : Sp} (F : FunD K x qual st f fd) (S : FnScope N ps (defScope st)) (len : ∀ vs H Q E, sp vs H Q E → vs.length = ps.length)
    (hbody : Body P w K mg base qual st N k sp) : FnOk P w K mg base (CXe P w) (k + 1) f fd ps sp := by
  obtain ⟨oc, od, dV, kV, doc, pm, an, cdv, ct, osl, rfl, lk, hcd⟩ := F.ex
  exact fn_of lk hcd S len fun A outer s H vs Q E hr hsp => hbody f cdv A outer s H vs Q E hr hsp
def RawMD (K : PySem.W.Frag) (C : Addr) (m qual : Str) (st : Stmt) (ps : List Str) (dvs : List V) : Prop := ∃ f fd ds, Meth K C m f ∧ FunD K m qual st f fd ∧ Binds K fd ps ds ∧ Vals dvs ds
def RawID (K : PySem.W.Frag) (mg : Str → Option Value) (x : Str) (C : Addr) (qual : Str) (st : Stmt) (ps : List Str) (dvs : List V) : Prop := ∃ f fd ds, mg x = some (.ref C) ∧ Mk K C f ∧ FunD K "__init__" qual st f fd ∧ Binds K fd ps ds ∧ Vals dvs ds
theorem RawMD.have {C : Addr} {m qual : Str} {st : Stmt} {N ps : List Str} {dvs : List V} {k : Nat} {sp : Sp} (R : RawMD K C m qual st ps dvs) (S : FnScope N ps (defScope st)) (len : ∀ vs H Q E, sp vs H Q E → vs.length = ps.length)
    (hbody : Body P w K mg base qual st N k sp) : HaveM P w K mg base C m (k + 1) ps dvs sp :=
  let ⟨f, fd, ds, hm, F, hb, hd⟩ := R
  ⟨f, fd, ds, hm, hb, hd, F.okE S len hbody⟩
theorem RawID.have {C : Addr} {x qual : Str} {st : Stmt} {N ps : List Str} {dvs : List V} {k : Nat} {sp : Sp} (R : RawID K mg x C qual st ps dvs) (S : FnScope N ps (defScope st)) (len : ∀ vs H Q E, sp vs H Q E → vs.length = ps.length)
    (hbody : Body P w K mg base qual st N k sp) : HaveI P w K mg base x C (k + 1) ps dvs sp :=
  let ⟨f, fd, ds, hm, M, F, hb, hd⟩ := R
  ⟨f, fd, ds, hm, M, hb, hd, F.okE S len hbody⟩
end
end L2
namespace L2
open PySem PySem.Spec PyProof.Rows
theorem binds_d {K : PySem.W.Frag} {fd : FuncData} {ps : List Str} {ds : List Value} (n : Nat) (hn : ps.length = n + ds.length) (h : ∀ (s : Shared) (us : List Value), K.In s.heap → us.length = n → BindsTo s fd ⟨us, []⟩ (ps.zip (us ++ ds))) : Binds K fd ps ds :=
  fun s us X hl => h s us X (by rw [List.length_append, hn] at hl; omega)
end L2
namespace L2
open PySem PySem.Spec PyProof.Rows
end L2
namespace L2
open PySem PySem.Spec PyProof.Rows
def Itv (K : PySem.W.Frag) (a : Addr) (n : Nat) : It :=
  ⟨fun i H => ∃ xs, SqL K H a xs ∧ xs.length = n ∧ i < n, fun i H x H' => H' = H ∧ ∀ xs, SqL K H a xs → xs[n - 1 - i]? = some x, fun i _ => n ≤ i⟩
theorem turn_rev {P : Program} {w : World} {K : PySem.W.Frag} {tg : Expr} (a it : Addr) (n : Nat) : Turn P w K tg (Itv K a n) [it] it (fun i h => i ≤ n ∧ h.IsRevIter it a ((n : Int) - 1 - (i : Int))) where
  mem := by simp
  obj := fun i h st b hb => by
    have e : b = it := by simpa using hb
    subst e
    obtain ⟨_, o, e, c, d⟩ := st
    exact ⟨o, e, fun v z => by rw [d] at z; cases z⟩
  keep := fun i h h' st k => ⟨st.1, st.2.at fun o e => k it (by simp) o e⟩
  item := by
    intro X hP hw hK hc i pins s σ H E I hf st hg
    subst hP hw hK
    obtain ⟨xs, hq, hn, hi⟩ := hg
    obtain ⟨its, rv, p, hz⟩ := I.list hq
    have hx : xs[n - 1 - i]? = some xs[n - 1 - i] := List.getElem?_eq_getElem (by omega)
    obtain ⟨u, hu, ru⟩ := rv.get hx
    obtain ⟨f0, f1, f2, f3, f4, f5⟩ := hf it (by simp)
    have st2 := st.2
    rw [show (n : Int) - 1 - (i : Int) = ((n - 1 - i : Nat) : Int) by omega] at st2
    refine wpAny_pyNext_rev_item st2 p.isList (x := u) (by simpa using hu) fun h' st' sb => ?_
    have I1 : Inv X pins σ H { s with heap := h' } := I.turned (t' := s.toks) (fun b o hb e => (sb.2 b hb).trans e) f0 f1 f3 f4 f5
    obtain ⟨o, e, c, d⟩ := id st'
    rw [show ((n - 1 - i : Nat) : Int) - 1 = (n : Int) - 1 - ((i + 1 : Nat) : Int) by omega] at st'
    exact ⟨u, rfl, go_of (s := { s with heap := h' }) e c d (by decide) ⟨_, H, I1, ru, ⟨rfl, fun ys hy => by rw [I.list_inj hy hq]; exact hx⟩, ⟨by omega, st'⟩, fun b hb => (hf b hb).1⟩⟩
  done := by
    intro X hP hw hK hc i pins s σ H E I hf st hg
    subst hP hw hK
    have hg : n ≤ i := hg
    obtain ⟨f0, f1, f2, f3, f4, f5⟩ := hf it (by simp)
    have st2 := st.2
    rw [show (n : Int) - 1 - (i : Int) = -1 by have := st.1; omega] at st2
    exact wpAny_pyNext_rev_end (I.ok.hd hc) st2 fun h' eb => ⟨rfl, I.turned (t' := s.toks) (fun b o hb e => eb b o hb e) f0 f1 f3 f4 f5⟩
  self := fun _ _ _ _ _ st h => wpAny_pyIter_revIter st.2 h
section
variable {X : Cx}
def iRev (K : PySem.W.Frag) (ta : TA) : TI := fun σ H R => ta σ H fun vs H1 => ∃ a xs, vs = [.ref a] ∧ SqL K H1 a xs ∧ R (Itv K a xs.length) H1
theorem boot_rev : bootBuiltins "reversed" = some (.type "reversed") := by decide +kernel
theorem pi_rev {e tg : Expr} {ta : TA} {p pos : Pos} (hg : Gl X "reversed") (hm : X.mg "reversed" = none) (ha : PA X [e] ta) (hs : starEach [e] X.env = [(false, eval e X.env)] := by rfl) :
    PI X tg (.Call (.Name "reversed" p) [e] [] pos) (iRev X.K ta) := by
  intro pins s σ H R I h
  refine Call_ (ld_blt I hg hm boot_rev (PyProof.Rows.callWith_type1 (thn (ha pos pins s σ H _ I h) fun us s1 ⟨vs, H1, I1, r1, q1⟩ => ?_) hs rfl))
  obtain ⟨a, xs, ev, hq, q⟩ := q1
  subst ev
  cases r1 with
  | cons r rr =>
    cases rr
    cases r
    obtain ⟨its, rv, pl, hz⟩ := I1.list hq
    refine call_reversed_list pl.isList ?_
    have hl := rv.length
    have hr : Heap.IsRevIter (s1.heap.push (revObj a ((its.toArray.size : Int) - 1))) s1.heap.objs.size a ((xs.length : Int) - 1 - ((0 : Nat) : Int)) := ⟨_, Heap.get?_push_size _ rfl, rfl, by
      show Data.fields #[.ref a, rawInt ((its.toArray.size : Int) - 1)] = _
      rw [show (its.toArray.size : Int) - 1 = (xs.length : Int) - 1 - ((0 : Nat) : Int) by simp; omega]⟩
    refine wpAny_pyIter_revIter hr ?_
    refine ⟨s1.heap.objs.size, [s1.heap.objs.size], _, _, H1, rfl, I1.kept (t' := s1.toks) fun b o e => Heap.get?_push_of_some _ e, turn_rev a _ xs.length, ⟨Nat.zero_le _, hr⟩, fun b hb => ?_, q⟩
    have e : b = s1.heap.objs.size := by simpa using hb
    subst e
    exact I1.fpOk (Nat.le_refl _) (I1.hok.fresh (Nat.le_refl _))
end
theorem loop_rev {K : PySem.W.Frag} {a : Addr} {xs : List V} {g : TG} {tb : TS} {h : HidF g tb} {D : Ends} {σ : St} {H : Hp} (Pv : Nat → St → Hp → Prop) (h0 : Pv 0 σ H) (hl : ∀ i σ H, i ≤ xs.length → Pv i σ H → SqL K H a xs)
    (hs : ∀ i x σ H, xs[xs.length - 1 - i]? = some x → i < xs.length → Pv i σ H → g x σ H fun σ2 H2 => tb { D with nx := Pv (i + 1), ct := Pv (i + 1), bk := D.nx } σ2 H2) (hd : ∀ σ H, Pv xs.length σ H → D.nx σ H) : Loop g tb h (Itv K a xs.length) D σ H := by
  refine ⟨fun i m σ H => i + m = xs.length ∧ Pv i σ H, ⟨xs.length, Nat.zero_add _, h0⟩, fun i m σ H ⟨e, p⟩ => ?_⟩
  have hq := hl i σ H (by omega) p
  by_cases hi : i < xs.length
  · refine .inr ⟨⟨xs, hq, rfl, hi⟩, Pv (i + 1), fun σ H q => ⟨m - 1, by omega, by omega, q⟩, ?_⟩
    rintro y H' ⟨rfl, hy⟩
    exact hs i y σ _ (hy xs hq) hi p
  · have e' : i = xs.length := by omega
    subst e'
    exact .inl ⟨Nat.le_refl _, hd σ H p⟩
theorem Vals.at {xs : List V} {us : List Value} (r : Vals xs us) (m : Nat) (h1 : m < xs.length) (h2 : m < us.length) : RelV xs[m] us[m] := by
  obtain ⟨u, hu, ru⟩ := r.get (List.getElem?_eq_getElem h1)
  rw [List.getElem?_eq_getElem h2] at hu
  cases hu
  exact ru
end L2
namespace L2
open PySem PySem.Spec PyProof.Rows
end L2
namespace L2
open PySem PySem.Spec PyProof.Rows
section
variable {prog : Program} {w : World} {K : Type} [DecidableEq K] {knd : HeapKind prog w K} {A : Around} {E : Value → Shared → Prop} {s : Shared}
end
end L2
namespace L2
open PySem PySem.Spec PyProof.Rows
def RawD (h : Heap) (d : Addr) (es : Array DictEntry) (ep : Nat) : Prop := ∃ o, h.get? d = some o ∧ o.ExactDict ∧ o.data = .dict es ep
theorem RawD.ty {s : Shared} {d : Addr} {es : Array DictEntry} {ep : Nat} (r : RawD s.heap d es ep) : s.TypeIs (.ref d) "dict" := let ⟨o, ho, hc, _⟩ := r; ⟨o, ho, hc.1⟩
theorem RawD.lt {h : Heap} {d : Addr} {es : Array DictEntry} {ep : Nat} (r : RawD h d es ep) : d < h.objs.size := let ⟨_, ho, _⟩ := r; Heap.lt_size ho
section
variable {prog : Program} {w : World} {A : Around} {E : Value → Shared → Prop} {s : Shared} {d it : Addr} {es : Array DictEntry} {ep i : Nat}
end
end L2
namespace L2
open PySem PySem.Spec PyProof.Rows
section
variable {X : Cx}
end
end L2
namespace L2
open PySem PySem.Spec PyProof.Rows
end L2
namespace L2
open PySem PySem.Spec PyProof.Rows
end L2
namespace L2
open PySem PySem.Spec PyProof.Rows
section
variable {prog : Program} {w : World} {A : Around} {E : Value → Shared → Prop} {s : Shared}
end
end L2
namespace L2
open PySem PySem.Spec PyProof.Rows
def tVarM (i : Nat) : TE := fun σ H Q => match σ[i]? with
  | some (some v) => Q v H
  | _ => False
theorem tVarM_le {i : Nat} {σ : St} {H : Hp} {Q : VK} (h : tVarM i σ H Q) : tVar i σ H Q := by
  unfold tVarM at h
  split at h
  · rename_i v e; exact ⟨v, e, h⟩
  · exact h.elim
theorem pvM {X : Cx} (i : Nat) {x : Str} {pos : Pos} (hN : X.N[i]? = some x := by rfl) (hv : Vis X.env.scope x := by first | exact Or.inl rfl | exact Or.inr (Or.inl rfl) | exact Or.inr (Or.inr rfl)) (hd : (x == ("__debug__" : Str)) = false := by decide)
    (hcd : (x == ("__classdict__" : Str)) = false := by decide) : PE X (.Name x pos) (tVarM i) := fun pins s σ H Q I h => pe_var hN hv hd hcd pins s σ H Q I (tVarM_le h)
theorem rI0_ii {g : Int → Int → V} {i j : Int} {H : Hp} {Q : VK} : rI0 g (.int i) (.int j) H Q = Q (g i j) H := propext ⟨fun ⟨_, _, e1, e2, h⟩ => by cases e1; cases e2; exact h, fun h => ⟨_, _, rfl, rfl, h⟩⟩
theorem rI_ii {C : Int → Int → Prop} {g : Int → Int → V} {i j : Int} {H : Hp} {Q : VK} : rI C g (.int i) (.int j) H Q = (C i j ∧ Q (g i j) H) := propext ⟨fun ⟨_, _, e1, e2, h⟩ => by cases e1; cases e2; exact h, fun h => ⟨_, _, rfl, rfl, h⟩⟩
theorem ex_int {c : Int} {P : Int → Prop} : (∃ i, V.int c = V.int i ∧ P i) = P c := propext ⟨fun ⟨_, e, h⟩ => by cases e; exact h, fun h => ⟨_, rfl, h⟩⟩
theorem ex_bl {c : Bool} {P : Bool → Prop} : (∃ i, V.bl c = V.bl i ∧ P i) = P c := propext ⟨fun ⟨_, e, h⟩ => by cases e; exact h, fun h => ⟨_, rfl, h⟩⟩
theorem ex_ref {c : Addr} {P : Addr → Prop} : (∃ i, V.ref c = V.ref i ∧ P i) = P c := propext ⟨fun ⟨_, e, h⟩ => by cases e; exact h, fun h => ⟨_, rfl, h⟩⟩
end L2
namespace L2
open PySem PySem.Spec PyProof.Rows
section
open PySem.Builtin PySem.Builtin.Str
end
end L2
namespace Hd
open PySem PySem.W PySem.Calls PyProof.Rows
def runT (tb : String → Option Builtin) (p : Program) (w : World) (n0 : Nat) (ann : Option Value) : Nat → SharedT → Thread → Option SharedT
  | 0, _, _ => none
  | n + 1, s, t => match through t with
    | true => some s
    | false => match stepOk n0 ann t with
      | false => none
      | true => match stepT (denote tb) p w s t with
        | some (s', t') => runT tb p w n0 ann n s' t'
        | none => none
theorem runT_of {tb : String → Option Builtin} {p : Program} {w : World} {n0 : Nat} {ann : Option Value} : ∀ {n : Nat} {s r : SharedT} {t : Thread}, runT tb p w n0 ann n s t = some r → topRun tb p w n0 ann n s.abs t = some r.abs
  | 0, _, _, _, h => by cases h
  | n + 1, s, r, t, h => by
    unfold runT at h
    unfold topRun
    cases he : through t with
    | true => rw [he] at h; cases h; rfl
    | false =>
      rw [he] at h
      cases hk : stepOk n0 ann t with
      | false => rw [hk] at h; cases h
      | true =>
        rw [hk] at h
        cases hs : stepT (denote tb) p w s t with
        | none => rw [hs] at h; cases h
        | some x => obtain ⟨s2, t2⟩ := x; rw [hs] at h; rw [stepT_spec hs]; exact runT_of h
def grow : List Obj → Nat → BT → BT
  | [], _, t => t
  | o :: l, n, t => grow l (n + 1) (t.ins n o)
noncomputable def bootT (P : Params) : BT := grow (boot_heap P).objs.toList 0 .nil
noncomputable def bootS (w : World) (os : OsState) : SharedT := ⟨bootT w.params, (boot_heap w.params).objs.size, (boot_heap w.params).life, #[], boot_drawn, boot_toks, os⟩
theorem boot_abs (w : World) (os : OsState) : (bootS w os).abs = ⟨boot_heap w.params, #[], boot_drawn, boot_toks, os⟩ := by kernel_rfl
theorem boot_size (w : World) : ((boot_heap w.params).isNs mainGlobals && (#[] : Array GenState).size == 0) = true := by kernel_rfl
noncomputable abbrev ann0 (w : World) : Option Value := (boot_heap w.params).nsMap mainGlobals "__annotations__"
def look {α : Type} (p : Program) (Yf : Shared → α) (H0 : Heap) (s : Shared) : Bool × α :=
  (staticsOk (importedModules p.main.body) H0 s.heap && namesBound p s.heap && gensDone s && laidKept H0 s.heap, Yf s)
noncomputable def ran (p : Program) (N : Nat) (w : World) (os : OsState) : Option SharedT := runT treeTable p w (boot_heap w.params).objs.size (ann0 w) N (bootS w os) (topStub p)
noncomputable def once {α : Type} (p : Program) (Yf : Shared → α) (N : Nat) (w : World) (os : OsState) := (ran p N w os).map fun s => look p Yf (boot_heap w.params) s.abs
noncomputable def seen (p q : Program) (loose : List Str) (Xt : Shared → Bool) (N : Nat) (w : World) (os : OsState) := (ran p N w os).map fun s => openSeen q loose (importedModules p.main.body) Xt true s.abs
theorem left_once {p q : Program} {loose : List Str} {Xt : Shared → Bool} {α : Type} {Yf : Shared → α} {Ya : World → α} {N : Nat}
    (e : opening p = plainProg p.main.scope.names) (hN : Nat.ble 600 N = true) (f : ∀ s, fenceModules? p s = some s)
    (one : ∀ (w : World) (os : OsState), once p Yf N w os = some (true, Ya w)) (two : ∀ (w : World) (os : OsState), seen p q loose Xt N w os = some (openGood q loose)) : LeftO p q loose Xt Yf Ya N := fun w => by
  obtain ⟨⟨h, gs, d, k, os⟩, e1, e2⟩ := Option.map_eq_some_iff.mp (boot_open e hN f w)
  obtain ⟨rfl, rfl, rfl, rfl⟩ : h = boot_heap w.params ∧ gs = #[] ∧ d = boot_drawn ∧ k = boot_toks := by simpa using e2
  obtain ⟨sT, r, l⟩ := Option.map_eq_some_iff.mp (one w os)
  obtain ⟨sT', r', l2⟩ := Option.map_eq_some_iff.mp (two w os)
  obtain rfl : sT = sT' := Option.some.inj (r.symm.trans r')
  have r := runT_of r
  rw [boot_abs] at r
  obtain ⟨l1, l3⟩ : _ ∧ _ := by simpa only [look, Prod.mk.injEq] using l
  have t : topFrom treeTable p w N ⟨boot_heap w.params, #[], boot_drawn, boot_toks, os⟩ = some sT.abs := by
    unfold topFrom
    dsimp only
    rw [boot_size w, r]
    show (match staticsOk (importedModules p.main.body) (boot_heap w.params) sT.abs.heap && namesBound p sT.abs.heap && gensDone sT.abs && laidKept (boot_heap w.params) sT.abs.heap with | true => _ | false => _) = _
    rw [l1]
  unfold openEnds
  rw [e1]
  show (topFrom treeTable p w N _).map _ = _
  rw [t]
  exact congrArg some (Prod.ext l2 l3)
end Hd
namespace Hd
open PySem PySem.W
def dig : Nat → Nat → List Nat
  | 0, _ => []
  | k + 1, n => match Nat.beq n 0 with
    | true => []
    | false => Nat.sub (n % 256) 1 :: dig k (n / 256)
def S (n : Nat) : Str := ⟨⟨dig 200 n⟩⟩
def ent (P : Params) (x : Str) (t : Nat) (v : Value) : DictEntry := ⟨PyData.keyHash P x, .str x t, v⟩
def dO (n : Nat) (l : List DictEntry) : Obj := ⟨.type "dict", none, .dict ⟨l⟩ n, #[]⟩
def tO (l : List Value) : Obj := ⟨.type "tuple", none, .seq ⟨l⟩ 0, #[]⟩
def cO (l : List Value) : Obj := ⟨.type "code", none, .fields ⟨l⟩, #[]⟩
end Hd
namespace Hd
open PySem PySem.W PySem.Calls PyProof.Rows
def goT (tb : String → Option Builtin) (p : Program) (w : World) (n0 : Nat) (ann : Option Value) : Nat → SharedT → Thread → Option (SharedT × Thread)
  | 0, s, t => some (s, t)
  | n + 1, s, t => match through t with
    | true => none
    | false => match stepOk n0 ann t with
      | false => none
      | true => match stepT (denote tb) p w s t with
        | some (s', t') => goT tb p w n0 ann n s' t'
        | none => none
end Hd
namespace Hd
open PySem PySem.W PySem.Calls PyProof.Rows
theorem tw_run : (fun (_ : (String → Option Builtin) → Program → World → Nat → Option Value → Nat → SharedT → Thread → Option SharedT) => true) runT = true := by k_qdec
theorem tw_go : (fun (_ : (String → Option Builtin) → Program → World → Nat → Option Value → Nat → SharedT → Thread → Option (SharedT × Thread)) => true) goT = true := by k_qdec
theorem tw_boot : (fun (_ : World → OsState → SharedT) (_ : World → Option Value) => true) bootS ann0 = true := by k_qdec
theorem tw_look : (fun (_ : {α : Type} → Program → (Shared → α) → Heap → Shared → Bool × α) => true) @look = true := by k_qdec
theorem tw_once : (fun (_ : {α : Type} → Program → (Shared → α) → Nat → World → OsState → Option (Bool × α)) => true) @once = true := by k_qdec
theorem tw_seen : (fun (_ : Program → Program → List Str → (Shared → Bool) → Nat → World → OsState → Option _) => true) seen = true := by k_qdec
end Hd
namespace L2
open PySem PySem.Spec PyProof.Rows
structure RoomH (k : Nat) (A : Around) : Prop where
  dp : A.depth + 3 * k + 5 < recursionLimit
  un : A.units + 16 * k + 200 < cLine
theorem Room.h {k : Nat} {A : Around} (r : Room k A) : RoomH k A := ⟨r.dp, r.un⟩
theorem RoomH.deeper {k : Nat} {A : Around} (r : RoomH (k + 1) A) (env : Env) : RoomH k (A.deeper env) :=
  ⟨by have := r.dp; show A.depth + 1 + 3 * k + 5 < _; omega, by have := r.un; show A.units + 3 + 16 * k + 200 < _; omega⟩
def cxOfH (P : Program) (w : World) (K : PySem.W.Frag) (mg : Str → Option Value) (base : Heap) (N : List Str) (qual : Str) (scope : Scope) (f : Addr) (cd : Value) (A : Around) (outer : List Env) (s : Shared) (H : Hp) (E : XK) : Cx :=
  { cxOf (CXe P w) P w K mg base N qual scope f cd A outer s H E with calm := false }
theorem cxOfH_K {P : Program} {w : World} {K : PySem.W.Frag} {mg : Str → Option Value} {base : Heap} {N : List Str} {qual : Str} {scope : Scope} {f : Addr} {cd : Value} {A : Around} {outer : List Env} {s : Shared} {H : Hp} {E : XK} : (cxOfH P w K mg base N qual scope f cd A outer s H E).K = K := rfl
end L2
namespace L2
open PySem PySem.Spec PyProof.Rows
def BindsK (K : PySem.W.Frag) (fd : FuncData) (ps ks : List Str) : Prop := ∀ (s : Shared) (us : List Value) (a b : Value), K.In s.heap → us.length + 2 = ps.length → BindsTo s fd ⟨us, ks.zip [a, b]⟩ (ps.zip (us ++ [b, a]))
def RawMK (K : PySem.W.Frag) (C : Addr) (m qual : Str) (st : Stmt) (ps ks : List Str) : Prop := ∃ f fd, Meth K C m f ∧ FunD K m qual st f fd ∧ BindsK K fd ps ks
def HaveMK (P : Program) (w : World) (K : PySem.W.Frag) (mg : Str → Option Value) (base : Heap) (C : Addr) (m : Str) (k : Nat) (ps ks : List Str) (sp : Sp) : Prop :=
  ∃ f fd, Meth K C m f ∧ BindsK K fd ps ks ∧ FnOk P w K mg base (CXe P w) k f fd ps sp
theorem RawMK.have {P : Program} {w : World} {K : PySem.W.Frag} {mg : Str → Option Value} {base : Heap} {C : Addr} {m qual : Str} {st : Stmt} {N ps ks : List Str} {k : Nat} {sp : Sp} (R : RawMK K C m qual st ps ks) (S : FnScope N ps (defScope st)) (len : ∀ vs H Q E, sp vs H Q E → vs.length = ps.length)
    (hbody : Body P w K mg base qual st N k sp) : HaveMK P w K mg base C m (k + 1) ps ks sp :=
  let ⟨f, fd, hm, F, hb⟩ := R
  ⟨f, fd, hm, hb, F.okE S len hbody⟩
end L2
namespace L2
open PySem PySem.Spec PyProof.Rows
end L2
namespace L2
open PySem PySem.Spec PyProof.Rows
end L2
namespace L2
open PySem PySem.Spec PyProof.Rows
section
variable {prog : Program} {w : World} {A : Around} {E : Value → Shared → Prop} {s : Shared}
end
section
variable {X : Cx}
end
end L2
namespace L2
open PySem PySem.Spec PyProof.Rows
section
variable {prog : Program} {w : World} {A : Around} {E : Value → Shared → Prop} {s : Shared}
end
section
variable {X : Cx}
end
end L2
namespace L2
open PySem PySem.Spec PyProof.Rows
section
variable {X : Cx} {pins : List (Addr × Obj)} {σ : List (Option V)} {H : Hp} {s : Shared} {a : Addr}
end
end L2
namespace L2
open PySem PySem.Spec PyProof.Rows
section
open PySem.W
def In (p : Array Nat) (n : Nat) : Prop := 0 < n ∧ ∀ x ∈ p.toList, x < n
theorem In.at {p : Array Nat} {n : Nat} (h : In p n) (i : Nat) : p.getD i 0 < n := by
  rw [Array.getD_eq_getD_getElem?]
  cases e : p[i]? with
  | none => exact h.1
  | some x => exact h.2 x (List.mem_of_getElem? (by rw [Array.getElem?_toList]; exact e))
structure Od (lt : Nat → Nat → Bool) (n : Nat) : Prop where
  tr : ∀ i j k, i < n → j < n → k < n → lt i j = true → lt j k = true → lt i k = true
  ir : ∀ i, i < n → lt i i = false
  to : ∀ i j, i < n → j < n → i ≠ j → lt i j = true ∨ lt j i = true
variable {lt : Nat → Nat → Bool} {n : Nat}
structure Pm (p : Array Nat) (n : Nat) : Prop where
  sz : p.size = n
  lt : ∀ i, i < n → p.getD i 0 < n
  ne : ∀ i j, i < n → j < n → i ≠ j → p.getD i 0 ≠ p.getD j 0
  pe : p.Perm (List.range n).toArray
def Dn (lt : Nat → Nat → Bool) (p : Array Nat) (m : Nat) : Prop := ∀ i j, i < j → j < m → lt (p.getD j 0) (p.getD i 0) = true
end
end L2
namespace L2
open PySem PySem.Spec PyProof.Rows
section
variable {prog : Program} {w : World} {A : Around} {E : Value → Shared → Prop} {s : Shared}
end
end L2
namespace L2
open PySem PySem.Spec PyProof.Rows
end L2
namespace L2
open PySem PySem.Spec PyProof.Rows
section
variable {prog : Program} {w : World} {K : Type} [DecidableEq K] {knd : HeapKind prog w K} {A : Around} {E : Value → Shared → Prop} {s : Shared}
end
end L2
namespace L2
open PySem PySem.Spec PyProof.Rows
end L2
namespace L2
open PySem PySem.Spec PyProof.Rows
def XNot (K : PySem.W.Frag) (C D : Addr) : Prop := PySem.W.mroIn K C (.ref D) = some false
theorem exc_nomatch {K : PySem.W.Frag} {M : Model} {A : Around} {E : Value → Shared → Prop} {Q : Bool → Shared → Prop} {s : Shared} {mg : Str → Option Value} {x : Str} {ea C D : Addr} {o : Obj} (hin : K.In s.heap) (c : XH K mg x D) (sub : XNot K C D)
    (ho : s.heap.get? ea = some o) (hcl : o.cls = .ref C) (q : Q false s) : wpAny M A (excMatches (.ref ea) (.ref D)) Q E s := by
  obtain ⟨cd, hcd⟩ := c.cl
  have L1 := PySem.W.looks_typeIn (M := M) hin c.ty
  have L2' := PySem.W.looks_mroIn (M := M) hin c.be
  have L3 := PySem.W.looks_mroIn (M := M) hin sub
  have L4 : PySem.W.Looks M s.heap (typeOf (.ref ea)) (.ref C) := hcl ▸ (PySem.W.Looks.ld ho).andThen .now
  have L5 : PySem.W.Looks M s.heap (isType (.ref D)) true := by
    unfold PySem.W.clsIn at hcd
    split at hcd
    · rename_i ho'
      intro A' Q' E' s' k q'
      unfold isType loadHead
      exact wpAny_bind (wpAny_loadPart (k _ _ (hin _ _ ho')) (wpAny_pure q'))
    · cases hcd
  have L6 : PySem.W.Looks M s.heap (isExcClass (.ref D)) true := L5.andThen L2'
  obtain ⟨h, g, d, t, os⟩ := s
  have f := tc_notTuple
  unfold excMatches isInstance
  refine wpAny_bind (wpAny_bind (L1.at ?_))
  rw [f]
  refine wpAny_pure ?_
  simp only [Bool.false_eq_true, if_false]
  refine wpAny_bind (wpAny_pure ?_)
  rw [List.forIn_cons]
  refine wpAny_bind (wpAny_bind (wpAny_bind (L6.at ?_)))
  simp only [Bool.not_true, Bool.false_eq_true, if_false]
  refine wpAny_pure ?_
  dsimp only
  rw [List.forIn_nil]
  refine wpAny_pure ?_
  refine wpAny_bind (L4.at ?_)
  rw [List.forIn_cons]
  refine wpAny_bind (wpAny_bind (wpAny_bind (L3.at ?_)))
  simp only [Bool.false_eq_true, if_false]
  refine wpAny_pure ?_
  dsimp only
  rw [List.forIn_nil]
  refine wpAny_pure ?_
  exact wpAny_pure q
def tHs (K : PySem.W.Frag) : List (Addr × TS) → Addr → TS
  | [], _ => fun _ _ _ => False
  | (D, th) :: r, C => fun Dn σ H => (XSub K C D ∧ th Dn σ H) ∨ (XNot K C D ∧ tHs K r C Dn σ H)
inductive PHs (X : Cx) : List ExceptHandler → List (Addr × TS) → Prop where
  | nil : PHs X [] []
  | cons {x : Str} {np hpos : Pos} {D : Addr} {b₀ : Stmt} {suite : List Stmt} {th : TS} {hs : List ExceptHandler} {ths : List (Addr × TS)} (c : XH X.K X.mg x D) (hh : ∀ ea : Addr, PSs { X with A := X.A.mark (some (.ref ea)), calm := false, xe := fun _ _ => False } (b₀ :: suite) th) (r : PHs X hs ths) (hg : Gl X x := by rfl) (hd : (x == ("__debug__" : Str)) = false := by decide) : PHs X (.ExceptHandler (some (.Name x np)) none (b₀ :: suite) hpos :: hs) ((D, th) :: ths)
def tTryM (K : PySem.W.Frag) (ths : List (Addr × TS)) (tb : XKs → TS) (to : TS) : TS := fun Dn σ H =>
  tb (fun cls σ' H' => ∃ C, cls = .ref C ∧ tHs K ths C Dn σ' H') { Dn with nx := to Dn } σ H
theorem ps_try_m {X : Cx} {body orelse : List Stmt} {h₀ : ExceptHandler} {rest : List ExceptHandler} {pos : Pos} {tb : XKs → TS} {to : TS} {ths : List (Addr × TS)}
    (hb : ∀ (E' : Value → Shared → Prop) (pn : List (Addr × Obj)) (Kx : XKs), PassesOwn (model X.prog X.w) X.A X.env E' → XW { X with xe := E', pn := pn } Kx → PSs { X with xe := E', pn := pn } body (tb Kx))
    (ho : PSs X orelse to) (hh : PHs X (h₀ :: rest) ths) (hst : X.stack = X.env :: X.outer := by rfl) (hfm : X.env.frame = some X.env.locals := by rfl) :
    PS X (.Try body (h₀ :: rest) orelse [] pos) (tTryM X.K ths tb to) := by
  intro pins s σ H Dn I h
  refine wpAny_Try_except ?_
  have xw : XW { X with xe := (fun e s₁ => wpAny (model X.prog X.w) X.A (noteFrame e X.env) (fun _ s₂ => wpAny (model X.prog X.w) X.A (setFlight e none) (fun _ s₃ =>
      wpAny (model X.prog X.w) X.A (handleBy e X.env (h₀ :: rest)) (SP X pins Dn) X.xe s₃) X.xe s₂) X.xe s₁), pn := X.pn ++ pins }
      (fun cls σ' H' => ∃ C, cls = .ref C ∧ tHs X.K ths C Dn σ' H') := by
    intro pins2 σ2 H2 s2 s' ea cls H' B I2 os bare un hok fly hK
    obtain ⟨C, rfl, hK⟩ := hK
    have J2 : Inv X pins σ2 H2 s2 := I2.unre I.ok
    have J' : Inv X pins σ2 H' s' := J2.call' (s' := s') (ch := []) os un hok bare (fun b z => absurd z (by simp))
    have fly : Fly B X.stack s2.heap H2 H' s'.heap ea (.ref C) := fly
    obtain ⟨a0, hfl⟩ := id fly.fl
    have hfr := I.ok.frames
    rw [hst] at hfr hfl
    show wpAny (model X.prog X.w) X.A (noteFrame (.ref ea) X.env) _ X.xe s'
    refine wpAny_looks_onW hfr hfm hfl fun h4 held4 up4 => ?_
    refine wpAny_landsW held4 fun h5 fl5 up5 => ?_
    have J5 : Inv X pins σ2 H' { s' with heap := h5 } := Inv.flown J2 J' fly fl5.1 (up4.trans up5)
    obtain ⟨oe, vs5, hoe, hoc, hod, _⟩ := fl5.first
    have go : ∀ {hs : List ExceptHandler} {us : List (Addr × TS)}, PHs X hs us → tHs X.K us C Dn σ2 H' → wpAny (model X.prog X.w) X.A (handleBy (.ref ea) X.env hs) (SP X pins Dn) X.xe { s' with heap := h5 } := by
      intro hs us p
      induction p with
      | nil => exact fun z => z.elim
      | @cons x np hpos D b₀ suite th hs ths c hh r hg hd ih =>
        intro z
        refine wpAny_handleBy_cons (codeAny_handlers_test (ld_glob (X := { X with A := X.A.mark (some (.ref ea)), calm := false, xe := fun _ _ => False }) (J5.marked (v := some (.ref ea))) hg c.m ?_ hd)) (by intro q; cases q)
        rcases z with ⟨hsub, hK⟩ | ⟨hnot, hK⟩
        · refine exc_match (x := x) (mg := X.mg) J5.kIn c hsub hoe hoc ?_
          refine codeAny_handlers_suite ?_
          refine lands_againW fl5 fun h6 fl6 up6 => ?_
          have J6 : Inv X pins σ2 H' { s' with heap := h6 } := Inv.flown J2 J' fly fl6.1 ((up4.trans up5).trans up6)
          refine wpAny_mono (hh ea pins _ _ _ _ (J6.marked (v := some (.ref ea))) hK) (fun f s8 hq => ?_) (fun _ _ z => z.elim)
          show SP X pins Dn f s8
          cases f with
          | next => obtain ⟨σ', H2', I3, q⟩ := hq; exact ⟨σ', H2', I3.unmarked I.ok, q⟩
          | brk => obtain ⟨σ', H2', I3, q⟩ := hq; exact ⟨σ', H2', I3.unmarked I.ok, q⟩
          | cont => obtain ⟨σ', H2', I3, q⟩ := hq; exact ⟨σ', H2', I3.unmarked I.ok, q⟩
          | ret u => obtain ⟨v, σ', H2', I3, r, q⟩ := hq; exact ⟨v, σ', H2', I3.unmarked I.ok, r, q⟩
        · refine exc_nomatch (x := x) (mg := X.mg) J5.kIn c hnot hoe hoc ?_
          exact ih hK
    exact go hh hK
  have q := hb _ (X.pn ++ pins) _ PassesOwn.looking xw [] s σ H { Dn with nx := to Dn } I.re h
  refine wpAny_mono q (fun f s1 hq => ?_) (fun e s1 hq => hq)
  cases f with
  | next =>
    obtain ⟨σ', H', I1, q1⟩ := hq
    exact ho pins s1 σ' H' Dn (I1.unre I.ok) q1
  | brk => obtain ⟨σ', H', I1, q1⟩ := hq; exact ⟨σ', H', I1.unre I.ok, q1⟩
  | cont => obtain ⟨σ', H', I1, q1⟩ := hq; exact ⟨σ', H', I1.unre I.ok, q1⟩
  | ret u => obtain ⟨v, σ', H', I1, r, q1⟩ := hq; exact ⟨v, σ', H', I1.unre I.ok, r, q1⟩
end L2
set_option hygiene false in
local macro_rules | `(tactic| walk_at "wp") => `(tactic| simp only [↓L2.rI0_ii, ↓L2.rI_ii, ↓L2.ex_int, ↓L2.ex_bl, ↓L2.ex_ref, L2.tSeq, L2.tNext, L2.tAsg, L2.gName, L2.tRet, L2.tDrop, L2.tIfS, L2.tIf, L2.tTest, L2.tB, L2.tOp, L2.tUn, L2.tVar, L2.tVarM, L2.tC, L2.rI, L2.rI0, L2.rU, L2.tAnd, L2.tOr, L2.tNot, L2.tAndV, L2.tOrV, L2.tNotV, L2.tCallE, L2.tMethE, L2.tMakeE, L2.tCB, L2.tCons, L2.tNil, L2.tChain, L2.tLst, L2.tTup, L2.rIxL, L2.rIxT, L2.rSlT, L2.tFld, L2.sFld, L2.tRaise, L2.rEq, L2.rNe, L2.start, L2.CDiv, L2.CPow, L2.CMul, L2.kn_int, L2.cxOf_K, L2.cxOfH_K, L2.scal_ii, L2.scal_bb, L2.scal_ss, L2.rIxH, L2.lstO_lst, L2.tupO_tup, L2.upd_same, L2.HO.ins.injEq, L2.rCat, L2.rSlL, L2.tSl, L2.tPart, L2.tNoPart, L2.clsV_ref, L2.clsV_ty, L2.tForE, L2.iRng1, L2.iList, L2.iTup, L2.gTup, L2.gNil, L2.gCons, L2.tDNewK, L2.tBM, L2.tBM0, L2.rAppend, L2.rPop, L2.tComp, L2.tYes, Option.join_some, Option.join_none, PySem.sizeLine_eq, Nat.reduceLeDiff, eq_self, decide_eq_true_eq, 
  List.map_cons, List.map_nil, List.length_cons, List.length_nil, List.cons_append, List.nil_append, List.append_nil, List.replicate, Nat.reduceSub, Nat.reduceAdd, List.getElem?_cons_zero, List.getElem?_cons_succ, List.set_cons_zero, List.set_cons_succ,
  Option.some.injEq, List.cons.injEq, L2.V.int.injEq, L2.V.bl.injEq, L2.V.ref.injEq, L2.V.ty.injEq, L2.V.str.injEq, exists_eq_left, exists_eq_left', exists_and_left, exists_eq', exists_const, and_assoc, and_true, true_and, ↓reduceIte, Int.reduceLE, Int.reduceLT, Nat.reducePow, Int.reducePow, Int.reduceNeg, L2.na10, Nat.reduceLT, Int.reduceToNat, Int.reduceAdd, Int.reduceMul, Int.reduceSub, true_or, or_true, decide_true, decide_false])
namespace Pf
open PySem L2
def top (i : Nat) : Stmt := PySem.Challenge.pw_frameland_k25_told_least.main.body.getD i (.Pass ⟨0, 0, 0, 0⟩)
abbrev s_is_whole : Stmt := top 7
theorem sc_is_whole : FnScope ["thing"] ["thing"] (defScope s_is_whole) := ⟨rfl, rfl, rfl, by decide +kernel, rfl, by decide +kernel, by decide +kernel⟩
abbrev s_is_within : Stmt := top 8
theorem sc_is_within : FnScope ["thing", "low", "high"] ["thing", "low", "high"] (defScope s_is_within) := ⟨rfl, rfl, rfl, by decide +kernel, rfl, by decide +kernel, by decide +kernel⟩
abbrev s_check_rights : Stmt := top 11
theorem sc_check_rights : FnScope ["rights"] ["rights"] (defScope s_check_rights) := ⟨rfl, rfl, rfl, by decide +kernel, rfl, by decide +kernel, by decide +kernel⟩
abbrev s_end_of : Stmt := top 12
theorem sc_end_of : FnScope ["run"] ["run"] (defScope s_end_of) := ⟨rfl, rfl, rfl, by decide +kernel, rfl, by decide +kernel, by decide +kernel⟩
abbrev s_tie_from : Stmt := top 13
theorem sc_tie_from : FnScope ["run", "page", "tie"] ["run", "page"] (defScope s_tie_from) := ⟨rfl, rfl, rfl, by decide +kernel, rfl, by decide +kernel, by decide +kernel⟩
abbrev s_part_of : Stmt := top 14
theorem sc_part_of : FnScope ["run", "low", "high", "first"] ["run", "low", "high"] (defScope s_part_of) := ⟨rfl, rfl, rfl, by decide +kernel, rfl, by decide +kernel, by decide +kernel⟩
abbrev s_goes_on : Stmt := top 15
theorem sc_goes_on : FnScope ["run", "later"] ["run", "later"] (defScope s_goes_on) := ⟨rfl, rfl, rfl, by decide +kernel, rfl, by decide +kernel, by decide +kernel⟩
abbrev s_joined : Stmt := top 16
theorem sc_joined : FnScope ["runs", "fewer", "run", "last"] ["runs"] (defScope s_joined) := ⟨rfl, rfl, rfl, by decide +kernel, rfl, by decide +kernel, by decide +kernel⟩
abbrev s_Stretches_init : Stmt := inClass (top 17) 0
theorem sc_Stretches_init : FnScope ["self"] ["self"] (defScope s_Stretches_init) := ⟨rfl, rfl, rfl, by decide +kernel, rfl, by decide +kernel, by decide +kernel⟩
abbrev s_Stretches_put : Stmt := inClass (top 17) 1
theorem sc_Stretches_put : FnScope ["self", "first", "many", "rights", "tie"] ["self", "first", "many", "rights", "tie"] (defScope s_Stretches_put) := ⟨rfl, rfl, rfl, by decide +kernel, rfl, by decide +kernel, by decide +kernel⟩
abbrev s_Stretches_cut : Stmt := inClass (top 17) 2
theorem sc_Stretches_cut : FnScope ["self", "first", "many"] ["self", "first", "many"] (defScope s_Stretches_cut) := ⟨rfl, rfl, rfl, by decide +kernel, rfl, by decide +kernel, by decide +kernel⟩
abbrev s_Stretches_guard : Stmt := inClass (top 17) 3
theorem sc_Stretches_guard : FnScope ["self", "first", "many", "rights", "parts"] ["self", "first", "many", "rights"] (defScope s_Stretches_guard) := ⟨rfl, rfl, rfl, by decide +kernel, rfl, by decide +kernel, by decide +kernel⟩
abbrev s_Stretches_check_full : Stmt := inClass (top 17) 4
theorem sc_Stretches_check_full : FnScope ["self", "first", "many"] ["self", "first", "many"] (defScope s_Stretches_check_full) := ⟨rfl, rfl, rfl, by decide +kernel, rfl, by decide +kernel, by decide +kernel⟩
abbrev s_Stretches_rights_at : Stmt := inClass (top 17) 5
theorem sc_Stretches_rights_at : FnScope ["self", "page", "part"] ["self", "page"] (defScope s_Stretches_rights_at) := ⟨rfl, rfl, rfl, by decide +kernel, rfl, by decide +kernel, by decide +kernel⟩
abbrev s_Stretches_tie_at : Stmt := inClass (top 17) 6
theorem sc_Stretches_tie_at : FnScope ["self", "page", "part"] ["self", "page"] (defScope s_Stretches_tie_at) := ⟨rfl, rfl, rfl, by decide +kernel, rfl, by decide +kernel, by decide +kernel⟩
abbrev s_Stretches_is_free : Stmt := inClass (top 17) 7
theorem sc_Stretches_is_free : FnScope ["self", "first", "many"] ["self", "first", "many"] (defScope s_Stretches_is_free) := ⟨rfl, rfl, rfl, by decide +kernel, rfl, by decide +kernel, by decide +kernel⟩
abbrev s_Stretches_is_full : Stmt := inClass (top 17) 8
theorem sc_Stretches_is_full : FnScope ["self", "first", "many"] ["self", "first", "many"] (defScope s_Stretches_is_full) := ⟨rfl, rfl, rfl, by decide +kernel, rfl, by decide +kernel, by decide +kernel⟩
abbrev s_Stretches_told : Stmt := inClass (top 17) 10
theorem sc_Stretches_told : FnScope ["self"] ["self"] (defScope s_Stretches_told) := ⟨rfl, rfl, rfl, by decide +kernel, rfl, by decide +kernel, by decide +kernel⟩
abbrev s_Stretches_place_behind : Stmt := inClass (top 17) 12
theorem sc_Stretches_place_behind : FnScope ["self", "page", "low", "high", "middle"] ["self", "page"] (defScope s_Stretches_place_behind) := ⟨rfl, rfl, rfl, by decide +kernel, rfl, by decide +kernel, by decide +kernel⟩
abbrev s_Stretches_parts_amid : Stmt := inClass (top 17) 13
theorem sc_Stretches_parts_amid : FnScope ["self", "first", "many", "end", "near"] ["self", "first", "many"] (defScope s_Stretches_parts_amid) := ⟨rfl, rfl, rfl, by decide +kernel, rfl, by decide +kernel, by decide +kernel⟩
abbrev s_Stretches_part_at : Stmt := inClass (top 17) 14
theorem sc_Stretches_part_at : FnScope ["self", "page", "parts"] ["self", "page"] (defScope s_Stretches_part_at) := ⟨rfl, rfl, rfl, by decide +kernel, rfl, by decide +kernel, by decide +kernel⟩
abbrev s_Stretches_lay_amid : Stmt := inClass (top 17) 15
theorem sc_Stretches_lay_amid : FnScope ["self", "first", "many", "parts", "end", "low", "high", "near", "ahead", "behind"] ["self", "first", "many", "parts"] (defScope s_Stretches_lay_amid) := ⟨rfl, rfl, rfl, by decide +kernel, rfl, by decide +kernel, by decide +kernel⟩
abbrev s_l_part : Stmt := top 19
theorem sc_l_part : FnScope ["_law_cell", "_law_place_here", "_law_many", "_law_prime"] ["_law_cell", "_law_place_here", "_law_many"] (defScope s_l_part) := ⟨rfl, rfl, rfl, by decide +kernel, rfl, by decide +kernel, by decide +kernel⟩
abbrev s_l_whole : Stmt := top 20
theorem sc_l_whole : FnScope ["_law_thing"] ["_law_thing"] (defScope s_l_whole) := ⟨rfl, rfl, rfl, by decide +kernel, rfl, by decide +kernel, by decide +kernel⟩
abbrev s_l_state : Stmt := top 21
theorem sc_l_state : FnScope ["_law_deeds", "_law_page", "_law_rights", "_law_deed_here"] ["_law_deeds", "_law_page"] (defScope s_l_state) := ⟨rfl, rfl, rfl, by decide +kernel, rfl, by decide +kernel, by decide +kernel⟩
abbrev s_l_mapped : Stmt := top 22
theorem sc_l_mapped : FnScope ["_law_deeds", "_law_first", "_law_behind", "_law_some", "_law_deed_here", "_law_there"] ["_law_deeds", "_law_first", "_law_behind"] (defScope s_l_mapped) := ⟨rfl, rfl, rfl, by decide +kernel, rfl, by decide +kernel, by decide +kernel⟩
abbrev s_l_place : Stmt := top 23
theorem sc_l_place : FnScope ["_law_deeds", "_law_kind", "_law_one", "_law_two", "_law_base", "_law_first", "_law_many", "_law_old", "_law_size", "_law_skip"] ["_law_deeds", "_law_kind", "_law_one", "_law_two", "_law_base"] (defScope s_l_place) := ⟨rfl, rfl, rfl, by decide +kernel, rfl, by decide +kernel, by decide +kernel⟩
abbrev s_l_deed : Stmt := top 24
theorem sc_l_deed : FnScope ["_law_deeds", "_law_one", "_law_two", "_law_base", "_law_kind", "_law_first", "_law_many", "_law_rights", "_law_tie"] ["_law_deeds", "_law_one", "_law_two", "_law_base"] (defScope s_l_deed) := ⟨rfl, rfl, rfl, by decide +kernel, rfl, by decide +kernel, by decide +kernel⟩
abbrev s_l_tried : Stmt := top 25
theorem sc_l_tried : FnScope ["_law_some", "_law_deed_here", "_law_first", "_law_many"] ["_law_some", "_law_deed_here"] (defScope s_l_tried) := ⟨rfl, rfl, rfl, by decide +kernel, rfl, by decide +kernel, by decide +kernel⟩
abbrev s_l_due : Stmt := top 26
theorem sc_l_due : FnScope ["_law_deed_here", "_law_there"] ["_law_deed_here", "_law_there"] (defScope s_l_due) := ⟨rfl, rfl, rfl, by decide +kernel, rfl, by decide +kernel, by decide +kernel⟩
abbrev s_l_tie_good : Stmt := top 27
theorem sc_l_tie_good : FnScope ["_law_tie"] ["_law_tie"] (defScope s_l_tie_good) := ⟨rfl, rfl, rfl, by decide +kernel, rfl, by decide +kernel, by decide +kernel⟩
abbrev s_l_row_good : Stmt := top 28
theorem sc_l_row_good : FnScope ["_law_row"] ["_law_row"] (defScope s_l_row_good) := ⟨rfl, rfl, rfl, by decide +kernel, rfl, by decide +kernel, by decide +kernel⟩
abbrev s_l_apart : Stmt := top 29
theorem sc_l_apart : FnScope ["_law_row", "_law_other"] ["_law_row", "_law_other"] (defScope s_l_apart) := ⟨rfl, rfl, rfl, by decide +kernel, rfl, by decide +kernel, by decide +kernel⟩
abbrev s_l_row_at : Stmt := top 30
theorem sc_l_row_at : FnScope ["_law_told", "_law_page", "_law_row"] ["_law_told", "_law_page"] (defScope s_l_row_at) := ⟨rfl, rfl, rfl, by decide +kernel, rfl, by decide +kernel, by decide +kernel⟩
abbrev s_l_told_right : Stmt := top 31
theorem sc_l_told_right : FnScope ["_law_some", "_law_deeds", "_law_told", "_law_ends", "_law_deed_here", "_law_row", "_law_page", "_law_due_here"] ["_law_some", "_law_deeds"] (defScope s_l_told_right) := ⟨rfl, rfl, rfl, by decide +kernel, rfl, by decide +kernel, by decide +kernel⟩
abbrev s_law : Stmt := top 32
theorem sc_law : FnScope ["_law_script", "_law_base", "_law_cells", "_law_some", "_law_deeds", "_law_k", "_law_deed_here", "_law_there", "_law_many", "_law_due_here"] ["_law_script"] (defScope s_law) := ⟨rfl, rfl, rfl, by decide +kernel, rfl, by decide +kernel, by decide +kernel⟩
structure Adr where
  C_Stretches : Addr
  C_BadRights : Addr
  C_Taken : Addr
  C_NotMapped : Addr
structure Txt (K : PySem.W.Frag) (mg : Str → Option Value) (A : Adr) : Prop where
  b_all : mg "all" = none
  b_any : mg "any" = none
  b_bool : mg "bool" = none
  b_int : mg "int" = none
  b_isinstance : mg "isinstance" = none
  b_len : mg "len" = none
  b_list : mg "list" = none
  b_max : mg "max" = none
  b_min : mg "min" = none
  b_range : mg "range" = none
  b_reversed : mg "reversed" = none
  b_sum : mg "sum" = none
  b_tuple : mg "tuple" = none
  c_MOST_RIGHTS : ∃ u, mg "MOST_RIGHTS" = some u ∧ RelV (.int 3) u
  r_is_whole : Raw K mg "is_whole" "is_whole" s_is_whole ["thing"] []
  r_is_within : Raw K mg "is_within" "is_within" s_is_within ["thing", "low", "high"] []
  r_check_rights : Raw K mg "check_rights" "check_rights" s_check_rights ["rights"] []
  r_end_of : Raw K mg "end_of" "end_of" s_end_of ["run"] []
  r_tie_from : Raw K mg "tie_from" "tie_from" s_tie_from ["run", "page"] []
  r_part_of : Raw K mg "part_of" "part_of" s_part_of ["run", "low", "high"] []
  r_goes_on : Raw K mg "goes_on" "goes_on" s_goes_on ["run", "later"] []
  r_joined : Raw K mg "joined" "joined" s_joined ["runs"] []
  r_l_part : Raw K mg "_law_part" "_law_part" s_l_part ["_law_cell", "_law_place_here", "_law_many"] []
  r_l_whole : Raw K mg "_law_whole" "_law_whole" s_l_whole ["_law_thing"] []
  r_l_state : Raw K mg "_law_state" "_law_state" s_l_state ["_law_deeds", "_law_page"] []
  r_l_mapped : Raw K mg "_law_mapped" "_law_mapped" s_l_mapped ["_law_deeds", "_law_first", "_law_behind"] []
  r_l_place : Raw K mg "_law_place" "_law_place" s_l_place ["_law_deeds", "_law_kind", "_law_one", "_law_two", "_law_base"] []
  r_l_deed : Raw K mg "_law_deed" "_law_deed" s_l_deed ["_law_deeds", "_law_one", "_law_two", "_law_base"] []
  r_l_tried : Raw K mg "_law_tried" "_law_tried" s_l_tried ["_law_some", "_law_deed_here"] []
  r_l_due : Raw K mg "_law_due" "_law_due" s_l_due ["_law_deed_here", "_law_there"] []
  r_l_tie_good : Raw K mg "_law_tie_good" "_law_tie_good" s_l_tie_good ["_law_tie"] []
  r_l_row_good : Raw K mg "_law_row_good" "_law_row_good" s_l_row_good ["_law_row"] []
  r_l_apart : Raw K mg "_law_apart" "_law_apart" s_l_apart ["_law_row", "_law_other"] []
  r_l_row_at : Raw K mg "_law_row_at" "_law_row_at" s_l_row_at ["_law_told", "_law_page"] []
  r_l_told_right : Raw K mg "_law_told_right" "_law_told_right" s_l_told_right ["_law_some", "_law_deeds"] []
  cl_Stretches : Cls K A.C_Stretches
  na_Stretches_runs : NoAttr K A.C_Stretches "runs"
  r_Stretches_init : RawI K mg "Stretches" A.C_Stretches "Stretches.__init__" s_Stretches_init ["self"] []
  r_Stretches_put : RawMD K A.C_Stretches "put" "Stretches.put" s_Stretches_put ["self", "first", "many", "rights", "tie"] []
  r1_Stretches_put : RawMD K A.C_Stretches "put" "Stretches.put" s_Stretches_put ["self", "first", "many", "rights", "tie"] [.non]
  r_Stretches_cut : RawM K A.C_Stretches "cut" "Stretches.cut" s_Stretches_cut ["self", "first", "many"] []
  r_Stretches_guard : RawM K A.C_Stretches "guard" "Stretches.guard" s_Stretches_guard ["self", "first", "many", "rights"] []
  r_Stretches_check_full : RawM K A.C_Stretches "check_full" "Stretches.check_full" s_Stretches_check_full ["self", "first", "many"] []
  r_Stretches_rights_at : RawM K A.C_Stretches "rights_at" "Stretches.rights_at" s_Stretches_rights_at ["self", "page"] []
  r_Stretches_tie_at : RawM K A.C_Stretches "tie_at" "Stretches.tie_at" s_Stretches_tie_at ["self", "page"] []
  r_Stretches_is_free : RawM K A.C_Stretches "is_free" "Stretches.is_free" s_Stretches_is_free ["self", "first", "many"] []
  r_Stretches_is_full : RawM K A.C_Stretches "is_full" "Stretches.is_full" s_Stretches_is_full ["self", "first", "many"] []
  r_Stretches_told : RawM K A.C_Stretches "told" "Stretches.told" s_Stretches_told ["self"] []
  r_Stretches_place_behind : RawM K A.C_Stretches "place_behind" "Stretches.place_behind" s_Stretches_place_behind ["self", "page"] []
  r_Stretches_parts_amid : RawM K A.C_Stretches "parts_amid" "Stretches.parts_amid" s_Stretches_parts_amid ["self", "first", "many"] []
  r_Stretches_part_at : RawM K A.C_Stretches "part_at" "Stretches.part_at" s_Stretches_part_at ["self", "page"] []
  r_Stretches_lay_amid : RawM K A.C_Stretches "lay_amid" "Stretches.lay_amid" s_Stretches_lay_amid ["self", "first", "many", "parts"] []
  m_BadRights : ∃ u, mg "BadRights" = some u ∧ RelV (.ref A.C_BadRights) u
  h_BadRights : XH K mg "BadRights" A.C_BadRights
  x_BadRights : XC K mg "BadRights" A.C_BadRights
  m_Taken : ∃ u, mg "Taken" = some u ∧ RelV (.ref A.C_Taken) u
  h_Taken : XH K mg "Taken" A.C_Taken
  x_Taken : XC K mg "Taken" A.C_Taken
  m_NotMapped : ∃ u, mg "NotMapped" = some u ∧ RelV (.ref A.C_NotMapped) u
  h_NotMapped : XH K mg "NotMapped" A.C_NotMapped
  x_NotMapped : XC K mg "NotMapped" A.C_NotMapped
  sub_BadRights_BadRights : XSub K A.C_BadRights A.C_BadRights
  sub_Taken_Taken : XSub K A.C_Taken A.C_Taken
  sub_NotMapped_NotMapped : XSub K A.C_NotMapped A.C_NotMapped
  nsub_BadRights_Taken : XNot K A.C_BadRights A.C_Taken
  nsub_BadRights_NotMapped : XNot K A.C_BadRights A.C_NotMapped
  nsub_Taken_BadRights : XNot K A.C_Taken A.C_BadRights
  nsub_Taken_NotMapped : XNot K A.C_Taken A.C_NotMapped
  nsub_NotMapped_BadRights : XNot K A.C_NotMapped A.C_BadRights
  nsub_NotMapped_Taken : XNot K A.C_NotMapped A.C_Taken
  r_law : ∃ f fd, mg "law" = some (.ref f) ∧ Fun K "law" "law" s_law f fd ∧ ∀ (s : Shared) (u : Value), BindsTo s fd ⟨[u], []⟩ [("_law_script", u)]
theorem el1 {P : List Value → Prop} (h : ∀ a0, P [a0]) : ∀ us : List Value, us.length = 1 → P us
  | [a0], _ => h a0
theorem el2 {P : List Value → Prop} (h : ∀ a0 a1, P [a0, a1]) : ∀ us : List Value, us.length = 2 → P us
  | [a0, a1], _ => h a0 a1
theorem el3 {P : List Value → Prop} (h : ∀ a0 a1 a2, P [a0, a1, a2]) : ∀ us : List Value, us.length = 3 → P us
  | [a0, a1, a2], _ => h a0 a1 a2
theorem el4 {P : List Value → Prop} (h : ∀ a0 a1 a2 a3, P [a0, a1, a2, a3]) : ∀ us : List Value, us.length = 4 → P us
  | [a0, a1, a2, a3], _ => h a0 a1 a2 a3
theorem el5 {P : List Value → Prop} (h : ∀ a0 a1 a2 a3 a4, P [a0, a1, a2, a3, a4]) : ∀ us : List Value, us.length = 5 → P us
  | [a0, a1, a2, a3, a4], _ => h a0 a1 a2 a3 a4
theorem txt_mk {K : PySem.W.Frag} {h : Heap} {mg : Str → Option Value} (X : K.In h) (G : h.Ns mainGlobals mg)
    {C_NotMapped : Addr}
    {C_Taken : Addr}
    {C_BadRights : Addr}
    {C_Stretches : Addr}
    {t_MOST_RIGHTS : Tok}
    {f_0 : Addr} {od_0 an_0 : Option Addr} {sl_0 : Array (Option Value)} {oc_0 kV_0 dc_0 pm_0 cd_0 ct_0 : Value}
    {f_1 : Addr} {od_1 an_1 : Option Addr} {sl_1 : Array (Option Value)} {oc_1 kV_1 dc_1 pm_1 cd_1 ct_1 : Value}
    {f_2 : Addr} {od_2 an_2 : Option Addr} {sl_2 : Array (Option Value)} {oc_2 kV_2 dc_2 pm_2 cd_2 ct_2 : Value}
    {f_3 : Addr} {od_3 an_3 : Option Addr} {sl_3 : Array (Option Value)} {oc_3 kV_3 dc_3 pm_3 cd_3 ct_3 : Value}
    {f_4 : Addr} {od_4 an_4 : Option Addr} {sl_4 : Array (Option Value)} {oc_4 kV_4 dc_4 pm_4 cd_4 ct_4 : Value}
    {f_5 : Addr} {od_5 an_5 : Option Addr} {sl_5 : Array (Option Value)} {oc_5 kV_5 dc_5 pm_5 cd_5 ct_5 : Value}
    {f_6 : Addr} {od_6 an_6 : Option Addr} {sl_6 : Array (Option Value)} {oc_6 kV_6 dc_6 pm_6 cd_6 ct_6 : Value}
    {f_7 : Addr} {od_7 an_7 : Option Addr} {sl_7 : Array (Option Value)} {oc_7 kV_7 dc_7 pm_7 cd_7 ct_7 : Value}
    {f_8 : Addr} {od_8 an_8 : Option Addr} {sl_8 : Array (Option Value)} {oc_8 kV_8 dc_8 pm_8 cd_8 ct_8 : Value}
    {f_9 : Addr} {od_9 an_9 : Option Addr} {sl_9 : Array (Option Value)} {oc_9 kV_9 dc_9 pm_9 cd_9 ct_9 : Value}
    {f_10 : Addr} {od_10 an_10 : Option Addr} {sl_10 : Array (Option Value)} {oc_10 kV_10 dc_10 pm_10 cd_10 ct_10 : Value}
    {f_11 : Addr} {od_11 an_11 : Option Addr} {sl_11 : Array (Option Value)} {oc_11 kV_11 dc_11 pm_11 cd_11 ct_11 : Value}
    {f_12 : Addr} {od_12 an_12 : Option Addr} {sl_12 : Array (Option Value)} {oc_12 kV_12 dc_12 pm_12 cd_12 ct_12 : Value}
    {f_13 : Addr} {od_13 an_13 : Option Addr} {sl_13 : Array (Option Value)} {oc_13 kV_13 dc_13 pm_13 cd_13 ct_13 : Value}
    {f_14 : Addr} {od_14 an_14 : Option Addr} {sl_14 : Array (Option Value)} {oc_14 kV_14 dc_14 pm_14 cd_14 ct_14 : Value}
    {f_15 : Addr} {od_15 an_15 : Option Addr} {sl_15 : Array (Option Value)} {oc_15 kV_15 dc_15 pm_15 cd_15 ct_15 : Value}
    {f_16 : Addr} {od_16 an_16 : Option Addr} {sl_16 : Array (Option Value)} {oc_16 kV_16 dc_16 pm_16 cd_16 ct_16 : Value}
    {f_17 : Addr} {od_17 an_17 : Option Addr} {sl_17 : Array (Option Value)} {oc_17 kV_17 dc_17 pm_17 cd_17 ct_17 : Value}
    {f_18 : Addr} {od_18 an_18 : Option Addr} {sl_18 : Array (Option Value)} {oc_18 kV_18 dc_18 pm_18 cd_18 ct_18 : Value}
    {f_19 : Addr} {od_19 an_19 : Option Addr} {sl_19 : Array (Option Value)} {oc_19 kV_19 dc_19 pm_19 cd_19 ct_19 : Value}
    {f_20 : Addr} {od_20 an_20 : Option Addr} {sl_20 : Array (Option Value)} {oc_20 kV_20 dc_20 pm_20 cd_20 ct_20 : Value}
    {f_21 : Addr} {od_21 an_21 : Option Addr} {sl_21 : Array (Option Value)} {oc_21 kV_21 dc_21 pm_21 cd_21 ct_21 : Value}
    {f_22 tu_22 : Addr} {od_22 an_22 ud_22 : Option Addr} {sl_22 us_22 : Array (Option Value)} {oc_22 kV_22 dc_22 pm_22 cd_22 ct_22 uo_22 : Value} {un_22 : Nat}
    {f_23 : Addr} {od_23 an_23 : Option Addr} {sl_23 : Array (Option Value)} {oc_23 kV_23 dc_23 pm_23 cd_23 ct_23 : Value}
    {f_24 : Addr} {od_24 an_24 : Option Addr} {sl_24 : Array (Option Value)} {oc_24 kV_24 dc_24 pm_24 cd_24 ct_24 : Value}
    {f_25 : Addr} {od_25 an_25 : Option Addr} {sl_25 : Array (Option Value)} {oc_25 kV_25 dc_25 pm_25 cd_25 ct_25 : Value}
    {f_26 : Addr} {od_26 an_26 : Option Addr} {sl_26 : Array (Option Value)} {oc_26 kV_26 dc_26 pm_26 cd_26 ct_26 : Value}
    {f_27 : Addr} {od_27 an_27 : Option Addr} {sl_27 : Array (Option Value)} {oc_27 kV_27 dc_27 pm_27 cd_27 ct_27 : Value}
    {f_28 : Addr} {od_28 an_28 : Option Addr} {sl_28 : Array (Option Value)} {oc_28 kV_28 dc_28 pm_28 cd_28 ct_28 : Value}
    {f_29 : Addr} {od_29 an_29 : Option Addr} {sl_29 : Array (Option Value)} {oc_29 kV_29 dc_29 pm_29 cd_29 ct_29 : Value}
    {f_30 : Addr} {od_30 an_30 : Option Addr} {sl_30 : Array (Option Value)} {oc_30 kV_30 dc_30 pm_30 cd_30 ct_30 : Value}
    {f_31 : Addr} {od_31 an_31 : Option Addr} {sl_31 : Array (Option Value)} {oc_31 kV_31 dc_31 pm_31 cd_31 ct_31 : Value}
    {f_32 : Addr} {od_32 an_32 : Option Addr} {sl_32 : Array (Option Value)} {oc_32 kV_32 dc_32 pm_32 cd_32 ct_32 : Value}
    {f_33 : Addr} {od_33 an_33 : Option Addr} {sl_33 : Array (Option Value)} {oc_33 kV_33 dc_33 pm_33 cd_33 ct_33 : Value}
    {f_34 : Addr} {od_34 an_34 : Option Addr} {sl_34 : Array (Option Value)} {oc_34 kV_34 dc_34 pm_34 cd_34 ct_34 : Value}
    {cd_BadRights : ClassData}
    {cd_Taken : ClassData}
    {cd_NotMapped : ClassData}
    {f_35 : Addr} {od_35 an_35 : Option Addr} {sl_35 : Array (Option Value)} {oc_35 kV_35 dc_35 pm_35 cd_35 ct_35 : Value}
    (a_NotMapped : PySem.W.nsIn K mainGlobals "NotMapped" = some (some (.ref C_NotMapped)))
    (a_Taken : PySem.W.nsIn K mainGlobals "Taken" = some (some (.ref C_Taken)))
    (a_BadRights : PySem.W.nsIn K mainGlobals "BadRights" = some (some (.ref C_BadRights)))
    (a_Stretches : PySem.W.nsIn K mainGlobals "Stretches" = some (some (.ref C_Stretches)))
    (zb_all : PySem.W.nsIn K mainGlobals "all" = some none)
    (zb_any : PySem.W.nsIn K mainGlobals "any" = some none)
    (zb_bool : PySem.W.nsIn K mainGlobals "bool" = some none)
    (zb_int : PySem.W.nsIn K mainGlobals "int" = some none)
    (zb_isinstance : PySem.W.nsIn K mainGlobals "isinstance" = some none)
    (zb_len : PySem.W.nsIn K mainGlobals "len" = some none)
    (zb_list : PySem.W.nsIn K mainGlobals "list" = some none)
    (zb_max : PySem.W.nsIn K mainGlobals "max" = some none)
    (zb_min : PySem.W.nsIn K mainGlobals "min" = some none)
    (zb_range : PySem.W.nsIn K mainGlobals "range" = some none)
    (zb_reversed : PySem.W.nsIn K mainGlobals "reversed" = some none)
    (zb_sum : PySem.W.nsIn K mainGlobals "sum" = some none)
    (zb_tuple : PySem.W.nsIn K mainGlobals "tuple" = some none)
    (zc_MOST_RIGHTS : PySem.W.nsIn K mainGlobals "MOST_RIGHTS" = some (some (.int 3 t_MOST_RIGHTS)))
    (a_0_ : PySem.W.nsIn K mainGlobals "is_whole" = some (some (.ref f_0)))
    (l_0_ : K.lookup f_0 = some ⟨oc_0, od_0, .func (PySem.W.fnOf "is_whole" "is_whole" (defArgs s_is_whole) (defBody s_is_whole) (defScope s_is_whole) .none kV_0 dc_0 pm_0 an_0 cd_0 ct_0), sl_0⟩)
    (c_0_ : PySem.W.codeIn K cd_0 "is_whole" = true)
    (k_0_ : PySem.W.keepIn K (.ref f_0) = true)
    (a_1_ : PySem.W.nsIn K mainGlobals "is_within" = some (some (.ref f_1)))
    (l_1_ : K.lookup f_1 = some ⟨oc_1, od_1, .func (PySem.W.fnOf "is_within" "is_within" (defArgs s_is_within) (defBody s_is_within) (defScope s_is_within) .none kV_1 dc_1 pm_1 an_1 cd_1 ct_1), sl_1⟩)
    (c_1_ : PySem.W.codeIn K cd_1 "is_within" = true)
    (k_1_ : PySem.W.keepIn K (.ref f_1) = true)
    (a_2_ : PySem.W.nsIn K mainGlobals "check_rights" = some (some (.ref f_2)))
    (l_2_ : K.lookup f_2 = some ⟨oc_2, od_2, .func (PySem.W.fnOf "check_rights" "check_rights" (defArgs s_check_rights) (defBody s_check_rights) (defScope s_check_rights) .none kV_2 dc_2 pm_2 an_2 cd_2 ct_2), sl_2⟩)
    (c_2_ : PySem.W.codeIn K cd_2 "check_rights" = true)
    (k_2_ : PySem.W.keepIn K (.ref f_2) = true)
    (a_3_ : PySem.W.nsIn K mainGlobals "end_of" = some (some (.ref f_3)))
    (l_3_ : K.lookup f_3 = some ⟨oc_3, od_3, .func (PySem.W.fnOf "end_of" "end_of" (defArgs s_end_of) (defBody s_end_of) (defScope s_end_of) .none kV_3 dc_3 pm_3 an_3 cd_3 ct_3), sl_3⟩)
    (c_3_ : PySem.W.codeIn K cd_3 "end_of" = true)
    (k_3_ : PySem.W.keepIn K (.ref f_3) = true)
    (a_4_ : PySem.W.nsIn K mainGlobals "tie_from" = some (some (.ref f_4)))
    (l_4_ : K.lookup f_4 = some ⟨oc_4, od_4, .func (PySem.W.fnOf "tie_from" "tie_from" (defArgs s_tie_from) (defBody s_tie_from) (defScope s_tie_from) .none kV_4 dc_4 pm_4 an_4 cd_4 ct_4), sl_4⟩)
    (c_4_ : PySem.W.codeIn K cd_4 "tie_from" = true)
    (k_4_ : PySem.W.keepIn K (.ref f_4) = true)
    (a_5_ : PySem.W.nsIn K mainGlobals "part_of" = some (some (.ref f_5)))
    (l_5_ : K.lookup f_5 = some ⟨oc_5, od_5, .func (PySem.W.fnOf "part_of" "part_of" (defArgs s_part_of) (defBody s_part_of) (defScope s_part_of) .none kV_5 dc_5 pm_5 an_5 cd_5 ct_5), sl_5⟩)
    (c_5_ : PySem.W.codeIn K cd_5 "part_of" = true)
    (k_5_ : PySem.W.keepIn K (.ref f_5) = true)
    (a_6_ : PySem.W.nsIn K mainGlobals "goes_on" = some (some (.ref f_6)))
    (l_6_ : K.lookup f_6 = some ⟨oc_6, od_6, .func (PySem.W.fnOf "goes_on" "goes_on" (defArgs s_goes_on) (defBody s_goes_on) (defScope s_goes_on) .none kV_6 dc_6 pm_6 an_6 cd_6 ct_6), sl_6⟩)
    (c_6_ : PySem.W.codeIn K cd_6 "goes_on" = true)
    (k_6_ : PySem.W.keepIn K (.ref f_6) = true)
    (a_7_ : PySem.W.nsIn K mainGlobals "joined" = some (some (.ref f_7)))
    (l_7_ : K.lookup f_7 = some ⟨oc_7, od_7, .func (PySem.W.fnOf "joined" "joined" (defArgs s_joined) (defBody s_joined) (defScope s_joined) .none kV_7 dc_7 pm_7 an_7 cd_7 ct_7), sl_7⟩)
    (c_7_ : PySem.W.codeIn K cd_7 "joined" = true)
    (k_7_ : PySem.W.keepIn K (.ref f_7) = true)
    (a_8_ : PySem.W.nsIn K mainGlobals "_law_part" = some (some (.ref f_8)))
    (l_8_ : K.lookup f_8 = some ⟨oc_8, od_8, .func (PySem.W.fnOf "_law_part" "_law_part" (defArgs s_l_part) (defBody s_l_part) (defScope s_l_part) .none kV_8 dc_8 pm_8 an_8 cd_8 ct_8), sl_8⟩)
    (c_8_ : PySem.W.codeIn K cd_8 "_law_part" = true)
    (k_8_ : PySem.W.keepIn K (.ref f_8) = true)
    (a_9_ : PySem.W.nsIn K mainGlobals "_law_whole" = some (some (.ref f_9)))
    (l_9_ : K.lookup f_9 = some ⟨oc_9, od_9, .func (PySem.W.fnOf "_law_whole" "_law_whole" (defArgs s_l_whole) (defBody s_l_whole) (defScope s_l_whole) .none kV_9 dc_9 pm_9 an_9 cd_9 ct_9), sl_9⟩)
    (c_9_ : PySem.W.codeIn K cd_9 "_law_whole" = true)
    (k_9_ : PySem.W.keepIn K (.ref f_9) = true)
    (a_10_ : PySem.W.nsIn K mainGlobals "_law_state" = some (some (.ref f_10)))
    (l_10_ : K.lookup f_10 = some ⟨oc_10, od_10, .func (PySem.W.fnOf "_law_state" "_law_state" (defArgs s_l_state) (defBody s_l_state) (defScope s_l_state) .none kV_10 dc_10 pm_10 an_10 cd_10 ct_10), sl_10⟩)
    (c_10_ : PySem.W.codeIn K cd_10 "_law_state" = true)
    (k_10_ : PySem.W.keepIn K (.ref f_10) = true)
    (a_11_ : PySem.W.nsIn K mainGlobals "_law_mapped" = some (some (.ref f_11)))
    (l_11_ : K.lookup f_11 = some ⟨oc_11, od_11, .func (PySem.W.fnOf "_law_mapped" "_law_mapped" (defArgs s_l_mapped) (defBody s_l_mapped) (defScope s_l_mapped) .none kV_11 dc_11 pm_11 an_11 cd_11 ct_11), sl_11⟩)
    (c_11_ : PySem.W.codeIn K cd_11 "_law_mapped" = true)
    (k_11_ : PySem.W.keepIn K (.ref f_11) = true)
    (a_12_ : PySem.W.nsIn K mainGlobals "_law_place" = some (some (.ref f_12)))
    (l_12_ : K.lookup f_12 = some ⟨oc_12, od_12, .func (PySem.W.fnOf "_law_place" "_law_place" (defArgs s_l_place) (defBody s_l_place) (defScope s_l_place) .none kV_12 dc_12 pm_12 an_12 cd_12 ct_12), sl_12⟩)
    (c_12_ : PySem.W.codeIn K cd_12 "_law_place" = true)
    (k_12_ : PySem.W.keepIn K (.ref f_12) = true)
    (a_13_ : PySem.W.nsIn K mainGlobals "_law_deed" = some (some (.ref f_13)))
    (l_13_ : K.lookup f_13 = some ⟨oc_13, od_13, .func (PySem.W.fnOf "_law_deed" "_law_deed" (defArgs s_l_deed) (defBody s_l_deed) (defScope s_l_deed) .none kV_13 dc_13 pm_13 an_13 cd_13 ct_13), sl_13⟩)
    (c_13_ : PySem.W.codeIn K cd_13 "_law_deed" = true)
    (k_13_ : PySem.W.keepIn K (.ref f_13) = true)
    (a_14_ : PySem.W.nsIn K mainGlobals "_law_tried" = some (some (.ref f_14)))
    (l_14_ : K.lookup f_14 = some ⟨oc_14, od_14, .func (PySem.W.fnOf "_law_tried" "_law_tried" (defArgs s_l_tried) (defBody s_l_tried) (defScope s_l_tried) .none kV_14 dc_14 pm_14 an_14 cd_14 ct_14), sl_14⟩)
    (c_14_ : PySem.W.codeIn K cd_14 "_law_tried" = true)
    (k_14_ : PySem.W.keepIn K (.ref f_14) = true)
    (a_15_ : PySem.W.nsIn K mainGlobals "_law_due" = some (some (.ref f_15)))
    (l_15_ : K.lookup f_15 = some ⟨oc_15, od_15, .func (PySem.W.fnOf "_law_due" "_law_due" (defArgs s_l_due) (defBody s_l_due) (defScope s_l_due) .none kV_15 dc_15 pm_15 an_15 cd_15 ct_15), sl_15⟩)
    (c_15_ : PySem.W.codeIn K cd_15 "_law_due" = true)
    (k_15_ : PySem.W.keepIn K (.ref f_15) = true)
    (a_16_ : PySem.W.nsIn K mainGlobals "_law_tie_good" = some (some (.ref f_16)))
    (l_16_ : K.lookup f_16 = some ⟨oc_16, od_16, .func (PySem.W.fnOf "_law_tie_good" "_law_tie_good" (defArgs s_l_tie_good) (defBody s_l_tie_good) (defScope s_l_tie_good) .none kV_16 dc_16 pm_16 an_16 cd_16 ct_16), sl_16⟩)
    (c_16_ : PySem.W.codeIn K cd_16 "_law_tie_good" = true)
    (k_16_ : PySem.W.keepIn K (.ref f_16) = true)
    (a_17_ : PySem.W.nsIn K mainGlobals "_law_row_good" = some (some (.ref f_17)))
    (l_17_ : K.lookup f_17 = some ⟨oc_17, od_17, .func (PySem.W.fnOf "_law_row_good" "_law_row_good" (defArgs s_l_row_good) (defBody s_l_row_good) (defScope s_l_row_good) .none kV_17 dc_17 pm_17 an_17 cd_17 ct_17), sl_17⟩)
    (c_17_ : PySem.W.codeIn K cd_17 "_law_row_good" = true)
    (k_17_ : PySem.W.keepIn K (.ref f_17) = true)
    (a_18_ : PySem.W.nsIn K mainGlobals "_law_apart" = some (some (.ref f_18)))
    (l_18_ : K.lookup f_18 = some ⟨oc_18, od_18, .func (PySem.W.fnOf "_law_apart" "_law_apart" (defArgs s_l_apart) (defBody s_l_apart) (defScope s_l_apart) .none kV_18 dc_18 pm_18 an_18 cd_18 ct_18), sl_18⟩)
    (c_18_ : PySem.W.codeIn K cd_18 "_law_apart" = true)
    (k_18_ : PySem.W.keepIn K (.ref f_18) = true)
    (a_19_ : PySem.W.nsIn K mainGlobals "_law_row_at" = some (some (.ref f_19)))
    (l_19_ : K.lookup f_19 = some ⟨oc_19, od_19, .func (PySem.W.fnOf "_law_row_at" "_law_row_at" (defArgs s_l_row_at) (defBody s_l_row_at) (defScope s_l_row_at) .none kV_19 dc_19 pm_19 an_19 cd_19 ct_19), sl_19⟩)
    (c_19_ : PySem.W.codeIn K cd_19 "_law_row_at" = true)
    (k_19_ : PySem.W.keepIn K (.ref f_19) = true)
    (a_20_ : PySem.W.nsIn K mainGlobals "_law_told_right" = some (some (.ref f_20)))
    (l_20_ : K.lookup f_20 = some ⟨oc_20, od_20, .func (PySem.W.fnOf "_law_told_right" "_law_told_right" (defArgs s_l_told_right) (defBody s_l_told_right) (defScope s_l_told_right) .none kV_20 dc_20 pm_20 an_20 cd_20 ct_20), sl_20⟩)
    (c_20_ : PySem.W.codeIn K cd_20 "_law_told_right" = true)
    (k_20_ : PySem.W.keepIn K (.ref f_20) = true)
    (pg_Stretches : PySem.W.plainGet K C_Stretches Str.empty = true)
    (hd_Stretches : PySem.W.hasDictIn K C_Stretches = true)
    (po_Stretches : PySem.W.plainOver K C_Stretches = true)
    (sa_Stretches : PySem.W.findIn K (.ref C_Stretches) "__setattr__" = some (some (.builtin "object.__setattr__")))
    (zn_Stretches_runs : PySem.W.findIn K (.ref C_Stretches) "runs" = some none)
    (mk_Stretches : PySem.W.makesIn K C_Stretches = true)
    (kc_Stretches : PySem.W.keepIn K (.ref C_Stretches) = true)
    (a_21_ : PySem.W.findIn K (.ref C_Stretches) "__init__" = some (some (.ref f_21)))
    (i_21_ : PySem.W.isFn K (.ref f_21) = true)
    (l_21_ : K.lookup f_21 = some ⟨oc_21, od_21, .func (PySem.W.fnOf "__init__" "Stretches.__init__" (defArgs s_Stretches_init) (defBody s_Stretches_init) (defScope s_Stretches_init) .none kV_21 dc_21 pm_21 an_21 cd_21 ct_21), sl_21⟩)
    (c_21_ : PySem.W.codeIn K cd_21 "Stretches.__init__" = true)
    (k_21_ : PySem.W.keepIn K (.ref f_21) = true)
    (a_22_ : PySem.W.findIn K (.ref C_Stretches) "put" = some (some (.ref f_22)))
    (i_22_ : PySem.W.isFn K (.ref f_22) = true)
    (l_22_ : K.lookup f_22 = some ⟨oc_22, od_22, .func (PySem.W.fnOf "put" "Stretches.put" (defArgs s_Stretches_put) (defBody s_Stretches_put) (defScope s_Stretches_put) (.ref tu_22) kV_22 dc_22 pm_22 an_22 cd_22 ct_22), sl_22⟩)
    (u_22_ : K.lookup tu_22 = some ⟨uo_22, ud_22, .seq #[.none] un_22, us_22⟩)
    (c_22_ : PySem.W.codeIn K cd_22 "Stretches.put" = true)
    (k_22_ : PySem.W.keepIn K (.ref f_22) = true)
    (a_23_ : PySem.W.findIn K (.ref C_Stretches) "cut" = some (some (.ref f_23)))
    (i_23_ : PySem.W.isFn K (.ref f_23) = true)
    (l_23_ : K.lookup f_23 = some ⟨oc_23, od_23, .func (PySem.W.fnOf "cut" "Stretches.cut" (defArgs s_Stretches_cut) (defBody s_Stretches_cut) (defScope s_Stretches_cut) .none kV_23 dc_23 pm_23 an_23 cd_23 ct_23), sl_23⟩)
    (c_23_ : PySem.W.codeIn K cd_23 "Stretches.cut" = true)
    (k_23_ : PySem.W.keepIn K (.ref f_23) = true)
    (a_24_ : PySem.W.findIn K (.ref C_Stretches) "guard" = some (some (.ref f_24)))
    (i_24_ : PySem.W.isFn K (.ref f_24) = true)
    (l_24_ : K.lookup f_24 = some ⟨oc_24, od_24, .func (PySem.W.fnOf "guard" "Stretches.guard" (defArgs s_Stretches_guard) (defBody s_Stretches_guard) (defScope s_Stretches_guard) .none kV_24 dc_24 pm_24 an_24 cd_24 ct_24), sl_24⟩)
    (c_24_ : PySem.W.codeIn K cd_24 "Stretches.guard" = true)
    (k_24_ : PySem.W.keepIn K (.ref f_24) = true)
    (a_25_ : PySem.W.findIn K (.ref C_Stretches) "check_full" = some (some (.ref f_25)))
    (i_25_ : PySem.W.isFn K (.ref f_25) = true)
    (l_25_ : K.lookup f_25 = some ⟨oc_25, od_25, .func (PySem.W.fnOf "check_full" "Stretches.check_full" (defArgs s_Stretches_check_full) (defBody s_Stretches_check_full) (defScope s_Stretches_check_full) .none kV_25 dc_25 pm_25 an_25 cd_25 ct_25), sl_25⟩)
    (c_25_ : PySem.W.codeIn K cd_25 "Stretches.check_full" = true)
    (k_25_ : PySem.W.keepIn K (.ref f_25) = true)
    (a_26_ : PySem.W.findIn K (.ref C_Stretches) "rights_at" = some (some (.ref f_26)))
    (i_26_ : PySem.W.isFn K (.ref f_26) = true)
    (l_26_ : K.lookup f_26 = some ⟨oc_26, od_26, .func (PySem.W.fnOf "rights_at" "Stretches.rights_at" (defArgs s_Stretches_rights_at) (defBody s_Stretches_rights_at) (defScope s_Stretches_rights_at) .none kV_26 dc_26 pm_26 an_26 cd_26 ct_26), sl_26⟩)
    (c_26_ : PySem.W.codeIn K cd_26 "Stretches.rights_at" = true)
    (k_26_ : PySem.W.keepIn K (.ref f_26) = true)
    (a_27_ : PySem.W.findIn K (.ref C_Stretches) "tie_at" = some (some (.ref f_27)))
    (i_27_ : PySem.W.isFn K (.ref f_27) = true)
    (l_27_ : K.lookup f_27 = some ⟨oc_27, od_27, .func (PySem.W.fnOf "tie_at" "Stretches.tie_at" (defArgs s_Stretches_tie_at) (defBody s_Stretches_tie_at) (defScope s_Stretches_tie_at) .none kV_27 dc_27 pm_27 an_27 cd_27 ct_27), sl_27⟩)
    (c_27_ : PySem.W.codeIn K cd_27 "Stretches.tie_at" = true)
    (k_27_ : PySem.W.keepIn K (.ref f_27) = true)
    (a_28_ : PySem.W.findIn K (.ref C_Stretches) "is_free" = some (some (.ref f_28)))
    (i_28_ : PySem.W.isFn K (.ref f_28) = true)
    (l_28_ : K.lookup f_28 = some ⟨oc_28, od_28, .func (PySem.W.fnOf "is_free" "Stretches.is_free" (defArgs s_Stretches_is_free) (defBody s_Stretches_is_free) (defScope s_Stretches_is_free) .none kV_28 dc_28 pm_28 an_28 cd_28 ct_28), sl_28⟩)
    (c_28_ : PySem.W.codeIn K cd_28 "Stretches.is_free" = true)
    (k_28_ : PySem.W.keepIn K (.ref f_28) = true)
    (a_29_ : PySem.W.findIn K (.ref C_Stretches) "is_full" = some (some (.ref f_29)))
    (i_29_ : PySem.W.isFn K (.ref f_29) = true)
    (l_29_ : K.lookup f_29 = some ⟨oc_29, od_29, .func (PySem.W.fnOf "is_full" "Stretches.is_full" (defArgs s_Stretches_is_full) (defBody s_Stretches_is_full) (defScope s_Stretches_is_full) .none kV_29 dc_29 pm_29 an_29 cd_29 ct_29), sl_29⟩)
    (c_29_ : PySem.W.codeIn K cd_29 "Stretches.is_full" = true)
    (k_29_ : PySem.W.keepIn K (.ref f_29) = true)
    (a_30_ : PySem.W.findIn K (.ref C_Stretches) "told" = some (some (.ref f_30)))
    (i_30_ : PySem.W.isFn K (.ref f_30) = true)
    (l_30_ : K.lookup f_30 = some ⟨oc_30, od_30, .func (PySem.W.fnOf "told" "Stretches.told" (defArgs s_Stretches_told) (defBody s_Stretches_told) (defScope s_Stretches_told) .none kV_30 dc_30 pm_30 an_30 cd_30 ct_30), sl_30⟩)
    (c_30_ : PySem.W.codeIn K cd_30 "Stretches.told" = true)
    (k_30_ : PySem.W.keepIn K (.ref f_30) = true)
    (a_31_ : PySem.W.findIn K (.ref C_Stretches) "place_behind" = some (some (.ref f_31)))
    (i_31_ : PySem.W.isFn K (.ref f_31) = true)
    (l_31_ : K.lookup f_31 = some ⟨oc_31, od_31, .func (PySem.W.fnOf "place_behind" "Stretches.place_behind" (defArgs s_Stretches_place_behind) (defBody s_Stretches_place_behind) (defScope s_Stretches_place_behind) .none kV_31 dc_31 pm_31 an_31 cd_31 ct_31), sl_31⟩)
    (c_31_ : PySem.W.codeIn K cd_31 "Stretches.place_behind" = true)
    (k_31_ : PySem.W.keepIn K (.ref f_31) = true)
    (a_32_ : PySem.W.findIn K (.ref C_Stretches) "parts_amid" = some (some (.ref f_32)))
    (i_32_ : PySem.W.isFn K (.ref f_32) = true)
    (l_32_ : K.lookup f_32 = some ⟨oc_32, od_32, .func (PySem.W.fnOf "parts_amid" "Stretches.parts_amid" (defArgs s_Stretches_parts_amid) (defBody s_Stretches_parts_amid) (defScope s_Stretches_parts_amid) .none kV_32 dc_32 pm_32 an_32 cd_32 ct_32), sl_32⟩)
    (c_32_ : PySem.W.codeIn K cd_32 "Stretches.parts_amid" = true)
    (k_32_ : PySem.W.keepIn K (.ref f_32) = true)
    (a_33_ : PySem.W.findIn K (.ref C_Stretches) "part_at" = some (some (.ref f_33)))
    (i_33_ : PySem.W.isFn K (.ref f_33) = true)
    (l_33_ : K.lookup f_33 = some ⟨oc_33, od_33, .func (PySem.W.fnOf "part_at" "Stretches.part_at" (defArgs s_Stretches_part_at) (defBody s_Stretches_part_at) (defScope s_Stretches_part_at) .none kV_33 dc_33 pm_33 an_33 cd_33 ct_33), sl_33⟩)
    (c_33_ : PySem.W.codeIn K cd_33 "Stretches.part_at" = true)
    (k_33_ : PySem.W.keepIn K (.ref f_33) = true)
    (a_34_ : PySem.W.findIn K (.ref C_Stretches) "lay_amid" = some (some (.ref f_34)))
    (i_34_ : PySem.W.isFn K (.ref f_34) = true)
    (l_34_ : K.lookup f_34 = some ⟨oc_34, od_34, .func (PySem.W.fnOf "lay_amid" "Stretches.lay_amid" (defArgs s_Stretches_lay_amid) (defBody s_Stretches_lay_amid) (defScope s_Stretches_lay_amid) .none kV_34 dc_34 pm_34 an_34 cd_34 ct_34), sl_34⟩)
    (c_34_ : PySem.W.codeIn K cd_34 "Stretches.lay_amid" = true)
    (k_34_ : PySem.W.keepIn K (.ref f_34) = true)
    (zt_BadRights : PySem.W.typeIn K (.ref C_BadRights) = some (.type "type"))
    (zl_BadRights : PySem.W.clsIn K C_BadRights = some cd_BadRights)
    (zm_BadRights : PySem.W.mroIn K C_BadRights (.type "BaseException") = some true)
    (ze_BadRights : PySem.W.excIn K C_BadRights mroVE "ValueError.__new__" = true)
    (zt_Taken : PySem.W.typeIn K (.ref C_Taken) = some (.type "type"))
    (zl_Taken : PySem.W.clsIn K C_Taken = some cd_Taken)
    (zm_Taken : PySem.W.mroIn K C_Taken (.type "BaseException") = some true)
    (ze_Taken : PySem.W.excIn K C_Taken mroVE "ValueError.__new__" = true)
    (zt_NotMapped : PySem.W.typeIn K (.ref C_NotMapped) = some (.type "type"))
    (zl_NotMapped : PySem.W.clsIn K C_NotMapped = some cd_NotMapped)
    (zm_NotMapped : PySem.W.mroIn K C_NotMapped (.type "BaseException") = some true)
    (ze_NotMapped : PySem.W.excIn K C_NotMapped mroVE "ValueError.__new__" = true)
    (zs_BadRights_BadRights : PySem.W.mroIn K C_BadRights (.ref C_BadRights) = some true)
    (zs_Taken_Taken : PySem.W.mroIn K C_Taken (.ref C_Taken) = some true)
    (zs_NotMapped_NotMapped : PySem.W.mroIn K C_NotMapped (.ref C_NotMapped) = some true)
    (zx_BadRights_Taken : PySem.W.mroIn K C_BadRights (.ref C_Taken) = some false)
    (zx_BadRights_NotMapped : PySem.W.mroIn K C_BadRights (.ref C_NotMapped) = some false)
    (zx_Taken_BadRights : PySem.W.mroIn K C_Taken (.ref C_BadRights) = some false)
    (zx_Taken_NotMapped : PySem.W.mroIn K C_Taken (.ref C_NotMapped) = some false)
    (zx_NotMapped_BadRights : PySem.W.mroIn K C_NotMapped (.ref C_BadRights) = some false)
    (zx_NotMapped_Taken : PySem.W.mroIn K C_NotMapped (.ref C_Taken) = some false)
    (a_35_ : PySem.W.nsIn K mainGlobals "law" = some (some (.ref f_35)))
    (l_35_ : K.lookup f_35 = some ⟨oc_35, od_35, .func (PySem.W.fnOf "law" "law" (defArgs s_law) (defBody s_law) (defScope s_law) .none kV_35 dc_35 pm_35 an_35 cd_35 ct_35), sl_35⟩)
    (c_35_ : PySem.W.codeIn K cd_35 "law" = true)
    (k_35_ : PySem.W.keepIn K (.ref f_35) = true)
    : ∃ A : Adr, Txt K mg A := ⟨⟨C_Stretches, C_BadRights, C_Taken, C_NotMapped⟩, {
      b_all := PySem.W.mg_none_of X G zb_all
      b_any := PySem.W.mg_none_of X G zb_any
      b_bool := PySem.W.mg_none_of X G zb_bool
      b_int := PySem.W.mg_none_of X G zb_int
      b_isinstance := PySem.W.mg_none_of X G zb_isinstance
      b_len := PySem.W.mg_none_of X G zb_len
      b_list := PySem.W.mg_none_of X G zb_list
      b_max := PySem.W.mg_none_of X G zb_max
      b_min := PySem.W.mg_none_of X G zb_min
      b_range := PySem.W.mg_none_of X G zb_range
      b_reversed := PySem.W.mg_none_of X G zb_reversed
      b_sum := PySem.W.mg_none_of X G zb_sum
      b_tuple := PySem.W.mg_none_of X G zb_tuple
      c_MOST_RIGHTS := ⟨_, PySem.W.mg_of X G zc_MOST_RIGHTS, ⟨_, rfl⟩⟩
      r_is_whole := ⟨_, _, _, PySem.W.mg_of X G a_0_, fun_mk (st := s_is_whole) l_0_ c_0_ k_0_, (fun_mk (st := s_is_whole) l_0_ c_0_ k_0_).binds (ps := ["thing"]) fun _ _ _ _ _ _ => el1 (fun _ => rfl), .nil⟩
      r_is_within := ⟨_, _, _, PySem.W.mg_of X G a_1_, fun_mk (st := s_is_within) l_1_ c_1_ k_1_, (fun_mk (st := s_is_within) l_1_ c_1_ k_1_).binds (ps := ["thing", "low", "high"]) fun _ _ _ _ _ _ => el3 (fun _ _ _ => rfl), .nil⟩
      r_check_rights := ⟨_, _, _, PySem.W.mg_of X G a_2_, fun_mk (st := s_check_rights) l_2_ c_2_ k_2_, (fun_mk (st := s_check_rights) l_2_ c_2_ k_2_).binds (ps := ["rights"]) fun _ _ _ _ _ _ => el1 (fun _ => rfl), .nil⟩
      r_end_of := ⟨_, _, _, PySem.W.mg_of X G a_3_, fun_mk (st := s_end_of) l_3_ c_3_ k_3_, (fun_mk (st := s_end_of) l_3_ c_3_ k_3_).binds (ps := ["run"]) fun _ _ _ _ _ _ => el1 (fun _ => rfl), .nil⟩
      r_tie_from := ⟨_, _, _, PySem.W.mg_of X G a_4_, fun_mk (st := s_tie_from) l_4_ c_4_ k_4_, (fun_mk (st := s_tie_from) l_4_ c_4_ k_4_).binds (ps := ["run", "page"]) fun _ _ _ _ _ _ => el2 (fun _ _ => rfl), .nil⟩
      r_part_of := ⟨_, _, _, PySem.W.mg_of X G a_5_, fun_mk (st := s_part_of) l_5_ c_5_ k_5_, (fun_mk (st := s_part_of) l_5_ c_5_ k_5_).binds (ps := ["run", "low", "high"]) fun _ _ _ _ _ _ => el3 (fun _ _ _ => rfl), .nil⟩
      r_goes_on := ⟨_, _, _, PySem.W.mg_of X G a_6_, fun_mk (st := s_goes_on) l_6_ c_6_ k_6_, (fun_mk (st := s_goes_on) l_6_ c_6_ k_6_).binds (ps := ["run", "later"]) fun _ _ _ _ _ _ => el2 (fun _ _ => rfl), .nil⟩
      r_joined := ⟨_, _, _, PySem.W.mg_of X G a_7_, fun_mk (st := s_joined) l_7_ c_7_ k_7_, (fun_mk (st := s_joined) l_7_ c_7_ k_7_).binds (ps := ["runs"]) fun _ _ _ _ _ _ => el1 (fun _ => rfl), .nil⟩
      r_l_part := ⟨_, _, _, PySem.W.mg_of X G a_8_, fun_mk (st := s_l_part) l_8_ c_8_ k_8_, (fun_mk (st := s_l_part) l_8_ c_8_ k_8_).binds (ps := ["_law_cell", "_law_place_here", "_law_many"]) fun _ _ _ _ _ _ => el3 (fun _ _ _ => rfl), .nil⟩
      r_l_whole := ⟨_, _, _, PySem.W.mg_of X G a_9_, fun_mk (st := s_l_whole) l_9_ c_9_ k_9_, (fun_mk (st := s_l_whole) l_9_ c_9_ k_9_).binds (ps := ["_law_thing"]) fun _ _ _ _ _ _ => el1 (fun _ => rfl), .nil⟩
      r_l_state := ⟨_, _, _, PySem.W.mg_of X G a_10_, fun_mk (st := s_l_state) l_10_ c_10_ k_10_, (fun_mk (st := s_l_state) l_10_ c_10_ k_10_).binds (ps := ["_law_deeds", "_law_page"]) fun _ _ _ _ _ _ => el2 (fun _ _ => rfl), .nil⟩
      r_l_mapped := ⟨_, _, _, PySem.W.mg_of X G a_11_, fun_mk (st := s_l_mapped) l_11_ c_11_ k_11_, (fun_mk (st := s_l_mapped) l_11_ c_11_ k_11_).binds (ps := ["_law_deeds", "_law_first", "_law_behind"]) fun _ _ _ _ _ _ => el3 (fun _ _ _ => rfl), .nil⟩
      r_l_place := ⟨_, _, _, PySem.W.mg_of X G a_12_, fun_mk (st := s_l_place) l_12_ c_12_ k_12_, (fun_mk (st := s_l_place) l_12_ c_12_ k_12_).binds (ps := ["_law_deeds", "_law_kind", "_law_one", "_law_two", "_law_base"]) fun _ _ _ _ _ _ => el5 (fun _ _ _ _ _ => rfl), .nil⟩
      r_l_deed := ⟨_, _, _, PySem.W.mg_of X G a_13_, fun_mk (st := s_l_deed) l_13_ c_13_ k_13_, (fun_mk (st := s_l_deed) l_13_ c_13_ k_13_).binds (ps := ["_law_deeds", "_law_one", "_law_two", "_law_base"]) fun _ _ _ _ _ _ => el4 (fun _ _ _ _ => rfl), .nil⟩
      r_l_tried := ⟨_, _, _, PySem.W.mg_of X G a_14_, fun_mk (st := s_l_tried) l_14_ c_14_ k_14_, (fun_mk (st := s_l_tried) l_14_ c_14_ k_14_).binds (ps := ["_law_some", "_law_deed_here"]) fun _ _ _ _ _ _ => el2 (fun _ _ => rfl), .nil⟩
      r_l_due := ⟨_, _, _, PySem.W.mg_of X G a_15_, fun_mk (st := s_l_due) l_15_ c_15_ k_15_, (fun_mk (st := s_l_due) l_15_ c_15_ k_15_).binds (ps := ["_law_deed_here", "_law_there"]) fun _ _ _ _ _ _ => el2 (fun _ _ => rfl), .nil⟩
      r_l_tie_good := ⟨_, _, _, PySem.W.mg_of X G a_16_, fun_mk (st := s_l_tie_good) l_16_ c_16_ k_16_, (fun_mk (st := s_l_tie_good) l_16_ c_16_ k_16_).binds (ps := ["_law_tie"]) fun _ _ _ _ _ _ => el1 (fun _ => rfl), .nil⟩
      r_l_row_good := ⟨_, _, _, PySem.W.mg_of X G a_17_, fun_mk (st := s_l_row_good) l_17_ c_17_ k_17_, (fun_mk (st := s_l_row_good) l_17_ c_17_ k_17_).binds (ps := ["_law_row"]) fun _ _ _ _ _ _ => el1 (fun _ => rfl), .nil⟩
      r_l_apart := ⟨_, _, _, PySem.W.mg_of X G a_18_, fun_mk (st := s_l_apart) l_18_ c_18_ k_18_, (fun_mk (st := s_l_apart) l_18_ c_18_ k_18_).binds (ps := ["_law_row", "_law_other"]) fun _ _ _ _ _ _ => el2 (fun _ _ => rfl), .nil⟩
      r_l_row_at := ⟨_, _, _, PySem.W.mg_of X G a_19_, fun_mk (st := s_l_row_at) l_19_ c_19_ k_19_, (fun_mk (st := s_l_row_at) l_19_ c_19_ k_19_).binds (ps := ["_law_told", "_law_page"]) fun _ _ _ _ _ _ => el2 (fun _ _ => rfl), .nil⟩
      r_l_told_right := ⟨_, _, _, PySem.W.mg_of X G a_20_, fun_mk (st := s_l_told_right) l_20_ c_20_ k_20_, (fun_mk (st := s_l_told_right) l_20_ c_20_ k_20_).binds (ps := ["_law_some", "_law_deeds"]) fun _ _ _ _ _ _ => el2 (fun _ _ => rfl), .nil⟩
      cl_Stretches := ⟨pg_Stretches, hd_Stretches, po_Stretches, sa_Stretches⟩
      na_Stretches_runs := zn_Stretches_runs
      r_Stretches_init := ⟨_, _, _, PySem.W.mg_of X G a_Stretches, ⟨mk_Stretches, a_21_, i_21_, kc_Stretches⟩, fun_mk (st := s_Stretches_init) l_21_ c_21_ k_21_, (fun_mk (st := s_Stretches_init) l_21_ c_21_ k_21_).binds (ps := ["self"]) fun _ _ _ _ _ _ => el1 (fun _ => rfl), .nil⟩
      r_Stretches_put := ⟨_, _, _, ⟨a_22_, i_22_, k_22_⟩, fund_mk (st := s_Stretches_put) l_22_ c_22_ k_22_, (binds_d 5 rfl fun _ us X_ hl => match us, hl with | [_, _, _, _, _], _ => BindsTo.of_defaults rfl (X_ _ _ u_22_) rfl rfl rfl), .nil⟩
      r1_Stretches_put := ⟨_, _, _, ⟨a_22_, i_22_, k_22_⟩, fund_mk (st := s_Stretches_put) l_22_ c_22_ k_22_, (binds_d 4 rfl fun _ us X_ hl => match us, hl with | [_, _, _, _], _ => BindsTo.of_defaults rfl (X_ _ _ u_22_) rfl rfl rfl), .cons rfl (.nil)⟩
      r_Stretches_cut := ⟨_, _, _, ⟨a_23_, i_23_, k_23_⟩, fun_mk (st := s_Stretches_cut) l_23_ c_23_ k_23_, (fun_mk (st := s_Stretches_cut) l_23_ c_23_ k_23_).binds (ps := ["self", "first", "many"]) fun _ _ _ _ _ _ => el3 (fun _ _ _ => rfl), .nil⟩
      r_Stretches_guard := ⟨_, _, _, ⟨a_24_, i_24_, k_24_⟩, fun_mk (st := s_Stretches_guard) l_24_ c_24_ k_24_, (fun_mk (st := s_Stretches_guard) l_24_ c_24_ k_24_).binds (ps := ["self", "first", "many", "rights"]) fun _ _ _ _ _ _ => el4 (fun _ _ _ _ => rfl), .nil⟩
      r_Stretches_check_full := ⟨_, _, _, ⟨a_25_, i_25_, k_25_⟩, fun_mk (st := s_Stretches_check_full) l_25_ c_25_ k_25_, (fun_mk (st := s_Stretches_check_full) l_25_ c_25_ k_25_).binds (ps := ["self", "first", "many"]) fun _ _ _ _ _ _ => el3 (fun _ _ _ => rfl), .nil⟩
      r_Stretches_rights_at := ⟨_, _, _, ⟨a_26_, i_26_, k_26_⟩, fun_mk (st := s_Stretches_rights_at) l_26_ c_26_ k_26_, (fun_mk (st := s_Stretches_rights_at) l_26_ c_26_ k_26_).binds (ps := ["self", "page"]) fun _ _ _ _ _ _ => el2 (fun _ _ => rfl), .nil⟩
      r_Stretches_tie_at := ⟨_, _, _, ⟨a_27_, i_27_, k_27_⟩, fun_mk (st := s_Stretches_tie_at) l_27_ c_27_ k_27_, (fun_mk (st := s_Stretches_tie_at) l_27_ c_27_ k_27_).binds (ps := ["self", "page"]) fun _ _ _ _ _ _ => el2 (fun _ _ => rfl), .nil⟩
      r_Stretches_is_free := ⟨_, _, _, ⟨a_28_, i_28_, k_28_⟩, fun_mk (st := s_Stretches_is_free) l_28_ c_28_ k_28_, (fun_mk (st := s_Stretches_is_free) l_28_ c_28_ k_28_).binds (ps := ["self", "first", "many"]) fun _ _ _ _ _ _ => el3 (fun _ _ _ => rfl), .nil⟩
      r_Stretches_is_full := ⟨_, _, _, ⟨a_29_, i_29_, k_29_⟩, fun_mk (st := s_Stretches_is_full) l_29_ c_29_ k_29_, (fun_mk (st := s_Stretches_is_full) l_29_ c_29_ k_29_).binds (ps := ["self", "first", "many"]) fun _ _ _ _ _ _ => el3 (fun _ _ _ => rfl), .nil⟩
      r_Stretches_told := ⟨_, _, _, ⟨a_30_, i_30_, k_30_⟩, fun_mk (st := s_Stretches_told) l_30_ c_30_ k_30_, (fun_mk (st := s_Stretches_told) l_30_ c_30_ k_30_).binds (ps := ["self"]) fun _ _ _ _ _ _ => el1 (fun _ => rfl), .nil⟩
      r_Stretches_place_behind := ⟨_, _, _, ⟨a_31_, i_31_, k_31_⟩, fun_mk (st := s_Stretches_place_behind) l_31_ c_31_ k_31_, (fun_mk (st := s_Stretches_place_behind) l_31_ c_31_ k_31_).binds (ps := ["self", "page"]) fun _ _ _ _ _ _ => el2 (fun _ _ => rfl), .nil⟩
      r_Stretches_parts_amid := ⟨_, _, _, ⟨a_32_, i_32_, k_32_⟩, fun_mk (st := s_Stretches_parts_amid) l_32_ c_32_ k_32_, (fun_mk (st := s_Stretches_parts_amid) l_32_ c_32_ k_32_).binds (ps := ["self", "first", "many"]) fun _ _ _ _ _ _ => el3 (fun _ _ _ => rfl), .nil⟩
      r_Stretches_part_at := ⟨_, _, _, ⟨a_33_, i_33_, k_33_⟩, fun_mk (st := s_Stretches_part_at) l_33_ c_33_ k_33_, (fun_mk (st := s_Stretches_part_at) l_33_ c_33_ k_33_).binds (ps := ["self", "page"]) fun _ _ _ _ _ _ => el2 (fun _ _ => rfl), .nil⟩
      r_Stretches_lay_amid := ⟨_, _, _, ⟨a_34_, i_34_, k_34_⟩, fun_mk (st := s_Stretches_lay_amid) l_34_ c_34_ k_34_, (fun_mk (st := s_Stretches_lay_amid) l_34_ c_34_ k_34_).binds (ps := ["self", "first", "many", "parts"]) fun _ _ _ _ _ _ => el4 (fun _ _ _ _ => rfl), .nil⟩
      m_BadRights := ⟨_, PySem.W.mg_of X G a_BadRights, rfl⟩
      h_BadRights := ⟨PySem.W.mg_of X G a_BadRights, zt_BadRights, ⟨_, zl_BadRights⟩, zm_BadRights⟩
      x_BadRights := ⟨PySem.W.mg_of X G a_BadRights, ze_BadRights⟩
      m_Taken := ⟨_, PySem.W.mg_of X G a_Taken, rfl⟩
      h_Taken := ⟨PySem.W.mg_of X G a_Taken, zt_Taken, ⟨_, zl_Taken⟩, zm_Taken⟩
      x_Taken := ⟨PySem.W.mg_of X G a_Taken, ze_Taken⟩
      m_NotMapped := ⟨_, PySem.W.mg_of X G a_NotMapped, rfl⟩
      h_NotMapped := ⟨PySem.W.mg_of X G a_NotMapped, zt_NotMapped, ⟨_, zl_NotMapped⟩, zm_NotMapped⟩
      x_NotMapped := ⟨PySem.W.mg_of X G a_NotMapped, ze_NotMapped⟩
      sub_BadRights_BadRights := zs_BadRights_BadRights
      sub_Taken_Taken := zs_Taken_Taken
      sub_NotMapped_NotMapped := zs_NotMapped_NotMapped
      nsub_BadRights_Taken := zx_BadRights_Taken
      nsub_BadRights_NotMapped := zx_BadRights_NotMapped
      nsub_Taken_BadRights := zx_Taken_BadRights
      nsub_Taken_NotMapped := zx_Taken_NotMapped
      nsub_NotMapped_BadRights := zx_NotMapped_BadRights
      nsub_NotMapped_Taken := zx_NotMapped_Taken
      r_law := ⟨_, _, PySem.W.mg_of X G a_35_, fun_mk (st := s_law) l_35_ c_35_ k_35_, fun _ _ => .of_eq rfl⟩
    }⟩

section
variable {P : Program} {w : World} {K : PySem.W.Frag} {mg : Str → Option Value} {base : Heap} {A : Adr}

def sp_is_whole : Sp := fun vs H Q _ => ∃ x, vs = [x] ∧ Kn H x ∧ Q (.bl (whole x)) H
theorem h_is_whole (T : Txt K mg A) : Have P w K mg base "is_whole" 1 ["thing"] [] sp_is_whole := by
  refine T.r_is_whole.have sc_is_whole (fun vs H Q E z => ?_) ?_
  · obtain ⟨x, rfl, _⟩ := z; rfl
  · intro f cdv A' outer s H vs Q E hr z
    obtain ⟨x, rfl, hk, q⟩ := z
    refine ⟨_, (pss_one (ps_ret (pe_and (pe_callB call_isi rfl T.b_isinstance PyProof.Rows.boot_isinstance (pa_cons (pvM 0) (pa_cons (pe_bltnE (n := "int") rfl T.b_int PyProof.Rows.boot_int) pa_nil))) (pe_one (pe_not (pe_callB call_isi rfl T.b_isinstance PyProof.Rows.boot_isinstance (pa_cons (pvM 0) (pa_cons (pe_bltnE (n := "bool") rfl T.b_bool PyProof.Rows.boot_bool) pa_nil)))))))), ?_⟩
    walk_at "wp"
    rw [← isTy_whole hk] at q
    refine ⟨by decide, hk, ?_⟩
    cases e : isTy "int" H x with
    | true => rw [e] at q; exact iteT ⟨by decide, hk, q⟩
    | false => rw [e] at q; exact iteF q

def sp_is_within : Sp := fun vs H Q _ => ∃ x l h, vs = [x, .int l, .int h] ∧ Kn H x ∧ Q (.bl (within x l h)) H
theorem h_is_within (T : Txt K mg A) : Have P w K mg base "is_within" 2 ["thing", "low", "high"] [] sp_is_within := by
  have H_is_whole := h_is_whole (P := P) (w := w) (base := base) T
  refine T.r_is_within.have sc_is_within (fun vs H Q E z => ?_) ?_
  · obtain ⟨x, l, h, rfl, _⟩ := z; rfl
  · intro f cdv A' outer s H vs Q E hr z
    obtain ⟨x, l, h, rfl, hk, q⟩ := z
    refine ⟨_, (pss_one (ps_ret (pe_and (pe_callE H_is_whole (hr.mono (by decide)) xw_def (pa_cons (pvM 0) pa_nil)) (pe_one (pe_chain op_le op_le (pvM 1) (pvM 0) (pvM 2)))))), ?_⟩
    unfold sp_is_whole
    walk_at "wp"
    refine ⟨hk, ?_⟩
    cases x with
    | int i =>
      refine iteT ⟨i, rfl, ?_⟩
      rw [within_int] at q
      by_cases c : l ≤ i
      · rw [decide_eq_true c] at q
        rw [if_pos c]
        exact ⟨i, rfl, q⟩
      · rw [decide_eq_false c] at q
        rw [if_neg c]
        exact q
    | _ => exact iteF q
theorem same_put {H H' : Hp} {t : Addr} {o : HO} (s : Same H H') (h : H t = none) : Same H (upd H' t o) := fun b u e => by
  rw [upd_ne (ne_of_none e h)]; exact s b u e

theorem same_none {H H' : Hp} {p : Addr} (s : Same H H') (h : H' p = none) : H p = none := by
  cases e : H p with
  | none => rfl
  | some o => rw [s p o e] at h; cases h
structure Rn where
  f : Int
  m : Int
  r : Int
  t : Option (Int × Int)
  deriving DecidableEq
def enR (r : Rn) : Int := r.f + r.m
def tf (r : Rn) (p : Int) : Option (Int × Int) := r.t.map fun t => (t.1, t.2 + p - r.f)
def poR (r : Rn) (lo hi : Int) : Rn := ⟨max r.f lo, min (enR r) hi - max r.f lo, r.r, tf r (max r.f lo)⟩
def go (r s : Rn) : Bool := decide (enR r = s.f) && decide (r.r = s.r) && decide (tf r s.f = s.t)
def jstep (acc : List Rn) (r : Rn) : List Rn :=
  match acc.getLast? with
  | none => acc ++ [r]
  | some l => if go l r = true then acc.dropLast ++ [⟨l.f, l.m + r.m, l.r, l.t⟩] else acc ++ [r]
def jn (rs : List Rn) : List Rn := rs.foldl jstep []
def pb (rs : List Rn) (p : Int) : Nat := (rs.takeWhile fun r => decide (enR r ≤ p)).length
def cutR (rs : List Rn) (lo hi : Nat) : List Rn := (rs.take hi).drop lo
def pam (rs : List Rn) (a n : Int) : List Rn := ((cutR rs (pb rs a) (pb rs (a + n) + 1)).filter fun r => decide (r.f < a + n)).map fun r => poR r a (a + n)
def layR (rs : List Rn) (a n : Int) (parts : List Rn) : List Rn :=
  let near := cutR rs (pb rs (a - 1)) (pb rs (a + n) + 1)
  rs.take (pb rs (a - 1)) ++ jn ((near.filter fun r => decide (r.f < a)).map (fun r => poR r r.f a) ++ parts ++ (near.filter fun r => decide (enR r > a + n)).map (fun r => poR r (a + n) (enR r))) ++ rs.drop (pb rs (a + n) + 1)
def pm : List Rn → Int → Option (Int × Option (Int × Int))
  | [], _ => none
  | r :: rs, p => if r.f ≤ p ∧ p < enR r then some (r.r, tf r p) else pm rs p
def OrdR (rs : List Rn) : Prop := rs.Pairwise (fun a b => enR a ≤ b.f) ∧ ∀ r ∈ rs, 0 < r.m
def LstR : List Rn → Prop
  | [] => True
  | [_] => True
  | a :: b :: r => go a b = false ∧ LstR (b :: r)
theorem OrdR.tail {r : Rn} {rs : List Rn} (h : OrdR (r :: rs)) : OrdR rs := ⟨(List.pairwise_cons.mp h.1).2, fun x hx => h.2 x (List.mem_cons_of_mem _ hx)⟩
theorem OrdR.head {r : Rn} {rs : List Rn} (h : OrdR (r :: rs)) : ∀ s ∈ rs, enR r ≤ s.f := (List.pairwise_cons.mp h.1).1
theorem LstR.tail {r : Rn} {rs : List Rn} (h : LstR (r :: rs)) : LstR rs := by
  cases rs with
  | nil => exact True.intro
  | cons s rs => exact h.2
theorem pm_none {p : Int} : ∀ {rs : List Rn}, (∀ r ∈ rs, ¬ (r.f ≤ p ∧ p < enR r)) → pm rs p = none
  | [], _ => rfl
  | r :: rs, h => by
    unfold pm
    rw [if_neg (h r List.mem_cons_self)]
    exact pm_none fun s hs => h s (List.mem_cons_of_mem _ hs)
theorem pm_below {p : Int} {rs : List Rn} (h : ∀ r ∈ rs, p < r.f) : pm rs p = none := pm_none fun r hr z => by have := h r hr; omega
theorem pm_above {p : Int} {rs : List Rn} (h : ∀ r ∈ rs, enR r ≤ p) : pm rs p = none := pm_none fun r hr z => by have := h r hr; omega
theorem pm_mem {p : Int} : ∀ {rs : List Rn} {r : Rn}, OrdR rs → r ∈ rs → r.f ≤ p → p < enR r → pm rs p = some (r.r, tf r p)
  | [], _, _, h, _, _ => by cases h
  | s :: rs, r, o, h, h1, h2 => by
    unfold pm
    rcases List.mem_cons.mp h with rfl | h
    · rw [if_pos ⟨h1, h2⟩]
    · have := o.head r h
      rw [if_neg (by omega)]
      exact pm_mem o.tail h h1 h2
theorem pm_some {p : Int} {x : Int × Option (Int × Int)} : ∀ {rs : List Rn}, pm rs p = some x → ∃ r ∈ rs, r.f ≤ p ∧ p < enR r ∧ x = (r.r, tf r p)
  | [], h => by cases h
  | s :: rs, h => by
    unfold pm at h
    by_cases c : s.f ≤ p ∧ p < enR s
    · rw [if_pos c] at h
      exact ⟨s, List.mem_cons_self, c.1, c.2, (Option.some.inj h).symm⟩
    · rw [if_neg c] at h
      obtain ⟨r, h1, h2⟩ := pm_some h
      exact ⟨r, List.mem_cons_of_mem _ h1, h2⟩
theorem pm_append {p : Int} : ∀ {rs ss : List Rn}, pm (rs ++ ss) p = (pm rs p).or (pm ss p)
  | [], ss => by rw [List.nil_append]; rfl
  | r :: rs, ss => by
    show (if r.f ≤ p ∧ p < enR r then some (r.r, tf r p) else pm (rs ++ ss) p) = (if r.f ≤ p ∧ p < enR r then some (r.r, tf r p) else pm rs p).or (pm ss p)
    by_cases c : r.f ≤ p ∧ p < enR r
    · rw [if_pos c, if_pos c]; rfl
    · rw [if_neg c, if_neg c]; exact pm_append
theorem tf_at {r : Rn} : tf r r.f = r.t := by
  unfold tf
  cases r.t with
  | none => rfl
  | some t => simp
theorem tf_shift {r : Rn} {p q : Int} {m x : Int} : tf ⟨p, m, x, tf r p⟩ q = tf r q := by
  unfold tf
  cases r.t with
  | none => rfl
  | some t => simp; omega
def sHd (a b : Rn) : Prop := a.f = b.f ∧ a.r = b.r ∧ a.t = b.t
def sLs (a b : Rn) : Prop := enR a = enR b ∧ a.r = b.r ∧ ∀ p, tf a p = tf b p
theorem go_hd {l a b : Rn} (h : sHd a b) : go l a = go l b := by unfold go; rw [h.1, h.2.1, h.2.2]
theorem go_ls {l a b : Rn} (h : sLs a b) : go a l = go b l := by unfold go; rw [h.1, h.2.1, h.2.2]
theorem lst_app : ∀ {xs ys : List Rn}, LstR xs → LstR ys → (∀ a b, xs.getLast? = some a → ys.head? = some b → go a b = false) → LstR (xs ++ ys)
  | [], ys, _, h, _ => h
  | [a], [], h, _, _ => h
  | [a], b :: ys, _, h, g => ⟨g a b rfl rfl, h⟩
  | a :: b :: xs, ys, h, h2, g => ⟨h.1, lst_app (xs := b :: xs) h.2 h2 fun x y e1 e2 => g x y (by rw [List.getLast?_cons_cons]; exact e1) e2⟩
theorem lst_left : ∀ {xs ys : List Rn}, LstR (xs ++ ys) → LstR xs
  | [], _, _ => True.intro
  | [a], _, _ => True.intro
  | a :: b :: xs, ys, h => ⟨h.1, lst_left (xs := b :: xs) (ys := ys) h.2⟩
theorem lst_right : ∀ {xs ys : List Rn}, LstR (xs ++ ys) → LstR ys
  | [], _, h => h
  | a :: xs, ys, h => lst_right (xs := xs) (LstR.tail (r := a) h)
theorem lst_amid : ∀ {xs ys : List Rn} {a b : Rn}, LstR (xs ++ ys) → xs.getLast? = some a → ys.head? = some b → go a b = false
  | [], _, _, _, _, h, _ => by cases h
  | [x], [], _, _, _, _, h => by cases h
  | [x], y :: ys, a, b, h, h1, h2 => by
    cases h1; cases h2; exact h.1
  | x :: z :: xs, ys, a, b, h, h1, h2 => lst_amid (xs := z :: xs) h.2 (by rw [List.getLast?_cons_cons] at h1; exact h1) h2
theorem lst_same : ∀ {xs : List Rn} {a b : Rn}, sHd a b → LstR (xs ++ [b]) → LstR (xs ++ [a])
  | [], _, _, _, _ => True.intro
  | [x], a, b, h, l => ⟨by rw [go_hd h]; exact l.1, True.intro⟩
  | x :: z :: xs, a, b, h, l => ⟨l.1, lst_same (xs := z :: xs) h l.2⟩
theorem ord_app {xs ys : List Rn} (h1 : OrdR xs) (h2 : OrdR ys) (h : ∀ x ∈ xs, ∀ y ∈ ys, enR x ≤ y.f) : OrdR (xs ++ ys) :=
  ⟨List.pairwise_append.mpr ⟨h1.1, h2.1, h⟩, fun r hr => (List.mem_append.mp hr).elim (h1.2 r) (h2.2 r)⟩
theorem ord_left {xs ys : List Rn} (h : OrdR (xs ++ ys)) : OrdR xs := ⟨(List.pairwise_append.mp h.1).1, fun r hr => h.2 r (List.mem_append_left _ hr)⟩
theorem ord_right {xs ys : List Rn} (h : OrdR (xs ++ ys)) : OrdR ys := ⟨(List.pairwise_append.mp h.1).2.1, fun r hr => h.2 r (List.mem_append_right _ hr)⟩
theorem ord_amid {xs ys : List Rn} (h : OrdR (xs ++ ys)) : ∀ x ∈ xs, ∀ y ∈ ys, enR x ≤ y.f := (List.pairwise_append.mp h.1).2.2
theorem ord_one {r : Rn} (h : 0 < r.m) : OrdR [r] := ⟨by simp, fun x hx => by rw [List.mem_singleton.mp hx]; exact h⟩
structure Jn (c acc : List Rn) : Prop where
  ord : OrdR acc
  lst : LstR acc
  pg : ∀ p, pm acc p = pm c p
  hd : ∀ b, c.head? = some b → ∃ a, acc.head? = some a ∧ sHd a b
  ls : ∀ b, c.getLast? = some b → ∃ a, acc.getLast? = some a ∧ sLs a b
  lo : ∀ z, (∀ y ∈ c, z ≤ y.f) → ∀ x ∈ acc, z ≤ x.f
  hi : ∀ z, (∀ y ∈ c, enR y ≤ z) → ∀ x ∈ acc, enR x ≤ z
  no : c = [] → acc = []
theorem snoc_of {α : Type} : ∀ {l : List α} {a : α}, l.getLast? = some a → ∃ i, l = i ++ [a]
  | [], _, h => by cases h
  | [x], a, h => ⟨[], by cases h; rfl⟩
  | x :: y :: l, a, h => by
    rw [List.getLast?_cons_cons] at h
    obtain ⟨i, e⟩ := snoc_of h
    exact ⟨x :: i, by rw [e]; rfl⟩
theorem Jn.step {c acc : List Rn} {r : Rn} (J : Jn c acc) (o : OrdR (c ++ [r])) : Jn (c ++ [r]) (jstep acc r) := by
  have hr : 0 < r.m := o.2 r (List.mem_append_right _ List.mem_cons_self)
  have hcr : ∀ y ∈ c, enR y ≤ r.f := fun y hy => ord_amid o y hy r List.mem_cons_self
  rcases hc : c.getLast? with _ | d
  · have : c = [] := List.getLast?_eq_none_iff.mp hc
    subst this
    have := J.no rfl
    subst this
    exact ⟨ord_one hr, True.intro, fun _ => rfl, fun b h => ⟨r, rfl, by cases h; exact ⟨rfl, rfl, rfl⟩⟩, fun b h => ⟨r, rfl, by cases h; exact ⟨rfl, rfl, fun _ => rfl⟩⟩, fun z h => h, fun z h => h, fun h => by cases h⟩
  · obtain ⟨l, hl, sl⟩ := J.ls d hc
    obtain ⟨i, rfl⟩ := snoc_of hl
    have hcne : c ≠ [] := fun e => by rw [e] at hc; cases hc
    have hlr : enR l ≤ r.f := J.hi r.f hcr l (by simp)
    have hil : ∀ x ∈ i, enR x ≤ l.f := fun x hx => ord_amid J.ord x hx l List.mem_cons_self
    have hlm : 0 < l.m := J.ord.2 l (by simp)
    have hhd : ∀ {b : Rn} {x : List Rn}, (c ++ x).head? = some b → c.head? = some b := fun {b x} h => by
      cases c with
      | nil => exact absurd rfl hcne
      | cons y c => exact h
    unfold jstep
    rw [hl]
    show Jn (c ++ [r]) (if go l r = true then (i ++ [l]).dropLast ++ [⟨l.f, l.m + r.m, l.r, l.t⟩] else (i ++ [l]) ++ [r])
    cases g : go l r with
    | true =>
      rw [if_pos rfl, List.dropLast_concat]
      unfold go at g
      simp only [Bool.and_eq_true, decide_eq_true_eq] at g
      obtain ⟨⟨g1, g2⟩, g3⟩ := g
      have etf : ∀ p, tf r p = tf l p := fun p => by
        unfold tf at g3 ⊢
        rw [← g3]
        cases l.t with
        | none => rfl
        | some t => simp; omega
      have etl : ∀ p, tf (⟨l.f, l.m + r.m, l.r, l.t⟩ : Rn) p = tf l p := fun p => rfl
      refine ⟨?_, ?_, ?_, ?_, ?_, ?_, ?_, ?_⟩
      · refine ord_app (ord_left J.ord) (ord_one (by show 0 < l.m + r.m; omega)) fun x hx y hy => ?_
        rw [List.mem_singleton.mp hy]
        exact hil x hx
      · exact lst_same (b := l) ⟨rfl, rfl, rfl⟩ J.lst
      · intro p
        rw [pm_append, pm_append, ← J.pg p, pm_append]
        cases pm i p with
        | some x => rfl
        | none =>
          show (if l.f ≤ p ∧ p < l.f + (l.m + r.m) then some (l.r, tf l p) else none) = ((if l.f ≤ p ∧ p < enR l then some (l.r, tf l p) else none).or (if r.f ≤ p ∧ p < enR r then some (r.r, tf r p) else none))
          unfold enR at *
          by_cases c1 : l.f ≤ p ∧ p < l.f + l.m
          · rw [if_pos c1, if_pos (by omega)]; rfl
          · rw [if_neg c1]
            by_cases c2 : r.f ≤ p ∧ p < r.f + r.m
            · rw [if_pos c2, if_pos (by omega), etf, g2]; rfl
            · rw [if_neg c2, if_neg (by omega)]; rfl
      · intro b hb
        obtain ⟨a, ha, sa⟩ := J.hd b (hhd hb)
        cases i with
        | nil =>
          cases ha
          exact ⟨_, rfl, sa.1, sa.2.1, sa.2.2⟩
        | cons x i => exact ⟨a, ha, sa⟩
      · intro b hb
        rw [List.getLast?_concat] at hb
        cases hb
        exact ⟨⟨l.f, l.m + r.m, l.r, l.t⟩, by rw [List.getLast?_concat], by show l.f + (l.m + r.m) = enR r; unfold enR at *; omega, g2, fun p => (etl p).trans (etf p).symm⟩
      · intro z hz x hx
        have hz' : ∀ y ∈ c, z ≤ y.f := fun y hy => hz y (List.mem_append_left _ hy)
        rcases List.mem_append.mp hx with hx | hx
        · exact J.lo z hz' x (List.mem_append_left _ hx)
        · rw [List.mem_singleton.mp hx]; exact J.lo z hz' l (by simp)
      · intro z hz x hx
        have hz' : ∀ y ∈ c, enR y ≤ z := fun y hy => hz y (List.mem_append_left _ hy)
        rcases List.mem_append.mp hx with hx | hx
        · exact J.hi z hz' x (List.mem_append_left _ hx)
        · rw [List.mem_singleton.mp hx]
          have := hz r (by simp)
          show l.f + (l.m + r.m) ≤ z
          unfold enR at *
          omega
      · intro h; simp at h
    | false =>
      rw [if_neg Bool.false_ne_true]
      refine ⟨?_, ?_, ?_, ?_, ?_, ?_, ?_, ?_⟩
      · refine ord_app J.ord (ord_one hr) fun x hx y hy => ?_
        rw [List.mem_singleton.mp hy]
        exact J.hi r.f hcr x hx
      · refine lst_app J.lst True.intro fun a b ha hb => ?_
        rw [List.getLast?_concat] at ha
        cases ha; cases hb; exact g
      · intro p
        rw [pm_append, pm_append (rs := c), J.pg p]
      · intro b hb
        obtain ⟨a, ha, sa⟩ := J.hd b (hhd hb)
        refine ⟨a, ?_, sa⟩
        rw [List.head?_append, ha]; rfl
      · intro b hb
        rw [List.getLast?_concat] at hb
        cases hb
        exact ⟨_, by rw [List.getLast?_concat], rfl, rfl, fun _ => rfl⟩
      · intro z hz x hx
        rcases List.mem_append.mp hx with hx | hx
        · exact J.lo z (fun y hy => hz y (List.mem_append_left _ hy)) x hx
        · exact hz x (List.mem_append_right _ hx)
      · intro z hz x hx
        rcases List.mem_append.mp hx with hx | hx
        · exact J.hi z (fun y hy => hz y (List.mem_append_left _ hy)) x hx
        · exact hz x (List.mem_append_right _ hx)
      · intro h; simp at h
theorem Jn.fold : ∀ {rs c acc : List Rn}, Jn c acc → OrdR (c ++ rs) → Jn (c ++ rs) (rs.foldl jstep acc)
  | [], c, acc, J, _ => by rw [List.append_nil]; exact J
  | r :: rs, c, acc, J, o => by
    have e : c ++ r :: rs = (c ++ [r]) ++ rs := by simp
    rw [e] at o ⊢
    exact Jn.fold (J.step (ord_left o)) o
theorem jn_ok {rs : List Rn} (o : OrdR rs) : Jn rs (jn rs) := by
  have := Jn.fold (rs := rs) (c := []) (acc := []) ⟨⟨by simp, fun _ h => by simp at h⟩, True.intro, fun _ => rfl, fun _ h => by simp at h, fun _ h => by simp at h, fun _ _ _ h => by simp at h, fun _ _ _ h => by simp at h, fun _ => rfl⟩ o
  exact this

theorem pb_part {rs : List Rn} (o : OrdR rs) (p : Int) : ∃ A R, rs = A ++ R ∧ pb rs p = A.length ∧ (∀ x ∈ A, enR x ≤ p) ∧ (∀ x ∈ R, p < enR x) := by
  refine ⟨rs.takeWhile fun r => decide (enR r ≤ p), rs.dropWhile fun r => decide (enR r ≤ p), (List.takeWhile_append_dropWhile).symm, rfl, fun x hx => ?_, fun x hx => ?_⟩
  · induction rs with
    | nil => cases hx
    | cons y rs ih =>
      rw [List.takeWhile_cons] at hx
      by_cases c : enR y ≤ p
      · rw [decide_eq_true c] at hx
        simp only [if_true] at hx
        rcases List.mem_cons.mp hx with rfl | hx
        · exact c
        · exact ih o.tail hx
      · rw [decide_eq_false c] at hx
        simp at hx
  · induction rs with
    | nil => cases hx
    | cons y rs ih =>
      rw [List.dropWhile_cons] at hx
      by_cases c : enR y ≤ p
      · rw [decide_eq_true c] at hx
        simp only [if_true] at hx
        exact ih o.tail hx
      · rw [decide_eq_false c] at hx
        simp only [Bool.false_eq_true, if_false] at hx
        rcases List.mem_cons.mp hx with rfl | hx
        · omega
        · have h1 := o.head x hx
          have h2 := o.2 x (List.mem_cons_of_mem _ hx)
          unfold enR at *
          omega
theorem pb_two {rs : List Rn} (o : OrdR rs) {p q : Int} (h : p ≤ q) : ∃ A M R, rs = A ++ M ++ R ∧ pb rs p = A.length ∧ pb rs q = A.length + M.length ∧ (∀ x ∈ A, enR x ≤ p) ∧ (∀ x ∈ M, p < enR x ∧ enR x ≤ q) ∧ (∀ x ∈ R, q < enR x) := by
  obtain ⟨A, R1, e1, h1, h2, h3⟩ := pb_part o p
  obtain ⟨M, R, e2, h4, h5, h6⟩ := pb_part (rs := R1) (by rw [e1] at o; exact ord_right o) q
  refine ⟨A, M, R, by rw [e1, e2, List.append_assoc], h1, ?_, h2, fun x hx => ⟨h3 x (by rw [e2]; exact List.mem_append_left _ hx), h5 x hx⟩, h6⟩
  have : pb rs q = A.length + pb R1 q := by
    rw [e1]
    clear e1 h1 e2 h4 o
    induction A with
    | nil => simp
    | cons y A ih =>
      have hy := h2 y List.mem_cons_self
      unfold pb at *
      rw [List.cons_append, List.takeWhile_cons, decide_eq_true (by omega)]
      simp only [if_true, List.length_cons]
      rw [ih fun x hx => h2 x (List.mem_cons_of_mem _ hx)]
      omega
  rw [this, h4]
theorem cut_is {A M R : List Rn} {n m : Nat} (hn : n = A.length) (hm : m = A.length + M.length + 1) : cutR (A ++ M ++ R) n m = M ++ R.take 1 := by
  unfold cutR
  rw [hn, hm, List.append_assoc, List.take_append, List.take_of_length_le (by omega), List.drop_append, List.drop_length, Nat.sub_self, List.drop_zero, List.nil_append,
    List.take_append, List.take_of_length_le (by omega)]
  congr 2
  omega
theorem drop_is {A M R : List Rn} {m : Nat} (hm : m = A.length + M.length + 1) : (A ++ M ++ R).drop m = R.drop 1 := by
  rw [hm, ← List.length_append, List.drop_append, List.drop_eq_nil_of_le (by omega), List.nil_append]
  congr 1
  omega
theorem po_ahead {r : Rn} {a : Int} (h1 : a ≤ enR r) : poR r r.f a = ⟨r.f, a - r.f, r.r, r.t⟩ := by
  unfold poR
  rw [Int.max_self, Int.min_eq_right h1, tf_at]
theorem pm_ahead {a p : Int} : ∀ {N : List Rn}, (∀ x ∈ N, a ≤ enR x) → pm ((N.filter fun r => decide (r.f < a)).map fun r => poR r r.f a) p = if p < a then pm N p else none
  | [], _ => by simp [pm]
  | x :: N, h => by
    have ih := pm_ahead (p := p) (N := N) fun y hy => h y (List.mem_cons_of_mem _ hy)
    have hx := h x List.mem_cons_self
    rw [List.filter_cons]
    by_cases c : x.f < a
    · rw [decide_eq_true c]
      simp only [if_true, List.map_cons]
      rw [po_ahead hx]
      show (if x.f ≤ p ∧ p < x.f + (a - x.f) then some (x.r, tf ⟨x.f, a - x.f, x.r, x.t⟩ p) else pm _ p) = if p < a then (if x.f ≤ p ∧ p < enR x then some (x.r, tf x p) else pm N p) else none
      rw [ih]
      have et : tf ⟨x.f, a - x.f, x.r, x.t⟩ p = tf x p := rfl
      rw [et]
      by_cases c2 : p < a
      · rw [if_pos c2, if_pos c2]
        by_cases c3 : x.f ≤ p
        · rw [if_pos (by omega), if_pos (by omega)]
        · rw [if_neg (by omega), if_neg (by omega)]
      · rw [if_neg c2, if_neg c2, if_neg (by omega)]
    · rw [decide_eq_false c]
      simp only [Bool.false_eq_true, if_false]
      rw [ih]
      show _ = if p < a then (if x.f ≤ p ∧ p < enR x then some (x.r, tf x p) else pm N p) else none
      by_cases c2 : p < a
      · rw [if_pos c2, if_pos c2, if_neg (by omega)]
      · rw [if_neg c2, if_neg c2]
theorem pm_behind {e p : Int} : ∀ {N : List Rn}, pm ((N.filter fun r => decide (enR r > e)).map fun r => poR r e (enR r)) p = if e ≤ p then pm N p else none
  | [] => by simp [pm]
  | x :: N => by
    have ih := pm_behind (e := e) (p := p) (N := N)
    rw [List.filter_cons]
    by_cases c : enR x > e
    · rw [decide_eq_true c]
      simp only [if_true, List.map_cons]
      show (if max x.f e ≤ p ∧ p < max x.f e + (min (enR x) (enR x) - max x.f e) then some (x.r, tf ⟨_, _, _, tf x (max x.f e)⟩ p) else pm _ p) = if e ≤ p then (if x.f ≤ p ∧ p < enR x then some (x.r, tf x p) else pm N p) else none
      rw [ih, tf_shift, Int.min_self]
      by_cases c2 : e ≤ p
      · rw [if_pos c2, if_pos c2]
        by_cases c3 : x.f ≤ p ∧ p < enR x
        · rw [if_pos c3, if_pos (by omega)]
        · rw [if_neg c3, if_neg (by omega)]
      · rw [if_neg c2, if_neg c2, if_neg (by omega)]
    · rw [decide_eq_false c]
      simp only [Bool.false_eq_true, if_false]
      rw [ih]
      show _ = if e ≤ p then (if x.f ≤ p ∧ p < enR x then some (x.r, tf x p) else pm N p) else none
      by_cases c2 : e ≤ p
      · rw [if_pos c2, if_pos c2, if_neg (by omega)]
      · rw [if_neg c2, if_neg c2]
theorem ord_map {N : List Rn} {q : Rn → Bool} {g : Rn → Rn} (o : OrdR N) (h1 : ∀ x ∈ N, q x = true → 0 < (g x).m) (h2 : ∀ x ∈ N, ∀ y ∈ N, q x = true → q y = true → enR x ≤ y.f → enR (g x) ≤ (g y).f) : OrdR ((N.filter q).map g) := by
  refine ⟨?_, fun r hr => ?_⟩
  · rw [List.pairwise_map]
    have h3 : ((N.filter q)).Pairwise fun a b => enR a ≤ b.f := o.1.filter q
    refine List.Pairwise.imp_of_mem (fun {x y} hx hy h => ?_) h3
    have hx := List.mem_filter.mp hx
    have hy := List.mem_filter.mp hy
    exact h2 x hx.1 y hy.1 hx.2 hy.2 h
  · obtain ⟨x, hx, rfl⟩ := List.mem_map.mp hr
    have hx := List.mem_filter.mp hx
    exact h1 x hx.1 hx.2
theorem lay_ok {rs parts : List Rn} {a n : Int} (o : OrdR rs) (l : LstR rs) (hn : 0 < n) (op : OrdR parts) (hb : ∀ x ∈ parts, a ≤ x.f ∧ enR x ≤ a + n) :
    OrdR (layR rs a n parts) ∧ LstR (layR rs a n parts) ∧ ∀ p, pm (layR rs a n parts) p = if a ≤ p ∧ p < a + n then pm parts p else pm rs p := by
  obtain ⟨A, M, R, e, h1, h2, hA, hM, hR⟩ := pb_two o (p := a - 1) (q := a + n) (by omega)
  have eN : cutR rs (pb rs (a - 1)) (pb rs (a + n) + 1) = M ++ R.take 1 := by rw [h1, h2]; conv => lhs; rw [e]
                                                                              exact cut_is rfl rfl
  have eB : rs.drop (pb rs (a + n) + 1) = R.drop 1 := by rw [h2]; conv => lhs; rw [e]
                                                         exact drop_is rfl
  have eA : rs.take (pb rs (a - 1)) = A := by rw [h1]; conv => lhs; rw [e, List.append_assoc, List.take_left]
  unfold layR
  simp only []
  rw [eN, eB, eA]
  have hRs : R = R.take 1 ++ R.drop 1 := (List.take_append_drop 1 R).symm
  have o3 : OrdR (A ++ ((M ++ R.take 1) ++ R.drop 1)) := by rw [List.append_assoc M, ← hRs, ← List.append_assoc, ← e]; exact o
  have l3 : LstR (A ++ ((M ++ R.take 1) ++ R.drop 1)) := by rw [List.append_assoc M, ← hRs, ← List.append_assoc, ← e]; exact l
  have hN : ∀ x ∈ M ++ R.take 1, a ≤ enR x := fun x hx => by
    rcases List.mem_append.mp hx with hx | hx
    · have := hM x hx; omega
    · have := hR x (List.mem_of_mem_take hx); omega
  have hB : ∀ x ∈ R.drop 1, a + n < x.f := fun x hx => by
    cases R with
    | nil => cases hx
    | cons z B =>
      have h4 : enR z ≤ x.f := (ord_right (ord_right o3)) |> fun _ => by
        have h5 := ord_amid (ord_right o3) z (by simp) x hx
        exact h5
      have := hR z List.mem_cons_self
      omega
  have hz : R.drop 1 ≠ [] → ∃ z, (M ++ R.take 1).getLast? = some z ∧ a + n < enR z := fun h => by
    cases R with
    | nil => exact absurd rfl h
    | cons z B => exact ⟨z, by simp, hR z List.mem_cons_self⟩
  have oN : OrdR (M ++ R.take 1) := ord_left (ord_right o3)
  have oB : OrdR (R.drop 1) := ord_right (ord_right o3)
  have oA : OrdR A := ord_left o3
  have ep : ∀ p, pm rs p = (pm A p).or ((pm (M ++ R.take 1) p).or (pm (R.drop 1) p)) := fun p => by
    rw [← pm_append, ← pm_append, List.append_assoc M, ← hRs, ← List.append_assoc, ← e]
  generalize hNN : M ++ R.take 1 = N at *
  generalize R.drop 1 = B at *
  have oa : OrdR ((N.filter fun r => decide (r.f < a)).map fun r => poR r r.f a) := ord_map oN (fun x hx c => by
      have c : x.f < a := by simpa using c
      rw [po_ahead (hN x hx)]; show 0 < a - x.f; omega) fun x hx y hy c1 c2 h => by
    have c2 : y.f < a := by simpa using c2
    have := hN x hx
    omega
  have ob : OrdR ((N.filter fun r => decide (enR r > a + n)).map fun r => poR r (a + n) (enR r)) := ord_map oN (fun x hx c => by
      have c : enR x > a + n := by simpa using c
      have := oN.2 x hx
      show 0 < min (enR x) (enR x) - max x.f (a + n)
      rw [Int.min_self]
      unfold enR at *
      omega) fun x hx y hy c1 c2 h => by
    have c1 : enR x > a + n := by simpa using c1
    have := oN.2 x hx
    show max x.f (a + n) + (min (enR x) (enR x) - max x.f (a + n)) ≤ max y.f (a + n)
    rw [Int.min_self]
    omega
  have ahd : ∀ x ∈ (N.filter fun r => decide (r.f < a)).map fun r => poR r r.f a, enR x = a ∧ ∃ y ∈ N, y.f < a ∧ sHd x y := fun x hx => by
    obtain ⟨y, hy, rfl⟩ := List.mem_map.mp hx
    have hy := List.mem_filter.mp hy
    have c : y.f < a := by simpa using hy.2
    rw [po_ahead (hN y hy.1)]
    exact ⟨by show y.f + (a - y.f) = a; omega, y, hy.1, c, rfl, rfl, rfl⟩
  have bhd : ∀ x ∈ (N.filter fun r => decide (enR r > a + n)).map fun r => poR r (a + n) (enR r), a + n ≤ x.f ∧ ∃ y ∈ N, enR x = enR y := fun x hx => by
    obtain ⟨y, hy, rfl⟩ := List.mem_map.mp hx
    have hy := List.mem_filter.mp hy
    refine ⟨by show a + n ≤ max y.f (a + n); omega, y, hy.1, ?_⟩
    show max y.f (a + n) + (min (enR y) (enR y) - max y.f (a + n)) = enR y
    rw [Int.min_self]; omega
  generalize hAH : (N.filter fun r => decide (r.f < a)).map (fun r => poR r r.f a) = ah at *
  generalize hBH : (N.filter fun r => decide (enR r > a + n)).map (fun r => poR r (a + n) (enR r)) = bh at *
  have oX : OrdR (ah ++ parts ++ bh) := by
    refine ord_app (ord_app oa op fun x hx y hy => ?_) ob fun x hx y hy => ?_
    · have := (ahd x hx).1; have := (hb y hy).1; omega
    · have h4 := (bhd y hy).1
      rcases List.mem_append.mp hx with hx | hx
      · have := (ahd x hx).1; omega
      · have := (hb x hx).2; omega
  have J := jn_ok oX
  have hXB : ∀ x ∈ jn (ah ++ parts ++ bh), ∀ y ∈ B, enR x ≤ y.f := fun x hx y hy => by
    refine J.hi y.f (fun w hw => ?_) x hx
    rcases List.mem_append.mp hw with hw | hw
    · rcases List.mem_append.mp hw with hw | hw
      · have := (ahd w hw).1; have := hB y hy; omega
      · have := (hb w hw).2; have := hB y hy; omega
    · obtain ⟨z, hz1, hz2⟩ := (bhd w hw).2
      rw [hz2]
      exact ord_amid (ord_right o3) z hz1 y hy
  have hAX : ∀ x ∈ A, ∀ y ∈ jn (ah ++ parts ++ bh), enR x ≤ y.f := fun x hx y hy => by
    refine J.lo (enR x) (fun w hw => ?_) y hy
    have hx2 := hA x hx
    rcases List.mem_append.mp hw with hw | hw
    · rcases List.mem_append.mp hw with hw | hw
      · obtain ⟨z, hz1, _, hz2⟩ := (ahd w hw).2
        rw [hz2.1]
        exact ord_amid o3 x hx z (List.mem_append_left _ hz1)
      · have := (hb w hw).1; omega
    · have := (bhd w hw).1; omega
  refine ⟨?_, ?_, ?_⟩
  · refine ord_app (ord_app oA J.ord hAX) oB fun x hx y hy => ?_
    rcases List.mem_append.mp hx with hx | hx
    · exact ord_amid o3 x hx y (List.mem_append_right _ hy)
    · exact hXB x hx y hy
  · have lA : LstR A := lst_left l3
    have lB : LstR B := lst_right (lst_right l3)
    have lAX : LstR (A ++ jn (ah ++ parts ++ bh)) := lst_app lA J.lst fun u v hu hv => by
      cases hX : (ah ++ parts ++ bh).head? with
      | none =>
        have hX := List.head?_eq_none_iff.mp hX
        rw [hX, show jn [] = [] from rfl] at hv
        cases hv
      | some w =>
        obtain ⟨v', hv', sv⟩ := J.hd w hX
        rw [hv] at hv'
        cases hv'
        rw [go_hd sv]
        have hu2 := hA u (List.mem_of_getLast? hu)
        by_cases cw : a ≤ w.f
        · unfold go
          rw [decide_eq_false (by omega)]; rfl
        · cases ah with
          | nil =>
            exfalso
            have hw : w ∈ parts ++ bh := by
              rw [List.nil_append] at hX
              exact List.mem_of_head? hX
            rcases List.mem_append.mp hw with hw | hw
            · exact cw (hb w hw).1
            · have := (bhd w hw).1; omega
          | cons w' ah' =>
            obtain rfl : w' = w := by simpa using hX
            obtain ⟨y, hy, hya, sy⟩ := (ahd w' List.mem_cons_self).2
            rw [go_hd sy]
            refine lst_amid l3 hu ?_
            rw [List.head?_append]
            cases N with
            | nil => cases hy
            | cons y0 N =>
              rcases List.mem_cons.mp hy with rfl | hy
              · rfl
              · have h5 := oN.head y hy
                have h6 := hN y0 List.mem_cons_self
                omega
    refine lst_app lAX lB fun u v hu hv => ?_
    have hBne : B ≠ [] := fun z => by rw [z] at hv; cases hv
    obtain ⟨z, hz1, hz2⟩ := hz hBne
    obtain ⟨N0, rfl⟩ := snoc_of hz1
    have hlast : (ah ++ parts ++ bh).getLast? = some (poR z (a + n) (enR z)) := by
      rw [← hBH, List.filter_append, List.map_append]
      have : ([z].filter fun r => decide (enR r > a + n)) = [z] := by rw [List.filter_cons, decide_eq_true hz2]; rfl
      rw [this, ← List.append_assoc, List.map_cons, List.map_nil, List.getLast?_concat]
    obtain ⟨u', hu', su⟩ := J.ls _ hlast
    have hne : jn (ah ++ parts ++ bh) ≠ [] := fun z => by rw [z] at hu'; cases hu'
    rw [List.getLast?_append, hu'] at hu
    obtain rfl : u' = u := by simpa using hu
    rw [go_ls su]
    have sz : sLs (poR z (a + n) (enR z)) z := by
      refine ⟨?_, rfl, fun p => ?_⟩
      · show max z.f (a + n) + (min (enR z) (enR z) - max z.f (a + n)) = enR z
        rw [Int.min_self]; omega
      · exact tf_shift
    rw [go_ls sz]
    exact lst_amid (lst_right l3) hz1 hv
  · intro p
    rw [pm_append, pm_append, J.pg, pm_append, pm_append, ep p]
    have e1 : pm ah p = if p < a then pm N p else none := by rw [← hAH]; exact pm_ahead hN
    have e2 : pm bh p = if a + n ≤ p then pm N p else none := by rw [← hBH]; exact pm_behind
    rw [e1, e2]
    by_cases c : a ≤ p ∧ p < a + n
    · rw [if_pos c, if_neg (by omega), if_neg (by omega), pm_above (rs := A) fun r hr => by have := hA r hr; omega, pm_below (rs := B) fun r hr => by have := hB r hr; omega]
      cases pm parts p <;> rfl
    · rw [if_neg c, pm_none (rs := parts) fun r hr z => by have := hb r hr; omega]
      by_cases c2 : p < a
      · rw [if_pos c2, if_neg (by omega)]
        cases pm A p <;> cases pm N p <;> rfl
      · rw [if_neg c2, if_pos (by omega)]
        cases pm A p <;> cases pm N p <;> rfl

theorem po_amid {r : Rn} {a e : Int} (h1 : a < enR r) (h2 : r.f < e) (h3 : a < e) (h0 : 0 < r.m) : a ≤ (poR r a e).f ∧ enR (poR r a e) ≤ e ∧ 0 < (poR r a e).m := by
  have e1 : (poR r a e).f = max r.f a := rfl
  have e2 : (poR r a e).m = min (enR r) e - max r.f a := rfl
  have e3 : enR (poR r a e) = max r.f a + (min (enR r) e - max r.f a) := rfl
  rw [e3, e2, e1]
  unfold enR at *
  omega
theorem pm_po {a e p : Int} : ∀ {N : List Rn}, (∀ x ∈ N, 0 < x.m) → pm ((N.filter fun r => decide (r.f < e)).map fun r => poR r a e) p = if a ≤ p ∧ p < e then pm N p else none
  | [], _ => by simp [pm]
  | x :: N, h => by
    have ih := pm_po (a := a) (e := e) (p := p) (N := N) fun y hy => h y (List.mem_cons_of_mem _ hy)
    have hx := h x List.mem_cons_self
    rw [List.filter_cons]
    by_cases c : x.f < e
    · rw [decide_eq_true c]
      simp only [if_true, List.map_cons]
      show (if max x.f a ≤ p ∧ p < max x.f a + (min (enR x) e - max x.f a) then some (x.r, tf ⟨_, _, _, tf x (max x.f a)⟩ p) else pm _ p) = if a ≤ p ∧ p < e then (if x.f ≤ p ∧ p < enR x then some (x.r, tf x p) else pm N p) else none
      rw [ih, tf_shift]
      by_cases c2 : a ≤ p ∧ p < e
      · rw [if_pos c2, if_pos c2]
        by_cases c3 : x.f ≤ p ∧ p < enR x
        · rw [if_pos c3, if_pos (by omega)]
        · rw [if_neg c3, if_neg (by omega)]
      · rw [if_neg c2, if_neg c2, if_neg (by omega)]
    · rw [decide_eq_false c]
      simp only [Bool.false_eq_true, if_false]
      rw [ih]
      show _ = if a ≤ p ∧ p < e then (if x.f ≤ p ∧ p < enR x then some (x.r, tf x p) else pm N p) else none
      by_cases c2 : a ≤ p ∧ p < e
      · rw [if_pos c2, if_pos c2, if_neg (by omega)]
      · rw [if_neg c2, if_neg c2]
theorem pam_ok {rs : List Rn} {a n : Int} (o : OrdR rs) (hn : 0 < n) : OrdR (pam rs a n) ∧ (∀ x ∈ pam rs a n, a ≤ x.f ∧ enR x ≤ a + n) ∧ ∀ p, pm (pam rs a n) p = if a ≤ p ∧ p < a + n then pm rs p else none := by
  obtain ⟨A, M, R, e, h1, h2, hA, hM, hR⟩ := pb_two o (p := a) (q := a + n) (by omega)
  have eN : cutR rs (pb rs a) (pb rs (a + n) + 1) = M ++ R.take 1 := by rw [h1, h2]; conv => lhs; rw [e]
                                                                        exact cut_is rfl rfl
  unfold pam
  rw [eN]
  have hRs : R = R.take 1 ++ R.drop 1 := (List.take_append_drop 1 R).symm
  have o3 : OrdR (A ++ ((M ++ R.take 1) ++ R.drop 1)) := by rw [List.append_assoc M, ← hRs, ← List.append_assoc, ← e]; exact o
  have hN : ∀ x ∈ M ++ R.take 1, a < enR x := fun x hx => by
    rcases List.mem_append.mp hx with hx | hx
    · exact (hM x hx).1
    · have := hR x (List.mem_of_mem_take hx); omega
  have hB : ∀ x ∈ R.drop 1, a + n < x.f := fun x hx => by
    cases R with
    | nil => cases hx
    | cons z B =>
      have h5 := ord_amid (ord_right o3) z (by simp) x hx
      have := hR z List.mem_cons_self
      omega
  have oN : OrdR (M ++ R.take 1) := ord_left (ord_right o3)
  have ep : ∀ p, pm rs p = (pm A p).or ((pm (M ++ R.take 1) p).or (pm (R.drop 1) p)) := fun p => by
    rw [← pm_append, ← pm_append, List.append_assoc M, ← hRs, ← List.append_assoc, ← e]
  generalize M ++ R.take 1 = N at *
  generalize R.drop 1 = B at *
  refine ⟨ord_map oN (fun x hx c => ?_) (fun x hx y hy c1 c2 h => ?_), fun x hx => ?_, fun p => ?_⟩
  · exact (po_amid (hN x hx) (by simpa using c) (by omega) (oN.2 x hx)).2.2
  · show max x.f a + (min (enR x) (a + n) - max x.f a) ≤ max y.f a
    omega
  · obtain ⟨y, hy, rfl⟩ := List.mem_map.mp hx
    have hy := List.mem_filter.mp hy
    have := po_amid (hN y hy.1) (by simpa using hy.2) (show a < a + n by omega) (oN.2 y hy.1)
    exact ⟨this.1, this.2.1⟩
  · rw [pm_po fun x hx => oN.2 x hx, ep p]
    by_cases c : a ≤ p ∧ p < a + n
    · rw [if_pos c, if_pos c, pm_above (rs := A) fun r hr => by have := hA r hr; omega, pm_below (rs := B) fun r hr => by have := hB r hr; omega]
      cases pm N p <;> rfl
    · rw [if_neg c, if_neg c]
theorem sum_le : ∀ {L : List Rn} {a e : Int}, OrdR L → a ≤ e → (∀ x ∈ L, a ≤ x.f ∧ enR x ≤ e) → 0 ≤ (L.map (·.m)).sum ∧ (L.map (·.m)).sum ≤ e - a ∧ ((L.map (·.m)).sum = e - a ↔ ∀ p, a ≤ p → p < e → pm L p ≠ none)
  | [], a, e, _, h, _ => by
    refine ⟨by simp, by simp; omega, ?_⟩
    constructor
    · intro h1 p h2 h3
      simp at h1
      omega
    · intro h1
      simp
      rcases (by omega : a < e ∨ e ≤ a) with h2 | h2
      · exact absurd rfl (h1 a (Int.le_refl _) h2)
      · omega
  | x :: L, a, e, o, h, hb => by
    have hx := hb x List.mem_cons_self
    have pos := o.2 x List.mem_cons_self
    have ih := sum_le (L := L) (a := enR x) (e := e) o.tail hx.2 fun y hy => ⟨o.head y hy, (hb y (List.mem_cons_of_mem _ hy)).2⟩
    rw [List.map_cons, List.sum_cons]
    have ex : enR x = x.f + x.m := rfl
    refine ⟨by omega, by omega, ?_⟩
    constructor
    · intro h1 p h2 h3
      have h4 : (L.map (·.m)).sum = e - enR x := by omega
      have h5 : x.f = a := by omega
      show (if x.f ≤ p ∧ p < enR x then some (x.r, tf x p) else pm L p) ≠ none
      by_cases c : p < enR x
      · rw [if_pos (by omega)]; exact fun z => by cases z
      · rw [if_neg (by omega)]
        exact ih.2.2.mp h4 p (by omega) h3
    · intro h1
      have h5 : x.f = a := by
        rcases (by omega : a < x.f ∨ x.f ≤ a) with h2 | h2
        · refine absurd (pm_below (p := a) (rs := x :: L) fun r hr => ?_) (h1 a (Int.le_refl _) (by omega))
          rcases List.mem_cons.mp hr with rfl | hr
          · exact h2
          · have := o.head r hr; omega
        · omega
      have h4 := ih.2.2.mpr fun p h2 h3 => by
        have := h1 p (by omega) h3
        intro z
        apply this
        show (if x.f ≤ p ∧ p < enR x then some (x.r, tf x p) else pm L p) = none
        rw [if_neg (by omega)]; exact z
      omega
theorem full_iff {rs : List Rn} {a n : Int} (o : OrdR rs) (hn : 0 < n) : ((pam rs a n).map (·.m)).sum = n ↔ ∀ p, a ≤ p → p < a + n → pm rs p ≠ none := by
  obtain ⟨h1, h2, h3⟩ := pam_ok (a := a) o hn
  have := (sum_le h1 (show a ≤ a + n by omega) h2).2.2
  rw [show a + n - a = n by omega] at this
  rw [this]
  refine ⟨fun h p x y => ?_, fun h p x y => ?_⟩
  · have := h p x y; rw [h3, if_pos ⟨x, y⟩] at this; exact this
  · rw [h3, if_pos ⟨x, y⟩]; exact h p x y
theorem free_iff {rs : List Rn} {a n : Int} (o : OrdR rs) (hn : 0 < n) : pam rs a n = [] ↔ ∀ p, a ≤ p → p < a + n → pm rs p = none := by
  obtain ⟨h1, h2, h3⟩ := pam_ok (a := a) o hn
  refine ⟨fun h p x y => ?_, fun h => ?_⟩
  · have := h3 p
    rw [h, if_pos ⟨x, y⟩] at this
    exact this.symm
  · cases e : pam rs a n with
    | nil => rfl
    | cons z L =>
      rw [e] at h1 h2 h3
      have hz := h2 z List.mem_cons_self
      have hp := h1.2 z List.mem_cons_self
      have ez : enR z = z.f + z.m := rfl
      have h4 := pm_mem h1 (p := z.f) List.mem_cons_self (Int.le_refl _) (by omega)
      rw [h3, if_pos (by omega), h z.f hz.1 (by omega)] at h4
      cases h4
theorem at_page {rs : List Rn} {p : Int} (o : OrdR rs) : (pam rs p 1 = [] ∧ pm rs p = none) ∨ ∃ x, pam rs p 1 = [x] ∧ pm rs p = some (x.r, x.t) := by
  obtain ⟨h1, h2, h3⟩ := pam_ok (a := p) o (show (0 : Int) < 1 by decide)
  cases e : pam rs p 1 with
  | nil =>
    refine .inl ⟨rfl, ?_⟩
    have := h3 p
    rw [e, if_pos (by omega)] at this
    exact this.symm
  | cons x L =>
    rw [e] at h1 h2 h3
    have hx := h2 x List.mem_cons_self
    have px := h1.2 x List.mem_cons_self
    have ex : enR x = x.f + x.m := rfl
    have hL : L = [] := by
      cases L with
      | nil => rfl
      | cons y L =>
        have h4 := h1.head y List.mem_cons_self
        have h5 := h2 y (by simp)
        have h6 := h1.2 y (by simp)
        have ey : enR y = y.f + y.m := rfl
        omega
    subst hL
    refine .inr ⟨x, rfl, ?_⟩
    have := h3 p
    rw [if_pos (by omega)] at this
    rw [← this]
    have hf : x.f = p := by omega
    show (if x.f ≤ p ∧ p < enR x then some (x.r, tf x p) else none) = _
    rw [if_pos (by omega), ← hf, tf_at]
theorem pm_rights {q : Int} : ∀ {L : List Rn} {p : Int}, pm (L.map fun x => (⟨x.f, x.m, q, x.t⟩ : Rn)) p = (pm L p).map fun y => (q, y.2)
  | [], _ => rfl
  | x :: L, p => by
    show (if x.f ≤ p ∧ p < enR x then some (q, tf ⟨x.f, x.m, q, x.t⟩ p) else pm _ p) = (if x.f ≤ p ∧ p < enR x then some (x.r, tf x p) else pm L p).map _
    have e : tf ⟨x.f, x.m, q, x.t⟩ p = tf x p := rfl
    rw [e, pm_rights (L := L)]
    by_cases c : x.f ≤ p ∧ p < enR x
    · rw [if_pos c, if_pos c]; rfl
    · rw [if_neg c, if_neg c]
theorem ord_rights {q : Int} {L : List Rn} (o : OrdR L) : OrdR (L.map fun x => (⟨x.f, x.m, q, x.t⟩ : Rn)) := by
  refine ⟨?_, fun r hr => ?_⟩
  · rw [List.pairwise_map]; exact o.1
  · obtain ⟨x, hx, rfl⟩ := List.mem_map.mp hr
    exact o.2 x hx
theorem pb_le {rs : List Rn} {p : Int} : pb rs p ≤ rs.length := by unfold pb; exact (List.takeWhile_prefix _).length_le
theorem pb_at {rs : List Rn} (o : OrdR rs) {p : Int} {i : Nat} {x : Rn} (h : rs[i]? = some x) : i < pb rs p ↔ enR x ≤ p := by
  obtain ⟨A, R, e, h1, h2, h3⟩ := pb_part o p
  rw [h1]
  rw [e] at h
  constructor
  · intro hi
    rw [List.getElem?_append_left hi] at h
    exact h2 x (List.mem_of_getElem? h)
  · intro hx
    rcases Nat.lt_or_ge i A.length with hi | hi
    · exact hi
    · rw [List.getElem?_append_right hi] at h
      have := h3 x (List.mem_of_getElem? h)
      omega

def TieAt (H : Hp) (v : V) : Option (Int × Int) → Prop
  | none => v = .non
  | some (b, k) => ∃ a, v = .ref a ∧ H a = some (.tup [.int b, .int k])
def RunAt (H : Hp) (v : V) (r : Rn) : Prop := ∃ a tv, v = .ref a ∧ H a = some (.tup [.int r.f, .int r.m, .int r.r, tv]) ∧ TieAt H tv r.t
theorem TieAt.same {H H' : Hp} {v : V} : ∀ {t : Option (Int × Int)}, TieAt H v t → Same H H' → TieAt H' v t
  | none, h, _ => h
  | some (b, k), ⟨a, e, h⟩, s => ⟨a, e, s _ _ h⟩
theorem RunAt.same {H H' : Hp} {v : V} {r : Rn} (h : RunAt H v r) (s : Same H H') : RunAt H' v r := let ⟨a, tv, e, h1, h2⟩ := h; ⟨a, tv, e, s _ _ h1, h2.same s⟩
theorem TieAt.same2 {H H' : Hp} {a : Addr} {xs : List V} {o : HO} {v : V} (hx : H' a = some (.lst xs)) : ∀ {t : Option (Int × Int)}, TieAt H' v t → TieAt (upd H' a o) v t
  | none, h => h
  | some (b, k), ⟨c, e, h⟩ => ⟨c, e, by rw [upd_ne (ne_of h hx fun z => nomatch z)]; exact h⟩
theorem RunAt.same2 {H H' : Hp} {a : Addr} {xs : List V} {o : HO} {v : V} {r : Rn} (h : RunAt H' v r) (hx : H' a = some (.lst xs)) (_ : Same H H') : RunAt (upd H' a o) v r :=
  let ⟨c, tv, e, h1, h2⟩ := h
  ⟨c, tv, e, by rw [upd_ne (ne_of h1 hx fun z => nomatch z)]; exact h1, TieAt.same2 (H := H) hx h2⟩
abbrev RunsAt (H : Hp) : List V → List Rn → Prop := Paired (RunAt H)
theorem RunsAt.same {H H' : Hp} {vs : List V} {rs : List Rn} (h : RunsAt H vs rs) (s : Same H H') : RunsAt H' vs rs := Paired.mapP h fun _ _ q => q.same s
theorem RunsAt.same2 {H H' : Hp} {a : Addr} {xs : List V} {o : HO} {vs : List V} {rs : List Rn} (h : RunsAt H' vs rs) (hx : H' a = some (.lst xs)) (s : Same H H') : RunsAt (upd H' a o) vs rs := Paired.mapP h fun _ _ q => q.same2 hx s
theorem prd_get {α β : Type} {F : α → β → Prop} : ∀ {xs : List α} {ys : List β} {i : Nat} {x : α}, Paired F xs ys → xs[i]? = some x → ∃ y, ys[i]? = some y ∧ F x y
  | _, _, _, _, .nil, e => by simp at e
  | _, _, 0, _, .cons r _, e => by simp at e; subst e; exact ⟨_, rfl, r⟩
  | _, _, i + 1, x, .cons _ t, e => by
    obtain ⟨u, h1, h2⟩ := prd_get (i := i) (x := x) t (by simpa using e)
    exact ⟨u, by simpa using h1, h2⟩
theorem prd_app {α β : Type} {F : α → β → Prop} : ∀ {xs : List α} {ys : List β} {zs : List α} {ws : List β}, Paired F xs ys → Paired F zs ws → Paired F (xs ++ zs) (ys ++ ws)
  | _, _, _, _, .nil, h => h
  | _, _, _, _, .cons r t, h => .cons r (prd_app t h)
theorem prd_take {α β : Type} {F : α → β → Prop} : ∀ {xs : List α} {ys : List β} (n : Nat), Paired F xs ys → Paired F (xs.take n) (ys.take n)
  | _, _, 0, _ => .nil
  | _, _, _ + 1, .nil => .nil
  | _, _, n + 1, .cons r t => .cons r (prd_take n t)
theorem prd_drop {α β : Type} {F : α → β → Prop} : ∀ {xs : List α} {ys : List β} (n : Nat), Paired F xs ys → Paired F (xs.drop n) (ys.drop n)
  | _, _, 0, h => h
  | _, _, _ + 1, .nil => .nil
  | _, _, n + 1, .cons _ t => prd_drop n t

def sp_end_of (K : PySem.W.Frag) : Sp := fun vs H Q _ => ∃ v r, vs = [v] ∧ RunAt H v r ∧ Q (.int (enR r)) H
theorem h_end_of (T : Txt K mg A) : Have P w K mg base "end_of" 1 ["run"] [] (sp_end_of K) := by
  refine T.r_end_of.have sc_end_of (fun vs H Q E z => ?_) ?_
  · obtain ⟨v, r, rfl, _⟩ := z; rfl
  · intro f cdv A' outer s H vs Q E hr z
    obtain ⟨v, r, rfl, ⟨a, tv, rfl, ha, ht⟩, q⟩ := z
    refine ⟨_, (pss_one (ps_ret (pe_op op_add (pe_ix ix_tup (pvM 0) pe_int (fun _ _ => rfl)) (pe_ix ix_tup (pvM 0) pe_int (fun _ _ => rfl))))), ?_⟩
    walk_at "wp"
    exact ⟨_, SqT.of ha, _, rfl, _, SqT.of ha, _, rfl, _, rfl, _, rfl, q⟩
def sp_tie_from (K : PySem.W.Frag) : Sp := fun vs H Q _ => ∃ v r p, vs = [v, .int p] ∧ RunAt H v r ∧ ∀ u H', Same H H' → TieAt H' u (tf r p) → Q u H'
theorem h_tie_from (T : Txt K mg A) : Have P w K mg base "tie_from" 1 ["run", "page"] [] (sp_tie_from K) := by
  refine T.r_tie_from.have sc_tie_from (fun vs H Q E z => ?_) ?_
  · obtain ⟨v, r, p, rfl, _⟩ := z; rfl
  · intro f cdv A' outer s H vs Q E hr z
    obtain ⟨v, r, p, rfl, ⟨a, tv, rfl, ha, ht⟩, q⟩ := z
    refine ⟨_, (pss_cons (ps_set (i := 2) sc_tie_from.nd rfl (Or.inl rfl) (pe_ix ix_tup (pvM 0) pe_int (fun _ _ => rfl)))
      (pss_cons (ps_if (pt_cmpR op_isN (pvM 2) pe_non (nomark _)) (pss_one (ps_ret pe_non)) pss_nil)
      (pss_one (ps_ret (pe_tup (pa_cons (pe_ix ix_tup (pvM 2) pe_int (fun _ _ => rfl)) (pa_cons (pe_op op_sub (pe_op op_add (pe_ix ix_tup (pvM 2) pe_int (fun _ _ => rfl)) (pvM 1)) (pe_ix ix_tup (pvM 0) pe_int (fun _ _ => rfl))) pa_nil))))))), ?_⟩
    walk_at "wp"
    refine ⟨_, SqT.of ha, _, rfl, ?_⟩
    cases e : r.t with
    | none =>
      rw [e] at ht
      have ht : tv = .non := ht
      subst ht
      rw [if_pos rfl]
      refine q _ _ same_refl ?_
      unfold tf
      rw [e]
      rfl
    | some t =>
      obtain ⟨b, k⟩ := t
      rw [e] at ht
      obtain ⟨c, rfl, hc⟩ := ht
      rw [if_neg (fun z => nomatch z)]
      walk_at "wp"
      refine ⟨_, SqT.of hc, _, rfl, _, SqT.of hc, _, rfl, _, rfl, _, SqT.of ha, _, rfl, _, rfl, fun p2 hp2 => ?_⟩
      refine q _ _ (same_upd same_refl hp2) ?_
      unfold tf
      rw [e]
      exact ⟨p2, rfl, upd_same⟩
def sp_part_of (K : PySem.W.Frag) : Sp := fun vs H Q _ => ∃ v r lo hi, vs = [v, .int lo, .int hi] ∧ RunAt H v r ∧ ∀ u H', Same H H' → RunAt H' u (poR r lo hi) → Q u H'
theorem h_part_of (T : Txt K mg A) : Have P w K mg base "part_of" 2 ["run", "low", "high"] [] (sp_part_of K) := by
  have H_end_of := h_end_of (P := P) (w := w) (base := base) T
  have H_tie_from := h_tie_from (P := P) (w := w) (base := base) T
  refine T.r_part_of.have sc_part_of (fun vs H Q E z => ?_) ?_
  · obtain ⟨v, r, lo, hi, rfl, _⟩ := z; rfl
  · intro f cdv A' outer s H vs Q E hr z
    obtain ⟨v, r, lo, hi, rfl, hR, q⟩ := z
    obtain ⟨a, tv, rfl, ha, ht⟩ := id hR
    refine ⟨_, (pss_cons (ps_set (i := 3) sc_part_of.nd rfl (Or.inl rfl) (pe_callB (call_max2 rfl) rfl T.b_max PyProof.Rows.boot_max (pa_cons (pe_ix ix_tup (pvM 0) pe_int (fun _ _ => rfl)) (pa_cons (pvM 1) pa_nil))))
      (pss_one (ps_ret (pe_tup (pa_cons (pvM 3) (pa_cons (pe_op op_sub (pe_callB (call_min2 rfl) rfl T.b_min PyProof.Rows.boot_min (pa_cons (pe_callE H_end_of (hr.mono (by decide)) xw_def (pa_cons (pvM 0) pa_nil)) (pa_cons (pvM 2) pa_nil))) (pvM 3)) (pa_cons (pe_ix ix_tup (pvM 0) pe_int (fun _ _ => rfl)) (pa_cons (pe_callE H_tie_from (hr.mono (by decide)) xw_def (pa_cons (pvM 0) (pa_cons (pvM 3) pa_nil))) pa_nil)))))))), ?_⟩
    unfold sp_end_of sp_tie_from
    walk_at "wp"
    refine ⟨_, SqT.of ha, _, rfl, _, rfl, r, hR, _, SqT.of ha, _, rfl, r, hR, fun u H1 s1 hu p hp => ?_⟩
    have e1 : (if lo > r.f then lo else r.f) = max r.f lo := by split <;> omega
    have e2 : (if hi < enR r then hi else enR r) = min (enR r) hi := by split <;> omega
    rw [e1, e2]
    rw [e1] at hu
    refine q _ _ (same_upd s1 hp) ⟨p, u, rfl, upd_same, ?_⟩
    exact hu.same (same_upd same_refl hp)
theorem eq_ties {H : Hp} {u v : V} {t1 t2 : Option (Int × Int)} {Q : VK} (h1 : TieAt H u t1) (h2 : TieAt H v t2) (q : Q (.bl (decide (t1 = t2))) H) : rEqN K 4 u v H Q := by
  cases t1 with
  | none =>
    cases t2 with
    | none => exact .inl ⟨h1, h2, q⟩
    | some t2 =>
      obtain ⟨b, k⟩ := t2
      obtain ⟨a, e, h2⟩ := h2
      exact .inr (.inl ⟨h1, ⟨a, _, e, SqT.of h2⟩, q⟩)
  | some t1 =>
    obtain ⟨b, k⟩ := t1
    obtain ⟨a, e, h1⟩ := h1
    cases t2 with
    | none => exact .inr (.inr (.inl ⟨⟨a, _, e, SqT.of h1⟩, h2, q⟩))
    | some t2 =>
      obtain ⟨b2, k2⟩ := t2
      obtain ⟨a2, e2, h2⟩ := h2
      subst e e2
      refine .inr (.inr (.inr ⟨true, dInts [b, k], dInts [b2, k2], sees_tup (ns := [b, k]) (SqT.of h1), sees_tup (ns := [b2, k2]) (SqT.of h2), alike_ints _ _, by rw [deep_ints]; decide, ?_⟩))
      rw [eq_ints]
      rw [show decide ([b, k] = [b2, k2]) = decide (some (b, k) = some (b2, k2)) from by rw [decide_eq_decide]; simp]
      exact q
def sp_goes_on (K : PySem.W.Frag) : Sp := fun vs H Q _ => ∃ v u r s, vs = [v, u] ∧ RunAt H v r ∧ RunAt H u s ∧ ∀ H', Same H H' → Q (.bl (go r s)) H'
theorem h_goes_on (T : Txt K mg A) : Have P w K mg base "goes_on" 2 ["run", "later"] [] (sp_goes_on K) := by
  have H_end_of := h_end_of (P := P) (w := w) (base := base) T
  have H_tie_from := h_tie_from (P := P) (w := w) (base := base) T
  refine T.r_goes_on.have sc_goes_on (fun vs H Q E z => ?_) ?_
  · obtain ⟨v, u, r, s, rfl, _⟩ := z; rfl
  · intro f cdv A' outer s H vs Q E hr z
    obtain ⟨v, u, r, s', rfl, hR, hS, q⟩ := z
    obtain ⟨a, tv, rfl, ha, ht⟩ := id hR
    obtain ⟨b, uv, rfl, hb, hu⟩ := id hS
    refine ⟨_, (pss_one (ps_ret (pe_and (pe_cmpR op_eq (pe_callE H_end_of (hr.mono (by decide)) xw_def (pa_cons (pvM 0) pa_nil)) (pe_ix ix_tup (pvM 1) pe_int (fun _ _ => rfl)) (nomark _)) (pe_and (pe_cmpR op_eq (pe_ix ix_tup (pvM 0) pe_int (fun _ _ => rfl)) (pe_ix ix_tup (pvM 1) pe_int (fun _ _ => rfl)) (nomark _)) (pe_one (pe_cmpR (op_eqN (n := 4) (hu6 hr)) (pe_callE H_tie_from (hr.mono (by decide)) xw_def (pa_cons (pvM 0) (pa_cons (pe_ix ix_tup (pvM 1) pe_int (fun _ _ => rfl)) pa_nil))) (pe_ix ix_tup (pvM 1) pe_int (fun _ _ => rfl)) (nomark _))))))), ?_⟩
    unfold sp_end_of sp_tie_from
    walk_at "wp"
    refine ⟨r, hR, _, SqT.of hb, .int s'.f, rfl, rfl, ?_⟩
    by_cases c1 : enR r = s'.f
    · rw [if_pos (by rw [c1])]
      refine ⟨_, SqT.of ha, .int r.r, rfl, _, SqT.of hb, .int s'.r, rfl, rfl, ?_⟩
      by_cases c2 : r.r = s'.r
      · rw [if_pos (by rw [c2])]
        refine ⟨_, SqT.of hb, _, rfl, r, _, rfl, hR, fun u H1 s1 hu1 => ⟨_, SqT.of (s1 _ _ hb), uv, rfl, eq_ties hu1 (hu.same s1) ?_⟩⟩
        have e : go r s' = decide (tf r s'.f = s'.t) := by unfold go; rw [decide_eq_true c1, decide_eq_true c2, Bool.true_and, Bool.true_and]
        have := q _ s1
        rw [e] at this
        exact this
      · rw [if_neg (fun z => c2 (V.int.inj z))]
        have e : go r s' = false := by unfold go; rw [decide_eq_false c2, Bool.and_false, Bool.false_and]
        have := q _ same_refl
        rw [e] at this
        exact this
    · rw [if_neg (fun z => c1 (V.int.inj z))]
      have e : go r s' = false := by unfold go; rw [decide_eq_false c1, Bool.false_and, Bool.false_and]
      have := q _ same_refl
      rw [e] at this
      exact this
theorem prd_snoc {α β : Type} {F : α → β → Prop} {y : β} : ∀ {ys : List β} {xs : List α}, Paired F xs (ys ++ [y]) → ∃ zs z, xs = zs ++ [z] ∧ Paired F zs ys ∧ F z y
  | [], _, .cons r .nil => ⟨[], _, rfl, .nil, r⟩
  | _ :: _, _, .cons r t => by
    obtain ⟨zs, z, e, h1, h2⟩ := prd_snoc t
    exact ⟨_ :: zs, z, by rw [e]; rfl, .cons r h1, h2⟩
theorem jn_len : ∀ (l acc : List Rn), (l.foldl jstep acc).length ≤ acc.length + l.length
  | [], acc => Nat.le_refl _
  | r :: l, acc => by
    rw [List.foldl_cons]
    refine Nat.le_trans (jn_len l _) ?_
    have : (jstep acc r).length ≤ acc.length + 1 := by
      unfold jstep
      cases h : acc.getLast? with
      | none => simp
      | some x =>
        simp only
        split
        · rw [List.length_append, List.length_dropLast, List.length_singleton]
          cases acc with
          | nil => cases h
          | cons a acc => simp
        · simp
    rw [List.length_cons]
    omega
theorem jstep_no {acc : List Rn} {l r : Rn} (h : go l r = false) : jstep (acc ++ [l]) r = acc ++ [l] ++ [r] := by
  unfold jstep
  rw [List.getLast?_concat]
  show (if go l r = true then _ else _) = _
  rw [h]; rfl
theorem jstep_yes {acc : List Rn} {l r : Rn} (h : go l r = true) : jstep (acc ++ [l]) r = acc ++ [⟨l.f, l.m + r.m, l.r, l.t⟩] := by
  unfold jstep
  rw [List.getLast?_concat]
  show (if go l r = true then _ else _) = _
  rw [if_pos h, List.dropLast_concat]
def sp_joined (K : PySem.W.Frag) : Sp := fun vs H Q _ => ∃ (a : Addr) (ws : List V) (rs : List Rn), vs = [.ref a] ∧ SqL K H a ws ∧ RunsAt H ws rs ∧ rs.length ≤ 1000000 ∧ ∀ t us H', Same H H' → H t = none → H' t = some (.lst us) → RunsAt H' us (jn rs) → Q (.ref t) H'
theorem h_joined (T : Txt K mg A) : Have P w K mg base "joined" 3 ["runs"] [] (sp_joined K) := by
  have H_goes_on := h_goes_on (P := P) (w := w) (base := base) T
  refine T.r_joined.have sc_joined (fun vs H Q E z => ?_) ?_
  · obtain ⟨a, ws, rs, rfl, _⟩ := z; rfl
  · intro f cdv A' outer s H vs Q E hr z
    obtain ⟨a, ws, rs, rfl, ha, hR, hlen, q⟩ := z
    refine ⟨_, (pss_cons (ps_set (i := 1) sc_joined.nd rfl (Or.inl rfl) (pe_lst pa_nil))
      (pss_cons (ps_forE PassesOwn.leaving rfl (pi_list (pvM 0)) (pg_name (i := 2) sc_joined.nd rfl (Or.inl rfl)) (pss_one (ps_if (PW.pt (pw_and (pt_cmpR op_gt (pe_callB call_len rfl T.b_len PySem.boot_len (pa_cons (pvM 1) pa_nil)) pe_int (nomark _)) (pw_and1 (pt_val (pe_callE H_goes_on (hr.mono (by decide)) xw_def (pa_cons (pe_ix ix_list (pvM 1) (pe_un op_neg pe_int) (fun _ _ => rfl)) (pa_cons (pvM 2) pa_nil))))))) (pss_cons (ps_set (i := 3) sc_joined.nd rfl (Or.inl rfl) (pe_bm0 PySem.F.plainAttrs_list PySem.F.slot_list_pop PySem.F.type_list_pop mt_pop (pvM 1)))
      (pss_one (ps_expr (pe_bm PySem.F.plainAttrs_list PySem.F.slot_list_append PySem.F.type_list_append mt_append (pvM 1) (pa_cons (pe_tup (pa_cons (pe_ix ix_tup (pvM 3) pe_int (fun _ _ => rfl)) (pa_cons (pe_op op_add (pe_ix ix_tup (pvM 3) pe_int (fun _ _ => rfl)) (pe_ix ix_tup (pvM 2) pe_int (fun _ _ => rfl))) (pa_cons (pe_ix ix_tup (pvM 3) pe_int (fun _ _ => rfl)) (pa_cons (pe_ix ix_tup (pvM 3) pe_int (fun _ _ => rfl)) pa_nil))))) pa_nil))))) (pss_one (ps_expr (pe_bm PySem.F.plainAttrs_list PySem.F.slot_list_append PySem.F.type_list_append mt_append (pvM 1) (pa_cons (pvM 2) pa_nil)))))))
      (pss_one (ps_ret (pvM 1))))), ?_⟩
    unfold sp_goes_on
    walk_at "wp"
    intro t ht
    have sm0 := same_upd (o := .lst []) same_refl ht
    have hwl : ws.length = rs.length := Paired.length hR
    refine ⟨⟨_, sm0.seq ha⟩, loop_list (xs := ws) (fun i σ H' => ∃ us v2 v3, σ = [some (.ref a), some (.ref t), v2, v3] ∧ Same H H' ∧ H' t = some (.lst us) ∧ RunsAt H' us ((rs.take i).foldl jstep [])) ⟨[], _, _, rfl, sm0, upd_same, .nil⟩ (fun i σ H' _ ⟨_, _, _, _, e, _⟩ => e.seq ha) (fun i x σ H' hi => ?_) (fun σ H' => ?_)⟩
    · rintro ⟨us, v2, v3, rfl, sm, ht', hU⟩
      obtain ⟨r, hr1, hr2⟩ := prd_get hR hi
      have hrx := hr2.same sm
      have htk : rs.take (i + 1) = rs.take i ++ [r] := by rw [List.take_add_one, hr1]; rfl
      have hul : us.length ≤ i := by
        have h1 := Paired.length hU
        have h2 := jn_len (rs.take i) []
        rw [List.length_take] at h2
        simp only [List.length_nil] at h2
        omega
      have hil : i < rs.length := (List.getElem?_eq_some_iff.mp hr1).1
      rw [htk, List.foldl_append, List.foldl_cons, List.foldl_nil]
      generalize (rs.take i).foldl jstep [] = acc at *
      walk_at "wp"
      refine ⟨us.length, .inl ⟨_, SqL.of ht', rfl⟩, ?_⟩
      rcases hacc : acc.getLast? with _ | l
      · have e0 : acc = [] := List.getLast?_eq_none_iff.mp hacc
        subst e0
        cases hU
        rw [if_neg (show ¬ (0 : Int) < (([] : List V).length : Int) from fun z => absurd z (by decide))]
        refine iteF ⟨.inl ⟨rfl, _, SqL.of ht'⟩, _, ht', by show 0 < 16777216; decide, same_put sm ht, _, rfl, ?_⟩
        exact .cons (hrx.same2 ht' sm) .nil
      · obtain ⟨acc0, rfl⟩ := snoc_of hacc
        obtain ⟨us0, y, rfl, hU0, hy⟩ := prd_snoc hU
        have hpos : (0 : Int) < ((us0 ++ [y]).length : Int) := by rw [List.length_append, List.length_singleton]; omega
        rw [if_pos hpos]
        refine ⟨_, SqL.of ht', y, ?_, l, hy, r, hrx, fun H1 s1 => ?_⟩
        · unfold atI ixN
          rw [if_neg (by decide), if_pos (by rw [List.length_append, List.length_singleton]; omega)]
          show (us0 ++ [y])[(-1 + ((us0 ++ [y]).length : Int)).toNat]? = some y
          rw [List.length_append, List.length_singleton, show (-1 + ((us0.length + 1 : Nat) : Int)).toNat = us0.length by omega, List.getElem?_append_right (Nat.le_refl _), Nat.sub_self]
          rfl
        have ht1 := s1 _ _ ht'
        have sm1 := sm.trans s1
        cases hg : go l r with
        | true =>
          refine iteT ⟨.inl ⟨rfl, _, SqL.of ht1⟩, _, ht1, y, by rw [List.length_append, List.length_singleton, Nat.add_sub_cancel, List.getElem?_append_right (Nat.le_refl _), Nat.sub_self]; rfl, ?_⟩
          rw [List.dropLast_concat]
          have hy2 : RunAt (upd H1 t (.lst us0)) y l := (hy.same s1).same2 ht1 sm1
          have hx2 : RunAt (upd H1 t (.lst us0)) x r := (hrx.same s1).same2 ht1 sm1
          obtain ⟨c, cv, rfl, hc, hcv⟩ := id hy2
          obtain ⟨d, dv, rfl, hd, hdv⟩ := id hx2
          walk_at "wp"
          refine ⟨.inl ⟨rfl, _, SqL.of upd_same⟩, _, SqT.of hc, _, rfl, _, SqT.of hc, _, rfl, _, SqT.of hd, _, rfl, _, rfl, _, rfl, _, SqT.of hc, _, rfl, _, SqT.of hc, _, rfl, fun e he => ?_⟩
          have se := same_upd (o := .tup [V.int l.f, V.int (l.m + r.m), V.int l.r, cv]) same_refl he
          have hte := se _ _ (upd_same (H := H1) (a := t) (o := .lst us0))
          have sme := same_upd (o := .tup [V.int l.f, V.int (l.m + r.m), V.int l.r, cv]) (same_put (o := .lst us0) sm1 ht) he
          refine ⟨us0, hte, by rw [List.length_append, List.length_singleton] at hul; omega, same_put sme ht, _, rfl, ?_⟩
          rw [jstep_yes hg]
          refine prd_app (RunsAt.same2 (RunsAt.same (RunsAt.same2 (RunsAt.same hU0 s1) ht1 sm1) se) hte sme) (.cons ?_ .nil)
          exact RunAt.same2 (⟨e, cv, rfl, upd_same, hcv.same se⟩ : RunAt _ (.ref e) ⟨l.f, l.m + r.m, l.r, l.t⟩) hte sme
        | false =>
          refine iteF ⟨.inl ⟨rfl, _, SqL.of ht1⟩, _, ht1, by rw [List.length_append, List.length_singleton] at *; omega, same_put sm1 ht, _, rfl, ?_⟩
          rw [jstep_no hg]
          exact prd_app (prd_app (RunsAt.same2 (RunsAt.same hU0 s1) ht1 sm1) (.cons ((hy.same s1).same2 ht1 sm1) .nil)) (.cons ((hrx.same s1).same2 ht1 sm1) .nil)
    · rintro ⟨us, v2, v3, rfl, sm, ht', hU⟩
      walk_at "wp"
      rw [hwl, List.take_length] at hU
      exact q _ _ _ sm ht ht' hU

def stF (a : Addr) : List (Str × V) := putF "runs" (.ref a) []
theorem stF_runs {a : Addr} : (stF a).lookup ("runs" : Str) = some (.ref a) := by rfl
theorem stF_no {a : Addr} {m : Str} (h : ¬ m ∈ (["runs"] : List Str)) : (stF a).lookup m = none := by
  simp only [List.mem_cons, List.not_mem_nil, or_false] at h
  unfold stF
  simp only [lookup_putF, h, if_false]
  rfl
def StAt (C : Addr) (H : Hp) (p a : Addr) (rs : List Rn) : Prop := ∃ dx vs, H p = some (.ins C dx (stF a)) ∧ H a = some (.lst vs) ∧ RunsAt H vs rs
theorem StAt.same {C : Addr} {H H' : Hp} {p a : Addr} {rs : List Rn} (h : StAt C H p a rs) (s : Same H H') : StAt C H' p a rs := let ⟨dx, vs, h1, h2, h3⟩ := h; ⟨dx, vs, s _ _ h1, s _ _ h2, RunsAt.same h3 s⟩
def sp_place (K : PySem.W.Frag) (C : Addr) : Sp := fun vs H Q _ => ∃ (p a : Addr) (rs : List Rn) (x : Int), vs = [.ref p, .int x] ∧ StAt C H p a rs ∧ OrdR rs ∧ rs.length ≤ 1000000 ∧ Q (.int (pb rs x)) H
theorem h_place (T : Txt K mg A) : HaveM P w K mg base A.C_Stretches "place_behind" 2 ["self", "page"] [] (sp_place K A.C_Stretches) := by
  have H_end_of := h_end_of (P := P) (w := w) (base := base) T
  refine T.r_Stretches_place_behind.have sc_Stretches_place_behind (fun vs H Q E z => ?_) ?_
  · obtain ⟨p, a, rs, x, rfl, _⟩ := z; rfl
  · intro f cdv A' outer s H vs Q E hr z
    obtain ⟨p, a, rs, x, rfl, ⟨dx, vs, h1, h2, h3⟩, ho, hlen, q⟩ := z
    refine ⟨_, (pss_cons (ps_set (i := 2) sc_Stretches_place_behind.nd rfl (Or.inl rfl) pe_int)
      (pss_cons (ps_set (i := 3) sc_Stretches_place_behind.nd rfl (Or.inl rfl) (pe_callB call_len rfl T.b_len PySem.boot_len (pa_cons (pe_fld (pvM 0) rfl) pa_nil)))
      (pss_cons (ps_whileE PassesOwn.leaving (pt_cmpR op_lt (pvM 2) (pvM 3) (nomark _)) (pss_cons (ps_set (i := 4) sc_Stretches_place_behind.nd rfl (Or.inl rfl) (pe_op op_fdiv (pe_op op_add (pvM 2) (pvM 3)) pe_int))
      (pss_one (ps_if (pt_cmpR op_gt (pe_callE H_end_of (hr.mono (by decide)) xw_def (pa_cons (pe_ix ix_list (pe_fld (pvM 0) rfl) (pvM 4) (fun _ _ => rfl)) pa_nil)) (pvM 1) (nomark _)) (pss_one (ps_set (i := 3) sc_Stretches_place_behind.nd rfl (Or.inl rfl) (pvM 4))) (pss_one (ps_set (i := 2) sc_Stretches_place_behind.nd rfl (Or.inl rfl) (pe_op op_add (pvM 4) pe_int)))))))
      (pss_one (ps_ret (pvM 2)))))), ?_⟩
    have hvl : vs.length = rs.length := Paired.length h3
    unfold sp_end_of
    walk_at "wp"
    simp only [h1]
    walk_at "wp"
    refine ⟨T.cl_Stretches, T.na_Stretches_runs, _, stF_runs, vs.length, .inl ⟨_, SqL.of h2, rfl⟩, ?_⟩
    refine loop_while (fun mm σ H' => ∃ (lo hi : Nat) (v4 : Option V), mm = hi - lo ∧ σ = [some (.ref p), some (.int x), some (.int lo), some (.int hi), v4] ∧ H' = H ∧ lo ≤ pb rs x ∧ pb rs x ≤ hi ∧ hi ≤ rs.length) vs.length ⟨0, vs.length, _, rfl, rfl, rfl, Nat.zero_le _, by rw [hvl]; exact pb_le, by omega⟩ (fun mm σ H' => ?_)
    rintro ⟨lo, hi, v4, rfl, rfl, rfl, k1, k2, k3⟩
    walk_at "wp"
    by_cases c : (lo : Int) < (hi : Int)
    · rw [if_pos c]
      refine turnW ?_
      walk_at "wp"
      have hmid : (lo + hi) / 2 < vs.length := by omega
      obtain ⟨r, hr1, hr2⟩ := prd_get h3 (List.getElem?_eq_getElem hmid)
      have hat := atI_nat (List.getElem?_eq_getElem hmid)
      have em : ((lo : Int) + (hi : Int)) / 2 = (((lo + hi) / 2 : Nat) : Int) := by omega
      have hpb := pb_at ho (p := x) hr1
      rw [em]
      refine ⟨_, dx, _, h1, T.cl_Stretches, T.na_Stretches_runs, _, stF_runs, a, rfl, _, SqL.of h2, _, hat, r, hr2, ?_⟩
      by_cases c2 : x < enR r
      · rw [if_pos c2]
        have : ¬ (lo + hi) / 2 < pb rs x := fun z => by have := hpb.mp z; omega
        refine ⟨(lo + hi) / 2 - lo, by omega, lo, (lo + hi) / 2, ?_⟩
        first
          | exact ⟨rfl, rfl, rfl, k1, by omega, by omega⟩
          | exact ⟨rfl, k1, by omega, by omega⟩
          | (trace_state; exact ⟨rfl, rfl, k1, by omega, by omega⟩)
      · rw [if_neg c2]
        have : (lo + hi) / 2 < pb rs x := hpb.mpr (by omega)
        refine ⟨hi - ((lo + hi) / 2 + 1), by omega, (lo + hi) / 2 + 1, hi, ?_⟩
        first
          | exact ⟨rfl, rfl, rfl, by omega, k2, k3⟩
          | exact ⟨rfl, by omega, k2, k3⟩
          | (trace_state; exact ⟨rfl, by omega, rfl, by omega, k2, k3⟩)
    · rw [if_neg c]
      have e : pb rs x = lo := by omega
      rw [e] at q
      exact q

theorem cutV_nat {xs : List V} {lo hi : Nat} : cutV xs (some (lo : Int)) (some (hi : Int)) = (xs.take hi).drop lo := by
  unfold cutV
  show (xs.drop (if (lo : Int) < 0 then ((lo : Int) + (xs.length : Int)).toNat else min (lo : Int).toNat xs.length)).take ((if (hi : Int) < 0 then ((hi : Int) + (xs.length : Int)).toNat else min (hi : Int).toNat xs.length) - (if (lo : Int) < 0 then ((lo : Int) + (xs.length : Int)).toNat else min (lo : Int).toNat xs.length)) = _
  rw [if_neg (by omega), if_neg (by omega), Int.toNat_natCast, Int.toNat_natCast, List.drop_take]
  refine List.ext_getElem? fun k => ?_
  rw [List.getElem?_take, List.getElem?_take, List.getElem?_drop, List.getElem?_drop]
  by_cases h1 : k < hi - lo
  · rw [if_pos h1]
    by_cases h2 : k < min hi xs.length - min lo xs.length
    · rw [if_pos h2, Nat.min_eq_left (by omega)]
    · rw [if_neg h2, List.getElem?_eq_none_iff.mpr (by omega)]
  · rw [if_neg h1]
    by_cases h2 : k < min hi xs.length - min lo xs.length
    · rw [if_pos h2, List.getElem?_eq_none_iff.mpr (by omega)]
    · rw [if_neg h2]
theorem cutV_to {xs : List V} {hi : Nat} : cutV xs none (some (hi : Int)) = xs.take hi := by
  unfold cutV
  show (xs.drop 0).take ((if (hi : Int) < 0 then ((hi : Int) + (xs.length : Int)).toNat else min (hi : Int).toNat xs.length) - 0) = _
  rw [if_neg (by omega), Int.toNat_natCast, List.drop_zero, Nat.sub_zero]
  rcases Nat.le_total hi xs.length with h | h
  · rw [Nat.min_eq_left h]
  · rw [Nat.min_eq_right h, List.take_length, List.take_of_length_le h]
theorem cutV_from {xs : List V} {lo : Nat} : cutV xs (some (lo : Int)) none = xs.drop lo := by
  unfold cutV
  show (xs.drop (if (lo : Int) < 0 then ((lo : Int) + (xs.length : Int)).toNat else min (lo : Int).toNat xs.length)).take (xs.length - (if (lo : Int) < 0 then ((lo : Int) + (xs.length : Int)).toNat else min (lo : Int).toNat xs.length)) = _
  rw [if_neg (by omega), Int.toNat_natCast]
  rcases Nat.le_total lo xs.length with h | h
  · rw [Nat.min_eq_left h]
    exact List.take_of_length_le (by rw [List.length_drop]; omega)
  · rw [Nat.min_eq_right h, Nat.sub_self, List.take_zero, List.drop_eq_nil_of_le h]
def sp_parts (K : PySem.W.Frag) (C : Addr) : Sp := fun vs H Q _ => ∃ (p a : Addr) (rs : List Rn) (x n : Int), vs = [.ref p, .int x, .int n] ∧ StAt C H p a rs ∧ OrdR rs ∧ rs.length ≤ 1000000 ∧ ∀ t us H', Same H H' → H t = none → H' t = some (.lst us) → RunsAt H' us (pam rs x n) → Q (.ref t) H'
theorem h_parts (T : Txt K mg A) : HaveM P w K mg base A.C_Stretches "parts_amid" 4 ["self", "first", "many"] [] (sp_parts K A.C_Stretches) := by
  have H_part_of := h_part_of (P := P) (w := w) (base := base) T
  have H_Stretches_place_behind := h_place (P := P) (w := w) (base := base) T
  refine T.r_Stretches_parts_amid.have sc_Stretches_parts_amid (fun vs H Q E z => ?_) ?_
  · obtain ⟨p, a, rs, x, n, rfl, _⟩ := z; rfl
  · intro f cdv A' outer s H vs Q E hr z
    obtain ⟨p, a, rs, x, n, rfl, hS, ho, hlen, q⟩ := z
    obtain ⟨dx, vs, h1, h2, h3⟩ := id hS
    refine ⟨_, (pss_cons (ps_set (i := 3) sc_Stretches_parts_amid.nd rfl (Or.inr rfl) (pe_op op_add (pvM 1) (pvM 2)))
      (pss_cons (ps_set (i := 4) sc_Stretches_parts_amid.nd rfl (Or.inl rfl) (pe_slice sl_list (pe_fld (pvM 0) rfl) (po_some (pe_methE (pvM 0) T.cl_Stretches H_Stretches_place_behind (hr.mono (by decide)) xw_def (pa_cons (pvM 1) pa_nil))) (po_some (pe_op op_add (pe_methE (pvM 0) T.cl_Stretches H_Stretches_place_behind (hr.mono (by decide)) xw_def (pa_cons (pvM 3) pa_nil)) pe_int))))
      (pss_one (ps_ret (pe_comp rfl (pi_list (pvM 4)) (x := "run") (fs := ["first", "end"]) (ix := [1, 3]) rfl rfl (fun _ _ _ _ _ _ => (pg_name (i := 0) (show (["run", "first", "end"] : List Str).Nodup by decide +kernel) rfl (Or.inl rfl))) (fun _ _ _ _ _ _ => (pf_one (pt_cmpR op_lt (pe_ix (ix_tupC (K := K) rfl) (pvM 0) pe_int (fun _ _ => rfl)) (pvM 2) (nomark _)))) (fun _ _ _ _ _ _ => (pe_callE H_part_of (hr.mono (by decide)) xw_no (pa_cons (pvM 0) (pa_cons (pvM 1) (pa_cons (pvM 2) pa_nil)))))))))), ?_⟩
    unfold sp_part_of sp_place
    walk_at "wp"
    simp only [h1]
    walk_at "wp"
    refine ⟨T.cl_Stretches, T.na_Stretches_runs, _, stF_runs, stF_no (by decide +kernel), a, rs, hS, ho, hlen, stF_no (by decide +kernel), a, rs, hS, ho, hlen, ?_⟩
    refine ⟨a, rfl, _, SqL.of h2, fun sl hsl => ⟨⟨_, SqL.of upd_same⟩, ?_⟩⟩
    have ecut : cutV vs (some ((pb rs x : Nat) : Int)) (some (((pb rs (x + n) : Nat) : Int) + 1)) = (vs.take (pb rs (x + n) + 1)).drop (pb rs x) := cutV_nat (hi := pb rs (x + n) + 1)
    rw [ecut]
    have hnear : RunsAt H ((vs.take (pb rs (x + n) + 1)).drop (pb rs x)) (cutR rs (pb rs x) (pb rs (x + n) + 1)) := prd_drop _ (prd_take _ h3)
    have q' : ∀ t us H', Same H H' → H t = none → H' t = some (.lst us) → RunsAt H' us (((cutR rs (pb rs x) (pb rs (x + n) + 1)).filter fun r => decide (r.f < x + n)).map fun r => poR r x (x + n)) → Q (.ref t) H' := q
    have hnl : (cutR rs (pb rs x) (pb rs (x + n) + 1)).length ≤ 1000000 := by
      unfold cutR
      rw [List.length_drop, List.length_take]
      omega
    generalize (vs.take (pb rs (x + n) + 1)).drop (pb rs x) = nv at *
    generalize cutR rs (pb rs x) (pb rs (x + n) + 1) = near at *
    intro D hD
    have s1 := same_upd (o := .lst nv) same_refl hsl
    have hnvl : nv.length = near.length := Paired.length hnear
    refine comp_list (xs := nv) (fun i ys σ H' => ∃ v, σ = [v, some (.int x), some (.int (x + n))] ∧ Same (upd H sl (.lst nv)) H' ∧ H' D = some (.lst ys) ∧ RunsAt H' ys (((near.take i).filter fun r => decide (r.f < x + n)).map fun r => poR r x (x + n))) ⟨_, rfl, same_upd same_refl hD, upd_same, .nil⟩ (fun i ys σ H' _ ⟨_, _, s2, _⟩ => SqL.of (s2 _ _ upd_same)) (fun i v ys σ H' hi => ?_) (fun ys σ H' => ?_)
    · rintro ⟨v0, rfl, s2, hDD, hys⟩
      obtain ⟨r, hr1, hr2⟩ := prd_get hnear hi
      have hrx := hr2.same (s1.trans s2)
      have htk : near.take (i + 1) = near.take i ++ [r] := by rw [List.take_add_one, hr1]; rfl
      have hil : i < near.length := (List.getElem?_eq_some_iff.mp hr1).1
      have hyl : ys.length ≤ i := by
        have h4 := Paired.length hys
        rw [List.length_map] at h4
        have h5 := List.length_filter_le (fun r : Rn => decide (r.f < x + n)) (near.take i)
        rw [List.length_take] at h5
        omega
      rw [htk, List.filter_append, List.map_append]
      obtain ⟨c, cv, rfl, hc, hcv⟩ := id hrx
      walk_at "wp"
      refine ⟨_, SqT.of hc, _, rfl, _, rfl, ?_⟩
      by_cases c1 : r.f < x + n
      · rw [if_pos c1]
        refine ⟨r, hrx, fun u H2 s3 hu => ?_⟩
        have hD2 := s3 _ _ hDD
        have hu2 : RunAt (upd H2 D (.lst (ys ++ [u]))) u (poR r x (x + n)) := RunAt.same2 (H := H2) hu hD2 same_refl
        have hys2 : RunsAt (upd H2 D (.lst (ys ++ [u]))) ys (((near.take i).filter fun r => decide (r.f < x + n)).map fun r => poR r x (x + n)) := RunsAt.same2 (H := H2) (RunsAt.same hys s3) hD2 same_refl
        refine ⟨hD2, by omega, same_put (s2.trans s3) hD, ?_⟩
        have ef : [r].filter (fun r => decide (r.f < x + n)) = [r] := by rw [List.filter_cons, decide_eq_true c1]; rfl
        rw [ef]
        exact prd_app hys2 (.cons hu2 .nil)
      · rw [if_neg c1]
        have ef : [r].filter (fun r => decide (r.f < x + n)) = [] := by rw [List.filter_cons, decide_eq_false c1]; rfl
        rw [ef, List.map_nil, List.append_nil]
        exact ⟨s2, hDD, hys⟩
    · rintro ⟨v0, rfl, s2, hDD, hys⟩
      rw [hnvl, List.take_length] at hys
      exact q' _ _ _ (s1.trans s2) (same_none s1 hD) hDD hys

def sp_free (C : Addr) : Sp := fun vs H Q _ => ∃ (p a : Addr) (rs : List Rn) (x n : Int), vs = [.ref p, .int x, .int n] ∧ StAt C H p a rs ∧ OrdR rs ∧ rs.length ≤ 1000000 ∧ ∀ H', Same H H' → Q (.bl (decide (pam rs x n = []))) H'
theorem h_free (T : Txt K mg A) : HaveM P w K mg base A.C_Stretches "is_free" 5 ["self", "first", "many"] [] (sp_free A.C_Stretches) := by
  have H_Stretches_parts_amid := h_parts (P := P) (w := w) (base := base) T
  refine T.r_Stretches_is_free.have sc_Stretches_is_free (fun vs H Q E z => ?_) ?_
  · obtain ⟨p, a, rs, x, n, rfl, _⟩ := z; rfl
  · intro f cdv A' outer s H vs Q E hr z
    obtain ⟨p, a, rs, x, n, rfl, hS, ho, hlen, q⟩ := z
    obtain ⟨dx, vs, h1, h2, h3⟩ := id hS
    refine ⟨_, (pss_one (ps_ret (pe_cmpR op_eq (pe_callB call_len rfl T.b_len PySem.boot_len (pa_cons (pe_methE (pvM 0) T.cl_Stretches H_Stretches_parts_amid (hr.mono (by decide)) xw_def (pa_cons (pvM 1) (pa_cons (pvM 2) pa_nil))) pa_nil)) pe_int (nomark _)))), ?_⟩
    unfold sp_parts
    walk_at "wp"
    simp only [h1]
    walk_at "wp"
    refine ⟨stF_no (by decide +kernel), a, rs, hS, ho, hlen, fun t us H1 s1 ht0 ht hU => ⟨us.length, .inl ⟨_, SqL.of ht, rfl⟩, ?_⟩⟩
    have hl := Paired.length hU
    have e : decide ((us.length : Int) = 0) = decide (pam rs x n = []) := by
      rw [decide_eq_decide, ← List.length_eq_zero_iff, ← hl]
      omega
    rw [e]
    exact q _ s1
def sp_full (C : Addr) : Sp := fun vs H Q _ => ∃ (p a : Addr) (rs : List Rn) (x n : Int), vs = [.ref p, .int x, .int n] ∧ StAt C H p a rs ∧ OrdR rs ∧ rs.length ≤ 1000000 ∧ ∀ H', Same H H' → Q (.bl (decide (((pam rs x n).map (·.m)).sum = n))) H'
theorem h_full (T : Txt K mg A) : HaveM P w K mg base A.C_Stretches "is_full" 5 ["self", "first", "many"] [] (sp_full A.C_Stretches) := by
  have H_Stretches_parts_amid := h_parts (P := P) (w := w) (base := base) T
  refine T.r_Stretches_is_full.have sc_Stretches_is_full (fun vs H Q E z => ?_) ?_
  · obtain ⟨p, a, rs, x, n, rfl, _⟩ := z; rfl
  · intro f cdv A' outer s H vs Q E hr z
    obtain ⟨p, a, rs, x, n, rfl, hS, ho, hlen, q⟩ := z
    obtain ⟨dx, vs, h1, h2, h3⟩ := id hS
    refine ⟨_, (pss_one (ps_ret (pe_cmpR op_eq (pe_callB (call_sum rfl) rfl T.b_sum (by decide +kernel) (pa_cons (pe_comp rfl (pi_list (pe_methE (pvM 0) T.cl_Stretches H_Stretches_parts_amid (hr.mono (by decide)) xw_def (pa_cons (pvM 1) (pa_cons (pvM 2) pa_nil)))) (x := "part") (fs := []) (ix := []) rfl rfl (fun _ _ _ _ _ _ => (pg_name (i := 0) (show (["part"] : List Str).Nodup by decide +kernel) rfl (Or.inl rfl))) (fun _ _ _ _ _ _ => pf_nil) (fun _ _ _ _ _ _ => (pe_ix (ix_tupC (K := K) rfl) (pvM 0) pe_int (fun _ _ => rfl)))) pa_nil)) (pvM 2) (nomark _)))), ?_⟩
    unfold sp_parts
    walk_at "wp"
    simp only [h1]
    walk_at "wp"
    refine ⟨stF_no (by decide +kernel), a, rs, hS, ho, hlen, fun t us H1 s1 ht0 ht hU => ⟨⟨_, SqL.of ht⟩, fun D hD => ?_⟩⟩
    refine comp_list (xs := us) (fun i ys σ H' => ∃ v, σ = [v] ∧ Same H1 H' ∧ H' D = some (.lst ys) ∧ ys = (((pam rs x n).take i).map (·.m)).map V.int) ⟨_, rfl, same_upd same_refl hD, upd_same, rfl⟩ (fun i ys σ H' _ ⟨_, _, s2, _⟩ => SqL.of (s2 _ _ ht)) (fun i v ys σ H' hi => ?_) (fun ys σ H' => ?_)
    · rintro ⟨v0, rfl, s2, hDD, rfl⟩
      obtain ⟨r, hr1, hr2⟩ := prd_get hU hi
      obtain ⟨c, cv, rfl, hc, hcv⟩ := hr2.same s2
      have htk : (pam rs x n).take (i + 1) = (pam rs x n).take i ++ [r] := by rw [List.take_add_one, hr1]; rfl
      have hpl : (pam rs x n).length ≤ 1000000 := by
        unfold pam cutR
        rw [List.length_map]
        refine Nat.le_trans (List.length_filter_le _ _) ?_
        rw [List.length_drop, List.length_take]
        omega
      walk_at "wp"
      refine ⟨_, SqT.of hc, _, rfl, hDD, by rw [List.length_map, List.length_map, List.length_take]; omega, same_put s2 hD, ?_⟩
      rw [htk, List.map_append, List.map_append]; rfl
    · rintro ⟨v0, rfl, s2, hDD, rfl⟩
      rw [Paired.length hU, List.take_length] at hDD
      exact ⟨_, SqL.of hDD, q _ (s1.trans s2)⟩
def sp_st_told (C : Addr) : Sp := fun vs H Q _ => ∃ (p a : Addr) (rs : List Rn), vs = [.ref p] ∧ StAt C H p a rs ∧ ∀ t us, H t = none → RunsAt (upd H t (.lst us)) us rs → Q (.ref t) (upd H t (.lst us))
theorem h_st_told (T : Txt K mg A) : HaveM P w K mg base A.C_Stretches "told" 1 ["self"] [] (sp_st_told A.C_Stretches) := by
  refine T.r_Stretches_told.have sc_Stretches_told (fun vs H Q E z => ?_) ?_
  · obtain ⟨p, a, rs, rfl, _⟩ := z; rfl
  · intro f cdv A' outer s H vs Q E hr z
    obtain ⟨p, a, rs, rfl, hS, q⟩ := z
    obtain ⟨dx, vs, h1, h2, h3⟩ := id hS
    refine ⟨_, (pss_one (ps_ret (pe_callTy call_list_of rfl T.b_list PyProof.Rows.boot_list (pa_cons (pe_fld (pvM 0) rfl) pa_nil)))), ?_⟩
    walk_at "wp"
    simp only [h1]
    walk_at "wp"
    refine ⟨T.cl_Stretches, T.na_Stretches_runs, _, stF_runs, a, rfl, _, .inl (SqL.of h2), fun t ht => ?_⟩
    exact q t vs ht (RunsAt.same h3 (same_upd same_refl ht))
def sp_pat (C : Addr) : Sp := fun vs H Q _ => ∃ (p a : Addr) (rs : List Rn) (x : Int), vs = [.ref p, .int x] ∧ StAt C H p a rs ∧ OrdR rs ∧ rs.length ≤ 1000000 ∧ ∀ v H', Same H H' → ((v = .non ∧ pm rs x = none) ∨ ∃ y, RunAt H' v y ∧ pm rs x = some (y.r, y.t)) → Q v H'
theorem h_pat (T : Txt K mg A) : HaveM P w K mg base A.C_Stretches "part_at" 5 ["self", "page"] [] (sp_pat A.C_Stretches) := by
  have H_Stretches_parts_amid := h_parts (P := P) (w := w) (base := base) T
  refine T.r_Stretches_part_at.have sc_Stretches_part_at (fun vs H Q E z => ?_) ?_
  · obtain ⟨p, a, rs, x, rfl, _⟩ := z; rfl
  · intro f cdv A' outer s H vs Q E hr z
    obtain ⟨p, a, rs, x, rfl, hS, ho, hlen, q⟩ := z
    obtain ⟨dx, vs, h1, h2, h3⟩ := id hS
    refine ⟨_, (pss_cons (ps_set (i := 2) sc_Stretches_part_at.nd rfl (Or.inl rfl) (pe_methE (pvM 0) T.cl_Stretches H_Stretches_parts_amid (hr.mono (by decide)) xw_def (pa_cons (pvM 1) (pa_cons pe_int pa_nil))))
      (pss_one (ps_ret (pe_ifExp (pt_cmpR op_gt (pe_callB call_len rfl T.b_len PySem.boot_len (pa_cons (pvM 2) pa_nil)) pe_int (nomark _)) (pe_ix ix_list (pvM 2) pe_int (fun _ _ => rfl)) pe_non)))), ?_⟩
    unfold sp_parts
    walk_at "wp"
    simp only [h1]
    walk_at "wp"
    refine ⟨stF_no (by decide +kernel), a, rs, hS, ho, hlen, fun t us H1 s1 ht0 ht hU => ⟨us.length, .inl ⟨_, SqL.of ht, rfl⟩, ?_⟩⟩
    rcases at_page (p := x) ho with ⟨e1, e2⟩ | ⟨y, e1, e2⟩
    · rw [e1] at hU
      cases hU
      rw [if_neg (show ¬ (0 : Int) < (([] : List V).length : Int) from fun z => absurd z (by decide))]
      exact q _ _ s1 (.inl ⟨rfl, e2⟩)
    · rw [e1] at hU
      cases hU with
      | cons hy hn =>
        cases hn
        rw [if_pos (show (0 : Int) < (([_] : List V).length : Int) from by show (0 : Int) < 1; decide)]
        exact ⟨_, SqL.of ht, _, atI_nat (j := 0) rfl, q _ _ s1 (.inr ⟨y, hy, e2⟩)⟩
def oR : Option (Int × Option (Int × Int)) → V
  | none => .non
  | some (r, _) => .int r
def sp_rat (C : Addr) : Sp := fun vs H Q _ => ∃ (p a : Addr) (rs : List Rn) (x : Int), vs = [.ref p, .int x] ∧ StAt C H p a rs ∧ OrdR rs ∧ rs.length ≤ 1000000 ∧ ∀ H', Same H H' → Q (oR (pm rs x)) H'
theorem h_rat (T : Txt K mg A) : HaveM P w K mg base A.C_Stretches "rights_at" 6 ["self", "page"] [] (sp_rat A.C_Stretches) := by
  have H_Stretches_part_at := h_pat (P := P) (w := w) (base := base) T
  refine T.r_Stretches_rights_at.have sc_Stretches_rights_at (fun vs H Q E z => ?_) ?_
  · obtain ⟨p, a, rs, x, rfl, _⟩ := z; rfl
  · intro f cdv A' outer s H vs Q E hr z
    obtain ⟨p, a, rs, x, rfl, hS, ho, hlen, q⟩ := z
    obtain ⟨dx, vs, h1, h2, h3⟩ := id hS
    refine ⟨_, (pss_cons (ps_set (i := 2) sc_Stretches_rights_at.nd rfl (Or.inl rfl) (pe_methE (pvM 0) T.cl_Stretches H_Stretches_part_at (hr.mono (by decide)) xw_def (pa_cons (pvM 1) pa_nil)))
      (pss_one (ps_ret (pe_ifExp (pt_cmpR op_isN (pvM 2) pe_non (nomark _)) pe_non (pe_ix ix_tup (pvM 2) pe_int (fun _ _ => rfl)))))), ?_⟩
    unfold sp_pat
    walk_at "wp"
    simp only [h1]
    walk_at "wp"
    refine ⟨stF_no (by decide +kernel), a, rs, hS, ho, hlen, fun v H1 s1 h => ?_⟩
    rcases h with ⟨rfl, e⟩ | ⟨y, hy, e⟩
    · rw [if_pos rfl]
      have := q _ s1
      rw [e] at this
      exact this
    · obtain ⟨c, cv, rfl, hc, hcv⟩ := hy
      rw [if_neg (fun z => nomatch z)]
      have := q _ s1
      rw [e] at this
      first
        | exact ⟨_, SqT.of hc, _, rfl, this⟩
        | (walk_at "wp"; exact ⟨_, SqT.of hc, _, rfl, this⟩)
def sp_tat (C : Addr) : Sp := fun vs H Q _ => ∃ (p a : Addr) (rs : List Rn) (x : Int), vs = [.ref p, .int x] ∧ StAt C H p a rs ∧ OrdR rs ∧ rs.length ≤ 1000000 ∧ ∀ v H', Same H H' → TieAt H' v ((pm rs x).bind (·.2)) → Q v H'
theorem h_tat (T : Txt K mg A) : HaveM P w K mg base A.C_Stretches "tie_at" 6 ["self", "page"] [] (sp_tat A.C_Stretches) := by
  have H_Stretches_part_at := h_pat (P := P) (w := w) (base := base) T
  refine T.r_Stretches_tie_at.have sc_Stretches_tie_at (fun vs H Q E z => ?_) ?_
  · obtain ⟨p, a, rs, x, rfl, _⟩ := z; rfl
  · intro f cdv A' outer s H vs Q E hr z
    obtain ⟨p, a, rs, x, rfl, hS, ho, hlen, q⟩ := z
    obtain ⟨dx, vs, h1, h2, h3⟩ := id hS
    refine ⟨_, (pss_cons (ps_set (i := 2) sc_Stretches_tie_at.nd rfl (Or.inl rfl) (pe_methE (pvM 0) T.cl_Stretches H_Stretches_part_at (hr.mono (by decide)) xw_def (pa_cons (pvM 1) pa_nil)))
      (pss_one (ps_ret (pe_ifExp (pt_cmpR op_isN (pvM 2) pe_non (nomark _)) pe_non (pe_ix ix_tup (pvM 2) pe_int (fun _ _ => rfl)))))), ?_⟩
    unfold sp_pat
    walk_at "wp"
    simp only [h1]
    walk_at "wp"
    refine ⟨stF_no (by decide +kernel), a, rs, hS, ho, hlen, fun v H1 s1 h => ?_⟩
    rcases h with ⟨rfl, e⟩ | ⟨y, hy, e⟩
    · rw [if_pos rfl]
      exact q _ _ s1 (by rw [e]; rfl)
    · obtain ⟨c, cv, rfl, hc, hcv⟩ := hy
      rw [if_neg (fun z => nomatch z)]
      have := q _ _ s1 (by rw [e]; exact hcv)
      first
        | exact ⟨_, SqT.of hc, _, rfl, this⟩
        | (walk_at "wp"; exact ⟨_, SqT.of hc, _, rfl, this⟩)

def sp_init (C : Addr) : Sp := fun vs H Q _ => ∃ (p dx : Addr), vs = [.ref p] ∧ H p = some (.ins C dx []) ∧ ∀ a, H a = none → Q .non (upd (upd H a (.lst [])) p (.ins C dx (stF a)))
theorem h_st_init (T : Txt K mg A) : HaveI P w K mg base "Stretches" A.C_Stretches 1 ["self"] [] (sp_init A.C_Stretches) := by
  refine T.r_Stretches_init.have sc_Stretches_init (fun vs H Q E z => ?_) ?_
  · obtain ⟨p, dx, rfl, _⟩ := z; rfl
  · intro f cdv A' outer s H vs Q E hr z
    obtain ⟨p, dx, rfl, hp, q⟩ := z
    refine ⟨_, (pss_one (ps_fld (pvM 0) (pe_lst pa_nil) rfl)), ?_⟩
    walk_at "wp"
    intro a ha
    have hpa : p ≠ a := ne_of_none hp ha
    refine ⟨_, dx, [], by rw [upd_ne hpa]; exact hp, T.cl_Stretches, T.na_Stretches_runs, by show 0 < 1000; decide, ?_⟩
    exact q a ha
def sp_cr (O : Addr) : Sp := fun vs H Q E => ∃ x : V, vs = [x] ∧ Kn H x ∧ if within x 0 3 = true then Q .non H else E (.ref O) none H
theorem h_cr (T : Txt K mg A) : Have P w K mg base "check_rights" 3 ["rights"] [] (sp_cr A.C_BadRights) := by
  have H_is_within := h_is_within (P := P) (w := w) (base := base) T
  refine T.r_check_rights.have sc_check_rights (fun vs H Q E z => ?_) ?_
  · obtain ⟨x, rfl, _⟩ := z; rfl
  · intro f cdv A' outer s H vs Q E hr z
    obtain ⟨x, rfl, hk, q⟩ := z
    refine ⟨_, (pss_one (ps_if (pt_not (pt_val (pe_callE H_is_within (hr.mono (by decide)) xw_def (pa_cons (pvM 0) (pa_cons pe_int (pa_cons (pe_globE rfl T.c_MOST_RIGHTS) pa_nil)))))) (pss_one (ps_raise xr_def rfl T.x_BadRights (pa_cons pe_str pa_nil))) pss_nil)), ?_⟩
    unfold sp_is_within
    walk_at "wp"
    refine ⟨hk, ?_⟩
    cases e : within x 0 3 with
    | true => rw [e, if_pos rfl] at q; exact iteF q
    | false => rw [e, if_neg (show ¬ false = true by decide)] at q; exact iteT q
def Bu (p : Addr) (H H' : Hp) : Prop := ∀ c o, H c = some o → c ≠ p → H' c = some o
def sp_lay (C : Addr) : Sp := fun vs H Q _ => ∃ (p a b : Addr) (rs parts : List Rn) (x n : Int) (ws : List V), vs = [.ref p, .int x, .int n, .ref b] ∧ StAt C H p a rs ∧ OrdR rs ∧ rs.length ≤ 100000 ∧ H b = some (.lst ws) ∧ RunsAt H ws parts ∧ parts.length ≤ 100000 ∧ ∀ a' H', StAt C H' p a' (layR rs x n parts) → Bu p H H' → Q .non H'
theorem h_lay (T : Txt K mg A) : HaveM P w K mg base A.C_Stretches "lay_amid" 5 ["self", "first", "many", "parts"] [] (sp_lay A.C_Stretches) := by
  have H_part_of := h_part_of (P := P) (w := w) (base := base) T
  have H_end_of := h_end_of (P := P) (w := w) (base := base) T
  have H_joined := h_joined (P := P) (w := w) (base := base) T
  have H_Stretches_place_behind := h_place (P := P) (w := w) (base := base) T
  refine T.r_Stretches_lay_amid.have sc_Stretches_lay_amid (fun vs H Q E z => ?_) ?_
  · obtain ⟨p, a, b, rs, parts, x, n, ws, rfl, _⟩ := z; rfl
  · intro f cdv A' outer s H vs Q E hr z
    obtain ⟨p, a, b, rs, parts, x, n, ws, rfl, hS, ho, hlen, hb, hP, hpl, q⟩ := z
    obtain ⟨dx, vs, h1, h2, h3⟩ := id hS
    refine ⟨_, (pss_cons (ps_set (i := 4) sc_Stretches_lay_amid.nd rfl (Or.inr rfl) (pe_op op_add (pvM 1) (pvM 2)))
      (pss_cons (ps_set (i := 5) sc_Stretches_lay_amid.nd rfl (Or.inl rfl) (pe_methE (pvM 0) T.cl_Stretches H_Stretches_place_behind (hr.mono (by decide)) xw_def (pa_cons (pe_op op_sub (pvM 1) pe_int) pa_nil)))
      (pss_cons (ps_set (i := 6) sc_Stretches_lay_amid.nd rfl (Or.inl rfl) (pe_op op_add (pe_methE (pvM 0) T.cl_Stretches H_Stretches_place_behind (hr.mono (by decide)) xw_def (pa_cons (pvM 4) pa_nil)) pe_int))
      (pss_cons (ps_set (i := 7) sc_Stretches_lay_amid.nd rfl (Or.inl rfl) (pe_slice sl_list (pe_fld (pvM 0) rfl) (po_some (pvM 5)) (po_some (pvM 6))))
      (pss_cons (ps_setC (i := 8) sc_Stretches_lay_amid.nd rfl rfl rfl (pi_list (pvM 7)) (x := "run") (fs := ["first"]) (ix := [1]) rfl rfl (fun _ _ _ _ _ _ => (pg_name (i := 0) (show (["run", "first"] : List Str).Nodup by decide +kernel) rfl (Or.inl rfl))) (fun _ _ _ _ _ _ => (pf_one (pt_cmpR op_lt (pe_ix (ix_tupC (K := K) rfl) (pvM 0) pe_int (fun _ _ => rfl)) (pvM 1) (nomark _)))) (fun _ _ _ _ _ _ => (pe_callE H_part_of (hr.mono (by decide)) xw_no (pa_cons (pvM 0) (pa_cons (pe_ix (ix_tupC (K := K) rfl) (pvM 0) pe_int (fun _ _ => rfl)) (pa_cons (pvM 1) pa_nil))))))
      (pss_cons (ps_setC (i := 9) sc_Stretches_lay_amid.nd rfl rfl rfl (pi_list (pvM 7)) (x := "run") (fs := ["end"]) (ix := [4]) rfl rfl (fun _ _ _ _ _ _ => (pg_name (i := 0) (show (["run", "end"] : List Str).Nodup by decide +kernel) rfl (Or.inl rfl))) (fun _ _ _ _ _ _ => (pf_one (pt_cmpR op_gt (pe_callE H_end_of (hr.mono (by decide)) xw_no (pa_cons (pvM 0) pa_nil)) (pvM 1) (nomark _)))) (fun _ _ _ _ _ _ => (pe_callE H_part_of (hr.mono (by decide)) xw_no (pa_cons (pvM 0) (pa_cons (pvM 1) (pa_cons (pe_callE H_end_of (hr.mono (by decide)) xw_no (pa_cons (pvM 0) pa_nil)) pa_nil))))))
      (pss_one (ps_fld (pvM 0) (pe_op op_cat (pe_op op_cat (pe_slice sl_list (pe_fld (pvM 0) rfl) po_none (po_some (pvM 5))) (pe_callE H_joined (hr.mono (by decide)) xw_def (pa_cons (pe_op op_cat (pe_op op_cat (pvM 8) (pvM 3)) (pvM 9)) pa_nil))) (pe_slice sl_list (pe_fld (pvM 0) rfl) (po_some (pvM 6)) po_none)) rfl)))))))), ?_⟩
    unfold sp_part_of sp_end_of sp_joined sp_place
    walk_at "wp"
    simp only [h1]
    walk_at "wp"
    refine ⟨stF_no (by decide +kernel), a, rs, hS, ho, by omega, stF_no (by decide +kernel), a, rs, hS, ho, by omega, T.cl_Stretches, T.na_Stretches_runs, _, stF_runs, a, rfl, _, SqL.of h2, fun sl hsl => ⟨⟨_, SqL.of upd_same⟩, ?_⟩⟩
    have ecut : cutV vs (some ((pb rs (x - 1) : Nat) : Int)) (some (((pb rs (x + n) : Nat) : Int) + 1)) = (vs.take (pb rs (x + n) + 1)).drop (pb rs (x - 1)) := cutV_nat (hi := pb rs (x + n) + 1)
    rw [ecut]
    have hnear : RunsAt H ((vs.take (pb rs (x + n) + 1)).drop (pb rs (x - 1))) (cutR rs (pb rs (x - 1)) (pb rs (x + n) + 1)) := prd_drop _ (prd_take _ h3)
    have hnl : (cutR rs (pb rs (x - 1)) (pb rs (x + n) + 1)).length ≤ 100000 := by
      unfold cutR
      rw [List.length_drop, List.length_take]
      omega
    have q' : ∀ a' H', StAt A.C_Stretches H' p a' (rs.take (pb rs (x - 1)) ++ jn (((cutR rs (pb rs (x - 1)) (pb rs (x + n) + 1)).filter fun r => decide (r.f < x)).map (fun r => poR r r.f x) ++ parts ++ ((cutR rs (pb rs (x - 1)) (pb rs (x + n) + 1)).filter fun r => decide (enR r > x + n)).map (fun r => poR r (x + n) (enR r))) ++ rs.drop (pb rs (x + n) + 1)) → Bu p H H' → Q .non H' := q
    generalize (vs.take (pb rs (x + n) + 1)).drop (pb rs (x - 1)) = nv at *
    generalize cutR rs (pb rs (x - 1)) (pb rs (x + n) + 1) = near at *
    intro D1 hD1
    have s1 := same_upd (o := .lst nv) same_refl hsl
    have hnvl : nv.length = near.length := Paired.length hnear
    have flen : ∀ (i : Nat) (g : Rn → Bool), ((near.take i).filter g).length ≤ 100000 := fun i g => Nat.le_trans (List.length_filter_le _ _) (by rw [List.length_take]; omega)
    refine comp_list (xs := nv) (fun i ys σ H' => ∃ v, σ = [v, some (.int x)] ∧ Same (upd H sl (.lst nv)) H' ∧ H' D1 = some (.lst ys) ∧ RunsAt H' ys (((near.take i).filter fun r => decide (r.f < x)).map fun r => poR r r.f x)) ⟨_, rfl, same_upd same_refl hD1, upd_same, .nil⟩ (fun i ys σ H' _ ⟨_, _, s2, _⟩ => SqL.of (s2 _ _ upd_same)) (fun i v ys σ H' hi => ?_) (fun ys σ H' => ?_)
    · rintro ⟨v0, rfl, s2, hDD, hys⟩
      obtain ⟨r, hr1, hr2⟩ := prd_get hnear hi
      have hrx := hr2.same (s1.trans s2)
      have htk : near.take (i + 1) = near.take i ++ [r] := by rw [List.take_add_one, hr1]; rfl
      have hyl : ys.length ≤ 100000 := by
        have h4 := Paired.length hys
        rw [List.length_map] at h4
        have := flen i fun r => decide (r.f < x)
        omega
      rw [htk, List.filter_append, List.map_append]
      obtain ⟨c, cv, rfl, hc, hcv⟩ := id hrx
      walk_at "wp"
      refine ⟨_, SqT.of hc, _, rfl, _, rfl, ?_⟩
      by_cases c1 : r.f < x
      · rw [if_pos c1]
        refine ⟨_, SqT.of hc, _, rfl, r, _, rfl, hrx, fun u H2 s3 hu => ?_⟩
        have hD2 := s3 _ _ hDD
        refine ⟨hD2, by omega, same_put (s2.trans s3) hD1, ?_⟩
        have ef : [r].filter (fun r => decide (r.f < x)) = [r] := by rw [List.filter_cons, decide_eq_true c1]; rfl
        rw [ef]
        exact prd_app (RunsAt.same2 (H := H2) (RunsAt.same hys s3) hD2 same_refl) (.cons (RunAt.same2 (H := H2) hu hD2 same_refl) .nil)
      · rw [if_neg c1]
        have ef : [r].filter (fun r => decide (r.f < x)) = [] := by rw [List.filter_cons, decide_eq_false c1]; rfl
        rw [ef, List.map_nil, List.append_nil]
        exact ⟨s2, hDD, hys⟩
    rintro ⟨v0, rfl, s2, hA, hys⟩
    rw [hnvl, List.take_length] at hys
    have hsl1 := s2 _ _ (upd_same (H := H) (a := sl) (o := .lst nv))
    refine ⟨⟨_, SqL.of hsl1⟩, fun D2 hD2 => ?_⟩
    have s12 := s1.trans s2
    refine comp_list (xs := nv) (fun i zs σ H2 => ∃ v, σ = [v, some (.int (x + n))] ∧ Same H' H2 ∧ H2 D2 = some (.lst zs) ∧ RunsAt H2 zs (((near.take i).filter fun r => decide (enR r > x + n)).map fun r => poR r (x + n) (enR r))) ⟨_, rfl, same_upd same_refl hD2, upd_same, .nil⟩ (fun i ys σ H' _ ⟨_, _, s2, _⟩ => SqL.of (s2 _ _ hsl1)) (fun i v zs σ H2 hi => ?_) (fun zs σ H2 => ?_)
    · rintro ⟨v0, rfl, s3, hDD, hzs⟩
      obtain ⟨r, hr1, hr2⟩ := prd_get hnear hi
      have hrx := hr2.same (s12.trans s3)
      have htk : near.take (i + 1) = near.take i ++ [r] := by rw [List.take_add_one, hr1]; rfl
      have hyl : zs.length ≤ 100000 := by
        have h4 := Paired.length hzs
        rw [List.length_map] at h4
        have := flen i fun r => decide (enR r > x + n)
        omega
      rw [htk, List.filter_append, List.map_append]
      walk_at "wp"
      refine ⟨r, hrx, ?_⟩
      by_cases c1 : enR r > x + n
      · rw [if_pos (show x + n < enR r from c1)]
        refine ⟨r, hrx, r, hrx, fun u H3 s4 hu => ?_⟩
        have hD3 := s4 _ _ hDD
        refine ⟨hD3, by omega, same_put (s3.trans s4) hD2, ?_⟩
        have ef : [r].filter (fun r => decide (enR r > x + n)) = [r] := by rw [List.filter_cons, decide_eq_true c1]; rfl
        rw [ef]
        exact prd_app (RunsAt.same2 (H := H3) (RunsAt.same hzs s4) hD3 same_refl) (.cons (RunAt.same2 (H := H3) hu hD3 same_refl) .nil)
      · rw [if_neg (show ¬ x + n < enR r from c1)]
        have ef : [r].filter (fun r => decide (enR r > x + n)) = [] := by rw [List.filter_cons, decide_eq_false c1]; rfl
        rw [ef, List.map_nil, List.append_nil]
        exact ⟨s3, hDD, hzs⟩
    rintro ⟨v0, rfl, s3, hB, hzs⟩
    rw [hnvl, List.take_length] at hzs
    have s13 := s12.trans s3
    have sH2 : Same H H2 := s13
    refine ⟨_, dx, _, s13 _ _ h1, T.cl_Stretches, T.na_Stretches_runs, _, stF_runs, a, rfl, _, SqL.of (s13 _ _ h2), fun q1 hq1 => ?_⟩
    rw [cutV_to]
    have s4 := same_upd (o := .lst (vs.take (pb rs (x - 1)))) same_refl hq1
    have hq1' : upd H2 q1 (.lst (vs.take (pb rs (x - 1)))) q1 = some (.lst (vs.take (pb rs (x - 1)))) := upd_same
    have hA4 := s4 _ _ (s3 _ _ hA)
    have hB4 := s4 _ _ hB
    have hb4 := s4 _ _ (s13 _ _ hb)
    have s14 := s13.trans s4
    generalize upd H2 q1 (.lst (vs.take (pb rs (x - 1)))) = H4 at *
    have ly : ys.length ≤ 100000 := by
      have h4 := Paired.length hys
      rw [List.length_map] at h4
      have := List.length_filter_le (fun r : Rn => decide (r.f < x)) near
      omega
    have lz : zs.length ≤ 100000 := by
      have h4 := Paired.length hzs
      rw [List.length_map] at h4
      have := List.length_filter_le (fun r : Rn => decide (enR r > x + n)) near
      omega
    have lw : ws.length ≤ 100000 := by rw [Paired.length hP]; exact hpl
    refine ⟨_, hA4, _, hb4, by omega, fun q2 hq2 => ?_⟩
    have s5 := same_upd (o := .lst (ys ++ ws)) same_refl hq2
    have hq2' : upd H4 q2 (.lst (ys ++ ws)) q2 = some (.lst (ys ++ ws)) := upd_same
    have hB5 := s5 _ _ hB4
    have hq15 := s5 _ _ hq1'
    have s15 := s14.trans s5
    generalize upd H4 q2 (.lst (ys ++ ws)) = H5 at *
    refine ⟨_, rfl, _, hB5, by rw [List.length_append]; omega, fun q3 hq3 => ?_⟩
    have s6 := same_upd (o := .lst (ys ++ ws ++ zs)) same_refl hq3
    have hq3' : upd H5 q3 (.lst (ys ++ ws ++ zs)) q3 = some (.lst (ys ++ ws ++ zs)) := upd_same
    have hq16 := s6 _ _ hq15
    have s16 := s15.trans s6
    have s26 : Same H2 (upd H5 q3 (.lst (ys ++ ws ++ zs))) := s4.trans (s5.trans s6)
    generalize upd H5 q3 (.lst (ys ++ ws ++ zs)) = H6 at *
    have hall : RunsAt H6 (ys ++ ws ++ zs) ((near.filter fun r => decide (r.f < x)).map (fun r => poR r r.f x) ++ parts ++ (near.filter fun r => decide (enR r > x + n)).map (fun r => poR r (x + n) (enR r))) :=
      prd_app (prd_app (RunsAt.same hys (s3.trans s26)) (RunsAt.same hP s16)) (RunsAt.same hzs s26)
    have hallL : ((near.filter fun r => decide (r.f < x)).map (fun r => poR r r.f x) ++ parts ++ (near.filter fun r => decide (enR r > x + n)).map (fun r => poR r (x + n) (enR r))).length ≤ 1000000 := by
      rw [← Paired.length hall, List.length_append, List.length_append]; omega
    refine ⟨_, SqL.of hq3', _, hall, hallL, fun t us H7 s7 ht0 ht hU => ?_⟩
    have s17 := s16.trans s7
    have hus : us.length ≤ 1000000 := by
      rw [Paired.length hU]
      have := jn_len ((near.filter fun r => decide (r.f < x)).map (fun r => poR r r.f x) ++ parts ++ (near.filter fun r => decide (enR r > x + n)).map (fun r => poR r (x + n) (enR r))) []
      unfold jn
      simp only [List.length_nil, Nat.zero_add] at this
      omega
    have lv : vs.length ≤ 100000 := by rw [Paired.length h3]; exact hlen
    refine ⟨_, s7 _ _ hq16, _, ht, by rw [List.length_take]; omega, fun q4 hq4 => ?_⟩
    have s8 := same_upd (o := .lst (vs.take (pb rs (x - 1)) ++ us)) same_refl hq4
    have hq4' : upd H7 q4 (.lst (vs.take (pb rs (x - 1)) ++ us)) q4 = some (.lst (vs.take (pb rs (x - 1)) ++ us)) := upd_same
    have s18 := s17.trans s8
    generalize upd H7 q4 (.lst (vs.take (pb rs (x - 1)) ++ us)) = H8 at *
    refine ⟨_, dx, _, s18 _ _ h1, T.cl_Stretches, T.na_Stretches_runs, _, stF_runs, a, rfl, _, SqL.of (s18 _ _ h2), fun q5 hq5 => ?_⟩
    have ecf : cutV vs (some (((pb rs (x + n) : Nat) : Int) + 1)) none = vs.drop (pb rs (x + n) + 1) := cutV_from (lo := pb rs (x + n) + 1)
    rw [ecf]
    have s9 := same_upd (o := .lst (vs.drop (pb rs (x + n) + 1))) same_refl hq5
    have hq5' : upd H8 q5 (.lst (vs.drop (pb rs (x + n) + 1))) q5 = some (.lst (vs.drop (pb rs (x + n) + 1))) := upd_same
    have hq49 := s9 _ _ hq4'
    have s19 := s18.trans s9
    have s79 := s8.trans s9
    generalize upd H8 q5 (.lst (vs.drop (pb rs (x + n) + 1))) = H9 at *
    refine ⟨_, hq49, _, rfl, by rw [List.length_append, List.length_take, List.length_drop]; omega, fun q6 hq6 => ?_⟩
    have s10 := same_upd (o := .lst (vs.take (pb rs (x - 1)) ++ us ++ vs.drop (pb rs (x + n) + 1))) same_refl hq6
    have hq6' : upd H9 q6 (.lst (vs.take (pb rs (x - 1)) ++ us ++ vs.drop (pb rs (x + n) + 1))) q6 = some (.lst (vs.take (pb rs (x - 1)) ++ us ++ vs.drop (pb rs (x + n) + 1))) := upd_same
    have s110 := s19.trans s10
    have s710 := s79.trans s10
    generalize upd H9 q6 (.lst (vs.take (pb rs (x - 1)) ++ us ++ vs.drop (pb rs (x + n) + 1))) = H10 at *
    have hpq : q6 ≠ p := ne_of hq6' (s110 _ _ h1) fun z => nomatch z
    refine ⟨_, dx, _, s110 _ _ h1, T.cl_Stretches, T.na_Stretches_runs, by show 1 < 1000; decide, ?_⟩
    have hrun : ∀ {v : V} {r : Rn} {o : HO}, RunAt H10 v r → RunAt (upd H10 p o) v r := fun {v r o} h => by
      obtain ⟨c, cv, e, hc, hcv⟩ := h
      refine ⟨c, cv, e, by rw [upd_ne (ne_of hc (s110 _ _ h1) fun z => nomatch z)]; exact hc, ?_⟩
      cases ht : r.t with
      | none => rw [ht] at hcv; exact hcv
      | some tt =>
        obtain ⟨b2, k2⟩ := tt
        rw [ht] at hcv
        obtain ⟨c2, e2, h2⟩ := hcv
        exact ⟨c2, e2, by rw [upd_ne (ne_of h2 (s110 _ _ h1) fun z => nomatch z)]; exact h2⟩
    refine q' q6 _ ⟨dx, _, upd_same, by rw [upd_ne hpq]; exact hq6', ?_⟩ fun c o hc hne => by rw [upd_ne hne]; exact s110 _ _ hc
    have hfin : RunsAt H10 (vs.take (pb rs (x - 1)) ++ us ++ vs.drop (pb rs (x + n) + 1)) (rs.take (pb rs (x - 1)) ++ jn ((near.filter fun r => decide (r.f < x)).map (fun r => poR r r.f x) ++ parts ++ (near.filter fun r => decide (enR r > x + n)).map (fun r => poR r (x + n) (enR r))) ++ rs.drop (pb rs (x + n) + 1)) :=
      prd_app (prd_app (RunsAt.same (prd_take _ h3) s110) (RunsAt.same hU s710)) (RunsAt.same (prd_drop _ h3) s110)
    exact Paired.mapP hfin fun _ _ h => hrun h
def sp_st_put (C BR TK : Addr) : Sp := fun vs H Q E => ∃ (p a : Addr) (rs : List Rn) (x n r : Int) (tv : V) (t : Option (Int × Int)), vs = [.ref p, .int x, .int n, .int r, tv] ∧ StAt C H p a rs ∧ OrdR rs ∧ rs.length ≤ 100000 ∧ TieAt H tv t ∧
  if 0 ≤ r ∧ r ≤ 3 then (if pam rs x n = [] then ∀ a' H', StAt C H' p a' (layR rs x n [⟨x, n, r, t⟩]) → Bu p H H' → Q .non H' else ∀ H', Same H H' → E (.ref TK) none H') else E (.ref BR) none H
theorem b_st_put (T : Txt K mg A) : Body P w K mg base "Stretches.put" s_Stretches_put ["self", "first", "many", "rights", "tie"] 5 (sp_st_put A.C_Stretches A.C_BadRights A.C_Taken) := by
  have H_check_rights := h_cr (P := P) (w := w) (base := base) T
  have H_Stretches_is_free := h_free (P := P) (w := w) (base := base) T
  have H_Stretches_lay_amid := h_lay (P := P) (w := w) (base := base) T
  · intro f cdv A' outer s H vs Q E hr z
    obtain ⟨p, a, rs, x, n, r, tv, t, rfl, hS, ho, hlen, hT, q⟩ := z
    obtain ⟨dx, vs, h1, h2, h3⟩ := id hS
    refine ⟨_, (pss_cons (ps_expr (pe_callE H_check_rights (hr.mono (by decide)) xw_def (pa_cons (pvM 3) pa_nil)))
      (pss_cons (ps_if (pt_not (pt_val (pe_methE (pvM 0) T.cl_Stretches H_Stretches_is_free (hr.mono (by decide)) xw_def (pa_cons (pvM 1) (pa_cons (pvM 2) pa_nil))))) (pss_one (ps_raise xr_def rfl T.x_Taken (pa_cons pe_str pa_nil))) pss_nil)
      (pss_one (ps_expr (pe_methE (pvM 0) T.cl_Stretches H_Stretches_lay_amid (hr.mono (by decide)) xw_def (pa_cons (pvM 1) (pa_cons (pvM 2) (pa_cons (pe_lst (pa_cons (pe_tup (pa_cons (pvM 1) (pa_cons (pvM 2) (pa_cons (pvM 3) (pa_cons (pvM 4) pa_nil))))) pa_nil)) pa_nil)))))))), ?_⟩
    unfold sp_cr sp_free sp_lay
    walk_at "wp"
    simp only [h1]
    walk_at "wp"
    by_cases c : 0 ≤ r ∧ r ≤ 3
    · rw [if_pos c] at q
      rw [if_pos (by rw [within_int, decide_eq_true c.1, decide_eq_true c.2]; rfl)]
      refine ⟨stF_no (by decide +kernel), a, rs, hS, ho, by omega, fun H1 s1 => ?_⟩
      by_cases c2 : pam rs x n = []
      · rw [if_pos c2] at q
        rw [decide_eq_true c2]
        refine iteF ⟨dx, _, s1 _ _ h1, stF_no (by decide +kernel), fun tp htp lp hlp => ?_⟩
        have s2 := same_upd (o := .tup [V.int x, V.int n, V.int r, tv]) s1 htp
        have s3 := same_upd (o := .lst [V.ref tp]) s2 hlp
        have s23 := same_upd (o := .lst [V.ref tp]) same_refl hlp
        exact ⟨a, rs, hS.same s3, ho, hlen, [⟨x, n, r, t⟩], [.ref tp], rfl, .cons ⟨tp, tv, rfl, s23 _ _ upd_same, hT.same s3⟩ .nil, by show 1 ≤ 100000; decide, fun a' H' hS' hB => q a' H' hS' fun c o hc hne => hB c o (s3 c o hc) hne⟩
      · rw [if_neg c2] at q
        rw [decide_eq_false c2]
        exact iteT (q _ s1)
    · rw [if_neg c] at q
      rw [if_neg (by rw [within_int]; simpa using c)]
      exact q
theorem l_st_put {C BR TK : Addr} : ∀ vs H Q E, sp_st_put C BR TK vs H Q E → vs.length = 5 := fun vs H Q E z => by
  obtain ⟨p, a, rs, x, n, r, tv, t, rfl, _⟩ := z; rfl
theorem h_st_put (T : Txt K mg A) : HaveM P w K mg base A.C_Stretches "put" 6 ["self", "first", "many", "rights", "tie"] [] (sp_st_put A.C_Stretches A.C_BadRights A.C_Taken) := T.r_Stretches_put.have sc_Stretches_put l_st_put (b_st_put T)
theorem h1_st_put (T : Txt K mg A) : HaveM P w K mg base A.C_Stretches "put" 6 ["self", "first", "many", "rights", "tie"] [.non] (sp_st_put A.C_Stretches A.C_BadRights A.C_Taken) := T.r1_Stretches_put.have sc_Stretches_put l_st_put (b_st_put T)

def sp_cf (C NM : Addr) : Sp := fun vs H Q E => ∃ (p a : Addr) (rs : List Rn) (x n : Int), vs = [.ref p, .int x, .int n] ∧ StAt C H p a rs ∧ OrdR rs ∧ rs.length ≤ 1000000 ∧ ∀ H', Same H H' → if ((pam rs x n).map (·.m)).sum = n then Q .non H' else E (.ref NM) none H'
theorem h_cf (T : Txt K mg A) : HaveM P w K mg base A.C_Stretches "check_full" 6 ["self", "first", "many"] [] (sp_cf A.C_Stretches A.C_NotMapped) := by
  have H_Stretches_is_full := h_full (P := P) (w := w) (base := base) T
  refine T.r_Stretches_check_full.have sc_Stretches_check_full (fun vs H Q E z => ?_) ?_
  · obtain ⟨p, a, rs, x, n, rfl, _⟩ := z; rfl
  · intro f cdv A' outer s H vs Q E hr z
    obtain ⟨p, a, rs, x, n, rfl, hS, ho, hlen, q⟩ := z
    obtain ⟨dx, vs, h1, h2, h3⟩ := id hS
    refine ⟨_, (pss_one (ps_if (pt_not (pt_val (pe_methE (pvM 0) T.cl_Stretches H_Stretches_is_full (hr.mono (by decide)) xw_def (pa_cons (pvM 1) (pa_cons (pvM 2) pa_nil))))) (pss_one (ps_raise xr_def rfl T.x_NotMapped (pa_cons pe_str pa_nil))) pss_nil)), ?_⟩
    unfold sp_full
    walk_at "wp"
    refine ⟨dx, _, h1, stF_no (by decide +kernel), a, rs, hS, ho, hlen, fun H1 s1 => ?_⟩
    have q1 := q _ s1
    by_cases c : ((pam rs x n).map (·.m)).sum = n
    · rw [if_pos c] at q1
      rw [decide_eq_true c]
      exact iteF q1
    · rw [if_neg c] at q1
      rw [decide_eq_false c]
      exact iteT q1

def sp_cut (C NM : Addr) : Sp := fun vs H Q E => ∃ (p a : Addr) (rs : List Rn) (x n : Int), vs = [.ref p, .int x, .int n] ∧ StAt C H p a rs ∧ OrdR rs ∧ rs.length ≤ 100000 ∧
  if ((pam rs x n).map (·.m)).sum = n then ∀ a' H', StAt C H' p a' (layR rs x n []) → Bu p H H' → Q .non H' else ∀ H', Same H H' → E (.ref NM) none H'
theorem h_cut (T : Txt K mg A) : HaveM P w K mg base A.C_Stretches "cut" 7 ["self", "first", "many"] [] (sp_cut A.C_Stretches A.C_NotMapped) := by
  have H_Stretches_check_full := h_cf (P := P) (w := w) (base := base) T
  have H_Stretches_lay_amid := h_lay (P := P) (w := w) (base := base) T
  refine T.r_Stretches_cut.have sc_Stretches_cut (fun vs H Q E z => ?_) ?_
  · obtain ⟨p, a, rs, x, n, rfl, _⟩ := z; rfl
  · intro f cdv A' outer s H vs Q E hr z
    obtain ⟨p, a, rs, x, n, rfl, hS, ho, hlen, q⟩ := z
    obtain ⟨dx, vs, h1, h2, h3⟩ := id hS
    refine ⟨_, (pss_cons (ps_expr (pe_methE (pvM 0) T.cl_Stretches H_Stretches_check_full (hr.mono (by decide)) xw_def (pa_cons (pvM 1) (pa_cons (pvM 2) pa_nil))))
      (pss_one (ps_expr (pe_methE (pvM 0) T.cl_Stretches H_Stretches_lay_amid (hr.mono (by decide)) xw_def (pa_cons (pvM 1) (pa_cons (pvM 2) (pa_cons (pe_lst pa_nil) pa_nil))))))), ?_⟩
    unfold sp_cf sp_lay
    walk_at "wp"
    refine ⟨dx, _, h1, stF_no (by decide +kernel), a, rs, hS, ho, by omega, fun H1 s1 => ?_⟩
    by_cases c : ((pam rs x n).map (·.m)).sum = n
    · rw [if_pos c] at q
      rw [if_pos c]
      refine ⟨dx, _, s1 _ _ h1, stF_no (by decide +kernel), fun lp hlp => ?_⟩
      have s2 := same_upd (o := .lst []) s1 hlp
      exact ⟨a, rs, hS.same s2, ho, hlen, [], [], rfl, .nil, by decide, fun a' H' hS' hB => q a' H' hS' fun c o hc hne => hB c o (s2 c o hc) hne⟩
    · rw [if_neg c] at q
      rw [if_neg c]
      exact q _ s1

def rRn (r : Int) (y : Rn) : Rn := ⟨y.f, y.m, r, y.t⟩
def sp_guard (C BR NM : Addr) : Sp := fun vs H Q E => ∃ (p a : Addr) (rs : List Rn) (x n r : Int), vs = [.ref p, .int x, .int n, .int r] ∧ StAt C H p a rs ∧ OrdR rs ∧ rs.length ≤ 100000 ∧
  if 0 ≤ r ∧ r ≤ 3 then (if ((pam rs x n).map (·.m)).sum = n then ∀ a' H', StAt C H' p a' (layR rs x n ((pam rs x n).map (rRn r))) → Bu p H H' → Q .non H' else ∀ H', Same H H' → E (.ref NM) none H') else E (.ref BR) none H
theorem pam_len {rs : List Rn} {x n : Int} : (pam rs x n).length ≤ rs.length := by
  unfold pam cutR
  rw [List.length_map]
  refine Nat.le_trans (List.length_filter_le _ _) ?_
  rw [List.length_drop, List.length_take]
  omega
theorem h_guard (T : Txt K mg A) : HaveM P w K mg base A.C_Stretches "guard" 7 ["self", "first", "many", "rights"] [] (sp_guard A.C_Stretches A.C_BadRights A.C_NotMapped) := by
  have H_check_rights := h_cr (P := P) (w := w) (base := base) T
  have H_Stretches_check_full := h_cf (P := P) (w := w) (base := base) T
  have H_Stretches_parts_amid := h_parts (P := P) (w := w) (base := base) T
  have H_Stretches_lay_amid := h_lay (P := P) (w := w) (base := base) T
  refine T.r_Stretches_guard.have sc_Stretches_guard (fun vs H Q E z => ?_) ?_
  · obtain ⟨p, a, rs, x, n, r, rfl, _⟩ := z; rfl
  · intro f cdv A' outer s H vs Q E hr z
    obtain ⟨p, a, rs, x, n, r, rfl, hS, ho, hlen, q⟩ := z
    obtain ⟨dx, vs, h1, h2, h3⟩ := id hS
    refine ⟨_, (pss_cons (ps_expr (pe_callE H_check_rights (hr.mono (by decide)) xw_def (pa_cons (pvM 3) pa_nil)))
      (pss_cons (ps_expr (pe_methE (pvM 0) T.cl_Stretches H_Stretches_check_full (hr.mono (by decide)) xw_def (pa_cons (pvM 1) (pa_cons (pvM 2) pa_nil))))
      (pss_cons (ps_setC (i := 4) sc_Stretches_guard.nd rfl rfl rfl (pi_list (pe_methE (pvM 0) T.cl_Stretches H_Stretches_parts_amid (hr.mono (by decide)) xw_def (pa_cons (pvM 1) (pa_cons (pvM 2) pa_nil)))) (x := "part") (fs := ["rights"]) (ix := [3]) rfl rfl (fun _ _ _ _ _ _ => (pg_name (i := 0) (show (["part", "rights"] : List Str).Nodup by decide +kernel) rfl (Or.inl rfl))) (fun _ _ _ _ _ _ => pf_nil) (fun _ _ _ _ _ _ => (pe_tup (pa_cons (pe_ix (ix_tupC (K := K) rfl) (pvM 0) pe_int (fun _ _ => rfl)) (pa_cons (pe_ix (ix_tupC (K := K) rfl) (pvM 0) pe_int (fun _ _ => rfl)) (pa_cons (pvM 1) (pa_cons (pe_ix (ix_tupC (K := K) rfl) (pvM 0) pe_int (fun _ _ => rfl)) pa_nil)))))))
      (pss_one (ps_expr (pe_methE (pvM 0) T.cl_Stretches H_Stretches_lay_amid (hr.mono (by decide)) xw_def (pa_cons (pvM 1) (pa_cons (pvM 2) (pa_cons (pvM 4) pa_nil))))))))), ?_⟩
    unfold sp_cr sp_cf sp_parts sp_lay
    walk_at "wp"
    by_cases c : 0 ≤ r ∧ r ≤ 3
    · rw [if_pos c] at q
      rw [if_pos (by rw [within_int, decide_eq_true c.1, decide_eq_true c.2]; rfl)]
      refine ⟨dx, _, h1, stF_no (by decide +kernel), a, rs, hS, ho, by omega, fun H1 s1 => ?_⟩
      by_cases c2 : ((pam rs x n).map (·.m)).sum = n
      · rw [if_pos c2] at q
        rw [if_pos c2]
        refine ⟨dx, _, s1 _ _ h1, stF_no (by decide +kernel), a, rs, hS.same s1, ho, by omega, fun t us H2 s2 ht0 ht hU => ?_⟩
        have hul : us.length ≤ 100000 := by
          rw [Paired.length hU]
          exact Nat.le_trans pam_len hlen
        generalize hpm : pam rs x n = pt at *
        have hptl : us.length = pt.length := Paired.length hU
        refine ⟨⟨_, SqL.of ht⟩, fun D hD => ?_⟩
        refine comp_list (xs := us) (fun i ys σ H' => ∃ v, σ = [v, some (.int r)] ∧ Same H2 H' ∧ H' D = some (.lst ys) ∧ RunsAt H' ys ((pt.take i).map (rRn r))) ⟨_, rfl, same_upd same_refl hD, upd_same, .nil⟩ (fun i ys σ H' _ ⟨_, _, s3, _⟩ => SqL.of (s3 _ _ ht)) (fun i v ys σ H3 hi => ?_) (fun ys σ H3 => ?_)
        · rintro ⟨v0, rfl, s3, hDD, hys⟩
          obtain ⟨y, hy1, hy2⟩ := prd_get hU hi
          have hyx := hy2.same s3
          have htk : pt.take (i + 1) = pt.take i ++ [y] := by rw [List.take_add_one, hy1]; rfl
          have hyl : ys.length ≤ 100000 := by
            have h4 := Paired.length hys
            rw [List.length_map, List.length_take] at h4
            omega
          rw [htk, List.map_append]
          obtain ⟨c, cv, rfl, hc, hcv⟩ := id hyx
          walk_at "wp"
          refine ⟨_, SqT.of hc, _, rfl, _, SqT.of hc, _, rfl, _, SqT.of hc, _, rfl, fun tp htp => ?_⟩
          have s4 := same_upd (o := .tup [.int y.f, .int y.m, .int r, cv]) same_refl htp
          have hD2 := s4 _ _ hDD
          refine ⟨hD2, by omega, same_put (s3.trans s4) hD, ?_⟩
          refine prd_app (RunsAt.same2 (RunsAt.same hys s4) hD2 same_refl) (.cons (RunAt.same2 ⟨tp, cv, rfl, upd_same, hcv.same s4⟩ hD2 same_refl) .nil)
        · rintro ⟨v0, rfl, s3, hDD, hys⟩
          rw [hptl, List.take_length] at hys
          have s13 := s1.trans (s2.trans s3)
          refine ⟨dx, _, s13 _ _ h1, stF_no (by decide +kernel), a, rs, hS.same s13, ho, hlen, _, ys, hDD, hys, by rw [List.length_map]; omega, fun a' H4 hS4 hB4 => q _ _ hS4 fun c o hc hcp => hB4 c o (s13 _ _ hc) hcp⟩
      · rw [if_neg c2] at q
        rw [if_neg c2]
        exact q _ s1
    · rw [if_neg c] at q
      rw [if_neg (by rw [within_int]; simpa using c)]
      exact q

def dvT : Option (Int × Int) → Dv
  | none => .leaf .non
  | some (b, k) => .seq true [.leaf (.int b), .leaf (.int k)]
theorem int_self {i : Int} : eqV (.int i) (.int i) = true := eqV_self rfl
theorem dvT_self (t : Option (Int × Int)) : alike (dvT t) (dvT t) = true ∧ eqDv (dvT t) (dvT t) = true ∧ deep (dvT t) ≤ 1 := by
  cases t with
  | none => exact ⟨by simp [dvT, alike], by simp [dvT, eqDv, eqV], by simp [dvT, deep]⟩
  | some t =>
    obtain ⟨b, k⟩ := t
    refine ⟨by simp [dvT, alike, alikeL], by simp [dvT, eqDv, eqDvL, int_self], by simp [dvT, deep, deepL]⟩
theorem sees_tie {H : Hp} {v : V} : ∀ {t : Option (Int × Int)}, TieAt H v t → Sees K H (dvT t) v
  | none, h => ⟨h, rfl⟩
  | some (b, k), ⟨a, e, h⟩ => ⟨a, _, e, SqT.of h, _, _, rfl, ⟨rfl, rfl⟩, _, _, rfl, ⟨rfl, rfl⟩, rfl⟩
theorem st_new {C : Addr} {H : Hp} {x dx a : Addr} (h1 : H x = none) (h2 : H dx = none) (h4 : upd (upd H dx (.own x)) x (.ins C dx []) a = none) :
    StAt C (upd (upd (upd (upd H dx (.own x)) x (.ins C dx [])) a (.lst [])) x (.ins C dx (stF a))) x a [] ∧ Same H (upd (upd (upd (upd H dx (.own x)) x (.ins C dx [])) a (.lst [])) x (.ins C dx (stF a))) := by
  have hax : a ≠ x := fun e => by subst e; rw [upd_same] at h4; cases h4
  refine ⟨⟨dx, [], upd_same, by rw [upd_ne hax, upd_same], .nil⟩, fun b o hb => ?_⟩
  have hbx : b ≠ x := ne_of_none hb h1
  have hbd : b ≠ dx := ne_of_none hb h2
  have hba : b ≠ a := fun e => by subst e; rw [upd_ne hbx, upd_ne hbd, hb] at h4; cases h4
  rw [upd_ne hbx, upd_ne hba, upd_ne hbx, upd_ne hbd]
  exact hb

inductive Kk where
  | put
  | cut
  | grd
structure Dd where
  k : Kk
  f : Int
  e : Int
  r : Int
  t : Option (Int × Int)
def Kk.s : Kk → Str
  | .put => Str.ofString "put"
  | .cut => Str.ofString "cut"
  | .grd => Str.ofString "guard"
abbrev Pgs := Option (Int × Option (Int × Int))
def Dd.tie (d : Dd) (p : Int) : Option (Int × Int) := d.t.map fun t => (t.1, t.2 + p - d.f)
def sem : List Dd → Int → Pgs
  | [], _ => none
  | d :: ds, p => if d.f ≤ p ∧ p < d.e then (match d.k with
      | .cut => none
      | .put => some (d.r, d.tie p)
      | .grd => (sem ds p).map fun y => (d.r, y.2)) else sem ds p
def stB : List Dd → Option Int → Int → Pgs
  | [], _, _ => none
  | d :: ds, acc, p => if d.f ≤ p ∧ p < d.e then (match d.k with
      | .cut => none
      | .put => some (acc.getD d.r, d.tie p)
      | .grd => stB ds (some (acc.getD d.r)) p) else stB ds acc p
theorem stB_sem {p : Int} : ∀ {ds : List Dd} {acc : Option Int}, stB ds acc p = (sem ds p).map fun y => (acc.getD y.1, y.2)
  | [], _ => rfl
  | d :: ds, acc => by
    unfold stB sem
    by_cases c : d.f ≤ p ∧ p < d.e
    · rw [if_pos c, if_pos c]
      cases d.k with
      | cut => rfl
      | put => rfl
      | grd =>
        show stB ds (some (acc.getD d.r)) p = _
        rw [stB_sem]
        cases sem ds p with
        | none => rfl
        | some y => rfl
    · rw [if_neg c, if_neg c]
      exact stB_sem
theorem stB_none {ds : List Dd} {p : Int} : stB ds none p = sem ds p := by
  rw [stB_sem]
  cases sem ds p with
  | none => rfl
  | some y => rfl
def shf (y : Int × Option (Int × Int)) : Int × Option (Int × Int) := (y.1, y.2.map fun t => (t.1, t.2 + 1))
theorem sem_on {p : Int} : ∀ {ds : List Dd}, (∀ d ∈ ds, d.f ≠ p + 1 ∧ d.e ≠ p + 1) → sem ds (p + 1) = (sem ds p).map shf
  | [], _ => rfl
  | d :: ds, h => by
    have ih := sem_on (p := p) fun d hd => h d (List.mem_cons_of_mem _ hd)
    obtain ⟨h1, h2⟩ := h d (List.mem_cons_self ..)
    unfold sem
    by_cases c : d.f ≤ p ∧ p < d.e
    · rw [if_pos c, if_pos (by omega)]
      cases d.k with
      | cut => rfl
      | put =>
        show some (d.r, d.tie (p + 1)) = some (shf (d.r, d.tie p))
        unfold shf Dd.tie
        cases d.t with
        | none => rfl
        | some t =>
          show some (d.r, some (t.1, t.2 + (p + 1) - d.f)) = some (d.r, some (t.1, t.2 + p - d.f + 1))
          rw [show t.2 + (p + 1) - d.f = t.2 + p - d.f + 1 by omega]
      | grd =>
        show (sem ds (p + 1)).map _ = _
        rw [ih]
        cases sem ds p with
        | none => rfl
        | some y => rfl
    · rw [if_neg c, if_neg (by omega)]
      exact ih
def bds (ds : List Dd) : List Int := ds.flatMap fun d => [d.f, d.e]
theorem bds_not {ds : List Dd} {p : Int} (h : p ∉ bds ds) : ∀ d ∈ ds, d.f ≠ p ∧ d.e ≠ p := fun d hd => ⟨fun e => h (List.mem_flatMap.mpr ⟨d, hd, by rw [e]; exact List.mem_cons_self ..⟩), fun e => h (List.mem_flatMap.mpr ⟨d, hd, by rw [e]; exact List.mem_cons_of_mem _ (List.mem_cons_self ..)⟩)⟩
theorem sem_back {ds : List Dd} {a : Int} : ∀ (n : Nat), ∃ b, a ≤ b ∧ b ≤ a + n ∧ (b = a ∨ b ∈ bds ds) ∧ ((sem ds (a + n) = none) ↔ (sem ds b = none))
  | 0 => ⟨a, by omega, by omega, .inl rfl, by rw [show a + ((0 : Nat) : Int) = a by omega]⟩
  | n + 1 => by
    by_cases c : a + n + 1 ∈ bds ds
    · exact ⟨a + n + 1, by omega, by omega, .inr c, by rw [show a + ((n + 1 : Nat) : Int) = a + n + 1 by omega]⟩
    · obtain ⟨b, h1, h2, h3, h4⟩ := sem_back (ds := ds) (a := a) n
      refine ⟨b, h1, by omega, h3, ?_⟩
      rw [show a + ((n + 1 : Nat) : Int) = a + n + 1 by omega, sem_on (bds_not c), ← h4]
      cases sem ds (a + n) with
      | none => simp
      | some y => simp
theorem sem_far {ds : List Dd} {a e p : Int} (h1 : a ≤ p) (h2 : p < e) : ∃ b, (b = a ∨ (b ∈ bds ds ∧ a < b ∧ b < e)) ∧ (a ≤ b ∧ b < e) ∧ ((sem ds p = none) ↔ (sem ds b = none)) := by
  obtain ⟨b, q1, q2, q3, q4⟩ := sem_back (ds := ds) (a := a) (p - a).toNat
  rw [show a + ((p - a).toNat : Int) = p by omega] at q4
  refine ⟨b, ?_, ⟨q1, by omega⟩, q4⟩
  by_cases c : b = a
  · exact .inl c
  · exact .inr ⟨q3.resolve_left c, by omega, by omega⟩
theorem starts {rs : List Rn} {ds : List Dd} (o : OrdR rs) (l : LstR rs) (h : ∀ p, pm rs p = sem ds p) : ∀ r ∈ rs, r.f ∈ bds ds := by
  intro r hr
  refine Decidable.byContradiction fun c => ?_
  obtain ⟨A, B, rfl⟩ := List.append_of_mem hr
  have hm := o.2 r hr
  have e1 : pm (A ++ r :: B) r.f = some (r.r, tf r r.f) := pm_mem o hr (by omega) (by unfold enR; omega)
  have e2 := sem_on (p := r.f - 1) (ds := ds) (by rw [show r.f - 1 + 1 = r.f by omega]; exact bds_not c)
  rw [show r.f - 1 + 1 = r.f by omega, ← h, ← h, e1] at e2
  cases e3 : pm (A ++ r :: B) (r.f - 1) with
  | none => rw [e3] at e2; cases e2
  | some y =>
    rw [e3] at e2
    have e2 : (r.r, tf r r.f) = shf y := Option.some.inj e2
    obtain ⟨q, hq, q1, q2, q3⟩ := pm_some e3
    have hA : q ∈ A := by
      rcases List.mem_append.mp hq with h | h
      · exact h
      · rcases List.mem_cons.mp h with e | h
        · rw [e] at q1; omega
        · have := (List.pairwise_cons.mp (ord_right o).1).1 q h
          unfold enR at this; omega
    have hord := ord_amid o q hA r (List.mem_cons_self ..)
    have qe : enR q = r.f := by omega
    obtain ⟨A1, A2, rfl⟩ := List.append_of_mem hA
    cases A2 with
    | cons s A3 =>
      have h1 := ord_left o
      have h2 := (List.pairwise_cons.mp (ord_right h1).1).1 s (List.mem_cons_self ..)
      have h3 := ord_amid o s (List.mem_append_right _ (List.mem_cons_of_mem _ (List.mem_cons_self ..))) r (List.mem_cons_self ..)
      have h4 := o.2 s (List.mem_append_left _ (List.mem_append_right _ (List.mem_cons_of_mem _ (List.mem_cons_self ..))))
      unfold enR at h2 h3 qe; omega
    | nil =>
      have hg := lst_amid (xs := A1 ++ [q]) (ys := r :: B) (a := q) (b := r) l (by simp) rfl
      have : go q r = true := by
        unfold go
        rw [q3] at e2
        unfold shf at e2
        have e4 := congrArg Prod.fst e2
        have e5 := congrArg Prod.snd e2
        have e4 : r.r = q.r := e4
        have e5 : tf r r.f = (tf q (r.f - 1)).map fun t => (t.1, t.2 + 1) := e5
        rw [tf_at] at e5
        rw [decide_eq_true qe, decide_eq_true e4.symm, Bool.and_self, Bool.true_and]
        refine decide_eq_true ?_
        rw [e5]
        unfold tf
        cases q.t with
        | none => rfl
        | some t =>
          show some (t.1, t.2 + r.f - q.f) = some (t.1, t.2 + (r.f - 1) - q.f + 1)
          rw [show t.2 + r.f - q.f = t.2 + (r.f - 1) - q.f + 1 by omega]
      rw [this] at hg; cases hg
theorem bds_len {ds : List Dd} : (bds ds).length = 2 * ds.length := by
  unfold bds
  induction ds with
  | nil => rfl
  | cons d l ih => rw [List.flatMap_cons, List.length_append, ih]; show 2 + 2 * l.length = 2 * (l.length + 1); omega
theorem nd_sub {α : Type} [DecidableEq α] : ∀ {xs ys : List α}, xs.Nodup → (∀ x ∈ xs, x ∈ ys) → xs.length ≤ ys.length
  | [], _, _, _ => Nat.zero_le _
  | x :: xs, ys, nd, h => by
    obtain ⟨n1, n2⟩ := List.nodup_cons.mp nd
    have := nd_sub (ys := ys.erase x) n2 fun y hy => (List.mem_erase_of_ne (fun e => n1 (by rw [← e]; exact hy))).mpr (h y (List.mem_cons_of_mem _ hy))
    have hx := h x (List.mem_cons_self ..)
    rw [List.length_erase_of_mem hx] at this
    have : 0 < ys.length := List.length_pos_of_mem hx
    rw [List.length_cons]; omega
theorem few {rs : List Rn} {ds : List Dd} (o : OrdR rs) (l : LstR rs) (h : ∀ p, pm rs p = sem ds p) : rs.length ≤ 2 * ds.length := by
  rw [← bds_len, ← List.length_map (f := Rn.f) (as := rs)]
  refine nd_sub ?_ fun x hx => ?_
  · rw [List.nodup_iff_pairwise_ne, List.pairwise_map]
    refine List.Pairwise.imp_of_mem ?_ o.1
    intro a b ha hb hab e
    have := o.2 a ha
    unfold enR at hab; omega
  · obtain ⟨r, hr, rfl⟩ := List.mem_map.mp hx
    exact starts o l h r hr
structure Tr (rs : List Rn) (ds : List Dd) : Prop where
  o : OrdR rs
  l : LstR rs
  h : ∀ p, pm rs p = sem ds p
theorem Tr.put {rs : List Rn} {ds : List Dd} {d : Dd} (h : Tr rs ds) (hd : d.f < d.e) (hk : d.k = .put) : Tr (layR rs d.f (d.e - d.f) [⟨d.f, d.e - d.f, d.r, d.t⟩]) (d :: ds) := by
  have L := lay_ok (n := d.e - d.f) (a := d.f) (parts := [⟨d.f, d.e - d.f, d.r, d.t⟩]) h.o h.l (by omega) (ord_one (by show 0 < d.e - d.f; omega)) (fun x hx => by rw [List.mem_singleton.mp hx]; unfold enR; simp)
  refine ⟨L.1, L.2.1, fun p => ?_⟩
  rw [L.2.2]
  unfold sem
  rw [hk, show d.f + (d.e - d.f) = d.e by omega]
  by_cases c : d.f ≤ p ∧ p < d.e
  · rw [if_pos c, if_pos c]
    show (if d.f ≤ p ∧ p < d.f + (d.e - d.f) then _ else _) = _
    rw [if_pos (by omega)]
    rfl
  · rw [if_neg c, if_neg c]; exact h.h p
theorem Tr.cut {rs : List Rn} {ds : List Dd} {d : Dd} (h : Tr rs ds) (hd : d.f < d.e) (hk : d.k = .cut) : Tr (layR rs d.f (d.e - d.f) []) (d :: ds) := by
  have L := lay_ok (n := d.e - d.f) (a := d.f) (parts := []) h.o h.l (by omega) ⟨List.Pairwise.nil, fun _ h => nomatch h⟩ (fun x hx => by cases hx)
  refine ⟨L.1, L.2.1, fun p => ?_⟩
  rw [L.2.2]
  unfold sem
  rw [hk, show d.f + (d.e - d.f) = d.e by omega]
  by_cases c : d.f ≤ p ∧ p < d.e
  · rw [if_pos c, if_pos c]; rfl
  · rw [if_neg c, if_neg c]; exact h.h p
theorem Tr.grd {rs : List Rn} {ds : List Dd} {d : Dd} (h : Tr rs ds) (hd : d.f < d.e) (hk : d.k = .grd) : Tr (layR rs d.f (d.e - d.f) ((pam rs d.f (d.e - d.f)).map (rRn d.r))) (d :: ds) := by
  obtain ⟨p1, p2, p3⟩ := pam_ok (a := d.f) (n := d.e - d.f) h.o (by omega)
  have L := lay_ok (n := d.e - d.f) (a := d.f) (parts := (pam rs d.f (d.e - d.f)).map (rRn d.r)) h.o h.l (by omega) (ord_rights p1) (fun x hx => by
    obtain ⟨y, hy, rfl⟩ := List.mem_map.mp hx
    exact p2 y hy)
  refine ⟨L.1, L.2.1, fun p => ?_⟩
  rw [L.2.2]
  unfold sem
  rw [hk, show d.f + (d.e - d.f) = d.e by omega] at *
  by_cases c : d.f ≤ p ∧ p < d.e
  · rw [if_pos c, if_pos c]
    have := pm_rights (q := d.r) (L := pam rs d.f (d.e - d.f)) (p := p)
    show pm ((pam rs d.f (d.e - d.f)).map fun x => (⟨x.f, x.m, d.r, x.t⟩ : Rn)) p = _
    rw [this, p3, if_pos c, h.h]
  · rw [if_neg c, if_neg c]; exact h.h p

def DdAt (H : Hp) (v : V) (d : Dd) : Prop := ∃ a tv, v = .ref a ∧ H a = some (.tup [.str d.k.s, .int d.f, .int d.e, .int d.r, tv]) ∧ TieAt H tv d.t
theorem TieAt.tp {H H' : Hp} {v : V} (k : ∀ c us, H c = some (.tup us) → H' c = some (.tup us)) : ∀ {t : Option (Int × Int)}, TieAt H v t → TieAt H' v t
  | none, h => h
  | some (_, _), ⟨a, e, h⟩ => ⟨a, e, k _ _ h⟩
theorem DdAt.tp {H H' : Hp} {v : V} {d : Dd} (k : ∀ c us, H c = some (.tup us) → H' c = some (.tup us)) (h : DdAt H v d) : DdAt H' v d := by
  obtain ⟨a, tv, e, h1, h2⟩ := h
  exact ⟨a, tv, e, k _ _ h1, h2.tp k⟩
theorem RunAt.tp {H H' : Hp} {v : V} {r : Rn} (k : ∀ c us, H c = some (.tup us) → H' c = some (.tup us)) (h : RunAt H v r) : RunAt H' v r := by
  obtain ⟨a, tv, e, h1, h2⟩ := h
  exact ⟨a, tv, e, k _ _ h1, h2.tp k⟩
def PrAt (H : Hp) (v : V) : Pgs → Prop
  | none => ∃ a, v = .ref a ∧ H a = some (.tup [.non, .non])
  | some (r, t) => ∃ a tv, v = .ref a ∧ H a = some (.tup [.int r, tv]) ∧ TieAt H tv t
theorem PrAt.tp {H H' : Hp} {v : V} (k : ∀ c us, H c = some (.tup us) → H' c = some (.tup us)) : ∀ {y : Pgs}, PrAt H v y → PrAt H' v y
  | none, ⟨a, e, h⟩ => ⟨a, e, k _ _ h⟩
  | some (_, _), ⟨a, tv, e, h, h2⟩ => ⟨a, tv, e, k _ _ h, h2.tp k⟩
abbrev DdsAt (H : Hp) : List V → List Dd → Prop := Paired (DdAt H)
theorem same_tp {H H' : Hp} (s : Same H H') : ∀ c us, H c = some (.tup us) → H' c = some (.tup us) := fun _ _ h => s _ _ h
theorem new_at {H : Hp} {a : Addr} {o : HO} (h : H a = none) : Same H (upd H a o) ∧ upd H a o a = some o := ⟨same_upd same_refl h, upd_same⟩
theorem ifn {p q : Prop} {b : Bool} (h : b = false) (x : q) : if b = true then p else q := by rw [h]; exact x
theorem ifp {p q : Prop} {b : Bool} (h : b = true) (x : p) : if b = true then p else q := by rw [h]; exact x
def sp_part : Sp := fun vs H Q _ => ∃ c pl m : Int, vs = [.int c, .int pl, .int m] ∧ 0 ≤ pl ∧ pl ≤ 4 ∧ 0 < m ∧ ∀ r H', Same H H' → 0 ≤ r → r < m → Q (.int r) H'
theorem h_part (T : Txt K mg A) : Have P w K mg base "_law_part" 1 ["_law_cell", "_law_place_here", "_law_many"] [] sp_part := by
  refine T.r_l_part.have sc_l_part (fun vs H Q E z => ?_) ?_
  · obtain ⟨c, pl, m, rfl, _⟩ := z; rfl
  · intro f cdv A' outer s H vs Q E hr z
    obtain ⟨c, pl, m, rfl, h0, h3, hm, q⟩ := z
    refine ⟨_, (@pss_cons _ _ _ _ _ (@ps_set _ _ 3 _ _ _ _ sc_l_part.nd rfl (Or.inl rfl) (@pe_ix _ _ _ _ _ _ _ ix_lst (@pe_lst _ _ _ _ (@pa_cons _ _ _ _ _ pe_int (@pa_cons _ _ _ _ _ pe_int (@pa_cons _ _ _ _ _ pe_int (@pa_cons _ _ _ _ _ pe_int (@pa_cons _ _ _ _ _ pe_int pa_nil rfl) rfl) rfl) rfl) rfl)) (pvM 1) (fun _ _ => rfl)) rfl (Or.inl rfl))
      (pss_one (ps_ret (pe_op op_mod (pe_op op_mod (pe_op op_mul (pe_op op_add (pe_op op_mod (pvM 0) (pvM 3)) pe_int) pe_int) (pvM 3)) (pvM 2))))), ?_⟩
    walk_at "wp"
    intro p hp
    obtain ⟨b1, c1⟩ := new_at (o := .lst [V.int 7919, V.int 6007, V.int 5003, V.int 9973, V.int 8009]) hp
    obtain ⟨x, hx, hx0⟩ : ∃ x : Int, atI [V.int 7919, V.int 6007, V.int 5003, V.int 9973, V.int 8009] pl = some (.int x) ∧ 0 < x := by
      have : pl = 0 ∨ pl = 1 ∨ pl = 2 ∨ pl = 3 ∨ pl = 4 := by omega
      rcases this with rfl | rfl | rfl | rfl | rfl
      · exact ⟨7919, atI_nat (j := 0) rfl, by decide⟩
      · exact ⟨6007, atI_nat (j := 1) rfl, by decide⟩
      · exact ⟨5003, atI_nat (j := 2) rfl, by decide⟩
      · exact ⟨9973, atI_nat (j := 3) rfl, by decide⟩
      · exact ⟨8009, atI_nat (j := 4) rfl, by decide⟩
    refine ⟨_, hx, x, rfl, hx0, x, rfl, hx0, hm, q _ _ b1 (Int.emod_nonneg _ (by omega)) (Int.emod_lt_of_pos _ hm)⟩
def sp_lwh : Sp := fun vs H Q _ => ∃ a : Int, vs = [.int a] ∧ Q (.bl true) H
theorem h_lwh (T : Txt K mg A) : Have P w K mg base "_law_whole" 1 ["_law_thing"] [] sp_lwh := by
  refine T.r_l_whole.have sc_l_whole (fun vs H Q E z => ?_) ?_
  · obtain ⟨a, rfl, _⟩ := z; rfl
  · intro f cdv A' outer s H vs Q E hr z
    obtain ⟨a, rfl, q⟩ := z
    refine ⟨_, (pss_one (ps_ret (pe_and (pe_callB call_isi rfl T.b_isinstance PyProof.Rows.boot_isinstance (pa_cons (pvM 0) (pa_cons (pe_bltnE (n := "int") rfl T.b_int PyProof.Rows.boot_int) pa_nil))) (pe_one (pe_not (pe_callB call_isi rfl T.b_isinstance PyProof.Rows.boot_isinstance (pa_cons (pvM 0) (pa_cons (pe_bltnE (n := "bool") rfl T.b_bool PyProof.Rows.boot_bool) pa_nil)))))))), ?_⟩
    walk_at "wp"
    exact ⟨by decide, ifp rfl ⟨by decide, q⟩⟩
def accV : Option Int → V
  | none => .non
  | some r => .int r
def StI (dl : Addr) (p : Int) (H : Hp) (R : List Dd) (i : Nat) (σ : St) (G : Hp) : Prop := ∃ v3 acc, σ = [some (.ref dl), some (.int p), some (accV acc), v3] ∧ Same H G ∧ sem R p = stB (R.drop i) acc p
theorem ks_ne {k : Kk} : (V.str k.s = V.str (Str.ofString "cut") ↔ k = .cut) ∧ (V.str k.s = V.str (Str.ofString "put") ↔ k = .put) ∧ (V.str k.s = V.str (Str.ofString "guard") ↔ k = .grd) := by
  have n1 : Str.ofString "put" ≠ Str.ofString "cut" := by decide +kernel
  have n2 : Str.ofString "guard" ≠ Str.ofString "cut" := by decide +kernel
  have n3 : Str.ofString "guard" ≠ Str.ofString "put" := by decide +kernel
  cases k with
  | put => exact ⟨⟨fun z => absurd (V.str.inj z) n1, fun z => nomatch z⟩, ⟨fun _ => rfl, fun _ => rfl⟩, ⟨fun z => absurd (V.str.inj z).symm n3, fun z => nomatch z⟩⟩
  | cut => exact ⟨⟨fun _ => rfl, fun _ => rfl⟩, ⟨fun z => absurd (V.str.inj z).symm n1, fun z => nomatch z⟩, ⟨fun z => absurd (V.str.inj z).symm n2, fun z => nomatch z⟩⟩
  | grd => exact ⟨⟨fun z => absurd (V.str.inj z) n2, fun z => nomatch z⟩, ⟨fun z => absurd (V.str.inj z) n3, fun z => nomatch z⟩, ⟨fun _ => rfl, fun _ => rfl⟩⟩
def sp_stt : Sp := fun vs H Q _ => ∃ (dl : Addr) (dvs : List V) (ds : List Dd) (p : Int), vs = [.ref dl, .int p] ∧ H dl = some (.lst dvs) ∧ DdsAt H dvs ds ∧ ds.length ≤ 100 ∧ ∀ v H', Same H H' → PrAt H' v (sem ds.reverse p) → Q v H'
theorem h_stt (T : Txt K mg A) : Have P w K mg base "_law_state" 1 ["_law_deeds", "_law_page"] [] sp_stt := by
  refine T.r_l_state.have sc_l_state (fun vs H Q E z => ?_) ?_
  · obtain ⟨dl, dvs, ds, p, rfl, _⟩ := z; rfl
  · intro f cdv A' outer s H vs Q E hr z
    obtain ⟨dl, dvs, ds, p, rfl, hl, hD, hn, q⟩ := z
    refine ⟨_, (pss_cut (ps_set (i := 2) sc_l_state.nd rfl (Or.inl rfl) pe_non)
      (pss_cons (ps_forE PassesOwn.leaving rfl (pi_rev rfl T.b_reversed (pa_cons (pvM 0) pa_nil)) (pg_name (i := 3) sc_l_state.nd rfl (Or.inl rfl)) (pss_one (ps_if (pt_chain op_le op_lt (pe_ix ix_tup (pvM 3) pe_int (fun _ _ => rfl)) (pvM 1) (pe_ix ix_tup (pvM 3) pe_int (fun _ _ => rfl))) (pss_cut (ps_if (pt_cmpR op_eq (pe_ix ix_tup (pvM 3) pe_int (fun _ _ => rfl)) pe_str (nomark _)) (pss_one (ps_ret (pe_tup (pa_cons pe_non (pa_cons pe_non pa_nil))))) pss_nil)
      (pss_cut (ps_if (pt_cmpR op_isN (pvM 2) pe_non (nomark _)) (pss_one (ps_set (i := 2) sc_l_state.nd rfl (Or.inl rfl) (pe_ix ix_tup (pvM 3) pe_int (fun _ _ => rfl)))) pss_nil)
      (pss_cut (ps_if (PW.pt (pw_and (pt_cmpR op_eq (pe_ix ix_tup (pvM 3) pe_int (fun _ _ => rfl)) pe_str (nomark _)) (pw_and1 (pt_cmpR op_isN (pe_ix ix_tup (pvM 3) pe_int (fun _ _ => rfl)) pe_non (nomark _))))) (pss_one (ps_ret (pe_tup (pa_cons (pvM 2) (pa_cons pe_non pa_nil))))) pss_nil)
      (pss_one (ps_if (pt_cmpR op_eq (pe_ix ix_tup (pvM 3) pe_int (fun _ _ => rfl)) pe_str (nomark _)) (pss_one (ps_ret (pe_tup (pa_cons (pvM 2) (pa_cons (pe_tup (pa_cons (pe_ix ix_tup (pe_ix ix_tup (pvM 3) pe_int (fun _ _ => rfl)) pe_int (fun _ _ => rfl)) (pa_cons (pe_op op_sub (pe_op op_add (pe_ix ix_tup (pe_ix ix_tup (pvM 3) pe_int (fun _ _ => rfl)) pe_int (fun _ _ => rfl)) (pvM 1)) (pe_ix ix_tup (pvM 3) pe_int (fun _ _ => rfl))) pa_nil))) pa_nil))))) pss_nil))))) pss_nil)))
      (pss_one (ps_ret (pe_tup (pa_cons pe_non (pa_cons pe_non pa_nil))))))), ?_⟩
    refine ⟨fun σ G => σ = [some (.ref dl), some (.int p), some .non, none] ∧ G = H, ?_, fun σ1 G1 => ?_⟩
    · walk_at "wp"
    rintro ⟨rfl, rfl⟩
    walk_at "wp"
    unfold iRev
    walk_at "wp"
    have hdl := Paired.length hD
    refine ⟨dvs, SqL.of hl, loop_rev (xs := dvs) (StI dl p G1 ds.reverse) ⟨_, none, rfl, same_refl, by rw [List.drop_zero, stB_none]⟩ (fun i σ G _ ⟨_, _, _, e, _⟩ => SqL.of (e _ _ hl)) (fun i x σ G hx hi => ?_) (fun σ G => ?_)⟩
    · rintro ⟨v3, acc, rfl, s1, hst⟩
      obtain ⟨d, hd, hx2⟩ := prd_get hD hx
      have hrv : ds.reverse[i]? = some d := by rw [List.getElem?_reverse (by omega), ← hdl]; exact hd
      have hil := (List.getElem?_eq_some_iff.mp hrv).1
      have hdr : ds.reverse.drop i = d :: ds.reverse.drop (i + 1) := by
        rw [List.drop_eq_getElem_cons hil]
        rw [List.getElem?_eq_getElem hil] at hrv
        rw [Option.some.inj hrv]
      rw [hdr] at hst
      obtain ⟨a, tv, rfl, ha, ht⟩ := hx2
      have ha1 := s1 _ _ ha
      have ht1 := ht.tp (same_tp s1)
      walk_at "wp"
      have out : ¬ (d.f ≤ p ∧ p < d.e) → StI dl p G1 ds.reverse (i + 1) [some (.ref dl), some (.int p), some (accV acc), some (.ref a)] G := fun c => ⟨_, acc, rfl, s1, by rw [hst]; show stB (d :: _) acc p = _; rw [stB, if_neg c]⟩
      refine ⟨_, SqT.of ha1, _, atI_nat (j := 1) rfl, d.f, rfl, ite2 (fun h1 => ⟨_, SqT.of ha1, _, atI_nat (j := 2) rfl, d.e, rfl, ite2 (fun h2 => ?_) (fun h2 => out fun c => h2 c.2)⟩) (fun h1 => out fun c => h1 c.1)⟩
      have hcut : d.k = .cut → sem ds.reverse p = none := fun e => by rw [hst]; show stB (d :: _) acc p = _; rw [stB, if_pos ⟨h1, h2⟩, e]
      have hput : d.k = .put → sem ds.reverse p = some (acc.getD d.r, d.tie p) := fun e => by rw [hst]; show stB (d :: _) acc p = _; rw [stB, if_pos ⟨h1, h2⟩, e]
      have hgrd : d.k = .grd → sem ds.reverse p = stB (ds.reverse.drop (i + 1)) (some (acc.getD d.r)) p := fun e => by rw [hst]; show stB (d :: _) acc p = _; rw [stB, if_pos ⟨h1, h2⟩, e]
      clear hst
      refine ⟨fun σ G' => σ = [some (.ref dl), some (.int p), some (accV acc), some (.ref a)] ∧ G' = G ∧ d.k ≠ .cut, ?_, fun σ2 G2 => ?_⟩
      · walk_at "wp"
        refine ⟨_, SqT.of ha1, _, atI_nat (j := 0) rfl, ?_⟩
        refine ⟨rfl, ite2 (fun e tp htp => ?_) (fun e z => e (ks_ne.1.mpr z))⟩
        exact q _ _ (s1.trans (new_at htp).1) (by rw [hcut (ks_ne.1.mp e)]; exact ⟨tp, rfl, (new_at htp).2⟩)
      rintro ⟨rfl, rfl, hk⟩
      refine ⟨fun σ G' => σ = [some (.ref dl), some (.int p), some (.int (acc.getD d.r)), some (.ref a)] ∧ G' = G2, ?_, fun σ3 G3 => ?_⟩
      · cases acc with
        | none =>
          unfold accV
          walk_at "wp"
          exact ⟨_, SqT.of ha1, _, atI_nat (j := 3) rfl, rfl⟩
        | some r0 =>
          unfold accV
          walk_at "wp"
          rw [if_neg (fun z => nomatch z)]
          rfl
      rintro ⟨rfl, rfl⟩
      refine ⟨fun σ G' => σ = [some (.ref dl), some (.int p), some (.int (acc.getD d.r)), some (.ref a)] ∧ G' = G3 ∧ ¬ (d.k = .put ∧ d.t = none), ?_, fun σ4 G4 => ?_⟩
      · walk_at "wp"
        refine ⟨_, SqT.of ha1, _, atI_nat (j := 0) rfl, rfl, ite2 (fun e => ⟨_, SqT.of ha1, _, atI_nat (j := 4) rfl, ?_⟩) (fun e => ifn rfl fun z => e (ks_ne.2.1.mpr z.1))⟩
        cases ht9 : d.t with
        | none =>
          rw [ht9] at ht1
          obtain rfl : tv = .non := ht1
          rw [if_pos rfl]
          intro tp htp
          refine q _ _ (s1.trans (new_at htp).1) ?_
          rw [hput (ks_ne.2.1.mp e)]
          exact ⟨tp, .non, rfl, (new_at htp).2, by unfold Dd.tie; rw [ht9]; rfl⟩
        | some y =>
          rw [ht9] at ht1
          obtain ⟨b, k⟩ := y
          obtain ⟨ta, rfl, _⟩ := ht1
          rw [if_neg (fun z => nomatch z)]
          exact fun z => nomatch z.2
      rintro ⟨rfl, rfl, hk2⟩
      walk_at "wp"
      refine ⟨_, SqT.of ha1, _, atI_nat (j := 0) rfl, rfl, ite2 (fun e => ?_) (fun e => ?_)⟩
      · have ep := ks_ne.2.1.mp e
        cases ht9 : d.t with
        | none => exact absurd ⟨ep, ht9⟩ hk2
        | some y =>
          obtain ⟨b, k⟩ := y
          rw [ht9] at ht1
          obtain ⟨ta, rfl, hta⟩ := ht1
          refine ⟨_, SqT.of ha1, _, atI_nat (j := 4) rfl, ta, rfl, _, SqT.of hta, .int b, atI_nat (j := 0) rfl, _, SqT.of ha1, _, atI_nat (j := 4) rfl, ta, rfl, _, SqT.of hta, _, atI_nat (j := 1) rfl, k, rfl, _, SqT.of ha1, _, atI_nat (j := 1) rfl, d.f, rfl, fun t1 ht1 t2 ht2 => ?_⟩
          obtain ⟨b1, c1⟩ := new_at (o := .tup [V.int b, V.int (k + p - d.f)]) ht1
          refine q _ _ ((s1.trans b1).trans (new_at ht2).1) ?_
          rw [hput ep]
          exact ⟨t2, .ref t1, rfl, (new_at ht2).2, by unfold Dd.tie; rw [ht9]; exact ⟨t1, rfl, (new_at ht2).1 _ _ c1⟩⟩
      · refine ⟨_, some (acc.getD d.r), rfl, s1, hgrd ?_⟩
        cases hkk : d.k with
        | put => exact absurd (ks_ne.2.1.mpr hkk) e
        | cut => exact absurd hkk hk
        | grd => rfl
    · rintro ⟨v3, acc, rfl, s1, hst⟩
      walk_at "wp"
      intro tp htp
      rw [List.drop_eq_nil_of_le (by rw [List.length_reverse]; omega)] at hst
      exact q _ _ (s1.trans (new_at htp).1) (by rw [hst]; exact ⟨tp, rfl, (new_at htp).2⟩)

def MpI (f e : Int) (ds : List Dd) (H : Hp) (i : Nat) (sl : Addr) (G : Hp) : Prop := ∃ xs : List Int, Same H G ∧ G sl = some (.lst (xs.map V.int)) ∧ (∀ b, b ∈ xs ↔ b = f ∨ (b ∈ bds (ds.take i) ∧ f < b ∧ b < e)) ∧ xs.length ≤ 1 + 2 * i
theorem bds_take {ds : List Dd} {i : Nat} {d : Dd} (h : ds[i]? = some d) : bds (ds.take (i + 1)) = bds (ds.take i) ++ [d.f, d.e] := by
  unfold bds
  rw [List.take_add_one, h]
  show List.flatMap _ (ds.take i ++ [d]) = _
  rw [List.flatMap_append]
  rfl
theorem bds_rev {ds : List Dd} {b : Int} : b ∈ bds ds.reverse ↔ b ∈ bds ds := by
  unfold bds
  simp only [List.mem_flatMap, List.mem_reverse]
def sp_mpd : Sp := fun vs H Q _ => ∃ (dl : Addr) (dvs : List V) (ds : List Dd) (f e : Int), vs = [.ref dl, .int f, .int e] ∧ H dl = some (.lst dvs) ∧ DdsAt H dvs ds ∧ ds.length ≤ 100 ∧ f < e ∧ ∀ t b1 b2 H', Same H H' → H' t = some (.tup [.bl b1, .bl b2]) → (b1 = true ↔ ∃ p, f ≤ p ∧ p < e ∧ sem ds.reverse p ≠ none) → (b2 = true ↔ ∀ p, f ≤ p → p < e → sem ds.reverse p ≠ none) → Q (.ref t) H'
theorem h_mpd (T : Txt K mg A) : Have P w K mg base "_law_mapped" 2 ["_law_deeds", "_law_first", "_law_behind"] [] sp_mpd := by
  have H_l_state := h_stt (P := P) (w := w) (base := base) T
  refine T.r_l_mapped.have sc_l_mapped (fun vs H Q E z => ?_) ?_
  · obtain ⟨dl, dvs, ds, f, e, rfl, _⟩ := z; rfl
  · intro f' cdv A' outer s H vs Q E hr z
    obtain ⟨dl, dvs, ds, f, e, rfl, hl, hD, hn, hfe, q⟩ := z
    have hz := PySem.sizeLine_eq
    have hdl := Paired.length hD
    have hDD := hD
    refine ⟨_, (pss_cut (ps_set (i := 3) sc_l_mapped.nd rfl (Or.inl rfl) (pe_lst (pa_cons (pvM 1) pa_nil)))
      (pss_cut (ps_forE PassesOwn.leaving rfl (pi_list (pvM 0)) (pg_name (i := 4) sc_l_mapped.nd rfl (Or.inl rfl)) (pss_one (ps_set (i := 3) sc_l_mapped.nd rfl (Or.inl rfl) (pe_op op_cat (pvM 3) (pe_comp rfl (pi_tup (pe_slice sl_tup (pvM 4) (po_some pe_int) (po_some pe_int))) (x := "_law_page") (fs := ["_law_first", "_law_behind"]) (ix := [1, 2]) rfl rfl (fun _ _ _ _ _ _ => (pg_name (i := 0) (show (["_law_page", "_law_first", "_law_behind"] : List Str).Nodup by decide +kernel) rfl (Or.inl rfl))) (fun _ _ _ _ _ _ => (pf_one (pt_chain op_lt op_lt (pvM 1) (pvM 0) (pvM 2)))) (fun _ _ _ _ _ _ => (pvM 0)))))))
      (pss_cut (ps_setC (i := 5) sc_l_mapped.nd rfl rfl rfl (pi_list (pvM 3)) (x := "_law_page") (fs := ["_law_deeds"]) (ix := [0]) rfl rfl (fun _ _ _ _ _ _ => (pg_name (i := 0) (show (["_law_page", "_law_deeds"] : List Str).Nodup by decide +kernel) rfl (Or.inl rfl))) (fun _ _ _ _ _ _ => pf_nil) (fun _ _ _ _ _ _ => (pe_cmpR op_notN (pe_ix (ix_tupC (K := K) rfl) (pe_callE H_l_state (hr.mono (by decide)) xw_no (pa_cons (pvM 1) (pa_cons (pvM 0) pa_nil))) pe_int (fun _ _ => rfl)) pe_non (nomark _))))
      (pss_one (ps_ret (pe_tup (pa_cons (pe_callB (call_any rfl) rfl T.b_any (by decide +kernel) (pa_cons (pvM 5) pa_nil)) (pa_cons (pe_callB (call_all rfl) rfl T.b_all (by decide +kernel) (pa_cons (pvM 5) pa_nil)) pa_nil)))))))), ?_⟩
    refine ⟨fun σ G => ∃ sl, σ = [some (.ref dl), some (.int f), some (.int e), some (.ref sl), none, none] ∧ MpI f e ds H 0 sl G, ?_, fun σ1 G1 => ?_⟩
    · walk_at "wp"
      intro sl hsl
      exact ⟨[f], (new_at hsl).1, (new_at hsl).2, fun b => ⟨fun z => .inl (List.mem_singleton.mp z), fun z => by
        rcases z with rfl | ⟨z, _⟩
        · exact List.mem_singleton.mpr rfl
        · cases z⟩, Nat.le_refl _⟩
    rintro ⟨sl, rfl, hI⟩
    refine ⟨fun σ G => ∃ sl v4, σ = [some (.ref dl), some (.int f), some (.int e), some (.ref sl), v4, none] ∧ MpI f e ds H ds.length sl G, ?_, fun σ2 G2 => ?_⟩
    · obtain ⟨_, s1, _⟩ := id hI
      walk_at "wp"
      refine ⟨⟨_, SqL.of (s1 _ _ hl)⟩, loop_list (xs := dvs) (fun i σ G => ∃ sl v4, σ = [some (.ref dl), some (.int f), some (.int e), some (.ref sl), v4, none] ∧ MpI f e ds H i sl G) ⟨_, _, rfl, hI⟩ (fun i σ G _ ⟨_, _, _, _, s2, _⟩ => SqL.of (s2 _ _ hl)) (fun i x σ G hx => ?_) (fun σ G => ?_)⟩
      · rintro ⟨sl, v4, rfl, xs, s2, hs, hm, hxl⟩
        obtain ⟨d, hd, a, tv, rfl, ha, _⟩ := prd_get hD hx
        have hil := (List.getElem?_eq_some_iff.mp hx).1
        have ha2 := s2 _ _ ha
        walk_at "wp"
        refine ⟨_, SqT.of ha2, (fun z => absurd z.2 (by show ¬ HT.sIx 5 5 (some 3) = 5; decide)), fun tp htp => ?_⟩
        have ec : cutV [V.str d.k.s, V.int d.f, V.int d.e, V.int d.r, tv] (some 1) (some 3) = [d.f, d.e].map V.int := rfl
        rw [ec]
        obtain ⟨b1, c1⟩ := new_at (o := .tup ([d.f, d.e].map V.int)) htp
        refine ⟨⟨_, SqT.of c1⟩, fun D hD => ?_⟩
        have s3 := s2.trans b1
        have hs3 := b1 _ _ hs
        generalize upd G tp _ = G9 at *
        refine comp_tup (xs := [d.f, d.e].map V.int) (fun k ys σ G' => ∃ v0, σ = [v0, some (.int f), some (.int e)] ∧ Same G9 G' ∧ G' D = some (.lst ys) ∧ ys = (([d.f, d.e].take k).filter fun b => decide (f < b) && decide (b < e)).map V.int) ⟨_, rfl, same_upd same_refl hD, upd_same, rfl⟩ (fun k ys σ G' _ ⟨_, _, s4, _⟩ => SqT.of (s4 _ _ c1)) (fun k x ys σ G' hk => ?_) (fun ys σ G' => ?_)
        · rintro ⟨v0, rfl, s4, hD4, rfl⟩
          rw [List.getElem?_map] at hk
          obtain ⟨b, hb, rfl⟩ : ∃ b, [d.f, d.e][k]? = some b ∧ x = V.int b := by
            cases e9 : [d.f, d.e][k]? with
            | none => rw [e9] at hk; cases hk
            | some c => rw [e9] at hk; exact ⟨c, rfl, (Option.some.inj hk).symm⟩
          have htk : [d.f, d.e].take (k + 1) = [d.f, d.e].take k ++ [b] := by rw [List.take_add_one, hb]; rfl
          have hyl : ((([d.f, d.e].take k).filter fun b => decide (f < b) && decide (b < e)).map V.int).length ≤ 2 := by
            rw [List.length_map]
            exact Nat.le_trans (List.length_filter_le _ _) (Nat.le_trans (List.length_take_le' ..) (by simp))
          rw [htk, List.filter_append, List.map_append]
          walk_at "wp"
          by_cases c1 : f < b
          · rw [if_pos c1]
            by_cases c2 : b < e
            · rw [if_pos c2]
              refine ⟨hD4, by omega, same_put s4 hD, ?_⟩
              rw [List.filter_cons_of_pos (by rw [decide_eq_true c1, decide_eq_true c2]; rfl)]
              rfl
            · rw [if_neg c2, List.filter_cons_of_neg (by rw [decide_eq_false c2, Bool.and_false]; simp)]
              exact ⟨s4, by simp [hD4], by simp⟩
          · rw [if_neg c1, List.filter_cons_of_neg (by rw [decide_eq_false c1, Bool.false_and]; simp)]
            exact ⟨s4, by simp [hD4], by simp⟩
        · rintro ⟨v0, rfl, s4, hD4, rfl⟩
          rw [List.length_map, List.take_length] at hD4
          refine ⟨_, s4 _ _ hs3, _, hD4, ?_, fun sl2 hsl2 => ?_⟩
          · have h1 := List.length_filter_le (fun b => decide (f < b) && decide (b < e)) [d.f, d.e]
            have h2 : [d.f, d.e].length = 2 := rfl
            have h3 := (List.getElem?_eq_some_iff.mp hx).1
            rw [List.length_map, List.length_map]
            omega
          · refine ⟨xs ++ ([d.f, d.e].filter fun b => decide (f < b) && decide (b < e)), s3.trans (s4.trans (new_at hsl2).1), by rw [List.map_append]; exact (new_at hsl2).2, fun b => ?_, ?_⟩
            · rw [List.mem_append, hm, bds_take hd, List.mem_append, List.mem_filter]
              constructor
              · rintro ((h | ⟨h, h2, h3⟩) | ⟨h, h2⟩)
                · exact .inl h
                · exact .inr ⟨.inl h, h2, h3⟩
                · rw [Bool.and_eq_true, decide_eq_true_eq, decide_eq_true_eq] at h2
                  exact .inr ⟨.inr h, h2.1, h2.2⟩
              · rintro (h | ⟨h | h, h2, h3⟩)
                · exact .inl (.inl h)
                · exact .inl (.inr ⟨h, h2, h3⟩)
                · exact .inr ⟨h, by rw [decide_eq_true h2, decide_eq_true h3]; rfl⟩
            · rw [List.length_append]
              have h1 := List.length_filter_le (fun b => decide (f < b) && decide (b < e)) [d.f, d.e]
              have h2 : [d.f, d.e].length = 2 := rfl
              omega
      · rintro ⟨sl, v4, rfl, hI⟩
        rw [hdl] at hI
        exact ⟨_, _, rfl, hI⟩
    rintro ⟨sl, v4, rfl, xs, s2, hs, hm, hxl⟩
    rw [List.take_length] at hm
    refine ⟨fun σ G => ∃ tl, σ = [some (.ref dl), some (.int f), some (.int e), some (.ref sl), v4, some (.ref tl)] ∧ Same H G ∧ G tl = some (.lst ((xs.map fun b => decide (sem ds.reverse b ≠ none)).map V.bl)), ?_, fun σ3 G3 => ?_⟩
    · walk_at "wp"
      refine ⟨⟨_, SqL.of hs⟩, fun D hD => comp_list (xs := xs.map V.int) (fun k ys σ G' => ∃ v0, σ = [v0, some (.ref dl)] ∧ Same G2 G' ∧ G' D = some (.lst ys) ∧ ys = ((xs.take k).map fun b => decide (sem ds.reverse b ≠ none)).map V.bl) ⟨_, rfl, same_upd same_refl hD, upd_same, rfl⟩ (fun k ys σ G' _ ⟨_, _, s4, _⟩ => SqL.of (s4 _ _ hs)) (fun k x ys σ G' hk => ?_) (fun ys σ G' => ?_)⟩
      · rintro ⟨v0, rfl, s4, hD4, rfl⟩
        rw [List.getElem?_map] at hk
        obtain ⟨b, hb, rfl⟩ : ∃ b, xs[k]? = some b ∧ x = V.int b := by
          cases e9 : xs[k]? with
          | none => rw [e9] at hk; cases hk
          | some c => rw [e9] at hk; exact ⟨c, rfl, (Option.some.inj hk).symm⟩
        have hkl := (List.getElem?_eq_some_iff.mp hb).1
        have htk : xs.take (k + 1) = xs.take k ++ [b] := by rw [List.take_add_one, hb]; rfl
        rw [htk, List.map_append, List.map_append]
        walk_at "wp"
        have hyl : (((xs.take k).map fun b => decide (sem ds.reverse b ≠ none)).map V.bl).length ≤ xs.length := by
          rw [List.length_map, List.length_map, List.length_take]; omega
        refine ⟨dl, dvs, ds, b, rfl, s4 _ _ (s2 _ _ hl), Paired.mapP hDD fun _ _ h => h.tp (same_tp (s2.trans s4)), hn, fun v H' s5 hp => ?_⟩
        cases hsm : sem ds.reverse b with
        | none =>
          rw [hsm] at hp
          obtain ⟨pa, rfl, hpa⟩ := hp
          exact ⟨pa, rfl, _, SqT.of hpa, _, atI_nat (j := 0) rfl, s5 _ _ hD4, by omega, same_put (s4.trans s5) hD, by simp [hsm]⟩
        | some y =>
          rw [hsm] at hp
          obtain ⟨r0, t0⟩ := y
          obtain ⟨pa, tv, rfl, hpa, _⟩ := hp
          exact ⟨pa, rfl, _, SqT.of hpa, _, atI_nat (j := 0) rfl, s5 _ _ hD4, by omega, same_put (s4.trans s5) hD, by simp [hsm]⟩
      · rintro ⟨v0, rfl, s4, hD4, rfl⟩
        rw [List.length_map, List.take_length] at hD4
        exact ⟨s2.trans s4, hD4⟩
    rintro ⟨tl, rfl, s3, htl⟩
    walk_at "wp"
    refine ⟨_, SqL.of htl, _, SqL.of htl, fun tp htp => ?_⟩
    refine q tp _ _ _ (s3.trans (new_at htp).1) (new_at htp).2 ?_ ?_
    · rw [List.any_eq_true]
      constructor
      · rintro ⟨b, hb, e1⟩
        obtain ⟨y, hy, rfl⟩ := List.mem_map.mp hb
        have e1 := of_decide_eq_true e1
        rcases (hm y).mp hy with rfl | ⟨_, h2, h3⟩
        · exact ⟨y, Int.le_refl _, hfe, e1⟩
        · exact ⟨y, by omega, h3, e1⟩
      · rintro ⟨p, h1, h2, h3⟩
        obtain ⟨b, k1, k2, k3⟩ := sem_far (ds := ds.reverse) h1 h2
        refine ⟨_, List.mem_map.mpr ⟨b, (hm b).mpr ?_, rfl⟩, decide_eq_true fun z => h3 (k3.mpr z)⟩
        rcases k1 with k1 | ⟨k1, k4⟩
        · exact .inl k1
        · exact .inr ⟨bds_rev.mp k1, k4⟩
    · rw [List.all_eq_true]
      constructor
      · intro h p h1 h2
        obtain ⟨b, k1, k2, k3⟩ := sem_far (ds := ds.reverse) h1 h2
        have := h _ (List.mem_map.mpr ⟨b, (hm b).mpr (by
          rcases k1 with k1 | ⟨k1, k4⟩
          · exact .inl k1
          · exact .inr ⟨bds_rev.mp k1, k4⟩), rfl⟩)
        exact fun z => of_decide_eq_true this (k3.mp z)
      · intro h b hb
        obtain ⟨y, hy, rfl⟩ := List.mem_map.mp hb
        refine decide_eq_true ?_
        rcases (hm y).mp hy with rfl | ⟨_, h2, h3⟩
        · exact h y (Int.le_refl _) hfe
        · exact h y (by omega) h3

def OldI (ds : List Dd) (H : Hp) (oa : Addr) (G : Hp) : Prop := ∃ d tv, Same H G ∧ d ∈ ds ∧ H oa = some (.tup [.str d.k.s, .int d.f, .int d.e, .int d.r, tv])
def sp_plc : Sp := fun vs H Q _ => ∃ (dl : Addr) (dvs : List V) (ds : List Dd) (k : Kk) (o w b : Int), vs = [.ref dl, .str k.s, .int o, .int w, .int b] ∧ H dl = some (.lst dvs) ∧ DdsAt H dvs ds ∧ (∀ d ∈ ds, d.f < d.e) ∧ ds.length ≤ 100 ∧ ∀ t x m H', Same H H' → H' t = some (.tup [.int x, .int m]) → 1 ≤ m → Q (.ref t) H'
theorem h_plc (T : Txt K mg A) : Have P w K mg base "_law_place" 2 ["_law_deeds", "_law_kind", "_law_one", "_law_two", "_law_base"] [] sp_plc := by
  have H_l_part := h_part (P := P) (w := w) (base := base) T
  refine T.r_l_place.have sc_l_place (fun vs H Q E z => ?_) ?_
  · obtain ⟨dl, dvs, ds, k, o, w, b, rfl, _⟩ := z; rfl
  · intro f' cdv A' outer s H vs Q E hr z
    obtain ⟨dl, dvs, ds, k, o, w, b, rfl, hl, hD, hfe, hn, q⟩ := z
    have hdl := Paired.length hD
    have fin : ∀ {G : Hp}, Same H G → ∀ (tp : Addr), G tp = none → ∀ x m : Int, 1 ≤ m → Q (.ref tp) (upd G tp (.tup [.int x, .int m])) := fun s1 tp htp x m hm => q tp x m _ (s1.trans (new_at htp).1) (new_at htp).2 hm
    refine ⟨_, (pss_cut (ps_set (i := 5) sc_l_place.nd rfl (Or.inl rfl) (pe_op op_add (pvM 4) (pe_callE H_l_part (hr.mono (by decide)) xw_def (pa_cons (pvM 3) (pa_cons pe_int (pa_cons pe_int pa_nil))))))
      (pss_cut (ps_set (i := 6) sc_l_place.nd rfl (Or.inl rfl) (pe_op op_add pe_int (pe_callE H_l_part (hr.mono (by decide)) xw_def (pa_cons (pvM 3) (pa_cons pe_int (pa_cons pe_int pa_nil))))))
      (pss_cut (ps_if (PW.pt (pw_or (pt_cmpR op_eq (pe_callB call_len rfl T.b_len PySem.boot_len (pa_cons (pvM 0) pa_nil)) pe_int (nomark _)) (pw_or1 (pt_cmpR op_eq (pe_callE H_l_part (hr.mono (by decide)) xw_def (pa_cons (pvM 2) (pa_cons pe_int (pa_cons pe_int pa_nil)))) pe_int (nomark _))))) (pss_cut (ps_if (PW.pt (pw_and (pt_cmpR op_eq (pvM 1) pe_str (nomark _)) (pw_and1 (pt_cmpR op_eq (pe_callE H_l_part (hr.mono (by decide)) xw_def (pa_cons (pvM 2) (pa_cons pe_int (pa_cons pe_int pa_nil)))) pe_int (nomark _))))) (pss_one (ps_set (i := 6) sc_l_place.nd rfl (Or.inl rfl) (pe_op op_add pe_int (pe_op op_mod (pvM 3) (pe_op op_pow pe_int pe_int))))) pss_nil)
      (pss_one (ps_ret (pe_tup (pa_cons (pvM 5) (pa_cons (pvM 6) pa_nil)))))) pss_nil)
      (pss_cut (ps_set (i := 7) sc_l_place.nd rfl (Or.inl rfl) (pe_ix ix_list (pvM 0) (pe_callE H_l_part (hr.mono (by decide)) xw_def (pa_cons (pvM 3) (pa_cons pe_int (pa_cons (pe_callB call_len rfl T.b_len PySem.boot_len (pa_cons (pvM 0) pa_nil)) pa_nil)))) (fun _ _ => rfl)))
      (pss_cut (ps_set (i := 8) sc_l_place.nd rfl (Or.inl rfl) (pe_op op_sub (pe_ix ix_tup (pvM 7) pe_int (fun _ _ => rfl)) (pe_ix ix_tup (pvM 7) pe_int (fun _ _ => rfl))))
      (pss_cut (ps_if (pt_cmpR op_eq (pvM 1) pe_str (nomark _)) (pss_cut (ps_if (PW.pt (pw_and (pt_cmpR op_eq (pe_callE H_l_part (hr.mono (by decide)) xw_def (pa_cons (pvM 2) (pa_cons pe_int (pa_cons pe_int pa_nil)))) pe_int (nomark _)) (pw_and1 (pt_cmpR op_ge (pe_ix ix_tup (pvM 7) pe_int (fun _ _ => rfl)) (pvM 6) (nomark _))))) (pss_one (ps_ret (pe_tup (pa_cons (pe_op op_sub (pe_ix ix_tup (pvM 7) pe_int (fun _ _ => rfl)) (pvM 6)) (pa_cons (pvM 6) pa_nil))))) pss_nil)
      (pss_one (ps_ret (pe_tup (pa_cons (pe_ix ix_tup (pvM 7) pe_int (fun _ _ => rfl)) (pa_cons (pvM 6) pa_nil)))))) pss_nil)
      (pss_cut (ps_set (i := 9) sc_l_place.nd rfl (Or.inl rfl) (pe_callE H_l_part (hr.mono (by decide)) xw_def (pa_cons (pvM 2) (pa_cons pe_int (pa_cons (pvM 8) pa_nil)))))
      (pss_cut (ps_if (pt_cmpR op_eq (pe_callE H_l_part (hr.mono (by decide)) xw_def (pa_cons (pvM 2) (pa_cons pe_int (pa_cons pe_int pa_nil)))) pe_int (nomark _)) (pss_one (ps_ret (pe_tup (pa_cons (pe_ix ix_tup (pvM 7) pe_int (fun _ _ => rfl)) (pa_cons (pvM 8) pa_nil))))) pss_nil)
      (pss_cut (ps_if (pt_cmpR op_eq (pe_callE H_l_part (hr.mono (by decide)) xw_def (pa_cons (pvM 2) (pa_cons pe_int (pa_cons pe_int pa_nil)))) pe_int (nomark _)) (pss_one (ps_ret (pe_tup (pa_cons (pe_op op_add (pe_ix ix_tup (pvM 7) pe_int (fun _ _ => rfl)) (pvM 9)) (pa_cons (pe_op op_sub (pvM 8) (pvM 9)) pa_nil))))) pss_nil)
      (pss_one (ps_ret (pe_tup (pa_cons (pe_op op_add (pe_ix ix_tup (pvM 7) pe_int (fun _ _ => rfl)) (pvM 9)) (pa_cons (pe_op op_add pe_int (pe_callE H_l_part (hr.mono (by decide)) xw_def (pa_cons (pvM 3) (pa_cons pe_int (pa_cons (pe_op op_sub (pvM 8) (pvM 9)) pa_nil))))) pa_nil)))))))))))))), ?_⟩
    refine ⟨fun σ G => ∃ x, σ = [some (.ref dl), some (.str k.s), some (.int o), some (.int w), some (.int b), some (.int x), none, none, none, none] ∧ Same H G, ?_, fun σ1 G1 => ?_⟩
    · walk_at "wp"
      exact ⟨w, 0, 24, rfl, by omega, by omega, by omega, fun r H' s1 _ _ => ⟨r, rfl, s1⟩⟩
    rintro ⟨x, rfl, s1⟩
    refine ⟨fun σ G => ∃ m, σ = [some (.ref dl), some (.str k.s), some (.int o), some (.int w), some (.int b), some (.int x), some (.int m), none, none, none] ∧ Same H G ∧ 1 ≤ m, ?_, fun σ2 G2 => ?_⟩
    · walk_at "wp"
      exact ⟨w, 1, 6, rfl, by omega, by omega, by omega, fun r H' s2 _ _ => ⟨r, rfl, s1.trans s2, by omega⟩⟩
    rintro ⟨m, rfl, s2, hm⟩
    refine ⟨fun σ G => σ = [some (.ref dl), some (.str k.s), some (.int o), some (.int w), some (.int b), some (.int x), some (.int m), none, none, none] ∧ Same H G ∧ 0 < ds.length, ?_, fun σ3 G3 => ?_⟩
    · walk_at "wp"
      refine ⟨dvs.length, .inl ⟨_, SqL.of (s2 _ _ hl), rfl⟩, ite2 (fun c => ?_) (fun c => ⟨o, 1, 4, rfl, by omega, by omega, by omega, fun r3 H3 s3 _ _ => ⟨rfl, ite2 (fun c2 => ?_) (fun c2 => ⟨s2.trans s3, by omega⟩)⟩⟩)⟩
      · refine ⟨fun σ G' => ∃ m', σ = [some (.ref dl), some (.str k.s), some (.int o), some (.int w), some (.int b), some (.int x), some (.int m'), none, none, none] ∧ Same H G' ∧ 1 ≤ m', ?_, fun σ9 G9 => ?_⟩
        · walk_at "wp"
          refine ite2 (fun _ => ⟨o, 3, 8, rfl, by omega, by omega, by omega, fun r9 H9 s9 _ _ => ⟨rfl, ite2 (fun _ => ⟨s2.trans s9, ?_⟩) (fun _ => ⟨s2.trans s9, hm⟩)⟩⟩) (fun _ => ifn rfl ⟨s2, hm⟩)
          have := Int.emod_nonneg w (show (100000000000000000000000000000000000000000000000000 : Int) ≠ 0 by decide)
          omega
        rintro ⟨m', rfl, s9, hm'⟩
        walk_at "wp"
        exact fun tp htp => fin s9 tp htp x m' hm'
      · have s23 := s2.trans s3
        refine ⟨fun σ G' => ∃ m', σ = [some (.ref dl), some (.str k.s), some (.int o), some (.int w), some (.int b), some (.int x), some (.int m'), none, none, none] ∧ Same H G' ∧ 1 ≤ m', ?_, fun σ9 G9 => ?_⟩
        · walk_at "wp"
          refine ite2 (fun _ => ⟨o, 3, 8, rfl, by omega, by omega, by omega, fun r9 H9 s9 _ _ => ⟨rfl, ite2 (fun _ => ⟨s23.trans s9, ?_⟩) (fun _ => ⟨s23.trans s9, hm⟩)⟩⟩) (fun _ => ifn rfl ⟨s23, hm⟩)
          have := Int.emod_nonneg w (show (100000000000000000000000000000000000000000000000000 : Int) ≠ 0 by decide)
          omega
        rintro ⟨m', rfl, s9, hm'⟩
        walk_at "wp"
        exact fun tp htp => fin s9 tp htp x m' hm'
    rintro ⟨rfl, s3, h0⟩
    refine ⟨fun σ G => ∃ oa, σ = [some (.ref dl), some (.str k.s), some (.int o), some (.int w), some (.int b), some (.int x), some (.int m), some (.ref oa), none, none] ∧ OldI ds H oa G, ?_, fun σ4 G4 => ?_⟩
    · walk_at "wp"
      refine ⟨dvs.length, .inl ⟨_, SqL.of (s3 _ _ hl), rfl⟩, w, 2, _, rfl, by omega, by omega, by omega, fun r H' s4 r0 r1 => ?_⟩
      obtain ⟨j, rfl⟩ : ∃ j : Nat, r = (j : Int) := ⟨r.toNat, by omega⟩
      obtain ⟨v, hv⟩ : ∃ v, dvs[j]? = some v := ⟨_, List.getElem?_eq_getElem (by omega)⟩
      obtain ⟨d, hd, oa, tv, rfl, hoa, _⟩ := prd_get hD hv
      exact ⟨dvs, j, rfl, SqL.of (s4 _ _ (s3 _ _ hl)), _, atI_nat hv, oa, rfl, d, tv, s3.trans s4, List.mem_of_getElem? hd, hoa⟩
    rintro ⟨oa, rfl, d, tv, s4, hd, hoa⟩
    have hfd := hfe d hd
    refine ⟨fun σ G => σ = [some (.ref dl), some (.str k.s), some (.int o), some (.int w), some (.int b), some (.int x), some (.int m), some (.ref oa), some (.int (d.e - d.f)), none] ∧ Same H G, ?_, fun σ5 G5 => ?_⟩
    · walk_at "wp"
      exact ⟨_, SqT.of (s4 _ _ hoa), _, atI_nat (j := 2) rfl, _, SqT.of (s4 _ _ hoa), _, atI_nat (j := 1) rfl, d.e, rfl, d.f, rfl, rfl, s4⟩
    rintro ⟨rfl, s5⟩
    refine ⟨fun σ G => σ = [some (.ref dl), some (.str k.s), some (.int o), some (.int w), some (.int b), some (.int x), some (.int m), some (.ref oa), some (.int (d.e - d.f)), none] ∧ Same H G, ?_, fun σ6 G6 => ?_⟩
    · walk_at "wp"
      refine ite2 (fun _ => ?_) (fun _ => s5)
      refine ⟨fun σ G => σ = [some (.ref dl), some (.str k.s), some (.int o), some (.int w), some (.int b), some (.int x), some (.int m), some (.ref oa), some (.int (d.e - d.f)), none] ∧ Same H G, ?_, fun σ6 G6 => ?_⟩
      · walk_at "wp"
        exact ⟨o, 2, 2, rfl, by omega, by omega, by omega, fun r H' s6 _ _ => ⟨rfl, ite2 (fun _ => ⟨_, SqT.of (s6 _ _ (s5 _ _ hoa)), _, atI_nat (j := 1) rfl, d.f, rfl, ite2 (fun _ => ⟨_, SqT.of (s6 _ _ (s5 _ _ hoa)), _, atI_nat (j := 1) rfl, d.f, rfl, fun tp htp => fin (s5.trans s6) tp htp _ _ hm⟩) (fun _ => s5.trans s6)⟩) (fun _ => ifn rfl (s5.trans s6))⟩⟩
      rintro ⟨rfl, s6⟩
      walk_at "wp"
      exact ⟨_, SqT.of (s6 _ _ hoa), .int d.e, atI_nat (j := 2) rfl, fun tp htp => fin s6 tp htp _ _ hm⟩
    rintro ⟨rfl, s6⟩
    refine ⟨fun σ G => ∃ sk, σ = [some (.ref dl), some (.str k.s), some (.int o), some (.int w), some (.int b), some (.int x), some (.int m), some (.ref oa), some (.int (d.e - d.f)), some (.int sk)] ∧ Same H G ∧ 0 ≤ sk ∧ sk < d.e - d.f, ?_, fun σ7 G7 => ?_⟩
    · walk_at "wp"
      exact ⟨o, 2, _, rfl, by omega, by omega, by omega, fun r H' s7 r0 r1 => ⟨r, rfl, s6.trans s7, r0, r1⟩⟩
    rintro ⟨sk, rfl, s7, k0, k1⟩
    refine ⟨fun σ G => σ = [some (.ref dl), some (.str k.s), some (.int o), some (.int w), some (.int b), some (.int x), some (.int m), some (.ref oa), some (.int (d.e - d.f)), some (.int sk)] ∧ Same H G, ?_, fun σ8 G8 => ?_⟩
    · walk_at "wp"
      exact ⟨o, 3, 3, rfl, by omega, by omega, by omega, fun r H' s8 _ _ => ⟨rfl, ite2 (fun _ => ⟨_, SqT.of (s8 _ _ (s7 _ _ hoa)), .int d.f, atI_nat (j := 1) rfl, fun tp htp => fin (s7.trans s8) tp htp _ _ (by omega)⟩) (fun _ => s7.trans s8)⟩⟩
    rintro ⟨rfl, s8⟩
    refine ⟨fun σ G => σ = [some (.ref dl), some (.str k.s), some (.int o), some (.int w), some (.int b), some (.int x), some (.int m), some (.ref oa), some (.int (d.e - d.f)), some (.int sk)] ∧ Same H G, ?_, fun σ9 G9 => ?_⟩
    · walk_at "wp"
      exact ⟨o, 3, 3, rfl, by omega, by omega, by omega, fun r H' s9 _ _ => ⟨rfl, ite2 (fun _ => ⟨_, SqT.of (s9 _ _ (s8 _ _ hoa)), _, atI_nat (j := 1) rfl, d.f, rfl, fun tp htp => fin (s8.trans s9) tp htp _ _ (by omega)⟩) (fun _ => s8.trans s9)⟩⟩
    rintro ⟨rfl, s9⟩
    walk_at "wp"
    exact ⟨_, SqT.of (s9 _ _ hoa), _, atI_nat (j := 1) rfl, d.f, rfl, w, 3, _, rfl, by omega, by omega, by omega, fun r H' s10 r0 _ => ⟨r, rfl, fun tp htp => fin (s9.trans s10) tp htp _ _ (by omega)⟩⟩

theorem kk_at {r : Int} (h0 : 0 ≤ r) (h1 : r < 6) : ∃ k : Kk, atI [V.str (Str.ofString "put"), V.str (Str.ofString "put"), V.str (Str.ofString "put"), V.str (Str.ofString "cut"), V.str (Str.ofString "guard"), V.str (Str.ofString "guard")] r = some (.str k.s) := by
  have : r = 0 ∨ r = 1 ∨ r = 2 ∨ r = 3 ∨ r = 4 ∨ r = 5 := by omega
  rcases this with rfl | rfl | rfl | rfl | rfl | rfl
  · exact ⟨.put, atI_nat (j := 0) rfl⟩
  · exact ⟨.put, atI_nat (j := 1) rfl⟩
  · exact ⟨.put, atI_nat (j := 2) rfl⟩
  · exact ⟨.cut, atI_nat (j := 3) rfl⟩
  · exact ⟨.grd, atI_nat (j := 4) rfl⟩
  · exact ⟨.grd, atI_nat (j := 5) rfl⟩
theorem ints_at {xs : List Int} {r : Int} (h0 : 0 ≤ r) (h1 : r < xs.length) : ∃ y, atI (xs.map V.int) r = some (.int y) := by
  obtain ⟨j, rfl⟩ : ∃ j : Nat, r = (j : Int) := ⟨r.toNat, by omega⟩
  exact ⟨_, atI_nat (by rw [List.getElem?_map, List.getElem?_eq_getElem (by omega)]; rfl)⟩
def TiI (H : Hp) (v : V) (G : Hp) : Prop := ∃ t, Same H G ∧ TieAt G v t
def sp_ddd : Sp := fun vs H Q _ => ∃ (dl : Addr) (dvs : List V) (ds : List Dd) (o w b : Int), vs = [.ref dl, .int o, .int w, .int b] ∧ H dl = some (.lst dvs) ∧ DdsAt H dvs ds ∧ (∀ d ∈ ds, d.f < d.e) ∧ ds.length ≤ 100 ∧ ∀ v d H', Same H H' → DdAt H' v d → d.f < d.e → Q v H'
theorem h_ddd (T : Txt K mg A) : Have P w K mg base "_law_deed" 3 ["_law_deeds", "_law_one", "_law_two", "_law_base"] [] sp_ddd := by
  have H_l_part := h_part (P := P) (w := w) (base := base) T
  have H_l_place := h_plc (P := P) (w := w) (base := base) T
  refine T.r_l_deed.have sc_l_deed (fun vs H Q E z => ?_) ?_
  · obtain ⟨dl, dvs, ds, o, w, b, rfl, _⟩ := z; rfl
  · intro f' cdv A' outer s H vs Q E hr z
    obtain ⟨dl, dvs, ds, o, w, b, rfl, hl, hD, hfe, hn, q⟩ := z
    refine ⟨_, (@pss_cut _ _ _ _ _ (@ps_set _ _ 4 _ _ _ _ sc_l_deed.nd rfl (Or.inl rfl) (@pe_ix _ _ _ _ _ _ _ ix_lst (@pe_lst _ _ _ _ (@pa_cons _ _ _ _ _ pe_str (@pa_cons _ _ _ _ _ pe_str (@pa_cons _ _ _ _ _ pe_str (@pa_cons _ _ _ _ _ pe_str (@pa_cons _ _ _ _ _ pe_str (@pa_cons _ _ _ _ _ pe_str pa_nil rfl) rfl) rfl) rfl) rfl) rfl)) (pe_callE H_l_part (hr.mono (by decide)) xw_def (pa_cons (pvM 1) (pa_cons pe_int (pa_cons pe_int pa_nil)))) (fun _ _ => rfl)) rfl (Or.inl rfl))
      (pss_cut (ps_asg (pe_callE H_l_place (hr.mono (by decide)) xw_def (@pa_cons _ _ _ _ _ (pvM 0) (@pa_cons _ _ _ _ _ (pvM 4) (@pa_cons _ _ _ _ _ (pvM 1) (@pa_cons _ _ _ _ _ (pvM 2) (@pa_cons _ _ _ _ _ (pvM 3) pa_nil rfl) rfl) rfl) rfl) rfl)) (pg_tup (n := 2) rfl (pgs_cons (pg_name (i := 5) sc_l_deed.nd rfl (Or.inl rfl)) (pgs_cons (pg_name (i := 6) sc_l_deed.nd rfl (Or.inl rfl)) pgs_nil))))
      (pss_cut (ps_set (i := 7) sc_l_deed.nd rfl (Or.inl rfl) (pe_op op_mod (pe_callE H_l_part (hr.mono (by decide)) xw_def (pa_cons (pvM 2) (pa_cons pe_int (pa_cons pe_int pa_nil)))) pe_int))
      (pss_cut (ps_if (pt_cmpR op_eq (pe_callE H_l_part (hr.mono (by decide)) xw_def (pa_cons (pvM 2) (pa_cons pe_int (pa_cons pe_int pa_nil)))) pe_int (nomark _)) (pss_one (ps_set (i := 7) sc_l_deed.nd rfl (Or.inl rfl) (pe_ix ix_lst (pe_lst (pa_cons (pe_un op_neg pe_int) (pa_cons pe_int (pa_cons (pe_op op_add pe_int (pe_op op_mod (pvM 1) (pe_op op_pow pe_int pe_int))) (pa_cons (pe_op op_sub (pe_un op_neg pe_int) (pe_op op_mod (pvM 1) (pe_op op_pow pe_int pe_int))) pa_nil))))) (pe_callE H_l_part (hr.mono (by decide)) xw_def (pa_cons (pvM 1) (pa_cons pe_int (pa_cons pe_int pa_nil)))) (fun _ _ => rfl)))) pss_nil)
      (pss_cut (ps_set (i := 8) sc_l_deed.nd rfl (Or.inl rfl) pe_non)
      (pss_cut (ps_if (pt_cmpR op_gt (pe_callE H_l_part (hr.mono (by decide)) xw_def (pa_cons (pvM 1) (pa_cons pe_int (pa_cons pe_int pa_nil)))) pe_int (nomark _)) (pss_one (ps_set (i := 8) sc_l_deed.nd rfl (Or.inl rfl) (pe_tup (pa_cons (pe_ix ix_lst (pe_lst (pa_cons pe_int (pa_cons (pe_op op_add pe_int (pvM 3)) pa_nil))) (pe_callE H_l_part (hr.mono (by decide)) xw_def (pa_cons (pvM 2) (pa_cons pe_int (pa_cons pe_int pa_nil)))) (fun _ _ => rfl)) (pa_cons (pe_op op_add (pvM 5) (pe_ix ix_lst (pe_lst (pa_cons pe_int (pa_cons pe_int (pa_cons pe_int pa_nil)))) (pe_callE H_l_part (hr.mono (by decide)) xw_def (pa_cons (pvM 2) (pa_cons pe_int (pa_cons pe_int pa_nil)))) (fun _ _ => rfl))) pa_nil))))) pss_nil)
      (pss_one (ps_ret (pe_tup (@pa_cons _ _ _ _ _ (pvM 4) (@pa_cons _ _ _ _ _ (pvM 5) (@pa_cons _ _ _ _ _ (pe_op op_add (pvM 5) (pvM 6)) (@pa_cons _ _ _ _ _ (pvM 7) (@pa_cons _ _ _ _ _ (pvM 8) pa_nil rfl) rfl) rfl) rfl) rfl)))))))))), ?_⟩
    refine ⟨fun σ G => ∃ k : Kk, σ = [some (.ref dl), some (.int o), some (.int w), some (.int b), some (.str k.s), none, none, none, none] ∧ Same H G, ?_, fun σ1 G1 => ?_⟩
    · walk_at "wp"
      intro p hp
      obtain ⟨b1, c1⟩ := new_at (o := .lst [V.str (Str.ofString "put"), V.str (Str.ofString "put"), V.str (Str.ofString "put"), V.str (Str.ofString "cut"), V.str (Str.ofString "guard"), V.str (Str.ofString "guard")]) hp
      refine ⟨o, 0, 6, rfl, by omega, by omega, by omega, fun r H' s1 r0 r1 => ?_⟩
      obtain ⟨k, hk⟩ := kk_at r0 r1
      exact ⟨_, r, rfl, by rw [s1 _ _ c1]; rfl, _, hk, k, rfl, b1.trans s1⟩
    rintro ⟨k, rfl, s1⟩
    refine ⟨fun σ G => ∃ x m, σ = [some (.ref dl), some (.int o), some (.int w), some (.int b), some (.str k.s), some (.int x), some (.int m), none, none] ∧ Same H G ∧ 1 ≤ m, ?_, fun σ2 G2 => ?_⟩
    · walk_at "wp"
      exact ⟨dl, dvs, ds, k, o, w, b, rfl, s1 _ _ hl, Paired.mapP hD fun _ _ h => h.tp (same_tp s1), hfe, hn, fun t x m H' s2 ht hm => ⟨t, rfl, _, SqT.of ht, rfl, _, _, rfl, _, _, rfl, rfl, x, rfl, m, rfl, s1.trans s2, hm⟩⟩
    rintro ⟨x, m, rfl, s2, hm⟩
    refine ⟨fun σ G => ∃ r, σ = [some (.ref dl), some (.int o), some (.int w), some (.int b), some (.str k.s), some (.int x), some (.int m), some (.int r), none] ∧ Same H G, ?_, fun σ3 G3 => ?_⟩
    · walk_at "wp"
      exact ⟨w, 4, 13, rfl, by omega, by omega, by omega, fun r H' s3 _ _ => ⟨r, rfl, s2.trans s3⟩⟩
    rintro ⟨r0, rfl, s3⟩
    refine ⟨fun σ G => ∃ r, σ = [some (.ref dl), some (.int o), some (.int w), some (.int b), some (.str k.s), some (.int x), some (.int m), some (.int r), none] ∧ Same H G, ?_, fun σ4 G4 => ?_⟩
    · walk_at "wp"
      refine ⟨w, 4, 13, rfl, by omega, by omega, by omega, fun r H' s4 _ _ => ⟨rfl, ite2 (fun _ p hp => ?_) (fun _ => s3.trans s4)⟩⟩
      obtain ⟨b1, c1⟩ := new_at (o := .lst ([-1, 4, 4 + o % 100000000000000000000000000000000000000000000000000, -1 - o % 100000000000000000000000000000000000000000000000000].map V.int)) hp
      refine ⟨o, 1, 4, rfl, by omega, by omega, by omega, fun r2 H2 s5 q0 q1 => ?_⟩
      obtain ⟨y, hy⟩ := ints_at (xs := [-1, 4, 4 + o % 100000000000000000000000000000000000000000000000000, -1 - o % 100000000000000000000000000000000000000000000000000]) q0 q1
      exact ⟨_, r2, rfl, by rw [s5 _ _ c1]; rfl, _, hy, y, rfl, (s3.trans s4).trans (b1.trans s5)⟩
    clear s3 r0
    rintro ⟨r, rfl, s4⟩
    refine ⟨fun σ G => σ = [some (.ref dl), some (.int o), some (.int w), some (.int b), some (.str k.s), some (.int x), some (.int m), some (.int r), some .non] ∧ Same H G, ?_, fun σ5 G5 => ?_⟩
    · walk_at "wp"
      exact s4
    rintro ⟨rfl, s5⟩
    refine ⟨fun σ G => ∃ v, σ = [some (.ref dl), some (.int o), some (.int w), some (.int b), some (.str k.s), some (.int x), some (.int m), some (.int r), some v] ∧ TiI H v G, ?_, fun σ6 G6 => ?_⟩
    · walk_at "wp"
      refine ⟨o, 4, 3, rfl, by omega, by omega, by omega, fun r1 H1 s6 _ _ => ⟨r1, rfl, ite2 (fun _ p hp => ?_) (fun _ => ⟨none, s5.trans s6, rfl⟩)⟩⟩
      obtain ⟨b1, c1⟩ := new_at (o := .lst ([3, 4 + b].map V.int)) hp
      refine ⟨w, 3, 2, rfl, by omega, by omega, by omega, fun r2 H2 s7 q0 q1 => ?_⟩
      obtain ⟨y, hy⟩ := ints_at (xs := [3, 4 + b]) q0 q1
      refine ⟨_, r2, rfl, by rw [s7 _ _ c1]; rfl, _, hy, fun p2 hp2 => ?_⟩
      obtain ⟨b2, c2⟩ := new_at (o := .lst ([0, 0, 7].map V.int)) hp2
      refine ⟨w, 0, 3, rfl, by omega, by omega, by omega, fun r3 H3 s8 q2 q3 => ?_⟩
      obtain ⟨y2, hy2⟩ := ints_at (xs := [0, 0, 7]) q2 q3
      refine ⟨_, r3, rfl, by rw [s8 _ _ c2]; rfl, _, hy2, y2, rfl, fun p3 hp3 => ?_⟩
      have b3 := new_at (o := .tup [V.int y, V.int (x + y2)]) hp3
      exact ⟨some (y, x + y2), (((s5.trans s6).trans b1).trans (s7.trans b2)).trans (s8.trans b3.1), p3, rfl, b3.2⟩
    rintro ⟨v, rfl, t, s6, ht⟩
    walk_at "wp"
    intro tp htp
    obtain ⟨b1, c1⟩ := new_at (o := .tup [V.str k.s, V.int x, V.int (x + m), V.int r, v]) htp
    exact q _ ⟨k, x, x + m, r, t⟩ _ (s6.trans b1) ⟨tp, v, rfl, c1, ht.tp (same_tp b1)⟩ (by show x < x + m; omega)

inductive Wd where
  | bad
  | tkn
  | map
  | good
def Wd.s : Wd → Str
  | .bad => Str.ofString "rights"
  | .tkn => Str.ofString "taken"
  | .map => Str.ofString "mapped"
  | .good => Str.ofString "good"
noncomputable def due (d : Dd) (b1 b2 : Bool) : Wd :=
  match d.k with
  | .put => if 0 ≤ d.r ∧ d.r ≤ 3 then (if b1 = true then .tkn else .good) else .bad
  | .cut => if b2 = true then .good else .map
  | .grd => if 0 ≤ d.r ∧ d.r ≤ 3 then (if b2 = true then .good else .map) else .bad
def sp_due : Sp := fun vs H Q _ => ∃ (v : V) (d : Dd) (t : Addr) (b1 b2 : Bool), vs = [v, .ref t] ∧ DdAt H v d ∧ H t = some (.tup [.bl b1, .bl b2]) ∧ Q (.str (due d b1 b2).s) H
theorem h_due (T : Txt K mg A) : Have P w K mg base "_law_due" 1 ["_law_deed_here", "_law_there"] [] sp_due := by
  refine T.r_l_due.have sc_l_due (fun vs H Q E z => ?_) ?_
  · obtain ⟨v, d, t, b1, b2, rfl, _⟩ := z; rfl
  · intro f' cdv A' outer s H vs Q E hr z
    obtain ⟨v, d, t, b1, b2, rfl, ⟨a, tv, rfl, ha, _⟩, ht, q⟩ := z
    refine ⟨_, (pss_cut (ps_if (PW.pt (pw_and (pt_cmpR op_ne (pe_ix ix_tup (pvM 0) pe_int (fun _ _ => rfl)) pe_str (nomark _)) (pw_and1 (pt_not (pt_chain op_le op_le pe_int (pe_ix ix_tup (pvM 0) pe_int (fun _ _ => rfl)) pe_int))))) (pss_one (ps_ret pe_str)) pss_nil)
      (pss_cut (ps_if (PW.pt (pw_and (pt_cmpR op_eq (pe_ix ix_tup (pvM 0) pe_int (fun _ _ => rfl)) pe_str (nomark _)) (pw_and1 (pt_val (pe_ix ix_tup (pvM 1) pe_int (fun _ _ => rfl)))))) (pss_one (ps_ret pe_str)) pss_nil)
      (pss_cons (ps_if (PW.pt (pw_and (pt_cmpR op_ne (pe_ix ix_tup (pvM 0) pe_int (fun _ _ => rfl)) pe_str (nomark _)) (pw_and1 (pt_not (pt_val (pe_ix ix_tup (pvM 1) pe_int (fun _ _ => rfl))))))) (pss_one (ps_ret pe_str)) pss_nil)
      (pss_one (ps_ret pe_str))))), ?_⟩
    refine ⟨fun σ G => σ = [some (.ref a), some (.ref t)] ∧ G = H ∧ (d.k = .cut ∨ (0 ≤ d.r ∧ d.r ≤ 3)), ?_, fun σ1 G1 => ?_⟩
    · walk_at "wp"
      refine ⟨_, SqT.of ha, _, atI_nat (j := 0) rfl, rfl, ?_⟩
      by_cases hk : d.k = .cut
      · exact ifn (by rw [decide_eq_true (ks_ne.1.mpr hk)]; rfl) (.inl hk)
      · have bad : ¬ (0 ≤ d.r ∧ d.r ≤ 3) → Q (.str (Str.ofString "rights")) H := fun c => by
          have e : due d b1 b2 = .bad := by
            unfold due
            cases hkk : d.k with
            | put => show (if _ then _ else _) = _; rw [if_neg c]
            | cut => exact absurd hkk hk
            | grd => show (if _ then _ else _) = _; rw [if_neg c]
          rw [e] at q; exact q
        refine ifp (by rw [decide_eq_false (fun z => hk (ks_ne.1.mp z))]; rfl) ⟨_, SqT.of ha, _, atI_nat (j := 3) rfl, d.r, rfl, ite2 (fun c1 => ⟨d.r, rfl, ?_⟩) (fun c1 => ?_)⟩
        · by_cases c2 : d.r ≤ 3
          · exact ifn (by rw [decide_eq_true c2]; rfl) (.inr ⟨c1, c2⟩)
          · exact ifp (by rw [decide_eq_false c2]; rfl) (bad fun z => c2 z.2)
        · first | exact bad (fun z => c1 z.1) | exact ifp rfl (bad fun z => c1 z.1)
    rintro ⟨rfl, rfl, h1⟩
    refine ⟨fun σ G => σ = [some (.ref a), some (.ref t)] ∧ G = G1 ∧ (d.k = .put → b1 = false), ?_, fun σ2 G2 => ?_⟩
    · walk_at "wp"
      refine ⟨_, SqT.of ha, _, atI_nat (j := 0) rfl, rfl, ite2 (fun e => ⟨_, SqT.of ht, _, atI_nat (j := 0) rfl, b1, rfl, ite2 (fun e1 => ?_) (fun e1 _ => by simpa using e1)⟩) (fun e => ifn rfl fun z => absurd (ks_ne.2.1.mpr z) e)⟩
      have hk := ks_ne.2.1.mp e
      have e2 : due d b1 b2 = .tkn := by
        unfold due
        rw [hk]
        show (if _ then _ else _) = _
        rw [if_pos (h1.resolve_left (by rw [hk]; exact fun z => nomatch z)), if_pos e1]
      rw [e2] at q; exact q
    rintro ⟨rfl, rfl, h2⟩
    walk_at "wp"
    refine ⟨_, SqT.of ha, _, atI_nat (j := 0) rfl, rfl, ?_⟩
    have gd : due d b1 b2 = .good → Q (.str (Str.ofString "good")) G2 := fun e => by rw [e] at q; exact q
    have mp : due d b1 b2 = .map → Q (.str (Str.ofString "mapped")) G2 := fun e => by rw [e] at q; exact q
    by_cases hk : d.k = .put
    · refine ifn (by rw [decide_eq_true (ks_ne.2.1.mpr hk)]; rfl) (ifn rfl (gd ?_))
      unfold due
      rw [hk]
      show (if _ then _ else _) = _
      rw [if_pos (h1.resolve_left (by rw [hk]; exact fun z => nomatch z)), h2 hk]
      rfl
    · refine ifp (by rw [decide_eq_false (fun z => hk (ks_ne.2.1.mp z))]; rfl) ⟨_, SqT.of ht, _, atI_nat (j := 1) rfl, b2, rfl, ?_⟩
      cases b2 with
      | false =>
        refine ifp rfl (mp ?_)
        unfold due
        cases hkk : d.k with
        | put => exact absurd hkk hk
        | cut => rfl
        | grd => show (if _ then _ else _) = _; rw [if_pos (h1.resolve_left (by rw [hkk]; exact fun z => nomatch z))]; rfl
      | true =>
        refine ifn rfl (gd ?_)
        unfold due
        cases hkk : d.k with
        | put => exact absurd hkk hk
        | cut => rfl
        | grd => show (if _ then _ else _) = _; rw [if_pos (h1.resolve_left (by rw [hkk]; exact fun z => nomatch z))]; rfl
noncomputable def did (rs : List Rn) (d : Dd) : List Rn :=
  match d.k with
  | .put => layR rs d.f (d.e - d.f) [⟨d.f, d.e - d.f, d.r, d.t⟩]
  | .cut => layR rs d.f (d.e - d.f) []
  | .grd => layR rs d.f (d.e - d.f) ((pam rs d.f (d.e - d.f)).map (rRn d.r))
def TyI (A : Adr) (p : Addr) (rs : List Rn) (d : Dd) (H : Hp) (w : Wd) (G : Hp) : Prop := Bu p H G ∧ ∃ a', StAt A.C_Stretches G p a' (match w with | .good => did rs d | _ => rs)
def sp_tyd (A : Adr) : Sp := fun vs H Q _ => ∃ (p a : Addr) (rs : List Rn) (v : V) (d : Dd) (b1 b2 : Bool), vs = [.ref p, v] ∧ StAt A.C_Stretches H p a rs ∧ OrdR rs ∧ rs.length ≤ 100000 ∧ DdAt H v d ∧ d.f < d.e ∧ (b1 = true ↔ pam rs d.f (d.e - d.f) ≠ []) ∧ (b2 = true ↔ ((pam rs d.f (d.e - d.f)).map (·.m)).sum = d.e - d.f) ∧
  ∀ H', TyI A p rs d H (due d b1 b2) H' → Q (.str (due d b1 b2).s) H'
theorem h_tyd (T : Txt K mg A) : Have P w K mg base "_law_tried" 8 ["_law_some", "_law_deed_here"] [] (sp_tyd A) := by
  have H_Stretches_cut := h_cut (P := P) (w := w) (base := base) T
  have H_Stretches_guard := h_guard (P := P) (w := w) (base := base) T
  have H_Stretches_put := h_st_put (P := P) (w := w) (base := base) T
  have H1_Stretches_put := h1_st_put (P := P) (w := w) (base := base) T
  refine T.r_l_tried.have sc_l_tried (fun vs H Q E z => ?_) ?_
  · obtain ⟨p, a, rs, v, d, b1, b2, rfl, _⟩ := z; rfl
  · intro f' cdv A' outer s H vs Q E hr z
    obtain ⟨p, a, rs, v, d, b1, b2, rfl, hS, ho, hlen, ⟨da, tv, rfl, hda, htv⟩, hfe, hb1, hb2, q⟩ := z
    obtain ⟨dx, us, h1, h2, h3⟩ := id hS
    refine ⟨_, (pss_cut (ps_set (i := 2) sc_l_tried.nd rfl (Or.inl rfl) (pe_ix ix_tup (pvM 1) pe_int (fun _ _ => rfl)))
      (pss_cut (ps_set (i := 3) sc_l_tried.nd rfl (Or.inl rfl) (pe_op op_sub (pe_ix ix_tup (pvM 1) pe_int (fun _ _ => rfl)) (pvM 2)))
      (pss_cons (ps_try_m (fun _ _ _ po1 xw1 => (pss_one (ps_if (pt_cmpR op_eq (pe_ix (ix_tupC (K := K) rfl) (pvM 1) pe_int (fun _ _ => rfl)) pe_str (nomark _)) (pss_one (ps_expr (pe_methE (pvM 0) T.cl_Stretches H_Stretches_cut (hr.mono (by decide)) xw1 (pa_cons (pvM 2) (pa_cons (pvM 3) pa_nil))))) (pss_one (ps_if (pt_cmpR op_eq (pe_ix (ix_tupC (K := K) rfl) (pvM 1) pe_int (fun _ _ => rfl)) pe_str (nomark _)) (pss_one (ps_expr (pe_methE (pvM 0) T.cl_Stretches H_Stretches_guard (hr.mono (by decide)) xw1 (pa_cons (pvM 2) (pa_cons (pvM 3) (pa_cons (pe_ix (ix_tupC (K := K) rfl) (pvM 1) pe_int (fun _ _ => rfl)) pa_nil)))))) (pss_one (ps_if (pt_cmpR op_isN (pe_ix (ix_tupC (K := K) rfl) (pvM 1) pe_int (fun _ _ => rfl)) pe_non (nomark _)) (pss_one (ps_expr (pe_methE (pvM 0) T.cl_Stretches H1_Stretches_put (hr.mono (by decide)) xw1 (pa_cons (pvM 2) (pa_cons (pvM 3) (pa_cons (pe_ix (ix_tupC (K := K) rfl) (pvM 1) pe_int (fun _ _ => rfl)) pa_nil)))))) (pss_one (ps_expr (pe_methE (pvM 0) T.cl_Stretches H_Stretches_put (hr.mono (by decide)) xw1 (pa_cons (pvM 2) (pa_cons (pvM 3) (pa_cons (pe_ix (ix_tupC (K := K) rfl) (pvM 1) pe_int (fun _ _ => rfl)) (pa_cons (pe_ix (ix_tupC (K := K) rfl) (pvM 1) pe_int (fun _ _ => rfl)) pa_nil)))))))))))))) pss_nil (PHs.cons T.h_BadRights (fun _ => (pss_one (ps_ret pe_str))) (PHs.cons T.h_Taken (fun _ => (pss_one (ps_ret pe_str))) (PHs.cons T.h_NotMapped (fun _ => (pss_one (ps_ret pe_str))) PHs.nil))))
      (pss_one (ps_ret pe_str))))), ?_⟩
    refine ⟨fun σ G => σ = [some (.ref p), some (.ref da), some (.int d.f), none] ∧ G = H, ?_, fun σ1 G1 => ?_⟩
    · walk_at "wp"
      exact ⟨_, SqT.of hda, _, atI_nat (j := 1) rfl, rfl⟩
    rintro ⟨rfl, rfl⟩
    refine ⟨fun σ G => σ = [some (.ref p), some (.ref da), some (.int d.f), some (.int (d.e - d.f))] ∧ G = G1, ?_, fun σ2 G2 => ?_⟩
    · walk_at "wp"
      exact ⟨_, SqT.of hda, _, atI_nat (j := 2) rfl, d.e, rfl, rfl⟩
    rintro ⟨rfl, rfl⟩
    unfold tTryM
    walk_at "wp"
    have fin : ∀ (w : Wd) (G : Hp), due d b1 b2 = w → TyI A p rs d G2 w G → Q (.str w.s) G := fun w G e h => by
      have := q G (by rw [e]; exact h)
      rw [e] at this; exact this
    have bu : ∀ {G : Hp}, Same G2 G → Bu p G2 G := fun s c o h _ => s c o h
    have hb1' : b1 = false ↔ pam rs d.f (d.e - d.f) = [] := by cases b1 <;> simp_all
    have hb2' : b2 = false ↔ ¬ ((pam rs d.f (d.e - d.f)).map (·.m)).sum = d.e - d.f := by cases b2 <;> simp_all
    refine ⟨_, SqT.of hda, _, atI_nat (j := 0) rfl, rfl, ite2 (fun e => ?_) (fun e => ⟨_, SqT.of hda, _, atI_nat (j := 0) rfl, rfl, ite2 (fun e2 => ?_) (fun e2 => ?_)⟩)⟩
    · have hk := ks_ne.1.mp e
      refine ⟨dx, _, h1, stF_no (by decide +kernel), p, a, rs, d.f, d.e - d.f, rfl, hS, ho, hlen, ite2 (fun c a' H' hS' hB => ?_) (fun c H' s' => ?_)⟩
      · refine fin .good _ (by unfold due; rw [hk]; show (if _ then _ else _) = _; rw [if_pos (hb2.mpr c)]) ⟨hB, a', ?_⟩
        unfold did; rw [hk]; exact hS'
      · exact ⟨A.C_NotMapped, rfl, .inr ⟨T.nsub_NotMapped_BadRights, .inr ⟨T.nsub_NotMapped_Taken, .inl ⟨T.sub_NotMapped_NotMapped, fin .map _ (by unfold due; rw [hk, hb2'.mpr c]; rfl) ⟨bu s', a, hS.same s'⟩⟩⟩⟩⟩
    · have hk := ks_ne.2.2.mp e2
      refine ⟨dx, _, h1, stF_no (by decide +kernel), _, SqT.of hda, _, atI_nat (j := 3) rfl, p, a, rs, d.f, d.e - d.f, d.r, rfl, hS, ho, hlen, ite2 (fun c1 => ite2 (fun c a' H' hS' hB => ?_) (fun c H' s' => ?_)) (fun c1 => ?_)⟩
      · refine fin .good _ (by unfold due; rw [hk]; show (if _ then _ else _) = _; rw [if_pos c1, if_pos (hb2.mpr c)]) ⟨hB, a', ?_⟩
        unfold did; rw [hk]; exact hS'
      · exact ⟨A.C_NotMapped, rfl, .inr ⟨T.nsub_NotMapped_BadRights, .inr ⟨T.nsub_NotMapped_Taken, .inl ⟨T.sub_NotMapped_NotMapped, fin .map _ (by unfold due; rw [hk, hb2'.mpr c]; show (if _ then _ else _) = _; rw [if_pos c1]; rfl) ⟨bu s', a, hS.same s'⟩⟩⟩⟩⟩
      · exact ⟨A.C_BadRights, rfl, .inl ⟨T.sub_BadRights_BadRights, fin .bad _ (by unfold due; rw [hk]; show (if _ then _ else _) = _; rw [if_neg c1]) ⟨bu same_refl, a, hS⟩⟩⟩
    · have hk : d.k = .put := by
        cases hkk : d.k with
        | put => rfl
        | cut => exact absurd (ks_ne.1.mpr hkk) e
        | grd => exact absurd (ks_ne.2.2.mpr hkk) e2
      have put : sp_st_put A.C_Stretches A.C_BadRights A.C_Taken [V.ref p, V.int d.f, V.int (d.e - d.f), .int d.r, tv] G2 (fun _ H1 => Q (V.str (Str.ofString "good")) H1) (fun c _ H' => ∃ C, c = Value.ref C ∧ tHs K [(A.C_BadRights, tRet (tC (V.str (Str.ofString "rights")))), (A.C_Taken, tRet (tC (V.str (Str.ofString "taken")))), (A.C_NotMapped, tRet (tC (V.str (Str.ofString "mapped"))))] C { nx := tRet (tC (V.str (Str.ofString "good"))) { nx := fun _ H' => Q V.non H', rt := Q }, rt := Q } [some (V.ref p), some (V.ref da), some (V.int d.f), some (V.int (d.e - d.f))] H') := by
        refine ⟨p, a, rs, d.f, d.e - d.f, d.r, tv, d.t, rfl, hS, ho, hlen, htv, ite2 (fun c1 => ite2 (fun c a' H' hS' hB => ?_) (fun c H' s' => ?_)) (fun c1 => ?_)⟩
        · refine fin .good _ (by unfold due; rw [hk, hb1'.mpr c]; show (if _ then _ else _) = _; rw [if_pos c1]; rfl) ⟨hB, a', ?_⟩
          unfold did; rw [hk]; exact hS'
        · exact ⟨A.C_Taken, rfl, .inr ⟨T.nsub_Taken_BadRights, .inl ⟨T.sub_Taken_Taken, fin .tkn _ (by unfold due; rw [hk]; show (if _ then _ else _) = _; rw [if_pos c1, if_pos (hb1.mpr c)]) ⟨bu s', a, hS.same s'⟩⟩⟩⟩
        · exact ⟨A.C_BadRights, rfl, .inl ⟨T.sub_BadRights_BadRights, fin .bad _ (by unfold due; rw [hk]; show (if _ then _ else _) = _; rw [if_neg c1]) ⟨bu same_refl, a, hS⟩⟩⟩
      refine ⟨_, SqT.of hda, tv, atI_nat (j := 4) rfl, ?_⟩
      by_cases ct : tv = .non
      · rw [if_pos ct]
        rw [ct] at put
        exact ⟨dx, _, h1, stF_no (by decide +kernel), _, SqT.of hda, _, atI_nat (j := 3) rfl, put⟩
      · rw [if_neg ct]
        exact ⟨dx, _, h1, stF_no (by decide +kernel), _, SqT.of hda, _, atI_nat (j := 3) rfl, _, SqT.of hda, _, atI_nat (j := 4) rfl, put⟩

def sp_tgd : Sp := fun vs H Q _ => ∃ (v : V) (t : Option (Int × Int)), vs = [v] ∧ TieAt H v t ∧ Q (.bl true) H
theorem h_tgd (T : Txt K mg A) : Have P w K mg base "_law_tie_good" 2 ["_law_tie"] [] sp_tgd := by
  have H_l_whole := h_lwh (P := P) (w := w) (base := base) T
  refine T.r_l_tie_good.have sc_l_tie_good (fun vs H Q E z => ?_) ?_
  · obtain ⟨v, t, rfl, _⟩ := z; rfl
  · intro f' cdv A' outer s H vs Q E hr z
    obtain ⟨v, t, rfl, ht, q⟩ := z
    refine ⟨_, (pss_cons (ps_if (pt_cmpR op_isN (pvM 0) pe_non (nomark _)) (pss_one (ps_ret pe_bl)) pss_nil)
      (pss_one (ps_ret (pe_and (pe_callB call_isi rfl T.b_isinstance PyProof.Rows.boot_isinstance (pa_cons (pvM 0) (pa_cons (pe_bltnE (n := "tuple") rfl T.b_tuple PyProof.Rows.boot_tuple) pa_nil))) (pe_and (pe_cmpR op_eq (pe_callB call_len rfl T.b_len PySem.boot_len (pa_cons (pvM 0) pa_nil)) pe_int (nomark _)) (pe_and (pe_callE H_l_whole (hr.mono (by decide)) xw_def (pa_cons (pe_ix ix_tup (pvM 0) pe_int (fun _ _ => rfl)) pa_nil)) (pe_one (pe_callE H_l_whole (hr.mono (by decide)) xw_def (pa_cons (pe_ix ix_tup (pvM 0) pe_int (fun _ _ => rfl)) pa_nil))))))))), ?_⟩
    walk_at "wp"
    cases t with
    | none =>
      obtain rfl : v = .non := ht
      rw [if_pos rfl]; exact q
    | some y =>
      obtain ⟨b, k⟩ := y
      obtain ⟨a, rfl, ha⟩ := ht
      rw [if_neg (fun z => nomatch z)]
      refine ⟨by decide, kn_tup ha, ifp (isTy_tup ha) ⟨2, .inr ⟨_, SqT.of ha, rfl⟩, ?_⟩⟩
      rw [if_pos (show ((2 : Nat) : Int) = 2 from rfl)]
      exact ⟨a, rfl, _, SqT.of ha, _, atI_nat (j := 0) rfl, b, rfl, true, rfl, ifp rfl ⟨a, rfl, _, SqT.of ha, _, atI_nat (j := 1) rfl, k, rfl, q⟩⟩
def sp_rgd : Sp := fun vs H Q _ => ∃ (v : V) (r : Rn), vs = [v] ∧ RunAt H v r ∧ 0 < r.m ∧ Q (.bl true) H
theorem h_rgd (T : Txt K mg A) : Have P w K mg base "_law_row_good" 3 ["_law_row"] [] sp_rgd := by
  have H_l_whole := h_lwh (P := P) (w := w) (base := base) T
  have H_l_tie_good := h_tgd (P := P) (w := w) (base := base) T
  refine T.r_l_row_good.have sc_l_row_good (fun vs H Q E z => ?_) ?_
  · obtain ⟨v, r, rfl, _⟩ := z; rfl
  · intro f' cdv A' outer s H vs Q E hr z
    obtain ⟨v, r, rfl, ⟨a, tv, rfl, ha, htv⟩, hm, q⟩ := z
    refine ⟨_, (pss_cut (ps_if (PW.pt (pw_or (pt_not (pt_val (pe_callB call_isi rfl T.b_isinstance PyProof.Rows.boot_isinstance (pa_cons (pvM 0) (pa_cons (pe_bltnE (n := "tuple") rfl T.b_tuple PyProof.Rows.boot_tuple) pa_nil))))) (pw_or (pt_cmpR op_ne (pe_callB call_len rfl T.b_len PySem.boot_len (pa_cons (pvM 0) pa_nil)) pe_int (nomark _)) (pw_or1 (pt_not (pt_val (pe_callE H_l_tie_good (hr.mono (by decide)) xw_def (pa_cons (pe_ix ix_tup (pvM 0) pe_int (fun _ _ => rfl)) pa_nil)))))))) (pss_one (ps_ret pe_bl)) pss_nil)
      (pss_one (ps_ret (pe_and (pe_callE H_l_whole (hr.mono (by decide)) xw_def (pa_cons (pe_ix ix_tup (pvM 0) pe_int (fun _ _ => rfl)) pa_nil)) (pe_and (pe_callE H_l_whole (hr.mono (by decide)) xw_def (pa_cons (pe_ix ix_tup (pvM 0) pe_int (fun _ _ => rfl)) pa_nil)) (pe_and (pe_callE H_l_whole (hr.mono (by decide)) xw_def (pa_cons (pe_ix ix_tup (pvM 0) pe_int (fun _ _ => rfl)) pa_nil)) (pe_one (pe_cmpR op_gt (pe_ix ix_tup (pvM 0) pe_int (fun _ _ => rfl)) pe_int (nomark _))))))))), ?_⟩
    refine ⟨fun σ G => σ = [some (.ref a)] ∧ G = H, ?_, fun σ1 G1 => ?_⟩
    · walk_at "wp"
      refine ⟨by decide, kn_tup ha, ifn (by rw [isTy_tup ha]; rfl) ⟨4, .inr ⟨_, SqT.of ha, rfl⟩, ifn (by decide) ⟨_, SqT.of ha, _, atI_nat (j := 3) rfl, tv, r.t, rfl, htv, true, rfl, ifn rfl rfl⟩⟩⟩
    rintro ⟨rfl, rfl⟩
    walk_at "wp"
    rw [show true = decide (0 < r.m) by rw [decide_eq_true hm]] at q
    exact ⟨_, SqT.of ha, _, atI_nat (j := 0) rfl, r.f, rfl, true, rfl, ifp rfl ⟨_, SqT.of ha, _, atI_nat (j := 1) rfl, r.m, rfl, true, rfl, ifp rfl ⟨_, SqT.of ha, _, atI_nat (j := 2) rfl, r.r, rfl, true, rfl, ifp rfl ⟨_, SqT.of ha, _, atI_nat (j := 1) rfl, r.m, rfl, q⟩⟩⟩⟩
def sp_apt : Sp := fun vs H Q _ => ∃ (v u : V) (r s : Rn), vs = [v, u] ∧ RunAt H v r ∧ RunAt H u s ∧ enR r ≤ s.f ∧ go r s = false ∧ Q (.bl true) H
theorem tie_nn {G : Hp} {v : V} {t : Option (Int × Int)} (h : TieAt G v t) : v = .non ↔ t = none := by
  cases t with
  | none => exact ⟨fun _ => rfl, fun _ => h⟩
  | some y => obtain ⟨b, k⟩ := y; obtain ⟨a, rfl, _⟩ := h; exact ⟨(fun z => nomatch z), (fun z => nomatch z)⟩
theorem h_apt (T : Txt K mg A) : Have P w K mg base "_law_apart" 1 ["_law_row", "_law_other"] [] sp_apt := by
  refine T.r_l_apart.have sc_l_apart (fun vs H Q E z => ?_) ?_
  · obtain ⟨v, u, r, s, rfl, _⟩ := z; rfl
  · intro f' cdv A' outer s0 H vs Q E hr z
    obtain ⟨v, u, r, s, rfl, ⟨a, tv, rfl, ha, htv⟩, ⟨b, tu, rfl, hb, htu⟩, hle, hgo, q⟩ := z
    refine ⟨_, (pss_cut (ps_if (PW.pt (pw_or (pt_cmpR op_ne (pe_ix ix_tup (pvM 1) pe_int (fun _ _ => rfl)) (pe_op op_add (pe_ix ix_tup (pvM 0) pe_int (fun _ _ => rfl)) (pe_ix ix_tup (pvM 0) pe_int (fun _ _ => rfl))) (nomark _)) (pw_or1 (pt_cmpR op_ne (pe_ix ix_tup (pvM 1) pe_int (fun _ _ => rfl)) (pe_ix ix_tup (pvM 0) pe_int (fun _ _ => rfl)) (nomark _))))) (pss_one (ps_ret (pe_cmpR op_ge (pe_ix ix_tup (pvM 1) pe_int (fun _ _ => rfl)) (pe_op op_add (pe_ix ix_tup (pvM 0) pe_int (fun _ _ => rfl)) (pe_ix ix_tup (pvM 0) pe_int (fun _ _ => rfl))) (nomark _)))) pss_nil)
      (pss_cut (ps_if (PW.pt (pw_or (pt_cmpR op_isN (pe_ix ix_tup (pvM 0) pe_int (fun _ _ => rfl)) pe_non (nomark _)) (pw_or1 (pt_cmpR op_isN (pe_ix ix_tup (pvM 1) pe_int (fun _ _ => rfl)) pe_non (nomark _))))) (pss_one (ps_ret (pe_or (pe_cmpR op_notN (pe_ix ix_tup (pvM 0) pe_int (fun _ _ => rfl)) pe_non (nomark _)) (pe_one (pe_cmpR op_notN (pe_ix ix_tup (pvM 1) pe_int (fun _ _ => rfl)) pe_non (nomark _)))))) pss_nil)
      (pss_one (ps_ret (pe_or (pe_cmpR op_ne (pe_ix ix_tup (pe_ix ix_tup (pvM 0) pe_int (fun _ _ => rfl)) pe_int (fun _ _ => rfl)) (pe_ix ix_tup (pe_ix ix_tup (pvM 1) pe_int (fun _ _ => rfl)) pe_int (fun _ _ => rfl)) (nomark _)) (pe_one (pe_cmpR op_ne (pe_op op_add (pe_ix ix_tup (pe_ix ix_tup (pvM 0) pe_int (fun _ _ => rfl)) pe_int (fun _ _ => rfl)) (pe_ix ix_tup (pvM 0) pe_int (fun _ _ => rfl))) (pe_ix ix_tup (pe_ix ix_tup (pvM 1) pe_int (fun _ _ => rfl)) pe_int (fun _ _ => rfl)) (nomark _)))))))), ?_⟩
    refine ⟨fun σ G => σ = [some (.ref a), some (.ref b)] ∧ G = H ∧ enR r = s.f ∧ r.r = s.r, ?_, fun σ1 G1 => ?_⟩
    · have hle' : r.f + r.m ≤ s.f := hle
      walk_at "wp"
      refine ⟨_, SqT.of hb, _, atI_nat (j := 0) rfl, _, SqT.of ha, _, atI_nat (j := 0) rfl, _, SqT.of ha, _, atI_nat (j := 1) rfl, r.f, rfl, r.m, rfl, rfl, ?_⟩
      have back : ∃ x, SqT K H b x ∧ ∃ x_4, atI x 0 = some x_4 ∧ ∃ x, SqT K H a x ∧ ∃ x_5, atI x 0 = some x_5 ∧ ∃ x, SqT K H a x ∧ ∃ x_6, atI x 1 = some x_6 ∧ ∃ i, x_5 = V.int i ∧ ∃ x, x_6 = V.int x ∧ ∃ y, x_4 = V.int y ∧ Q (.bl (decide (i + x ≤ y))) H := ⟨_, SqT.of hb, _, atI_nat (j := 0) rfl, _, SqT.of ha, _, atI_nat (j := 0) rfl, _, SqT.of ha, _, atI_nat (j := 1) rfl, r.f, rfl, r.m, rfl, s.f, rfl, by rw [decide_eq_true hle']; exact q⟩
      by_cases c1 : s.f = r.f + r.m
      · rw [if_neg (by rw [decide_eq_true (congrArg V.int c1)]; exact fun z => nomatch z)]
        refine ⟨_, SqT.of hb, _, atI_nat (j := 2) rfl, _, SqT.of ha, _, atI_nat (j := 2) rfl, rfl, ?_⟩
        by_cases c2 : s.r = r.r
        · rw [if_neg (by rw [decide_eq_true (congrArg V.int c2)]; exact fun z => nomatch z)]
          exact ⟨c1.symm, c2.symm⟩
        · rw [if_pos (by rw [decide_eq_false (fun z => c2 (V.int.inj z))]; rfl)]
          exact back
      · rw [if_pos (by rw [decide_eq_false (fun z => c1 (V.int.inj z))]; rfl)]
        exact back
    rintro ⟨rfl, rfl, e1, e2⟩
    have hne : tf r s.f ≠ s.t := fun e => by
      unfold go at hgo
      rw [decide_eq_true e1, decide_eq_true e2, decide_eq_true e] at hgo
      cases hgo
    refine ⟨fun σ G => σ = [some (.ref a), some (.ref b)] ∧ G = G1 ∧ r.t ≠ none ∧ s.t ≠ none, ?_, fun σ2 G2 => ?_⟩
    · walk_at "wp"
      have n1 := tie_nn htv
      have n2 := tie_nn htu
      have both : ¬ (r.t = none ∧ s.t = none) := fun ⟨z1, z2⟩ => hne (by unfold tf; rw [z1, z2]; rfl)
      refine ⟨_, SqT.of ha, tv, atI_nat (j := 3) rfl, ?_⟩
      by_cases c : tv = .non
      · rw [if_pos c]
        have : tu ≠ .non := fun z => both ⟨n1.mp c, n2.mp z⟩
        exact ⟨_, SqT.of ha, tv, atI_nat (j := 3) rfl, ifn (by rw [decide_eq_true c]; rfl) ⟨_, SqT.of hb, tu, atI_nat (j := 3) rfl, by rw [decide_eq_false this]; exact q⟩⟩
      · rw [if_neg c]
        refine ⟨_, SqT.of hb, tu, atI_nat (j := 3) rfl, ?_⟩
        by_cases c2 : tu = .non
        · rw [if_pos c2]
          exact ⟨_, SqT.of ha, tv, atI_nat (j := 3) rfl, ifp (by rw [decide_eq_false c]; rfl) q⟩
        · rw [if_neg c2]
          exact ⟨fun z => c (n1.mpr z), fun z => c2 (n2.mpr z)⟩
    rintro ⟨rfl, rfl, t1, t2⟩
    cases ht1 : r.t with
    | none => exact absurd ht1 t1
    | some y1 =>
    cases ht2 : s.t with
    | none => exact absurd ht2 t2
    | some y2 =>
    obtain ⟨b1, k1⟩ := y1
    obtain ⟨b2, k2⟩ := y2
    rw [ht1] at htv
    rw [ht2] at htu
    obtain ⟨ta, rfl, hta⟩ := htv
    obtain ⟨ua, rfl, hua⟩ := htu
    walk_at "wp"
    refine ⟨_, SqT.of ha, _, atI_nat (j := 3) rfl, ta, rfl, _, SqT.of hta, _, atI_nat (j := 0) rfl, _, SqT.of hb, _, atI_nat (j := 3) rfl, ua, rfl, _, SqT.of hua, _, atI_nat (j := 0) rfl, rfl, ?_⟩
    by_cases c : b1 = b2
    · rw [if_neg (by rw [decide_eq_true (congrArg V.int c)]; exact fun z => nomatch z)]
      have c3 : ¬ k1 + r.m = k2 := fun z => hne (by
        unfold tf
        rw [ht1, ht2]
        show some (b1, k1 + s.f - r.f) = some (b2, k2)
        have : enR r = r.f + r.m := rfl
        rw [c, show k1 + s.f - r.f = k2 by omega])
      exact ⟨_, SqT.of ha, _, atI_nat (j := 3) rfl, ta, rfl, _, SqT.of hta, _, atI_nat (j := 1) rfl, _, SqT.of ha, _, atI_nat (j := 1) rfl, k1, rfl, r.m, rfl, _, SqT.of hb, _, atI_nat (j := 3) rfl, ua, rfl, _, SqT.of hua, _, atI_nat (j := 1) rfl, rfl, by rw [decide_eq_false (fun z => c3 (V.int.inj z))]; exact q⟩
    · exact ifp (by rw [decide_eq_false (fun z => c (V.int.inj z))]; rfl) q
def sp_rwa : Sp := fun vs H Q _ => ∃ (tl : Addr) (us : List V) (rs : List Rn) (p : Int), vs = [.ref tl, .int p] ∧ H tl = some (.lst us) ∧ RunsAt H us rs ∧ ∀ v H', Same H H' → PrAt H' v (pm rs p) → Q v H'
theorem h_rwa (T : Txt K mg A) : Have P w K mg base "_law_row_at" 1 ["_law_told", "_law_page"] [] sp_rwa := by
  refine T.r_l_row_at.have sc_l_row_at (fun vs H Q E z => ?_) ?_
  · obtain ⟨tl, us, rs, p, rfl, _⟩ := z; rfl
  · intro f' cdv A' outer s H vs Q E hr z
    obtain ⟨tl, us, rs, p, rfl, hl, hR, q⟩ := z
    refine ⟨_, (pss_cons (ps_forE PassesOwn.leaving rfl (pi_list (pvM 0)) (pg_name (i := 2) sc_l_row_at.nd rfl (Or.inl rfl)) (pss_one (ps_if (pt_chain op_le op_lt (pe_ix ix_tup (pvM 2) pe_int (fun _ _ => rfl)) (pvM 1) (pe_op op_add (pe_ix ix_tup (pvM 2) pe_int (fun _ _ => rfl)) (pe_ix ix_tup (pvM 2) pe_int (fun _ _ => rfl)))) (pss_cons (ps_if (pt_cmpR op_isN (pe_ix ix_tup (pvM 2) pe_int (fun _ _ => rfl)) pe_non (nomark _)) (pss_one (ps_ret (pe_tup (pa_cons (pe_ix ix_tup (pvM 2) pe_int (fun _ _ => rfl)) (pa_cons pe_non pa_nil))))) pss_nil)
      (pss_one (ps_ret (pe_tup (pa_cons (pe_ix ix_tup (pvM 2) pe_int (fun _ _ => rfl)) (pa_cons (pe_tup (pa_cons (pe_ix ix_tup (pe_ix ix_tup (pvM 2) pe_int (fun _ _ => rfl)) pe_int (fun _ _ => rfl)) (pa_cons (pe_op op_sub (pe_op op_add (pe_ix ix_tup (pe_ix ix_tup (pvM 2) pe_int (fun _ _ => rfl)) pe_int (fun _ _ => rfl)) (pvM 1)) (pe_ix ix_tup (pvM 2) pe_int (fun _ _ => rfl))) pa_nil))) pa_nil)))))) pss_nil)))
      (pss_one (ps_ret (pe_tup (pa_cons pe_non (pa_cons pe_non pa_nil)))))), ?_⟩
    walk_at "wp"
    refine ⟨⟨_, SqL.of hl⟩, loop_list (xs := us) (fun i σ G => ∃ v2, σ = [some (.ref tl), some (.int p), v2] ∧ G = H ∧ pm rs p = pm (rs.drop i) p) ⟨_, rfl, rfl, by rw [List.drop_zero]⟩ (fun i σ G _ ⟨_, _, e, _⟩ => by rw [e]; exact SqL.of hl) (fun i x σ G hx => ?_) (fun σ G => ?_)⟩
    · rintro ⟨v2, rfl, rfl, hp⟩
      obtain ⟨r, hr, a, tv, rfl, ha, htv⟩ := prd_get hR hx
      have hil := (List.getElem?_eq_some_iff.mp hr).1
      have hdr : rs.drop i = r :: rs.drop (i + 1) := by
        rw [List.drop_eq_getElem_cons hil]
        rw [List.getElem?_eq_getElem hil] at hr
        rw [Option.some.inj hr]
      rw [hdr] at hp
      walk_at "wp"
      have nope : ¬ (r.f ≤ p ∧ p < enR r) → pm rs p = pm (rs.drop (i + 1)) p := fun c => by rw [hp]; show (if _ then _ else _) = _; rw [if_neg c]
      refine ⟨_, SqT.of ha, _, atI_nat (j := 0) rfl, r.f, rfl, ite2 (fun h1 => ⟨_, SqT.of ha, _, atI_nat (j := 0) rfl, _, SqT.of ha, _, atI_nat (j := 1) rfl, r.f, rfl, r.m, rfl, ite2 (fun h2 => ⟨_, SqT.of ha, tv, atI_nat (j := 3) rfl, ?_⟩) (fun h2 => nope fun z => h2 z.2)⟩) (fun h1 => ifn rfl (nope fun z => h1 z.1))⟩
      have e : pm rs p = some (r.r, tf r p) := by rw [hp]; show (if _ then _ else _) = _; rw [if_pos ⟨h1, h2⟩]
      cases ht : r.t with
      | none =>
        rw [ht] at htv
        obtain rfl : tv = .non := htv
        rw [if_pos rfl]
        refine ⟨_, SqT.of ha, .int r.r, atI_nat (j := 2) rfl, fun tp htp => q _ _ (new_at htp).1 ?_⟩
        rw [e]
        exact ⟨tp, .non, rfl, (new_at htp).2, by unfold tf; rw [ht]; rfl⟩
      | some y =>
        obtain ⟨b, k⟩ := y
        rw [ht] at htv
        obtain ⟨ta, rfl, hta⟩ := htv
        rw [if_neg (fun z => nomatch z)]
        refine ⟨_, SqT.of ha, .int r.r, atI_nat (j := 2) rfl, _, SqT.of ha, _, atI_nat (j := 3) rfl, ta, rfl, _, SqT.of hta, .int b, atI_nat (j := 0) rfl, _, SqT.of ha, _, atI_nat (j := 3) rfl, ta, rfl, _, SqT.of hta, _, atI_nat (j := 1) rfl, k, rfl, _, SqT.of ha, _, atI_nat (j := 0) rfl, r.f, rfl, fun t1 ht1 t2 ht2 => ?_⟩
        obtain ⟨b1, c1⟩ := new_at (o := .tup [V.int b, V.int (k + p - r.f)]) ht1
        refine q _ _ (b1.trans (new_at ht2).1) ?_
        rw [e]
        exact ⟨t2, .ref t1, rfl, (new_at ht2).2, by unfold tf; rw [ht]; exact ⟨t1, rfl, (new_at ht2).1 _ _ c1⟩⟩
    · rintro ⟨v2, rfl, rfl, hp⟩
      have hul := Paired.length hR
      rw [List.drop_eq_nil_of_le (by omega)] at hp
      walk_at "wp"
      intro tp htp
      exact q _ _ (new_at htp).1 (by rw [hp]; exact ⟨tp, rfl, (new_at htp).2⟩)

abbrev Kvs := List (Key × V)
def dvPl : Pgs → List Dv
  | none => [.leaf .non, .leaf .non]
  | some (r, t) => [.leaf (.int r), dvT t]
theorem sees_pr {H : Hp} {v : V} : ∀ {y : Pgs}, PrAt H v y → Sees K H (.seq true (dvPl y)) v
  | none, ⟨a, e, h⟩ => ⟨a, _, e, SqT.of h, _, _, rfl, ⟨rfl, rfl⟩, _, _, rfl, ⟨rfl, rfl⟩, rfl⟩
  | some (r, t), ⟨a, tv, e, h, h2⟩ => ⟨a, _, e, SqT.of h, _, _, rfl, ⟨rfl, rfl⟩, _, _, rfl, sees_tie h2, rfl⟩
theorem dvP_self (y : Pgs) : alikeL (dvPl y) (dvPl y) = true ∧ eqDvL (dvPl y) (dvPl y) = true ∧ deepL (dvPl y) ≤ 2 := by
  cases y with
  | none => exact ⟨by simp [dvPl, alikeL, alike], by simp [dvPl, eqDvL, eqDv, eqV], by simp [dvPl, deepL, deep]⟩
  | some y =>
    obtain ⟨r, t⟩ := y
    obtain ⟨h1, h2, h3⟩ := dvT_self t
    refine ⟨by simp [dvPl, alikeL, alike, h1], by simp [dvPl, eqDvL, eqDv, int_self, h2], ?_⟩
    simp only [dvPl, deepL, deep]
    omega
theorem ne_pr {H : Hp} {v u : V} {y : Pgs} {Q : VK} (h1 : PrAt H v y) (h2 : PrAt H u y) (q : Q (.bl false) H) : rNeD K 4 v u H Q := by
  obtain ⟨g1, g2, g3⟩ := dvP_self y
  exact ⟨true, _, _, sees_pr h1, sees_pr h2, g1, by omega, by rw [g2]; exact q⟩
theorem putK_keys {kvs : Kvs} {k : Key} {v : V} {kv : Key × V} (h : kv ∈ putK kvs k v) : kv.1 = k ∨ ∃ x ∈ kvs, x.1 = kv.1 := by
  unfold putK at h
  split at h
  · obtain ⟨x, hx, rfl⟩ := List.mem_map.mp h
    by_cases c : x.1 = k
    · rw [if_pos c]; exact .inl c
    · rw [if_neg c]; exact .inr ⟨x, hx, rfl⟩
  · rcases List.mem_append.mp h with h | h
    · exact .inr ⟨kv, h, rfl⟩
    · rw [List.mem_singleton.mp h]; exact .inl rfl
theorem putK_len {kvs : Kvs} {k : Key} {v : V} : (putK kvs k v).length ≤ kvs.length + 1 := by
  unfold putK
  split
  · rw [List.length_map]; omega
  · rw [List.length_append]; exact Nat.le_refl _
def EnI (Hb : Hp) (en : Addr) (m : Nat) (G : Hp) : Prop := ∃ kvs : Kvs, Same Hb G ∧ Hb en = none ∧ G en = some (.dK kvs) ∧ (∀ kv ∈ kvs, ∃ i : Int, kv.1 = Sum.inl i) ∧ kvs.length ≤ m
theorem EnI.put {Hb G : Hp} {en : Addr} {m : Nat} {kvs : Kvs} {i : Int} {v : V} (s : Same Hb G) (h0 : Hb en = none) (hk : ∀ kv ∈ kvs, ∃ i : Int, kv.1 = Sum.inl i) (hl : kvs.length ≤ m) : EnI Hb en (m + 1) (upd G en (.dK (putK kvs (Sum.inl i) v))) :=
  ⟨_, same_put s h0, h0, upd_same, fun kv h => by
    rcases putK_keys h with e | ⟨x, hx, e⟩
    · exact ⟨i, e⟩
    · obtain ⟨j, hj⟩ := hk x hx; exact ⟨j, by rw [← e]; exact hj⟩, by have := putK_len (kvs := kvs) (k := Sum.inl i) (v := v); omega⟩
def TdI (H : Hp) (rs : List Rn) (tl : Addr) (G : Hp) : Prop := ∃ us, Same H G ∧ G tl = some (.lst us) ∧ RunsAt G us rs
theorem rep_snoc {k : Nat} : (List.replicate k true).map V.bl ++ [V.bl true] = V.bl true :: (List.replicate k true).map V.bl := by rw [List.map_replicate, ← List.replicate_succ', List.replicate_succ]
theorem lst_at {rs : List Rn} (l : LstR rs) {i : Nat} {r s : Rn} (h1 : rs[i]? = some r) (h2 : rs[i + 1]? = some s) : go r s = false := by
  have e : rs = rs.take (i + 1) ++ rs.drop (i + 1) := (List.take_append_drop _ _).symm
  rw [e] at l
  refine lst_amid l ?_ ?_
  · rw [List.getLast?_take]
    simp [h1]
  · rw [List.head?_drop]; exact h2
theorem ord_at {rs : List Rn} (o : OrdR rs) {i : Nat} {r s : Rn} (h1 : rs[i]? = some r) (h2 : rs[i + 1]? = some s) : enR r ≤ s.f := by
  obtain ⟨a1, a2⟩ := List.getElem?_eq_some_iff.mp h1
  obtain ⟨b1, b2⟩ := List.getElem?_eq_some_iff.mp h2
  have := List.pairwise_iff_getElem.mp o.1 i (i + 1) a1 b1 (by omega)
  rw [a2, b2] at this; exact this
def sp_trt (A : Adr) : Sp := fun vs H Q _ => ∃ (p a dl : Addr) (rs : List Rn) (dvs : List V) (ds : List Dd), vs = [.ref p, .ref dl] ∧ StAt A.C_Stretches H p a rs ∧ Tr rs ds.reverse ∧ H dl = some (.lst dvs) ∧ DdsAt H dvs ds ∧ ds.length ≤ 100 ∧ ∀ H', Same H H' → Q (.bl true) H'
theorem h_trt (T : Txt K mg A) : Have P w K mg base "_law_told_right" 8 ["_law_some", "_law_deeds"] [] (sp_trt A) := by
  have H_l_row_good := h_rgd (P := P) (w := w) (base := base) T
  have H_l_apart := h_apt (P := P) (w := w) (base := base) T
  have H_l_state := h_stt (P := P) (w := w) (base := base) T
  have H_l_row_at := h_rwa (P := P) (w := w) (base := base) T
  have H_Stretches_told := h_st_told (P := P) (w := w) (base := base) T
  have H_Stretches_rights_at := h_rat (P := P) (w := w) (base := base) T
  have H_Stretches_tie_at := h_tat (P := P) (w := w) (base := base) T
  refine T.r_l_told_right.have sc_l_told_right (fun vs H Q E z => ?_) ?_
  · obtain ⟨p, a, dl, rs, dvs, ds, rfl, _⟩ := z; rfl
  · intro f' cdv A' outer s H vs Q E hr z
    obtain ⟨p, a, dl, rs, dvs, ds, rfl, hS, hT, hl, hD, hn, q⟩ := z
    obtain ⟨dx, us0, h1, h2, h3⟩ := id hS
    have hdl := Paired.length hD
    have hfew := few hT.o hT.l hT.h
    rw [List.length_reverse] at hfew
    have hz := PySem.sizeLine_eq
    refine ⟨_, (pss_cut (ps_set (i := 2) sc_l_told_right.nd rfl (Or.inr rfl) (pe_methE0 (pvM 0) T.cl_Stretches H_Stretches_told (hr.mono (by decide)) xw_def))
      (pss_cut (ps_if (PW.pt (pw_or (pt_not (pt_val (pe_callB call_isi rfl T.b_isinstance PyProof.Rows.boot_isinstance (pa_cons (pvM 2) (pa_cons (pe_bltnE (n := "list") rfl T.b_list PyProof.Rows.boot_list) pa_nil))))) (pw_or1 (pt_not (pt_val (pe_callB (call_all rfl) rfl T.b_all (by decide +kernel) (pa_cons (pe_comp rfl (pi_list (pvM 2)) (x := "_law_row") (fs := []) (ix := []) rfl rfl (fun _ _ _ _ _ _ => (pg_name (i := 0) (show (["_law_row"] : List Str).Nodup by decide +kernel) rfl (Or.inl rfl))) (fun _ _ _ _ _ _ => pf_nil) (fun _ _ _ _ _ _ => (pe_callE H_l_row_good (hr.mono (by decide)) xw_no (pa_cons (pvM 0) pa_nil)))) pa_nil))))))) (pss_one (ps_ret pe_bl)) pss_nil)
      (pss_cut (ps_if (pt_not (pt_val (pe_callB (call_all rfl) rfl T.b_all (by decide +kernel) (pa_cons (pe_comp rfl (pi_range1 rfl T.b_range (pa_cons (pe_op op_sub (pe_callB call_len rfl T.b_len PySem.boot_len (pa_cons (pvM 2) pa_nil)) pe_int) pa_nil)) (x := "_law_k") (fs := ["_law_told"]) (ix := [2]) rfl rfl (fun _ _ _ _ _ _ => (pg_name (i := 0) (show (["_law_k", "_law_told"] : List Str).Nodup by decide +kernel) rfl (Or.inl rfl))) (fun _ _ _ _ _ _ => pf_nil) (fun _ _ _ _ _ _ => (pe_callE H_l_apart (hr.mono (by decide)) xw_no (pa_cons (pe_ix (ix_listC (K := K) rfl) (pvM 1) (pvM 0) (fun _ _ => rfl)) (pa_cons (pe_ix (ix_listC (K := K) rfl) (pvM 1) (pe_op op_add (pvM 0) pe_int) (fun _ _ => rfl)) pa_nil))))) pa_nil)))) (pss_one (ps_ret pe_bl)) pss_nil)
      (pss_cut (ps_set (i := 3) sc_l_told_right.nd rfl (Or.inl rfl) pe_dnewK)
      (pss_cut (ps_forE PassesOwn.leaving rfl (pi_list (pvM 1)) (pg_name (i := 4) sc_l_told_right.nd rfl (Or.inl rfl)) (pss_cut (ps_dput (hu_of hr) (pvM 3) (pe_ix ix_tup (pvM 4) pe_int (fun _ _ => rfl)) pe_bl rfl)
      (pss_one (ps_dput (hu_of hr) (pvM 3) (pe_ix ix_tup (pvM 4) pe_int (fun _ _ => rfl)) pe_bl rfl))))
      (pss_cut (ps_forE PassesOwn.leaving rfl (pi_list (pvM 2)) (pg_name (i := 5) sc_l_told_right.nd rfl (Or.inl rfl)) (pss_cut (ps_dput (hu_of hr) (pvM 3) (pe_ix ix_tup (pvM 5) pe_int (fun _ _ => rfl)) pe_bl rfl)
      (pss_one (ps_dput (hu_of hr) (pvM 3) (pe_op op_add (pe_ix ix_tup (pvM 5) pe_int (fun _ _ => rfl)) (pe_ix ix_tup (pvM 5) pe_int (fun _ _ => rfl))) pe_bl rfl))))
      (pss_cons (ps_thaw (ps_forE PassesOwn.leaving rfl (pi_dict (pvM 3)) (pg_name (i := 6) sc_l_told_right.nd rfl (Or.inl rfl)) (pss_cut (ps_set (i := 7) sc_l_told_right.nd rfl (Or.inl rfl) (pe_callE H_l_state (hr.mono (by decide)) xw_def (pa_cons (pvM 1) (pa_cons (pvM 6) pa_nil))))
      (pss_one (ps_if (PW.pt (pw_or (pt_cmpR (op_neD (n := 4) (hu6 hr)) (pe_callE H_l_row_at (hr.mono (by decide)) xw_def (pa_cons (pvM 2) (pa_cons (pvM 6) pa_nil))) (pvM 7) (nomark _)) (pw_or1 (pt_cmpR (op_neD (n := 4) (hu6 hr)) (pe_tup (pa_cons (pe_methE (pvM 0) T.cl_Stretches H_Stretches_rights_at (hr.mono (by decide)) xw_def (pa_cons (pvM 6) pa_nil)) (pa_cons (pe_methE (pvM 0) T.cl_Stretches H_Stretches_tie_at (hr.mono (by decide)) xw_def (pa_cons (pvM 6) pa_nil)) pa_nil))) (pvM 7) (nomark _))))) (pss_one (ps_ret pe_bl)) pss_nil)))))
      (pss_one (ps_ret pe_bl))))))))), ?_⟩
    refine ⟨fun σ G => ∃ tl, σ = [some (.ref p), some (.ref dl), some (.ref tl), none, none, none, none, none] ∧ TdI H rs tl G, ?_, fun σ1 G1 => ?_⟩
    · walk_at "wp"
      exact ⟨dx, _, h1, stF_no (by decide +kernel), p, a, rs, rfl, hS, fun t us ht hru => ⟨t, rfl, us, (new_at ht).1, upd_same, hru⟩⟩
    rintro ⟨tl, rfl, us, s1, htl, hU⟩
    have hul := Paired.length hU
    refine ⟨fun σ G => σ = [some (.ref p), some (.ref dl), some (.ref tl), none, none, none, none, none] ∧ Same G1 G, ?_, fun σ2 G2 => ?_⟩
    · walk_at "wp"
      refine ⟨by decide, kn_lst htl, ifn (by rw [isTy_lst htl]; rfl) ⟨⟨_, SqL.of htl⟩, fun D hD => comp_list (xs := us) (fun k ys σ G' => ∃ v0, σ = [v0] ∧ Same G1 G' ∧ G' D = some (.lst ys) ∧ ys = (List.replicate k true).map V.bl) ⟨_, rfl, same_upd same_refl hD, upd_same, rfl⟩ (fun k ys σ G' _ ⟨_, _, s4, _⟩ => SqL.of (s4 _ _ htl)) (fun k x ys σ G' hk => ?_) (fun ys σ G' => ?_)⟩⟩
      · rintro ⟨v0, rfl, s4, hD4, rfl⟩
        obtain ⟨r, hr, hrun⟩ := prd_get hU hk
        have hkl := (List.getElem?_eq_some_iff.mp hr).1
        walk_at "wp"
        exact ⟨x, r, rfl, hrun.same s4, hT.o.2 r (List.mem_of_getElem? hr), hD4, by rw [List.length_map, List.length_replicate]; omega, same_put s4 hD, rep_snoc⟩
      · rintro ⟨v0, rfl, s4, hD4, rfl⟩
        exact ⟨_, SqL.of hD4, ifn (by simp) s4⟩
    rintro ⟨rfl, s2⟩
    refine ⟨fun σ G => σ = [some (.ref p), some (.ref dl), some (.ref tl), none, none, none, none, none] ∧ Same G1 G, ?_, fun σ3 G3 => ?_⟩
    · walk_at "wp"
      refine ⟨us.length, .inl ⟨_, SqL.of (s2 _ _ htl), rfl⟩, by omega, by omega, fun D hD => ?_⟩
      refine comp_range (fun k ys σ G' => ∃ v0, σ = [v0, some (.ref tl)] ∧ Same G2 G' ∧ G' D = some (.lst ys) ∧ ys = (List.replicate k true).map V.bl) ⟨_, rfl, same_upd same_refl hD, upd_same, rfl⟩ (fun k ys σ G' hk => ?_) (fun ys σ G' => ?_)
      · rintro ⟨v0, rfl, s4, hD4, rfl⟩
        have hk1 : k + 1 < rs.length := by omega
        obtain ⟨r1, hr1⟩ : ∃ r, rs[k]? = some r := ⟨_, List.getElem?_eq_getElem (by omega)⟩
        obtain ⟨r2, hr2⟩ : ∃ r, rs[k + 1]? = some r := ⟨_, List.getElem?_eq_getElem hk1⟩
        obtain ⟨x1, hx1⟩ : ∃ x, us[k]? = some x := ⟨_, List.getElem?_eq_getElem (by omega)⟩
        obtain ⟨x2, hx2⟩ : ∃ x, us[k + 1]? = some x := ⟨_, List.getElem?_eq_getElem (by omega)⟩
        obtain ⟨y1, e1, ru1⟩ := prd_get hU hx1
        obtain ⟨y2, e2, ru2⟩ := prd_get hU hx2
        obtain rfl : r1 = y1 := by rw [hr1] at e1; exact Option.some.inj e1
        obtain rfl : r2 = y2 := by rw [hr2] at e2; exact Option.some.inj e2
        have s14 := s2.trans s4
        walk_at "wp"
        rw [Int.zero_add]
        exact ⟨_, SqL.of (s14 _ _ htl), x1, atI_nat hx1, _, SqL.of (s14 _ _ htl), x2, atI_nat (j := k + 1) hx2, x1, x2, r1, r2, rfl, ru1.same s14, ru2.same s14, ord_at hT.o hr1 hr2, lst_at hT.l hr1 hr2, hD4, by rw [List.length_map, List.length_replicate]; omega, same_put s4 hD, rep_snoc⟩
      · rintro ⟨v0, rfl, s4, hD4, rfl⟩
        exact ⟨_, SqL.of hD4, ifn (by simp) (s2.trans s4)⟩
    rintro ⟨rfl, s3⟩
    refine ⟨fun σ G => ∃ en, σ = [some (.ref p), some (.ref dl), some (.ref tl), some (.ref en), none, none, none, none] ∧ EnI G3 en 0 G, ?_, fun σ4 G4 => ?_⟩
    · walk_at "wp"
      intro en hen
      exact ⟨[], (new_at hen).1, hen, (new_at hen).2, (fun kv h => by cases h), Nat.le_refl _⟩
    rintro ⟨en, rfl, hE4⟩
    have s03 := s1.trans s3
    refine ⟨fun σ G => ∃ v4, σ = [some (.ref p), some (.ref dl), some (.ref tl), some (.ref en), v4, none, none, none] ∧ EnI G3 en (2 * ds.length) G, ?_, fun σ5 G5 => ?_⟩
    · obtain ⟨_, s4, _⟩ := id hE4
      walk_at "wp"
      refine ⟨⟨_, SqL.of (s4 _ _ (s03 _ _ hl))⟩, loop_list (xs := dvs) (fun i σ G => ∃ v4, σ = [some (.ref p), some (.ref dl), some (.ref tl), some (.ref en), v4, none, none, none] ∧ EnI G3 en (2 * i) G) ⟨_, rfl, hE4⟩ (fun i σ G _ ⟨_, _, _, s5, _⟩ => SqL.of (s5 _ _ (s03 _ _ hl))) (fun i x σ G hx => ?_) (fun σ G => ?_)⟩
      · rintro ⟨v4, rfl, kvs, s5, hen, hk, hki, hkl⟩
        obtain ⟨d, hd, da, tv, rfl, hda, _⟩ := prd_get hD hx
        have hil := (List.getElem?_eq_some_iff.mp hx).1
        walk_at "wp"
        have hda5 := (s03.trans s5) _ _ hda
        refine ⟨fun σ G' => σ = [some (.ref p), some (.ref dl), some (.ref tl), some (.ref en), some (.ref da), none, none, none] ∧ EnI G3 en (2 * i + 1) G', ?_, fun σ6 G6 => ?_⟩
        · unfold sDPut
          walk_at "wp"
          refine ⟨_, SqT.of hda5, _, atI_nat (j := 1) rfl, _, .inl ⟨kvs, Sum.inl d.f, hk, rfl, by omega, rfl⟩, EnI.put s5 hen hki hkl⟩
        rintro ⟨rfl, kvs2, s6, _, hk2, hki2, hkl2⟩
        unfold sDPut
        walk_at "wp"
        exact ⟨_, SqT.of ((s03.trans s6) _ _ hda), _, atI_nat (j := 2) rfl, _, .inl ⟨kvs2, Sum.inl d.e, hk2, rfl, by omega, rfl⟩, by have := EnI.put (i := d.e) (v := .bl true) s6 hen hki2 hkl2; rwa [show 2 * i + 1 + 1 = 2 * (i + 1) by omega] at this⟩
      · rintro ⟨v4, rfl, hE⟩
        rw [hdl] at hE
        exact ⟨_, rfl, hE⟩
    rintro ⟨v4, rfl, hE5⟩
    refine ⟨fun σ G => ∃ v5, σ = [some (.ref p), some (.ref dl), some (.ref tl), some (.ref en), v4, v5, none, none] ∧ EnI G3 en (2 * ds.length + 2 * rs.length) G, ?_, fun σ6 G6 => ?_⟩
    · obtain ⟨_, s4, _⟩ := id hE5
      walk_at "wp"
      refine ⟨⟨_, SqL.of (s4 _ _ (s3 _ _ htl))⟩, loop_list (xs := us) (fun i σ G => ∃ v5, σ = [some (.ref p), some (.ref dl), some (.ref tl), some (.ref en), v4, v5, none, none] ∧ EnI G3 en (2 * ds.length + 2 * i) G) ⟨_, rfl, hE5⟩ (fun i σ G _ ⟨_, _, _, s5, _⟩ => SqL.of (s5 _ _ (s3 _ _ htl))) (fun i x σ G hx => ?_) (fun σ G => ?_)⟩
      · rintro ⟨v5, rfl, kvs, s5, hen, hk, hki, hkl⟩
        obtain ⟨r, hr, ra, tv, rfl, hra, _⟩ := prd_get hU hx
        have hil := (List.getElem?_eq_some_iff.mp hx).1
        walk_at "wp"
        have hra5 := (s3.trans s5) _ _ hra
        refine ⟨fun σ G' => σ = [some (.ref p), some (.ref dl), some (.ref tl), some (.ref en), v4, some (.ref ra), none, none] ∧ EnI G3 en (2 * ds.length + 2 * i + 1) G', ?_, fun σ6 G6 => ?_⟩
        · unfold sDPut
          walk_at "wp"
          refine ⟨_, SqT.of hra5, _, atI_nat (j := 0) rfl, _, .inl ⟨kvs, Sum.inl r.f, hk, rfl, by omega, rfl⟩, EnI.put s5 hen hki hkl⟩
        rintro ⟨rfl, kvs2, s6, _, hk2, hki2, hkl2⟩
        have hra6 := (s3.trans s6) _ _ hra
        unfold sDPut
        walk_at "wp"
        exact ⟨_, SqT.of hra6, _, atI_nat (j := 0) rfl, _, SqT.of hra6, _, atI_nat (j := 1) rfl, r.f, rfl, r.m, rfl, _, .inl ⟨kvs2, Sum.inl (r.f + r.m), hk2, rfl, by omega, rfl⟩, by have := EnI.put (i := r.f + r.m) (v := .bl true) s6 hen hki2 hkl2; rwa [show 2 * ds.length + 2 * i + 1 + 1 = 2 * ds.length + 2 * (i + 1) by omega] at this⟩
      · rintro ⟨v5, rfl, hE⟩
        rw [hul] at hE
        exact ⟨_, rfl, hE⟩
    rintro ⟨v5, rfl, kvs, s6, hen, hk, hki, hkl⟩
    unfold tThaw iDict
    walk_at "wp"
    have hen0 : H en = none := same_none s03 hen
    refine ⟨en, fun o u => ?_, kvs, hk, fun o => ?_⟩
    · intro z
      have z : H en = some (.frz o u) := z
      rw [hen0] at z; cases z
    refine loop_dict (fun i σ G => ∃ v6 v7, σ = [some (.ref p), some (.ref dl), some (.ref tl), some (.ref en), v4, v5, v6, v7] ∧ Same G3 G ∧ G en = some (.frz o (.dK kvs))) ⟨_, _, rfl, same_put s6 hen, upd_same⟩ (fun i σ G _ ⟨_, _, _, _, e⟩ => e) (fun i k v σ G hi => ?_) (fun σ G => ?_)
    · rintro ⟨v6, v7, rfl, s7, hf⟩
      obtain ⟨x, hx⟩ := hki _ (List.mem_of_getElem? hi)
      obtain rfl : k = Sum.inl x := hx
      have s07 := s03.trans s7
      walk_at "wp"
      refine ⟨fun σ G' => ∃ v, σ = [some (.ref p), some (.ref dl), some (.ref tl), some (.ref en), v4, v5, some (.int x), some v] ∧ Same G G' ∧ PrAt G' v (sem ds.reverse x), ?_, fun σ8 G8 => ?_⟩
      · walk_at "wp"
        exact ⟨dl, dvs, ds, x, rfl, s07 _ _ hl, Paired.mapP hD fun _ _ h => h.tp (same_tp s07), hn, fun v H' s8 hp => ⟨rfl, s8, hp⟩⟩
      rintro ⟨u, rfl, s8, hu⟩
      walk_at "wp"
      have s38 := s7.trans s8
      have s08 := s07.trans s8
      rw [← hT.h] at hu
      refine ⟨tl, us, rs, x, rfl, s38 _ _ (s3 _ _ htl), hU.same (s3.trans s38), fun v9 H9 s9 hv9 => ne_pr hv9 (hu.tp (same_tp s9)) ⟨false, rfl, ifn rfl ?_⟩⟩
      have s09 := s08.trans s9
      refine ⟨dx, _, s09 _ _ h1, stF_no (by decide +kernel), p, a, rs, x, rfl, hS.same s09, hT.o, by omega, fun H10 s10 => ?_⟩
      have s010 := s09.trans s10
      refine ⟨dx, _, s010 _ _ h1, stF_no (by decide +kernel), p, a, rs, x, rfl, hS.same s010, hT.o, by omega, fun tv H11 s11 htv tp htp => ?_⟩
      obtain ⟨b12, c12⟩ := new_at (o := .tup [oR (pm rs x), tv]) htp
      have sG := s9.trans (s10.trans (s11.trans b12))
      have pr : PrAt (upd H11 tp (.tup [oR (pm rs x), tv])) (.ref tp) (pm rs x) := by
        cases hy : pm rs x with
        | none =>
          rw [hy] at htv c12
          obtain rfl : tv = .non := htv
          exact ⟨tp, rfl, upd_same⟩
        | some y =>
          obtain ⟨r0, t0⟩ := y
          rw [hy] at htv
          exact ⟨tp, tv, rfl, upd_same, htv.tp (same_tp (new_at htp).1)⟩
      refine ne_pr pr (hu.tp (same_tp sG)) ⟨false, rfl, ifn rfl ?_⟩
      exact ⟨s38.trans sG, sG _ _ (s8 _ _ hf)⟩
    · rintro ⟨v6, v7, rfl, s7, hf⟩
      unfold thawD
      walk_at "wp"
      rw [thawH_of hf]
      exact q _ (s03.trans (same_put s7 hen))

theorem apart_dl {C p a dl : Addr} {G : Hp} {rs : List Rn} {dvs : List V} {ds : List Dd} (hS : StAt C G p a rs) (hl : G dl = some (.lst dvs)) (hD : DdsAt G dvs ds) (h : rs ≠ [] ∨ ds ≠ []) : a ≠ dl := by
  rintro rfl
  obtain ⟨dx, us, h1, h2, h3⟩ := hS
  obtain rfl : us = dvs := by rw [hl] at h2; cases h2; rfl
  cases h3 with
  | nil =>
    cases hD
    exact h.elim (fun z => z rfl) (fun z => z rfl)
  | cons r _ =>
    cases hD with
    | cons d _ =>
      obtain ⟨x, tv, rfl, e1, _⟩ := r
      obtain ⟨y, tw, e, e2, _⟩ := d
      cases e
      rw [e1] at e2
      have := HO.tup.inj (Option.some.inj e2)
      injection this with q1 q2
      cases q1
theorem did_tr {rs : List Rn} {ds : List Dd} {d : Dd} (h : Tr rs ds) (hd : d.f < d.e) : Tr (did rs d) (d :: ds) := by
  unfold did
  cases hk : d.k with
  | put => exact h.put hd hk
  | cut => exact h.cut hd hk
  | grd => exact h.grd hd hk
def LwI (A : Adr) (p dl cl : Addr) (zc : List Int) (i : Nat) (G : Hp) : Prop := ∃ a rs dvs ds, StAt A.C_Stretches G p a rs ∧ Tr rs ds.reverse ∧ G dl = some (.lst dvs) ∧ DdsAt G dvs ds ∧ (∀ d ∈ ds, d.f < d.e) ∧ ds.length ≤ i ∧ G cl = some (.lst (zc.map V.int)) ∧ cl ≠ dl
theorem LwI.same {A : Adr} {p dl cl : Addr} {zc : List Int} {i : Nat} {G G' : Hp} (h : LwI A p dl cl zc i G) (s : Same G G') : LwI A p dl cl zc i G' := by
  obtain ⟨a, rs, dvs, ds, h1, h2, h3, h4, h5, h6, h7, h8⟩ := h
  exact ⟨a, rs, dvs, ds, h1.same s, h2, s _ _ h3, Paired.mapP h4 fun _ _ h => h.tp (same_tp s), h5, h6, s _ _ h7, h8⟩
def LxI (A : Adr) (p dl cl : Addr) (zc : List Int) (i : Nat) (v : V) (w : Wd) (G : Hp) : Prop := ∃ a rs dvs ds d, StAt A.C_Stretches G p a rs ∧ G dl = some (.lst dvs) ∧ DdsAt G dvs ds ∧ (∀ d ∈ ds, d.f < d.e) ∧ ds.length ≤ i ∧ G cl = some (.lst (zc.map V.int)) ∧ cl ≠ dl ∧ DdAt G v d ∧ d.f < d.e ∧ ((w = .good ∧ Tr rs (d :: ds.reverse) ∧ (rs ≠ [] ∨ ds ≠ [])) ∨ (w ≠ .good ∧ Tr rs ds.reverse))
def ThI (f e : Int) (ds : List Dd) (v : V) (H G : Hp) : Prop := ∃ t b1 b2, v = .ref t ∧ Same H G ∧ G t = some (.tup [.bl b1, .bl b2]) ∧ (b1 = true ↔ ∃ p, f ≤ p ∧ p < e ∧ sem ds.reverse p ≠ none) ∧ (b2 = true ↔ ∀ p, f ≤ p → p < e → sem ds.reverse p ≠ none)
def spLaw (K : PySem.W.Frag) : Sp := fun vs H Q _ => ∃ (a : Addr) (ns : List Int), vs = [.ref a] ∧ SqL K H a (ns.map V.int) ∧ ns.length ≤ 63 ∧ ∀ H', Q (.bl true) H'
theorem body_law (T : Txt K mg A) : Body P w K mg base "law" s_law ["_law_script", "_law_base", "_law_cells", "_law_some", "_law_deeds", "_law_k", "_law_deed_here", "_law_there", "_law_many", "_law_due_here"] 12 (spLaw K) := by
  intro f cdv A' outer s H vs Q E hr z
  obtain ⟨a, ns, rfl, hs, hn, qq⟩ := z
  have H_l_deed := h_ddd (P := P) (w := w) (base := base) T
  have H_l_mapped := h_mpd (P := P) (w := w) (base := base) T
  have H_l_due := h_due (P := P) (w := w) (base := base) T
  have H_l_tried := h_tyd (P := P) (w := w) (base := base) T
  have H_l_told_right := h_trt (P := P) (w := w) (base := base) T
  have H_Stretches_init := h_st_init (P := P) (w := w) (base := base) T
  have H_Stretches_is_free := h_free (P := P) (w := w) (base := base) T
  have H_Stretches_is_full := h_full (P := P) (w := w) (base := base) T
  have hz := PySem.sizeLine_eq
  refine ⟨_, (pss_cons (ps_set (i := 1) sc_law.nd rfl (Or.inl rfl) pe_int)
      (pss_cut (ps_if (PW.pt (pw_and (pt_cmpR op_gt (pe_callB call_len rfl T.b_len PySem.boot_len (pa_cons (pvM 0) pa_nil)) pe_int (nomark _)) (pw_and1 (pt_cmpR op_gt (pe_op op_mod (pe_ix ix_list (pvM 0) pe_int (fun _ _ => rfl)) pe_int) pe_int (nomark _))))) (pss_one (ps_set (i := 1) sc_law.nd rfl (Or.inl rfl) (pe_op op_mod (pe_ix ix_list (pvM 0) pe_int (fun _ _ => rfl)) (pe_op op_pow pe_int pe_int)))) pss_nil)
      (pss_cut (ps_set (i := 2) sc_law.nd rfl (Or.inl rfl) (pe_slice sl_list (pvM 0) (po_some pe_int) (po_some pe_int)))
      (pss_cut (ps_set (i := 3) sc_law.nd rfl (Or.inl rfl) (pe_makeE0 H_Stretches_init (hr.mono (by decide)) xw_def))
      (pss_cut (ps_set (i := 4) sc_law.nd rfl (Or.inl rfl) (pe_lst pa_nil))
      (pss_cut (ps_forE PassesOwn.leaving rfl (pi_range1 rfl T.b_range (pa_cons (pe_op op_fdiv (pe_callB call_len rfl T.b_len PySem.boot_len (pa_cons (pvM 2) pa_nil)) pe_int) pa_nil)) (pg_name (i := 5) sc_law.nd rfl (Or.inl rfl)) (pss_cut (ps_set (i := 6) sc_law.nd rfl (Or.inl rfl) (pe_callE H_l_deed (hr.mono (by decide)) xw_def (pa_cons (pvM 4) (pa_cons (pe_ix ix_list (pvM 2) (pe_op op_add (pvM 5) (pvM 5)) (fun _ _ => rfl)) (pa_cons (pe_ix ix_list (pvM 2) (pe_op op_add (pe_op op_add (pvM 5) (pvM 5)) pe_int) (fun _ _ => rfl)) (pa_cons (pvM 1) pa_nil))))))
      (pss_cut (ps_set (i := 7) sc_law.nd rfl (Or.inl rfl) (pe_callE H_l_mapped (hr.mono (by decide)) xw_def (pa_cons (pvM 4) (pa_cons (pe_ix ix_tup (pvM 6) pe_int (fun _ _ => rfl)) (pa_cons (pe_ix ix_tup (pvM 6) pe_int (fun _ _ => rfl)) pa_nil)))))
      (pss_cut (ps_set (i := 8) sc_law.nd rfl (Or.inl rfl) (pe_op op_sub (pe_ix ix_tup (pvM 6) pe_int (fun _ _ => rfl)) (pe_ix ix_tup (pvM 6) pe_int (fun _ _ => rfl))))
      (pss_cut (ps_if (PW.pt (pw_or (pt_cmpR op_eq (pe_methE (pvM 3) T.cl_Stretches H_Stretches_is_free (hr.mono (by decide)) xw_def (pa_cons (pe_ix ix_tup (pvM 6) pe_int (fun _ _ => rfl)) (pa_cons (pvM 8) pa_nil))) (pe_ix ix_tup (pvM 7) pe_int (fun _ _ => rfl)) (nomark _)) (pw_or1 (pt_cmpR op_ne (pe_methE (pvM 3) T.cl_Stretches H_Stretches_is_full (hr.mono (by decide)) xw_def (pa_cons (pe_ix ix_tup (pvM 6) pe_int (fun _ _ => rfl)) (pa_cons (pvM 8) pa_nil))) (pe_ix ix_tup (pvM 7) pe_int (fun _ _ => rfl)) (nomark _))))) (pss_one (ps_ret pe_bl)) pss_nil)
      (pss_cut (ps_set (i := 9) sc_law.nd rfl (Or.inl rfl) (pe_callE H_l_due (hr.mono (by decide)) xw_def (pa_cons (pvM 6) (pa_cons (pvM 7) pa_nil))))
      (pss_cut (ps_if (pt_cmpR op_ne (pe_callE H_l_tried (hr.mono (by decide)) xw_def (pa_cons (pvM 3) (pa_cons (pvM 6) pa_nil))) (pvM 9) (nomark _)) (pss_one (ps_ret pe_bl)) pss_nil)
      (pss_cut (ps_if (pt_cmpR op_eq (pvM 9) pe_str (nomark _)) (pss_one (ps_expr (pe_bm PySem.F.plainAttrs_list PySem.F.slot_list_append PySem.F.type_list_append mt_append (pvM 4) (pa_cons (pvM 6) pa_nil)))) pss_nil)
      (pss_one (ps_if (PW.pt (pw_and (pt_cmpR op_eq (pvM 5) pe_int (nomark _)) (pw_and1 (pt_not (pt_val (pe_callE H_l_told_right (hr.mono (by decide)) xw_def (pa_cons (pvM 3) (pa_cons (pvM 4) pa_nil)))))))) (pss_one (ps_ret pe_bl)) pss_nil))))))))))
      (pss_one (ps_ret (pe_callE H_l_told_right (hr.mono (by decide)) xw_def (pa_cons (pvM 3) (pa_cons (pvM 4) pa_nil))))))))))), ?_⟩
  walk_at "wp"
  refine ⟨fun σ G => ∃ b : Int, σ = [some (.ref a), some (.int b), none, none, none, none, none, none, none, none] ∧ G = H, ?_, fun σ0 G0 => ?_⟩
  · walk_at "wp"
    refine ⟨ns.length, .inl ⟨_, hs, by rw [List.length_map]⟩, ite2 (fun c => ?_) (fun _ => ifn rfl trivial)⟩
    obtain ⟨y, hy⟩ : ∃ y, ns[0]? = some y := ⟨_, List.getElem?_eq_getElem (by omega)⟩
    have hat : atI (ns.map V.int) 0 = some (.int y) := atI_nat (j := 0) (by rw [List.getElem?_map, hy]; rfl)
    exact ⟨_, hs, _, hat, y, rfl, ite2 (fun _ => ⟨_, hs, _, hat, y, rfl⟩) (fun _ => trivial)⟩
  rintro ⟨b, rfl, rfl⟩
  refine ⟨fun σ G => ∃ cl, σ = [some (.ref a), some (.int b), some (.ref cl), none, none, none, none, none, none, none] ∧ Same G0 G ∧ G cl = some (.lst (((ns.take 41).drop 1).map V.int)), ?_, fun σ1 G1 => ?_⟩
  · walk_at "wp"
    refine ⟨_, hs, fun cl hcl => ?_⟩
    have hcut : cutV (ns.map V.int) (some 1) (some 41) = ((ns.take 41).drop 1).map V.int := by rw [show cutV (ns.map V.int) (some 1) (some 41) = ((ns.map V.int).take 41).drop 1 from cutV_nat (lo := 1) (hi := 41), ← List.map_take, ← List.map_drop]
    rw [hcut]
    exact ⟨(new_at hcl).1, rfl⟩
  rintro ⟨cl, rfl, s1, hcl⟩
  have hzl : ((ns.take 41).drop 1).length ≤ 40 := by rw [List.length_drop, List.length_take]; omega
  generalize (ns.take 41).drop 1 = zc at *
  refine ⟨fun σ G => ∃ p, σ = [some (.ref a), some (.int b), some (.ref cl), some (.ref p), none, none, none, none, none, none] ∧ Same G1 G ∧ ∃ a', StAt A.C_Stretches G p a' [], ?_, fun σ2 G2 => ?_⟩
  · walk_at "wp"
    intro x dx hx hdx hne
    refine ⟨x, dx, rfl, upd_same, fun a' ha' => ?_⟩
    obtain ⟨st, sm⟩ := st_new (C := A.C_Stretches) hx hdx ha'
    exact ⟨rfl, sm, a', st⟩
  rintro ⟨p, rfl, s2, a2, hS2⟩
  refine ⟨fun σ G => ∃ dl, σ = [some (.ref a), some (.int b), some (.ref cl), some (.ref p), some (.ref dl), none, none, none, none, none] ∧ LwI A p dl cl zc 0 G, ?_, fun σ3 G3 => ?_⟩
  · walk_at "wp"
    intro dl hdl
    obtain ⟨b1, c1⟩ := new_at (o := .lst []) hdl
    exact ⟨a2, [], [], [], hS2.same b1, ⟨⟨List.Pairwise.nil, fun _ h => nomatch h⟩, trivial, fun _ => rfl⟩, c1, .nil, (fun d h => by cases h), Nat.le_refl _, b1 _ _ (s2 _ _ hcl), ne_of_none (s2 _ _ hcl) hdl⟩
  rintro ⟨dl, rfl, hI⟩
  refine ⟨fun σ G => ∃ v5 v6 v7 v8 v9, σ = [some (.ref a), some (.int b), some (.ref cl), some (.ref p), some (.ref dl), v5, v6, v7, v8, v9] ∧ LwI A p dl cl zc 40 G, ?_, fun σ4 G4 => ?_⟩
  · obtain ⟨_, _, _, _, _, _, _, _, _, _, hcl3, _⟩ := id hI
    walk_at "wp"
    refine ⟨zc.length, .inl ⟨_, SqL.of hcl3, by rw [List.length_map]⟩, by omega, by omega, ?_⟩
    have hcnt : ((zc.length : Int) / 2).toNat ≤ 20 := by omega
    refine loop_range (fun k σ G => ∃ v5 v6 v7 v8 v9, σ = [some (.ref a), some (.int b), some (.ref cl), some (.ref p), some (.ref dl), v5, v6, v7, v8, v9] ∧ LwI A p dl cl zc k G) ⟨_, _, _, _, _, rfl, hI⟩ (fun k σ G hk => ?_) (fun σ G => ?_)
    · rintro ⟨v5, v6, v7, v8, v9, rfl, hI⟩
      rw [Int.zero_add]
      obtain ⟨a5, rs, dvs, ds, h1, h2, h3, h4, h5, h6, h7, h8⟩ := id hI
      have ho := h2.o
      have hfew := few h2.o h2.l h2.h
      rw [List.length_reverse] at hfew
      walk_at "wp"
      refine ⟨fun σ G' => ∃ v6, σ = [some (.ref a), some (.int b), some (.ref cl), some (.ref p), some (.ref dl), some (.int (k : Int)), some v6, v7, v8, v9] ∧ Same G G' ∧ ∃ d, DdAt G' v6 d ∧ d.f < d.e, ?_, fun σ6 G6 => ?_⟩
      · obtain ⟨c1, hc1⟩ : ∃ c, zc[k + k]? = some c := ⟨_, List.getElem?_eq_getElem (by omega)⟩
        obtain ⟨c2, hc2⟩ : ∃ c, zc[k + k + 1]? = some c := ⟨_, List.getElem?_eq_getElem (by omega)⟩
        walk_at "wp"
        refine ⟨_, SqL.of h7, .int c1, atI_nat (j := k + k) (by rw [List.getElem?_map, hc1]; rfl), _, SqL.of h7, .int c2, atI_nat (j := k + k + 1) (by rw [List.getElem?_map, hc2]; rfl), dl, dvs, ds, c1, c2, b, rfl, h3, h4, h5, by omega, fun v d H' s6 hd hfe => ⟨s6, d, hd, hfe⟩⟩
      rintro ⟨v6, rfl, s6, d, hd, hfe⟩
      have hDs6 : DdsAt G6 dvs ds := Paired.mapP h4 fun _ _ h => h.tp (same_tp s6)
      obtain ⟨da, tv, rfl, hda, htv⟩ := id hd
      refine ⟨fun σ G' => ∃ v7, σ = [some (.ref a), some (.int b), some (.ref cl), some (.ref p), some (.ref dl), some (.int (k : Int)), some (.ref da), some v7, v8, v9] ∧ ThI d.f d.e ds v7 G6 G', ?_, fun σ7 G7 => ?_⟩
      · walk_at "wp"
        refine ⟨_, SqT.of hda, _, atI_nat (j := 1) rfl, _, SqT.of hda, _, atI_nat (j := 2) rfl, dl, dvs, ds, d.f, d.e, rfl, s6 _ _ h3, hDs6, by omega, hfe, fun t b1 b2 H' s7 ht hb1 hb2 => ⟨t, b1, b2, rfl, s7, ht, hb1, hb2⟩⟩
      rintro ⟨v7, rfl, t7, b1, b2, rfl, s7, ht, hb1, hb2⟩
      have hda7 := s7 _ _ hda
      refine ⟨fun σ G' => σ = [some (.ref a), some (.int b), some (.ref cl), some (.ref p), some (.ref dl), some (.int (k : Int)), some (.ref da), some (.ref t7), some (.int (d.e - d.f)), v9] ∧ G' = G7, ?_, fun σ8 G8 => ?_⟩
      · walk_at "wp"
        exact ⟨_, SqT.of hda7, _, atI_nat (j := 2) rfl, _, SqT.of hda7, _, atI_nat (j := 1) rfl, d.e, rfl, d.f, rfl, rfl⟩
      rintro ⟨rfl, rfl⟩
      have s68 := s6.trans s7
      have hS8 := h1.same s68
      obtain ⟨dx, us, e1, _⟩ := id hS8
      have hfree : b1 = true ↔ pam rs d.f (d.e - d.f) ≠ [] := by
        rw [hb1, Ne, free_iff ho (by omega)]
        constructor
        · rintro ⟨p, q1, q2, q3⟩ z
          exact q3 (by rw [← h2.h]; exact z p q1 (by omega))
        · intro z
          refine Classical.byContradiction fun c => z fun p q1 q2 => Classical.byContradiction fun q3 => c ⟨p, q1, by omega, by rw [← h2.h]; exact q3⟩
      have hfull : b2 = true ↔ ((pam rs d.f (d.e - d.f)).map (·.m)).sum = d.e - d.f := by
        rw [hb2, full_iff ho (by omega)]
        constructor
        · intro z p q1 q2; rw [h2.h]; exact z p q1 (by omega)
        · intro z p q1 q2; rw [← h2.h]; exact z p q1 (by omega)
      refine ⟨fun σ G' => σ = [some (.ref a), some (.int b), some (.ref cl), some (.ref p), some (.ref dl), some (.int (k : Int)), some (.ref da), some (.ref t7), some (.int (d.e - d.f)), v9] ∧ Same G8 G', ?_, fun σ9 G9 => ?_⟩
      · walk_at "wp"
        refine ⟨dx, _, e1, stF_no (by decide +kernel), _, SqT.of hda7, _, atI_nat (j := 1) rfl, p, a5, rs, d.f, d.e - d.f, rfl, hS8, ho, by omega, fun H1 q1 => ⟨_, SqT.of (q1 _ _ ht), .bl b1, atI_nat (j := 0) rfl, rfl, ?_⟩⟩
        rw [if_neg (fun z => by
          have z : decide (pam rs d.f (d.e - d.f) = []) = b1 := V.bl.inj z
          cases b1 with
          | true => exact hfree.mp rfl (of_decide_eq_true z)
          | false => exact absurd (hfree.mpr (of_decide_eq_false z)) (by simp))]
        refine ⟨dx, _, q1 _ _ e1, stF_no (by decide +kernel), _, SqT.of (q1 _ _ hda7), _, atI_nat (j := 1) rfl, p, a5, rs, d.f, d.e - d.f, rfl, hS8.same q1, ho, by omega, fun H2 q2 => ⟨_, SqT.of ((q1.trans q2) _ _ ht), .bl b2, atI_nat (j := 1) rfl, rfl, ifn ?_ (q1.trans q2)⟩⟩
        rw [decide_eq_true (congrArg V.bl (show decide (((pam rs d.f (d.e - d.f)).map (·.m)).sum = d.e - d.f) = b2 by
          cases b2 with
          | true => exact decide_eq_true (hfull.mp rfl)
          | false => exact decide_eq_false (fun z => absurd (hfull.mpr z) (by simp))))]
        rfl
      rintro ⟨rfl, s9⟩
      refine ⟨fun σ G' => σ = [some (.ref a), some (.int b), some (.ref cl), some (.ref p), some (.ref dl), some (.int (k : Int)), some (.ref da), some (.ref t7), some (.int (d.e - d.f)), some (.str (due d b1 b2).s)] ∧ G' = G9, ?_, fun σ10 G10 => ?_⟩
      · walk_at "wp"
        exact ⟨.ref da, d, t7, b1, b2, rfl, hd.tp (same_tp (s7.trans s9)), s9 _ _ ht, rfl, rfl⟩
      rintro ⟨rfl, rfl⟩
      have s610 := s68.trans s9
      refine ⟨fun σ G' => σ = [some (.ref a), some (.int b), some (.ref cl), some (.ref p), some (.ref dl), some (.int (k : Int)), some (.ref da), some (.ref t7), some (.int (d.e - d.f)), some (.str (due d b1 b2).s)] ∧ LxI A p dl cl zc k (.ref da) (due d b1 b2) G', ?_, fun σ11 G11 => ?_⟩
      · walk_at "wp"
        refine ⟨p, a5, rs, .ref da, d, b1, b2, rfl, h1.same s610, ho, by omega, hd.tp (same_tp (s7.trans s9)), hfe, hfree, hfull, fun H11 hT11 => ⟨rfl, ifn (by rw [decide_eq_true rfl]; rfl) ?_⟩⟩
        obtain ⟨hB, a11, hS11⟩ := hT11
        obtain ⟨dx10, us10, g1, _⟩ := id (h1.same s610)
        have kt : ∀ c us, G10 c = some (.tup us) → H11 c = some (.tup us) := fun c us hc => hB _ _ hc (ne_of hc g1 (fun z => nomatch z))
        have kl : ∀ {c us}, G10 c = some (.lst us) → H11 c = some (.lst us) := fun hc => hB _ _ hc (ne_of hc g1 (fun z => nomatch z))
        refine ⟨a11, _, dvs, ds, d, hS11, kl (s610 _ _ h3), Paired.mapP h4 fun _ _ h => (h.tp (same_tp s610)).tp kt, h5, h6, kl (s610 _ _ h7), h8, (hd.tp (same_tp (s7.trans s9))).tp kt, hfe, ?_⟩
        cases hw : due d b1 b2 with
        | good =>
          have tr := did_tr (d := d) h2 hfe
          refine .inl ⟨rfl, tr, ?_⟩
          by_cases c : ds = []
          · refine .inl fun z => ?_
            have z : did rs d = [] := z
            rw [z, c] at tr
            have e := tr.h d.f
            have e0 : ∀ q, sem ds.reverse q = none := fun q => by rw [c]; rfl
            unfold sem at e
            rw [if_pos ⟨Int.le_refl _, hfe⟩] at e
            unfold due at hw
            cases hk9 : d.k with
            | put => rw [hk9] at e; cases e
            | cut =>
              rw [hk9] at hw
              have hw : (if b2 = true then Wd.good else Wd.map) = .good := hw
              cases b2 with
              | true => exact absurd (e0 d.f) (hb2.mp rfl d.f (Int.le_refl _) hfe)
              | false => cases hw
            | grd =>
              rw [hk9] at hw
              have hw : (if 0 ≤ d.r ∧ d.r ≤ 3 then (if b2 = true then Wd.good else Wd.map) else .bad) = .good := hw
              cases b2 with
              | true => exact absurd (e0 d.f) (hb2.mp rfl d.f (Int.le_refl _) hfe)
              | false => split at hw <;> cases hw
          · exact .inr c
        | bad => exact .inr ⟨(fun z => nomatch z), h2⟩
        | tkn => exact .inr ⟨(fun z => nomatch z), h2⟩
        | map => exact .inr ⟨(fun z => nomatch z), h2⟩
      rintro ⟨rfl, hX⟩
      refine ⟨fun σ G' => σ = [some (.ref a), some (.int b), some (.ref cl), some (.ref p), some (.ref dl), some (.int (k : Int)), some (.ref da), some (.ref t7), some (.int (d.e - d.f)), some (.str (due d b1 b2).s)] ∧ LwI A p dl cl zc (k + 1) G', ?_, fun σ12 G12 => ?_⟩
      · walk_at "wp"
        obtain ⟨a11, rs11, dvs11, ds11, d11, j1, j2, j3, j4, j5, j6, j7, j8, j9, j10⟩ := hX
        have gs : ∀ w : Wd, (w.s = Str.ofString "good" ↔ w = .good) := fun w => by
          cases w with
          | bad => exact ⟨fun z => absurd z (by decide +kernel), fun z => nomatch z⟩
          | tkn => exact ⟨fun z => absurd z (by decide +kernel), fun z => nomatch z⟩
          | map => exact ⟨fun z => absurd z (by decide +kernel), fun z => nomatch z⟩
          | good => exact ⟨fun _ => rfl, fun _ => rfl⟩
        have hjl := Paired.length j3
        rcases j10 with ⟨w1, w2, w3⟩ | ⟨w1, w2⟩
        · rw [if_pos ((gs _).mpr w1)]
          have nad := apart_dl j1 j2 j3 w3
          refine ⟨.inl ⟨rfl, _, SqL.of j2⟩, dvs11, j2, by omega, a11, rs11, dvs11 ++ [.ref da], ds11 ++ [d11], ?_, by rw [List.reverse_append]; exact w2, upd_same, ?_, ?_, by rw [List.length_append]; show ds11.length + 1 ≤ k + 1; omega, by rw [upd_ne j7]; exact j6, j7⟩
          · obtain ⟨dx1, vs1, f1, f2, f3⟩ := j1
            exact ⟨dx1, vs1, by rw [upd_ne (ne_of f1 j2 (fun z => nomatch z))]; exact f1, by rw [upd_ne nad]; exact f2, Paired.mapP f3 fun _ _ h => h.tp fun c us hc => by rw [upd_ne (ne_of hc j2 (fun z => nomatch z))]; exact hc⟩
          · have kt : ∀ c us, G11 c = some (.tup us) → upd G11 dl (.lst (dvs11 ++ [.ref da])) c = some (.tup us) := fun c us hc => by rw [upd_ne (ne_of hc j2 (fun z => nomatch z))]; exact hc
            exact prd_app (Paired.mapP j3 fun _ _ h => h.tp kt) (.cons (j8.tp kt) .nil)
          · intro x hx
            rcases List.mem_append.mp hx with h | h
            · exact j4 x h
            · rw [List.mem_singleton.mp h]; exact j9
        · rw [if_neg (fun z => w1 ((gs _).mp z))]
          exact ⟨a11, rs11, dvs11, ds11, j1, w2, j2, j3, j4, by omega, j6, j7⟩
      rintro ⟨rfl, hI12⟩
      obtain ⟨a12, rs12, dvs12, ds12, i1, i2, i3, i4, i5, i6, i7, i8⟩ := id hI12
      walk_at "wp"
      refine ite2 (fun _ => ⟨p, a12, dl, rs12, dvs12, ds12, rfl, i1, i2, i3, i4, by omega, fun H' s13 => ⟨true, rfl, ifn rfl (hI12.same s13)⟩⟩) (fun _ => ifn rfl hI12)
    · rintro ⟨v5, v6, v7, v8, v9, rfl, a5, rs, dvs, ds, h1, h2, h3, h4, h5, h6, h7⟩
      exact ⟨_, _, _, _, _, rfl, a5, rs, dvs, ds, h1, h2, h3, h4, h5, by omega, h7⟩
  rintro ⟨v5, v6, v7, v8, v9, rfl, a4, rs, dvs, ds, h1, h2, h3, h4, h5, h6, h7, h8⟩
  walk_at "wp"
  exact ⟨p, a4, dl, rs, dvs, ds, rfl, h1, h2, h3, h4, by omega, fun H' _ => qq H'⟩

end

theorem walk {l : PySem.W.OpenLaw} {q : Program} {loose : List Str} {XP : (Str → Option Value) → Heap → Prop} {YP : World → Heap → Prop} {d : DefRec} {K : Params → PySem.W.Frag} (hn : l.most = some 63) (hdf : d.params.defaults = []) (hdn : d.name = "law")
    (hY : ∀ (w : World) (h : Heap), YP w h → (K w.params).In h)
    (F : ∀ (w : World) (mg : Str → Option Value) (h : Heap), (K w.params).In h → h.Ns mainGlobals mg → ∃ A : Adr, Txt (K w.params) mg A) :
    PySem.W.WalkO q loose XP YP l.row.toRowW d [] (fun f vs => PySem.call f vs) := by
  refine L2.walk_of (n := 63) (k := 12 + 1) (x := "_law_script") (CX := fun w => CXe l.prog w) (sp := fun w => spLaw (K w.params)) hn (by decide) hdf ⟨rfl, by decide, by decide⟩ hY ?_ (fun _ _ a ns hl _ hS => ⟨a, ns, rfl, hS, hl, fun _ => rfl⟩) fun _ _ _ _ _ ⟨_, _, _, _, _, _, _, _, _, _, z⟩ => z
  intro w mg fa h KX G hmg
  rw [hdn] at hmg
  obtain ⟨A, T⟩ := F w mg h KX G
  obtain ⟨f, fd, e, Fn, hb⟩ := T.r_law
  have e0 := hmg.symm.trans e
  cases e0
  exact ⟨fd, hb, fun base _ _ => Fn.okE sc_law (fun vs H Q E z => by obtain ⟨a, ns, rfl, _⟩ := z; rfl) (body_law (P := l.prog) (w := w) (base := base) T)⟩

section
open Hd
noncomputable def o2 (_ : Params) : Obj := ⟨.none, none, .dict ⟨[]⟩ 0, #[]⟩
noncomputable def o3 (P : Params) : Obj := dO 38 [ent P (S 6944663249689206880) 165 (.str (S 12369415880258125354414687702584101526591587229041513796716291711597) 485), ent P (S 27127582262911072) 166 .none, ent P (S 116512114954948911152848992) 167 .none, ent P (S 455126385231797511086176) 168 (.builtin "__main__.__loader__#opaque"), ent P (S 6944661016558198880) 169 .none, ent P (S 500416834696884185539869749159288928) 170 (.ref 6), ent P (S 29827167671303893903271485536) 171 (.ref 4), ent P (S 6944663245527933024) 173 (.str (S 9700865007064396754801562313776) 172), ent P (S 455125376429887381069920) 174 .none, ent P (S 469986605152) 193 (.ref 21), ent P (S 545146499936607105348423) 213 (.ref 31), ent P (S 2148282720731175150147) 229 (.ref 44), ent P (S 478459748949) 245 (.ref 56), ent P (S 1870502957375938719823) 261 (.ref 68), ent P (S 7380678962623575146) 270 (.ref 77), ent P (S 2055256381122481779818) 279 (.ref 84), ent P (S 101952521820057743536705614) 283 (.int (3) 282), ent P (S 36042203234783605173055285604) 290 (.ref 91), ent P (S 113732351258470) 297 (.ref 98), ent P (S 7957987429399816821) 306 (.ref 105), ent P (S 29115482190865009) 316 (.ref 112), ent P (S 31367281986924648) 324 (.ref 119), ent P (S 111490630316139) 334 (.ref 126), ent P (S 2147201852470124049748) 484 (.ref 241), ent P (S 2166583389145247411552) 496 (.ref 252), ent P (S 483700176494498687380832) 503 (.ref 259), ent P (S 483846745014073506819424) 513 (.ref 266), ent P (S 122585281814624614255586656) 519 (.ref 271), ent P (S 483533148109722095873376) 535 (.ref 278), ent P (S 1870499847949168831840) 550 (.ref 285), ent P (S 478848253269000079961440) 560 (.ref 292), ent P (S 7383200104131489120) 568 (.ref 299), ent P (S 8036842627636867072628497739104) 575 (.ref 306), ent P (S 8036842627638165795972017450336) 582 (.ref 313), ent P (S 554645347623279649779040) 590 (.ref 320), ent P (S 141908892376227254905236832) 599 (.ref 327), ent P (S 609636658130752469931390835720613216) 605 (.ref 332), ent P (S 7889517) 621 (.ref 339)]
noncomputable def o15 (_ : Params) : Obj := tO []
noncomputable def o17 (_ : Params) : Obj := tO [(.str (S 108) 190)]
noncomputable def o20 (_ : Params) : Obj := cO [(.str (S 469986605152) 187), (.str (S 469986605152) 188), (.str (S 9700865007064396754801562313776) 189), (.int (1) 0), (.int (1) 0), (.int (0) 0), (.int (0) 0), (.int (3) 0), (.ref 15), (.bool true), (.int (181) 0), (.ref 16), .none, (.ref 17), (.ref 18), (.ref 19), (.int (191) 0), (.int (1) 0), (.str (S 9700865007064396754801562313776) 192)]
noncomputable def o21 (_ : Params) : Obj := ⟨(.type "function"), none, .func (PySem.W.fnOf (Str.ofString "_wall") (Str.ofString "_wall") (defArgs (top 0)) (defBody (top 0)) (defScope (top 0)) .none .none .none (.str (S 6944673128113922144) 164) none (.ref 20) .none), #[]⟩
noncomputable def o22 (_ : Params) : Obj := ⟨(.type "tuple"), none, .seq #[(.type "ValueError")] 0, #[]⟩
noncomputable def o29 (_ : Params) : Obj := ⟨(.type "tuple"), none, .seq #[] 0, #[]⟩
noncomputable def o30 (P : Params) : Obj := dO 3 [ent P (S 455125450472104437637216) 203 (.str (S 154789842426610354947036250589871895399) 194), ent P (S 500416517772168279997240570217455712) 207 (.int (5) 206), ent P (S 140854816109632365363434125429399349832812124725344) 208 (.ref 29), ent P (S 116512133262362862868258912) 210 (.ref 32), ent P (S 27127582262911072) 211 .none]
noncomputable def o31 (_ : Params) : Obj := ⟨(.type "type"), none, .cls { name := (Str.ofString "FrameError"), bases := [(.type "ValueError")], mro := [(.ref 31), (.type "ValueError"), (.type "Exception"), (.type "BaseException"), (.type "object")], ns := 30, qualname := (Str.ofString "FrameError"), hasDict := true, slotNames := [], subclasses := [(.ref 44), (.ref 56), (.ref 68)], abstract := false, collection := none, hasDel := false }, #[(some (.ref 22)), none, (some (.str (S 545146499936607105348423) 196)), (some (.str (S 545146499936607105348423) 204)), (some (.builtin "ValueError.__new__")), (some (.bool true))]⟩
noncomputable def o32 (_ : Params) : Obj := ⟨(.type "getset_descriptor"), none, .fields ⟨[(.str (S 116512133262362862868258912) 209), (.ref 31), (.builtin "ExceptionGroup.__weakref__"), .none]⟩, #[]⟩
noncomputable def o35 (_ : Params) : Obj := ⟨(.type "tuple"), none, .seq #[(.ref 31)] 0, #[]⟩
noncomputable def o43 (P : Params) : Obj := dO 2 [ent P (S 455125450472104437637216) 221 (.str (S 154789842426610354947036250589871895399) 194), ent P (S 500416517772168279997240570217455712) 225 (.int (7) 224), ent P (S 140854816109632365363434125429399349832812124725344) 226 (.ref 42), ent P (S 27127582262911072) 227 .none]
noncomputable def o44 (_ : Params) : Obj := ⟨(.type "type"), none, .cls { name := (Str.ofString "BadRights"), bases := [(.ref 31)], mro := [(.ref 44), (.ref 31), (.type "ValueError"), (.type "Exception"), (.type "BaseException"), (.type "object")], ns := 43, qualname := (Str.ofString "BadRights"), hasDict := true, slotNames := [], subclasses := [], abstract := false, collection := none, hasDel := false }, #[(some (.ref 35)), none, (some (.str (S 2148282720731175150147) 214)), (some (.str (S 2148282720731175150147) 222)), (some (.builtin "ValueError.__new__")), (some (.bool true))]⟩
noncomputable def o55 (P : Params) : Obj := dO 2 [ent P (S 455125450472104437637216) 237 (.str (S 154789842426610354947036250589871895399) 194), ent P (S 500416517772168279997240570217455712) 241 (.int (9) 240), ent P (S 140854816109632365363434125429399349832812124725344) 242 (.ref 54), ent P (S 27127582262911072) 243 .none]
noncomputable def o56 (_ : Params) : Obj := ⟨(.type "type"), none, .cls { name := (Str.ofString "Taken"), bases := [(.ref 31)], mro := [(.ref 56), (.ref 31), (.type "ValueError"), (.type "Exception"), (.type "BaseException"), (.type "object")], ns := 55, qualname := (Str.ofString "Taken"), hasDict := true, slotNames := [], subclasses := [], abstract := false, collection := none, hasDel := false }, #[(some (.ref 47)), none, (some (.str (S 478459748949) 230)), (some (.str (S 478459748949) 238)), (some (.builtin "ValueError.__new__")), (some (.bool true))]⟩
noncomputable def o67 (P : Params) : Obj := dO 2 [ent P (S 455125450472104437637216) 253 (.str (S 154789842426610354947036250589871895399) 194), ent P (S 500416517772168279997240570217455712) 257 (.int (11) 256), ent P (S 140854816109632365363434125429399349832812124725344) 258 (.ref 66), ent P (S 27127582262911072) 259 .none]
noncomputable def o68 (_ : Params) : Obj := ⟨(.type "type"), none, .cls { name := (Str.ofString "NotMapped"), bases := [(.ref 31)], mro := [(.ref 68), (.ref 31), (.type "ValueError"), (.type "Exception"), (.type "BaseException"), (.type "object")], ns := 67, qualname := (Str.ofString "NotMapped"), hasDict := true, slotNames := [], subclasses := [], abstract := false, collection := none, hasDel := false }, #[(some (.ref 59)), none, (some (.str (S 1870502957375938719823) 246)), (some (.str (S 1870502957375938719823) 254)), (some (.builtin "ValueError.__new__")), (some (.bool true))]⟩
noncomputable def o73 (_ : Params) : Obj := tO [(.str (S 448545843573) 267)]
noncomputable def o76 (_ : Params) : Obj := cO [(.str (S 7380678962623575146) 264), (.str (S 7380678962623575146) 265), (.str (S 9700865007064396754801562313776) 266), (.int (14) 0), (.int (1) 0), (.int (0) 0), (.int (0) 0), (.int (3) 0), (.ref 71), (.bool true), (.int (181) 0), (.ref 72), .none, (.ref 73), (.ref 74), (.ref 75), (.int (268) 0), (.int (14) 0), (.str (S 9700865007064396754801562313776) 269)]
noncomputable def o77 (_ : Params) : Obj := ⟨(.type "function"), none, .func (PySem.W.fnOf (Str.ofString "is_whole") (Str.ofString "is_whole") (defArgs (top 7)) (defBody (top 7)) (defScope (top 7)) .none .none .none (.str (S 154722281479463014256600682153103225703) 262) none (.ref 76) .none), #[]⟩
noncomputable def o80 (_ : Params) : Obj := tO [(.str (S 448545843573) 274), (.str (S 7893101) 275), (.str (S 1768450665) 276)]
noncomputable def o83 (_ : Params) : Obj := cO [(.str (S 2055256381122481779818) 271), (.str (S 2055256381122481779818) 272), (.str (S 9700865007064396754801562313776) 273), (.int (16) 0), (.int (3) 0), (.int (0) 0), (.int (0) 0), (.int (3) 0), (.ref 78), (.bool true), (.int (181) 0), (.ref 79), .none, (.ref 80), (.ref 81), (.ref 82), (.int (277) 0), (.int (16) 0), (.str (S 9700865007064396754801562313776) 278)]
noncomputable def o84 (_ : Params) : Obj := ⟨(.type "function"), none, .func (PySem.W.fnOf (Str.ofString "is_within") (Str.ofString "is_within") (defArgs (top 8)) (defBody (top 8)) (defScope (top 8)) .none .none .none (.str (S 154722281479463014256600682153103225703) 262) none (.ref 83) .none), #[]⟩
noncomputable def o87 (_ : Params) : Obj := tO [(.str (S 128047628446323) 287)]
noncomputable def o90 (_ : Params) : Obj := cO [(.str (S 36042203234783605173055285604) 284), (.str (S 36042203234783605173055285604) 285), (.str (S 9700865007064396754801562313776) 286), (.int (20) 0), (.int (1) 0), (.int (0) 0), (.int (0) 0), (.int (3) 0), (.ref 85), (.bool true), (.int (181) 0), (.ref 86), .none, (.ref 87), (.ref 88), (.ref 89), (.int (288) 0), (.int (20) 0), (.str (S 9700865007064396754801562313776) 289)]
noncomputable def o91 (_ : Params) : Obj := ⟨(.type "function"), none, .func (PySem.W.fnOf (Str.ofString "check_rights") (Str.ofString "check_rights") (defArgs (top 11)) (defBody (top 11)) (defScope (top 11)) .none .none .none (.str (S 2595807759375494792423391711955702693320880999) 280) none (.ref 90) .none), #[]⟩
noncomputable def o94 (_ : Params) : Obj := tO [(.str (S 7304819) 294)]
noncomputable def o97 (_ : Params) : Obj := cO [(.str (S 113732351258470) 291), (.str (S 113732351258470) 292), (.str (S 9700865007064396754801562313776) 293), (.int (23) 0), (.int (1) 0), (.int (0) 0), (.int (0) 0), (.int (3) 0), (.ref 92), (.bool true), (.int (181) 0), (.ref 93), .none, (.ref 94), (.ref 95), (.ref 96), (.int (295) 0), (.int (23) 0), (.str (S 9700865007064396754801562313776) 296)]
noncomputable def o98 (_ : Params) : Obj := ⟨(.type "function"), none, .func (PySem.W.fnOf (Str.ofString "end_of") (Str.ofString "end_of") (defArgs (top 12)) (defBody (top 12)) (defScope (top 12)) .none .none .none (.str (S 2595807759375494792423391711955702693320880999) 280) none (.ref 97) .none), #[]⟩
noncomputable def o101 (_ : Params) : Obj := tO [(.str (S 7304819) 301), (.str (S 1718116977) 302), (.str (S 6711925) 303)]
noncomputable def o104 (_ : Params) : Obj := cO [(.str (S 7957987429399816821) 298), (.str (S 7957987429399816821) 299), (.str (S 9700865007064396754801562313776) 300), (.int (25) 0), (.int (2) 0), (.int (0) 0), (.int (0) 0), (.int (3) 0), (.ref 99), (.bool true), (.int (181) 0), (.ref 100), .none, (.ref 101), (.ref 102), (.ref 103), (.int (304) 0), (.int (25) 0), (.str (S 9700865007064396754801562313776) 305)]
noncomputable def o105 (_ : Params) : Obj := ⟨(.type "function"), none, .func (PySem.W.fnOf (Str.ofString "tie_from") (Str.ofString "tie_from") (defArgs (top 13)) (defBody (top 13)) (defScope (top 13)) .none .none .none (.str (S 2595807759375494792423391711955702693320880999) 280) none (.ref 104) .none), #[]⟩
noncomputable def o108 (_ : Params) : Obj := tO [(.str (S 7304819) 310), (.str (S 7893101) 311), (.str (S 1768450665) 312), (.str (S 504464894567) 313)]
noncomputable def o111 (_ : Params) : Obj := cO [(.str (S 29115482190865009) 307), (.str (S 29115482190865009) 308), (.str (S 9700865007064396754801562313776) 309), (.int (30) 0), (.int (3) 0), (.int (0) 0), (.int (0) 0), (.int (3) 0), (.ref 106), (.bool true), (.int (181) 0), (.ref 107), .none, (.ref 108), (.ref 109), (.ref 110), (.int (314) 0), (.int (30) 0), (.str (S 9700865007064396754801562313776) 315)]
noncomputable def o112 (_ : Params) : Obj := ⟨(.type "function"), none, .func (PySem.W.fnOf (Str.ofString "part_of") (Str.ofString "part_of") (defArgs (top 14)) (defBody (top 14)) (defScope (top 14)) .none .none .none (.str (S 2595807759375494792423391711955702693320880999) 280) none (.ref 111) .none), #[]⟩
noncomputable def o115 (_ : Params) : Obj := tO [(.str (S 7304819) 320), (.str (S 495640207981) 321)]
noncomputable def o118 (_ : Params) : Obj := cO [(.str (S 31367281986924648) 317), (.str (S 31367281986924648) 318), (.str (S 9700865007064396754801562313776) 319), (.int (33) 0), (.int (2) 0), (.int (0) 0), (.int (0) 0), (.int (3) 0), (.ref 113), (.bool true), (.int (181) 0), (.ref 114), .none, (.ref 115), (.ref 116), (.ref 117), (.int (322) 0), (.int (33) 0), (.str (S 9700865007064396754801562313776) 323)]
noncomputable def o119 (_ : Params) : Obj := ⟨(.type "function"), none, .func (PySem.W.fnOf (Str.ofString "goes_on") (Str.ofString "goes_on") (defArgs (top 15)) (defBody (top 15)) (defScope (top 15)) .none .none .none (.str (S 2595807759375494792423391711955702693320880999) 280) none (.ref 118) .none), #[]⟩
noncomputable def o122 (_ : Params) : Obj := tO [(.str (S 1953461875) 328), (.str (S 495640405607) 329), (.str (S 7304819) 330), (.str (S 1970561645) 331)]
noncomputable def o125 (_ : Params) : Obj := cO [(.str (S 111490630316139) 325), (.str (S 111490630316139) 326), (.str (S 9700865007064396754801562313776) 327), (.int (35) 0), (.int (1) 0), (.int (0) 0), (.int (0) 0), (.int (3) 0), (.ref 120), (.bool true), (.int (181) 0), (.ref 121), .none, (.ref 122), (.ref 123), (.ref 124), (.int (332) 0), (.int (35) 0), (.str (S 9700865007064396754801562313776) 333)]
noncomputable def o126 (_ : Params) : Obj := ⟨(.type "function"), none, .func (PySem.W.fnOf (Str.ofString "joined") (Str.ofString "joined") (defArgs (top 16)) (defBody (top 16)) (defScope (top 16)) .none .none .none (.str (S 2595807759375494792423391711955702693320880999) 280) none (.ref 125) .none), #[]⟩
noncomputable def o136 (_ : Params) : Obj := tO [(.str (S 1735222900) 350)]
noncomputable def o139 (_ : Params) : Obj := cO [(.str (S 6944679725401530464) 347), (.str (S 8395602628992143088491004079736651362039124) 348), (.str (S 9700865007064396754801562313776) 349), (.int (46) 0), (.int (1) 0), (.int (0) 0), (.int (0) 0), (.int (3) 0), (.ref 134), (.bool true), (.int (181) 0), (.ref 135), .none, (.ref 136), (.ref 137), (.ref 138), (.int (351) 0), (.int (46) 0), (.str (S 9700865007064396754801562313776) 352)]
noncomputable def o140 (_ : Params) : Obj := ⟨(.type "function"), none, .func (PySem.W.fnOf (Str.ofString "__init__") (Str.ofString "Stretches.__init__") (defArgs (inClass (top 17) 0)) (defBody (inClass (top 17) 0)) (defScope (inClass (top 17) 0)) .none .none .none (.str (S 2595807759375494792423391711955702693320880999) 280) none (.ref 139) .none), #[]⟩
noncomputable def o141 (_ : Params) : Obj := ⟨(.type "tuple"), none, .seq #[.none] 0, #[]⟩
noncomputable def o144 (_ : Params) : Obj := tO [(.str (S 1735222900) 357), (.str (S 504464894567) 358), (.str (S 2054120046) 359), (.str (S 128047628446323) 360), (.str (S 6711925) 361)]
noncomputable def o147 (_ : Params) : Obj := cO [(.str (S 7698033) 354), (.str (S 9306351078043889216994357245268) 355), (.str (S 9700865007064396754801562313776) 356), (.int (49) 0), (.int (5) 0), (.int (0) 0), (.int (0) 0), (.int (3) 0), (.ref 142), (.bool true), (.int (181) 0), (.ref 143), .none, (.ref 144), (.ref 145), (.ref 146), (.int (362) 0), (.int (49) 0), (.str (S 9700865007064396754801562313776) 363)]
noncomputable def o148 (_ : Params) : Obj := ⟨(.type "function"), none, .func (PySem.W.fnOf (Str.ofString "put") (Str.ofString "Stretches.put") (defArgs (inClass (top 17) 1)) (defBody (inClass (top 17) 1)) (defScope (inClass (top 17) 1)) (.ref 141) .none .none (.str (S 2595807759375494792423391711955702693320880999) 280) none (.ref 147) .none), #[]⟩
noncomputable def o151 (_ : Params) : Obj := tO [(.str (S 1735222900) 368), (.str (S 504464894567) 369), (.str (S 2054120046) 370)]
noncomputable def o154 (_ : Params) : Obj := cO [(.str (S 7698020) 365), (.str (S 9306335362008234226815086064980) 366), (.str (S 9700865007064396754801562313776) 367), (.int (55) 0), (.int (3) 0), (.int (0) 0), (.int (0) 0), (.int (3) 0), (.ref 149), (.bool true), (.int (181) 0), (.ref 150), .none, (.ref 151), (.ref 152), (.ref 153), (.int (371) 0), (.int (55) 0), (.str (S 9700865007064396754801562313776) 372)]
noncomputable def o155 (_ : Params) : Obj := ⟨(.type "function"), none, .func (PySem.W.fnOf (Str.ofString "cut") (Str.ofString "Stretches.cut") (defArgs (inClass (top 17) 2)) (defBody (inClass (top 17) 2)) (defScope (inClass (top 17) 2)) .none .none .none (.str (S 2595807759375494792423391711955702693320880999) 280) none (.ref 154) .none), #[]⟩
noncomputable def o159 (_ : Params) : Obj := cO [(.str (S 435727529576) 374), (.str (S 526762260821547473070605117598954836) 375), (.str (S 9700865007064396754801562313776) 376), (.int (59) 0), (.int (4) 0), (.int (0) 0), (.int (0) 0), (.int (3) 0), (.ref 156), (.bool true), (.int (181) 0), (.ref 157), .none, .none, .none, (.ref 158), (.int (377) 0), (.int (59) 0), (.str (S 9700865007064396754801562313776) 378)]
noncomputable def o160 (_ : Params) : Obj := ⟨(.type "function"), none, .func (PySem.W.fnOf (Str.ofString "guard") (Str.ofString "Stretches.guard") (defArgs (inClass (top 17) 3)) (defBody (inClass (top 17) 3)) (defScope (inClass (top 17) 3)) .none .none .none (.str (S 2595807759375494792423391711955702693320880999) 280) none (.ref 159) .none), #[]⟩
noncomputable def o163 (_ : Params) : Obj := tO [(.str (S 1735222900) 383), (.str (S 504464894567) 384), (.str (S 2054120046) 385)]
noncomputable def o166 (_ : Params) : Obj := cO [(.str (S 516757173630863403280740) 380), (.str (S 624721089673430778640529783835705258327388943700) 381), (.str (S 9700865007064396754801562313776) 382), (.int (65) 0), (.int (3) 0), (.int (0) 0), (.int (0) 0), (.int (3) 0), (.ref 161), (.bool true), (.int (181) 0), (.ref 162), .none, (.ref 163), (.ref 164), (.ref 165), (.int (386) 0), (.int (65) 0), (.str (S 9700865007064396754801562313776) 387)]
noncomputable def o167 (_ : Params) : Obj := ⟨(.type "function"), none, .func (PySem.W.fnOf (Str.ofString "check_full") (Str.ofString "Stretches.check_full") (defArgs (inClass (top 17) 4)) (defBody (inClass (top 17) 4)) (defScope (inClass (top 17) 4)) .none .none .none (.str (S 2595807759375494792423391711955702693320880999) 280) none (.ref 166) .none), #[]⟩
noncomputable def o170 (_ : Params) : Obj := tO [(.str (S 1735222900) 392), (.str (S 1718116977) 393), (.str (S 1970496113) 394)]
noncomputable def o173 (_ : Params) : Obj := cO [(.str (S 2165357850485127146099) 389), (.str (S 2617757014156703991004303271023538183198700884) 390), (.str (S 9700865007064396754801562313776) 391), (.int (69) 0), (.int (2) 0), (.int (0) 0), (.int (0) 0), (.int (3) 0), (.ref 168), (.bool true), (.int (181) 0), (.ref 169), .none, (.ref 170), (.ref 171), (.ref 172), (.int (395) 0), (.int (69) 0), (.str (S 9700865007064396754801562313776) 396)]
noncomputable def o174 (_ : Params) : Obj := ⟨(.type "function"), none, .func (PySem.W.fnOf (Str.ofString "rights_at") (Str.ofString "Stretches.rights_at") (defArgs (inClass (top 17) 5)) (defBody (inClass (top 17) 5)) (defScope (inClass (top 17) 5)) .none .none .none (.str (S 2595807759375494792423391711955702693320880999) 280) none (.ref 173) .none), #[]⟩
noncomputable def o177 (_ : Params) : Obj := tO [(.str (S 1735222900) 401), (.str (S 1718116977) 402), (.str (S 1970496113) 403)]
noncomputable def o180 (_ : Params) : Obj := cO [(.str (S 129065384569461) 398), (.str (S 156030475824513176713048584412386784596) 399), (.str (S 9700865007064396754801562313776) 400), (.int (73) 0), (.int (2) 0), (.int (0) 0), (.int (0) 0), (.int (3) 0), (.ref 175), (.bool true), (.int (181) 0), (.ref 176), .none, (.ref 177), (.ref 178), (.ref 179), (.int (404) 0), (.int (73) 0), (.str (S 9700865007064396754801562313776) 405)]
noncomputable def o181 (_ : Params) : Obj := ⟨(.type "function"), none, .func (PySem.W.fnOf (Str.ofString "tie_at") (Str.ofString "Stretches.tie_at") (defArgs (inClass (top 17) 6)) (defBody (inClass (top 17) 6)) (defScope (inClass (top 17) 6)) .none .none .none (.str (S 2595807759375494792423391711955702693320880999) 280) none (.ref 180) .none), #[]⟩
noncomputable def o184 (_ : Params) : Obj := tO [(.str (S 1735222900) 410), (.str (S 504464894567) 411), (.str (S 2054120046) 412)]
noncomputable def o187 (_ : Params) : Obj := cO [(.str (S 28823093466133610) 407), (.str (S 34844981892374637606343691086821957268820) 408), (.str (S 9700865007064396754801562313776) 409), (.int (77) 0), (.int (3) 0), (.int (0) 0), (.int (0) 0), (.int (3) 0), (.ref 182), (.bool true), (.int (181) 0), (.ref 183), .none, (.ref 184), (.ref 185), (.ref 186), (.int (413) 0), (.int (77) 0), (.str (S 9700865007064396754801562313776) 414)]
noncomputable def o188 (_ : Params) : Obj := ⟨(.type "function"), none, .func (PySem.W.fnOf (Str.ofString "is_free") (Str.ofString "Stretches.is_free") (defArgs (inClass (top 17) 7)) (defBody (inClass (top 17) 7)) (defScope (inClass (top 17) 7)) .none .none .none (.str (S 2595807759375494792423391711955702693320880999) 280) none (.ref 187) .none), #[]⟩
noncomputable def o192 (_ : Params) : Obj := cO [(.str (S 30801127769404522) 416), (.str (S 37236278633682276866180525579755284821332) 417), (.str (S 9700865007064396754801562313776) 418), (.int (80) 0), (.int (3) 0), (.int (0) 0), (.int (0) 0), (.int (3) 0), (.ref 189), (.bool true), (.int (181) 0), (.ref 190), .none, .none, .none, (.ref 191), (.int (419) 0), (.int (80) 0), (.str (S 9700865007064396754801562313776) 420)]
noncomputable def o193 (_ : Params) : Obj := ⟨(.type "function"), none, .func (PySem.W.fnOf (Str.ofString "is_full") (Str.ofString "Stretches.is_full") (defArgs (inClass (top 17) 8)) (defBody (inClass (top 17) 8)) (defScope (inClass (top 17) 8)) .none .none .none (.str (S 2595807759375494792423391711955702693320880999) 280) none (.ref 192) .none), #[]⟩
noncomputable def o196 (_ : Params) : Obj := tO [(.str (S 1735222900) 425), (.str (S 1819239011) 426)]
noncomputable def o199 (_ : Params) : Obj := cO [(.str (S 28541580069598314) 422), (.str (S 34504653078735706780555045640184744080724) 423), (.str (S 9700865007064396754801562313776) 424), (.int (83) 0), (.int (2) 0), (.int (0) 0), (.int (0) 0), (.int (3) 0), (.ref 194), (.bool true), (.int (181) 0), (.ref 195), .none, (.ref 196), (.ref 197), (.ref 198), (.int (427) 0), (.int (83) 0), (.str (S 9700865007064396754801562313776) 428)]
noncomputable def o200 (_ : Params) : Obj := ⟨(.type "function"), none, .func (PySem.W.fnOf (Str.ofString "is_tied") (Str.ofString "Stretches.is_tied") (defArgs (inClass (top 17) 9)) (defBody (inClass (top 17) 9)) (defScope (inClass (top 17) 9)) .none .none .none (.str (S 2595807759375494792423391711955702693320880999) 280) none (.ref 199) .none), #[]⟩
noncomputable def o203 (_ : Params) : Obj := tO [(.str (S 1735222900) 433)]
noncomputable def o206 (_ : Params) : Obj := cO [(.str (S 1701671029) 430), (.str (S 2057194043672392837723022735668564) 431), (.str (S 9700865007064396754801562313776) 432), (.int (86) 0), (.int (1) 0), (.int (0) 0), (.int (0) 0), (.int (3) 0), (.ref 201), (.bool true), (.int (181) 0), (.ref 202), .none, (.ref 203), (.ref 204), (.ref 205), (.int (434) 0), (.int (86) 0), (.str (S 9700865007064396754801562313776) 435)]
noncomputable def o207 (_ : Params) : Obj := ⟨(.type "function"), none, .func (PySem.W.fnOf (Str.ofString "told") (Str.ofString "Stretches.told") (defArgs (inClass (top 17) 10)) (defBody (inClass (top 17) 10)) (defScope (inClass (top 17) 10)) .none .none .none (.str (S 2595807759375494792423391711955702693320880999) 280) none (.ref 206) .none), #[]⟩
noncomputable def o210 (_ : Params) : Obj := tO [(.str (S 1735222900) 440)]
noncomputable def o213 (_ : Params) : Obj := cO [(.str (S 111490546888804) 437), (.str (S 134783800776830844550708368151093146964) 438), (.str (S 9700865007064396754801562313776) 439), (.int (89) 0), (.int (1) 0), (.int (0) 0), (.int (0) 0), (.int (3) 0), (.ref 208), (.bool true), (.int (181) 0), (.ref 209), .none, (.ref 210), (.ref 211), (.ref 212), (.int (441) 0), (.int (89) 0), (.str (S 9700865007064396754801562313776) 442)]
noncomputable def o214 (_ : Params) : Obj := ⟨(.type "function"), none, .func (PySem.W.fnOf (Str.ofString "copied") (Str.ofString "Stretches.copied") (defArgs (inClass (top 17) 11)) (defBody (inClass (top 17) 11)) (defScope (inClass (top 17) 11)) .none .none .none (.str (S 2595807759375494792423391711955702693320880999) 280) none (.ref 213) .none), #[]⟩
noncomputable def o217 (_ : Params) : Obj := tO [(.str (S 1735222900) 447), (.str (S 1718116977) 448), (.str (S 7893101) 449), (.str (S 1768450665) 450), (.str (S 112620038613614) 451)]
noncomputable def o220 (_ : Params) : Obj := cO [(.str (S 31392679273066234308940950897) 444), (.str (S 37951420520090778506602714804950266613495697467733332) 445), (.str (S 9700865007064396754801562313776) 446), (.int (92) 0), (.int (2) 0), (.int (0) 0), (.int (0) 0), (.int (3) 0), (.ref 215), (.bool true), (.int (181) 0), (.ref 216), .none, (.ref 217), (.ref 218), (.ref 219), (.int (452) 0), (.int (92) 0), (.str (S 9700865007064396754801562313776) 453)]
noncomputable def o221 (_ : Params) : Obj := ⟨(.type "function"), none, .func (PySem.W.fnOf (Str.ofString "place_behind") (Str.ofString "Stretches.place_behind") (defArgs (inClass (top 17) 12)) (defBody (inClass (top 17) 12)) (defScope (inClass (top 17) 12)) .none .none .none (.str (S 2595807759375494792423391711955702693320880999) 280) none (.ref 220) .none), #[]⟩
noncomputable def o225 (_ : Params) : Obj := cO [(.str (S 478922323667592571740785) 455), (.str (S 578981562671587066094221509702201825946659681620) 456), (.str (S 9700865007064396754801562313776) 457), (.int (103) 0), (.int (3) 0), (.int (0) 0), (.int (0) 0), (.int (3) 0), (.ref 222), (.bool true), (.int (181) 0), (.ref 223), .none, .none, .none, (.ref 224), (.int (458) 0), (.int (103) 0), (.str (S 9700865007064396754801562313776) 459)]
noncomputable def o226 (_ : Params) : Obj := ⟨(.type "function"), none, .func (PySem.W.fnOf (Str.ofString "parts_amid") (Str.ofString "Stretches.parts_amid") (defArgs (inClass (top 17) 13)) (defBody (inClass (top 17) 13)) (defScope (inClass (top 17) 13)) .none .none .none (.str (S 2595807759375494792423391711955702693320880999) 280) none (.ref 225) .none), #[]⟩
noncomputable def o229 (_ : Params) : Obj := tO [(.str (S 1735222900) 464), (.str (S 1718116977) 465), (.str (S 500186702449) 466)]
noncomputable def o232 (_ : Params) : Obj := cO [(.str (S 33040738702025329) 461), (.str (S 39943802116018770004276114331333133825364) 462), (.str (S 9700865007064396754801562313776) 463), (.int (108) 0), (.int (2) 0), (.int (0) 0), (.int (0) 0), (.int (3) 0), (.ref 227), (.bool true), (.int (181) 0), (.ref 228), .none, (.ref 229), (.ref 230), (.ref 231), (.int (467) 0), (.int (108) 0), (.str (S 9700865007064396754801562313776) 468)]
noncomputable def o233 (_ : Params) : Obj := ⟨(.type "function"), none, .func (PySem.W.fnOf (Str.ofString "part_at") (Str.ofString "Stretches.part_at") (defArgs (inClass (top 17) 14)) (defBody (inClass (top 17) 14)) (defScope (inClass (top 17) 14)) .none .none .none (.str (S 2595807759375494792423391711955702693320880999) 280) none (.ref 232) .none), #[]⟩
noncomputable def o237 (_ : Params) : Obj := cO [(.str (S 7307774714166534765) 470), (.str (S 8834557535882840484900534439152844413302100) 471), (.str (S 9700865007064396754801562313776) 472), (.int (112) 0), (.int (4) 0), (.int (0) 0), (.int (0) 0), (.int (3) 0), (.ref 234), (.bool true), (.int (181) 0), (.ref 235), .none, .none, .none, (.ref 236), (.int (473) 0), (.int (112) 0), (.str (S 9700865007064396754801562313776) 474)]
noncomputable def o238 (_ : Params) : Obj := ⟨(.type "function"), none, .func (PySem.W.fnOf (Str.ofString "lay_amid") (Str.ofString "Stretches.lay_amid") (defArgs (inClass (top 17) 15)) (defBody (inClass (top 17) 15)) (defScope (inClass (top 17) 15)) .none .none .none (.str (S 2595807759375494792423391711955702693320880999) 280) none (.ref 237) .none), #[]⟩
noncomputable def o239 (_ : Params) : Obj := ⟨(.type "tuple"), none, .seq #[(.str (Str.ofString "runs") 476)] 0, #[]⟩
noncomputable def o240 (P : Params) : Obj := dO 4 [ent P (S 455125450472104437637216) 342 (.str (S 2595807759375494792423391711955702693320880999) 280), ent P (S 500416517772168279997240570217455712) 346 (.int (44) 345), ent P (S 6944679725401530464) 353 (.ref 140), ent P (S 7698033) 364 (.ref 148), ent P (S 7698020) 373 (.ref 155), ent P (S 435727529576) 379 (.ref 160), ent P (S 516757173630863403280740) 388 (.ref 167), ent P (S 2165357850485127146099) 397 (.ref 174), ent P (S 129065384569461) 406 (.ref 181), ent P (S 28823093466133610) 415 (.ref 188), ent P (S 30801127769404522) 421 (.ref 193), ent P (S 28541580069598314) 429 (.ref 200), ent P (S 1701671029) 436 (.ref 207), ent P (S 111490546888804) 443 (.ref 214), ent P (S 31392679273066234308940950897) 454 (.ref 221), ent P (S 478922323667592571740785) 460 (.ref 226), ent P (S 33040738702025329) 469 (.ref 233), ent P (S 7307774714166534765) 475 (.ref 238), ent P (S 140854816109632365363434125429399349832812124725344) 477 (.ref 239), ent P (S 6944679699547512928) 479 (.ref 242), ent P (S 116512133262362862868258912) 481 (.ref 243), ent P (S 27127582262911072) 482 .none]
noncomputable def o241 (_ : Params) : Obj := ⟨(.type "type"), none, .cls { name := (Str.ofString "Stretches"), bases := [(.type "object")], mro := [(.ref 241), (.type "object")], ns := 240, qualname := (Str.ofString "Stretches"), hasDict := true, slotNames := [], subclasses := [], abstract := false, collection := none, hasDel := false }, #[none, none, (some (.str (S 2147201852470124049748) 335)), (some (.str (S 2147201852470124049748) 343)), (some (.builtin "object.__new__")), (some (.bool true))]⟩
noncomputable def o242 (_ : Params) : Obj := ⟨(.type "getset_descriptor"), none, .fields ⟨[(.str (S 6944679699547512928) 478), (.ref 241), (.builtin "function.__dict__"), (.builtin "function.__dict__#set")]⟩, #[]⟩
noncomputable def o243 (_ : Params) : Obj := ⟨(.type "getset_descriptor"), none, .fields ⟨[(.str (S 116512133262362862868258912) 480), (.ref 241), (.builtin "ExceptionGroup.__weakref__"), .none]⟩, #[]⟩
noncomputable def o248 (_ : Params) : Obj := tO [(.str (S 2018578202597599112544) 490), (.str (S 531954870560015258243645439930953056) 491), (.str (S 2258528875839108574560) 492), (.str (S 483718193700061355076960) 493)]
noncomputable def o251 (_ : Params) : Obj := cO [(.str (S 2166583389145247411552) 487), (.str (S 2166583389145247411552) 488), (.str (S 9700865007064396754801562313776) 489), (.int (121) 0), (.int (3) 0), (.int (0) 0), (.int (0) 0), (.int (3) 0), (.ref 246), (.bool true), (.int (181) 0), (.ref 247), .none, (.ref 248), (.ref 249), (.ref 250), (.int (494) 0), (.int (121) 0), (.str (S 9700865007064396754801562313776) 495)]
noncomputable def o252 (_ : Params) : Obj := ⟨(.type "function"), none, .func (PySem.W.fnOf (Str.ofString "_law_part") (Str.ofString "_law_part") (defArgs (top 19)) (defBody (top 19)) (defScope (top 19)) .none .none .none (.str (S 12369415880258125354414687702584101526591587229041513796716291711597) 485) none (.ref 251) .none), #[]⟩
noncomputable def o255 (_ : Params) : Obj := tO [(.str (S 493181370599522634460512) 500)]
noncomputable def o258 (_ : Params) : Obj := cO [(.str (S 483700176494498687380832) 497), (.str (S 483700176494498687380832) 498), (.str (S 9700865007064396754801562313776) 499), (.int (124) 0), (.int (1) 0), (.int (0) 0), (.int (0) 0), (.int (3) 0), (.ref 253), (.bool true), (.int (181) 0), (.ref 254), .none, (.ref 255), (.ref 256), (.ref 257), (.int (501) 0), (.int (124) 0), (.str (S 9700865007064396754801562313776) 502)]
noncomputable def o259 (_ : Params) : Obj := ⟨(.type "function"), none, .func (PySem.W.fnOf (Str.ofString "_law_whole") (Str.ofString "_law_whole") (defArgs (top 20)) (defBody (top 20)) (defScope (top 20)) .none .none .none (.str (S 12369415880258125354414687702584101526591587229041513796716291711597) 485) none (.ref 258) .none), #[]⟩
noncomputable def o262 (_ : Params) : Obj := tO [(.str (S 549665011860828013620576) 507), (.str (S 1889089594505186930016) 508), (.str (S 140789856385873457908444512) 509), (.str (S 2077948713125041301002385566625120) 510)]
noncomputable def o265 (_ : Params) : Obj := cO [(.str (S 483846745014073506819424) 504), (.str (S 483846745014073506819424) 505), (.str (S 9700865007064396754801562313776) 506), (.int (126) 0), (.int (2) 0), (.int (0) 0), (.int (0) 0), (.int (3) 0), (.ref 260), (.bool true), (.int (181) 0), (.ref 261), .none, (.ref 262), (.ref 263), (.ref 264), (.int (511) 0), (.int (126) 0), (.str (S 9700865007064396754801562313776) 512)]
noncomputable def o266 (_ : Params) : Obj := ⟨(.type "function"), none, .func (PySem.W.fnOf (Str.ofString "_law_state") (Str.ofString "_law_state") (defArgs (top 21)) (defBody (top 21)) (defScope (top 21)) .none .none .none (.str (S 12369415880258125354414687702584101526591587229041513796716291711597) 485) none (.ref 265) .none), #[]⟩
noncomputable def o270 (_ : Params) : Obj := cO [(.str (S 122585281814624614255586656) 514), (.str (S 122585281814624614255586656) 515), (.str (S 9700865007064396754801562313776) 516), (.int (139) 0), (.int (3) 0), (.int (0) 0), (.int (0) 0), (.int (3) 0), (.ref 267), (.bool true), (.int (181) 0), (.ref 268), .none, .none, .none, (.ref 269), (.int (517) 0), (.int (139) 0), (.str (S 9700865007064396754801562313776) 518)]
noncomputable def o271 (_ : Params) : Obj := ⟨(.type "function"), none, .func (PySem.W.fnOf (Str.ofString "_law_mapped") (Str.ofString "_law_mapped") (defArgs (top 22)) (defBody (top 22)) (defScope (top 22)) .none .none .none (.str (S 12369415880258125354414687702584101526591587229041513796716291711597) 485) none (.ref 270) .none), #[]⟩
noncomputable def o274 (_ : Params) : Obj := tO [(.str (S 549665011860828013620576) 523), (.str (S 1871149499891998420320) 524), (.str (S 7381241873922420064) 525), (.str (S 8104356586650234208) 526), (.str (S 1889954270240479276384) 527), (.str (S 554665017381624725269856) 528), (.str (S 2258528875839108574560) 529), (.str (S 7308621329931070816) 530), (.str (S 1890460943890256129376) 531), (.str (S 2092150712552369843552) 532)]
noncomputable def o277 (_ : Params) : Obj := cO [(.str (S 483533148109722095873376) 520), (.str (S 483533148109722095873376) 521), (.str (S 9700865007064396754801562313776) 522), (.int (145) 0), (.int (5) 0), (.int (0) 0), (.int (0) 0), (.int (3) 0), (.ref 272), (.bool true), (.int (181) 0), (.ref 273), .none, (.ref 274), (.ref 275), (.ref 276), (.int (533) 0), (.int (145) 0), (.str (S 9700865007064396754801562313776) 534)]
noncomputable def o278 (_ : Params) : Obj := ⟨(.type "function"), none, .func (PySem.W.fnOf (Str.ofString "_law_place") (Str.ofString "_law_place") (defArgs (top 23)) (defBody (top 23)) (defScope (top 23)) .none .none .none (.str (S 12369415880258125354414687702584101526591587229041513796716291711597) 485) none (.ref 277) .none), #[]⟩
noncomputable def o281 (_ : Params) : Obj := tO [(.str (S 549665011860828013620576) 539), (.str (S 7381241873922420064) 540), (.str (S 8104356586650234208) 541), (.str (S 1889954270240479276384) 542), (.str (S 1871149499891998420320) 543), (.str (S 554665017381624725269856) 544), (.str (S 2258528875839108574560) 545), (.str (S 140789856385873457908444512) 546), (.str (S 7379839996597005664) 547)]
noncomputable def o284 (_ : Params) : Obj := cO [(.str (S 1870499847949168831840) 536), (.str (S 1870499847949168831840) 537), (.str (S 9700865007064396754801562313776) 538), (.int (164) 0), (.int (4) 0), (.int (0) 0), (.int (0) 0), (.int (3) 0), (.ref 279), (.bool true), (.int (181) 0), (.ref 280), .none, (.ref 281), (.ref 282), (.ref 283), (.int (548) 0), (.int (164) 0), (.str (S 9700865007064396754801562313776) 549)]
noncomputable def o285 (_ : Params) : Obj := ⟨(.type "function"), none, .func (PySem.W.fnOf (Str.ofString "_law_deed") (Str.ofString "_law_deed") (defArgs (top 24)) (defBody (top 24)) (defScope (top 24)) .none .none .none (.str (S 12369415880258125354414687702584101526591587229041513796716291711597) 485) none (.ref 284) .none), #[]⟩
noncomputable def o288 (_ : Params) : Obj := tO [(.str (S 1889525884017623330144) 554), (.str (S 2077948713125041301002385566625120) 555), (.str (S 554665017381624725269856) 556), (.str (S 2258528875839108574560) 557)]
noncomputable def o291 (_ : Params) : Obj := cO [(.str (S 478848253269000079961440) 551), (.str (S 478848253269000079961440) 552), (.str (S 9700865007064396754801562313776) 553), (.int (174) 0), (.int (2) 0), (.int (0) 0), (.int (0) 0), (.int (3) 0), (.ref 286), (.bool true), (.int (181) 0), (.ref 287), .none, (.ref 288), (.ref 289), (.ref 290), (.int (558) 0), (.int (174) 0), (.str (S 9700865007064396754801562313776) 559)]
noncomputable def o292 (_ : Params) : Obj := ⟨(.type "function"), none, .func (PySem.W.fnOf (Str.ofString "_law_tried") (Str.ofString "_law_tried") (defArgs (top 25)) (defBody (top 25)) (defScope (top 25)) .none .none .none (.str (S 12369415880258125354414687702584101526591587229041513796716291711597) 485) none (.ref 291) .none), #[]⟩
noncomputable def o295 (_ : Params) : Obj := tO [(.str (S 2077948713125041301002385566625120) 564), (.str (S 483810136379702030527840) 565)]
noncomputable def o298 (_ : Params) : Obj := cO [(.str (S 7383200104131489120) 561), (.str (S 7383200104131489120) 562), (.str (S 9700865007064396754801562313776) 563), (.int (193) 0), (.int (2) 0), (.int (0) 0), (.int (0) 0), (.int (3) 0), (.ref 293), (.bool true), (.int (181) 0), (.ref 294), .none, (.ref 295), (.ref 296), (.ref 297), (.int (566) 0), (.int (193) 0), (.str (S 9700865007064396754801562313776) 567)]
noncomputable def o299 (_ : Params) : Obj := ⟨(.type "function"), none, .func (PySem.W.fnOf (Str.ofString "_law_due") (Str.ofString "_law_due") (defArgs (top 26)) (defBody (top 26)) (defScope (top 26)) .none .none .none (.str (S 12369415880258125354414687702584101526591587229041513796716291711597) 485) none (.ref 298) .none), #[]⟩
noncomputable def o302 (_ : Params) : Obj := tO [(.str (S 7379839996597005664) 572)]
noncomputable def o305 (_ : Params) : Obj := cO [(.str (S 8036842627636867072628497739104) 569), (.str (S 8036842627636867072628497739104) 570), (.str (S 9700865007064396754801562313776) 571), (.int (201) 0), (.int (1) 0), (.int (0) 0), (.int (0) 0), (.int (3) 0), (.ref 300), (.bool true), (.int (181) 0), (.ref 301), .none, (.ref 302), (.ref 303), (.ref 304), (.int (573) 0), (.int (201) 0), (.str (S 9700865007064396754801562313776) 574)]
noncomputable def o306 (_ : Params) : Obj := ⟨(.type "function"), none, .func (PySem.W.fnOf (Str.ofString "_law_tie_good") (Str.ofString "_law_tie_good") (defArgs (top 27)) (defBody (top 27)) (defScope (top 27)) .none .none .none (.str (S 12369415880258125354414687702584101526591587229041513796716291711597) 485) none (.ref 305) .none), #[]⟩
noncomputable def o309 (_ : Params) : Obj := tO [(.str (S 8678563340116716896) 579)]
noncomputable def o312 (_ : Params) : Obj := cO [(.str (S 8036842627638165795972017450336) 576), (.str (S 8036842627638165795972017450336) 577), (.str (S 9700865007064396754801562313776) 578), (.int (205) 0), (.int (1) 0), (.int (0) 0), (.int (0) 0), (.int (3) 0), (.ref 307), (.bool true), (.int (181) 0), (.ref 308), .none, (.ref 309), (.ref 310), (.ref 311), (.int (580) 0), (.int (205) 0), (.str (S 9700865007064396754801562313776) 581)]
noncomputable def o313 (_ : Params) : Obj := ⟨(.type "function"), none, .func (PySem.W.fnOf (Str.ofString "_law_row_good") (Str.ofString "_law_row_good") (defArgs (top 28)) (defBody (top 28)) (defScope (top 28)) .none .none .none (.str (S 12369415880258125354414687702584101526591587229041513796716291711597) 485) none (.ref 312) .none), #[]⟩
noncomputable def o316 (_ : Params) : Obj := tO [(.str (S 8678563340116716896) 586), (.str (S 544961312529033470307680) 587)]
noncomputable def o319 (_ : Params) : Obj := cO [(.str (S 554645347623279649779040) 583), (.str (S 554645347623279649779040) 584), (.str (S 9700865007064396754801562313776) 585), (.int (209) 0), (.int (2) 0), (.int (0) 0), (.int (0) 0), (.int (3) 0), (.ref 314), (.bool true), (.int (181) 0), (.ref 315), .none, (.ref 316), (.ref 317), (.ref 318), (.int (588) 0), (.int (209) 0), (.str (S 9700865007064396754801562313776) 589)]
noncomputable def o320 (_ : Params) : Obj := ⟨(.type "function"), none, .func (PySem.W.fnOf (Str.ofString "_law_apart") (Str.ofString "_law_apart") (defArgs (top 29)) (defBody (top 29)) (defScope (top 29)) .none .none .none (.str (S 12369415880258125354414687702584101526591587229041513796716291711597) 485) none (.ref 319) .none), #[]⟩
noncomputable def o323 (_ : Params) : Obj := tO [(.str (S 1871007083449387478368) 594), (.str (S 1889089594505186930016) 595), (.str (S 8678563340116716896) 596)]
noncomputable def o326 (_ : Params) : Obj := cO [(.str (S 141908892376227254905236832) 591), (.str (S 141908892376227254905236832) 592), (.str (S 9700865007064396754801562313776) 593), (.int (215) 0), (.int (2) 0), (.int (0) 0), (.int (0) 0), (.int (3) 0), (.ref 321), (.bool true), (.int (181) 0), (.ref 322), .none, (.ref 323), (.ref 324), (.ref 325), (.int (597) 0), (.int (215) 0), (.str (S 9700865007064396754801562313776) 598)]
noncomputable def o327 (_ : Params) : Obj := ⟨(.type "function"), none, .func (PySem.W.fnOf (Str.ofString "_law_row_at") (Str.ofString "_law_row_at") (defArgs (top 30)) (defBody (top 30)) (defScope (top 30)) .none .none .none (.str (S 12369415880258125354414687702584101526591587229041513796716291711597) 485) none (.ref 326) .none), #[]⟩
noncomputable def o331 (_ : Params) : Obj := cO [(.str (S 609636658130752469931390835720613216) 600), (.str (S 609636658130752469931390835720613216) 601), (.str (S 9700865007064396754801562313776) 602), (.int (222) 0), (.int (2) 0), (.int (0) 0), (.int (0) 0), (.int (3) 0), (.ref 328), (.bool true), (.int (181) 0), (.ref 329), .none, .none, .none, (.ref 330), (.int (603) 0), (.int (222) 0), (.str (S 9700865007064396754801562313776) 604)]
noncomputable def o332 (_ : Params) : Obj := ⟨(.type "function"), none, .func (PySem.W.fnOf (Str.ofString "_law_told_right") (Str.ofString "_law_told_right") (defArgs (top 31)) (defBody (top 31)) (defScope (top 31)) .none .none .none (.str (S 12369415880258125354414687702584101526591587229041513796716291711597) 485) none (.ref 331) .none), #[]⟩
noncomputable def o335 (_ : Params) : Obj := tO [(.str (S 141979911977246466280418656) 609), (.str (S 1889954270240479276384) 610), (.str (S 549813090215476443901280) 611), (.str (S 1889525884017623330144) 612), (.str (S 549665011860828013620576) 613), (.str (S 119161592376672) 614), (.str (S 2077948713125041301002385566625120) 615), (.str (S 483810136379702030527840) 616), (.str (S 2258528875839108574560) 617), (.str (S 8116987160644769142113648668000) 618)]
noncomputable def o338 (_ : Params) : Obj := cO [(.str (S 7889517) 606), (.str (S 7889517) 607), (.str (S 9700865007064396754801562313776) 608), (.int (240) 0), (.int (1) 0), (.int (0) 0), (.int (0) 0), (.int (3) 0), (.ref 333), (.bool true), (.int (181) 0), (.ref 334), .none, (.ref 335), (.ref 336), (.ref 337), (.int (619) 0), (.int (240) 0), (.str (S 9700865007064396754801562313776) 620)]
noncomputable def o339 (_ : Params) : Obj := ⟨(.type "function"), none, .func (PySem.W.fnOf (Str.ofString "law") (Str.ofString "law") (defArgs (top 32)) (defBody (top 32)) (defScope (top 32)) .none .none .none (.str (S 12369415880258125354414687702584101526591587229041513796716291711597) 485) none (.ref 338) .none), #[]⟩
noncomputable def Kf : Params → PySem.W.Frag := fun P => (nat_lit 2, o2 P) :: (nat_lit 3, o3 P) :: (nat_lit 15, o15 P) :: (nat_lit 17, o17 P) :: (nat_lit 18, o15 P) :: (nat_lit 20, o20 P) :: (nat_lit 21, o21 P) :: (nat_lit 22, o22 P) :: (nat_lit 29, o29 P) :: (nat_lit 30, o30 P) :: (nat_lit 31, o31 P) :: (nat_lit 32, o32 P) :: (nat_lit 35, o35 P) :: (nat_lit 42, o29 P) :: (nat_lit 43, o43 P) :: (nat_lit 44, o44 P) :: (nat_lit 47, o35 P) :: (nat_lit 54, o29 P) :: (nat_lit 55, o55 P) :: (nat_lit 56, o56 P) :: (nat_lit 59, o35 P) :: (nat_lit 66, o29 P) :: (nat_lit 67, o67 P) :: (nat_lit 68, o68 P) :: (nat_lit 71, o15 P) :: (nat_lit 73, o73 P) :: (nat_lit 74, o15 P) :: (nat_lit 76, o76 P) :: (nat_lit 77, o77 P) :: (nat_lit 78, o15 P) :: (nat_lit 80, o80 P) :: (nat_lit 81, o15 P) :: (nat_lit 83, o83 P) :: (nat_lit 84, o84 P) :: (nat_lit 85, o15 P) :: (nat_lit 87, o87 P) :: (nat_lit 88, o15 P) :: (nat_lit 90, o90 P) :: (nat_lit 91, o91 P) :: (nat_lit 92, o15 P) :: (nat_lit 94, o94 P) :: (nat_lit 95, o15 P) :: (nat_lit 97, o97 P) :: (nat_lit 98, o98 P) :: (nat_lit 99, o15 P) :: (nat_lit 101, o101 P) :: (nat_lit 102, o15 P) :: (nat_lit 104, o104 P) :: (nat_lit 105, o105 P) :: (nat_lit 106, o15 P) :: (nat_lit 108, o108 P) :: (nat_lit 109, o15 P) :: (nat_lit 111, o111 P) :: (nat_lit 112, o112 P) :: (nat_lit 113, o15 P) :: (nat_lit 115, o115 P) :: (nat_lit 116, o15 P) :: (nat_lit 118, o118 P) :: (nat_lit 119, o119 P) :: (nat_lit 120, o15 P) :: (nat_lit 122, o122 P) :: (nat_lit 123, o15 P) :: (nat_lit 125, o125 P) :: (nat_lit 126, o126 P) :: (nat_lit 134, o15 P) :: (nat_lit 136, o136 P) :: (nat_lit 137, o15 P) :: (nat_lit 139, o139 P) :: (nat_lit 140, o140 P) :: (nat_lit 141, o141 P) :: (nat_lit 142, o15 P) :: (nat_lit 144, o144 P) :: (nat_lit 145, o15 P) :: (nat_lit 147, o147 P) :: (nat_lit 148, o148 P) :: (nat_lit 149, o15 P) :: (nat_lit 151, o151 P) :: (nat_lit 152, o15 P) :: (nat_lit 154, o154 P) :: (nat_lit 155, o155 P) :: (nat_lit 156, o15 P) :: (nat_lit 159, o159 P) :: (nat_lit 160, o160 P) :: (nat_lit 161, o15 P) :: (nat_lit 163, o163 P) :: (nat_lit 164, o15 P) :: (nat_lit 166, o166 P) :: (nat_lit 167, o167 P) :: (nat_lit 168, o15 P) :: (nat_lit 170, o170 P) :: (nat_lit 171, o15 P) :: (nat_lit 173, o173 P) :: (nat_lit 174, o174 P) :: (nat_lit 175, o15 P) :: (nat_lit 177, o177 P) :: (nat_lit 178, o15 P) :: (nat_lit 180, o180 P) :: (nat_lit 181, o181 P) :: (nat_lit 182, o15 P) :: (nat_lit 184, o184 P) :: (nat_lit 185, o15 P) :: (nat_lit 187, o187 P) :: (nat_lit 188, o188 P) :: (nat_lit 189, o15 P) :: (nat_lit 192, o192 P) :: (nat_lit 193, o193 P) :: (nat_lit 194, o15 P) :: (nat_lit 196, o196 P) :: (nat_lit 197, o15 P) :: (nat_lit 199, o199 P) :: (nat_lit 200, o200 P) :: (nat_lit 201, o15 P) :: (nat_lit 203, o203 P) :: (nat_lit 204, o15 P) :: (nat_lit 206, o206 P) :: (nat_lit 207, o207 P) :: (nat_lit 208, o15 P) :: (nat_lit 210, o210 P) :: (nat_lit 211, o15 P) :: (nat_lit 213, o213 P) :: (nat_lit 214, o214 P) :: (nat_lit 215, o15 P) :: (nat_lit 217, o217 P) :: (nat_lit 218, o15 P) :: (nat_lit 220, o220 P) :: (nat_lit 221, o221 P) :: (nat_lit 222, o15 P) :: (nat_lit 225, o225 P) :: (nat_lit 226, o226 P) :: (nat_lit 227, o15 P) :: (nat_lit 229, o229 P) :: (nat_lit 230, o15 P) :: (nat_lit 232, o232 P) :: (nat_lit 233, o233 P) :: (nat_lit 234, o15 P) :: (nat_lit 237, o237 P) :: (nat_lit 238, o238 P) :: (nat_lit 239, o239 P) :: (nat_lit 240, o240 P) :: (nat_lit 241, o241 P) :: (nat_lit 242, o242 P) :: (nat_lit 243, o243 P) :: (nat_lit 246, o15 P) :: (nat_lit 248, o248 P) :: (nat_lit 249, o15 P) :: (nat_lit 251, o251 P) :: (nat_lit 252, o252 P) :: (nat_lit 253, o15 P) :: (nat_lit 255, o255 P) :: (nat_lit 256, o15 P) :: (nat_lit 258, o258 P) :: (nat_lit 259, o259 P) :: (nat_lit 260, o15 P) :: (nat_lit 262, o262 P) :: (nat_lit 263, o15 P) :: (nat_lit 265, o265 P) :: (nat_lit 266, o266 P) :: (nat_lit 267, o15 P) :: (nat_lit 270, o270 P) :: (nat_lit 271, o271 P) :: (nat_lit 272, o15 P) :: (nat_lit 274, o274 P) :: (nat_lit 275, o15 P) :: (nat_lit 277, o277 P) :: (nat_lit 278, o278 P) :: (nat_lit 279, o15 P) :: (nat_lit 281, o281 P) :: (nat_lit 282, o15 P) :: (nat_lit 284, o284 P) :: (nat_lit 285, o285 P) :: (nat_lit 286, o15 P) :: (nat_lit 288, o288 P) :: (nat_lit 289, o15 P) :: (nat_lit 291, o291 P) :: (nat_lit 292, o292 P) :: (nat_lit 293, o15 P) :: (nat_lit 295, o295 P) :: (nat_lit 296, o15 P) :: (nat_lit 298, o298 P) :: (nat_lit 299, o299 P) :: (nat_lit 300, o15 P) :: (nat_lit 302, o302 P) :: (nat_lit 303, o15 P) :: (nat_lit 305, o305 P) :: (nat_lit 306, o306 P) :: (nat_lit 307, o15 P) :: (nat_lit 309, o309 P) :: (nat_lit 310, o15 P) :: (nat_lit 312, o312 P) :: (nat_lit 313, o313 P) :: (nat_lit 314, o15 P) :: (nat_lit 316, o316 P) :: (nat_lit 317, o15 P) :: (nat_lit 319, o319 P) :: (nat_lit 320, o320 P) :: (nat_lit 321, o15 P) :: (nat_lit 323, o323 P) :: (nat_lit 324, o15 P) :: (nat_lit 326, o326 P) :: (nat_lit 327, o327 P) :: (nat_lit 328, o15 P) :: (nat_lit 331, o331 P) :: (nat_lit 332, o332 P) :: (nat_lit 333, o15 P) :: (nat_lit 335, o335 P) :: (nat_lit 336, o15 P) :: (nat_lit 338, o338 P) :: (nat_lit 339, o339 P) :: []
noncomputable def Kc0 (P : Params) : List (Option Obj) := [some (o2 P), some (o3 P), some (o15 P), some (o17 P), some (o15 P), some (o20 P), some (o21 P), some (o22 P), some (o29 P), some (o30 P), some (o31 P), some (o32 P), some (o35 P), some (o29 P)]
noncomputable def Kc1 (P : Params) : List (Option Obj) := [some (o43 P), some (o44 P), some (o35 P), some (o29 P), some (o55 P), some (o56 P), some (o35 P), some (o29 P), some (o67 P), some (o68 P), some (o15 P), some (o73 P), some (o15 P), some (o76 P)]
noncomputable def Kc2 (P : Params) : List (Option Obj) := [some (o77 P), some (o15 P), some (o80 P), some (o15 P), some (o83 P), some (o84 P), some (o15 P), some (o87 P), some (o15 P), some (o90 P), some (o91 P), some (o15 P), some (o94 P), some (o15 P)]
noncomputable def Kc3 (P : Params) : List (Option Obj) := [some (o97 P), some (o98 P), some (o15 P), some (o101 P), some (o15 P), some (o104 P), some (o105 P), some (o15 P), some (o108 P), some (o15 P), some (o111 P), some (o112 P), some (o15 P), some (o115 P)]
noncomputable def Kc4 (P : Params) : List (Option Obj) := [some (o15 P), some (o118 P), some (o119 P), some (o15 P), some (o122 P), some (o15 P), some (o125 P), some (o126 P), some (o15 P), some (o136 P), some (o15 P), some (o139 P), some (o140 P), some (o141 P)]
noncomputable def Kc5 (P : Params) : List (Option Obj) := [some (o15 P), some (o144 P), some (o15 P), some (o147 P), some (o148 P), some (o15 P), some (o151 P), some (o15 P), some (o154 P), some (o155 P), some (o15 P), some (o159 P), some (o160 P), some (o15 P)]
noncomputable def Kc6 (P : Params) : List (Option Obj) := [some (o163 P), some (o15 P), some (o166 P), some (o167 P), some (o15 P), some (o170 P), some (o15 P), some (o173 P), some (o174 P), some (o15 P), some (o177 P), some (o15 P), some (o180 P), some (o181 P)]
noncomputable def Kc7 (P : Params) : List (Option Obj) := [some (o15 P), some (o184 P), some (o15 P), some (o187 P), some (o188 P), some (o15 P), some (o192 P), some (o193 P), some (o15 P), some (o196 P), some (o15 P), some (o199 P), some (o200 P), some (o15 P)]
noncomputable def Kc8 (P : Params) : List (Option Obj) := [some (o203 P), some (o15 P), some (o206 P), some (o207 P), some (o15 P), some (o210 P), some (o15 P), some (o213 P), some (o214 P), some (o15 P), some (o217 P), some (o15 P), some (o220 P), some (o221 P)]
noncomputable def Kc9 (P : Params) : List (Option Obj) := [some (o15 P), some (o225 P), some (o226 P), some (o15 P), some (o229 P), some (o15 P), some (o232 P), some (o233 P), some (o15 P), some (o237 P), some (o238 P), some (o239 P), some (o240 P), some (o241 P)]
noncomputable def Kc10 (P : Params) : List (Option Obj) := [some (o242 P), some (o243 P), some (o15 P), some (o248 P), some (o15 P), some (o251 P), some (o252 P), some (o15 P), some (o255 P), some (o15 P), some (o258 P), some (o259 P), some (o15 P), some (o262 P)]
noncomputable def Kc11 (P : Params) : List (Option Obj) := [some (o15 P), some (o265 P), some (o266 P), some (o15 P), some (o270 P), some (o271 P), some (o15 P), some (o274 P), some (o15 P), some (o277 P), some (o278 P), some (o15 P), some (o281 P), some (o15 P)]
noncomputable def Kc12 (P : Params) : List (Option Obj) := [some (o284 P), some (o285 P), some (o15 P), some (o288 P), some (o15 P), some (o291 P), some (o292 P), some (o15 P), some (o295 P), some (o15 P), some (o298 P), some (o299 P), some (o15 P), some (o302 P)]
noncomputable def Kc13 (P : Params) : List (Option Obj) := [some (o15 P), some (o305 P), some (o306 P), some (o15 P), some (o309 P), some (o15 P), some (o312 P), some (o313 P), some (o15 P), some (o316 P), some (o15 P), some (o319 P), some (o320 P), some (o15 P)]
noncomputable def Kc14 (P : Params) : List (Option Obj) := [some (o323 P), some (o15 P), some (o326 P), some (o327 P), some (o15 P), some (o331 P), some (o332 P), some (o15 P), some (o335 P), some (o15 P), some (o338 P), some (o339 P)]
noncomputable def Kc (P : Params) : List (Option Obj) := Kc0 P ++ (Kc1 P ++ (Kc2 P ++ (Kc3 P ++ (Kc4 P ++ (Kc5 P ++ (Kc6 P ++ (Kc7 P ++ (Kc8 P ++ (Kc9 P ++ (Kc10 P ++ (Kc11 P ++ (Kc12 P ++ (Kc13 P ++ (Kc14 P))))))))))))))
def adr : List Addr := nat_lit 2 :: nat_lit 3 :: nat_lit 15 :: nat_lit 17 :: nat_lit 18 :: nat_lit 20 :: nat_lit 21 :: nat_lit 22 :: nat_lit 29 :: nat_lit 30 :: nat_lit 31 :: nat_lit 32 :: nat_lit 35 :: nat_lit 42 :: nat_lit 43 :: nat_lit 44 :: nat_lit 47 :: nat_lit 54 :: nat_lit 55 :: nat_lit 56 :: nat_lit 59 :: nat_lit 66 :: nat_lit 67 :: nat_lit 68 :: nat_lit 71 :: nat_lit 73 :: nat_lit 74 :: nat_lit 76 :: nat_lit 77 :: nat_lit 78 :: nat_lit 80 :: nat_lit 81 :: nat_lit 83 :: nat_lit 84 :: nat_lit 85 :: nat_lit 87 :: nat_lit 88 :: nat_lit 90 :: nat_lit 91 :: nat_lit 92 :: nat_lit 94 :: nat_lit 95 :: nat_lit 97 :: nat_lit 98 :: nat_lit 99 :: nat_lit 101 :: nat_lit 102 :: nat_lit 104 :: nat_lit 105 :: nat_lit 106 :: nat_lit 108 :: nat_lit 109 :: nat_lit 111 :: nat_lit 112 :: nat_lit 113 :: nat_lit 115 :: nat_lit 116 :: nat_lit 118 :: nat_lit 119 :: nat_lit 120 :: nat_lit 122 :: nat_lit 123 :: nat_lit 125 :: nat_lit 126 :: nat_lit 134 :: nat_lit 136 :: nat_lit 137 :: nat_lit 139 :: nat_lit 140 :: nat_lit 141 :: nat_lit 142 :: nat_lit 144 :: nat_lit 145 :: nat_lit 147 :: nat_lit 148 :: nat_lit 149 :: nat_lit 151 :: nat_lit 152 :: nat_lit 154 :: nat_lit 155 :: nat_lit 156 :: nat_lit 159 :: nat_lit 160 :: nat_lit 161 :: nat_lit 163 :: nat_lit 164 :: nat_lit 166 :: nat_lit 167 :: nat_lit 168 :: nat_lit 170 :: nat_lit 171 :: nat_lit 173 :: nat_lit 174 :: nat_lit 175 :: nat_lit 177 :: nat_lit 178 :: nat_lit 180 :: nat_lit 181 :: nat_lit 182 :: nat_lit 184 :: nat_lit 185 :: nat_lit 187 :: nat_lit 188 :: nat_lit 189 :: nat_lit 192 :: nat_lit 193 :: nat_lit 194 :: nat_lit 196 :: nat_lit 197 :: nat_lit 199 :: nat_lit 200 :: nat_lit 201 :: nat_lit 203 :: nat_lit 204 :: nat_lit 206 :: nat_lit 207 :: nat_lit 208 :: nat_lit 210 :: nat_lit 211 :: nat_lit 213 :: nat_lit 214 :: nat_lit 215 :: nat_lit 217 :: nat_lit 218 :: nat_lit 220 :: nat_lit 221 :: nat_lit 222 :: nat_lit 225 :: nat_lit 226 :: nat_lit 227 :: nat_lit 229 :: nat_lit 230 :: nat_lit 232 :: nat_lit 233 :: nat_lit 234 :: nat_lit 237 :: nat_lit 238 :: nat_lit 239 :: nat_lit 240 :: nat_lit 241 :: nat_lit 242 :: nat_lit 243 :: nat_lit 246 :: nat_lit 248 :: nat_lit 249 :: nat_lit 251 :: nat_lit 252 :: nat_lit 253 :: nat_lit 255 :: nat_lit 256 :: nat_lit 258 :: nat_lit 259 :: nat_lit 260 :: nat_lit 262 :: nat_lit 263 :: nat_lit 265 :: nat_lit 266 :: nat_lit 267 :: nat_lit 270 :: nat_lit 271 :: nat_lit 272 :: nat_lit 274 :: nat_lit 275 :: nat_lit 277 :: nat_lit 278 :: nat_lit 279 :: nat_lit 281 :: nat_lit 282 :: nat_lit 284 :: nat_lit 285 :: nat_lit 286 :: nat_lit 288 :: nat_lit 289 :: nat_lit 291 :: nat_lit 292 :: nat_lit 293 :: nat_lit 295 :: nat_lit 296 :: nat_lit 298 :: nat_lit 299 :: nat_lit 300 :: nat_lit 302 :: nat_lit 303 :: nat_lit 305 :: nat_lit 306 :: nat_lit 307 :: nat_lit 309 :: nat_lit 310 :: nat_lit 312 :: nat_lit 313 :: nat_lit 314 :: nat_lit 316 :: nat_lit 317 :: nat_lit 319 :: nat_lit 320 :: nat_lit 321 :: nat_lit 323 :: nat_lit 324 :: nat_lit 326 :: nat_lit 327 :: nat_lit 328 :: nat_lit 331 :: nat_lit 332 :: nat_lit 333 :: nat_lit 335 :: nat_lit 336 :: nat_lit 338 :: nat_lit 339 :: []
theorem adr_eq (P : Params) : adr = (Kf P).map (·.1) := by kernel_rfl
theorem kc_eq (P : Params) : Kc P = (Kf P).map fun p => some p.2 := by kernel_rfl
noncomputable def vw : Program := PySem.W.view PySem.Challenge.pw_frameland_k25_told_least [0, 2, 3, 4, 5, 7, 8, 10, 11, 12, 13, 14, 15, 16, 17, 19, 20, 21, 22, 23, 24, 25, 26, 27, 28, 29, 30, 31, 32]
noncomputable def lhs := once PySem.Challenge.pw_frameland_k25_told_least (fun s => adr.map s.heap.get?) 4680
noncomputable def rhs (w : World) := some (true, Kc w.params)
noncomputable def lht := seen PySem.Challenge.pw_frameland_k25_told_least vw [] (fun s => PySem.W.xlAt vw [] s && PySem.W.recOk (PySem.W.RowW.records (PySem.Challenge.rw_frameland_k25_told_least).row.toRowW) s) 4680
noncomputable def rht := some (PySem.W.openGood vw [])
theorem twins : (fun (_ : World → OsState → _) (_ : World → _) (_ : World → OsState → _) (_ : Option _) => true) lhs rhs lht rht = true := by k_qdec
theorem run_one : ∀ (w : World) (os : OsState), PySem.W.Fast.tw7128866508377749982 w os = PySem.W.Fast.tw12590348191598281069 w := by intro w os; kernel_rfl
theorem run_two : ∀ (w : World) (os : OsState), PySem.W.Fast.tw7374437481920917934 w os = PySem.W.Fast.tw10733892774512676622 := by intro w os; kernel_rfl
theorem left : PySem.W.LeftO PySem.Challenge.pw_frameland_k25_told_least vw [] (fun s => PySem.W.xlAt vw [] s && PySem.W.recOk (PySem.W.RowW.records (PySem.Challenge.rw_frameland_k25_told_least).row.toRowW) s) (fun s => adr.map s.heap.get?) (fun w => (Kf w.params).map fun p => some p.2) (4680) := by
  refine left_once (by kernel_rfl) (by kernel_rfl) (by intro s; kernel_rfl) (fun w os => ?_) fun w os => ?_
  · rw [← kc_eq]; exact (congrFun (congrFun PySem.W.Fast.te7128866508377749982 w) os).trans ((run_one w os).trans (congrFun PySem.W.Fast.te12590348191598281069 w).symm)
  · exact (congrFun (congrFun PySem.W.Fast.te7374437481920917934 w) os).trans ((run_two w os).trans PySem.W.Fast.te10733892774512676622.symm)
end

end Pf
open PySem PySem.W PyProof.Rows
set_option maxRecDepth 100000 in
set_option maxHeartbeats 0 in
theorem PySem.Challenge.cw_frameland_k25_told_least_holds : PySem.Challenge.rw_frameland_k25_told_least.Holds := by
  w_on; o_law
  refine holds_open (q := Pf.vw) (loose := []) (Xt := fun s => xlAt Pf.vw [] s && recOk (RowW.records (PySem.Challenge.rw_frameland_k25_told_least).row.toRowW) s) (XP := XL Pf.vw []) (Yf := Hook.obs (kHook Pf.Kf Pf.adr Pf.adr_eq)) (Ya := Hook.val (kHook Pf.Kf Pf.adr Pf.adr_eq)) (YP := Hook.says (kHook Pf.Kf Pf.adr Pf.adr_eq)) (N := (4680)) Pf.left (Hook.of (kHook Pf.Kf Pf.adr Pf.adr_eq)) (Hook.keeps (kHook Pf.Kf Pf.adr Pf.adr_eq)) (fun s e => xl_of s (Bool.and_eq_true_iff.mp e).1) XL.keeps (by rfl) (by rfl) (by rfl) (fun s e => recFacts_of (Bool.and_eq_true_iff.mp e).2) (by rfl) (by first | assumption | decide +kernel) (by decide +kernel) ⟨rfl, rfl, rfl, rfl, rfl, by decide +kernel⟩ ?hw ?hc
  case hw => w_witness2
  k_fill
  refine Pf.walk (l := PySem.Challenge.rw_frameland_k25_told_least) rfl rfl rfl (fun w h Y => PySem.W.kIn_of Y) ?F
  case F =>
    intro w mg h KX G
    refine' Pf.txt_mk KX G ?g0 ?g1 ?g2 ?g3 ?g4 ?g5 ?g6 ?g7 ?g8 ?g9 ?g10 ?g11 ?g12 ?g13 ?g14 ?g15 ?g16 ?g17 ?g18 ?g19 ?g20 ?g21 ?g22 ?g23 ?g24 ?g25 ?g26 ?g27 ?g28 ?g29 ?g30 ?g31 ?g32 ?g33 ?g34 ?g35 ?g36 ?g37 ?g38 ?g39 ?g40 ?g41 ?g42 ?g43 ?g44 ?g45 ?g46 ?g47 ?g48 ?g49 ?g50 ?g51 ?g52 ?g53 ?g54 ?g55 ?g56 ?g57 ?g58 ?g59 ?g60 ?g61 ?g62 ?g63 ?g64 ?g65 ?g66 ?g67 ?g68 ?g69 ?g70 ?g71 ?g72 ?g73 ?g74 ?g75 ?g76 ?g77 ?g78 ?g79 ?g80 ?g81 ?g82 ?g83 ?g84 ?g85 ?g86 ?g87 ?g88 ?g89 ?g90 ?g91 ?g92 ?g93 ?g94 ?g95 ?g96 ?g97 ?g98 ?g99 ?g100 ?g101 ?g102 ?g103 ?g104 ?g105 ?g106 ?g107 ?g108 ?g109 ?g110 ?g111 ?g112 ?g113 ?g114 ?g115 ?g116 ?g117 ?g118 ?g119 ?g120 ?g121 ?g122 ?g123 ?g124 ?g125 ?g126 ?g127 ?g128 ?g129 ?g130 ?g131 ?g132 ?g133 ?g134 ?g135 ?g136 ?g137 ?g138 ?g139 ?g140 ?g141 ?g142 ?g143 ?g144 ?g145 ?g146 ?g147 ?g148 ?g149 ?g150 ?g151 ?g152 ?g153 ?g154 ?g155 ?g156 ?g157 ?g158 ?g159 ?g160 ?g161 ?g162 ?g163 ?g164 ?g165 ?g166 ?g167 ?g168 ?g169 ?g170 ?g171 ?g172 ?g173 ?g174 ?g175 ?g176 ?g177 ?g178 ?g179 ?g180 ?g181 ?g182 ?g183 ?g184 ?g185 ?g186 ?g187 ?g188 ?g189 ?g190 ?g191 ?g192 ?g193 ?g194 ?g195 ?g196 ?g197 ?g198 ?g199 ?g200 ?g201 ?g202 ?g203 ?g204
    (case g0 => k_is); (case g1 => k_is); (case g2 => k_is); (case g3 => k_is); (case g4 => k_is); (case g5 => k_is)
    (case g6 => k_is); (case g7 => k_is); (case g8 => k_is); (case g9 => k_is); (case g10 => k_is); (case g11 => k_is)
    (case g12 => k_is); (case g13 => k_is); (case g14 => k_is); (case g15 => k_is); (case g16 => k_is); (case g17 => k_is)
    (case g18 => k_is); (case g19 => k_is); (case g20 => k_is); (case g21 => k_is); (case g22 => k_is); (case g23 => k_is)
    (case g24 => k_is); (case g25 => k_is); (case g26 => k_is); (case g27 => k_is); (case g28 => k_is); (case g29 => k_is)
    (case g30 => k_is); (case g31 => k_is); (case g32 => k_is); (case g33 => k_is); (case g34 => k_is); (case g35 => k_is)
    (case g36 => k_is); (case g37 => k_is); (case g38 => k_is); (case g39 => k_is); (case g40 => k_is); (case g41 => k_is)
    (case g42 => k_is); (case g43 => k_is); (case g44 => k_is); (case g45 => k_is); (case g46 => k_is); (case g47 => k_is)
    (case g48 => k_is); (case g49 => k_is); (case g50 => k_is); (case g51 => k_is); (case g52 => k_is); (case g53 => k_is)
    (case g54 => k_is); (case g55 => k_is); (case g56 => k_is); (case g57 => k_is); (case g58 => k_is); (case g59 => k_is)
    (case g60 => k_is); (case g61 => k_is); (case g62 => k_is); (case g63 => k_is); (case g64 => k_is); (case g65 => k_is)
    (case g66 => k_is); (case g67 => k_is); (case g68 => k_is); (case g69 => k_is); (case g70 => k_is); (case g71 => k_is)
    (case g72 => k_is); (case g73 => k_is); (case g74 => k_is); (case g75 => k_is); (case g76 => k_is); (case g77 => k_is)
    (case g78 => k_is); (case g79 => k_is); (case g80 => k_is); (case g81 => k_is); (case g82 => k_is); (case g83 => k_is)
    (case g84 => k_is); (case g85 => k_is); (case g86 => k_is); (case g87 => k_is); (case g88 => k_is); (case g89 => k_is)
    (case g90 => k_is); (case g91 => k_is); (case g92 => k_is); (case g93 => k_is); (case g94 => k_is); (case g95 => k_is)
    (case g96 => k_is); (case g97 => k_is); (case g98 => k_is); (case g99 => k_is); (case g100 => k_is); (case g101 => k_is)
    (case g102 => k_is); (case g103 => k_is); (case g104 => k_is); (case g105 => k_is); (case g106 => k_is); (case g107 => k_is)
    (case g108 => k_is); (case g109 => k_is); (case g110 => k_is); (case g111 => k_is); (case g112 => k_is); (case g113 => k_is)
    (case g114 => k_is); (case g115 => k_is); (case g116 => k_is); (case g117 => k_is); (case g118 => k_is); (case g119 => k_is)
    (case g120 => k_is); (case g121 => k_is); (case g122 => k_is); (case g123 => k_is); (case g124 => k_is); (case g125 => k_is)
    (case g126 => k_is); (case g127 => k_is); (case g128 => k_is); (case g129 => k_is); (case g130 => k_is); (case g131 => k_is)
    (case g132 => k_is); (case g133 => k_is); (case g134 => k_is); (case g135 => k_is); (case g136 => k_is); (case g137 => k_is)
    (case g138 => k_is); (case g139 => k_is); (case g140 => k_is); (case g141 => k_is); (case g142 => k_is); (case g143 => k_is)
    (case g144 => k_is); (case g145 => k_is); (case g146 => k_is); (case g147 => k_is); (case g148 => k_is); (case g149 => k_is)
    (case g150 => k_is); (case g151 => k_is); (case g152 => k_is); (case g153 => k_is); (case g154 => k_is); (case g155 => k_is)
    (case g156 => k_is); (case g157 => k_is); (case g158 => k_is); (case g159 => k_is); (case g160 => k_is); (case g161 => k_is)
    (case g162 => k_is); (case g163 => k_is); (case g164 => k_is); (case g165 => k_is); (case g166 => k_is); (case g167 => k_is)
    (case g168 => k_is); (case g169 => k_is); (case g170 => k_is); (case g171 => k_is); (case g172 => k_is); (case g173 => k_is)
    (case g174 => k_is); (case g175 => k_is); (case g176 => k_is); (case g177 => k_is); (case g178 => k_is); (case g179 => k_is)
    (case g180 => k_is); (case g181 => k_is); (case g182 => k_is); (case g183 => k_exc); (case g184 => k_is); (case g185 => k_is)
    (case g186 => k_is); (case g187 => k_exc); (case g188 => k_is); (case g189 => k_is); (case g190 => k_is); (case g191 => k_exc)
    (case g192 => k_is); (case g193 => k_is); (case g194 => k_is); (case g195 => k_is); (case g196 => k_is); (case g197 => k_is)
    (case g198 => k_is); (case g199 => k_is); (case g200 => k_is); (case g201 => k_is); (case g202 => k_is); (case g203 => k_is)
    (case g204 => k_is)
