import PyProof.Rows.All
import Wide.All
import OpenK.AllK
import Wide.FinOn
import Lean
import PyProof.EqAt
import PyProof.EqKinds
import PyProof.TupleCall
import PyProof.NeKinds
import PyProof.EnumMake
import PyProof.EnumStmt
import PyProof.LayNew
import KE.KDictLaws
import KE.KDictSum
import KE.LcSums
import PyProof.Rows.SumAny
import PyProof.Rows.SortWalk
import PyProof.DictWalks
import PyProof.Rows.SortRev
import KE.KRevIter
import KE.KIntText
import PyProof.CallStr
import PyProof.StrCalls2
import PyProof.Rows.StrJoin2
import PyProof.StrWalks
import PyProof.Rows.Range3
import PySem.Challenge.RW_frameland_k65_twins
set_option Elab.async false
set_option linter.all false
set_option maxRecDepth 100000
namespace L2
open PySem PySem.Spec PyProof.Rows
abbrev Key := Sum Int Str
def keyIs : Key → Value → Bool
  | .inl k, v => Value.isInt k v
  | .inr x, v => Value.isStrOf x v
def keyH (w : World) : Key → Int
  | .inl k => hashInt k
  | .inr x => hashStr w x
theorem keyIs_shape : ∀ {k : Key} {v : Value}, keyIs k v = true → (∃ i t, k = Sum.inl i ∧ v = Value.int i t) ∨ (∃ x t, k = Sum.inr x ∧ v = Value.str x t)
  | .inl i, v, h => by
    obtain ⟨t, e⟩ := Value.isInt_shape (k := i) (v := v) h
    exact .inl ⟨i, t, rfl, e⟩
  | .inr x, v, h => by
    obtain ⟨t, e⟩ := Value.isStrOf_shape (x := x) (v := v) h
    exact .inr ⟨x, t, rfl, e⟩
theorem keyIs_int (i : Int) (t : Tok) : keyIs (.inl i) (.int i t) = true := by simp [keyIs, Value.isInt]
theorem keyIs_str (x : Str) (t : Tok) : keyIs (.inr x) (.str x t) = true := by simp [keyIs, Value.isStrOf]
theorem key_ll (a b : Int) : decide ((Sum.inl a : Key) = Sum.inl b) = (a == b) := by
  by_cases e : a = b
  · subst e; simp
  · have h : ¬ (Sum.inl a : Key) = Sum.inl b := fun q => e (Sum.inl.inj q)
    rw [decide_eq_false h]
    exact (beq_eq_false_iff_ne.mpr e).symm
theorem key_rr (a b : Str) : decide ((Sum.inr a : Key) = Sum.inr b) = decide (a = b) := by
  by_cases e : a = b
  · subst e; simp
  · have h : ¬ (Sum.inr a : Key) = Sum.inr b := fun q => e (Sum.inr.inj q)
    rw [decide_eq_false h, decide_eq_false e]
theorem key_lr (a : Int) (b : Str) : decide ((Sum.inl a : Key) = Sum.inr b) = false := decide_eq_false (fun q => nomatch q)
theorem key_rl (a : Str) (b : Int) : decide ((Sum.inr a : Key) = Sum.inl b) = false := decide_eq_false (fun q => nomatch q)
def mixKind (prog : Program) (w : World) : PySem.KeyKind prog w Key where
  is := keyIs
  hash := keyH w
  inj := fun v a b ha hb => by
    rcases keyIs_shape ha with ⟨i, t, rfl, rfl⟩ | ⟨x, t, rfl, rfl⟩
    · rcases keyIs_shape hb with ⟨j, u, rfl, e⟩ | ⟨y, u, rfl, e⟩
      · injection e with e1 _; rw [e1]
      · exact nomatch e
    · rcases keyIs_shape hb with ⟨j, u, rfl, e⟩ | ⟨y, u, rfl, e⟩
      · exact nomatch e
      · injection e with e1 _; rw [e1]
  byValue := fun k v h => by
    rcases keyIs_shape h with ⟨i, t, rfl, rfl⟩ | ⟨x, t, rfl, rfl⟩ <;> rfl
  pyHash := fun hv h => by
    rcases keyIs_shape hv with ⟨i, t, rfl, rfl⟩ | ⟨x, t, rfl, rfl⟩
    · exact wpAny_pyHash_int h
    · exact wpAny_pyHash_str h
  eqBool := fun hu hv h => by
    rcases keyIs_shape hu with ⟨i, t, rfl, rfl⟩ | ⟨x, t, rfl, rfl⟩
    · rcases keyIs_shape hv with ⟨j, u, rfl, rfl⟩ | ⟨y, u, rfl, rfl⟩
      · rw [key_ll] at h; exact wpAny_eqBool_int h
      · rw [key_lr] at h; exact SeqAt.EqAt.int_str i t y u _ _ _ _ h
    · rcases keyIs_shape hv with ⟨j, u, rfl, rfl⟩ | ⟨y, u, rfl, rfl⟩
      · rw [key_rl] at h; exact SeqAt.EqAt.str_int x t j u _ _ _ _ h
      · rw [key_rr] at h; exact wpAny_eqBool_str h
  «strs» := fun k x t v h => by
    rcases keyIs_shape h with ⟨i, u, rfl, e⟩ | ⟨y, u, rfl, e⟩
    · exact nomatch e
    · injection e with e1 _
      subst e1
      cases v <;> rfl
theorem mixKind_int (prog : Program) (w : World) (i : Int) (t : Tok) : (mixKind prog w).is (.inl i) (.int i t) = true := keyIs_int i t
theorem mixKind_str (prog : Program) (w : World) (x : Str) (t : Tok) : (mixKind prog w).is (.inr x) (.str x t) = true := keyIs_str x t
end L2
namespace L2
open PySem PySem.Spec PyProof.Rows
inductive V where
  | non | bl (b : Bool) | int (i : Int) | str (x : Str) | byt (b : Array UInt8) | flt (b : UInt64) | ref (a : Addr) | ty (n : String)
  deriving DecidableEq
def RelV : V → Value → Prop
  | .non, u => u = Value.none
  | .bl b, u => u = Value.bool b
  | .int i, u => ∃ t, u = Value.int i t
  | .str x, u => ∃ t, u = Value.str x t
  | .byt b, u => ∃ t, u = Value.bytes b t
  | .flt b, u => ∃ t, u = Value.float b t
  | .ref a, u => u = Value.ref a
  | .ty n, u => u = Value.type n
abbrev Vals : List V → List Value → Prop := Paired RelV
theorem Vals.length {xs : List V} {us : List Value} (r : Vals xs us) : xs.length = us.length := Paired.length r
theorem Vals.get : ∀ {xs : List V} {us : List Value} {i : Nat} {x : V}, Vals xs us → xs[i]? = some x → ∃ u, us[i]? = some u ∧ RelV x u
  | _, _, _, _, .nil, e => by simp at e
  | _, _, 0, _, .cons r _, e => by simp at e; subst e; exact ⟨_, rfl, r⟩
  | _, _, i + 1, x, .cons _ t, e => by
    obtain ⟨u, h1, h2⟩ := Vals.get (i := i) (x := x) t (by simpa using e)
    exact ⟨u, by simpa using h1, h2⟩
theorem Vals.set {x : V} {u : Value} (r : RelV x u) : ∀ {xs : List V} {us : List Value} (i : Nat), Vals xs us → Vals (xs.set i x) (us.set i u)
  | _, _, _, .nil => .nil
  | _, _, 0, .cons _ t => .cons r t
  | _, _, i + 1, .cons q t => .cons q (Vals.set r i t)
theorem Vals.append : ∀ {xs ys : List V} {us ws : List Value}, Vals xs us → Vals ys ws → Vals (xs ++ ys) (us ++ ws)
  | _, _, _, _, .nil, s => s
  | _, _, _, _, .cons r t, s => .cons r (Vals.append t s)
theorem Vals.take : ∀ {xs : List V} {us : List Value} (n : Nat), Vals xs us → Vals (xs.take n) (us.take n)
  | _, _, 0, _ => .nil
  | _, _, _ + 1, .nil => .nil
  | _, _, n + 1, .cons r t => .cons r (Vals.take n t)
theorem Vals.drop : ∀ {xs : List V} {us : List Value} (n : Nat), Vals xs us → Vals (xs.drop n) (us.drop n)
  | _, _, 0, r => r
  | _, _, _ + 1, .nil => .nil
  | _, _, n + 1, .cons _ t => Vals.drop n t
def RelO : Option V → Option Value → Prop
  | some v, some u => RelV v u
  | none, none => True
  | _, _ => False
def KV {κ : Type} : List (κ × V) → List (κ × Value) → Prop := Paired fun (p : κ × V) (q : κ × Value) => p.1 = q.1 ∧ RelV p.2 q.2
def kV : Key → V
  | .inl i => .int i
  | .inr x => .str x
inductive HO where
    | lst (xs : List V)
    | tup (xs : List V)
    | dK (kvs : List (Key × V)) | dT (kvs : List (List Key × V))
    | set (S : Int → Bool) (n : Nat)
    | ins (C dx : Addr) (fs : List (Str × V))
    | own (x : Addr)
    | xd (fs : List (Str × V))
    | met (f x : Addr)
    | rng (lo hi : Int)
    | frz (o : Obj) (u : HO)
    | tbl (ps : Array Value)
    | ext (φ : Heap → Prop)
abbrev Hp := Addr → Option HO
def upd (H : Hp) (a : Addr) (o : HO) : Hp := fun b => if b = a then some o else H b
theorem upd_same {H : Hp} {a : Addr} {o : HO} : upd H a o a = some o := by unfold upd; rw [if_pos rfl]
theorem upd_ne {H : Hp} {a b : Addr} {o : HO} (h : b ≠ a) : upd H a o b = H b := by unfold upd; rw [if_neg h]
theorem upd_upd {H : Hp} {a : Addr} {o u : HO} : upd (upd H a o) a u = upd H a u := by
  funext b; unfold upd; split <;> rfl
theorem ne_of {H : Hp} {a b : Addr} {o u : HO} (h : H a = some o) (h' : H b = some u) (d : o ≠ u) : a ≠ b := by
  intro e; subst e; rw [h] at h'; exact d (Option.some.inj h')
theorem ne_of_none {H : Hp} {a b : Addr} {o : HO} (h : H a = some o) (h' : H b = none) : a ≠ b := by
  intro e; subst e; rw [h] at h'; cases h'
section
variable (P : Program) (w : World)
def ObjOk (H : Hp) (h : Heap) (a : Addr) : HO → Prop
  | .lst xs => xs.length ≤ sizeLine ∧ ∃ (its : List Value) (n : Nat), Vals xs its ∧ h.get? a = some { cls := .type "list", data := .seq its.toArray n }
  | .tup xs => xs.length ≤ sizeLine ∧ ∃ its : List Value, Vals xs its ∧ IsTup h a its.toArray
  | .dK kvs => kvs.length ≤ sizeLine ∧ (a == sysModules) = false ∧ ∃ vs, KV kvs vs ∧ h.DictOf (mixKind P w) a vs
  | .dT kvs => kvs.length ≤ sizeLine ∧ (a == sysModules) = false ∧ ∃ xs : List (List Key × Addr × Value),
      Paired (fun (p : List Key × V) (q : List Key × Addr × Value) => p.1 = q.1 ∧ H q.2.1 = some (.tup (p.1.map kV)) ∧ RelV p.2 q.2.2) kvs xs ∧
      ∃ o es ep, h.get? a = some o ∧ o.ExactDict ∧ o.data = .dict es ep ∧ es.toList = xs.map (entryOfKey (tupleKind (mixKind P w))) ∧ (xs.map (·.1)).Nodup
  | .set S n => h.SetOf (intKind P w) a S n
  | .ins C dx fs => H dx = some (.own a) ∧ fs.length ≤ 1000 ∧ dx ≠ a ∧ h.get? a = some (PySem.W.instObj C dx) ∧
      ∃ mA, h.Ns1 dx mA ∧ (∀ f, RelO (fs.lookup f) (mA f)) ∧ PySem.Within mA (fs.map (·.1))
  | .own _ => ∃ o, h.get? a = some o
  | .xd fs => ∃ mA, h.Ns1 a mA ∧ ∀ f, RelO (fs.lookup f) (mA f)
  | .rng lo hi => ∃ t u v, h.get? a = some { cls := .type "range", data := .fields #[.int lo t, .int hi u, .int 1 v] }
  | .frz o u => h.get? a = some o ∧ ObjOk H h a u
  | .tbl ps => h.get? a = some { cls := .none, data := .fields ps }
  | .met f x => h.get? a = some (PySem.W.methodObj (.ref f) (.ref x))
  | .ext φ => φ h ∧ (∃ o, h.get? a = some o) ∧ ∀ h1 h2 : Heap, φ h1 → (∀ o, h1.get? a = some o → h2.get? a = some o) → φ h2
def HOk (H : Hp) (h : Heap) : Prop := ∀ a o, H a = some o → ObjOk P w H h a o
end
section
variable {P : Program} {w : World} {H H' : Hp} {h h' : Heap} {a : Addr} {o : HO}
theorem ObjOk.lt (x : ObjOk P w H h a o) : a < h.objs.size := by
  cases o with
  | lst xs => obtain ⟨_, _, _, _, e⟩ := x; exact Heap.lt_size e
  | tup xs => obtain ⟨_, _, _, p⟩ := x; exact p.lt
  | dK kvs => obtain ⟨_, _, _, _, o, _, _, e, _⟩ := x; exact Heap.lt_size e
  | dT kvs => obtain ⟨_, _, _, _, o, _, _, e, _⟩ := x; exact Heap.lt_size e
  | set S n => obtain ⟨o, _, _, _, e, _⟩ := x; exact Heap.lt_size e
  | ins C dx fs => obtain ⟨_, _, _, e, _⟩ := x; exact Heap.lt_size e
  | own y => obtain ⟨_, e⟩ := x; exact Heap.lt_size e
  | xd fs => obtain ⟨_, ⟨_, _, _, e, _⟩, _⟩ := x; exact Heap.lt_size e
  | rng lo hi => obtain ⟨_, _, _, e⟩ := x; exact Heap.lt_size e
  | frz ob u => obtain ⟨e, _⟩ := x; exact Heap.lt_size e
  | tbl ps => exact Heap.lt_size (show h.get? a = some _ from x)
  | met f y => exact Heap.lt_size (show h.get? a = some _ from x)
  | ext φ => obtain ⟨_, ⟨_, e⟩, _⟩ := x; exact Heap.lt_size e
theorem Paired.mapP {α β : Type} {F G : α → β → Prop} : ∀ {l₁ : List α} {l₂ : List β}, Paired F l₁ l₂ → (∀ a b, F a b → G a b) → Paired G l₁ l₂
  | _, _, .nil, _ => .nil
  | _, _, .cons r t, f => .cons (f _ _ r) (Paired.mapP t f)
theorem ObjOk.stay (x : ObjOk P w H h a o) (k : ∀ b u, (b = a ∨ H b = some (.own a)) → h.get? b = some u → h'.get? b = some u)
    (ho : ∀ b, H b = some (.own a) → H' b = some (.own a)) (ht : ∀ b xs, H b = some (.tup xs) → H' b = some (.tup xs)) : ObjOk P w H' h' a o := by
  induction o with
  | lst xs => obtain ⟨z, its, n, r, e⟩ := x; exact ⟨z, its, n, r, k _ _ (.inl rfl) e⟩
  | tup xs => obtain ⟨z, its, r, ob, e, c⟩ := x; exact ⟨z, its, r, ob, k _ _ (.inl rfl) e, c⟩
  | dK kvs => obtain ⟨z, y, vs, r, ob, es, ep, e, c⟩ := x; exact ⟨z, y, vs, r, ob, es, ep, k _ _ (.inl rfl) e, c⟩
  | dT kvs =>
    obtain ⟨z, y, xs, r, ob, es, ep, e, c⟩ := x
    exact ⟨z, y, xs, Paired.mapP r fun p q z => ⟨z.1, ht _ _ z.2.1, z.2.2⟩, ob, es, ep, k _ _ (.inl rfl) e, c⟩
  | set S n => obtain ⟨ob, es, ep, t, e, c⟩ := x; exact ⟨ob, es, ep, t, k _ _ (.inl rfl) e, c⟩
  | ins C dx fs =>
    obtain ⟨d, z, ne, e, mA, ⟨od, es, ep, e2, c⟩, r⟩ := x
    exact ⟨ho _ d, z, ne, k _ _ (.inl rfl) e, mA, ⟨od, es, ep, k _ _ (.inr d) e2, c⟩, r⟩
  | own y => obtain ⟨ob, e⟩ := x; exact ⟨ob, k _ _ (.inl rfl) e⟩
  | xd fs => obtain ⟨mA, ⟨od, es, ep, e, c⟩, r⟩ := x; exact ⟨mA, ⟨od, es, ep, k _ _ (.inl rfl) e, c⟩, r⟩
  | rng lo hi => obtain ⟨t, u, v, e⟩ := x; exact ⟨t, u, v, k _ _ (.inl rfl) e⟩
  | frz ob u ih => obtain ⟨e, q⟩ := x; exact ⟨k _ _ (.inl rfl) e, ih q⟩
  | tbl ps =>
    have e : h.get? a = some { cls := .none, data := .fields ps } := x
    show h'.get? a = some { cls := .none, data := .fields ps }
    exact k a _ (.inl rfl) e
  | met f y =>
    have e : h.get? a = some (PySem.W.methodObj (.ref f) (.ref y)) := x
    show h'.get? a = some (PySem.W.methodObj (.ref f) (.ref y))
    exact k a _ (.inl rfl) e
  | ext φ => obtain ⟨p, ⟨o, e⟩, st⟩ := x; exact ⟨st _ _ p fun o q => k _ _ (.inl rfl) q, ⟨o, k _ _ (.inl rfl) e⟩, st⟩
theorem HOk.lt (x : HOk P w H h) (e : H a = some o) : a < h.objs.size := (x a o e).lt
theorem HOk.fresh (x : HOk P w H h) (e : h.objs.size ≤ a) : H a = none := by
  cases q : H a with
  | none => rfl
  | some u => exact absurd (Nat.lt_of_lt_of_le (x.lt q) e) (Nat.lt_irrefl _)
theorem HOk.kept (x : HOk P w H h) (k : ∀ b u, h.get? b = some u → h'.get? b = some u) : HOk P w H h' := fun a o e =>
  (x a o e).stay (fun b u _ q => k b u q) (fun _ q => q) fun _ _ q => q
theorem HOk.laid (x : HOk P w H h) (k : ∀ b u, h.get? b = some u → h'.get? b = some u) (hp : h.objs.size ≤ a) (new : ObjOk P w (upd H a o) h' a o) : HOk P w (upd H a o) h' := fun b u e => by
  have hn := x.fresh hp
  by_cases hb : b = a
  · subst hb; rw [upd_same] at e; cases e; exact new
  · rw [upd_ne hb] at e
    exact (x b u e).stay (fun c v _ q => k c v q) (fun c q => by rw [upd_ne (ne_of_none q hn)]; exact q) fun c xs q => by rw [upd_ne (ne_of_none q hn)]; exact q
end
def Rd (H : Hp) (a : Addr) (u : HO) : Prop := H a = some u ∨ ∃ o, H a = some (.frz o u)
theorem Rd.of {H : Hp} {a : Addr} {u : HO} (h : H a = some u) : Rd H a u := .inl h
theorem Rd.ok {P : Program} {w : World} {H : Hp} {h : Heap} {a : Addr} {u : HO} (r : Rd H a u) (x : HOk P w H h) : ObjOk P w H h a u := by
  rcases r with r | ⟨o, r⟩
  · exact x a u r
  · obtain ⟨_, q⟩ := x a _ r
    exact q
def Mut : Option HO → Prop
  | some (.lst _) => True
  | some (.dK _) => True
  | some (.dT _) => True
  | some (.set _ _) => True
  | some (.ins _ _ _) => True
  | some (.ext _) => True
  | _ => False
section
variable {P : Program} {w : World} {H : Hp} {h h' : Heap} {x e : Addr} {o' : HO}
theorem HOk.write (ok : HOk P w H h) (mu : Mut (H x)) (he : e = x ∨ H e = some (.own x)) (k : ∀ b u, b ≠ e → h.get? b = some u → h'.get? b = some u) (heo : ∃ u, h'.get? e = some u)
    (new : ObjOk P w (upd H x o') h' x o') : HOk P w (upd H x o') h' := fun b u q => by
  have nown : ∀ c y, H c = some (.own y) → c ≠ x := fun c y r z => by subst z; rw [r] at mu; exact mu
  have ntup : ∀ c xs, H c = some (.tup xs) → c ≠ x := fun c xs r z => by subst z; rw [r] at mu; exact mu
  by_cases hb : b = x
  · subst hb; rw [upd_same] at q; cases q; exact new
  · rw [upd_ne hb] at q
    by_cases hbe : b = e
    · have q' : H b = some (.own x) := by
        rcases he with z | z
        · exact absurd (hbe.trans z) hb
        · rw [hbe]; exact z
      rw [q] at q'; cases q'
      obtain ⟨v, hv⟩ := heo
      exact ⟨v, by rw [hbe]; exact hv⟩
    · refine (ok b u q).stay (fun c v hc r => k c v ?_ r) (fun c r => by rw [upd_ne (nown c b r)]; exact r) fun c xs r => by rw [upd_ne (ntup c xs r)]; exact r
      rcases hc with rfl | hc
      · exact hbe
      · rintro rfl
        rcases he with z | z
        · exact nown c b hc z
        · rw [hc] at z; cases z; exact hb rfl
end
structure Un (fs ex : List Addr) (H H' : Hp) (h h' : Heap) : Prop where
  keep : ∀ b o, h.get? b = some o → H b = none → b ∉ fs → b ∉ ex → h'.get? b = some o
  slot : ∀ b o, h.get? b = some o → H b = none → b ∈ fs → b ∉ ex → ∃ sl, h'.get? b = some { o with slots := sl }
  free : ∀ b o, h.get? b = some o → H b = none → b ∉ ex → H' b = none
  there : ∀ b o, h.get? b = some o → b ∉ ex → ∃ o', h'.get? b = some o'
  tups : ∀ b xs, H b = some (.tup xs) → H' b = some (.tup xs)
  frzs : ∀ b o u, H b = some (.frz o u) → H' b = some (.frz o u)
  tbls : ∀ b ps, H b = some (.tbl ps) → ∃ more, H' b = some (.tbl (ps ++ more))
section
variable {fs fs' ex ex' : List Addr} {H H1 H2 : Hp} {h h1 h2 h' : Heap} {a x e : Addr} {o : HO}
theorem Un.any (u : Un fs ex H H1 h h1) {b : Addr} {ob : Obj} (q : h.get? b = some ob) (n : H b = none) (hx : b ∉ ex) : ∃ sl, h1.get? b = some { ob with slots := sl } := by
  by_cases hb : b ∈ fs
  · exact u.slot b ob q n hb hx
  · exact ⟨ob.slots, u.keep b ob q n hb hx⟩
theorem Un.trans (a : Un fs ex H H1 h h1) (b : Un fs ex H1 H2 h1 h2) : Un fs ex H H2 h h2 where
  keep := fun c ob q n hc hx => b.keep c ob (a.keep c ob q n hc hx) (a.free c ob q n hx) hc hx
  slot := fun c ob q n hc hx => by
    obtain ⟨sl, e1⟩ := a.slot c ob q n hc hx
    obtain ⟨sl', e2⟩ := b.slot c _ e1 (a.free c ob q n hx) hc hx
    exact ⟨sl', e2⟩
  free := fun c ob q n hx => by
    obtain ⟨o', e1⟩ := a.there c ob q hx
    exact b.free c o' e1 (a.free c ob q n hx) hx
  there := fun c ob q hx => by
    obtain ⟨o', e1⟩ := a.there c ob q hx
    exact b.there c o' e1 hx
  tups := fun c xs q => b.tups c xs (a.tups c xs q)
  frzs := fun c ob xs q => b.frzs c ob xs (a.frzs c ob xs q)
  tbls := fun c ps q => by
    obtain ⟨m1, e1⟩ := a.tbls c ps q
    obtain ⟨m2, e2⟩ := b.tbls c _ e1
    exact ⟨m1 ++ m2, by rw [e2, Array.append_assoc]⟩
theorem Un.kept (k : ∀ b u, h.get? b = some u → h'.get? b = some u) : Un fs ex H H h h' :=
  ⟨fun b ob q _ _ _ => k b ob q, fun b ob q _ _ _ => ⟨ob.slots, k b ob q⟩, fun _ _ _ n _ => n, fun b ob q _ => ⟨ob, k b ob q⟩, fun _ _ q => q, fun _ _ _ q => q, fun _ ps q => ⟨#[], by rw [q]; simp⟩⟩
theorem Un.refl : Un fs ex H H h h := Un.kept fun _ _ q => q
theorem Un.laid (k : ∀ b u, h.get? b = some u → h'.get? b = some u) (hp : h.objs.size ≤ a) (hn : H a = none) : Un fs ex H (upd H a o) h h' where
  keep := fun b u q _ _ _ => k b u q
  slot := fun b u q _ _ _ => ⟨u.slots, k b u q⟩
  free := fun b u q n _ => by rw [upd_ne (Nat.ne_of_lt (Nat.lt_of_lt_of_le (Heap.lt_size q) hp))]; exact n
  there := fun b u q _ => ⟨u, k b u q⟩
  tups := fun b xs q => by rw [upd_ne (ne_of_none q hn)]; exact q
  frzs := fun b u xs q => by rw [upd_ne (ne_of_none q hn)]; exact q
  tbls := fun b ps q => ⟨#[], by rw [upd_ne (ne_of_none q hn), q]; simp⟩
theorem Un.write (mu : Mut (H x)) (he : e = x ∨ H e = some (.own x)) (k : ∀ b u, b ≠ e → h.get? b = some u → h'.get? b = some u) (heo : ∃ u, h'.get? e = some u) : Un fs ex H (upd H x o) h h' := by
  have hx : ∀ b, H b = none → b ≠ x := fun b n z => by subst z; rw [n] at mu; exact mu
  have hb : ∀ b, H b = none → b ≠ e := fun b n z => by
    subst z
    rcases he with r | r
    · exact hx b n r
    · rw [n] at r; cases r
  have hm : ∀ b u, H b = some u → ¬ Mut (some u) → b ≠ x := fun b u q nm z => by subst z; rw [q] at mu; exact nm mu
  refine ⟨fun b u q n _ _ => k b u (hb b n) q, fun b u q n _ _ => ⟨u.slots, k b u (hb b n) q⟩, fun b u q n _ => by rw [upd_ne (hx b n)]; exact n, fun b u q _ => ?_,
    fun b xs q => by rw [upd_ne (hm b _ q fun z => z)]; exact q, fun b u xs q => by rw [upd_ne (hm b _ q fun z => z)]; exact q, fun b ps q => ⟨#[], by rw [upd_ne (hm b _ q fun z => z), q]; simp⟩⟩
  by_cases hbe : b = e
  · subst hbe; exact heo
  · exact ⟨u, k b u hbe q⟩
end
def trk (h : Heap) (H : Hp) : List Addr := (List.range h.objs.size).filter fun a => (H a).isSome
def hidT (h : Heap) (H : Hp) : Heap := PySem.W.hideAll h (trk h H)
theorem hidT_size (h : Heap) (H : Hp) : (hidT h H).objs.size = h.objs.size := PySem.W.hideAll_size _ _
theorem hidT_get {h : Heap} {H : Hp} {b : Addr} {o : Obj} (e : h.get? b = some o) (n : H b = none) : (hidT h H).get? b = some o :=
  PySem.W.hideAll_get _ e fun hm => by
    have q : (H b).isSome = true := (List.mem_filter.mp hm).2
    rw [n] at q; simp at q
theorem of_hidT {h : Heap} {H : Hp} {b : Addr} {o : Obj} (e : (hidT h H).get? b = some o) : h.get? b = some o ∧ H b = none := by
  have e' : h.get? b = some o := PySem.W.of_hideAll (trk h H) e
  refine ⟨e', ?_⟩
  cases q : H b with
  | none => rfl
  | some x =>
    have hm : b ∈ trk h H := List.mem_filter.mpr ⟨List.mem_range.mpr (Heap.lt_size e'), by simp [q]⟩
    have z : (hidT h H).get? b = none := PySem.W.hideAll_none (trk h H) hm
    rw [z] at e; cases e
def allNews (g h : Heap) (L : Addr) : List (Addr × Obj) := (List.range h.objs.size).filterMap fun a => if a = L ∨ (g.get? a).isSome = true then none else (h.get? a).map fun o => (a, o)
def rest (g h : Heap) (L d : Addr) : List (Addr × Obj) := (allNews g h L).filter fun p => decide (p.1 ≠ d)
end L2
namespace L2
open PySem PySem.Spec PyProof.Rows
structure Mod (K : PySem.W.Frag) (mg : Str → Option Value) (base : Heap) : Prop where
  kin : K.In base
  glob : base.Ns mainGlobals mg
  blt : ∃ mb, base.Ns builtinsNs mb ∧ ∀ x : Str, x ≠ "__name__" → mb x = bootBuiltins x
  nolimit : base.NoLimit
structure Cx where
  prog : Program
  w : World
  K : PySem.W.Frag
  mg : Str → Option Value
  base : Heap
  A : Around
  N : List Str
  s₀ : Shared
  H₀ : Hp
  env : Env
  outer : List Env
  stack : List Env
  ex : List Addr
  fn : Str → Bool
  calm : Bool
  pn : List (Addr × Obj)
  xe : Value → Shared → Prop
def frs (l : List Env) : List Addr := l.filterMap (·.frame)
abbrev Cx.fs (X : Cx) : List Addr := frs X.outer
def Vis (sc : Scope) (x : Str) : Prop := sc.names.lookup x = some .local ∨ sc.names.lookup x = some .cell ∨ sc.names.lookup x = some .free
def Loc (sc : Scope) (x : Str) : Prop := sc.names.lookup x = some .local ∨ sc.names.lookup x = some .cell
def Look (env : Env) (h : Heap) (m : Str → Option Value) (x : Str) (u : Value) : Prop :=
  (env.kindOf x = some .local ∧ m x = some u) ∨ ((env.kindOf x = some .cell ∨ env.kindOf x = some .free) ∧ ∃ c, env.cells.lookup x = some c ∧ h.IsCell c (some u))
structure Cx.Ok (X : Cx) : Prop where
  mod : Mod X.K X.mg X.base
  kind : X.env.scope.kind = .function
  glob : X.env.globals = mainGlobals
  blt : X.env.builtins = builtinsNs
  above : X.s₀.heap.objs.size ≤ X.env.locals
  inj : ∀ x y c, X.env.cells.lookup x = some c → X.env.cells.lookup y = some c → x = y
  has : ∀ x, (X.env.kindOf x = some .cell ∨ X.env.kindOf x = some .free) → ∃ c, X.env.cells.lookup x = some c
  cab : ∀ x c, X.fn x = true → X.env.cells.lookup x = some c → X.s₀.heap.objs.size ≤ c
  hd : X.calm = true → X.A.handled = none
  frames : X.A.frames = some X.stack
  stk : X.stack = X.outer ∨ (X.stack = X.env :: X.outer ∧ X.env.frame = some X.env.locals)
  exf : ∀ b ∈ X.ex, b ≠ X.env.locals ∧ ∀ x c, X.env.cells.lookup x = some c → c ≠ b
  bs : ∀ b o, X.base.get? b = some o → X.s₀.heap.get? b = some o ∧ X.H₀ b = none
  bsz : X.base.objs.size ≤ X.s₀.heap.objs.size
  noex : ∀ b o, X.base.get? b = some o → b ∉ X.ex
  exfs : ∀ b ∈ X.ex, b ∉ X.fs
  funs : X.s₀.heap.FunFrames X.base X.outer
  frf : ∀ b ∈ X.fs, X.H₀ b = none
structure Inv (X : Cx) (pins : List (Addr × Obj)) (σ : List (Option V)) (H : Hp) (s : Shared) : Prop where
  ok : X.Ok
  os : s.os = X.s₀.os
  bare : AllBare s.gens
  base : Un X.fs X.ex X.H₀ H X.s₀.heap s.heap
  loc : ∃ m, s.heap.Ns X.env.locals m ∧ ∀ (i : Nat) (x : Str) (v : V), X.N[i]? = some x → σ[i]? = some (some v) → Vis X.env.scope x → ∃ u, RelV v u ∧ Look X.env s.heap m x u
  cell : ∀ x c, X.env.cells.lookup x = some c → ∃ v, s.heap.IsCell c v
  free : H X.env.locals = none
  freeC : ∀ x c, X.env.cells.lookup x = some c → H c = none
  pin : ∀ p ∈ X.pn ++ pins, s.heap.get? p.1 = some p.2 ∧ H p.1 = none ∧ p.1 ≠ X.env.locals ∧ p.1 ∉ X.fs ∧ ∀ v, p.2.data ≠ .cell v
  hok : HOk X.prog X.w H s.heap
  len : σ.length = X.N.length
section
variable {X : Cx} {pins : List (Addr × Obj)} {σ : List (Option V)} {H H' : Hp} {s : Shared} {h' : Heap}
theorem Cx.Ok.nofr (ok : X.Ok) {b : Addr} {o : Obj} (e : X.base.get? b = some o) : b ∉ X.fs := fun hb => by
  have := (ok.funs.mem hb).1
  rw [e] at this; cases this
theorem Inv.bs (I : Inv X pins σ H s) : ∀ b o, X.base.get? b = some o → s.heap.get? b = some o ∧ H b = none := fun b o e =>
  ⟨I.base.keep b o (I.ok.bs b o e).1 (I.ok.bs b o e).2 (I.ok.nofr e) (I.ok.noex b o e), I.base.free b o (I.ok.bs b o e).1 (I.ok.bs b o e).2 (I.ok.noex b o e)⟩
theorem Inv.bk (I : Inv X pins σ H s) : ∀ b o, X.base.get? b = some o → s.heap.get? b = some o := fun b o e => (I.bs b o e).1
theorem Inv.mod (I : Inv X pins σ H s) : Mod X.K X.mg X.base := I.ok.mod
theorem Inv.kIn (I : Inv X pins σ H s) : X.K.In s.heap := I.ok.mod.kin.keeps I.bk
theorem Inv.lt (I : Inv X pins σ H s) : X.env.locals < s.heap.objs.size := let ⟨_, hn, _⟩ := I.loc; hn.lt
theorem Inv.sz (I : Inv X pins σ H s) : X.s₀.heap.objs.size ≤ s.heap.objs.size := Nat.le_trans I.ok.above (Nat.le_of_lt I.lt)
theorem Inv.nofs (I : Inv X pins σ H s) {a : Addr} (h : s.heap.objs.size ≤ a) : a ∉ X.fs := fun hb => by
  obtain ⟨_, o, ho, _⟩ := I.ok.funs.mem hb
  exact absurd (Nat.lt_of_lt_of_le (Heap.lt_size ho) (Nat.le_trans I.sz h)) (Nat.lt_irrefl _)
theorem Inv.cne (I : Inv X pins σ H s) : ∀ x c, X.env.cells.lookup x = some c → c ≠ X.env.locals := fun x c e z => by
  obtain ⟨v, o, ho, hd⟩ := I.cell x c e
  obtain ⟨m, ⟨o', es, ep, ho', hd', _⟩, _⟩ := I.loc
  rw [z, ho'] at ho; cases ho; rw [hd'] at hd; cases hd
theorem Inv.funs (I : Inv X pins σ H s) : s.heap.FunFrames X.base X.outer := by
  have all : ∀ (l : List Env), (∀ b ∈ frs l, b ∈ X.fs) → X.s₀.heap.FunFrames X.base l → s.heap.FunFrames X.base l := by
    intro l
    induction l with
    | nil => intro _ _; trivial
    | cons env r ih =>
      intro hs hl
      obtain ⟨hk, ⟨L, o, hf, hn, ho, hd⟩, hr⟩ := hl
      have hL : L ∈ X.fs := hs L (by unfold frs; rw [List.filterMap_cons, hf]; exact List.mem_cons_self)
      obtain ⟨sl, e⟩ := I.base.slot L o ho (I.ok.frf L hL) hL fun z => I.ok.exfs L z hL
      exact ⟨hk, ⟨L, _, hf, hn, e, hd⟩, ih (fun b hb => hs b (by unfold frs; rw [List.filterMap_cons, hf]; exact List.mem_cons_of_mem _ hb)) hr⟩
  exact all X.outer (fun _ hb => hb) I.ok.funs
theorem Inv.stack (I : Inv X pins σ H s) : s.heap.FunFrames X.base X.stack := by
  rcases I.ok.stk with e | ⟨e, hf⟩
  · rw [e]; exact I.funs
  · rw [e]
    obtain ⟨m, hn, _⟩ := I.loc
    refine .cons (by rw [I.ok.kind]; decide) hf hn ?_ I.funs
    exact Heap.get?_none_of_le (Nat.le_trans I.ok.bsz I.ok.above)
theorem Inv.stkSub (I : Inv X pins σ H s) : ∀ b ∈ frs X.stack, b ∈ X.env.locals :: X.fs := fun b hb => by
  rcases I.ok.stk with e | ⟨e, hf⟩
  · rw [e] at hb; exact List.mem_cons_of_mem _ hb
  · rw [e] at hb
    unfold frs at hb
    rw [List.filterMap_cons, hf] at hb
    exact hb
theorem Inv.stkFree (I : Inv X pins σ H s) : ∀ b ∈ frs X.stack, H b = none := fun b hb => by
  rcases List.mem_cons.mp (I.stkSub b hb) with e | hb
  · rw [e]; exact I.free
  · obtain ⟨_, o, ho, _⟩ := I.ok.funs.mem hb
    exact I.base.free b o ho (I.ok.frf b hb) fun z => I.ok.exfs b z hb
theorem Inv.step {g' : Array GenState} {t' : Nat} {d' : Drawn} {ch : List Addr} (I : Inv X pins σ H s)
    (hch : ∀ b ∈ ch, (b ∈ X.ex ∨ X.s₀.heap.objs.size ≤ b) ∧ b ≠ X.env.locals ∧ (∀ x c, X.env.cells.lookup x = some c → c ≠ b) ∧ ∀ p ∈ X.pn ++ pins, p.1 ≠ b)
    (keep : ∀ b o, b ≠ X.env.locals → b ∉ X.fs → b ∉ ch → s.heap.get? b = some o → H b = none → h'.get? b = some o)
    (slot : ∀ b o, b ≠ X.env.locals → b ∈ X.fs → b ∉ ch → s.heap.get? b = some o → H b = none → ∃ sl, h'.get? b = some { o with slots := sl }) (free : ∀ b o, b ∉ ch → s.heap.get? b = some o → H b = none → H' b = none)
    (there : ∀ b o, b ∉ ch → s.heap.get? b = some o → ∃ o', h'.get? b = some o')
    (tups : ∀ b xs, H b = some (.tup xs) → H' b = some (.tup xs)) (frzs : ∀ b o u, H b = some (.frz o u) → H' b = some (.frz o u)) (tbls : ∀ b ps, H b = some (.tbl ps) → ∃ more, H' b = some (.tbl (ps ++ more)))
    (ns : ∀ m, s.heap.Ns X.env.locals m → h'.Ns X.env.locals m) (hok : HOk X.prog X.w H' h') (hg : AllBare g') :
    Inv X pins σ H' { s with heap := h', gens := g', drawn := d', toks := t' } := by
  have neL : ∀ b o, X.s₀.heap.get? b = some o → b ≠ X.env.locals := fun b o e => Nat.ne_of_lt (Nat.lt_of_lt_of_le (Heap.lt_size e) I.ok.above)
  have neC : ∀ b o, X.s₀.heap.get? b = some o → b ∉ X.ex → b ∉ ch := fun b o e hx hb => by
    rcases (hch b hb).1 with z | z
    · exact hx z
    · exact absurd (Nat.lt_of_lt_of_le (Heap.lt_size e) z) (Nat.lt_irrefl _)
  have cellK : ∀ x c, X.env.cells.lookup x = some c → ∀ v, s.heap.IsCell c v → h'.IsCell c v := fun x c e v ⟨o, ho, hd⟩ => by
    have nch : c ∉ ch := fun z => (hch c z).2.2.1 x c e rfl
    by_cases hc : c ∈ X.fs
    · obtain ⟨sl, q⟩ := slot c o (I.cne x c e) hc nch ho (I.freeC x c e)
      exact ⟨_, q, hd⟩
    · exact ⟨o, keep c o (I.cne x c e) hc nch ho (I.freeC x c e), hd⟩
  refine ⟨I.ok, I.os, hg, ⟨fun b o e n hb hx => ?_, fun b o e n hb hx => ?_, fun b o e n hx => ?_, fun b o e hx => ?_, fun b xs e => tups b xs (I.base.tups b xs e), fun b o xs e => frzs b o xs (I.base.frzs b o xs e), fun b ps e => ?_⟩, ?_, fun x c e => ?_, ?_, fun x c e => ?_, fun p hp => ?_, hok, I.len⟩
  · exact keep b o (neL b o e) hb (neC b o e hx) (I.base.keep b o e n hb hx) (I.base.free b o e n hx)
  · obtain ⟨sl, e1⟩ := I.base.slot b o e n hb hx
    obtain ⟨sl', e2⟩ := slot b _ (neL b o e) hb (neC b o e hx) e1 (I.base.free b o e n hx)
    exact ⟨sl', e2⟩
  · obtain ⟨o', e1⟩ := I.base.there b o e hx
    exact free b o' (neC b o e hx) e1 (I.base.free b o e n hx)
  · obtain ⟨o', e1⟩ := I.base.there b o e hx
    exact there b o' (neC b o e hx) e1
  · obtain ⟨m1, e1⟩ := I.base.tbls b ps e
    obtain ⟨m2, e2⟩ := tbls b _ e1
    exact ⟨m1 ++ m2, by rw [e2, Array.append_assoc]⟩
  · obtain ⟨m, hn, hl⟩ := I.loc
    refine ⟨m, ns m hn, fun i x v e1 e2 e3 => ?_⟩
    obtain ⟨u, r, l⟩ := hl i x v e1 e2 e3
    refine ⟨u, r, ?_⟩
    rcases l with l | ⟨k, c, e, z⟩
    · exact .inl l
    · exact .inr ⟨k, c, e, cellK x c e _ z⟩
  · obtain ⟨v, z⟩ := I.cell x c e
    exact ⟨v, cellK x c e v z⟩
  · obtain ⟨m, ⟨o, _, _, ho, _⟩, _⟩ := I.loc
    exact free _ o (fun z => (hch _ z).2.1 rfl) ho I.free
  · obtain ⟨v, o, ho, hd⟩ := I.cell x c e
    exact free c o (fun z => (hch c z).2.2.1 x c e rfl) ho (I.freeC x c e)
  · obtain ⟨e, n, ne, nf, d⟩ := I.pin p hp
    have nch : p.1 ∉ ch := fun z => (hch p.1 z).2.2.2 p hp rfl
    exact ⟨keep p.1 p.2 ne nf nch e n, free p.1 p.2 nch e n, ne, nf, d⟩
theorem Inv.un {t' : Nat} (I : Inv X pins σ H s) (u : Un X.fs [] H H' s.heap h') (hok : HOk X.prog X.w H' h') : Inv X pins σ H' { s with heap := h', toks := t' } := by
  obtain ⟨m, ⟨o, es, ep, ho, r⟩, _⟩ := id I.loc
  obtain ⟨sl, hL⟩ := u.any ho I.free (by simp)
  exact I.step (g' := s.gens) (d' := s.drawn) (ch := []) (fun _ z => nomatch z) (fun b o _ hb _ e n => u.keep b o e n hb (by simp)) (fun b o _ hb _ e n => u.slot b o e n hb (by simp)) (fun b o _ e n => u.free b o e n (by simp)) (fun b o _ e => u.there b o e (by simp)) u.tups u.frzs u.tbls (fun m' hm => by
    obtain ⟨o', es', ep', ho', r'⟩ := hm
    rw [ho] at ho'; cases ho'
    exact ⟨_, es', ep', hL, r'⟩) hok I.bare
theorem Inv.call {g' : Array GenState} {t' : Nat} {d' : Drawn} {ch : List Addr} (I : Inv X pins σ H s) (u : Un (frs X.stack) ch H H' s.heap h') (hok : HOk X.prog X.w H' h') (hg : AllBare g')
    (hch : ∀ b ∈ ch, (b ∈ X.ex ∨ X.s₀.heap.objs.size ≤ b) ∧ b ≠ X.env.locals ∧ (∀ x c, X.env.cells.lookup x = some c → c ≠ b) ∧ ∀ p ∈ X.pn ++ pins, p.1 ≠ b) :
    Inv X pins σ H' { s with heap := h', gens := g', drawn := d', toks := t' } := by
  obtain ⟨m, ⟨o, es, ep, ho, r⟩, _⟩ := id I.loc
  obtain ⟨sl, hL⟩ := u.any ho I.free fun z => (hch _ z).2.1 rfl
  exact I.step (ch := ch) hch (fun b o hL hb hc e n => u.keep b o e n (fun z => (List.mem_cons.mp (I.stkSub b z)).elim hL hb) hc) (fun b o _ _ hc e n => u.any e n hc) (fun b o hc e n => u.free b o e n hc) (fun b o hc e => u.there b o e hc) u.tups u.frzs u.tbls (fun m' hm => by
    obtain ⟨o', es', ep', ho', r'⟩ := hm
    rw [ho] at ho'; cases ho'
    exact ⟨_, es', ep', hL, r'⟩) hok hg
theorem Inv.turned {t' : Nat} {it : Addr} (I : Inv X pins σ H s) (k : ∀ b o, b ≠ it → s.heap.get? b = some o → h'.get? b = some o) (hn : H it = none) (hL : it ≠ X.env.locals)
    (h1 : it ∈ X.ex ∨ X.s₀.heap.objs.size ≤ it) (h2 : ∀ x c, X.env.cells.lookup x = some c → c ≠ it) (h3 : ∀ p ∈ X.pn ++ pins, p.1 ≠ it) : Inv X pins σ H { s with heap := h', toks := t' } := by
  have nit : ∀ b u, H b = some u → b ≠ it := fun b u e z => by rw [z, hn] at e; cases e
  refine I.step (g' := s.gens) (d' := s.drawn) (ch := [it]) (fun b hb => ?_) (fun b o _ _ hc e _ => k b o (fun z => hc (by simp [z])) e) (fun b o _ _ hc e _ => ⟨o.slots, k b o (fun z => hc (by simp [z])) e⟩) (fun _ _ _ _ n => n)
    (fun b o hc e => ⟨o, k b o (fun z => hc (by simp [z])) e⟩) (fun _ _ e => e) (fun _ _ _ e => e) (fun b ps e => ⟨#[], by rw [e]; simp⟩) (fun m hm => ?_) (fun b u e => ?_) I.bare
  · have e : b = it := by simpa using hb
    subst e
    exact ⟨h1, hL, h2, h3⟩
  · obtain ⟨o, es, ep, ho, r⟩ := hm
    exact ⟨o, es, ep, k _ o (Ne.symm hL) ho, r⟩
  · refine (I.hok b u e).stay (fun c v hc q => k c v ?_ q) (fun _ q => q) fun _ _ q => q
    rcases hc with z | z
    · rw [z]; exact nit b u e
    · exact nit c _ z
theorem Inv.tok (I : Inv X pins σ H s) (t : Nat) : Inv X pins σ H { s with toks := t } := I.un (h' := s.heap) (t' := t) Un.refl I.hok
theorem Inv.kept {t' : Nat} (I : Inv X pins σ H s) (k : ∀ b u, s.heap.get? b = some u → h'.get? b = some u) : Inv X pins σ H { s with heap := h', toks := t' } := I.un (Un.kept k) (I.hok.kept k)
theorem Inv.laid {a : Addr} {o : HO} {t' : Nat} (I : Inv X pins σ H s) (k : ∀ b u, s.heap.get? b = some u → h'.get? b = some u) (hp : s.heap.objs.size ≤ a) (new : ObjOk X.prog X.w (upd H a o) h' a o) :
    Inv X pins σ (upd H a o) { s with heap := h', toks := t' } := I.un (Un.laid k hp (I.hok.fresh hp)) (I.hok.laid k hp new)
theorem Inv.write {x e : Addr} {o : HO} {t' : Nat} (I : Inv X pins σ H s) (mu : Mut (H x)) (he : e = x ∨ H e = some (.own x)) (k : ∀ b u, b ≠ e → s.heap.get? b = some u → h'.get? b = some u) (heo : ∃ u, h'.get? e = some u)
    (new : ObjOk X.prog X.w (upd H x o) h' x o) : Inv X pins σ (upd H x o) { s with heap := h', toks := t' } := I.un (Un.write mu he k heo) (I.hok.write mu he k heo new)
theorem Inv.pins_of {pins' : List (Addr × Obj)} (I : Inv X pins σ H s) (h : ∀ p ∈ pins', s.heap.get? p.1 = some p.2 ∧ H p.1 = none ∧ p.1 ≠ X.env.locals ∧ p.1 ∉ X.fs ∧ ∀ v, p.2.data ≠ .cell v) : Inv X pins' σ H s :=
  ⟨I.ok, I.os, I.bare, I.base, I.loc, I.cell, I.free, I.freeC, fun p hp => (List.mem_append.mp hp).elim (fun z => I.pin p (List.mem_append_left _ z)) (h p), I.hok, I.len⟩
theorem nodup_ix {N : List Str} (hN : N.Nodup) {i j : Nat} {x : Str} (a : N[i]? = some x) (b : N[j]? = some x) : i = j := by
  obtain ⟨h1, e1⟩ := List.getElem?_eq_some_iff.mp a
  obtain ⟨h2, e2⟩ := List.getElem?_eq_some_iff.mp b
  exact (List.getElem_inj hN).mp (e1.trans e2.symm)
theorem store_ok2 {M : Model} {A : Around} {E : Value → Shared → Prop} {i : Nat} {x : Str} {v : V} {u : Value} {Q : Unit → Shared → Prop} (I : Inv X pins σ H s) (hN : X.N.Nodup) (hi : X.N[i]? = some x) (hx : Loc X.env.scope x) (r : RelV v u)
    (h : ∀ s', Inv X pins (σ.set i (some v)) H s' → (∃ a, Heap.SameBut a s.heap s'.heap ∧ (a = X.env.locals ∨ X.env.cells.lookup x = some a)) → Q () s') (hf : X.fn x = true ∨ X.env.scope.names.lookup x = some .local := by first | exact .inl rfl | exact .inr rfl | assumption) : wpAny M A (storeName X.env x u) Q E s := by
  obtain ⟨m, hn, hl⟩ := id I.loc
  have hcls : (X.env.scope.kind == .class || (X.env.scope.kind == .module && X.env.locals != X.env.globals)) = false := by rw [I.ok.kind]; rfl
  have hiσ : i < σ.length := by rw [I.len]; exact (List.getElem?_eq_some_iff.mp hi).1
  have cne := I.cne
  have tracked : ∀ {a : Addr} {h' : Heap}, (∃ o, s.heap.get? a = some o ∧ H a = none) → Heap.SameBut a s.heap h' → HOk X.prog X.w H h' := fun {a h'} ha hs b ob e => by
    obtain ⟨_, _, hfree⟩ := ha
    refine (I.hok b ob e).stay (fun c w' hc q => (hs.2 c ?_).trans q) (fun _ q => q) fun _ _ q => q
    rintro rfl
    rcases hc with rfl | hc
    · rw [hfree] at e; cases e
    · rw [hfree] at hc; cases hc
  rcases hx with hk | hk
  · refine wpAny_storeName_local hk hn (fun h' hn' hs => ?_) hcls
    obtain ⟨oL, _, _, hoL, _⟩ := id hn
    refine h _ ⟨I.ok, I.os, I.bare, ⟨fun b o e n hb hx => ?_, fun b o e n hb hx => ?_, I.base.free, fun b o e hx => ?_, I.base.tups, I.base.frzs, I.base.tbls⟩, ⟨_, hn', fun j y v' e1 e2 e3 => ?_⟩, fun y c e => ?_, I.free, I.freeC, fun p hp => ?_, tracked ⟨oL, hoL, I.free⟩ hs, by simpa using I.len⟩ ⟨_, hs, .inl rfl⟩
    · exact (hs.2 b (Nat.ne_of_lt (Nat.lt_of_lt_of_le (Heap.lt_size e) I.ok.above))).trans (I.base.keep b o e n hb hx)
    · obtain ⟨sl, e1⟩ := I.base.slot b o e n hb hx
      exact ⟨sl, (hs.2 b (Nat.ne_of_lt (Nat.lt_of_lt_of_le (Heap.lt_size e) I.ok.above))).trans e1⟩
    · obtain ⟨o', e1⟩ := I.base.there b o e hx
      exact ⟨o', (hs.2 b (Nat.ne_of_lt (Nat.lt_of_lt_of_le (Heap.lt_size e) I.ok.above))).trans e1⟩
    · by_cases hj : j = i
      · subst hj
        rw [hi] at e1; cases e1
        rw [List.getElem?_set_self hiσ] at e2
        cases e2
        exact ⟨u, r, .inl ⟨hk, by simp⟩⟩
      · rw [List.getElem?_set_ne (Ne.symm hj)] at e2
        obtain ⟨u', r', q⟩ := hl j y v' e1 e2 e3
        refine ⟨u', r', ?_⟩
        rcases q with ⟨k, e⟩ | ⟨k, c, e, z⟩
        · refine .inl ⟨k, ?_⟩
          have : y ≠ x := fun e => hj (nodup_ix hN e1 (e ▸ hi))
          simp [this, e]
        · exact .inr ⟨k, c, e, z.sameBut hs (cne y c e)⟩
    · obtain ⟨w', z⟩ := I.cell y c e
      exact ⟨w', z.sameBut hs (cne y c e)⟩
    · obtain ⟨e, n, ne, nf, d⟩ := I.pin p hp
      exact ⟨(hs.2 p.1 ne).trans e, n, ne, nf, d⟩
  · have hfn : X.fn x = true := by
      rcases hf with z | z
      · exact z
      · rw [z] at hk; cases hk
    obtain ⟨c, hc⟩ := I.ok.has x (.inl hk)
    obtain ⟨w', z⟩ := I.cell x c hc
    refine wpAny_storeName_cell I.ok.kind hk hc z (fun h' hc' hs => ?_)
    obtain ⟨oc, hoc, hocd⟩ := id z
    refine h { s with heap := h' } ⟨I.ok, I.os, I.bare, ⟨fun b o e n hb hx => ?_, fun b o e n hb hx => ?_, I.base.free, fun b o e hx => ?_, I.base.tups, I.base.frzs, I.base.tbls⟩, ⟨m, hn.sameBut hs (Ne.symm (cne x c hc)), fun j y v' e1 e2 e3 => ?_⟩, fun y c' e => ?_, I.free, I.freeC, fun p hp => ?_, tracked ⟨oc, hoc, I.freeC x c hc⟩ hs, by simpa using I.len⟩ ⟨c, hs, .inr hc⟩
    · exact (hs.2 b (Nat.ne_of_lt (Nat.lt_of_lt_of_le (Heap.lt_size e) (I.ok.cab x c hfn hc)))).trans (I.base.keep b o e n hb hx)
    · obtain ⟨sl, e1⟩ := I.base.slot b o e n hb hx
      exact ⟨sl, (hs.2 b (Nat.ne_of_lt (Nat.lt_of_lt_of_le (Heap.lt_size e) (I.ok.cab x c hfn hc)))).trans e1⟩
    · obtain ⟨o', e1⟩ := I.base.there b o e hx
      exact ⟨o', (hs.2 b (Nat.ne_of_lt (Nat.lt_of_lt_of_le (Heap.lt_size e) (I.ok.cab x c hfn hc)))).trans e1⟩
    · by_cases hj : j = i
      · subst hj
        rw [hi] at e1; cases e1
        rw [List.getElem?_set_self hiσ] at e2
        cases e2
        exact ⟨u, r, .inr ⟨.inl hk, c, hc, hc'⟩⟩
      · rw [List.getElem?_set_ne (Ne.symm hj)] at e2
        obtain ⟨u', r', q⟩ := hl j y v' e1 e2 e3
        refine ⟨u', r', ?_⟩
        rcases q with q | ⟨k, c', e, z'⟩
        · exact .inl q
        · refine .inr ⟨k, c', e, z'.sameBut hs ?_⟩
          rintro rfl
          exact hj (nodup_ix hN e1 (I.ok.inj _ _ _ e hc ▸ hi))
    · by_cases hcc : c' = c
      · subst hcc; exact ⟨_, hc'⟩
      · obtain ⟨w2, z2⟩ := I.cell y c' e
        exact ⟨w2, z2.sameBut hs hcc⟩
    · obtain ⟨e, n, ne, nf, d⟩ := I.pin p hp
      refine ⟨(hs.2 p.1 ?_).trans e, n, ne, nf, d⟩
      intro q
      rw [q, hoc] at e
      have q' : oc = p.2 := Option.some.inj e
      exact d w' (by rw [← q']; exact hocd)
theorem store_ok {M : Model} {A : Around} {E : Value → Shared → Prop} {i : Nat} {x : Str} {v : V} {u : Value} {Q : Unit → Shared → Prop} (I : Inv X pins σ H s) (hN : X.N.Nodup) (hi : X.N[i]? = some x) (hx : Loc X.env.scope x) (r : RelV v u)
    (h : ∀ s', Inv X pins (σ.set i (some v)) H s' → Q () s') (hf : X.fn x = true ∨ X.env.scope.names.lookup x = some .local := by first | exact .inl rfl | exact .inr rfl | assumption) : wpAny M A (storeName X.env x u) Q E s :=
  store_ok2 I hN hi hx r (fun s' I' _ => h s' I') hf
theorem Inv.call' {s' : Shared} {ch : List Addr} (I : Inv X pins σ H s) (ho : s'.os = s.os) (u : Un (frs X.stack) ch H H' s.heap s'.heap) (hok : HOk X.prog X.w H' s'.heap) (hg : AllBare s'.gens)
    (hch : ∀ b ∈ ch, (b ∈ X.ex ∨ X.s₀.heap.objs.size ≤ b) ∧ b ≠ X.env.locals ∧ (∀ x c, X.env.cells.lookup x = some c → c ≠ b) ∧ ∀ p ∈ X.pn ++ pins, p.1 ≠ b) : Inv X pins σ H' s' := by
  obtain ⟨h', g', d', t', o'⟩ := s'
  have e : o' = s.os := ho
  subst e
  exact I.call (g' := g') (t' := t') (d' := d') u hok hg hch
end
abbrev XK := Value → Option Addr → Hp → Prop
abbrev St := List (Option V)
abbrev VK := V → Hp → Prop
abbrev TE := St → Hp → VK → Prop
abbrev TT := St → Hp → (Bool → Hp → Prop) → Prop
abbrev TA := St → Hp → (List V → Hp → Prop) → Prop
structure Ends where
  nx : St → Hp → Prop
  rt : VK
  bk : St → Hp → Prop := fun _ _ => False
  ct : St → Hp → Prop := fun _ _ => False
abbrev TS := Ends → St → Hp → Prop
def EP (X : Cx) (pins : List (Addr × Obj)) (σ : St) (Q : VK) (u : Value) (s' : Shared) : Prop := ∃ v H', Inv X pins σ H' s' ∧ RelV v u ∧ Q v H'
def TP (X : Cx) (pins : List (Addr × Obj)) (σ : St) (Q : Bool → Hp → Prop) (b : Bool) (s' : Shared) : Prop := ∃ H', Inv X pins σ H' s' ∧ Q b H'
def AP (X : Cx) (pins : List (Addr × Obj)) (σ : St) (Q : List V → Hp → Prop) (us : List Value) (s' : Shared) : Prop := ∃ vs H', Inv X pins σ H' s' ∧ Vals vs us ∧ Q vs H'
def SP (X : Cx) (pins : List (Addr × Obj)) (D : Ends) (f : Flow) (s' : Shared) : Prop :=
  match f with
  | .next => ∃ σ' H', Inv X pins σ' H' s' ∧ D.nx σ' H'
  | .brk => ∃ σ' H', Inv X pins σ' H' s' ∧ D.bk σ' H'
  | .cont => ∃ σ' H', Inv X pins σ' H' s' ∧ D.ct σ' H'
  | .ret u => ∃ v σ' H', Inv X pins σ' H' s' ∧ RelV v u ∧ D.rt v H'
def PE (X : Cx) (e : Expr) (t : TE) : Prop :=
  ∀ (pins : List (Addr × Obj)) (s : Shared) (σ : St) (H : Hp) (Q : VK), Inv X pins σ H s → t σ H Q → wpAny (model X.prog X.w) X.A (eval e X.env) (EP X pins σ Q) X.xe s
def PT (X : Cx) (e : Expr) (t : TT) : Prop :=
  ∀ (pins : List (Addr × Obj)) (s : Shared) (σ : St) (H : Hp) (Q : Bool → Hp → Prop), Inv X pins σ H s → t σ H Q → wpAny (model X.prog X.w) X.A (isTrue e X.env (eval e X.env)) (TP X pins σ Q) X.xe s
def PW (X : Cx) (e : Expr) (t : TT) : Prop :=
  ∀ (whole : Sem Value) (pins : List (Addr × Obj)) (s : Shared) (σ : St) (H : Hp) (Q : Bool → Hp → Prop), Inv X pins σ H s → t σ H Q → wpAny (model X.prog X.w) X.A (isTrue e X.env whole) (TP X pins σ Q) X.xe s
theorem PW.pt {X : Cx} {e : Expr} {t : TT} (h : PW X e t) : PT X e t := h _
def PA (X : Cx) (es : List Expr) (t : TA) : Prop :=
  ∀ (pos : Pos) (pins : List (Addr × Obj)) (s : Shared) (σ : St) (H : Hp) (Q : List V → Hp → Prop), Inv X pins σ H s → t σ H Q → wpAny (model X.prog X.w) X.A (spliced (backTo pos (starEach es X.env))) (AP X pins σ Q) X.xe s
def PS (X : Cx) (st : Stmt) (t : TS) : Prop :=
  ∀ (pins : List (Addr × Obj)) (s : Shared) (σ : St) (H : Hp) (D : Ends), Inv X pins σ H s → t D σ H → wpAny (model X.prog X.w) X.A (exec st X.env) (SP X pins D) X.xe s
def PSs (X : Cx) (st : List Stmt) (t : TS) : Prop :=
  ∀ (pins : List (Addr × Obj)) (s : Shared) (σ : St) (H : Hp) (D : Ends), Inv X pins σ H s → t D σ H → wpAny (model X.prog X.w) X.A (execs st X.env) (SP X pins D) X.xe s
theorem thn {α : Type} {t : Sem α} {Q Q' : α → Shared → Prop} {M : Model} {A : Around} {E : Value → Shared → Prop} {s : Shared} (h : wpAny M A t Q E s) (hQ : ∀ a s, Q a s → Q' a s) : wpAny M A t Q' E s := wpAny_mono h hQ fun _ _ x => x
end L2
namespace L2
open PySem PySem.Spec PyProof.Rows
section
variable {X : Cx}
def tVar (i : Nat) : TE := fun σ H Q => ∃ v, σ[i]? = some (some v) ∧ Q v H
def tC (v : V) : TE := fun _ H Q => Q v H
theorem pe_var {i : Nat} {x : Str} {pos : Pos} (hN : X.N[i]? = some x) (hv : Vis X.env.scope x) (hd : (x == ("__debug__" : Str)) = false := by decide) (hcd : (x == ("__classdict__" : Str)) = false := by decide) : PE X (.Name x pos) (tVar i) := by
  intro pins s σ H Q I h
  obtain ⟨v, e, h⟩ := h
  obtain ⟨m, hn, hl⟩ := I.loc
  obtain ⟨u, r, l⟩ := hl i x v hN e hv
  have fin : EP X pins σ Q u s := ⟨v, H, I, r, h⟩
  rcases l with ⟨hk, hm⟩ | ⟨hk, c, hc, hcell⟩
  · exact wpAny_Name (wpAny_loadName_local I.ok.kind hk hn hm fin) hd
  · rcases hk with hk | hk
    · exact wpAny_Name (wpAny_loadName_cell I.ok.kind hk hc hcell fin) hd
    · exact wpAny_Name (wpAny_loadName_free I.ok.kind hk hc hcell fin hcd) hd
theorem pe_int {i j pos} : PE X (.Constant (.int i) j pos) (tC (.int i)) := fun _ _ _ H _ I h => wpAny_Constant_int ⟨.int i, H, I.tok _, ⟨_, rfl⟩, h⟩
theorem pe_bl {b j pos} : PE X (.Constant (.bool b) j pos) (tC (.bl b)) := fun _ _ _ H _ I h => Constant_bool ⟨.bl b, H, I, rfl, h⟩
theorem pe_non {j pos} : PE X (.Constant .none j pos) (tC .non) := fun _ _ _ H _ I h => Constant_none ⟨.non, H, I, rfl, h⟩
theorem pe_str {x j pos} : PE X (.Constant (.str x) j pos) (tC (.str x)) := fun _ _ _ H _ I h => Calls.Constant_str ⟨.str x, H, I.tok _, ⟨_, rfl⟩, h⟩
def Gl (X : Cx) (x : Str) : Prop := X.env.kindOf x = some .globalImplicit
theorem ld_glob {E : Value → Shared → Prop} {pins : List (Addr × Obj)} {s : Shared} {σ : St} {H : Hp} {x : Str} {u : Value} {pos : Pos} {Q : Value → Shared → Prop} (I : Inv X pins σ H s) (hg : Gl X x) (hm : X.mg x = some u) (h : Q u s)
    (hd : (x == ("__debug__" : Str)) = false := by decide) : wpAny (model X.prog X.w) X.A (eval (.Name x pos) X.env) Q E s :=
  Calls.Name_function_global I.ok.kind hg (Calls.loadGlobal_global (by rw [I.ok.glob]; exact I.mod.glob.keeps I.bk) hm h) hd
theorem ld_blt {E : Value → Shared → Prop} {pins : List (Addr × Obj)} {s : Shared} {σ : St} {H : Hp} {x : Str} {u : Value} {pos : Pos} {Q : Value → Shared → Prop} (I : Inv X pins σ H s) (hg : Gl X x) (hm : X.mg x = none) (hv : bootBuiltins x = some u) (h : Q u s)
    (hn : x ≠ "__name__" := by decide) (hd : (x == ("__debug__" : Str)) = false := by decide) : wpAny (model X.prog X.w) X.A (eval (.Name x pos) X.env) Q E s := by
  obtain ⟨mb, h1, h2⟩ := I.mod.blt
  exact Calls.Name_function_global I.ok.kind hg (Calls.loadGlobal_builtin (by rw [I.ok.glob]; exact I.mod.glob.keeps I.bk) hm (by rw [I.ok.blt]; exact h1.keeps I.bk) ((h2 x hn).trans hv) h) hd
theorem pe_bltn {x : Str} {v : V} {u : Value} {pos : Pos} (hg : Gl X x) (hm : X.mg x = none) (hv : bootBuiltins x = some u) (r : RelV v u) (hn : x ≠ "__name__" := by decide) (hd : (x == ("__debug__" : Str)) = false := by decide) : PE X (.Name x pos) (tC v) :=
  fun _ _ _ H _ I h => ld_blt I hg hm hv ⟨v, H, I, r, h⟩ hn hd
variable {a b : Expr} {ta tb : TE} {pos : Pos}
def PC (X : Cx) (op : CmpOp) (a b : Expr) (t : TE) : Prop :=
  ∀ (pins : List (Addr × Obj)) (s : Shared) (σ : St) (H : Hp) (Q : VK), Inv X pins σ H s → t σ H Q →
    wpAny (model X.prog X.w) X.A (eval a X.env) (fun v s₁ => wpAny (model X.prog X.w) X.A (eval b X.env) (fun u s₂ => wpAny (model X.prog X.w) X.A (compareOp op v u) (EP X pins σ Q) X.xe s₂) X.xe s₁) X.xe s
def tB (t : TE) : TT := fun σ H Q => t σ H fun x H1 => ∃ c, x = .bl c ∧ Q c H1
theorem pt_val {e : Expr} {t : TE} (h : PE X e t) (he : ∀ whole, isTrue e X.env whole = (do let v ← whole; standAt e.pos; holding [v] (truthy v)) := by intro _; rfl) : PT X e (tB t) := by
  intro pins s σ H Q I hw
  refine isTrue_plain (thn (h pins s σ H _ I hw) fun v s1 ⟨x, H1, I1, r1, q1⟩ => ?_) (he _)
  obtain ⟨d, rfl, q⟩ := q1
  cases r1
  exact wpAny_truthy_bool ⟨H1, I1, q⟩
variable {tA tB' : TT} {rest : List Expr}
def tAnd (t u : TT) : TT := fun σ H Q => t σ H fun c H1 => if c = true then u σ H1 Q else Q false H1
def tOr (t u : TT) : TT := fun σ H Q => t σ H fun c H1 => if c = true then Q true H1 else u σ H1 Q
def tNot (t : TT) : TT := fun σ H Q => t σ H fun c H1 => Q (!c) H1
theorem pw_and1 (ha : PT X a tA) : PW X (.BoolOp .And [a] pos) tA := by
  intro wh pins s σ H Q I h
  refine isTrue_and (thn (ha pins s σ H Q I h) fun c s1 e => ?_)
  cases c with
  | true => exact isTrue_and_nil e
  | false => exact e
theorem pw_or1 (ha : PT X a tA) : PW X (.BoolOp .Or [a] pos) tA := by
  intro wh pins s σ H Q I h
  refine isTrue_or (thn (ha pins s σ H Q I h) fun c s1 e => ?_)
  cases c with
  | false => exact isTrue_or_nil e
  | true => exact e
theorem pw_and (ha : PT X a tA) (hb : PW X (.BoolOp .And (b :: rest) pos) tB') : PW X (.BoolOp .And (a :: b :: rest) pos) (tAnd tA tB') := by
  intro wh pins s σ H Q I h
  refine isTrue_and (thn (ha pins s σ H _ I h) fun c s1 ⟨H1, I1, q1⟩ => ?_)
  cases c with
  | true => exact hb wh pins s1 σ H1 Q I1 q1
  | false => exact ⟨H1, I1, q1⟩
theorem pw_or (ha : PT X a tA) (hb : PW X (.BoolOp .Or (b :: rest) pos) tB') : PW X (.BoolOp .Or (a :: b :: rest) pos) (tOr tA tB') := by
  intro wh pins s σ H Q I h
  refine isTrue_or (thn (ha pins s σ H _ I h) fun c s1 ⟨H1, I1, q1⟩ => ?_)
  cases c with
  | true => exact ⟨H1, I1, q1⟩
  | false => exact hb wh pins s1 σ H1 Q I1 q1
theorem pt_not (ha : PT X a tA) : PT X (.UnaryOp .Not a pos) (tNot tA) := by
  intro pins s σ H Q I h
  exact isTrue_not (ha pins s σ H (fun c H1 => Q (!c) H1) I h)
def tAndV (ta tb : TE) : TE := fun σ H Q => ta σ H fun x H1 => ∃ c, x = .bl c ∧ if c = true then tb σ H1 Q else Q (.bl false) H1
def tOrV (ta tb : TE) : TE := fun σ H Q => ta σ H fun x H1 => ∃ c, x = .bl c ∧ if c = true then Q (.bl true) H1 else tb σ H1 Q
def tNotV (ta : TE) : TE := fun σ H Q => ta σ H fun x H1 => ∃ c, x = .bl c ∧ Q (.bl (!c)) H1
theorem pe_one {op} {t : TE} (h : PE X a t) : PE X (.BoolOp op [a] pos) t := fun pins s σ H Q I hw => BoolOp_one (h pins s σ H Q I hw)
theorem pe_and (ha : PE X a ta) (hb : PE X (.BoolOp .And (b :: rest) pos) tb) : PE X (.BoolOp .And (a :: b :: rest) pos) (tAndV ta tb) := by
  intro pins s σ H Q I h
  refine BoolOp_and (thn (ha pins s σ H _ I h) fun v s1 ⟨x, H1, I1, r1, q1⟩ => ?_)
  obtain ⟨c, rfl, q1⟩ := q1
  cases r1
  refine wpAny_truthy_bool ?_
  cases c with
  | true => exact hb pins s1 σ H1 Q I1 q1
  | false => exact ⟨.bl false, H1, I1, rfl, q1⟩
theorem pe_or (ha : PE X a ta) (hb : PE X (.BoolOp .Or (b :: rest) pos) tb) : PE X (.BoolOp .Or (a :: b :: rest) pos) (tOrV ta tb) := by
  intro pins s σ H Q I h
  refine BoolOp_or (thn (ha pins s σ H _ I h) fun v s1 ⟨x, H1, I1, r1, q1⟩ => ?_)
  obtain ⟨c, rfl, q1⟩ := q1
  cases r1
  refine wpAny_truthy_bool ?_
  cases c with
  | false => exact hb pins s1 σ H1 Q I1 q1
  | true => exact ⟨.bl true, H1, I1, rfl, q1⟩
theorem pe_not (ha : PE X a ta) : PE X (.UnaryOp .Not a pos) (tNotV ta) := by
  intro pins s σ H Q I h
  refine UnaryOp_ (thn (ha pins s σ H _ I h) fun v s1 ⟨x, H1, I1, r1, q1⟩ => ?_)
  obtain ⟨c, rfl, q1⟩ := q1
  cases r1
  exact not_of (wpAny_truthy_bool ⟨.bl (!c), H1, I1, rfl, q1⟩)
def tIf (t : TT) (ta tb : TE) : TE := fun σ H Q => t σ H fun c H1 => if c = true then ta σ H1 Q else tb σ H1 Q
theorem pe_ifExp {c : Expr} (hc : PT X c tA) (ha : PE X a ta) (hb : PE X b tb) : PE X (.IfExp c a b pos) (tIf tA ta tb) := by
  intro pins s σ H Q I h
  refine wpAny_IfExp (thn (hc pins s σ H _ I h) fun d s1 ⟨H1, I1, q1⟩ => ?_)
  cases d with
  | true => exact ha pins s1 σ H1 Q I1 q1
  | false => exact hb pins s1 σ H1 Q I1 q1
end
end L2
namespace L2
open PySem PySem.Spec PyProof.Rows
def SqL (K : PySem.W.Frag) (H : Hp) (a : Addr) (xs : List V) : Prop :=
  Rd H a (.lst xs) ∨
    ∃ (o : Obj) (its : Array Value) (n : Nat), K.lookup a = some o ∧ o.cls = .type "list" ∧ o.dict = none ∧ o.data = .seq its n ∧ its.size ≤ sizeLine ∧ Vals xs its.toList
def SqT (K : PySem.W.Frag) (H : Hp) (a : Addr) (xs : List V) : Prop :=
  Rd H a (.tup xs) ∨
    ∃ (o : Obj) (its : Array Value) (n : Nat), K.lookup a = some o ∧ o.cls = .type "tuple" ∧ o.data = .seq its n ∧ its.size ≤ sizeLine ∧ Vals xs its.toList
def absV : Value → Option V
  | .none => some .non
  | .bool b => some (.bl b)
  | .int i _ => some (.int i)
  | .str x _ => some (.str x)
  | .bytes b _ => some (.byt b)
  | .float b _ => some (.flt b)
  | .ref a => some (.ref a)
  | .type n => some (.ty n)
  | _ => none
theorem RelV.abs {x : V} {u : Value} (r : RelV x u) : absV u = some x := by
  cases x with
  | non => cases r; rfl
  | bl _ => cases r; rfl
  | int _ => obtain ⟨t, rfl⟩ := r; rfl
  | str _ => obtain ⟨t, rfl⟩ := r; rfl
  | byt _ => obtain ⟨t, rfl⟩ := r; rfl
  | flt _ => obtain ⟨t, rfl⟩ := r; rfl
  | ref _ => cases r; rfl
  | ty _ => cases r; rfl
theorem RelV.inj {x y : V} {u : Value} (r : RelV x u) (q : RelV y u) : x = y := Option.some.inj (r.abs.symm.trans q.abs)
theorem Vals.inj : ∀ {xs ys : List V} {us : List Value}, Vals xs us → Vals ys us → xs = ys
  | _, _, _, .nil, .nil => rfl
  | _, _, _, .cons r t, .cons r' t' => by rw [r.inj r', Vals.inj t t']
section
variable {X : Cx} {pins : List (Addr × Obj)} {σ : St} {H : Hp} {s : Shared} {a : Addr} {xs ys : List V}
theorem SqL.of {K : PySem.W.Frag} (h : H a = some (.lst xs)) : SqL K H a xs := .inl (.inl h)
theorem SqT.of {K : PySem.W.Frag} (h : H a = some (.tup xs)) : SqT K H a xs := .inl (.inl h)
theorem Inv.list (I : Inv X pins σ H s) (h : SqL X.K H a xs) : ∃ its : List Value, Vals xs its ∧ PlainL s.heap a its.toArray ∧ xs.length ≤ sizeLine := by
  rcases h with h | ⟨o, its, n, hk, hc, hd, hs, hz, r⟩
  · obtain ⟨z, its, n, r, e⟩ := h.ok I.hok
    exact ⟨its, r, ⟨_, n, e, rfl, rfl, rfl⟩, z⟩
  · refine ⟨its.toList, r, ⟨o, n, I.kIn a o hk, hc, hd, by simpa using hs⟩, ?_⟩
    have e := r.length
    simp only [Array.length_toList] at e
    omega
theorem Inv.tuple (I : Inv X pins σ H s) (h : SqT X.K H a xs) : ∃ its : List Value, Vals xs its ∧ IsTup s.heap a its.toArray ∧ xs.length ≤ sizeLine := by
  rcases h with h | ⟨o, its, n, hk, hc, hs, hz, r⟩
  · obtain ⟨z, its, r, p⟩ := h.ok I.hok
    exact ⟨its, r, p, z⟩
  · refine ⟨its.toList, r, ⟨o, I.kIn a o hk, hc, n, by simpa using hs⟩, ?_⟩
    have e := r.length
    simp only [Array.length_toList] at e
    omega
theorem Inv.list_inj (I : Inv X pins σ H s) (h : SqL X.K H a xs) (h' : SqL X.K H a ys) : xs = ys := by
  obtain ⟨its, r, ⟨o, n, e, _, _, d⟩, _⟩ := I.list h
  obtain ⟨its', r', ⟨o', n', e', _, _, d'⟩, _⟩ := I.list h'
  rw [e] at e'; cases e'
  rw [d] at d'
  injection d' with d1 _
  have : its = its' := by simpa using congrArg Array.toList d1
  subst this
  exact r.inj r'
end
abbrev Cx.wish (X : Cx) (E : Value → Shared → Prop) : Cx := { X with xe := E }
abbrev Cx.nox (X : Cx) : Cx := X.wish fun _ _ => False
theorem Cx.Ok.wish {X : Cx} (ok : X.Ok) (E : Value → Shared → Prop) : (X.wish E).Ok :=
  ⟨ok.mod, ok.kind, ok.glob, ok.blt, ok.above, ok.inj, ok.has, ok.cab, ok.hd, ok.frames, ok.stk, ok.exf, ok.bs, ok.bsz, ok.noex, ok.exfs, ok.funs, ok.frf⟩
theorem Cx.Ok.unwish {X : Cx} {E : Value → Shared → Prop} (ok : (X.wish E).Ok) : X.Ok :=
  ⟨ok.mod, ok.kind, ok.glob, ok.blt, ok.above, ok.inj, ok.has, ok.cab, ok.hd, ok.frames, ok.stk, ok.exf, ok.bs, ok.bsz, ok.noex, ok.exfs, ok.funs, ok.frf⟩
section
variable {X : Cx} {pins : List (Addr × Obj)} {σ : St} {H : Hp} {s : Shared} {E : Value → Shared → Prop}
theorem Inv.wish (I : Inv X pins σ H s) (E : Value → Shared → Prop) : Inv (X.wish E) pins σ H s := ⟨I.ok.wish E, I.os, I.bare, I.base, I.loc, I.cell, I.free, I.freeC, I.pin, I.hok, I.len⟩
theorem Inv.unwish (I : Inv (X.wish E) pins σ H s) : Inv X pins σ H s := ⟨I.ok.unwish, I.os, I.bare, I.base, I.loc, I.cell, I.free, I.freeC, I.pin, I.hok, I.len⟩
theorem SP.unwish {D : Ends} {f : Flow} {s' : Shared} (h : SP (X.wish E) pins D f s') : SP X pins D f s' := by
  cases f with
  | next => obtain ⟨σ', H', I, q⟩ := h; exact ⟨σ', H', I.unwish, q⟩
  | brk => obtain ⟨σ', H', I, q⟩ := h; exact ⟨σ', H', I.unwish, q⟩
  | cont => obtain ⟨σ', H', I, q⟩ := h; exact ⟨σ', H', I.unwish, q⟩
  | ret u => obtain ⟨v, σ', H', I, r, q⟩ := h; exact ⟨v, σ', H', I.unwish, r, q⟩
theorem PE.nox {e : Expr} {t : TE} (h : PE X.nox e t) : PE X e t := fun pins s σ H Q I hw =>
  wpAny_mono (h pins s σ H Q (I.wish _) hw) (fun _ _ ⟨v, H', I', r, q⟩ => ⟨v, H', I'.unwish, r, q⟩) fun _ _ z => False.elim z
theorem PT.nox {e : Expr} {t : TT} (h : PT X.nox e t) : PT X e t := fun pins s σ H Q I hw =>
  wpAny_mono (h pins s σ H Q (I.wish _) hw) (fun _ _ ⟨H', I', q⟩ => ⟨H', I'.unwish, q⟩) fun _ _ z => False.elim z
theorem PSs.nox {st : List Stmt} {t : TS} (h : PSs X.nox st t) : PSs X st t := fun pins s σ H D I hw =>
  wpAny_mono (h pins s σ H D (I.wish _) hw) (fun _ _ q => q.unwish) fun _ _ z => False.elim z
end
section
variable {X : Cx} {st : Stmt} {rest : List Stmt} {t u : TS} {e : Expr} {te : TE} {pos : Pos}
def tNext : TS := fun D σ H => D.nx σ H
def tSeq (t u : TS) : TS := fun D σ H => t { D with nx := u D } σ H
theorem pss_nil : PSs X [] tNext := fun _ _ σ H _ I h => wpAny_execs_nil ⟨σ, H, I, h⟩
theorem pss_cons (h1 : PS X st t) (h2 : PSs X rest u) : PSs X (st :: rest) (tSeq t u) := by
  intro pins s σ H D I h
  refine wpAny_execs_cons (thn (h1 pins s σ H { D with nx := u D } I h) fun f s1 q => ?_)
  cases f with
  | next =>
    obtain ⟨σ', H', I', q⟩ := q
    exact h2 pins s1 σ' H' D I' q
  | ret v => exact q
  | brk => exact q
  | cont => exact q
theorem pss_one (h1 : PS X st t) : PSs X [st] t := by
  intro pins s σ H D I h
  refine wpAny_execs_cons (thn (h1 pins s σ H D I h) fun f s1 q => ?_)
  cases f with
  | next => exact wpAny_execs_nil q
  | ret v => exact q
  | brk => exact q
  | cont => exact q
theorem Inv.quiet {pins : List (Addr × Obj)} {σ : St} {H : Hp} {s : Shared} (I : Inv X pins σ H s) : interactive X.env = false := by simp [interactive, I.ok.kind]
def tDrop (te : TE) : TS := fun D σ H => te σ H fun _ H1 => D.nx σ H1
theorem ps_expr (he : PE X e te) (hs : swapsWith e none pos.line X.env = pure false := by rfl) : PS X (.Expr e pos) (tDrop te) := by
  intro pins s σ H D I h
  exact wpAny_Expr_any (thn (he pins s σ H _ I h) fun v s1 ⟨x, H1, I1, r1, q1⟩ => ⟨σ, H1, I1, q1⟩) I.quiet hs
def tRet (te : TE) : TS := fun D σ H => te σ H D.rt
theorem ps_ret (he : PE X e te) : PS X (.Return (some e) pos) (tRet te) := by
  intro pins s σ H D I h
  exact wpAny_Return_some (thn (he pins s σ H _ I h) fun v s1 ⟨x, H1, I1, r1, q1⟩ => ⟨x, σ, H1, I1, r1, q1⟩)
def tIfS (c : TT) (t u : TS) : TS := fun D σ H => c σ H fun b H1 => if b = true then t D σ H1 else u D σ H1
theorem ps_if {c : Expr} {a b : List Stmt} {tc : TT} (hc : PT X c tc) (ha : PSs X a t) (hb : PSs X b u) : PS X (.If c a b pos) (tIfS tc t u) := by
  intro pins s σ H D I h
  refine wpAny_If (thn (hc pins s σ H _ I h) fun d s1 ⟨H1, I1, q1⟩ => ?_)
  cases d with
  | true => exact ha pins s1 σ H1 D I1 q1
  | false => exact hb pins s1 σ H1 D I1 q1
end
abbrev TG := V → St → Hp → (St → Hp → Prop) → Prop
abbrev TGs := List V → St → Hp → (St → Hp → Prop) → Prop
def PG (X : Cx) (target : Expr) (t : TG) : Prop :=
  ∀ (pins : List (Addr × Obj)) (s : Shared) (σ : St) (H : Hp) (v : V) (u : Value) (Q : St → Hp → Prop), Inv X pins σ H s → RelV v u → t v σ H Q →
    wpAny (model X.prog X.w) X.A (assign target X.env u) (fun _ s' => ∃ σ' H', Inv X pins σ' H' s' ∧ Q σ' H') X.xe s
def PGs (X : Cx) (ts : List Expr) (t : TGs) : Prop :=
  ∀ (pins : List (Addr × Obj)) (s : Shared) (σ : St) (H : Hp) (vs : List V) (us : List Value) (Q : St → Hp → Prop), Inv X pins σ H s → Vals vs us → t vs σ H Q →
    wpAny (model X.prog X.w) X.A (assignInOrder ((assignEach ts X.env).map (·.2)) us) (fun _ s' => ∃ σ' H', Inv X pins σ' H' s' ∧ Q σ' H') X.xe s
abbrev TSet := V → V → V → Hp → (Hp → Prop) → Prop
def PSet (X : Cx) (t : TSet) : Prop :=
  ∀ (pins : List (Addr × Obj)) (s : Shared) (σ : St) (H : Hp) (o i v : V) (ov iv u : Value) (Q : Hp → Prop), Inv X pins σ H s → RelV o ov → RelV i iv → RelV v u → t o i v H Q →
    wpAny (model X.prog X.w) X.A (setItem ov iv u) (fun _ s' => ∃ H', Inv X pins σ H' s' ∧ Q H') X.xe s
section
variable {X : Cx} {pos : Pos}
def gName (i : Nat) : TG := fun v σ H Q => Q (σ.set i (some v)) H
theorem pg_name {i : Nat} {x : Str} (hN : X.N.Nodup) (hi : X.N[i]? = some x) (hx : Loc X.env.scope x) (hf : X.fn x = true ∨ X.env.scope.names.lookup x = some .local := by first | exact .inl rfl | exact .inr rfl | assumption) : PG X (.Name x pos) (gName i) := by
  intro pins s σ H v u Q I r h
  exact wpAny_assign_Name (store_ok I hN hi hx r (fun s' I' => ⟨_, H, I', h⟩) hf)
def gNil : TGs := fun vs σ H Q => vs = [] ∧ Q σ H
def gCons (t : TG) (u : TGs) : TGs := fun vs σ H Q => ∃ v r, vs = v :: r ∧ t v σ H fun σ' H' => u r σ' H' Q
theorem pgs_nil : PGs X [] gNil := by
  intro pins s σ H vs us Q I r h
  obtain ⟨e, h⟩ := h
  subst e
  cases r
  exact assignInOrder_nil ⟨σ, H, I, h⟩
theorem pgs_cons {e : Expr} {es : List Expr} {t : TG} {u : TGs} (h1 : PG X e t) (h2 : PGs X es u)
    (hs : (assignEach (e :: es) X.env).map (·.2) = assign e X.env :: (assignEach es X.env).map (·.2) := by rfl) : PGs X (e :: es) (gCons t u) := by
  intro pins s σ H vs us Q I r h
  obtain ⟨v, vr, e1, h⟩ := h
  subst e1
  cases r with
  | cons r rr =>
    rw [hs]
    refine assignInOrder_cons (thn (h1 pins s σ H _ _ _ I r h) fun _ s1 ⟨σ1, H1, I1, q1⟩ => ?_)
    exact h2 pins s1 σ1 H1 _ _ Q I1 rr q1
def gTup (K : PySem.W.Frag) (n : Nat) (t : TGs) : TG := fun v σ H Q => ∃ a xs, v = .ref a ∧ SqT K H a xs ∧ xs.length = n ∧ t xs σ H Q
theorem pg_tup {es : List Expr} {k : Nat} {t : TGs} {n : Nat} (hc : X.calm = true) (h : PGs X es t)
    (hn : (assignEach es X.env).length = n := by rfl) (hst : (assignEach es X.env).findIdx? (·.1) = none := by rfl) : PG X (.Tuple es k pos) (gTup X.K n t) := by
  intro pins s σ H v u Q I r hw
  obtain ⟨a, xs, e1, hq, hl, hw⟩ := hw
  subst e1
  cases r
  obtain ⟨its, rv, ht, hz⟩ := I.tuple hq
  refine assign_Tuple_tuple (I.ok.hd hc) ht (by simp [hn, ← hl, rv.length]) hst fun h' hx => ?_
  have I1 : Inv X pins σ H { s with heap := h' } := I.kept (t' := s.toks) fun b o e => hx b o (Nat.ne_of_lt (Heap.lt_size e)) e
  exact h pins _ σ H xs _ Q I1 (by simpa using rv) hw
def gSub (to ti : TE) (t : TSet) : TG := fun v σ H Q => to σ H fun o H1 => ti σ H1 fun i H2 => t o i v H2 fun H3 => Q σ H3
theorem pg_sub {o i : Expr} {to ti : TE} {t : TSet} (ho : PE X o to) (hi : PE X i ti) (hs : PSet X t)
    (ha : ∀ v, assign (.Subscript o i pos) X.env v = (do
      let ov ← holding [v] (eval o X.env)
      let iv ← holding [v, ov] (eval i X.env)
      standAt pos
      holding [v, ov, iv] (setItem ov iv v)
      release [v, ov, iv] []) := by intro _; rfl) : PG X (.Subscript o i pos) (gSub to ti t) := by
  intro pins s σ H v u Q I r h
  rw [ha]
  refine wpAny_bind (wpAny_holding (thn (ho pins s σ H _ I h) fun ov s1 ⟨x, H1, I1, r1, q1⟩ => ?_))
  refine wpAny_bind (wpAny_holding (thn (hi pins s1 σ H1 _ I1 q1) fun iv s2 ⟨y, H2, I2, r2, q2⟩ => ?_))
  refine wpAny_bind (wpAny_standAt (wpAny_bind (wpAny_holding (thn (hs pins s2 σ H2 x y v ov iv u _ I2 r1 r2 r q2) fun _ s3 ⟨H3, I3, q3⟩ => ?_))))
  exact wpAny_release ⟨σ, H3, I3, q3⟩
def tAsg (te : TE) (g : TG) : TS := fun D σ H => te σ H fun x H1 => g x σ H1 D.nx
theorem ps_asg {tg e : Expr} {te : TE} {g : TG} (he : PE X e te) (hg : PG X tg g) (hs : swapsWithSole [tg] e pos.line X.env = pure false := by rfl) (hw : swappedStores [tg] e X.env = pure none := by rfl)
    (h1 : (assignEach [tg] X.env).map (·.2) = [assign tg X.env] := by rfl) : PS X (.Assign [tg] e pos) (tAsg te g) := by
  intro pins s σ H D I h
  refine wpAny_Assign_stores (thn (he pins s σ H _ I h) fun v s1 ⟨x, H1, I1, r1, q1⟩ => ?_) hs hw
  rw [h1]
  exact thn (hg pins s1 σ H1 x v _ I1 r1 q1) fun _ s2 q => q
theorem ps_set {i : Nat} {x : Str} {e : Expr} {te : TE} {pos' : Pos} (hN : X.N.Nodup) (hi : X.N[i]? = some x) (hx : Loc X.env.scope x) (he : PE X e te) (hs : swapsWith e (some (.Name x pos')) pos.line X.env = pure false := by rfl) (hf : X.fn x = true ∨ X.env.scope.names.lookup x = some .local := by first | exact .inl rfl | exact .inr rfl | assumption) :
    PS X (.Assign [.Name x pos'] e pos) (tAsg te (gName i)) := by
  intro pins s σ H D I h
  refine wpAny_Assign_Name (thn (he pins s σ H _ I h) fun v s1 ⟨y, H1, I1, r1, q1⟩ => ?_) hs
  exact store_ok I1 hN hi hx r1 (fun s2 I2 => ⟨_, H1, I2, q1⟩) hf
end
section
variable {X : Cx} {pos : Pos}
def tWhile (c : TT) (tb : TS) : TS := fun D σ H => ∃ W : Nat → St → Hp → Prop, (∃ m, W m σ H) ∧ ∀ m σ H, W m σ H →
  c σ H fun b H1 => if b = true then ∃ N : St → Hp → Prop, (∀ σ' H', N σ' H' → ∃ m', m' < m ∧ W m' σ' H') ∧ tb { D with nx := N, ct := N, bk := D.nx } σ H1 else D.nx σ H1
theorem ps_while {c : Expr} {body : List Stmt} {tc : TT} {tb : TS} (hp : PassesOwn (model X.prog X.w) X.A X.env X.xe) (hc : PT X c tc) (hb : PSs X body tb) : PS X (.While c body [] pos) (tWhile tc tb) := by
  intro pins s σ H D I h
  obtain ⟨W, ⟨m0, w0⟩, turn⟩ := h
  refine wpAny_While (codeAny_whileLoop (fun n s' => ∃ σ' H', Inv X pins σ' H' s' ∧ W n σ' H') ?_ m0 ⟨σ, H, I, w0⟩)
  rintro n s1 ⟨σ1, H1, I1, w1⟩
  refine wpAny_passesOwn hp (thn (hc pins s1 σ1 H1 _ I1 (turn n σ1 H1 w1)) fun b s2 ⟨H2, I2, q2⟩ => ?_)
  cases b with
  | true =>
    obtain ⟨N, hN, q2⟩ := q2
    rw [if_pos rfl]
    refine wpAny_passesOwn hp (thn (hb pins s2 σ1 H2 _ I2 q2) fun f s3 q3 => ?_)
    cases f with
    | next =>
      obtain ⟨σ3, H3, I3, n3⟩ := q3
      obtain ⟨m', hm, w3⟩ := hN σ3 H3 n3
      exact ⟨m', hm, σ3, H3, I3, w3⟩
    | cont =>
      obtain ⟨σ3, H3, I3, n3⟩ := q3
      obtain ⟨m', hm, w3⟩ := hN σ3 H3 n3
      exact ⟨m', hm, σ3, H3, I3, w3⟩
    | brk => exact q3
    | ret v => exact q3
  | false =>
    rw [if_neg Bool.false_ne_true]
    exact wpAny_execs_nil ⟨σ1, H2, I2, q2⟩
end
structure It where
  go : Nat → Hp → Prop
  yld : Nat → Hp → V → Hp → Prop
  stop : Nat → Hp → Prop
def FpOk (X : Cx) (pins : List (Addr × Obj)) (H : Hp) (b : Addr) : Prop :=
  H b = none ∧ b ≠ X.env.locals ∧ b ∉ X.fs ∧ (b ∈ X.ex ∨ X.s₀.heap.objs.size ≤ b) ∧ (∀ x c, X.env.cells.lookup x = some c → c ≠ b) ∧ ∀ p ∈ X.pn ++ pins, p.1 ≠ b
theorem Inv.fpOk {X : Cx} {pins : List (Addr × Obj)} {σ : St} {H H' : Hp} {s : Shared} {b : Addr} (I : Inv X pins σ H s) (hb : s.heap.objs.size ≤ b) (hn : H' b = none) : FpOk X pins H' b := by
  refine ⟨hn, Nat.ne_of_gt (Nat.lt_of_lt_of_le I.lt hb), I.nofs hb, .inr (Nat.le_trans I.sz hb), fun x c e z => ?_, fun p hp z => ?_⟩
  · obtain ⟨v, q⟩ := I.cell x c e
    exact absurd (Nat.lt_of_lt_of_le q.lt (by rw [z]; exact hb)) (Nat.lt_irrefl _)
  · exact absurd (Nat.lt_of_lt_of_le (Heap.lt_size (I.pin p hp).1) (by rw [z]; exact hb)) (Nat.lt_irrefl _)
structure Turn (P : Program) (w : World) (K : PySem.W.Frag) (tg : Expr) (J : It) (fp : List Addr) (it : Addr) (tn : Nat → Heap → Prop) : Prop where
  mem : it ∈ fp
  obj : ∀ i h, tn i h → ∀ b ∈ fp, ∃ o, h.get? b = some o ∧ ∀ v, o.data ≠ .cell v
  keep : ∀ i h h', tn i h → (∀ b ∈ fp, ∀ o, h.get? b = some o → h'.get? b = some o) → tn i h'
  item : ∀ (X : Cx), X.prog = P → X.w = w → X.K = K → X.calm = true → ∀ (i : Nat) (pins : List (Addr × Obj)) (s : Shared) (σ : St) (H : Hp) (E : Value → Shared → Prop), Inv X pins σ H s → (∀ b ∈ fp, FpOk X pins H b) → tn i s.heap → J.go i H →
    wpAny (model P w) X.A (pyNext (.ref it)) (fun r s1 => ∃ u, r = some u ∧
      wpAny (model P w) X.A (letOwnedTupleGo tg (.ref it) u) (fun _ s2 => ∃ x H', Inv X pins σ H' s2 ∧ RelV x u ∧ J.yld i H x H' ∧ tn (i + 1) s2.heap ∧ ∀ b ∈ fp, H' b = none) E s1) E s
  done : ∀ (X : Cx), X.prog = P → X.w = w → X.K = K → X.calm = true → ∀ (i : Nat) (pins : List (Addr × Obj)) (s : Shared) (σ : St) (H : Hp) (E : Value → Shared → Prop), Inv X pins σ H s → (∀ b ∈ fp, FpOk X pins H b) → tn i s.heap → J.stop i H →
    wpAny (model P w) X.A (pyNext (.ref it)) (fun r s1 => r = none ∧ Inv X pins σ H s1) E s
  self : ∀ (A : Around) (i : Nat) (s : Shared) (Q : Value → Shared → Prop) (E : Value → Shared → Prop), tn i s.heap → Q (.ref it) s → wpAny (model P w) A (pyIter (.ref it)) Q E s
abbrev TI := St → Hp → (It → Hp → Prop) → Prop
def PIE (X : Cx) (pins : List (Addr × Obj)) (σ : St) (tg : Expr) (R : It → Hp → Prop) (itv : Value) (s2 : Shared) : Prop :=
  ∃ (it : Addr) (fp : List Addr) (tn : Nat → Heap → Prop) (J : It) (H' : Hp), itv = .ref it ∧ Inv X pins σ H' s2 ∧ Turn X.prog X.w X.K tg J fp it tn ∧ tn 0 s2.heap ∧ (∀ b ∈ fp, FpOk X pins H' b) ∧ R J H'
def PI (X : Cx) (tg iter : Expr) (wi : TI) : Prop :=
  ∀ (pins : List (Addr × Obj)) (s : Shared) (σ : St) (H : Hp) (R : It → Hp → Prop), Inv X pins σ H s → wi σ H R →
    wpAny (model X.prog X.w) X.A (eval iter X.env) (fun v s1 => wpAny (model X.prog X.w) X.A (pyIter v) (PIE X pins σ tg R) X.xe s1) X.xe s
theorem go_of {M : Model} {A : Around} {E : Value → Shared → Prop} {s : Shared} {tg : Expr} {it : Addr} {u : Value} {o : Obj} {n : String} {vs : Array Value} {Q : Unit → Shared → Prop} (ho : s.heap.get? it = some o) (hc : o.cls = .type n) (hd : o.data = .fields vs)
    (hn : ["enumerate", "zip", "dict_itemiterator", "dict_reverseitemiterator", "odict_iterator", "itertools.zip_longest", "itertools.pairwise"].contains n = false) (hQ : Q () s) : wpAny M A (letOwnedTupleGo tg (.ref it) u) Q E s := by
  unfold letOwnedTupleGo
  cases tg <;> first
    | exact wpAny_pure hQ
    | (cases u <;> first
        | exact wpAny_pure hQ
        | (refine wpAny_bind (wpAny_load ho ?_)
           rw [hc, hd]
           show wpAny M A (if (["enumerate", "zip", "dict_itemiterator", "dict_reverseitemiterator", "odict_iterator", "itertools.zip_longest", "itertools.pairwise"].contains n && vs[0]? == some (rawInt _)) = true then _ else _) Q E s
           rw [if_neg (by intro h; rw [hn, Bool.false_and] at h; cases h)]
           exact wpAny_pure hQ))
def Itl (K : PySem.W.Frag) (a : Addr) : It :=
  ⟨fun i H => ∃ xs x, SqL K H a xs ∧ xs[i]? = some x, fun i H x H' => H' = H ∧ ∀ xs, SqL K H a xs → xs[i]? = some x, fun i H => ∃ xs, SqL K H a xs ∧ xs.length ≤ i⟩
def Itr (lo : Int) (n : Nat) : It := ⟨fun i _ => i < n, fun i H x H' => H' = H ∧ x = .int (lo + i), fun i _ => n ≤ i⟩
theorem turn_list {P : Program} {w : World} {K : PySem.W.Frag} {tg : Expr} (a it : Addr) : Turn P w K tg (Itl K a) [it] it (fun i h => h.IsListIter it a i) where
  mem := by simp
  obj := fun i h st b hb => by
    have e : b = it := by simpa using hb
    subst e
    obtain ⟨o, e, c, d⟩ := st
    exact ⟨o, e, fun v z => by rw [d] at z; cases z⟩
  keep := fun i h h' st k => st.at fun o e => k it (by simp) o e
  item := by
    intro X hP hw hK hc i pins s σ H E I hf st hg
    subst hP hw hK
    obtain ⟨xs, x, hq, hx⟩ := hg
    obtain ⟨its, rv, p, hz⟩ := I.list hq
    obtain ⟨u, hu, ru⟩ := rv.get hx
    obtain ⟨f0, f1, f2, f3, f4, f5⟩ := hf it (by simp)
    refine wpAny_pyNext_list_item st p.isList (x := u) (by simpa using hu) fun h' st' sb => ?_
    have I1 : Inv X pins σ H { s with heap := h' } := I.turned (t' := s.toks) (fun b o hb e => (sb.2 b hb).trans e) f0 f1 f3 f4 f5
    obtain ⟨o, e, c, d⟩ := id st'
    exact ⟨u, rfl, go_of (s := { s with heap := h' }) e c d (by decide) ⟨x, H, I1, ru, ⟨rfl, fun ys hy => by rw [I.list_inj hy hq]; exact hx⟩, st', fun b hb => (hf b hb).1⟩⟩
  done := by
    intro X hP hw hK hc i pins s σ H E I hf st hg
    subst hP hw hK
    obtain ⟨xs, hq, hx⟩ := hg
    obtain ⟨its, rv, p, hz⟩ := I.list hq
    obtain ⟨f0, f1, f2, f3, f4, f5⟩ := hf it (by simp)
    have hl := rv.length
    exact wpAny_pyNext_list_end (I.ok.hd hc) st p.isList (by simp; omega) fun h' eb => ⟨rfl, I.turned (t' := s.toks) (fun b o hb e => eb b o hb e) f0 f1 f3 f4 f5⟩
  self := fun _ _ _ _ _ st h => wpAny_pyIter_listiter st h
theorem turn_range {P : Program} {w : World} {K : PySem.W.Frag} {tg : Expr} (it : Addr) (lo : Int) (n : Nat) : Turn P w K tg (Itr lo n) [it] it (fun i h => IsRangeIter h it (lo + (i : Nat) * 1) ((n : Int) - (i : Nat)) 1) where
  mem := by simp
  obj := fun i h st b hb => by
    have e : b = it := by simpa using hb
    subst e
    exact ⟨_, st, fun v z => by
      have z' : Data.fields _ = Data.cell v := z
      cases z'⟩
  keep := fun i h h' st k => k it (by simp) _ st
  item := by
    intro X hP hw hK hc i pins s σ H E I hf st hg
    subst hP hw hK
    obtain ⟨f0, f1, f2, f3, f4, f5⟩ := hf it (by simp)
    have W := Walks.range (prog := X.prog) (w := X.w) (I.ok.hd hc) it lo 1 n
    refine W.item i s _ _ hg st fun v h' tk hv st' kk => ?_
    obtain ⟨t, rfl⟩ := hv
    have I1 : Inv X pins σ H { s with heap := h', toks := tk } := I.turned (fun b o hb e => kk b o (by simpa using hb) e) f0 f1 f3 f4 f5
    refine ⟨_, rfl, go_of (s := { s with heap := h', toks := tk }) (n := "range_iterator") st' rfl rfl (by decide) ⟨.int (lo + i), H, I1, ⟨t, ?_⟩, ⟨rfl, rfl⟩, st', fun b hb => (hf b hb).1⟩⟩
    rw [Int.mul_one]
  done := by
    intro X hP hw hK hc i pins s σ H E I hf st hg
    subst hP hw hK
    obtain ⟨f0, f1, f2, f3, f4, f5⟩ := hf it (by simp)
    exact wpAny_pyNext_range_end (I.ok.hd hc) st (by have : n ≤ i := hg; omega) fun h' eb => ⟨rfl, I.turned (t' := s.toks) (fun b o hb e => eb b o hb e) f0 f1 f3 f4 f5⟩
  self := fun _ _ _ _ _ st h => wpAny_pyIter_rangeiter st h
end L2
namespace L2
open PySem PySem.Spec PyProof.Rows
section
variable {X : Cx} {tg : Expr}
def iList (K : PySem.W.Frag) (tl : TE) : TI := fun σ H R => tl σ H fun x H1 => ∃ a, x = .ref a ∧ (∃ xs, SqL K H1 a xs) ∧ R (Itl K a) H1
theorem pi_list {l : Expr} {tl : TE} (hl : PE X l tl) : PI X tg l (iList X.K tl) := by
  intro pins s σ H R I h
  refine thn (hl pins s σ H _ I h) fun v s1 ⟨x, H1, I1, r1, q1⟩ => ?_
  obtain ⟨a, e, ⟨xs, hq⟩, q⟩ := q1
  subst e
  cases r1
  obtain ⟨its, rv, p, hz⟩ := I1.list hq
  refine wpAny_pyIter_list p.isList ?_
  refine ⟨s1.heap.objs.size, [s1.heap.objs.size], _, _, H1, rfl, I1.kept (t' := s1.toks) fun b o e => Heap.get?_push_of_some _ e, turn_list a _, ⟨_, Heap.get?_push_size _ rfl, rfl, rfl⟩, fun b hb => ?_, q⟩
  have e : b = s1.heap.objs.size := by simpa using hb
  subst e
  exact I1.fpOk (Nat.le_refl _) (I1.hok.fresh (Nat.le_refl _))
theorem range_it {pins : List (Addr × Obj)} {σ : St} {H : Hp} {s : Shared} {R : It → Hp → Prop} {E : Value → Shared → Prop} {lo hi : Int} {t u v : Tok} {tk : Nat} (I : Inv X pins σ H s) (h1 : -(2 ^ 62) ≤ lo) (h2 : lo < 2 ^ 62) (h3 : -(2 ^ 62) ≤ hi) (h4 : hi < 2 ^ 62)
    (q : R (Itr lo (hi - lo).toNat) H) : wpAny (model X.prog X.w) X.A (pyIter (.ref s.heap.objs.size)) (PIE X pins σ tg R) E { s with heap := s.heap.push { cls := .type "range", data := .fields #[.int lo t, .int hi u, .int 1 v] }, toks := tk } := by
  refine wpAny_pyIter_range (IsRange.new ..) (small_one h1 h2 h3 h4) ?_
  have I1 : Inv X pins σ H { s with heap := s.heap.push { cls := .type "range", data := .fields #[.int lo t, .int hi u, .int 1 v] }, toks := tk } := I.kept fun b o e => Heap.get?_push_of_some _ e
  refine ⟨(s.heap.push { cls := .type "range", data := .fields #[.int lo t, .int hi u, .int 1 v] }).objs.size, [(s.heap.push { cls := .type "range", data := .fields #[.int lo t, .int hi u, .int 1 v] }).objs.size], _, _, H, rfl,
    I1.kept (t' := tk) fun b o e => Heap.get?_push_of_some _ e, turn_range _ lo (hi - lo).toNat, ?_, fun b hb => ?_, q⟩
  · have e1 : lo + ((0 : Nat) : Int) * 1 = lo := by simp
    have e2 : (((hi - lo).toNat : Nat) : Int) - ((0 : Nat) : Int) = Builtin.Range.rangeSize lo hi 1 := by rw [rangeSize_one]; split <;> omega
    show IsRangeIter _ _ (lo + ((0 : Nat) : Int) * 1) ((((hi - lo).toNat : Nat) : Int) - ((0 : Nat) : Int)) 1
    rw [e1, e2]
    exact Heap.get?_push_size _ rfl
  · have e : b = (s.heap.push { cls := .type "range", data := .fields #[.int lo t, .int hi u, .int 1 v] }).objs.size := by simpa using hb
    subst e
    exact I1.fpOk (Nat.le_refl _) (I1.hok.fresh (Nat.le_refl _))
def iRng1 (ta : TA) : TI := fun σ H R => ta σ H fun vs H1 => ∃ j : Int, vs = [.int j] ∧ -(2 ^ 62) ≤ j ∧ j < 2 ^ 62 ∧ R (Itr 0 j.toNat) H1
theorem pi_range1 {a : Expr} {ta : TA} {p pos : Pos} (hg : Gl X "range") (hm : X.mg "range" = none) (ha : PA X [a] ta) (hs : starEach [a] X.env = [(false, eval a X.env)] := by rfl) : PI X tg (.Call (.Name "range" p) [a] [] pos) (iRng1 ta) := by
  intro pins s σ H R I h
  refine Call_ (ld_blt I hg hm boot_range (PyProof.Rows.callWith_type1 (thn (ha pos pins s σ H _ I h) fun us s1 ⟨vs, H1, I1, r1, q1⟩ => ?_) hs rfl))
  obtain ⟨j, e, q1, q2, q⟩ := q1
  subst e
  cases r1 with
  | cons r rr =>
    cases rr
    obtain ⟨t, rfl⟩ := r
    exact call_range_1 (range_it I1 (by omega) (by omega) q1 q2 (by simpa using q))
def tFor (wi : TI) (g : TG) (tb : TS) : TS := fun D σ H => wi σ H fun J H1 => ∃ W : Nat → Nat → St → Hp → Prop, (∃ m, W 0 m σ H1) ∧ ∀ i m σ H, W i m σ H →
  (J.stop i H ∧ D.nx σ H) ∨ (J.go i H ∧ ∃ N : St → Hp → Prop, (∀ σ' H', N σ' H' → ∃ m', m' < m ∧ W (i + 1) m' σ' H') ∧ ∀ x H', J.yld i H x H' → g x σ H' fun σ2 H2 => tb { D with nx := N, ct := N, bk := D.nx } σ2 H2)
def pinsAt (fp : List Addr) (h : Heap) : List (Addr × Obj) := fp.filterMap fun b => (h.get? b).map fun o => (b, o)
theorem mem_pinsAt {fp : List Addr} {h : Heap} {b : Addr} {o : Obj} (hb : b ∈ fp) (e : h.get? b = some o) : (b, o) ∈ pinsAt fp h := List.mem_filterMap.mpr ⟨b, hb, by rw [e]; rfl⟩
theorem of_pinsAt {fp : List Addr} {h : Heap} {p : Addr × Obj} (hp : p ∈ pinsAt fp h) : p.1 ∈ fp ∧ h.get? p.1 = some p.2 := by
  obtain ⟨b, hb, e⟩ := List.mem_filterMap.mp hp
  cases q : h.get? b with
  | none => rw [q] at e; cases e
  | some o =>
    rw [q] at e
    have e' : (b, o) = p := Option.some.inj e
    subst e'
    exact ⟨hb, q⟩
theorem Inv.pinned {pins : List (Addr × Obj)} {σ : St} {H : Hp} {s : Shared} {fp : List Addr} (I : Inv X pins σ H s) (hf : ∀ b ∈ fp, FpOk X pins H b) (ho : ∀ b ∈ fp, ∃ o, s.heap.get? b = some o ∧ ∀ v, o.data ≠ .cell v) : Inv X (pins ++ pinsAt fp s.heap) σ H s :=
  I.pins_of fun p hp => (List.mem_append.mp hp).elim (fun z => I.pin p (List.mem_append_right _ z)) fun z => by
    obtain ⟨hb, e⟩ := of_pinsAt z
    obtain ⟨f0, f1, f2, _⟩ := hf p.1 hb
    obtain ⟨o, e', d⟩ := ho p.1 hb
    rw [e] at e'; cases e'
    exact ⟨e, f0, f1, f2, d⟩
theorem Inv.unpinned {pins pl : List (Addr × Obj)} {σ : St} {H : Hp} {s : Shared} (I : Inv X (pins ++ pl) σ H s) : Inv X pins σ H s := I.pins_of fun p hp => I.pin p (List.mem_append_right _ (List.mem_append_left _ hp))
theorem ps_for {iter : Expr} {body : List Stmt} {wi : TI} {g : TG} {tb : TS} {pos : Pos} (hp : PassesOwn (model X.prog X.w) X.A X.env X.xe) (hc : X.calm = true) (hi : PI X tg iter wi) (hg : PG X tg g) (hb : PSs X body tb)
    (hs : ∀ x, foldedSetIterable iter X.env x = pure x := by intro _; rfl) : PS X (.For tg iter body [] pos) (tFor wi g tb) := by
  intro pins s σ H D I h
  refine wpAny_For (thn (hi pins s σ H _ I h) fun v s1 h1 => thn h1 fun itv s2 h2 => ?_) hs
  obtain ⟨it, fp, tn, J, H2, e, I2, T, st2, f2, W, ⟨m0, w0⟩, turn⟩ := h2
  subst e
  have stat : ∀ {H' : Hp}, (∀ b ∈ fp, H' b = none) → ∀ b ∈ fp, FpOk X pins H' b := fun hn b hb => ⟨hn b hb, (f2 b hb).2⟩
  refine codeAny_forLoop_any (fun n s' => ∃ i σ' H', Inv X pins σ' H' s' ∧ tn i s'.heap ∧ (∀ b ∈ fp, H' b = none) ∧ W i n σ' H') ?_ m0 ⟨0, σ, H2, I2, st2, fun b hb => (f2 b hb).1, w0⟩
  rintro n s3 ⟨i, σ3, H3, I3, st3, fr3, w3⟩
  rcases turn i n σ3 H3 w3 with ⟨stop, qn⟩ | ⟨go, N, hN, step⟩
  · refine wpAny_passesOwn hp (thn (T.done X rfl rfl rfl hc i pins s3 σ3 H3 X.xe I3 (stat fr3) st3 stop) fun r s4 ⟨hr, I4⟩ => ?_)
    subst hr
    exact wpAny_execs_nil ⟨σ3, H3, I4, qn⟩
  · refine wpAny_passesOwn hp (thn (T.item X rfl rfl rfl hc i pins s3 σ3 H3 X.xe I3 (stat fr3) st3 go) fun r s4 ⟨u, hr, h4⟩ => ?_)
    subst hr
    refine wpAny_passesOwn hp (thn h4 fun _ s5 ⟨x, H5, I5, r5, y5, st5, fr5⟩ => ?_)
    have I5' := I5.pinned (stat fr5) (T.obj _ _ st5)
    refine wpAny_passesOwn hp (thn (hg _ s5 σ3 H5 x u _ I5' r5 (step x H5 y5)) fun _ s6 ⟨σ6, H6, I6, q6⟩ => ?_)
    refine wpAny_passesOwn hp (thn (hb _ s6 σ6 H6 _ I6 q6) fun f s7 q7 => ?_)
    have again : ∀ {σ7 : St} {H7 : Hp}, Inv X (pins ++ pinsAt fp s5.heap) σ7 H7 s7 → N σ7 H7 → ∃ m, m < n ∧ ∃ i σ' H', Inv X pins σ' H' s7 ∧ tn i s7.heap ∧ (∀ b ∈ fp, H' b = none) ∧ W i m σ' H' := fun {σ7 H7} I7 n7 => by
      obtain ⟨m', hm, w7⟩ := hN σ7 H7 n7
      refine ⟨m', hm, i + 1, σ7, H7, I7.unpinned, T.keep _ _ _ st5 fun b hb o e => (I7.pin (b, o) (List.mem_append_right _ (List.mem_append_right _ (mem_pinsAt hb e)))).1, fun b hb => ?_, w7⟩
      obtain ⟨o, e, d⟩ := T.obj _ _ st5 b hb
      exact (I7.pin (b, o) (List.mem_append_right _ (List.mem_append_right _ (mem_pinsAt hb e)))).2.1
    cases f with
    | next => obtain ⟨σ7, H7, I7, n7⟩ := q7; exact again I7 n7
    | cont => obtain ⟨σ7, H7, I7, n7⟩ := q7; exact again I7 n7
    | brk => obtain ⟨σ7, H7, I7, q7⟩ := q7; exact ⟨σ7, H7, I7.unpinned, q7⟩
    | ret v => obtain ⟨x7, σ7, H7, I7, r7, q7⟩ := q7; exact ⟨x7, σ7, H7, I7.unpinned, r7, q7⟩
end
theorem for_list {K : PySem.W.Frag} {a : Addr} {xs : List V} {g : TG} {tb : TS} {D : Ends} {σ : St} {H : Hp} (Pv : Nat → St → Hp → Prop) (h0 : Pv 0 σ H) (hl : ∀ i σ H, i ≤ xs.length → Pv i σ H → SqL K H a xs)
    (hs : ∀ i x σ H, xs[i]? = some x → Pv i σ H → g x σ H fun σ2 H2 => tb { D with nx := Pv (i + 1), ct := Pv (i + 1), bk := D.nx } σ2 H2) (hd : ∀ σ H, Pv xs.length σ H → D.nx σ H) :
    ∃ W : Nat → Nat → St → Hp → Prop, (∃ m, W 0 m σ H) ∧ ∀ i m σ H, W i m σ H →
      ((Itl K a).stop i H ∧ D.nx σ H) ∨ ((Itl K a).go i H ∧ ∃ N : St → Hp → Prop, (∀ σ' H', N σ' H' → ∃ m', m' < m ∧ W (i + 1) m' σ' H') ∧ ∀ x H', (Itl K a).yld i H x H' → g x σ H' fun σ2 H2 => tb { D with nx := N, ct := N, bk := D.nx } σ2 H2) := by
  refine ⟨fun i m σ H => m = xs.length - i ∧ i ≤ xs.length ∧ Pv i σ H, ⟨xs.length, by simp, Nat.zero_le _, h0⟩, ?_⟩
  rintro i m σ H ⟨rfl, hi, p⟩
  have q := hl i σ H hi p
  by_cases hlt : i < xs.length
  · refine .inr ⟨⟨xs, xs[i], q, by simp [hlt]⟩, Pv (i + 1), fun σ' H' p' => ⟨xs.length - (i + 1), by omega, rfl, hlt, p'⟩, fun x H' y => ?_⟩
    obtain ⟨e, y⟩ := y
    subst e
    exact hs i x σ _ (y xs q) p
  · have e : i = xs.length := by omega
    subst e
    exact .inl ⟨⟨xs, q, Nat.le_refl _⟩, hd σ H p⟩
theorem for_range {lo : Int} {n : Nat} {g : TG} {tb : TS} {D : Ends} {σ : St} {H : Hp} (Pv : Nat → St → Hp → Prop) (h0 : Pv 0 σ H)
    (hs : ∀ i σ H, i < n → Pv i σ H → g (.int (lo + i)) σ H fun σ2 H2 => tb { D with nx := Pv (i + 1), ct := Pv (i + 1), bk := D.nx } σ2 H2) (hd : ∀ σ H, Pv n σ H → D.nx σ H) :
    ∃ W : Nat → Nat → St → Hp → Prop, (∃ m, W 0 m σ H) ∧ ∀ i m σ H, W i m σ H →
      ((Itr lo n).stop i H ∧ D.nx σ H) ∨ ((Itr lo n).go i H ∧ ∃ N : St → Hp → Prop, (∀ σ' H', N σ' H' → ∃ m', m' < m ∧ W (i + 1) m' σ' H') ∧ ∀ x H', (Itr lo n).yld i H x H' → g x σ H' fun σ2 H2 => tb { D with nx := N, ct := N, bk := D.nx } σ2 H2) := by
  refine ⟨fun i m σ H => m = n - i ∧ i ≤ n ∧ Pv i σ H, ⟨n, by simp, Nat.zero_le _, h0⟩, ?_⟩
  rintro i m σ H ⟨rfl, hi, p⟩
  by_cases hlt : i < n
  · refine .inr ⟨hlt, Pv (i + 1), fun σ' H' p' => ⟨n - (i + 1), by omega, rfl, hlt, p'⟩, fun x H' y => ?_⟩
    obtain ⟨e, y⟩ := y
    subst e y
    exact hs i σ _ hlt p
  · have e : i = n := by omega
    subst e
    exact .inl ⟨Nat.le_refl _, hd σ H p⟩
end L2
namespace L2
open PySem PySem.Spec PyProof.Rows
abbrev R2 := V → V → Hp → VK → Prop
def OpR (X : Cx) (f : Value → Value → Sem Value) (r : R2) : Prop :=
  ∀ (pins : List (Addr × Obj)) (s : Shared) (σ : St) (H : Hp) (x y : V) (v u : Value) (Q : VK), Inv X pins σ H s → RelV x v → RelV y u → r x y H Q →
    wpAny (model X.prog X.w) X.A (f v u) (EP X pins σ Q) X.xe s
def CallR (X : Cx) (f : Value) (r : List V → Hp → VK → Prop) : Prop :=
  ∀ (pins : List (Addr × Obj)) (s : Shared) (σ : St) (H : Hp) (xs : List V) (us : List Value) (Q : VK), Inv X pins σ H s → Vals xs us → r xs H Q →
    wpAny (model X.prog X.w) X.A (call f us) (EP X pins σ Q) X.xe s
def TruR (X : Cx) (r : V → Hp → (Bool → Hp → Prop) → Prop) : Prop :=
  ∀ (pins : List (Addr × Obj)) (s : Shared) (σ : St) (H : Hp) (x : V) (v : Value) (Q : Bool → Hp → Prop), Inv X pins σ H s → RelV x v → r x H Q →
    wpAny (model X.prog X.w) X.A (truthy v) (TP X pins σ Q) X.xe s
def tOp (r : R2) (ta tb : TE) : TE := fun σ H Q => ta σ H fun x H1 => tb σ H1 fun y H2 => r x y H2 Q
def rI (C : Int → Int → Prop) (g : Int → Int → V) : R2 := fun x y H Q => ∃ i j, x = .int i ∧ y = .int j ∧ C i j ∧ Q (g i j) H
def rI0 (g : Int → Int → V) : R2 := fun x y H Q => ∃ i j, x = .int i ∧ y = .int j ∧ Q (g i j) H
section
variable {X : Cx} {a b c : Expr} {ta tb tc : TE} {pos : Pos}
theorem binT (ha : PE X a ta) (hb : PE X b tb) {pins : List (Addr × Obj)} {s : Shared} {σ : St} {H : Hp} {R : V → V → Hp → Prop} (I : Inv X pins σ H s)
    (h : ta σ H fun x H1 => tb σ H1 fun y H2 => R x y H2) {Q : Value → Shared → Prop} {f : Value → Value → Sem Value}
    (hf : ∀ v u s2 x y H2, Inv X pins σ H2 s2 → RelV x v → RelV y u → R x y H2 → wpAny (model X.prog X.w) X.A (f v u) Q X.xe s2) :
    wpAny (model X.prog X.w) X.A (eval a X.env) (fun v s₁ => wpAny (model X.prog X.w) X.A (eval b X.env) (fun u s₂ => wpAny (model X.prog X.w) X.A (f v u) Q X.xe s₂) X.xe s₁) X.xe s := by
  refine thn (ha pins s σ H _ I h) fun v s1 ⟨x, H1, I1, r1, q1⟩ => ?_
  refine thn (hb pins s1 σ H1 _ I1 q1) fun u s2 ⟨y, H2, I2, r2, q2⟩ => ?_
  exact hf v u s2 x y H2 I2 r1 r2 q2
theorem pe_op {op : Operator} {r : R2} (ho : OpR X (binaryOp op) r) (ha : PE X a ta) (hb : PE X b tb) : PE X (.BinOp a op b pos) (tOp r ta tb) := by
  intro pins s σ H Q I h
  exact wpAny_BinOp (binT ha hb I h fun v u s2 x y H2 I2 rx ry q => ho pins s2 σ H2 x y v u Q I2 rx ry q)
theorem opI {f : Value → Value → Sem Value} {C : Int → Int → Prop} {g : Int → Int → Int}
    (rule : ∀ (i j : Int) (t u : Tok) (s : Shared) (Q : Value → Shared → Prop) (E : Value → Shared → Prop), C i j → Q (.int (g i j) s.toks) { s with toks := s.toks + 1 } → wpAny (model X.prog X.w) X.A (f (.int i t) (.int j u)) Q E s) :
    OpR X f (rI C fun i j => .int (g i j)) := by
  intro pins s σ H x y v u Q I rx ry h
  obtain ⟨i, j, rfl, rfl, hc, q⟩ := h
  obtain ⟨t, rfl⟩ := rx
  obtain ⟨t', rfl⟩ := ry
  exact rule i j t t' s _ _ hc ⟨.int (g i j), H, I.tok _, ⟨_, rfl⟩, q⟩
theorem opI0 {f : Value → Value → Sem Value} {g : Int → Int → Int}
    (rule : ∀ (i j : Int) (t u : Tok) (s : Shared) (Q : Value → Shared → Prop) (E : Value → Shared → Prop), Q (.int (g i j) s.toks) { s with toks := s.toks + 1 } → wpAny (model X.prog X.w) X.A (f (.int i t) (.int j u)) Q E s) :
    OpR X f (rI0 fun i j => .int (g i j)) := by
  intro pins s σ H x y v u Q I rx ry h
  obtain ⟨i, j, rfl, rfl, q⟩ := h
  obtain ⟨t, rfl⟩ := rx
  obtain ⟨t', rfl⟩ := ry
  exact rule i j t t' s _ _ ⟨.int (g i j), H, I.tok _, ⟨_, rfl⟩, q⟩
theorem opB0 {f : Value → Value → Sem Value} {g : Int → Int → Bool}
    (rule : ∀ (i j : Int) (t u : Tok) (s : Shared) (Q : Value → Shared → Prop) (E : Value → Shared → Prop), Q (.bool (g i j)) s → wpAny (model X.prog X.w) X.A (f (.int i t) (.int j u)) Q E s) :
    OpR X f (rI0 fun i j => .bl (g i j)) := by
  intro pins s σ H x y v u Q I rx ry h
  obtain ⟨i, j, rfl, rfl, q⟩ := h
  obtain ⟨t, rfl⟩ := rx
  obtain ⟨t', rfl⟩ := ry
  exact rule i j t t' s _ _ ⟨.bl (g i j), H, I, rfl, q⟩
def CDiv (i j : Int) : Prop := 0 < j ∧ j < 1073741824
def CPow (i j : Int) : Prop := 0 ≤ j ∧ j ≤ 1000000 ∧ i.natAbs < 2 ^ 64
def CMul (i j : Int) : Prop := (-(2 ^ 64) < i ∧ i < 2 ^ 64) ∨ (-(2 ^ 64) < j ∧ j < 2 ^ 64)
theorem CMul.ok {i j : Int} (h : CMul i j) : IntMulOk i j := by
  rcases h with ⟨h1, h2⟩ | ⟨h1, h2⟩
  · exact .of_left (intBits_le_64 h1 h2)
  · exact .of_right (intBits_le_64 h1 h2)
theorem two_pow_nn (k : Nat) : (0 : Int) ≤ 2 ^ k := by
  rw [two_pow_cast]
  exact Int.natCast_nonneg _
theorem op_add : OpR X (binaryOp .Add) (rI0 fun i j => .int (i + j)) := opI0 fun _ _ _ _ _ _ _ q => add_int q
theorem op_sub : OpR X (binaryOp .Sub) (rI0 fun i j => .int (i - j)) := opI0 fun _ _ _ _ _ _ _ q => sub_int q
theorem op_mul : OpR X (binaryOp .Mult) (rI CMul fun i j => .int (i * j)) := opI fun _ _ _ _ _ _ _ hc q => mul_int q hc.ok
theorem op_fdiv : OpR X (binaryOp .FloorDiv) (rI CDiv fun i j => .int (i / j)) := opI fun i j _ _ _ _ _ hc q => by
  have h1 : (0 : Int) < j := hc.1
  have h2 : j < 1073741824 := hc.2
  exact floordiv_int (by omega) (by rw [Int.fdiv_eq_ediv_of_nonneg i (by omega)]; exact q) (.inl (PyProof.noPylong_small (by omega)))
theorem op_mod : OpR X (binaryOp .Mod) (rI (fun _ j => 0 < j) fun i j => .int (i % j)) := opI fun i j _ _ _ _ _ hc q => by
  have h1 : (0 : Int) < j := hc
  exact mod_int' (by omega) (by rw [Int.fmod_eq_emod_of_nonneg i (by omega)]; exact q)
theorem op_pow : OpR X (binaryOp .Pow) (rI CPow fun i j => .int (i ^ j.toNat)) := opI fun _ _ _ _ _ _ _ hc q => pow_int_small hc.1 hc.2.1 hc.2.2 q
theorem op_shr : OpR X (binaryOp .RShift) (rI (fun _ j => 0 ≤ j) fun i j => .int (i / 2 ^ j.toNat)) := opI fun i j _ _ _ _ _ hc q =>
  rshift_int hc (by rw [Int.fdiv_eq_ediv_of_nonneg i (two_pow_nn _)]; exact q)
end
def scal : V → V → Bool
  | .non, .non => true | .non, .int _ => true | .int _, .non => true | .non, .bl _ => true | .bl _, .non => true | .non, .str _ => true | .str _, .non => true
  | .int _, .int _ => true | .bl _, .bl _ => true | .str _, .str _ => true | .byt _, .byt _ => true
  | .int _, .str _ => true | .str _, .int _ => true | .bl _, .str _ => true | .str _, .bl _ => true
  | _, _ => false
def rEq : R2 := fun x y H Q => scal x y = true ∧ Q (.bl (decide (x = y))) H
def rNe : R2 := fun x y H Q => scal x y = true ∧ Q (.bl (!decide (x = y))) H
theorem dec_int {i j : Int} : decide (V.int i = V.int j) = (i == j) := by
  rw [Bool.eq_iff_iff]
  simp
theorem dec_bl {i j : Bool} : decide (V.bl i = V.bl j) = (i == j) := by
  rw [Bool.eq_iff_iff]
  simp
theorem dec_str {i j : Str} : decide (V.str i = V.str j) = (i == j) := by
  rw [Bool.eq_iff_iff]
  simp
theorem dec_byt {i j : Array UInt8} : decide (V.byt i = V.byt j) = (i.toList == j.toList) := by
  rw [Bool.eq_iff_iff]
  cases i
  cases j
  simp
section
variable {X : Cx} {a b c : Expr} {ta tb tc : TE} {pos : Pos}
theorem fin_bl {pins : List (Addr × Obj)} {σ : St} {H : Hp} {s : Shared} {Q : VK} {k k' : Bool} (I : Inv X pins σ H s) (q : Q (.bl k) H) (e : k = k') : EP X pins σ Q (.bool k') s := by
  subst e
  exact ⟨.bl k, H, I, rfl, q⟩
theorem op_eq : OpR X (compareOp .Eq) rEq := by
  intro pins s σ H x y v u Q I rx ry h
  obtain ⟨hs, q⟩ := h
  cases x with
  | non =>
    cases rx
    cases y with
    | non => cases ry; exact PySem.EqNone.eq_none_none (fin_bl I q (by simp))
    | bl j => cases ry; exact PySem.EqNone.eq_none_bool (fin_bl I q (by simp))
    | int j => obtain ⟨t', rfl⟩ := ry; exact PySem.EqNone.eq_none_int (fin_bl I q (by simp))
    | str j => obtain ⟨t', rfl⟩ := ry; exact PySem.EqNone.eq_none_str (fin_bl I q (by simp))
    | _ => exact absurd (show false = true from hs) Bool.false_ne_true
  | bl i =>
    cases rx
    cases y with
    | non => cases ry; exact PySem.EqNone.eq_bool_none (fin_bl I q (by simp))
    | bl j => cases ry; exact eq_bool (fin_bl I q dec_bl)
    | str j => obtain ⟨t', rfl⟩ := ry; exact PySem.EqMixed.eq_bool_str (fin_bl I q (by simp))
    | _ => exact absurd (show false = true from hs) Bool.false_ne_true
  | int i =>
    obtain ⟨t, rfl⟩ := rx
    cases y with
    | non => cases ry; exact PySem.EqNone.eq_int_none (fin_bl I q (by simp))
    | int j => obtain ⟨t', rfl⟩ := ry; exact eq_int (fin_bl I q dec_int)
    | str j => obtain ⟨t', rfl⟩ := ry; exact PySem.EqMixed.eq_int_str (fin_bl I q (by simp))
    | _ => exact absurd (show false = true from hs) Bool.false_ne_true
  | str i =>
    obtain ⟨t, rfl⟩ := rx
    cases y with
    | non => cases ry; exact PySem.EqNone.eq_str_none (fin_bl I q (by simp))
    | bl j => cases ry; exact PySem.EqMixed.eq_str_bool (fin_bl I q (by simp))
    | int j => obtain ⟨t', rfl⟩ := ry; exact PySem.EqMixed.eq_str_int (fin_bl I q (by simp))
    | str j => obtain ⟨t', rfl⟩ := ry; exact eq_str (fin_bl I q dec_str)
    | _ => exact absurd (show false = true from hs) Bool.false_ne_true
  | byt i =>
    obtain ⟨t, rfl⟩ := rx
    cases y with
    | byt j => obtain ⟨t', rfl⟩ := ry; exact PySem.W.eq_bytes (fin_bl I q dec_byt)
    | _ => exact absurd (show false = true from hs) Bool.false_ne_true
  | _ => cases y <;> exact absurd (show false = true from hs) Bool.false_ne_true
theorem op_ne : OpR X (compareOp .NotEq) rNe := by
  intro pins s σ H x y v u Q I rx ry h
  obtain ⟨hs, q⟩ := h
  cases x with
  | non =>
    cases rx
    cases y with
    | non => cases ry; exact PySem.EqNone.ne_none_none (fin_bl I q (by simp))
    | bl j => cases ry; exact PySem.EqNone.ne_none_bool (fin_bl I q (by simp))
    | int j => obtain ⟨t', rfl⟩ := ry; exact PySem.EqNone.ne_none_int (fin_bl I q (by simp))
    | str j => obtain ⟨t', rfl⟩ := ry; exact PySem.EqNone.ne_none_str (fin_bl I q (by simp))
    | _ => exact absurd (show false = true from hs) Bool.false_ne_true
  | bl i =>
    cases rx
    cases y with
    | non => cases ry; exact PySem.EqNone.ne_bool_none (fin_bl I q (by simp))
    | bl j => cases ry; exact ne_bool (fin_bl I q (congrArg not dec_bl))
    | str j => obtain ⟨t', rfl⟩ := ry; exact PySem.EqMixed.ne_bool_str (fin_bl I q (by simp))
    | _ => exact absurd (show false = true from hs) Bool.false_ne_true
  | int i =>
    obtain ⟨t, rfl⟩ := rx
    cases y with
    | non => cases ry; exact PySem.EqNone.ne_int_none (fin_bl I q (by simp))
    | int j => obtain ⟨t', rfl⟩ := ry; exact ne_int (fin_bl I q (congrArg not dec_int))
    | str j => obtain ⟨t', rfl⟩ := ry; exact PySem.EqMixed.ne_int_str (fin_bl I q (by simp))
    | _ => exact absurd (show false = true from hs) Bool.false_ne_true
  | str i =>
    obtain ⟨t, rfl⟩ := rx
    cases y with
    | non => cases ry; exact PySem.EqNone.ne_str_none (fin_bl I q (by simp))
    | bl j => cases ry; exact PySem.EqMixed.ne_str_bool (fin_bl I q (by simp))
    | int j => obtain ⟨t', rfl⟩ := ry; exact PySem.EqMixed.ne_str_int (fin_bl I q (by simp))
    | str j => obtain ⟨t', rfl⟩ := ry; exact ne_str (fin_bl I q (congrArg not dec_str))
    | _ => exact absurd (show false = true from hs) Bool.false_ne_true
  | byt i =>
    obtain ⟨t, rfl⟩ := rx
    cases y with
    | byt j => obtain ⟨t', rfl⟩ := ry; exact PySem.W.ne_bytes (fin_bl I q (congrArg not dec_byt))
    | _ => exact absurd (show false = true from hs) Bool.false_ne_true
  | _ => cases y <;> exact absurd (show false = true from hs) Bool.false_ne_true
theorem op_lt : OpR X (compareOp .Lt) (rI0 fun i j => .bl (decide (i < j))) := opB0 fun _ _ _ _ _ _ _ q => lt_int q
theorem op_gt : OpR X (compareOp .Gt) (rI0 fun i j => .bl (decide (j < i))) := opB0 fun _ _ _ _ _ _ _ q => gt_int q
theorem op_ge : OpR X (compareOp .GtE) (rI0 fun i j => .bl (decide (j ≤ i))) := opB0 fun _ _ _ _ _ _ _ q => ge_int q
theorem op_isN : OpR X (compareOp .Is) (fun x y H Q => y = .non ∧ Q (.bl (decide (x = .non))) H) := by
  intro pins s σ H x y v u Q I rx ry h
  obtain ⟨rfl, q⟩ := h
  cases ry
  refine is_none_gen (fin_bl I q ?_)
  cases x <;> first
    | (cases rx; rfl)
    | (obtain ⟨t, rfl⟩ := rx; rfl)
theorem op_notN : OpR X (compareOp .IsNot) (fun x y H Q => y = .non ∧ Q (.bl (!decide (x = .non))) H) := by
  intro pins s σ H x y v u Q I rx ry h
  obtain ⟨rfl, q⟩ := h
  cases ry
  refine isnot_none_gen (fin_bl I q ?_)
  cases x <;> first
    | (cases rx; rfl)
    | (obtain ⟨t, rfl⟩ := rx; rfl)
theorem nomark (b : Expr) {op : CmpOp} (h : op ≠ .In := by decide) (h2 : op ≠ .NotIn := by decide) : behindInMarks op b = false := by
  have e1 : (op == CmpOp.In) = false := by cases op <;> first | rfl | exact absurd rfl h
  have e2 : (op == CmpOp.NotIn) = false := by cases op <;> first | rfl | exact absurd rfl h2
  cases b <;> simp [behindInMarks, e1, e2]
theorem pe_cmpR {op : CmpOp} {r : R2} (ho : OpR X (compareOp op) r) (ha : PE X a ta) (hb : PE X b tb) (hm : behindInMarks op b = false) : PE X (.Compare a [op] [b] pos) (tOp r ta tb) := by
  intro pins s σ H Q I h
  exact wpAny_Compare1 (binT ha hb I h fun v u s2 x y H2 I2 rx ry q => ho pins s2 σ H2 x y v u Q I2 rx ry q) hm
def tTest (t : TE) : TT := fun σ H Q => t σ H fun x H' => ∃ k, x = .bl k ∧ Q k H'
theorem pt_cmpR {op : CmpOp} {r : R2} (ho : OpR X (compareOp op) r) (ha : PE X a ta) (hb : PE X b tb) (hm : behindInMarks op b = false) : PT X (.Compare a [op] [b] pos) (tTest (tOp r ta tb)) := by
  intro pins s σ H Q I h
  refine wpAny_isTrue_Compare1 (thn (ha pins s σ H _ I h) fun v s1 ⟨x, H1, I1, r1, q1⟩ => thn (hb pins s1 σ H1 _ I1 q1) fun u s2 ⟨y, H2, I2, r2, q2⟩ =>
    thn (ho pins s2 σ H2 x y v u _ I2 r1 r2 q2) fun c s3 ⟨z, H3, I3, r3, k, e, q3⟩ => ?_) hm
  subst e
  cases r3
  exact wpAny_truthy_bool ⟨H3, I3, q3⟩
def TruV (K : PySem.W.Frag) (x : V) (H : Hp) (k : Bool) : Prop :=
  match x with
  | .non => k = false
  | .bl b => k = b
  | .int i => k = (i != 0)
  | .str y => y.length ≤ sizeLine ∧ k = ((y.length : Int) != 0)
  | .byt y => y.size ≤ sizeLine ∧ k = ((y.size : Int) != 0)
  | .ref p => (∃ xs, SqL K H p xs ∧ k = !xs.isEmpty) ∨ (∃ xs, SqT K H p xs ∧ k = !xs.isEmpty) ∨ ∃ kvs, H p = some (.dK kvs) ∧ k = !kvs.isEmpty
  | _ => False
theorem line63 : (sizeLine : Nat) < 2 ^ 63 := by rw [sizeLine_eq]; decide
theorem vals1 {x : V} {us : List Value} (r : Vals [x] us) : ∃ u, us = [u] ∧ RelV x u := by
  cases r with
  | cons r1 r2 => cases r2; exact ⟨_, rfl, r1⟩
theorem vals2 {x y : V} {us : List Value} (r : Vals [x, y] us) : ∃ u w', us = [u, w'] ∧ RelV x u ∧ RelV y w' := by
  cases r with
  | cons r1 r2 =>
    cases r2 with
    | cons r3 r4 => cases r4; exact ⟨_, _, rfl, r1, r3⟩
theorem call_max2 (hc : X.calm = true) : CallR X (.builtin "max") (fun xs H Q => ∃ i j, xs = [.int i, .int j] ∧ Q (.int (if j > i then j else i)) H) := by
  intro pins s σ H xs us Q I r h
  obtain ⟨i, j, rfl, q⟩ := h
  obtain ⟨u, w', rfl, ⟨t, rfl⟩, ⟨t', rfl⟩⟩ := vals2 r
  refine max_two_ints (I.ok.hd hc) fun h' tk k => ⟨_, H, I.kept k, ?_, q⟩
  by_cases hj : j > i
  · rw [if_pos hj, if_pos hj]; exact ⟨_, rfl⟩
  · rw [if_neg hj, if_neg hj]; exact ⟨_, rfl⟩
def LenV (K : PySem.W.Frag) (x : V) (H : Hp) (n : Nat) : Prop :=
  match x with
  | .str y => y.length ≤ sizeLine ∧ n = y.length
  | .byt y => y.size ≤ sizeLine ∧ n = y.size
  | .ref p => (∃ xs, SqL K H p xs ∧ n = xs.length) ∨ ∃ xs, SqT K H p xs ∧ n = xs.length
  | _ => False
theorem call_len : CallR X (.builtin "len") (fun xs H Q => ∃ x n, xs = [x] ∧ LenV X.K x H n ∧ Q (.int n) H) := by
  intro pins s σ H xs us Q I r h
  obtain ⟨x, n, rfl, e, q⟩ := h
  obtain ⟨u, rfl, rx⟩ := vals1 r
  have hl := line63
  have hs : sizeLine = 16777216 := sizeLine_eq
  cases x with
  | str y =>
    obtain ⟨t, rfl⟩ := rx
    obtain ⟨hy, e'⟩ : y.length ≤ sizeLine ∧ n = y.length := e
    subst e'
    exact len_str (by omega) ⟨.int _, H, I.tok _, ⟨_, rfl⟩, q⟩
  | byt y =>
    obtain ⟨t, rfl⟩ := rx
    obtain ⟨hy, e'⟩ : y.size ≤ sizeLine ∧ n = y.size := e
    subst e'
    exact PySem.W.len_bytes (by omega) ⟨.int _, H, I.tok _, ⟨_, rfl⟩, q⟩
  | ref p =>
    cases rx
    have e' : (∃ xs, SqL X.K H p xs ∧ n = xs.length) ∨ ∃ xs, SqT X.K H p xs ∧ n = xs.length := e
    rcases e' with ⟨xs, hx, e'⟩ | ⟨xs, hx, e'⟩
    · subst e'
      obtain ⟨its, r', pl, hz⟩ := I.list hx
      have hlen := r'.length
      exact Calls.call_len_list pl.isList (by simp only [List.size_toArray]; omega) ⟨.int xs.length, H, I.tok _, ⟨_, by simp only [List.size_toArray]; rw [hlen]⟩, q⟩
    · subst e'
      obtain ⟨its, r', pl, hz⟩ := I.tuple hx
      have hlen := r'.length
      exact len_tuple pl (by simp only [List.size_toArray]; omega) ⟨.int xs.length, H, I.tok _, ⟨_, by simp only [List.size_toArray]; rw [hlen]⟩, q⟩
  | _ => exact (show False from e).elim
end
end L2
namespace L2
open PySem PySem.Spec PyProof.Rows
structure ObjM (h : Heap) (x dx C : Addr) (mA : Str → Option Value) : Prop where
  obj : h.get? x = some (PySem.W.instObj C dx)
  ns : h.Ns1 dx mA
  ne : dx ≠ x
theorem lookIn_ns {h : Heap} {dx : Addr} {mA : Str → Option Value} (n : h.Ns1 dx mA) : ∃ od, h.get? dx = some od ∧ ∀ name, PySem.W.lookIn name od = some (mA name) := by
  obtain ⟨o, es, ep, ho, hd, hk, _, hm⟩ := n
  refine ⟨o, ho, fun name => ?_⟩
  have e := hm name
  unfold nsFind findBy at e
  rw [← Array.find?_toList] at e
  unfold PySem.W.lookIn
  rw [hd]
  dsimp only
  split
  · rename_i y q
    rw [q] at e
    exact congrArg some e
  · rename_i q
    rw [q] at e
    have a : es.toList.any (·.refKey) = false := by
      rw [List.any_eq_false]
      intro y hy
      obtain ⟨z, t, hkey⟩ := hk y (Array.mem_toList_iff.mp hy)
      simp [DictEntry.refKey, hkey]
    have a' : ¬ es.toList.any (·.refKey) = true := by rw [a]; exact Bool.false_ne_true
    rw [if_neg a']
    exact congrArg some e
theorem ObjM.look {h : Heap} {x dx C : Addr} {mA : Str → Option Value} (I : ObjM h x dx C mA) : ∃ od, PySem.W.InstAt h x (PySem.W.instObj C dx) C (some od) ∧ ∀ name, PySem.W.lookIn name od = some (mA name) :=
  let ⟨od, ho, hl⟩ := lookIn_ns I.ns
  ⟨od, ⟨I.obj, rfl, rfl, ho⟩, hl⟩
section
variable {prog : Program} {w : World} {A : Around} {E : Value → Shared → Prop} {s : Shared} {K : PySem.W.Frag} {x dx C f : Addr} {mA : Str → Option Value} {name : Str} {v : Value}
theorem get_map {expr : Bool} {Q : Value → Shared → Prop} (X : K.In s.heap) (I : ObjM s.heap x dx C mA) (hg : PySem.W.plainGet K C name = true) (hh : PySem.W.hasDictIn K C = true)
    (ha : PySem.W.findIn K (.ref C) name = some none) (hv : mA name = some v) (hv' : PySem.W.handedIn v = true) (h : Q v { s with toks := s.toks + 1 }) :
    wpAny (model prog w) A (getAttr (.ref x) name expr) Q E s := by
  obtain ⟨od, J, hl⟩ := I.look
  exact PySem.W.get_value X J (PySem.W.plainGet_of hg).1 (PySem.W.findObj_own hh ha rfl (by rw [hl, hv])) hv' h
theorem get_meth {pl : Sem Bool} {Q : Value × List Value → Shared → Prop} (X : K.In s.heap) (I : ObjM s.heap x dx C mA) (hg : PySem.W.plainGet K C name = true)
    (hf : PySem.W.findIn K (.ref C) name = some (some (.ref f))) (ht : PySem.W.isFn K (.ref f) = true) (hv : mA name = none) (h : Q (.ref f, [.ref x]) s) :
    wpAny (model prog w) A (getMethod (.ref x) name pl) Q E s := by
  obtain ⟨od, J, hl⟩ := I.look
  exact PySem.W.method_fn X J (PySem.W.plainGet_of hg).1 (PySem.W.plainGet_of hg).2 hf (beq_iff_eq.mp ht) (by show (PySem.W.lookIn name od).map (·.isSome) = some false; rw [hl, hv]; rfl) h
theorem set_map {ns : List Str} {Q : Unit → Shared → Prop} (X : K.In s.heap) (I : ObjM s.heap x dx C mA)
    (hs : PySem.W.findIn K (.ref C) "__setattr__" = some (some (.builtin "object.__setattr__"))) (hp : PySem.W.plainOver K C = true) (ht : PySem.W.takerIn K C name = some none) (hh : PySem.W.hasDictIn K C = true)
    (hw : PySem.Within mA ns) (hsz : ns.length ≤ sizeLine)
    (h : ∀ h', ObjM h' x dx C (fun y => if y = name then some v else mA y) → Heap.SameBut dx s.heap h' → Q () { s with heap := h', toks := s.toks + 2 }) :
    wpAny (model prog w) A (setAttr (.ref x) name v) Q E s := by
  obtain ⟨od, J, hl⟩ := I.look
  refine PySem.W.set_plain X J hs (PySem.W.osa_open (s := { s with toks := s.toks + 1 }) (r := none) X J hp ht fun b => ?_)
  obtain ⟨cd, hc, hd'⟩ := PySem.W.any_some hh
  have hx : s.heap.get? x = some ⟨.ref C, some dx, .plain, #[]⟩ := I.obj
  refine wpAny_bind (wpAny_pure (wpAny_bind (wpAny_bind (wpAny_loadPart hx (wpAny_bind (PySem.W.Looks.here (s := { s with toks := s.toks + 1 }) (PySem.W.looks_clsIn X hc) ?_))))))
  rw [hd']
  refine wpAny_pure (a := some dx) (wpAny_bind (wpAny_pure (wpAny_bind ?_)))
  refine wpAny_nsSet1 (s := { s with toks := s.toks + 1 }) I.ns fun h' hn2 hs2 => ?_
  obtain ⟨oD, esD, epD, hoD, hdD, hcD⟩ := hn2.count (PySem.Within.cons name v hw)
  refine wpAny_bind (wpAny_lookBehind hoD (by rw [hdD]; exact pastItsLine_dict (Nat.le_trans hcD (by rw [List.length_cons]; omega))) ?_)
  exact wpAny_pure (h _ ⟨(hs2.2 _ (Ne.symm I.ne)).trans I.obj, hn2, I.ne⟩ hs2)
theorem make_map {R : Result → Shared → Prop} {vs : List Value} {kw : List (Str × Value)} (X : K.In s.heap) (hm : PySem.W.makesIn K C = true)
    (hi : PySem.W.findIn K (.ref C) "__init__" = some (some (.ref f))) (hf : PySem.W.typeIn K (.ref f) = some (.type "function"))
    (h : codeAny (model prog w) (A.under (.builtin "type.__call__" ⟨.ref C :: vs, kw⟩)) (.call (.ref f) ⟨.ref (s.heap.objs.size + 1) :: vs, kw⟩) (PySem.W.InitBack (s.heap.objs.size + 1) R)
      { s with heap := (s.heap.push PySem.W.emptyDict).push (PySem.W.instObj C s.heap.objs.size) }) :
    codeAny (model prog w) A (.call (.ref C) ⟨vs, kw⟩) R s := by
  obtain ⟨hh, g, d, t, os⟩ := s
  exact PySem.W.make_core (PySem.W.makes_of X hm) (PySem.W.looks_findIn X hi) (fun self => PySem.W.bind_fn X self hf) (.inl rfl) h
end
def putF (f : Str) (v : V) : List (Str × V) → List (Str × V)
  | [] => [(f, v)]
  | (g, x) :: r => if g = f then (g, v) :: r else (g, x) :: putF f v r
theorem lookup_putF (f g : Str) (v : V) : ∀ fs : List (Str × V), (putF f v fs).lookup g = if g = f then some v else fs.lookup g
  | [] => by
    show List.lookup g [(f, v)] = _
    by_cases h : g = f
    · have hb : (g == f) = true := beq_iff_eq.mpr h
      simp only [List.lookup, hb, if_pos h]
    · have hb : (g == f) = false := beq_eq_false_iff_ne.mpr h
      simp only [List.lookup, hb, if_neg h]
  | (k, x) :: r => by
    have ih := lookup_putF f g v r
    rw [show putF f v ((k, x) :: r) = (if k = f then (k, v) :: r else (k, x) :: putF f v r) from rfl]
    by_cases hk : k = f
    · rw [if_pos hk]
      by_cases h : g = k
      · have hb : (g == k) = true := beq_iff_eq.mpr h
        simp only [List.lookup, hb, if_pos (h.trans hk)]
      · have hb : (g == k) = false := beq_eq_false_iff_ne.mpr h
        simp only [List.lookup, hb, if_neg (fun e : g = f => h (e.trans hk.symm))]
    · rw [if_neg hk]
      by_cases h : g = k
      · have hb : (g == k) = true := beq_iff_eq.mpr h
        simp only [List.lookup, hb, if_neg (fun e : g = f => hk (h.symm.trans e))]
      · have hb : (g == k) = false := beq_eq_false_iff_ne.mpr h
        simp only [List.lookup, hb]
        exact ih
theorem keys_putF (f : Str) (v : V) : ∀ fs : List (Str × V), f ∈ (putF f v fs).map (·.1) ∧ ∀ g, g ∈ fs.map (·.1) → g ∈ (putF f v fs).map (·.1)
  | [] => ⟨by simp [putF], fun g h => by simp at h⟩
  | (k, x) :: r => by
    obtain ⟨i1, i2⟩ := keys_putF f v r
    rw [show putF f v ((k, x) :: r) = (if k = f then (k, v) :: r else (k, x) :: putF f v r) from rfl]
    by_cases hk : k = f
    · rw [if_pos hk]
      subst hk
      exact ⟨by simp, fun g h => by simpa using h⟩
    · rw [if_neg hk]
      refine ⟨?_, fun g h => ?_⟩
      · rw [List.map_cons]
        exact List.mem_cons_of_mem _ i1
      · rw [List.map_cons] at h ⊢
        rcases List.mem_cons.mp h with e | e
        · exact List.mem_cons.mpr (.inl e)
        · exact List.mem_cons_of_mem _ (i2 g e)
theorem length_putF (f : Str) (v : V) : ∀ fs : List (Str × V), (putF f v fs).length ≤ fs.length + 1
  | [] => by simp [putF]
  | (k, x) :: r => by
    have ih := length_putF f v r
    rw [show putF f v ((k, x) :: r) = (if k = f then (k, v) :: r else (k, x) :: putF f v r) from rfl]
    by_cases hk : k = f
    · rw [if_pos hk, List.length_cons, List.length_cons]; omega
    · rw [if_neg hk, List.length_cons, List.length_cons]; omega
theorem RelO.some_of {v : V} {o : Option Value} (r : RelO (some v) o) : ∃ u, o = some u ∧ RelV v u := by
  cases o with
  | none => exact (show False from r).elim
  | some u => exact ⟨u, rfl, r⟩
theorem RelO.none_of {o : Option Value} (r : RelO none o) : o = none := by
  cases o with
  | none => rfl
  | some u => exact (show False from r).elim
theorem handed_of {v : V} {u : Value} (r : RelV v u) : PySem.W.handedIn u = true := by
  cases v with
  | non => cases (show u = Value.none from r); rfl
  | bl b => cases (show u = Value.bool b from r); rfl
  | int i => obtain ⟨t, e⟩ := (show ∃ t, u = Value.int i t from r); cases e; rfl
  | str x => obtain ⟨t, e⟩ := (show ∃ t, u = Value.str x t from r); cases e; rfl
  | byt b => obtain ⟨t, e⟩ := (show ∃ t, u = Value.bytes b t from r); cases e; rfl
  | flt b => obtain ⟨t, e⟩ := (show ∃ t, u = Value.float b t from r); cases e; rfl
  | ref a => cases (show u = Value.ref a from r); rfl
  | ty n => cases (show u = Value.type n from r); rfl
section
variable {P : Program} {w : World} {H H' : Hp} {h h' : Heap} {a C dx : Addr} {fs fs' : List (Str × V)}
theorem ins_get (hok : HOk P w H h) (e : H a = some (.ins C dx fs)) : ∃ mA, ObjM h a dx C mA ∧ (∀ f, RelO (fs.lookup f) (mA f)) ∧ PySem.Within mA (fs.map (·.1)) ∧ fs.length ≤ 1000 ∧ H dx = some (.own a) := by
  obtain ⟨d, z, ne, ob, mA, n, r, q⟩ := (show ObjOk P w H h a (.ins C dx fs) from hok a _ e)
  exact ⟨mA, ⟨ob, n, ne⟩, r, q, z, d⟩
end
structure Cls (K : PySem.W.Frag) (C : Addr) : Prop where
  pg : PySem.W.plainGet K C Str.empty = true
  hd : PySem.W.hasDictIn K C = true
  po : PySem.W.plainOver K C = true
  sa : PySem.W.findIn K (.ref C) "__setattr__" = some (some (.builtin "object.__setattr__"))
theorem Cls.get {K : PySem.W.Frag} {C : Addr} (c : Cls K C) (f : Str) : PySem.W.plainGet K C f = true := c.pg
def NoAttr (K : PySem.W.Frag) (C : Addr) (f : Str) : Prop := PySem.W.findIn K (.ref C) f = some none
theorem NoAttr.taker {K : PySem.W.Frag} {C : Addr} {f : Str} (n : NoAttr K C f) : PySem.W.takerIn K C f = some none := by
  unfold PySem.W.takerIn
  rw [show PySem.W.findIn K (.ref C) f = some none from n]
  rfl
structure Meth (K : PySem.W.Frag) (C : Addr) (m : Str) (f : Addr) : Prop where
  at_ : PySem.W.findIn K (.ref C) m = some (some (.ref f))
  fn : PySem.W.isFn K (.ref f) = true
  kp : PySem.W.keepIn K (.ref f) = true
section
variable {X : Cx} {pins : List (Addr × Obj)} {σ : St} {H : Hp} {s : Shared} {a C dx : Addr} {fs : List (Str × V)} {f : Str} {v : V} {A : Around} {E : Value → Shared → Prop}
theorem getattr_ok {b : Bool} {Q : Value → Shared → Prop} (I : Inv X pins σ H s) (e : H a = some (.ins C dx fs)) (c : Cls X.K C) (n : NoAttr X.K C f) (l : fs.lookup f = some v)
    (h : ∀ u s', Inv X pins σ H s' → RelV v u → Q u s') : wpAny (model X.prog X.w) A (getAttr (.ref a) f b) Q E s := by
  obtain ⟨mA, O, r, _, _, _⟩ := ins_get I.hok e
  obtain ⟨u, hu, ru⟩ := RelO.some_of (v := v) (o := mA f) (by rw [← l]; exact r f)
  exact get_map I.kIn O (c.get f) c.hd n hu (handed_of ru) (h u _ (I.tok _) ru)
theorem getmeth_ok {m : Str} {g : Addr} {pl : Sem Bool} {Q : Value × List Value → Shared → Prop} (I : Inv X pins σ H s) (e : H a = some (.ins C dx fs)) (c : Cls X.K C) (k : Meth X.K C m g) (l : fs.lookup m = none)
    (h : Q (.ref g, [.ref a]) s) : wpAny (model X.prog X.w) A (getMethod (.ref a) m pl) Q E s := by
  obtain ⟨mA, O, r, _, _, _⟩ := ins_get I.hok e
  have hn : mA m = none := RelO.none_of (by rw [← l]; exact r m)
  exact get_meth I.kIn O (c.get m) k.at_ k.fn hn h
theorem setattr_ok {y : V} {u : Value} {Q : Unit → Shared → Prop} (I : Inv X pins σ H s) (e : H a = some (.ins C dx fs)) (c : Cls X.K C) (n : NoAttr X.K C f) (hl : fs.length < 1000) (ry : RelV y u)
    (h : ∀ s', Inv X pins σ (upd H a (.ins C dx (putF f y fs))) s' → Q () s') : wpAny (model X.prog X.w) A (setAttr (.ref a) f u) Q E s := by
  obtain ⟨mA, O, r, wi, _, ho⟩ := ins_get I.hok e
  have hz : (fs.map (·.1)).length ≤ sizeLine := by rw [List.length_map, sizeLine_eq]; omega
  refine set_map I.kIn O c.sa c.po n.taker c.hd wi hz fun h' O' sb => h _ ?_
  have hd : ∃ o, h'.get? dx = some o := let ⟨o, _, _, e', _⟩ := O'.ns; ⟨o, e'⟩
  refine I.write (x := a) (e := dx) (by rw [e]; exact True.intro) (.inr ho) (fun b q hb z => (sb.2 b hb).trans z) hd ?_
  refine ⟨by rw [upd_ne O.ne]; exact ho, ?_, O.ne, O'.obj, _, O'.ns, fun g => ?_, fun g hg => ?_⟩
  · have := length_putF f y fs; omega
  · show RelO ((putF f y fs).lookup g) (if g = f then some u else mA g)
    rw [lookup_putF]
    by_cases q : g = f
    · rw [if_pos q, if_pos q]; exact ry
    · rw [if_neg q, if_neg q]; exact r g
  · by_cases q : g = f
    · rw [q]; exact (keys_putF f y fs).1
    · refine (keys_putF f y fs).2 g (wi g fun z => hg ?_)
      show (if g = f then some u else mA g) = none
      rw [if_neg q]; exact z
theorem Inv.made (I : Inv X pins σ H s) : Inv X pins σ (upd (upd H s.heap.objs.size (.own (s.heap.objs.size + 1))) (s.heap.objs.size + 1) (.ins C s.heap.objs.size []))
    { s with heap := (s.heap.push PySem.W.emptyDict).push (PySem.W.instObj C s.heap.objs.size) } := by
  have e1 : (s.heap.push PySem.W.emptyDict).get? s.heap.objs.size = some PySem.W.emptyDict := Heap.get?_push_size s.heap rfl
  have e2 : ((s.heap.push PySem.W.emptyDict).push (PySem.W.instObj C s.heap.objs.size)).get? (s.heap.objs.size + 1) = some (PySem.W.instObj C s.heap.objs.size) := by
    have := Heap.get?_push_size (s.heap.push PySem.W.emptyDict) (o := PySem.W.instObj C s.heap.objs.size) rfl
    rwa [Heap.size_push] at this
  have e3 : (s.heap.push PySem.W.emptyDict).Ns s.heap.objs.size (fun _ => none) := ⟨PySem.W.emptyDict, #[], _, e1, rfl, (fun e he => absurd he (by simp)), fun _ => rfl⟩
  have I1 := I.laid (a := s.heap.objs.size) (o := .own (s.heap.objs.size + 1)) (h' := s.heap.push PySem.W.emptyDict) (t' := s.toks) (fun b u q => Heap.get?_push_of_some _ q) (Nat.le_refl _) ⟨_, e1⟩
  refine I1.laid (a := s.heap.objs.size + 1) (o := .ins C s.heap.objs.size []) (t' := s.toks) (fun b u q => Heap.get?_push_of_some _ q) (Nat.le_of_eq (Heap.size_push _ _)) ?_
  have ne : s.heap.objs.size ≠ s.heap.objs.size + 1 := Nat.ne_of_lt (Nat.lt_succ_self _)
  refine ⟨by rw [upd_ne ne, upd_same], Nat.zero_le _, ne, e2, fun _ => none, (Heap.Ns1.of_empty e3).at fun o q => Heap.get?_push_of_some _ q, fun _ => True.intro, fun y hy => absurd rfl hy⟩
theorem attr_of {prog : Program} {w : World} {env : Env} {e : Expr} {f : Str} {pos : Pos} {s : Shared} {Q : Value → Shared → Prop} (hb : attributeBase e f env (eval e env) = eval e env)
    (h : wpAny (model prog w) A (eval e env) (fun o s₁ => wpAny (model prog w) A (getAttr o f true) Q E s₁) E s) : wpAny (model prog w) A (eval (.Attribute e f pos) env) Q E s :=
  Attribute_any_ h (by rw [arm_eval_Attribute, hb])
end
def tFld (K : PySem.W.Frag) (ta : TE) (f : Str) : TE := fun σ H Q => ta σ H fun x H1 => ∃ a C dx fs v, x = .ref a ∧ H1 a = some (.ins C dx fs) ∧ Cls K C ∧ NoAttr K C f ∧ fs.lookup f = some v ∧ Q v H1
def sFld (K : PySem.W.Frag) (ta tv : TE) (f : Str) : TS := fun D σ H => tv σ H fun y H1 => ta σ H1 fun x H2 => ∃ a C dx fs, x = .ref a ∧ H2 a = some (.ins C dx fs) ∧ Cls K C ∧ NoAttr K C f ∧ fs.length < 1000 ∧
  D.nx σ (upd H2 a (.ins C dx (putF f y fs)))
section
variable {X : Cx} {o e value : Expr} {f : Str} {pos pos' tpos : Pos} {ta tv : TE}
theorem pe_fld (he : PE X e ta) (hb : attributeBase e f X.env (eval e X.env) = eval e X.env) : PE X (.Attribute e f pos) (tFld X.K ta f) := by
  intro pins s σ H Q I h
  refine attr_of hb (thn (he pins s σ H _ I h) fun u s1 ⟨x, H1, I1, rx, a, C, dx, fs, v, ex, ea, c, n, l, q⟩ => ?_)
  subst ex
  obtain rfl : u = Value.ref a := rx
  exact getattr_ok I1 ea c n l fun u' s2 I2 ru => ⟨v, H1, I2, ru, q⟩
theorem ps_fld (ha : PE X o ta) (hv : PE X value tv) (hs : swapsWith value (some (.Attribute o f pos')) pos.line X.env = pure false) : PS X (.Assign [.Attribute o f pos'] value pos) (sFld X.K ta tv f) := by
  intro pins s σ H D I h
  refine plainObj_wpAny_Assign_Attribute (thn (hv pins s σ H _ I h) fun u s1 ⟨y, H1, I1, ry, q⟩ => thn (ha pins s1 σ H1 _ I1 q) fun ov s2 ⟨x, H2, I2, rx, a, C, dx, fs, ex, ea, c, n, l, q2⟩ => ?_) hs
  subst ex
  obtain rfl : ov = Value.ref a := rx
  exact setattr_ok I2 ea c n l ry fun s3 I3 => ⟨σ, _, I3, q2⟩
end
section
variable {X : Cx} {pins : List (Addr × Obj)} {σ : St} {H : Hp} {s : Shared} {A : Around} {E : Value → Shared → Prop} {Q : Value → Shared → Prop} {c : Value} {b : Bool}
inductive TyOf (K : PySem.W.Frag) (H : Hp) : V → Value → Prop where
  | non : TyOf K H .non (.type "NoneType")
  | bl (x : Bool) : TyOf K H (.bl x) (.type "bool")
  | int (i : Int) : TyOf K H (.int i) (.type "int")
  | str (x : Str) : TyOf K H (.str x) (.type "str")
  | flt (x : UInt64) : TyOf K H (.flt x) (.type "float")
  | lst {a : Addr} {xs : List V} (e : H a = some (.lst xs)) : TyOf K H (.ref a) (.type "list")
  | frz {a : Addr} {o : Obj} {xs : List V} (e : H a = some (.frz o (.lst xs))) : TyOf K H (.ref a) (.type "list")
  | tup {a : Addr} {xs : List V} (e : H a = some (.tup xs)) : TyOf K H (.ref a) (.type "tuple")
  | dK {a : Addr} {kvs : List (Key × V)} (e : H a = some (.dK kvs)) : TyOf K H (.ref a) (.type "dict")
  | dT {a : Addr} {kvs : List (List Key × V)} (e : H a = some (.dT kvs)) : TyOf K H (.ref a) (.type "dict")
  | ins {a C dx : Addr} {fs : List (Str × V)} (e : H a = some (.ins C dx fs)) (cl : Cls K C) (ha : PySem.W.findIn K (.ref C) "__class__" = some (some (.builtin "object.__class__")))
      (hn : PySem.W.specialIn K (.builtin "object.__class__") "__get__" = some (some (.builtin "getset_descriptor.__get__"))) (htk : PySem.W.takesIn K (.builtin "object.__class__") = some true)
      (hm : PySem.W.mroIn K C (.type "object") = some true) : TyOf K H (.ref a) (.ref C)
theorem isinst_ok {x : V} {u t : Value} (I : Inv X pins σ H s) (rx : RelV x u) (ty : TyOf X.K H x t) (e : PySem.W.kitOne X.K t c = some b) (h : ∀ tk, Q (.bool b) { s with toks := tk }) :
    wpAny (model X.prog X.w) A (call (.builtin "isinstance") [u, c]) Q E s := by
  cases ty with
  | non => cases (show u = Value.none from rx); exact PySem.W.kia_one PySem.W.kitx_none I.kIn True.intro e (fun z => nomatch z) h
  | bl y => cases (show u = Value.bool y from rx); exact PySem.W.kia_one PySem.W.kitx_bool I.kIn True.intro e (fun z => nomatch z) h
  | int i => obtain ⟨t, q⟩ := (show ∃ t, u = Value.int i t from rx); cases q; exact PySem.W.kia_one PySem.W.kitx_int I.kIn True.intro e (fun z => nomatch z) h
  | str y => obtain ⟨t, q⟩ := (show ∃ t, u = Value.str y t from rx); cases q; exact PySem.W.kia_one PySem.W.kitx_str I.kIn True.intro e (fun z => nomatch z) h
  | flt y => obtain ⟨t, q⟩ := (show ∃ t, u = Value.float y t from rx); cases q; exact PySem.W.kia_one PySem.W.kitx_float I.kIn True.intro e (fun z => nomatch z) h
  | @lst a xs ea =>
    cases (show u = Value.ref a from rx)
    obtain ⟨_, _, n, _, h1⟩ := (show ObjOk X.prog X.w H s.heap a (.lst xs) from I.hok a _ ea)
    exact PySem.W.kia_one PySem.W.kitx_list I.kIn ⟨_, h1, rfl⟩ e (fun z => nomatch z) h
  | @frz a ob xs ea =>
    cases (show u = Value.ref a from rx)
    obtain ⟨_, _, _, n, _, h1⟩ := (show ObjOk X.prog X.w H s.heap a (.frz ob (.lst xs)) from I.hok a _ ea)
    exact PySem.W.kia_one PySem.W.kitx_list I.kIn ⟨_, h1, rfl⟩ e (fun z => nomatch z) h
  | @tup a xs ea =>
    cases (show u = Value.ref a from rx)
    obtain ⟨_, _, _, p⟩ := (show ObjOk X.prog X.w H s.heap a (.tup xs) from I.hok a _ ea)
    obtain ⟨o, h1, h2, _⟩ := p
    exact PySem.W.kia_one PySem.W.kitx_tuple I.kIn ⟨o, h1, h2⟩ e (fun z => nomatch z) h
  | @dK a kvs ea =>
    cases (show u = Value.ref a from rx)
    obtain ⟨_, _, vs, _, p⟩ := (show ObjOk X.prog X.w H s.heap a (.dK kvs) from I.hok a _ ea)
    obtain ⟨o, es, ep, h1, h2, _⟩ := p
    exact PySem.W.kia_one PySem.W.kitx_dict I.kIn ⟨o, h1, h2.1⟩ e (fun z => nomatch z) h
  | @dT a kvs ea =>
    cases (show u = Value.ref a from rx)
    obtain ⟨_, _, xs, _, o, es, ep, h1, h2, _⟩ := (show ObjOk X.prog X.w H s.heap a (.dT kvs) from I.hok a _ ea)
    exact PySem.W.kia_one PySem.W.kitx_dict I.kIn ⟨o, h1, h2.1⟩ e (fun z => nomatch z) h
  | @ins a C dx fs ea cl ha hn htk hm =>
    cases (show u = Value.ref a from rx)
    obtain ⟨mA, O, _⟩ := ins_get I.hok ea
    obtain ⟨od, J, _⟩ := O.look
    exact PySem.W.kia_one (PySem.W.kitx_own (cl.get _) cl.hd ha hn htk hm) I.kIn J e (fun z => nomatch z) h
end
end L2
namespace L2
open PySem PySem.Spec PyProof.Rows
structure Room (k : Nat) (A : Around) : Prop where
  hd : A.handled = none
  dp : A.depth + 3 * k + 5 < recursionLimit
  un : A.units + 16 * k + 200 < cLine
theorem Room.mono {j k : Nat} {A : Around} (r : Room k A) (h : j ≤ k) : Room j A := ⟨r.hd, by have := r.dp; omega, by have := r.un; omega⟩
theorem Room.deeper {k : Nat} {A : Around} (r : Room (k + 1) A) (env : Env) : Room k (A.deeper env) :=
  ⟨r.hd, by have := r.dp; show A.depth + 1 + 3 * k + 5 < _; omega, by have := r.un; show A.units + 3 + 16 * k + 200 < _; omega⟩
theorem make_depth {A : Around} {C : Addr} {us : List Value} {kw : List (Str × Value)} : (A.under (.builtin "type.__call__" ⟨.ref C :: us, kw⟩)).depth = A.depth + 1 := by
  first | rfl | simp [Around.under, Code.weight, Code.isCreation, Code.isGuard, Code.isCaller, Code.frames, Code.isFrame, guardIds]
theorem make_units {A : Around} {C : Addr} {us : List Value} {kw : List (Str × Value)} : (A.under (.builtin "type.__call__" ⟨.ref C :: us, kw⟩)).units = A.units + 1 := by
  first | rfl | simp [Around.under, Code.cUnits, Code.frames, Code.isFrame]
theorem Room.make {k : Nat} {A : Around} (r : Room (k + 1) A) (C : Addr) (us : List Value) (kw : List (Str × Value)) : Room k (A.under (.builtin "type.__call__" ⟨.ref C :: us, kw⟩)) :=
  ⟨r.hd, by have := r.dp; rw [make_depth]; omega, by have := r.un; rw [make_units]; omega⟩
theorem Room.depth {k : Nat} {A : Around} (r : Room k A) : A.depth < recursionLimit := by have := r.dp; omega
theorem Room.units {k : Nat} {A : Around} (r : Room k A) : A.units + 64 < cLine := by have := r.un; omega
def tNil : TA := fun _ H Q => Q [] H
def tCons (ta : TE) (tr : TA) : TA := fun σ H Q => ta σ H fun x H1 => tr σ H1 fun xs H2 => Q (x :: xs) H2
section
variable {X : Cx} {e : Expr} {es : List Expr} {te : TE} {t : TA} {pos : Pos}
theorem pa_nil : PA X [] tNil := fun _ _ _ _ H Q I h => Calls.spliced_nil ⟨[], H, I, .nil, h⟩
theorem pa_cons (ha : PE X e te) (hr : PA X es t) (hs : starEach (e :: es) X.env = (false, eval e X.env) :: starEach es X.env := by rfl) : PA X (e :: es) (tCons te t) := by
  intro pos pins s σ H Q I h
  rw [hs]
  show wpAny _ _ (spliced ((false, eval e X.env) :: backTo pos (starEach es X.env))) _ _ s
  refine Calls.spliced_cons (thn (ha pins s σ H _ I h) fun u s1 ⟨x, H1, I1, r1, q1⟩ => ?_)
  exact thn (hr pos pins s1 σ H1 _ I1 q1) fun us s2 ⟨xs, H2, I2, r2, q2⟩ => ⟨x :: xs, H2, I2, .cons r1 r2, q2⟩
def tTup (t : TA) : TE := fun σ H Q => t σ H fun xs H1 => xs.length ≤ sizeLine ∧ ∀ p, H1 p = none → Q (.ref p) (upd H1 p (.tup xs))
def tLst (t : TA) : TE := fun σ H Q => t σ H fun xs H1 => xs.length ≤ sizeLine ∧ ∀ p, H1 p = none → Q (.ref p) (upd H1 p (.lst xs))
theorem pe_tup {x1} (h : PA X es t) : PE X (.Tuple es x1 pos) (tTup t) := by
  intro pins s σ H Q I hq
  refine wpAny_Tuple_spliced (thn (h pos pins s σ H _ I hq) fun us s1 ⟨xs, H1, I1, r, z, q⟩ => ⟨by rw [← r.length]; exact z, ?_⟩)
  have hf : H1 s1.heap.objs.size = none := I1.hok.fresh (Nat.le_refl _)
  refine ⟨.ref s1.heap.objs.size, upd H1 s1.heap.objs.size (.tup xs), I1.laid (t' := s1.toks) (fun b u e => Heap.get?_push_of_some _ e) (Nat.le_refl _) ?_, rfl, q _ hf⟩
  exact ⟨z, us, r, ⟨_, Heap.get?_push_size _ rfl, rfl, _, rfl⟩⟩
theorem pe_lst (h : PA X es t) : PE X (.List es pos) (tLst t) := by
  intro pins s σ H Q I hq
  refine wpAny_List_spliced (thn (h pos pins s σ H _ I hq) fun us s1 ⟨xs, H1, I1, r, z, q⟩ => ⟨by rw [← r.length]; exact z, ?_⟩)
  have hf : H1 s1.heap.objs.size = none := I1.hok.fresh (Nat.le_refl _)
  refine ⟨.ref s1.heap.objs.size, upd H1 s1.heap.objs.size (.lst xs), I1.laid (t' := s1.toks) (fun b u e => Heap.get?_push_of_some _ e) (Nat.le_refl _) ?_, rfl, q _ hf⟩
  exact ⟨z, us, 0, r, Heap.get?_push_size _ rfl⟩
end
abbrev Sp := List V → Hp → VK → XK → Prop
abbrev CXT := List Env → Hp → Shared → XK → Value → Shared → Prop
structure Env0 (P : Program) (w : World) (K : PySem.W.Frag) (mg : Str → Option Value) (base : Heap) (A : Around) (outer : List Env) (s : Shared) (H : Hp) : Prop where
  frames : A.frames = some outer
  mod : Mod K mg base
  bs : ∀ b o, base.get? b = some o → s.heap.get? b = some o ∧ H b = none
  bsz : base.objs.size ≤ s.heap.objs.size
  funs : s.heap.FunFrames base outer
  frf : ∀ b ∈ frs outer, H b = none
  hok : HOk P w H s.heap
  bare : AllBare s.gens
def CE (outer : List Env) (P : Program) (w : World) (H : Hp) (s : Shared) (Q : VK) (u : Value) (s' : Shared) : Prop :=
  ∃ v H', s'.os = s.os ∧ AllBare s'.gens ∧ Un (frs outer) [] H H' s.heap s'.heap ∧ HOk P w H' s'.heap ∧ RelV v u ∧ Q v H'
def CR (CX : CXT) (outer : List Env) (P : Program) (w : World) (H : Hp) (s : Shared) (Q : VK) (E : XK) (r : Result) (s' : Shared) : Prop :=
  match r with
  | .ok (.ret u) => CE outer P w H s Q u s'
  | .ok _ => False
  | .error e => CX outer H s E e s'
structure FnOk (P : Program) (w : World) (K : PySem.W.Frag) (mg : Str → Option Value) (base : Heap) (CX : CXT) (k : Nat) (f : Addr) (fd : FuncData) (ps : List Str) (sp : Sp) : Prop where
  len : ∀ vs H Q E, sp vs H Q E → vs.length = ps.length
  run : ∀ (A : Around) (outer : List Env) (s : Shared) (H : Hp) (args : Args) (us : List Value) (vs : List V) (Q : VK) (E : XK), Room k A → Env0 P w K mg base A outer s H → BindsTo s fd args (ps.zip us) → Vals vs us → sp vs H Q E →
    codeAny (model P w) A (.call (.ref f) args) (CR CX outer P w H s Q E) s
theorem Env0.make {P : Program} {w : World} {K : PySem.W.Frag} {mg : Str → Option Value} {base : Heap} {A : Around} {outer : List Env} {s : Shared} {H : Hp} (e : Env0 P w K mg base A outer s H) (C : Addr) (us : List Value) (kw : List (Str × Value)) :
    Env0 P w K mg base (A.under (.builtin "type.__call__" ⟨.ref C :: us, kw⟩)) outer s H := ⟨by first | exact e.frames | (simpa [Around.under, Code.envs, Code.isFrame, pushEnvs] using e.frames), e.mod, e.bs, e.bsz, e.funs, e.frf, e.hok, e.bare⟩
section
variable {X : Cx} {pins : List (Addr × Obj)} {σ : St} {H : Hp} {s s' : Shared}
theorem Inv.env0 (I : Inv X pins σ H s) : Env0 X.prog X.w X.K X.mg X.base X.A X.stack s H :=
  ⟨I.ok.frames, I.ok.mod, I.bs, Nat.le_trans I.ok.bsz I.sz, I.stack, I.stkFree, I.hok, I.bare⟩
theorem Inv.after {Q : VK} {u : Value} (I : Inv X pins σ H s) (h : CE X.stack X.prog X.w H s Q u s') : EP X pins σ Q u s' := by
  obtain ⟨v, H', os, bare, un, hok, r, q⟩ := h
  obtain ⟨hh, g, d, t, os'⟩ := s'
  obtain rfl : os' = s.os := os
  exact ⟨v, H', I.call (h' := hh) (g' := g) (d' := d) (t' := t) (ch := []) un hok bare (fun b z => absurd z (by simp)), r, q⟩
end
def Binds (K : PySem.W.Frag) (fd : FuncData) (ps : List Str) (ds : List Value) : Prop :=
  ∀ (s : Shared) (us : List Value), K.In s.heap → (us ++ ds).length = ps.length → BindsTo s fd ⟨us, []⟩ (ps.zip (us ++ ds))
theorem Binds.all {K : PySem.W.Frag} {fd : FuncData} {ps : List Str} (h : ∀ us : List Value, us.length = ps.length → bindArgs fd ⟨us, []⟩ = pure (ps.zip us)) : Binds K fd ps [] := fun s us _ hl => by
  rw [List.append_nil] at hl ⊢
  exact .of_eq (h us hl)
section
variable {X : Cx} {CX : CXT} {k : Nat} {f C : Addr} {fd : FuncData} {ps : List Str} {sp : Sp} {dvs : List V} {ds : List Value} {E : XK} {x m : Str} {p pos apos : Pos} {e o : Expr} {es : List Expr} {ta : TE} {t : TA}
structure Mk (K : PySem.W.Frag) (C f : Addr) : Prop where
  makes : PySem.W.makesIn K C = true
  init : PySem.W.findIn K (.ref C) "__init__" = some (some (.ref f))
  fn : PySem.W.isFn K (.ref f) = true
  kp : PySem.W.keepIn K (.ref C) = true
end
section
variable {X : Cx} {CX : CXT} {k : Nat} {f C : Addr} {fd : FuncData} {ps ks : List Str} {sp : Sp} {E : XK} {x m : Str} {p pos apos kpos : Pos} {e o : Expr} {es : List Expr} {kws : List Keyword} {te ta : TE} {t tk : TA} {nm : Option Str}
variable {g : List Value → List Value → List Value} {gV : List V → List V → List V}
end
structure FnScope (N P : List Str) (sc : Scope) : Prop where
  kind : sc.kind = .function
  co : sc.isCoroutine = false
  gen : sc.isGenerator = false
  nd : N.Nodup
  pre : N.take P.length = P
  par : ∀ x ∈ P, sc.names.lookup x = some .local ∨ sc.names.lookup x = some .cell
  nofree : ∀ y ∈ sc.names, y.2 ≠ .free
theorem bindL_out {kindOf : Str → Option NameKind} {x : Str} : ∀ {binds : List (Str × Value)} {m : Str → Option Value}, (∀ v, (x, v) ∉ binds) → bindL kindOf binds m x = m x
  | [], _, _ => rfl
  | (n, v) :: r, m, h => by
    unfold bindL
    rw [bindL_out fun w hw => h w (List.mem_cons_of_mem _ hw)]
    split
    · have : x ≠ n := by rintro rfl; exact h v List.mem_cons_self
      simp [this]
    · rfl
theorem bindC_out {kindOf : Str → Option NameKind} {x : Str} : ∀ {binds : List (Str × Value)} {m : Str → Option Value}, (∀ v, (x, v) ∉ binds) → bindC kindOf binds m x = m x
  | [], _, _ => rfl
  | (n, v) :: r, m, h => by
    unfold bindC
    rw [bindC_out fun w hw => h w (List.mem_cons_of_mem _ hw)]
    split
    · rfl
    · have : x ≠ n := by rintro rfl; exact h v List.mem_cons_self
      simp [this]
theorem bindL_get {kindOf : Str → Option NameKind} {x : Str} {v : Value} : ∀ {P : List Str} {vs : List Value} {i : Nat} {m : Str → Option Value}, P.Nodup → P[i]? = some x → vs[i]? = some v → kindOf x = some .local →
    bindL kindOf (P.zip vs) m x = some v
  | [], _, _, _, _, h, _, _ => by simp at h
  | _ :: _, [], _, _, _, _, h, _ => by simp at h
  | p :: P, w :: vs, 0, m, nd, h1, h2, hk => by
    simp at h1 h2; subst h1; subst h2
    show bindL kindOf ((p, w) :: P.zip vs) m p = _
    unfold bindL
    rw [bindL_out fun v hv => (List.nodup_cons.mp nd).1 (List.of_mem_zip hv).1, if_pos hk]
    simp
  | p :: P, w :: vs, i + 1, m, nd, h1, h2, hk => by
    show bindL kindOf ((p, w) :: P.zip vs) m x = _
    unfold bindL
    exact bindL_get (i := i) (List.nodup_cons.mp nd).2 (by simpa using h1) (by simpa using h2) hk
theorem bindC_get {kindOf : Str → Option NameKind} {x : Str} {v : Value} : ∀ {P : List Str} {vs : List Value} {i : Nat} {m : Str → Option Value}, P.Nodup → P[i]? = some x → vs[i]? = some v → kindOf x ≠ some .local →
    bindC kindOf (P.zip vs) m x = some v
  | [], _, _, _, _, h, _, _ => by simp at h
  | _ :: _, [], _, _, _, _, h, _ => by simp at h
  | p :: P, w :: vs, 0, m, nd, h1, h2, hk => by
    simp at h1 h2; subst h1; subst h2
    show bindC kindOf ((p, w) :: P.zip vs) m p = _
    unfold bindC
    rw [bindC_out fun v hv => (List.nodup_cons.mp nd).1 (List.of_mem_zip hv).1, if_neg hk]
    simp
  | p :: P, w :: vs, i + 1, m, nd, h1, h2, hk => by
    show bindC kindOf ((p, w) :: P.zip vs) m x = _
    unfold bindC
    exact bindC_get (i := i) (List.nodup_cons.mp nd).2 (by simpa using h1) (by simpa using h2) hk
def start (N : List Str) (vs : List V) : St := vs.map some ++ List.replicate (N.length - vs.length) none
def cxOf (CX : CXT) (P : Program) (w : World) (K : PySem.W.Frag) (mg : Str → Option Value) (base : Heap) (N : List Str) (qual : Str) (scope : Scope) (f : Addr) (cd : Value) (A : Around) (outer : List Env) (s : Shared) (H : Hp) (E : XK) : Cx where
  prog := P
  w := w
  K := K
  mg := mg
  base := base
  A := A.deeper (envOfC qual scope s.heap.objs.size f cd)
  N := N
  s₀ := s
  H₀ := H
  env := envOfC qual scope s.heap.objs.size f cd
  outer := outer
  stack := envOfC qual scope s.heap.objs.size f cd :: outer
  ex := []
  calm := true
  fn := fun _ => true
  pn := []
  xe := fun e s' => wpAny (model P w) (A.deeper (envOfC qual scope s.heap.objs.size f cd)) (leaving (envOfC qual scope s.heap.objs.size f cd) e) (fun _ s'' => CX outer H s E e s'') (fun e' s'' => CX outer H s E e' s'') s'
theorem cell_has {sc : Scope} {n : Nat} {x : Str} (h : sc.names.lookup x = some .cell) : ∃ c, (cellsFrom n sc.names []).lookup x = some c := by
  have q := PySem.W.cellsFrom_some sc.names n [] (.inl h)
  exact Option.isSome_iff_exists.mp q
theorem inv_start {CX : CXT} {P : Program} {w : World} {K : PySem.W.Frag} {mg : Str → Option Value} {base : Heap} {N ps : List Str} {qual : Str} {scope : Scope} {f : Addr} {cd : Value} {A : Around} {outer : List Env} {s s1 : Shared} {H : Hp} {E : XK} {us : List Value} {vs : List V}
    (S : FnScope N ps scope) (hd : A.handled = none) (e0 : Env0 P w K mg base A outer s H) (hl : vs.length = ps.length) (r : Vals vs us)
    (x : InCallC s s.heap.objs.size (bindL (envOfC qual scope s.heap.objs.size f cd).kindOf (ps.zip us) fun _ => none) (cellsFrom (s.heap.objs.size + 1) scope.names []) (bindC (envOfC qual scope s.heap.objs.size f cd).kindOf (ps.zip us) fun _ => none) s1) :
    Inv (cxOf CX P w K mg base N qual scope f cd A outer s H E) [] (start N vs) H s1 := by
  have hpl : ps.length ≤ N.length := by have := congrArg List.length S.pre; rw [List.length_take] at this; omega
  obtain ⟨h1, tk, rfl, hk⟩ := x.done
  have noA : ∀ b : Addr, b ∉ (cxOf CX P w K mg base N qual scope f cd A outer s H E).ex := fun b z => absurd (show b ∈ ([] : List Addr) from z) (by simp)
  refine ⟨⟨e0.mod, S.kind, rfl, rfl, Nat.le_refl _, fun y z c h1 h2 => ?_, fun y hy => ?_, fun y c _ h => ?_, fun _ => hd, Around.frames_deeper e0.frames, .inr ⟨rfl, rfl⟩, fun b z => absurd z (noA b), e0.bs, e0.bsz, fun b _ _ => noA b, fun b z => absurd z (noA b), e0.funs, e0.frf⟩,
    rfl, e0.bare, Un.kept hk, ⟨_, x.toInCall.ns, fun i y v h1 h2 h3 => ?_⟩, fun y c h => ⟨_, x.cell y c h⟩, e0.hok.fresh (Nat.le_refl _), fun y c h => ?_, fun p hp => absurd (show p ∈ ([] : List (Addr × Obj)) from hp) (by simp), e0.hok.kept hk, ?_⟩
  · exact name_of_addr x.apart (PySem.mem_of_lookup h1) (PySem.mem_of_lookup h2)
  · have hy : scope.names.lookup y = some .cell ∨ scope.names.lookup y = some .free := hy
    rcases hy with hy | hy
    · exact cell_has hy
    · exact absurd rfl (S.nofree _ (PySem.mem_of_lookup hy))
  · exact Nat.le_of_lt (x.above y c (PySem.mem_of_lookup h))
  · have hi : i < vs.length := by
      unfold start at h2
      by_cases hi : i < vs.length
      · exact hi
      · rw [List.getElem?_append_right (by simpa using hi)] at h2
        rw [List.getElem?_replicate] at h2
        split at h2 <;> cases h2
    have ha : vs[i]? = some v := by
      unfold start at h2
      rw [List.getElem?_append_left (by simpa using hi), List.getElem?_map] at h2
      cases e : vs[i]? with
      | none => rw [e] at h2; cases h2
      | some a => rw [e] at h2; cases h2; rfl
    obtain ⟨u, hu, rv⟩ := r.get ha
    have hp : ps[i]? = some y := by
      rw [← S.pre, List.getElem?_take_of_lt (by omega)]; exact h1
    have ndP : ps.Nodup := by rw [← S.pre]; exact S.nd.sublist (List.take_sublist _ _)
    refine ⟨u, rv, ?_⟩
    rcases S.par y (List.mem_of_getElem? hp) with k | k
    · exact .inl ⟨k, bindL_get ndP hp hu k⟩
    · obtain ⟨c, e⟩ := cell_has (n := s.heap.objs.size + 1) k
      refine .inr ⟨.inl k, c, e, ?_⟩
      have q := x.cell y c e
      rw [bindC_get ndP hp hu (by show scope.names.lookup y ≠ _; rw [k]; decide)] at q
      exact q
  · exact e0.hok.fresh (Nat.le_of_lt (x.above y c (PySem.mem_of_lookup h)))
  · unfold start
    show _ = N.length
    rw [List.length_append, List.length_map, List.length_replicate]
    omega
theorem fn_of {CX : CXT} {P : Program} {w : World} {K : PySem.W.Frag} {mg : Str → Option Value} {base : Heap} {k : Nat} {f : Addr} {name qual : Str} {params : Arguments} {body : List Stmt} {scope : Scope} {dV kV doc pm cdv ct oc : Value} {an od : Option Addr}
    {osl : Array (Option Value)} {N ps : List Str} {sp : Sp} (lk : K.lookup f = some ⟨oc, od, .func (PySem.W.fnOf name qual params body scope dV kV doc pm an cdv ct), osl⟩) (hcd : PySem.W.codeIn K cdv qual = true) (S : FnScope N ps scope)
    (len : ∀ vs H Q E, sp vs H Q E → vs.length = ps.length)
    (hbody : ∀ (A : Around) (outer : List Env) (s : Shared) (H : Hp) (vs : List V) (Q : VK) (E : XK), Room k (A.deeper (envOfC qual scope s.heap.objs.size f cdv)) → sp vs H Q E →
      ∃ t, PSs (cxOf CX P w K mg base N qual scope f cdv A outer s H E) body t ∧ t { nx := fun _ H' => Q .non H', rt := Q } (start N vs) H) :
    FnOk P w K mg base CX (k + 1) f (PySem.W.fnOf name qual params body scope dV kV doc pm an cdv ct) ps sp := by
  refine ⟨len, fun A outer s H args us vs Q E hr e0 hb r hsp => ?_⟩
  have hl := len _ _ _ _ hsp
  have KX : K.In s.heap := e0.mod.kin.keeps fun b o e => (e0.bs b o e).1
  have lim : s.heap.NoLimit := e0.mod.nolimit.keeps fun b o e => (e0.bs b o e).1
  have hkind : ∀ y ∈ ps.zip us, scope.names.lookup y.1 = some .local ∨ (scope.names.lookup y.1 = some .cell ∧ ((cellsFrom (s.heap.objs.size + 1) scope.names []).lookup y.1).isSome = true) := fun ⟨n, v⟩ hy => by
    rcases S.par n (List.of_mem_zip hy).1 with q | q
    · exact .inl q
    · exact .inr ⟨q, PySem.W.cellsFrom_some _ _ _ (.inl q)⟩
  refine codeAny_call_function hr.depth (KX _ _ lk) rfl S.co S.gen rfl (PySem.W.codeRec_of KX hcd) (hb _ _ _ _ ?_)
  refine wpAny_newFunctionEnv_cells S.kind hkind fun env he s1 x => ?_
  subst he
  refine ⟨lim.keeps x.toInCall.keep, codeAny_func ?_⟩
  obtain ⟨t, ht, hq⟩ := hbody A outer s H vs Q E (hr.deeper _) hsp
  have I : Inv (cxOf CX P w K mg base N qual scope f cdv A outer s H E) [] (start N vs) H s1 := inv_start S hr.hd e0 hl r x
  refine wpAny_mono (ht [] s1 (start N vs) H _ I hq) (fun fl s' hs => ?_) fun e s' hs => hs
  have fin : ∀ {σ' : St} {H' : Hp} {v : V} {u : Value}, Inv (cxOf CX P w K mg base N qual scope f cdv A outer s H E) [] σ' H' s' → RelV v u → Q v H' → CE outer P w H s Q u s' :=
    fun {σ' H' v u} J rv q => ⟨v, H', J.os, J.bare, J.base, J.hok, rv, q⟩
  cases fl with
  | ret u =>
    obtain ⟨v, σ', H', J, rv, q⟩ := hs
    exact fin J rv q
  | next =>
    obtain ⟨σ', H', J, q⟩ := hs
    exact fin (v := V.non) (u := Value.none) J rfl q
  | brk =>
    obtain ⟨_, _, _, q⟩ := hs
    exact False.elim q
  | cont =>
    obtain ⟨_, _, _, q⟩ := hs
    exact False.elim q
end L2
namespace L2
open PySem PySem.Spec PyProof.Rows
section
variable {X : Cx} {x : Str} {p pos : Pos} {e : Expr} {es : List Expr} {t : TA} {id T : String} {r : List V → Hp → VK → Prop}
def tCB (r : List V → Hp → VK → Prop) (t : TA) : TE := fun σ H Q => t σ H fun vs H1 => r vs H1 Q
theorem pe_callB (hc : CallR X (.builtin id) r) (hg : Gl X x) (hm : X.mg x = none) (hv : bootBuiltins x = some (.builtin id)) (ha : PA X (e :: es) t) (hn : x ≠ "__name__" := by decide) (hdb : (x == ("__debug__" : Str)) = false := by decide)
    (he : starEach (e :: es) X.env = (false, eval e X.env) :: starEach es X.env := by rfl) (hpl : (backTo pos (starEach es X.env)).any (·.1) = false := by rfl) : PE X (.Call (.Name x p) (e :: es) [] pos) (tCB r t) := by
  intro pins s σ H Q I h
  refine wpAny_Call_Name_kw (ld_blt I hg hm hv ?_ hn hdb)
  exact PyProof.Rows.callWith_builtin1 (thn (ha pos pins s σ H _ I h) fun us s1 ⟨vs, H1, I1, r1, q1⟩ => hc pins s1 σ H1 vs us Q I1 r1 q1) he hpl
theorem pe_callTy (hc : CallR X (.type T) r) (hg : Gl X x) (hm : X.mg x = none) (hv : bootBuiltins x = some (.type T)) (ha : PA X (e :: es) t) (hn : x ≠ "__name__" := by decide) (hdb : (x == ("__debug__" : Str)) = false := by decide)
    (he : starEach (e :: es) X.env = (false, eval e X.env) :: starEach es X.env := by rfl) (hpl : (backTo pos (starEach es X.env)).any (·.1) = false := by rfl) : PE X (.Call (.Name x p) (e :: es) [] pos) (tCB r t) := by
  intro pins s σ H Q I h
  refine wpAny_Call_Name_kw (ld_blt I hg hm hv ?_ hn hdb)
  exact PyProof.Rows.callWith_type1 (thn (ha pos pins s σ H _ I h) fun us s1 ⟨vs, H1, I1, r1, q1⟩ => hc pins s1 σ H1 vs us Q I1 r1 q1) he hpl
end
end L2
namespace HT
open PySem PyProof.Rows
section
open PySem.SeqAt
open PySem.AutoSeq1 (wpAny_loadPart')
open PySem.MeetsSeq PySem.MeetsSeq2 PySem.MeetsSeq3
end
section
variable {prog : Program} {w : World} {A : Around} {E : Value → Shared → Prop} {s : Shared}
def sIx (n d : Nat) : Option Int → Nat
  | none => d
  | some v => if v < 0 then (v + (n : Int)).toNat else min v.toNat n
end
end HT
namespace L2
open PySem PySem.Spec PyProof.Rows
abbrev TO := St → Hp → (Option Int → Hp → Prop) → Prop
def PO (X : Cx) (e : Option Expr) (t : TO) : Prop :=
  ∀ (pins : List (Addr × Obj)) (s : Shared) (σ : St) (H : Hp) (Q : Option Int → Hp → Prop), Inv X pins σ H s → t σ H Q →
    wpAny (model X.prog X.w) X.A (evalPart e X.env) (fun u s' => ∃ o H', Inv X pins σ H' s' ∧ IsPart u o ∧ Q o H') X.xe s
def tPart (t : TE) : TO := fun σ H Q => t σ H fun x H1 => ∃ i, x = .int i ∧ Q (some i) H1
section
variable {X : Cx} {e : Expr} {te : TE} {lo hi : Option Expr} {tl th : TO} {pos p2 : Pos}
theorem po_some (h : PE X e te) : PO X (some e) (tPart te) := by
  intro pins s σ H Q I hw
  rw [evalPart_some]
  refine thn (h pins s σ H _ I hw) fun u s1 ⟨x, H1, I1, r1, q1⟩ => ?_
  obtain ⟨i, rfl, q⟩ := q1
  obtain ⟨t, rfl⟩ := r1
  exact ⟨some i, H1, I1, .int i t, q⟩
def SlR (X : Cx) (r : V → Option Int → Option Int → Hp → VK → Prop) : Prop :=
  ∀ (pins : List (Addr × Obj)) (s : Shared) (σ : St) (H : Hp) (x : V) (v vl vu : Value) (lo hi : Option Int) (sl : Addr) (Q : VK), Inv X pins σ H s → RelV x v → s.heap.IsSliceOf sl vl vu .none → IsPart vl lo → IsPart vu hi → r x lo hi H Q →
    ∃ T id, typeLookup (.type T) "__getitem__" = pure (some (.builtin id)) ∧ s.TypeIs v T ∧ wpAny (model X.prog X.w) X.A (getItem v (.ref sl)) (EP X pins σ Q) X.xe s
def tSl (r : V → Option Int → Option Int → Hp → VK → Prop) (te : TE) (tl th : TO) : TE := fun σ H Q => te σ H fun x H1 => tl σ H1 fun l H2 => th σ H2 fun u H3 => r x l u H3 Q
theorem pe_slice {r : V → Option Int → Option Int → Hp → VK → Prop} (hr : SlR X r) (he : PE X e te) (hl : PO X lo tl) (hu : PO X hi th) : PE X (.Subscript e (.Slice lo hi none p2) pos) (tSl r te tl th) := by
  intro pins s σ H Q I h
  refine Subscript_ (thn (he pins s σ H _ I h) fun v s1 ⟨x, H1, I1, r1, q1⟩ => ?_)
  refine wpAny_Slice (thn (hl pins s1 σ H1 _ I1 q1) fun vl s2 ⟨l, H2, I2, pl, q2⟩ => thn (hu pins s2 σ H2 _ I2 q2) fun vu s3 ⟨u, H3, I3, pu, q3⟩ => ?_)
  rw [evalPart_none]
  refine wpAny_pure ?_
  have I4 : Inv X pins σ H3 { s3 with heap := s3.heap.push { cls := .type "slice", data := .fields #[vl, vu, .none] } } := I3.kept (t' := s3.toks) fun b ob q => Heap.get?_push_of_some _ q
  obtain ⟨T, id, hT, ht, hg⟩ := hr pins { s3 with heap := s3.heap.push { cls := .type "slice", data := .fields #[vl, vu, .none] } } σ H3 x v vl vu l u s3.heap.objs.size Q I4 r1 (Heap.IsSliceOf.new ..) pl pu q3
  show wpAny (model X.prog X.w) X.A (subscriptTail e (.Slice lo hi none p2) v (.ref s3.heap.objs.size)) (EP X pins σ Q) X.xe { s3 with heap := s3.heap.push { cls := .type "slice", data := .fields #[vl, vu, .none] } }
  exact tail_any (ops := [.ref s3.heap.objs.size, v]) ht hT hg (by with_unfolding_all rfl)
def cutV (xs : List V) (lo hi : Option Int) : List V := (xs.drop (HT.sIx xs.length 0 lo)).take (HT.sIx xs.length xs.length hi - HT.sIx xs.length 0 lo)
theorem cutV_length (xs : List V) (lo hi : Option Int) : (cutV xs lo hi).length ≤ xs.length := by
  unfold cutV
  rw [List.length_take, List.length_drop]
  omega
end
end L2
namespace L2
open PySem PySem.Spec PyProof.Rows
def ixN (n : Nat) (i : Int) : Option Nat := if 0 ≤ i then (if i < n then some i.toNat else none) else if -(n : Int) ≤ i then some (i + n).toNat else none
def atI {α : Type} (xs : List α) (i : Int) : Option α := (ixN xs.length i).bind fun j => xs[j]?
theorem ixN_seq {n : Nat} {i : Int} {j : Nat} (h : ixN n i = some j) : seqIndex? i n = some j ∧ j < n ∧ -(n : Int) ≤ i ∧ i < n := by
  unfold ixN at h
  by_cases h0 : 0 ≤ i
  · rw [if_pos h0] at h
    by_cases h1 : i < n
    · rw [if_pos h1] at h
      have e : i.toNat = j := Option.some.inj h
      exact ⟨by rw [seqIndex_of h0 h1, e], by omega, by omega, h1⟩
    · rw [if_neg h1] at h; cases h
  · rw [if_neg h0] at h
    by_cases h1 : -(n : Int) ≤ i
    · rw [if_pos h1] at h
      have e : (i + n).toNat = j := Option.some.inj h
      exact ⟨by rw [seqIndex_neg (by omega) h1, e], by omega, h1, by omega⟩
    · rw [if_neg h1] at h; cases h
theorem atI_get {α : Type} {xs : List α} {i : Int} {v : α} (h : atI xs i = some v) : ∃ j, seqIndex? i xs.length = some j ∧ xs[j]? = some v ∧ j < xs.length ∧ -(xs.length : Int) ≤ i ∧ i < xs.length := by
  unfold atI at h
  cases e : ixN xs.length i with
  | none => rw [e] at h; cases h
  | some j =>
    rw [e] at h
    obtain ⟨h1, h2, h3, h4⟩ := ixN_seq e
    exact ⟨j, h1, h, h2, h3, h4⟩
theorem atI_nat {α : Type} {xs : List α} {j : Nat} {v : α} (h : xs[j]? = some v) : atI xs (j : Int) = some v := by
  have hj : j < xs.length := (List.getElem?_eq_some_iff.mp h).1
  have e : ixN xs.length (j : Int) = some j := by
    unfold ixN
    rw [if_pos (by omega), if_pos (by omega)]; simp
  unfold atI; rw [e]; exact h
def PlainIx (b : Expr) : Prop := ∀ o i, subscripted b false o i = operate [o, i] (getItem o i)
def IxR (X : Cx) (r : R2) : Prop :=
  ∀ (value slice : Expr) (pins : List (Addr × Obj)) (s : Shared) (σ : St) (H : Hp) (x y : V) (v u : Value) (Q : VK), Inv X pins σ H s → RelV x v → RelV y u → r x y H Q →
    subscripted slice false v u = operate [v, u] (getItem v u) → wpAny (model X.prog X.w) X.A (subscriptTail value slice v u) (EP X pins σ Q) X.xe s
def MtR (X : Cx) (id : String) (r : V → List V → Hp → VK → Prop) : Prop :=
  ∀ (pins : List (Addr × Obj)) (s : Shared) (σ : St) (H : Hp) (x : V) (xs : List V) (v : Value) (us : List Value) (Q : VK), Inv X pins σ H s → RelV x v → Vals xs us → r x xs H Q →
    wpAny (model X.prog X.w) X.A (call (.builtin id) (v :: us)) (EP X pins σ Q) X.xe s
section
variable {X : Cx} {a b : Expr} {ta tb : TE} {pos : Pos}
theorem IxR.or {r r' : R2} (h : IxR X r) (h' : IxR X r') : IxR X (fun x y H Q => r x y H Q ∨ r' x y H Q) := by
  intro value slice pins s σ H x y v u Q I rx ry q hs
  rcases q with q | q
  · exact h value slice pins s σ H x y v u Q I rx ry q hs
  · exact h' value slice pins s σ H x y v u Q I rx ry q hs
theorem pe_ix {r : R2} (hr : IxR X r) (ha : PE X a ta) (hb : PE X b tb) (hs : PlainIx b) : PE X (.Subscript a b pos) (tOp r ta tb) := by
  intro pins s σ H Q I h
  exact Subscript_ (binT ha hb I h fun v u s2 x y H2 I2 rx ry q => hr a b pins s2 σ H2 x y v u Q I2 rx ry q (hs _ _))
def rIxL (K : PySem.W.Frag) : R2 := fun x y H Q => ∃ p xs i v, x = .ref p ∧ y = .int i ∧ SqL K H p xs ∧ atI xs i = some v ∧ Q v H
def rIxT (K : PySem.W.Frag) : R2 := fun x y H Q => ∃ p xs i v, x = .ref p ∧ y = .int i ∧ SqT K H p xs ∧ atI xs i = some v ∧ Q v H
theorem ix_list : IxR X (rIxL X.K) := by
  intro value slice pins s σ H x y v u Q I rx ry h hs
  obtain ⟨p, xs, i, z, rfl, rfl, hq, he, q⟩ := h
  cases rx
  obtain ⟨t, rfl⟩ := ry
  obtain ⟨its, r, pl, hz⟩ := I.list hq
  obtain ⟨j, h1, h2, h3, h4, h5⟩ := atI_get he
  obtain ⟨w, ew, rw'⟩ := r.get h2
  have hl := r.length
  have hn := line63
  have fin : EP X pins σ Q w s := ⟨z, H, I, rw', q⟩
  by_cases h0 : 0 ≤ i
  · have hj : i.toNat = j := by
      rw [seqIndex_of h0 h5] at h1
      exact Option.some.inj h1
    exact item_listR pl.isList h0 (by omega) (by rw [hj]; simpa using ew) fin hs
  · have hj : (i + (its.toArray.size : Int)).toNat = j := by
      rw [seqIndex_neg (by omega) h4] at h1
      rw [List.size_toArray, ← hl]
      exact Option.some.inj h1
    exact subscriptTail_builtinR (x := w) pl.isList.typeIs slot_list_getitem.lookup
      (wpAny_getItem_list_neg (Q := fun r s' => r = w ∧ EP X pins σ Q r s') pl.isList (by omega) (by rw [List.size_toArray] <;> omega) (by omega) (by rw [hj]; simpa using ew) ⟨rfl, fin⟩) hs
theorem ix_tup : IxR X (rIxT X.K) := by
  intro value slice pins s σ H x y v u Q I rx ry h hs
  obtain ⟨p, xs, i, z, rfl, rfl, hq, he, q⟩ := h
  cases rx
  obtain ⟨t, rfl⟩ := ry
  obtain ⟨its, r, pl, hz⟩ := I.tuple hq
  obtain ⟨j, h1, h2, h3, h4, h5⟩ := atI_get he
  obtain ⟨w, ew, rw'⟩ := r.get h2
  have hl := r.length
  have hn := line63
  have fin : EP X pins σ Q w s := ⟨z, H, I, rw', q⟩
  exact subscriptTail_builtinR (x := w) pl.typeIs slot_tuple_getitem.lookup
    (getItem_tuple (j := j) (Q := fun r s' => r = w ∧ EP X pins σ Q r s') pl (by omega) (by omega) (by rw [List.size_toArray, ← hl]; exact h1) (by simpa using ew) ⟨rfl, fin⟩) hs
theorem mapSeq_set (its : List Value) (n j : Nat) (u : Value) : Obj.mapSeq (·.setIfInBounds j u) { cls := .type "list", data := .seq its.toArray n } = { cls := .type "list", data := .seq (its.set j u).toArray n } := by
  simp [Obj.mapSeq]
theorem Inv.lst {pins : List (Addr × Obj)} {σ : St} {H : Hp} {s : Shared} {p : Addr} {xs : List V} (I : Inv X pins σ H s) (h : H p = some (.lst xs)) :
    ∃ (its : List Value) (n : Nat), Vals xs its ∧ s.heap.get? p = some { cls := .type "list", data := .seq its.toArray n } ∧ xs.length ≤ sizeLine := by
  obtain ⟨z, its, n, r, e⟩ := I.hok p _ h
  exact ⟨its, n, r, e, z⟩
theorem Inv.lstUpd {pins : List (Addr × Obj)} {σ : St} {H : Hp} {s : Shared} {p : Addr} {xs ys : List V} {its its' : List Value} {n n' : Nat} {f : Obj → Obj} (I : Inv X pins σ H s) (h : H p = some (.lst xs))
    (ho : s.heap.get? p = some { cls := .type "list", data := .seq its.toArray n }) (hf : f { cls := .type "list", data := .seq its.toArray n } = { cls := .type "list", data := .seq its'.toArray n' }) (r : Vals ys its') (hz : ys.length ≤ sizeLine) (t : Nat) :
    Inv X pins σ (upd H p (.lst ys)) { s with heap := s.heap.update p f, toks := t } := by
  have e : (s.heap.update p f).get? p = some { cls := .type "list", data := .seq its'.toArray n' } := by
    rw [Heap.get?_update_self f ho (by rw [hf] <;> rfl), hf]
  refine I.write (x := p) (e := p) (by rw [h]; trivial) (.inl rfl) (fun b u hb q => (Heap.get?_update_other _ _ (Ne.symm hb)).trans q) ⟨_, e⟩ ?_
  exact ⟨hz, its', n', r, e⟩
def rSetL : V → V → V → Hp → (Hp → Prop) → Prop := fun o i v H Q => ∃ p xs k j, o = .ref p ∧ i = .int k ∧ H p = some (.lst xs) ∧ ixN xs.length k = some j ∧ Q (upd H p (.lst (xs.set j v)))
theorem set_list : PSet X rSetL := by
  intro pins s σ H o i v ov iv u Q I ro ri rv h
  obtain ⟨p, xs, k, j, rfl, rfl, hp, hj, q⟩ := h
  cases ro
  obtain ⟨t, rfl⟩ := ri
  obtain ⟨its, n, r, ho, hz⟩ := I.lst hp
  obtain ⟨h1, h2, h3, h4⟩ := ixN_seq hj
  have hl := r.length
  have hn := line63
  have I' : Inv X pins σ (upd H p (.lst (xs.set j v))) { s with heap := s.heap.update p (Obj.mapSeq (·.setIfInBounds j u)) } :=
    I.lstUpd hp ho (mapSeq_set its n j u) (r.set rv j) (by rw [List.length_set]; exact hz) s.toks
  by_cases h0 : 0 ≤ k
  · have hk : k.toNat = j := by
      rw [seqIndex_of h0 h4] at h1
      exact Option.some.inj h1
    exact PySem.W.ki_setAt ho h0 (by omega) (by rw [List.size_toArray, ← hl]; exact h4) (by rw [hk]; exact ⟨_, I', q⟩)
  · have hk : (k + (its.toArray.size : Int)).toNat = j := by
      rw [seqIndex_neg (by omega) h3] at h1
      rw [List.size_toArray, ← hl]
      exact Option.some.inj h1
    exact PySem.W.ki_setBack ho (by omega) (by rw [List.size_toArray, ← hl]; exact h3) (by omega) (by rw [hk]; exact ⟨_, I', q⟩)
theorem slice_bounds (lo hi : Option Int) (n : Nat) : (sliceBounds lo hi none n).1 = ((HT.sIx n 0 lo : Nat) : Int) ∧ (sliceBounds lo hi none n).2.1 = ((HT.sIx n n hi : Nat) : Int) ∧ (sliceBounds lo hi none n).2.2 = 1 := by
  refine ⟨?_, ?_, rfl⟩
  · cases lo with
    | none => simp [sliceBounds, HT.sIx]
    | some i =>
      simp only [sliceBounds, HT.sIx, Option.getD_none, show (1 : Int) > 0 by decide, if_true]
      by_cases h : i < 0
      · simp only [h, if_true] <;> omega
      · simp only [h, if_false] <;> omega
  · cases hi with
    | none => simp [sliceBounds, HT.sIx]
    | some i =>
      simp only [sliceBounds, HT.sIx, Option.getD_none, show (1 : Int) > 0 by decide, if_true]
      by_cases h : i < 0
      · simp only [h, if_true] <;> omega
      · simp only [h, if_false] <;> omega
theorem slicePick_cut (its : List Value) (lo hi : Option Int) : slicePick its.toArray lo hi none = ((its.drop (HT.sIx its.length 0 lo)).take (HT.sIx its.length its.length hi - HT.sIx its.length 0 lo)).toArray := by
  obtain ⟨h1, h2, h3⟩ := slice_bounds lo hi its.toArray.size
  unfold slicePick
  rw [h1, h2, h3]
  simp only [sliceRange_one, pick_run, List.size_toArray] <;> rfl
def rSlL (K : PySem.W.Frag) : V → Option Int → Option Int → Hp → VK → Prop := fun x lo hi H Q => ∃ a xs, x = .ref a ∧ SqL K H a xs ∧ ∀ p, H p = none → Q (.ref p) (upd H p (.lst (cutV xs lo hi)))
theorem sl_list : SlR X (rSlL X.K) := by
  intro pins s σ H x v vl vu lo hi sl Q I rx hs pl pu h
  obtain ⟨a, xs, rfl, hx, q⟩ := h
  cases rx
  obtain ⟨its, r, ht, hz⟩ := I.list hx
  have hlen := r.length
  refine ⟨"list", _, slot_list_getitem.lookup, ht.isList.typeIs, ?_⟩
  refine wpAny_getItem_list_slice ht.isList hs pl pu .none (by simp) ?_ (by rw [List.size_toArray] <;> omega)
  rw [slicePick_cut, ← hlen]
  refine ⟨.ref s.heap.objs.size, _, I.laid (t' := s.toks) (o := .lst (cutV xs lo hi)) (fun b ob q => Heap.get?_push_of_some _ q) (Nat.le_refl _) ?_, rfl, q _ (I.hok.fresh (Nat.le_refl _))⟩
  exact ⟨Nat.le_trans (cutV_length xs lo hi) hz, _, 0, (r.drop (HT.sIx xs.length 0 lo)).take (HT.sIx xs.length xs.length hi - HT.sIx xs.length 0 lo), Heap.get?_push_size _ rfl⟩
def flatV : V → Bool
  | .non => true
  | .bl _ => true
  | .int _ => true
  | .str _ => true
  | _ => false
def eqV : V → V → Bool
  | .non, .non => true
  | .bl a, .bl b => a == b
  | .bl a, .int b => (if a then 1 else 0) == b
  | .int a, .bl b => a == (if b then 1 else 0)
  | .int a, .int b => a == b
  | .str a, .str b => a == b
  | _, _ => false
theorem eqAt_V {A : Around} {s : Shared} {y x : V} {u v : Value} (ry : RelV y u) (rx : RelV x v) (fy : flatV y = true) (fx : flatV x = true) : SeqAt.EqAt A s u v (eqV y x) := by
  cases y with
  | non =>
    cases ry
    cases x with
    | non => cases rx; exact SeqAt.EqAt.same _
    | bl b => cases rx; exact SeqAt.EqAt.none_bool b
    | int b => obtain ⟨t, rfl⟩ := rx; exact SeqAt.EqAt.none_int b t
    | str b => obtain ⟨t, rfl⟩ := rx; exact SeqAt.EqAt.none_str b t
    | _ => exact absurd (show false = true from fx) Bool.false_ne_true
  | bl a =>
    cases ry
    cases x with
    | non => cases rx; exact SeqAt.EqAt.bool_none a
    | bl b => cases rx; exact SeqAt.EqAt.bool_bool a b
    | int b => obtain ⟨t, rfl⟩ := rx; exact SeqAt.EqAt.bool_int a b t
    | str b => obtain ⟨t, rfl⟩ := rx; exact SeqAt.EqAt.bool_str a b t
    | _ => exact absurd (show false = true from fx) Bool.false_ne_true
  | int a =>
    obtain ⟨t', rfl⟩ := ry
    cases x with
    | non => cases rx; exact SeqAt.EqAt.int_none a t'
    | bl b => cases rx; exact SeqAt.EqAt.int_bool a t' b
    | int b => obtain ⟨t, rfl⟩ := rx; exact SeqAt.EqAt.int_int a t' b t
    | str b => obtain ⟨t, rfl⟩ := rx; exact SeqAt.EqAt.int_str a t' b t
    | _ => exact absurd (show false = true from fx) Bool.false_ne_true
  | str a =>
    obtain ⟨t', rfl⟩ := ry
    cases x with
    | non => cases rx; exact SeqAt.EqAt.str_none a t'
    | bl b => cases rx; exact SeqAt.EqAt.str_bool a t' b
    | int b => obtain ⟨t, rfl⟩ := rx; exact SeqAt.EqAt.str_int a t' b t
    | str b => obtain ⟨t, rfl⟩ := rx; exact SeqAt.EqAt.str_str a t' b t
    | _ => exact absurd (show false = true from fx) Bool.false_ne_true
  | _ => exact absurd (show false = true from fy) Bool.false_ne_true
def eqU (x : V) (u : Value) : Bool := match u with
  | .none => eqV .non x
  | .bool b => eqV (.bl b) x
  | .int i _ => eqV (.int i) x
  | .str z _ => eqV (.str z) x
  | _ => false
theorem eqU_of {x y : V} {u : Value} (r : RelV y u) (f : flatV y = true) : eqU x u = eqV y x := by
  cases y with
  | non => cases r; rfl
  | bl b => cases r; rfl
  | int i => obtain ⟨t, rfl⟩ := r; rfl
  | str z => obtain ⟨t, rfl⟩ := r; rfl
  | _ => exact absurd (show false = true from f) Bool.false_ne_true
theorem any_eqU {x : V} : ∀ {xs : List V} {us : List Value}, Vals xs us → xs.all flatV = true → us.any (eqU x) = xs.any fun y => eqV y x
  | _, _, .nil, _ => rfl
  | y :: xs, u :: us, .cons r t, f => by
    rw [List.all_cons, Bool.and_eq_true] at f
    rw [List.any_cons, List.any_cons, eqU_of r f.1, any_eqU t f.2]
theorem mem_eqAt {A : Around} {s : Shared} {x : V} {v : Value} (rx : RelV x v) (fx : flatV x = true) : ∀ {xs : List V} {us : List Value}, Vals xs us → xs.all flatV = true → ∀ u ∈ us, SeqAt.EqAt A s u v (eqU x u)
  | _, _, .nil, _ => fun u hu => by cases hu
  | y :: xs, u :: us, .cons r t, f => fun u' hu => by
    rw [List.all_cons, Bool.and_eq_true] at f
    rcases List.mem_cons.mp hu with rfl | hu
    · rw [eqU_of r f.1]; exact eqAt_V r rx f.1 fx
    · exact mem_eqAt rx fx t f.2 u' hu
def inV (x : V) (xs : List V) : Bool := xs.any fun y => eqV y x
def rIn (K : PySem.W.Frag) (neg : Bool) : R2 := fun x y H Q => ∃ p xs, y = .ref p ∧ (SqL K H p xs ∨ SqT K H p xs) ∧ flatV x = true ∧ xs.all flatV = true ∧ Q (.bl (if neg then !inV x xs else inV x xs)) H
theorem op_in_seq : OpR X (compareOp .In) (rIn X.K false) := by
  intro pins s σ H x y v u Q I rx ry h
  obtain ⟨p, xs, rfl, hq, fx, fs, q⟩ := h
  cases ry
  rcases hq with hq | hq
  · obtain ⟨its, r, pl, hz⟩ := I.list hq
    refine SeqAt.in_listAt (eqU x) pl.isList (fun w hw => mem_eqAt rx fx r fs w (by simpa using hw)) ⟨.bl _, H, I, rfl, ?_⟩
    rw [show its.toArray.any (eqU x) = its.any (eqU x) by simp, any_eqU r fs]
    exact q
  · obtain ⟨its, r, pl, hz⟩ := I.tuple hq
    refine SeqAt.in_tupleAt (eqU x) pl (fun w hw => mem_eqAt rx fx r fs w (by simpa using hw)) ⟨.bl _, H, I, rfl, ?_⟩
    rw [show its.toArray.any (eqU x) = its.any (eqU x) by simp, any_eqU r fs]
    exact q
theorem call_list_of : CallR X (.type "list") (fun xs H Q => ∃ p ys, xs = [.ref p] ∧ (SqL X.K H p ys ∨ SqT X.K H p ys) ∧ ∀ l, H l = none → Q (.ref l) (upd H l (.lst ys))) := by
  intro pins s σ H xs us Q I r h
  obtain ⟨p, ys, rfl, hq, q⟩ := h
  obtain ⟨u, rfl, rx⟩ := vals1 r
  cases rx
  have fin : ∀ (its : List Value), Vals ys its → ys.length ≤ sizeLine → ∀ (h' : Heap) (c' : Nat), (∀ b o', s.heap.get? b = some o' → h'.get? b = some o') →
      h'.get? s.heap.objs.size = some { cls := .type "list", dict := none, data := .seq its.toArray c', slots := #[] } → EP X pins σ Q (.ref s.heap.objs.size) { s with heap := h' } := fun its r' hz h' c' kp e =>
    ⟨.ref s.heap.objs.size, _, I.laid (t' := s.toks) kp (Nat.le_refl _) (show ObjOk X.prog X.w _ h' _ (.lst ys) from ⟨hz, its, c', r', e⟩), rfl, q _ (I.hok.fresh (Nat.le_refl _))⟩
  rcases hq with hq | hq
  · obtain ⟨its, r', pl, hz⟩ := I.list hq
    have hlen := r'.length
    obtain ⟨o, ho, hc, n, hd⟩ := pl.isList
    exact call_list_seq p (.inl rfl) ho hc hd (fun h' c' kp e => fin its r' hz h' c' kp e) (by simp only [List.size_toArray] <;> omega)
  · obtain ⟨its, r', pl, hz⟩ := I.tuple hq
    have hlen := r'.length
    obtain ⟨o, ho, hc, n, hd⟩ := pl
    exact call_list_seq p (.inr rfl) ho hc hd (fun h' c' kp e => fin its r' hz h' c' kp e) (by simp only [List.size_toArray] <;> omega)
def tyV (K : PySem.W.Frag) (T : String) (x : V) (H : Hp) : Prop := match x with
  | .str _ => T = "str"
  | .int _ => T = "int"
  | .ref p => (T = "list" ∧ ∃ xs, SqL K H p xs) ∨ (T = "tuple" ∧ ∃ o, K.lookup p = some o ∧ o.cls = .type "tuple" ∧ o.dict = none) ∨
      (T = "dict" ∧ ((∃ kvs, H p = some (.dK kvs)) ∨ ∃ kvs, H p = some (.dT kvs))) ∨ (T = "set" ∧ ∃ S n, H p = some (.set S n))
  | _ => False
theorem tyV_is {pins : List (Addr × Obj)} {σ : St} {H : Hp} {s : Shared} {T : String} {x : V} {v : Value} (I : Inv X pins σ H s) (r : RelV x v) (ty : tyV X.K T x H) :
    s.TypeIs v T ∧ ∀ a, v = .ref a → ∃ ob, s.heap.get? a = some ob ∧ ob.dict = none := by
  cases x with
  | str z =>
    obtain ⟨t, rfl⟩ := r
    cases (show T = "str" from ty)
    exact ⟨typeIs_str s z t, fun _ e => nomatch e⟩
  | int i =>
    obtain ⟨t, rfl⟩ := r
    cases (show T = "int" from ty)
    exact ⟨typeIs_int s i t, fun _ e => nomatch e⟩
  | ref p =>
    cases r
    rcases ty with ⟨rfl, xs, hq⟩ | ⟨rfl, o, hk, hc, hd⟩ | ⟨rfl, hk⟩ | ⟨rfl, S, n, hk⟩
    · obtain ⟨its, _, pl, _⟩ := I.list hq
      refine ⟨pl.isList.typeIs, fun a e => ?_⟩
      cases e
      obtain ⟨o, n, e, c, hd, _⟩ := pl
      exact ⟨o, e, hd⟩
    · refine ⟨⟨o, I.kIn p o hk, hc⟩, fun a e => ?_⟩
      cases e
      exact ⟨o, I.kIn _ o hk, hd⟩
    · have z : ∃ o, s.heap.get? p = some o ∧ o.ExactDict := by
        rcases hk with ⟨kvs, hk⟩ | ⟨kvs, hk⟩
        · obtain ⟨_, _, _, _, o, _, _, e, ex, _⟩ := I.hok p _ hk
          exact ⟨o, e, ex⟩
        · obtain ⟨_, _, _, _, o, _, _, e, ex, _⟩ := I.hok p _ hk
          exact ⟨o, e, ex⟩
      obtain ⟨o, e, ex⟩ := z
      refine ⟨⟨o, e, ex.1⟩, fun a e2 => ?_⟩
      cases e2
      exact ⟨o, e, ex.2.1⟩
    · obtain ⟨o, _, _, _, e, ex, _⟩ := I.hok p _ hk
      refine ⟨⟨o, e, ex.1⟩, fun a e2 => ?_⟩
      cases e2
      exact ⟨o, e, ex.2.1⟩
  | _ => exact False.elim ty
def tBM (K : PySem.W.Frag) (T : String) (r : V → List V → Hp → VK → Prop) (to : TE) (t : TA) : TE := fun σ H Q => to σ H fun x H1 => tyV K T x H1 ∧ t σ H1 fun xs H2 => r x xs H2 Q
variable {o e : Expr} {es : List Expr} {to : TE} {t : TA} {name : Str} {apos cpos : Pos} {T id : String} {r : V → List V → Hp → VK → Prop}
theorem pe_bm (pa : PlainAttrs T) (slot : Slot T name id) (hty : typeOf (.builtin id) = pure (.type "method_descriptor")) (hm : MtR X id r) (ho : PE X o to) (ha : PA X (e :: es) t)
    (hbase : attributeBase o name X.env (eval o X.env) = eval o X.env := by rfl)
    (hfew : ((backTo cpos (starEach (e :: es) X.env)).all (fun x => !x.1) && (backToKw cpos (keywordEach [] X.env)).all (fun x => x.1.isSome)
      && decide ((e :: es).length + ([] : List Keyword).length + (if ([] : List Keyword).isEmpty then 0 else 1) < 30)) = true := by rfl)
    (hline : (apos.endLine == cpos.line) = true := by rfl) (hs : starEach (e :: es) X.env = (false, eval e X.env) :: starEach es X.env := by rfl) (hplain : (backTo cpos (starEach es X.env)).any (·.1) = false := by rfl) :
    PE X (.Call (.Attribute o name apos) (e :: es) [] cpos) (tBM X.K T r to t) := by
  intro pins s σ H Q I h
  refine wpAny_Call_method_late hbase hfew hline rfl (thn (ho pins s σ H _ I h) fun v s1 ⟨x, H1, I1, r1, ty, q1⟩ => ?_)
  obtain ⟨h1, h2⟩ := tyV_is I1 r1 ty
  refine ⟨T, id, pa, slot, hty, h1, h2, ?_⟩
  have hA := ha cpos pins s1 σ H1 _ I1 q1
  rw [hs] at hA ⊢
  refine Calls.callWith_builtin (by show (false || (backTo cpos (starEach es X.env)).any (·.1)) = false; rw [hplain] <;> rfl) (Calls.evalArgs_plain ?_)
  exact thn hA fun us s2 ⟨vs, H2, I2, r2, q2⟩ => hm pins s2 σ H2 x vs v us Q I2 r1 r2 q2
end
end L2
namespace L2
open PySem PySem.Spec PyProof.Rows
def MtM (X : Cx) (id : String) (r : V → List V → Hp → VK → Prop) : Prop :=
  ∀ (pins : List (Addr × Obj)) (s : Shared) (σ : St) (H : Hp) (x : V) (xs : List V) (v : Value) (us : List Value) (Q : VK), Inv X pins σ H s → RelV x v → Vals xs us → r x xs H Q →
    wpAny (model X.prog X.w) X.A (call (.builtin id) (v :: us)) (EP X pins σ Q) X.xe s
theorem Vals.one : ∀ {x : V} {us : List Value}, Vals [x] us → ∃ u, us = [u] ∧ RelV x u
  | _, _, .cons r .nil => ⟨_, rfl, r⟩
theorem Vals.two : ∀ {x y : V} {us : List Value}, Vals [x, y] us → ∃ u v, us = [u, v] ∧ RelV x u ∧ RelV y v
  | _, _, _, .cons r (.cons q .nil) => ⟨_, _, rfl, r, q⟩
theorem Vals.rep {xs : List V} {us : List Value} (h : Vals xs us) : ∀ k : Nat, Vals (List.replicate k xs).flatten (List.replicate k us).flatten
  | 0 => .nil
  | k + 1 => by
    rw [List.replicate_succ, List.replicate_succ, List.flatten_cons, List.flatten_cons]
    exact Vals.append h (Vals.rep h k)
theorem foldl_rep (its : List Value) : ∀ (k : Nat) (acc : List Value),
    List.foldl (fun x1 x2 => x1 ++ x2) acc.toArray (List.replicate k its.toArray) = (acc ++ (List.replicate k its).flatten).toArray
  | 0, acc => by simp
  | k + 1, acc => by
    have e : acc.toArray ++ its.toArray = (acc ++ its).toArray := by simp
    have e2 : (acc ++ its) ++ (List.replicate k its).flatten = acc ++ (List.replicate (k + 1) its).flatten := by
      rw [List.replicate_succ, List.flatten_cons, List.append_assoc]
    rw [← e2, ← foldl_rep its k (acc ++ its), ← e, List.replicate_succ, List.foldl_cons]
section
variable {X : Cx} {pins : List (Addr × Obj)} {σ : St} {H : Hp} {s : Shared} {l b : Addr} {xs ys zs : List V}
theorem Inv.lset {its its' : List Value} {n : Nat} {f : Array Value → Array Value} {t' : Nat} (I : Inv X pins σ H s) (hH : H l = some (.lst xs))
    (e : s.heap.get? l = some { cls := .type "list", data := .seq its.toArray n }) (hf : f its.toArray = its'.toArray) (hv : Vals ys its') (hz : ys.length ≤ sizeLine) :
    Inv X pins σ (upd H l (.lst ys)) { s with heap := s.heap.update l (Obj.mapSeq f), toks := t' } := by
  have q := PySem.IsL.update e f
  rw [hf] at q
  refine I.write (x := l) (e := l) (by rw [hH]; exact trivial) (.inl rfl) (fun b' u hb hu => (Heap.get?_update_other s.heap (Obj.mapSeq f) (Ne.symm hb)).trans hu) ⟨_, q⟩ ?_
  exact ⟨hz, its', _, hv, q⟩
theorem Inv.lnew {its : List Value} {t' : Nat} (I : Inv X pins σ H s) (hv : Vals ys its) (hz : ys.length ≤ sizeLine) :
    Inv X pins σ (upd H s.heap.objs.size (.lst ys)) { s with heap := s.heap.push { cls := .type "list", data := .seq its.toArray }, toks := t' } :=
  I.laid (fun _ _ q => Heap.get?_push_of_some _ q) (Nat.le_refl _) ⟨hz, its, 0, hv, Heap.get?_push_size _ rfl⟩
theorem Inv.fresh (I : Inv X pins σ H s) : H s.heap.objs.size = none := I.hok.fresh (Nat.le_refl _)
theorem Inv.lstM (I : Inv X pins σ H s) (hH : H l = some (.lst xs)) : xs.length ≤ sizeLine ∧ ∃ (its : List Value) (n : Nat), Vals xs its ∧ xs.length = its.length ∧ s.heap.get? l = some { cls := .type "list", data := .seq its.toArray n } := by
  obtain ⟨z, its, n, r, e⟩ := I.hok l _ hH
  exact ⟨z, its, n, r, r.length, e⟩
theorem notLongL {n : Nat} (h : n ≤ sizeLine) : Builtin.List.listTooLong n = false := by
  unfold Builtin.List.listTooLong
  exact decide_eq_false (by omega)
end
section
variable {X : Cx}
def rAppend : V → List V → Hp → VK → Prop := fun x vs H Q => ∃ l xs y, x = .ref l ∧ vs = [y] ∧ H l = some (.lst xs) ∧ xs.length < sizeLine ∧ Q .non (upd H l (.lst (xs ++ [y])))
theorem mt_append : MtM X "list.append" rAppend := by
  intro pins s σ H x vs v us Q I rx rv h
  obtain ⟨l, xs, y, rfl, rfl, hH, hz, q⟩ := h
  cases rx
  obtain ⟨u, rfl, ru⟩ := rv.one
  obtain ⟨z, its, n, r, hl, e⟩ := I.lstM hH
  refine call_meets F.slot_list_append ⟨_, e, rfl⟩ F.entry_list_append (F.args_list_append_2 _ _) (PySem.list_append l its.toArray n u (by rw [List.size_toArray]; omega)) ⟨e, ?_⟩
  refine ⟨.non, _, I.lset (its' := its ++ [u]) hH e (by simp) (r.append (.cons ru .nil)) ?_, rfl, q⟩
  rw [List.length_append, List.length_singleton]
  omega
def rExtend : V → List V → Hp → VK → Prop := fun x vs H Q => ∃ l b xs zs, x = .ref l ∧ vs = [.ref b] ∧ H l = some (.lst xs) ∧ H b = some (.lst zs) ∧ xs.length + zs.length ≤ sizeLine ∧ Q .non (upd H l (.lst (xs ++ zs)))
def rCat : R2 := fun x y H Q => ∃ l b xs zs, x = .ref l ∧ y = .ref b ∧ H l = some (.lst xs) ∧ H b = some (.lst zs) ∧ xs.length + zs.length ≤ sizeLine ∧ ∀ p, H p = none → Q (.ref p) (upd H p (.lst (xs ++ zs)))
theorem op_cat : OpR X (binaryOp .Add) rCat := by
  intro pins s σ H x y v u Q I rx ry h
  obtain ⟨l, b, xs, zs, rfl, rfl, hH, hB, hz, q⟩ := h
  cases rx
  cases ry
  obtain ⟨z, its, n, r, hl, e⟩ := I.lstM hH
  obtain ⟨z2, its2, n2, r2, hl2, e2⟩ := I.lstM hB
  refine PySem.P.add_list e e2 ?_ (by rw [List.size_toArray, List.size_toArray]; omega)
  have ea : its.toArray ++ its2.toArray = (its ++ its2).toArray := by simp
  rw [ea]
  exact ⟨.ref _, _, I.lnew (t' := s.toks) (r.append r2) (by rw [List.length_append]; omega), rfl, q _ I.fresh⟩
def rRep : R2 := fun x y H Q => ∃ l k xs, x = .ref l ∧ y = .int k ∧ H l = some (.lst xs) ∧ -(2 ^ 63) ≤ k ∧ k < 2 ^ 63 ∧ xs.length * k.toNat ≤ sizeLine ∧
  ∀ p, H p = none → Q (.ref p) (upd H p (.lst (List.replicate k.toNat xs).flatten))
theorem len_rep {α : Type} (xs : List α) (k : Nat) : (List.replicate k xs).flatten.length = k * xs.length := by
  induction k with
  | zero => simp
  | succ k ih => rw [List.replicate_succ, List.flatten_cons, List.length_append, ih, Nat.succ_mul, Nat.add_comm]
theorem op_rep : OpR X (binaryOp .Mult) rRep := by
  intro pins s σ H x y v u Q I rx ry h
  obtain ⟨l, k, xs, rfl, rfl, hH, h1, h2, hz, q⟩ := h
  cases rx
  obtain ⟨t, rfl⟩ := ry
  obtain ⟨z, its, n, r, hl, e⟩ := I.lstM hH
  have hlen : its.toArray.size * k.toNat ≤ sizeLine := by rw [List.size_toArray, ← hl]; exact hz
  have hcap : ¬ its.toArray.size * k.toNat > (2 ^ 63 - 1) / 8 := by
    have : (sizeLine : Nat) ≤ (2 ^ 63 - 1) / 8 := by decide
    omega
  have hfit : ¬ (!Builtin.List.listFitsIndex k) = true := by
    rw [fitsIndex_both h1 h2]
    exact Bool.false_ne_true
  have hlong : ¬ Builtin.List.listTooLong (its.toArray.size * k.toNat) = true := by
    rw [notLongL hlen]
    exact Bool.false_ne_true
  have hnew : List.foldl (fun x1 x2 => x1 ++ x2) #[] (List.replicate (if its.toArray.isEmpty = true then 0 else k.toNat) its.toArray) = (List.replicate k.toNat its).flatten.toArray := by
    have f0 : ∀ m : Nat, List.foldl (fun x1 x2 => x1 ++ x2) #[] (List.replicate m its.toArray) = (List.replicate m its).flatten.toArray := fun m => by
      have := foldl_rep its m []
      rw [List.nil_append] at this
      exact this
    rw [f0]
    cases its with
    | nil => simp
    | cons a r' => rw [if_neg (by simp)]
  refine wpAny_binaryOp_repeat_ref (T := "list") (U := "int") (by decide) ⟨_, e, rfl⟩ (fun s' => typeIs_int s' k t) noFill_list_mul F.fills_int_mul F.slot_int_rmul repeat_list F.slot_int_index.lookup
    (call_meets F.slot_int_rmul (typeIs_int s k t) F.entry_int_rmul (F.args_int_rmul_2 _ _) (int___rmul___int_list k t l its.toArray n)
      ⟨e, rfl, ⟨_, e, rfl⟩, call_meets F.slot_list_mul ⟨_, e, rfl⟩ F.entry_list_mul (F.args_list_mul_2 _ _) (AutoListH.list___mul___list_int_3 l its.toArray n k t hfit hcap hlong) ⟨e, ?_⟩⟩)
  rw [hnew]
  exact ⟨.ref _, _, I.lnew (t' := s.toks) (r.rep k.toNat) (by rw [len_rep, Nat.mul_comm]; exact hz), rfl, q _ I.fresh⟩
end
section
variable {prog : Program} {w : World} {A : Around} {E : Value → Shared → Prop} {s : Shared}
end
section
variable {X : Cx}
end
end L2
namespace L2
open PySem PySem.Spec PyProof.Rows
section
variable {κ : Type} [DecidableEq κ]
def valV (kvs : List (κ × V)) (k : κ) : Option V := (kvs.find? fun kv => decide (kv.1 = k)).map (·.2)
def putK (kvs : List (κ × V)) (k : κ) (v : V) : List (κ × V) :=
  if (kvs.any fun kv => decide (kv.1 = k)) = true then kvs.map (fun kv => if kv.1 = k then (kv.1, v) else kv) else kvs ++ [(k, v)]
def dropK (kvs : List (κ × V)) (k : κ) : List (κ × V) := kvs.filter fun kv => decide (kv.1 ≠ k)
theorem valV_pos {p : κ × V} {r : List (κ × V)} {k : κ} (e : p.1 = k) : valV (p :: r) k = some p.2 := by simp [valV, List.find?_cons, e]
theorem valV_neg {p : κ × V} {r : List (κ × V)} {k : κ} (e : ¬ p.1 = k) : valV (p :: r) k = valV r k := by simp [valV, List.find?_cons, e]
theorem valV_any (k : κ) : ∀ kvs : List (κ × V), (kvs.any fun kv => decide (kv.1 = k)) = (valV kvs k).isSome
  | [] => rfl
  | p :: r => by
    rw [List.any_cons]
    by_cases e : p.1 = k
    · simp only [valV_pos e, decide_eq_true e, Bool.true_or, Option.isSome_some]
    · rw [valV_neg e, decide_eq_false e, Bool.false_or]; exact valV_any k r
theorem length_putK (kvs : List (κ × V)) (k : κ) (v : V) : (putK kvs k v).length ≤ kvs.length + 1 := by
  unfold putK
  split
  · rw [List.length_map]; omega
  · rw [List.length_append, List.length_cons, List.length_nil]; omega
theorem RelO.isSome_eq {o : Option V} {u : Option Value} (r : RelO o u) : o.isSome = u.isSome := by
  cases o with
  | none => cases u with
    | none => rfl
    | some _ => exact (show False from r).elim
  | some _ => cases u with
    | none => exact (show False from r).elim
    | some _ => rfl
theorem KV.val {kvs : List (κ × V)} {vs : List (κ × Value)} (r : KV kvs vs) (k : κ) : RelO (valV kvs k) (valueAt vs k) := by
  unfold KV at r
  induction r with
  | nil => exact True.intro
  | @cons p q ps qs h t ih =>
    obtain ⟨h1, h2⟩ := h
    by_cases e : p.1 = k
    · have e' : q.1 = k := h1.symm.trans e
      have b : valueAt (q :: qs) k = some q.2 := by simp [valueAt, List.find?_cons, e']
      rw [valV_pos e, b]; exact h2
    · have e' : ¬ q.1 = k := fun z => e (h1.trans z)
      have b : valueAt (q :: qs) k = valueAt qs k := by simp [valueAt, List.find?_cons, e']
      rw [valV_neg e, b]; exact ih
theorem KV.any {kvs : List (κ × V)} {vs : List (κ × Value)} (r : KV kvs vs) (k : κ) : (kvs.any fun kv => decide (kv.1 = k)) = vs.any fun kv => decide (kv.1 = k) := by
  unfold KV at r
  induction r with
  | nil => rfl
  | cons h t ih => rw [List.any_cons, List.any_cons, ih, h.1]
theorem KV.repl {kvs : List (κ × V)} {vs : List (κ × Value)} (r : KV kvs vs) (k : κ) {y : V} {u : Value} (ry : RelV y u) :
    KV (kvs.map fun kv => if kv.1 = k then (kv.1, y) else kv) (vs.map fun kv => if kv.1 = k then (kv.1, u) else kv) := by
  unfold KV at r ⊢
  induction r with
  | nil => exact .nil
  | @cons p q ps qs h t ih =>
    rw [List.map_cons, List.map_cons]
    refine .cons ?_ ih
    obtain ⟨h1, h2⟩ := h
    by_cases e : p.1 = k
    · rw [if_pos e, if_pos (h1.symm.trans e)]; exact ⟨h1, ry⟩
    · rw [if_neg e, if_neg (fun z => e (h1.trans z))]; exact ⟨h1, h2⟩
theorem KV.put {kvs : List (κ × V)} {vs : List (κ × Value)} (r : KV kvs vs) (k : κ) {y : V} {u : Value} (ry : RelV y u) : KV (putK kvs k y) (stored vs k u) := by
  unfold putK stored
  rw [r.any k]
  by_cases e : (vs.any fun kv => decide (kv.1 = k)) = true
  · rw [if_pos e, if_pos e]; exact r.repl k ry
  · rw [if_neg e, if_neg e]; exact Paired.snoc r ⟨rfl, ry⟩
theorem KV.drop {kvs : List (κ × V)} {vs : List (κ × Value)} (r : KV kvs vs) (k : κ) : KV (dropK kvs k) (without vs k) := by
  unfold KV at r ⊢
  unfold dropK without
  induction r with
  | nil => exact .nil
  | @cons p q ps qs h t ih =>
    obtain ⟨h1, h2⟩ := h
    rw [List.filter_cons, List.filter_cons]
    by_cases e : p.1 = k
    · have a : ¬ decide (p.1 ≠ k) = true := by simp [e]
      have b : ¬ decide (q.1 ≠ k) = true := by simp [h1.symm.trans e]
      rw [if_neg a, if_neg b]; exact ih
    · have e' : ¬ q.1 = k := fun z => e (h1.trans z)
      have a : decide (p.1 ≠ k) = true := by simp [e]
      have b : decide (q.1 ≠ k) = true := by simp [e']
      rw [if_pos a, if_pos b]; exact .cons ⟨h1, h2⟩ ih
theorem KV.length {kvs : List (κ × V)} {vs : List (κ × Value)} (r : KV kvs vs) : kvs.length = vs.length := Paired.length r
theorem dropK_le (kvs : List (κ × V)) (k : κ) : (dropK kvs k).length ≤ kvs.length := List.length_filter_le _ _
end
theorem kV_is {P : Program} {w : World} {k : Key} {u : Value} (r : RelV (kV k) u) : (mixKind P w).is k u = true := by
  cases k with
  | inl i => obtain ⟨t, e⟩ := (show ∃ t, u = Value.int i t from r); subst e; exact mixKind_int P w i t
  | inr x => obtain ⟨t, e⟩ := (show ∃ t, u = Value.str x t from r); subst e; exact mixKind_str P w x t
theorem items_are {P : Program} {w : World} : ∀ {ks : List Key} {us : List Value}, Vals (ks.map kV) us → ItemsAre (mixKind P w) ks us
  | [], _, r => by rw [List.map_nil] at r; cases r; exact .nil
  | k :: ks, _, r => by
    rw [List.map_cons] at r
    cases r with
    | cons h t => exact .cons (kV_is h) (items_are t)
abbrev KT (H : Hp) : List (List Key × V) → List (List Key × Addr × Value) → Prop := Paired fun p q => p.1 = q.1 ∧ H q.2.1 = some (.tup (p.1.map kV)) ∧ RelV p.2 q.2.2
theorem KT.val {H : Hp} {kvs : List (List Key × V)} {xs : List (List Key × Addr × Value)} (r : KT H kvs xs) (k : List Key) : RelO (valV kvs k) ((atKey xs k).map (·.2)) := by
  induction r with
  | nil => exact True.intro
  | @cons p q ps qs h t ih =>
    obtain ⟨h1, _, h2⟩ := h
    by_cases e : p.1 = k
    · have e' : q.1 = k := h1.symm.trans e
      have b : atKey (q :: qs) k = some q.2 := by simp [atKey, List.find?_cons, e']
      rw [valV_pos e, b]; exact h2
    · have e' : ¬ q.1 = k := fun z => e (h1.trans z)
      have b : atKey (q :: qs) k = atKey qs k := by simp [atKey, List.find?_cons, e']
      rw [valV_neg e, b]; exact ih
theorem KT.repl {H : Hp} {kvs : List (List Key × V)} {xs : List (List Key × Addr × Value)} (r : KT H kvs xs) (k : List Key) {y : V} {u : Value} (ry : RelV y u) :
    KT H (kvs.map fun kv => if kv.1 = k then (kv.1, y) else kv) (xs.map (putAt k u)) := by
  induction r with
  | nil => exact .nil
  | @cons p q ps qs h t ih =>
    rw [List.map_cons, List.map_cons]
    refine .cons ?_ ih
    obtain ⟨h1, h2, h3⟩ := h
    unfold putAt
    by_cases e : p.1 = k
    · rw [if_pos e, if_pos (h1.symm.trans e)]; exact ⟨h1, h2, ry⟩
    · rw [if_neg e, if_neg (fun z => e (h1.trans z))]; exact ⟨h1, h2, h3⟩
theorem KT.put {H : Hp} {kvs : List (List Key × V)} {xs : List (List Key × Addr × Value)} (r : KT H kvs xs) (k : List Key) {b : Addr} {y : V} {u : Value} (hb : H b = some (.tup (k.map kV))) (ry : RelV y u) :
    KT H (putK kvs k y) (storedH xs k b u) := by
  have e : (kvs.any fun kv => decide (kv.1 = k)) = (atKey xs k).isSome := by
    rw [valV_any, (r.val k).isSome_eq, Option.isSome_map]
  unfold putK storedH
  rw [e]
  by_cases q : (atKey xs k).isSome = true
  · rw [if_pos q, if_pos q]; exact r.repl k ry
  · rw [if_neg q, if_neg q]; exact Paired.snoc r ⟨rfl, hb, ry⟩
theorem KT.keeps {H H' : Hp} {kvs : List (List Key × V)} {xs : List (List Key × Addr × Value)} (r : KT H kvs xs) (ht : ∀ b ys, H b = some (.tup ys) → H' b = some (.tup ys)) : KT H' kvs xs :=
  Paired.mapP r fun _ _ z => ⟨z.1, ht _ _ z.2.1, z.2.2⟩
section
variable {P : Program} {w : World} {H : Hp} {h : Heap} {a : Addr}
theorem rd_of {u : HO} (ok : HOk P w H h) (e : Rd H a u) : ObjOk P w H h a u := e.ok ok
theorem dk_rd {kvs : List (Key × V)} (ok : HOk P w H h) (e : Rd H a (.dK kvs)) : kvs.length ≤ sizeLine ∧ (a == sysModules) = false ∧ ∃ vs, KV kvs vs ∧ h.DictOf (mixKind P w) a vs :=
  show ObjOk P w H h a (.dK kvs) from rd_of ok e
theorem dk_of {kvs : List (Key × V)} (ok : HOk P w H h) (e : H a = some (.dK kvs)) : kvs.length ≤ sizeLine ∧ (a == sysModules) = false ∧ ∃ vs, KV kvs vs ∧ h.DictOf (mixKind P w) a vs := dk_rd ok (.inl e)
theorem key_of {ks : List Key} (ok : HOk P w H h) (e : H a = some (.tup (ks.map kV))) : (tupleKind (mixKind P w)).is h ks a := by
  obtain ⟨_, its, r, o, h1, h2, n, h3⟩ := (show ObjOk P w H h a (.tup (ks.map kV)) from ok a _ e)
  exact ⟨o, its.toArray, n, h1, h2, h3, by simpa using items_are r⟩
theorem dt_rd {kvs : List (List Key × V)} (ok : HOk P w H h) (e : Rd H a (.dT kvs)) : kvs.length ≤ sizeLine ∧ (a == sysModules) = false ∧
    ∃ xs, KT H kvs xs ∧ h.DictOfH (tupleKind (mixKind P w)) a xs := by
  obtain ⟨z, y, xs, r, o, es, ep, h1, h2, h3, h4, h5⟩ := (show ObjOk P w H h a (.dT kvs) from rd_of ok e)
  refine ⟨z, y, xs, r, o, es, ep, h1, h2, h3, h4, fun x hx => ?_, h5⟩
  have all : ∀ {l : List (List Key × V)} {m : List (List Key × Addr × Value)}, KT H l m → ∀ x ∈ m, (tupleKind (mixKind P w)).is h x.1 x.2.1 := by
    intro l m q
    induction q with
    | nil => intro x hx; exact nomatch hx
    | @cons p q ps qs hq t ih =>
      intro x hx
      rcases List.mem_cons.mp hx with e | hx
      · subst e
        exact key_of ok (by rw [← hq.1]; exact hq.2.1)
      · exact ih x hx
  exact all r x hx
theorem dt_of {kvs : List (List Key × V)} (ok : HOk P w H h) (e : H a = some (.dT kvs)) : kvs.length ≤ sizeLine ∧ (a == sysModules) = false ∧
    ∃ xs, KT H kvs xs ∧ h.DictOfH (tupleKind (mixKind P w)) a xs := dt_rd ok (.inl e)
end
def DGet (H : Hp) (a : Addr) (y : V) (r : Option V) : Prop :=
  (∃ kvs k, Rd H a (.dK kvs) ∧ y = kV k ∧ r = valV kvs k) ∨ ∃ kvs k b, Rd H a (.dT kvs) ∧ y = .ref b ∧ H b = some (.tup (k.map kV)) ∧ r = valV kvs k
def DPut (H : Hp) (a : Addr) (y v : V) (H' : Hp) : Prop :=
  (∃ kvs k, H a = some (.dK kvs) ∧ y = kV k ∧ kvs.length < sizeLine ∧ H' = upd H a (.dK (putK kvs k v))) ∨
  ∃ kvs k b, H a = some (.dT kvs) ∧ y = .ref b ∧ H b = some (.tup (k.map kV)) ∧ kvs.length < sizeLine ∧ H' = upd H a (.dT (putK kvs k v))
theorem DGet.k {H : Hp} {a : Addr} {kvs : List (Key × V)} {k : Key} (e : H a = some (.dK kvs)) : DGet H a (kV k) (valV kvs k) := .inl ⟨kvs, k, .inl e, rfl, rfl⟩
theorem DGet.t {H : Hp} {a b : Addr} {kvs : List (List Key × V)} {k : List Key} (e : H a = some (.dT kvs)) (eb : H b = some (.tup (k.map kV))) : DGet H a (.ref b) (valV kvs k) := .inr ⟨kvs, k, b, .inl e, rfl, eb, rfl⟩
theorem DPut.k {H : Hp} {a : Addr} {kvs : List (Key × V)} {k : Key} {v : V} (e : H a = some (.dK kvs)) (hl : kvs.length < sizeLine) : DPut H a (kV k) v (upd H a (.dK (putK kvs k v))) := .inl ⟨kvs, k, e, rfl, hl, rfl⟩
theorem DPut.t {H : Hp} {a b : Addr} {kvs : List (List Key × V)} {k : List Key} {v : V} (e : H a = some (.dT kvs)) (eb : H b = some (.tup (k.map kV))) (hl : kvs.length < sizeLine) :
    DPut H a (.ref b) v (upd H a (.dT (putK kvs k v))) := .inr ⟨kvs, k, b, e, rfl, eb, hl, rfl⟩
section
variable {X : Cx} {pins : List (Addr × Obj)} {σ : St} {H : Hp} {s : Shared} {a : Addr} {y v : V} {u r : Value} {o : Option V} {A : Around} {E : Value → Shared → Prop}
theorem Inv.big (I : Inv X pins σ H s) : sysModules < s.heap.objs.size := by
  have h : mainGlobals < s.heap.objs.size := (I.mod.glob.keeps I.bk).lt
  exact Nat.lt_trans (by decide) h
theorem d_getItem {Q : Value → Shared → Prop} (hu : A.units + 1 < cLine) (I : Inv X pins σ H s) (g : DGet H a y (some v)) (ry : RelV y u) (h : ∀ w' s', Inv X pins σ H s' → RelV v w' → Q w' s') :
    wpAny (model X.prog X.w) A (getItem (.ref a) u) Q E s := by
  rcases g with ⟨kvs, k, e, ey, l⟩ | ⟨kvs, k, b, e, ey, eb, l⟩
  · subst ey
    obtain ⟨z, hd, vs, rel, dd⟩ := dk_rd I.hok e
    obtain ⟨w', hw, rw'⟩ := RelO.some_of (v := v) (o := valueAt vs k) (by rw [l]; exact rel.val k)
    exact wpAny_getItem_of (kV_is ry) dd.mapOf hw (h w' _ (I.tok _) rw')
  · subst ey
    cases (show u = Value.ref b from ry)
    obtain ⟨z, hd, xs, rel, dd⟩ := dt_rd I.hok e
    obtain ⟨w', hw, rw'⟩ := RelO.some_of (v := v) (o := (atKey xs k).map (·.2)) (by rw [l]; exact rel.val k)
    obtain ⟨p, hp, hp2⟩ := Option.map_eq_some_iff.mp hw
    refine wpAny_getItem_heap (tupleKind_room_in1 hu) (key_of I.hok eb) dd hp ?_
    rw [hp2]
    exact h w' _ (I.tok _) rw'
theorem d_write {h' : Heap} {t' : Nat} {ob : HO} (I : Inv X pins σ H s) (mu : Mut (H a)) (hs : Heap.SameBut a s.heap h') (he : ∃ q, h'.get? a = some q) (new : ObjOk X.prog X.w (upd H a ob) h' a ob) :
    Inv X pins σ (upd H a ob) { s with heap := h', toks := t' } :=
  I.write (x := a) (e := a) mu (.inl rfl) (fun b q hb z => (hs.2 b hb).trans z) he new
theorem dk_new {P : Program} {w : World} {H' : Hp} {h' : Heap} {kvs : List (Key × V)} {vs : List (Key × Value)} (z : kvs.length ≤ sizeLine) (hd : (a == sysModules) = false) (rel : KV kvs vs) (dd : h'.DictOf (mixKind P w) a vs) :
    ObjOk P w H' h' a (.dK kvs) := ⟨z, hd, vs, rel, dd⟩
theorem d_setItem {H' : Hp} {Q : Unit → Shared → Prop} (hu : A.units + 1 < cLine) (I : Inv X pins σ H s) (g : DPut H a y v H') (ry : RelV y u) (rv : RelV v r) (h : ∀ s', Inv X pins σ H' s' → Q () s') :
    wpAny (model X.prog X.w) A (setItem (.ref a) u r) Q E s := by
  rcases g with ⟨kvs, k, e, ey, l, eH⟩ | ⟨kvs, k, b, e, ey, eb, l, eH⟩
  · subst ey eH
    obtain ⟨z, hd, vs, rel, dd⟩ := dk_of I.hok e
    have hz : vs.length ≤ sizeLine := by rw [← rel.length]; exact z
    have hl : (putK kvs k v).length ≤ sizeLine := by have := length_putK kvs k v; omega
    refine wpAny_setItem_pairs (hsz := hz) (kV_is ry) dd fun h' dd' hs => h _ ?_
    have he : ∃ q, h'.get? a = some q := let ⟨q, _, _, hq, _⟩ := dd'; ⟨q, hq⟩
    exact d_write I (by rw [e]; exact True.intro) hs he (dk_new hl hd (rel.put k rv) dd')
  · subst ey eH
    cases (show u = Value.ref b from ry)
    obtain ⟨z, hd, xs, rel, dd⟩ := dt_of I.hok e
    have hz : xs.length ≤ sizeLine := by rw [← Paired.length rel]; exact z
    have hl : (putK kvs k v).length ≤ sizeLine := by have := length_putK kvs k v; omega
    refine wpAny_setItem_heap (hsz := hz) (tupleKind_room_in1 hu) (key_of I.hok eb) dd fun h' dd' hs => h _ ?_
    obtain ⟨q, es, ep, hq, h2, h3, h4, _, h5⟩ := dd'
    refine d_write I (by rw [e]; exact True.intro) hs ⟨q, hq⟩ ⟨hl, hd, _, (rel.put k eb rv).keeps fun c ys ec => ?_, q, es, ep, hq, h2, h3, h4, h5⟩
    rw [upd_ne (ne_of ec e (fun z => nomatch z))]
    exact ec
end
section
variable {X : Cx} {pins : List (Addr × Obj)} {σ : St} {H : Hp} {s : Shared} {a : Addr} {kvs : List (Key × V)} {k : Key} {u : Value} {A : Around} {E : Value → Shared → Prop}
end
def NoSl (i : Expr) : Prop := ∀ ov iv, subscripted i false ov iv = operate [ov, iv] (getItem ov iv)
theorem subD_of {prog : Program} {w : World} {A : Around} {E : Value → Shared → Prop} {s : Shared} {env : Env} {value slice : Expr} {pos : Pos} {T id : String} {Q : Value → Shared → Prop}
    (hl : typeLookup (.type T) "__getitem__" = pure (some (.builtin id))) (hs : NoSl slice)
    (h : wpAny (model prog w) A (eval value env) (fun o s₁ => wpAny (model prog w) A (eval slice env) (fun i s₂ => s₂.TypeIs o T ∧ wpAny (model prog w) A (getItem o i) Q E s₂) E s₁) E s) :
    wpAny (model prog w) A (eval (.Subscript value slice pos) env) Q E s := by
  refine Subscript_ (wpAny_mono h (fun o s₁ h₁ => wpAny_mono h₁ (fun i s₂ h₂ => ?_) fun _ _ x => x) fun _ _ x => x)
  obtain ⟨hT, h₂⟩ := h₂
  unfold subscriptTail
  refine wpAny_bind ?_
  rw [getitemInPython_of_ne hT.not_modules]
  refine wpAny_bind (wpAny_specialOf hT hl ?_)
  have fin : wpAny (model prog w) A (subscripted slice false o i) (fun r s₃ => wpAny (model prog w) A (letTemporaryGo value o r >>= fun _ => pure r) Q E s₃) E s₂ := by
    rw [hs o i]
    exact wpAny_operating (wpAny_mono h₂ (fun r s₃ h₃ => wpAny_bind (wpAny_letTemporaryGo (wpAny_pure h₃))) fun _ _ x => x)
  first
    | exact wpAny_pure (wpAny_bind fin)
    | exact wpAny_bind (wpAny_pure (wpAny_bind fin))
    | exact wpAny_bind fin
theorem dict_typeIs {X : Cx} {pins : List (Addr × Obj)} {σ : St} {H : Hp} {s : Shared} {a : Addr} {y : V} {o : Option V} (I : Inv X pins σ H s) (g : DGet H a y o) : s.TypeIs (.ref a) "dict" := by
  rcases g with ⟨kvs, k, e, _, _⟩ | ⟨kvs, k, b, e, _, _, _⟩
  · obtain ⟨_, _, vs, _, dd⟩ := dk_rd I.hok e
    exact dd.typeIs
  · obtain ⟨_, _, xs, _, dd⟩ := dt_rd I.hok e
    exact dd.typeIs
def tDGet (td ty : TE) : TE := fun σ H Q => td σ H fun x H1 => ty σ H1 fun y H2 => ∃ a v, x = .ref a ∧ DGet H2 a y (some v) ∧ Q v H2
def sDPut (td ty tv : TE) : TS := fun D σ H => tv σ H fun v H1 => td σ H1 fun x H2 => ty σ H2 fun y H3 => ∃ a H4, x = .ref a ∧ DPut H3 a y v H4 ∧ D.nx σ H4
section
variable {X : Cx} {o i e value : Expr} {pos pos' tpos : Pos} {td ty tv : TE}
theorem pe_dget (hu : X.A.units + 1 < cLine) (ho : PE X o td) (hi : PE X i ty) (hs : NoSl i) : PE X (.Subscript o i pos) (tDGet td ty) := by
  intro pins s σ H Q I h
  refine subD_of PySem.F.slot_dict_getitem.lookup hs (thn (ho pins s σ H _ I h) fun u s1 ⟨x, H1, I1, rx, q1⟩ => thn (hi pins s1 σ H1 _ I1 q1) fun iv s2 ⟨y, H2, I2, ry, a, v, ex, g, q2⟩ => ?_)
  subst ex
  obtain rfl : u = Value.ref a := rx
  exact ⟨dict_typeIs I2 g, d_getItem hu I2 g ry fun w' s3 I3 rw' => ⟨v, H2, I3, rw', q2⟩⟩
theorem ps_dput (hu : X.A.units + 1 < cLine) (ho : PE X o td) (hi : PE X i ty) (hv : PE X value tv) (hs : swapsWith value (some (.Subscript o i pos')) pos.line X.env = pure false) :
    PS X (.Assign [.Subscript o i pos'] value pos) (sDPut td ty tv) := by
  intro pins s σ H D I h
  refine wpAny_Assign_Subscript (thn (hv pins s σ H _ I h) fun r s1 ⟨v, H1, I1, rv, q1⟩ => thn (ho pins s1 σ H1 _ I1 q1) fun u s2 ⟨x, H2, I2, rx, q2⟩ => thn (hi pins s2 σ H2 _ I2 q2) fun iv s3 ⟨y, H3, I3, ry, a, H4, ex, g, q3⟩ => ?_) hs
  subst ex
  obtain rfl : u = Value.ref a := rx
  exact d_setItem hu I3 g ry rv fun s4 I4 => ⟨σ, H4, I4, q3⟩
end
theorem dt_empty {P : Program} {w : World} {H : Hp} (h : Heap) (hb : sysModules < h.objs.size) : ObjOk P w H (h.push { cls := .type "dict", data := .dict #[] }) h.objs.size (.dT []) :=
  ⟨Nat.zero_le _, beq_eq_false_iff_ne.mpr (Ne.symm (Nat.ne_of_lt hb)), [], .nil, _, #[], 0, Heap.get?_push_size _ rfl, ⟨rfl, rfl, rfl⟩, rfl, rfl, List.nodup_nil⟩
def tDNewT : TE := fun _ H Q => ∀ p, H p = none → Q (.ref p) (upd H p (.dT []))
section
variable {X : Cx} {pos : Pos}
theorem pe_dnewT : PE X (.Dict [] [] pos) tDNewT := fun pins s σ H Q I h =>
  wpAny_Dict_empty ⟨.ref s.heap.objs.size, _, I.laid (a := s.heap.objs.size) (o := .dT []) (t' := s.toks) (fun _ _ q => Heap.get?_push_of_some _ q) (Nat.le_refl _) (dt_empty s.heap I.big), rfl, h _ (I.hok.fresh (Nat.le_refl _))⟩
end
structure M1 (X : Cx) (o : Expr) (m : Str) (apos : Pos) (e : Expr) (cpos : Pos) : Prop where
  base : attributeBase o m X.env (eval o X.env) = eval o X.env
  few : ((backTo cpos (starEach [e] X.env)).all (fun x => !x.1) && (backToKw cpos (keywordEach [] X.env)).all (fun x => x.1.isSome)
    && decide (([e] : List Expr).length + ([] : List Keyword).length + (if ([] : List Keyword).isEmpty then 0 else 1) < 30)) = true
  line : (apos.endLine == cpos.line) = true
  trees : backTo cpos (starEach [e] X.env) = [(false, eval e X.env)]
def IsD (H : Hp) (a : Addr) : Prop := (∃ kvs, Rd H a (.dK kvs)) ∨ ∃ kvs, Rd H a (.dT kvs)
theorem isD_at {X : Cx} {pins : List (Addr × Obj)} {σ : St} {H : Hp} {s : Shared} {a : Addr} (I : Inv X pins σ H s) (d : IsD H a) :
    s.TypeIs (.ref a) "dict" ∧ (∀ b, Value.ref a = .ref b → ∃ ob, s.heap.get? b = some ob ∧ ob.dict = none) ∧ (a == sysModules) = false := by
  rcases d with ⟨kvs, e⟩ | ⟨kvs, e⟩
  · obtain ⟨_, hd, vs, _, dd⟩ := dk_rd I.hok e
    refine ⟨dd.typeIs, fun b q => ?_, hd⟩
    cases q
    obtain ⟨ob, _, _, h1, h2, _⟩ := dd
    exact ⟨ob, h1, h2.2.1⟩
  · obtain ⟨_, hd, xs, _, dd⟩ := dt_rd I.hok e
    refine ⟨dd.typeIs, fun b q => ?_, hd⟩
    cases q
    obtain ⟨ob, _, _, h1, h2, _⟩ := dd
    exact ⟨ob, h1, h2.2.1⟩
section
variable {X : Cx} {pins : List (Addr × Obj)} {σ : St} {H : Hp} {s : Shared} {a : Addr} {y d : V} {u r : Value} {o : Option V} {A : Around} {E : Value → Shared → Prop}
end
section
variable {X : Cx} {o e f : Expr} {apos cpos : Pos} {td ty tx : TE}
end
section
variable {X : Cx} {pins : List (Addr × Obj)} {σ : St} {H : Hp} {s : Shared} {a : Addr} {kvs : List (Key × V)} {A : Around} {E : Value → Shared → Prop}
end
section
variable {X : Cx} {pins : List (Addr × Obj)} {σ : St} {H : Hp} {s : Shared} {a : Addr} {y : V} {u : Value} {A : Around} {E : Value → Shared → Prop}
end
end L2
namespace Att
open PySem PySem.W PySem.Calls PyProof.Rows
theorem ints_of_wellAll {P : Params} {h : Heap} : ∀ (ns : List Int) (vs : List Value), WellAll P h vs (ns.map WData.int) → IntsAre vs ns := by
  intro ns
  induction ns with
  | nil =>
    intro vs w
    rw [List.map_nil] at w
    cases w
    exact .nil
  | cons n ns ih =>
    intro vs w
    rw [List.map_cons] at w
    cases w with
    | cons a b =>
      cases a
      exact .cons _ _ (ih _ b)
theorem script_of {l : OpenLaw} {n : Nat} (hn : l.most = some n) {P : Params} {h : Heap} {args : List WData} {vals : List Value}
    (hpre : l.row.toRowW.claim.pre args = true) (hwl : WellAll P h vals args) :
    ∃ a vs ns, vals = [Value.ref a] ∧ args = [WData.list (ns.map WData.int)] ∧ h.get? a = some { cls := .type "list", data := .seq vs.toArray } ∧ IntsAre vs ns ∧ ns.length ≤ n := by
  have hsh : WShape.hasAll [] args [.list .int] = true := (pre_splitW hpre).1
  have hc : l.pre.holds [] { args := args } = true := (pre_splitW hpre).2
  obtain ⟨d, r, rfl, h1, h2⟩ := hasAllW_cons hsh
  obtain rfl := hasAllW_nil h2
  obtain ⟨xs, rfl, h3⟩ := hasW_list h1
  obtain ⟨ns, rfl⟩ := items_int h3
  have hlen : ns.length ≤ n := by
    unfold OpenLaw.pre at hc
    have h4 : (WTm.not (.lt (.lit (.int (n : Int))) (.len (.arg 0)))).holds [] { args := [.list (ns.map .int)] } = true := by
      have h4 := (holds_andW hc).1
      rw [hn] at h4
      exact h4
    have h5 := condW_of h4 (w_not (w_lt w_lit (w_len_list (w_arg rfl))))
    rw [List.length_map] at h5
    refine Nat.le_of_not_lt fun q => ?_
    have q' : (n : Int) < ((ns.length : Nat) : Int) := by omega
    first
      | (rw [decide_eq_true q'] at h5; exact absurd h5 (by decide))
      | (simp at h5; omega)
  cases hwl with
  | cons w1 w2 =>
    cases w2
    cases w1 with
    | list ho hall => exact ⟨_, _, ns, rfl, rfl, ho, ints_of_wellAll ns _ hall, hlen⟩
theorem post_true (l : OpenLaw) (args : List WData) : l.row.toRowW.claim.post args (.bool true) args = true :=
  postW_of (r := l.row.toRowW) (X := (true == true))
    (show WShape.has [] (.bool true) .bool = true by first | rfl | decide | simp [WShape.has, WShape.arms, WShape.armsAll])
    (show (WTm.eq .res (.lit (.bool true))).value [] { args := args, res := some (.bool true), after := args } = some (.bool (true == true)) from w_eq_bool (w_res rfl) w_lit) rfl
theorem attach_call {l : OpenLaw} {n : Nat} {q : Program} {loose : List Str} {XP : (Str → Option Value) → Heap → Prop} {YP : World → Heap → Prop} {d : DefRec}
    (hn : l.most = some n) (hdf : d.params.defaults = [])
    (call : ∀ (w : World) (s₀ s₁ : Shared) (mg mb : Str → Option Value) (fa : Addr) (o : Obj) (pm cd doc : Value) (a : Addr) (vs : List Value) (ns : List Int),
      Ground q loose [] XP w s₀ mg mb s₁.heap → YP w s₁.heap →
      s₁.heap.get? fa = some o → o.data = .func (docDef d.name d.params d.body d.scope pm cd doc) → s₁.heap.CodeRec cd d.name → mg d.name = some (.ref fa) →
      s₁.heap.get? a = some { cls := .type "list", data := .seq vs.toArray } → IntsAre vs ns → ns.length ≤ n → s₁.gens = #[] →
      codeAny (model l.prog w) callerA (.call (.ref fa) ⟨[.ref a], []⟩) (fun r s' => r = .ok (.ret (.bool true)) ∧ OldK s₁.heap s'.heap ∧ s'.os = s₁.os ∧ AllBare s'.gens) s₁) :
    WalkO q loose XP YP l.row.toRowW d [] (fun f vs => PySem.call f vs) := by
  intro w s₀ s₁ mg mb G Y fa o pm cd doc dV kV ho hd hcd hD hmg hg args vals as hpre hlay hrd hwl hlo
  obtain rfl : dV = .none := Dflts.none hD hdf
  obtain rfl : kV = .none := Dflts.noKw hD
  obtain ⟨a, vs, ns, rfl, rfl, hobj, hints, hlen⟩ := script_of hn hpre hwl
  refine enter_call (codeAny_mono (call w s₀ s₁ mg mb fa o pm cd doc a vs ns G Y ho (fd_plain hd) hcd hmg hobj hints hlen hg) fun r s' hq => ?_)
  obtain ⟨rfl, h2, h3, h4⟩ := hq
  exact ⟨.inl ⟨.bool true, .bool true, [], rfl, fun _ => rfl, .bool true, post_true l _, fun _ => ⟨List.Pairwise.nil, fun _ hm => (nomatch hm)⟩⟩, h2, h3, h4⟩
section
variable {prog : Program} {w : World} {A : Around} {E : Value → Shared → Prop} {s : Shared} {K : Frag}
def ledger (h : Heap) (L d : Addr) : List (Addr × Obj) := (List.range h.objs.size).filterMap fun a => if a = L ∨ a = d then none else (h.get? a).map fun o => (a, o)
end
end Att
namespace L2
open PySem PySem.Spec PyProof.Rows
theorem vals_ints : ∀ {vs : List Value} {ns : List Int}, IntsAre vs ns → Vals (ns.map V.int) vs
  | _, _, .nil => .nil
  | _, _, .cons n t h => .cons ⟨t, rfl⟩ (vals_ints h)
def Only (H : Hp) : Prop := ∀ b, H b = none ∨ ∃ o xs, H b = some (.frz o (.lst xs))
theorem law_call {P : Program} {w : World} {K : PySem.W.Frag} {mg mb : Str → Option Value} {CX : CXT} {k : Nat} {fa a : Addr} {fd : FuncData} {x : Str} {sp : Sp} {s₁ : Shared} {vs : List Value} {ns : List Int}
    (KX : K.In s₁.heap) (hns : s₁.heap.Ns mainGlobals mg) (hb : s₁.heap.Ns builtinsNs mb) (hbb : ∀ x : Str, x ≠ "__name__" → mb x = bootBuiltins x) (hlim : s₁.heap.NoLimit) (hg : s₁.gens = #[])
    (ha : s₁.heap.get? a = some { cls := .type "list", data := .seq vs.toArray }) (hi : IntsAre vs ns) (hl : ns.length ≤ sizeLine) (hr : Room k callerA)
    (F : ∀ base : Heap, K.In base → base.Ns mainGlobals mg → FnOk P w K mg base CX k fa fd [x] sp) (hbind : ∀ (s : Shared) (u : Value), BindsTo s fd ⟨[u], []⟩ [(x, u)])
    (hsp : ∀ H : Hp, Only H → SqL K H a (ns.map V.int) → sp [.ref a] H (fun v _ => v = .bl true) fun _ _ _ => False)
    (hCX : ∀ H e s', CX [] H s₁ (fun _ _ _ => False) e s' → False) :
    codeAny (model P w) callerA (.call (.ref fa) ⟨[.ref a], []⟩) (fun r s' => r = .ok (.ret (.bool true)) ∧ OldK s₁.heap s'.heap ∧ s'.os = s₁.os ∧ AllBare s'.gens) s₁ := by
  have rv := vals_ints hi
  have lenV := hi.length
  have core : ∀ H : Hp, Only H → SqL K H a (ns.map V.int) → HOk P w H s₁.heap → (∀ b, H b ≠ none → b = a) → (H a ≠ none → K.lookup a = none) →
      codeAny (model P w) callerA (.call (.ref fa) ⟨[.ref a], []⟩) (fun r s' => r = .ok (.ret (.bool true)) ∧ OldK s₁.heap s'.heap ∧ s'.os = s₁.os ∧ AllBare s'.gens) s₁ := by
    intro H hO hS hok hA hK
    have base_of : ∀ {b : Addr} {o : Obj}, s₁.heap.get? b = some o → H b = none → (hidT s₁.heap H).get? b = some o := fun e n => hidT_get e n
    have noA : ∀ {b : Addr} {o : Obj} {es : Array DictEntry} {ep : Nat}, s₁.heap.get? b = some o → o.data = .dict es ep → H b = none := fun {b o es ep} e d => by
      cases q : H b with
      | none => rfl
      | some u =>
        have e' : b = a := hA b (by rw [q]; simp)
        subst e'
        rw [ha] at e; cases e
        have d' : Data.seq vs.toArray _ = Data.dict es ep := d
        cases d'
    have nsK : ∀ {b : Addr} {m : Str → Option Value}, s₁.heap.Ns b m → (hidT s₁.heap H).Ns b m := fun {b m} ⟨o, es, ep, e, d, r⟩ => ⟨o, es, ep, base_of e (noA e d), d, r⟩
    have hKb : K.In (hidT s₁.heap H) := fun b o e => base_of (KX b o e) (by
      cases q : H b with
      | none => rfl
      | some u =>
        have e' : b = a := hA b (by rw [q]; simp)
        subst e'
        rw [hK (by rw [q]; simp)] at e; cases e)
    have hM : Mod K mg (hidT s₁.heap H) := ⟨hKb, nsK hns, ⟨mb, nsK hb, hbb⟩, let ⟨mc, h1, h2⟩ := hlim; ⟨mc, nsK h1, h2⟩⟩
    have e0 : Env0 P w K mg (hidT s₁.heap H) callerA [] s₁ H := ⟨rfl, hM, fun b o e => of_hidT e, Nat.le_of_eq (hidT_size _ _), trivial, fun b hb => absurd (show b ∈ ([] : List Addr) from hb) (by simp), hok, .of_eq hg⟩
    refine codeAny_mono ((F _ hKb (nsK hns)).run callerA [] s₁ H ⟨[.ref a], []⟩ [.ref a] [.ref a] _ _ hr e0 (hbind s₁ (.ref a)) (.cons rfl .nil) (hsp H hO hS)) fun r s' h => ?_
    cases r with
    | error e => exact (hCX H e s' h).elim
    | ok fl =>
      cases fl with
      | next => exact False.elim h
      | brk => exact False.elim h
      | cont => exact False.elim h
      | ret u =>
        obtain ⟨v, H', os, bare, un, hok', r', q⟩ := h
        have q' : v = .bl true := q
        subst q'
        obtain rfl : u = Value.bool true := r'
        refine ⟨rfl, OldK.of_keep fun b o e => ?_, os, bare⟩
        cases q : H b with
        | none => exact un.keep b o e q (by intro z; exact absurd (show b ∈ ([] : List Addr) from z) (by simp)) (by simp)
        | some u =>
          rcases hO b with z | ⟨ob, xs, z⟩
          · rw [q] at z; cases z
          · have z2 := un.frzs b ob _ z
            obtain ⟨e1, _⟩ := hok b _ z
            obtain ⟨e2, _⟩ := hok' b _ z2
            rw [e] at e1; cases e1
            exact e2
  cases hk : K.lookup a with
  | some o =>
    have e := KX a o hk
    rw [ha] at e
    cases e
    refine core (fun _ => none) (fun _ => .inl rfl) (.inr ⟨_, vs.toArray, _, hk, rfl, rfl, rfl, by rw [List.size_toArray, lenV]; exact hl, by simpa using rv⟩) (fun b u z => by have z' : (none : Option HO) = some u := z; cases z') (fun b z => absurd rfl z) fun z => absurd rfl z
  | none =>
    refine core (fun b => if b = a then some (.frz { cls := .type "list", data := .seq vs.toArray } (.lst (ns.map V.int))) else none) (fun b => ?_) (.inl (.inr ⟨{ cls := .type "list", data := .seq vs.toArray }, if_pos rfl⟩)) (fun b u z => ?_) (fun b z => ?_) fun _ => hk
    · by_cases hb : b = a
      · exact .inr ⟨_, _, if_pos hb⟩
      · exact .inl (if_neg hb)
    · by_cases hb : b = a
      · have z' := (if_pos hb).symm.trans z
        cases z'
        subst hb
        exact ⟨ha, by rw [List.length_map]; exact hl, vs, _, rv, ha⟩
      · have z' := (if_neg hb).symm.trans z
        cases z'
    · by_cases hb : b = a
      · exact hb
      · exact absurd (if_neg hb) z
end L2
namespace L2
open PySem PySem.Spec PyProof.Rows
theorem walk_of {l : PySem.W.OpenLaw} {n k : Nat} {q : Program} {loose : List Str} {XP : (Str → Option Value) → Heap → Prop} {YP : World → Heap → Prop} {d : DefRec} {K : Params → PySem.W.Frag} {CX : World → CXT} {sp : World → Sp} {x : Str}
    (hn : l.most = some n) (hn2 : n ≤ sizeLine) (hdf : d.params.defaults = []) (hr : Room k callerA)
    (hY : ∀ (w : World) (h : Heap), YP w h → (K w.params).In h)
    (F : ∀ (w : World) (mg : Str → Option Value) (fa : Addr) (h : Heap), (K w.params).In h → h.Ns mainGlobals mg → mg d.name = some (.ref fa) →
      ∃ fd : FuncData, (∀ (s : Shared) (u : Value), BindsTo s fd ⟨[u], []⟩ [(x, u)]) ∧
        ∀ base : Heap, (K w.params).In base → base.Ns mainGlobals mg → FnOk l.prog w (K w.params) mg base (CX w) k fa fd [x] (sp w))
    (hsp : ∀ (w : World) (H : Hp) (a : Addr) (ns : List Int), ns.length ≤ n → Only H → SqL (K w.params) H a (ns.map V.int) → sp w [.ref a] H (fun v _ => v = .bl true) fun _ _ _ => False)
    (hCX : ∀ (w : World) (H : Hp) (s : Shared) (e : Value) (s' : Shared), CX w [] H s (fun _ _ _ => False) e s' → False) :
    PySem.W.WalkO q loose XP YP l.row.toRowW d [] (fun f vs => PySem.call f vs) := by
  refine Att.attach_call hn hdf fun w s₀ s₁ mg mb fa o pm cd doc a vs ns G Y ho hd hcd hmg hobj hints hlen hg => ?_
  have KX := hY w _ Y
  obtain ⟨fd, hb, hF⟩ := F w mg fa _ KX G.T.g hmg
  exact law_call KX G.T.g G.T.b G.T.builtins G.T.nolimit hg hobj hints (Nat.le_trans hlen hn2) hr hF hb (fun H hO hS => hsp w H a ns hlen hO hS) fun H e s' => hCX w H s₁ e s'
end L2
namespace L2
open PySem PySem.Spec PyProof.Rows
def inClass (s : Stmt) (j : Nat) : Stmt := match s with
  | .ClassDef _ _ _ body _ _ _ _ _ _ _ => body.getD j (.Pass ⟨0, 0, 0, 0⟩)
  | _ => .Pass ⟨0, 0, 0, 0⟩
def defArgs (s : Stmt) : Arguments := match s with
  | .FunctionDef _ a _ _ _ _ _ _ _ _ => a
  | _ => { posonlyargs := [], args := [], vararg := none, kwonlyargs := [], kw_defaults := [], kwarg := none, defaults := [] }
def defBody (s : Stmt) : List Stmt := match s with
  | .FunctionDef _ _ b _ _ _ _ _ _ _ => b
  | _ => []
def defScope (s : Stmt) : Scope := match s with
  | .FunctionDef _ _ _ _ _ _ sc _ _ _ => sc
  | _ => { kind := .function, names := [], isGenerator := false, isCoroutine := false }
abbrev CX0 : CXT := fun _ _ _ _ _ _ => False
structure Fun (K : PySem.W.Frag) (x qual : Str) (st : Stmt) (f : Addr) (fd : FuncData) : Prop where
  ex : ∃ (oc : Value) (od : Option Addr) (kV doc pm : Value) (an : Option Addr) (cdv ct : Value) (osl : Array (Option Value)),
    fd = PySem.W.fnOf x qual (defArgs st) (defBody st) (defScope st) .none kV doc pm an cdv ct ∧ K.lookup f = some ⟨oc, od, .func fd, osl⟩ ∧ PySem.W.codeIn K cdv qual = true
  kp : PySem.W.keepIn K (.ref f) = true
section
variable {P : Program} {w : World} {K : PySem.W.Frag} {mg : Str → Option Value} {base : Heap}
theorem Fun.ok {x qual : Str} {st : Stmt} {f : Addr} {fd : FuncData} {N ps : List Str} {k : Nat} {sp : Sp} (F : Fun K x qual st f fd) (S : FnScope N ps (defScope st)) (len : ∀ vs H Q E, sp vs H Q E → vs.length = ps.length)
    (hbody : ∀ (cdv : Value) (A : Around) (outer : List Env) (s : Shared) (H : Hp) (vs : List V) (Q : VK) (E : XK), Room k (A.deeper (envOfC qual (defScope st) s.heap.objs.size f cdv)) → sp vs H Q E →
      ∃ t, PSs (cxOf CX0 P w K mg base N qual (defScope st) f cdv A outer s H E).nox (defBody st) t ∧ t { nx := fun _ H' => Q .non H', rt := Q } (start N vs) H) : FnOk P w K mg base CX0 (k + 1) f fd ps sp := by
  obtain ⟨oc, od, kV, doc, pm, an, cdv, ct, osl, rfl, lk, hcd⟩ := F.ex
  refine fn_of lk hcd S len fun A outer s H vs Q E hr hsp => ?_
  obtain ⟨t, h, q⟩ := hbody cdv A outer s H vs Q E hr hsp
  exact ⟨t, h.nox, q⟩
theorem Fun.binds {x qual : Str} {st : Stmt} {f : Addr} {fd : FuncData} {ps : List Str} (F : Fun K x qual st f fd)
    (h : ∀ (kV doc pm : Value) (an : Option Addr) (cdv ct : Value) (us : List Value), us.length = ps.length → bindArgs (PySem.W.fnOf x qual (defArgs st) (defBody st) (defScope st) .none kV doc pm an cdv ct) ⟨us, []⟩ = pure (ps.zip us)) : Binds K fd ps [] := by
  obtain ⟨oc, od, kV, doc, pm, an, cdv, ct, osl, rfl, lk, hcd⟩ := F.ex
  exact .all (h kV doc pm an cdv ct)
theorem fun_mk {x qual : Str} {st : Stmt} {f : Addr} {oc : Value} {od an : Option Addr} {osl : Array (Option Value)} {kV doc pm cdv ct : Value} (l : K.lookup f = some ⟨oc, od, .func (PySem.W.fnOf x qual (defArgs st) (defBody st) (defScope st) .none kV doc pm an cdv ct), osl⟩)
    (c : PySem.W.codeIn K cdv qual = true) (k : PySem.W.keepIn K (.ref f) = true) : Fun K x qual st f (PySem.W.fnOf x qual (defArgs st) (defBody st) (defScope st) .none kV doc pm an cdv ct) := ⟨⟨oc, od, kV, doc, pm, an, cdv, ct, osl, rfl, l, c⟩, k⟩
end
theorem hu_of {A : Around} {k : Nat} (hr : Room k A) : A.units + 1 < cLine := Nat.lt_of_le_of_lt (Nat.add_le_add_left (by decide : 1 ≤ 64) _) hr.units
section
variable {X : Cx}
end
theorem iteF {A B : Prop} (h : B) : if false = true then A else B := by
  rw [if_neg Bool.false_ne_true]
  exact h
theorem iteT {A B : Prop} (h : A) : if true = true then A else B := by
  rw [if_pos rfl]
  exact h
theorem ite2 {c A B : Prop} [Decidable c] (h1 : c → A) (h2 : ¬ c → B) : if c then A else B := by
  by_cases h : c
  · rw [if_pos h]
    exact h1 h
  · rw [if_neg h]
    exact h2 h
def Same (H H' : Hp) : Prop := ∀ b o, H b = some o → H' b = some o
theorem Same.trans {H H1 H2 : Hp} (a : Same H H1) (b : Same H1 H2) : Same H H2 := fun c o h => b c o (a c o h)
theorem Same.free {H H' : Hp} (e : Same H H') {l : Addr} (h : H' l = Option.none) : H l = Option.none := by
  cases q : H l with
  | none => rfl
  | some o =>
    rw [e l o q] at h
    cases h
theorem Same.seq {K : PySem.W.Frag} {H H' : Hp} {a : Addr} {xs : List V} (e : Same H H') (h : SqL K H a xs) : SqL K H' a xs := by
  rcases h with (h | ⟨o, h⟩) | h
  · exact .inl (.inl (e _ _ h))
  · exact .inl (.inr ⟨o, e _ _ h⟩)
  · exact .inr h
section
variable {κ : Type} [DecidableEq κ]
end
end L2
set_option maxHeartbeats 4000000
namespace L2
open PySem PySem.Spec PyProof.Rows

structure Fly (B : Heap) (l : List Env) (h : Heap) (H H' : Hp) (h' : Heap) (ea : Addr) (cls : Value) : Prop where
  fl : ∃ a0, Heap.FlyingW B l ea cls a0 h'
  trk : ∀ b u, H' b = some u → ∃ o, B.get? b = some o
  kept : ∀ b o, h.get? b = some o → H b = none → b ∉ frs l → B.get? b = some o
  alive : ∀ b o, h.get? b = some o → b ∉ frs l → ∃ o', B.get? b = some o'
def CXe (P : Program) (w : World) : CXT := fun outer H s E e s' => ∃ ea cls H' B, e = .ref ea ∧ s'.os = s.os ∧ AllBare s'.gens ∧ Un (frs outer) [] H H' s.heap s'.heap ∧ HOk P w H' s'.heap ∧ Fly B outer s.heap H H' s'.heap ea cls ∧ E cls none H'
abbrev XKs := Value → St → Hp → Prop
def XW (X : Cx) (K : XKs) : Prop := ∀ (pins : List (Addr × Obj)) (σ : St) (H : Hp) (s s' : Shared) (ea : Addr) (cls : Value) (H' : Hp) (B : Heap), Inv X pins σ H s → s'.os = s.os → AllBare s'.gens →
  Un (frs X.stack) [] H H' s.heap s'.heap → HOk X.prog X.w H' s'.heap → Fly B X.stack s.heap H H' s'.heap ea cls → K cls σ H' → X.xe (.ref ea) s'

theorem frs_cons {env : Env} {l : List Env} {L : Addr} (h : env.frame = some L) : frs (env :: l) = L :: frs l := by
  unfold frs; rw [List.filterMap_cons, h]

theorem HOk.flown {P : Program} {w : World} {H : Hp} {B h h' : Heap} (x : HOk P w H h) (t : ∀ b u, H b = some u → ∃ o, B.get? b = some o) (s : B.StaysIn h) (s' : B.StaysIn h') : HOk P w H h' := fun a o e =>
  (x a o e).stay (fun b u hb q => by
    have hB : ∃ o, B.get? b = some o := by
      rcases hb with rfl | hb
      · exact t _ _ e
      · exact t _ _ hb
    obtain ⟨o', ho⟩ := hB
    have e1 := s b o' ho
    rw [q] at e1; cases e1
    exact s' b _ ho) (fun _ q => q) fun _ _ q => q

theorem xw_def {P : Program} {w : World} {K : PySem.W.Frag} {mg : Str → Option Value} {base : Heap} {N : List Str} {qual : Str} {scope : Scope} {f : Addr} {cd : Value} {A : Around} {outer : List Env} {s0 : Shared} {H0 : Hp} {E : XK} :
    XW (cxOf (CXe P w) P w K mg base N qual scope f cd A outer s0 H0 E) (fun c _ H' => E c none H') := by
  intro pins σ H s s' ea cls H' B I os bare un hok fly hK
  have I' := I.call' (s' := s') (ch := []) os un hok bare (fun b z => absurd z (by simp))
  have hfr := I.ok.frames
  have hstk : (cxOf (CXe P w) P w K mg base N qual scope f cd A outer s0 H0 E).stack = envOfC qual scope s0.heap.objs.size f cd :: outer := rfl
  rw [hstk] at hfr
  obtain ⟨a0, hfl⟩ := fly.fl
  have hf : (envOfC qual scope s0.heap.objs.size f cd).frame = some s0.heap.objs.size := rfl
  show wpAny _ _ (leaving (envOfC qual scope s0.heap.objs.size f cd) (.ref ea)) _ _ s'
  refine wpAny_leaves_onW hfr hf hfl fun h' fl' up => ?_
  have hfs : frs (envOfC qual scope s0.heap.objs.size f cd :: outer) = s0.heap.objs.size :: frs outer := frs_cons hf
  have nf : ∀ b o, s0.heap.get? b = some o → b ∉ frs outer → b ∉ frs (envOfC qual scope s0.heap.objs.size f cd :: outer) := fun b o e n z => by
    rw [hfs] at z
    rcases List.mem_cons.mp z with z | z
    · exact absurd (Heap.lt_size e) (by rw [z]; exact Nat.lt_irrefl _)
    · exact n z
  have stay : ∀ b o, s0.heap.get? b = some o → H0 b = none → b ∉ frs outer → B.get? b = some o := fun b o e n hb =>
    fly.kept b o (I.base.keep b o e n hb (by intro z; exact absurd z (by simp [cxOf]))) (I.base.free b o e n (by intro z; exact absurd z (by simp [cxOf]))) (nf b o e hb)
  have live : ∀ b o, s0.heap.get? b = some o → b ∉ frs outer → ∃ o', B.get? b = some o' := fun b o e hb => by
    obtain ⟨o1, e1⟩ := I.base.there b o e (by intro z; exact absurd z (by simp [cxOf]))
    exact fly.alive b o1 e1 (nf b o e hb)
  refine ⟨ea, cls, H', B, rfl, I'.os, bare, ?_, hok.flown fly.trk hfl.1 fl'.1, ⟨⟨a0, fl'⟩, fly.trk, stay, live⟩, hK⟩
  have noA : ∀ b : Addr, b ∉ (cxOf (CXe P w) P w K mg base N qual scope f cd A outer s0 H0 E).ex := fun b z => absurd z (by simp [cxOf])
  have slotOf : ∀ b, b ∈ frs outer → ∀ o, s'.heap.get? b = some o → ∃ sl, h'.get? b = some { o with slots := sl } := fun b hb o e => by
    have hm : b ∈ frs (envOfC qual scope s0.heap.objs.size f cd :: outer) := by rw [hfs]; exact List.mem_cons_of_mem _ hb
    obtain ⟨_, o', ho', hd⟩ := hfl.2.2.1.mem hm
    rw [e] at ho'; cases ho'
    exact up b o e hd
  refine ⟨fun b o e n hb _ => fl'.1 b o (stay b o e n hb), fun b o e n hb _ => ?_, fun b o e n _ => I'.base.free b o e n (noA b), fun b o e _ => ?_, I'.base.tups, I'.base.frzs, I'.base.tbls⟩
  · obtain ⟨sl, e1⟩ := I'.base.slot b o e n hb (noA b)
    obtain ⟨sl', e2⟩ := slotOf b hb _ e1
    exact ⟨sl', e2⟩
  · by_cases hb : b ∈ frs outer
    · obtain ⟨o1, e1⟩ := I'.base.there b o e (noA b)
      obtain ⟨sl, e2⟩ := slotOf b hb _ e1
      exact ⟨_, e2⟩
    · obtain ⟨o1, e1⟩ := live b o e hb
      exact ⟨o1, fl'.1 b o1 e1⟩

def Have (P : Program) (w : World) (K : PySem.W.Frag) (mg : Str → Option Value) (base : Heap) (x : Str) (k : Nat) (ps : List Str) (dvs : List V) (sp : Sp) : Prop :=
  ∃ f fd ds, mg x = some (.ref f) ∧ PySem.W.keepIn K (.ref f) = true ∧ Binds K fd ps ds ∧ Vals dvs ds ∧ FnOk P w K mg base (CXe P w) k f fd ps sp
def HaveM (P : Program) (w : World) (K : PySem.W.Frag) (mg : Str → Option Value) (base : Heap) (C : Addr) (m : Str) (k : Nat) (ps : List Str) (dvs : List V) (sp : Sp) : Prop :=
  ∃ f fd ds, Meth K C m f ∧ Binds K fd ps ds ∧ Vals dvs ds ∧ FnOk P w K mg base (CXe P w) k f fd ps sp
def HaveI (P : Program) (w : World) (K : PySem.W.Frag) (mg : Str → Option Value) (base : Heap) (x : Str) (C : Addr) (k : Nat) (ps : List Str) (dvs : List V) (sp : Sp) : Prop :=
  ∃ f fd ds, mg x = some (.ref C) ∧ Mk K C f ∧ Binds K fd ps ds ∧ Vals dvs ds ∧ FnOk P w K mg base (CXe P w) k f fd ps sp
def tCallE (Kx : XKs) (sp : Sp) (dvs : List V) (t : TA) : TE := fun σ H Q => t σ H fun vs H1 => sp (vs ++ dvs) H1 Q (fun c _ H' => Kx c σ H')
def tMethE (Kx : XKs) (C : Addr) (m : Str) (sp : Sp) (dvs : List V) (ta : TE) (t : TA) : TE := fun σ H Q => ta σ H fun x H1 => ∃ a dx fs, x = .ref a ∧ H1 a = some (.ins C dx fs) ∧ fs.lookup m = none ∧
  t σ H1 fun vs H2 => sp (x :: (vs ++ dvs)) H2 Q (fun c _ H' => Kx c σ H')
def tMakeE (Kx : XKs) (C : Addr) (sp : Sp) (dvs : List V) (t : TA) : TE := fun σ H Q => t σ H fun vs H1 => ∀ x dx, H1 x = none → H1 dx = none → dx ≠ x →
  sp (.ref x :: (vs ++ dvs)) (upd (upd H1 dx (.own x)) x (.ins C dx [])) (fun v H2 => v = .non ∧ Q (.ref x) H2) (fun c _ H' => Kx c σ H')
section
variable {X : Cx} {Kx : XKs} {k : Nat} {f C : Addr} {fd : FuncData} {ps : List Str} {sp : Sp} {dvs : List V} {ds : List Value} {x m : Str} {p pos apos : Pos} {e o : Expr} {es : List Expr} {ta : TE} {t : TA}
theorem run_fnE {pins : List (Addr × Obj)} {σ : St} {H : Hp} {s : Shared} {Q : VK} {us : List Value} {vs : List V} (F : FnOk X.prog X.w X.K X.mg X.base (CXe X.prog X.w) k f fd ps sp) (hr : Room k X.A) (hb : Binds X.K fd ps ds) (hd : Vals dvs ds) (hx : XW X Kx)
    (I : Inv X pins σ H s) (r : Vals vs us) (h : sp (vs ++ dvs) H Q (fun c _ H' => Kx c σ H')) : wpAny (model X.prog X.w) X.A (call (.ref f) us) (EP X pins σ Q) X.xe s := by
  have r2 : Vals (vs ++ dvs) (us ++ ds) := r.append hd
  have hl : (us ++ ds).length = ps.length := by rw [← r2.length]; exact F.len _ _ _ _ h
  refine wpAny_call (codeAny_mono (F.run X.A X.stack s H ⟨us, []⟩ (us ++ ds) (vs ++ dvs) Q _ hr I.env0 (hb s us I.kIn hl) r2 h) fun r s' hq => ?_)
  cases r with
  | error e =>
    obtain ⟨ea, cls, H', B, rfl, os, bare, un, hok, fly, hK⟩ := hq
    exact hx pins σ H s s' ea cls H' B I os bare un hok fly hK
  | ok fl =>
    cases fl with
    | ret u => exact I.after hq
    | next => exact False.elim hq
    | brk => exact False.elim hq
    | cont => exact False.elim hq
theorem pe_callE (F : Have X.prog X.w X.K X.mg X.base x k ps dvs sp) (hr : Room k X.A) (hx : XW X Kx) (ha : PA X (e :: es) t) (hg : Gl X x := by rfl) (hdb : (x == ("__debug__" : Str)) = false := by decide)
    (he : starEach (e :: es) X.env = (false, eval e X.env) :: starEach es X.env := by rfl) (hpl : (backTo pos (starEach es X.env)).any (·.1) = false := by rfl) :
    PE X (.Call (.Name x p) (e :: es) [] pos) (tCallE Kx sp dvs t) := by
  obtain ⟨f, fd, ds, hm, hk, hb, hd, F⟩ := F
  intro pins s σ H Q I h
  refine wpAny_Call_Name_kw (ld_glob I hg hm ?_ hdb)
  refine PySem.W.callWith_K (h₀ := X.base) I.ok.mod.kin hk (thn (ha pos pins s σ H _ I h) fun us s1 ⟨vs, H1, I1, r, q⟩ => ⟨I1.kIn, ?_⟩) he hpl
  exact run_fnE F hr hb hd hx I1 r q
theorem pe_methE {pl : Sem Bool} (ho : PE X o ta) (c : Cls X.K C) (F : HaveM X.prog X.w X.K X.mg X.base C m k ps dvs sp) (hr : Room k X.A) (hx : XW X Kx) (ha : PA X (e :: es) t)
    (hst : starEach (e :: es) X.env = (false, eval e X.env) :: starEach es X.env := by rfl) (hpl : (backTo pos (starEach es X.env)).any (·.1) = false := by rfl)
    (ht : eval (.Call (.Attribute o m apos) (e :: es) [] pos) X.env = (do
      let ov ← eval o X.env
      standAt apos.atName
      let (f, first) ← holding [ov] (getMethod ov m pl)
      callWith pos f first (backTo pos (starEach (e :: es) X.env)) (backToKw pos (keywordEach [] X.env))) := by rfl) :
    PE X (.Call (.Attribute o m apos) (e :: es) [] pos) (tMethE Kx C m sp dvs ta t) := by
  obtain ⟨f, fd, ds, hm, hb, hd, F⟩ := F
  intro pins s σ H Q I h
  refine PySem.W.methodCall_KW (pl := pl) (thn (ho pins s σ H _ I h) fun u s1 ⟨x, H1, I1, rx, a, dx, fs, ex, ea, l, q⟩ => ?_) ht
  subst ex
  obtain rfl : u = Value.ref a := rx
  refine getmeth_ok I1 ea c hm l ?_
  refine PySem.W.callWith_K (first := [.ref a]) (h₀ := X.base) I.ok.mod.kin hm.kp (thn (ha pos pins s1 σ H1 _ I1 q) fun us s2 ⟨vs, H2, I2, r, q2⟩ => ⟨I2.kIn, ?_⟩) hst hpl
  exact run_fnE (us := .ref a :: us) (vs := .ref a :: vs) F hr hb hd hx I2 (.cons rfl r) q2
theorem pe_methE0 {pl : Sem Bool} (ho : PE X o ta) (c : Cls X.K C) (F : HaveM X.prog X.w X.K X.mg X.base C m k ps dvs sp) (hr : Room k X.A) (hx : XW X Kx)
    (ht : eval (.Call (.Attribute o m apos) [] [] pos) X.env = (do
      let ov ← eval o X.env
      standAt apos.atName
      let (f, first) ← holding [ov] (getMethod ov m pl)
      callWith pos f first (backTo pos (starEach [] X.env)) (backToKw pos (keywordEach [] X.env))) := by rfl) :
    PE X (.Call (.Attribute o m apos) [] [] pos) (tMethE Kx C m sp dvs ta tNil) := by
  obtain ⟨f, fd, ds, hm, hb, hd, F⟩ := F
  intro pins s σ H Q I h
  refine PySem.W.methodCall_KW (pl := pl) (thn (ho pins s σ H _ I h) fun u s1 ⟨x, H1, I1, rx, a, dx, fs, ex, ea, l, q⟩ => ?_) ht
  subst ex
  obtain rfl : u = Value.ref a := rx
  refine getmeth_ok I1 ea c hm l ?_
  exact PySem.W.callWith_K0 (first := [.ref a]) I1.kIn hm.kp (run_fnE (us := [.ref a]) (vs := [.ref a]) F hr hb hd hx I1 (.cons rfl .nil) q)
theorem run_makeE {pins : List (Addr × Obj)} {σ : St} {H : Hp} {s : Shared} {Q : VK} {us : List Value} {vs : List V} (M : Mk X.K C f) (F : FnOk X.prog X.w X.K X.mg X.base (CXe X.prog X.w) k f fd ps sp) (hr : Room (k + 1) X.A) (hb : Binds X.K fd ps ds) (hd : Vals dvs ds)
    (hx : XW X Kx) (I : Inv X pins σ H s) (r : Vals vs us)
    (h : ∀ x dx, H x = none → H dx = none → dx ≠ x → sp (.ref x :: (vs ++ dvs)) (upd (upd H dx (.own x)) x (.ins C dx [])) (fun v H2 => v = .non ∧ Q (.ref x) H2) (fun c _ H' => Kx c σ H')) :
    wpAny (model X.prog X.w) X.A (call (.ref C) us) (EP X pins σ Q) X.xe s := by
  have hq := h (s.heap.objs.size + 1) s.heap.objs.size (I.hok.fresh (Nat.le_succ _)) (I.hok.fresh (Nat.le_refl _)) (Nat.ne_of_lt (Nat.lt_succ_self _))
  have I2 := Inv.made (C := C) I
  have r2 : Vals (V.ref (s.heap.objs.size + 1) :: (vs ++ dvs)) (Value.ref (s.heap.objs.size + 1) :: (us ++ ds)) := .cons rfl (r.append hd)
  have hl : (Value.ref (s.heap.objs.size + 1) :: us ++ ds).length = ps.length := by
    have e := r2.length
    rw [F.len _ _ _ _ hq] at e
    exact e.symm
  refine wpAny_call (make_map (f := f) I.kIn M.makes M.init (beq_iff_eq.mp M.fn) (codeAny_mono (F.run _ X.stack _ _ ⟨Value.ref (s.heap.objs.size + 1) :: us, []⟩ (Value.ref (s.heap.objs.size + 1) :: (us ++ ds)) _ _ _ (hr.make C us [])
    (I2.env0.make C us []) (hb _ (Value.ref (s.heap.objs.size + 1) :: us) I2.kIn hl) r2 hq) fun r s' hq' => ?_))
  cases r with
  | error e =>
    obtain ⟨ea, cls, H', B, rfl, os, bare, un, hok, fly, hK⟩ := hq'
    exact hx pins σ _ _ s' ea cls H' B I2 os bare un hok fly hK
  | ok fl =>
    cases fl with
    | ret u =>
      obtain ⟨v, H', I3, rv, ev, q3⟩ := I2.after hq'
      subst ev
      exact ⟨rv, ⟨V.ref (s.heap.objs.size + 1), H', I3, rfl, q3⟩⟩
    | next => exact False.elim hq'
    | brk => exact False.elim hq'
    | cont => exact False.elim hq'
theorem pe_makeE (F : HaveI X.prog X.w X.K X.mg X.base x C k ps dvs sp) (hr : Room (k + 1) X.A) (hx : XW X Kx) (ha : PA X (e :: es) t) (hg : Gl X x := by rfl) (hdb : (x == ("__debug__" : Str)) = false := by decide)
    (he : starEach (e :: es) X.env = (false, eval e X.env) :: starEach es X.env := by rfl) (hpl : (backTo pos (starEach es X.env)).any (·.1) = false := by rfl) :
    PE X (.Call (.Name x p) (e :: es) [] pos) (tMakeE Kx C sp dvs t) := by
  obtain ⟨f, fd, ds, hm, M, hb, hd, F⟩ := F
  intro pins s σ H Q I h
  refine wpAny_Call_Name_kw (ld_glob I hg hm ?_ hdb)
  refine PySem.W.callWith_K (h₀ := X.base) I.ok.mod.kin M.kp (thn (ha pos pins s σ H _ I h) fun us s1 ⟨vs, H1, I1, r, q⟩ => ⟨I1.kIn, ?_⟩) he hpl
  exact run_makeE M F hr hb hd hx I1 r q
theorem pe_bltnE {n : String} (hg : Gl X x) (hm : X.mg x = none) (hv : bootBuiltins x = some (.type n)) (hn : x ≠ "__name__" := by decide) (hd : (x == ("__debug__" : Str)) = false := by decide) : PE X (.Name x pos) (tC (.ty n)) := pe_bltn hg hm hv rfl hn hd
end
def Raw (K : PySem.W.Frag) (mg : Str → Option Value) (x qual : Str) (st : Stmt) (ps : List Str) (dvs : List V) : Prop := ∃ f fd ds, mg x = some (.ref f) ∧ Fun K x qual st f fd ∧ Binds K fd ps ds ∧ Vals dvs ds
def RawM (K : PySem.W.Frag) (C : Addr) (m qual : Str) (st : Stmt) (ps : List Str) (dvs : List V) : Prop := ∃ f fd ds, Meth K C m f ∧ Fun K m qual st f fd ∧ Binds K fd ps ds ∧ Vals dvs ds
def RawI (K : PySem.W.Frag) (mg : Str → Option Value) (x : Str) (C : Addr) (qual : Str) (st : Stmt) (ps : List Str) (dvs : List V) : Prop := ∃ f fd ds, mg x = some (.ref C) ∧ Mk K C f ∧ Fun K "__init__" qual st f fd ∧ Binds K fd ps ds ∧ Vals dvs ds
section
variable {P : Program} {w : World} {K : PySem.W.Frag} {mg : Str → Option Value} {base : Heap}
def Body (P : Program) (w : World) (K : PySem.W.Frag) (mg : Str → Option Value) (base : Heap) (qual : Str) (st : Stmt) (N : List Str) (k : Nat) (sp : Sp) : Prop :=
  ∀ (f : Addr) (cdv : Value) (A : Around) (outer : List Env) (s : Shared) (H : Hp) (vs : List V) (Q : VK) (E : XK), Room k (A.deeper (envOfC qual (defScope st) s.heap.objs.size f cdv)) → sp vs H Q E →
    ∃ t, PSs (cxOf (CXe P w) P w K mg base N qual (defScope st) f cdv A outer s H E) (defBody st) t ∧ t { nx := fun _ H' => Q .non H', rt := Q } (start N vs) H
theorem Fun.okE {x qual : Str} {st : Stmt} {f : Addr} {fd : FuncData} {N ps : List Str} {k : Nat} {sp : Sp} (F : Fun K x qual st f fd) (S : FnScope N ps (defScope st)) (len : ∀ vs H Q E, sp vs H Q E → vs.length = ps.length)
    (hbody : Body P w K mg base qual st N k sp) : FnOk P w K mg base (CXe P w) (k + 1) f fd ps sp := by
  obtain ⟨oc, od, kV, doc, pm, an, cdv, ct, osl, rfl, lk, hcd⟩ := F.ex
  exact fn_of lk hcd S len fun A outer s H vs Q E hr hsp => hbody f cdv A outer s H vs Q E hr hsp
theorem Raw.have {x qual : Str} {st : Stmt} {N ps : List Str} {dvs : List V} {k : Nat} {sp : Sp} (R : Raw K mg x qual st ps dvs) (S : FnScope N ps (defScope st)) (len : ∀ vs H Q E, sp vs H Q E → vs.length = ps.length)
    (hbody : Body P w K mg base qual st N k sp) : Have P w K mg base x (k + 1) ps dvs sp :=
  let ⟨f, fd, ds, hm, F, hb, hd⟩ := R
  ⟨f, fd, ds, hm, F.kp, hb, hd, F.okE S len hbody⟩
theorem RawM.have {C : Addr} {m qual : Str} {st : Stmt} {N ps : List Str} {dvs : List V} {k : Nat} {sp : Sp} (R : RawM K C m qual st ps dvs) (S : FnScope N ps (defScope st)) (len : ∀ vs H Q E, sp vs H Q E → vs.length = ps.length)
    (hbody : Body P w K mg base qual st N k sp) : HaveM P w K mg base C m (k + 1) ps dvs sp :=
  let ⟨f, fd, ds, hm, F, hb, hd⟩ := R
  ⟨f, fd, ds, hm, hb, hd, F.okE S len hbody⟩
theorem RawI.have {C : Addr} {x qual : Str} {st : Stmt} {N ps : List Str} {dvs : List V} {k : Nat} {sp : Sp} (R : RawI K mg x C qual st ps dvs) (S : FnScope N ps (defScope st)) (len : ∀ vs H Q E, sp vs H Q E → vs.length = ps.length)
    (hbody : Body P w K mg base qual st N k sp) : HaveI P w K mg base x C (k + 1) ps dvs sp :=
  let ⟨f, fd, ds, hm, M, F, hb, hd⟩ := R
  ⟨f, fd, ds, hm, M, hb, hd, F.okE S len hbody⟩
end
end L2
namespace L2
open PySem PySem.Spec PyProof.Rows

def XR (X : Cx) (K : XKs) : Prop := ∀ (pins : List (Addr × Obj)) (σ : St) (H : Hp) (s : Shared) (h' : Heap) (e : Addr) (cls : Value) (args : List Value), Inv X pins σ H s → Heap.MadeExcOf s.heap h' e cls args → K cls σ H → X.xe (.ref e) { s with heap := h' }

theorem HOk.alive {P : Program} {w : World} {H : Hp} {h : Heap} (x : HOk P w H h) {b : Addr} {u : HO} (e : H b = some u) : ∃ o, h.get? b = some o := by
  have q := x b u e
  cases u with
  | lst xs => obtain ⟨_, _, _, _, e⟩ := q; exact ⟨_, e⟩
  | tup xs => obtain ⟨_, _, _, ⟨o, e, _⟩⟩ := q; exact ⟨_, e⟩
  | dK kvs => obtain ⟨_, _, _, _, o, _, _, e, _⟩ := q; exact ⟨_, e⟩
  | dT kvs => obtain ⟨_, _, _, _, o, _, _, e, _⟩ := q; exact ⟨_, e⟩
  | set S n => obtain ⟨o, _, _, _, e, _⟩ := q; exact ⟨_, e⟩
  | ins C dx fs => obtain ⟨_, _, _, e, _⟩ := q; exact ⟨_, e⟩
  | own y => exact q
  | xd fs => obtain ⟨_, ⟨_, _, _, e, _⟩, _⟩ := q; exact ⟨_, e⟩
  | rng lo hi => obtain ⟨_, _, _, e⟩ := q; exact ⟨_, e⟩
  | frz ob u => obtain ⟨e, _⟩ := q; exact ⟨_, e⟩
  | tbl ps => exact ⟨_, q⟩
  | met f y => exact ⟨_, q⟩
  | ext φ => obtain ⟨_, e, _⟩ := q; exact e

theorem xr_def {P : Program} {w : World} {K : PySem.W.Frag} {mg : Str → Option Value} {base : Heap} {N : List Str} {qual : Str} {scope : Scope} {f : Addr} {cd : Value} {A : Around} {outer : List Env} {s0 : Shared} {H0 : Hp} {E : XK} :
    XR (cxOf (CXe P w) P w K mg base N qual scope f cd A outer s0 H0 E) (fun c _ H' => E c none H') := by
  intro pins σ H s h1 ea cls args I mk hK
  have hfr := I.ok.frames
  have hstk : (cxOf (CXe P w) P w K mg base N qual scope f cd A outer s0 H0 E).stack = envOfC qual scope s0.heap.objs.size f cd :: outer := rfl
  have hfun := I.stack
  have hfree := I.stkFree
  rw [hstk] at hfr hfun hfree
  have hf : (envOfC qual scope s0.heap.objs.size f cd).frame = some s0.heap.objs.size := rfl
  have hfs : frs (envOfC qual scope s0.heap.objs.size f cd :: outer) = s0.heap.objs.size :: frs outer := frs_cons hf
  have noA : ∀ b : Addr, b ∉ (cxOf (CXe P w) P w K mg base N qual scope f cd A outer s0 H0 E).ex := fun b z => absurd z (by simp [cxOf])
  have nf : ∀ b o, s0.heap.get? b = some o → b ∉ frs outer → b ∉ frs (envOfC qual scope s0.heap.objs.size f cd :: outer) := fun b o e n z => by
    rw [hfs] at z
    rcases List.mem_cons.mp z with z | z
    · exact absurd (Heap.lt_size e) (by rw [z]; exact Nat.lt_irrefl _)
    · exact n z
  show wpAny _ _ (leaving (envOfC qual scope s0.heap.objs.size f cd) (.ref ea)) _ _ _
  refine wpAny_leaves_madeW (base := PySem.W.hideAll s.heap (frs (envOfC qual scope s0.heap.objs.size f cd :: outer))) (h := s.heap) hfr hf (fun b o q => PySem.W.of_hideAll _ q)
    (PySem.W.funFrames_hide hfun fun env he b hb => List.mem_filterMap.mpr ⟨env, he, hb⟩) mk fun h' t fl' _ _ up => ?_
  have inB : ∀ b o, s.heap.get? b = some o → b ∉ frs (envOfC qual scope s0.heap.objs.size f cd :: outer) → (PySem.W.hideAll s.heap (frs (envOfC qual scope s0.heap.objs.size f cd :: outer))).get? b = some o := fun b o e n => PySem.W.hideAll_get _ e n
  have stay : ∀ b o, s0.heap.get? b = some o → H0 b = none → b ∉ frs outer → (PySem.W.hideAll s.heap (frs (envOfC qual scope s0.heap.objs.size f cd :: outer))).get? b = some o := fun b o e n hb =>
    inB b o (I.base.keep b o e n hb (noA b)) (nf b o e hb)
  have live : ∀ b o, s0.heap.get? b = some o → b ∉ frs outer → ∃ o', (PySem.W.hideAll s.heap (frs (envOfC qual scope s0.heap.objs.size f cd :: outer))).get? b = some o' := fun b o e hb => by
    obtain ⟨o1, e1⟩ := I.base.there b o e (noA b)
    exact ⟨o1, inB b o1 e1 (nf b o e hb)⟩
  have trk : ∀ b u, H b = some u → ∃ o, (PySem.W.hideAll s.heap (frs (envOfC qual scope s0.heap.objs.size f cd :: outer))).get? b = some o := fun b u e => by
    obtain ⟨o, ho⟩ := I.hok.alive e
    exact ⟨o, inB b o ho fun z => by rw [hfree b z] at e; cases e⟩
  have slotOf : ∀ b, b ∈ frs outer → ∀ o, s.heap.get? b = some o → ∃ sl, h'.get? b = some { o with slots := sl } := fun b hb o e => by
    have hm : b ∈ frs (envOfC qual scope s0.heap.objs.size f cd :: outer) := by rw [hfs]; exact List.mem_cons_of_mem _ hb
    obtain ⟨_, o', ho', hd⟩ := hfun.mem hm
    rw [e] at ho'; cases ho'
    exact up b o (mk.keeps b o e) hd
  refine ⟨ea, cls, H, _, rfl, I.os, I.bare, ?_, I.hok.flown trk (fun b o q => PySem.W.of_hideAll _ q) fl'.1, ⟨⟨_, fl'⟩, trk, stay, live⟩, hK⟩
  refine ⟨fun b o e n hb _ => fl'.1 b o (stay b o e n hb), fun b o e n hb _ => ?_, fun b o e n _ => I.base.free b o e n (noA b), fun b o e _ => ?_, I.base.tups, I.base.frzs, I.base.tbls⟩
  · obtain ⟨sl, e1⟩ := I.base.slot b o e n hb (noA b)
    obtain ⟨sl', e2⟩ := slotOf b hb _ e1
    exact ⟨sl', e2⟩
  · by_cases hb : b ∈ frs outer
    · obtain ⟨o1, e1⟩ := I.base.there b o e (noA b)
      obtain ⟨sl, e2⟩ := slotOf b hb _ e1
      exact ⟨_, e2⟩
    · obtain ⟨o1, e1⟩ := live b o e hb
      exact ⟨o1, fl'.1 b o1 e1⟩

abbrev mroVE : List Value := [.type "ValueError", .type "Exception", .type "BaseException", .type "object"]
structure XC (K : PySem.W.Frag) (mg : Str → Option Value) (x : Str) (C : Addr) : Prop where
  m : mg x = some (.ref C)
  ex : PySem.W.excIn K C mroVE "ValueError.__new__" = true
theorem exc_obj {K : PySem.W.Frag} {h : Heap} {C : Addr} {l : List Value} {id : String} (hin : K.In h) (q : PySem.W.excIn K C l id = true) :
    ∃ bm N nm qn bs hdct sn sub ab col dd k0 k1 k2 k3 k5 mN, h.get? C = some (excClassObj nm qn C N bs bm hdct sn sub ab col dd k0 k1 k2 k3 k5 id) ∧ h.Ns N mN ∧ mN "__init__" = none ∧ OwnTail h l bm := by
  unfold PySem.W.excIn at q
  split at q
  case h_2 => cases q
  case h_1 dd cd sl ho =>
    split at q
    case h_2 => cases q
    case h_1 C' bm k0 k1 k2 k3 n k5 hm hs =>
      rw [Bool.and_eq_true, Bool.and_eq_true, Bool.and_eq_true, Bool.and_eq_true, Bool.and_eq_true] at q
      obtain ⟨⟨⟨⟨⟨q1, q2⟩, q3⟩, q4⟩, q5⟩, q6⟩ := q
      have e1 := beq_iff_eq.mp q1
      have e2 := beq_iff_eq.mp q2
      have e6 := beq_iff_eq.mp q6
      subst e1 e2
      obtain ⟨nm, bs, mro, ns, qn, hd, sn, sub, ab, col, del⟩ := cd
      have e3 : del = false := by
        cases del with
        | false => rfl
        | true => cases q3
      have hm' : mro = .ref C' :: bm := hm
      subst e3 hm'
      obtain ⟨l'⟩ := sl
      have hs' : l' = [k0, k1, k2, k3, some (.builtin n), k5] := hs
      subst hs'
      exact ⟨bm, ns, nm, qn, bs, hd, sn, sub, ab, col, dd, k0, k1, k2, k3, k5, _, hin _ _ ho, .of_isNs (PySem.W.isNs_of_in hin q5), PySem.W.nsMap_none_of_in hin q5 e6, PySem.W.tail_of_in hin q4⟩
def tRaise (Kx : XKs) (C : Addr) (t : TA) : TS := fun _ σ H => t σ H fun vs H1 => vs.length ≤ sizeLine ∧ Kx (.ref C) σ H1
theorem ps_raise {X : Cx} {Kx : XKs} {C : Addr} {x : Str} {np cpos pos : Pos} {e : Expr} {es : List Expr} {t : TA} (hx : XR X Kx) (hc : X.calm = true) (c : XC X.K X.mg x C) (ha : PA X (e :: es) t) (hg : Gl X x := by rfl) (hd : (x == ("__debug__" : Str)) = false := by decide)
    (he : starEach (e :: es) X.env = (false, eval e X.env) :: starEach es X.env := by rfl) (hpl : (backTo cpos (starEach es X.env)).any (·.1) = false := by rfl) :
    PS X (.Raise (some (.Call (.Name x np) (e :: es) [] cpos)) none pos) (tRaise Kx C t) := by
  intro pins s σ H D I h
  obtain ⟨bm, N, nm, qn, bs, hdct, sn, sub, ab, col, dd, k0, k1, k2, k3, k5, mN, hC, hN, hni, T⟩ := exc_obj I.mod.kin c.ex
  refine wpAny_Raise_call_subT (C := C) (nm := nm) (q := qn) (N := N) (bs := bs) (bm := bm) (hdct := hdct) (sn := sn) (sub := sub) (ab := ab) (col := col) (dd := dd) (k0 := k0) (k1 := k1) (k2 := k2) (k3 := k3) (k5 := k5) (mN := mN) PySem.F.excBase_ValueError (T.hasType PySem.F.excBase_ValueError.hasBase) (I.ok.hd hc) (by rw [he]; show (false || (backTo cpos (starEach es X.env)).any (·.1)) = false; rw [hpl]; rfl) hni
    (ld_glob I hg c.m ⟨rfl, ?_⟩ hd)
  have q := ha cpos pins s σ H _ I h
  rw [he] at q ⊢
  refine Calls.evalArgs_plain (wpAny_mono q (fun us s2 hq => ?_) fun _ _ y => y)
  obtain ⟨vs, H1, I1, r, hl, hk⟩ := hq
  exact ⟨rfl, by rw [← r.length]; exact hl, I1.bk _ _ hC, hN.keeps I1.bk, T.keeps I1.bk, fun h' ea mk => hx pins σ H1 s2 h' ea (.ref C) us I1 mk hk⟩

end L2
namespace L2
open PySem PySem.Spec PyProof.Rows
def kdO : Option HO → String
  | some (.lst _) => "list"
  | some (.frz _ (.lst _)) => "list"
  | some (.tup _) => "tuple"
  | some (.dK _) => "dict"
  | some (.dT _) => "dict"
  | _ => ""
def kd (H : Hp) : V → String
  | .non => "NoneType"
  | .bl _ => "bool"
  | .int _ => "int"
  | .str _ => "str"
  | .ref a => kdO (H a)
  | _ => ""
def Kn (H : Hp) (x : V) : Prop := kd H x ≠ ""
def isTy (n : String) (H : Hp) (x : V) : Bool := kd H x == n || (kd H x == "bool" && n == "int")
theorem kd_ty {K : PySem.W.Frag} {H : Hp} {x : V} (h : Kn H x) : TyOf K H x (.type (kd H x)) := by
  cases x with
  | non => exact .non
  | bl b => exact .bl b
  | int i => exact .int i
  | str s => exact .str s
  | ref a =>
    have h : kdO (H a) ≠ "" := h
    show TyOf K H (.ref a) (.type (kdO (H a)))
    cases e : H a with
    | none => rw [e] at h; exact absurd rfl h
    | some o =>
      rw [e] at h
      cases o with
      | lst xs => exact .lst e
      | tup xs => exact .tup e
      | dK k => exact .dK e
      | dT k => exact .dT e
      | frz ob u =>
        cases u with
        | lst xs => exact .frz e
        | _ => exact absurd rfl h
      | _ => exact absurd rfl h
  | _ => exact absurd rfl h
theorem kdO_cases (o : Option HO) : kdO o = "" ∨ kdO o = "list" ∨ kdO o = "tuple" ∨ kdO o = "dict" := by
  unfold kdO
  split <;> simp
theorem Kn.cases {H : Hp} {x : V} (h : Kn H x) : kd H x = "NoneType" ∨ kd H x = "bool" ∨ kd H x = "int" ∨ kd H x = "str" ∨ kd H x = "list" ∨ kd H x = "tuple" ∨ kd H x = "dict" := by
  cases x with
  | ref a =>
    have h : kdO (H a) ≠ "" := h
    show kdO (H a) = _ ∨ kdO (H a) = _ ∨ kdO (H a) = _ ∨ kdO (H a) = _ ∨ kdO (H a) = _ ∨ kdO (H a) = _ ∨ kdO (H a) = _
    rcases kdO_cases (H a) with e | e | e | e
    · exact absurd e h
    · exact .inr (.inr (.inr (.inr (.inl e))))
    · exact .inr (.inr (.inr (.inr (.inr (.inl e)))))
    · exact .inr (.inr (.inr (.inr (.inr (.inr e)))))
  | non => exact .inl rfl
  | bl b => exact .inr (.inl rfl)
  | int i => exact .inr (.inr (.inl rfl))
  | str z => exact .inr (.inr (.inr (.inl rfl)))
  | _ => exact absurd rfl h
theorem kit_scal (K : PySem.W.Frag) : ∀ k ∈ ["NoneType", "bool", "int", "str", "list", "tuple", "dict"], ∀ n ∈ ["bool", "int", "str", "list", "tuple", "dict"], PySem.W.kitOne K (.type k) (.type n) = some (k == n || (k == "bool" && n == "int")) := by
  have e : ∀ k ∈ ["NoneType", "bool", "int", "str", "list", "tuple", "dict"], ∀ n ∈ ["bool", "int", "str", "list", "tuple", "dict"], (if (Value.type k == Value.type n) = true then some true else if PySem.W.kitMeta n = true then (fastBuiltinMro k).map (·.contains (.type n)) else none) = some (k == n || (k == "bool" && n == "int")) := by decide +kernel
  exact fun k hk n hn => e k hk n hn
theorem call_isi {X : Cx} : CallR X (.builtin "isinstance") (fun xs H Q => ∃ x n, xs = [x, .ty n] ∧ n ∈ ["bool", "int", "str", "list", "tuple", "dict"] ∧ Kn H x ∧ Q (.bl (isTy n H x)) H) := by
  intro pins s σ H xs us Q I r h
  obtain ⟨x, n, rfl, hn, hk, q⟩ := h
  cases r with
  | cons r1 rr =>
    cases rr with
    | cons r2 rr =>
      cases rr
      cases r2
      refine isinst_ok I r1 (kd_ty hk) (kit_scal X.K _ ?_ n hn) fun tk => ⟨.bl _, H, I.tok tk, rfl, q⟩
      rcases hk.cases with e | e | e | e | e | e | e <;> rw [e] <;> simp
end L2
namespace L2
open PySem PySem.Spec PyProof.Rows
theorem kn_int {H : Hp} {i : Int} : Kn H (.int i) ↔ True := ⟨fun _ => trivial, fun _ => (by decide : "int" ≠ "")⟩
theorem kn_bl {H : Hp} {i : Bool} : Kn H (.bl i) ↔ True := ⟨fun _ => trivial, fun _ => (by decide : "bool" ≠ "")⟩
theorem kn_str {H : Hp} {i : Str} : Kn H (.str i) ↔ True := ⟨fun _ => trivial, fun _ => (by decide : "str" ≠ "")⟩
theorem kn_lst {H : Hp} {a : Addr} {xs : List V} (h : H a = some (.lst xs)) : Kn H (.ref a) := fun z => by
  have z : kdO (H a) = "" := z
  rw [h] at z; exact absurd z (show "list" ≠ "" by decide)
theorem kn_tup {H : Hp} {a : Addr} {xs : List V} (h : H a = some (.tup xs)) : Kn H (.ref a) := fun z => by
  have z : kdO (H a) = "" := z
  rw [h] at z; exact absurd z (show "tuple" ≠ "" by decide)
theorem cxOf_K {CX : CXT} {P : Program} {w : World} {K : PySem.W.Frag} {mg : Str → Option Value} {base : Heap} {N : List Str} {qual : Str} {scope : Scope} {f : Addr} {cd : Value} {A : Around} {outer : List Env} {s : Shared} {H : Hp} {E : XK} :
    (cxOf CX P w K mg base N qual scope f cd A outer s H E).K = K := rfl
def whole : V → Bool
  | .int _ => true
  | _ => false
def within (x : V) (l h : Int) : Bool := match x with
  | .int i => decide (l ≤ i) && decide (i ≤ h)
  | _ => false
end L2
namespace L2
open PySem PySem.Spec PyProof.Rows
inductive Hid (t u : TS) : Type where
  | mk : Hid t u
def tCut (t u : TS) (_ : Hid t u) : TS := fun D σ H => ∃ M : St → Hp → Prop, t { D with nx := M } σ H ∧ ∀ σ' H', M σ' H' → u D σ' H'
theorem pss_cut {X : Cx} {st : Stmt} {rest : List Stmt} {t u : TS} (h1 : PS X st t) (h2 : PSs X rest u) : PSs X (st :: rest) (tCut t u .mk) := by
  intro pins s σ H D I h
  obtain ⟨M, h, hM⟩ := h
  refine wpAny_execs_cons (thn (h1 pins s σ H { D with nx := M } I h) fun f s1 q => ?_)
  cases f with
  | next =>
    obtain ⟨σ', H', I', q⟩ := q
    exact h2 pins s1 σ' H' D I' (hM σ' H' q)
  | ret v => exact q
  | brk => exact q
  | cont => exact q
def lstO : Option HO → Option (List V)
  | some (.lst xs) => some xs
  | some (.frz _ (.lst xs)) => some xs
  | _ => none
def tupO : Option HO → Option (List V)
  | some (.tup xs) => some xs
  | some (.frz _ (.tup xs)) => some xs
  | _ => none
theorem lstO_lst {xs : List V} : lstO (some (.lst xs)) = some xs := rfl
theorem tupO_tup {xs : List V} : tupO (some (.tup xs)) = some xs := rfl
theorem scal_ii {i j : Int} : scal (.int i) (.int j) = true := rfl
theorem scal_bb {i j : Bool} : scal (.bl i) (.bl j) = true := rfl
theorem scal_ss {i j : Str} : scal (.str i) (.str j) = true := rfl
theorem na10 : Int.natAbs 10 = 10 := rfl
theorem same_refl {H : Hp} : Same H H := fun _ _ h => h
theorem same_upd {H H' : Hp} {p : Addr} {o : HO} (s : Same H H') (h : H' p = none) : Same H (upd H' p o) := fun b u e => by
  have q := s b u e
  rw [upd_ne (ne_of_none q h)]
  exact q
end L2
namespace L2
open PySem PySem.Spec PyProof.Rows
end L2
namespace L2
open PySem PySem.Spec PyProof.Rows
inductive HidF (g : TG) (tb : TS) : Type where
  | mk : HidF g tb
def Loop (g : TG) (tb : TS) (_ : HidF g tb) (J : It) : TS := fun D σ H => ∃ W : Nat → Nat → St → Hp → Prop, (∃ m, W 0 m σ H) ∧ ∀ i m σ H, W i m σ H →
  (J.stop i H ∧ D.nx σ H) ∨ (J.go i H ∧ ∃ N : St → Hp → Prop, (∀ σ' H', N σ' H' → ∃ m', m' < m ∧ W (i + 1) m' σ' H') ∧ ∀ x H', J.yld i H x H' → g x σ H' fun σ2 H2 => tb { D with nx := N, ct := N, bk := D.nx } σ2 H2)
def tForE (wi : TI) (g : TG) (tb : TS) (h : HidF g tb) : TS := fun D σ H => wi σ H fun J H1 => Loop g tb h J D σ H1
theorem ps_forE {X : Cx} {tg iter : Expr} {body : List Stmt} {wi : TI} {g : TG} {tb : TS} {pos : Pos} (hp : PassesOwn (model X.prog X.w) X.A X.env X.xe) (hc : X.calm = true) (hi : PI X tg iter wi) (hg : PG X tg g) (hb : PSs X body tb)
    (hs : ∀ x, foldedSetIterable iter X.env x = pure x := by intro _; rfl) : PS X (.For tg iter body [] pos) (tForE wi g tb .mk) := ps_for hp hc hi hg hb hs
theorem loop_range {lo : Int} {n : Nat} {g : TG} {tb : TS} {h : HidF g tb} {D : Ends} {σ : St} {H : Hp} (Pv : Nat → St → Hp → Prop) (h0 : Pv 0 σ H)
    (hs : ∀ i σ H, i < n → Pv i σ H → g (.int (lo + i)) σ H fun σ2 H2 => tb { D with nx := Pv (i + 1), ct := Pv (i + 1), bk := D.nx } σ2 H2) (hd : ∀ σ H, Pv n σ H → D.nx σ H) : Loop g tb h (Itr lo n) D σ H := for_range Pv h0 hs hd
theorem loop_list {K : PySem.W.Frag} {a : Addr} {xs : List V} {g : TG} {tb : TS} {h : HidF g tb} {D : Ends} {σ : St} {H : Hp} (Pv : Nat → St → Hp → Prop) (h0 : Pv 0 σ H) (hl : ∀ i σ H, i ≤ xs.length → Pv i σ H → SqL K H a xs)
    (hs : ∀ i x σ H, xs[i]? = some x → Pv i σ H → g x σ H fun σ2 H2 => tb { D with nx := Pv (i + 1), ct := Pv (i + 1), bk := D.nx } σ2 H2) (hd : ∀ σ H, Pv xs.length σ H → D.nx σ H) : Loop g tb h (Itl K a) D σ H := for_list Pv h0 hl hs hd
end L2
namespace L2
open PySem PySem.Spec PyProof.Rows
end L2
namespace L2
open PySem PySem.Spec PyProof.Rows
theorem same_make {H : Hp} {x dx : Addr} {o : HO} (hx : H x = none) (hd : H dx = none) (hne : dx ≠ x) : Same H (upd (upd H dx (.own x)) x o) :=
  same_upd (same_upd same_refl hd) (by rw [upd_ne (Ne.symm hne)]; exact hx)
end L2
namespace L2
open PySem PySem.Spec PyProof.Rows
end L2
namespace L2
open PySem PySem.Spec PyProof.Rows
end L2
namespace L2
open PySem PySem.Spec PyProof.Rows
theorem isTy_tup {H : Hp} {a : Addr} {xs : List V} (h : H a = some (.tup xs)) : isTy "tuple" H (.ref a) = true := by
  unfold isTy
  rw [show kd H (.ref a) = kdO (H a) from rfl, h]; rfl
theorem isTy_lst {H : Hp} {a : Addr} {xs : List V} (h : H a = some (.lst xs)) : isTy "list" H (.ref a) = true := by
  unfold isTy
  rw [show kd H (.ref a) = kdO (H a) from rfl, h]; rfl
end L2
namespace L2
open PySem PySem.Spec PyProof.Rows
section
variable {X : Cx} {pins pins2 : List (Addr × Obj)} {σ : St} {H : Hp} {s : Shared} {E' : Value → Shared → Prop}
end
end L2
namespace PySem.W
open PySem PySem.Spec PySem.Calls PyProof.Rows
open Builtin Builtin.ObjectAttr Builtin.Getset_descriptor
def ExcAt (e C : Addr) (h : Heap) : Prop := ∃ o, h.get? e = some o ∧ o.cls = .ref C
section
variable {K : Frag} {e C : Addr}
theorem ExcAt.ty {M : Model} {h : Heap} (p : ExcAt e C h) : Looks M h (typeOf (.ref e)) (.ref C) := by
  obtain ⟨o, h1, h2⟩ := p
  exact h2 ▸ (Looks.ld h1).andThen .now
variable {prog : Program} {w : World} {A : Around} {E : Value → Shared → Prop} {s : Shared}
end
end PySem.W
namespace L2
open PySem PySem.Spec PyProof.Rows
def clsV : V → Value
  | .ref a => .ref a
  | .ty n => .type n
  | _ => .none
theorem clsV_ref {a : Addr} : clsV (.ref a) = .ref a := rfl
theorem clsV_ty {n : String} : clsV (.ty n) = .type n := rfl
end L2
namespace L2
open PySem PySem.Spec PyProof.Rows
inductive Dv where
  | leaf (v : V)
  | seq (t : Bool) (ds : List Dv)
mutual
def Sees (K : PySem.W.Frag) (H : Hp) : Dv → V → Prop
  | .leaf v, x => x = v ∧ flatV v = true
  | .seq t ds, x => ∃ a xs, x = .ref a ∧ (if t = true then SqT K H a xs else SqL K H a xs) ∧ SeesL K H ds xs
def SeesL (K : PySem.W.Frag) (H : Hp) : List Dv → List V → Prop
  | [], xs => xs = []
  | d :: ds, xs => ∃ x r, xs = x :: r ∧ Sees K H d x ∧ SeesL K H ds r
end
mutual
def deep : Dv → Nat
  | .leaf _ => 0
  | .seq _ ds => deepL ds + 1
def deepL : List Dv → Nat
  | [] => 0
  | d :: ds => max (deep d) (deepL ds)
end
theorem SeesL.length {K : PySem.W.Frag} {H : Hp} : ∀ {ds : List Dv} {xs : List V}, SeesL K H ds xs → ds.length = xs.length
  | [], xs, h => by unfold SeesL at h; subst h; rfl
  | d :: ds, xs, h => by
    unfold SeesL at h
    obtain ⟨x, r, rfl, _, h⟩ := h
    simp [h.length]
end L2
namespace L2
open PySem PySem.Spec PyProof.Rows
def compChk (sc : Scope) (env : Env) (x : Str) (fs : List Str) : Bool :=
  sc.kind == .function && sc.names.all (fun y => y.2 != .cell && (y.2 != .local || sc.names.lookup y.1 == some .local) && (y.2 != .free || env.kindOf y.1 == some .cell || env.kindOf y.1 == some .free)) &&
    sc.names.lookup x == some .local && fs.all (fun f => sc.names.lookup f == some .free)
structure CompSc (sc : Scope) (env : Env) (x : Str) (fs : List Str) : Prop where
  kind : sc.kind = .function
  nocell : ∀ y ∈ sc.names, y.2 ≠ .cell
  own : ∀ y ∈ sc.names, y.2 = .local → sc.names.lookup y.1 = some .local
  fr : ∀ y ∈ sc.names, y.2 = .free → env.kindOf y.1 = some .cell ∨ env.kindOf y.1 = some .free
  x : sc.names.lookup x = some .local
  fs : ∀ f ∈ fs, sc.names.lookup f = some .free
theorem CompSc.of {sc : Scope} {env : Env} {x : Str} {fs : List Str} (h : compChk sc env x fs = true) : CompSc sc env x fs := by
  unfold compChk at h
  simp only [Bool.and_eq_true, beq_iff_eq, List.all_eq_true, Bool.or_eq_true, bne_iff_ne, ne_eq] at h
  obtain ⟨⟨⟨h1, h2⟩, h3⟩, h4⟩ := h
  refine ⟨h1, fun y hy => (h2 y hy).1.1, fun y hy e => ?_, fun y hy e => ?_, h3, h4⟩
  · rcases (h2 y hy).1.2 with z | z
    · exact absurd e z
    · exact z
  · rcases (h2 y hy).2 with (z | z) | z
    · exact absurd e z
    · exact .inl z
    · exact .inr z
theorem closure_ex {env : Env} : ∀ (names : List (Str × NameKind)) (acc : List (Str × Addr)), (∀ n, (n, NameKind.free) ∈ names → ∃ c, env.cells.lookup n = some c) →
    ∃ cl, (forIn names acc fun y r => (do if (y.2 == NameKind.free) = true then do let c ← cellOf env y.1; pure (ForInStep.yield ((y.1, c) :: r)) else pure (ForInStep.yield r) : Sem (ForInStep (List (Str × Addr))))) = pure cl ∧
      (∀ n c, cl.lookup n = some c → acc.lookup n = some c ∨ env.cells.lookup n = some c) ∧ ∀ n, (∃ c, acc.lookup n = some c) ∨ (n, NameKind.free) ∈ names → ∃ c, cl.lookup n = some c
  | [], acc, _ => ⟨acc, rfl, fun _ _ e => .inl e, fun n h => h.elim id fun z => nomatch z⟩
  | (n, k) :: r, acc, h => by
    have hr : ∀ m, (m, NameKind.free) ∈ r → ∃ c, env.cells.lookup m = some c := fun m hm => h m (List.mem_cons_of_mem _ hm)
    by_cases hk : k = .free
    · subst hk
      obtain ⟨c, hc⟩ := h n List.mem_cons_self
      obtain ⟨cl, e, h1, h2⟩ := closure_ex r ((n, c) :: acc) hr
      refine ⟨cl, ?_, fun m c' hm => ?_, fun m hm => h2 m ?_⟩
      · rw [List.forIn_cons]
        simp only [beq_self_eq_true, if_true, cellOf, hc, pure_bind]
        exact e
      · rcases h1 m c' hm with z | z
        · rw [List.lookup_cons] at z
          cases q : m == n with
          | true =>
            rw [q] at z
            cases z
            rw [beq_iff_eq.mp q]
            exact .inr hc
          | false => rw [q] at z; exact .inl z
        · exact .inr z
      · rw [List.lookup_cons]
        rcases hm with ⟨c', z⟩ | hm
        · cases q : m == n with
          | true => exact .inl ⟨c, rfl⟩
          | false => exact .inl ⟨c', z⟩
        · rcases List.mem_cons.mp hm with z | z
          · cases z
            rw [beq_self_eq_true]
            exact .inl ⟨c, rfl⟩
          · exact .inr z
    · obtain ⟨cl, e, h1, h2⟩ := closure_ex r acc hr
      refine ⟨cl, ?_, h1, fun m hm => h2 m ?_⟩
      · rw [List.forIn_cons]
        have hb : (k == NameKind.free) = false := by simpa using hk
        simp only [hb, Bool.false_eq_true, if_false, pure_bind]
        exact e
      · rcases hm with z | hm
        · exact .inl z
        · rcases List.mem_cons.mp hm with z | z
          · cases z; exact absurd rfl hk
          · exact .inr z
theorem closure_of {env : Env} {sc : Scope} (h : ∀ n, (n, NameKind.free) ∈ sc.names → ∃ c, env.cells.lookup n = some c) :
    ∃ cl, closureFor sc env = pure cl ∧ (∀ n c, cl.lookup n = some c → env.cells.lookup n = some c) ∧ ∀ n, (n, NameKind.free) ∈ sc.names → ∃ c, cl.lookup n = some c := by
  obtain ⟨cl, e, h1, h2⟩ := closure_ex sc.names [] h
  refine ⟨cl, ?_, fun n c z => (h1 n c z).elim (fun q => nomatch q) id, fun n hn => h2 n (.inr hn)⟩
  unfold closureFor
  simp only [bind_pure]
  exact e
theorem relabel_kind {env : Env} : ∀ {names : List (Str × NameKind)} {x : Str} {k : NameKind}, (names.map fun (n, k) => if (k == NameKind.free && env.scope.kind == .function && env.kindOf n == some .cell) then (n, NameKind.cell) else (n, k)).lookup x = some k →
    k = .cell ∨ k = .free → names.lookup x = some .free ∨ names.lookup x = some .cell
  | [], _, _, h, _ => by simp at h
  | (n, k0) :: r, x, k, h, hk => by
    have ih := @relabel_kind env r x k
    have h : List.lookup x ((if (k0 == NameKind.free && env.scope.kind == .function && env.kindOf n == some .cell) = true then (n, NameKind.cell) else (n, k0)) :: (r.map fun (n, k) => if (k == NameKind.free && env.scope.kind == .function && env.kindOf n == some .cell) then (n, NameKind.cell) else (n, k))) = some k := h
    by_cases hc : (k0 == NameKind.free && env.scope.kind == .function && env.kindOf n == some .cell) = true
    · rw [if_pos hc] at h
      simp only [List.lookup_cons] at h ⊢
      cases hx : x == n with
      | true =>
        simp only [Bool.and_eq_true, beq_iff_eq] at hc
        rw [hc.1.1]
        exact .inl rfl
      | false => rw [hx] at h; exact ih h hk
    · rw [if_neg hc] at h
      simp only [List.lookup_cons] at h ⊢
      cases hx : x == n with
      | true =>
        rw [hx] at h
        cases h
        rcases hk with rfl | rfl
        · exact .inr rfl
        · exact .inl rfl
      | false => rw [hx] at h; exact ih h hk
theorem relabel_free {env : Env} : ∀ {names : List (Str × NameKind)} {x : Str}, names.lookup x = some .free →
    (names.map fun (n, k) => if (k == NameKind.free && env.scope.kind == .function && env.kindOf n == some .cell) then (n, NameKind.cell) else (n, k)).lookup x = some .cell ∨ (names.map fun (n, k) => if (k == NameKind.free && env.scope.kind == .function && env.kindOf n == some .cell) then (n, NameKind.cell) else (n, k)).lookup x = some .free
  | [], _, h => by simp at h
  | (n, k0) :: r, x, h => by
    have ih := @relabel_free env r x
    show List.lookup x ((if (k0 == NameKind.free && env.scope.kind == .function && env.kindOf n == some .cell) = true then (n, NameKind.cell) else (n, k0)) :: _) = _ ∨ List.lookup x ((if (k0 == NameKind.free && env.scope.kind == .function && env.kindOf n == some .cell) = true then (n, NameKind.cell) else (n, k0)) :: _) = _
    simp only [List.lookup_cons] at h
    by_cases hc : (k0 == NameKind.free && env.scope.kind == .function && env.kindOf n == some .cell) = true
    · rw [if_pos hc]
      simp only [List.lookup_cons]
      cases hx : x == n with
      | true => exact .inl rfl
      | false => rw [hx] at h; exact ih h
    · rw [if_neg hc]
      simp only [List.lookup_cons]
      cases hx : x == n with
      | true => rw [hx] at h; exact .inr h
      | false => rw [hx] at h; exact ih h
def cxComp (X : Cx) (scope : Scope) (cl : List (Str × Addr)) (C : Addr) (N : List Str) (s₀ : Shared) (H₀ : Hp) (fp : List Addr) (xe : Value → Shared → Prop) : Cx :=
  { X with N := N, s₀ := s₀, H₀ := H₀, env := compEnvC scope cl C X.env, outer := X.stack, stack := X.stack, ex := fp, fn := fun _ => false, pn := [], xe := xe }
theorem xw_no {X : Cx} : XW X (fun _ _ _ => False) := fun _ _ _ _ _ _ _ _ _ _ _ _ _ _ _ h => h.elim
inductive HidC (g : TG) (tt : TT) (te : TE) : Type where
  | mk : HidC g tt te
def PF (X : Cx) (ifs : List Expr) (tt : TT) : Prop :=
  ∀ (pins : List (Addr × Obj)) (s : Shared) (σ : St) (H : Hp) (Q : Bool → Hp → Prop), Inv X pins σ H s → tt σ H Q →
    wpAny (model X.prog X.w) X.A (forIn ifs true fun c r => if r = true then do let ok ← isTrue c X.env (eval c X.env); pure (ForInStep.yield ok) else pure (ForInStep.yield r)) (TP X pins σ Q) X.xe s
def tYes : TT := fun _ H Q => Q true H
theorem pf_nil {X : Cx} : PF X [] tYes := fun _ _ _ H _ I h => by
  simp only [List.forIn_nil]
  exact wpAny_pure ⟨H, I, h⟩
theorem pf_one {X : Cx} {c : Expr} {tt : TT} (h : PT X c tt) : PF X [c] tt := fun pins s σ H Q I hw => wpAny_tests_one (h pins s σ H Q I hw)
def Comp (g : TG) (tt : TT) (te : TE) (_ : HidC g tt te) (J : It) (σ0 : St) (D : Addr) (Q : Hp → Prop) (H : Hp) : Prop :=
  ∃ W : Nat → Nat → List V → St → Hp → Prop, (∃ m, W 0 m [] σ0 (upd H D (.lst []))) ∧ ∀ i m ys σ H, W i m ys σ H →
    (J.stop i H ∧ Q H) ∨ (J.go i H ∧ ∃ N : List V → St → Hp → Prop, (∀ ys σ H, N ys σ H → ∃ m', m' < m ∧ W (i + 1) m' ys σ H) ∧
      ∀ y H', J.yld i H y H' → g y σ H' fun σ2 H2 => tt σ2 H2 fun b H2' => if b = true then te σ2 H2' fun v H3 => H3 D = some (.lst ys) ∧ ys.length < sizeLine ∧ N (ys ++ [v]) σ2 (upd H3 D (.lst (ys ++ [v]))) else N ys σ2 H2')
def tComp (wi : TI) (ix : List Nat) (g : TG) (tt : TT) (te : TE) (h : HidC g tt te) : TE := fun σ H Q => wi σ H fun J H1 => ∀ D, H1 D = none → Comp g tt te h J (none :: ix.map fun i => (σ[i]?).join) D (fun H' => Q (.ref D) H') H1
theorem comp_range {lo : Int} {n : Nat} {g : TG} {tt : TT} {te : TE} {h : HidC g tt te} {σ0 : St} {D : Addr} {Q : Hp → Prop} {H : Hp} (Pv : Nat → List V → St → Hp → Prop) (h0 : Pv 0 [] σ0 (upd H D (.lst [])))
    (hs : ∀ i ys σ H, i < n → Pv i ys σ H → g (.int (lo + i)) σ H fun σ2 H2 => tt σ2 H2 fun b H2' => if b = true then te σ2 H2' fun v H3 => H3 D = some (.lst ys) ∧ ys.length < sizeLine ∧ Pv (i + 1) (ys ++ [v]) σ2 (upd H3 D (.lst (ys ++ [v]))) else Pv (i + 1) ys σ2 H2') (hd : ∀ ys σ H, Pv n ys σ H → Q H) :
    Comp g tt te h (Itr lo n) σ0 D Q H := by
  refine ⟨fun i m ys σ H => i + m = n ∧ Pv i ys σ H, ⟨n, Nat.zero_add n, h0⟩, fun i m ys σ H ⟨e, p⟩ => ?_⟩
  by_cases hi : i < n
  · refine .inr ⟨hi, Pv (i + 1), fun ys σ H q => ⟨m - 1, by omega, by omega, q⟩, ?_⟩
    rintro y H' ⟨rfl, rfl⟩
    exact hs i ys σ H' hi p
  · have e' : i = n := by omega
    subst e'
    exact .inl ⟨Nat.le_refl _, hd ys σ H p⟩
theorem comp_list {K : PySem.W.Frag} {a : Addr} {xs : List V} {g : TG} {tt : TT} {te : TE} {h : HidC g tt te} {σ0 : St} {D : Addr} {Q : Hp → Prop} {H : Hp} (Pv : Nat → List V → St → Hp → Prop) (h0 : Pv 0 [] σ0 (upd H D (.lst []))) (hl : ∀ i ys σ H, i ≤ xs.length → Pv i ys σ H → SqL K H a xs)
    (hs : ∀ i x ys σ H, xs[i]? = some x → Pv i ys σ H → g x σ H fun σ2 H2 => tt σ2 H2 fun b H2' => if b = true then te σ2 H2' fun v H3 => H3 D = some (.lst ys) ∧ ys.length < sizeLine ∧ Pv (i + 1) (ys ++ [v]) σ2 (upd H3 D (.lst (ys ++ [v]))) else Pv (i + 1) ys σ2 H2') (hd : ∀ ys σ H, Pv xs.length ys σ H → Q H) :
    Comp g tt te h (Itl K a) σ0 D Q H := by
  refine ⟨fun i m ys σ H => i + m = xs.length ∧ Pv i ys σ H, ⟨xs.length, Nat.zero_add _, h0⟩, fun i m ys σ H ⟨e, p⟩ => ?_⟩
  have hq := hl i ys σ H (by omega) p
  by_cases hi : i < xs.length
  · have ex : xs[i]? = some xs[i] := List.getElem?_eq_getElem hi
    refine .inr ⟨⟨xs, _, hq, ex⟩, Pv (i + 1), fun ys σ H q => ⟨m - 1, by omega, by omega, q⟩, ?_⟩
    rintro y H' ⟨rfl, hy⟩
    exact hs i y ys σ H' (hy xs hq) p
  · have e' : i = xs.length := by omega
    subst e'
    exact .inl ⟨⟨xs, hq, Nat.le_refl _⟩, hd ys σ H p⟩
theorem compLoop_turn {prog : Program} {w : World} {A : Around} {R : Result → Shared → Prop} {s : Shared} {elt target iter : Expr} {ifs : List Expr} {scope : Scope} {pos : Pos} {it acc : Value} {env : Env} (I : Nat → Shared → Prop)
    (turn : ∀ n s, I n s → wpAny (model prog w) A (pyNext it) (fun r s₁ => match r with
      | none => R (.ok .next) s₁
      | some v => wpAny (model prog w) A (letOwnedTupleGo target it v) (fun _ s₁' => wpAny (model prog w) A (assign target env v) (fun _ s₂ =>
          wpAny (model prog w) A (forIn ifs true fun c r => if r = true then do let ok ← isTrue c env (eval c env); pure (ForInStep.yield ok) else pure (ForInStep.yield r)) (fun ok s₃ =>
            if ok = true then wpAny (model prog w) A (eval elt env) (fun x s₄ =>
              wpAny (model prog w) A (call (.builtin "list.append") [acc, x]) (fun _ s₅ => ∃ m, m < n ∧ I m s₅) (notedBy (model prog w) A env fun e s' => R (.error e) s') s₄) (notedBy (model prog w) A env fun e s' => R (.error e) s') s₃
            else ∃ m, m < n ∧ I m s₃) (notedBy (model prog w) A env fun e s' => R (.error e) s') s₂) (notedBy (model prog w) A env fun e s' => R (.error e) s') s₁') (notedBy (model prog w) A env fun e s' => R (.error e) s') s₁) (notedBy (model prog w) A env fun e s' => R (.error e) s') s)
    (n : Nat) (h : I n s) : codeAny (model prog w) A (.compLoop (.ListComp elt [⟨target, iter, ifs, 0⟩] scope pos) 0 it acc env) R s := by
  refine codeAny_loop rfl I (fun n s hI => ?_) n h
  show wpAny _ _ ((compTurn (.ListComp elt [⟨target, iter, ifs, 0⟩] scope pos) 0 it acc env).onRaise (fun x => do noteFrame x env; theTreesLotGoes x)) _ _ s
  refine wpAny_noted ?_
  rw [compTurn_list]
  refine wpAny_bind (wpAny_standAt (wpAny_bind (wpAny_mono (turn n s hI) (fun r s₁ h₁ => ?_) fun _ _ h' => h')))
  cases r with
  | none => exact wpAny_pure h₁
  | some v =>
    refine wpAny_bind (wpAny_mono h₁ (fun _ s₁' h₁' => ?_) fun _ _ h' => h')
    refine wpAny_bind (wpAny_mono h₁' (fun _ s₂ h₂ => wpAny_bind (wpAny_mono h₂ (fun ok s₃ h₃ => ?_) fun _ _ h' => h')) fun _ _ h' => h')
    cases ok with
    | false => exact wpAny_pure ⟨rfl, h₃⟩
    | true =>
      exact wpAny_bind (wpAny_bind (wpAny_mono h₃ (fun x s₄ h₄ => wpAny_bind (wpAny_mono h₄ (fun _ s₅ h₅ => wpAny_pure (wpAny_pure ⟨rfl, h₅⟩)) fun _ _ h' => h')) fun _ _ h' => h'))
section
variable {X : Cx}
theorem comp_block {pins : List (Addr × Obj)} {σ : St} {H2 : Hp} {s2 : Shared} {it : Addr} {fp : List Addr} {tn : Nat → Heap → Prop} {J : It} {tg iter elt : Expr} {ifs : List Expr} {scope : Scope} {cl : List (Str × Addr)} {pos : Pos} {x : Str} {fs : List Str} {ix : List Nat} {g : TG} {tt : TT} {te : TE}
    {Qf : Addr → Hp → Prop} {E : Value → Shared → Prop} {RR : Value → Addr → Result → Shared → Prop}
    (I2 : Inv X pins σ H2 s2) (T : Turn X.prog X.w X.K tg J fp it tn) (st2 : tn 0 s2.heap) (f2 : ∀ b ∈ fp, FpOk X pins H2 b) (hc : X.calm = true) (S : CompSc scope X.env x fs)
    (c1 : ∀ n c, cl.lookup n = some c → X.env.cells.lookup n = some c) (c2 : ∀ n, (n, NameKind.free) ∈ scope.names → ∃ c, cl.lookup n = some c) (hix : ix.map (X.N[·]?) = fs.map some)
    (hg : ∀ C s₀ H₀ xe, PG (cxComp X scope cl C (x :: fs) s₀ H₀ fp xe) tg g) (hf : ∀ C s₀ H₀ xe, PF (cxComp X scope cl C (x :: fs) s₀ H₀ fp xe) ifs tt) (he : ∀ C s₀ H₀ xe, PE (cxComp X scope cl C (x :: fs) s₀ H₀ fp xe) elt te)
    (h : ∀ D, H2 D = none → Comp g tt te .mk J (none :: ix.map fun i => (σ[i]?).join) D (Qf D) H2)
    (fin : ∀ D C H' s', Inv X pins σ H' s' → Qf D H' → (∃ m, s'.heap.Ns C m) → FpOk X pins H' C → RR (.ref D) C (.ok .next) s') :
    wpAny (model X.prog X.w) X.A (newList []) (fun acc s₃ => wpAny (model X.prog X.w) X.A (newFunctionEnv scope X.env.globals cl [] X.env.qual none .none (some X.env)) (fun cenv s₄ =>
      codeAny (model X.prog X.w) X.A (.compStart (.ListComp elt [⟨tg, iter, ifs, 0⟩] scope pos) 0 (.ref it) acc { cenv with scope := relabel scope X.env }) (RR acc cenv.locals) s₄) E s₃) E s2 := by
  have hD : H2 s2.heap.objs.size = none := I2.hok.fresh (Nat.le_refl _)
  obtain ⟨W, ⟨m0, w0⟩, turn⟩ := h _ hD
  refine wpAny_newObj_type (wpAny_newFunctionEnv S.nocell (by intro y hy; simp at hy) (fun h₁ hns₁ hsb₁ => ?_) S.kind)
  have I3 : Inv X pins σ (upd H2 s2.heap.objs.size (.lst [])) { s2 with heap := s2.heap.push { cls := .type "list", dict := none, data := .seq ([] : List Value).toArray } } :=
    I2.laid (t' := s2.toks) (fun b u e => Heap.get?_push_of_some _ e) (Nat.le_refl _) ⟨by decide, [], 0, .nil, Heap.get?_push_size _ rfl⟩
  obtain ⟨e3, he3⟩ : ∃ s3 : Shared, s3 = { s2 with heap := s2.heap.push { cls := .type "list", dict := none, data := .seq ([] : List Value).toArray } } := ⟨_, rfl⟩
  rw [← he3] at I3
  have hh3 : s2.heap.push { cls := .type "list", dict := none, data := .seq ([] : List Value).toArray } = e3.heap := by rw [he3]
  have sz3 : e3.heap.objs.size = s2.heap.objs.size + 1 := by rw [← hh3, Heap.size_push]
  dsimp only at hns₁ hsb₁ ⊢
  rw [hh3] at hns₁ hsb₁ ⊢
  generalize hH3 : upd H2 s2.heap.objs.size (.lst []) = H3 at *
  have live : ∀ b ∈ fp, b < s2.heap.objs.size := fun b hb => let ⟨_, e, _⟩ := T.obj _ _ st2 b hb; Heap.lt_size e
  have f3 : ∀ b ∈ fp, FpOk X pins H3 b := fun b hb => by
    refine ⟨?_, (f2 b hb).2⟩
    rw [← hH3, upd_ne (Nat.ne_of_lt (live b hb))]
    exact (f2 b hb).1
  have C0 : FpOk X pins H3 e3.heap.objs.size := I3.fpOk (Nat.le_refl _) (I3.hok.fresh (Nat.le_refl _))
  have old3 : ∀ b o, e3.heap.get? b = some o → h₁.get? b = some o := fun b o e => hsb₁.extBut b o (Nat.ne_of_lt (Heap.lt_size e)) (Heap.get?_push_of_some _ e)
  have nofs : ∀ b ∈ fp, b ∉ frs X.stack := fun b hb z => (List.mem_cons.mp (I3.stkSub b z)).elim (f3 b hb).2.1 (f3 b hb).2.2.1
  have hst1 : tn 0 h₁ := T.keep _ _ _ st2 fun b _ o e => old3 b o (by rw [← hh3]; exact Heap.get?_push_of_some _ e)
  have e0 := I3.env0
  have ok : ∀ xe, (cxComp X scope cl e3.heap.objs.size (x :: fs) e3 H3 fp xe).Ok := fun xe => by
    refine ⟨I3.ok.mod, S.kind, I3.ok.glob, I3.ok.blt, Nat.le_refl _, fun y z c h1 h2 => I3.ok.inj y z c (c1 _ _ h1) (c1 _ _ h2), fun y hy => ?_, fun y c z => ?_, I3.ok.hd, I3.ok.frames, .inl rfl, fun b hb => ⟨?_, fun y c e => (f3 b hb).2.2.2.2.1 y c (c1 _ _ e)⟩, e0.bs, e0.bsz, fun b o e hb => ?_, nofs, e0.funs, e0.frf⟩
    · have q : scope.names.lookup y = some .free ∨ scope.names.lookup y = some .cell := by
        rcases hy with hy | hy
        · exact relabel_kind hy (.inl rfl)
        · exact relabel_kind hy (.inr rfl)
      rcases q with q | q
      · exact c2 y (PySem.mem_of_lookup q)
      · exact absurd rfl (S.nocell _ (PySem.mem_of_lookup q))
    · cases z
    · exact Nat.ne_of_lt (Nat.lt_of_lt_of_le (live b hb) (by rw [sz3]; exact Nat.le_succ _))
    · rcases (f3 b hb).2.2.2.1 with z | z
      · exact I3.ok.noex b o e z
      · exact absurd (Nat.lt_of_lt_of_le (Heap.lt_size e) (Nat.le_trans I3.ok.bsz z)) (Nat.lt_irrefl _)
  have cellUp : ∀ c v, e3.heap.IsCell c v → h₁.IsCell c v := fun c v ⟨o, ho, hd⟩ => ⟨o, old3 _ _ ho, hd⟩
  have J0 : ∀ xe, Inv (cxComp X scope cl e3.heap.objs.size (x :: fs) e3 H3 fp xe) [] (none :: ix.map fun i => (σ[i]?).join) H3 { e3 with heap := h₁, toks := e3.toks + ([] : List (Str × Value)).length } := fun xe => by
    have hk : ∀ b o, e3.heap.get? b = some o → h₁.get? b = some o := old3
    refine ⟨ok xe, rfl, I3.bare, Un.kept hk, ⟨_, hns₁, fun i y v h1 h2 h3 => ?_⟩, fun y c e => ?_, I3.hok.fresh (Nat.le_refl _), fun y c e => I3.freeC y c (c1 _ _ e), fun p hp => absurd (show p ∈ ([] : List (Addr × Obj)) from hp) (by simp), I3.hok.kept hk, ?_⟩
    · cases i with
      | zero => cases h2
      | succ i =>
        have h1 : fs[i]? = some y := h1
        have h2 : (ix.map fun i => (σ[i]?).join)[i]? = some (some v) := h2
        have hy := S.fs y (List.mem_of_getElem? h1)
        rw [List.getElem?_map] at h2
        cases ej : ix[i]? with
        | none => rw [ej] at h2; cases h2
        | some j =>
          rw [ej] at h2
          have h2 : (σ[j]?).join = some v := Option.some.inj h2
          have hσ : σ[j]? = some (some v) := by
            cases q : σ[j]? with
            | none => rw [q] at h2; cases h2
            | some o => rw [q] at h2; cases o with
              | none => cases h2
              | some o => cases h2; rfl
          have hN : X.N[j]? = some y := by
            have z := congrArg (·[i]?) hix
            simp only [List.getElem?_map, ej, h1, Option.map_some] at z
            exact Option.some.inj z
          have kf := S.fr _ (PySem.mem_of_lookup hy) rfl
          obtain ⟨m, hn, hl⟩ := I3.loc
          obtain ⟨u, r, l⟩ := hl j y v hN hσ (by rcases kf with k | k; exact .inr (.inl k); exact .inr (.inr k))
          refine ⟨u, r, .inr ⟨relabel_free hy, ?_⟩⟩
          rcases l with ⟨l, _⟩ | ⟨_, c, e, z⟩
          · rcases kf with k | k <;> (rw [l] at k; cases k)
          · obtain ⟨c', e'⟩ := c2 y (PySem.mem_of_lookup hy)
            have q := c1 _ _ e'
            rw [e] at q; cases q
            exact ⟨c, e', cellUp _ _ z⟩
    · obtain ⟨v, z⟩ := I3.cell y c (c1 _ _ e)
      exact ⟨v, cellUp _ _ z⟩
    · have z := congrArg List.length hix
      simp only [List.length_map] at z
      show (none :: _ : St).length = (x :: fs).length
      simp only [List.length_cons, List.length_map, z]
  have back : ∀ {xe σ' H' s'}, Inv (cxComp X scope cl e3.heap.objs.size (x :: fs) e3 H3 fp xe) [] σ' H' s' → Inv X pins σ H' s' := fun {xe σ' H' s'} J =>
    I3.call' (s' := s') (ch := fp) J.os J.base J.hok J.bare fun b hb => ⟨(f3 b hb).2.2.2.1, (f3 b hb).2.1, (f3 b hb).2.2.2.2.1, (f3 b hb).2.2.2.2.2⟩
  have stat : ∀ {xe} {H' : Hp}, (∀ b ∈ fp, H' b = none) → ∀ b ∈ fp, FpOk (cxComp X scope cl e3.heap.objs.size (x :: fs) e3 H3 fp xe) [] H' b := fun {xe H'} hn b hb =>
    ⟨hn b hb, Nat.ne_of_lt (Nat.lt_of_lt_of_le (live b hb) (by rw [sz3]; exact Nat.le_succ _)), nofs b hb, .inl hb, fun y c e => (f3 b hb).2.2.2.2.1 y c (c1 _ _ e), fun p hp => absurd (show p ∈ ([] : List (Addr × Obj)) from hp) (by simp)⟩
  have loop : ∀ s4 : Shared, s4 = { e3 with heap := h₁, toks := e3.toks + ([] : List (Str × Value)).length } →
      codeAny (model X.prog X.w) X.A (.compLoop (.ListComp elt [⟨tg, iter, ifs, 0⟩] scope pos) 0 (.ref it) (.ref s2.heap.objs.size) (compEnvC scope cl e3.heap.objs.size X.env)) (RR (.ref s2.heap.objs.size) e3.heap.objs.size) s4 := by
    rintro s4 rfl
    let xe := notedBy (model X.prog X.w) X.A (compEnvC scope cl e3.heap.objs.size X.env) fun e s' => RR (.ref s2.heap.objs.size) e3.heap.objs.size (.error e) s'
    refine compLoop_turn (fun n s' => ∃ i ys σ' H', Inv (cxComp X scope cl e3.heap.objs.size (x :: fs) e3 H3 fp xe) [] σ' H' s' ∧ tn i s'.heap ∧ (∀ b ∈ fp, H' b = none) ∧ W i n ys σ' H') ?_ m0 ⟨0, [], _, _, J0 xe, hst1, fun b hb => (f3 b hb).1, w0⟩
    rintro n s5 ⟨i, ys, σ5, H5, J5, st5, fr5, w5⟩
    rcases turn i n ys σ5 H5 w5 with ⟨stop, qn⟩ | ⟨go, N, hN, step⟩
    · refine thn (T.done (cxComp X scope cl e3.heap.objs.size (x :: fs) e3 H3 fp xe) rfl rfl rfl hc i [] s5 σ5 H5 xe J5 (stat fr5) st5 stop) fun r s6 ⟨hr, J6⟩ => ?_
      subst hr
      obtain ⟨m, hn, _⟩ := J6.loc
      exact fin _ _ H5 s6 (back J6) qn ⟨m, hn⟩ ⟨J6.free, C0.2⟩
    · refine thn (T.item (cxComp X scope cl e3.heap.objs.size (x :: fs) e3 H3 fp xe) rfl rfl rfl hc i [] s5 σ5 H5 xe J5 (stat fr5) st5 go) fun r s6 ⟨u, hr, h6⟩ => ?_
      subst hr
      refine thn h6 fun _ s7 ⟨y, H7, J7, r7, y7, st7, fr7⟩ => ?_
      have J7' := J7.pinned (stat fr7) (T.obj _ _ st7)
      refine thn (hg _ _ _ xe _ s7 σ5 H7 y u _ J7' r7 (step y H7 y7)) fun _ s8 ⟨σ8, H8, J8, q8⟩ => ?_
      refine thn (hf _ _ _ xe _ s8 σ8 H8 _ J8 q8) fun ok s8' ⟨H8', J8', q8'⟩ => ?_
      cases ok with
      | false =>
        obtain ⟨m', hm', w9⟩ := hN _ _ _ (by simpa using q8')
        refine ⟨m', hm', i + 1, ys, σ8, _, J8'.unpinned, T.keep _ _ _ st7 fun b hb o e => (J8'.pin (b, o) (List.mem_append_right _ (List.mem_append_right _ (mem_pinsAt hb e)))).1, fun b hb => ?_, w9⟩
        obtain ⟨o, e, d⟩ := T.obj _ _ st7 b hb
        exact (J8'.pin (b, o) (List.mem_append_right _ (List.mem_append_right _ (mem_pinsAt hb e)))).2.1
      | true =>
      rw [if_pos rfl] at q8' ⊢
      refine thn (he _ _ _ xe _ s8' σ8 H8' _ J8' q8') fun uv s9 ⟨v, H9, J9, r9, hD9, hl9, n9⟩ => ?_
      obtain ⟨m', hm', w9⟩ := hN _ _ _ n9
      refine thn (mt_append (X := cxComp X scope cl e3.heap.objs.size (x :: fs) e3 H3 fp xe) _ s9 σ8 H9 (.ref s2.heap.objs.size) [v] _ [uv] (fun _ H' => H' = upd H9 s2.heap.objs.size (.lst (ys ++ [v]))) J9 rfl (.cons r9 .nil) ⟨_, ys, v, rfl, rfl, hD9, hl9, rfl⟩) fun _ s10 ⟨_, H10, J10, _, eH⟩ => ?_
      subst eH
      refine ⟨m', hm', i + 1, ys ++ [v], σ8, _, J10.unpinned, T.keep _ _ _ st7 fun b hb o e => (J10.pin (b, o) (List.mem_append_right _ (List.mem_append_right _ (mem_pinsAt hb e)))).1, fun b hb => ?_, w9⟩
      obtain ⟨o, e, d⟩ := T.obj _ _ st7 b hb
      exact (J10.pin (b, o) (List.mem_append_right _ (List.mem_append_right _ (mem_pinsAt hb e)))).2.1
  subst he3
  exact codeAny_compStart_list (loop _ rfl) (T.self X.A 0 _ _ _ hst1 (loop _ rfl))
theorem CompSc.clos {pins : List (Addr × Obj)} {σ : St} {H : Hp} {s : Shared} {scope : Scope} {x : Str} {fs : List Str} (S : CompSc scope X.env x fs) (I : Inv X pins σ H s) :
    ∃ cl, closureFor scope X.env = pure cl ∧ (∀ n c, cl.lookup n = some c → X.env.cells.lookup n = some c) ∧ ∀ n, (n, NameKind.free) ∈ scope.names → ∃ c, cl.lookup n = some c :=
  closure_of fun n hn => I.ok.has n (S.fr _ hn rfl)
theorem pe_comp {tg iter elt : Expr} {ifs : List Expr} {scope : Scope} {pos : Pos} {x : Str} {fs : List Str} {ix : List Nat} {wi : TI} {g : TG} {tt : TT} {te : TE} (hc : X.calm = true) (hi : PI X tg iter wi) (hk : compChk scope X.env x fs = true) (hix : ix.map (X.N[·]?) = fs.map some)
    (hg : ∀ cl C s₀ H₀ fp xe, PG (cxComp X scope cl C (x :: fs) s₀ H₀ fp xe) tg g) (hf : ∀ cl C s₀ H₀ fp xe, PF (cxComp X scope cl C (x :: fs) s₀ H₀ fp xe) ifs tt) (he : ∀ cl C s₀ H₀ fp xe, PE (cxComp X scope cl C (x :: fs) s₀ H₀ fp xe) elt te) (hs : ∀ x, foldedSetIterable iter X.env x = pure x := by intro _; rfl) :
    PE X (.ListComp elt [⟨tg, iter, ifs, 0⟩] scope pos) (tComp wi ix g tt te .mk) := by
  intro pins s σ H Q I h
  have S := CompSc.of hk
  obtain ⟨cl, hcl, c1, c2⟩ := S.clos I
  rw [eval_ListComp]
  refine wpAny_comprehension_free (use := none) rfl hs hcl S.kind S.own (thn (hi pins s σ H _ I h) fun v s1 h1 => thn h1 fun itv s2 h2 => ?_)
  obtain ⟨it, fp, tn, J, H2, e, I2, T, st2, f2, q⟩ := h2
  subst e
  refine comp_block (RR := fun acc C => compPost (model X.prog X.w) X.A X.xe none (EP X pins σ Q) acc C) I2 T st2 f2 hc S c1 c2 hix (fun C s₀ H₀ xe => hg cl C s₀ H₀ fp xe) (fun C s₀ H₀ xe => hf cl C s₀ H₀ fp xe) (fun C s₀ H₀ xe => he cl C s₀ H₀ fp xe) q fun D C H' s' I' q' ⟨m, hn⟩ ⟨f0, f1, _, f3, f4, f5⟩ => ?_
  exact ⟨m, hn, fun h' hs' => ⟨.ref D, H', I'.turned (t' := s'.toks) (fun b o hb e => (hs'.2 b hb).trans e) f0 f1 f3 f4 f5, rfl, q'⟩⟩
theorem ps_setC {tg iter elt : Expr} {ifs : List Expr} {scope : Scope} {pos spos py : Pos} {x y : Str} {i : Nat} {fs : List Str} {ix : List Nat} {wi : TI} {g : TG} {tt : TT} {te : TE} (hN : X.N.Nodup) (hy : X.N[i]? = some y) (hl : X.env.kindOf y = some .local) (hc : X.calm = true) (hi : PI X tg iter wi)
    (hk : compChk scope X.env x fs = true) (hix : ix.map (X.N[·]?) = fs.map some)
    (hg : ∀ cl C s₀ H₀ fp xe, PG (cxComp X scope cl C (x :: fs) s₀ H₀ fp xe) tg g) (hf : ∀ cl C s₀ H₀ fp xe, PF (cxComp X scope cl C (x :: fs) s₀ H₀ fp xe) ifs tt) (he : ∀ cl C s₀ H₀ fp xe, PE (cxComp X scope cl C (x :: fs) s₀ H₀ fp xe) elt te)
    (hsw : swapsWith (.ListComp elt [⟨tg, iter, ifs, 0⟩] scope pos) (some (.Name y py)) spos.line X.env = pure true := by rfl) (hs : ∀ x, foldedSetIterable iter X.env x = pure x := by intro _; rfl) :
    PS X (.Assign [.Name y py] (.ListComp elt [⟨tg, iter, ifs, 0⟩] scope pos) spos) (tAsg (tComp wi ix g tt te .mk) (gName i)) := by
  intro pins s σ H D I h
  have S := CompSc.of hk
  obtain ⟨cl, hcl, c1, c2⟩ := S.clos I
  rw [exec_Assign_Name_used _ _ _ _ hsw]
  refine wpAny_bind (wpAny_standAt (wpAny_bind ?_))
  show wpAny _ X.A (do let _ ← comprehension (.ListComp elt [⟨tg, iter, ifs, 0⟩] scope pos) scope X.env _ (newList []) false (eval iter X.env) (some (assign (.Name y py) X.env))) _ _ s
  refine wpAny_bind (wpAny_mono (wpAny_comprehension_free (use := some (assign (.Name y py) X.env)) (Q := fun _ s' => SP X pins D .next s') rfl hs hcl S.kind S.own
    (thn (hi pins s σ H _ I h) fun v s1 h1 => thn h1 fun itv s2 h2 => ?_)) (fun _ s' hq => wpAny_pure (wpAny_pure hq)) fun _ _ e => e)
  obtain ⟨it, fp, tn, J, H2, e, I2, T, st2, f2, q⟩ := h2
  subst e
  refine comp_block (RR := fun acc C => compPost (model X.prog X.w) X.A X.xe (some (assign (.Name y py) X.env)) (fun _ s' => SP X pins D .next s') acc C) I2 T st2 f2 hc S c1 c2 hix (fun C s₀ H₀ xe => hg cl C s₀ H₀ fp xe) (fun C s₀ H₀ xe => hf cl C s₀ H₀ fp xe) (fun C s₀ H₀ xe => he cl C s₀ H₀ fp xe) q
    fun D' C H' s' I' q' ⟨m, hn⟩ ⟨f0, f1, _, f3, f4, f5⟩ => ?_
  show wpAny _ X.A (assign (.Name y py) X.env (.ref D')) _ _ _
  refine wpAny_assign_Name (store_ok2 (v := .ref D') I' hN hy (.inl hl) rfl (fun s'' I'' ⟨a, sb, ha⟩ => ?_) (.inr hl))
  have hne : C ≠ a := by
    rcases ha with ha | ha
    · rw [ha]; exact f1
    · exact fun z => f4 _ _ ha z.symm
  exact ⟨m, hn.sameBut sb hne, fun h' hs' => ⟨_, H', I''.turned (t' := s''.toks) (fun b o hb e => (hs'.2 b hb).trans e) f0 f1 f3 f4 f5, q'⟩⟩
end
end L2
namespace L2
open PySem PySem.Spec PyProof.Rows
section
variable {X : Cx} {pins : List (Addr × Obj)} {σ : List (Option V)} {H H' : Hp} {s : Shared} {h' : Heap}
theorem Inv.turnedL {t' : Nat} {ch : List Addr} (I : Inv X pins σ H s) (k : ∀ b o, b ∉ ch → s.heap.get? b = some o → h'.get? b = some o) (hf : ∀ b ∈ ch, FpOk X pins H b) : Inv X pins σ H { s with heap := h', toks := t' } := by
  have nit : ∀ b u, H b = some u → b ∉ ch := fun b u e z => by rw [(hf b z).1] at e; cases e
  refine I.step (g' := s.gens) (d' := s.drawn) (ch := ch) (fun b hb => ⟨(hf b hb).2.2.2.1, (hf b hb).2.1, (hf b hb).2.2.2.2.1, (hf b hb).2.2.2.2.2⟩) (fun b o _ _ hc e _ => k b o hc e) (fun b o _ _ hc e _ => ⟨o.slots, k b o hc e⟩) (fun _ _ _ _ n => n)
    (fun b o hc e => ⟨o, k b o hc e⟩) (fun _ _ e => e) (fun _ _ _ e => e) (fun b ps e => ⟨#[], by rw [e]; simp⟩) (fun m hm => ?_) (fun b u e => ?_) I.bare
  · obtain ⟨o, es, ep, ho, r⟩ := hm
    exact ⟨o, es, ep, k _ o (fun z => (hf _ z).2.1 rfl) ho, r⟩
  · refine (I.hok b u e).stay (fun c v hc q => k c v ?_ q) (fun _ q => q) fun _ _ q => q
    rcases hc with z | z
    · rw [z]; exact nit b u e
    · exact nit c _ z
end
def Ite (K : PySem.W.Frag) (a : Addr) : It :=
  ⟨fun i H => ∃ xs x, SqL K H a xs ∧ xs[i]? = some x, fun i H v H' => ∃ t x, v = .ref t ∧ H t = none ∧ H' = upd H t (.tup [.int i, x]) ∧ ∀ xs, SqL K H a xs → xs[i]? = some x, fun i H => ∃ xs, SqL K H a xs ∧ xs.length ≤ i⟩
theorem turn_enum {P : Program} {w : World} {K : PySem.W.Frag} {elts : List Expr} {x1} {pos : Pos} (a e it : Addr) (hne : e ≠ it) :
    Turn P w K (.Tuple elts x1 pos) (Ite K a) [e, it] e (fun i h => (∃ old, IsEnum h e it i old) ∧ h.IsListIter it a i) where
  mem := by simp
  obj := fun i h st b hb => by
    obtain ⟨⟨old, he⟩, o, ho, c, d⟩ := st
    have hb : b = e ∨ b = it := by simpa using hb
    rcases hb with rfl | rfl
    · exact ⟨_, he, fun v z => by
        have z' : Data.fields _ = Data.cell v := z
        cases z'⟩
    · exact ⟨o, ho, fun v z => by rw [d] at z; cases z⟩
  keep := fun i h h' st k => ⟨let ⟨old, he⟩ := st.1; ⟨old, k e (by simp) _ he⟩, st.2.at fun o q => k it (by simp) o q⟩
  item := by
    intro X hP hw hK hc i pins s σ H E I hf st hg
    subst hP hw hK
    obtain ⟨xs, x, hq, hx⟩ := hg
    obtain ⟨its, rv, p, hz⟩ := I.list hq
    obtain ⟨u, hu, ru⟩ := rv.get hx
    obtain ⟨⟨old, he⟩, hit⟩ := st
    refine wpAny_pyNext_enum_item he hit p.isList (x := u) (by simpa using hu) hne fun h1 eo hit1 ht hsz kk => ?_
    refine ⟨_, rfl, wpAny_letOwnedTupleGo_enum eo fun h2 en sb => ?_⟩
    have hT : H s.heap.objs.size = none := I.hok.fresh (Nat.le_refl _)
    have hef : e ≠ s.heap.objs.size := Nat.ne_of_lt (Heap.lt_size he)
    have hif : it ≠ s.heap.objs.size := Nat.ne_of_lt (let ⟨_, ho, _⟩ := hit; Heap.lt_size ho)
    have ht2 : h2.get? s.heap.objs.size = some { cls := .type "tuple", data := .seq #[.int i s.toks, u] } := (sb.2 _ (Ne.symm hef)).trans ht
    have I1 : Inv X pins σ (upd H s.heap.objs.size (.tup [.int i, x])) { s with heap := s.heap.push { cls := .type "tuple", data := .seq #[.int i s.toks, u] } } :=
      I.laid (t' := s.toks) (fun b o q => Heap.get?_push_of_some _ q) (Nat.le_refl _) ⟨by show 2 ≤ sizeLine; decide, [.int i s.toks, u], .cons ⟨_, rfl⟩ (.cons ru .nil), ⟨_, Heap.get?_push_size _ rfl, rfl, _, rfl⟩⟩
    have hf1 : ∀ b ∈ [e, it], FpOk X pins (upd H s.heap.objs.size (.tup [.int i, x])) b := fun b hb => by
      refine ⟨?_, (hf b hb).2⟩
      have hb' : b = e ∨ b = it := by simpa using hb
      rw [upd_ne (by rcases hb' with rfl | rfl; exact hef; exact hif)]
      exact (hf b hb).1
    have I2 : Inv X pins σ (upd H s.heap.objs.size (.tup [.int i, x])) { s with heap := h2, toks := s.toks + 1 } := by
      have J := Inv.turnedL (t' := s.toks + 1) (h' := h2) (ch := [e, it]) I1 ?k hf1
      · exact J
      intro b o hb q
      dsimp only at q
      have hb1 : b ≠ e := fun z => hb (by simp [z])
      have hb2 : b ≠ it := fun z => hb (by simp [z])
      rcases PySem.Heap.get?_push_cases q with ⟨rfl, rfl⟩ | q
      · exact ht2
      · exact (sb.2 b hb1).trans (kk b o hb1 hb2 q)
    refine ⟨.ref s.heap.objs.size, _, I2, rfl, ⟨_, x, rfl, hT, rfl, fun ys hy => by rw [I.list_inj hy hq]; exact hx⟩, ⟨⟨_, en⟩, hit1.extBut sb.extBut (Ne.symm hne)⟩, fun b hb => (hf1 b hb).1⟩
  done := by
    intro X hP hw hK hc i pins s σ H E I hf st hg
    subst hP hw hK
    obtain ⟨xs, hq, hx⟩ := hg
    obtain ⟨its, rv, p, hz⟩ := I.list hq
    obtain ⟨⟨old, he⟩, hit⟩ := st
    obtain ⟨f0, f1, f2, f3, f4, f5⟩ := hf it (by simp)
    have hl := rv.length
    exact wpAny_pyNext_enum_end (I.ok.hd hc) he hit p.isList (by simp; omega) fun h' eb => ⟨rfl, I.turned (t' := s.toks) (fun b o hb e => eb b o hb e) f0 f1 f3 f4 f5⟩
  self := fun _ _ _ _ _ st h => let ⟨_, he⟩ := st.1; wpAny_pyIter_enum he h
section
variable {X : Cx}
def iEnum (K : PySem.W.Frag) (ta : TA) : TI := fun σ H R => ta σ H fun vs H1 => ∃ a, vs = [.ref a] ∧ (∃ xs, SqL K H1 a xs) ∧ R (Ite K a) H1
theorem boot_enum : bootBuiltins "enumerate" = some (.type "enumerate") := by decide +kernel
theorem pi_enum {e : Expr} {ta : TA} {p pos tpos : Pos} {elts : List Expr} {x1} (hg : Gl X "enumerate") (hm : X.mg "enumerate" = none) (ha : PA X [e] ta) (hs : starEach [e] X.env = [(false, eval e X.env)] := by rfl) :
    PI X (.Tuple elts x1 tpos) (.Call (.Name "enumerate" p) [e] [] pos) (iEnum X.K ta) := by
  intro pins s σ H R I h
  refine Call_ (ld_blt I hg hm boot_enum (PyProof.Rows.callWith_type1 (thn (ha pos pins s σ H _ I h) fun us s1 ⟨vs, H1, I1, r1, q1⟩ => ?_) hs rfl))
  obtain ⟨a, ev, ⟨xs, hq⟩, q⟩ := q1
  subst ev
  cases r1 with
  | cons r rr =>
    cases rr
    cases r
    obtain ⟨its, rv, pl, hz⟩ := I1.list hq
    refine call_enumerate_list pl.isList fun h' he hit hsz kk => wpAny_pyIter_enum he ?_
    have I2 : Inv X pins σ H1 { s1 with heap := h' } := I1.kept (t' := s1.toks) kk
    refine ⟨s1.heap.objs.size + 1, [s1.heap.objs.size + 1, s1.heap.objs.size], _, _, H1, rfl, I2, turn_enum a _ _ (Nat.ne_of_gt (Nat.lt_succ_self _)), ⟨⟨_, he⟩, hit⟩, fun b hb => ?_, q⟩
    have hb : b = s1.heap.objs.size + 1 ∨ b = s1.heap.objs.size := by simpa using hb
    have hle : s1.heap.objs.size ≤ b := by rcases hb with rfl | rfl; exact Nat.le_succ _; exact Nat.le_refl _
    exact I1.fpOk hle (I1.hok.fresh hle)
end
theorem loop_enum {K : PySem.W.Frag} {a : Addr} {xs : List V} {g : TG} {tb : TS} {h : HidF g tb} {D : Ends} {σ : St} {H : Hp} (Pv : Nat → St → Hp → Prop) (h0 : Pv 0 σ H) (hl : ∀ i σ H, i ≤ xs.length → Pv i σ H → SqL K H a xs)
    (hs : ∀ i x t σ H, xs[i]? = some x → Pv i σ H → H t = none → g (.ref t) σ (upd H t (.tup [.int i, x])) fun σ2 H2 => tb { D with nx := Pv (i + 1), ct := Pv (i + 1), bk := D.nx } σ2 H2) (hd : ∀ σ H, Pv xs.length σ H → D.nx σ H) : Loop g tb h (Ite K a) D σ H := by
  refine ⟨fun i m σ H => i + m = xs.length ∧ Pv i σ H, ⟨xs.length, Nat.zero_add _, h0⟩, fun i m σ H ⟨e, p⟩ => ?_⟩
  have hq := hl i σ H (by omega) p
  by_cases hi : i < xs.length
  · have ex : xs[i]? = some xs[i] := List.getElem?_eq_getElem hi
    refine .inr ⟨⟨xs, _, hq, ex⟩, Pv (i + 1), fun σ H q => ⟨m - 1, by omega, by omega, q⟩, ?_⟩
    rintro y H' ⟨t, x, rfl, ht, rfl, hy⟩
    exact hs i x t σ H (hy xs hq) p ht
  · have e' : i = xs.length := by omega
    subst e'
    exact .inl ⟨⟨xs, hq, Nat.le_refl _⟩, hd σ H p⟩
end L2
namespace L2
open PySem PySem.Spec PyProof.Rows
section
variable {X : Cx} {pins : List (Addr × Obj)} {σ : St} {H : Hp} {s : Shared} {a : Addr} {kvs : List (Key × V)} {k : Key} {u r : Value} {z : V} {A : Around} {E : Value → Shared → Prop}
end
section
variable {X : Cx} {o e f : Expr} {apos cpos : Pos} {td ty tx : TE}
end
inductive HidW (c : TT) (tb : TS) : Type where
  | mk : HidW c tb
inductive HidB (tb : TS) : Type where
  | mk : HidB tb
def LoopW (c : TT) (tb : TS) (_ : HidW c tb) : TS := tWhile c tb
def TurnW (tb : TS) (_ : HidB tb) (Pv : Nat → St → Hp → Prop) (m : Nat) (D : Ends) (σ : St) (H : Hp) : Prop :=
  ∃ N : St → Hp → Prop, (∀ σ' H', N σ' H' → ∃ m', m' < m ∧ Pv m' σ' H') ∧ tb { D with nx := N, ct := N, bk := D.nx } σ H
theorem ps_whileE {X : Cx} {c : Expr} {body : List Stmt} {tc : TT} {tb : TS} {pos : Pos} (hp : PassesOwn (model X.prog X.w) X.A X.env X.xe) (hc : PT X c tc) (hb : PSs X body tb) : PS X (.While c body [] pos) (LoopW tc tb .mk) := ps_while hp hc hb
theorem loop_while {c : TT} {tb : TS} {h : HidW c tb} {D : Ends} {σ : St} {H : Hp} (Pv : Nat → St → Hp → Prop) (m0 : Nat) (h0 : Pv m0 σ H)
    (hs : ∀ m σ H, Pv m σ H → c σ H fun b H1 => if b = true then TurnW tb .mk Pv m D σ H1 else D.nx σ H1) : LoopW c tb h D σ H := ⟨Pv, ⟨m0, h0⟩, hs⟩
theorem turnW {tb : TS} {h : HidB tb} {Pv : Nat → St → Hp → Prop} {m : Nat} {D : Ends} {σ : St} {H : Hp}
    (q : tb { D with nx := fun σ' H' => ∃ m', m' < m ∧ Pv m' σ' H', ct := fun σ' H' => ∃ m', m' < m ∧ Pv m' σ' H', bk := D.nx } σ H) : TurnW tb h Pv m D σ H := ⟨_, fun _ _ h => h, q⟩
end L2
namespace L2
open PySem PySem.Spec PyProof.Rows
section
variable {X : Cx} {pins : List (Addr × Obj)} {σ : List (Option V)} {H : Hp} {s : Shared} {a : Addr}
end
end L2
namespace L2
open PySem PySem.Spec PyProof.Rows
end L2
namespace L2
open PySem PySem.Spec PyProof.Rows
end L2
namespace L2
open PySem PySem.Spec PyProof.Rows
end L2
namespace L2
open PySem PySem.Spec PyProof.Rows
theorem ix_listC {X : Cx} {K : PySem.W.Frag} (h : X.K = K) : IxR X (rIxL K) := h ▸ ix_list
end L2
namespace L2
open PySem PySem.Spec PyProof.Rows
structure FunD (K : PySem.W.Frag) (x qual : Str) (st : Stmt) (f : Addr) (fd : FuncData) : Prop where
  ex : ∃ (oc : Value) (od : Option Addr) (dV kV doc pm : Value) (an : Option Addr) (cdv ct : Value) (osl : Array (Option Value)),
    fd = PySem.W.fnOf x qual (defArgs st) (defBody st) (defScope st) dV kV doc pm an cdv ct ∧ K.lookup f = some ⟨oc, od, .func fd, osl⟩ ∧ PySem.W.codeIn K cdv qual = true
  kp : PySem.W.keepIn K (.ref f) = true
section
variable {P : Program} {w : World} {K : PySem.W.Frag} {mg : Str → Option Value} {base : Heap}
theorem FunD.okE {x qual : Str} {st : Stmt} {f : Addr} {fd : FuncData} {N ps : List Str} {k : Nat} {sp : Sp} (F : FunD K x qual st f fd) (S : FnScope N ps (defScope st)) (len : ∀ vs H Q E, sp vs H Q E → vs.length = ps.length)
    (hbody : Body P w K mg base qual st N k sp) : FnOk P w K mg base (CXe P w) (k + 1) f fd ps sp := by
  obtain ⟨oc, od, dV, kV, doc, pm, an, cdv, ct, osl, rfl, lk, hcd⟩ := F.ex
  exact fn_of lk hcd S len fun A outer s H vs Q E hr hsp => hbody f cdv A outer s H vs Q E hr hsp
def RawMD (K : PySem.W.Frag) (C : Addr) (m qual : Str) (st : Stmt) (ps : List Str) (dvs : List V) : Prop := ∃ f fd ds, Meth K C m f ∧ FunD K m qual st f fd ∧ Binds K fd ps ds ∧ Vals dvs ds
def RawID (K : PySem.W.Frag) (mg : Str → Option Value) (x : Str) (C : Addr) (qual : Str) (st : Stmt) (ps : List Str) (dvs : List V) : Prop := ∃ f fd ds, mg x = some (.ref C) ∧ Mk K C f ∧ FunD K "__init__" qual st f fd ∧ Binds K fd ps ds ∧ Vals dvs ds
theorem RawMD.have {C : Addr} {m qual : Str} {st : Stmt} {N ps : List Str} {dvs : List V} {k : Nat} {sp : Sp} (R : RawMD K C m qual st ps dvs) (S : FnScope N ps (defScope st)) (len : ∀ vs H Q E, sp vs H Q E → vs.length = ps.length)
    (hbody : Body P w K mg base qual st N k sp) : HaveM P w K mg base C m (k + 1) ps dvs sp :=
  let ⟨f, fd, ds, hm, F, hb, hd⟩ := R
  ⟨f, fd, ds, hm, hb, hd, F.okE S len hbody⟩
theorem RawID.have {C : Addr} {x qual : Str} {st : Stmt} {N ps : List Str} {dvs : List V} {k : Nat} {sp : Sp} (R : RawID K mg x C qual st ps dvs) (S : FnScope N ps (defScope st)) (len : ∀ vs H Q E, sp vs H Q E → vs.length = ps.length)
    (hbody : Body P w K mg base qual st N k sp) : HaveI P w K mg base x C (k + 1) ps dvs sp :=
  let ⟨f, fd, ds, hm, M, F, hb, hd⟩ := R
  ⟨f, fd, ds, hm, M, hb, hd, F.okE S len hbody⟩
end
end L2
namespace L2
open PySem PySem.Spec PyProof.Rows
end L2
namespace L2
open PySem PySem.Spec PyProof.Rows
end L2
namespace L2
open PySem PySem.Spec PyProof.Rows
def rIx2 (K : PySem.W.Frag) : R2 := fun x y H Q => rIxL K x y H Q ∨ rIxT K x y H Q
theorem ix_two {X : Cx} : IxR X (rIx2 X.K) := ix_list.or ix_tup
section
variable {X : Cx}
end
def rIndex (K : PySem.W.Frag) : V → List V → Hp → VK → Prop := fun x vs H Q => ∃ l xs y j, x = .ref l ∧ vs = [y] ∧ SqL K H l xs ∧ flatV y = true ∧ xs.all flatV = true ∧ xs.findIdx? (fun z => eqV z y) = some j ∧ Q (.int j) H
theorem Vals.at {xs : List V} {us : List Value} (r : Vals xs us) (m : Nat) (h1 : m < xs.length) (h2 : m < us.length) : RelV xs[m] us[m] := by
  obtain ⟨u, hu, ru⟩ := r.get (List.getElem?_eq_getElem h1)
  rw [List.getElem?_eq_getElem h2] at hu
  cases hu
  exact ru
theorem mt_index {X : Cx} : MtR X "list.index" (rIndex X.K) := by
  intro pins s σ H x vs v us Q I rx rv h
  obtain ⟨l, xs, y, j, rfl, rfl, hq, fy, fs, hj, q⟩ := h
  cases rx
  obtain ⟨u, rfl, ru⟩ := rv.one
  obtain ⟨its, r, pl, hz⟩ := I.list hq
  obtain ⟨⟨cls, dd, data, sl⟩, ho, hc, n, hd⟩ := pl.isList
  simp only at hc hd
  subst hc hd
  obtain ⟨hjl, hit, hno⟩ := List.findIdx?_eq_some_iff_getElem.mp hj
  have hl := r.length
  have eqx : ∀ m (h1 : m < xs.length) (h2 : m < its.length), eqU y its[m] = eqV xs[m] y := fun m h1 h2 => eqU_of (r.at m h1 h2) (List.all_eq_true.mp fs _ (List.getElem_mem h1))
  refine call_meets F.slot_list_index ⟨_, ho, rfl⟩ F.entry_list_index (F.args_list_index_2 _ _) (SeqAt.list_indexAt l its.toArray n dd sl u (eqU y) j (by simp; omega) (by have := line63; omega) ?_ ?_) ⟨ho, fun w hw => mem_eqAt ru fy r fs w (by simpa using hw), ⟨.int j, H, I.tok _, ⟨_, rfl⟩, q⟩⟩
  · simp only [List.getElem_toArray]
    rw [eqx j hjl (by omega)]
    exact hit
  · intro m hm hmj
    simp only [List.size_toArray] at hm
    simp only [List.getElem_toArray]
    rw [eqx m (by omega) hm]
    simpa using hno m hmj
end L2
namespace L2
open PySem PySem.Spec PyProof.Rows
theorem meets_lenE {prog : Program} {w : World} {d : Addr} (hd : (d == sysModules) = false) : MeetsIn prog w (Builtin.«dict.__len__» ⟨[.ref d], []⟩) (fun _ R s => ∃ o es ep, s.heap.get? d = some o ∧ o.data = .dict es ep ∧ R (.ok (.ret (.int es.size s.toks))) { s with toks := s.toks + 1 }) :=
  .of_wp fun A R s ⟨o, es, ep, ho, hdat, h⟩ => by
    show wpAny _ _ (dictSize d >>= _) _ _ s
    unfold dictSize
    refine wpAny_bind (wpAny_bind (wpAny_dictEntries ho hdat (wpAny_pure ?_)))
    show wpAny _ _ (Builtin.Dict.pendingCount d >>= _) _ _ s
    refine wpAny_bind (wpAny_pendingCount_other hd ?_)
    refine wpAny_ret_mkInt ?_
    rw [Nat.add_zero]; exact h
theorem call_lenE {prog : Program} {w : World} {A : Around} {E : Value → Shared → Prop} {s : Shared} {d : Addr} {o : Obj} {es : Array DictEntry} {ep : Nat} {Q : Value → Shared → Prop} (hd : (d == sysModules) = false) (ho : s.heap.get? d = some o) (hc : o.cls = .type "dict") (hdat : o.data = .dict es ep) (hfit : (es.size : Int) < 2 ^ 63)
    (h : Q (.int es.size (s.toks + 1)) { s with toks := s.toks + 1 + 1 }) : wpAny (model prog w) A (call (.builtin "len") [.ref d]) Q E s := by
  have hT : s.TypeIs (.ref d) "dict" := ⟨o, ho, hc⟩
  refine Calls.call_function_entry kind_len plain_len entry_len (args_len1 _) ?_
  unfold Builtin.«len»
  refine wpAny_bind (m := oneArg "len" _) (wpAny_pure ?_)
  refine wpAny_bind (m := callSpecial? (.ref d) (Str.ofString "__len__")) (wpAny_callSpecial?_slot (name := Str.ofString "__len__") hT F.slot_dict_len
    (call_meetsIn F.slot_dict_len hT F.entry_dict_len (F.args_dict_len_1 _) (meets_lenE hd) ⟨o, es, ep, ho, hdat, ?_⟩))
  show wpAny _ _ _ _ _ { s with toks := s.toks + 1 }
  refine wpAny_bind (wpAny_holding (wpAny_pure ?_))
  refine wpAny_bind (wpAny_letGo ?_)
  show wpAny _ _ (if ((es.size : Nat) : Int) < 0 then _ else _) _ _ _
  rw [if_neg (by omega)]
  show wpAny _ _ (if ((es.size : Nat) : Int) ≥ 2 ^ 63 then _ else _) _ _ _
  rw [if_neg (by omega)]
  exact wpAny_bind (wpAny_mkInt (wpAny_pure ⟨_, rfl, h⟩))
theorem call_lenDT {X : Cx} : CallR X (.builtin "len") (fun xs H Q => ∃ a kvs, xs = [V.ref a] ∧ H a = some (.dT kvs) ∧ Q (.int kvs.length) H) := by
  intro pins s σ H xs us Q I r h
  obtain ⟨a, kvs, rfl, ha, q⟩ := h
  obtain ⟨u, rfl, ru⟩ := vals1 r
  cases ru
  obtain ⟨z, hd, xs, rel, o, es, ep, ho, hc, hdat, he, _⟩ := dt_of I.hok ha
  have hs : es.size = kvs.length := by
    have e1 : es.size = xs.length := by rw [← Array.length_toList, he, List.length_map]
    rw [e1, ← rel.length]
  refine call_lenE hd ho hc.1 hdat (by rw [sizeLine_eq] at z; omega) ?_
  rw [hs]
  exact ⟨.int kvs.length, H, I.tok _, ⟨_, rfl⟩, q⟩
end L2
namespace L2
open PySem PySem.Spec PyProof.Rows
theorem map_erase {α β : Type} {f : α → β} : ∀ {l : List α} {j : Nat}, (l.map f).eraseIdx j = (l.eraseIdx j).map f
  | [], _ => rfl
  | _ :: _, 0 => rfl
  | x :: l, j + 1 => congrArg (f x :: ·) (map_erase (l := l) (j := j))
section
variable {prog : Program} {w : World} {K : Type} [DecidableEq K] {knd : HeapKind prog w K} {A : Around} {E : Value → Shared → Prop} {s : Shared}
theorem takeOut_heap {d a : Addr} {xs : List (K × Addr × Value)} {k : K} {j : Nat} {p : Addr × Value} {Q : Option DictEntry → Shared → Prop} (hu : knd.room A) (hkey : knd.is s.heap k a) (hm : s.heap.DictOfH knd d xs) (hj : xs[j]? = some (k, p)) (hsz : xs.length ≤ sizeLine)
    (hQ : ∀ e h', e.val = p.2 → h'.DictOfH knd d (xs.eraseIdx j) → Heap.SameBut d s.heap h' → Q (some e) { s with heap := h', toks := s.toks + knd.draws k }) : wpAny (model prog w) A (Builtin.Dict.takeOut d (.ref a)) Q E s := by
  obtain ⟨o, es, ep, ho, hc, hd, he, his, hn⟩ := hm
  have hes := size_of_entries he
  unfold Builtin.Dict.takeOut
  try with_reducible refine wpAny_holding ?_
  refine wpAny_bind (knd.pyHash hu hkey ?_)
  refine wpAny_bind (wpAny_dictFind_heap (s := { s with toks := s.toks + knd.draws k }) hu hkey ho hd he his hn (fun hno => absurd hj (hno j p)) fun j' p' hj' => ?_)
  have ej : j' = j := idxH_unique hn hj' hj
  subst ej
  refine wpAny_bind (wpAny_dictEntries (s := { s with toks := s.toks + knd.draws k }) ho hd ?_)
  have ee : es[j']? = some (entryOfKey knd (k, p)) := by rw [entry_at he, hj]; rfl
  rw [ee]
  refine wpAny_bind (wpAny_updateDictKeys (hz := by omega) (s := { s with toks := s.toks + knd.draws k }) ho hd (wpAny_pure (hQ (entryOfKey knd (k, p)) _ rfl ⟨_, _, ep + 1, Heap.get?_update_self _ ho (Obj.isFreed_of_dict (Obj.data_mapDictKeys hd _)), hc.mapDictKeys _, Obj.data_mapDictKeys hd _, ?_, ?_, ?_⟩ (Heap.SameBut.update ..))))
  · have hlt : j' < es.size := by rw [hes]; exact (List.getElem?_eq_some_iff.mp hj).1
    simp [Array.eraseIdxIfInBounds, hlt, he, map_erase]
  · intro x hx
    exact knd.keeps (his x ((List.eraseIdx_sublist ..).subset hx)) ho hd (Heap.SameBut.update ..)
  · exact hn.sublist ((List.eraseIdx_sublist ..).map _)
theorem meets_popH {d a : Addr} : MeetsIn prog w (Builtin.«dict.pop» ⟨[.ref d, .ref a], []⟩) (fun A R s => knd.room A.in1 ∧ ∃ k xs j p, knd.is s.heap k a ∧ s.heap.DictOfH knd d xs ∧ xs.length ≤ sizeLine ∧ xs[j]? = some (k, p) ∧
      ∀ h', h'.DictOfH knd d (xs.eraseIdx j) → Heap.SameBut d s.heap h' → R (.ok (.ret p.2)) { s with heap := h', toks := s.toks + knd.draws k }) :=
  .of_wp fun A R s ⟨hu, k, xs, j, p, hkey, hm, hsz, hj, h⟩ => by
    unfold Builtin.«dict.pop»
    refine wpAny_bind ?_
    unfold Builtin.Dict.keyAndDefault
    refine wpAny_bind (wpAny_notOrdered_dict hm.typeIs ?_)
    show wpAny _ _ (pure (d, Value.ref a, none)) _ _ s
    refine wpAny_pure ?_
    obtain ⟨o, es, ep, ho, hc, hd, he, his, hn⟩ := id hm
    have hes := size_of_entries he
    have hne : es.isEmpty = false := by
      have hlt := (List.getElem?_eq_some_iff.mp hj).1
      cases hE : es.isEmpty with
      | false => rfl
      | true =>
        rw [Array.isEmpty_iff.mp hE] at hes
        have h0 : xs.length = 0 := by simpa using hes.symm
        omega
    have hk : (keyPart (.ref a)).isSome = false := rfl
    simp only [hk, Bool.false_eq_true, if_false]
    refine wpAny_bind (wpAny_dictEntries ho hd ?_)
    refine wpAny_bind (wpAny_pure ?_)
    rw [hne]
    simp only [Bool.false_eq_true, if_false]
    refine wpAny_bind (takeOut_heap hu hkey hm hj hsz fun e h' ev hm' hs' => ?_)
    simp only [Option.isNone_some, Bool.false_eq_true, if_false]
    exact wpAny_bind (wpAny_letGo (wpAny_pure ⟨e.val, rfl, by rw [ev]; exact h h' hm' hs'⟩))
end
theorem KT.erase {H : Hp} : ∀ {kvs : List (List Key × V)} {xs : List (List Key × Addr × Value)} (j : Nat), KT H kvs xs → KT H (kvs.eraseIdx j) (xs.eraseIdx j)
  | _, _, _, .nil => .nil
  | _, _, 0, .cons _ t => t
  | _, _, j + 1, .cons r t => .cons r (KT.erase j t)
theorem KT.find {H : Hp} {k : List Key} {v : V} : ∀ {kvs : List (List Key × V)} {xs : List (List Key × Addr × Value)}, KT H kvs xs → (xs.map (·.1)).Nodup → valV kvs k = some v → ∃ (j : Nat) (p : Addr × Value), xs[j]? = some (k, p) ∧ RelV v p.2 ∧ dropK kvs k = kvs.eraseIdx j
  | _, _, .nil, _, h => by cases h
  | kv :: kvs, x :: xs, .cons r t, hn, h => by
    obtain ⟨h1, h2⟩ := List.nodup_cons.mp hn
    by_cases c : kv.1 = k
    · rw [valV_pos c] at h
      refine ⟨0, x.2, ?_, ?_, ?_⟩
      · show some x = some (k, x.2)
        rw [← c, r.1]
      · cases h; exact r.2.2
      · have hk : ∀ y ∈ kvs, y.1 ≠ k := fun y hy e => by
          have hx : k ∈ xs.map (·.1) := by
            have : xs.map (·.1) = kvs.map (·.1) := by
              have aux : ∀ {a : List (List Key × V)} {b : List (List Key × Addr × Value)}, KT H a b → b.map (·.1) = a.map (·.1) := fun q => by
                induction q with
                | nil => rfl
                | cons r _ ih => rw [List.map_cons, List.map_cons, ih, r.1]
              exact aux t
            rw [this]
            exact List.mem_map.mpr ⟨y, hy, e⟩
          exact h1 (by show x.1 ∈ _; rw [← r.1, c]; exact hx)
        show (kv :: kvs).filter _ = kvs
        rw [List.filter_cons, if_neg (by simp [c]), List.filter_eq_self.mpr fun y hy => by simpa using hk y hy]
    · rw [valV_neg c] at h
      obtain ⟨j, p, e1, e2, e3⟩ := KT.find t h2 h
      refine ⟨j + 1, p, by simpa using e1, e2, ?_⟩
      show (kv :: kvs).filter _ = kv :: kvs.eraseIdx j
      rw [List.filter_cons, if_pos (by simp [c]), ← e3]
      rfl
theorem d_popT {X : Cx} {pins : List (Addr × Obj)} {σ : St} {H : Hp} {s : Shared} {a b : Addr} {kvs : List (List Key × V)} {k : List Key} {A : Around} {E : Value → Shared → Prop} {v : V} {Q : Value → Shared → Prop} (hu : A.units + 1 < cLine) (I : Inv X pins σ H s) (e : H a = some (.dT kvs)) (eb : H b = some (.tup (k.map kV))) (l : valV kvs k = some v)
    (h : ∀ w' s', Inv X pins σ (upd H a (.dT (dropK kvs k))) s' → RelV v w' → Q w' s') : wpAny (model X.prog X.w) A (call (.builtin "dict.pop") [.ref a, .ref b]) Q E s := by
  obtain ⟨z, hd, xs, rel, dd⟩ := dt_of I.hok e
  have hz : xs.length ≤ sizeLine := by rw [← Paired.length rel]; exact z
  have hn : (xs.map (·.1)).Nodup := let ⟨_, _, _, _, _, _, _, _, q⟩ := dd; q
  obtain ⟨j, p, hj, rv, ed⟩ := KT.find rel hn l
  refine call_meetsIn PySem.F.slot_dict_pop dd.typeIs PySem.F.entry_dict_pop (PySem.F.args_dict_pop_2 _ _) (meets_popH (knd := tupleKind (mixKind X.prog X.w))) ⟨tupleKind_room_in1 hu, k, xs, j, p, key_of I.hok eb, dd, hz, hj, fun h' dd' hs => h _ _ ?_ rv⟩
  obtain ⟨q, es, ep, hq, h2, h3, h4, _, h5⟩ := dd'
  refine d_write I (by rw [e]; exact True.intro) hs ⟨q, hq⟩ ⟨?_, hd, _, KT.keeps (ed ▸ KT.erase j rel) fun c ys ec => ?_, q, es, ep, hq, h2, h3, h4, h5⟩
  · exact Nat.le_trans (dropK_le kvs k) z
  · rw [upd_ne (ne_of ec e (fun z => nomatch z))]
    exact ec
def tDPopT (td ty : TE) : TE := fun σ H Q => td σ H fun x H1 => ∃ a, x = .ref a ∧ IsD H1 a ∧ ty σ H1 fun y H2 => ∃ kvs k v b, H2 a = some (.dT kvs) ∧ y = .ref b ∧ H2 b = some (.tup (k.map kV)) ∧ valV kvs k = some v ∧ Q v (upd H2 a (.dT (dropK kvs k)))
theorem pe_dpopT {X : Cx} {o e : Expr} {apos cpos : Pos} {td ty : TE} (hu : X.A.units + 1 < cLine) (ho : PE X o td) (he : PE X e ty) (m : M1 X o "pop" apos e cpos) : PE X (.Call (.Attribute o "pop" apos) [e] [] cpos) (tDPopT td ty) := by
  intro pins s σ H Q I h
  refine wpAny_Call_method m.base m.few m.line PySem.F.plainAttrs_dict PySem.F.slot_dict_pop PySem.F.type_dict_pop (thn (ho pins s σ H _ I h) fun u s1 ⟨x, H1, I1, rx, a, ex, d, q1⟩ => ?_)
  subst ex
  obtain rfl : u = Value.ref a := rx
  obtain ⟨t1, t2, _⟩ := isD_at I1 d
  refine ⟨t1, t2, ?_⟩
  rw [m.trees]
  refine Calls.callWith_builtin rfl (Calls.evalArgs_plain (Calls.spliced_cons (thn (he pins s1 σ H1 _ I1 q1) fun iv s2 ⟨y, H2, I2, ry, kvs, k, v, b, ea, ey, eb, l, q2⟩ => Calls.spliced_nil ?_)))
  subst ey
  cases ry
  exact d_popT hu I2 ea eb l fun w' s3 I3 rw' => ⟨v, _, I3, rw', q2⟩
end L2
namespace L2
open PySem PySem.Spec PyProof.Rows
def RawD (h : Heap) (d : Addr) (es : Array DictEntry) (ep : Nat) : Prop := ∃ o, h.get? d = some o ∧ o.ExactDict ∧ o.data = .dict es ep
theorem RawD.ty {s : Shared} {d : Addr} {es : Array DictEntry} {ep : Nat} (r : RawD s.heap d es ep) : s.TypeIs (.ref d) "dict" := let ⟨o, ho, hc, _⟩ := r; ⟨o, ho, hc.1⟩
theorem RawD.lt {h : Heap} {d : Addr} {es : Array DictEntry} {ep : Nat} (r : RawD h d es ep) : d < h.objs.size := let ⟨_, ho, _⟩ := r; Heap.lt_size ho
theorem RawD.kept {h h' : Heap} {d : Addr} {es : Array DictEntry} {ep : Nat} (r : RawD h d es ep) (k : ∀ o, h.get? d = some o → h'.get? d = some o) : RawD h' d es ep := let ⟨o, ho, q⟩ := r; ⟨o, k _ ho, q⟩
section
variable {prog : Program} {w : World} {A : Around} {E : Value → Shared → Prop} {s : Shared} {d it : Addr} {es : Array DictEntry} {ep i : Nat}
theorem raw_iter {Q : Value → Shared → Prop} (nd : (d == sysModules) = false) (r : RawD s.heap d es ep)
    (q : Q (.ref s.heap.objs.size) { s with heap := s.heap.push { cls := .type "dict_keyiterator", data := .fields #[.ref d, .int 0 0, .int es.size 0, .int ep 0] } }) : wpAny (model prog w) A (pyIter (.ref d)) Q E s := by
  obtain ⟨o, e0, ec, ed⟩ := id r
  refine wpAny_pyIter_slot r.ty PySem.F.slot_dict_iter (wpAny_call_entry PySem.F.slot_dict_iter r.ty PySem.F.entry_dict_iter ?_ (PySem.F.args_dict_iter_1 _))
  unfold Builtin.«dict.__iter__» Builtin.Dict.dictSlotNone Builtin.Dict.showsAll
  refine wpAny_bind (wpAny_bind (wpAny_notOrdered_dict r.ty (wpAny_pure ?_)))
  refine wpAny_bind (m := if d == sysModules then _ else _) ?_
  rw [if_neg (by rw [nd]; exact Bool.false_ne_true)]
  refine wpAny_pure (wpAny_bind (wpAny_dictEntries e0 ed (wpAny_bind (wpAny_dictEpoch e0 ed ?_))))
  exact wpAny_bind (wpAny_newObj_type (wpAny_pure ⟨_, rfl, "dict_keyiterator", _, ⟨_, Heap.get?_push_size _ rfl, rfl⟩, PySem.F.slot_dict_keyiterator_next.lookup, by simpa [rawInt] using q⟩))
theorem raw_next {Q : Option Value → Shared → Prop} (t : s.heap.IsKeyIter it d i es.size ep) (r : RawD s.heap d es ep) (hi : i < es.size)
    (q : ∀ h', h'.IsKeyIter it d (i + 1) es.size ep → Heap.SameBut it s.heap h' → Q (some es[i].key) { s with heap := h' }) : wpAny (model prog w) A (pyNext (.ref it)) Q E s := by
  obtain ⟨b, b0, bc, bd⟩ := id t
  obtain ⟨o, e0, ec, ed⟩ := id r
  unfold pyNext
  refine wpAny_bind (wpAny_attempt (wpAny_callSpecial?_slot (name := Str.ofString "__next__") t.typeIs PySem.F.slot_dict_keyiterator_next (wpAny_call_entry PySem.F.slot_dict_keyiterator_next t.typeIs PySem.F.entry_dict_keyiterator_next ?_ (PySem.F.args_dict_keyiterator_next_1 _))))
  refine wpAny_bind (wpAny_pure (wpAny_bind (wpAny_bind (wpAny_bind (wpAny_typeNameOfWhole_keyiter t.typeIs (wpAny_pure (wpAny_bind (wpAny_fieldsOf b0 bd ?_))))))))
  simp only [show Builtin.Dict_items.ownsTuple "dict_keyiterator" = false by decide, Bool.false_eq_true, if_false]
  show wpAny _ _ (if (Value.ref d == Value.none) = true then _ else _) _ _ s
  rw [if_neg (show ¬ ((Value.ref d == Value.none) = true) from Bool.false_ne_true)]
  refine wpAny_bind (wpAny_pure (wpAny_bind (wpAny_dictEntries e0 ed ?_)))
  rw [if_neg (by simp)]
  refine wpAny_bind (wpAny_pure (wpAny_bind (wpAny_dictEpoch e0 ed ?_)))
  rw [if_neg (by simp)]
  refine wpAny_pure ?_
  simp only [show ¬ ((i : Int) < 0) from by omega, if_false, Int.toNat_natCast, Array.getElem?_eq_getElem hi]
  refine wpAny_bind (wpAny_bind (wpAny_typeNameOfWhole_keyiter t.typeIs (wpAny_pure (wpAny_bind (wpAny_isOneOf_keyiter t.typeIs ?_)))))
  show wpAny _ _ (setField (.ref it) 1 (rawInt ((i : Int) + 1)) >>= _) _ _ s
  refine wpAny_bind (wpAny_setField b0 bd (by simp) ?_)
  have t2 : (s.heap.update it (Obj.mapFields (·.setIfInBounds 1 (rawInt ((i : Int) + 1))))).IsKeyIter it d (i + 1) es.size ep := ⟨_, Heap.get?_update_self _ b0 (Obj.isFreed_of_fields (Obj.data_mapFields bd _)), (Obj.cls_mapFields ..).trans bc, by rw [Obj.data_mapFields bd]; simp [rawInt]⟩
  refine wpAny_bind (wpAny_holding (wpAny_bind (wpAny_isOneOf_keyiter (s := { s with heap := s.heap.update it (Obj.mapFields (·.setIfInBounds 1 (rawInt ((i : Int) + 1)))) }) t2.typeIs ?_)))
  show wpAny _ _ (pure es[i].key) _ _ _
  exact wpAny_pure (wpAny_pure ⟨_, rfl, wpAny_pure (q _ t2 (Heap.SameBut.update ..))⟩)
theorem raw_end {Q : Option Value → Shared → Prop} (hh : A.handled = none) (t : s.heap.IsKeyIter it d es.size es.size ep) (r : RawD s.heap d es ep)
    (q : ∀ h', Heap.ExtBut it s.heap h' → Q none { s with heap := h' }) : wpAny (model prog w) A (pyNext (.ref it)) Q E s := by
  obtain ⟨b, b0, bc, bd⟩ := id t
  obtain ⟨o, e0, ec, ed⟩ := id r
  unfold pyNext
  refine wpAny_bind (wpAny_attempt (wpAny_callSpecial?_slot (name := Str.ofString "__next__") t.typeIs PySem.F.slot_dict_keyiterator_next (wpAny_call_entry PySem.F.slot_dict_keyiterator_next t.typeIs PySem.F.entry_dict_keyiterator_next ?_ (PySem.F.args_dict_keyiterator_next_1 _))))
  refine wpAny_bind (wpAny_pure (wpAny_bind (wpAny_bind (wpAny_bind (wpAny_typeNameOfWhole_keyiter t.typeIs (wpAny_pure (wpAny_bind (wpAny_fieldsOf b0 bd ?_))))))))
  simp only [show Builtin.Dict_items.ownsTuple "dict_keyiterator" = false by decide, Bool.false_eq_true, if_false]
  show wpAny _ _ (if (Value.ref d == Value.none) = true then _ else _) _ _ s
  rw [if_neg (show ¬ ((Value.ref d == Value.none) = true) from Bool.false_ne_true)]
  refine wpAny_bind (wpAny_pure (wpAny_bind (wpAny_dictEntries e0 ed ?_)))
  rw [if_neg (by simp)]
  refine wpAny_bind (wpAny_pure (wpAny_bind (wpAny_dictEpoch e0 ed ?_)))
  rw [if_neg (by simp)]
  refine wpAny_pure ?_
  simp only [show ¬ ((es.size : Int) < 0) from by omega, if_false, Int.toNat_natCast, Array.getElem?_eq_none (Nat.le_refl es.size)]
  refine wpAny_bind (wpAny_bind (wpAny_typeNameOfWhole_keyiter t.typeIs (wpAny_pure ?_)))
  show wpAny _ _ (setField (.ref it) 0 .none >>= _) _ _ s
  refine wpAny_bind (wpAny_setField b0 bd (by simp) ?_)
  show wpAny _ _ (newExc (.type "StopIteration") [] >>= _) _ _ _
  refine wpAny_bind ?_
  simp only [newExc, newTuple]
  refine wpAny_bind (wpAny_newObj_type (wpAny_bind (m := firstArgMember _ _) (wpAny_of_eq (a := Value.none) (by first | rfl | (simp only [firstArgMember]; rfl)) (wpAny_newObj_type ?_ (by size_fits)))) (by size_fits))
  simp only [raiseNew]
  refine wpAny_bind (wpAny_handled ?_)
  rw [show A.in1.handled = none from hh]
  refine wpAny_bind (wpAny_pure (wpAny_throw ?_))
  refine wpAny_bind (m := isInstance _ _) (wpAny_isInstance (b := true) (T := "StopIteration") ⟨_, Heap.get?_push_size _ rfl, rfl⟩ isSubtype_stop ?_)
  exact wpAny_pure (q _ (((Heap.SameBut.update ..).extBut.push _).push _))
theorem raw_walks (hh : A.handled = none) (I : Addr) (ne : d ≠ I) : Walks prog w A I [I, d] [I] es.size (fun i v => ∃ h : i < es.size, v = es[i].key) (fun i h => h.IsKeyIter I d i es.size ep ∧ RawD h d es ep) where
  sub := fun b hb => List.mem_cons.mpr (.inl (List.mem_singleton.mp hb))
  frame := fun _ _ _ x k => ⟨x.1.at fun o e => k I (List.mem_cons_self ..) o e, x.2.kept fun o e => k d (List.mem_cons_of_mem _ (List.mem_cons_self ..)) o e⟩
  item := fun i s Q E hi x q => raw_next x.1 x.2 hi fun h' t2 sb => q _ h' s.toks ⟨hi, rfl⟩ ⟨t2, x.2.kept fun o e => (sb.2 d ne).trans e⟩ fun b o hb e => (sb.2 b fun z => hb (List.mem_singleton.mpr z)).trans e
  done := fun s Q E x q => raw_end hh x.1 x.2 fun h' eb => q h' s.toks fun b o hb e => eb b o (fun z => hb (List.mem_singleton.mpr z)) e
  self := fun _ _ _ _ x q => wpAny_pyIter_keyiter x.1 q
theorem raw_src (nd : (d == sysModules) = false) : PySem.W.KdlSrc prog w "dict" d d es.size (fun i v => ∃ h : i < es.size, v = es[i].key) (fun h => RawD h d es ep) where
  type := fun _ r => r.ty
  there := fun _ r => ⟨r.lt, r.lt⟩
  keep := fun _ _ r k => r.kept fun o e => k d (.inl rfl) o e
  notList := by decide
  notTuple := by decide
  hint := fun _ _ _ _ r q => PySem.W.kdl_hint_dict r.ty q
  iter := fun _ _ hh r => ⟨_, _, (fun _ _ q => raw_iter nd r q), raw_walks hh _ (Nat.ne_of_lt r.lt), ⟨⟨_, Heap.get?_push_size _ rfl, rfl, rfl⟩, r.kept fun o e => Heap.get?_push_of_some _ e⟩⟩
end
def KysAt (H : Hp) (ks : List (List Key)) (vs : List V) : Prop := Paired (fun k v => ∃ a, v = V.ref a ∧ H a = some (.tup (k.map kV))) ks vs
end L2
namespace L2
open PySem PySem.Spec PyProof.Rows
section
variable {X : Cx}
end
end L2
namespace L2
open PySem PySem.Spec PyProof.Rows
end L2
namespace L2
open PySem PySem.Spec PyProof.Rows
end L2
namespace L2
open PySem PySem.Spec PyProof.Rows
def tDispT (tk tv : TE) : TE := fun σ H Q => ∀ p, H p = none → tk σ (upd H p (.dT [])) fun x H1 => tv σ H1 fun y H2 => H2 p = some (.dT []) ∧ ∃ b k, x = .ref b ∧ H2 b = some (.tup (k.map kV)) ∧ Q (.ref p) (upd H2 p (.dT [(k, y)]))
theorem pe_dispT {X : Cx} {pos : Pos} {k v : Expr} {tk tv : TE} (hu : X.A.units + 1 < cLine) (hk : PE X k tk) (hv : PE X v tv) : PE X (.Dict [some k] [v] pos) (tDispT tk tv) := by
  intro pins s σ H Q I q
  have hn := I.hok.fresh (Nat.le_refl s.heap.objs.size)
  have I1 := I.laid (a := s.heap.objs.size) (o := .dT []) (h' := s.heap.push { cls := .type "dict", data := .dict #[] }) (t' := s.toks) (fun _ _ q => Heap.get?_push_of_some _ q) (Nat.le_refl _) (dt_empty s.heap I.big)
  rw [arm_eval_Dict, zip_pairTrees [some k] [v] X.env pos rfl rfl, dictDisplay_pairs (pairTrees [some k] [v] X.env pos) (by intro z; cases z) (by show (1 : Nat) < 17; decide)]
  refine wpAny_bind (wpAny_standAt (wpAny_bind ?_))
  unfold subDict
  refine wpAny_bind (wpAny_alloc ?_)
  refine wpAny_bind (wpAny_holding ?_)
  rw [if_pos (by show (1 : Nat) ≤ 15; decide)]
  refine wpAny_bind (pairTrees_cons_walk (thn (hk pins _ σ _ _ I1 (q _ hn)) fun u s1 ⟨x, H1, I2, rx, q1⟩ => thn (hv pins s1 σ H1 _ I2 q1) fun w2 s2 ⟨y, H2, I3, ry, hp, b, kk, ex, hb, q2⟩ => pairTrees_nil_walk ?_))
  subst ex
  cases (show u = Value.ref b from rx)
  refine wpAny_holding ?_
  obtain ⟨z, hd, xs, rel, dd⟩ := dt_of I3.hok hp
  cases rel
  rw [List.forIn_cons]
  dsimp only
  refine wpAny_bind (wpAny_bind (wpAny_bind (wpAny_dictSet_heap (hsz := by rw [sizeLine_eq]; exact Nat.zero_le _) (show (tupleKind (mixKind X.prog X.w)).room X.A from (by omega : X.A.units < cLine)) (key_of I3.hok hb) dd fun h' dd' hs => wpAny_pure ?_)))
  dsimp only
  rw [List.forIn_nil]
  refine wpAny_pure (wpAny_pure ?_)
  obtain ⟨o, es, ep, hq, h2, h3, h4, _, h5⟩ := dd'
  refine wpAny_pure (wpAny_pure ⟨.ref s.heap.objs.size, _, d_write (ob := .dT [(kk, y)]) I3 (by rw [hp]; exact True.intro) hs ⟨o, hq⟩ ⟨by rw [sizeLine_eq]; show (1 : Nat) ≤ _; decide, hd, [(kk, b, w2)], .cons ⟨rfl, by rw [upd_ne (ne_of hb hp (fun z => nomatch z))]; exact hb, ry⟩ .nil, o, es, ep, hq, h2, h3, h4, h5⟩, rfl, q2⟩)
section
variable {prog : Program} {w : World} {A : Around} {E : Value → Shared → Prop} {s : Shared}
end
end L2
namespace L2
open PySem PySem.Spec PyProof.Rows
def tVarM (i : Nat) : TE := fun σ H Q => match σ[i]? with
  | some (some v) => Q v H
  | _ => False
theorem tVarM_le {i : Nat} {σ : St} {H : Hp} {Q : VK} (h : tVarM i σ H Q) : tVar i σ H Q := by
  unfold tVarM at h
  split at h
  · rename_i v e; exact ⟨v, e, h⟩
  · exact h.elim
theorem pvM {X : Cx} (i : Nat) {x : Str} {pos : Pos} (hN : X.N[i]? = some x := by rfl) (hv : Vis X.env.scope x := by first | exact Or.inl rfl | exact Or.inr (Or.inl rfl) | exact Or.inr (Or.inr rfl)) (hd : (x == ("__debug__" : Str)) = false := by decide)
    (hcd : (x == ("__classdict__" : Str)) = false := by decide) : PE X (.Name x pos) (tVarM i) := fun pins s σ H Q I h => pe_var hN hv hd hcd pins s σ H Q I (tVarM_le h)
theorem rI0_ii {g : Int → Int → V} {i j : Int} {H : Hp} {Q : VK} : rI0 g (.int i) (.int j) H Q = Q (g i j) H := propext ⟨fun ⟨_, _, e1, e2, h⟩ => by cases e1; cases e2; exact h, fun h => ⟨_, _, rfl, rfl, h⟩⟩
theorem rI_ii {C : Int → Int → Prop} {g : Int → Int → V} {i j : Int} {H : Hp} {Q : VK} : rI C g (.int i) (.int j) H Q = (C i j ∧ Q (g i j) H) := propext ⟨fun ⟨_, _, e1, e2, h⟩ => by cases e1; cases e2; exact h, fun h => ⟨_, _, rfl, rfl, h⟩⟩
theorem ex_int {c : Int} {P : Int → Prop} : (∃ i, V.int c = V.int i ∧ P i) = P c := propext ⟨fun ⟨_, e, h⟩ => by cases e; exact h, fun h => ⟨_, rfl, h⟩⟩
theorem ex_bl {c : Bool} {P : Bool → Prop} : (∃ i, V.bl c = V.bl i ∧ P i) = P c := propext ⟨fun ⟨_, e, h⟩ => by cases e; exact h, fun h => ⟨_, rfl, h⟩⟩
theorem ex_ref {c : Addr} {P : Addr → Prop} : (∃ i, V.ref c = V.ref i ∧ P i) = P c := propext ⟨fun ⟨_, e, h⟩ => by cases e; exact h, fun h => ⟨_, rfl, h⟩⟩
end L2
namespace L2
open PySem PySem.Spec PyProof.Rows
section
open PySem.Builtin PySem.Builtin.Str
end
end L2
namespace Hd
open PySem PySem.W PySem.Calls PyProof.Rows
def runT (tb : String → Option Builtin) (p : Program) (w : World) (n0 : Nat) (ann : Option Value) : Nat → SharedT → Thread → Option SharedT
  | 0, _, _ => none
  | n + 1, s, t => match through t with
    | true => some s
    | false => match stepOk n0 ann t with
      | false => none
      | true => match stepT (denote tb) p w s t with
        | some (s', t') => runT tb p w n0 ann n s' t'
        | none => none
theorem runT_of {tb : String → Option Builtin} {p : Program} {w : World} {n0 : Nat} {ann : Option Value} : ∀ {n : Nat} {s r : SharedT} {t : Thread}, runT tb p w n0 ann n s t = some r → topRun tb p w n0 ann n s.abs t = some r.abs
  | 0, _, _, _, h => by cases h
  | n + 1, s, r, t, h => by
    unfold runT at h
    unfold topRun
    cases he : through t with
    | true => rw [he] at h; cases h; rfl
    | false =>
      rw [he] at h
      cases hk : stepOk n0 ann t with
      | false => rw [hk] at h; cases h
      | true =>
        rw [hk] at h
        cases hs : stepT (denote tb) p w s t with
        | none => rw [hs] at h; cases h
        | some x => obtain ⟨s2, t2⟩ := x; rw [hs] at h; rw [stepT_spec hs]; exact runT_of h
def grow : List Obj → Nat → BT → BT
  | [], _, t => t
  | o :: l, n, t => grow l (n + 1) (t.ins n o)
noncomputable def bootT (P : Params) : BT := grow (boot_heap P).objs.toList 0 .nil
noncomputable def bootS (w : World) (os : OsState) : SharedT := ⟨bootT w.params, (boot_heap w.params).objs.size, (boot_heap w.params).life, #[], boot_drawn, boot_toks, os⟩
theorem boot_abs (w : World) (os : OsState) : (bootS w os).abs = ⟨boot_heap w.params, #[], boot_drawn, boot_toks, os⟩ := by kernel_rfl
theorem boot_size (w : World) : ((boot_heap w.params).isNs mainGlobals && (#[] : Array GenState).size == 0) = true := by kernel_rfl
noncomputable abbrev ann0 (w : World) : Option Value := (boot_heap w.params).nsMap mainGlobals "__annotations__"
def look {α : Type} (p : Program) (Yf : Shared → α) (H0 : Heap) (s : Shared) : Bool × α :=
  (staticsOk (importedModules p.main.body) H0 s.heap && namesBound p s.heap && gensDone s && laidKept H0 s.heap, Yf s)
noncomputable def ran (p : Program) (N : Nat) (w : World) (os : OsState) : Option SharedT := runT treeTable p w (boot_heap w.params).objs.size (ann0 w) N (bootS w os) (topStub p)
noncomputable def once {α : Type} (p : Program) (Yf : Shared → α) (N : Nat) (w : World) (os : OsState) := (ran p N w os).map fun s => look p Yf (boot_heap w.params) s.abs
noncomputable def seen (p q : Program) (loose : List Str) (Xt : Shared → Bool) (N : Nat) (w : World) (os : OsState) := (ran p N w os).map fun s => openSeen q loose (importedModules p.main.body) Xt true s.abs
theorem left_once {p q : Program} {loose : List Str} {Xt : Shared → Bool} {α : Type} {Yf : Shared → α} {Ya : World → α} {N : Nat}
    (e : opening p = plainProg p.main.scope.names) (hN : Nat.ble 600 N = true) (f : ∀ s, fenceModules? p s = some s)
    (one : ∀ (w : World) (os : OsState), once p Yf N w os = some (true, Ya w)) (two : ∀ (w : World) (os : OsState), seen p q loose Xt N w os = some (openGood q loose)) : LeftO p q loose Xt Yf Ya N := fun w => by
  obtain ⟨⟨h, gs, d, k, os⟩, e1, e2⟩ := Option.map_eq_some_iff.mp (boot_open e hN f w)
  obtain ⟨rfl, rfl, rfl, rfl⟩ : h = boot_heap w.params ∧ gs = #[] ∧ d = boot_drawn ∧ k = boot_toks := by simpa using e2
  obtain ⟨sT, r, l⟩ := Option.map_eq_some_iff.mp (one w os)
  obtain ⟨sT', r', l2⟩ := Option.map_eq_some_iff.mp (two w os)
  obtain rfl : sT = sT' := Option.some.inj (r.symm.trans r')
  have r := runT_of r
  rw [boot_abs] at r
  obtain ⟨l1, l3⟩ : _ ∧ _ := by simpa only [look, Prod.mk.injEq] using l
  have t : topFrom treeTable p w N ⟨boot_heap w.params, #[], boot_drawn, boot_toks, os⟩ = some sT.abs := by
    unfold topFrom
    dsimp only
    rw [boot_size w, r]
    show (match staticsOk (importedModules p.main.body) (boot_heap w.params) sT.abs.heap && namesBound p sT.abs.heap && gensDone sT.abs && laidKept (boot_heap w.params) sT.abs.heap with | true => _ | false => _) = _
    rw [l1]
  unfold openEnds
  rw [e1]
  show (topFrom treeTable p w N _).map _ = _
  rw [t]
  exact congrArg some (Prod.ext l2 l3)
end Hd
namespace Hd
open PySem PySem.W
def dig : Nat → Nat → List Nat
  | 0, _ => []
  | k + 1, n => match Nat.beq n 0 with
    | true => []
    | false => Nat.sub (n % 256) 1 :: dig k (n / 256)
def S (n : Nat) : Str := ⟨⟨dig 200 n⟩⟩
def ent (P : Params) (x : Str) (t : Nat) (v : Value) : DictEntry := ⟨PyData.keyHash P x, .str x t, v⟩
def dO (n : Nat) (l : List DictEntry) : Obj := ⟨.type "dict", none, .dict ⟨l⟩ n, #[]⟩
def tO (l : List Value) : Obj := ⟨.type "tuple", none, .seq ⟨l⟩ 0, #[]⟩
def cO (l : List Value) : Obj := ⟨.type "code", none, .fields ⟨l⟩, #[]⟩
end Hd
namespace Hd
open PySem PySem.W PySem.Calls PyProof.Rows
def goT (tb : String → Option Builtin) (p : Program) (w : World) (n0 : Nat) (ann : Option Value) : Nat → SharedT → Thread → Option (SharedT × Thread)
  | 0, s, t => some (s, t)
  | n + 1, s, t => match through t with
    | true => none
    | false => match stepOk n0 ann t with
      | false => none
      | true => match stepT (denote tb) p w s t with
        | some (s', t') => goT tb p w n0 ann n s' t'
        | none => none
end Hd
namespace Hd
open PySem PySem.W PySem.Calls PyProof.Rows
theorem tw_run : (fun (_ : (String → Option Builtin) → Program → World → Nat → Option Value → Nat → SharedT → Thread → Option SharedT) => true) runT = true := by k_qdec
theorem tw_go : (fun (_ : (String → Option Builtin) → Program → World → Nat → Option Value → Nat → SharedT → Thread → Option (SharedT × Thread)) => true) goT = true := by k_qdec
theorem tw_boot : (fun (_ : World → OsState → SharedT) (_ : World → Option Value) => true) bootS ann0 = true := by k_qdec
theorem tw_look : (fun (_ : {α : Type} → Program → (Shared → α) → Heap → Shared → Bool × α) => true) @look = true := by k_qdec
theorem tw_once : (fun (_ : {α : Type} → Program → (Shared → α) → Nat → World → OsState → Option (Bool × α)) => true) @once = true := by k_qdec
theorem tw_seen : (fun (_ : Program → Program → List Str → (Shared → Bool) → Nat → World → OsState → Option _) => true) seen = true := by k_qdec
end Hd
namespace L2
open PySem PySem.Spec PyProof.Rows
structure RoomH (k : Nat) (A : Around) : Prop where
  dp : A.depth + 3 * k + 5 < recursionLimit
  un : A.units + 16 * k + 200 < cLine
theorem Room.h {k : Nat} {A : Around} (r : Room k A) : RoomH k A := ⟨r.dp, r.un⟩
theorem RoomH.deeper {k : Nat} {A : Around} (r : RoomH (k + 1) A) (env : Env) : RoomH k (A.deeper env) :=
  ⟨by have := r.dp; show A.depth + 1 + 3 * k + 5 < _; omega, by have := r.un; show A.units + 3 + 16 * k + 200 < _; omega⟩
def cxOfH (P : Program) (w : World) (K : PySem.W.Frag) (mg : Str → Option Value) (base : Heap) (N : List Str) (qual : Str) (scope : Scope) (f : Addr) (cd : Value) (A : Around) (outer : List Env) (s : Shared) (H : Hp) (E : XK) : Cx :=
  { cxOf (CXe P w) P w K mg base N qual scope f cd A outer s H E with calm := false }
theorem cxOfH_K {P : Program} {w : World} {K : PySem.W.Frag} {mg : Str → Option Value} {base : Heap} {N : List Str} {qual : Str} {scope : Scope} {f : Addr} {cd : Value} {A : Around} {outer : List Env} {s : Shared} {H : Hp} {E : XK} : (cxOfH P w K mg base N qual scope f cd A outer s H E).K = K := rfl
end L2
namespace L2
open PySem PySem.Spec PyProof.Rows
def BindsK (K : PySem.W.Frag) (fd : FuncData) (ps ks : List Str) : Prop := ∀ (s : Shared) (us : List Value) (a b : Value), K.In s.heap → us.length + 2 = ps.length → BindsTo s fd ⟨us, ks.zip [a, b]⟩ (ps.zip (us ++ [b, a]))
def RawMK (K : PySem.W.Frag) (C : Addr) (m qual : Str) (st : Stmt) (ps ks : List Str) : Prop := ∃ f fd, Meth K C m f ∧ FunD K m qual st f fd ∧ BindsK K fd ps ks
def HaveMK (P : Program) (w : World) (K : PySem.W.Frag) (mg : Str → Option Value) (base : Heap) (C : Addr) (m : Str) (k : Nat) (ps ks : List Str) (sp : Sp) : Prop :=
  ∃ f fd, Meth K C m f ∧ BindsK K fd ps ks ∧ FnOk P w K mg base (CXe P w) k f fd ps sp
theorem RawMK.have {P : Program} {w : World} {K : PySem.W.Frag} {mg : Str → Option Value} {base : Heap} {C : Addr} {m qual : Str} {st : Stmt} {N ps ks : List Str} {k : Nat} {sp : Sp} (R : RawMK K C m qual st ps ks) (S : FnScope N ps (defScope st)) (len : ∀ vs H Q E, sp vs H Q E → vs.length = ps.length)
    (hbody : Body P w K mg base qual st N k sp) : HaveMK P w K mg base C m (k + 1) ps ks sp :=
  let ⟨f, fd, hm, F, hb⟩ := R
  ⟨f, fd, hm, hb, F.okE S len hbody⟩
end L2
namespace L2
open PySem PySem.Spec PyProof.Rows
end L2
namespace L2
open PySem PySem.Spec PyProof.Rows
end L2
namespace L2
open PySem PySem.Spec PyProof.Rows
section
variable {prog : Program} {w : World} {A : Around} {E : Value → Shared → Prop} {s : Shared}
end
section
variable {X : Cx}
end
end L2
namespace L2
open PySem PySem.Spec PyProof.Rows
section
variable {prog : Program} {w : World} {A : Around} {E : Value → Shared → Prop} {s : Shared}
end
section
variable {X : Cx}
end
end L2
namespace L2
open PySem PySem.Spec PyProof.Rows
section
variable {X : Cx} {pins : List (Addr × Obj)} {σ : List (Option V)} {H : Hp} {s : Shared} {a : Addr}
end
end L2
namespace L2
open PySem PySem.Spec PyProof.Rows
section
open PySem.W
def kRun (lt : Nat → Nat → Bool) {α : Type} : KasT α → α
  | .ret a => a
  | .ask i j k => kRun lt (k (lt i j))
theorem kRun_bind (lt : Nat → Nat → Bool) {α β : Type} (f : α → KasT β) : ∀ t : KasT α, kRun lt (t.bind f) = kRun lt (f (kRun lt t))
  | .ret a => by simp only [KasT.bind, kRun]
  | .ask i j k => by simp only [KasT.bind, kRun]; exact kRun_bind lt f (k (lt i j))
def Okt (n : Nat) {α : Type} (R : α → Prop) : KasT α → Prop
  | .ret a => R a
  | .ask i j k => i < n ∧ j < n ∧ ∀ b, Okt n R (k b)
theorem okt_bind {n : Nat} {α β : Type} {R : α → Prop} {S : β → Prop} {f : α → KasT β} (h : ∀ a, R a → Okt n S (f a)) : ∀ t : KasT α, Okt n R t → Okt n S (t.bind f)
  | .ret a, g => by simp only [KasT.bind]; exact h a g
  | .ask i j k, g => by
    simp only [KasT.bind, Okt]
    exact ⟨g.1, g.2.1, fun b => okt_bind h (k b) (g.2.2 b)⟩
theorem kWp_run {lt : Nat → Nat → Bool} {cmp : Nat → Nat → (Bool → Shared → Prop) → Shared → Prop} {s : Shared} {n : Nat} {α : Type} {R : α → Prop} {G : α → Shared → Prop} (h : ∀ i j C, i < n → j < n → C (lt i j) s → cmp i j C s) : ∀ t : KasT α, Okt n R t → G (kRun lt t) s → KasT.kasWp cmp t G s
  | .ret a, _, g => by simp only [KasT.kasWp]; exact g
  | .ask i j k, o, g => by
    simp only [KasT.kasWp]
    exact h i j _ o.1 o.2.1 (kWp_run h (k (lt i j)) (o.2.2 _) g)
def In (p : Array Nat) (n : Nat) : Prop := 0 < n ∧ ∀ x ∈ p.toList, x < n
theorem In.at {p : Array Nat} {n : Nat} (h : In p n) (i : Nat) : p.getD i 0 < n := by
  rw [Array.getD_eq_getD_getElem?]
  cases e : p[i]? with
  | none => exact h.1
  | some x => exact h.2 x (List.mem_of_getElem? (by rw [Array.getElem?_toList]; exact e))
theorem In.perm {p q : Array Nat} {n : Nat} (h : In p n) (e : q.Perm p) : In q n := ⟨h.1, fun x hx => h.2 x ((Array.perm_iff_toList_perm.mp e).mem_iff.mp hx)⟩
theorem In.rev {p : Array Nat} {n i j : Nat} (h : In p n) : In (kas_rev p i j) n := h.perm (mirror_perm ..)
theorem okt_asc {p : Array Nat} {n : Nat} (h : In p n) : ∀ f m, Okt n (fun _ => True) (kas_asc p f m)
  | 0, m => by unfold kas_asc; trivial
  | f + 1, m => by
    unfold kas_asc
    refine ⟨h.at _, h.at _, fun b => ?_⟩
    cases b
    · exact okt_asc h f (m + 1)
    · trivial
theorem okt_desc {n : Nat} : ∀ (f : Nat) (p : Array Nat) (m q : Nat), In p n → Okt n (fun r => In r.1 n) (kas_desc f p m q)
  | 0, p, m, q, h => by unfold kas_desc; exact h
  | f + 1, p, m, q, h => by
    unfold kas_desc
    refine ⟨h.at _, h.at _, fun b => ?_⟩
    cases b
    · refine ⟨h.at _, h.at _, fun d => ?_⟩
      cases d
      · exact okt_desc f p (m + 1) (q + 1) h
      · exact h
    · by_cases c : q > 0
      · simp only [c, if_true]
        exact okt_desc f _ (m + 1) 0 h.rev
      · simp only [c, if_false, if_true]
        exact okt_desc f p (m + 1) 0 h
theorem okt_tail {n m r : Nat} {p : Array Nat} (h : In p n) : Okt n (fun x => In x.2 n) (kas_tail3 m r p) := by
  unfold kas_tail3
  refine okt_bind (R := fun _ => True) (fun a _ => ?_) _ (okt_asc h.rev _ _)
  exact (h.rev : In (kas_rev p 0 m) n)
theorem okt_part {n m r : Nat} {p : Array Nat} (h : In p n) : Okt n (fun x => In x.2 n) (kas_descPart m r p) := by
  unfold kas_descPart
  refine okt_bind (fun a ha => ?_) _ (okt_desc _ _ _ _ h)
  split
  · exact okt_tail (In.rev ha)
  · exact okt_tail ha
theorem okt_count {n r : Nat} {p : Array Nat} (h : In p n) : Okt n (fun x => In x.2 n) (kas_count r p) := by
  unfold kas_count
  refine okt_bind (fun a _ => ?_) _ (okt_asc h _ _)
  split
  · exact h
  · split
    · refine ⟨h.at _, h.at _, fun b => ?_⟩
      cases b
      · exact okt_part h.rev
      · exact h
    · exact okt_part h
theorem okt_place {n : Nat} {p : Array Nat} {k : Nat} (h : In p n) : ∀ f l r, Okt n (fun _ => True) (kas_place p k f l r)
  | 0, l, r => by unfold kas_place; trivial
  | f + 1, l, r => by
    unfold kas_place
    split
    · trivial
    · refine ⟨h.at _, h.at _, fun b => ?_⟩
      cases b
      · exact okt_place h f _ _
      · exact okt_place h f _ _
theorem okt_bin {n : Nat} : ∀ (f : Nat) (p : Array Nat) (k : Nat), In p n → Okt n (fun x => In x n) (kas_bin f p k)
  | 0, p, k, h => by unfold kas_bin; exact h
  | f + 1, p, k, h => by
    unfold kas_bin
    exact okt_bind (fun a _ => okt_bin f _ _ (h.perm (bubble_perm ..))) _ (okt_place h _ _ _)
theorem okt_sort {n : Nat} (h : 0 < n) : Okt n (fun x => In x n) (kas_sort n) := by
  unfold kas_sort
  have hi : In (List.range n).toArray n := ⟨h, fun x hx => by simpa using hx⟩
  refine okt_bind (fun a ha => ?_) _ (okt_count hi)
  split
  · exact okt_bin _ _ _ ha
  · exact ha
structure Od (lt : Nat → Nat → Bool) (n : Nat) : Prop where
  tr : ∀ i j k, i < n → j < n → k < n → lt i j = true → lt j k = true → lt i k = true
  ir : ∀ i, i < n → lt i i = false
  to : ∀ i j, i < n → j < n → i ≠ j → lt i j = true ∨ lt j i = true
variable {lt : Nat → Nat → Bool} {n : Nat}
structure Pm (p : Array Nat) (n : Nat) : Prop where
  sz : p.size = n
  lt : ∀ i, i < n → p.getD i 0 < n
  ne : ∀ i j, i < n → j < n → i ≠ j → p.getD i 0 ≠ p.getD j 0
  pe : p.Perm (List.range n).toArray
def Up (lt : Nat → Nat → Bool) (p : Array Nat) (m : Nat) : Prop := ∀ i j, i < j → j < m → lt (p.getD i 0) (p.getD j 0) = true
def Dn (lt : Nat → Nat → Bool) (p : Array Nat) (m : Nat) : Prop := ∀ i j, i < j → j < m → lt (p.getD j 0) (p.getD i 0) = true
theorem Up.succ {p : Array Nat} {m : Nat} (o : Od lt n) (hp : Pm p n) (h : Up lt p m) (h1 : 1 ≤ m) (hm : m < n) (c : lt (p.getD (m - 1) 0) (p.getD m 0) = true) : Up lt p (m + 1) := fun i j hij hj => by
  rcases (by omega : j < m ∨ j = m) with hj | rfl
  · exact h i j hij hj
  · rcases (by omega : i < j - 1 ∨ i = j - 1) with hi | rfl
    · exact o.tr _ _ _ (hp.lt _ (by omega)) (hp.lt _ (by omega)) (hp.lt _ hm) (h i (j - 1) hi (by omega)) c
    · exact c
theorem Dn.succ {p : Array Nat} {m : Nat} (o : Od lt n) (hp : Pm p n) (h : Dn lt p m) (h1 : 1 ≤ m) (hm : m < n) (c : lt (p.getD m 0) (p.getD (m - 1) 0) = true) : Dn lt p (m + 1) := fun i j hij hj => by
  rcases (by omega : j < m ∨ j = m) with hj | rfl
  · exact h i j hij hj
  · rcases (by omega : i < j - 1 ∨ i = j - 1) with hi | rfl
    · exact o.tr _ _ _ (hp.lt _ hm) (hp.lt _ (by omega)) (hp.lt _ (by omega)) c (h i (j - 1) hi (by omega))
    · exact c
theorem other {p : Array Nat} (o : Od lt n) (hp : Pm p n) {i j : Nat} (hi : i < n) (hj : j < n) (ne : i ≠ j) (c : lt (p.getD i 0) (p.getD j 0) = false) : lt (p.getD j 0) (p.getD i 0) = true := by
  rcases o.to _ _ (hp.lt i hi) (hp.lt j hj) (hp.ne i j hi hj ne) with h | h
  · rw [h] at c; cases c
  · exact h
theorem asc_ok {p : Array Nat} (o : Od lt n) (hp : Pm p n) : ∀ (f m : Nat), 1 ≤ m → m + f ≤ n → Up lt p m → ∃ r, kRun lt (kas_asc p f m) = r ∧ m ≤ r ∧ r ≤ m + f ∧ Up lt p r ∧ (r = m + f ∨ lt (p.getD r 0) (p.getD (r - 1) 0) = true)
  | 0, m, _, _, h => ⟨m, by unfold kas_asc; rfl, Nat.le_refl _, by omega, h, .inl rfl⟩
  | f + 1, m, h1, h2, h => by
    unfold kas_asc
    simp only [kRun]
    cases c : lt (p.getD m 0) (p.getD (m - 1) 0) with
    | true => exact ⟨m, by simp [kRun], Nat.le_refl _, by omega, h, .inr c⟩
    | false =>
      obtain ⟨r, e, a1, a2, a3, a4⟩ := asc_ok o hp f (m + 1) (by omega) (by omega) (h.succ o hp h1 (by omega) (other o hp (by omega) (by omega) (by omega) c))
      exact ⟨r, by simpa using e, by omega, by omega, a3, a4.imp (fun h => by omega) id⟩
theorem desc_ok {p : Array Nat} (o : Od lt n) (hp : Pm p n) : ∀ (f m : Nat), 1 ≤ m → m + f ≤ n → Dn lt p m → ∃ r, kRun lt (kas_desc f p m 0) = (p, r, 0) ∧ m ≤ r ∧ r ≤ m + f ∧ Dn lt p r
  | 0, m, _, _, h => ⟨m, by unfold kas_desc; rfl, Nat.le_refl _, by omega, h⟩
  | f + 1, m, h1, h2, h => by
    unfold kas_desc
    simp only [kRun]
    cases c : lt (p.getD m 0) (p.getD (m - 1) 0) with
    | true =>
      obtain ⟨r, e, a1, a2, a3⟩ := desc_ok o hp f (m + 1) (by omega) (by omega) (h.succ o hp h1 (by omega) c)
      exact ⟨r, by simpa using e, by omega, by omega, a3⟩
    | false =>
      have d := other o hp (by omega) (by omega) (by omega) c
      refine ⟨m, ?_, Nat.le_refl _, by omega, h⟩
      rw [if_neg (by simp)]
      simp only [kRun]
      rw [d, if_pos rfl]
      simp only [kRun]
theorem getD_of {p : Array Nat} {i x : Nat} (h : p[i]? = some x) : p.getD i 0 = x := by
  rw [Array.getD_eq_getD_getElem?, h]; rfl
theorem getD_eq {p q : Array Nat} {i j : Nat} (h : p[i]? = q[j]?) : p.getD i 0 = q.getD j 0 := by
  rw [Array.getD_eq_getD_getElem?, Array.getD_eq_getD_getElem?, h]
theorem rev_at {p : Array Nat} {m : Nat} (h : m ≤ p.size) (k : Nat) : (kas_rev p 0 m).getD k 0 = if k < m then p.getD (m - 1 - k) 0 else p.getD k 0 := by
  have := getElem?_mirror_all (xs := p) (i := 0) (j := m) h k
  unfold kas_rev
  by_cases c : k < m
  · rw [if_pos c]
    rw [if_pos ⟨Nat.zero_le _, c⟩, Nat.zero_add] at this
    exact getD_eq this
  · rw [if_neg c]
    rw [if_neg (fun z => c z.2)] at this
    exact getD_eq this
theorem rev_pm {p : Array Nat} {m : Nat} (hp : Pm p n) (h : m ≤ n) : Pm (kas_rev p 0 m) n := by
  have hs : m ≤ p.size := by rw [hp.sz]; exact h
  refine ⟨by unfold kas_rev; rw [mirror_size]; exact hp.sz, fun i hi => ?_, fun i j hi hj ne => ?_, (mirror_perm ..).trans hp.pe⟩
  · rw [rev_at hs]
    split <;> exact hp.lt _ (by omega)
  · rw [rev_at hs, rev_at hs]
    split <;> split <;> exact hp.ne _ _ (by omega) (by omega) (by omega)
theorem rev_up {p : Array Nat} {m : Nat} (hs : m ≤ p.size) (h : Dn lt p m) : Up lt (kas_rev p 0 m) m := fun i j hij hj => by
  rw [rev_at hs, rev_at hs, if_pos (by omega), if_pos hj]
  exact h _ _ (by omega) (by omega)
theorem count_ok {p : Array Nat} (o : Od lt n) (hp : Pm p n) (h1 : 1 ≤ n) : ∃ r q, kRun lt (kas_count n p) = (r, q) ∧ Pm q n ∧ 1 ≤ r ∧ r ≤ n ∧ Up lt q r := by
  unfold kas_count
  rw [kRun_bind]
  obtain ⟨r, e, a1, a2, a3, a4⟩ := asc_ok o hp (n - 1) 1 (Nat.le_refl _) (by omega) (fun i j h1 h2 => by omega)
  rw [e]
  by_cases c : r = n
  · simp only [c, beq_self_eq_true, if_true, kRun]
    exact ⟨n, p, rfl, hp, h1, Nat.le_refl _, by rw [c] at a3; exact a3⟩
  · have c' : ¬ (r == n) = true := by simpa using c
    rw [if_neg c']
    have a4 : lt (p.getD r 0) (p.getD (r - 1) 0) = true := a4.resolve_left (by omega)
    by_cases c2 : r > 1
    · rw [if_pos c2]
      simp only [kRun]
      rw [a3 0 (r - 1) (by omega) (by omega), if_pos rfl]
      exact ⟨r, p, rfl, hp, by omega, by omega, a3⟩
    · rw [if_neg c2]
      obtain rfl : r = 1 := by omega
      have d2 : Dn lt p 2 := fun i j hij hj => by
        obtain ⟨rfl, rfl⟩ : i = 0 ∧ j = 1 := by omega
        exact a4
      obtain ⟨m, e2, b1, b2, b3⟩ := desc_ok o hp (n - 2) 2 (by omega) (by omega) d2
      unfold kas_descPart
      rw [kRun_bind, show n - (1 + 1) = n - 2 from rfl, show (1 + 1 : Nat) = 2 from rfl, e2]
      rw [if_neg (by show ¬ (0 : Nat) > 0; omega)]
      unfold kas_tail3
      rw [kRun_bind]
      have hs : m ≤ p.size := by rw [hp.sz]; omega
      have hq := rev_pm hp (m := m) (by omega)
      obtain ⟨r, e, c1, c2, c3, c4⟩ := asc_ok o hq (n - m) m (by omega) (by omega) (rev_up hs b3)
      rw [e]
      exact ⟨r, _, rfl, hq, by omega, by omega, c3⟩
theorem place_ok {p : Array Nat} (o : Od lt n) (hp : Pm p n) {k : Nat} (hk : k < n) (hu : Up lt p k) : ∀ (f l r : Nat), l ≤ r → r ≤ k → r - l ≤ f → (∀ i, i < l → lt (p.getD i 0) (p.getD k 0) = true) → (∀ i, r ≤ i → i < k → lt (p.getD k 0) (p.getD i 0) = true) → ∃ m, kRun lt (kas_place p k f l r) = m ∧ m ≤ k ∧ (∀ i, i < m → lt (p.getD i 0) (p.getD k 0) = true) ∧ (∀ i, m ≤ i → i < k → lt (p.getD k 0) (p.getD i 0) = true)
  | 0, l, r, h1, h2, h3, a, b => ⟨l, by unfold kas_place; rfl, by omega, a, fun i hi => b i (by omega)⟩
  | f + 1, l, r, h1, h2, h3, a, b => by
    unfold kas_place
    by_cases c : l ≥ r
    · rw [if_pos c]
      exact ⟨l, rfl, by omega, a, fun i hi => b i (by omega)⟩
    · rw [if_neg c]
      simp only [kRun]
      have hm : l ≤ (l + r) / 2 ∧ (l + r) / 2 < r := by omega
      generalize (l + r) / 2 = m at *
      cases d : lt (p.getD k 0) (p.getD m 0) with
      | true =>
        rw [if_pos rfl]
        refine place_ok o hp hk hu f l m hm.1 (by omega) (by omega) a fun i hi hik => ?_
        rcases (by omega : i = m ∨ m < i) with rfl | hi
        · exact d
        · exact o.tr _ _ _ (hp.lt _ hk) (hp.lt _ (by omega)) (hp.lt _ (by omega)) d (hu m i hi hik)
      | false =>
        rw [if_neg (by simp)]
        have d' := other o hp hk (by omega) (by omega) d
        refine place_ok o hp hk hu f (m + 1) r (by omega) h2 (by omega) (fun i hi => ?_) b
        rcases (by omega : i = m ∨ i < m) with rfl | hi
        · exact d'
        · exact o.tr _ _ _ (hp.lt _ (by omega)) (hp.lt _ (by omega)) (hp.lt _ hk) (hu i m hi (by omega)) d'
def bIx (k l i : Nat) : Nat := if i = l then k else if l < i ∧ i ≤ k then i - 1 else i
theorem bIx_lt {k l i n : Nat} (hk : k < n) (hi : i < n) : bIx k l i < n := by
  unfold bIx
  by_cases c : i = l
  · rw [if_pos c]; exact hk
  · rw [if_neg c]
    by_cases d : l < i ∧ i ≤ k
    · rw [if_pos d]; omega
    · rw [if_neg d]; exact hi
theorem bIx_ne {k l i j : Nat} (hl : l ≤ k) (ne : i ≠ j) : bIx k l i ≠ bIx k l j := by
  unfold bIx
  by_cases c1 : i = l
  · rw [if_pos c1, if_neg (by omega)]
    by_cases d : l < j ∧ j ≤ k
    · rw [if_pos d]; omega
    · rw [if_neg d]; omega
  · rw [if_neg c1]
    by_cases c2 : j = l
    · rw [if_pos c2]
      by_cases d : l < i ∧ i ≤ k
      · rw [if_pos d]; omega
      · rw [if_neg d]; omega
    · rw [if_neg c2]
      by_cases d : l < i ∧ i ≤ k
      · rw [if_pos d]
        by_cases d2 : l < j ∧ j ≤ k
        · rw [if_pos d2]; omega
        · rw [if_neg d2]; omega
      · rw [if_neg d]
        by_cases d2 : l < j ∧ j ≤ k
        · rw [if_pos d2]; omega
        · rw [if_neg d2]; exact ne
theorem bub_at {p : Array Nat} {k l : Nat} (hk : k < p.size) (hl : l ≤ k) (i : Nat) : (bubble p k (k - l)).getD i 0 = p.getD (bIx k l i) 0 := by
  have := getElem?_bubble hk (k - l) (by omega) i
  rw [show k - (k - l) = l by omega] at this
  unfold bIx
  by_cases c : i = l
  · rw [if_pos c]
    rw [if_pos c] at this
    exact getD_eq this
  · rw [if_neg c] at this ⊢
    by_cases d : l < i ∧ i ≤ k
    · rw [if_pos d] at this ⊢
      exact getD_eq this
    · rw [if_neg d] at this ⊢
      exact getD_eq this
theorem bin_ok (o : Od lt n) : ∀ (f : Nat) (p : Array Nat) (k : Nat), Pm p n → k + f ≤ n → 1 ≤ k → Up lt p k → ∃ q, kRun lt (kas_bin f p k) = q ∧ Pm q n ∧ Up lt q (k + f)
  | 0, p, k, hp, _, _, h => ⟨p, by unfold kas_bin; rfl, hp, h⟩
  | f + 1, p, k, hp, h1, h2, h => by
    unfold kas_bin
    rw [kRun_bind]
    obtain ⟨l, e, hl, a, b⟩ := place_ok o hp (by omega) h k 0 k (Nat.zero_le _) (Nat.le_refl _) (by omega) (fun i hi => by omega) (fun i hi hik => by omega)
    rw [e]
    have hks : k < p.size := by rw [hp.sz]; omega
    have hq : Pm (bubble p k (k - l)) n := by
      refine ⟨by rw [bubble_size]; exact hp.sz, fun i hi => ?_, fun i j hi hj ne => ?_, (bubble_perm ..).trans hp.pe⟩
      · rw [bub_at hks hl]
        exact hp.lt _ (bIx_lt (by omega) hi)
      · rw [bub_at hks hl, bub_at hks hl]
        exact hp.ne _ _ (bIx_lt (by omega) hi) (bIx_lt (by omega) hj) (bIx_ne hl ne)
    have hu : Up lt (bubble p k (k - l)) (k + 1) := fun i j hij hj => by
      rw [bub_at hks hl, bub_at hks hl]
      unfold bIx
      by_cases c1 : i = l
      · rw [if_pos c1, if_neg (by omega), if_pos (by omega)]
        exact b (j - 1) (by omega) (by omega)
      · rw [if_neg c1]
        by_cases c2 : j = l
        · rw [if_pos c2, if_neg (by omega)]
          exact a i (by omega)
        · rw [if_neg c2]
          by_cases c3 : l < i ∧ i ≤ k
          · rw [if_pos c3, if_pos (by omega)]
            exact h _ _ (by omega) (by omega)
          · rw [if_neg c3]
            by_cases c4 : l < j ∧ j ≤ k
            · rw [if_pos c4]
              exact h _ _ (by omega) (by omega)
            · rw [if_neg c4]
              exact h _ _ hij (by omega)
    obtain ⟨q, e2, hq2, hu2⟩ := bin_ok o f _ (k + 1) hq (by omega) (by omega) hu
    exact ⟨q, e2, hq2, by rw [show k + (f + 1) = k + 1 + f by omega]; exact hu2⟩
theorem sort_ok (o : Od lt n) (h1 : 1 ≤ n) : ∃ q, kRun lt (kas_sort n) = q ∧ Pm q n ∧ Up lt q n := by
  have hp : Pm (List.range n).toArray n := by
    have ge : ∀ i, i < n → (List.range n).toArray.getD i 0 = i := fun i hi => getD_of (by simp [hi])
    exact ⟨by simp, fun i hi => by rw [ge i hi]; exact hi, fun i j hi hj ne => by rw [ge i hi, ge j hj]; exact ne, Array.Perm.refl _⟩
  unfold kas_sort
  rw [kRun_bind]
  obtain ⟨r, q, e, hq, a1, a2, a3⟩ := count_ok o hp h1
  rw [e]
  by_cases c : r < n
  · rw [if_pos c]
    have em : max r 1 = r := by omega
    show ∃ q', kRun lt (kas_bin (n - max r 1) q (max r 1)) = q' ∧ _
    rw [em]
    obtain ⟨q2, e2, b1, b2⟩ := bin_ok o (n - r) q r hq (by omega) a1 a3
    exact ⟨q2, e2, b1, by rw [show r + (n - r) = n by omega] at b2; exact b2⟩
  · rw [if_neg c]
    exact ⟨q, rfl, hq, by rw [show r = n by omega] at a3; exact a3⟩
end
end L2
namespace L2
open PySem PySem.Spec PyProof.Rows
def kLt : List Key → List Key → Bool
  | [.inr s, .inl a, .inl b], [.inr t, .inl c, .inl d] => if s = t then (if a = c then decide (b < d) else decide (a < c)) else decide (s.cps.toList < t.cps.toList)
  | _, _ => false
def Tri (k : List Key) : Prop := ∃ s a b, k = [.inr s, .inl a, .inl b]
theorem str_lt_tr {s t u : Str} (h1 : s.cps.toList < t.cps.toList) (h2 : t.cps.toList < u.cps.toList) : s.cps.toList < u.cps.toList := List.lt_trans h1 h2
theorem str_ext {s t : Str} (h : s.cps.toList = t.cps.toList) : s = t := by
  cases s; cases t
  rw [Str.mk.injEq]
  exact Array.toList_inj.mp h
theorem str_to {s t : Str} (h : s ≠ t) : s.cps.toList < t.cps.toList ∨ t.cps.toList < s.cps.toList := by
  by_cases c : s.cps.toList < t.cps.toList
  · exact .inl c
  · by_cases d : t.cps.toList < s.cps.toList
    · exact .inr d
    · exact absurd (str_ext (List.le_antisymm (List.not_lt.mp d) (List.not_lt.mp c))) h
theorem str_ir {s : Str} : ¬ s.cps.toList < s.cps.toList := List.lt_irrefl _
theorem kLt_ir {k : List Key} : kLt k k = false := by
  by_cases h : Tri k
  · obtain ⟨s, a, b, rfl⟩ := h
    show (if s = s then (if a = a then decide (b < b) else decide (a < a)) else decide (s.cps.toList < s.cps.toList)) = false
    rw [if_pos rfl, if_pos rfl]
    simp
  · cases e : kLt k k with
    | false => rfl
    | true =>
      unfold kLt at e
      split at e
      · exact absurd ⟨_, _, _, rfl⟩ h
      · cases e
theorem kLt_to {x y : List Key} (hx : Tri x) (hy : Tri y) (ne : x ≠ y) : kLt x y = true ∨ kLt y x = true := by
  obtain ⟨s, a, b, rfl⟩ := hx
  obtain ⟨t, c, d, rfl⟩ := hy
  show (if s = t then (if a = c then decide (b < d) else decide (a < c)) else decide (s.cps.toList < t.cps.toList)) = true ∨ (if t = s then (if c = a then decide (d < b) else decide (c < a)) else decide (t.cps.toList < s.cps.toList)) = true
  by_cases e1 : s = t
  · subst e1
    rw [if_pos rfl, if_pos rfl]
    by_cases e2 : a = c
    · subst e2
      rw [if_pos rfl, if_pos rfl]
      have : b ≠ d := fun z => ne (by rw [z])
      simp only [decide_eq_true_eq]
      omega
    · rw [if_neg e2, if_neg (Ne.symm e2)]
      simp only [decide_eq_true_eq]
      omega
  · rw [if_neg e1, if_neg (Ne.symm e1)]
    simp only [decide_eq_true_eq]
    exact str_to e1
theorem kLt_tr {x y z : List Key} (hx : Tri x) (hy : Tri y) (hz : Tri z) (h1 : kLt x y = true) (h2 : kLt y z = true) : kLt x z = true := by
  obtain ⟨s, a, b, rfl⟩ := hx
  obtain ⟨t, c, d, rfl⟩ := hy
  obtain ⟨u, e, f, rfl⟩ := hz
  have h1 : (if s = t then (if a = c then decide (b < d) else decide (a < c)) else decide (s.cps.toList < t.cps.toList)) = true := h1
  have h2 : (if t = u then (if c = e then decide (d < f) else decide (c < e)) else decide (t.cps.toList < u.cps.toList)) = true := h2
  show (if s = u then (if a = e then decide (b < f) else decide (a < e)) else decide (s.cps.toList < u.cps.toList)) = true
  by_cases e1 : s = t
  · subst e1
    rw [if_pos rfl] at h1
    by_cases e2 : s = u
    · subst e2
      rw [if_pos rfl] at h2 ⊢
      by_cases c1 : a = c
      · subst c1
        rw [if_pos rfl] at h1
        by_cases c2 : a = e
        · subst c2
          rw [if_pos rfl] at h2 ⊢
          simp only [decide_eq_true_eq] at h1 h2 ⊢
          omega
        · rw [if_neg c2] at h2 ⊢
          exact h2
      · rw [if_neg c1] at h1
        simp only [decide_eq_true_eq] at h1
        by_cases c2 : c = e
        · subst c2
          rw [if_neg c1]
          simpa using h1
        · rw [if_neg c2] at h2
          simp only [decide_eq_true_eq] at h2
          rw [if_neg (by omega)]
          simp only [decide_eq_true_eq]
          omega
    · rw [if_neg e2] at h2 ⊢
      exact h2
  · rw [if_neg e1] at h1
    simp only [decide_eq_true_eq] at h1
    by_cases e2 : t = u
    · subst e2
      rw [if_neg e1]
      simpa using h1
    · rw [if_neg e2] at h2
      simp only [decide_eq_true_eq] at h2
      have h3 := str_lt_tr h1 h2
      rw [if_neg (fun z => by rw [z] at h1; exact str_ir (str_lt_tr h1 h2))]
      simpa using h3
theorem kLt_uq : ∀ {a b : List (List Key)}, a.Perm b → (∀ k ∈ a, Tri k) → a.Pairwise (kLt · · = true) → b.Pairwise (kLt · · = true) → a = b
  | [], b, h, _, _, _ => (List.Perm.nil_eq h)
  | x :: a, b, h, ht, h1, h2 => by
    have hx : x ∈ b := h.mem_iff.mp (List.mem_cons_self ..)
    cases b with
    | nil => cases hx
    | cons y b =>
      have hty : Tri y := ht y (h.mem_iff.mpr (List.mem_cons_self ..))
      have htx : Tri x := ht x (List.mem_cons_self ..)
      have e : x = y := by
        rcases List.mem_cons.mp hx with e | hx
        · exact e
        · have hy : y ∈ x :: a := h.mem_iff.mpr (List.mem_cons_self ..)
          rcases List.mem_cons.mp hy with e | hy
          · exact e.symm
          · have a1 := (List.pairwise_cons.mp h1).1 y hy
            have a2 := (List.pairwise_cons.mp h2).1 x hx
            have := kLt_tr htx hty htx a1 a2
            rw [kLt_ir] at this
            cases this
      subst e
      rw [kLt_uq (List.perm_cons x |>.mp h) (fun k hk => ht k (List.mem_cons_of_mem _ hk)) (List.pairwise_cons.mp h1).2 (List.pairwise_cons.mp h2).2]
def TriOb (h : Heap) (v : Value) (k : List Key) : Prop := ∃ x o xs n s a b t1 t2 t3, v = .ref x ∧ h.get? x = some o ∧ o.cls = .type "tuple" ∧ o.data = .seq xs n ∧ xs.toList = [.str s t1, .int a t2, .int b t3] ∧ k = [.inr s, .inl a, .inl b]
theorem TriOb.tri {h : Heap} {v : Value} {k : List Key} (x : TriOb h v k) : Tri k := let ⟨_, _, _, _, s, a, b, _, _, _, _, _, _, _, _, e⟩ := x; ⟨s, a, b, e⟩
theorem tri_lt {prog : Program} {w : World} {A : Around} {E : Value → Shared → Prop} {s : Shared} {Q : Bool → Shared → Prop} {u v : Value} {k l : List Key} (hu : TriOb s.heap u k) (hv : TriOb s.heap v l) (q : Q (kLt k l) s) : wpAny (model prog w) A (keyLt' (tuples' true) u v) Q E s := by
  obtain ⟨x, o, xs, n, s1, a, b, t1, t2, t3, rfl, g1, g2, g3, g4, rfl⟩ := hu
  obtain ⟨y, o', ys, n', s2, c, d, u1, u2, u3, rfl, f1, f2, f3, f4, rfl⟩ := hv
  refine PySem.W.kat_lt g1 g3 f1 f3 ?_
  rw [g4, f4]
  have q : Q (if s1 = s2 then (if a = c then decide (b < d) else decide (a < c)) else decide (s1.cps.toList < s2.cps.toList)) s := q
  show PySem.W.KatLex prog w A true _ Q [(.str s1 t1, .str s2 u1), (.int a t2, .int c u2), (.int b t3, .int d u3)] 0 s
  refine PySem.W.kat_cons (wpAny_eqBool_str ?_)
  unfold PySem.W.KatGo
  by_cases e1 : s1 = s2
  · rw [decide_eq_true e1, if_pos rfl]
    rw [if_pos e1] at q
    refine PySem.W.kat_cons (wpAny_eqBool_int ?_)
    unfold PySem.W.KatGo
    by_cases e2 : a = c
    · rw [show (a == c) = true by simpa using e2, if_pos rfl]
      rw [if_pos e2] at q
      refine PySem.W.kat_cons (wpAny_eqBool_int ?_)
      unfold PySem.W.KatGo
      by_cases e3 : b = d
      · rw [show (b == d) = true by simpa using e3, if_pos rfl]
        refine PySem.W.kat_nil ?_
        have l1 : xs.size = 3 := by rw [← Array.length_toList, g4]; rfl
        have l2 : ys.size = 3 := by rw [← Array.length_toList, f4]; rfl
        rw [l1, l2]
        rw [e3] at q
        simpa using q
      · rw [show (b == d) = false by simpa using e3, if_neg (by simp)]
        exact PySem.W.kat_one _ _ (PySem.P.lt_int q)
    · rw [show (a == c) = false by simpa using e2, if_neg (by simp)]
      rw [if_neg e2] at q
      exact PySem.W.kat_one _ _ (PySem.P.lt_int q)
  · rw [decide_eq_false e1, if_neg (by simp)]
    rw [if_neg e1] at q
    show wpAny (model prog w) A (oneLt' true _ _) Q _ s
    rw [← keyLt'_oneType]
    exact PySem.W.kas_lt_str q
theorem prd_at {α β : Type} {F : α → β → Prop} : ∀ {xs : List α} {ys : List β} {i : Nat} {x : α}, Paired F xs ys → xs[i]? = some x → ∃ y, ys[i]? = some y ∧ F x y
  | _, _, _, _, .nil, e => by simp at e
  | _, _, 0, _, .cons r _, e => by simp at e; subst e; exact ⟨_, rfl, r⟩
  | _, _, i + 1, x, .cons _ t, e => by
    obtain ⟨u, h1, h2⟩ := prd_at (i := i) (x := x) t (by simpa using e)
    exact ⟨u, by simpa using h1, h2⟩
theorem tri_keep {h h' : Heap} {v : Value} {k : List Key} (x : TriOb h v k) (hk : ∀ y o, h.get? y = some o → o.cls = .type "tuple" → h'.get? y = some o) : TriOb h' v k := by
  obtain ⟨x, o, xs, n, s1, a, b, t1, t2, t3, e, g1, g2, r⟩ := x
  exact ⟨x, o, xs, n, s1, a, b, t1, t2, t3, e, hk _ _ g1 g2, g2, r⟩
theorem tri_tups {h : Heap} : ∀ {vs : List Value} {ks : List (List Key)}, Paired (TriOb h) vs ks → ∃ fs, PySem.W.KatTups h vs fs ∧ fs.length = vs.length ∧ ∀ f ∈ fs, ∃ s t, f = .str s t
  | _, _, .nil => ⟨[], PySem.W.KatTups.nil, rfl, fun f hf => by cases hf⟩
  | _, _, .cons ⟨x, o, xs, n, s1, a, b, t1, t2, t3, e, g1, g2, g3, g4, _⟩ r => by
    obtain ⟨fs, h1, h2, h3⟩ := tri_tups r
    subst e
    refine ⟨.str s1 t1 :: fs, PySem.W.KatTups.cons g1 g2 g3 (by rw [← Array.getElem?_toList, g4]; rfl) h1, by rw [List.length_cons, List.length_cons, h2], fun f hf => ?_⟩
    rcases List.mem_cons.mp hf with rfl | hf
    · exact ⟨_, _, rfl⟩
    · exact h3 f hf
section
variable {prog : Program} {w : World} {A : Around} {E : Value → Shared → Prop} {s : Shared}
theorem list_sort_tri {a : Addr} {vs : List Value} {ks : List (List Key)} {n : Nat} {P : Fin → Shared → Prop} {F : Value → List Key → Prop} (hF : ∀ v k, F v k → TriOb s.heap v k) (ho : s.heap.get? a = some (seqObj "list" vs.toArray n)) (h2 : 2 ≤ vs.length) (h64 : vs.length < 64) (ht : Paired F vs ks) (nd : ks.Nodup)
    (h : ∀ (out : List Value) (ks' : List (List Key)), Paired F out ks' → ks'.Perm ks → ks'.Pairwise (kLt · · = true) → P (.done (.ret .none)) { s with heap := sortedHeap s.heap a vs out.toArray }) : wpAny (model prog w) A (Builtin.«list.sort» ⟨[.ref a], []⟩) P E s := by
  rw [list_sort_plain]
  have ha : a < s.heap.objs.size := Heap.lt_size ho
  refine wpAny_bind (listItems_at ho rfl ?_)
  refine wpAny_bind (listUpdate_at ho rfl ?_)
  obtain ⟨e1, ho1⟩ : ∃ e1, (s.heap.update a (Obj.mapSeq fun _ => #[])).get? a = some (seqObj "list" #[] e1) := ⟨_, get?_update_seq ho (fun _ => #[])⟩
  refine wpAny_bind (seqEpoch_at ho1 rfl ?_)
  refine wpAny_bind (wpAny_newTuple ?_)
  refine wpAny_bind (wpAny_newList ?_)
  refine wpAny_holding ?_
  have ho6 : (((s.heap.update a (Obj.mapSeq fun _ => #[])).push (seqObj "tuple" vs.toArray 0)).push (seqObj "list" #[] 0)).get? a = some (seqObj "list" #[] e1) := by
    rw [Heap.get?_push_ne _ _ _ (by rw [size_push', Heap.size_update]; exact Nat.ne_of_lt (Nat.lt_succ_of_lt ha)), Heap.get?_push_ne _ _ _ (by rw [Heap.size_update]; exact Nat.ne_of_lt ha)]
    exact ho1
  show wpAny (model prog w) A _ P E { s with heap := ((s.heap.update a (Obj.mapSeq fun _ => #[])).push (seqObj "tuple" vs.toArray 0)).push (seqObj "list" #[] 0) }
  dsimp only
  have hsz : ¬ vs.toArray.size < 2 := by rw [List.size_toArray]; omega
  rw [if_neg hsz, if_neg hsz]
  have kp : ∀ y o, s.heap.get? y = some o → o.cls = .type "tuple" → (((s.heap.update a (Obj.mapSeq fun _ => #[])).push (seqObj "tuple" vs.toArray 0)).push (seqObj "list" #[] 0)).get? y = some o := fun y o hy hc => by
    refine Heap.get?_push_of_some _ (Heap.get?_push_of_some _ ?_)
    rw [Heap.get?_update_ne _ _ _ _ (fun z => by rw [z, ho] at hy; cases hy; exact absurd (Value.type.inj hc) (by decide))]
    exact hy
  have ht6 : Paired (TriOb (((s.heap.update a (Obj.mapSeq fun _ => #[])).push (seqObj "tuple" vs.toArray 0)).push (seqObj "list" #[] 0))) vs ks := Paired.mapP ht fun _ _ q => tri_keep (hF _ _ q) kp
  generalize hh6 : ((s.heap.update a (Obj.mapSeq fun _ => #[])).push (seqObj "tuple" vs.toArray 0)).push (seqObj "list" #[] 0) = h6 at *
  obtain ⟨fs, f1, f2, f3⟩ := tri_tups ht6
  refine wpAny_bind (PySem.W.kat_kind (fs := fs) (T := .type "str") f1 (by omega) (fun v hv => ?_) (by decide) ?_)
  · obtain ⟨s9, t9, rfl⟩ := f3 v hv
    intro A' Q' E' s' _ q'
    exact wpAny_pure q'
  rw [show (Value.type "str" != Value.type "tuple") = true by decide]
  have hkl := Paired.length ht6
  have key : ∀ i, i < vs.length → ∃ v k, vs.getD i .none = v ∧ ks.getD i [] = k ∧ ks[i]? = some k ∧ TriOb h6 v k := fun i hi => by
    obtain ⟨k, hk1, hk2⟩ := prd_at ht6 (List.getElem?_eq_getElem hi)
    exact ⟨vs[i], k, by rw [List.getD_eq_getElem?_getD, List.getElem?_eq_getElem hi]; rfl, by rw [List.getD_eq_getElem?_getD, hk1]; rfl, hk1, hk2⟩
  have od : Od (fun i j => kLt (ks.getD i []) (ks.getD j [])) vs.length := by
    refine ⟨fun i j k hi hj hk h1 h2 => ?_, fun i hi => kLt_ir, fun i j hi hj ne => ?_⟩
    · obtain ⟨_, _, _, a1, _, a2⟩ := key i hi
      obtain ⟨_, _, _, b1, _, b2⟩ := key j hj
      obtain ⟨_, _, _, c1, _, c2⟩ := key k hk
      exact kLt_tr (by rw [a1]; exact a2.tri) (by rw [b1]; exact b2.tri) (by rw [c1]; exact c2.tri) h1 h2
    · obtain ⟨_, x, _, a1, a3, a2⟩ := key i hi
      obtain ⟨_, y, _, b1, b3, b2⟩ := key j hj
      refine kLt_to (by rw [a1]; exact a2.tri) (by rw [b1]; exact b2.tri) ?_
      rw [a1, b1]
      intro e
      rw [e, ← b3] at a3
      exact ne ((List.getElem?_inj (by rw [← hkl]; exact hi) nd).mp a3)
  obtain ⟨p, ep, pm, up⟩ := sort_ok od (by omega)
  have run := PySem.W.kas_runs (prog := prog) (w := w) (A := A) (E := E) (κ := tuples' true) (it := pairsOf vs) (n := vs.length) (s := { s with heap := h6 }) (G := fun p' s' => p' = p ∧ s' = { s with heap := h6 }) (Q := fun _ st' s' => arrOf st' = Array.map (PySem.W.kas_item (pairsOf vs)) p ∧ failedOf st' = none ∧ s' = { s with heap := h6 }) h2 h64 (fun p' st' s' _ e2 e3 e4 => ⟨by rw [e2, e4.1], e3, e4.2⟩) (kWp_run (lt := fun i j => kLt (ks.getD i []) (ks.getD j [])) (R := fun x => In x vs.length) (fun i j C hi hj c => ?_) _ (okt_sort (by omega)) ⟨ep, rfl⟩)
  · have er : Array.map (PySem.W.kas_item (pairsOf vs)) (List.range vs.length).toArray = pairsOf vs := by
      have := PySem.W.kas_range (pairsOf vs)
      rw [pairsOf_size] at this
      exact this
    unfold PySem.W.kasC PySem.W.kas_st at run
    rw [er] at run
    refine wpAny_bind (thn run fun r s' ⟨b1, b2, b3⟩ => ?_)
    subst b3
    refine wpAny_bind (seqEpoch_at ho6 rfl ?_)
    have hm : (Array.map (fun x => x.snd) (arrOf r.snd)) = (p.toList.map fun i => vs.getD i .none).toArray := by
      rw [b1]
      apply Array.ext'
      rw [Array.toList_map, Array.toList_map, List.map_map]
      refine List.map_congr_left fun i _ => ?_
      show (PySem.W.kas_item (pairsOf vs) i).snd = _
      rw [PySem.W.kas_item_eq]
    rw [hm, b2]
    refine wpAny_bind (listUpdate_at ho6 rfl ?_ (hsz2 := by rw [sizeLine_eq, List.size_toArray, List.length_map, Array.length_toList, pm.sz]; omega))
    simp only [bne_self_eq_false, Bool.false_eq_true, if_false]
    refine wpAny_pure ?_
    have hpl : p.toList.length = vs.length := by rw [Array.length_toList]; exact pm.sz
    have hpe : p.toList.Perm (List.range vs.length) := Array.perm_iff_toList_perm.mp pm.pe
    have hlt : ∀ i ∈ p.toList, i < vs.length := fun i hi => List.mem_range.mp (hpe.mem_iff.mp hi)
    have e9 : ks = (List.range vs.length).map fun i => ks.getD i [] := by
      refine List.ext_getElem? fun i => ?_
      rw [List.getElem?_map]
      by_cases c : i < vs.length
      · obtain ⟨_, k, _, a2, a3, _⟩ := key i c
        rw [List.getElem?_range c, a3]
        show some k = some (ks.getD i [])
        rw [a2]
      · rw [List.getElem?_eq_none (by rw [← hkl]; omega), List.getElem?_eq_none (by rw [List.length_range]; omega)]
        rfl
    have := h (p.toList.map fun i => vs.getD i .none) (p.toList.map fun i => ks.getD i []) ?_ ?_ ?_
    · rw [← hh6]
      exact this
    · clear up pm e9 hpl hpe run ep b1 b2 hm
      generalize p.toList = l at *
      induction l with
      | nil => exact .nil
      | cons i l ih =>
        refine .cons ?_ (ih fun j hj => hlt j (List.mem_cons_of_mem _ hj))
        have hi := hlt i (List.mem_cons_self ..)
        obtain ⟨k, hk1, hk2⟩ := prd_at ht (List.getElem?_eq_getElem hi)
        show F (vs.getD i .none) (ks.getD i [])
        rw [List.getD_eq_getElem?_getD, List.getElem?_eq_getElem hi, List.getD_eq_getElem?_getD, hk1]
        exact hk2
    · have := hpe.map fun i => ks.getD i []
      rw [← e9] at this
      exact this
    · rw [List.pairwise_map, List.pairwise_iff_getElem]
      intro i j hi hj hij
      have := up i j hij (by rw [← hpl]; exact hj)
      rw [Array.getD_eq_getD_getElem?, Array.getD_eq_getD_getElem?, ← Array.getElem?_toList, ← Array.getElem?_toList, List.getElem?_eq_getElem hi, List.getElem?_eq_getElem hj] at this
      exact this
  · obtain ⟨v, k, a1, a2, a3, a4⟩ := key i hi
    obtain ⟨u, l, b1, b2, b3, b4⟩ := key j hj
    unfold PySem.W.kas_cmp
    rw [PySem.W.kas_item_eq, PySem.W.kas_item_eq, a1, b1]
    rw [a2, b2] at c
    exact tri_lt a4 b4 c
theorem list_sort_few {a : Addr} {vs : List Value} {n : Nat} {P : Fin → Shared → Prop} (ho : s.heap.get? a = some (seqObj "list" vs.toArray n)) (h2 : vs.length < 2)
    (h : P (.done (.ret .none)) { s with heap := sortedHeap s.heap a vs vs.toArray }) : wpAny (model prog w) A (Builtin.«list.sort» ⟨[.ref a], []⟩) P E s := by
  rw [list_sort_plain]
  have ha : a < s.heap.objs.size := Heap.lt_size ho
  refine wpAny_bind (listItems_at ho rfl ?_)
  refine wpAny_bind (listUpdate_at ho rfl ?_)
  obtain ⟨e1, ho1⟩ : ∃ e1, (s.heap.update a (Obj.mapSeq fun _ => #[])).get? a = some (seqObj "list" #[] e1) := ⟨_, get?_update_seq ho (fun _ => #[])⟩
  refine wpAny_bind (seqEpoch_at ho1 rfl ?_)
  refine wpAny_bind (wpAny_newTuple ?_)
  refine wpAny_bind (wpAny_newList ?_)
  refine wpAny_holding ?_
  have ho6 : (((s.heap.update a (Obj.mapSeq fun _ => #[])).push (seqObj "tuple" vs.toArray 0)).push (seqObj "list" #[] 0)).get? a = some (seqObj "list" #[] e1) := by
    rw [Heap.get?_push_ne _ _ _ (by rw [size_push', Heap.size_update]; exact Nat.ne_of_lt (Nat.lt_succ_of_lt ha)), Heap.get?_push_ne _ _ _ (by rw [Heap.size_update]; exact Nat.ne_of_lt ha)]
    exact ho1
  show wpAny (model prog w) A _ P E { s with heap := ((s.heap.update a (Obj.mapSeq fun _ => #[])).push (seqObj "tuple" vs.toArray 0)).push (seqObj "list" #[] 0) }
  dsimp only
  have hsz : vs.toArray.size < 2 := by rw [List.size_toArray]; exact h2
  rw [if_pos hsz, if_pos hsz]
  refine wpAny_bind (wpAny_pure ?_)
  rw [StateT.run_pure]
  refine wpAny_bind (wpAny_pure ?_)
  dsimp only
  refine wpAny_bind (seqEpoch_at ho6 rfl ?_)
  have hm : Array.map (fun x => x.snd) (arrOf (SortSt.mk' general' (vs.toArray.zip vs.toArray) #[] 7 none)) = vs.toArray := by
    show (vs.toArray.zip vs.toArray).map (fun x => x.snd) = vs.toArray
    apply Array.ext'
    rw [Array.toList_map, Array.toList_zip]
    exact List.map_snd_zip (Nat.le_refl _)
  show wpAny _ _ (Builtin.List.listUpdate (.ref a) (fun _ => Array.map (fun x => x.snd) (arrOf (SortSt.mk' general' (vs.toArray.zip vs.toArray) #[] 7 none))) >>= _) _ _ _
  rw [hm]
  refine wpAny_bind (listUpdate_at ho6 rfl ?_ (hsz2 := by rw [sizeLine_eq, List.size_toArray]; omega))
  simp only [bne_self_eq_false, Bool.false_eq_true, if_false]
  exact wpAny_pure h
theorem list_sort_tris {a : Addr} {vs : List Value} {ks : List (List Key)} {n : Nat} {P : Fin → Shared → Prop} {F : Value → List Key → Prop} (hF : ∀ v k, F v k → TriOb s.heap v k) (ho : s.heap.get? a = some (seqObj "list" vs.toArray n)) (h64 : vs.length < 64) (ht : Paired F vs ks) (nd : ks.Nodup)
    (h : ∀ (out : List Value) (ks' : List (List Key)), Paired F out ks' → ks'.Perm ks → ks'.Pairwise (kLt · · = true) → P (.done (.ret .none)) { s with heap := sortedHeap s.heap a vs out.toArray }) : wpAny (model prog w) A (Builtin.«list.sort» ⟨[.ref a], []⟩) P E s := by
  by_cases h2 : 2 ≤ vs.length
  · exact list_sort_tri hF ho h2 h64 ht nd h
  · refine list_sort_few ho (by omega) (h vs ks ht (List.Perm.refl _) ?_)
    have hl := Paired.length ht
    match ks, hl with
    | [], _ => exact .nil
    | [k], _ => exact List.pairwise_singleton _ _
    | _ :: _ :: _, hl => rw [List.length_cons, List.length_cons] at hl; omega
theorem tri_of {H : Hp} {h : Heap} {a : Addr} {k : List Key} (ok : HOk prog w H h) (e : H a = some (.tup (k.map kV))) (ht : Tri k) : TriOb h (.ref a) k := by
  obtain ⟨s1, x, y, rfl⟩ := ht
  obtain ⟨_, its, r, o, g1, g2, n, g3⟩ := ok _ _ e
  cases r with
  | cons r1 r => cases r with
    | cons r2 r => cases r with
      | cons r3 r =>
        cases r
        obtain ⟨t1, rfl⟩ := r1
        obtain ⟨t2, rfl⟩ := r2
        obtain ⟨t3, rfl⟩ := r3
        exact ⟨a, o, _, n, s1, x, y, t1, t2, t3, rfl, g1, g2, g3, rfl, rfl⟩
theorem kys_out {H : Hp} : ∀ {out : List Value} {ks : List (List Key)}, Paired (fun v k => Tri k ∧ ∃ a, v = Value.ref a ∧ H a = some (.tup (k.map kV))) out ks → ∃ us, Vals us out ∧ KysAt H ks us
  | _, _, .nil => ⟨[], .nil, .nil⟩
  | _, _, .cons ⟨_, a, e, h⟩ r => by
    obtain ⟨us, h1, h2⟩ := kys_out r
    exact ⟨.ref a :: us, .cons e h1, .cons ⟨a, rfl, h⟩ h2⟩
end
theorem call_sortedTd {X : Cx} (hc : X.calm = true) : CallR X (.builtin "sorted") (fun xs H Q => ∃ p kvs, xs = [.ref p] ∧ H p = some (.dT kvs) ∧ kvs.length < 64 ∧ (∀ kv ∈ kvs, Tri kv.1) ∧ ∀ l us ks, H l = none → KysAt H ks us → ks.Perm (kvs.map (·.1)) → ks.Pairwise (kLt · · = true) → Q (.ref l) (upd H l (.lst us))) := by
  intro pins s σ H xs us Q I r h
  obtain ⟨p, kvs, rfl, hp, h64, htri, q⟩ := h
  obtain ⟨u, rfl, ru⟩ := vals1 r
  cases ru
  obtain ⟨z, nd, ys, rel, o, es, ep, e0, ec, ed, he, hnd⟩ := dt_of I.hok hp
  have hsz := size_of_entries he
  have hlen := Paired.length rel
  refine Calls.call_function_entry kind_sorted plain_sorted entry_sorted (args_sorted1 _) ?_
  unfold Builtin.«sorted»
  refine wpAny_bind (m := checkCount "sorted" 1 1 _) (wpAny_pure ?_)
  refine wpAny_bind (PySem.W.kdu_collect (A := X.A.in1) (raw_src (es := es) (ep := ep) nd) (I.ok.hd hc) ⟨o, e0, ec, ed⟩ (by rw [sizeLine_eq]; omega) fun h' tk acc hk hacc => ?_)
  have ea : acc.toList = ys.map fun y => Value.ref y.2.1 := by
    refine List.ext_getElem? fun j => ?_
    rw [List.getElem?_map]
    by_cases c : j < es.size
    · have hj : j < acc.toList.length := by rw [Array.length_toList, hacc.1]; exact c
      obtain ⟨_, e⟩ := hacc.2 j _ (by rw [← Array.getElem?_toList]; exact List.getElem?_eq_getElem hj)
      rw [List.getElem?_eq_getElem hj, e]
      have e3 := entry_at he j
      rw [Array.getElem?_eq_getElem c, List.getElem?_eq_getElem (by omega)] at e3
      have e3 := Option.some.inj e3
      rw [e3, List.getElem?_eq_getElem (by omega)]
      rfl
    · rw [List.getElem?_eq_none (by rw [Array.length_toList, hacc.1]; omega), List.getElem?_eq_none (by omega)]
      rfl
  have hal : acc.toList.length = kvs.length := by rw [ea, List.length_map]; exact hlen.symm
  have hP : Paired (fun v k => Tri k ∧ ∃ a, v = Value.ref a ∧ H a = some (.tup (k.map kV))) acc.toList (kvs.map (·.1)) := by
    rw [ea]
    clear ea hal he hnd hsz hlen h64 q hp z
    induction rel with
    | nil => exact .nil
    | @cons x y _ _ r t ih => exact .cons ⟨htri x (List.mem_cons_self ..), _, rfl, r.2.1⟩ (ih fun kv hkv => htri kv (List.mem_cons_of_mem _ hkv))
  have hndk : (kvs.map (·.1)).Nodup := by
    have : kvs.map (·.1) = ys.map (·.1) := by
      clear ea hal he hnd hsz hlen h64 q hp hP htri z
      induction rel with
      | nil => rfl
      | cons r t ih => rw [List.map_cons, List.map_cons, ih, r.1]
    rw [this]; exact hnd.2
  have I1 : Inv X pins σ H { s with heap := h', toks := tk } := I.kept (t' := tk) hk
  refine wpAny_bind (wpAny_newList ?_ (by rw [sizeLine_eq, hal]; omega))
  have hoL : (h'.push (seqObj "list" acc.toList.toArray 0)).get? h'.objs.size = some (seqObj "list" acc.toList.toArray 0) := Heap.get?_push_size _ rfl
  refine wpAny_bind (wpAny_holding (wpAny_call_entry slot_list_sort ⟨_, hoL, rfl⟩ entry_list_sort (list_sort_tris (F := fun v k => Tri k ∧ ∃ a, v = Value.ref a ∧ H a = some (.tup (k.map kV))) (fun v k ⟨h1, a, e, h2⟩ => ?_) hoL (by rw [hal]; exact h64) hP hndk fun out ks o1 o2 o3 => ⟨_, rfl, ?_⟩) (args_list_sort _)))
  · subst e
    exact tri_keep (tri_of I1.hok h2 h1) fun y o hy _ => Heap.get?_push_of_some _ hy
  obtain ⟨e, he2⟩ := sortedHeap_at (out := out.toArray) hoL
  obtain ⟨us, v1, v2⟩ := kys_out o1
  have hul := v1.length
  have hol : out.length = kvs.length := by rw [Paired.length o1, o2.length_eq, List.length_map]
  refine wpAny_pure ⟨_, rfl, ⟨.ref h'.objs.size, _, I1.laid (t' := tk) (fun b o hb => ?_) (Nat.le_refl _) (show ObjOk X.prog X.w _ _ _ (.lst us) from ⟨by rw [sizeLine_eq, hul, hol]; omega, out, e, v1, he2⟩), rfl, q _ us ks (I1.hok.fresh (Nat.le_refl _)) v2 o2 o3⟩⟩
  have hlt := Heap.lt_size hb
  rw [sortedHeap_old (Nat.ne_of_lt hlt) (by rw [size_push']; exact Nat.lt_succ_of_lt hlt)]
  exact Heap.get?_push_of_some _ hb
end L2
set_option hygiene false in
local macro_rules | `(tactic| walk_at "wp") => `(tactic| simp only [↓L2.rI0_ii, ↓L2.rI_ii, ↓L2.ex_int, ↓L2.ex_bl, ↓L2.ex_ref, L2.tSeq, L2.tNext, L2.tAsg, L2.gName, L2.tRet, L2.tDrop, L2.tIfS, L2.tIf, L2.tTest, L2.tB, L2.tOp, L2.tVar, L2.tVarM, L2.tC, L2.rI, L2.rI0, L2.tAnd, L2.tOr, L2.tNot, L2.tAndV, L2.tOrV, L2.tNotV, L2.tCallE, L2.tMethE, L2.tMakeE, L2.tCB, L2.tCons, L2.tNil, L2.tLst, L2.tTup, L2.rIxL, L2.rIxT, L2.rIx2, L2.rIn, L2.tFld, L2.sFld, L2.tRaise, L2.rEq, L2.rNe, L2.start, L2.CDiv, L2.CPow, L2.CMul, L2.kn_int, L2.kn_bl, L2.kn_str, L2.cxOf_K, L2.cxOfH_K, L2.scal_ii, L2.scal_bb, L2.scal_ss, L2.lstO_lst, L2.tupO_tup, L2.upd_same, L2.upd_upd, L2.HO.ins.injEq, L2.rCat, L2.rSlL, L2.tSl, L2.tPart, L2.clsV_ref, L2.clsV_ty, L2.tForE, L2.iRng1, L2.iList, L2.iEnum, L2.gTup, L2.gNil, L2.gCons, L2.tBM, L2.rAppend, L2.gSub, L2.rSetL, L2.tComp, L2.tYes, Option.join_some, Option.join_none, PySem.sizeLine_eq, Nat.reduceLeDiff, eq_self, decide_eq_true_eq, 
  List.map_cons, List.map_nil, List.length_cons, List.length_nil, List.cons_append, List.nil_append, List.append_nil, List.replicate, Nat.reduceSub, Nat.reduceAdd, List.getElem?_cons_zero, List.getElem?_cons_succ, List.set_cons_zero, List.set_cons_succ,
  Option.some.injEq, List.cons.injEq, L2.V.int.injEq, L2.V.bl.injEq, L2.V.ref.injEq, L2.V.ty.injEq, L2.V.str.injEq, exists_eq_left, exists_eq_left', exists_and_left, exists_eq', exists_const, and_assoc, and_true, true_and, ↓reduceIte, Int.reduceLE, Int.reduceLT, Nat.reducePow, Int.reducePow, Int.reduceNeg, L2.na10, Nat.reduceLT, Int.reduceToNat, Int.reduceAdd, Int.reduceMul, Int.reduceSub, true_or, or_true, decide_true, decide_false])
namespace Pf
open PySem L2
def top (i : Nat) : Stmt := PySem.Challenge.pw_frameland_k65_twins.main.body.getD i (.Pass ⟨0, 0, 0, 0⟩)
abbrev s_swept : Stmt := top 5
theorem sc_swept : FnScope ["marks", "hand", "passed", "place"] ["marks", "hand"] (defScope s_swept) := ⟨rfl, rfl, rfl, by decide +kernel, rfl, by decide +kernel, by decide +kernel⟩
abbrev s_Sheet_init : Stmt := inClass (top 7) 0
theorem sc_Sheet_init : FnScope ["self", "boxes", "holder"] ["self", "boxes", "holder"] (defScope s_Sheet_init) := ⟨rfl, rfl, rfl, by decide +kernel, rfl, by decide +kernel, by decide +kernel⟩
abbrev s_Sheet_told_holders : Stmt := inClass (top 7) 1
theorem sc_Sheet_told_holders : FnScope ["self"] ["self"] (defScope s_Sheet_told_holders) := ⟨rfl, rfl, rfl, by decide +kernel, rfl, by decide +kernel, by decide +kernel⟩
abbrev s_Spots_init : Stmt := inClass (top 8) 0
theorem sc_Spots_init : FnScope ["self", "many"] ["self", "many"] (defScope s_Spots_init) := ⟨rfl, rfl, rfl, by decide +kernel, rfl, by decide +kernel, by decide +kernel⟩
abbrev s_Spots_first_empty : Stmt := inClass (top 8) 1
theorem sc_Spots_first_empty : FnScope ["self", "place", "sheet"] ["self"] (defScope s_Spots_first_empty) := ⟨rfl, rfl, rfl, by decide +kernel, rfl, by decide +kernel, by decide +kernel⟩
abbrev s_Spots_first_twin : Stmt := inClass (top 8) 2
theorem sc_Spots_first_twin : FnScope ["self", "twin"] ["self"] (defScope s_Spots_first_twin) := ⟨rfl, rfl, rfl, by decide +kernel, rfl, by decide +kernel, by decide +kernel⟩
abbrev s_Spots_live_count : Stmt := inClass (top 8) 3
theorem sc_Spots_live_count : FnScope ["self"] ["self"] (defScope s_Spots_live_count) := ⟨rfl, rfl, rfl, by decide +kernel, rfl, by decide +kernel, by decide +kernel⟩
abbrev s_Sheets_init : Stmt := inClass (top 10) 0
theorem sc_Sheets_init : FnScope ["self", "frames", "slots", "size"] ["self", "frames", "slots", "size"] (defScope s_Sheets_init) := ⟨rfl, rfl, rfl, by decide +kernel, rfl, by decide +kernel, by decide +kernel⟩
abbrev s_Sheets_fresh : Stmt := inClass (top 10) 1
theorem sc_Sheets_fresh : FnScope ["self", "sheet", "holder", "marks", "way"] ["self", "sheet", "holder", "marks"] (defScope s_Sheets_fresh) := ⟨rfl, rfl, rfl, by decide +kernel, rfl, by decide +kernel, by decide +kernel⟩
abbrev s_Sheets_back : Stmt := inClass (top 10) 2
theorem sc_Sheets_back : FnScope ["self", "slot", "marks", "coming", "way"] ["self", "slot", "marks"] (defScope s_Sheets_back) := ⟨rfl, rfl, rfl, by decide +kernel, rfl, by decide +kernel, by decide +kernel⟩
abbrev s_Sheets_let_go : Stmt := inClass (top 10) 4
theorem sc_Sheets_let_go : FnScope ["self", "spot", "holder", "sheet"] ["self", "spot", "holder"] (defScope s_Sheets_let_go) := ⟨rfl, rfl, rfl, by decide +kernel, rfl, by decide +kernel, by decide +kernel⟩
abbrev s_Sheets_holders_of : Stmt := inClass (top 10) 5
theorem sc_Sheets_holders_of : FnScope ["self", "spot", "sheet"] ["self", "spot"] (defScope s_Sheets_holders_of) := ⟨rfl, rfl, rfl, by decide +kernel, rfl, by decide +kernel, by decide +kernel⟩
abbrev s_Sheets_sheet_at : Stmt := inClass (top 10) 7
theorem sc_Sheets_sheet_at : FnScope ["self", "spot", "sheet"] ["self", "spot"] (defScope s_Sheets_sheet_at) := ⟨rfl, rfl, rfl, by decide +kernel, rfl, by decide +kernel, by decide +kernel⟩
abbrev s_Sheets_set_box : Stmt := inClass (top 10) 9
theorem sc_Sheets_set_box : FnScope ["self", "frame", "box", "value"] ["self", "frame", "box", "value"] (defScope s_Sheets_set_box) := ⟨rfl, rfl, rfl, by decide +kernel, rfl, by decide +kernel, by decide +kernel⟩
abbrev s_Sheets_live_sheets : Stmt := inClass (top 10) 11
theorem sc_Sheets_live_sheets : FnScope ["self"] ["self"] (defScope s_Sheets_live_sheets) := ⟨rfl, rfl, rfl, by decide +kernel, rfl, by decide +kernel, by decide +kernel⟩
abbrev s_Sheets_is_full : Stmt := inClass (top 10) 12
theorem sc_Sheets_is_full : FnScope ["self"] ["self"] (defScope s_Sheets_is_full) := ⟨rfl, rfl, rfl, by decide +kernel, rfl, by decide +kernel, by decide +kernel⟩
abbrev s_Sheets_told_frames : Stmt := inClass (top 10) 14
theorem sc_Sheets_told_frames : FnScope ["self", "told", "frame", "sheet"] ["self"] (defScope s_Sheets_told_frames) := ⟨rfl, rfl, rfl, by decide +kernel, rfl, by decide +kernel, by decide +kernel⟩
abbrev s_Sheets_told_slots : Stmt := inClass (top 10) 15
theorem sc_Sheets_told_slots : FnScope ["self"] ["self"] (defScope s_Sheets_told_slots) := ⟨rfl, rfl, rfl, by decide +kernel, rfl, by decide +kernel, by decide +kernel⟩
abbrev s_Sheets_lying_at : Stmt := inClass (top 10) 17
theorem sc_Sheets_lying_at : FnScope ["self", "spot", "spots"] ["self", "spot"] (defScope s_Sheets_lying_at) := ⟨rfl, rfl, rfl, by decide +kernel, rfl, by decide +kernel, by decide +kernel⟩
abbrev s_Sheets_told_slot : Stmt := inClass (top 10) 19
theorem sc_Sheets_told_slot : FnScope ["self", "slot", "sheet", "frame"] ["self", "slot"] (defScope s_Sheets_told_slot) := ⟨rfl, rfl, rfl, by decide +kernel, rfl, by decide +kernel, by decide +kernel⟩
abbrev s_Sheets_make_empty : Stmt := inClass (top 10) 21
theorem sc_Sheets_make_empty : FnScope ["self", "spot"] ["self", "spot"] (defScope s_Sheets_make_empty) := ⟨rfl, rfl, rfl, by decide +kernel, rfl, by decide +kernel, by decide +kernel⟩
abbrev s_Sheets_lose_twin : Stmt := inClass (top 10) 22
theorem sc_Sheets_lose_twin : FnScope ["self", "frame", "slot"] ["self", "frame"] (defScope s_Sheets_lose_twin) := ⟨rfl, rfl, rfl, by decide +kernel, rfl, by decide +kernel, by decide +kernel⟩
abbrev s_Sheets_frame_for : Stmt := inClass (top 10) 23
theorem sc_Sheets_frame_for : FnScope ["self", "coming_from", "marks", "frame", "choice"] ["self", "coming_from", "marks"] (defScope s_Sheets_frame_for) := ⟨rfl, rfl, rfl, by decide +kernel, rfl, by decide +kernel, by decide +kernel⟩
abbrev s_Sheets_put_out : Stmt := inClass (top 10) 24
theorem sc_Sheets_put_out : FnScope ["self", "frame", "coming_from", "sheet", "slot"] ["self", "frame", "coming_from"] (defScope s_Sheets_put_out) := ⟨rfl, rfl, rfl, by decide +kernel, rfl, by decide +kernel, by decide +kernel⟩
abbrev s_Sheets_slot_for : Stmt := inClass (top 10) 25
theorem sc_Sheets_slot_for : FnScope ["self", "frame", "coming_from", "empty", "twin"] ["self", "frame", "coming_from"] (defScope s_Sheets_slot_for) := ⟨rfl, rfl, rfl, by decide +kernel, rfl, by decide +kernel, by decide +kernel⟩
abbrev s_l_cell : Stmt := top 12
theorem sc_l_cell : FnScope ["_law_script", "_law_k"] ["_law_script", "_law_k"] (defScope s_l_cell) := ⟨rfl, rfl, rfl, by decide +kernel, rfl, by decide +kernel, by decide +kernel⟩
abbrev s_l_like : Stmt := top 13
theorem sc_l_like : FnScope ["_law_found", "_law_due_here", "_law_k"] ["_law_found", "_law_due_here"] (defScope s_l_like) := ⟨rfl, rfl, rfl, by decide +kernel, rfl, by decide +kernel, by decide +kernel⟩
abbrev s_l_come : Stmt := top 14
theorem sc_l_come : FnScope ["_law_where", "_law_bound", "_law_found", "_law_holder", "_law_frame", "_law_k"] ["_law_where", "_law_bound", "_law_found", "_law_holder"] (defScope s_l_come) := ⟨rfl, rfl, rfl, by decide +kernel, rfl, by decide +kernel, by decide +kernel⟩
abbrev s_l_back : Stmt := top 15
theorem sc_l_back : FnScope ["_law_sheets", "_law_where", "_law_bound", "_law_slot", "_law_marks", "_law_holder", "_law_found"] ["_law_sheets", "_law_where", "_law_bound", "_law_slot", "_law_marks"] (defScope s_l_back) := ⟨rfl, rfl, rfl, by decide +kernel, rfl, by decide +kernel, by decide +kernel⟩
abbrev s_l_written : Stmt := top 16
theorem sc_l_written : FnScope ["_law_sheets", "_law_where", "_law_bound", "_law_values", "_law_frame", "_law_cell_here", "_law_holder", "_law_sheet", "_law_box"] ["_law_sheets", "_law_where", "_law_bound", "_law_values", "_law_frame", "_law_cell_here"] (defScope s_l_written) := ⟨rfl, rfl, rfl, by decide +kernel, rfl, by decide +kernel, by decide +kernel⟩
abbrev s_l_due : Stmt := top 17
theorem sc_l_due : FnScope ["_law_where", "_law_bound", "_law_values", "_law_frames", "_law_k", "_law_holder", "_law_slots"] ["_law_where", "_law_bound", "_law_values"] (defScope s_l_due) := ⟨rfl, rfl, rfl, by decide +kernel, rfl, by decide +kernel, by decide +kernel⟩
abbrev s_l_true : Stmt := top 18
theorem sc_l_true : FnScope ["_law_sheets", "_law_where", "_law_bound", "_law_values", "_law_due_here", "_law_many", "_law_k", "_law_holder"] ["_law_sheets", "_law_where", "_law_bound", "_law_values"] (defScope s_l_true) := ⟨rfl, rfl, rfl, by decide +kernel, rfl, by decide +kernel, by decide +kernel⟩
abbrev s_l_deed : Stmt := top 19
theorem sc_l_deed : FnScope ["_law_sheets", "_law_where", "_law_bound", "_law_values", "_law_number", "_law_cell_here", "_law_holder", "_law_marks", "_law_way", "_law_full", "_law_some", "_law_frame"] ["_law_sheets", "_law_where", "_law_bound", "_law_values", "_law_number", "_law_cell_here", "_law_holder"] (defScope s_l_deed) := ⟨rfl, rfl, rfl, by decide +kernel, rfl, by decide +kernel, by decide +kernel⟩
abbrev s_law : Stmt := top 20
theorem sc_law : FnScope ["_law_script", "_law_most", "_law_where", "_law_size", "_law_sheets", "_law_bound", "_law_values", "_law_k", "_law_holder", "_law_cell_here", "_law_number"] ["_law_script"] (defScope s_law) := ⟨rfl, rfl, rfl, by decide +kernel, rfl, by decide +kernel, by decide +kernel⟩
structure Adr where
  C_Sheet : Addr
  C_Spots : Addr
  C_Sheets : Addr
  C_FrameError : Addr
  C_NoRoom : Addr
structure Txt (K : PySem.W.Frag) (mg : Str → Option Value) (A : Adr) : Prop where
  b_bool : mg "bool" = none
  b_enumerate : mg "enumerate" = none
  b_int : mg "int" = none
  b_isinstance : mg "isinstance" = none
  b_len : mg "len" = none
  b_list : mg "list" = none
  b_max : mg "max" = none
  b_range : mg "range" = none
  b_sorted : mg "sorted" = none
  b_str : mg "str" = none
  b_tuple : mg "tuple" = none
  r_swept : Raw K mg "swept" "swept" s_swept ["marks", "hand"] []
  r_l_cell : Raw K mg "_law_cell" "_law_cell" s_l_cell ["_law_script", "_law_k"] []
  r_l_like : Raw K mg "_law_like" "_law_like" s_l_like ["_law_found", "_law_due_here"] []
  r_l_come : Raw K mg "_law_come" "_law_come" s_l_come ["_law_where", "_law_bound", "_law_found", "_law_holder"] []
  r_l_back : Raw K mg "_law_back" "_law_back" s_l_back ["_law_sheets", "_law_where", "_law_bound", "_law_slot", "_law_marks"] []
  r_l_written : Raw K mg "_law_written" "_law_written" s_l_written ["_law_sheets", "_law_where", "_law_bound", "_law_values", "_law_frame", "_law_cell_here"] []
  r_l_due : Raw K mg "_law_due" "_law_due" s_l_due ["_law_where", "_law_bound", "_law_values"] []
  r_l_true : Raw K mg "_law_true" "_law_true" s_l_true ["_law_sheets", "_law_where", "_law_bound", "_law_values"] []
  r_l_deed : Raw K mg "_law_deed" "_law_deed" s_l_deed ["_law_sheets", "_law_where", "_law_bound", "_law_values", "_law_number", "_law_cell_here", "_law_holder"] []
  cl_Sheet : Cls K A.C_Sheet
  na_Sheet_boxes : NoAttr K A.C_Sheet "boxes"
  na_Sheet_holders : NoAttr K A.C_Sheet "holders"
  r_Sheet_init : RawI K mg "Sheet" A.C_Sheet "Sheet.__init__" s_Sheet_init ["self", "boxes", "holder"] []
  r_Sheet_told_holders : RawM K A.C_Sheet "told_holders" "Sheet.told_holders" s_Sheet_told_holders ["self"] []
  cl_Spots : Cls K A.C_Spots
  na_Spots_lying : NoAttr K A.C_Spots "lying"
  na_Spots_twins : NoAttr K A.C_Spots "twins"
  r_Spots_init : RawI K mg "Spots" A.C_Spots "Spots.__init__" s_Spots_init ["self", "many"] []
  r_Spots_first_empty : RawM K A.C_Spots "first_empty" "Spots.first_empty" s_Spots_first_empty ["self"] []
  r_Spots_first_twin : RawM K A.C_Spots "first_twin" "Spots.first_twin" s_Spots_first_twin ["self"] []
  r_Spots_live_count : RawM K A.C_Spots "live_count" "Spots.live_count" s_Spots_live_count ["self"] []
  cl_Sheets : Cls K A.C_Sheets
  na_Sheets_size : NoAttr K A.C_Sheets "size"
  na_Sheets_frames : NoAttr K A.C_Sheets "frames"
  na_Sheets_slots : NoAttr K A.C_Sheets "slots"
  na_Sheets_hand : NoAttr K A.C_Sheets "hand"
  na_Sheets_gone_out : NoAttr K A.C_Sheets "gone_out"
  na_Sheets_gone_astray : NoAttr K A.C_Sheets "gone_astray"
  na_Sheets_come_back : NoAttr K A.C_Sheets "come_back"
  r_Sheets_init : RawI K mg "Sheets" A.C_Sheets "Sheets.__init__" s_Sheets_init ["self", "frames", "slots", "size"] []
  r_Sheets_fresh : RawM K A.C_Sheets "fresh" "Sheets.fresh" s_Sheets_fresh ["self", "sheet", "holder", "marks"] []
  r_Sheets_back : RawM K A.C_Sheets "back" "Sheets.back" s_Sheets_back ["self", "slot", "marks"] []
  r_Sheets_let_go : RawM K A.C_Sheets "let_go" "Sheets.let_go" s_Sheets_let_go ["self", "spot", "holder"] []
  r_Sheets_holders_of : RawM K A.C_Sheets "holders_of" "Sheets.holders_of" s_Sheets_holders_of ["self", "spot"] []
  r_Sheets_sheet_at : RawM K A.C_Sheets "sheet_at" "Sheets.sheet_at" s_Sheets_sheet_at ["self", "spot"] []
  r_Sheets_set_box : RawM K A.C_Sheets "set_box" "Sheets.set_box" s_Sheets_set_box ["self", "frame", "box", "value"] []
  r_Sheets_live_sheets : RawM K A.C_Sheets "live_sheets" "Sheets.live_sheets" s_Sheets_live_sheets ["self"] []
  r_Sheets_is_full : RawM K A.C_Sheets "is_full" "Sheets.is_full" s_Sheets_is_full ["self"] []
  r_Sheets_told_frames : RawM K A.C_Sheets "told_frames" "Sheets.told_frames" s_Sheets_told_frames ["self"] []
  r_Sheets_told_slots : RawM K A.C_Sheets "told_slots" "Sheets.told_slots" s_Sheets_told_slots ["self"] []
  r_Sheets_lying_at : RawM K A.C_Sheets "lying_at" "Sheets.lying_at" s_Sheets_lying_at ["self", "spot"] []
  r_Sheets_told_slot : RawM K A.C_Sheets "told_slot" "Sheets.told_slot" s_Sheets_told_slot ["self", "slot"] []
  r_Sheets_make_empty : RawM K A.C_Sheets "make_empty" "Sheets.make_empty" s_Sheets_make_empty ["self", "spot"] []
  r_Sheets_lose_twin : RawM K A.C_Sheets "lose_twin" "Sheets.lose_twin" s_Sheets_lose_twin ["self", "frame"] []
  r_Sheets_frame_for : RawM K A.C_Sheets "frame_for" "Sheets.frame_for" s_Sheets_frame_for ["self", "coming_from", "marks"] []
  r_Sheets_put_out : RawM K A.C_Sheets "put_out" "Sheets.put_out" s_Sheets_put_out ["self", "frame", "coming_from"] []
  r_Sheets_slot_for : RawM K A.C_Sheets "slot_for" "Sheets.slot_for" s_Sheets_slot_for ["self", "frame", "coming_from"] []
  m_FrameError : ∃ u, mg "FrameError" = some u ∧ RelV (.ref A.C_FrameError) u
  m_NoRoom : ∃ u, mg "NoRoom" = some u ∧ RelV (.ref A.C_NoRoom) u
  x_NoRoom : XC K mg "NoRoom" A.C_NoRoom
  r_law : ∃ f fd, mg "law" = some (.ref f) ∧ Fun K "law" "law" s_law f fd ∧ ∀ (s : Shared) (u : Value), BindsTo s fd ⟨[u], []⟩ [("_law_script", u)]
theorem el1 {P : List Value → Prop} (h : ∀ a0, P [a0]) : ∀ us : List Value, us.length = 1 → P us
  | [a0], _ => h a0
theorem el2 {P : List Value → Prop} (h : ∀ a0 a1, P [a0, a1]) : ∀ us : List Value, us.length = 2 → P us
  | [a0, a1], _ => h a0 a1
theorem el3 {P : List Value → Prop} (h : ∀ a0 a1 a2, P [a0, a1, a2]) : ∀ us : List Value, us.length = 3 → P us
  | [a0, a1, a2], _ => h a0 a1 a2
theorem el4 {P : List Value → Prop} (h : ∀ a0 a1 a2 a3, P [a0, a1, a2, a3]) : ∀ us : List Value, us.length = 4 → P us
  | [a0, a1, a2, a3], _ => h a0 a1 a2 a3
theorem el5 {P : List Value → Prop} (h : ∀ a0 a1 a2 a3 a4, P [a0, a1, a2, a3, a4]) : ∀ us : List Value, us.length = 5 → P us
  | [a0, a1, a2, a3, a4], _ => h a0 a1 a2 a3 a4
theorem el6 {P : List Value → Prop} (h : ∀ a0 a1 a2 a3 a4 a5, P [a0, a1, a2, a3, a4, a5]) : ∀ us : List Value, us.length = 6 → P us
  | [a0, a1, a2, a3, a4, a5], _ => h a0 a1 a2 a3 a4 a5
theorem el7 {P : List Value → Prop} (h : ∀ a0 a1 a2 a3 a4 a5 a6, P [a0, a1, a2, a3, a4, a5, a6]) : ∀ us : List Value, us.length = 7 → P us
  | [a0, a1, a2, a3, a4, a5, a6], _ => h a0 a1 a2 a3 a4 a5 a6
theorem txt_mk {K : PySem.W.Frag} {h : Heap} {mg : Str → Option Value} (X : K.In h) (G : h.Ns mainGlobals mg)
    {C_NoRoom : Addr}
    {C_FrameError : Addr}
    {C_Sheets : Addr}
    {C_Spots : Addr}
    {C_Sheet : Addr}
    {f_0 : Addr} {od_0 an_0 : Option Addr} {sl_0 : Array (Option Value)} {oc_0 kV_0 dc_0 pm_0 cd_0 ct_0 : Value}
    {f_1 : Addr} {od_1 an_1 : Option Addr} {sl_1 : Array (Option Value)} {oc_1 kV_1 dc_1 pm_1 cd_1 ct_1 : Value}
    {f_2 : Addr} {od_2 an_2 : Option Addr} {sl_2 : Array (Option Value)} {oc_2 kV_2 dc_2 pm_2 cd_2 ct_2 : Value}
    {f_3 : Addr} {od_3 an_3 : Option Addr} {sl_3 : Array (Option Value)} {oc_3 kV_3 dc_3 pm_3 cd_3 ct_3 : Value}
    {f_4 : Addr} {od_4 an_4 : Option Addr} {sl_4 : Array (Option Value)} {oc_4 kV_4 dc_4 pm_4 cd_4 ct_4 : Value}
    {f_5 : Addr} {od_5 an_5 : Option Addr} {sl_5 : Array (Option Value)} {oc_5 kV_5 dc_5 pm_5 cd_5 ct_5 : Value}
    {f_6 : Addr} {od_6 an_6 : Option Addr} {sl_6 : Array (Option Value)} {oc_6 kV_6 dc_6 pm_6 cd_6 ct_6 : Value}
    {f_7 : Addr} {od_7 an_7 : Option Addr} {sl_7 : Array (Option Value)} {oc_7 kV_7 dc_7 pm_7 cd_7 ct_7 : Value}
    {f_8 : Addr} {od_8 an_8 : Option Addr} {sl_8 : Array (Option Value)} {oc_8 kV_8 dc_8 pm_8 cd_8 ct_8 : Value}
    {f_9 : Addr} {od_9 an_9 : Option Addr} {sl_9 : Array (Option Value)} {oc_9 kV_9 dc_9 pm_9 cd_9 ct_9 : Value}
    {f_10 : Addr} {od_10 an_10 : Option Addr} {sl_10 : Array (Option Value)} {oc_10 kV_10 dc_10 pm_10 cd_10 ct_10 : Value}
    {f_11 : Addr} {od_11 an_11 : Option Addr} {sl_11 : Array (Option Value)} {oc_11 kV_11 dc_11 pm_11 cd_11 ct_11 : Value}
    {f_12 : Addr} {od_12 an_12 : Option Addr} {sl_12 : Array (Option Value)} {oc_12 kV_12 dc_12 pm_12 cd_12 ct_12 : Value}
    {f_13 : Addr} {od_13 an_13 : Option Addr} {sl_13 : Array (Option Value)} {oc_13 kV_13 dc_13 pm_13 cd_13 ct_13 : Value}
    {f_14 : Addr} {od_14 an_14 : Option Addr} {sl_14 : Array (Option Value)} {oc_14 kV_14 dc_14 pm_14 cd_14 ct_14 : Value}
    {f_15 : Addr} {od_15 an_15 : Option Addr} {sl_15 : Array (Option Value)} {oc_15 kV_15 dc_15 pm_15 cd_15 ct_15 : Value}
    {f_16 : Addr} {od_16 an_16 : Option Addr} {sl_16 : Array (Option Value)} {oc_16 kV_16 dc_16 pm_16 cd_16 ct_16 : Value}
    {f_17 : Addr} {od_17 an_17 : Option Addr} {sl_17 : Array (Option Value)} {oc_17 kV_17 dc_17 pm_17 cd_17 ct_17 : Value}
    {f_18 : Addr} {od_18 an_18 : Option Addr} {sl_18 : Array (Option Value)} {oc_18 kV_18 dc_18 pm_18 cd_18 ct_18 : Value}
    {f_19 : Addr} {od_19 an_19 : Option Addr} {sl_19 : Array (Option Value)} {oc_19 kV_19 dc_19 pm_19 cd_19 ct_19 : Value}
    {f_20 : Addr} {od_20 an_20 : Option Addr} {sl_20 : Array (Option Value)} {oc_20 kV_20 dc_20 pm_20 cd_20 ct_20 : Value}
    {f_21 : Addr} {od_21 an_21 : Option Addr} {sl_21 : Array (Option Value)} {oc_21 kV_21 dc_21 pm_21 cd_21 ct_21 : Value}
    {f_22 : Addr} {od_22 an_22 : Option Addr} {sl_22 : Array (Option Value)} {oc_22 kV_22 dc_22 pm_22 cd_22 ct_22 : Value}
    {f_23 : Addr} {od_23 an_23 : Option Addr} {sl_23 : Array (Option Value)} {oc_23 kV_23 dc_23 pm_23 cd_23 ct_23 : Value}
    {f_24 : Addr} {od_24 an_24 : Option Addr} {sl_24 : Array (Option Value)} {oc_24 kV_24 dc_24 pm_24 cd_24 ct_24 : Value}
    {f_25 : Addr} {od_25 an_25 : Option Addr} {sl_25 : Array (Option Value)} {oc_25 kV_25 dc_25 pm_25 cd_25 ct_25 : Value}
    {f_26 : Addr} {od_26 an_26 : Option Addr} {sl_26 : Array (Option Value)} {oc_26 kV_26 dc_26 pm_26 cd_26 ct_26 : Value}
    {f_27 : Addr} {od_27 an_27 : Option Addr} {sl_27 : Array (Option Value)} {oc_27 kV_27 dc_27 pm_27 cd_27 ct_27 : Value}
    {f_28 : Addr} {od_28 an_28 : Option Addr} {sl_28 : Array (Option Value)} {oc_28 kV_28 dc_28 pm_28 cd_28 ct_28 : Value}
    {f_29 : Addr} {od_29 an_29 : Option Addr} {sl_29 : Array (Option Value)} {oc_29 kV_29 dc_29 pm_29 cd_29 ct_29 : Value}
    {f_30 : Addr} {od_30 an_30 : Option Addr} {sl_30 : Array (Option Value)} {oc_30 kV_30 dc_30 pm_30 cd_30 ct_30 : Value}
    {f_31 : Addr} {od_31 an_31 : Option Addr} {sl_31 : Array (Option Value)} {oc_31 kV_31 dc_31 pm_31 cd_31 ct_31 : Value}
    {f_32 : Addr} {od_32 an_32 : Option Addr} {sl_32 : Array (Option Value)} {oc_32 kV_32 dc_32 pm_32 cd_32 ct_32 : Value}
    {f_33 : Addr} {od_33 an_33 : Option Addr} {sl_33 : Array (Option Value)} {oc_33 kV_33 dc_33 pm_33 cd_33 ct_33 : Value}
    (a_NoRoom : PySem.W.nsIn K mainGlobals "NoRoom" = some (some (.ref C_NoRoom)))
    (a_FrameError : PySem.W.nsIn K mainGlobals "FrameError" = some (some (.ref C_FrameError)))
    (a_Sheets : PySem.W.nsIn K mainGlobals "Sheets" = some (some (.ref C_Sheets)))
    (a_Spots : PySem.W.nsIn K mainGlobals "Spots" = some (some (.ref C_Spots)))
    (a_Sheet : PySem.W.nsIn K mainGlobals "Sheet" = some (some (.ref C_Sheet)))
    (zb_bool : PySem.W.nsIn K mainGlobals "bool" = some none)
    (zb_enumerate : PySem.W.nsIn K mainGlobals "enumerate" = some none)
    (zb_int : PySem.W.nsIn K mainGlobals "int" = some none)
    (zb_isinstance : PySem.W.nsIn K mainGlobals "isinstance" = some none)
    (zb_len : PySem.W.nsIn K mainGlobals "len" = some none)
    (zb_list : PySem.W.nsIn K mainGlobals "list" = some none)
    (zb_max : PySem.W.nsIn K mainGlobals "max" = some none)
    (zb_range : PySem.W.nsIn K mainGlobals "range" = some none)
    (zb_sorted : PySem.W.nsIn K mainGlobals "sorted" = some none)
    (zb_str : PySem.W.nsIn K mainGlobals "str" = some none)
    (zb_tuple : PySem.W.nsIn K mainGlobals "tuple" = some none)
    (a_0_ : PySem.W.nsIn K mainGlobals "swept" = some (some (.ref f_0)))
    (l_0_ : K.lookup f_0 = some ⟨oc_0, od_0, .func (PySem.W.fnOf "swept" "swept" (defArgs s_swept) (defBody s_swept) (defScope s_swept) .none kV_0 dc_0 pm_0 an_0 cd_0 ct_0), sl_0⟩)
    (c_0_ : PySem.W.codeIn K cd_0 "swept" = true)
    (k_0_ : PySem.W.keepIn K (.ref f_0) = true)
    (a_1_ : PySem.W.nsIn K mainGlobals "_law_cell" = some (some (.ref f_1)))
    (l_1_ : K.lookup f_1 = some ⟨oc_1, od_1, .func (PySem.W.fnOf "_law_cell" "_law_cell" (defArgs s_l_cell) (defBody s_l_cell) (defScope s_l_cell) .none kV_1 dc_1 pm_1 an_1 cd_1 ct_1), sl_1⟩)
    (c_1_ : PySem.W.codeIn K cd_1 "_law_cell" = true)
    (k_1_ : PySem.W.keepIn K (.ref f_1) = true)
    (a_2_ : PySem.W.nsIn K mainGlobals "_law_like" = some (some (.ref f_2)))
    (l_2_ : K.lookup f_2 = some ⟨oc_2, od_2, .func (PySem.W.fnOf "_law_like" "_law_like" (defArgs s_l_like) (defBody s_l_like) (defScope s_l_like) .none kV_2 dc_2 pm_2 an_2 cd_2 ct_2), sl_2⟩)
    (c_2_ : PySem.W.codeIn K cd_2 "_law_like" = true)
    (k_2_ : PySem.W.keepIn K (.ref f_2) = true)
    (a_3_ : PySem.W.nsIn K mainGlobals "_law_come" = some (some (.ref f_3)))
    (l_3_ : K.lookup f_3 = some ⟨oc_3, od_3, .func (PySem.W.fnOf "_law_come" "_law_come" (defArgs s_l_come) (defBody s_l_come) (defScope s_l_come) .none kV_3 dc_3 pm_3 an_3 cd_3 ct_3), sl_3⟩)
    (c_3_ : PySem.W.codeIn K cd_3 "_law_come" = true)
    (k_3_ : PySem.W.keepIn K (.ref f_3) = true)
    (a_4_ : PySem.W.nsIn K mainGlobals "_law_back" = some (some (.ref f_4)))
    (l_4_ : K.lookup f_4 = some ⟨oc_4, od_4, .func (PySem.W.fnOf "_law_back" "_law_back" (defArgs s_l_back) (defBody s_l_back) (defScope s_l_back) .none kV_4 dc_4 pm_4 an_4 cd_4 ct_4), sl_4⟩)
    (c_4_ : PySem.W.codeIn K cd_4 "_law_back" = true)
    (k_4_ : PySem.W.keepIn K (.ref f_4) = true)
    (a_5_ : PySem.W.nsIn K mainGlobals "_law_written" = some (some (.ref f_5)))
    (l_5_ : K.lookup f_5 = some ⟨oc_5, od_5, .func (PySem.W.fnOf "_law_written" "_law_written" (defArgs s_l_written) (defBody s_l_written) (defScope s_l_written) .none kV_5 dc_5 pm_5 an_5 cd_5 ct_5), sl_5⟩)
    (c_5_ : PySem.W.codeIn K cd_5 "_law_written" = true)
    (k_5_ : PySem.W.keepIn K (.ref f_5) = true)
    (a_6_ : PySem.W.nsIn K mainGlobals "_law_due" = some (some (.ref f_6)))
    (l_6_ : K.lookup f_6 = some ⟨oc_6, od_6, .func (PySem.W.fnOf "_law_due" "_law_due" (defArgs s_l_due) (defBody s_l_due) (defScope s_l_due) .none kV_6 dc_6 pm_6 an_6 cd_6 ct_6), sl_6⟩)
    (c_6_ : PySem.W.codeIn K cd_6 "_law_due" = true)
    (k_6_ : PySem.W.keepIn K (.ref f_6) = true)
    (a_7_ : PySem.W.nsIn K mainGlobals "_law_true" = some (some (.ref f_7)))
    (l_7_ : K.lookup f_7 = some ⟨oc_7, od_7, .func (PySem.W.fnOf "_law_true" "_law_true" (defArgs s_l_true) (defBody s_l_true) (defScope s_l_true) .none kV_7 dc_7 pm_7 an_7 cd_7 ct_7), sl_7⟩)
    (c_7_ : PySem.W.codeIn K cd_7 "_law_true" = true)
    (k_7_ : PySem.W.keepIn K (.ref f_7) = true)
    (a_8_ : PySem.W.nsIn K mainGlobals "_law_deed" = some (some (.ref f_8)))
    (l_8_ : K.lookup f_8 = some ⟨oc_8, od_8, .func (PySem.W.fnOf "_law_deed" "_law_deed" (defArgs s_l_deed) (defBody s_l_deed) (defScope s_l_deed) .none kV_8 dc_8 pm_8 an_8 cd_8 ct_8), sl_8⟩)
    (c_8_ : PySem.W.codeIn K cd_8 "_law_deed" = true)
    (k_8_ : PySem.W.keepIn K (.ref f_8) = true)
    (pg_Sheet : PySem.W.plainGet K C_Sheet Str.empty = true)
    (hd_Sheet : PySem.W.hasDictIn K C_Sheet = true)
    (po_Sheet : PySem.W.plainOver K C_Sheet = true)
    (sa_Sheet : PySem.W.findIn K (.ref C_Sheet) "__setattr__" = some (some (.builtin "object.__setattr__")))
    (zn_Sheet_boxes : PySem.W.findIn K (.ref C_Sheet) "boxes" = some none)
    (zn_Sheet_holders : PySem.W.findIn K (.ref C_Sheet) "holders" = some none)
    (mk_Sheet : PySem.W.makesIn K C_Sheet = true)
    (kc_Sheet : PySem.W.keepIn K (.ref C_Sheet) = true)
    (a_9_ : PySem.W.findIn K (.ref C_Sheet) "__init__" = some (some (.ref f_9)))
    (i_9_ : PySem.W.isFn K (.ref f_9) = true)
    (l_9_ : K.lookup f_9 = some ⟨oc_9, od_9, .func (PySem.W.fnOf "__init__" "Sheet.__init__" (defArgs s_Sheet_init) (defBody s_Sheet_init) (defScope s_Sheet_init) .none kV_9 dc_9 pm_9 an_9 cd_9 ct_9), sl_9⟩)
    (c_9_ : PySem.W.codeIn K cd_9 "Sheet.__init__" = true)
    (k_9_ : PySem.W.keepIn K (.ref f_9) = true)
    (a_10_ : PySem.W.findIn K (.ref C_Sheet) "told_holders" = some (some (.ref f_10)))
    (i_10_ : PySem.W.isFn K (.ref f_10) = true)
    (l_10_ : K.lookup f_10 = some ⟨oc_10, od_10, .func (PySem.W.fnOf "told_holders" "Sheet.told_holders" (defArgs s_Sheet_told_holders) (defBody s_Sheet_told_holders) (defScope s_Sheet_told_holders) .none kV_10 dc_10 pm_10 an_10 cd_10 ct_10), sl_10⟩)
    (c_10_ : PySem.W.codeIn K cd_10 "Sheet.told_holders" = true)
    (k_10_ : PySem.W.keepIn K (.ref f_10) = true)
    (pg_Spots : PySem.W.plainGet K C_Spots Str.empty = true)
    (hd_Spots : PySem.W.hasDictIn K C_Spots = true)
    (po_Spots : PySem.W.plainOver K C_Spots = true)
    (sa_Spots : PySem.W.findIn K (.ref C_Spots) "__setattr__" = some (some (.builtin "object.__setattr__")))
    (zn_Spots_lying : PySem.W.findIn K (.ref C_Spots) "lying" = some none)
    (zn_Spots_twins : PySem.W.findIn K (.ref C_Spots) "twins" = some none)
    (mk_Spots : PySem.W.makesIn K C_Spots = true)
    (kc_Spots : PySem.W.keepIn K (.ref C_Spots) = true)
    (a_11_ : PySem.W.findIn K (.ref C_Spots) "__init__" = some (some (.ref f_11)))
    (i_11_ : PySem.W.isFn K (.ref f_11) = true)
    (l_11_ : K.lookup f_11 = some ⟨oc_11, od_11, .func (PySem.W.fnOf "__init__" "Spots.__init__" (defArgs s_Spots_init) (defBody s_Spots_init) (defScope s_Spots_init) .none kV_11 dc_11 pm_11 an_11 cd_11 ct_11), sl_11⟩)
    (c_11_ : PySem.W.codeIn K cd_11 "Spots.__init__" = true)
    (k_11_ : PySem.W.keepIn K (.ref f_11) = true)
    (a_12_ : PySem.W.findIn K (.ref C_Spots) "first_empty" = some (some (.ref f_12)))
    (i_12_ : PySem.W.isFn K (.ref f_12) = true)
    (l_12_ : K.lookup f_12 = some ⟨oc_12, od_12, .func (PySem.W.fnOf "first_empty" "Spots.first_empty" (defArgs s_Spots_first_empty) (defBody s_Spots_first_empty) (defScope s_Spots_first_empty) .none kV_12 dc_12 pm_12 an_12 cd_12 ct_12), sl_12⟩)
    (c_12_ : PySem.W.codeIn K cd_12 "Spots.first_empty" = true)
    (k_12_ : PySem.W.keepIn K (.ref f_12) = true)
    (a_13_ : PySem.W.findIn K (.ref C_Spots) "first_twin" = some (some (.ref f_13)))
    (i_13_ : PySem.W.isFn K (.ref f_13) = true)
    (l_13_ : K.lookup f_13 = some ⟨oc_13, od_13, .func (PySem.W.fnOf "first_twin" "Spots.first_twin" (defArgs s_Spots_first_twin) (defBody s_Spots_first_twin) (defScope s_Spots_first_twin) .none kV_13 dc_13 pm_13 an_13 cd_13 ct_13), sl_13⟩)
    (c_13_ : PySem.W.codeIn K cd_13 "Spots.first_twin" = true)
    (k_13_ : PySem.W.keepIn K (.ref f_13) = true)
    (a_14_ : PySem.W.findIn K (.ref C_Spots) "live_count" = some (some (.ref f_14)))
    (i_14_ : PySem.W.isFn K (.ref f_14) = true)
    (l_14_ : K.lookup f_14 = some ⟨oc_14, od_14, .func (PySem.W.fnOf "live_count" "Spots.live_count" (defArgs s_Spots_live_count) (defBody s_Spots_live_count) (defScope s_Spots_live_count) .none kV_14 dc_14 pm_14 an_14 cd_14 ct_14), sl_14⟩)
    (c_14_ : PySem.W.codeIn K cd_14 "Spots.live_count" = true)
    (k_14_ : PySem.W.keepIn K (.ref f_14) = true)
    (pg_Sheets : PySem.W.plainGet K C_Sheets Str.empty = true)
    (hd_Sheets : PySem.W.hasDictIn K C_Sheets = true)
    (po_Sheets : PySem.W.plainOver K C_Sheets = true)
    (sa_Sheets : PySem.W.findIn K (.ref C_Sheets) "__setattr__" = some (some (.builtin "object.__setattr__")))
    (zn_Sheets_size : PySem.W.findIn K (.ref C_Sheets) "size" = some none)
    (zn_Sheets_frames : PySem.W.findIn K (.ref C_Sheets) "frames" = some none)
    (zn_Sheets_slots : PySem.W.findIn K (.ref C_Sheets) "slots" = some none)
    (zn_Sheets_hand : PySem.W.findIn K (.ref C_Sheets) "hand" = some none)
    (zn_Sheets_gone_out : PySem.W.findIn K (.ref C_Sheets) "gone_out" = some none)
    (zn_Sheets_gone_astray : PySem.W.findIn K (.ref C_Sheets) "gone_astray" = some none)
    (zn_Sheets_come_back : PySem.W.findIn K (.ref C_Sheets) "come_back" = some none)
    (mk_Sheets : PySem.W.makesIn K C_Sheets = true)
    (kc_Sheets : PySem.W.keepIn K (.ref C_Sheets) = true)
    (a_15_ : PySem.W.findIn K (.ref C_Sheets) "__init__" = some (some (.ref f_15)))
    (i_15_ : PySem.W.isFn K (.ref f_15) = true)
    (l_15_ : K.lookup f_15 = some ⟨oc_15, od_15, .func (PySem.W.fnOf "__init__" "Sheets.__init__" (defArgs s_Sheets_init) (defBody s_Sheets_init) (defScope s_Sheets_init) .none kV_15 dc_15 pm_15 an_15 cd_15 ct_15), sl_15⟩)
    (c_15_ : PySem.W.codeIn K cd_15 "Sheets.__init__" = true)
    (k_15_ : PySem.W.keepIn K (.ref f_15) = true)
    (a_16_ : PySem.W.findIn K (.ref C_Sheets) "fresh" = some (some (.ref f_16)))
    (i_16_ : PySem.W.isFn K (.ref f_16) = true)
    (l_16_ : K.lookup f_16 = some ⟨oc_16, od_16, .func (PySem.W.fnOf "fresh" "Sheets.fresh" (defArgs s_Sheets_fresh) (defBody s_Sheets_fresh) (defScope s_Sheets_fresh) .none kV_16 dc_16 pm_16 an_16 cd_16 ct_16), sl_16⟩)
    (c_16_ : PySem.W.codeIn K cd_16 "Sheets.fresh" = true)
    (k_16_ : PySem.W.keepIn K (.ref f_16) = true)
    (a_17_ : PySem.W.findIn K (.ref C_Sheets) "back" = some (some (.ref f_17)))
    (i_17_ : PySem.W.isFn K (.ref f_17) = true)
    (l_17_ : K.lookup f_17 = some ⟨oc_17, od_17, .func (PySem.W.fnOf "back" "Sheets.back" (defArgs s_Sheets_back) (defBody s_Sheets_back) (defScope s_Sheets_back) .none kV_17 dc_17 pm_17 an_17 cd_17 ct_17), sl_17⟩)
    (c_17_ : PySem.W.codeIn K cd_17 "Sheets.back" = true)
    (k_17_ : PySem.W.keepIn K (.ref f_17) = true)
    (a_18_ : PySem.W.findIn K (.ref C_Sheets) "let_go" = some (some (.ref f_18)))
    (i_18_ : PySem.W.isFn K (.ref f_18) = true)
    (l_18_ : K.lookup f_18 = some ⟨oc_18, od_18, .func (PySem.W.fnOf "let_go" "Sheets.let_go" (defArgs s_Sheets_let_go) (defBody s_Sheets_let_go) (defScope s_Sheets_let_go) .none kV_18 dc_18 pm_18 an_18 cd_18 ct_18), sl_18⟩)
    (c_18_ : PySem.W.codeIn K cd_18 "Sheets.let_go" = true)
    (k_18_ : PySem.W.keepIn K (.ref f_18) = true)
    (a_19_ : PySem.W.findIn K (.ref C_Sheets) "holders_of" = some (some (.ref f_19)))
    (i_19_ : PySem.W.isFn K (.ref f_19) = true)
    (l_19_ : K.lookup f_19 = some ⟨oc_19, od_19, .func (PySem.W.fnOf "holders_of" "Sheets.holders_of" (defArgs s_Sheets_holders_of) (defBody s_Sheets_holders_of) (defScope s_Sheets_holders_of) .none kV_19 dc_19 pm_19 an_19 cd_19 ct_19), sl_19⟩)
    (c_19_ : PySem.W.codeIn K cd_19 "Sheets.holders_of" = true)
    (k_19_ : PySem.W.keepIn K (.ref f_19) = true)
    (a_20_ : PySem.W.findIn K (.ref C_Sheets) "sheet_at" = some (some (.ref f_20)))
    (i_20_ : PySem.W.isFn K (.ref f_20) = true)
    (l_20_ : K.lookup f_20 = some ⟨oc_20, od_20, .func (PySem.W.fnOf "sheet_at" "Sheets.sheet_at" (defArgs s_Sheets_sheet_at) (defBody s_Sheets_sheet_at) (defScope s_Sheets_sheet_at) .none kV_20 dc_20 pm_20 an_20 cd_20 ct_20), sl_20⟩)
    (c_20_ : PySem.W.codeIn K cd_20 "Sheets.sheet_at" = true)
    (k_20_ : PySem.W.keepIn K (.ref f_20) = true)
    (a_21_ : PySem.W.findIn K (.ref C_Sheets) "set_box" = some (some (.ref f_21)))
    (i_21_ : PySem.W.isFn K (.ref f_21) = true)
    (l_21_ : K.lookup f_21 = some ⟨oc_21, od_21, .func (PySem.W.fnOf "set_box" "Sheets.set_box" (defArgs s_Sheets_set_box) (defBody s_Sheets_set_box) (defScope s_Sheets_set_box) .none kV_21 dc_21 pm_21 an_21 cd_21 ct_21), sl_21⟩)
    (c_21_ : PySem.W.codeIn K cd_21 "Sheets.set_box" = true)
    (k_21_ : PySem.W.keepIn K (.ref f_21) = true)
    (a_22_ : PySem.W.findIn K (.ref C_Sheets) "live_sheets" = some (some (.ref f_22)))
    (i_22_ : PySem.W.isFn K (.ref f_22) = true)
    (l_22_ : K.lookup f_22 = some ⟨oc_22, od_22, .func (PySem.W.fnOf "live_sheets" "Sheets.live_sheets" (defArgs s_Sheets_live_sheets) (defBody s_Sheets_live_sheets) (defScope s_Sheets_live_sheets) .none kV_22 dc_22 pm_22 an_22 cd_22 ct_22), sl_22⟩)
    (c_22_ : PySem.W.codeIn K cd_22 "Sheets.live_sheets" = true)
    (k_22_ : PySem.W.keepIn K (.ref f_22) = true)
    (a_23_ : PySem.W.findIn K (.ref C_Sheets) "is_full" = some (some (.ref f_23)))
    (i_23_ : PySem.W.isFn K (.ref f_23) = true)
    (l_23_ : K.lookup f_23 = some ⟨oc_23, od_23, .func (PySem.W.fnOf "is_full" "Sheets.is_full" (defArgs s_Sheets_is_full) (defBody s_Sheets_is_full) (defScope s_Sheets_is_full) .none kV_23 dc_23 pm_23 an_23 cd_23 ct_23), sl_23⟩)
    (c_23_ : PySem.W.codeIn K cd_23 "Sheets.is_full" = true)
    (k_23_ : PySem.W.keepIn K (.ref f_23) = true)
    (a_24_ : PySem.W.findIn K (.ref C_Sheets) "told_frames" = some (some (.ref f_24)))
    (i_24_ : PySem.W.isFn K (.ref f_24) = true)
    (l_24_ : K.lookup f_24 = some ⟨oc_24, od_24, .func (PySem.W.fnOf "told_frames" "Sheets.told_frames" (defArgs s_Sheets_told_frames) (defBody s_Sheets_told_frames) (defScope s_Sheets_told_frames) .none kV_24 dc_24 pm_24 an_24 cd_24 ct_24), sl_24⟩)
    (c_24_ : PySem.W.codeIn K cd_24 "Sheets.told_frames" = true)
    (k_24_ : PySem.W.keepIn K (.ref f_24) = true)
    (a_25_ : PySem.W.findIn K (.ref C_Sheets) "told_slots" = some (some (.ref f_25)))
    (i_25_ : PySem.W.isFn K (.ref f_25) = true)
    (l_25_ : K.lookup f_25 = some ⟨oc_25, od_25, .func (PySem.W.fnOf "told_slots" "Sheets.told_slots" (defArgs s_Sheets_told_slots) (defBody s_Sheets_told_slots) (defScope s_Sheets_told_slots) .none kV_25 dc_25 pm_25 an_25 cd_25 ct_25), sl_25⟩)
    (c_25_ : PySem.W.codeIn K cd_25 "Sheets.told_slots" = true)
    (k_25_ : PySem.W.keepIn K (.ref f_25) = true)
    (a_26_ : PySem.W.findIn K (.ref C_Sheets) "lying_at" = some (some (.ref f_26)))
    (i_26_ : PySem.W.isFn K (.ref f_26) = true)
    (l_26_ : K.lookup f_26 = some ⟨oc_26, od_26, .func (PySem.W.fnOf "lying_at" "Sheets.lying_at" (defArgs s_Sheets_lying_at) (defBody s_Sheets_lying_at) (defScope s_Sheets_lying_at) .none kV_26 dc_26 pm_26 an_26 cd_26 ct_26), sl_26⟩)
    (c_26_ : PySem.W.codeIn K cd_26 "Sheets.lying_at" = true)
    (k_26_ : PySem.W.keepIn K (.ref f_26) = true)
    (a_27_ : PySem.W.findIn K (.ref C_Sheets) "told_slot" = some (some (.ref f_27)))
    (i_27_ : PySem.W.isFn K (.ref f_27) = true)
    (l_27_ : K.lookup f_27 = some ⟨oc_27, od_27, .func (PySem.W.fnOf "told_slot" "Sheets.told_slot" (defArgs s_Sheets_told_slot) (defBody s_Sheets_told_slot) (defScope s_Sheets_told_slot) .none kV_27 dc_27 pm_27 an_27 cd_27 ct_27), sl_27⟩)
    (c_27_ : PySem.W.codeIn K cd_27 "Sheets.told_slot" = true)
    (k_27_ : PySem.W.keepIn K (.ref f_27) = true)
    (a_28_ : PySem.W.findIn K (.ref C_Sheets) "make_empty" = some (some (.ref f_28)))
    (i_28_ : PySem.W.isFn K (.ref f_28) = true)
    (l_28_ : K.lookup f_28 = some ⟨oc_28, od_28, .func (PySem.W.fnOf "make_empty" "Sheets.make_empty" (defArgs s_Sheets_make_empty) (defBody s_Sheets_make_empty) (defScope s_Sheets_make_empty) .none kV_28 dc_28 pm_28 an_28 cd_28 ct_28), sl_28⟩)
    (c_28_ : PySem.W.codeIn K cd_28 "Sheets.make_empty" = true)
    (k_28_ : PySem.W.keepIn K (.ref f_28) = true)
    (a_29_ : PySem.W.findIn K (.ref C_Sheets) "lose_twin" = some (some (.ref f_29)))
    (i_29_ : PySem.W.isFn K (.ref f_29) = true)
    (l_29_ : K.lookup f_29 = some ⟨oc_29, od_29, .func (PySem.W.fnOf "lose_twin" "Sheets.lose_twin" (defArgs s_Sheets_lose_twin) (defBody s_Sheets_lose_twin) (defScope s_Sheets_lose_twin) .none kV_29 dc_29 pm_29 an_29 cd_29 ct_29), sl_29⟩)
    (c_29_ : PySem.W.codeIn K cd_29 "Sheets.lose_twin" = true)
    (k_29_ : PySem.W.keepIn K (.ref f_29) = true)
    (a_30_ : PySem.W.findIn K (.ref C_Sheets) "frame_for" = some (some (.ref f_30)))
    (i_30_ : PySem.W.isFn K (.ref f_30) = true)
    (l_30_ : K.lookup f_30 = some ⟨oc_30, od_30, .func (PySem.W.fnOf "frame_for" "Sheets.frame_for" (defArgs s_Sheets_frame_for) (defBody s_Sheets_frame_for) (defScope s_Sheets_frame_for) .none kV_30 dc_30 pm_30 an_30 cd_30 ct_30), sl_30⟩)
    (c_30_ : PySem.W.codeIn K cd_30 "Sheets.frame_for" = true)
    (k_30_ : PySem.W.keepIn K (.ref f_30) = true)
    (a_31_ : PySem.W.findIn K (.ref C_Sheets) "put_out" = some (some (.ref f_31)))
    (i_31_ : PySem.W.isFn K (.ref f_31) = true)
    (l_31_ : K.lookup f_31 = some ⟨oc_31, od_31, .func (PySem.W.fnOf "put_out" "Sheets.put_out" (defArgs s_Sheets_put_out) (defBody s_Sheets_put_out) (defScope s_Sheets_put_out) .none kV_31 dc_31 pm_31 an_31 cd_31 ct_31), sl_31⟩)
    (c_31_ : PySem.W.codeIn K cd_31 "Sheets.put_out" = true)
    (k_31_ : PySem.W.keepIn K (.ref f_31) = true)
    (a_32_ : PySem.W.findIn K (.ref C_Sheets) "slot_for" = some (some (.ref f_32)))
    (i_32_ : PySem.W.isFn K (.ref f_32) = true)
    (l_32_ : K.lookup f_32 = some ⟨oc_32, od_32, .func (PySem.W.fnOf "slot_for" "Sheets.slot_for" (defArgs s_Sheets_slot_for) (defBody s_Sheets_slot_for) (defScope s_Sheets_slot_for) .none kV_32 dc_32 pm_32 an_32 cd_32 ct_32), sl_32⟩)
    (c_32_ : PySem.W.codeIn K cd_32 "Sheets.slot_for" = true)
    (k_32_ : PySem.W.keepIn K (.ref f_32) = true)
    (ze_NoRoom : PySem.W.excIn K C_NoRoom mroVE "ValueError.__new__" = true)
    (a_33_ : PySem.W.nsIn K mainGlobals "law" = some (some (.ref f_33)))
    (l_33_ : K.lookup f_33 = some ⟨oc_33, od_33, .func (PySem.W.fnOf "law" "law" (defArgs s_law) (defBody s_law) (defScope s_law) .none kV_33 dc_33 pm_33 an_33 cd_33 ct_33), sl_33⟩)
    (c_33_ : PySem.W.codeIn K cd_33 "law" = true)
    (k_33_ : PySem.W.keepIn K (.ref f_33) = true)
    : ∃ A : Adr, Txt K mg A := ⟨⟨C_Sheet, C_Spots, C_Sheets, C_FrameError, C_NoRoom⟩, {
      b_bool := PySem.W.mg_none_of X G zb_bool
      b_enumerate := PySem.W.mg_none_of X G zb_enumerate
      b_int := PySem.W.mg_none_of X G zb_int
      b_isinstance := PySem.W.mg_none_of X G zb_isinstance
      b_len := PySem.W.mg_none_of X G zb_len
      b_list := PySem.W.mg_none_of X G zb_list
      b_max := PySem.W.mg_none_of X G zb_max
      b_range := PySem.W.mg_none_of X G zb_range
      b_sorted := PySem.W.mg_none_of X G zb_sorted
      b_str := PySem.W.mg_none_of X G zb_str
      b_tuple := PySem.W.mg_none_of X G zb_tuple
      r_swept := ⟨_, _, _, PySem.W.mg_of X G a_0_, fun_mk (st := s_swept) l_0_ c_0_ k_0_, (fun_mk (st := s_swept) l_0_ c_0_ k_0_).binds (ps := ["marks", "hand"]) fun _ _ _ _ _ _ => el2 (fun _ _ => rfl), .nil⟩
      r_l_cell := ⟨_, _, _, PySem.W.mg_of X G a_1_, fun_mk (st := s_l_cell) l_1_ c_1_ k_1_, (fun_mk (st := s_l_cell) l_1_ c_1_ k_1_).binds (ps := ["_law_script", "_law_k"]) fun _ _ _ _ _ _ => el2 (fun _ _ => rfl), .nil⟩
      r_l_like := ⟨_, _, _, PySem.W.mg_of X G a_2_, fun_mk (st := s_l_like) l_2_ c_2_ k_2_, (fun_mk (st := s_l_like) l_2_ c_2_ k_2_).binds (ps := ["_law_found", "_law_due_here"]) fun _ _ _ _ _ _ => el2 (fun _ _ => rfl), .nil⟩
      r_l_come := ⟨_, _, _, PySem.W.mg_of X G a_3_, fun_mk (st := s_l_come) l_3_ c_3_ k_3_, (fun_mk (st := s_l_come) l_3_ c_3_ k_3_).binds (ps := ["_law_where", "_law_bound", "_law_found", "_law_holder"]) fun _ _ _ _ _ _ => el4 (fun _ _ _ _ => rfl), .nil⟩
      r_l_back := ⟨_, _, _, PySem.W.mg_of X G a_4_, fun_mk (st := s_l_back) l_4_ c_4_ k_4_, (fun_mk (st := s_l_back) l_4_ c_4_ k_4_).binds (ps := ["_law_sheets", "_law_where", "_law_bound", "_law_slot", "_law_marks"]) fun _ _ _ _ _ _ => el5 (fun _ _ _ _ _ => rfl), .nil⟩
      r_l_written := ⟨_, _, _, PySem.W.mg_of X G a_5_, fun_mk (st := s_l_written) l_5_ c_5_ k_5_, (fun_mk (st := s_l_written) l_5_ c_5_ k_5_).binds (ps := ["_law_sheets", "_law_where", "_law_bound", "_law_values", "_law_frame", "_law_cell_here"]) fun _ _ _ _ _ _ => el6 (fun _ _ _ _ _ _ => rfl), .nil⟩
      r_l_due := ⟨_, _, _, PySem.W.mg_of X G a_6_, fun_mk (st := s_l_due) l_6_ c_6_ k_6_, (fun_mk (st := s_l_due) l_6_ c_6_ k_6_).binds (ps := ["_law_where", "_law_bound", "_law_values"]) fun _ _ _ _ _ _ => el3 (fun _ _ _ => rfl), .nil⟩
      r_l_true := ⟨_, _, _, PySem.W.mg_of X G a_7_, fun_mk (st := s_l_true) l_7_ c_7_ k_7_, (fun_mk (st := s_l_true) l_7_ c_7_ k_7_).binds (ps := ["_law_sheets", "_law_where", "_law_bound", "_law_values"]) fun _ _ _ _ _ _ => el4 (fun _ _ _ _ => rfl), .nil⟩
      r_l_deed := ⟨_, _, _, PySem.W.mg_of X G a_8_, fun_mk (st := s_l_deed) l_8_ c_8_ k_8_, (fun_mk (st := s_l_deed) l_8_ c_8_ k_8_).binds (ps := ["_law_sheets", "_law_where", "_law_bound", "_law_values", "_law_number", "_law_cell_here", "_law_holder"]) fun _ _ _ _ _ _ => el7 (fun _ _ _ _ _ _ _ => rfl), .nil⟩
      cl_Sheet := ⟨pg_Sheet, hd_Sheet, po_Sheet, sa_Sheet⟩
      na_Sheet_boxes := zn_Sheet_boxes
      na_Sheet_holders := zn_Sheet_holders
      r_Sheet_init := ⟨_, _, _, PySem.W.mg_of X G a_Sheet, ⟨mk_Sheet, a_9_, i_9_, kc_Sheet⟩, fun_mk (st := s_Sheet_init) l_9_ c_9_ k_9_, (fun_mk (st := s_Sheet_init) l_9_ c_9_ k_9_).binds (ps := ["self", "boxes", "holder"]) fun _ _ _ _ _ _ => el3 (fun _ _ _ => rfl), .nil⟩
      r_Sheet_told_holders := ⟨_, _, _, ⟨a_10_, i_10_, k_10_⟩, fun_mk (st := s_Sheet_told_holders) l_10_ c_10_ k_10_, (fun_mk (st := s_Sheet_told_holders) l_10_ c_10_ k_10_).binds (ps := ["self"]) fun _ _ _ _ _ _ => el1 (fun _ => rfl), .nil⟩
      cl_Spots := ⟨pg_Spots, hd_Spots, po_Spots, sa_Spots⟩
      na_Spots_lying := zn_Spots_lying
      na_Spots_twins := zn_Spots_twins
      r_Spots_init := ⟨_, _, _, PySem.W.mg_of X G a_Spots, ⟨mk_Spots, a_11_, i_11_, kc_Spots⟩, fun_mk (st := s_Spots_init) l_11_ c_11_ k_11_, (fun_mk (st := s_Spots_init) l_11_ c_11_ k_11_).binds (ps := ["self", "many"]) fun _ _ _ _ _ _ => el2 (fun _ _ => rfl), .nil⟩
      r_Spots_first_empty := ⟨_, _, _, ⟨a_12_, i_12_, k_12_⟩, fun_mk (st := s_Spots_first_empty) l_12_ c_12_ k_12_, (fun_mk (st := s_Spots_first_empty) l_12_ c_12_ k_12_).binds (ps := ["self"]) fun _ _ _ _ _ _ => el1 (fun _ => rfl), .nil⟩
      r_Spots_first_twin := ⟨_, _, _, ⟨a_13_, i_13_, k_13_⟩, fun_mk (st := s_Spots_first_twin) l_13_ c_13_ k_13_, (fun_mk (st := s_Spots_first_twin) l_13_ c_13_ k_13_).binds (ps := ["self"]) fun _ _ _ _ _ _ => el1 (fun _ => rfl), .nil⟩
      r_Spots_live_count := ⟨_, _, _, ⟨a_14_, i_14_, k_14_⟩, fun_mk (st := s_Spots_live_count) l_14_ c_14_ k_14_, (fun_mk (st := s_Spots_live_count) l_14_ c_14_ k_14_).binds (ps := ["self"]) fun _ _ _ _ _ _ => el1 (fun _ => rfl), .nil⟩
      cl_Sheets := ⟨pg_Sheets, hd_Sheets, po_Sheets, sa_Sheets⟩
      na_Sheets_size := zn_Sheets_size
      na_Sheets_frames := zn_Sheets_frames
      na_Sheets_slots := zn_Sheets_slots
      na_Sheets_hand := zn_Sheets_hand
      na_Sheets_gone_out := zn_Sheets_gone_out
      na_Sheets_gone_astray := zn_Sheets_gone_astray
      na_Sheets_come_back := zn_Sheets_come_back
      r_Sheets_init := ⟨_, _, _, PySem.W.mg_of X G a_Sheets, ⟨mk_Sheets, a_15_, i_15_, kc_Sheets⟩, fun_mk (st := s_Sheets_init) l_15_ c_15_ k_15_, (fun_mk (st := s_Sheets_init) l_15_ c_15_ k_15_).binds (ps := ["self", "frames", "slots", "size"]) fun _ _ _ _ _ _ => el4 (fun _ _ _ _ => rfl), .nil⟩
      r_Sheets_fresh := ⟨_, _, _, ⟨a_16_, i_16_, k_16_⟩, fun_mk (st := s_Sheets_fresh) l_16_ c_16_ k_16_, (fun_mk (st := s_Sheets_fresh) l_16_ c_16_ k_16_).binds (ps := ["self", "sheet", "holder", "marks"]) fun _ _ _ _ _ _ => el4 (fun _ _ _ _ => rfl), .nil⟩
      r_Sheets_back := ⟨_, _, _, ⟨a_17_, i_17_, k_17_⟩, fun_mk (st := s_Sheets_back) l_17_ c_17_ k_17_, (fun_mk (st := s_Sheets_back) l_17_ c_17_ k_17_).binds (ps := ["self", "slot", "marks"]) fun _ _ _ _ _ _ => el3 (fun _ _ _ => rfl), .nil⟩
      r_Sheets_let_go := ⟨_, _, _, ⟨a_18_, i_18_, k_18_⟩, fun_mk (st := s_Sheets_let_go) l_18_ c_18_ k_18_, (fun_mk (st := s_Sheets_let_go) l_18_ c_18_ k_18_).binds (ps := ["self", "spot", "holder"]) fun _ _ _ _ _ _ => el3 (fun _ _ _ => rfl), .nil⟩
      r_Sheets_holders_of := ⟨_, _, _, ⟨a_19_, i_19_, k_19_⟩, fun_mk (st := s_Sheets_holders_of) l_19_ c_19_ k_19_, (fun_mk (st := s_Sheets_holders_of) l_19_ c_19_ k_19_).binds (ps := ["self", "spot"]) fun _ _ _ _ _ _ => el2 (fun _ _ => rfl), .nil⟩
      r_Sheets_sheet_at := ⟨_, _, _, ⟨a_20_, i_20_, k_20_⟩, fun_mk (st := s_Sheets_sheet_at) l_20_ c_20_ k_20_, (fun_mk (st := s_Sheets_sheet_at) l_20_ c_20_ k_20_).binds (ps := ["self", "spot"]) fun _ _ _ _ _ _ => el2 (fun _ _ => rfl), .nil⟩
      r_Sheets_set_box := ⟨_, _, _, ⟨a_21_, i_21_, k_21_⟩, fun_mk (st := s_Sheets_set_box) l_21_ c_21_ k_21_, (fun_mk (st := s_Sheets_set_box) l_21_ c_21_ k_21_).binds (ps := ["self", "frame", "box", "value"]) fun _ _ _ _ _ _ => el4 (fun _ _ _ _ => rfl), .nil⟩
      r_Sheets_live_sheets := ⟨_, _, _, ⟨a_22_, i_22_, k_22_⟩, fun_mk (st := s_Sheets_live_sheets) l_22_ c_22_ k_22_, (fun_mk (st := s_Sheets_live_sheets) l_22_ c_22_ k_22_).binds (ps := ["self"]) fun _ _ _ _ _ _ => el1 (fun _ => rfl), .nil⟩
      r_Sheets_is_full := ⟨_, _, _, ⟨a_23_, i_23_, k_23_⟩, fun_mk (st := s_Sheets_is_full) l_23_ c_23_ k_23_, (fun_mk (st := s_Sheets_is_full) l_23_ c_23_ k_23_).binds (ps := ["self"]) fun _ _ _ _ _ _ => el1 (fun _ => rfl), .nil⟩
      r_Sheets_told_frames := ⟨_, _, _, ⟨a_24_, i_24_, k_24_⟩, fun_mk (st := s_Sheets_told_frames) l_24_ c_24_ k_24_, (fun_mk (st := s_Sheets_told_frames) l_24_ c_24_ k_24_).binds (ps := ["self"]) fun _ _ _ _ _ _ => el1 (fun _ => rfl), .nil⟩
      r_Sheets_told_slots := ⟨_, _, _, ⟨a_25_, i_25_, k_25_⟩, fun_mk (st := s_Sheets_told_slots) l_25_ c_25_ k_25_, (fun_mk (st := s_Sheets_told_slots) l_25_ c_25_ k_25_).binds (ps := ["self"]) fun _ _ _ _ _ _ => el1 (fun _ => rfl), .nil⟩
      r_Sheets_lying_at := ⟨_, _, _, ⟨a_26_, i_26_, k_26_⟩, fun_mk (st := s_Sheets_lying_at) l_26_ c_26_ k_26_, (fun_mk (st := s_Sheets_lying_at) l_26_ c_26_ k_26_).binds (ps := ["self", "spot"]) fun _ _ _ _ _ _ => el2 (fun _ _ => rfl), .nil⟩
      r_Sheets_told_slot := ⟨_, _, _, ⟨a_27_, i_27_, k_27_⟩, fun_mk (st := s_Sheets_told_slot) l_27_ c_27_ k_27_, (fun_mk (st := s_Sheets_told_slot) l_27_ c_27_ k_27_).binds (ps := ["self", "slot"]) fun _ _ _ _ _ _ => el2 (fun _ _ => rfl), .nil⟩
      r_Sheets_make_empty := ⟨_, _, _, ⟨a_28_, i_28_, k_28_⟩, fun_mk (st := s_Sheets_make_empty) l_28_ c_28_ k_28_, (fun_mk (st := s_Sheets_make_empty) l_28_ c_28_ k_28_).binds (ps := ["self", "spot"]) fun _ _ _ _ _ _ => el2 (fun _ _ => rfl), .nil⟩
      r_Sheets_lose_twin := ⟨_, _, _, ⟨a_29_, i_29_, k_29_⟩, fun_mk (st := s_Sheets_lose_twin) l_29_ c_29_ k_29_, (fun_mk (st := s_Sheets_lose_twin) l_29_ c_29_ k_29_).binds (ps := ["self", "frame"]) fun _ _ _ _ _ _ => el2 (fun _ _ => rfl), .nil⟩
      r_Sheets_frame_for := ⟨_, _, _, ⟨a_30_, i_30_, k_30_⟩, fun_mk (st := s_Sheets_frame_for) l_30_ c_30_ k_30_, (fun_mk (st := s_Sheets_frame_for) l_30_ c_30_ k_30_).binds (ps := ["self", "coming_from", "marks"]) fun _ _ _ _ _ _ => el3 (fun _ _ _ => rfl), .nil⟩
      r_Sheets_put_out := ⟨_, _, _, ⟨a_31_, i_31_, k_31_⟩, fun_mk (st := s_Sheets_put_out) l_31_ c_31_ k_31_, (fun_mk (st := s_Sheets_put_out) l_31_ c_31_ k_31_).binds (ps := ["self", "frame", "coming_from"]) fun _ _ _ _ _ _ => el3 (fun _ _ _ => rfl), .nil⟩
      r_Sheets_slot_for := ⟨_, _, _, ⟨a_32_, i_32_, k_32_⟩, fun_mk (st := s_Sheets_slot_for) l_32_ c_32_ k_32_, (fun_mk (st := s_Sheets_slot_for) l_32_ c_32_ k_32_).binds (ps := ["self", "frame", "coming_from"]) fun _ _ _ _ _ _ => el3 (fun _ _ _ => rfl), .nil⟩
      m_FrameError := ⟨_, PySem.W.mg_of X G a_FrameError, rfl⟩
      m_NoRoom := ⟨_, PySem.W.mg_of X G a_NoRoom, rfl⟩
      x_NoRoom := ⟨PySem.W.mg_of X G a_NoRoom, ze_NoRoom⟩
      r_law := ⟨_, _, PySem.W.mg_of X G a_33_, fun_mk (st := s_law) l_33_ c_33_ k_33_, fun _ _ => .of_eq rfl⟩
    }⟩

section
variable {P : Program} {w : World} {K : PySem.W.Frag} {mg : Str → Option Value} {base : Heap} {A : Adr}
theorem same_put {H H' : Hp} {t : Addr} {o : HO} (s : Same H H') (h : H t = none) : Same H (upd H' t o) := fun b u e => by
  rw [upd_ne (ne_of_none e h)]; exact s b u e

theorem same_none {H H' : Hp} {p : Addr} (s : Same H H') (h : H' p = none) : H p = none := by
  cases e : H p with
  | none => rfl
  | some o => rw [s p o e] at h; cases h

def sp_cell (K : PySem.W.Frag) (a : Addr) (ns : List Int) : Sp := fun vs H Q _ => ∃ (k : Int), vs = [.ref a, .int k] ∧ SqL K H a (ns.map V.int) ∧ 0 ≤ k ∧ Q (.int (ns.getD k.toNat 0)) H
theorem h_cell (T : Txt K mg A) (a : Addr) (ns : List Int) : Have P w K mg base "_law_cell" 1 ["_law_script", "_law_k"] [] (sp_cell K a ns) := by
  refine T.r_l_cell.have sc_l_cell (fun vs H Q E z => ?_) ?_
  · obtain ⟨k, rfl, _⟩ := z; rfl
  · intro f cdv A' outer s H vs Q E hr z
    obtain ⟨k, rfl, hs, hk, q⟩ := z
    refine ⟨_, (pss_cons (ps_if (pt_cmpR op_lt (pvM 1) (pe_callB call_len rfl T.b_len PySem.boot_len (pa_cons (pvM 0) pa_nil)) (nomark _)) (pss_one (ps_ret (pe_ix ix_list (pvM 0) (pvM 1) (fun _ _ => rfl)))) pss_nil)
      (pss_one (ps_ret pe_int))), ?_⟩
    walk_at "wp"
    refine ⟨ns.length, .inl ⟨_, hs, by simp⟩, ?_⟩
    by_cases c : k < (ns.length : Int)
    · rw [if_pos c]
      refine ⟨_, hs, .int (ns.getD k.toNat 0), ?_, q⟩
      have hlt : k.toNat < ns.length := by omega
      have e : atI (ns.map V.int) ((k.toNat : Nat) : Int) = some (.int (ns.getD k.toNat 0)) := atI_nat (by simp [hlt])
      rw [show ((k.toNat : Nat) : Int) = k by omega] at e
      exact e
    · rw [if_neg c]
      have hge : ns.length ≤ k.toNat := by omega
      rw [show ns.getD k.toNat 0 = 0 by simp [List.getD, hge]] at q
      exact q

def lfV : V → Bool
  | .non => true
  | .bl _ => true
  | .int _ => true
  | .str _ => true
  | _ => false
mutual
def Lks (H : Hp) : Dv → V → Prop
  | .leaf v, x => x = v ∧ lfV v = true
  | .seq t ds, x => ∃ a xs, x = .ref a ∧ H a = some (if t = true then .tup xs else .lst xs) ∧ ds.length < 16777216 ∧ LksL H ds xs
def LksL (H : Hp) : List Dv → List V → Prop
  | [], xs => xs = []
  | d :: ds, xs => ∃ x r, xs = x :: r ∧ Lks H d x ∧ LksL H ds r
end
theorem LksL.len {H : Hp} : ∀ {ds : List Dv} {xs : List V}, LksL H ds xs → xs.length = ds.length
  | [], xs, h => by unfold LksL at h; subst h; rfl
  | d :: ds, xs, h => by
    unfold LksL at h
    obtain ⟨x, r, rfl, _, h⟩ := h
    simp [h.len]
theorem LksL.at {H : Hp} : ∀ {ds : List Dv} {xs : List V} {i : Nat} {d : Dv}, LksL H ds xs → ds[i]? = some d → ∃ x, xs[i]? = some x ∧ Lks H d x
  | [], _, _, _, _, h => by simp at h
  | d :: ds, xs, 0, e, h, hi => by
    unfold LksL at h
    obtain ⟨x, r, rfl, hx, _⟩ := h
    simp at hi
    subst hi
    exact ⟨x, rfl, hx⟩
  | d :: ds, xs, i + 1, e, h, hi => by
    unfold LksL at h
    obtain ⟨x, r, rfl, _, h⟩ := h
    simp at hi
    obtain ⟨y, hy, hl⟩ := h.at hi
    exact ⟨y, by simpa using hy, hl⟩
theorem deepL_at : ∀ {ds : List Dv} {i : Nat} {d : Dv}, ds[i]? = some d → deep d ≤ deepL ds
  | [], _, _, h => by simp at h
  | d :: ds, 0, e, h => by
    simp at h
    subst h
    rw [deepL]; exact Nat.le_max_left ..
  | d :: ds, i + 1, e, h => by
    simp at h
    rw [deepL]; exact Nat.le_trans (deepL_at h) (Nat.le_max_right ..)
mutual
theorem Lks.same {H H' : Hp} : ∀ {d : Dv} {x : V}, Lks H d x → Same H H' → Lks H' d x
  | .leaf v, x, h, _ => by unfold Lks at h ⊢; exact h
  | .seq t ds, x, h, s => by
    unfold Lks at h ⊢
    obtain ⟨a, xs, e, ha, hz, hl⟩ := h
    exact ⟨a, xs, e, s _ _ ha, hz, hl.same s⟩
theorem LksL.same {H H' : Hp} : ∀ {ds : List Dv} {xs : List V}, LksL H ds xs → Same H H' → LksL H' ds xs
  | [], xs, h, _ => by unfold LksL at h ⊢; exact h
  | d :: ds, xs, h, s => by
    unfold LksL at h ⊢
    obtain ⟨x, r, e, hx, hl⟩ := h
    exact ⟨x, r, e, hx.same s, hl.same s⟩
end
def sp_like : Nat → Sp
  | 0 => fun _ _ _ _ => False
  | n + 1 => fun vs H Q _ => ∃ (x y : V) (d : Dv), vs = [x, y] ∧ Lks H d x ∧ Lks H d y ∧ deep d ≤ n ∧ ∀ H', Same H H' → Q (.bl true) H'
theorem ty_no {H : Hp} {a : Addr} {o : HO} {n : String} (h : H a = some o) (e : (kdO (some o) == n || (kdO (some o) == "bool" && n == "int")) = false) : isTy n H (.ref a) = false := by
  unfold isTy
  rw [show kd H (.ref a) = kdO (H a) from rfl, h]; exact e
theorem h_like (T : Txt K mg A) : ∀ n, Have P w K mg base "_law_like" (n + 1) ["_law_found", "_law_due_here"] [] (sp_like n) := by
  intro n
  induction n with
  | zero => exact T.r_l_like.have sc_l_like (fun vs H Q E z => z.elim) (fun _ _ _ _ _ _ _ _ _ _ z => z.elim)
  | succ n ih =>
    have H_l_like := ih
    refine T.r_l_like.have sc_l_like (fun vs H Q E z => ?_) ?_
    · obtain ⟨x, y, d, rfl, _⟩ := z; rfl
    · intro f cdv A' outer s H vs Q E hr z
      obtain ⟨x, y, d, rfl, hx, hy, hd, q⟩ := z
      refine ⟨_, (pss_cons (ps_if (pt_cmpR op_isN (pvM 1) pe_non (nomark _)) (pss_one (ps_ret (pe_cmpR op_isN (pvM 0) pe_non (nomark _)))) pss_nil)
      (pss_cons (ps_if (pt_val (pe_callB call_isi rfl T.b_isinstance PyProof.Rows.boot_isinstance (pa_cons (pvM 1) (pa_cons (pe_bltnE (n := "bool") rfl T.b_bool PyProof.Rows.boot_bool) pa_nil)))) (pss_one (ps_ret (pe_and (pe_callB call_isi rfl T.b_isinstance PyProof.Rows.boot_isinstance (pa_cons (pvM 0) (pa_cons (pe_bltnE (n := "bool") rfl T.b_bool PyProof.Rows.boot_bool) pa_nil))) (pe_one (pe_cmpR op_eq (pvM 0) (pvM 1) (nomark _)))))) pss_nil)
      (pss_cons (ps_if (pt_val (pe_callB call_isi rfl T.b_isinstance PyProof.Rows.boot_isinstance (pa_cons (pvM 1) (pa_cons (pe_bltnE (n := "int") rfl T.b_int PyProof.Rows.boot_int) pa_nil)))) (pss_one (ps_ret (pe_and (pe_callB call_isi rfl T.b_isinstance PyProof.Rows.boot_isinstance (pa_cons (pvM 0) (pa_cons (pe_bltnE (n := "int") rfl T.b_int PyProof.Rows.boot_int) pa_nil))) (pe_and (pe_not (pe_callB call_isi rfl T.b_isinstance PyProof.Rows.boot_isinstance (pa_cons (pvM 0) (pa_cons (pe_bltnE (n := "bool") rfl T.b_bool PyProof.Rows.boot_bool) pa_nil)))) (pe_one (pe_cmpR op_eq (pvM 0) (pvM 1) (nomark _))))))) pss_nil)
      (pss_cons (ps_if (pt_val (pe_callB call_isi rfl T.b_isinstance PyProof.Rows.boot_isinstance (pa_cons (pvM 1) (pa_cons (pe_bltnE (n := "str") rfl T.b_str PyProof.Rows.boot_str) pa_nil)))) (pss_one (ps_ret (pe_and (pe_callB call_isi rfl T.b_isinstance PyProof.Rows.boot_isinstance (pa_cons (pvM 0) (pa_cons (pe_bltnE (n := "str") rfl T.b_str PyProof.Rows.boot_str) pa_nil))) (pe_one (pe_cmpR op_eq (pvM 0) (pvM 1) (nomark _)))))) pss_nil)
      (pss_cut (ps_if (PW.pt (pw_and (pt_val (pe_callB call_isi rfl T.b_isinstance PyProof.Rows.boot_isinstance (pa_cons (pvM 1) (pa_cons (pe_bltnE (n := "list") rfl T.b_list PyProof.Rows.boot_list) pa_nil)))) (pw_and1 (pt_not (pt_val (pe_callB call_isi rfl T.b_isinstance PyProof.Rows.boot_isinstance (pa_cons (pvM 0) (pa_cons (pe_bltnE (n := "list") rfl T.b_list PyProof.Rows.boot_list) pa_nil)))))))) (pss_one (ps_ret pe_bl)) pss_nil)
      (pss_cut (ps_if (PW.pt (pw_and (pt_val (pe_callB call_isi rfl T.b_isinstance PyProof.Rows.boot_isinstance (pa_cons (pvM 1) (pa_cons (pe_bltnE (n := "tuple") rfl T.b_tuple PyProof.Rows.boot_tuple) pa_nil)))) (pw_and1 (pt_not (pt_val (pe_callB call_isi rfl T.b_isinstance PyProof.Rows.boot_isinstance (pa_cons (pvM 0) (pa_cons (pe_bltnE (n := "tuple") rfl T.b_tuple PyProof.Rows.boot_tuple) pa_nil)))))))) (pss_one (ps_ret pe_bl)) pss_nil)
      (pss_cons (ps_if (pt_cmpR op_ne (pe_callB call_len rfl T.b_len PySem.boot_len (pa_cons (pvM 0) pa_nil)) (pe_callB call_len rfl T.b_len PySem.boot_len (pa_cons (pvM 1) pa_nil)) (nomark _)) (pss_one (ps_ret pe_bl)) pss_nil)
      (pss_cons (ps_forE PassesOwn.leaving rfl (pi_range1 rfl T.b_range (pa_cons (pe_callB call_len rfl T.b_len PySem.boot_len (pa_cons (pvM 1) pa_nil)) pa_nil)) (pg_name (i := 2) sc_l_like.nd rfl (Or.inl rfl)) (pss_one (ps_if (pt_not (pt_val (pe_callE H_l_like (hr.mono (by omega)) xw_def (pa_cons (pe_ix ix_two (pvM 0) (pvM 2) (fun _ _ => rfl)) (pa_cons (pe_ix ix_two (pvM 1) (pvM 2) (fun _ _ => rfl)) pa_nil))))) (pss_one (ps_ret pe_bl)) pss_nil)))
      (pss_one (ps_ret pe_bl)))))))))), ?_⟩
      cases d with
      | leaf v =>
        unfold Lks at hx hy
        obtain ⟨ex, hv⟩ := hx
        obtain ⟨ey, _⟩ := hy
        subst ex
        subst ey
        cases y with
        | non =>
          walk_at "wp"
          exact q _ same_refl
        | bl b =>
          walk_at "wp"
          rw [if_neg (fun z => nomatch z)]
          exact ⟨by decide, iteT ⟨by decide, iteT (q _ same_refl)⟩⟩
        | int i =>
          walk_at "wp"
          rw [if_neg (fun z => nomatch z)]
          exact ⟨by decide, iteF ⟨by decide, iteT ⟨by decide, iteT ⟨by decide, iteT (q _ same_refl)⟩⟩⟩⟩
        | str t =>
          walk_at "wp"
          rw [if_neg (fun z => nomatch z)]
          exact ⟨by decide, iteF ⟨by decide, iteF ⟨by decide, iteT ⟨by decide, iteT (q _ same_refl)⟩⟩⟩⟩
        | _ => cases hv
      | seq t ds =>
        unfold Lks at hx hy
        obtain ⟨a, xs, rfl, ha, hzl, hxs⟩ := hx
        obtain ⟨b, ys, rfl, hb, _, hys⟩ := hy
        have hlx := hxs.len
        have hly := hys.len
        have hdl : deepL ds + 1 ≤ n := by rw [deep] at hd; exact hd
        have step : ∀ (i : Nat) (H' : Hp) (Q' : VK) (E' : XK), i < ds.length → Same H H' → (∀ H'', Same H H'' → Q' (.bl true) H'') → ∃ x y, xs[i]? = some x ∧ ys[i]? = some y ∧ sp_like n [x, y] H' Q' E' := fun i H' Q' E' hi s1 hq => by
          obtain ⟨x, hx1, hx2⟩ := hxs.at (List.getElem?_eq_getElem hi)
          obtain ⟨y, hy1, hy2⟩ := hys.at (List.getElem?_eq_getElem hi)
          refine ⟨x, y, hx1, hy1, ?_⟩
          cases n with
          | zero => omega
          | succ n => exact ⟨x, y, ds[i], rfl, hx2.same s1, hy2.same s1, by have := deepL_at (List.getElem?_eq_getElem hi); omega, fun H'' s2 => hq _ (s1.trans s2)⟩
        walk_at "wp"
        rw [if_neg (fun z => nomatch z)]
        cases t with
        | false =>
          have ha : H a = some (.lst xs) := ha
          have hb : H b = some (.lst ys) := hb
          rw [ty_no hb rfl, ty_no hb rfl, ty_no hb rfl]
          refine ⟨by decide, kn_lst hb, iteF ⟨by decide, kn_lst hb, iteF ⟨by decide, kn_lst hb, iteF ⟨fun σ H' => σ = [some (.ref a), some (.ref b), none] ∧ H' = H, ?_, fun σ' H' => ?_⟩⟩⟩⟩
          · walk_at "wp"
            rw [isTy_lst hb, isTy_lst ha]
            exact ⟨by decide, kn_lst hb, iteT ⟨by decide, kn_lst ha, iteF trivial⟩⟩
          rintro ⟨rfl, rfl⟩
          refine ⟨fun σ H'' => σ = [some (.ref a), some (.ref b), none] ∧ H'' = H', ?_, fun σ' H'' => ?_⟩
          · walk_at "wp"
            rw [ty_no hb rfl]
            exact ⟨by decide, kn_lst hb, iteF (iteF trivial)⟩
          rintro ⟨rfl, rfl⟩
          walk_at "wp"
          refine ⟨_, .inl ⟨_, SqL.of ha, rfl⟩, _, .inl ⟨_, SqL.of hb, rfl⟩, ?_⟩
          rw [decide_eq_true (by omega)]
          refine iteF ⟨_, .inl ⟨_, SqL.of hb, rfl⟩, by omega, by omega, ?_⟩
          refine loop_range (fun i σ H1 => ∃ v2, σ = [some (.ref a), some (.ref b), v2] ∧ Same H'' H1) ⟨_, rfl, same_refl⟩ (fun i σ H1 hi => ?_) (fun σ H1 => ?_)
          · rintro ⟨v2, rfl, s1⟩
            walk_at "wp"
            obtain ⟨x, y, hx1, hy1, hsp⟩ := step i H1 (fun x H2 => ∃ c, x = V.bl c ∧ if (!c) = true then Q (V.bl false) H2 else Same H'' H2) (fun c x H' => E c none H') (by omega) s1 (fun H'' s2 => ⟨true, rfl, iteF s2⟩)
            exact .inl ⟨_, SqL.of (s1 _ _ ha), x, by rw [Int.zero_add]; exact atI_nat hx1, .inl ⟨_, SqL.of (s1 _ _ hb), y, by rw [Int.zero_add]; exact atI_nat hy1, hsp⟩⟩
          · rintro ⟨v2, rfl, s1⟩
            walk_at "wp"
            exact q _ s1
        | true =>
          have ha : H a = some (.tup xs) := ha
          have hb : H b = some (.tup ys) := hb
          rw [ty_no hb rfl, ty_no hb rfl, ty_no hb rfl]
          refine ⟨by decide, kn_tup hb, iteF ⟨by decide, kn_tup hb, iteF ⟨by decide, kn_tup hb, iteF ⟨fun σ H' => σ = [some (.ref a), some (.ref b), none] ∧ H' = H, ?_, fun σ' H' => ?_⟩⟩⟩⟩
          · walk_at "wp"
            rw [ty_no hb rfl]
            exact ⟨by decide, kn_tup hb, iteF (iteF trivial)⟩
          rintro ⟨rfl, rfl⟩
          refine ⟨fun σ H'' => σ = [some (.ref a), some (.ref b), none] ∧ H'' = H', ?_, fun σ' H'' => ?_⟩
          · walk_at "wp"
            rw [isTy_tup hb, isTy_tup ha]
            exact ⟨by decide, kn_tup hb, iteT ⟨by decide, kn_tup ha, iteF trivial⟩⟩
          rintro ⟨rfl, rfl⟩
          walk_at "wp"
          refine ⟨_, .inr ⟨_, SqT.of ha, rfl⟩, _, .inr ⟨_, SqT.of hb, rfl⟩, ?_⟩
          rw [decide_eq_true (by omega)]
          refine iteF ⟨_, .inr ⟨_, SqT.of hb, rfl⟩, by omega, by omega, ?_⟩
          refine loop_range (fun i σ H1 => ∃ v2, σ = [some (.ref a), some (.ref b), v2] ∧ Same H'' H1) ⟨_, rfl, same_refl⟩ (fun i σ H1 hi => ?_) (fun σ H1 => ?_)
          · rintro ⟨v2, rfl, s1⟩
            walk_at "wp"
            obtain ⟨x, y, hx1, hy1, hsp⟩ := step i H1 (fun x H2 => ∃ c, x = V.bl c ∧ if (!c) = true then Q (V.bl false) H2 else Same H'' H2) (fun c x H' => E c none H') (by omega) s1 (fun H'' s2 => ⟨true, rfl, iteF s2⟩)
            exact .inr ⟨_, SqT.of (s1 _ _ ha), x, by rw [Int.zero_add]; exact atI_nat hx1, .inr ⟨_, SqT.of (s1 _ _ hb), y, by rw [Int.zero_add]; exact atI_nat hy1, hsp⟩⟩
          · rintro ⟨v2, rfl, s1⟩
            walk_at "wp"
            exact q _ s1

def rg (n : Nat) (h : Int) (j : Nat) : List Int := (List.range j).map fun (i : Nat) => (h + (i : Int)) % (n : Int)
theorem rg_len {n j : Nat} {h : Int} : (rg n h j).length = j := by unfold rg; rw [List.length_map, List.length_range]
theorem rg_succ {n j : Nat} {h : Int} : rg n h (j + 1) = rg n h j ++ [(h + j) % (n : Int)] := by unfold rg; rw [List.range_succ, List.map_append]; rfl
def sp_sw (K : PySem.W.Frag) : Sp := fun vs H Q _ => ∃ (m : Addr) (h : Int) (bs : List Bool), vs = [.ref m, .int h] ∧ SqL K H m (bs.map V.bl) ∧ 0 ≤ h ∧ h < bs.length ∧ bs.length ≤ 1000 ∧
  ∀ (t u : Addr) (j : Nat) H', Same H H' → H t = none → H u = none → j ≤ bs.length → (∀ i < j, bs.getD ((h + i) % (bs.length : Int)).toNat false = true) → (j = bs.length ∨ bs.getD ((h + j) % (bs.length : Int)).toNat false = false) →
    H' t = some (.tup [.int ((h + j) % (bs.length : Int)), .ref u]) → H' u = some (.lst ((rg bs.length h j).map V.int)) → Q (.ref t) H'
theorem h_sw (T : Txt K mg A) : Have P w K mg base "swept" 1 ["marks", "hand"] [] (sp_sw K) := by
  refine T.r_swept.have sc_swept (fun vs H Q E z => ?_) ?_
  · obtain ⟨m, h, bs, rfl, _⟩ := z; rfl
  · intro f cdv A' outer s H vs Q E hr z
    obtain ⟨m, h, bs, rfl, hm, h0, h1, h2, q⟩ := z
    refine ⟨_, (pss_cons (ps_set (i := 2) sc_swept.nd rfl (Or.inl rfl) (pe_lst pa_nil))
      (pss_cons (ps_set (i := 3) sc_swept.nd rfl (Or.inl rfl) (pvM 1))
      (pss_cons (ps_whileE PassesOwn.leaving (PW.pt (pw_and (pt_cmpR op_lt (pe_callB call_len rfl T.b_len PySem.boot_len (pa_cons (pvM 2) pa_nil)) (pe_callB call_len rfl T.b_len PySem.boot_len (pa_cons (pvM 0) pa_nil)) (nomark _)) (pw_and1 (pt_val (pe_ix ix_list (pvM 0) (pvM 3) (fun _ _ => rfl)))))) (pss_cons (ps_expr (pe_bm PySem.F.plainAttrs_list PySem.F.slot_list_append PySem.F.type_list_append mt_append (pvM 2) (pa_cons (pvM 3) pa_nil)))
      (pss_one (ps_set (i := 3) sc_swept.nd rfl (Or.inl rfl) (pe_op op_mod (pe_op op_add (pvM 3) pe_int) (pe_callB call_len rfl T.b_len PySem.boot_len (pa_cons (pvM 0) pa_nil)))))))
      (pss_one (ps_ret (pe_tup (pa_cons (pvM 3) (pa_cons (pvM 2) pa_nil)))))))), ?_⟩
    walk_at "wp"
    intro u hu
    refine loop_while (fun mm σ H' => ∃ j : Nat, mm = bs.length - j ∧ j ≤ bs.length ∧ σ = [some (.ref m), some (.int h), some (.ref u), some (.int ((h + j) % (bs.length : Int)))] ∧ Same H H' ∧ H' u = some (.lst ((rg bs.length h j).map V.int)) ∧ (∀ i < j, bs.getD ((h + i) % (bs.length : Int)).toNat false = true)) bs.length ⟨0, rfl, Nat.zero_le _, ?_, same_upd same_refl hu, upd_same, fun i hi => absurd hi (Nat.not_lt_zero _)⟩ (fun mm σ H' => ?_)
    · rw [show (h + ((0 : Nat) : Int)) % (bs.length : Int) = h by rw [Int.emod_eq_of_lt] <;> omega]
    · rintro ⟨j, rfl, hj, rfl, sm, hu', hall⟩
      walk_at "wp"
      refine ⟨j, .inl ⟨_, SqL.of hu', by rw [List.length_map, rg_len]⟩, bs.length, .inl ⟨_, sm.seq hm, by simp⟩, ?_⟩
      have hpos : (0 : Int) < bs.length := by omega
      have hp0 := Int.emod_nonneg (h + j) (show (bs.length : Int) ≠ 0 by omega)
      have hp1 := Int.emod_lt_of_pos (h + j) hpos
      have hat : atI (bs.map V.bl) ((h + j) % (bs.length : Int)) = some (.bl (bs.getD ((h + j) % (bs.length : Int)).toNat false)) := by
        generalize (h + j) % (bs.length : Int) = p at *
        have e := atI_nat (xs := bs.map V.bl) (j := p.toNat) (v := .bl (bs.getD p.toNat false)) (by
          have : p.toNat < bs.length := by omega
          simp [this])
        rw [show ((p.toNat : Nat) : Int) = p by omega] at e
        exact e
      by_cases c : (j : Int) < bs.length
      · rw [if_pos c]
        refine ⟨_, sm.seq hm, _, hat, _, rfl, ?_⟩
        cases hb : bs.getD ((h + j) % (bs.length : Int)).toNat false with
        | true =>
          refine iteT (turnW ?_)
          walk_at "wp"
          refine ⟨.inl ⟨rfl, _, SqL.of hu'⟩, _, hu', by rw [List.length_map, rg_len]; omega, bs.length, .inl ⟨_, (same_put sm hu).seq hm, by simp⟩, hpos, bs.length - (j + 1), by omega, j + 1, rfl, by omega, ?_, same_put sm hu, ?_, fun i hi => ?_⟩
          · rw [Int.emod_add_emod]
            congr 1
            omega
          · rw [rg_succ, List.map_append]; rfl
          · rcases (by omega : i < j ∨ i = j) with hi | rfl
            · exact hall i hi
            · exact hb
        | false =>
          refine iteF fun t ht => ?_
          exact q t u j _ (same_upd sm ht) (same_none sm ht) hu hj hall (.inr hb) upd_same (by rw [upd_ne (ne_of_none hu' ht)]; exact hu')
      · rw [if_neg c]
        refine iteF fun t ht => ?_
        exact q t u j _ (same_upd sm ht) (same_none sm ht) hu hj hall (.inl (by omega)) upd_same (by rw [upd_ne (ne_of_none hu' ht)]; exact hu')

theorem prd_get {α β : Type} {F : α → β → Prop} : ∀ {xs : List α} {ys : List β} {i : Nat} {x : α}, Paired F xs ys → xs[i]? = some x → ∃ y, ys[i]? = some y ∧ F x y
  | _, _, _, _, .nil, e => by simp at e
  | _, _, 0, _, .cons r _, e => by simp at e; subst e; exact ⟨_, rfl, r⟩
  | _, _, i + 1, x, .cons _ t, e => by
    obtain ⟨u, h1, h2⟩ := prd_get (i := i) (x := x) t (by simpa using e)
    exact ⟨u, by simpa using h1, h2⟩
theorem prd_get2 {α β : Type} {F : α → β → Prop} : ∀ {xs : List α} {ys : List β} {i : Nat} {y : β}, Paired F xs ys → ys[i]? = some y → ∃ x, xs[i]? = some x ∧ F x y
  | _, _, _, _, .nil, e => by simp at e
  | _, _, 0, _, .cons r _, e => by simp at e; subst e; exact ⟨_, rfl, r⟩
  | _, _, i + 1, y, .cons _ t, e => by
    obtain ⟨u, h1, h2⟩ := prd_get2 (i := i) (y := y) t (by simpa using e)
    exact ⟨u, by simpa using h1, h2⟩
theorem prd_set {α β : Type} {F : α → β → Prop} {x : α} {y : β} (hxy : F x y) : ∀ {xs : List α} {ys : List β} (i : Nat), Paired F xs ys → Paired F (xs.set i x) (ys.set i y)
  | _, _, _, .nil => .nil
  | _, _, 0, .cons _ t => .cons hxy t
  | _, _, i + 1, .cons r t => .cons r (prd_set hxy i t)
structure Sh where
  b : List Int
  ks : List (List Key)
  sh : Addr
  bx : Addr
  hd : Addr
def Kp (ex : List Addr) (H H' : Hp) : Prop := ∀ c o, H c = some o → c ∉ ex → H' c = some o
def shF (bx hd : Addr) : List (Str × V) := putF "holders" (.ref hd) (putF "boxes" (.ref bx) [])
theorem shF_boxes {bx hd : Addr} : (shF bx hd).lookup ("boxes" : Str) = some (.ref bx) := by rfl
theorem shF_holders {bx hd : Addr} : (shF bx hd).lookup ("holders" : Str) = some (.ref hd) := by rfl
theorem shF_no {bx hd : Addr} {m : Str} (h : ¬ m ∈ (["boxes", "holders"] : List Str)) : (shF bx hd).lookup m = none := by
  simp only [List.mem_cons, List.not_mem_nil, or_false, not_or] at h
  unfold shF
  simp only [lookup_putF, h.1, h.2, if_false]
  rfl
def spF (ly tw : Addr) : List (Str × V) := putF "twins" (.ref tw) (putF "lying" (.ref ly) [])
theorem spF_lying {ly tw : Addr} : (spF ly tw).lookup ("lying" : Str) = some (.ref ly) := by rfl
theorem spF_twins {ly tw : Addr} : (spF ly tw).lookup ("twins" : Str) = some (.ref tw) := by rfl
theorem spF_no {ly tw : Addr} {m : Str} (h : ¬ m ∈ (["lying", "twins"] : List Str)) : (spF ly tw).lookup m = none := by
  simp only [List.mem_cons, List.not_mem_nil, or_false, not_or] at h
  unfold spF
  simp only [lookup_putF, h.1, h.2, if_false]
  rfl

structure St where
  fr : List (Option Sh)
  sr : List (Option Sh)
  h : Nat
  go : Int
  ga : Int
  cb : Int
  tf : List (Option Nat)
  ts : List (Option Nat)
def ssF (n : Int) (fp sq : Addr) (s : St) : List (Str × V) := putF "come_back" (.int s.cb) (putF "gone_astray" (.int s.ga) (putF "gone_out" (.int s.go) (putF "hand" (.int s.h) (putF "slots" (.ref sq) (putF "frames" (.ref fp) (putF "size" (.int n) []))))))
section
variable {n : Int} {fp sq : Addr} {s : St}
theorem ssF_frames : (ssF n fp sq s).lookup ("frames" : Str) = some (.ref fp) := by rfl
theorem ssF_slots : (ssF n fp sq s).lookup ("slots" : Str) = some (.ref sq) := by rfl
theorem ssF_hand : (ssF n fp sq s).lookup ("hand" : Str) = some (.int s.h) := by rfl
theorem ssF_out : (ssF n fp sq s).lookup ("gone_out" : Str) = some (.int s.go) := by rfl
theorem ssF_astray : (ssF n fp sq s).lookup ("gone_astray" : Str) = some (.int s.ga) := by rfl
theorem ssF_back : (ssF n fp sq s).lookup ("come_back" : Str) = some (.int s.cb) := by rfl
theorem ssF_no {m : Str} (h : ¬ m ∈ (["size", "frames", "slots", "hand", "gone_out", "gone_astray", "come_back"] : List Str)) : (ssF n fp sq s).lookup m = none := by
  simp only [List.mem_cons, List.not_mem_nil, or_false, not_or] at h
  obtain ⟨a1, a2, a3, a4, a5, a6, a7⟩ := h
  unfold ssF
  simp only [lookup_putF, a1, a2, a3, a4, a5, a6, a7, if_false]
  rfl
theorem ssF_ph {h : Nat} : putF "hand" (.int (h : Int)) (ssF n fp sq s) = ssF n fp sq { s with h := h } := by rfl
theorem ssF_po {x : Int} : putF "gone_out" (.int x) (ssF n fp sq s) = ssF n fp sq { s with go := x } := by rfl
theorem ssF_pa {x : Int} : putF "gone_astray" (.int x) (ssF n fp sq s) = ssF n fp sq { s with ga := x } := by rfl
theorem ssF_pc {x : Int} : putF "come_back" (.int x) (ssF n fp sq s) = ssF n fp sq { s with cb := x } := by rfl
end
def ksD (ks : List (List Key)) : List (List Key × V) := ks.map fun k => (k, V.bl true)
def ShAt (C : Addr) (H : Hp) (v : V) : Option Sh → Prop
  | none => v = .non
  | some r => v = .ref r.sh ∧ (∃ dx, H r.sh = some (.ins C dx (shF r.bx r.hd))) ∧ H r.bx = some (.lst (r.b.map V.int)) ∧ H r.hd = some (.dT (ksD r.ks))
abbrev LyAt (C : Addr) (H : Hp) : List V → List (Option Sh) → Prop := Paired (ShAt C H)
theorem ShAt.same {C : Addr} {H H' : Hp} (s : Same H H') {v : V} : ∀ {r : Option Sh}, ShAt C H v r → ShAt C H' v r
  | none, h => h
  | some _, ⟨e, ⟨dx, h1⟩, h2, h3⟩ => ⟨e, ⟨dx, s _ _ h1⟩, s _ _ h2, s _ _ h3⟩
theorem LyAt.same {C : Addr} {H H' : Hp} (s : Same H H') {vs : List V} {rs : List (Option Sh)} (h : LyAt C H vs rs) : LyAt C H' vs rs := Paired.mapP h fun _ _ q => q.same s

def oV : Option Nat → V
  | none => .non
  | some j => .int (j : Int)
def SpAt (C S : Addr) (H : Hp) (p ly tw : Addr) (rows : List (Option Sh)) (tws : List (Option Nat)) : Prop := ∃ dx vs, H p = some (.ins C dx (spF ly tw)) ∧ H ly = some (.lst vs) ∧ LyAt S H vs rows ∧ H tw = some (.lst (tws.map oV)) ∧ tws.length = rows.length
theorem SpAt.same {C S : Addr} {H H' : Hp} {p ly tw : Addr} {rows : List (Option Sh)} {tws : List (Option Nat)} (h : SpAt C S H p ly tw rows tws) (s : Same H H') : SpAt C S H' p ly tw rows tws := let ⟨dx, vs, h1, h2, h3, h4, h5⟩ := h; ⟨dx, vs, s _ _ h1, s _ _ h2, h3.same s, s _ _ h4, h5⟩
structure Ss where
  p : Addr
  fp : Addr
  ly : Addr
  tw : Addr
  sq : Addr
  ls : Addr
  ts : Addr
  n : Int
def Ss.four (z : Ss) : List Addr := [z.ly, z.tw, z.ls, z.ts]
def Ks (z : Ss) (H H' : Hp) : Prop := ∀ c o, H c = some o → c ≠ z.p → c ∉ z.four → H' c = some o
theorem Ks.trans {z : Ss} {H H1 H2 : Hp} (a : Ks z H H1) (b : Ks z H1 H2) : Ks z H H2 := fun c o h h1 h2 => b c o (a c o h h1 h2) h1 h2
theorem Ks.of {z : Ss} {H H' : Hp} (s : Same H H') : Ks z H H' := fun c o h _ _ => s c o h
def Kd (z : Ss) (H H' : Hp) : Prop := ∀ c o, H c = some o → c ≠ z.p → c ∉ z.four → (∀ kvs, o ≠ .dT kvs) → H' c = some o
theorem Kd.trans {z : Ss} {H H1 H2 : Hp} (a : Kd z H H1) (b : Kd z H1 H2) : Kd z H H2 := fun c o h h1 h2 h3 => b c o (a c o h h1 h2 h3) h1 h2 h3
theorem Ks.kd {z : Ss} {H H' : Hp} (s : Ks z H H') : Kd z H H' := fun c o h h1 h2 _ => s c o h h1 h2
theorem Kd.of {z : Ss} {H H' : Hp} (s : Same H H') : Kd z H H' := fun c o h _ _ _ => s c o h
def hds (rows : List (Option Sh)) : List Addr := rows.filterMap fun r => r.map Sh.hd
structure SsAt (C P S : Addr) (H : Hp) (z : Ss) (s : St) : Prop where
  me : ∃ dx, H z.p = some (.ins C dx (ssF z.n z.fp z.sq s))
  fr : SpAt P S H z.fp z.ly z.tw s.fr s.tf
  sl : SpAt P S H z.sq z.ls z.ts s.sr s.ts
  n4 : z.four.Nodup
  bx : ∀ r, some r ∈ s.fr ∨ some r ∈ s.sr → r.bx ∉ z.four
  len : s.fr.length ≤ 64 ∧ s.sr.length ≤ 64
  hh : s.h < s.fr.length
theorem SsAt.same {C P S : Addr} {H H' : Hp} {z : Ss} {s : St} (h : SsAt C P S H z s) (e : Same H H') : SsAt C P S H' z s :=
  ⟨let ⟨dx, q⟩ := h.me; ⟨dx, e _ _ q⟩, h.fr.same e, h.sl.same e, h.n4, h.bx, h.len, h.hh⟩
theorem SsAt.fours {C P S : Addr} {H : Hp} {z : Ss} {s : St} (h : SsAt C P S H z s) : ∀ c ∈ z.four, ∃ us, H c = some (.lst us) := fun c hc => by
  obtain ⟨_, _, _, f2, _, f4, _⟩ := id h.fr
  obtain ⟨_, _, _, g2, _, g4, _⟩ := id h.sl
  unfold Ss.four at hc
  simp only [List.mem_cons, List.not_mem_nil, or_false] at hc
  rcases hc with rfl | rfl | rfl | rfl
  · exact ⟨_, f2⟩
  · exact ⟨_, f4⟩
  · exact ⟨_, g2⟩
  · exact ⟨_, g4⟩
theorem SsAt.nf {C P S : Addr} {H : Hp} {z : Ss} {s : St} (h : SsAt C P S H z s) {e : Addr} (he : H e = none) : e ∉ z.four := fun z9 => by obtain ⟨us, h⟩ := h.fours _ z9; rw [he] at h; cases h
def Ap (s : St) : Prop := (hds (s.fr ++ s.sr)).Nodup
def St.rw (s : St) (f : Bool) : List (Option Sh) := if f = true then s.fr else s.sr
def St.put (s : St) (f : Bool) (j : Nat) (r : Option Sh) : St := if f = true then { s with fr := s.fr.set j r } else { s with sr := s.sr.set j r }
def Ss.la (z : Ss) (f : Bool) : Addr := if f = true then z.ly else z.ls
def nmS (f : Bool) : Str := if f = true then Str.ofString "frame" else Str.ofString "slot"
theorem la_four {z : Ss} {f : Bool} : z.la f ∈ z.four := by cases f <;> simp [Ss.la, Ss.four]
theorem sh_upd {S a : Addr} {H : Hp} {us : List V} {o : HO} (hl : H a = some (.lst us)) {v : V} : ∀ {r : Option Sh}, ShAt S H v r → (∀ q, r = some q → q.bx ≠ a) → ShAt S (upd H a o) v r
  | none, h, _ => h
  | some r, ⟨e, ⟨dx, h1⟩, h2, h3⟩, hb => ⟨e, ⟨dx, by rw [upd_ne (ne_of h1 hl (fun z => nomatch z))]; exact h1⟩, by rw [upd_ne (hb r rfl)]; exact h2, by rw [upd_ne (ne_of h3 hl (fun z => nomatch z))]; exact h3⟩
theorem ly_upd {S a : Addr} {H : Hp} {us : List V} {o : HO} (hl : H a = some (.lst us)) {vs : List V} {rows : List (Option Sh)} (h : LyAt S H vs rows) (hb : ∀ r, some r ∈ rows → r.bx ≠ a) : LyAt S (upd H a o) vs rows := by
  induction h with
  | nil => exact .nil
  | @cons x y _ _ h t ih => exact .cons (sh_upd hl h fun q e => hb q (by rw [e]; exact List.mem_cons_self ..)) (ih fun r hr => hb r (List.mem_cons_of_mem _ hr))
theorem mem_put {s : St} {f : Bool} {j : Nat} {r : Option Sh} {q : Sh} (h : some q ∈ (s.put f j r).fr ∨ some q ∈ (s.put f j r).sr) : some q = r ∨ some q ∈ s.fr ∨ some q ∈ s.sr := by
  cases f with
  | true =>
    rcases h with h | h
    · rcases List.mem_or_eq_of_mem_set (show some q ∈ s.fr.set j r from h) with h | h
      · exact .inr (.inl h)
      · exact .inl h
    · exact .inr (.inr h)
  | false =>
    rcases h with h | h
    · exact .inr (.inl h)
    · rcases List.mem_or_eq_of_mem_set (show some q ∈ s.sr.set j r from h) with h | h
      · exact .inr (.inr h)
      · exact .inl h
theorem SsAt.set {C P S : Addr} {H : Hp} {z : Ss} {s : St} {f : Bool} {vs : List V} {v : V} {r : Option Sh} {j : Nat} (h : SsAt C P S H z s) (hl : H (z.la f) = some (.lst vs)) (hv : ShAt S H v r) (hb : ∀ q, r = some q → q.bx ∉ z.four) : SsAt C P S (upd H (z.la f) (.lst (vs.set j v))) z (s.put f j r) := by
  obtain ⟨dx, h1⟩ := h.me
  obtain ⟨dx1, vs1, f1, f2, f3, f4, f5⟩ := id h.fr
  obtain ⟨dx2, vs2, g1, g2, g3, g4, g5⟩ := id h.sl
  have n4 := h.n4
  unfold Ss.four at n4
  simp only [List.nodup_cons, List.mem_cons, List.not_mem_nil, or_false, not_or, not_false_eq_true, List.nodup_nil, and_true] at n4
  obtain ⟨⟨n1, n2, n3⟩, ⟨n5, n6⟩, n7⟩ := n4
  have bx : ∀ q, some q ∈ s.fr ∨ some q ∈ s.sr → q.bx ≠ z.la f := fun q hq e => h.bx q hq (by rw [e]; exact la_four)
  have hv2 : ShAt S (upd H (z.la f) (.lst (vs.set j v))) v r := sh_upd hl hv fun q e z9 => hb q e (by rw [z9]; exact la_four)
  have ni : ∀ {c D dx fs}, H c = some (.ins D dx fs) → upd H (z.la f) (.lst (vs.set j v)) c = some (.ins D dx fs) := fun hc => by rw [upd_ne (ne_of hc hl (fun z => nomatch z))]; exact hc
  have nl : ∀ {c o}, H c = some o → c ≠ z.la f → upd H (z.la f) (.lst (vs.set j v)) c = some o := fun hc hn => by rw [upd_ne hn]; exact hc
  have bx2 : ∀ q, some q ∈ (s.put f j r).fr ∨ some q ∈ (s.put f j r).sr → q.bx ∉ z.four := fun q hq => (mem_put hq).elim (fun e => hb q e.symm) (h.bx q)
  cases f with
  | true =>
    have e9 : vs = vs1 := by rw [show z.la true = z.ly from rfl, f2] at hl; cases hl; rfl
    subst e9
    have f4 := nl f4 (Ne.symm n1)
    rw [← List.length_set (as := s.fr) (i := j) (a := r)] at f5
    have len := h.len
    have hh := h.hh
    rw [← List.length_set (as := s.fr) (i := j) (a := r)] at len hh
    exact ⟨⟨dx, ni h1⟩, ⟨dx1, vs.set j v, ni f1, upd_same, prd_set hv2 j (ly_upd hl f3 fun q hq => bx q (.inl hq)), f4, f5⟩, ⟨dx2, vs2, ni g1, nl g2 (Ne.symm n2), ly_upd hl g3 fun q hq => bx q (.inr hq), nl g4 (Ne.symm n3), g5⟩, h.n4, bx2, len, hh⟩
  | false =>
    have e9 : vs = vs2 := by rw [show z.la false = z.ls from rfl, g2] at hl; cases hl; rfl
    subst e9
    have g4 := nl g4 (Ne.symm n7)
    rw [← List.length_set (as := s.sr) (i := j) (a := r)] at g5
    have len := h.len
    rw [← List.length_set (as := s.sr) (i := j) (a := r)] at len
    exact ⟨⟨dx, ni h1⟩, ⟨dx1, vs1, ni f1, nl f2 n2, ly_upd hl f3 fun q hq => bx q (.inl hq), nl f4 n5, f5⟩, ⟨dx2, vs.set j v, ni g1, upd_same, prd_set hv2 j (ly_upd hl g3 fun q hq => bx q (.inr hq)), g4, g5⟩, h.n4, bx2, len, h.hh⟩
theorem SsAt.num {C P S : Addr} {H : Hp} {z : Ss} {s s' : St} {dx : Addr} (h : SsAt C P S H z s) (e : H z.p = some (.ins C dx (ssF z.n z.fp z.sq s))) (e1 : s'.fr = s.fr) (e2 : s'.sr = s.sr) (e3 : s'.h < s.fr.length) (e4 : s'.tf = s.tf) (e5 : s'.ts = s.ts) : SsAt C P S (upd H z.p (.ins C dx (ssF z.n z.fp z.sq s'))) z s' := by
  obtain ⟨dx1, vs1, f1, f2, f3, f4, f5⟩ := id h.fr
  obtain ⟨dx2, vs2, g1, g2, g3, g4, g5⟩ := id h.sl
  have ho : ∀ {c o}, H c = some o → (∀ D d fs, o = .ins D d fs → fs.lookup ("hand" : Str) = none) → upd H z.p (.ins C dx (ssF z.n z.fp z.sq s')) c = some o := fun {c o} hc hn => by
    rw [upd_ne (fun e9 => ?_)]
    · exact hc
    · rw [e9, e] at hc
      have := hn _ _ _ (Option.some.inj hc).symm
      rw [ssF_hand] at this
      cases this
  have nl : ∀ {us D d fs}, HO.lst us = .ins D d fs → fs.lookup ("hand" : Str) = none := fun z => nomatch z
  have sp : ∀ {a b D d fs} {Q d2 : Addr}, HO.ins Q d2 (spF a b) = .ins D d fs → fs.lookup ("hand" : Str) = none := fun z => by cases z; exact spF_no (by decide +kernel)
  have sh : ∀ {v : V} {r : Option Sh}, ShAt S H v r → ShAt S (upd H z.p (.ins C dx (ssF z.n z.fp z.sq s'))) v r := fun {v r} hv => by
    cases r with
    | none => exact hv
    | some r =>
      obtain ⟨a, ⟨d, h1⟩, h2, h3⟩ := hv
      exact ⟨a, ⟨d, ho h1 fun _ _ _ z => by cases z; exact shF_no (by decide +kernel)⟩, ho h2 fun _ _ _ z => nl z, ho h3 fun _ _ _ z => nomatch z⟩
  exact ⟨⟨dx, upd_same⟩, ⟨dx1, vs1, ho f1 fun _ _ _ z => sp z, ho f2 fun _ _ _ z => nl z, by rw [e1]; exact Paired.mapP f3 fun _ _ q => sh q, by rw [e4]; exact ho f4 fun _ _ _ z => nl z, by rw [e1, e4]; exact f5⟩, ⟨dx2, vs2, ho g1 fun _ _ _ z => sp z, ho g2 fun _ _ _ z => nl z, by rw [e2]; exact Paired.mapP g3 fun _ _ q => sh q, by rw [e5]; exact ho g4 fun _ _ _ z => nl z, by rw [e2, e5]; exact g5⟩, h.n4, by rw [e1, e2]; exact h.bx, by rw [e1, e2]; exact h.len, by rw [e1]; exact e3⟩

def Ss.ta (z : Ss) (f : Bool) : Addr := if f = true then z.tw else z.ts
def St.tn (s : St) (f : Bool) : List (Option Nat) := if f = true then s.tf else s.ts
def St.tie (s : St) (f : Bool) (j : Nat) (o : Option Nat) : St := if f = true then { s with tf := s.tf.set j o } else { s with ts := s.ts.set j o }
theorem ta_four {z : Ss} {f : Bool} : z.ta f ∈ z.four := by cases f <;> simp [Ss.ta, Ss.four]
theorem SsAt.tie {C P S : Addr} {H : Hp} {z : Ss} {s : St} {f : Bool} {j : Nat} {o : Option Nat} (h : SsAt C P S H z s) : SsAt C P S (upd H (z.ta f) (.lst (((s.tn f).map oV).set j (oV o)))) z (s.tie f j o) := by
  obtain ⟨dx, h1⟩ := h.me
  obtain ⟨dx1, vs1, f1, f2, f3, f4, f5⟩ := id h.fr
  obtain ⟨dx2, vs2, g1, g2, g3, g4, g5⟩ := id h.sl
  have n4 := h.n4
  unfold Ss.four at n4
  simp only [List.nodup_cons, List.mem_cons, List.not_mem_nil, or_false, not_or, not_false_eq_true, List.nodup_nil, and_true] at n4
  obtain ⟨⟨n1, n2, n3⟩, ⟨n5, n6⟩, n7⟩ := n4
  have hl : H (z.ta f) = some (.lst ((s.tn f).map oV)) := by cases f with | true => exact f4 | false => exact g4
  have bx : ∀ q, some q ∈ s.fr ∨ some q ∈ s.sr → q.bx ≠ z.ta f := fun q hq e => h.bx q hq (by rw [e]; exact ta_four)
  have es : ((s.tn f).map oV).set j (oV o) = ((s.tn f).set j o).map oV := by rw [List.map_set]
  rw [es]
  have ni : ∀ {c D dx fs}, H c = some (.ins D dx fs) → upd H (z.ta f) (.lst (((s.tn f).set j o).map oV)) c = some (.ins D dx fs) := fun hc => by rw [upd_ne (ne_of hc hl (fun z => nomatch z))]; exact hc
  have nl : ∀ {c o'}, H c = some o' → c ≠ z.ta f → upd H (z.ta f) (.lst (((s.tn f).set j o).map oV)) c = some o' := fun hc hn => by rw [upd_ne hn]; exact hc
  cases f with
  | true => exact ⟨⟨dx, ni h1⟩, ⟨dx1, vs1, ni f1, nl f2 n1, ly_upd hl f3 fun q hq => bx q (.inl hq), upd_same, by show (s.tf.set j o).length = _; rw [List.length_set]; exact f5⟩, ⟨dx2, vs2, ni g1, nl g2 (Ne.symm n5), ly_upd hl g3 fun q hq => bx q (.inr hq), nl g4 (Ne.symm n6), g5⟩, h.n4, h.bx, h.len, h.hh⟩
  | false => exact ⟨⟨dx, ni h1⟩, ⟨dx1, vs1, ni f1, nl f2 n3, ly_upd hl f3 fun q hq => bx q (.inl hq), nl f4 n6, f5⟩, ⟨dx2, vs2, ni g1, nl g2 n7, ly_upd hl g3 fun q hq => bx q (.inr hq), upd_same, by show (s.ts.set j o).length = _; rw [List.length_set]; exact g5⟩, h.n4, h.bx, h.len, h.hh⟩

def sp_shi (C : Addr) : Sp := fun vs H Q _ => ∃ (s dx l h : Addr) (bs : List Int) (k : List Key), vs = [.ref s, .ref l, .ref h] ∧ H s = some (.ins C dx []) ∧ H l = some (.lst (bs.map V.int)) ∧ H h = some (.tup (k.map kV)) ∧
  ∀ bx hd H', H bx = none → H hd = none → Kp [s] H H' → H' s = some (.ins C dx (shF bx hd)) → H' bx = some (.lst (bs.map V.int)) → H' hd = some (.dT [(k, .bl true)]) → Q .non H'
theorem h_shi (T : Txt K mg A) : HaveI P w K mg base "Sheet" A.C_Sheet 1 ["self", "boxes", "holder"] [] (sp_shi A.C_Sheet) := by
  refine T.r_Sheet_init.have sc_Sheet_init (fun vs H Q E z => ?_) ?_
  · obtain ⟨s, dx, l, h, bs, k, rfl, _⟩ := z; rfl
  · intro f cdv A' outer s H vs Q E hr z
    obtain ⟨s, dx, l, h, bs, k, rfl, hs, hl, hh, q⟩ := z
    refine ⟨_, (pss_cons (ps_fld (pvM 0) (pe_callTy call_list_of rfl T.b_list PyProof.Rows.boot_list (pa_cons (pvM 1) pa_nil)) rfl)
      (pss_one (ps_fld (pvM 0) (pe_dispT (hu_of hr) (pvM 2) pe_bl) rfl))), ?_⟩
    unfold tDispT
    walk_at "wp"
    refine ⟨_, .inl (SqL.of hl), fun bx hbx => ?_⟩
    have b1 := same_upd (o := .lst (bs.map V.int)) (same_refl (H := H)) hbx
    have nsb : s ≠ bx := ne_of_none hs hbx
    refine ⟨A.C_Sheet, dx, [], b1 _ _ hs, T.cl_Sheet, T.na_Sheet_boxes, by decide, fun hd hhd => ?_⟩
    have nhs : hd ≠ s := fun z => by rw [z, upd_same] at hhd; cases hhd
    have nhb : hd ≠ bx := fun z => by rw [z, upd_ne nsb.symm, upd_same] at hhd; cases hhd
    have hhd0 : H hd = none := by rw [upd_ne nhs] at hhd; exact same_none b1 hhd
    have nhh : h ≠ hd := ne_of_none hh hhd0
    have nhs2 : h ≠ s := ne_of hh hs (fun z => nomatch z)
    refine ⟨k, by rw [upd_ne nhh, upd_ne nhs2]; exact b1 _ _ hh, A.C_Sheet, dx, putF "boxes" (.ref bx) [], by rw [upd_ne nhs.symm, upd_same], T.cl_Sheet, T.na_Sheet_holders, by show 1 < 1000; decide, ?_⟩
    refine q bx hd _ hbx hhd0 (fun c o hc hx => ?_) upd_same ?_ ?_
    · have ncs : c ≠ s := fun z => hx (by simp [z])
      rw [upd_ne ncs, upd_ne (ne_of_none hc hhd0), upd_ne ncs]; exact b1 _ _ hc
    · rw [upd_ne nsb.symm, upd_ne nhb.symm, upd_ne nsb.symm, upd_same]
    · rw [upd_ne nhs, upd_same]

theorem prd_flip {α β : Type} {F : α → β → Prop} {G : β → α → Prop} : ∀ {xs : List α} {ys : List β}, Paired F xs ys → (∀ x y, F x y → G y x) → Paired G ys xs
  | _, _, .nil, _ => .nil
  | _, _, .cons r t, h => .cons (h _ _ r) (prd_flip t h)
def insK (k : List Key) : List (List Key) → List (List Key)
  | [] => [k]
  | x :: r => if kLt k x = true then k :: x :: r else x :: insK k r
def srt : List (List Key) → List (List Key)
  | [] => []
  | k :: r => insK k (srt r)
theorem ins_perm {k : List Key} : ∀ {l : List (List Key)}, (insK k l).Perm (k :: l)
  | [] => List.Perm.refl _
  | x :: r => by
    unfold insK
    split
    · exact List.Perm.refl _
    · exact (List.Perm.cons x (ins_perm (l := r))).trans (List.Perm.swap ..)
theorem srt_perm : ∀ {l : List (List Key)}, (srt l).Perm l
  | [] => List.Perm.refl _
  | k :: r => (ins_perm (l := srt r)).trans (List.Perm.cons k srt_perm)
theorem ins_up {k : List Key} (hk : Tri k) : ∀ {l : List (List Key)}, (∀ x ∈ l, Tri x) → k ∉ l → l.Pairwise (kLt · · = true) → (insK k l).Pairwise (kLt · · = true)
  | [], _, _, _ => List.pairwise_singleton _ _
  | x :: r, ht, hn, h => by
    unfold insK
    have hx := ht x (List.mem_cons_self ..)
    obtain ⟨h1, h2⟩ := List.pairwise_cons.mp h
    split
    · rename_i c
      refine List.pairwise_cons.mpr ⟨fun y hy => ?_, h⟩
      rcases List.mem_cons.mp hy with rfl | hy
      · exact c
      · exact kLt_tr hk hx (ht y (List.mem_cons_of_mem _ hy)) c (h1 y hy)
    · rename_i c
      have c2 : kLt x k = true := (kLt_to hk hx (fun e => hn (by rw [e]; exact List.mem_cons_self ..))).resolve_left c
      refine List.pairwise_cons.mpr ⟨fun y hy => ?_, ins_up hk (fun y hy => ht y (List.mem_cons_of_mem _ hy)) (fun z => hn (List.mem_cons_of_mem _ z)) h2⟩
      rcases List.mem_cons.mp (ins_perm.mem_iff.mp hy) with rfl | hy
      · exact c2
      · exact h1 y hy
theorem srt_up : ∀ {l : List (List Key)}, (∀ x ∈ l, Tri x) → l.Nodup → (srt l).Pairwise (kLt · · = true)
  | [], _, _ => .nil
  | k :: r, ht, hn => ins_up (ht k (List.mem_cons_self ..)) (fun x hx => ht x (List.mem_cons_of_mem _ (srt_perm.mem_iff.mp hx))) (fun z => (List.nodup_cons.mp hn).1 (srt_perm.mem_iff.mp z)) (srt_up (fun x hx => ht x (List.mem_cons_of_mem _ hx)) (List.nodup_cons.mp hn).2)
theorem srt_uq {l ks : List (List Key)} (ht : ∀ x ∈ l, Tri x) (hn : l.Nodup) (hp : ks.Perm l) (hu : ks.Pairwise (kLt · · = true)) : ks = srt l :=
  kLt_uq (hp.trans srt_perm.symm) (fun k hk => ht k (hp.mem_iff.mp hk)) hu (srt_up ht hn)
def TdK (H : Hp) (l : Addr) (ks : List (List Key)) : Prop := ∃ us, H l = some (.lst us) ∧ Paired (fun v k => ∃ a, v = V.ref a ∧ H a = some (.tup (k.map kV))) us ks
theorem TdK.same {H H' : Hp} {l : Addr} {ks : List (List Key)} (h : TdK H l ks) (s : Same H H') : TdK H' l ks := let ⟨us, h1, h2⟩ := h; ⟨us, s _ _ h1, Paired.mapP h2 fun _ _ ⟨a, e, q⟩ => ⟨a, e, s _ _ q⟩⟩
def Okk (ks : List (List Key)) : Prop := ks.length < 64 ∧ ks.Nodup ∧ ∀ k ∈ ks, Tri k
def Okh (r : Sh) : Prop := Okk r.ks
def sp_told (C : Addr) : Sp := fun vs H Q _ => ∃ (v : V) (r : Sh), vs = [v] ∧ ShAt C H v (some r) ∧ Okh r ∧ ∀ l H', H l = none → Same H H' → TdK H' l (srt r.ks) → Q (.ref l) H'
theorem h_told (T : Txt K mg A) : HaveM P w K mg base A.C_Sheet "told_holders" 1 ["self"] [] (sp_told A.C_Sheet) := by
  refine T.r_Sheet_told_holders.have sc_Sheet_told_holders (fun vs H Q E z => ?_) ?_
  · obtain ⟨v, r, rfl, _⟩ := z; rfl
  · intro f cdv A' outer s H vs Q E hr z
    obtain ⟨v, r, rfl, ⟨rfl, ⟨dx, h1⟩, h2, h3⟩, ⟨h64, hnd, htr⟩, q⟩ := z
    refine ⟨_, (pss_one (ps_ret (pe_callB (call_sortedTd rfl) rfl T.b_sorted PyProof.Rows.boot_sorted (pa_cons (pe_fld (pvM 0) rfl) pa_nil)))), ?_⟩
    walk_at "wp"
    simp only [h1]
    walk_at "wp"
    have ek : (ksD r.ks).map (·.1) = r.ks := by unfold ksD; rw [List.map_map]; exact List.map_id _
    refine ⟨T.cl_Sheet, T.na_Sheet_holders, _, shF_holders, r.hd, rfl, ksD r.ks, h3, by unfold ksD; rw [List.length_map]; exact h64, fun kv hkv => ?_, fun l us ks hl hks hpm hup => ?_⟩
    · exact htr _ (by rw [← ek]; exact List.mem_map.mpr ⟨kv, hkv, rfl⟩)
    · rw [ek] at hpm
      rw [srt_uq htr hnd hpm hup] at hks
      refine q l _ hl (same_upd same_refl hl) ⟨us, upd_same, ?_⟩
      exact prd_flip hks fun _ _ ⟨a, e, h⟩ => ⟨a, e, (same_upd same_refl hl) _ _ h⟩
def sp_spi (C : Addr) : Sp := fun vs H Q _ => ∃ (s dx : Addr) (n : Nat), vs = [.ref s, .int n] ∧ H s = some (.ins C dx []) ∧ n ≤ 64 ∧
  ∀ ly tw H', H ly = none → H tw = none → ly ≠ tw → Kp [s] H H' → H' s = some (.ins C dx (spF ly tw)) → H' ly = some (.lst (List.replicate n V.non)) → H' tw = some (.lst (List.replicate n V.non)) → Q .non H'
theorem h_spi (T : Txt K mg A) : HaveI P w K mg base "Spots" A.C_Spots 1 ["self", "many"] [] (sp_spi A.C_Spots) := by
  refine T.r_Spots_init.have sc_Spots_init (fun vs H Q E z => ?_) ?_
  · obtain ⟨s, dx, n, rfl, _⟩ := z; rfl
  · intro f cdv A' outer s H vs Q E hr z
    obtain ⟨s, dx, n, rfl, hs, hn, q⟩ := z
    refine ⟨_, (pss_cons (ps_fld (pvM 0) (pe_op op_rep (pe_lst (pa_cons pe_non pa_nil)) (pvM 1)) rfl)
      (pss_one (ps_fld (pvM 0) (pe_op op_rep (pe_lst (pa_cons pe_non pa_nil)) (pvM 1)) rfl))), ?_⟩
    unfold rRep
    walk_at "wp"
    have e : ∀ k : Nat, (List.replicate k [V.non]).flatten = List.replicate k V.non := fun k => by
      induction k with
      | zero => rfl
      | succ k ih => rw [List.replicate_succ, List.flatten_cons, ih]; rfl
    intro l1 hl1
    have b1 := same_upd (o := .lst [V.non]) (same_refl (H := H)) hl1
    refine ⟨[.non], rfl, by omega, by omega, by show 1 * n ≤ 16777216; omega, fun ly hly => ?_⟩
    rw [Int.toNat_natCast, e]
    have hly0 := same_none b1 hly
    have b2 := same_upd (o := .lst (List.replicate n V.non)) b1 hly
    have nsl : s ≠ ly := ne_of_none hs hly0
    refine ⟨A.C_Spots, dx, [], b2 _ _ hs, T.cl_Spots, T.na_Spots_lying, by decide, fun l2 hl2 => ?_⟩
    have k3 : ∀ c o, H c = some o → c ≠ s → upd (upd (upd H l1 (.lst [V.non])) ly (.lst (List.replicate n V.non))) s (.ins A.C_Spots dx (putF "lying" (.ref ly) [])) c = some o := fun c o hc hn => by rw [upd_ne hn]; exact b2 _ _ hc
    have hs3 : upd (upd (upd H l1 (.lst [V.non])) ly (.lst (List.replicate n V.non))) s (.ins A.C_Spots dx (putF "lying" (.ref ly) [])) s = some (.ins A.C_Spots dx (putF "lying" (.ref ly) [])) := upd_same
    have hly3 : upd (upd (upd H l1 (.lst [V.non])) ly (.lst (List.replicate n V.non))) s (.ins A.C_Spots dx (putF "lying" (.ref ly) [])) ly = some (.lst (List.replicate n V.non)) := by rw [upd_ne nsl.symm, upd_same]
    have n3 : ∀ c, upd (upd (upd H l1 (.lst [V.non])) ly (.lst (List.replicate n V.non))) s (.ins A.C_Spots dx (putF "lying" (.ref ly) [])) c = none → H c = none ∧ c ≠ s := fun c hc => by
      have ncs : c ≠ s := fun z => by rw [z, upd_same] at hc; cases hc
      rw [upd_ne ncs] at hc
      exact ⟨same_none b2 hc, ncs⟩
    generalize upd (upd (upd H l1 (.lst [V.non])) ly (.lst (List.replicate n V.non))) s (.ins A.C_Spots dx (putF "lying" (.ref ly) [])) = H3 at *
    have c4 := same_upd (o := .lst [V.non]) (same_refl (H := H3)) hl2
    refine ⟨[.non], rfl, by omega, by omega, by show 1 * n ≤ 16777216; omega, fun tw htw => ?_⟩
    rw [e]
    have c5 := same_upd (o := .lst (List.replicate n V.non)) c4 htw
    have htw3 := same_none c4 htw
    refine ⟨A.C_Spots, dx, putF "lying" (.ref ly) [], c5 _ _ hs3, T.cl_Spots, T.na_Spots_twins, by show 1 < 1000; decide, ?_⟩
    have nts := (n3 tw htw3).2
    refine q ly tw _ hly0 (n3 tw htw3).1 (ne_of_none hly3 htw3) (fun c o hc hx => ?_) upd_same (by rw [upd_ne nsl.symm]; exact c5 _ _ hly3) (by rw [upd_ne nts, upd_same])
    have ncs : c ≠ s := fun z => hx (by simp [z])
    rw [upd_ne ncs]
    exact c5 _ _ (k3 c o hc ncs)

def emp (rows : List (Option Sh)) (tws : List (Option Nat)) : Option Nat := (rows.zip tws).findIdx? fun p => p.1.isNone && p.2.isNone
def fe (rows : List (Option Sh)) (tws : List (Option Nat)) : V := match emp rows tws with
  | none => .non
  | some j => .int (j : Int)
def sp_fe (C S : Addr) : Sp := fun vs H Q _ => ∃ (p ly tw : Addr) (rows : List (Option Sh)) (tws : List (Option Nat)), vs = [.ref p] ∧ SpAt C S H p ly tw rows tws ∧ ∀ H', Same H H' → Q (fe rows tws) H'
theorem h_fe (T : Txt K mg A) : HaveM P w K mg base A.C_Spots "first_empty" 1 ["self"] [] (sp_fe A.C_Spots A.C_Sheet) := by
  refine T.r_Spots_first_empty.have sc_Spots_first_empty (fun vs H Q E z => ?_) ?_
  · obtain ⟨p, ly, tw, rows, tws, rfl, _⟩ := z; rfl
  · intro f cdv A' outer s H vs Q E hr z
    obtain ⟨p, ly, tw, rows, tws, rfl, ⟨dx, us, h1, h2, h3, h4, h5⟩, q⟩ := z
    refine ⟨_, (pss_cons (ps_forE PassesOwn.leaving rfl (pi_enum rfl T.b_enumerate (pa_cons (pe_fld (pvM 0) rfl) pa_nil)) (pg_tup (n := 2) rfl (pgs_cons (pg_name (i := 1) sc_Spots_first_empty.nd rfl (Or.inl rfl)) (pgs_cons (pg_name (i := 2) sc_Spots_first_empty.nd rfl (Or.inl rfl)) pgs_nil))) (pss_one (ps_if (PW.pt (pw_and (pt_cmpR op_isN (pvM 2) pe_non (nomark _)) (pw_and1 (pt_cmpR op_isN (pe_ix ix_list (pe_fld (pvM 0) rfl) (pvM 1) (fun _ _ => rfl)) pe_non (nomark _))))) (pss_one (ps_ret (pvM 1))) pss_nil)))
      (pss_one (ps_ret pe_non))), ?_⟩
    walk_at "wp"
    simp only [h1]
    walk_at "wp"
    have hul := Paired.length h3
    have hzl : (rows.zip tws).length = rows.length := by rw [List.length_zip]; omega
    refine ⟨T.cl_Spots, T.na_Spots_lying, _, spF_lying, ly, rfl, ⟨_, SqL.of h2⟩, loop_enum (xs := us) (fun i σ H' => ∃ v1 v2, σ = [some (.ref p), v1, v2] ∧ Same H H' ∧ ∀ (j : Nat) y, j < i → (rows.zip tws)[j]? = some y → (y.1.isNone && y.2.isNone) = false) ⟨_, _, rfl, same_refl, fun j r h => absurd h (Nat.not_lt_zero _)⟩ (fun i σ H' _ ⟨_, _, _, e, _⟩ => SqL.of (e _ _ h2)) (fun i x tt σ H' hi => ?_) (fun σ H1 => ?_)⟩
    · rintro ⟨v1, v2, rfl, s1, hno⟩ ht
      obtain ⟨y, hy1, hy2⟩ := prd_get h3 hi
      have b1 := same_upd (o := .tup [V.int i, x]) s1 ht
      have hil : i < rows.length := (List.getElem?_eq_some_iff.mp hy1).1
      obtain ⟨o, ho⟩ : ∃ o, tws[i]? = some o := ⟨_, List.getElem?_eq_getElem (by omega)⟩
      have hzi : (rows.zip tws)[i]? = some (y, o) := by rw [List.getElem?_zip_eq_some]; exact ⟨hy1, ho⟩
      have go : (y.isNone && o.isNone) = false → ∀ (j : Nat) y, j < i + 1 → (rows.zip tws)[j]? = some y → (y.1.isNone && y.2.isNone) = false := fun hb j y' hj hy => by
        rcases (by omega : j < i ∨ j = i) with h | rfl
        · exact hno j y' h hy
        · rw [hzi] at hy
          cases hy
          exact hb
      cases y with
      | none =>
        obtain rfl : x = .non := hy2
        walk_at "wp"
        refine ⟨_, SqT.of upd_same, rfl, _, _, rfl, _, _, rfl, rfl, ?_⟩
        rw [if_pos rfl]
        refine ⟨A.C_Spots, dx, _, b1 _ _ h1, T.cl_Spots, T.na_Spots_twins, _, spF_twins, tw, rfl, _, _, rfl, SqL.of (b1 _ _ h4), oV o, atI_nat (by rw [List.getElem?_map, ho]; rfl), ?_⟩
        cases o with
        | none =>
          rw [if_pos (show oV none = V.non from rfl)]
          have e : fe rows tws = .int (i : Int) := by
            have e : emp rows tws = some i := List.findIdx?_eq_some_iff_getElem.mpr ⟨by omega, by rw [(List.getElem?_eq_some_iff.mp hzi).2]; rfl, fun j hj => by
              rw [hno j _ hj (List.getElem?_eq_getElem (by omega))]
              decide⟩
            unfold fe
            rw [e]
          have hq := q _ b1
          rw [e] at hq
          exact hq
        | some j =>
          rw [if_neg (fun z => nomatch z)]
          exact ⟨b1, go rfl⟩
      | some r =>
        obtain ⟨rfl, _⟩ := hy2
        walk_at "wp"
        refine ⟨_, SqT.of upd_same, rfl, _, _, rfl, _, _, rfl, rfl, ?_⟩
        rw [if_neg (fun z => nomatch z)]
        exact iteF ⟨b1, go rfl⟩
    rintro ⟨v1, v2, rfl, s1, hno⟩
    walk_at "wp"
    have e : fe rows tws = .non := by
      have e : emp rows tws = none := List.findIdx?_eq_none_iff.mpr fun y hy => by
        obtain ⟨j, hj⟩ := List.mem_iff_getElem?.mp hy
        exact hno j y (by rw [hul, ← hzl]; exact (List.getElem?_eq_some_iff.mp hj).1) hj
      unfold fe
      rw [e]
    rw [← e]
    exact q _ s1
def cnt (rows : List (Option Sh)) : Nat := (rows.filter Option.isSome).length
def sp_lc (C S : Addr) : Sp := fun vs H Q _ => ∃ (p ly tw : Addr) (rows : List (Option Sh)) (tws : List (Option Nat)), vs = [.ref p] ∧ SpAt C S H p ly tw rows tws ∧ rows.length ≤ 64 ∧ ∀ H', Same H H' → Q (.int (cnt rows : Nat)) H'
theorem h_lc (T : Txt K mg A) : HaveM P w K mg base A.C_Spots "live_count" 1 ["self"] [] (sp_lc A.C_Spots A.C_Sheet) := by
  refine T.r_Spots_live_count.have sc_Spots_live_count (fun vs H Q E z => ?_) ?_
  · obtain ⟨p, ly, tw, rows, tws, rfl, _⟩ := z; rfl
  · intro f cdv A' outer s H vs Q E hr z
    obtain ⟨p, ly, tw, rows, tws, rfl, ⟨dx, us, h1, h2, h3, h4, _⟩, hlen, q⟩ := z
    refine ⟨_, (pss_one (ps_ret (pe_callB call_len rfl T.b_len PySem.boot_len (pa_cons (pe_comp rfl (pi_list (pe_fld (pvM 0) rfl)) (x := "sheet") (fs := []) (ix := []) rfl rfl (fun _ _ _ _ _ _ => (pg_name (i := 0) (show (["sheet"] : List Str).Nodup by decide +kernel) rfl (Or.inl rfl))) (fun _ _ _ _ _ _ => (pf_one (pt_cmpR op_notN (pvM 0) pe_non (nomark _)))) (fun _ _ _ _ _ _ => (pvM 0))) pa_nil)))), ?_⟩
    walk_at "wp"
    simp only [h1]
    walk_at "wp"
    have hul := Paired.length h3
    refine ⟨T.cl_Spots, T.na_Spots_lying, _, spF_lying, ly, rfl, ⟨_, SqL.of h2⟩, fun D hD => comp_list (xs := us) (fun i ys σ H' => ∃ v, σ = [v] ∧ Same H H' ∧ H' D = some (.lst ys) ∧ ys.length = cnt (rows.take i)) ⟨_, rfl, same_upd same_refl hD, upd_same, rfl⟩ (fun i ys σ H' _ ⟨_, _, s2, _⟩ => SqL.of (s2 _ _ h2)) (fun i v ys σ H' hi => ?_) (fun ys σ H' => ?_)⟩
    · rintro ⟨v0, rfl, s1, hD1, hy⟩
      obtain ⟨y, hy1, hy2⟩ := prd_get h3 hi
      have htk : rows.take (i + 1) = rows.take i ++ [y] := by rw [List.take_add_one, hy1]; rfl
      have hc : cnt (rows.take (i + 1)) = cnt (rows.take i) + (if y.isSome = true then 1 else 0) := by
        unfold cnt
        rw [htk, List.filter_append, List.length_append]
        cases y <;> rfl
      have hle : cnt (rows.take i) ≤ 64 := by
        unfold cnt
        exact Nat.le_trans (List.length_filter_le _ _) (by rw [List.length_take]; omega)
      have hz := PySem.sizeLine_eq
      cases y with
      | none =>
        obtain rfl : v = .non := hy2
        walk_at "wp"
        exact iteF ⟨s1, hD1, by rw [hc]; exact hy⟩
      | some r =>
        obtain ⟨rfl, _⟩ := hy2
        walk_at "wp"
        exact iteT ⟨hD1, by omega, same_put s1 hD, by rw [List.length_append, hc, hy]; rfl⟩
    · rintro ⟨v0, rfl, s1, hD1, hy⟩
      rw [hul, List.take_length] at hy
      refine ⟨_, .inl ⟨_, SqL.of hD1, rfl⟩, ?_⟩
      rw [hy]
      exact q _ s1


def ftw (tws : List (Option Nat)) : Option Nat := tws.findSome? id
def sp_ft (C S : Addr) : Sp := fun vs H Q _ => ∃ (p ly tw : Addr) (rows : List (Option Sh)) (tws : List (Option Nat)), vs = [.ref p] ∧ SpAt C S H p ly tw rows tws ∧ ∀ H', Same H H' → Q (oV (ftw tws)) H'
theorem h_ft (T : Txt K mg A) : HaveM P w K mg base A.C_Spots "first_twin" 1 ["self"] [] (sp_ft A.C_Spots A.C_Sheet) := by
  refine T.r_Spots_first_twin.have sc_Spots_first_twin (fun vs H Q E z => ?_) ?_
  · obtain ⟨p, ly, tw, rows, tws, rfl, _⟩ := z; rfl
  · intro f cdv A' outer s H vs Q E hr z
    obtain ⟨p, ly, tw, rows, tws, rfl, ⟨dx, us, h1, h2, h3, h4, _⟩, q⟩ := z
    refine ⟨_, (pss_cons (ps_forE PassesOwn.leaving rfl (pi_list (pe_fld (pvM 0) rfl)) (pg_name (i := 1) sc_Spots_first_twin.nd rfl (Or.inl rfl)) (pss_one (ps_if (pt_cmpR op_notN (pvM 1) pe_non (nomark _)) (pss_one (ps_ret (pvM 1))) pss_nil)))
      (pss_one (ps_ret pe_non))), ?_⟩
    walk_at "wp"
    simp only [h1]
    walk_at "wp"
    refine ⟨T.cl_Spots, T.na_Spots_twins, _, spF_twins, tw, rfl, ⟨_, SqL.of h4⟩, loop_list (xs := tws.map oV) (fun i σ H' => ∃ v1, σ = [some (.ref p), v1] ∧ Same H H' ∧ ftw tws = ftw (tws.drop i)) ⟨_, rfl, same_refl, rfl⟩ (fun i σ H' _ ⟨_, _, e, _⟩ => SqL.of (e _ _ h4)) (fun i x σ H' hi => ?_) (fun σ H1 => ?_)⟩
    · rintro ⟨v1, rfl, s1, hd⟩
      rw [List.getElem?_map] at hi
      obtain ⟨o, ho, rfl⟩ := Option.map_eq_some_iff.mp hi
      have hdr : tws.drop i = o :: tws.drop (i + 1) := by
        obtain ⟨q1, q2⟩ := List.getElem?_eq_some_iff.mp ho
        rw [← q2]; exact List.drop_eq_getElem_cons q1
      walk_at "wp"
      cases o with
      | none => exact iteF ⟨s1, by rw [hd, hdr]; rfl⟩
      | some j =>
        refine iteT ?_
        have e : ftw tws = some j := by rw [hd, hdr]; rfl
        have := q _ s1
        rw [e] at this
        exact this
    · rintro ⟨v1, rfl, s1, hd⟩
      rw [List.length_map, List.drop_length] at hd
      walk_at "wp"
      have := q _ s1
      rw [hd] at this
      exact this

theorem hds_mem {rows : List (Option Sh)} {a : Addr} : a ∈ hds rows ↔ ∃ r, some r ∈ rows ∧ r.hd = a := by
  unfold hds
  rw [List.mem_filterMap]
  refine ⟨fun ⟨x, hx, e⟩ => ?_, fun ⟨r, hr, e⟩ => ⟨some r, hr, by rw [← e]; rfl⟩⟩
  cases x with
  | none => cases e
  | some r => exact ⟨r, hx, Option.some.inj e⟩
theorem prd_app {α β : Type} {F : α → β → Prop} {xs : List α} {ys : List β} {x : α} {y : β} (h : Paired F xs ys) (hx : F x y) : Paired F (xs ++ [x]) (ys ++ [y]) := by
  induction h with
  | nil => exact .cons hx .nil
  | cons r t ih => exact .cons r ih
theorem ixn {n j : Nat} (h : j < n) : ixN n (j : Int) = some j := by
  unfold ixN
  rw [if_pos (by omega), if_pos (by omega)]; rfl

def live (s : St) : Nat := cnt s.fr + cnt s.sr
def room (s : St) : Nat := s.fr.length + s.sr.length
def sp_ssi (C P S : Addr) : Sp := fun vs H Q _ => ∃ (s dx : Addr) (n m : Nat) (z : Int), vs = [.ref s, .int n, .int m, .int z] ∧ H s = some (.ins C dx []) ∧ 1 ≤ n ∧ n ≤ 64 ∧ m ≤ 64 ∧
  ∀ H' y, SsAt C P S H' y ⟨List.replicate n none, List.replicate m none, 0, 0, 0, 0, List.replicate n none, List.replicate m none⟩ → y.p = s → (∀ c ∈ y.four, H c = none) → Kp [s] H H' → Q .non H'
theorem h_ssi (T : Txt K mg A) : HaveI P w K mg base "Sheets" A.C_Sheets 3 ["self", "frames", "slots", "size"] [] (sp_ssi A.C_Sheets A.C_Spots A.C_Sheet) := by
  have H_Spots_init := h_spi (P := P) (w := w) (base := base) T
  refine T.r_Sheets_init.have sc_Sheets_init (fun vs H Q E z => ?_) ?_
  · obtain ⟨s, dx, n, m, z, rfl, _⟩ := z; rfl
  · intro f cdv A' outer s H vs Q E hr z
    obtain ⟨s, dx, n, m, z, rfl, hs, hn0, hn, hm, q⟩ := z
    refine ⟨_, (pss_cons (ps_fld (pvM 0) (pvM 3) rfl)
      (pss_cut (ps_fld (pvM 0) (pe_makeE H_Spots_init (hr.mono (by decide)) xw_def (pa_cons (pvM 1) pa_nil)) rfl)
      (pss_cons (ps_fld (pvM 0) (pe_makeE H_Spots_init (hr.mono (by decide)) xw_def (pa_cons (pvM 2) pa_nil)) rfl)
      (pss_cons (ps_fld (pvM 0) pe_int rfl)
      (pss_cons (ps_fld (pvM 0) pe_int rfl)
      (pss_cons (ps_fld (pvM 0) pe_int rfl)
      (pss_one (ps_fld (pvM 0) pe_int rfl)))))))), ?_⟩
    unfold sp_spi
    walk_at "wp"
    refine ⟨A.C_Sheets, dx, [], hs, T.cl_Sheets, T.na_Sheets_size, by decide, ?_⟩
    have hs1 : upd H s (.ins A.C_Sheets dx (putF "size" (.int z) [])) s = some (.ins A.C_Sheets dx (putF "size" (.int z) [])) := upd_same
    have k1 : ∀ c o, H c = some o → c ≠ s → upd H s (.ins A.C_Sheets dx (putF "size" (.int z) [])) c = some o := fun c o hc hn => by rw [upd_ne hn]; exact hc
    have n1 : ∀ c, upd H s (.ins A.C_Sheets dx (putF "size" (.int z) [])) c = none → H c = none ∧ c ≠ s := fun c hc => by
      have ncs : c ≠ s := fun z => by rw [z, upd_same] at hc; cases hc
      rw [upd_ne ncs] at hc
      exact ⟨hc, ncs⟩
    generalize upd H s (.ins A.C_Sheets dx (putF "size" (.int z) [])) = H1 at *
    refine ⟨fun σ H' => ∃ fp fdx ly tw H2, σ = [some (.ref s), some (.int (n : Int)), some (.int (m : Int)), some (.int z)] ∧ H1 fp = none ∧ H1 ly = none ∧ H1 tw = none ∧ ly ≠ tw ∧ Same H1 H2 ∧ H2 fp = some (.ins A.C_Spots fdx (spF ly tw)) ∧ H2 ly = some (.lst (List.replicate n V.non)) ∧ H2 tw = some (.lst (List.replicate n V.non)) ∧ H' = upd H2 s (.ins A.C_Sheets dx (putF "frames" (.ref fp) (putF "size" (.int z) []))), ?_, fun σ' H' => ?_⟩
    · walk_at "wp"
      intro fp fdx hfp hfdx hne
      refine ⟨fdx, n, rfl, rfl, hn, fun ly tw H2 hly htw hlt kp2 a1 a2 a3 => ?_⟩
      have sm := same_make (o := .ins A.C_Spots fdx []) hfp hfdx hne
      have s12 : Same H1 H2 := fun c o hc => kp2 c o (sm c o hc) (fun z => ne_of_none hc hfp (List.mem_singleton.mp z))
      exact ⟨A.C_Sheets, dx, _, s12 _ _ hs1, T.cl_Sheets, T.na_Sheets_frames, by show 1 < 1000; decide, fp, hfp, fdx, ly, same_none sm hly, tw, same_none sm htw, hlt, H2, s12, a1, a2, a3, rfl⟩
    rintro ⟨fp, fdx, ly, tw, H2, rfl, hfp, hly1, htw1, hlt, s12, a1, a2, a3, rfl⟩
    walk_at "wp"
    have k3 : ∀ c o, H2 c = some o → c ≠ s → upd H2 s (.ins A.C_Sheets dx (putF "frames" (.ref fp) (putF "size" (.int z) []))) c = some o := fun c o hc hn => by rw [upd_ne hn]; exact hc
    have hs3 : upd H2 s (.ins A.C_Sheets dx (putF "frames" (.ref fp) (putF "size" (.int z) []))) s = some (.ins A.C_Sheets dx (putF "frames" (.ref fp) (putF "size" (.int z) []))) := upd_same
    have n3 : ∀ c, upd H2 s (.ins A.C_Sheets dx (putF "frames" (.ref fp) (putF "size" (.int z) []))) c = none → H2 c = none := fun c hc => by
      have ncs : c ≠ s := fun z => by rw [z, upd_same] at hc; cases hc
      rw [upd_ne ncs] at hc
      exact hc
    generalize upd H2 s (.ins A.C_Sheets dx (putF "frames" (.ref fp) (putF "size" (.int z) []))) = H3 at *
    intro sq sdx hsq hsdx hne2
    refine ⟨sdx, m, rfl, rfl, hm, fun ls ts H4 hls hts hlt2 kp4 c1 c2 c3 => ?_⟩
    have sm2 := same_make (o := .ins A.C_Spots sdx []) hsq hsdx hne2
    have s34 : Same H3 H4 := fun c o hc => kp4 c o (sm2 c o hc) (fun z => ne_of_none hc hsq (List.mem_singleton.mp z))
    refine ⟨A.C_Sheets, dx, _, s34 _ _ hs3, T.cl_Sheets, T.na_Sheets_slots, by show 2 < 1000; decide, T.cl_Sheets, T.na_Sheets_hand, by show 3 < 1000; decide, T.cl_Sheets, T.na_Sheets_gone_out, by show 4 < 1000; decide, T.cl_Sheets, T.na_Sheets_gone_astray, by show 5 < 1000; decide, T.cl_Sheets, T.na_Sheets_come_back, by show 6 < 1000; decide, ?_⟩
    have nfs := (n1 fp hfp).2
    have nls := (n1 ly hly1).2
    have nts := (n1 tw htw1).2
    have g1 := s34 _ _ (k3 _ _ a1 nfs)
    have g2 := s34 _ _ (k3 _ _ a2 nls)
    have g3 := s34 _ _ (k3 _ _ a3 nts)
    have hls3 := same_none sm2 hls
    have hts3 := same_none sm2 hts
    have nls2 : ls ≠ s := fun z => by rw [z, hs3] at hls3; cases hls3
    have nts2 : ts ≠ s := fun z => by rw [z, hs3] at hts3; cases hts3
    have nsq : sq ≠ s := fun z => by rw [z, hs3] at hsq; cases hsq
    have e1 : ∀ (kk : Nat) (HH : Hp), LyAt A.C_Sheet HH (List.replicate kk V.non) (List.replicate kk none) := fun kk HH => by
      induction kk with
      | zero => exact .nil
      | succ k ih => exact .cons rfl ih
    have er : ∀ k : Nat, (List.replicate k (none : Option Nat)).map oV = List.replicate k V.non := fun k => by rw [List.map_replicate]; rfl
    have hls2 := n3 ls hls3
    have hts2 := n3 ts hts3
    have nlsl := ne_of_none (k3 _ _ a2 nls) hls3
    have nlst := ne_of_none (k3 _ _ a2 nls) hts3
    have ntsl := ne_of_none (k3 _ _ a3 nts) hls3
    have ntst := ne_of_none (k3 _ _ a3 nts) hts3
    refine q _ ⟨s, fp, ly, tw, sq, ls, ts, z⟩ ⟨⟨dx, upd_same⟩, ⟨fdx, _, by rw [upd_ne nfs]; exact g1, by rw [upd_ne nls]; exact g2, e1 n _, by rw [upd_ne nts, er]; exact g3, by rw [List.length_replicate, List.length_replicate]⟩, ⟨sdx, _, by rw [upd_ne nsq]; exact c1, by rw [upd_ne nls2]; exact c2, e1 m _, by rw [upd_ne nts2, er]; exact c3, by rw [List.length_replicate, List.length_replicate]⟩, ?_, fun r hr => hr.elim (fun h => absurd (List.eq_of_mem_replicate h) (fun z => nomatch z)) (fun h => absurd (List.eq_of_mem_replicate h) (fun z => nomatch z)), by show (List.replicate n none).length ≤ 64 ∧ (List.replicate m none).length ≤ 64; rw [List.length_replicate, List.length_replicate]; exact ⟨hn, hm⟩, by show 0 < (List.replicate n none).length; rw [List.length_replicate]; exact hn0⟩ rfl (fun c hc => ?_) (fun c o hc hx => ?_)
    · show [ly, tw, ls, ts].Nodup
      simp only [List.nodup_cons, List.mem_cons, List.not_mem_nil, or_false, not_or, not_false_eq_true, List.nodup_nil, and_true]
      exact ⟨⟨hlt, nlsl, nlst⟩, ⟨ntsl, ntst⟩, hlt2⟩
    · have hc : c ∈ [ly, tw, ls, ts] := hc
      simp only [List.mem_cons, List.not_mem_nil, or_false] at hc
      rcases hc with rfl | rfl | rfl | rfl
      · exact (n1 _ hly1).1
      · exact (n1 _ htw1).1
      · exact (n1 _ (same_none s12 hls2)).1
      · exact (n1 _ (same_none s12 hts2)).1
    · have ncs : c ≠ s := fun z => hx (by simp [z])
      rw [upd_ne ncs]
      exact s34 _ _ (k3 _ _ (s12 _ _ (k1 c o hc ncs)) ncs)

def sp_live (C P S : Addr) : Sp := fun vs H Q _ => ∃ (z : Ss) (s : St), vs = [.ref z.p] ∧ SsAt C P S H z s ∧ ∀ H', Same H H' → Q (.int (live s : Nat)) H'
theorem h_live (T : Txt K mg A) : HaveM P w K mg base A.C_Sheets "live_sheets" 2 ["self"] [] (sp_live A.C_Sheets A.C_Spots A.C_Sheet) := by
  have H_Spots_live_count := h_lc (P := P) (w := w) (base := base) T
  refine T.r_Sheets_live_sheets.have sc_Sheets_live_sheets (fun vs H Q E z => ?_) ?_
  · obtain ⟨z, s, rfl, _⟩ := z; rfl
  · intro f cdv A' outer s H vs Q E hr z
    obtain ⟨z, s, rfl, hS, q⟩ := z
    obtain ⟨dx, h1⟩ := hS.me
    refine ⟨_, (pss_one (ps_ret (pe_op op_add (pe_methE0 (pe_fld (pvM 0) rfl) T.cl_Spots H_Spots_live_count (hr.mono (by decide)) xw_def) (pe_methE0 (pe_fld (pvM 0) rfl) T.cl_Spots H_Spots_live_count (hr.mono (by decide)) xw_def)))), ?_⟩
    unfold sp_lc
    walk_at "wp"
    simp only [h1]
    walk_at "wp"
    obtain ⟨dx1, vs1, f1, _⟩ := id hS.fr
    refine ⟨T.cl_Sheets, T.na_Sheets_frames, _, ssF_frames, z.fp, rfl, dx1, _, f1, spF_no (by decide +kernel), z.fp, rfl, z.ly, z.tw, s.fr, s.tf, hS.fr, hS.len.1, fun H1 s1 => ?_⟩
    obtain ⟨dx2, vs2, f2, _⟩ := id hS.sl
    refine ⟨_, dx, _, s1 _ _ h1, T.cl_Sheets, T.na_Sheets_slots, _, ssF_slots, z.sq, rfl, dx2, _, s1 _ _ f2, spF_no (by decide +kernel), z.sq, rfl, z.ls, z.ts, s.sr, s.ts, hS.sl.same s1, hS.len.2, fun H2 s2 => ?_⟩
    exact q _ (s1.trans s2)
def sp_full (C P S : Addr) : Sp := fun vs H Q _ => ∃ (z : Ss) (s : St), vs = [.ref z.p] ∧ SsAt C P S H z s ∧ ∀ H', Same H H' → Q (.bl (decide ((live s : Int) ≥ (s.fr.length : Int) + (s.sr.length : Int)))) H'
theorem h_full (T : Txt K mg A) : HaveM P w K mg base A.C_Sheets "is_full" 3 ["self"] [] (sp_full A.C_Sheets A.C_Spots A.C_Sheet) := by
  have H_Sheets_live_sheets := h_live (P := P) (w := w) (base := base) T
  refine T.r_Sheets_is_full.have sc_Sheets_is_full (fun vs H Q E z => ?_) ?_
  · obtain ⟨z, s, rfl, _⟩ := z; rfl
  · intro f cdv A' outer s H vs Q E hr z
    obtain ⟨z, s, rfl, hS, q⟩ := z
    obtain ⟨dx, h1⟩ := hS.me
    refine ⟨_, (pss_one (ps_ret (pe_cmpR op_ge (pe_methE0 (pvM 0) T.cl_Sheets H_Sheets_live_sheets (hr.mono (by decide)) xw_def) (pe_op op_add (pe_callB call_len rfl T.b_len PySem.boot_len (pa_cons (pe_fld (pe_fld (pvM 0) rfl) rfl) pa_nil)) (pe_callB call_len rfl T.b_len PySem.boot_len (pa_cons (pe_fld (pe_fld (pvM 0) rfl) rfl) pa_nil))) (nomark _)))), ?_⟩
    unfold sp_live
    walk_at "wp"
    simp only [h1]
    walk_at "wp"
    obtain ⟨dx1, vs1, f1, f2, f3, f4⟩ := id hS.fr
    obtain ⟨dx2, vs2, g1, g2, g3, g4⟩ := id hS.sl
    have l1 := Paired.length f3
    have l2 := Paired.length g3
    refine ⟨ssF_no (by decide +kernel), z, rfl, s, hS, fun H1 s1 => ⟨_, dx, _, s1 _ _ h1, T.cl_Sheets, T.na_Sheets_frames, _, ssF_frames, z.fp, rfl, _, dx1, _, s1 _ _ f1, T.cl_Spots, T.na_Spots_lying, _, spF_lying, _, .inl ⟨_, SqL.of (s1 _ _ f2), rfl⟩, _, dx, _, s1 _ _ h1, T.cl_Sheets, T.na_Sheets_slots, _, ssF_slots, z.sq, rfl, _, dx2, _, s1 _ _ g1, T.cl_Spots, T.na_Spots_lying, _, spF_lying, _, .inl ⟨_, SqL.of (s1 _ _ g2), rfl⟩, ?_⟩⟩
    rw [l1, l2]
    exact q _ s1

theorem ifn {p q : Prop} {b : Bool} (h : b = false) (x : q) : if b = true then p else q := by rw [h]; exact x
theorem ifp {p q : Prop} {b : Bool} (h : b = true) (x : p) : if b = true then p else q := by rw [h]; exact x
theorem new_at {H : Hp} {p : Addr} {o : HO} (h : H p = none) : Same H (upd H p o) ∧ upd H p o p = some o := ⟨same_upd same_refl h, upd_same⟩
theorem hds_app {a b : List (Option Sh)} : hds (a ++ b) = hds a ++ hds b := by unfold hds; rw [List.filterMap_append]
theorem hds_fill : ∀ {rows : List (Option Sh)} {j : Nat} {r : Sh}, rows[j]? = some none → (hds (rows.set j (some r))).Perm (r.hd :: hds rows) := by
  intro rows
  induction rows with
  | nil => intro j r h; simp at h
  | cons x l ih =>
    intro j r h
    cases j with
    | zero =>
      simp at h
      subst h
      exact List.Perm.refl _
    | succ j =>
      have := ih (j := j) (r := r) (by simpa using h)
      cases x with
      | none => exact this
      | some y => exact (List.Perm.cons y.hd this).trans (List.Perm.swap ..)
theorem hds_take {rows : List (Option Sh)} {j : Nat} {q : Sh} (h : rows[j]? = some (some q)) : (hds rows).Perm (q.hd :: hds (rows.set j none)) := by
  obtain ⟨h1, h2⟩ := List.getElem?_eq_some_iff.mp h
  have := hds_fill (rows := rows.set j none) (j := j) (r := q) (by rw [List.getElem?_set_self h1])
  rw [List.set_set, ← h2, List.set_getElem_self] at this
  exact this
theorem sh_num {C S : Addr} {G : Hp} {z : Ss} {s s' : St} {dx : Addr} (e : G z.p = some (.ins C dx (ssF z.n z.fp z.sq s))) {v : V} {r : Option Sh} (hv : ShAt S G v r) : ShAt S (upd G z.p (.ins C dx (ssF z.n z.fp z.sq s'))) v r := by
  have ho : ∀ {c o}, G c = some o → (∀ D d fs, o = .ins D d fs → fs.lookup ("hand" : Str) = none) → upd G z.p (.ins C dx (ssF z.n z.fp z.sq s')) c = some o := fun {c o} hc hn => by
    rw [upd_ne (fun e9 => ?_)]
    · exact hc
    · rw [e9, e] at hc
      have := hn _ _ _ (Option.some.inj hc).symm
      rw [ssF_hand] at this
      cases this
  cases r with
  | none => exact hv
  | some r =>
    obtain ⟨a, ⟨d, h1⟩, h2, h3⟩ := hv
    exact ⟨a, ⟨d, ho h1 fun _ _ _ z => by cases z; exact shF_no (by decide +kernel)⟩, ho h2 fun _ _ _ z => (nomatch z), ho h3 fun _ _ _ z => nomatch z⟩
theorem ks_num {z : Ss} {H G : Hp} {o : HO} (k : Ks z H G) : Ks z H (upd G z.p o) := fun c o' h h1 h2 => by rw [upd_ne h1]; exact k c o' h h1 h2
theorem ks_la {z : Ss} {H G : Hp} {f : Bool} {o : HO} (k : Ks z H G) : Ks z H (upd G (z.la f) o) := fun c o' h h1 h2 => by rw [upd_ne (fun e => h2 (by rw [e]; exact la_four))]; exact k c o' h h1 h2
def Swp (ms : List Bool) (h i : Nat) (ps : List Int) : Prop := ∃ j : Nat, j ≤ ms.length ∧ (∀ t < j, ms.getD (((h : Int) + t) % (ms.length : Int)).toNat false = true) ∧ (j = ms.length ∨ ms.getD (((h : Int) + j) % (ms.length : Int)).toNat false = false) ∧ (i : Int) = ((h : Int) + j) % (ms.length : Int) ∧ ps = rg ms.length h j

theorem ks_ta {z : Ss} {H G : Hp} {f : Bool} {o : HO} (k : Ks z H G) : Ks z H (upd G (z.ta f) o) := fun c o' h h1 h2 => by rw [upd_ne (fun e => h2 (by rw [e]; exact ta_four))]; exact k c o' h h1 h2
def slotF (s : St) (i : Nat) (c : Option Nat) : Option Nat := match s.tf[i]? with
  | some (some j) => some j
  | _ => match emp s.sr s.ts with
    | some j => some j
    | none => match ftw s.tf with
      | some j => some j
      | none => c
def sp_sf (C P S : Addr) : Sp := fun vs H Q _ => ∃ (z : Ss) (s : St) (i : Nat) (c : Option Nat), vs = [.ref z.p, .int i, oV c] ∧ SsAt C P S H z s ∧ i < s.fr.length ∧ ∀ H', Same H H' → Q (oV (slotF s i c)) H'
theorem h_sf (T : Txt K mg A) : HaveM P w K mg base A.C_Sheets "slot_for" 2 ["self", "frame", "coming_from"] [] (sp_sf A.C_Sheets A.C_Spots A.C_Sheet) := by
  have H_Spots_first_empty := h_fe (P := P) (w := w) (base := base) T
  have H_Spots_first_twin := h_ft (P := P) (w := w) (base := base) T
  refine T.r_Sheets_slot_for.have sc_Sheets_slot_for (fun vs H Q E z => ?_) ?_
  · obtain ⟨z, s, i, v, rfl, _⟩ := z; rfl
  · intro f cdv A' outer s H vs Q E hr z
    obtain ⟨z, s, i, c, rfl, hS, hi, q⟩ := z
    obtain ⟨dx, h1⟩ := hS.me
    obtain ⟨dx1, vs1, f1, f2, f3, f4, f5⟩ := id hS.fr
    obtain ⟨dx2, vs2, g1, g2, g3, g4, g5⟩ := id hS.sl
    obtain ⟨o, ho⟩ : ∃ o, s.tf[i]? = some o := ⟨_, List.getElem?_eq_getElem (by omega)⟩
    have hat : atI (s.tf.map oV) (i : Int) = some (oV o) := atI_nat (by rw [List.getElem?_map, ho]; rfl)
    refine ⟨_, (pss_cons (ps_if (pt_cmpR op_notN (pe_ix ix_list (pe_fld (pe_fld (pvM 0) rfl) rfl) (pvM 1) (fun _ _ => rfl)) pe_non (nomark _)) (pss_one (ps_ret (pe_ix ix_list (pe_fld (pe_fld (pvM 0) rfl) rfl) (pvM 1) (fun _ _ => rfl)))) pss_nil)
      (pss_cons (ps_set (i := 3) sc_Sheets_slot_for.nd rfl (Or.inl rfl) (pe_methE0 (pe_fld (pvM 0) rfl) T.cl_Spots H_Spots_first_empty (hr.mono (by decide)) xw_def))
      (pss_cons (ps_if (pt_cmpR op_notN (pvM 3) pe_non (nomark _)) (pss_one (ps_ret (pvM 3))) pss_nil)
      (pss_cons (ps_set (i := 4) sc_Sheets_slot_for.nd rfl (Or.inl rfl) (pe_methE0 (pe_fld (pvM 0) rfl) T.cl_Spots H_Spots_first_twin (hr.mono (by decide)) xw_def))
      (pss_one (ps_ret (pe_ifExp (pt_cmpR op_isN (pvM 4) pe_non (nomark _)) (pvM 2) (pvM 4)))))))), ?_⟩
    walk_at "wp"
    simp only [h1]
    walk_at "wp"
    refine ⟨T.cl_Sheets, T.na_Sheets_frames, _, ssF_frames, z.fp, rfl, _, dx1, _, f1, T.cl_Spots, T.na_Spots_twins, _, spF_twins, z.tw, rfl, _, SqL.of f4, oV o, hat, ?_⟩
    unfold slotF at q
    rw [ho] at q
    cases o with
    | some j =>
      rw [decide_eq_false (show ¬ (oV (some j) = V.non) from fun z => nomatch z)]
      refine iteT ⟨T.cl_Sheets, T.na_Sheets_frames, _, ssF_frames, z.fp, rfl, _, dx1, _, f1, T.cl_Spots, T.na_Spots_twins, _, spF_twins, z.tw, rfl, _, SqL.of f4, oV (some j), hat, ?_⟩
      exact q H same_refl
    | none =>
      rw [decide_eq_true (show oV none = V.non from rfl)]
      refine iteF ⟨T.cl_Sheets, T.na_Sheets_slots, _, ssF_slots, z.sq, rfl, dx2, _, g1, spF_no (by decide +kernel), z.sq, z.ls, z.ts, s.sr, s.ts, rfl, hS.sl, fun H1 s1 => ?_⟩
      unfold fe
      cases e9 : emp s.sr s.ts with
      | some j =>
        rw [e9] at q
        rw [decide_eq_false (fun z => nomatch z)]
        exact iteT (q H1 s1)
      | none =>
        rw [e9] at q
        rw [decide_eq_true (rfl : V.non = V.non)]
        refine iteF ⟨_, dx, _, s1 _ _ h1, T.cl_Sheets, T.na_Sheets_frames, _, ssF_frames, z.fp, rfl, dx1, _, s1 _ _ f1, spF_no (by decide +kernel), z.fp, z.ly, z.tw, s.fr, s.tf, rfl, hS.fr.same s1, fun H2 s2 => ?_⟩
        have q2 := q H2 (s1.trans s2)
        cases e8 : ftw s.tf with
        | none =>
          rw [e8] at q2
          show if oV none = V.non then _ else _
          rw [if_pos (show oV none = V.non from rfl)]
          exact q2
        | some j =>
          rw [e8] at q2
          show if oV (some j) = V.non then _ else _
          rw [if_neg (show ¬ (oV (some j) = V.non) from fun z => nomatch z)]
          exact q2
def untie (s : St) (i : Nat) : St := match s.tf[i]? with
  | some (some j) => (s.tie true i none).tie false j none
  | _ => s
def sp_lose (C P S : Addr) : Sp := fun vs H Q _ => ∃ (z : Ss) (s : St) (i : Nat), vs = [.ref z.p, .int i] ∧ SsAt C P S H z s ∧ i < s.fr.length ∧ (∀ j, s.tf[i]? = some (some j) → j < s.sr.length) ∧ ∀ H', SsAt C P S H' z (untie s i) → Ks z H H' → (∀ v r, r.bx ∉ z.four → ShAt S H v (some r) → ShAt S H' v (some r)) → Q .non H'
theorem h_lose (T : Txt K mg A) : HaveM P w K mg base A.C_Sheets "lose_twin" 1 ["self", "frame"] [] (sp_lose A.C_Sheets A.C_Spots A.C_Sheet) := by
  refine T.r_Sheets_lose_twin.have sc_Sheets_lose_twin (fun vs H Q E z => ?_) ?_
  · obtain ⟨z, s, j, rfl, _⟩ := z; rfl
  · intro f cdv A' outer s H vs Q E hr z
    obtain ⟨z, s, i, rfl, hS, hi, hb, q⟩ := z
    obtain ⟨dx, h1⟩ := hS.me
    obtain ⟨dx1, vs1, f1, f2, f3, f4, f5⟩ := id hS.fr
    obtain ⟨o, ho⟩ : ∃ o, s.tf[i]? = some o := ⟨_, List.getElem?_eq_getElem (by omega)⟩
    have hat : atI (s.tf.map oV) (i : Int) = some (oV o) := atI_nat (by rw [List.getElem?_map, ho]; rfl)
    refine ⟨_, (pss_cons (ps_set (i := 2) sc_Sheets_lose_twin.nd rfl (Or.inl rfl) (pe_ix ix_list (pe_fld (pe_fld (pvM 0) rfl) rfl) (pvM 1) (fun _ _ => rfl)))
      (pss_one (ps_if (pt_cmpR op_notN (pvM 2) pe_non (nomark _)) (pss_cons (ps_asg pe_non (pg_sub (pe_fld (pe_fld (pvM 0) rfl) rfl) (pvM 1) set_list))
      (pss_one (ps_asg pe_non (pg_sub (pe_fld (pe_fld (pvM 0) rfl) rfl) (pvM 2) set_list)))) pss_nil))), ?_⟩
    walk_at "wp"
    simp only [h1]
    walk_at "wp"
    refine ⟨T.cl_Sheets, T.na_Sheets_frames, _, ssF_frames, z.fp, rfl, _, dx1, _, f1, T.cl_Spots, T.na_Spots_twins, _, spF_twins, z.tw, rfl, _, SqL.of f4, oV o, hat, ?_⟩
    unfold untie at q
    rw [ho] at q
    cases o with
    | none =>
      rw [decide_eq_true (show oV none = V.non from rfl)]
      exact iteF (q H hS (Ks.of same_refl) fun _ _ _ h => h)
    | some j =>
      rw [decide_eq_false (show ¬ (oV (some j) = V.non) from fun z => nomatch z)]
      refine iteT ?_
      have hj := hb j ho
      refine ⟨T.cl_Sheets, T.na_Sheets_frames, _, ssF_frames, z.fp, rfl, _, dx1, _, f1, T.cl_Spots, T.na_Spots_twins, _, spF_twins, z.tw, rfl, _, f4, i, ixn (by rw [List.length_map]; omega), ?_⟩
      have S1 : SsAt A.C_Sheets A.C_Spots A.C_Sheet (upd H z.tw (.lst ((s.tf.map oV).set i .non))) z (s.tie true i none) := hS.tie (f := true) (j := i) (o := none)
      have k1 : Ks z H (upd H z.tw (.lst ((s.tf.map oV).set i .non))) := ks_ta (f := true) (Ks.of same_refl)
      have w1 : ∀ v r, r.bx ∉ z.four → ShAt A.C_Sheet H v (some r) → ShAt A.C_Sheet (upd H z.tw (.lst ((s.tf.map oV).set i .non))) v (some r) := fun v r hb h => sh_upd f4 h fun q e z9 => by cases e; exact hb (by rw [z9]; exact ta_four (f := true))
      generalize upd H z.tw _ = J at *
      obtain ⟨dx9, h9⟩ := S1.me
      obtain ⟨dx8, vs8, e1, e2, e3, e4, e5⟩ := id S1.sl
      have e4 : J z.ts = some (.lst (s.ts.map oV)) := e4
      have e5 : s.ts.length = s.sr.length := e5
      refine ⟨_, dx9, _, h9, T.cl_Sheets, T.na_Sheets_slots, _, ssF_slots, z.sq, rfl, _, dx8, _, e1, T.cl_Spots, T.na_Spots_twins, _, spF_twins, z.ts, rfl, _, (j : Int), rfl, e4, j, ixn (by rw [List.length_map]; omega), ?_⟩
      exact q _ (S1.tie (f := false) (j := j) (o := none)) (ks_ta (f := false) k1) fun v r hb h => sh_upd e4 (w1 v r hb h) fun q e z9 => by cases e; exact hb (by rw [z9]; exact ta_four (f := false))
structure Tw (s : St) : Prop where
  there : ∀ i j : Nat, s.tf[i]? = some (some j) → s.ts[j]? = some (some i)
  back : ∀ i j : Nat, s.ts[j]? = some (some i) → s.tf[i]? = some (some j)
  full : ∀ i j : Nat, s.tf[i]? = some (some j) → ∃ r, s.fr[i]? = some (some r)
  bare : ∀ i j : Nat, s.ts[j]? = some (some i) → s.sr[j]? = some none
theorem untie_eq {s : St} {i : Nat} : (untie s i).fr = s.fr ∧ (untie s i).sr = s.sr ∧ (untie s i).h = s.h ∧ (untie s i).go = s.go ∧ (untie s i).ga = s.ga ∧ (untie s i).cb = s.cb := by
  unfold untie
  split <;> exact ⟨rfl, rfl, rfl, rfl, rfl, rfl⟩
def clr (s : St) (j : Nat) : St := match s.ts[j]? with
  | some (some k) => untie s k
  | _ => s
theorem clr_eq {s : St} {j : Nat} : (clr s j).fr = s.fr ∧ (clr s j).sr = s.sr ∧ (clr s j).h = s.h ∧ (clr s j).go = s.go ∧ (clr s j).ga = s.ga ∧ (clr s j).cb = s.cb := by
  unfold clr
  split
  · exact untie_eq
  · exact ⟨rfl, rfl, rfl, rfl, rfl, rfl⟩
def outN (s : St) (i j : Nat) : St := { s with go := s.go + 1, ga := if s.tf[i]? = some (some j) then s.ga else s.ga + 1 }
def outS (s : St) (i j : Nat) (r : Sh) : St := ((clr (outN s i j) j).put false j (some r)).put true i none
theorem outS_eq {s : St} {i j : Nat} {r : Sh} : (outS s i j r).fr = s.fr.set i none ∧ (outS s i j r).sr = s.sr.set j (some r) ∧ (outS s i j r).h = s.h ∧ (outS s i j r).go = s.go + 1 ∧ (outS s i j r).ga = (if s.tf[i]? = some (some j) then s.ga else s.ga + 1) ∧ (outS s i j r).cb = s.cb ∧ (outS s i j r).tf = (clr s j).tf ∧ (outS s i j r).ts = (clr s j).ts := by
  have e : clr (outN s i j) j = { clr s j with go := s.go + 1, ga := if s.tf[i]? = some (some j) then s.ga else s.ga + 1 } := by
    have eu : ∀ k, untie (outN s i j) k = { untie s k with go := s.go + 1, ga := if s.tf[i]? = some (some j) then s.ga else s.ga + 1 } := fun k => by
      unfold untie
      show (match s.tf[k]? with | some (some j2) => ((outN s i j).tie true k none).tie false j2 none | _ => outN s i j) = _
      cases e2 : s.tf[k]? with
      | none => rfl
      | some u => cases u with
        | none => rfl
        | some l => rfl
    unfold clr
    show (match s.ts[j]? with | some (some k) => untie (outN s i j) k | _ => outN s i j) = _
    cases e1 : s.ts[j]? with
    | none => rfl
    | some u => cases u with
      | none => rfl
      | some k => exact eu k
  unfold outS
  rw [e]
  exact ⟨by show (clr s j).fr.set i none = _; rw [clr_eq.1], by show (clr s j).sr.set j (some r) = _; rw [clr_eq.2.1], clr_eq.2.2.1, rfl, rfl, clr_eq.2.2.2.2.2, rfl, rfl⟩
def sp_out (C P S : Addr) : Sp := fun vs H Q _ => ∃ (z : Ss) (s : St) (i j : Nat) (c : Option Nat) (r : Sh), vs = [.ref z.p, .int i, oV c] ∧ SsAt C P S H z s ∧ Tw s ∧ s.fr[i]? = some (some r) ∧ Okh r ∧ j < s.sr.length ∧ slotF s i c = some j ∧
  ∀ H' t l, SsAt C P S H' z (outS s i j r) → H' t = some (.tup [.int j, .ref l]) → TdK H' l (srt r.ks) → l ∉ z.four → Ks z H H' → Q (.ref t) H'
theorem h_out (T : Txt K mg A) : HaveM P w K mg base A.C_Sheets "put_out" 3 ["self", "frame", "coming_from"] [] (sp_out A.C_Sheets A.C_Spots A.C_Sheet) := by
  have H_Sheets_slot_for := h_sf (P := P) (w := w) (base := base) T
  have H_Sheets_lose_twin := h_lose (P := P) (w := w) (base := base) T
  have H_Sheet_told_holders := h_told (P := P) (w := w) (base := base) T
  refine T.r_Sheets_put_out.have sc_Sheets_put_out (fun vs H Q E z => ?_) ?_
  · obtain ⟨z, s, i, j, v, r, rfl, _⟩ := z; rfl
  · intro f cdv A' outer s H vs Q E hr z
    obtain ⟨z, s, i, j, c, r, rfl, hS, hT, hri, hok, hj, hsf, q⟩ := z
    obtain ⟨dx, h1⟩ := hS.me
    obtain ⟨dx1, vs1, f1, f2, f3, f4, f5⟩ := id hS.fr
    obtain ⟨dx2, vs2, g1', g2', g3', g4', g5'⟩ := id hS.sl
    obtain ⟨v1, hv1, rfl, ⟨dxr, g1⟩, g2, g3⟩ := prd_get2 f3 hri
    have hil := (List.getElem?_eq_some_iff.mp hri).1
    have hbr : r.bx ∉ z.four := hS.bx r (.inl (List.mem_of_getElem? hri))
    obtain ⟨o, ho⟩ : ∃ o, s.tf[i]? = some o := ⟨_, List.getElem?_eq_getElem (by omega)⟩
    have hat : atI (s.tf.map oV) (i : Int) = some (oV o) := atI_nat (by rw [List.getElem?_map, ho]; rfl)
    obtain ⟨u, hu⟩ : ∃ u, s.ts[j]? = some u := ⟨_, List.getElem?_eq_getElem (by omega)⟩
    have hau : atI (s.ts.map oV) (j : Int) = some (oV u) := atI_nat (by rw [List.getElem?_map, hu]; rfl)
    refine ⟨_, (pss_cons (ps_set (i := 3) sc_Sheets_put_out.nd rfl (Or.inl rfl) (pe_ix ix_list (pe_fld (pe_fld (pvM 0) rfl) rfl) (pvM 1) (fun _ _ => rfl)))
      (pss_cut (ps_set (i := 4) sc_Sheets_put_out.nd rfl (Or.inl rfl) (pe_methE (pvM 0) T.cl_Sheets H_Sheets_slot_for (hr.mono (by decide)) xw_def (pa_cons (pvM 1) (pa_cons (pvM 2) pa_nil))))
      (pss_cut (ps_fld (pvM 0) (pe_op op_add (pe_fld (pvM 0) rfl) pe_int) rfl)
      (pss_cut (ps_if (pt_cmpR op_ne (pvM 4) (pe_ix ix_list (pe_fld (pe_fld (pvM 0) rfl) rfl) (pvM 1) (fun _ _ => rfl)) (nomark _)) (pss_one (ps_fld (pvM 0) (pe_op op_add (pe_fld (pvM 0) rfl) pe_int) rfl)) pss_nil)
      (pss_cut (ps_if (pt_cmpR op_notN (pe_ix ix_list (pe_fld (pe_fld (pvM 0) rfl) rfl) (pvM 4) (fun _ _ => rfl)) pe_non (nomark _)) (pss_one (ps_expr (pe_methE (pvM 0) T.cl_Sheets H_Sheets_lose_twin (hr.mono (by decide)) xw_def (pa_cons (pe_ix ix_list (pe_fld (pe_fld (pvM 0) rfl) rfl) (pvM 4) (fun _ _ => rfl)) pa_nil)))) pss_nil)
      (pss_cut (ps_asg (pvM 3) (pg_sub (pe_fld (pe_fld (pvM 0) rfl) rfl) (pvM 4) set_list))
      (pss_cut (ps_asg pe_non (pg_sub (pe_fld (pe_fld (pvM 0) rfl) rfl) (pvM 1) set_list))
      (pss_one (ps_ret (pe_tup (pa_cons (pvM 4) (pa_cons (pe_methE0 (pvM 3) T.cl_Sheet H_Sheet_told_holders (hr.mono (by decide)) xw_def) pa_nil)))))))))))), ?_⟩
    walk_at "wp"
    simp only [h1]
    walk_at "wp"
    refine ⟨T.cl_Sheets, T.na_Sheets_frames, _, ssF_frames, z.fp, rfl, _, dx1, _, f1, T.cl_Spots, T.na_Spots_lying, _, spF_lying, z.ly, rfl, _, SqL.of f2, _, atI_nat hv1, ?_⟩
    refine ⟨fun σ G => σ = [some (.ref z.p), some (.int i), some (oV c), some (.ref r.sh), some (.int j)] ∧ Same H G, ?_, fun σ1 G1 => ?_⟩
    · walk_at "wp"
      exact ⟨dx, _, h1, ssF_no (by decide +kernel), z, s, i, c, rfl, hS, hil, fun H' s1 => ⟨by rw [hsf]; rfl, s1⟩⟩
    rintro ⟨rfl, s1⟩
    have hS1 := hS.same s1
    have sh1 : ShAt A.C_Sheet G1 (.ref r.sh) (some r) := ShAt.same s1 ⟨rfl, ⟨dxr, g1⟩, g2, g3⟩
    have k1 : Ks z H G1 := Ks.of s1
    clear s1
    refine ⟨fun σ G => σ = [some (.ref z.p), some (.int i), some (oV c), some (.ref r.sh), some (.int j)] ∧ SsAt A.C_Sheets A.C_Spots A.C_Sheet G z { s with go := s.go + 1 } ∧ Ks z H G ∧ ShAt A.C_Sheet G (.ref r.sh) (some r), ?_, fun σ2 G2 => ?_⟩
    · obtain ⟨dx9, h9⟩ := hS1.me
      walk_at "wp"
      refine ⟨_, dx9, _, h9, T.cl_Sheets, T.na_Sheets_gone_out, _, ssF_out, s.go, rfl, _, dx9, _, h9, T.cl_Sheets, T.na_Sheets_gone_out, by show 7 < 1000; decide, ?_⟩
      rw [ssF_po]
      exact ⟨hS1.num h9 rfl rfl hS1.hh rfl rfl, ks_num k1, sh_num h9 sh1⟩
    rintro ⟨rfl, hS2, k2, sh2⟩
    clear hS1 sh1 k1
    refine ⟨fun σ G => σ = [some (.ref z.p), some (.int i), some (oV c), some (.ref r.sh), some (.int j)] ∧ SsAt A.C_Sheets A.C_Spots A.C_Sheet G z (outN s i j) ∧ Ks z H G ∧ ShAt A.C_Sheet G (.ref r.sh) (some r), ?_, fun σ3 G3 => ?_⟩
    · obtain ⟨dx9, h9⟩ := hS2.me
      obtain ⟨dx8, vs8, e1, e2, e3, e4, e5⟩ := id hS2.fr
      walk_at "wp"
      have fin : s.tf[i]? ≠ some (some j) → SsAt A.C_Sheets A.C_Spots A.C_Sheet (upd G2 z.p (.ins A.C_Sheets dx9 (ssF z.n z.fp z.sq { s with go := s.go + 1, ga := s.ga + 1 }))) z (outN s i j) := fun hn => by
        have e : outN s i j = { s with go := s.go + 1, ga := s.ga + 1 } := by unfold outN; rw [if_neg hn]
        rw [e]
        exact hS2.num h9 rfl rfl hS2.hh rfl rfl
      refine ⟨_, dx9, _, h9, T.cl_Sheets, T.na_Sheets_frames, _, ssF_frames, z.fp, rfl, _, dx8, _, e1, T.cl_Spots, T.na_Spots_twins, _, spF_twins, z.tw, rfl, _, SqL.of e4, oV o, hat, ?_⟩
      refine ⟨by cases o <;> rfl, ?_⟩
      by_cases c9 : o = some j
      · subst c9
        have e : outN s i j = { s with go := s.go + 1 } := by unfold outN; rw [if_pos ho]
        rw [e]
        exact ifn (by rw [decide_eq_true (show V.int (j : Int) = oV (some j) from rfl)]; rfl) ⟨hS2, k2, sh2⟩
      · have hne : ¬ (V.int (j : Int) = oV o) := fun e => c9 (by
          cases o with
          | none => cases e
          | some k => have : (j : Int) = k := V.int.inj e; rw [show k = j by omega])
        refine ifp (by rw [decide_eq_false hne]; rfl) ⟨_, dx9, _, h9, T.cl_Sheets, T.na_Sheets_gone_astray, _, ssF_astray, s.ga, rfl, _, dx9, _, h9, T.cl_Sheets, T.na_Sheets_gone_astray, by show 7 < 1000; decide, ?_⟩
        rw [ssF_pa]
        exact ⟨fin (fun z => c9 (by rw [ho] at z; exact Option.some.inj z)), ks_num k2, sh_num h9 sh2⟩
    rintro ⟨rfl, hS3, k3, sh3⟩
    clear hS2 sh2 k2
    have hcl : (clr (outN s i j) j).sr = s.sr ∧ (clr (outN s i j) j).fr = s.fr := ⟨clr_eq.2.1, clr_eq.1⟩
    refine ⟨fun σ G => σ = [some (.ref z.p), some (.int i), some (oV c), some (.ref r.sh), some (.int j)] ∧ SsAt A.C_Sheets A.C_Spots A.C_Sheet G z (clr (outN s i j) j) ∧ Ks z H G ∧ ShAt A.C_Sheet G (.ref r.sh) (some r), ?_, fun σ4 G4 => ?_⟩
    · obtain ⟨dx9, h9⟩ := hS3.me
      obtain ⟨dx8, vs8, e1, e2, e3, e4, e5⟩ := id hS3.sl
      walk_at "wp"
      refine ⟨_, dx9, _, h9, T.cl_Sheets, T.na_Sheets_slots, _, ssF_slots, z.sq, rfl, _, dx8, _, e1, T.cl_Spots, T.na_Spots_twins, _, spF_twins, z.ts, rfl, _, SqL.of e4, oV u, hau, ?_⟩
      cases u with
      | none =>
        rw [decide_eq_true (show oV none = V.non from rfl)]
        refine iteF ⟨?_, k3, sh3⟩
        have e : clr (outN s i j) j = outN s i j := by
          unfold clr
          rw [show (outN s i j).ts[j]? = some none from hu]
        rw [e]
        exact hS3
      | some k =>
        rw [decide_eq_false (show ¬ (oV (some k) = V.non) from fun z => nomatch z)]
        have e : clr (outN s i j) j = untie (outN s i j) k := by
          unfold clr
          rw [show (outN s i j).ts[j]? = some (some k) from hu]
        have htk := hT.back k j hu
        refine iteT ⟨dx9, _, h9, ssF_no (by decide +kernel), _, dx9, _, h9, T.cl_Sheets, T.na_Sheets_slots, _, ssF_slots, z.sq, rfl, _, dx8, _, e1, T.cl_Spots, T.na_Spots_twins, _, spF_twins, z.ts, rfl, _, SqL.of e4, oV (some k), hau, z, outN s i j, k, rfl, hS3, ?_, fun j2 h2 => ?_, fun H' a1 a2 a3 => ⟨by rw [e]; exact a1, k3.trans a2, a3 _ _ hbr sh3⟩⟩
        · have : k < s.tf.length := (List.getElem?_eq_some_iff.mp htk).1
          show k < s.fr.length
          omega
        · have h2 : s.tf[k]? = some (some j2) := h2
          rw [htk] at h2
          have : j = j2 := Option.some.inj (Option.some.inj h2)
          show j2 < s.sr.length
          omega
    rintro ⟨rfl, hS4, k4, sh4⟩
    clear hS3 sh3 k3
    refine ⟨fun σ G => σ = [some (.ref z.p), some (.int i), some (oV c), some (.ref r.sh), some (.int j)] ∧ SsAt A.C_Sheets A.C_Spots A.C_Sheet G z ((clr (outN s i j) j).put false j (some r)) ∧ Ks z H G ∧ ShAt A.C_Sheet G (.ref r.sh) (some r), ?_, fun σ5 G5 => ?_⟩
    · obtain ⟨dx9, h9⟩ := hS4.me
      obtain ⟨dx8, vs8, e1, e2, e3, e4, e5⟩ := id hS4.sl
      have l8 := Paired.length e3
      rw [hcl.1] at l8
      walk_at "wp"
      refine ⟨_, dx9, _, h9, T.cl_Sheets, T.na_Sheets_slots, _, ssF_slots, z.sq, rfl, _, dx8, _, e1, T.cl_Spots, T.na_Spots_lying, _, spF_lying, z.ls, rfl, vs8, e2, j, ixn (by rw [l8]; exact hj), ?_⟩
      exact ⟨hS4.set (f := false) (j := j) (r := some r) e2 sh4 (fun q e => by cases e; exact hbr), ks_la (f := false) k4, sh_upd e2 sh4 fun q e z9 => by cases e; exact hbr (by rw [z9]; exact la_four (f := false))⟩
    rintro ⟨rfl, hS5, k5, sh5⟩
    clear hS4 sh4 k4
    refine ⟨fun σ G => σ = [some (.ref z.p), some (.int i), some (oV c), some (.ref r.sh), some (.int j)] ∧ SsAt A.C_Sheets A.C_Spots A.C_Sheet G z (outS s i j r) ∧ Ks z H G ∧ ShAt A.C_Sheet G (.ref r.sh) (some r), ?_, fun σ6 G6 => ?_⟩
    · obtain ⟨dx9, h9⟩ := hS5.me
      obtain ⟨dx8, vs8, e1, e2, e3, e4, e5⟩ := id hS5.fr
      have l8 : vs8.length = s.fr.length := by rw [← hcl.2]; exact Paired.length e3
      walk_at "wp"
      refine ⟨_, dx9, _, h9, T.cl_Sheets, T.na_Sheets_frames, _, ssF_frames, z.fp, rfl, _, dx8, _, e1, T.cl_Spots, T.na_Spots_lying, _, spF_lying, z.ly, rfl, vs8, e2, i, ixn (by rw [l8]; exact hil), ?_⟩
      exact ⟨hS5.set (f := true) (j := i) (r := none) e2 rfl (fun q e => nomatch e), ks_la (f := true) k5, sh_upd e2 sh5 fun q e z9 => by cases e; exact hbr (by rw [z9]; exact la_four (f := true))⟩
    rintro ⟨rfl, hS6, k6, sh6⟩
    obtain ⟨_, ⟨dx9, h9⟩, _⟩ := id sh6
    walk_at "wp"
    refine ⟨dx9, _, h9, shF_no (by decide +kernel), _, r, rfl, sh6, hok, fun l G7 hl s7 htd t ht => ?_⟩
    have s8 : Same G7 (upd G7 t (.tup [V.int (j : Int), V.ref l])) := same_upd same_refl ht
    exact q _ t l ((hS6.same s7).same s8) upd_same (htd.same s8) (hS6.nf hl) ((k6.trans (Ks.of s7)).trans (Ks.of s8))

theorem emp_some {rows : List (Option Sh)} {tws : List (Option Nat)} {j : Nat} (h : emp rows tws = some j) : rows[j]? = some none ∧ tws[j]? = some none := by
  obtain ⟨hj, h1, _⟩ := List.findIdx?_eq_some_iff_getElem.mp h
  have e := List.getElem?_eq_getElem hj
  obtain ⟨e1, e2⟩ := List.getElem?_zip_eq_some.mp e
  generalize (rows.zip tws)[j] = p at *
  obtain ⟨a, b⟩ := p
  cases a with
  | some r => cases h1
  | none => cases b with
    | some k => cases h1
    | none => exact ⟨e1, e2⟩
theorem emp_none {rows : List (Option Sh)} {tws : List (Option Nat)} (h : emp rows tws = none) (hl : tws.length = rows.length) {j : Nat} (hj : j < rows.length) : (∃ r, rows[j]? = some (some r)) ∨ ∃ t, tws[j]? = some (some t) := by
  have hz : j < (rows.zip tws).length := by rw [List.length_zip]; omega
  have h1 := List.findIdx?_eq_none_iff.mp h _ (List.getElem_mem hz)
  obtain ⟨e1, e2⟩ := List.getElem?_zip_eq_some.mp (List.getElem?_eq_getElem hz)
  generalize (rows.zip tws)[j] = p at *
  obtain ⟨a, b⟩ := p
  cases a with
  | some r => exact .inl ⟨r, e1⟩
  | none => cases b with
    | some k => exact .inr ⟨k, e2⟩
    | none => cases h1
theorem Tw.all {s : St} (hT : Tw s) (hl : s.tf.length = s.fr.length) (h : emp s.fr s.tf = none) {i : Nat} (hi : i < s.fr.length) : ∃ r, s.fr[i]? = some (some r) := by
  rcases emp_none h hl hi with h | ⟨t, ht⟩
  · exact h
  · exact hT.full i t ht
theorem ftw_some {l : List (Option Nat)} {j : Nat} (h : ftw l = some j) : ∃ i : Nat, l[i]? = some (some j) ∧ ∀ k < i, l[k]? = some none := by
  induction l with
  | nil => cases h
  | cons x r ih =>
    cases x with
    | none =>
      obtain ⟨i, h1, h2⟩ := ih h
      refine ⟨i + 1, by simpa using h1, fun k hk => ?_⟩
      cases k with
      | zero => rfl
      | succ k => simpa using h2 k (by omega)
    | some y =>
      have h : some y = some j := h
      exact ⟨0, by rw [h]; rfl, fun k hk => absurd hk (Nat.not_lt_zero _)⟩
theorem ftw_none {l : List (Option Nat)} (h : ftw l = none) {i : Nat} (hi : i < l.length) : l[i]? = some none := by
  have := List.findSome?_eq_none_iff.mp h _ (List.getElem_mem hi)
  rw [List.getElem?_eq_getElem hi]
  exact congrArg some this
def cl (j : Nat) (o : Option Nat) : Option Nat := if o = some j then none else o
theorem cl_some {j b : Nat} {o : Option Nat} : cl j o = some b ↔ o = some b ∧ b ≠ j := by
  unfold cl
  split
  · rename_i h
    subst h
    constructor
    · intro h; cases h
    · rintro ⟨h, hn⟩
      exact absurd (Option.some.inj h).symm hn
  · rename_i h
    exact ⟨fun e => ⟨e, fun e2 => h (by rw [e, e2])⟩, fun e => e.1⟩
theorem mcl {j a b : Nat} {l : List (Option Nat)} : (l.map (cl j))[a]? = some (some b) ↔ l[a]? = some (some b) ∧ b ≠ j := by
  rw [List.getElem?_map]
  cases l[a]? with
  | none => exact ⟨(fun h => by cases h), fun h => by cases h.1⟩
  | some o =>
    show some (cl j o) = some (some b) ↔ some o = some (some b) ∧ b ≠ j
    rw [Option.some_inj, Option.some_inj]
    exact cl_some
theorem msn {j a b : Nat} {l : List (Option Nat)} : (l.set j none)[b]? = some (some a) ↔ l[b]? = some (some a) ∧ b ≠ j := by
  rw [List.getElem?_set]
  by_cases c : j = b
  · subst c
    rw [if_pos rfl]
    split
    · exact ⟨(fun h => by cases h), fun h => absurd rfl h.2⟩
    · exact ⟨(fun h => by cases h), fun h => absurd rfl h.2⟩
  · rw [if_neg c]
    exact ⟨fun h => ⟨h, fun e => c e.symm⟩, fun h => h.1⟩
theorem mcl_id {j : Nat} {l : List (Option Nat)} (h : ∀ a : Nat, l[a]? ≠ some (some j)) : l.map (cl j) = l := by
  refine List.ext_getElem? fun a => ?_
  rw [List.getElem?_map]
  cases e : l[a]? with
  | none => rfl
  | some o =>
    show some (cl j o) = some o
    unfold cl
    rw [if_neg (fun z => h a (by rw [e, z]))]
theorem clr_cl {s : St} {j : Nat} (hT : Tw s) : (clr s j).tf = s.tf.map (cl j) ∧ (clr s j).ts = s.ts.set j none := by
  unfold clr
  cases e : s.ts[j]? with
  | none =>
    have e2 : ∀ a : Nat, s.tf[a]? ≠ some (some j) := fun a h => by have := hT.there a j h; rw [e] at this; cases this
    exact ⟨(mcl_id e2).symm, (List.set_eq_of_length_le (List.getElem?_eq_none_iff.mp e)).symm⟩
  | some u =>
    cases u with
    | none =>
      have e2 : ∀ a : Nat, s.tf[a]? ≠ some (some j) := fun a h => by have := hT.there a j h; rw [e] at this; cases this
      refine ⟨(mcl_id e2).symm, ?_⟩
      obtain ⟨h1, h2⟩ := List.getElem?_eq_some_iff.mp e
      show s.ts = s.ts.set j none
      rw [← h2, List.set_getElem_self]
    | some k =>
      have hk := hT.back k j e
      show (untie s k).tf = _ ∧ (untie s k).ts = _
      have eu : untie s k = (s.tie true k none).tie false j none := by
        unfold untie
        rw [hk]
      rw [eu]
      refine ⟨?_, rfl⟩
      show s.tf.set k none = s.tf.map (cl j)
      refine List.ext_getElem? fun a => ?_
      rw [List.getElem?_set, List.getElem?_map]
      by_cases c : k = a
      · subst c
        rw [if_pos rfl, if_pos (List.getElem?_eq_some_iff.mp hk).1, hk]
        show some none = some (cl j (some j))
        unfold cl
        rw [if_pos rfl]
      · rw [if_neg c]
        cases e9 : s.tf[a]? with
        | none => rfl
        | some o =>
          show some o = some (cl j o)
          unfold cl
          rw [if_neg (fun z => ?_)]
          rw [z] at e9
          have := hT.there a j e9
          rw [e] at this
          exact c (Option.some.inj (Option.some.inj this))
theorem Tw.out {s : St} {i j : Nat} {r : Sh} (hT : Tw s) (h : ∀ b, s.tf[i]? = some (some b) → b = j) : Tw (outS s i j r) ∧ ∀ b, (outS s i j r).tf[i]? ≠ some (some b) := by
  obtain ⟨e1, e2, _, _, _, _, e7, e8⟩ := outS_eq (s := s) (i := i) (j := j) (r := r)
  obtain ⟨c1, c2⟩ := clr_cl (j := j) hT
  have hn : ∀ b, (s.tf.map (cl j))[i]? ≠ some (some b) := fun b z => by
    obtain ⟨z1, z2⟩ := mcl.mp z
    exact z2 (h b z1)
  refine ⟨⟨fun a b hab => ?_, fun a b hab => ?_, fun a b hab => ?_, fun a b hab => ?_⟩, fun b => by rw [e7, c1]; exact hn b⟩
  · rw [e7, c1] at hab
    obtain ⟨z1, z2⟩ := mcl.mp hab
    rw [e8, c2]
    exact msn.mpr ⟨hT.there a b z1, z2⟩
  · rw [e8, c2] at hab
    obtain ⟨z1, z2⟩ := msn.mp hab
    rw [e7, c1]
    exact mcl.mpr ⟨hT.back a b z1, z2⟩
  · rw [e7, c1] at hab
    have hai : a ≠ i := fun e => hn b (by rw [← e]; exact hab)
    obtain ⟨z1, z2⟩ := mcl.mp hab
    rw [e1, List.getElem?_set, if_neg (Ne.symm hai)]
    exact hT.full a b z1
  · rw [e8, c2] at hab
    obtain ⟨z1, z2⟩ := msn.mp hab
    rw [e2, List.getElem?_set, if_neg (Ne.symm z2)]
    exact hT.bare a b z1
theorem slotF_own {s : St} {i j b : Nat} {c : Option Nat} (h : slotF s i c = some j) (hb : s.tf[i]? = some (some b)) : b = j := by
  unfold slotF at h
  rw [hb] at h
  exact Option.some.inj h
theorem slotF_at {s : St} {i j : Nat} {c : Option Nat} (hT : Tw s) (h : slotF s i c = some j) : s.sr[j]? = some none ∨ (c = some j ∧ (∀ b, s.tf[i]? ≠ some (some b)) ∧ emp s.sr s.ts = none ∧ ftw s.tf = none) := by
  unfold slotF at h
  have go : (∀ b, s.tf[i]? ≠ some (some b)) → (match emp s.sr s.ts with | some j => some j | none => match ftw s.tf with | some j => some j | none => c) = some j → s.sr[j]? = some none ∨ (c = some j ∧ (∀ b, s.tf[i]? ≠ some (some b)) ∧ emp s.sr s.ts = none ∧ ftw s.tf = none) := fun hn h => by
    cases e1 : emp s.sr s.ts with
    | some j2 =>
      rw [e1] at h
      obtain rfl : j2 = j := Option.some.inj h
      exact .inl (emp_some e1).1
    | none =>
      rw [e1] at h
      cases e2 : ftw s.tf with
      | some j2 =>
        rw [e2] at h
        obtain rfl : j2 = j := Option.some.inj h
        obtain ⟨a, ha, _⟩ := ftw_some e2
        exact .inl (hT.bare a _ (hT.there a _ ha))
      | none =>
        rw [e2] at h
        exact .inr ⟨h, hn, rfl, rfl⟩
  cases e : s.tf[i]? with
  | none => rw [e] at h; exact e ▸ go (fun b z => by rw [e] at z; cases z) h
  | some u =>
    cases u with
    | none => rw [e] at h; exact e ▸ go (fun b z => by rw [e] at z; cases z) h
    | some b =>
      rw [e] at h
      obtain rfl : b = j := Option.some.inj h
      exact .inl (hT.bare i _ (hT.there i _ e))
theorem slotF_in {s : St} {i : Nat} {c : Option Nat} (hT : Tw s) (hl : s.ts.length = s.sr.length) (hc : emp s.sr s.ts = none → ftw s.tf = none → ∃ j, c = some j ∧ j < s.sr.length) : ∃ j, slotF s i c = some j ∧ j < s.sr.length := by
  have tl : ∀ {a j : Nat}, s.tf[a]? = some (some j) → j < s.sr.length := fun h => by
    have := (List.getElem?_eq_some_iff.mp (hT.there _ _ h)).1
    omega
  have go : ∃ j, (match emp s.sr s.ts with | some j => some j | none => match ftw s.tf with | some j => some j | none => c) = some j ∧ j < s.sr.length := by
    cases e1 : emp s.sr s.ts with
    | some j2 => exact ⟨j2, rfl, (List.getElem?_eq_some_iff.mp (emp_some e1).1).1⟩
    | none =>
      cases e2 : ftw s.tf with
      | some j2 => obtain ⟨a, ha, _⟩ := ftw_some e2; exact ⟨j2, rfl, tl ha⟩
      | none => exact hc e1 e2
  unfold slotF
  cases e : s.tf[i]? with
  | none => exact go
  | some u =>
    cases u with
    | none => exact go
    | some b => exact ⟨b, rfl, tl e⟩
theorem cnt_full {rows : List (Option Sh)} (h : ∀ j < rows.length, ∃ r, rows[j]? = some (some r)) : cnt rows = rows.length := by
  unfold cnt
  rw [List.filter_eq_self.mpr fun o ho => by
    obtain ⟨j, hj⟩ := List.mem_iff_getElem?.mp ho
    obtain ⟨r, hr⟩ := h j (List.getElem?_eq_some_iff.mp hj).1
    rw [hj] at hr
    have : o = some r := Option.some.inj hr
    subst this
    rfl]
theorem slot_room {s : St} (hT : Tw s) (l1 : s.tf.length = s.fr.length) (l2 : s.ts.length = s.sr.length) (h : live s < room s) (e : emp s.fr s.tf = none) {i : Nat} {c : Option Nat} : ∃ j, slotF s i c = some j ∧ j < s.sr.length := slotF_in hT l2 fun e1 e2 => by
  unfold live room at h
  rw [cnt_full fun j hj => hT.all l1 e hj, cnt_full fun j hj => ?_] at h
  · omega
  · rcases emp_none e1 l2 hj with h | ⟨t, ht⟩
    · exact h
    · have hb := hT.back _ _ ht
      have := ftw_none e2 (List.getElem?_eq_some_iff.mp hb).1
      rw [this] at hb
      cases hb

def OutAt (F : List Addr) (H : Hp) (v : V) : Option (Nat × Sh) → Prop
  | none => v = .non
  | some (j, q) => ∃ o l, v = .ref o ∧ H o = some (.tup [.int (j : Int), .ref l]) ∧ TdK H l (srt q.ks) ∧ l ∉ F
theorem OutAt.keep {F : List Addr} {H H' : Hp} {v : V} (k : ∀ c us, H c = some (.tup us) ∨ (H c = some (.lst us) ∧ c ∉ F) → H' c = H c) : ∀ {o : Option (Nat × Sh)}, OutAt F H v o → OutAt F H' v o
  | none, h => h
  | some (_, _), ⟨o, l, e, h1, ⟨us, h2, h3⟩, h4⟩ => ⟨o, l, e, (k _ _ (.inl h1)).trans h1, ⟨us, (k _ _ (.inr ⟨h2, h4⟩)).trans h2, Paired.mapP h3 fun _ _ ⟨a, e, q⟩ => ⟨a, e, (k _ _ (.inl q)).trans q⟩⟩, h4⟩
theorem OutAt.same {F : List Addr} {H H' : Hp} {v : V} {o : Option (Nat × Sh)} (h : OutAt F H v o) (s : Same H H') : OutAt F H' v o := h.keep fun c us hc => by
  rcases hc with hc | hc
  · rw [hc]; exact s _ _ hc
  · rw [hc.1]; exact s _ _ hc.1

def Ffr (s : St) (c : Option Nat) (ms : List Bool) (s1 : St) (i : Nat) (ps : List Int) (out : Option (Nat × Sh)) : Prop :=
  (emp s.fr s.tf = some i ∧ s1 = s ∧ ps = [] ∧ out = none) ∨
  (emp s.fr s.tf = none ∧ ∃ (q : Sh) (j : Nat), Swp ms s.h i ps ∧ s.fr[i]? = some (some q) ∧ slotF s i c = some j ∧ j < s.sr.length ∧ s1 = outS { s with h := (i + 1) % s.fr.length } i j q ∧ out = some (j, q))
def sp_ff (C P S : Addr) : Sp := fun vs H Q _ => ∃ (z : Ss) (s : St) (c : Option Nat) (m : Addr) (ms : List Bool), vs = [.ref z.p, oV c, .ref m] ∧ SsAt C P S H z s ∧ Tw s ∧ H m = some (.lst (ms.map V.bl)) ∧ ms.length = s.fr.length ∧
  (emp s.fr s.tf = none → (∀ i, ∃ j : Nat, slotF s i c = some j ∧ j < s.sr.length) ∧ ∀ r, some r ∈ s.fr → Okh r) ∧
  ∀ H' s1 i ps out t e v3, Ffr s c ms s1 i ps out → SsAt C P S H' z s1 → H' t = some (.tup [.int (i : Int), .ref e, v3]) → H' e = some (.lst (ps.map V.int)) → OutAt z.four H' v3 out → e ∉ z.four → Ks z H H' → Q (.ref t) H'
theorem Tw.hand {s : St} {h : Nat} (t : Tw s) : Tw { s with h := h } := ⟨t.there, t.back, t.full, t.bare⟩
theorem h_ff (T : Txt K mg A) : HaveM P w K mg base A.C_Sheets "frame_for" 4 ["self", "coming_from", "marks"] [] (sp_ff A.C_Sheets A.C_Spots A.C_Sheet) := by
  have H_Spots_first_empty := h_fe (P := P) (w := w) (base := base) T
  have H_swept := h_sw (P := P) (w := w) (base := base) T
  have H_Sheets_put_out := h_out (P := P) (w := w) (base := base) T
  refine T.r_Sheets_frame_for.have sc_Sheets_frame_for (fun vs H Q E z => ?_) ?_
  · obtain ⟨z, s, c, m, ms, rfl, _⟩ := z; rfl
  · intro f cdv A' outer s H vs Q E hr z
    obtain ⟨z, s, c, m, ms, rfl, hS, hT, hm, hml, hfu, q⟩ := z
    obtain ⟨dx, h1⟩ := hS.me
    obtain ⟨dx1, vs1, f1, f2, f3, f4, f5⟩ := id hS.fr
    have nf : ∀ {e : Addr}, H e = none → e ∉ z.four := fun he => hS.nf he
    refine ⟨_, (pss_cons (ps_set (i := 3) sc_Sheets_frame_for.nd rfl (Or.inl rfl) (pe_methE0 (pe_fld (pvM 0) rfl) T.cl_Spots H_Spots_first_empty (hr.mono (by decide)) xw_def))
      (pss_cons (ps_if (pt_cmpR op_notN (pvM 3) pe_non (nomark _)) (pss_one (ps_ret (pe_tup (pa_cons (pvM 3) (pa_cons (pe_lst pa_nil) (pa_cons pe_non pa_nil)))))) pss_nil)
      (pss_cut (ps_set (i := 4) sc_Sheets_frame_for.nd rfl (Or.inl rfl) (pe_callE H_swept (hr.mono (by decide)) xw_def (pa_cons (pvM 2) (pa_cons (pe_fld (pvM 0) rfl) pa_nil))))
      (pss_cut (ps_fld (pvM 0) (pe_op op_mod (pe_op op_add (pe_ix ix_tup (pvM 4) pe_int (fun _ _ => rfl)) pe_int) (pe_callB call_len rfl T.b_len PySem.boot_len (pa_cons (pe_fld (pe_fld (pvM 0) rfl) rfl) pa_nil))) rfl)
      (pss_one (ps_ret (pe_tup (pa_cons (pe_ix ix_tup (pvM 4) pe_int (fun _ _ => rfl)) (pa_cons (pe_ix ix_tup (pvM 4) pe_int (fun _ _ => rfl)) (pa_cons (pe_methE (pvM 0) T.cl_Sheets H_Sheets_put_out (hr.mono (by decide)) xw_def (pa_cons (pe_ix ix_tup (pvM 4) pe_int (fun _ _ => rfl)) (pa_cons (pvM 1) pa_nil))) pa_nil)))))))))), ?_⟩
    unfold sp_fe
    walk_at "wp"
    simp only [h1]
    walk_at "wp"
    refine ⟨T.cl_Sheets, T.na_Sheets_frames, _, ssF_frames, z.fp, rfl, dx1, _, f1, spF_no (by decide +kernel), z.fp, rfl, z.ly, z.tw, s.fr, s.tf, hS.fr, fun H1 s1 => ?_⟩
    unfold fe
    cases e9 : emp s.fr s.tf with
    | some i =>
      rw [decide_eq_false (fun z => nomatch z)]
      refine iteT fun e1 he1 t1 ht1 => ?_
      have b1 := same_upd (o := .lst []) (same_refl (H := H1)) he1
      have b2 := same_upd (o := .tup [V.int (i : Int), V.ref e1, V.non]) (same_refl (H := upd H1 e1 (.lst []))) ht1
      exact q _ s i [] none t1 e1 .non (.inl ⟨e9, rfl, rfl, rfl⟩) (((hS.same s1).same b1).same b2) upd_same (b2 _ _ upd_same) rfl (nf (same_none s1 he1)) (Ks.of ((s1.trans b1).trans b2))
    | none =>
      rw [decide_eq_true (rfl : V.non = V.non)]
      obtain ⟨hsl, hok⟩ := hfu e9
      have hS1 := hS.same s1
      refine iteF ⟨fun σ G => ∃ i t e ps, σ = [some (.ref z.p), some (oV c), some (.ref m), some .non, some (.ref t)] ∧ Same H1 G ∧ Swp ms s.h i ps ∧ i < s.fr.length ∧ G t = some (.tup [.int (i : Int), .ref e]) ∧ G e = some (.lst (ps.map V.int)) ∧ H1 e = none, ?_, fun σ2 G2 => ?_⟩
      · obtain ⟨dx9, h9⟩ := hS1.me
        walk_at "wp"
        have hh := hS.hh
        have hl64 := hS.len.1
        refine ⟨_, dx9, _, h9, T.cl_Sheets, T.na_Sheets_hand, _, ssF_hand, m, s.h, ms, rfl, SqL.of (s1 _ _ hm), by omega, by omega, by omega, fun t u k H' s9 ht hu hk ha hb ht' hu' => ?_⟩
        have hp : (0 : Int) < (ms.length : Int) := by omega
        have h0 := Int.emod_nonneg ((s.h : Int) + (k : Int)) (Int.ne_of_gt hp)
        have h2 := Int.emod_lt_of_pos ((s.h : Int) + (k : Int)) hp
        refine ⟨(((s.h : Int) + (k : Int)) % (ms.length : Int)).toNat, t, rfl, s9, u, rg ms.length s.h k, ⟨k, hk, ha, hb, by omega, rfl⟩, by omega, ?_, hu', hu⟩
        rw [show (((((s.h : Int) + (k : Int)) % (ms.length : Int)).toNat : Nat) : Int) = ((s.h : Int) + (k : Int)) % (ms.length : Int) by omega]
        exact ht'
      rintro ⟨i, t, e, ps, rfl, s2, hsw, hil, ht2, he2, he0⟩
      have hS2 := hS1.same s2
      refine ⟨fun σ G => σ = [some (.ref z.p), some (oV c), some (.ref m), some .non, some (.ref t)] ∧ SsAt A.C_Sheets A.C_Spots A.C_Sheet G z { s with h := (i + 1) % s.fr.length } ∧ Ks z H G ∧ G t = some (.tup [.int (i : Int), .ref e]) ∧ G e = some (.lst (ps.map V.int)), ?_, fun σ3 G3 => ?_⟩
      · obtain ⟨dx9, h9⟩ := hS2.me
        obtain ⟨dx8, vs8, e1, e2, e3, e4, _⟩ := id hS2.fr
        have l8 := Paired.length e3
        have hmod : ((i : Int) + 1) % (vs8.length : Int) = (((i + 1) % s.fr.length : Nat) : Int) := by rw [l8, Int.natCast_emod, Int.natCast_add]; rfl
        walk_at "wp"
        refine ⟨_, SqT.of ht2, .int i, atI_nat (j := 0) rfl, (i : Int), rfl, _, dx9, _, h9, T.cl_Sheets, T.na_Sheets_frames, _, ssF_frames, z.fp, rfl, _, dx8, _, e1, T.cl_Spots, T.na_Spots_lying, _, spF_lying, vs8.length, .inl ⟨_, SqL.of e2, rfl⟩, by omega, _, dx9, _, h9, T.cl_Sheets, T.na_Sheets_hand, by show 7 < 1000; decide, ?_⟩
        rw [hmod, ssF_ph]
        refine ⟨hS2.num h9 rfl rfl (Nat.mod_lt _ (by omega)) rfl rfl, ks_num (Ks.of (s1.trans s2)), ?_, ?_⟩
        · rw [upd_ne (ne_of ht2 h9 (fun z => nomatch z))]; exact ht2
        · rw [upd_ne (ne_of he2 h9 (fun z => nomatch z))]; exact he2
      rintro ⟨rfl, hS3, k3, ht3, he3⟩
      obtain ⟨dx9, h9⟩ := hS3.me
      have hh := hS.hh
      obtain ⟨r, hr⟩ := hT.all f5 e9 hil
      obtain ⟨j, hsf, hj⟩ := hsl i
      walk_at "wp"
      refine ⟨_, SqT.of ht3, .int i, atI_nat (j := 0) rfl, _, SqT.of ht3, .ref e, atI_nat (j := 1) rfl, dx9, _, h9, ssF_no (by decide +kernel), _, SqT.of ht3, .int i, atI_nat (j := 0) rfl, z, _, i, j, c, r, rfl, hS3, hT.hand, hr, hok r (List.mem_of_getElem? hr), hj, hsf, fun G4 o l hS4 ho htd hlf k4 t4 ht4 => ?_⟩
      have hep : e ≠ z.p := fun z9 => by rw [z9, s1 _ _ h1] at he0; cases he0
      have hef := nf (same_none s1 he0)
      have he4 := k4 _ _ he3 hep hef
      have s5 : Same G4 (upd G4 t4 (.tup [V.int (i : Int), V.ref e, V.ref o])) := same_upd same_refl ht4
      exact q _ _ i ps (some (j, r)) t4 e (.ref o) (.inr ⟨e9, r, j, hsw, hr, hsf, hj, rfl, rfl⟩) (hS4.same s5) upd_same (s5 _ _ he4) ⟨o, l, rfl, s5 _ _ ho, htd.same s5, hlf⟩ hef ((k3.trans k4).trans (Ks.of s5))

def hdS (s : St) : List Addr := hds (s.fr ++ s.sr)
theorem SsAt.hd {C P S : Addr} {H : Hp} {z : Ss} {s : St} (h : SsAt C P S H z s) : ∀ a ∈ hdS s, ∃ kvs, H a = some (.dT kvs) := fun a ha => by
  obtain ⟨r, hr, rfl⟩ := hds_mem.mp ha
  obtain ⟨_, _, _, _, f3, _⟩ := h.fr
  obtain ⟨_, _, _, _, g3, _⟩ := h.sl
  rcases List.mem_append.mp hr with hr | hr
  · obtain ⟨i, hi⟩ := List.mem_iff_getElem?.mp hr
    obtain ⟨_, _, _, _, _, e⟩ := prd_get2 f3 hi
    exact ⟨_, e⟩
  · obtain ⟨i, hi⟩ := List.mem_iff_getElem?.mp hr
    obtain ⟨_, _, _, _, _, e⟩ := prd_get2 g3 hi
    exact ⟨_, e⟩

theorem outS_len {s : St} {i j : Nat} {r : Sh} : (outS s i j r).fr.length = s.fr.length ∧ (outS s i j r).sr.length = s.sr.length := by
  obtain ⟨e1, e2, _⟩ := outS_eq (s := s) (i := i) (j := j) (r := r)
  rw [e1, e2, List.length_set, List.length_set]; exact ⟨rfl, rfl⟩
theorem Ffr.facts {s s1 : St} {c : Option Nat} {ms : List Bool} {i : Nat} {ps : List Int} {out : Option (Nat × Sh)} (h : Ffr s c ms s1 i ps out) (hT : Tw s) : s1.fr[i]? = some none ∧ s1.fr.length = s.fr.length ∧ s1.sr.length = s.sr.length ∧ (∀ r, some r ∈ s1.fr ∨ some r ∈ s1.sr → some r ∈ s.fr ∨ some r ∈ s.sr) ∧ Tw s1 ∧ (∀ b, s1.tf[i]? ≠ some (some b)) ∧ ((∀ j q, out = some (j, q) → s.sr[j]? = some none) → (hdS s1).Perm (hdS s)) := by
  rcases h with ⟨h1, rfl, _, rfl⟩ | ⟨h1, q, j, hsw, hq, hsf, hj, rfl, rfl⟩
  · obtain ⟨e1, e2⟩ := emp_some h1
    exact ⟨e1, rfl, rfl, fun r h => h, hT, (fun b z => by rw [e2] at z; cases z), fun _ => List.Perm.refl _⟩
  · obtain ⟨e1, e2, _⟩ := outS_eq (s := { s with h := (i + 1) % s.fr.length }) (i := i) (j := j) (r := q)
    have e1 : (outS { s with h := (i + 1) % s.fr.length } i j q).fr = s.fr.set i none := e1
    have e2 : (outS { s with h := (i + 1) % s.fr.length } i j q).sr = s.sr.set j (some q) := e2
    obtain ⟨l1, l2⟩ := outS_len (s := { s with h := (i + 1) % s.fr.length }) (i := i) (j := j) (r := q)
    obtain ⟨t1, t2⟩ := (hT.hand (h := (i + 1) % s.fr.length)).out (r := q) (j := j) fun b hb => slotF_own (s := s) hsf hb
    refine ⟨?_, l1, l2, fun r hr => ?_, t1, t2, fun hn => ?_⟩
    · rw [e1]; exact List.getElem?_set_self (List.getElem?_eq_some_iff.mp hq).1
    · rw [e1, e2] at hr
      rcases hr with hr | hr
      · rcases List.mem_or_eq_of_mem_set hr with h | h
        · exact .inl h
        · cases h
      · rcases List.mem_or_eq_of_mem_set hr with h | h
        · exact .inr h
        · cases h; exact .inl (List.mem_of_getElem? hq)
    · unfold hdS
      rw [e1, e2, hds_app, hds_app]
      refine ((List.Perm.refl _).append (hds_fill (hn j q rfl))).trans ?_
      exact List.perm_middle.trans ((hds_take hq).symm.append_right _)
theorem SsAt.lens {C P S : Addr} {H : Hp} {z : Ss} {s : St} (h : SsAt C P S H z s) : s.tf.length = s.fr.length ∧ s.ts.length = s.sr.length := by
  obtain ⟨_, _, _, _, _, _, f5⟩ := h.fr
  obtain ⟨_, _, _, _, _, _, g5⟩ := h.sl
  exact ⟨f5, g5⟩
theorem Tw.fill {s : St} {i : Nat} {r : Sh} (h : Tw s) (hi : ∀ b, s.tf[i]? ≠ some (some b)) : Tw { s with fr := s.fr.set i (some r) } := ⟨h.there, h.back, fun a b hab => by
  show ∃ r', (s.fr.set i (some r))[a]? = some (some r')
  rw [List.getElem?_set, if_neg (fun e => hi b (by rw [e]; exact hab))]
  exact h.full a b hab, h.bare⟩
theorem Ks.was {C P S : Addr} {z : Ss} {s s' : St} {H G : Hp} (k : Ks z H G) (h : SsAt C P S H z s) (h' : SsAt C P S G z s') {c : Addr} (hc : G c = none) : H c = none := by
  cases e : H c with
  | none => rfl
  | some o =>
    by_cases c1 : c = z.p
    · obtain ⟨dx, h1⟩ := h'.me
      rw [c1, h1] at hc; cases hc
    · by_cases c2 : c ∈ z.four
      · exact absurd c2 (h'.nf hc)
      · have := k c o e c1 c2
        rw [hc] at this; cases this
def sp_fresh (C P S O : Addr) : Sp := fun vs H Q E => ∃ (z : Ss) (s : St) (l h m : Addr) (bs : List Int) (k : List Key) (ms : List Bool), vs = [.ref z.p, .ref l, .ref h, .ref m] ∧ SsAt C P S H z s ∧ Ap s ∧ Tw s ∧ H l = some (.lst (bs.map V.int)) ∧ l ∉ z.four ∧ H h = some (.tup (k.map kV)) ∧ H m = some (.lst (ms.map V.bl)) ∧ ms.length = s.fr.length ∧ (∀ r, some r ∈ s.fr → Okh r) ∧
  if live s < room s then ∀ H' s1 i ps out t e v3 r, Ffr s none ms s1 i ps out → SsAt C P S H' z { s1 with fr := s1.fr.set i (some r) } → Ap { s1 with fr := s1.fr.set i (some r) } → Tw { s1 with fr := s1.fr.set i (some r) } → r.b = bs → r.ks = [k] → H r.bx = none → H' t = some (.tup [.int (i : Int), .ref e, v3]) → H' e = some (.lst (ps.map V.int)) → OutAt z.four H' v3 out → e ∉ z.four → Ks z H H' → Q (.ref t) H'
  else ∀ H', Same H H' → E (.ref O) none H'
theorem h_fresh (T : Txt K mg A) : HaveM P w K mg base A.C_Sheets "fresh" 5 ["self", "sheet", "holder", "marks"] [] (sp_fresh A.C_Sheets A.C_Spots A.C_Sheet A.C_NoRoom) := by
  have H_Sheets_is_full := h_full (P := P) (w := w) (base := base) T
  have H_Sheets_frame_for := h_ff (P := P) (w := w) (base := base) T
  have H_Sheet_init := h_shi (P := P) (w := w) (base := base) T
  refine T.r_Sheets_fresh.have sc_Sheets_fresh (fun vs H Q E z => ?_) ?_
  · obtain ⟨z, s, l, h, m, bs, k, ms, rfl, _⟩ := z; rfl
  · intro f cdv A' outer s H vs Q E hr z
    obtain ⟨z, s, l, h, m, bs, k, ms, rfl, hS, hA, hT, hl, hlf, hh, hm, hml, hok, q⟩ := z
    obtain ⟨dx, h1⟩ := hS.me
    refine ⟨_, (pss_cons (ps_if (pt_val (pe_methE0 (pvM 0) T.cl_Sheets H_Sheets_is_full (hr.mono (by decide)) xw_def)) (pss_one (ps_raise xr_def rfl T.x_NoRoom (pa_cons pe_str pa_nil))) pss_nil)
      (pss_cut (ps_set (i := 4) sc_Sheets_fresh.nd rfl (Or.inl rfl) (pe_methE (pvM 0) T.cl_Sheets H_Sheets_frame_for (hr.mono (by decide)) xw_def (pa_cons pe_non (pa_cons (pvM 3) pa_nil))))
      (pss_cons (ps_asg (pe_makeE H_Sheet_init (hr.mono (by decide)) xw_def (pa_cons (pvM 1) (pa_cons (pvM 2) pa_nil))) (pg_sub (pe_fld (pe_fld (pvM 0) rfl) rfl) (pe_ix ix_tup (pvM 4) pe_int (fun _ _ => rfl)) set_list))
      (pss_one (ps_ret (pvM 4)))))), ?_⟩
    unfold sp_full sp_shi
    walk_at "wp"
    simp only [h1]
    walk_at "wp"
    refine ⟨ssF_no (by decide +kernel), z, rfl, s, hS, fun H1 s1 => ?_⟩
    by_cases c : live s < room s
    · rw [if_pos c] at q
      rw [if_neg (by unfold room at c; omega)]
      have hS1 := hS.same s1
      refine ⟨fun σ G => ∃ s2 i ps out t e v3, σ = [some (.ref z.p), some (.ref l), some (.ref h), some (.ref m), some (.ref t)] ∧ Ffr s none ms s2 i ps out ∧ SsAt A.C_Sheets A.C_Spots A.C_Sheet G z s2 ∧ G t = some (.tup [.int (i : Int), .ref e, v3]) ∧ G e = some (.lst (ps.map V.int)) ∧ OutAt z.four G v3 out ∧ e ∉ z.four ∧ Ks z H G, ?_, fun σ2 G2 => ?_⟩
      · walk_at "wp"
        refine ⟨dx, _, s1 _ _ h1, ssF_no (by decide +kernel), z, s, none, m, ms, rfl, hS1, hT, s1 _ _ hm, hml, fun e9 => ⟨fun i => slot_room hT hS.lens.1 hS.lens.2 c e9, hok⟩, fun H' s2 i ps out t e v3 a1 a2 a3 a4 a5 a6 a7 => ?_⟩
        exact ⟨s2, i, ps, out, t, rfl, a1, a2, e, v3, a3, a4, a5, a6, (Ks.of s1).trans a7⟩
      rintro ⟨s2, i, ps, out, t, e, v3, rfl, a1, hS2, a3, a4, a5, a6, k2⟩
      obtain ⟨fi, fl1, fl2, fm, ft, fb, fp⟩ := a1.facts hT
      have fp := fp fun j q e => by
        rcases a1 with ⟨_, _, _, rfl⟩ | ⟨_, q2, j2, _, _, hsf, _, _, rfl⟩
        · cases e
        · cases e
          rcases slotF_at hT hsf with h | ⟨h, _⟩
          · exact h
          · cases h
      have hp2 : ∀ {c : Addr} {o : HO}, H c = some o → (∀ D d fs, o ≠ .ins D d fs) → c ≠ z.p := fun hc hn z9 => by rw [z9, h1] at hc; exact hn _ _ _ (Option.some.inj hc).symm
      have hl2 := k2 _ _ hl (hp2 hl (fun _ _ _ z => nomatch z)) hlf
      have nlt : ∀ {c : Addr} {us : List V}, H c = some (.tup us) → c ∉ z.four := fun hc z9 => by obtain ⟨ws, h9⟩ := hS.fours _ z9; rw [hc] at h9; cases h9
      have hh2 := k2 _ _ hh (hp2 hh (fun _ _ _ z => nomatch z)) (nlt hh)
      walk_at "wp"
      intro sh sdx hsh hsdx hne
      have sm := same_make (o := .ins A.C_Sheet sdx []) hsh hsdx hne
      refine ⟨bs, sm _ _ hl2, k, sm _ _ hh2, fun bx hd G3 hbx hhd kp3 b1 b2 b3 => ?_⟩
      have s23 : Same G2 G3 := fun c o hc => kp3 c o (sm c o hc) (fun z => ne_of_none hc hsh (List.mem_singleton.mp z))
      have hS3 := hS2.same s23
      obtain ⟨dx9, h9⟩ := hS3.me
      obtain ⟨dx1, vs1, f1, f2, f3, f4, _⟩ := id hS3.fr
      have hvl := Paired.length f3
      have hil := (List.getElem?_eq_some_iff.mp fi).1
      have hbx2 := same_none sm hbx
      have hhd2 := same_none sm hhd
      have hbf := hS2.nf hbx2
      refine ⟨_, dx9, _, h9, T.cl_Sheets, T.na_Sheets_frames, _, ssF_frames, z.fp, rfl, _, dx1, _, f1, T.cl_Spots, T.na_Spots_lying, _, spF_lying, _, SqT.of (s23 _ _ a3), .int i, atI_nat (j := 0) rfl, z.ly, rfl, vs1, i, rfl, f2, i, ixn (by rw [hvl]; exact hil), ?_⟩
      have keep : ∀ {c : Addr} {o : HO}, G3 c = some o → c ∉ z.four → upd G3 z.ly (.lst (vs1.set i (.ref sh))) c = some o := fun hc hn => by rw [upd_ne (fun z9 => hn (by rw [z9]; exact la_four (f := true)))]; exact hc
      have nlt3 : ∀ {c : Addr} {us : List V}, G3 c = some (.tup us) → c ∉ z.four := fun hc z9 => by obtain ⟨ws, h9⟩ := hS3.fours _ z9; rw [hc] at h9; cases h9
      refine q _ s2 i ps out t e v3 ⟨bs, [k], sh, bx, hd⟩ a1 (hS3.set (f := true) (j := i) (r := some ⟨bs, [k], sh, bx, hd⟩) f2 ⟨rfl, ⟨sdx, b1⟩, b2, b3⟩ (fun q e => by cases e; exact hbf)) ?_ (ft.fill fb) rfl rfl (k2.was hS hS2 hbx2) (keep (s23 _ _ a3) (nlt3 (s23 _ _ a3))) (keep (s23 _ _ a4) a6) ((a5.same s23).keep fun c us hc => ?_) a6 (ks_la (f := true) (k2.trans (Ks.of s23)))
      · have nin : hd ∉ hdS s2 := fun z9 => by obtain ⟨kvs, h8⟩ := hS2.hd _ z9; rw [hhd2] at h8; cases h8
        have : (hdS s2).Nodup := fp.nodup_iff.mpr hA
        unfold Ap
        show (hds (s2.fr.set i (some ⟨bs, [k], sh, bx, hd⟩) ++ s2.sr)).Nodup
        rw [hds_app]
        refine ((hds_fill (r := ⟨bs, [k], sh, bx, hd⟩) fi).append_right _).nodup_iff.mpr ?_
        have e8 : hdS s2 = hds s2.fr ++ hds s2.sr := hds_app
        rw [e8] at nin this
        exact List.nodup_cons.mpr ⟨nin, this⟩
      · rcases hc with hc | hc
        · rw [hc]; exact keep hc (nlt3 hc)
        · rw [hc.1]; exact keep hc.1 hc.2
    · rw [if_neg c] at q
      rw [if_pos (by unfold room at c; omega)]
      exact q H1 s1

theorem sh_ks {S : Addr} {H H' : Hp} {z : Ss} {s : St} {C dx : Addr} (e : H z.p = some (.ins C dx (ssF z.n z.fp z.sq s))) (k : Ks z H H') {v : V} {r : Sh} (hb : r.bx ∉ z.four) (n2 : ∀ c ∈ z.four, ∃ us, H c = some (.lst us)) (h : ShAt S H v (some r)) : ShAt S H' v (some r) := by
  obtain ⟨a, ⟨d, h1⟩, h2, h3⟩ := h
  have np : ∀ {c : Addr} {o : HO}, H c = some o → (∀ D d fs, o = .ins D d fs → fs.lookup ("hand" : Str) = none) → c ≠ z.p := fun {c o} hc hn e9 => by
    rw [e9, e] at hc
    have := hn _ _ _ (Option.some.inj hc).symm
    rw [ssF_hand] at this
    cases this
  have nl : ∀ {c : Addr} {o : HO}, H c = some o → (∀ us, o ≠ .lst us) → c ∉ z.four := fun hc hn z9 => by obtain ⟨us, h9⟩ := n2 _ z9; rw [h9] at hc; exact hn _ (Option.some.inj hc).symm
  exact ⟨a, ⟨d, k _ _ h1 (np h1 fun _ _ _ z => by cases z; exact shF_no (by decide +kernel)) (nl h1 fun _ z => nomatch z)⟩, k _ _ h2 (np h2 fun _ _ _ z => nomatch z) hb, k _ _ h3 (np h3 fun _ _ _ z => nomatch z) (nl h3 fun _ z => nomatch z)⟩
theorem hds_swap {fr sr : List (Option Sh)} {i j : Nat} {q c : Sh} (hq : fr[i]? = some (some q)) (hc : sr[j]? = some (some c)) : (hds (fr.set i (some c) ++ sr.set j (some q))).Perm (hds (fr ++ sr)) := by
  rw [hds_app, hds_app]
  have a1 := hds_fill (rows := fr.set i none) (j := i) (r := c) (List.getElem?_set_self (List.getElem?_eq_some_iff.mp hq).1)
  have a2 := hds_fill (rows := sr.set j none) (j := j) (r := q) (List.getElem?_set_self (List.getElem?_eq_some_iff.mp hc).1)
  rw [List.set_set] at a1 a2
  refine (a1.append a2).trans (List.Perm.trans ?_ ((hds_take hq).append (hds_take hc)).symm)
  exact (List.Perm.cons _ List.perm_middle).trans ((List.Perm.swap ..).trans (List.Perm.cons _ List.perm_middle.symm))
theorem hds_move {fr sr : List (Option Sh)} {i j : Nat} {c : Sh} (hi : fr[i]? = some none) (hc : sr[j]? = some (some c)) : (hds (fr.set i (some c) ++ sr.set j none)).Perm (hds (fr ++ sr)) := by
  rw [hds_app, hds_app]
  refine ((hds_fill hi).append_right _).trans (List.Perm.trans ?_ ((hds_take hc).append_left _).symm)
  exact List.perm_middle.symm
def bck0 (s1 : St) (i j : Nat) (c : Sh) (out : Option (Nat × Sh)) : St := if out.map (·.1) = some j then s1.put true i (some c) else (((s1.put true i (some c)).put false j none).tie false j (some i)).tie true i (some j)
def bckS (s1 : St) (i j : Nat) (c : Sh) (out : Option (Nat × Sh)) : St := { bck0 s1 i j c out with cb := s1.cb + 1 }
theorem bck_eq {s1 : St} {i j : Nat} {c : Sh} {out : Option (Nat × Sh)} : (bckS s1 i j c out).fr = s1.fr.set i (some c) ∧ (bckS s1 i j c out).sr = (if out.map (·.1) = some j then s1.sr else s1.sr.set j none) ∧ (bckS s1 i j c out).tf = (if out.map (·.1) = some j then s1.tf else s1.tf.set i (some j)) ∧ (bckS s1 i j c out).ts = (if out.map (·.1) = some j then s1.ts else s1.ts.set j (some i)) ∧ (bckS s1 i j c out).h = s1.h ∧ (bckS s1 i j c out).go = s1.go ∧ (bckS s1 i j c out).ga = s1.ga ∧ (bckS s1 i j c out).cb = s1.cb + 1 := by
  unfold bckS bck0
  split <;> exact ⟨rfl, rfl, rfl, rfl, rfl, rfl, rfl, rfl⟩
theorem Ffr.slot {s s1 : St} {ms : List Bool} {i j : Nat} {ps : List Int} {out : Option (Nat × Sh)} {c : Sh} (h : Ffr s (some j) ms s1 i ps out) (hT : Tw s) (hc : s.sr[j]? = some (some c)) : (out.map (·.1) = some j ∧ ∃ q, s.fr[i]? = some (some q) ∧ s1.fr = s.fr.set i none ∧ s1.sr = s.sr.set j (some q)) ∨ (out.map (·.1) ≠ some j ∧ s1.sr[j]? = some (some c) ∧ (∀ j q, out = some (j, q) → s.sr[j]? = some none)) := by
  rcases h with ⟨h1, rfl, _, rfl⟩ | ⟨h1, q, j2, hsw, hq, hsf, hj, rfl, rfl⟩
  · exact .inr ⟨(fun z => by cases z), hc, fun j q z => by cases z⟩
  · obtain ⟨e1, e2, _⟩ := outS_eq (s := { s with h := (i + 1) % s.fr.length }) (i := i) (j := j2) (r := q)
    by_cases e : j2 = j
    · subst e
      exact .inl ⟨rfl, q, hq, e1, e2⟩
    · refine .inr ⟨fun z => e (Option.some.inj z), ?_, fun j3 q3 z => ?_⟩
      · rw [e2, List.getElem?_set, if_neg e]; exact hc
      · cases z
        rcases slotF_at hT hsf with h | ⟨h, _⟩
        · exact h
        · exact absurd (Option.some.inj h).symm e
theorem Ffr.back {s s1 : St} {ms : List Bool} {i j : Nat} {ps : List Int} {out : Option (Nat × Sh)} {c : Sh} (h : Ffr s (some j) ms s1 i ps out) (hT : Tw s) (hA : Ap s) (hl : s1.tf.length = s1.fr.length) (hl2 : s1.ts.length = s1.sr.length) (hc : s.sr[j]? = some (some c)) : Ap (bckS s1 i j c out) ∧ Tw (bckS s1 i j c out) := by
  obtain ⟨b1, b2, b3, b4, _⟩ := bck_eq (s1 := s1) (i := i) (j := j) (c := c) (out := out)
  obtain ⟨f1, f2, f3, f4, f5, f6, f7⟩ := h.facts hT
  rcases h.slot hT hc with ⟨h1, q, h2, h3, h4⟩ | ⟨h1, h2, h3⟩
  · rw [if_pos h1] at b2 b3 b4
    constructor
    · unfold Ap
      rw [b1, b2, h3, h4, List.set_set]
      exact (hds_swap h2 hc).nodup_iff.mpr hA
    · have := f5.fill (r := c) f6
      exact ⟨by rw [b3, b4]; exact this.there, by rw [b3, b4]; exact this.back, by rw [b1, b3]; exact this.full, by rw [b2, b4]; exact this.bare⟩
  · rw [if_neg h1] at b2 b3 b4
    have hil := (List.getElem?_eq_some_iff.mp f1).1
    have hjl := (List.getElem?_eq_some_iff.mp h2).1
    have tn : ∀ a, s1.ts[j]? ≠ some (some a) := fun a z => by have := f5.bare a j z; rw [h2] at this; cases this
    constructor
    · unfold Ap
      rw [b1, b2]
      exact (hds_move f1 h2).nodup_iff.mpr ((f7 h3).nodup_iff.mpr hA)
    · refine ⟨fun a b hab => ?_, fun a b hab => ?_, fun a b hab => ?_, fun a b hab => ?_⟩
      · rw [b3, List.getElem?_set] at hab
        rw [b4, List.getElem?_set]
        by_cases e : i = a
        · subst e
          rw [if_pos rfl, if_pos (by omega)] at hab
          obtain rfl : j = b := Option.some.inj (Option.some.inj hab)
          rw [if_pos rfl, if_pos (by omega)]
        · rw [if_neg e] at hab
          have := f5.there a b hab
          rw [if_neg (fun z => tn a (by rw [z]; exact this))]
          exact this
      · rw [b4, List.getElem?_set] at hab
        rw [b3, List.getElem?_set]
        by_cases e : j = b
        · subst e
          rw [if_pos rfl, if_pos (by omega)] at hab
          obtain rfl : i = a := Option.some.inj (Option.some.inj hab)
          rw [if_pos rfl, if_pos (by omega)]
        · rw [if_neg e] at hab
          have := f5.back a b hab
          rw [if_neg (fun z => f6 b (by rw [z]; exact this))]
          exact this
      · rw [b1, List.getElem?_set]
        by_cases e : i = a
        · subst e
          rw [if_pos rfl, if_pos (by omega)]
          exact ⟨c, rfl⟩
        · rw [b3, List.getElem?_set, if_neg e] at hab
          rw [if_neg e]
          exact f5.full a b hab
      · rw [b2, List.getElem?_set]
        by_cases e : j = b
        · subst e
          rw [if_pos rfl, if_pos (by omega)]
        · rw [b4, List.getElem?_set, if_neg e] at hab
          rw [if_neg e]
          exact f5.bare a b hab
def sp_back (C P S : Addr) : Sp := fun vs H Q _ => ∃ (z : Ss) (s : St) (j : Nat) (m : Addr) (ms : List Bool) (c : Sh), vs = [.ref z.p, .int j, .ref m] ∧ SsAt C P S H z s ∧ Ap s ∧ Tw s ∧ H m = some (.lst (ms.map V.bl)) ∧ ms.length = s.fr.length ∧ (∀ r, some r ∈ s.fr → Okh r) ∧ s.sr[j]? = some (some c) ∧
  ∀ H' s1 i ps out t e v3, Ffr s (some j) ms s1 i ps out → SsAt C P S H' z (bckS s1 i j c out) → Ap (bckS s1 i j c out) → Tw (bckS s1 i j c out) → H' t = some (.tup [.int (i : Int), .ref e, v3]) → H' e = some (.lst (ps.map V.int)) → OutAt z.four H' v3 out → e ∉ z.four → Ks z H H' → Q (.ref t) H'
theorem h_back (T : Txt K mg A) : HaveM P w K mg base A.C_Sheets "back" 5 ["self", "slot", "marks"] [] (sp_back A.C_Sheets A.C_Spots A.C_Sheet) := by
  have H_Sheets_frame_for := h_ff (P := P) (w := w) (base := base) T
  refine T.r_Sheets_back.have sc_Sheets_back (fun vs H Q E z => ?_) ?_
  · obtain ⟨z, s, j, m, ms, c, rfl, _⟩ := z; rfl
  · intro f cdv A' outer s H vs Q E hr z
    obtain ⟨z, s, j, m, ms, c, rfl, hS, hA, hT, hm, hml, hok, hc, q⟩ := z
    obtain ⟨dx, h1⟩ := hS.me
    obtain ⟨dx2, vs2, g1, g2, g3, g4, g5⟩ := id hS.sl
    obtain ⟨v, hv1, hv2⟩ := prd_get2 g3 hc
    obtain ⟨rfl, _⟩ := id hv2
    have hjl := (List.getElem?_eq_some_iff.mp hc).1
    have hbc := hS.bx c (.inr (List.mem_of_getElem? hc))
    refine ⟨_, (pss_cons (ps_set (i := 3) sc_Sheets_back.nd rfl (Or.inl rfl) (pe_ix ix_list (pe_fld (pe_fld (pvM 0) rfl) rfl) (pvM 1) (fun _ _ => rfl)))
      (pss_cut (ps_set (i := 4) sc_Sheets_back.nd rfl (Or.inl rfl) (pe_methE (pvM 0) T.cl_Sheets H_Sheets_frame_for (hr.mono (by decide)) xw_def (pa_cons (pvM 1) (pa_cons (pvM 2) pa_nil))))
      (pss_cut (ps_asg (pvM 3) (pg_sub (pe_fld (pe_fld (pvM 0) rfl) rfl) (pe_ix ix_tup (pvM 4) pe_int (fun _ _ => rfl)) set_list))
      (pss_cut (ps_if (PW.pt (pw_or (pt_cmpR op_isN (pe_ix ix_tup (pvM 4) pe_int (fun _ _ => rfl)) pe_non (nomark _)) (pw_or1 (pt_cmpR op_ne (pe_ix ix_tup (pe_ix ix_tup (pvM 4) pe_int (fun _ _ => rfl)) pe_int (fun _ _ => rfl)) (pvM 1) (nomark _))))) (pss_cons (ps_asg pe_non (pg_sub (pe_fld (pe_fld (pvM 0) rfl) rfl) (pvM 1) set_list))
      (pss_cons (ps_asg (pe_ix ix_tup (pvM 4) pe_int (fun _ _ => rfl)) (pg_sub (pe_fld (pe_fld (pvM 0) rfl) rfl) (pvM 1) set_list))
      (pss_one (ps_asg (pvM 1) (pg_sub (pe_fld (pe_fld (pvM 0) rfl) rfl) (pe_ix ix_tup (pvM 4) pe_int (fun _ _ => rfl)) set_list))))) pss_nil)
      (pss_cons (ps_fld (pvM 0) (pe_op op_add (pe_fld (pvM 0) rfl) pe_int) rfl)
      (pss_one (ps_ret (pvM 4)))))))), ?_⟩
    walk_at "wp"
    simp only [h1]
    walk_at "wp"
    refine ⟨T.cl_Sheets, T.na_Sheets_slots, _, ssF_slots, z.sq, rfl, _, dx2, _, g1, T.cl_Spots, T.na_Spots_lying, _, spF_lying, z.ls, rfl, _, SqL.of g2, _, atI_nat hv1, ?_⟩
    refine ⟨fun σ G => ∃ s1 i ps out t e v3, σ = [some (.ref z.p), some (.int j), some (.ref m), some (.ref c.sh), some (.ref t)] ∧ Ffr s (some j) ms s1 i ps out ∧ SsAt A.C_Sheets A.C_Spots A.C_Sheet G z s1 ∧ G t = some (.tup [.int (i : Int), .ref e, v3]) ∧ G e = some (.lst (ps.map V.int)) ∧ OutAt z.four G v3 out ∧ e ∉ z.four ∧ Ks z H G, ?_, fun σ2 G2 => ?_⟩
    · walk_at "wp"
      refine ⟨dx, _, h1, ssF_no (by decide +kernel), z, s, some j, m, ms, rfl, hS, hT, hm, hml, fun _ => ⟨fun i => slotF_in hT g5 fun _ _ => ⟨j, rfl, hjl⟩, hok⟩, fun H' s1 i ps out t e v3 a1 a2 a3 a4 a5 a6 a7 => ?_⟩
      exact ⟨s1, i, ps, out, t, rfl, a1, a2, e, v3, a3, a4, a5, a6, a7⟩
    rintro ⟨s1, i, ps, out, t, e, v3, rfl, a1, hS2, ht2, he2, ho2, hef, k2⟩
    obtain ⟨f1, _⟩ := a1.facts hT
    have hil := (List.getElem?_eq_some_iff.mp f1).1
    have sh2 := sh_ks h1 k2 hbc hS.fours hv2
    have hsl := a1.slot hT hc
    obtain ⟨b1, b2⟩ := a1.back hT hA hS2.lens.1 hS2.lens.2 hc
    refine ⟨fun σ G => σ = [some (.ref z.p), some (.int j), some (.ref m), some (.ref c.sh), some (.ref t)] ∧ SsAt A.C_Sheets A.C_Spots A.C_Sheet G z (s1.put true i (some c)) ∧ G t = some (.tup [.int (i : Int), .ref e, v3]) ∧ G e = some (.lst (ps.map V.int)) ∧ OutAt z.four G v3 out ∧ Ks z H G, ?_, fun σ3 G3 => ?_⟩
    · obtain ⟨dx9, h9⟩ := hS2.me
      obtain ⟨dx8, vs8, e1, e2, e3, e4, e5⟩ := id hS2.fr
      have l8 := Paired.length e3
      walk_at "wp"
      refine ⟨_, dx9, _, h9, T.cl_Sheets, T.na_Sheets_frames, _, ssF_frames, z.fp, rfl, _, dx8, _, e1, T.cl_Spots, T.na_Spots_lying, _, spF_lying, _, SqT.of ht2, .int i, atI_nat (j := 0) rfl, z.ly, rfl, vs8, i, rfl, e2, i, ixn (by rw [l8]; exact hil), ?_⟩
      refine ⟨hS2.set (f := true) (j := i) (r := some c) e2 sh2 (fun q e => by cases e; exact hbc), by rw [upd_ne (ne_of ht2 e2 (fun z => nomatch z))]; exact ht2, by rw [upd_ne (fun z9 => hef (by rw [z9]; exact la_four (f := true)))]; exact he2, ho2.keep fun a us ha => ?_, ks_la (f := true) k2⟩
      rcases ha with ha | ha
      · rw [upd_ne (ne_of ha e2 (fun z => nomatch z))]
      · rw [upd_ne (fun z9 => ha.2 (by rw [z9]; exact la_four (f := true)))]
    rintro ⟨rfl, hS3, ht3, he3, ho3, k3⟩
    refine ⟨fun σ G => σ = [some (.ref z.p), some (.int j), some (.ref m), some (.ref c.sh), some (.ref t)] ∧ SsAt A.C_Sheets A.C_Spots A.C_Sheet G z (bck0 s1 i j c out) ∧ G t = some (.tup [.int (i : Int), .ref e, v3]) ∧ G e = some (.lst (ps.map V.int)) ∧ OutAt z.four G v3 out ∧ Ks z H G, ?_, fun σ4 G4 => ?_⟩
    · walk_at "wp"
      have ntf : ∀ {c : Addr} {us : List V}, G3 c = some (.tup us) → c ∉ z.four := fun hc z9 => by obtain ⟨ws, h9⟩ := hS3.fours _ z9; rw [hc] at h9; cases h9
      have nti : ∀ {c : Addr} {o : HO}, G3 c = some o → (hn : ∀ D d fs, o ≠ .ins D d fs := by intro _ _ _ z; cases z) → c ≠ z.p := fun hc hn z9 => by obtain ⟨dx, h1⟩ := hS3.me; rw [z9, h1] at hc; exact hn _ _ _ (Option.some.inj hc).symm
      obtain ⟨dx9, h9⟩ := hS3.me
      obtain ⟨dx8, vs8, e1, e2, e3, e4, e5⟩ := id hS3.sl
      have l8 : vs8.length = s1.sr.length := Paired.length e3
      have hln := hS2.lens
      have hjl1 : j < s1.sr.length := by have := (a1.facts hT).2.2.1; omega
      refine ⟨_, SqT.of ht3, v3, atI_nat (j := 2) rfl, ?_⟩
      cases out with
      | none =>
        obtain rfl : v3 = .non := id ho3
        rw [if_pos rfl]
        have nout : (none : Option (Nat × Sh)).map (·.1) ≠ some j := fun z => by cases z
        have eb : bck0 s1 i j c none = (((s1.put true i (some c)).put false j none).tie false j (some i)).tie true i (some j) := by unfold bck0; rw [if_neg nout]
        rw [eb]
        have S5 := hS3.set (f := false) (j := j) (r := none) e2 rfl (fun q e => nomatch e)
        have k5 : Ks z G3 (upd G3 z.ls (.lst (vs8.set j .non))) := ks_la (f := false) (Ks.of same_refl)
        refine ⟨_, dx9, _, h9, T.cl_Sheets, T.na_Sheets_slots, _, ssF_slots, z.sq, rfl, _, dx8, _, e1, T.cl_Spots, T.na_Spots_lying, _, spF_lying, z.ls, rfl, vs8, e2, j, ixn (by rw [l8]; exact hjl1), ?_⟩
        have S5 : SsAt A.C_Sheets A.C_Spots A.C_Sheet (upd G3 z.ls (.lst (vs8.set j .non))) z ((s1.put true i (some c)).put false j none) := S5
        generalize upd G3 z.ls _ = G5 at *
        obtain ⟨dy, y1⟩ := S5.me
        obtain ⟨dz, ws, y2, y3, y4, y5, y6⟩ := id S5.sl
        have y5 : G5 z.ts = some (.lst (s1.ts.map oV)) := y5
        have ht5 := k5 _ _ ht3 (nti ht3) (ntf ht3)
        refine ⟨_, SqT.of ht5, .int i, atI_nat (j := 0) rfl, _, dy, _, y1, T.cl_Sheets, T.na_Sheets_slots, _, ssF_slots, z.sq, rfl, _, dz, _, y2, T.cl_Spots, T.na_Spots_twins, _, spF_twins, z.ts, rfl, _, y5, j, ixn (by rw [List.length_map]; omega), ?_⟩
        have S6 : SsAt A.C_Sheets A.C_Spots A.C_Sheet (upd G5 z.ts (.lst ((s1.ts.map oV).set j (V.int (i : Int))))) z _ := S5.tie (f := false) (j := j) (o := some i)
        have k6 : Ks z G3 (upd G5 z.ts (.lst ((s1.ts.map oV).set j (V.int (i : Int))))) := ks_ta (f := false) k5
        generalize upd G5 z.ts _ = G6 at *
        obtain ⟨dw, x1⟩ := S6.me
        obtain ⟨dv, us, x2, x3, x4, x5, x6⟩ := id S6.fr
        have x5 : G6 z.tw = some (.lst (s1.tf.map oV)) := x5
        have ht6 := k6 _ _ ht3 (nti ht3) (ntf ht3)
        refine ⟨_, dw, _, x1, T.cl_Sheets, T.na_Sheets_frames, _, ssF_frames, z.fp, rfl, _, dv, _, x2, T.cl_Spots, T.na_Spots_twins, _, spF_twins, _, SqT.of ht6, .int i, atI_nat (j := 0) rfl, z.tw, rfl, _, i, rfl, x5, i, ixn (by rw [List.length_map]; omega), ?_⟩
        have S7 : SsAt A.C_Sheets A.C_Spots A.C_Sheet (upd G6 z.tw (.lst ((s1.tf.map oV).set i (V.int (j : Int))))) z _ := S6.tie (f := true) (j := i) (o := some j)
        have k7 : Ks z G3 (upd G6 z.tw (.lst ((s1.tf.map oV).set i (V.int (j : Int))))) := ks_ta (f := true) k6
        exact ⟨S7, k7 _ _ ht3 (nti ht3) (ntf ht3), k7 _ _ he3 (nti he3) hef, ho3.keep (fun a us ha => by
          rcases ha with ha | ha
          · rw [ha]; exact k7 _ _ ha (nti ha) (ntf ha)
          · rw [ha.1]; exact k7 _ _ ha.1 (nti ha.1) ha.2), k3.trans k7⟩
      | some jq =>
        obtain ⟨j2, q2⟩ := jq
        obtain ⟨o, l, rfl, d1, d2⟩ := id ho3
        rw [if_neg (fun z => nomatch z)]
        refine ⟨_, SqT.of ht3, .ref o, atI_nat (j := 2) rfl, o, rfl, _, SqT.of d1, .int j2, atI_nat (j := 0) rfl, rfl, ?_⟩
        by_cases c9 : j2 = j
        · subst c9
          have eb : bck0 s1 i j2 c (some (j2, q2)) = s1.put true i (some c) := by unfold bck0; exact if_pos rfl
          rw [eb]
          exact ifn (by simp) ⟨hS3, ht3, he3, ho3, k3⟩
        refine ifp (by simp; omega) ?_
        have nout : (some (j2, q2)).map (·.1) ≠ some j := fun z => c9 (Option.some.inj z)
        have eb : bck0 s1 i j c (some (j2, q2)) = (((s1.put true i (some c)).put false j none).tie false j (some i)).tie true i (some j) := by unfold bck0; rw [if_neg nout]
        rw [eb]
        have S5 := hS3.set (f := false) (j := j) (r := none) e2 rfl (fun q e => nomatch e)
        have k5 : Ks z G3 (upd G3 z.ls (.lst (vs8.set j .non))) := ks_la (f := false) (Ks.of same_refl)
        refine ⟨_, dx9, _, h9, T.cl_Sheets, T.na_Sheets_slots, _, ssF_slots, z.sq, rfl, _, dx8, _, e1, T.cl_Spots, T.na_Spots_lying, _, spF_lying, z.ls, rfl, vs8, e2, j, ixn (by rw [l8]; exact hjl1), ?_⟩
        have S5 : SsAt A.C_Sheets A.C_Spots A.C_Sheet (upd G3 z.ls (.lst (vs8.set j .non))) z ((s1.put true i (some c)).put false j none) := S5
        generalize upd G3 z.ls _ = G5 at *
        obtain ⟨dy, y1⟩ := S5.me
        obtain ⟨dz, ws, y2, y3, y4, y5, y6⟩ := id S5.sl
        have y5 : G5 z.ts = some (.lst (s1.ts.map oV)) := y5
        have ht5 := k5 _ _ ht3 (nti ht3) (ntf ht3)
        refine ⟨_, SqT.of ht5, .int i, atI_nat (j := 0) rfl, _, dy, _, y1, T.cl_Sheets, T.na_Sheets_slots, _, ssF_slots, z.sq, rfl, _, dz, _, y2, T.cl_Spots, T.na_Spots_twins, _, spF_twins, z.ts, rfl, _, y5, j, ixn (by rw [List.length_map]; omega), ?_⟩
        have S6 : SsAt A.C_Sheets A.C_Spots A.C_Sheet (upd G5 z.ts (.lst ((s1.ts.map oV).set j (V.int (i : Int))))) z _ := S5.tie (f := false) (j := j) (o := some i)
        have k6 : Ks z G3 (upd G5 z.ts (.lst ((s1.ts.map oV).set j (V.int (i : Int))))) := ks_ta (f := false) k5
        generalize upd G5 z.ts _ = G6 at *
        obtain ⟨dw, x1⟩ := S6.me
        obtain ⟨dv, us, x2, x3, x4, x5, x6⟩ := id S6.fr
        have x5 : G6 z.tw = some (.lst (s1.tf.map oV)) := x5
        have ht6 := k6 _ _ ht3 (nti ht3) (ntf ht3)
        refine ⟨_, dw, _, x1, T.cl_Sheets, T.na_Sheets_frames, _, ssF_frames, z.fp, rfl, _, dv, _, x2, T.cl_Spots, T.na_Spots_twins, _, spF_twins, _, SqT.of ht6, .int i, atI_nat (j := 0) rfl, z.tw, rfl, _, i, rfl, x5, i, ixn (by rw [List.length_map]; omega), ?_⟩
        have S7 : SsAt A.C_Sheets A.C_Spots A.C_Sheet (upd G6 z.tw (.lst ((s1.tf.map oV).set i (V.int (j : Int))))) z _ := S6.tie (f := true) (j := i) (o := some j)
        have k7 : Ks z G3 (upd G6 z.tw (.lst ((s1.tf.map oV).set i (V.int (j : Int))))) := ks_ta (f := true) k6
        exact ⟨S7, k7 _ _ ht3 (nti ht3) (ntf ht3), k7 _ _ he3 (nti he3) hef, ho3.keep (fun a us ha => by
          rcases ha with ha | ha
          · rw [ha]; exact k7 _ _ ha (nti ha) (ntf ha)
          · rw [ha.1]; exact k7 _ _ ha.1 (nti ha.1) ha.2), k3.trans k7⟩
    rintro ⟨rfl, hS4, ht4, he4, ho4, k4⟩
    obtain ⟨dx9, h9⟩ := hS4.me
    have ecb : (bck0 s1 i j c out).cb = s1.cb := by unfold bck0; split <;> rfl
    walk_at "wp"
    refine ⟨_, dx9, _, h9, T.cl_Sheets, T.na_Sheets_come_back, _, ssF_back, _, rfl, _, dx9, _, h9, T.cl_Sheets, T.na_Sheets_come_back, by show 7 < 1000; decide, ?_⟩
    rw [ssF_pc, ecb]
    refine q _ s1 i ps out t e v3 a1 ?_ b1 b2 ?_ ?_ ?_ hef (ks_num k4)
    · exact hS4.num h9 rfl rfl hS4.hh rfl rfl
    · rw [upd_ne (ne_of ht4 h9 (fun z => nomatch z))]; exact ht4
    · rw [upd_ne (ne_of he4 h9 (fun z => nomatch z))]; exact he4
    · refine ho4.keep fun a us ha => ?_
      rcases ha with ha | ha
      · rw [upd_ne (ne_of ha h9 (fun z => nomatch z))]
      · rw [upd_ne (ne_of ha.1 h9 (fun z => nomatch z))]

theorem hds_clr : ∀ {rows : List (Option Sh)} {j : Nat}, (hds (rows.set j none)).Sublist (hds rows)
  | [], _ => List.Sublist.refl _
  | x :: l, 0 => by
    cases x with
    | none => exact List.Sublist.refl _
    | some y => exact List.Sublist.cons _ (List.Sublist.refl _)
  | x :: l, j + 1 => by
    cases x with
    | none => exact hds_clr (rows := l) (j := j)
    | some y => exact List.Sublist.cons₂ _ (hds_clr (rows := l) (j := j))
theorem hds_ne : ∀ {rows : List (Option Sh)} {i j : Nat} {r r' : Sh}, (hds rows).Nodup → rows[j]? = some (some r) → rows[i]? = some (some r') → i ≠ j → r'.hd ≠ r.hd
  | [], _, _, _, _, _, h, _, _ => by simp at h
  | x :: l, 0, 0, _, _, _, _, _, h => absurd rfl h
  | x :: l, 0, j + 1, r, r', nd, h1, h2, _ => by
    simp at h1 h2
    subst h2
    have nd : (r'.hd :: hds l).Nodup := nd
    exact fun e => (List.nodup_cons.mp nd).1 (hds_mem.mpr ⟨r, List.mem_of_getElem? h1, e.symm⟩)
  | x :: l, i + 1, 0, r, r', nd, h1, h2, _ => by
    simp at h1 h2
    subst h1
    have nd : (r.hd :: hds l).Nodup := nd
    exact fun e => (List.nodup_cons.mp nd).1 (hds_mem.mpr ⟨r', List.mem_of_getElem? h2, e⟩)
  | x :: l, i + 1, j + 1, r, r', nd, h1, h2, hn => by
    have nd : (hds l).Nodup := by
      cases x with
      | none => exact nd
      | some y => exact (List.nodup_cons.mp (show (y.hd :: hds l).Nodup from nd)).2
    exact hds_ne nd (by simpa using h1) (by simpa using h2) (by omega)

def sp_la (C P S : Addr) : Sp := fun vs H Q _ => ∃ (z : Ss) (s : St) (t : Addr) (f : Bool) (j : Nat) (r : Option Sh), vs = [.ref z.p, .ref t] ∧ SsAt C P S H z s ∧ H t = some (.tup [.str (nmS f), .int j]) ∧ (s.rw f)[j]? = some r ∧ ∀ v, ShAt S H v r → Q v H
theorem h_la (T : Txt K mg A) : HaveM P w K mg base A.C_Sheets "lying_at" 1 ["self", "spot"] [] (sp_la A.C_Sheets A.C_Spots A.C_Sheet) := by
  refine T.r_Sheets_lying_at.have sc_Sheets_lying_at (fun vs H Q E z => ?_) ?_
  · obtain ⟨z, s, t, f, j, r, rfl, _⟩ := z; rfl
  · intro f cdv A' outer s H vs Q E hr z
    obtain ⟨z, s, t, f, j, r, rfl, hS, ht, hrj, q⟩ := z
    obtain ⟨dx, h1⟩ := hS.me
    refine ⟨_, (pss_cons (ps_set (i := 2) sc_Sheets_lying_at.nd rfl (Or.inl rfl) (pe_ifExp (pt_cmpR op_eq (pe_ix ix_tup (pvM 1) pe_int (fun _ _ => rfl)) pe_str (nomark _)) (pe_fld (pvM 0) rfl) (pe_fld (pvM 0) rfl)))
      (pss_one (ps_ret (pe_ix ix_list (pe_fld (pvM 2) rfl) (pe_ix ix_tup (pvM 1) pe_int (fun _ _ => rfl)) (fun _ _ => rfl))))), ?_⟩
    walk_at "wp"
    simp only [h1]
    walk_at "wp"
    obtain ⟨dx1, vs1, f1, f2, f3, f4⟩ := id hS.fr
    obtain ⟨dx2, vs2, g1, g2, g3, g4⟩ := id hS.sl
    refine ⟨_, SqT.of ht, _, rfl, rfl, ?_⟩
    cases f with
    | true =>
      rw [if_pos (show V.str (nmS true) = V.str (Str.ofString "frame") from rfl)]
      obtain ⟨v, hv1, hv2⟩ := prd_get2 f3 hrj
      exact ⟨T.cl_Sheets, T.na_Sheets_frames, _, ssF_frames, z.fp, rfl, _, dx1, _, f1, T.cl_Spots, T.na_Spots_lying, _, spF_lying, _, SqT.of ht, _, rfl, z.ly, rfl, _, j, rfl, SqL.of f2, v, atI_nat hv1, q v hv2⟩
    | false =>
      rw [if_neg (by decide +kernel)]
      obtain ⟨v, hv1, hv2⟩ := prd_get2 g3 hrj
      exact ⟨T.cl_Sheets, T.na_Sheets_slots, _, ssF_slots, z.sq, rfl, _, dx2, _, g1, T.cl_Spots, T.na_Spots_lying, _, spF_lying, _, SqT.of ht, _, rfl, z.ls, rfl, _, j, rfl, SqL.of g2, v, atI_nat hv1, q v hv2⟩
theorem ly_hd {S hd : Addr} {H : Hp} {kvs : List (List Key × V)} {o : HO} (hl : H hd = some (.dT kvs)) {vs : List V} {rows : List (Option Sh)} (h : LyAt S H vs rows) (hb : ∀ r, some r ∈ rows → r.hd ≠ hd) : LyAt S (upd H hd o) vs rows := by
  induction h with
  | nil => exact .nil
  | @cons x y _ _ h t ih =>
    refine .cons ?_ (ih fun r hr => hb r (List.mem_cons_of_mem _ hr))
    cases y with
    | none => exact h
    | some r =>
      obtain ⟨e, ⟨dx, h1⟩, h2, h3⟩ := h
      exact ⟨e, ⟨dx, by rw [upd_ne (ne_of h1 hl (fun z => nomatch z))]; exact h1⟩, by rw [upd_ne (ne_of h2 hl (fun z => nomatch z))]; exact h2, by rw [upd_ne (hb r (List.mem_cons_self ..))]; exact h3⟩
theorem ly_ks {S : Addr} {H : Hp} {r : Sh} {kvs : List (List Key × V)} {ks : List (List Key)} (hl : H r.hd = some (.dT kvs)) {vs : List V} {rows : List (Option Sh)} (h : LyAt S H vs rows) : ∀ {j : Nat}, rows[j]? = some (some r) → (∀ (i : Nat) q, i ≠ j → rows[i]? = some (some q) → q.hd ≠ r.hd) → LyAt S (upd H r.hd (.dT (ksD ks))) vs (rows.set j (some { r with ks := ks })) := by
  induction h with
  | nil => intro j h _; simp at h
  | @cons x y xs ys h t ih =>
    intro j hj hb
    cases j with
    | zero =>
      simp at hj
      subst hj
      obtain ⟨e, ⟨dx, h1⟩, h2, h3⟩ := h
      refine .cons ⟨e, ⟨dx, by rw [upd_ne (ne_of h1 hl (fun z => nomatch z))]; exact h1⟩, by rw [upd_ne (ne_of h2 hl (fun z => nomatch z))]; exact h2, upd_same⟩ (ly_hd hl t fun q hq => ?_)
      obtain ⟨i, hi⟩ := List.mem_iff_getElem?.mp hq
      exact hb (i + 1) q (by omega) (by simpa using hi)
    | succ j =>
      refine .cons ?_ (ih (by simpa using hj) fun i q hi hq => hb (i + 1) q (by omega) (by simpa using hq))
      cases y with
      | none => exact h
      | some r9 =>
        obtain ⟨e, ⟨dx, h1⟩, h2, h3⟩ := h
        exact ⟨e, ⟨dx, by rw [upd_ne (ne_of h1 hl (fun z => nomatch z))]; exact h1⟩, by rw [upd_ne (ne_of h2 hl (fun z => nomatch z))]; exact h2, by rw [upd_ne (hb 0 r9 (by omega) rfl)]; exact h3⟩
theorem hds_ks : ∀ {rows : List (Option Sh)} {j : Nat} {r r' : Sh}, rows[j]? = some (some r) → r'.hd = r.hd → hds (rows.set j (some r')) = hds rows
  | [], _, _, _, h, _ => by simp at h
  | x :: l, 0, r, r', h, e => by
    simp at h
    subst h
    show r'.hd :: hds l = r.hd :: hds l
    rw [e]
  | x :: l, j + 1, r, r', h, e => by
    have := hds_ks (rows := l) (j := j) (by simpa using h) e
    cases x with
    | none => exact this
    | some y => exact congrArg (y.hd :: ·) this
theorem ap_ks {s : St} {f : Bool} {j : Nat} {r r' : Sh} (h : Ap s) (hr : (s.rw f)[j]? = some (some r)) (e : r'.hd = r.hd) : Ap (s.put f j (some r')) := by
  unfold Ap at *
  cases f with
  | true => show (hds (s.fr.set j (some r') ++ s.sr)).Nodup; rw [hds_app, hds_ks (rows := s.fr) hr e, ← hds_app]; exact h
  | false => show (hds (s.fr ++ s.sr.set j (some r'))).Nodup; rw [hds_app, hds_ks (rows := s.sr) hr e, ← hds_app]; exact h
theorem ap_none {s : St} {f : Bool} {j : Nat} (h : Ap s) : Ap (s.put f j none) := by
  unfold Ap at *
  rw [hds_app] at h
  cases f with
  | true => show (hds (s.fr.set j none ++ s.sr)).Nodup; rw [hds_app]; exact h.sublist (List.Sublist.append_right hds_clr _)
  | false => show (hds (s.fr ++ s.sr.set j none)).Nodup; rw [hds_app]; exact h.sublist (List.Sublist.append_left hds_clr _)
theorem SsAt.ks {C P S : Addr} {H : Hp} {z : Ss} {s : St} {f : Bool} {j : Nat} {r : Sh} {ks : List (List Key)} (h : SsAt C P S H z s) (hA : Ap s) (hr : (s.rw f)[j]? = some (some r)) (hl : H r.hd = some (.dT (ksD r.ks))) : SsAt C P S (upd H r.hd (.dT (ksD ks))) z (s.put f j (some { r with ks := ks })) := by
  obtain ⟨dx, h1⟩ := h.me
  obtain ⟨dx1, vs1, f1, f2, f3, f4⟩ := id h.fr
  obtain ⟨dx2, vs2, g1, g2, g3, g4⟩ := id h.sl
  have np : ∀ {c o}, H c = some o → (∀ us, o ≠ .dT us) → upd H r.hd (.dT (ksD ks)) c = some o := fun {c o} hc ho => by rw [upd_ne (fun z => by rw [z, hl] at hc; exact ho _ (Option.some.inj hc).symm)]; exact hc
  have bx2 : ∀ q, some q ∈ (s.put f j (some { r with ks := ks })).fr ∨ some q ∈ (s.put f j (some { r with ks := ks })).sr → q.bx ∉ z.four := fun q hq => (mem_put hq).elim (fun e => by
    cases e
    refine h.bx r ?_
    cases f with
    | true => exact .inl (List.mem_of_getElem? hr)
    | false => exact .inr (List.mem_of_getElem? hr)) (h.bx q)
  unfold Ap at hA
  rw [hds_app] at hA
  obtain ⟨m1, m2, m3⟩ := List.nodup_append.mp hA
  cases f with
  | true =>
    have hr : s.fr[j]? = some (some r) := hr
    have f5 : s.tf.length = (s.fr.set j (some { r with ks := ks })).length := by rw [List.length_set]; exact f4.2
    have f4 := np f4.1 (fun _ z => nomatch z)
    have len := h.len
    have hh := h.hh
    rw [← List.length_set (as := s.fr) (i := j) (a := some { r with ks := ks })] at len hh
    exact ⟨⟨dx, np h1 (fun _ z => nomatch z)⟩, ⟨dx1, vs1, np f1 (fun _ z => nomatch z), np f2 (fun _ z => nomatch z), ly_ks hl f3 hr (fun i q hi hq => hds_ne m1 hr hq hi), f4, f5⟩, ⟨dx2, vs2, np g1 (fun _ z => nomatch z), np g2 (fun _ z => nomatch z), ly_hd hl g3 (fun q hq e => m3 r.hd (hds_mem.mpr ⟨r, List.mem_of_getElem? hr, rfl⟩) q.hd (hds_mem.mpr ⟨q, hq, rfl⟩) e.symm), np g4.1 (fun _ z => nomatch z), g4.2⟩, h.n4, bx2, len, hh⟩
  | false =>
    have hr : s.sr[j]? = some (some r) := hr
    have g5 : s.ts.length = (s.sr.set j (some { r with ks := ks })).length := by rw [List.length_set]; exact g4.2
    have g4 := np g4.1 (fun _ z => nomatch z)
    have len := h.len
    rw [← List.length_set (as := s.sr) (i := j) (a := some { r with ks := ks })] at len
    exact ⟨⟨dx, np h1 (fun _ z => nomatch z)⟩, ⟨dx1, vs1, np f1 (fun _ z => nomatch z), np f2 (fun _ z => nomatch z), ly_hd hl f3 (fun q hq e => m3 q.hd (hds_mem.mpr ⟨q, hq, rfl⟩) r.hd (hds_mem.mpr ⟨r, List.mem_of_getElem? hr, rfl⟩) e), np f4.1 (fun _ z => nomatch z), f4.2⟩, ⟨dx2, vs2, np g1 (fun _ z => nomatch z), np g2 (fun _ z => nomatch z), ly_ks hl g3 hr (fun i q hi hq => hds_ne m2 hr hq hi), g4, g5⟩, h.n4, bx2, len, h.hh⟩
theorem put_put {s : St} {f : Bool} {j : Nat} {a b : Option Sh} : (s.put f j a).put f j b = s.put f j b := by
  cases f with
  | true => show St.mk ((s.fr.set j a).set j b) s.sr s.h s.go s.ga s.cb s.tf s.ts = St.mk (s.fr.set j b) s.sr s.h s.go s.ga s.cb s.tf s.ts; rw [List.set_set]
  | false => show St.mk s.fr ((s.sr.set j a).set j b) s.h s.go s.ga s.cb s.tf s.ts = St.mk s.fr (s.sr.set j b) s.h s.go s.ga s.cb s.tf s.ts; rw [List.set_set]
theorem Tw.put {s : St} {f : Bool} {j : Nat} {r r' : Sh} (h : Tw s) (hr : (s.rw f)[j]? = some (some r)) : Tw (s.put f j (some r')) := by
  cases f with
  | true => exact ⟨h.there, h.back, fun a b hab => by
      show ∃ q, (s.fr.set j (some r'))[a]? = some (some q)
      obtain ⟨q, hq⟩ := h.full a b hab
      rw [List.getElem?_set]
      split
      · rename_i e
        subst e
        rw [if_pos (List.getElem?_eq_some_iff.mp hq).1]
        exact ⟨_, rfl⟩
      · exact ⟨q, hq⟩, h.bare⟩
  | false => exact ⟨h.there, h.back, h.full, fun a b hab => by
      show (s.sr.set j (some r'))[b]? = some none
      have hb := h.bare a b hab
      rw [List.getElem?_set, if_neg (fun e => ?_)]
      · exact hb
      · subst e
        have hr : s.sr[j]? = some (some r) := hr
        rw [hb] at hr; cases hr⟩
theorem rw_put {s : St} {f : Bool} {j : Nat} {a : Option Sh} : ((s.put f j a).rw f).length = (s.rw f).length := by
  cases f with
  | true => exact List.length_set
  | false => exact List.length_set
def offK (ks : List (List Key)) (k : List Key) : List (List Key) := ks.filter fun x => decide (x ≠ k)
theorem drop_ks {ks : List (List Key)} {k : List Key} : dropK (ksD ks) k = ksD (offK ks k) := by
  unfold dropK ksD offK
  rw [List.filter_map]
  rfl
theorem val_ks {ks : List (List Key)} {k : List Key} (h : k ∈ ks) : valV (ksD ks) k = some (.bl true) := by
  induction ks with
  | nil => cases h
  | cons x r ih =>
    show valV ((x, V.bl true) :: ksD r) k = _
    by_cases c : x = k
    · exact valV_pos c
    · rw [valV_neg c]
      rcases List.mem_cons.mp h with e | e
      · exact absurd e.symm c
      · exact ih e

def als (rows : List (Option Sh)) : List Sh := rows.filterMap id
theorem als_app {a b : List (Option Sh)} : als (a ++ b) = als a ++ als b := by unfold als; rw [List.filterMap_append]
theorem als_mem {rows : List (Option Sh)} {r : Sh} : r ∈ als rows ↔ some r ∈ rows := by
  unfold als
  rw [List.mem_filterMap]
  exact ⟨fun ⟨_, h, e⟩ => by rw [← show _ = some r from e]; exact h, fun h => ⟨_, h, rfl⟩⟩
theorem als_fill : ∀ {rows : List (Option Sh)} {j : Nat} {r : Sh}, rows[j]? = some none → (als (rows.set j (some r))).Perm (r :: als rows) := by
  intro rows
  induction rows with
  | nil => intro j r h; simp at h
  | cons x l ih =>
    intro j r h
    cases j with
    | zero =>
      simp at h
      subst h
      exact List.Perm.refl _
    | succ j =>
      have := ih (j := j) (r := r) (by simpa using h)
      cases x with
      | none => exact this
      | some y => exact (List.Perm.cons y this).trans (List.Perm.swap ..)
theorem als_take {rows : List (Option Sh)} {j : Nat} {q : Sh} (h : rows[j]? = some (some q)) : (als rows).Perm (q :: als (rows.set j none)) := by
  obtain ⟨h1, h2⟩ := List.getElem?_eq_some_iff.mp h
  have := als_fill (rows := rows.set j none) (j := j) (r := q) (by rw [List.getElem?_set_self h1])
  rw [List.set_set, ← h2, List.set_getElem_self] at this
  exact this
theorem als_swap {fr sr : List (Option Sh)} {i j : Nat} {q c : Sh} (hq : fr[i]? = some (some q)) (hc : sr[j]? = some (some c)) : (als (fr.set i (some c) ++ sr.set j (some q))).Perm (als (fr ++ sr)) := by
  rw [als_app, als_app]
  have a1 := als_fill (rows := fr.set i none) (j := i) (r := c) (List.getElem?_set_self (List.getElem?_eq_some_iff.mp hq).1)
  have a2 := als_fill (rows := sr.set j none) (j := j) (r := q) (List.getElem?_set_self (List.getElem?_eq_some_iff.mp hc).1)
  rw [List.set_set] at a1 a2
  refine (a1.append a2).trans (List.Perm.trans ?_ ((als_take hq).append (als_take hc)).symm)
  exact (List.Perm.cons _ List.perm_middle).trans ((List.Perm.swap ..).trans (List.Perm.cons _ List.perm_middle.symm))
theorem als_move {fr sr : List (Option Sh)} {i j : Nat} {c : Sh} (hi : fr[i]? = some none) (hc : sr[j]? = some (some c)) : (als (fr.set i (some c) ++ sr.set j none)).Perm (als (fr ++ sr)) := by
  rw [als_app, als_app]
  refine ((als_fill hi).append_right _).trans (List.Perm.trans ?_ ((als_take hc).append_left _).symm)
  exact List.perm_middle.symm
def alS (s : St) : List Sh := als (s.fr ++ s.sr)
def Bx (s : St) : Prop := ((alS s).map Sh.bx).Nodup
theorem alS_mem {s : St} {r : Sh} : r ∈ alS s ↔ some r ∈ s.fr ∨ some r ∈ s.sr := by unfold alS; rw [als_mem, List.mem_append]
theorem Ffr.als {s s1 : St} {c : Option Nat} {ms : List Bool} {i : Nat} {ps : List Int} {out : Option (Nat × Sh)} (h : Ffr s c ms s1 i ps out) (hn : ∀ j q, out = some (j, q) → s.sr[j]? = some none) : (alS s1).Perm (alS s) := by
  rcases h with ⟨h1, rfl, _, rfl⟩ | ⟨h1, q, j, hsw, hq, hsf, hj, rfl, rfl⟩
  · exact List.Perm.refl _
  · obtain ⟨e1, e2, _⟩ := outS_eq (s := { s with h := (i + 1) % s.fr.length }) (i := i) (j := j) (r := q)
    unfold alS
    rw [e1, e2, als_app, als_app]
    refine ((List.Perm.refl _).append (als_fill (hn j q rfl))).trans ?_
    exact List.perm_middle.trans ((als_take hq).symm.append_right _)
theorem Ffr.alsF {s s1 : St} {ms : List Bool} {i : Nat} {ps : List Int} {out : Option (Nat × Sh)} {r : Sh} (h : Ffr s none ms s1 i ps out) (hT : Tw s) : (alS { s1 with fr := s1.fr.set i (some r) }).Perm (r :: alS s) := by
  obtain ⟨f1, _⟩ := h.facts hT
  have f2 := h.als fun j q e => by
    rcases h with ⟨_, _, _, rfl⟩ | ⟨_, q2, j2, _, _, hsf, _, _, rfl⟩
    · cases e
    · cases e
      rcases slotF_at hT hsf with h | ⟨h, _⟩
      · exact h
      · cases h
  refine List.Perm.trans ?_ (List.Perm.cons r f2)
  unfold alS
  show (Pf.als (s1.fr.set i (some r) ++ s1.sr)).Perm _
  rw [als_app, als_app]
  exact (als_fill f1).append_right _
theorem Ffr.alsB {s s1 : St} {ms : List Bool} {i j : Nat} {ps : List Int} {out : Option (Nat × Sh)} {c : Sh} (h : Ffr s (some j) ms s1 i ps out) (hT : Tw s) (hc : s.sr[j]? = some (some c)) : (alS (bckS s1 i j c out)).Perm (alS s) := by
  obtain ⟨b1, b2, _⟩ := bck_eq (s1 := s1) (i := i) (j := j) (c := c) (out := out)
  obtain ⟨f1, _⟩ := h.facts hT
  rcases h.slot hT hc with ⟨h1, q, h2, h3, h4⟩ | ⟨h1, h2, h3⟩
  · rw [if_pos h1] at b2
    unfold alS
    rw [b1, b2, h3, h4, List.set_set]
    exact als_swap h2 hc
  · rw [if_neg h1] at b2
    unfold alS
    rw [b1, b2]
    exact (als_move f1 h2).trans (h.als h3)
theorem ly_bx {S : Addr} {H : Hp} {r : Sh} {us : List V} {bs : List Int} (hl : H r.bx = some (.lst us)) {vs : List V} {rows : List (Option Sh)} (h : LyAt S H vs rows) : ∀ {j : Nat}, rows[j]? = some (some r) → (∀ (i : Nat) q, i ≠ j → rows[i]? = some (some q) → q.bx ≠ r.bx) → LyAt S (upd H r.bx (.lst (bs.map V.int))) vs (rows.set j (some { r with b := bs })) := by
  induction h with
  | nil => intro j h _; simp at h
  | @cons x y xs ys h t ih =>
    intro j hj hb
    cases j with
    | zero =>
      simp at hj
      subst hj
      obtain ⟨e, ⟨dx, h1⟩, h2, h3⟩ := h
      refine .cons ⟨e, ⟨dx, by rw [upd_ne (ne_of h1 hl (fun z => nomatch z))]; exact h1⟩, upd_same, by rw [upd_ne (ne_of h3 hl (fun z => nomatch z))]; exact h3⟩ (ly_upd hl t fun q hq => ?_)
      obtain ⟨i, hi⟩ := List.mem_iff_getElem?.mp hq
      exact hb (i + 1) q (by omega) (by simpa using hi)
    | succ j =>
      refine .cons (sh_upd hl h fun q e => hb 0 q (by omega) (by rw [e]; rfl)) (ih (by simpa using hj) fun i q hi hq => hb (i + 1) q (by omega) (by simpa using hq))
theorem als_get : ∀ {rows : List (Option Sh)} {i j : Nat} {q r : Sh}, ((als rows).map Sh.bx).Nodup → rows[j]? = some (some r) → rows[i]? = some (some q) → i ≠ j → q.bx ≠ r.bx
  | [], i, j, q, r, _, h, _, _ => by simp at h
  | x :: l, i, j, q, r, nd, h1, h2, hij => by
    have nl : ((als l).map Sh.bx).Nodup := by
      cases x with
      | none => exact nd
      | some y => exact (List.nodup_cons.mp nd).2
    cases j with
    | zero =>
      cases i with
      | zero => exact absurd rfl hij
      | succ i =>
        simp at h1 h2
        subst h1
        exact fun e => (List.nodup_cons.mp nd).1 (List.mem_map.mpr ⟨q, als_mem.mpr (List.mem_of_getElem? h2), e⟩)
    | succ j =>
      cases i with
      | zero =>
        simp at h1 h2
        subst h2
        exact fun e => (List.nodup_cons.mp nd).1 (List.mem_map.mpr ⟨r, als_mem.mpr (List.mem_of_getElem? h1), e.symm⟩)
      | succ i => exact als_get nl (by simpa using h1) (by simpa using h2) (by omega)
theorem SsAt.wr {C P S : Addr} {H : Hp} {z : Ss} {s : St} {j : Nat} {r : Sh} {bs : List Int} (h : SsAt C P S H z s) (hB : Bx s) (hr : s.fr[j]? = some (some r)) (hl : H r.bx = some (.lst (r.b.map V.int))) : SsAt C P S (upd H r.bx (.lst (bs.map V.int))) z (s.put true j (some { r with b := bs })) := by
  obtain ⟨dx, h1⟩ := h.me
  obtain ⟨dx1, vs1, f1, f2, f3, f4, f5⟩ := id h.fr
  obtain ⟨dx2, vs2, g1, g2, g3, g4, g5⟩ := id h.sl
  have hbr := h.bx r (.inl (List.mem_of_getElem? hr))
  unfold Bx alS at hB
  rw [als_app, List.map_append] at hB
  obtain ⟨m1, m2, m3⟩ := List.nodup_append.mp hB
  have ni : ∀ {c D dx fs}, H c = some (.ins D dx fs) → upd H r.bx (.lst (bs.map V.int)) c = some (.ins D dx fs) := fun hc => by rw [upd_ne (ne_of hc hl (fun z => nomatch z))]; exact hc
  have nf : ∀ {c o}, H c = some o → c ∈ z.four → upd H r.bx (.lst (bs.map V.int)) c = some o := fun hc hn => by rw [upd_ne (fun e => hbr (by rw [← e]; exact hn))]; exact hc
  have len := h.len
  have hh := h.hh
  rw [← List.length_set (as := s.fr) (i := j) (a := some { r with b := bs })] at len hh f5
  exact ⟨⟨dx, ni h1⟩, ⟨dx1, vs1, ni f1, nf f2 (la_four (f := true)), ly_bx hl f3 hr (fun i q hi hq => als_get m1 hr hq hi), nf f4 (ta_four (f := true)), f5⟩, ⟨dx2, vs2, ni g1, nf g2 (la_four (f := false)), ly_upd hl g3 (fun q hq e => m3 r.bx (List.mem_map.mpr ⟨r, als_mem.mpr (List.mem_of_getElem? hr), rfl⟩) q.bx (List.mem_map.mpr ⟨q, als_mem.mpr hq, rfl⟩) e.symm), nf g4 (ta_four (f := false)), g5⟩, h.n4, fun q hq => (mem_put hq).elim (fun e => by cases e; exact hbr) (h.bx q), len, hh⟩
def wrS (s : St) (i : Nat) (r : Sh) (k : Nat) (x : Int) : St := untie (s.put true i (some { r with b := r.b.set k x })) i
def Kb (z : Ss) (b : Addr) (H H' : Hp) : Prop := ∀ c o, H c = some o → c ≠ z.p → c ∉ z.four → c ≠ b → H' c = some o
def sp_setb (C P S : Addr) : Sp := fun vs H Q _ => ∃ (z : Ss) (s : St) (i k : Nat) (r : Sh) (x : Int), vs = [.ref z.p, .int i, .int k, .int x] ∧ SsAt C P S H z s ∧ Tw s ∧ Bx s ∧ s.fr[i]? = some (some r) ∧ k < r.b.length ∧ ∀ H', SsAt C P S H' z (wrS s i r k x) → Kb z r.bx H H' → Q .non H'
theorem h_setb (T : Txt K mg A) : HaveM P w K mg base A.C_Sheets "set_box" 2 ["self", "frame", "box", "value"] [] (sp_setb A.C_Sheets A.C_Spots A.C_Sheet) := by
  have H_Sheets_lose_twin := h_lose (P := P) (w := w) (base := base) T
  refine T.r_Sheets_set_box.have sc_Sheets_set_box (fun vs H Q E z => ?_) ?_
  · obtain ⟨z, s, i, k, r, x, rfl, _⟩ := z; rfl
  · intro f cdv A' outer s H vs Q E hr z
    obtain ⟨z, s, i, k, r, x, rfl, hS, hT, hB, hri, hk, q⟩ := z
    obtain ⟨dx, h1⟩ := hS.me
    obtain ⟨dx1, vs1, f1, f2, f3, f4, f5⟩ := id hS.fr
    obtain ⟨v1, hv1, rfl, ⟨dxr, g1⟩, g2, g3⟩ := prd_get2 f3 hri
    have hil := (List.getElem?_eq_some_iff.mp hri).1
    refine ⟨_, (pss_cons (ps_asg (pvM 3) (pg_sub (pe_fld (pe_ix ix_list (pe_fld (pe_fld (pvM 0) rfl) rfl) (pvM 1) (fun _ _ => rfl)) rfl) (pvM 2) set_list))
      (pss_one (ps_expr (pe_methE (pvM 0) T.cl_Sheets H_Sheets_lose_twin (hr.mono (by decide)) xw_def (pa_cons (pvM 1) pa_nil))))), ?_⟩
    walk_at "wp"
    simp only [h1]
    walk_at "wp"
    refine ⟨T.cl_Sheets, T.na_Sheets_frames, _, ssF_frames, z.fp, rfl, _, dx1, _, f1, T.cl_Spots, T.na_Spots_lying, _, spF_lying, z.ly, rfl, _, SqL.of f2, _, atI_nat hv1, r.sh, rfl, _, dxr, _, g1, T.cl_Sheet, T.na_Sheet_boxes, _, shF_boxes, r.bx, rfl, _, g2, k, ixn (by rw [List.length_map]; exact hk), ?_⟩
    have S1 := hS.wr (bs := r.b.set k x) hB hri g2
    rw [← List.map_set]
    have k1 : Kb z r.bx H (upd H r.bx (.lst ((r.b.set k x).map V.int))) := fun c o hc _ _ hn => by rw [upd_ne hn]; exact hc
    generalize upd H r.bx _ = G at *
    obtain ⟨dx9, h9⟩ := S1.me
    have hln := hS.lens
    refine ⟨dx9, _, h9, ssF_no (by decide +kernel), z, _, i, rfl, S1, by show i < (s.fr.set i _).length; rw [List.length_set]; exact hil, fun j hj => ?_, fun H' a1 a2 a3 => q H' a1 fun c o hc n1 n2 n3 => a2 c o (k1 c o hc n1 n2 n3) n1 n2⟩
    have := (List.getElem?_eq_some_iff.mp (hT.there i j hj)).1
    show j < s.sr.length
    omega

theorem untie_some {s : St} {i j : Nat} (h : s.tf[i]? = some (some j)) : untie s i = (s.tie true i none).tie false j none := by unfold untie; rw [h]
theorem untie_none {s : St} {i : Nat} (h : ∀ j, s.tf[i]? ≠ some (some j)) : untie s i = s := by
  unfold untie
  split
  · rename_i j e; exact absurd e (h j)
  · rfl
theorem Tw.untie {s : St} {i : Nat} (h : Tw s) : Tw (Pf.untie s i) := by
  cases e : s.tf[i]? with
  | none => rw [untie_none (fun j z => by rw [e] at z; cases z)]; exact h
  | some o =>
    cases o with
    | none => rw [untie_none (fun j z => by rw [e] at z; cases z)]; exact h
    | some j =>
      have hj := h.there i j e
      rw [untie_some e]
      refine ⟨fun a b hab => ?_, fun a b hab => ?_, fun a b hab => ?_, fun a b hab => ?_⟩
      · have hab : (s.tf.set i none)[a]? = some (some b) := hab
        show (s.ts.set j none)[b]? = some (some a)
        obtain ⟨z1, z2⟩ := msn.mp hab
        have := h.there a b z1
        refine msn.mpr ⟨this, fun eb => z2 ?_⟩
        rw [eb, hj] at this
        exact (Option.some.inj (Option.some.inj this)).symm
      · have hab : (s.ts.set j none)[b]? = some (some a) := hab
        show (s.tf.set i none)[a]? = some (some b)
        obtain ⟨z1, z2⟩ := msn.mp hab
        have := h.back a b z1
        refine msn.mpr ⟨this, fun ea => z2 ?_⟩
        rw [ea, e] at this
        exact (Option.some.inj (Option.some.inj this)).symm
      · exact h.full a b (msn.mp (show (s.tf.set i none)[a]? = some (some b) from hab)).1
      · exact h.bare a b (msn.mp (show (s.ts.set j none)[b]? = some (some a) from hab)).1
theorem Ap.untie {s : St} {i : Nat} (h : Ap s) : Ap (Pf.untie s i) := by unfold Ap; rw [untie_eq.1, untie_eq.2.1]; exact h
theorem Bx.untie {s : St} {i : Nat} (h : Bx s) : Bx (Pf.untie s i) := by unfold Bx alS; rw [untie_eq.1, untie_eq.2.1]; exact h
theorem als_put {rows : List (Option Sh)} {i : Nat} {r r' : Sh} (h : rows[i]? = some (some r)) : (als (rows.set i (some r'))).Perm (r' :: als (rows.set i none)) := by
  have := als_fill (rows := rows.set i none) (j := i) (r := r') (List.getElem?_set_self (List.getElem?_eq_some_iff.mp h).1)
  rw [List.set_set] at this
  exact this
theorem bx_put {s : St} {f : Bool} {i : Nat} {r r' : Sh} (h : Bx s) (hr : (s.rw f)[i]? = some (some r)) (e : r'.bx = r.bx) : Bx (s.put f i (some r')) := by
  have go : ∀ {rows : List (Option Sh)}, rows[i]? = some (some r) → ((als (rows.set i (some r'))).map Sh.bx).Perm ((als rows).map Sh.bx) := fun hr => by
    refine ((als_put hr).map Sh.bx).trans (List.Perm.trans ?_ ((als_take hr).map Sh.bx).symm)
    rw [List.map_cons, List.map_cons, e]
  unfold Bx alS at *
  rw [als_app, List.map_append] at h
  cases f with
  | true =>
    show ((als (s.fr.set i (some r') ++ s.sr)).map Sh.bx).Nodup
    rw [als_app, List.map_append]
    exact ((go hr).append_right _).nodup_iff.mpr h
  | false =>
    show ((als (s.fr ++ s.sr.set i (some r'))).map Sh.bx).Nodup
    rw [als_app, List.map_append]
    exact ((go hr).append_left _).nodup_iff.mpr h

def emptS (s : St) (f : Bool) (j : Nat) : St := if f = true then untie (s.put true j none) j else s.put false j none
def Kg (z : Ss) (d : Addr) (H H' : Hp) : Prop := ∀ c o, H c = some o → c ≠ z.p → c ∉ z.four → c ≠ d → H' c = some o
theorem ap_empt {s : St} {f : Bool} {j : Nat} (h : Ap s) : Ap (emptS s f j) := by
  cases f with
  | true => exact (ap_none (f := true) h).untie
  | false => exact ap_none (f := false) h
theorem Tw.empt {s : St} {f : Bool} {j : Nat} {r : Sh} (h : Tw s) (hr : (s.rw f)[j]? = some (some r)) : Tw (emptS s f j) := by
  cases f with
  | true =>
    show Tw (Pf.untie (s.put true j none) j)
    have go : ∀ t u : List (Option Nat), (∀ a b : Nat, t[a]? = some (some b) → s.tf[a]? = some (some b) ∧ a ≠ j) → (∀ a b : Nat, u[b]? = some (some a) → s.ts[b]? = some (some a)) → (∀ a b : Nat, t[a]? = some (some b) → u[b]? = some (some a)) → (∀ a b : Nat, u[b]? = some (some a) → t[a]? = some (some b)) → Tw { s with fr := s.fr.set j none, tf := t, ts := u } := fun t u h1 h2 h3 h4 => ⟨h3, h4, fun a b hab => by
      obtain ⟨x1, x2⟩ := h1 a b hab
      show ∃ q, (s.fr.set j none)[a]? = some (some q)
      rw [List.getElem?_set, if_neg (Ne.symm x2)]
      exact h.full a b x1, fun a b hab => h.bare a b (h2 a b hab)⟩
    cases e : s.tf[j]? with
    | none =>
      rw [untie_none (fun k z => by have z : s.tf[j]? = some (some k) := z; rw [e] at z; cases z)]
      exact go s.tf s.ts (fun a b x => ⟨x, fun z => by rw [z, e] at x; cases x⟩) (fun _ _ x => x) h.there h.back
    | some o =>
      cases o with
      | none =>
        rw [untie_none (fun k z => by have z : s.tf[j]? = some (some k) := z; rw [e] at z; cases z)]
        exact go s.tf s.ts (fun a b x => ⟨x, fun z => by rw [z, e] at x; cases x⟩) (fun _ _ x => x) h.there h.back
      | some k =>
        rw [untie_some (show (s.put true j none).tf[j]? = some (some k) from e)]
        have hk := h.there j k e
        refine go (s.tf.set j none) (s.ts.set k none) (fun a b x => msn.mp x) (fun a b x => (msn.mp x).1) (fun a b x => ?_) (fun a b x => ?_)
        · obtain ⟨x1, x2⟩ := msn.mp x
          have y := h.there a b x1
          refine msn.mpr ⟨y, fun z => x2 ?_⟩
          rw [z, hk] at y
          exact (Option.some.inj (Option.some.inj y)).symm
        · obtain ⟨x1, x2⟩ := msn.mp x
          have y := h.back a b x1
          refine msn.mpr ⟨y, fun z => x2 ?_⟩
          rw [z, e] at y
          exact (Option.some.inj (Option.some.inj y)).symm
  | false =>
    refine ⟨h.there, h.back, h.full, fun a b hab => ?_⟩
    have hb := h.bare a b hab
    show (s.sr.set j none)[b]? = some none
    rw [List.getElem?_set]
    split
    · rename_i e; subst e; rw [if_pos (List.getElem?_eq_some_iff.mp hb).1]
    · exact hb
def sp_me (C P S : Addr) : Sp := fun vs H Q _ => ∃ (z : Ss) (s : St) (t : Addr) (f : Bool) (j : Nat), vs = [.ref z.p, .ref t] ∧ SsAt C P S H z s ∧ H t = some (.tup [.str (nmS f), .int j]) ∧ j < (s.rw f).length ∧ (∀ k, s.tf[j]? = some (some k) → k < s.sr.length) ∧ ∀ H', SsAt C P S H' z (emptS s f j) → Ks z H H' → Q .non H'
theorem h_me (T : Txt K mg A) : HaveM P w K mg base A.C_Sheets "make_empty" 2 ["self", "spot"] [] (sp_me A.C_Sheets A.C_Spots A.C_Sheet) := by
  have H_Sheets_lose_twin := h_lose (P := P) (w := w) (base := base) T
  refine T.r_Sheets_make_empty.have sc_Sheets_make_empty (fun vs H Q E z => ?_) ?_
  · obtain ⟨z, s, t, f, j, rfl, _⟩ := z; rfl
  · intro f cdv A' outer s H vs Q E hr z
    obtain ⟨z, s, t, f, j, rfl, hS, ht, hj, htw, q⟩ := z
    obtain ⟨dx, h1⟩ := hS.me
    refine ⟨_, (pss_one (ps_if (pt_cmpR op_eq (pe_ix ix_tup (pvM 1) pe_int (fun _ _ => rfl)) pe_str (nomark _)) (pss_cons (ps_asg pe_non (pg_sub (pe_fld (pe_fld (pvM 0) rfl) rfl) (pe_ix ix_tup (pvM 1) pe_int (fun _ _ => rfl)) set_list))
      (pss_one (ps_expr (pe_methE (pvM 0) T.cl_Sheets H_Sheets_lose_twin (hr.mono (by decide)) xw_def (pa_cons (pe_ix ix_tup (pvM 1) pe_int (fun _ _ => rfl)) pa_nil))))) (pss_one (ps_asg pe_non (pg_sub (pe_fld (pe_fld (pvM 0) rfl) rfl) (pe_ix ix_tup (pvM 1) pe_int (fun _ _ => rfl)) set_list))))), ?_⟩
    walk_at "wp"
    simp only [h1]
    walk_at "wp"
    obtain ⟨dx1, vs1, f1, f2, f3, f4⟩ := id hS.fr
    obtain ⟨dx2, vs2, g1, g2, g3, g4⟩ := id hS.sl
    have l1 := Paired.length f3
    have l2 := Paired.length g3
    refine ⟨_, SqT.of ht, _, rfl, rfl, ?_⟩
    cases f with
    | true =>
      rw [if_pos (show V.str (nmS true) = V.str (Str.ofString "frame") from rfl)]
      have hj : j < s.fr.length := hj
      have hS2 := hS.set (f := true) (j := j) (r := none) f2 rfl (fun q e => nomatch e)
      obtain ⟨dx9, h9⟩ := hS2.me
      have ht2 : upd H z.ly (.lst (vs1.set j .non)) t = some (.tup [.str (nmS true), .int (j : Int)]) := by rw [upd_ne (ne_of ht f2 (fun z => nomatch z))]; exact ht
      refine ⟨T.cl_Sheets, T.na_Sheets_frames, _, ssF_frames, z.fp, rfl, _, dx1, _, f1, T.cl_Spots, T.na_Spots_lying, _, spF_lying, _, SqT.of ht, _, rfl, z.ly, rfl, vs1, j, rfl, f2, j, ixn (by rw [l1]; exact hj), dx9, _, h9, ssF_no (by decide +kernel), _, SqT.of ht2, _, rfl, z, _, j, rfl, hS2, by show j < (s.fr.set j none).length; rw [List.length_set]; exact hj, htw, fun H' a1 a2 a3 => q _ a1 ((ks_la (f := true) (Ks.of same_refl)).trans a2)⟩
    | false =>
      rw [if_neg (by decide +kernel)]
      have hj : j < s.sr.length := hj
      have hS2 := hS.set (f := false) (j := j) (r := none) g2 rfl (fun q e => nomatch e)
      exact ⟨T.cl_Sheets, T.na_Sheets_slots, _, ssF_slots, z.sq, rfl, _, dx2, _, g1, T.cl_Spots, T.na_Spots_lying, _, spF_lying, _, SqT.of ht, _, rfl, z.ls, rfl, vs2, j, rfl, g2, j, ixn (by rw [l2]; exact hj), q _ hS2 (ks_la (f := false) (Ks.of same_refl))⟩
def gone (s : St) (f : Bool) (j : Nat) (r : Sh) (k : List Key) : St := if offK r.ks k = [] then emptS s f j else s.put f j (some { r with ks := offK r.ks k })
def sp_lg (C P S : Addr) : Sp := fun vs H Q _ => ∃ (z : Ss) (s : St) (t h : Addr) (f : Bool) (j : Nat) (r : Sh) (k : List Key), vs = [.ref z.p, .ref t, .ref h] ∧ SsAt C P S H z s ∧ Ap s ∧ Tw s ∧ H t = some (.tup [.str (nmS f), .int j]) ∧ (s.rw f)[j]? = some (some r) ∧ H h = some (.tup (k.map kV)) ∧ k ∈ r.ks ∧
  ∀ H', SsAt C P S H' z (gone s f j r k) → Ap (gone s f j r k) → Tw (gone s f j r k) → Kg z r.hd H H' → (∀ c, H' c = none → H c = none) → Q .non H'
theorem h_lg (T : Txt K mg A) : HaveM P w K mg base A.C_Sheets "let_go" 3 ["self", "spot", "holder"] [] (sp_lg A.C_Sheets A.C_Spots A.C_Sheet) := by
  have H_Sheets_lying_at := h_la (P := P) (w := w) (base := base) T
  have H_Sheets_make_empty := h_me (P := P) (w := w) (base := base) T
  refine T.r_Sheets_let_go.have sc_Sheets_let_go (fun vs H Q E z => ?_) ?_
  · obtain ⟨z, s, t, h, f, j, r, k, rfl, _⟩ := z; rfl
  · intro f cdv A' outer s H vs Q E hr z
    obtain ⟨z, s, t, h, f, j, r, k, rfl, hS, hA, hT, ht, hrj, hh, hk, q⟩ := z
    obtain ⟨dx, h1⟩ := hS.me
    refine ⟨_, (pss_cons (ps_set (i := 3) sc_Sheets_let_go.nd rfl (Or.inl rfl) (pe_methE (pvM 0) T.cl_Sheets H_Sheets_lying_at (hr.mono (by decide)) xw_def (pa_cons (pvM 1) pa_nil)))
      (pss_cons (ps_expr (pe_dpopT (hu_of hr) (pe_fld (pvM 3) rfl) (pvM 2) ⟨rfl, rfl, rfl, rfl⟩))
      (pss_one (ps_if (pt_cmpR op_eq (pe_callB call_lenDT rfl T.b_len PySem.boot_len (pa_cons (pe_fld (pvM 3) rfl) pa_nil)) pe_int (nomark _)) (pss_one (ps_expr (pe_methE (pvM 0) T.cl_Sheets H_Sheets_make_empty (hr.mono (by decide)) xw_def (pa_cons (pvM 1) pa_nil)))) pss_nil)))), ?_⟩
    unfold sp_la tDPopT
    walk_at "wp"
    simp only [h1]
    walk_at "wp"
    refine ⟨ssF_no (by decide +kernel), z, rfl, s, hS, f, j, ht, _, hrj, fun v hv => ?_⟩
    obtain ⟨rfl, ⟨dx2, g1⟩, g2, g3⟩ := hv
    have hS2 := hS.ks (ks := offK r.ks k) hA hrj g3
    have np : ∀ {c o}, H c = some o → (∀ us, o ≠ .dT us) → upd H r.hd (.dT (ksD (offK r.ks k))) c = some o := fun {c o} hc ho => by rw [upd_ne (fun z => by rw [z, g3] at hc; exact ho _ (Option.some.inj hc).symm)]; exact hc
    have k2 : Kg z r.hd H (upd H r.hd (.dT (ksD (offK r.ks k)))) := fun c o hc _ _ hn => by rw [upd_ne hn]; exact hc
    have d2 : ∀ c, upd H r.hd (.dT (ksD (offK r.ks k))) c = none → H c = none := fun c hc => by
      by_cases e : c = r.hd
      · rw [e, upd_same] at hc; cases hc
      · rw [upd_ne e] at hc; exact hc
    have hln := hS.lens
    have htw : ∀ x, s.tf[j]? = some (some x) → x < s.sr.length := fun x hx => by have := (List.getElem?_eq_some_iff.mp (hT.there j x hx)).1; omega
    refine ⟨r.sh, rfl, _, dx2, _, g1, T.cl_Sheet, T.na_Sheet_holders, _, shF_holders, r.hd, rfl, .inr ⟨_, .inl g3⟩, _, g3, k, hh, .bl true, val_ks hk, ?_⟩
    rw [drop_ks]
    refine ⟨r.sh, rfl, _, dx2, _, np g1 (fun _ z => nomatch z), T.cl_Sheet, T.na_Sheet_holders, _, shF_holders, r.hd, rfl, _, upd_same, ?_⟩
    have hA2 := ap_ks (r' := { r with ks := offK r.ks k }) hA hrj rfl
    have ht2 := np ht (fun _ z => nomatch z)
    have hjl := (List.getElem?_eq_some_iff.mp hrj).1
    unfold gone at q
    by_cases c : offK r.ks k = []
    · rw [if_pos c] at q
      rw [c] at hS2 ht2 hA2 k2 d2 ⊢
      rw [if_pos (show (((ksD []).length : Nat) : Int) = 0 from rfl)]
      obtain ⟨dx9, h9⟩ := hS2.me
      refine ⟨dx9, _, h9, ssF_no (by decide +kernel), z, _, t, f, j, rfl, hS2, ht2, by rw [rw_put]; exact hjl, (by cases f with
        | true => exact htw
        | false =>
          intro x hx
          have := htw x hx
          show x < (s.sr.set j _).length
          rw [List.length_set]; exact this), fun H' hS3 k3 => ?_⟩
      have e9 : emptS (s.put f j (some { r with ks := offK r.ks k })) f j = emptS s f j := by
        cases f with
        | true => show untie ((s.put true j _).put true j none) j = untie (s.put true j none) j; rw [put_put]
        | false => show (s.put false j _).put false j none = s.put false j none; exact put_put
      rw [c] at e9
      have hS4 : SsAt A.C_Sheets A.C_Spots A.C_Sheet H' z (emptS s f j) := by rw [← e9]; exact hS3
      have k4 : Kg z r.hd H H' := fun c o hc h1 h2 h3 => k3 c o (k2 c o hc h1 h2 h3) h1 h2
      refine q H' hS4 (ap_empt hA) (hT.empt hrj) k4 fun c hc => ?_
      exact d2 c (k3.was hS2 hS3 hc)
    · rw [if_neg c] at q
      have hl0 : (ksD (offK r.ks k)).length = (offK r.ks k).length := by unfold ksD; rw [List.length_map]
      have := List.length_pos_iff.mpr c
      rw [if_neg (by omega)]
      exact q _ hS2 hA2 (hT.put hrj) k2 d2

def sp_sat (C P S : Addr) : Sp := fun vs H Q _ => ∃ (z : Ss) (s : St) (t : Addr) (f : Bool) (j : Nat) (r : Option Sh), vs = [.ref z.p, .ref t] ∧ SsAt C P S H z s ∧ H t = some (.tup [.str (nmS f), .int j]) ∧ (s.rw f)[j]? = some r ∧ (r = none → Q .non H) ∧ ∀ q, r = some q → ∀ l, H l = none → Q (.ref l) (upd H l (.lst (q.b.map V.int)))
theorem h_sat (T : Txt K mg A) : HaveM P w K mg base A.C_Sheets "sheet_at" 2 ["self", "spot"] [] (sp_sat A.C_Sheets A.C_Spots A.C_Sheet) := by
  have H_Sheets_lying_at := h_la (P := P) (w := w) (base := base) T
  refine T.r_Sheets_sheet_at.have sc_Sheets_sheet_at (fun vs H Q E z => ?_) ?_
  · obtain ⟨z, s, t, f, j, r, rfl, _⟩ := z; rfl
  · intro f cdv A' outer s H vs Q E hr z
    obtain ⟨z, s, t, f, j, r, rfl, hS, ht, hrj, q1, q2⟩ := z
    obtain ⟨dx, h1⟩ := hS.me
    refine ⟨_, (pss_cons (ps_set (i := 2) sc_Sheets_sheet_at.nd rfl (Or.inl rfl) (pe_methE (pvM 0) T.cl_Sheets H_Sheets_lying_at (hr.mono (by decide)) xw_def (pa_cons (pvM 1) pa_nil)))
      (pss_one (ps_ret (pe_ifExp (pt_cmpR op_isN (pvM 2) pe_non (nomark _)) pe_non (pe_callTy call_list_of rfl T.b_list PyProof.Rows.boot_list (pa_cons (pe_fld (pvM 2) rfl) pa_nil)))))), ?_⟩
    unfold sp_la
    walk_at "wp"
    simp only [h1]
    walk_at "wp"
    refine ⟨ssF_no (by decide +kernel), z, rfl, s, hS, f, j, ht, _, hrj, fun v hv => ?_⟩
    cases r with
    | none =>
      obtain rfl : v = .non := hv
      rw [if_pos rfl]
      exact q1 rfl
    | some r =>
      obtain ⟨rfl, ⟨dx2, g1⟩, g2, g3⟩ := hv
      rw [if_neg (fun z => nomatch z)]
      exact ⟨r.sh, rfl, _, dx2, _, g1, T.cl_Sheet, T.na_Sheet_boxes, _, shF_boxes, r.bx, rfl, _, .inl (SqL.of g2), q2 r rfl⟩
def sp_ho (C P S : Addr) : Sp := fun vs H Q _ => ∃ (z : Ss) (s : St) (t : Addr) (f : Bool) (j : Nat) (r : Option Sh), vs = [.ref z.p, .ref t] ∧ SsAt C P S H z s ∧ H t = some (.tup [.str (nmS f), .int j]) ∧ (s.rw f)[j]? = some r ∧ (∀ q, r = some q → Okh q) ∧ ∀ l H', H l = none → Same H H' → TdK H' l (match r with | none => [] | some q => srt q.ks) → Q (.ref l) H'
theorem h_ho (T : Txt K mg A) : HaveM P w K mg base A.C_Sheets "holders_of" 2 ["self", "spot"] [] (sp_ho A.C_Sheets A.C_Spots A.C_Sheet) := by
  have H_Sheets_lying_at := h_la (P := P) (w := w) (base := base) T
  have H_Sheet_told_holders := h_told (P := P) (w := w) (base := base) T
  refine T.r_Sheets_holders_of.have sc_Sheets_holders_of (fun vs H Q E z => ?_) ?_
  · obtain ⟨z, s, t, f, j, r, rfl, _⟩ := z; rfl
  · intro f cdv A' outer s H vs Q E hr z
    obtain ⟨z, s, t, f, j, r, rfl, hS, ht, hrj, hok, q⟩ := z
    obtain ⟨dx, h1⟩ := hS.me
    refine ⟨_, (pss_cons (ps_set (i := 2) sc_Sheets_holders_of.nd rfl (Or.inl rfl) (pe_methE (pvM 0) T.cl_Sheets H_Sheets_lying_at (hr.mono (by decide)) xw_def (pa_cons (pvM 1) pa_nil)))
      (pss_one (ps_ret (pe_ifExp (pt_cmpR op_isN (pvM 2) pe_non (nomark _)) (pe_lst pa_nil) (pe_methE0 (pvM 2) T.cl_Sheet H_Sheet_told_holders (hr.mono (by decide)) xw_def))))), ?_⟩
    unfold sp_la sp_told
    walk_at "wp"
    simp only [h1]
    walk_at "wp"
    refine ⟨ssF_no (by decide +kernel), z, rfl, s, hS, f, j, ht, _, hrj, fun v hv => ?_⟩
    cases r with
    | none =>
      obtain rfl : v = .non := hv
      rw [if_pos rfl]
      exact fun l hl => q l _ hl (same_upd same_refl hl) ⟨[], upd_same, .nil⟩
    | some r =>
      obtain ⟨rfl, ⟨dx2, g1⟩, g2, g3⟩ := id hv
      rw [if_neg (fun z => nomatch z)]
      exact ⟨r.sh, rfl, dx2, _, g1, shF_no (by decide +kernel), r, hv, hok r rfl, q⟩

abbrev Tr := List Int × List (List Key) × Option Nat
def tdF : Option Sh → Option Nat → Option Tr
  | none, _ => none
  | some r, o => some (r.b, srt r.ks, o)
def bOf (fr : List (Option Sh)) (i : Nat) : List Int := match fr[i]? with
  | some (some r) => r.b
  | _ => []
def tdS (fr : List (Option Sh)) : Option Sh → Option Nat → Option Tr
  | some r, _ => some (r.b, srt r.ks, none)
  | none, none => none
  | none, some i => some (bOf fr i, [], some i)
def tF (s : St) : List (Option Tr) := List.zipWith tdF s.fr s.tf
def tS (s : St) : List (Option Tr) := List.zipWith (tdS s.fr) s.sr s.ts
def RwT (H : Hp) (xs : List Addr) (v : V) : Option Tr → Prop
  | none => v = .non
  | some (b, ks, o) => ∃ t bl hl, v = .ref t ∧ H t = some (.tup [.ref bl, .ref hl, oV o]) ∧ H bl = some (.lst (b.map V.int)) ∧ TdK H hl ks ∧ bl ∉ xs ∧ hl ∉ xs
theorem RwT.keep {H H' : Hp} {xs : List Addr} (hx : ∀ x ∈ xs, ∃ us, H x = some (.lst us)) (k : ∀ c o, H c = some o → c ∉ xs → (∀ kvs, o ≠ .dT kvs) → H' c = some o) {v : V} : ∀ {r : Option Tr}, RwT H xs v r → RwT H' xs v r
  | none, h => h
  | some (_, _, _), ⟨t, bl, hl, e, h1, h2, ⟨us, h3, h4⟩, n1, n2⟩ => by
    have nt : ∀ {c us}, H c = some (.tup us) → c ∉ xs := fun {c us} hc z => by
      obtain ⟨vs, e⟩ := hx c z
      rw [hc] at e; cases e
    exact ⟨t, bl, hl, e, k _ _ h1 (nt h1) (fun _ z => nomatch z), k _ _ h2 n1 (fun _ z => nomatch z), ⟨us, k _ _ h3 n2 (fun _ z => nomatch z), Paired.mapP h4 fun _ _ ⟨a, e, q⟩ => ⟨a, e, k _ _ q (nt q) (fun _ z => nomatch z)⟩⟩, n1, n2⟩
def dvK (k : List Key) : Dv := .seq true (k.map fun x => .leaf (kV x))
def dvT (ks : List (List Key)) : Dv := .seq false (ks.map dvK)
def dvB (bs : List Int) : Dv := .seq false (bs.map fun x => .leaf (.int x))

def dvO : Option Nat → Dv
  | none => .leaf .non
  | some j => .leaf (.int (j : Int))
theorem lks_o {H : Hp} {o : Option Nat} : Lks H (dvO o) (oV o) := by
  cases o with
  | none => unfold dvO Lks; exact ⟨rfl, rfl⟩
  | some j => unfold dvO Lks; exact ⟨rfl, rfl⟩
def dvS : Option Tr → Dv
  | none => .leaf .non
  | some (b, ks, o) => .seq true [dvB b, dvT ks, dvO o]
theorem lks_ints {H : Hp} : ∀ {bs : List Int}, LksL H (bs.map fun x => .leaf (.int x)) (bs.map V.int)
  | [] => by unfold LksL; rfl
  | b :: bs => by
    rw [List.map_cons, List.map_cons]
    unfold LksL
    exact ⟨_, _, rfl, by unfold Lks; exact ⟨rfl, rfl⟩, lks_ints⟩
theorem lks_keys {H : Hp} : ∀ {k : List Key}, LksL H (k.map fun x => .leaf (kV x)) (k.map kV)
  | [] => by unfold LksL; rfl
  | b :: bs => by
    rw [List.map_cons, List.map_cons]
    unfold LksL
    exact ⟨_, _, rfl, by unfold Lks; exact ⟨rfl, by cases b <;> rfl⟩, lks_keys⟩

theorem lks_tdk {H : Hp} {l : Addr} {ks : List (List Key)} (h : TdK H l ks) (hl : ks.length ≤ 64) (hk : ∀ k ∈ ks, k.length ≤ 64) : Lks H (dvT ks) (.ref l) := by
  obtain ⟨us, h1, h2⟩ := h
  unfold dvT Lks
  refine ⟨l, us, rfl, h1, by rw [List.length_map]; omega, ?_⟩
  clear h1 hl
  induction h2 with
  | nil => rw [List.map_nil]; unfold LksL; rfl
  | @cons v k _ _ a t ih =>
    rw [List.map_cons]
    unfold LksL
    obtain ⟨b, rfl, hb⟩ := a
    refine ⟨_, _, rfl, ?_, ih fun k hk' => hk k (List.mem_cons_of_mem _ hk')⟩
    unfold dvK Lks
    exact ⟨b, _, rfl, hb, by rw [List.length_map]; have := hk k (List.mem_cons_self ..); omega, lks_keys⟩
theorem lks_b {H : Hp} {l : Addr} {bs : List Int} (h : H l = some (.lst (bs.map V.int))) (hl : bs.length ≤ 64) : Lks H (dvB bs) (.ref l) := by
  unfold dvB Lks
  exact ⟨l, _, rfl, h, by rw [List.length_map]; omega, lks_ints⟩

def Okm (r : Sh) : Prop := r.b.length ≤ 64 ∧ (srt r.ks).length ≤ 64 ∧ ∀ k ∈ srt r.ks, k.length ≤ 64
def Okt (r : Tr) : Prop := r.1.length ≤ 64 ∧ r.2.1.length ≤ 64 ∧ ∀ k ∈ r.2.1, k.length ≤ 64
theorem RwT.lks {H : Hp} {xs : List Addr} {v : V} : ∀ {r : Option Tr}, RwT H xs v r → (∀ s, r = some s → Okt s) → Lks H (dvS r) v
  | none, h, _ => by unfold dvS Lks; exact ⟨h, rfl⟩
  | some (b, ks, o), ⟨t, bl, hl, e, h1, h2, h3, n1, n2⟩, hb => by
    obtain ⟨b1, b2, b3⟩ := hb _ rfl
    unfold dvS Lks
    refine ⟨t, _, e, h1, by show (3 : Nat) < 16777216; decide, ?_⟩
    unfold LksL
    refine ⟨_, _, rfl, lks_b h2 b1, ?_⟩
    unfold LksL
    refine ⟨_, _, rfl, lks_tdk h3 b2 b3, ?_⟩
    unfold LksL
    exact ⟨_, _, rfl, lks_o, by unfold LksL; rfl⟩
theorem rws_lks {H : Hp} {xs : List Addr} {vs : List V} {rows : List (Option Tr)} (h : Paired (RwT H xs) vs rows) (ok : ∀ r, some r ∈ rows → Okt r) : LksL H (rows.map dvS) vs := by
  induction h with
  | nil => rw [List.map_nil]; unfold LksL; rfl
  | cons r t ih =>
    rw [List.map_cons]
    unfold LksL
    exact ⟨_, _, rfl, r.lks (fun s e => ok s (by rw [e]; exact List.mem_cons_self ..)), ih fun r hr => ok r (List.mem_cons_of_mem _ hr)⟩
def okS (rows : List (Option Sh)) : Prop := ∀ r, some r ∈ rows → Okh r ∧ Okm r
theorem zw_mem {α β γ : Type} {f : α → β → γ} : ∀ {as : List α} {bs : List β} {c : γ}, c ∈ List.zipWith f as bs → ∃ a b, a ∈ as ∧ b ∈ bs ∧ f a b = c
  | [], _, c, h => by simp at h
  | _ :: _, [], c, h => by simp at h
  | a :: as, b :: bs, c, h => by
    rw [List.zipWith_cons_cons] at h
    rcases List.mem_cons.mp h with e | h
    · exact ⟨a, b, List.mem_cons_self .., List.mem_cons_self .., e.symm⟩
    · obtain ⟨x, y, h1, h2, h3⟩ := zw_mem h
      exact ⟨x, y, List.mem_cons_of_mem _ h1, List.mem_cons_of_mem _ h2, h3⟩
theorem tF_ok {s : St} (ok : okS s.fr) {r : Tr} (h : some r ∈ tF s) : Okt r := by
  unfold tF at h
  obtain ⟨a, b, h1, _, h3⟩ := zw_mem h
  cases a with
  | none => cases h3
  | some q => cases h3; exact (ok q h1).2
theorem tS_ok {s : St} (ok0 : okS s.fr) (ok : okS s.sr) {r : Tr} (h : some r ∈ tS s) : Okt r := by
  unfold tS at h
  obtain ⟨a, b, h1, _, h3⟩ := zw_mem h
  cases a with
  | some q => cases h3; exact (ok q h1).2
  | none =>
    cases b with
    | none => cases h3
    | some i =>
      cases h3
      refine ⟨?_, Nat.zero_le _, fun k hk => by cases hk⟩
      show (bOf s.fr i).length ≤ 64
      unfold bOf
      split
      · rename_i q e
        exact (ok0 q (List.mem_of_getElem? e)).2.1
      · exact Nat.zero_le _
def sp_tf (C P S : Addr) : Sp := fun vs H Q _ => ∃ (z : Ss) (s : St), vs = [.ref z.p] ∧ SsAt C P S H z s ∧ okS s.fr ∧ ∀ H' l, Same H H' → H l = none → Lks H' (.seq false ((tF s).map dvS)) (.ref l) → Q (.ref l) H'
theorem h_tf (T : Txt K mg A) : HaveM P w K mg base A.C_Sheets "told_frames" 2 ["self"] [] (sp_tf A.C_Sheets A.C_Spots A.C_Sheet) := by
  have H_Sheet_told_holders := h_told (P := P) (w := w) (base := base) T
  refine T.r_Sheets_told_frames.have sc_Sheets_told_frames (fun vs H Q E z => ?_) ?_
  · obtain ⟨z, s, rfl, _⟩ := z; rfl
  · intro f cdv A' outer s H vs Q E hr z
    obtain ⟨z, s, rfl, hS, ok, q⟩ := z
    obtain ⟨dx, h1⟩ := hS.me
    obtain ⟨dx1, us, f1, f2, f3, f4, f5⟩ := id hS.fr
    have hlen : (tF s).length = s.fr.length := by unfold tF; rw [List.length_zipWith]; omega
    have hul := Paired.length f3
    refine ⟨_, (pss_cons (ps_set (i := 1) sc_Sheets_told_frames.nd rfl (Or.inl rfl) (pe_lst pa_nil))
      (pss_cons (ps_forE PassesOwn.leaving rfl (pi_enum rfl T.b_enumerate (pa_cons (pe_fld (pe_fld (pvM 0) rfl) rfl) pa_nil)) (pg_tup (n := 2) rfl (pgs_cons (pg_name (i := 2) sc_Sheets_told_frames.nd rfl (Or.inl rfl)) (pgs_cons (pg_name (i := 3) sc_Sheets_told_frames.nd rfl (Or.inl rfl)) pgs_nil))) (pss_one (ps_if (pt_cmpR op_isN (pvM 3) pe_non (nomark _)) (pss_one (ps_expr (pe_bm PySem.F.plainAttrs_list PySem.F.slot_list_append PySem.F.type_list_append mt_append (pvM 1) (pa_cons pe_non pa_nil)))) (pss_one (ps_expr (pe_bm PySem.F.plainAttrs_list PySem.F.slot_list_append PySem.F.type_list_append mt_append (pvM 1) (pa_cons (pe_tup (pa_cons (pe_callTy call_list_of rfl T.b_list PyProof.Rows.boot_list (pa_cons (pe_fld (pvM 3) rfl) pa_nil)) (pa_cons (pe_methE0 (pvM 3) T.cl_Sheet H_Sheet_told_holders (hr.mono (by decide)) xw_def) (pa_cons (pe_ix ix_list (pe_fld (pe_fld (pvM 0) rfl) rfl) (pvM 2) (fun _ _ => rfl)) pa_nil)))) pa_nil)))))))
      (pss_one (ps_ret (pvM 1))))), ?_⟩
    unfold sp_told
    walk_at "wp"
    intro tl htl
    have b1 := same_upd (o := .lst []) (same_refl (H := H)) htl
    refine ⟨_, dx, _, b1 _ _ h1, T.cl_Sheets, T.na_Sheets_frames, _, ssF_frames, z.fp, rfl, _, dx1, _, b1 _ _ f1, T.cl_Spots, T.na_Spots_lying, _, spF_lying, z.ly, rfl, ⟨_, SqL.of (b1 _ _ f2)⟩, loop_enum (xs := us) (fun i σ H' => ∃ ys v2 v3, σ = [some (.ref z.p), some (.ref tl), v2, v3] ∧ Same H H' ∧ H' tl = some (.lst ys) ∧ Paired (RwT H' [tl]) ys ((tF s).take i)) ⟨[], _, _, rfl, b1, upd_same, .nil⟩ (fun i σ H' _ ⟨_, _, _, _, e, _⟩ => SqL.of (e _ _ f2)) (fun i x tt σ H' hi => ?_) (fun σ H1 => ?_)⟩
    · rintro ⟨ys, v2, v3, rfl, s1, hy, hP⟩ htt
      obtain ⟨y, hy1, hy2⟩ := prd_get f3 hi
      have b2 := same_upd (o := .tup [V.int i, x]) (same_refl (H := H')) htt
      have htt' : upd H' tt (.tup [V.int i, x]) tt = some (.tup [V.int i, x]) := upd_same
      have hil : i < s.fr.length := (List.getElem?_eq_some_iff.mp hy1).1
      obtain ⟨o, ho⟩ : ∃ o, s.tf[i]? = some o := ⟨_, List.getElem?_eq_getElem (by omega)⟩
      have htk : (tF s).take (i + 1) = (tF s).take i ++ [tdF y o] := by rw [List.take_add_one, show (tF s)[i]? = some (tdF y o) by unfold tF; rw [List.getElem?_zipWith, hy1, ho]]; rfl
      walk_at "wp"
      generalize upd H' tt (.tup [V.int i, x]) = H2 at *
      refine ⟨_, SqT.of htt', rfl, _, _, rfl, _, _, rfl, rfl, ?_⟩
      have hyl := Paired.length hP
      rw [List.length_take] at hyl
      have hl64 := hS.len.1
      have s2 := s1.trans b2
      have hy2' := b2 _ _ hy
      have hk : ∀ {H3 H4 : Hp} {ws : List V}, Same H2 H3 → H4 = upd H3 tl (.lst ws) → Paired (RwT H4 [tl]) ys ((tF s).take i) := fun {H3 H4 ws} s3 e => Paired.mapP hP fun _ _ q => q.keep (xs := [tl]) (fun x hx => ⟨ys, by rw [List.mem_singleton.mp hx]; exact hy⟩) (fun c o hc hn _ => by rw [e, upd_ne (fun z => hn (by simp [z]))]; exact s3 _ _ (b2 _ _ hc))
      cases y with
      | none =>
        obtain rfl : x = .non := hy2
        rw [if_pos rfl]
        refine ⟨.inl ⟨rfl, _, SqL.of hy2'⟩, ys, hy2', by omega, same_put s2 htl, _, rfl, ?_⟩
        rw [htk]
        exact prd_app (hk same_refl rfl) rfl
      | some r =>
        obtain ⟨rfl, ⟨dxr, g1⟩, g2, g3⟩ := id hy2
        rw [if_neg (fun z => nomatch z)]
        refine ⟨.inl ⟨rfl, _, SqL.of hy2'⟩, r.sh, rfl, _, dxr, _, s2 _ _ g1, T.cl_Sheet, T.na_Sheet_boxes, _, shF_boxes, r.bx, rfl, _, .inl (SqL.of (s2 _ _ g2)), fun bl hbl => ?_⟩
        have b3 := same_upd (o := .lst (r.b.map V.int)) (same_refl (H := H2)) hbl
        have hbl3 : upd H2 bl (.lst (r.b.map V.int)) bl = some (.lst (r.b.map V.int)) := upd_same
        generalize upd H2 bl (.lst (r.b.map V.int)) = H3 at *
        have s3 := s2.trans b3
        refine ⟨r.sh, rfl, dxr, _, s3 _ _ g1, shF_no (by decide +kernel), r, ShAt.same s3 hy2, (ok r (List.mem_of_getElem? hy1)).1, fun hl H4 hhl s4 a1 => ?_⟩
        have s5 := s3.trans s4
        have hbl4 := s4 _ _ hbl3
        refine ⟨_, dx, _, s5 _ _ h1, T.cl_Sheets, T.na_Sheets_frames, _, ssF_frames, z.fp, rfl, _, dx1, _, s5 _ _ f1, T.cl_Spots, T.na_Spots_twins, _, spF_twins, z.tw, rfl, _, _, rfl, SqL.of (s5 _ _ f4), oV o, atI_nat (by rw [List.getElem?_map, ho]; rfl), fun np hnp => ?_⟩
        have b5 := same_upd (o := .tup [V.ref bl, V.ref hl, oV o]) (same_refl (H := H4)) hnp
        have s24 : Same H2 H4 := b3.trans s4
        have htl5 := b5 _ _ (s24 _ _ hy2')
        refine ⟨ys, htl5, by omega, same_put (s5.trans b5) htl, _, rfl, ?_⟩
        rw [htk]
        have nb : bl ≠ tl := (ne_of_none hy2' hbl).symm
        have nh : hl ≠ tl := (ne_of_none (b3 _ _ hy2') hhl).symm
        have nn : np ≠ tl := (ne_of_none (s24 _ _ hy2') hnp).symm
        exact prd_app (hk (s24.trans b5) rfl) ⟨np, bl, hl, rfl, by rw [upd_ne nn, upd_same], by rw [upd_ne nb]; exact b5 _ _ hbl4, (let ⟨us9, a2, a3⟩ := a1; ⟨us9, by rw [upd_ne nh]; exact b5 _ _ a2, Paired.mapP a3 fun _ _ ⟨a9, e9, q9⟩ => ⟨a9, e9, by rw [upd_ne (ne_of q9 (s24 _ _ hy2') (fun z => nomatch z))]; exact b5 _ _ q9⟩⟩), by simpa using nb, by simpa using nh⟩
    rintro ⟨ys, v2, v3, rfl, s1, hy, hP⟩
    walk_at "wp"
    rw [hul, ← hlen, List.take_length] at hP
    refine q _ tl s1 htl ?_
    unfold Lks
    exact ⟨tl, ys, rfl, hy, by rw [List.length_map, hlen]; have := hS.len.1; omega, rws_lks hP fun r hr => tF_ok ok hr⟩


def sp_ts (C P S : Addr) : Sp := fun vs H Q _ => ∃ (z : Ss) (s : St) (j : Nat) (r : Option Sh) (o : Option Nat), vs = [.ref z.p, .int j] ∧ SsAt C P S H z s ∧ Tw s ∧ s.sr[j]? = some r ∧ s.ts[j]? = some o ∧ (∀ q, r = some q → Okh q) ∧ ∀ v H', Same H H' → (∀ xs : List Addr, (∀ x ∈ xs, H x ≠ none) → RwT H' xs v (tdS s.fr r o)) → Q v H'
theorem h_ts (T : Txt K mg A) : HaveM P w K mg base A.C_Sheets "told_slot" 3 ["self", "slot"] [] (sp_ts A.C_Sheets A.C_Spots A.C_Sheet) := by
  have H_Sheet_told_holders := h_told (P := P) (w := w) (base := base) T
  have H_Sheets_sheet_at := h_sat (P := P) (w := w) (base := base) T
  refine T.r_Sheets_told_slot.have sc_Sheets_told_slot (fun vs H Q E z => ?_) ?_
  · obtain ⟨z, s, j, r, o, rfl, _⟩ := z; rfl
  · intro f cdv A' outer s H vs Q E hr z
    obtain ⟨z, s, j, r, o, rfl, hS, hT, hrj, hoj, hok, q⟩ := z
    obtain ⟨dx, h1⟩ := hS.me
    obtain ⟨dx1, us, f1, f2, f3, f4, f5⟩ := id hS.sl
    obtain ⟨v, hv1, hv2⟩ := prd_get2 f3 hrj
    have hj := (List.getElem?_eq_some_iff.mp hrj).1
    refine ⟨_, (pss_cons (ps_set (i := 2) sc_Sheets_told_slot.nd rfl (Or.inl rfl) (pe_ix ix_list (pe_fld (pe_fld (pvM 0) rfl) rfl) (pvM 1) (fun _ _ => rfl)))
      (pss_cut (ps_set (i := 3) sc_Sheets_told_slot.nd rfl (Or.inl rfl) (pe_ix ix_list (pe_fld (pe_fld (pvM 0) rfl) rfl) (pvM 1) (fun _ _ => rfl)))
      (pss_cons (ps_if (pt_cmpR op_notN (pvM 2) pe_non (nomark _)) (pss_one (ps_ret (pe_tup (pa_cons (pe_callTy call_list_of rfl T.b_list PyProof.Rows.boot_list (pa_cons (pe_fld (pvM 2) rfl) pa_nil)) (pa_cons (pe_methE0 (pvM 2) T.cl_Sheet H_Sheet_told_holders (hr.mono (by decide)) xw_def) (pa_cons pe_non pa_nil)))))) pss_nil)
      (pss_cons (ps_if (pt_cmpR op_notN (pvM 3) pe_non (nomark _)) (pss_one (ps_ret (pe_tup (pa_cons (pe_methE (pvM 0) T.cl_Sheets H_Sheets_sheet_at (hr.mono (by decide)) xw_def (pa_cons (pe_tup (pa_cons pe_str (pa_cons (pvM 3) pa_nil))) pa_nil)) (pa_cons (pe_lst pa_nil) (pa_cons (pvM 3) pa_nil)))))) pss_nil)
      (pss_one (ps_ret pe_non)))))), ?_⟩
    walk_at "wp"
    simp only [h1]
    walk_at "wp"
    refine ⟨T.cl_Sheets, T.na_Sheets_slots, _, ssF_slots, z.sq, rfl, _, dx1, _, f1, T.cl_Spots, T.na_Spots_lying, _, spF_lying, z.ls, rfl, us, SqL.of f2, v, atI_nat hv1, ?_⟩
    refine ⟨fun σ H' => σ = [some (.ref z.p), some (.int (j : Int)), some v, some (oV o)] ∧ H' = H, ?_, fun σ' H' => ?_⟩
    · walk_at "wp"
      simp only [h1]
      walk_at "wp"
      exact ⟨T.cl_Sheets, T.na_Sheets_slots, _, ssF_slots, z.sq, rfl, _, dx1, _, f1, T.cl_Spots, T.na_Spots_twins, _, spF_twins, z.ts, rfl, _, SqL.of f4, oV o, atI_nat (by rw [List.getElem?_map, hoj]; rfl), rfl⟩
    rintro ⟨rfl, rfl⟩
    cases r with
    | none =>
      obtain rfl : v = .non := hv2
      cases o with
      | none =>
        unfold oV
        walk_at "wp"
        exact iteF (iteF (q _ _ same_refl fun _ _ => rfl))
      | some i =>
        unfold oV sp_sat
        obtain ⟨r, hri⟩ := hT.full i j (hT.back i j hoj)
        have eb : bOf s.fr i = r.b := by unfold bOf; rw [hri]
        walk_at "wp"
        refine iteF (ifp (by rw [decide_eq_false (fun z => nomatch z)]; rfl) ⟨dx, _, h1, ssF_no (by decide +kernel), fun p hp => ?_⟩)
        obtain ⟨s1, k1⟩ := new_at (o := .tup [V.str (Str.ofString "frame"), V.int (i : Int)]) hp
        refine ⟨z, rfl, s, hS.same s1, true, i, rfl, some r, hri, (fun e => by cases e), fun q2 e l hl p2 hp2 p3 hp3 => ?_⟩
        obtain rfl : r = q2 := Option.some.inj e
        obtain ⟨s2, k2⟩ := new_at (o := .lst (r.b.map V.int)) hl
        obtain ⟨s3, k3⟩ := new_at (o := .lst []) hp2
        obtain ⟨s4, k4⟩ := new_at (o := .tup [V.ref l, V.ref p2, V.int (i : Int)]) hp3
        refine q _ _ (((s1.trans s2).trans s3).trans s4) fun xs hx => ?_
        show RwT _ xs _ (some (bOf s.fr i, [], some i))
        rw [eb]
        exact ⟨p3, l, p2, rfl, k4, s4 _ _ (s3 _ _ k2), ⟨[], s4 _ _ k3, .nil⟩, fun z => hx _ z (same_none s1 hl), fun z => hx _ z (same_none (s1.trans s2) hp2)⟩
    | some r =>
      obtain ⟨rfl, ⟨dxr, g1⟩, g2, g3⟩ := id hv2
      unfold sp_told
      walk_at "wp"
      refine iteT ⟨_, dxr, _, g1, T.cl_Sheet, T.na_Sheet_boxes, _, shF_boxes, r.bx, rfl, _, .inl (SqL.of g2), fun bl hbl => ?_⟩
      obtain ⟨s1, k1⟩ := new_at (o := .lst (r.b.map V.int)) hbl
      generalize upd H' bl _ = H1 at *
      refine ⟨dxr, _, s1 _ _ g1, shF_no (by decide +kernel), r, ShAt.same s1 hv2, hok r rfl, fun hl H2 hhl s2 htd t ht => ?_⟩
      have s3 : Same H2 (upd H2 t (.tup [V.ref bl, V.ref hl, V.non])) := same_upd same_refl ht
      exact q _ _ (s1.trans (s2.trans s3)) fun xs hx => ⟨t, bl, hl, rfl, upd_same, s3 _ _ (s2 _ _ k1), htd.same s3, fun z => hx _ z hbl, fun z => hx _ z (same_none s1 hhl)⟩
def sp_tss (C P S : Addr) : Sp := fun vs H Q _ => ∃ (z : Ss) (s : St), vs = [.ref z.p] ∧ SsAt C P S H z s ∧ Tw s ∧ okS s.fr ∧ okS s.sr ∧ ∀ H' l, Same H H' → H l = none → Lks H' (.seq false ((tS s).map dvS)) (.ref l) → Q (.ref l) H'
theorem h_tss (T : Txt K mg A) : HaveM P w K mg base A.C_Sheets "told_slots" 4 ["self"] [] (sp_tss A.C_Sheets A.C_Spots A.C_Sheet) := by
  have H_Sheets_told_slot := h_ts (P := P) (w := w) (base := base) T
  refine T.r_Sheets_told_slots.have sc_Sheets_told_slots (fun vs H Q E z => ?_) ?_
  · obtain ⟨z, s, rfl, _⟩ := z; rfl
  · intro f cdv A' outer s H vs Q E hr z
    obtain ⟨z, s, rfl, hS, hT, ok0, ok, q⟩ := z
    obtain ⟨dx, h1⟩ := hS.me
    obtain ⟨dx1, us, f1, f2, f3, f4, f5⟩ := id hS.sl
    have hlen : (tS s).length = s.sr.length := by unfold tS; rw [List.length_zipWith]; omega
    refine ⟨_, (pss_one (ps_ret (pe_comp rfl (pi_range1 rfl T.b_range (pa_cons (pe_callB call_len rfl T.b_len PySem.boot_len (pa_cons (pe_fld (pe_fld (pvM 0) rfl) rfl) pa_nil)) pa_nil)) (x := "slot") (fs := ["self"]) (ix := [0]) rfl rfl (fun _ _ _ _ _ _ => (pg_name (i := 0) (show (["slot", "self"] : List Str).Nodup by decide +kernel) rfl (Or.inl rfl))) (fun _ _ _ _ _ _ => pf_nil) (fun _ _ _ _ _ _ => (pe_methE (pvM 1) T.cl_Sheets H_Sheets_told_slot (hr.mono (by decide)) xw_no (pa_cons (pvM 0) pa_nil)))))), ?_⟩
    unfold sp_ts
    walk_at "wp"
    simp only [h1]
    walk_at "wp"
    have hul := Paired.length f3
    have hm := hS.len.2
    have hz := PySem.sizeLine_eq
    refine ⟨T.cl_Sheets, T.na_Sheets_slots, _, ssF_slots, z.sq, rfl, _, dx1, _, f1, T.cl_Spots, T.na_Spots_lying, _, spF_lying, _, .inl ⟨_, SqL.of f2, rfl⟩, by omega, by omega, fun D hD => ?_⟩
    refine comp_range (fun i ys σ H' => ∃ v, σ = [v, some (.ref z.p)] ∧ Same H H' ∧ H' D = some (.lst ys) ∧ Paired (RwT H' [D]) ys ((tS s).take i)) ⟨_, rfl, same_upd same_refl hD, upd_same, .nil⟩ (fun i ys σ H' hi => ?_) (fun ys σ H5 => ?_)
    · rintro ⟨v, rfl, s1, hD1, hP⟩
      have hil : i < s.sr.length := by omega
      have hrow : s.sr[i]? = some s.sr[i] := List.getElem?_eq_getElem hil
      obtain ⟨o, ho⟩ : ∃ o, s.ts[i]? = some o := ⟨_, List.getElem?_eq_getElem (by omega)⟩
      have htk : (tS s).take (i + 1) = (tS s).take i ++ [tdS s.fr s.sr[i] o] := by rw [List.take_add_one, show (tS s)[i]? = some (tdS s.fr s.sr[i] o) by unfold tS; rw [List.getElem?_zipWith, hrow, ho]]; rfl
      have hyl := Paired.length hP
      rw [List.length_take] at hyl
      generalize s.sr[i] = r at *
      walk_at "wp"
      refine ⟨dx, _, s1 _ _ h1, ssF_no (by decide +kernel), z, rfl, s, i, by omega, hS.same s1, hT, r, hrow, o, ho, (fun q e => (ok q (by rw [← e]; exact List.mem_of_getElem? hrow)).1), fun v H2 s2 hw => ?_⟩
      have hD2 := s2 _ _ hD1
      refine ⟨hD2, by omega, same_put (s1.trans s2) hD, ?_⟩
      rw [htk]
      have w2 := hw [D] (fun x hx => by rw [List.mem_singleton.mp hx, hD1]; exact fun z => nomatch z)
      have kp : ∀ {u : V} {r : Option Tr}, RwT H2 [D] u r → RwT (upd H2 D (.lst (ys ++ [v]))) [D] u r := fun h => h.keep (xs := [D]) (fun x hx => ⟨ys, by rw [List.mem_singleton.mp hx]; exact hD2⟩) (fun c o hc hn _ => by rw [upd_ne (fun z => hn (by simp [z]))]; exact hc)
      exact prd_app (Paired.mapP hP fun _ _ h => kp (h.keep (xs := [D]) (fun x hx => ⟨ys, by rw [List.mem_singleton.mp hx]; exact hD1⟩) (fun c o hc _ _ => s2 _ _ hc))) (kp w2)
    · rintro ⟨v, rfl, s1, hD1, hP⟩
      rw [hul, Int.toNat_natCast, ← hlen, List.take_length] at hP
      refine q _ D s1 hD ?_
      unfold Lks
      exact ⟨D, ys, rfl, hD1, by rw [List.length_map, hlen]; omega, rws_lks hP fun r hr => tS_ok ok0 ok hr⟩

abbrev Lb := Addr → Nat
def lab (L : Lb) (p : Addr) (k : Nat) : Lb := fun c => if c = p then k else L c
theorem lab_at {L : Lb} {p : Addr} {k : Nat} : lab L p k p = k := if_pos rfl
theorem lab_ne {L : Lb} {p c : Addr} {k : Nat} (h : c ≠ p) : lab L p k c = L c := if_neg h
def Lv (L : Lb) (H : Hp) : Prop := ∀ c, L c ≠ 0 → ∃ us, H c = some (.lst us)
def Lx (L L' : Lb) (H : Hp) : Prop := ∀ c, L' c = L c ∨ H c = none
def Dm (H H' : Hp) : Prop := ∀ c, H' c = none → H c = none
def TF (o : HO) : Prop := ∃ us, o = .tup us ∨ ∃ p, o = .frz p (.lst us)
theorem tup_tf {us : List V} : TF (.tup us) := ⟨us, .inl rfl⟩
theorem Lv.zero {L : Lb} {H : Hp} (h : Lv L H) {c : Addr} {o : HO} (hc : H c = some o) (ho : ∀ us, o ≠ .lst us) : L c = 0 := Decidable.byContradiction fun e => by
  obtain ⟨us, h9⟩ := h c e
  rw [hc] at h9
  exact ho us (Option.some.inj h9)
theorem tf_nl {o : HO} (h : TF o) : ∀ us, o ≠ .lst us := fun us z => by
  obtain ⟨ws, h | ⟨p, h⟩⟩ := h <;> (rw [z] at h; cases h)
structure Mv (S : List Nat) (L L' : Lb) (H H' : Hp) : Prop where
  lx : Lx L L' H
  kw : ∀ c o, H c = some o → L c ∉ S → H' c = some o
  dm : Dm H H'
theorem Lx.at {L L' : Lb} {H : Hp} (x : Lx L L' H) {c : Addr} {o : HO} (h : H c = some o) : L' c = L c := by
  rcases x c with e | e
  · exact e
  · rw [e] at h; cases h
theorem Dm.some {H H' : Hp} (d : Dm H H') {c : Addr} {o : HO} (h : H c = some o) : ∃ o', H' c = some o' := by
  cases e : H' c with
  | none => rw [d c e] at h; cases h
  | some o' => exact ⟨o', rfl⟩
theorem Mv.of {S : List Nat} {L : Lb} {H H' : Hp} (s : Same H H') : Mv S L L H H' := ⟨fun _ => .inl rfl, fun _ _ h _ => s _ _ h, fun _ h => same_none s h⟩
theorem Lx.trans {L L1 La2 : Lb} {H H1 : Hp} (a : Lx L L1 H) (d : Dm H H1) (b : Lx L1 La2 H1) : Lx L La2 H := fun c => by
  rcases a c with e | e
  · rcases b c with e2 | e2
    · exact .inl (e2.trans e)
    · exact .inr (d c e2)
  · exact .inr e
theorem Mv.trans {S : List Nat} {L L1 La2 : Lb} {H H1 H2 : Hp} (a : Mv S L L1 H H1) (b : Mv S L1 La2 H1 H2) : Mv S L La2 H H2 :=
  ⟨a.lx.trans a.dm b.lx, fun c o h n => b.kw c o (a.kw c o h n) (by rw [a.lx.at h]; exact n), fun c h => a.dm c (b.dm c h)⟩
theorem Mv.new {S : List Nat} {L : Lb} {H : Hp} {p : Addr} {k : Nat} {o : HO} (h : H p = none) : Mv S L (lab L p k) H (upd H p o) :=
  ⟨fun c => by
    by_cases e : c = p
    · rw [e]; exact .inr h
    · exact .inl (lab_ne e), fun c o' hc _ => by rw [upd_ne (ne_of_none hc h)]; exact hc, fun c hc => same_none (same_upd same_refl h) hc⟩
theorem Mv.set {S : List Nat} {L : Lb} {H : Hp} {a : Addr} {us us' : List V} (h : H a = some (.lst us)) (hs : L a ∈ S) : Mv S L L H (upd H a (.lst us')) :=
  ⟨fun _ => .inl rfl, fun c o hc n => by rw [upd_ne (fun e => n (by rw [e]; exact hs))]; exact hc, fun c hc => by
    by_cases e : c = a
    · rw [e, upd_same] at hc; cases hc
    · rw [upd_ne e] at hc; exact hc⟩
theorem Lv.same {L : Lb} {H H' : Hp} (h : Lv L H) (s : Same H H') : Lv L H' := fun c hc => let ⟨us, e⟩ := h c hc; ⟨us, s _ _ e⟩
theorem Lv.new {L : Lb} {H : Hp} {p : Addr} {k : Nat} {us : List V} (l : Lv L H) (h : H p = none) : Lv (lab L p k) (upd H p (.lst us)) := fun c hc => by
  by_cases e : c = p
  · rw [e, upd_same]; exact ⟨_, rfl⟩
  · rw [lab_ne e] at hc
    rw [upd_ne e]; exact l c hc
theorem Lv.set {L : Lb} {H : Hp} {a : Addr} {us' : List V} (l : Lv L H) : Lv L (upd H a (.lst us')) := fun c hc => by
  by_cases e : c = a
  · rw [e, upd_same]; exact ⟨_, rfl⟩
  · rw [upd_ne e]; exact l c hc
structure Zv (S : List Nat) (L L' : Lb) (H H' : Hp) : Prop where
  lx : Lx L L' H
  kz : ∀ c o, H c = some o → (TF o ∨ (L c ≠ 0 ∧ L c ∉ S)) → H' c = some o
  dm : Dm H H'
theorem Zv.of {S : List Nat} {L : Lb} {H H' : Hp} (s : Same H H') : Zv S L L H H' := ⟨fun _ => .inl rfl, fun _ _ h _ => s _ _ h, fun _ h => same_none s h⟩
theorem Mv.zv {S : List Nat} {L L' : Lb} {H H' : Hp} (a : Mv S L L' H H') (l : Lv L H) (h0 : 0 ∉ S) : Zv S L L' H H' := ⟨a.lx, fun c o hc n => a.kw c o hc (by
  rcases n with n | n
  · rw [l.zero hc (tf_nl n)]; exact h0
  · exact n.2), a.dm⟩
theorem Zv.trans {S : List Nat} {L L1 La2 : Lb} {H H1 H2 : Hp} (a : Zv S L L1 H H1) (b : Zv S L1 La2 H1 H2) : Zv S L La2 H H2 :=
  ⟨a.lx.trans a.dm b.lx, fun c o h n => b.kz c o (a.kz c o h n) (n.imp id fun n => by rw [a.lx.at h]; exact n), fun c h => a.dm c (b.dm c h)⟩
theorem Zv.sub {S S' : List Nat} {L L' : Lb} {H H' : Hp} (a : Zv S L L' H H') (h : ∀ k ∈ S, k ∈ S') : Zv S' L L' H H' := ⟨a.lx, fun c o hc n => a.kz c o hc (n.imp id fun n => ⟨n.1, fun z => n.2 (h _ z)⟩), a.dm⟩
theorem Zv.tup {S : List Nat} {L L' : Lb} {H H' : Hp} (a : Zv S L L' H H') {c : Addr} {us : List V} (h : H c = some (.tup us)) : H' c = some (.tup us) := a.kz _ _ h (.inl tup_tf)
theorem Zv.lst {S : List Nat} {L L' : Lb} {H H' : Hp} (a : Zv S L L' H H') {c : Addr} {us : List V} {k : Nat} (h : H c = some (.lst us)) (hk : L c = k) (h0 : k ≠ 0) (hs : k ∉ S) : H' c = some (.lst us) ∧ L' c = k := ⟨a.kz _ _ h (.inr (by rw [hk]; exact ⟨h0, hs⟩)), by rw [a.lx.at h]; exact hk⟩
theorem Zv.ks {C P S : Addr} {z : Ss} {s s' : St} {L : Lb} {H H' : Hp} (hS : SsAt C P S H z s) (hS' : SsAt C P S H' z s') (k : Kd z H H') (l0 : ∀ c ∈ z.four, L c = 0) (l : Lv L H) (dm : Dm H H') : Zv [] L L H H' := ⟨fun _ => .inl rfl, fun c o hc n => (by
  obtain ⟨dx, h1⟩ := hS.me
  refine k c o hc (fun e => ?_) (fun e => ?_) (fun kvs e => ?_)
  · rcases n with n | n
    · rw [e, h1] at hc
      obtain ⟨ws, h | ⟨p, h⟩⟩ := n <;> (rw [← Option.some.inj hc] at h; cases h)
    · obtain ⟨us, h9⟩ := l c n.1
      rw [e, h1] at h9; cases h9
  · rcases n with n | n
    · obtain ⟨us, h9⟩ := hS.fours c e
      rw [hc] at h9
      exact tf_nl n us (Option.some.inj h9)
    · exact n.1 (l0 c e)
  · rcases n with n | n
    · obtain ⟨ws, h | ⟨p, h⟩⟩ := n <;> (rw [e] at h; cases h)
    · obtain ⟨us, h9⟩ := l c n.1
      rw [hc, e] at h9; cases h9), dm⟩
theorem ly_to {S : Addr} {H H' : Hp} {vs : List V} {rows : List (Option Sh)} (h : LyAt S H vs rows) (k : ∀ v r, r ∈ rows → ShAt S H v r → ShAt S H' v r) : LyAt S H' vs rows := by
  induction h with
  | nil => exact .nil
  | @cons x y _ _ h t ih => exact .cons (k _ _ (List.mem_cons_self ..) h) (ih fun v r hr => k v r (List.mem_cons_of_mem _ hr))
theorem SsAt.mv {C P S : Addr} {z : Ss} {s : St} {L L' : Lb} {N : List Nat} {H H' : Hp} (h : SsAt C P S H z s) (m : Mv N L L' H H') (l : Lv L H) (h0 : 0 ∉ N) (l0 : ∀ c ∈ z.four, L c = 0) (lb : ∀ r, some r ∈ s.fr ∨ some r ∈ s.sr → L r.bx = 0) : SsAt C P S H' z s := by
  obtain ⟨dx, h1⟩ := h.me
  obtain ⟨dx1, vs1, f1, f2, f3, f4, f5⟩ := id h.fr
  obtain ⟨dx2, vs2, g1, g2, g3, g4, g5⟩ := id h.sl
  have kn : ∀ {c o}, H c = some o → (∀ us, o ≠ .lst us) → H' c = some o := fun hc hn => m.kw _ _ hc (by rw [l.zero hc hn]; exact h0)
  have kl : ∀ {c o}, H c = some o → L c = 0 → H' c = some o := fun hc hn => m.kw _ _ hc (by rw [hn]; exact h0)
  have ks : ∀ {v : V} {r : Option Sh}, (∀ q, r = some q → L q.bx = 0) → ShAt S H v r → ShAt S H' v r := fun {v r} hb hv => by
    cases r with
    | none => exact hv
    | some r =>
      obtain ⟨a, ⟨d, h1⟩, h2, h3⟩ := hv
      exact ⟨a, ⟨d, kn h1 fun _ z => nomatch z⟩, kl h2 (hb r rfl), kn h3 fun _ z => nomatch z⟩
  have kp : ∀ {vs : List V} {rows : List (Option Sh)}, LyAt S H vs rows → (∀ r, some r ∈ rows → L r.bx = 0) → LyAt S H' vs rows := fun hl hb => ly_to hl fun v r hr h => ks (fun q e => hb q (by rw [← e]; exact hr)) h
  exact ⟨⟨dx, kn h1 fun _ z => nomatch z⟩, ⟨dx1, vs1, kn f1 (fun _ z => nomatch z), kl f2 (l0 _ (la_four (f := true))), kp f3 (fun r hr => lb r (.inl hr)), kl f4 (l0 _ (ta_four (f := true))), f5⟩, ⟨dx2, vs2, kn g1 (fun _ z => nomatch z), kl g2 (l0 _ (la_four (f := false))), kp g3 (fun r hr => lb r (.inr hr)), kl g4 (l0 _ (ta_four (f := false))), g5⟩, h.n4, h.bx, h.len, h.hh⟩
theorem Ks.dm {C P S : Addr} {z : Ss} {s s' : St} {H G : Hp} (k : Ks z H G) (h : SsAt C P S H z s) (h' : SsAt C P S G z s') : Dm H G := fun _ hc => k.was h h' hc
theorem Mv.lab {S : List Nat} {L : Lb} {H G : Hp} {u : Addr} {k : Nat} (s : Same H G) (hu : H u = none) : Mv S L (Pf.lab L u k) H G := ⟨fun c => by
  by_cases e : c = u
  · rw [e]; exact .inr hu
  · exact .inl (lab_ne e), fun c o hc _ => s _ _ hc, fun c hc => same_none s hc⟩
theorem Lv.lab {L : Lb} {H G : Hp} {u : Addr} {k : Nat} {us : List V} (l : Lv L H) (s : Same H G) (g : G u = some (.lst us)) : Lv (Pf.lab L u k) G := fun c hc => by
  by_cases e : c = u
  · rw [e]; exact ⟨_, g⟩
  · rw [lab_ne e] at hc
    obtain ⟨us, h⟩ := l c hc
    exact ⟨us, s _ _ h⟩
theorem Lv.zv {H H' : Hp} {L : Lb} (l : Lv L H) (z : Zv [] L L H H') : Lv L H' := fun c hc => let ⟨us, h⟩ := l c hc; ⟨us, z.kz _ _ h (.inr ⟨hc, by simp⟩)⟩

theorem deepl_le : ∀ {ds : List Dv} {n : Nat}, (∀ d ∈ ds, deep d ≤ n) → deepL ds ≤ n
  | [], _, _ => by rw [deepL]; omega
  | d :: ds, n, h => by
    have := deepl_le (ds := ds) (n := n) fun x hx => h x (List.mem_cons_of_mem _ hx)
    have := h d (List.mem_cons_self ..)
    rw [deepL]
    omega
theorem deep_leaves {α : Type} {f : α → V} {xs : List α} {b : Bool} : deep (.seq b (xs.map fun x => .leaf (f x))) ≤ 1 := by
  have := deepl_le (ds := xs.map fun x => Dv.leaf (f x)) (n := 0) (fun d hd => by
    obtain ⟨x, _, rfl⟩ := List.mem_map.mp hd
    rw [deep]; omega)
  rw [deep]
  omega
theorem deep_T {ks : List (List Key)} : deep (dvT ks) ≤ 2 := by
  have := deepl_le (ds := ks.map dvK) (n := 1) (fun d hd => by
    obtain ⟨k, _, rfl⟩ := List.mem_map.mp hd
    exact deep_leaves)
  unfold dvT
  rw [deep]
  omega
theorem deep_S {r : Option Tr} : deep (dvS r) ≤ 3 := by
  cases r with
  | none => unfold dvS; rw [deep]; omega
  | some r =>
    obtain ⟨b, ks, o⟩ := r
    have h1 : deep (dvB b) ≤ 1 := deep_leaves
    have h2 := deep_T (ks := ks)
    have h3 : deep (dvO o) = 0 := by cases o <;> (unfold dvO; rw [deep])
    unfold dvS
    rw [deep, deepL, deepL, deepL, deepL, h3]
    omega
theorem deep_R {rows : List (Option Tr)} : deep (.seq false (rows.map dvS)) ≤ 4 := by
  have := deepl_le (ds := rows.map dvS) (n := 3) (fun d hd => by
    obtain ⟨k, _, rfl⟩ := List.mem_map.mp hd
    exact deep_S)
  rw [deep]
  omega
def HW (H : Hp) (v : V) : Option (List Key) → Prop
  | none => v = .non
  | some k => ∃ a, v = .ref a ∧ H a = some (.tup (k.map kV))
theorem HW.to {H H' : Hp} {v : V} {o : Option (List Key)} (h : HW H v o) (kt : ∀ c us, H c = some (.tup us) → H' c = some (.tup us)) : HW H' v o := by
  cases o with
  | none => exact h
  | some k => obtain ⟨a, e, q⟩ := h; exact ⟨a, e, kt _ _ q⟩
structure Wl (H : Hp) (L : Lb) (wh wf ws bd : Addr) (WF WS : List (Option (List Key))) (BD : List (Option Nat)) : Prop where
  hw : H wh = some (.lst [.ref wf, .ref ws])
  hf : ∃ us, H wf = some (.lst us) ∧ Paired (HW H) us WF
  hs : ∃ us, H ws = some (.lst us) ∧ Paired (HW H) us WS
  hb : H bd = some (.lst (BD.map oV))
  l1 : L wh = 1 ∧ L wf = 1 ∧ L ws = 1 ∧ L bd = 1
  ne : wh ≠ wf ∧ wh ≠ ws ∧ wh ≠ bd ∧ wf ≠ ws ∧ wf ≠ bd ∧ ws ≠ bd
  lv : Lv L H
section
variable {H H' : Hp} {L L' : Lb} {wh wf ws bd : Addr} {WF WS : List (Option (List Key))} {BD : List (Option Nat)}
theorem Wl.zv {N : List Nat} (h : Wl H L wh wf ws bd WF WS BD) (z : Zv N L L' H H') (hN : 1 ∉ N) (lv : Lv L' H') : Wl H' L' wh wf ws bd WF WS BD := by
  obtain ⟨us, f1, f2⟩ := h.hf
  obtain ⟨vs, g1, g2⟩ := h.hs
  obtain ⟨l1, l2, l3, l4⟩ := h.l1
  have k1 : ∀ {c us}, H c = some (.lst us) → L c = 1 → H' c = some (.lst us) ∧ L' c = 1 := fun hc hl => z.lst hc hl (by decide) hN
  exact ⟨(k1 h.hw l1).1, ⟨us, (k1 f1 l2).1, Paired.mapP f2 fun _ _ q => q.to fun c us hc => z.tup hc⟩, ⟨vs, (k1 g1 l3).1, Paired.mapP g2 fun _ _ q => q.to fun c us hc => z.tup hc⟩, (k1 h.hb l4).1, ⟨(k1 h.hw l1).2, (k1 f1 l2).2, (k1 g1 l3).2, (k1 h.hb l4).2⟩, h.ne, lv⟩
theorem Wl.same (h : Wl H L wh wf ws bd WF WS BD) (s : Same H H') : Wl H' L wh wf ws bd WF WS BD := h.zv (N := []) (Zv.of s) (by simp) (h.lv.same s)
theorem Wl.new (h : Wl H L wh wf ws bd WF WS BD) {p : Addr} {k : Nat} {us : List V} (hp : H p = none) : Wl (upd H p (.lst us)) (lab L p k) wh wf ws bd WF WS BD := h.zv (N := []) ((Mv.new hp).zv h.lv (by simp)) (by simp) (h.lv.new hp)
theorem hw_set {a : Addr} {us us' : List V} (hl : H a = some (.lst us)) {v : V} {o : Option (List Key)} (h : HW H v o) : HW (upd H a (.lst us')) v o := h.to fun c ws hc => by rw [upd_ne (ne_of hc hl (fun z => nomatch z))]; exact hc
theorem Wl.setF (h : Wl H L wh wf ws bd WF WS BD) {us : List V} (hu : H wf = some (.lst us)) {i : Nat} {v : V} {o : Option (List Key)} (hv : HW H v o) : Wl (upd H wf (.lst (us.set i v))) L wh wf ws bd (WF.set i o) WS BD := by
  obtain ⟨us0, f1, f2⟩ := h.hf
  obtain rfl : us = us0 := by rw [hu] at f1; cases f1; rfl
  obtain ⟨vs, g1, g2⟩ := h.hs
  obtain ⟨n1, n2, n3, n4, n5, n6⟩ := h.ne
  exact ⟨by rw [upd_ne n1]; exact h.hw, ⟨_, upd_same, prd_set (hw_set hu hv) i (Paired.mapP f2 fun _ _ q => hw_set hu q)⟩, ⟨vs, by rw [upd_ne (Ne.symm n4)]; exact g1, Paired.mapP g2 fun _ _ q => hw_set hu q⟩, by rw [upd_ne (Ne.symm n5)]; exact h.hb, h.l1, h.ne, h.lv.set⟩
theorem Wl.setS (h : Wl H L wh wf ws bd WF WS BD) {us : List V} (hu : H ws = some (.lst us)) {i : Nat} {v : V} {o : Option (List Key)} (hv : HW H v o) : Wl (upd H ws (.lst (us.set i v))) L wh wf ws bd WF (WS.set i o) BD := by
  obtain ⟨vs, f1, f2⟩ := h.hf
  obtain ⟨us0, g1, g2⟩ := h.hs
  obtain rfl : us = us0 := by rw [hu] at g1; cases g1; rfl
  obtain ⟨n1, n2, n3, n4, n5, n6⟩ := h.ne
  exact ⟨by rw [upd_ne n2]; exact h.hw, ⟨vs, by rw [upd_ne n4]; exact f1, Paired.mapP f2 fun _ _ q => hw_set hu q⟩, ⟨_, upd_same, prd_set (hw_set hu hv) i (Paired.mapP g2 fun _ _ q => hw_set hu q)⟩, by rw [upd_ne (Ne.symm n6)]; exact h.hb, h.l1, h.ne, h.lv.set⟩
theorem Wl.setB (h : Wl H L wh wf ws bd WF WS BD) {i : Nat} {o : Option Nat} : Wl (upd H bd (.lst ((BD.map oV).set i (oV o)))) L wh wf ws bd WF WS (BD.set i o) := by
  obtain ⟨vs, f1, f2⟩ := h.hf
  obtain ⟨us, g1, g2⟩ := h.hs
  obtain ⟨n1, n2, n3, n4, n5, n6⟩ := h.ne
  have hu := h.hb
  exact ⟨by rw [upd_ne n3]; exact h.hw, ⟨vs, by rw [upd_ne n5]; exact f1, Paired.mapP f2 fun _ _ q => hw_set hu q⟩, ⟨us, by rw [upd_ne n6]; exact g1, Paired.mapP g2 fun _ _ q => hw_set hu q⟩, by rw [upd_same, List.map_set], h.l1, h.ne, h.lv.set⟩
end
def OutW (H : Hp) (v : V) : Option Nat → Prop
  | none => v = .non
  | some j => ∃ o l, v = .ref o ∧ H o = some (.tup [.int (j : Int), .ref l])
theorem OutAt.wo {F : List Addr} {H : Hp} {v : V} {o : Option (Nat × Sh)} (h : OutAt F H v o) : OutW H v (o.map (·.1)) := by
  cases o with
  | none => exact h
  | some x => obtain ⟨j, q⟩ := x; obtain ⟨o, l, e, h1, _⟩ := h; exact ⟨o, l, e, h1⟩
def comF (WF : List (Option (List Key))) (i : Nat) (k : List Key) : List (Option (List Key)) := WF.set i (some k)
def comS (WF WS : List (Option (List Key))) (i : Nat) : Option Nat → List (Option (List Key))
  | none => WS
  | some j => WS.set j (WF[i]?.getD none)
def comB (BD : List (Option Nat)) (i : Nat) : Option Nat → List (Option Nat)
  | none => BD.set i none
  | some j => (BD.set i none).map (cl j)

def sp_come : Sp := fun vs H Q _ => ∃ (L : Lb) (wh wf ws bd f h e : Addr) (WF WS : List (Option (List Key))) (BD : List (Option Nat)) (i : Nat) (v3 : V) (out : Option Nat) (k : List Key), vs = [.ref wh, .ref bd, .ref f, .ref h] ∧ Wl H L wh wf ws bd WF WS BD ∧ H f = some (.tup [.int (i : Int), .ref e, v3]) ∧ OutW H v3 out ∧ H h = some (.tup (k.map kV)) ∧ i < WF.length ∧ BD.length = WF.length ∧ WF.length ≤ 64 ∧ (∀ j, out = some j → j < WS.length) ∧
  ∀ H', Wl H' L wh wf ws bd (comF WF i k) (comS WF WS i out) (comB BD i out) → Mv [1] L L H H' → Q .non H'
theorem h_come (T : Txt K mg A) : Have P w K mg base "_law_come" 1 ["_law_where", "_law_bound", "_law_found", "_law_holder"] [] sp_come := by
  refine T.r_l_come.have sc_l_come (fun vs H Q E z => ?_) ?_
  · obtain ⟨L, wh, wf, ws, bd, f, h, e, WF, WS, BD, i, v3, out, k, rfl, _⟩ := z; rfl
  · intro f' cdv A' outer s H vs Q E hr z
    obtain ⟨L, wh, wf, ws, bd, f, h, e, WF, WS, BD, i, v3, out, k, rfl, hW, hf, ho, hh, hi, hbl, h64, hj, q⟩ := z
    have tp : ∀ {G : Hp} {c us}, Mv [1] L L H G → H c = some (.tup us) → G c = some (.tup us) := fun m hc => m.kw _ _ hc (by rw [hW.lv.zero hc fun _ z => nomatch z]; simp)
    refine ⟨_, (pss_cons (ps_set (i := 4) sc_l_come.nd rfl (Or.inl rfl) (pe_ix ix_tup (pvM 2) pe_int (fun _ _ => rfl)))
      (pss_cut (ps_asg pe_non (pg_sub (pvM 1) (pvM 4) set_list))
      (pss_cut (ps_if (pt_cmpR op_notN (pe_ix ix_tup (pvM 2) pe_int (fun _ _ => rfl)) pe_non (nomark _)) (pss_cut (ps_asg (pe_ix ix_list (pe_ix ix_list (pvM 0) pe_int (fun _ _ => rfl)) (pvM 4) (fun _ _ => rfl)) (pg_sub (pe_ix ix_list (pvM 0) pe_int (fun _ _ => rfl)) (pe_ix ix_tup (pe_ix ix_tup (pvM 2) pe_int (fun _ _ => rfl)) pe_int (fun _ _ => rfl)) set_list))
      (pss_one (ps_forE PassesOwn.leaving rfl (pi_range1 rfl T.b_range (pa_cons (pe_callB call_len rfl T.b_len PySem.boot_len (pa_cons (pvM 1) pa_nil)) pa_nil)) (pg_name (i := 5) sc_l_come.nd rfl (Or.inl rfl)) (pss_one (ps_if (pt_cmpR op_eq (pe_ix ix_list (pvM 1) (pvM 5) (fun _ _ => rfl)) (pe_ix ix_tup (pe_ix ix_tup (pvM 2) pe_int (fun _ _ => rfl)) pe_int (fun _ _ => rfl)) (nomark _)) (pss_one (ps_asg pe_non (pg_sub (pvM 1) (pvM 5) set_list))) pss_nil))))) pss_nil)
      (pss_one (ps_asg (pvM 3) (pg_sub (pe_ix ix_list (pvM 0) pe_int (fun _ _ => rfl)) (pvM 4) set_list)))))), ?_⟩
    walk_at "wp"
    refine ⟨_, SqT.of hf, .int i, atI_nat (j := 0) rfl, ?_⟩
    refine ⟨fun σ G => σ = [some (.ref wh), some (.ref bd), some (.ref f), some (.ref h), some (.int (i : Int)), none] ∧ Wl G L wh wf ws bd WF WS (BD.set i none) ∧ Mv [1] L L H G, ?_, fun σ1 G1 => ?_⟩
    · walk_at "wp"
      refine ⟨_, hW.hb, i, ixn (by rw [List.length_map]; omega), hW.setB (o := none), Mv.set hW.hb (by rw [hW.l1.2.2.2]; simp)⟩
    rintro ⟨rfl, W1, m1⟩
    refine ⟨fun σ G => ∃ v6, σ = [some (.ref wh), some (.ref bd), some (.ref f), some (.ref h), some (.int (i : Int)), v6] ∧ Wl G L wh wf ws bd WF (comS WF WS i out) (comB BD i out) ∧ Mv [1] L L H G, ?_, fun σ2 G2 => ?_⟩
    · have hf1 := tp m1 hf
      walk_at "wp"
      refine ⟨_, SqT.of hf1, v3, atI_nat (j := 2) rfl, ?_⟩
      cases out with
      | none =>
        obtain rfl : v3 = .non := ho
        exact ifn (by rw [decide_eq_true rfl]; rfl) ⟨W1, m1⟩
      | some j =>
        obtain ⟨o, l, rfl, d1⟩ := ho
        refine ifp (by rw [decide_eq_false (fun z => nomatch z)]; rfl) ?_
        have hjl := hj j rfl
        refine ⟨fun σ G => σ = [some (.ref wh), some (.ref bd), some (.ref f), some (.ref h), some (.int (i : Int)), none] ∧ Wl G L wh wf ws bd WF (comS WF WS i (some j)) (BD.set i none) ∧ Mv [1] L L H G, ?_, fun σ2 G2 => ?_⟩
        · obtain ⟨us, f1, f2⟩ := W1.hf
          obtain ⟨vs, g1, g2⟩ := W1.hs
          obtain ⟨x, hx⟩ : ∃ x, WF[i]? = some x := ⟨_, List.getElem?_eq_getElem hi⟩
          obtain ⟨v, hv, hv2⟩ := prd_get2 f2 hx
          have hvl := Paired.length g2
          walk_at "wp"
          refine ⟨_, SqL.of W1.hw, _, atI_nat (j := 0) rfl, wf, rfl, _, SqL.of f1, v, atI_nat hv, _, SqL.of W1.hw, _, atI_nat (j := 1) rfl, _, SqT.of hf1, _, atI_nat (j := 2) rfl, o, rfl, _, SqT.of (tp m1 d1), .int j, atI_nat (j := 0) rfl, ws, rfl, vs, (j : Int), rfl, g1, j, ixn (by omega), ?_, m1.trans (Mv.set g1 (by rw [W1.l1.2.2.1]; simp))⟩
          have := W1.setS g1 (i := j) hv2
          unfold comS
          rw [hx]
          exact this
        rintro ⟨rfl, W2, m2⟩
        have hf2 := tp m2 hf
        walk_at "wp"
        refine ⟨_, .inl ⟨_, SqL.of W2.hb, rfl⟩, by rw [List.length_map, List.length_set]; omega, by rw [List.length_map, List.length_set]; omega, ?_⟩
        refine loop_range (fun n σ G => ∃ v6, σ = [some (.ref wh), some (.ref bd), some (.ref f), some (.ref h), some (.int (i : Int)), v6] ∧ Wl G L wh wf ws bd WF (comS WF WS i (some j)) (((BD.set i none).take n).map (cl j) ++ (BD.set i none).drop n) ∧ Mv [1] L L H G) ⟨_, rfl, by simpa using W2, m2⟩ (fun n σ G hn => ?_) (fun σ G => ?_)
        · rintro ⟨v6, rfl, W3, m3⟩
          rw [List.length_map] at hn
          generalize hB : BD.set i none = B at *
          have hn : n < B.length := by omega
          have eB : B.drop n = B[n] :: B.drop (n + 1) := List.drop_eq_getElem_cons hn
          have hat : (((B.take n).map (cl j) ++ B.drop n).map oV)[n]? = some (oV B[n]) := by
            rw [List.getElem?_map, List.getElem?_append_right (by rw [List.length_map, List.length_take]; omega), List.length_map, List.length_take, Nat.min_eq_left (by omega), Nat.sub_self, eB]
            rfl
          have enx : (B.take (n + 1)).map (cl j) ++ B.drop (n + 1) = (B.take n).map (cl j) ++ (cl j B[n] :: B.drop (n + 1)) := by
            rw [List.take_add_one, List.getElem?_eq_getElem hn, List.map_append, List.append_assoc]
            rfl
          have hf3 := tp m3 hf
          have hlt : ((B.take n).map (cl j)).length = n := by rw [List.length_map, List.length_take]; omega
          walk_at "wp"
          rw [Int.zero_add]
          refine ⟨_, SqL.of W3.hb, _, atI_nat hat, _, SqT.of hf3, _, atI_nat (j := 2) rfl, o, rfl, _, SqT.of (tp m3 d1), .int j, atI_nat (j := 0) rfl, by cases B[n] <;> rfl, ?_⟩
          by_cases c9 : B[n] = some j
          · rw [if_pos (show oV B[n] = V.int (j : Int) by rw [c9]; rfl)]
            refine ⟨_, W3.hb, n, ixn (by rw [List.length_map, List.length_append, hlt, List.length_drop]; omega), ?_, m3.trans (Mv.set W3.hb (by rw [W3.l1.2.2.2]; simp))⟩
            have := W3.setB (i := n) (o := none)
            rw [List.set_append_right n none (by omega), hlt, Nat.sub_self, eB] at this
            rw [enx, c9, show cl j (some j) = none by unfold cl; rw [if_pos rfl]]
            rw [eB]
            exact this
          · rw [if_neg (fun z => c9 (by
              cases e9 : B[n] with
              | none => rw [e9] at z; cases z
              | some y => rw [e9] at z; have : (y : Int) = j := V.int.inj z; rw [show y = j by omega]))]
            refine ⟨?_, m3⟩
            rw [enx, show cl j B[n] = B[n] by unfold cl; rw [if_neg c9], ← eB]
            exact W3
        · rintro ⟨v6, rfl, W3, m3⟩
          rw [List.length_map, show ((((BD.set i none).length : Nat) : Int)).toNat = (BD.set i none).length by omega, List.take_length, List.drop_length, List.append_nil] at W3
          exact ⟨_, rfl, W3, m3⟩
    rintro ⟨v6, rfl, W2, m2⟩
    obtain ⟨us, f1, f2⟩ := W2.hf
    have hul := Paired.length f2
    walk_at "wp"
    refine ⟨_, SqL.of W2.hw, _, atI_nat (j := 0) rfl, wf, rfl, us, f1, i, ixn (by omega), ?_⟩
    exact q _ (W2.setF f1 (i := i) (o := some k) ⟨h, rfl, tp m2 hh⟩) (m2.trans (Mv.set f1 (by rw [W2.l1.2.1]; simp)))
theorem SsAt.bxl {C P S : Addr} {H : Hp} {z : Ss} {s : St} (h : SsAt C P S H z s) {r : Sh} (hr : some r ∈ s.fr ∨ some r ∈ s.sr) : H r.bx = some (.lst (r.b.map V.int)) := by
  obtain ⟨_, _, _, _, f3, _⟩ := h.fr
  obtain ⟨_, _, _, _, g3, _⟩ := h.sl
  rcases hr with hr | hr
  · obtain ⟨i, hi⟩ := List.mem_iff_getElem?.mp hr
    obtain ⟨_, _, _, _, e, _⟩ := prd_get2 f3 hi
    exact e
  · obtain ⟨i, hi⟩ := List.mem_iff_getElem?.mp hr
    obtain ⟨_, _, _, _, e, _⟩ := prd_get2 g3 hi
    exact e

def hk (r : Sh) : List Key := r.ks.headD []
def kys (rows : List (Option Sh)) : List (Option (List Key)) := rows.map fun o => o.map hk
theorem kys_set {rows : List (Option Sh)} {i : Nat} {o : Option Sh} : kys (rows.set i o) = (kys rows).set i (o.map hk) := by unfold kys; rw [List.map_set]
theorem kys_len {rows : List (Option Sh)} : (kys rows).length = rows.length := by unfold kys; exact List.length_map ..
theorem kys_at {rows : List (Option Sh)} {i : Nat} {o : Option Sh} (h : rows[i]? = some o) : (kys rows)[i]? = some (o.map hk) := by unfold kys; rw [List.getElem?_map, h]; rfl
abbrev Vl := List Key × Addr × List Int
structure Va (H : Hp) (L : Lb) (vd : Addr) (W : List Vl) (n : Nat) : Prop where
  hv : H vd = some (.dT (W.map fun x => (x.1, V.ref x.2.1)))
  va : ∀ x ∈ W, H x.2.1 = some (.lst (x.2.2.map V.int)) ∧ L x.2.1 = 3 ∧ x.2.2.length = n
  vn : (W.map fun x => x.2.1).Nodup
  vk : (W.map fun x => x.1).Nodup
structure Vs (s : St) (W : List Vl) : Prop where
  one : ∀ r, some r ∈ s.fr ∨ some r ∈ s.sr → r.ks = [hk r] ∧ Tri (hk r) ∧ ∃ a, (hk r, a, r.b) ∈ W
  nd : ((alS s).map hk).Nodup
theorem Va.zv {N : List Nat} {H H' : Hp} {L L' : Lb} {vd : Addr} {W : List Vl} {n : Nat} (h : Va H L vd W n) (z : Zv N L L' H H') (h3 : 3 ∉ N) (hd : H' vd = H vd) : Va H' L' vd W n :=
  ⟨hd.trans h.hv, fun x hx => let ⟨a, b, c⟩ := h.va x hx; ⟨(z.lst a b (by decide) h3).1, (z.lst a b (by decide) h3).2, c⟩, h.vn, h.vk⟩
theorem Va.get {H : Hp} {L : Lb} {vd : Addr} {W : List Vl} {n : Nat} (h : Va H L vd W n) {k : List Key} {a : Addr} {b : List Int} (hx : (k, a, b) ∈ W) : valV (W.map fun x => (x.1, V.ref x.2.1)) k = some (.ref a) := by
  have hk := h.vk
  clear h
  induction W with
  | nil => cases hx
  | cons y l ih =>
    obtain ⟨n1, n2⟩ := List.nodup_cons.mp hk
    by_cases c : y.1 = k
    · rcases List.mem_cons.mp hx with e | e
      · rw [← e]; exact valV_pos rfl
      · exact absurd (List.mem_map.mpr ⟨_, e, rfl⟩) (by rw [← c]; exact n1)
    · rw [List.map_cons, valV_neg c]
      rcases List.mem_cons.mp hx with e | e
      · exact absurd (by rw [← e]) c
      · exact ih e n2
theorem Va.put {H : Hp} {L : Lb} {vd : Addr} {W : List Vl} {n : Nat} (h : Va H L vd W n) {k : List Key} {a : Addr} {b : List Int} (hk : k ∉ W.map fun x => x.1) (ha : H a = some (.lst (b.map V.int))) (hl : L a = 3) (hn : b.length = n) (hna : a ∉ W.map fun x => x.2.1) : Va (upd H vd (.dT (putK (W.map fun x => (x.1, V.ref x.2.1)) k (.ref a)))) L vd (W ++ [(k, a, b)]) n := by
  have nv : valV (W.map fun x => (x.1, V.ref x.2.1)) k = none := by
    clear h ha
    induction W with
    | nil => rfl
    | cons y l ih =>
      rw [List.map_cons] at hk
      rw [List.map_cons, valV_neg (fun e => hk (by rw [← e]; exact List.mem_cons_self ..))]
      exact ih (fun z => hk (List.mem_cons_of_mem _ z)) (fun z => hna (List.mem_cons_of_mem _ z))
  have ep : putK (W.map fun x => (x.1, V.ref x.2.1)) k (.ref a) = (W ++ [(k, a, b)]).map fun x => (x.1, V.ref x.2.1) := by
    unfold putK
    rw [valV_any, nv, List.map_append]
    rfl
  rw [ep]
  refine ⟨upd_same, fun x hx => ?_, ?_, ?_⟩
  · rcases List.mem_append.mp hx with e | e
    · obtain ⟨x1, x2, x3⟩ := h.va x e
      exact ⟨by rw [upd_ne (ne_of x1 h.hv (fun z => nomatch z))]; exact x1, x2, x3⟩
    · rw [List.mem_singleton.mp e]
      exact ⟨by rw [upd_ne (ne_of ha h.hv (fun z => nomatch z))]; exact ha, hl, hn⟩
  · rw [List.map_append, List.nodup_append]
    exact ⟨h.vn, by simp, fun x hx y hy e => by
      have e2 : y = a := List.mem_singleton.mp hy
      exact hna (by rw [← e2, ← e]; exact hx)⟩
  · rw [List.map_append, List.nodup_append]
    exact ⟨h.vk, by simp, fun x hx y hy e => by
      have e2 : y = k := List.mem_singleton.mp hy
      exact hk (by rw [← e2, ← e]; exact hx)⟩
structure Tx (A : Adr) (H : Hp) (z : Ss) (s : St) (L : Lb) (wh wf ws bd vd : Addr) (W : List Vl) (n : Nat) : Prop where
  ss : SsAt A.C_Sheets A.C_Spots A.C_Sheet H z s
  ap : Ap s
  tw : Tw s
  bx : Bx s
  l0 : ∀ c ∈ z.four, L c = 0
  lb : ∀ r, some r ∈ s.fr ∨ some r ∈ s.sr → L r.bx = 0
  wl : Wl H L wh wf ws bd (kys s.fr) (kys s.sr) s.tf
  va : Va H L vd W n
  vs : Vs s W
section
variable {A : Adr} {H H' : Hp} {z : Ss} {s s' : St} {L L' : Lb} {wh wf ws bd vd : Addr} {W : List Vl} {n : Nat}
theorem Tx.same (h : Tx A H z s L wh wf ws bd vd W n) (e : Same H H') : Tx A H' z s L wh wf ws bd vd W n :=
  ⟨h.ss.same e, h.ap, h.tw, h.bx, h.l0, h.lb, h.wl.same e, h.va.zv (N := []) (Zv.of e) (by simp) (by rw [h.va.hv]; exact e _ _ h.va.hv), h.vs⟩
theorem Tx.okh (h : Tx A H z s L wh wf ws bd vd W n) {r : Sh} (hr : some r ∈ s.fr ∨ some r ∈ s.sr) : Okh r := by
  obtain ⟨h1, h2, _⟩ := h.vs.one r hr
  show Okk r.ks
  rw [h1]
  exact ⟨by show 1 < 64; decide, by simp, fun k hk => by rw [List.mem_singleton.mp hk]; exact h2⟩
theorem Tx.blen (h : Tx A H z s L wh wf ws bd vd W n) {r : Sh} (hr : some r ∈ s.fr ∨ some r ∈ s.sr) : r.b.length = n := by
  obtain ⟨_, _, a, h3⟩ := h.vs.one r hr
  exact (h.va.va _ h3).2.2
theorem Tx.lab (h : Tx A H z s L wh wf ws bd vd W n) {a : Addr} {k : Nat} {us : List V} (e : Same H H') (ha : H a = none) (g : H' a = some (.lst us)) : Tx A H' z s (Pf.lab L a k) wh wf ws bd vd W n := by
  have m : Mv [] L (Pf.lab L a k) H H' := Mv.lab e ha
  have zz := m.zv h.wl.lv (by simp)
  refine ⟨h.ss.same e, h.ap, h.tw, h.bx, fun c hc => ?_, fun r hr => ?_, h.wl.zv zz (by simp) (h.wl.lv.lab e g), h.va.zv zz (by simp) (by rw [h.va.hv]; exact e _ _ h.va.hv), h.vs⟩
  · obtain ⟨us, e9⟩ := h.ss.fours c hc
    rw [m.lx.at e9]; exact h.l0 c hc
  · rw [m.lx.at (h.ss.bxl hr)]; exact h.lb r hr
end

structure Cs (A : Adr) (H : Hp) (z : Ss) (s : St) (L : Lb) : Prop where
  ss : SsAt A.C_Sheets A.C_Spots A.C_Sheet H z s
  l0 : ∀ c ∈ z.four, L c = 0
  lb : ∀ r, some r ∈ s.fr ∨ some r ∈ s.sr → L r.bx = 0
theorem Cs.mv {A : Adr} {H H' : Hp} {z : Ss} {s : St} {L L' : Lb} {N : List Nat} (h : Cs A H z s L) (m : Mv N L L' H H') (l : Lv L H) (h0 : 0 ∉ N) : Cs A H' z s L' := by
  refine ⟨h.ss.mv m l h0 h.l0 h.lb, fun c hc => ?_, fun r hr => ?_⟩
  · obtain ⟨us, e⟩ := h.ss.fours c hc
    rw [m.lx.at e]; exact h.l0 c hc
  · rw [m.lx.at (h.ss.bxl hr)]; exact h.lb r hr
theorem com_out {s s1 : St} {c : Option Nat} {ms : List Bool} {i : Nat} {ps : List Int} {out : Option (Nat × Sh)} {k : List Key} (h : Ffr s c ms s1 i ps out) (hT : Tw s) : (kys s1.fr).set i (some k) = comF (kys s.fr) i k ∧ kys s1.sr = comS (kys s.fr) (kys s.sr) i (out.map (·.1)) ∧ s1.tf = comB s.tf i (out.map (·.1)) := by
  rcases h with ⟨h1, rfl, _, rfl⟩ | ⟨h1, q, j, hsw, hq, hsf, hj, rfl, rfl⟩
  · obtain ⟨e1, e2⟩ := emp_some h1
    refine ⟨rfl, rfl, ?_⟩
    show s1.tf = s1.tf.set i none
    obtain ⟨x1, x2⟩ := List.getElem?_eq_some_iff.mp e2
    rw [← x2, List.set_getElem_self]
  · obtain ⟨e1, e2, _, _, _, _, e7, _⟩ := outS_eq (s := { s with h := (i + 1) % s.fr.length }) (i := i) (j := j) (r := q)
    obtain ⟨t1, t2⟩ := (hT.hand (h := (i + 1) % s.fr.length)).out (r := q) (j := j) fun b hb => slotF_own (s := s) hsf hb
    obtain ⟨c1, _⟩ := clr_cl (j := j) (hT.hand (h := (i + 1) % s.fr.length))
    rw [e7, c1] at t2
    refine ⟨?_, ?_, ?_⟩
    · rw [e1, kys_set, List.set_set]; rfl
    · rw [e2, kys_set]
      show _ = (kys s.sr).set j ((kys s.fr)[i]?.getD none)
      rw [kys_at hq]; rfl
    · rw [e7, c1]
      show s.tf.map (cl j) = (s.tf.set i none).map (cl j)
      rw [List.map_set]
      show _ = (s.tf.map (cl j)).set i none
      by_cases hi : i < (s.tf.map (cl j)).length
      · have : (s.tf.map (cl j))[i] = none := by
          cases e : (s.tf.map (cl j))[i] with
          | none => rfl
          | some b => exact absurd (show (s.tf.map (cl j))[i]? = some (some b) by rw [List.getElem?_eq_getElem hi, e]) (t2 b)
        rw [← this, List.set_getElem_self]
      · rw [List.set_eq_of_length_le (by omega)]
theorem com_back {s s1 : St} {ms : List Bool} {i j : Nat} {ps : List Int} {out : Option (Nat × Sh)} {c : Sh} (h : Ffr s (some j) ms s1 i ps out) (hT : Tw s) (hc : s.sr[j]? = some (some c)) : kys (bckS s1 i j c out).fr = comF (kys s.fr) i (hk c) ∧ kys (bckS s1 i j c out).sr = comS (kys s.fr) ((kys s.sr).set j none) i (out.map (·.1)) ∧ (bckS s1 i j c out).tf = if out.map (·.1) = some j then comB s.tf i (out.map (·.1)) else (comB s.tf i (out.map (·.1))).set i (some j) := by
  obtain ⟨b1, b2, b3, _⟩ := bck_eq (s1 := s1) (i := i) (j := j) (c := c) (out := out)
  obtain ⟨x1, x2, x3⟩ := com_out (k := hk c) h hT
  refine ⟨?_, ?_, ?_⟩
  · rw [b1, kys_set]; exact x1
  · rw [b2]
    cases out with
    | none =>
      rw [if_neg (by simp), kys_set, x2]; rfl
    | some y =>
      obtain ⟨j2, q⟩ := y
      by_cases e : j2 = j
      · subst e
        rw [if_pos (show Option.map (fun x : Nat × Sh => x.1) (some (j2, q)) = some j2 from rfl), x2]
        show (kys s.sr).set j2 _ = ((kys s.sr).set j2 none).set j2 _
        rw [List.set_set]
      · rw [if_neg (show ¬ (Option.map (fun x : Nat × Sh => x.1) (some (j2, q)) = some j) from fun z => e (Option.some.inj z)), kys_set, x2]
        show ((kys s.sr).set j2 _).set j none = ((kys s.sr).set j none).set j2 _
        exact List.set_comm _ _ e
  · rw [b3, x3]
theorem Vs.pm {s s' : St} {W : List Vl} (h : Vs s W) (p : (alS s').Perm (alS s)) : Vs s' W := ⟨fun r hr => h.one r (alS_mem.mp (p.mem_iff.mp (alS_mem.mpr hr))), (p.map hk).nodup_iff.mpr h.nd⟩
def sp_lback (A : Adr) : Sp := fun vs H Q _ => ∃ (z : Ss) (s : St) (L : Lb) (wh wf ws bd vd m : Addr) (W : List Vl) (n j : Nat) (ms : List Bool) (c : Sh), vs = [.ref z.p, .ref wh, .ref bd, .int (j : Int), .ref m] ∧ Tx A H z s L wh wf ws bd vd W n ∧ s.sr[j]? = some (some c) ∧ H m = some (.lst (ms.map V.bl)) ∧ L m = 5 ∧ ms.length = s.fr.length ∧
  ∀ H' s', Tx A H' z s' L wh wf ws bd vd W n → Zv [1] L L H H' → s'.fr.length = s.fr.length → s'.sr.length = s.sr.length → Q .non H'
theorem h_lback (T : Txt K mg A) : Have P w K mg base "_law_back" 8 ["_law_sheets", "_law_where", "_law_bound", "_law_slot", "_law_marks"] [] (sp_lback A) := by
  have H_l_come := h_come (P := P) (w := w) (base := base) T
  have H_Sheets_back := h_back (P := P) (w := w) (base := base) T
  refine T.r_l_back.have sc_l_back (fun vs H Q E z => ?_) ?_
  · obtain ⟨z, s, L, wh, wf, ws, bd, vd, m, W, n, j, ms, c, rfl, _⟩ := z; rfl
  · intro f cdv A' outer s H vs Q E hr z
    obtain ⟨z, s, L, wh, wf, ws, bd, vd, m, W, n, j, ms, c, rfl, hX, hc, hm, hlm, hml, q⟩ := z
    obtain ⟨us, hs, hP⟩ := hX.wl.hs
    have hul := Paired.length hP
    rw [kys_len] at hul
    have hjl := (List.getElem?_eq_some_iff.mp hc).1
    obtain ⟨v, hv, a, rfl, ha⟩ := prd_get2 hP (kys_at hc)
    have h64 := hX.ss.len
    refine ⟨_, (pss_cons (ps_set (i := 5) sc_l_back.nd rfl (Or.inl rfl) (pe_ix ix_list (pe_ix ix_list (pvM 1) pe_int (fun _ _ => rfl)) (pvM 3) (fun _ _ => rfl)))
      (pss_cut (ps_asg pe_non (pg_sub (pe_ix ix_list (pvM 1) pe_int (fun _ _ => rfl)) (pvM 3) set_list))
      (pss_cut (ps_set (i := 6) sc_l_back.nd rfl (Or.inl rfl) (pe_methE (pvM 0) T.cl_Sheets H_Sheets_back (hr.mono (by decide)) xw_def (pa_cons (pvM 3) (pa_cons (pvM 4) pa_nil))))
      (pss_cut (ps_expr (pe_callE H_l_come (hr.mono (by decide)) xw_def (pa_cons (pvM 1) (pa_cons (pvM 2) (pa_cons (pvM 6) (pa_cons (pvM 5) pa_nil))))))
      (pss_one (ps_if (PW.pt (pw_or (pt_cmpR op_isN (pe_ix ix_tup (pvM 6) pe_int (fun _ _ => rfl)) pe_non (nomark _)) (pw_or1 (pt_cmpR op_ne (pe_ix ix_tup (pe_ix ix_tup (pvM 6) pe_int (fun _ _ => rfl)) pe_int (fun _ _ => rfl)) (pvM 3) (nomark _))))) (pss_one (ps_asg (pvM 3) (pg_sub (pvM 2) (pe_ix ix_tup (pvM 6) pe_int (fun _ _ => rfl)) set_list))) pss_nil)))))), ?_⟩
    walk_at "wp"
    refine ⟨_, SqL.of hX.wl.hw, _, atI_nat (j := 1) rfl, ws, rfl, _, SqL.of hs, _, atI_nat hv, ?_⟩
    refine ⟨fun σ G => σ = [some (.ref z.p), some (.ref wh), some (.ref bd), some (.int (j : Int)), some (.ref m), some (.ref a), none] ∧ Wl G L wh wf ws bd (kys s.fr) ((kys s.sr).set j none) s.tf ∧ Mv [1] L L H G, ?_, fun σ1 G1 => ?_⟩
    · walk_at "wp"
      exact ⟨_, SqL.of hX.wl.hw, _, atI_nat (j := 1) rfl, ws, rfl, us, hs, j, ixn (by omega), hX.wl.setS hs (o := none) rfl, Mv.set hs (by rw [hX.wl.l1.2.2.1]; simp)⟩
    rintro ⟨rfl, W1, m1⟩
    have cs1 : Cs A G1 z s L := Cs.mv ⟨hX.ss, hX.l0, hX.lb⟩ m1 hX.wl.lv (by simp)
    have z1 : Zv [1] L L H G1 := m1.zv hX.wl.lv (by simp)
    obtain ⟨hm1, _⟩ := z1.lst hm hlm (by decide) (by simp)
    have ha1 := z1.tup ha
    refine ⟨fun σ G => ∃ t, σ = [some (.ref z.p), some (.ref wh), some (.ref bd), some (.int (j : Int)), some (.ref m), some (.ref a), some (.ref t)] ∧ ∃ s1 i ps out e v3, Ffr s (some j) ms s1 i ps out ∧ SsAt A.C_Sheets A.C_Spots A.C_Sheet G z (bckS s1 i j c out) ∧ Ap (bckS s1 i j c out) ∧ Tw (bckS s1 i j c out) ∧ G t = some (.tup [.int (i : Int), .ref e, v3]) ∧ OutW G v3 (out.map (·.1)) ∧ Ks z G1 G, ?_, fun σ2 G2 => ?_⟩
    · obtain ⟨dx9, h9⟩ := cs1.ss.me
      walk_at "wp"
      refine ⟨dx9, _, h9, ssF_no (by decide +kernel), z, s, j, m, ms, c, rfl, cs1.ss, hX.ap, hX.tw, hm1, hml, fun r hr => hX.okh (.inl hr), hc, fun H' s1 i ps out t e v3 a1 a2 a3 a4 a5 a6 a7 a8 a9 => ?_⟩
      exact ⟨t, rfl, s1, i, ps, out, a1, a2, a3, a4, e, v3, a5, a7.wo, a9⟩
    rintro ⟨t, rfl, s1, i, ps, out, e, v3, hF, S2, A2, T2, ht2, ho2, k2⟩
    have z2 : Zv [] L L G1 G2 := Zv.ks cs1.ss S2 k2.kd cs1.l0 W1.lv (k2.dm cs1.ss S2)
    have W2 := W1.zv z2 (by simp) (W1.lv.zv z2)
    have pm := hF.alsB hX.tw hc
    have cs2 : Cs A G2 z (bckS s1 i j c out) L := ⟨S2, hX.l0, fun r hr => hX.lb r (alS_mem.mp (pm.mem_iff.mp (alS_mem.mpr hr)))⟩
    obtain ⟨f1, f2, f3, f4, f5, f6, _⟩ := hF.facts hX.tw
    have hil := (List.getElem?_eq_some_iff.mp f1).1
    obtain ⟨x1, x2, x3⟩ := com_back hF hX.tw hc
    have hjo : ∀ j2, out.map (·.1) = some j2 → j2 < s.sr.length := fun j2 e9 => by
      rcases hF with ⟨_, _, _, rfl⟩ | ⟨_, q9, j9, _, _, _, y, _, rfl⟩
      · cases e9
      · cases e9; exact y
    have hl := hX.ss.lens
    refine ⟨fun σ G => σ = [some (.ref z.p), some (.ref wh), some (.ref bd), some (.int (j : Int)), some (.ref m), some (.ref a), some (.ref t)] ∧ Wl G L wh wf ws bd (comF (kys s.fr) i (hk c)) (comS (kys s.fr) ((kys s.sr).set j none) i (out.map (·.1))) (comB s.tf i (out.map (·.1))) ∧ Mv [1] L L G2 G, ?_, fun σ3 G3 => ?_⟩
    · walk_at "wp"
      exact ⟨L, wh, wf, ws, bd, t, a, e, _, _, _, i, v3, _, hk c, rfl, W2, ht2, ho2, z2.tup ha1, by rw [kys_len]; omega, by rw [kys_len]; exact hl.1, by rw [kys_len]; omega, fun j2 e9 => by rw [List.length_set, kys_len]; exact hjo j2 e9, fun H' y1 y2 => ⟨y1, y2⟩⟩
    rintro ⟨rfl, W3, m3⟩
    have cs3 : Cs A G3 z (bckS s1 i j c out) L := cs2.mv m3 W2.lv (by simp)
    have z3 : Zv [1] L L H G3 := (z1.trans (z2.sub (by simp))).trans (m3.zv W2.lv (by simp))
    have tp3 : ∀ {c us}, G2 c = some (.tup us) → G3 c = some (.tup us) := fun hc => (m3.zv W2.lv (by simp)).tup hc
    have fin : ∀ G, Wl G L wh wf ws bd (kys (bckS s1 i j c out).fr) (kys (bckS s1 i j c out).sr) (bckS s1 i j c out).tf → Mv [1] L L G3 G → Q .non G := fun G w9 m9 => by
      have z9 := z3.trans (m9.zv W3.lv (by simp))
      have cs9 := cs3.mv m9 W3.lv (by simp)
      have hvd : G vd = H vd := by
        have e1 : G1 vd = H vd := by rw [hX.va.hv]; exact m1.kw _ _ hX.va.hv (by rw [hX.wl.lv.zero hX.va.hv fun _ z => nomatch z]; simp)
        have e2 : G2 vd = H vd := by
          rw [hX.va.hv]
          rw [hX.va.hv] at e1
          refine k2 _ _ e1 (fun e9 => ?_) (fun e9 => ?_)
          · obtain ⟨dx, h9⟩ := cs1.ss.me
            rw [e9, h9] at e1; cases e1
          · obtain ⟨us, h9⟩ := cs1.ss.fours _ e9
            rw [h9] at e1; cases e1
        have e3 : G3 vd = H vd := by
          rw [hX.va.hv] at e2 ⊢
          exact m3.kw _ _ e2 (by rw [W2.lv.zero e2 fun _ z => nomatch z]; simp)
        rw [hX.va.hv] at e3 ⊢
        exact m9.kw _ _ e3 (by rw [W3.lv.zero e3 fun _ z => nomatch z]; simp)
      obtain ⟨b1, b2, _⟩ := bck_eq (s1 := s1) (i := i) (j := j) (c := c) (out := out)
      exact q G _ ⟨cs9.ss, A2, T2, (pm.map Sh.bx).nodup_iff.mpr hX.bx, cs9.l0, cs9.lb, w9, hX.va.zv z9 (by simp) hvd, hX.vs.pm pm⟩ z9 (by rw [b1, List.length_set]; exact f2) (by rw [b2]; split <;> (try rw [List.length_set]) <;> exact f3)
    rw [x1, x2, x3] at fin
    have ht3 := tp3 ht2
    have hb3 := W3.hb
    have hbl : (comB s.tf i (out.map (·.1))).length = s.fr.length := by
      cases out with
      | none => show (s.tf.set i none).length = _; rw [List.length_set]; exact hl.1
      | some y => show ((s.tf.set i none).map (cl y.1)).length = _; rw [List.length_map, List.length_set]; exact hl.1
    walk_at "wp"
    refine ⟨_, SqT.of ht3, v3, atI_nat (j := 2) rfl, ?_⟩
    cases out with
    | none =>
      obtain rfl : v3 = .non := ho2
      rw [if_pos rfl]
      rw [if_neg (by simp)] at fin
      exact ⟨_, SqT.of ht3, .int i, atI_nat (j := 0) rfl, _, (i : Int), rfl, hb3, i, ixn (by rw [List.length_map, hbl]; omega), fin _ (W3.setB (i := i) (o := some j)) (Mv.set hb3 (by rw [W3.l1.2.2.2]; simp))⟩
    | some y =>
      obtain ⟨j2, q2⟩ := y
      obtain ⟨o, l, rfl, d1⟩ := ho2
      rw [if_neg (fun z => nomatch z)]
      refine ⟨_, SqT.of ht3, .ref o, atI_nat (j := 2) rfl, o, rfl, _, SqT.of (tp3 d1), .int j2, atI_nat (j := 0) rfl, rfl, ?_⟩
      by_cases c9 : j2 = j
      · subst c9
        rw [if_pos (show Option.map (fun x : Nat × Sh => x.1) (some (j2, q2)) = some j2 from rfl)] at fin
        exact ifn (by simp) (fin G3 W3 (Mv.of same_refl))
      · rw [if_neg (show ¬ (Option.map (fun x : Nat × Sh => x.1) (some (j2, q2)) = some j) from fun z => c9 (Option.some.inj z))] at fin
        exact ifp (by simp; omega) ⟨_, SqT.of ht3, .int i, atI_nat (j := 0) rfl, _, (i : Int), rfl, hb3, i, ixn (by rw [List.length_map, hbl]; omega), fin _ (W3.setB (i := i) (o := some j)) (Mv.set hb3 (by rw [W3.l1.2.2.2]; simp))⟩

theorem Kb.zv {C P S : Addr} {z : Ss} {s s' : St} {L : Lb} {H H' : Hp} {b : Addr} (k : Kb z b H H') (hS : SsAt C P S H z s) (hS' : SsAt C P S H' z s') (hb : ∃ o, H' b = some o) (l0 : ∀ c ∈ z.four, L c = 0) (lb : L b = 0) (nb : ∃ us, H b = some (.lst us)) (l : Lv L H) : Zv [] L L H H' := by
  obtain ⟨dx, h1⟩ := hS.me
  refine ⟨fun _ => .inl rfl, fun c o hc n => ?_, fun c hc => ?_⟩
  · refine k c o hc (fun e => ?_) (fun e => ?_) (fun e => ?_)
    · rcases n with n | n
      · rw [e, h1] at hc
        obtain ⟨ws, h | ⟨p, h⟩⟩ := n <;> (rw [← Option.some.inj hc] at h; cases h)
      · obtain ⟨us, h9⟩ := l c n.1
        rw [e, h1] at h9; cases h9
    · rcases n with n | n
      · obtain ⟨us, h9⟩ := hS.fours c e
        rw [hc] at h9
        exact tf_nl n us (Option.some.inj h9)
      · exact n.1 (l0 c e)
    · rcases n with n | n
      · obtain ⟨us, h9⟩ := nb
        rw [← e, hc] at h9
        exact tf_nl n us (Option.some.inj h9)
      · exact n.1 (by rw [e]; exact lb)
  · cases e : H c with
    | none => rfl
    | some o =>
      by_cases c1 : c = z.p
      · obtain ⟨dx, h1⟩ := hS'.me
        rw [c1, h1] at hc; cases hc
      · by_cases c2 : c ∈ z.four
        · exact absurd c2 (hS'.nf hc)
        · by_cases c3 : c = b
          · obtain ⟨o, ho⟩ := hb
            rw [c3, ho] at hc; cases hc
          · have := k c o e c1 c2 c3
            rw [hc] at this; cases this
theorem mem_wr {s : St} {i : Nat} {r q : Sh} (h : some q ∈ (untie (s.put true i (some r)) i).fr ∨ some q ∈ (untie (s.put true i (some r)) i).sr) : q = r ∨ some q ∈ s.fr ∨ some q ∈ s.sr := by
  rw [untie_eq.1, untie_eq.2.1] at h
  exact (mem_put h).imp (fun e => Option.some.inj e) id

def setW (W : List Vl) (k : List Key) (b : List Int) : List Vl := W.map fun x => if x.1 = k then (x.1, x.2.1, b) else x
theorem setW_keys {W : List Vl} {k : List Key} {b : List Int} : (setW W k b).map (fun x => (x.1, V.ref x.2.1)) = W.map (fun x => (x.1, V.ref x.2.1)) ∧ (setW W k b).map (fun x => x.2.1) = W.map (fun x => x.2.1) ∧ (setW W k b).map (fun x => x.1) = W.map (fun x => x.1) := by
  unfold setW
  refine ⟨?_, ?_, ?_⟩
  · rw [List.map_map]
    exact List.map_congr_left fun x _ => by
      show ((if x.1 = k then (x.1, x.2.1, b) else x : Vl).1, V.ref (if x.1 = k then (x.1, x.2.1, b) else x : Vl).2.1) = (x.1, V.ref x.2.1)
      split <;> rfl
  · rw [List.map_map]
    exact List.map_congr_left fun x _ => by
      show (if x.1 = k then (x.1, x.2.1, b) else x : Vl).2.1 = x.2.1
      split <;> rfl
  · rw [List.map_map]
    exact List.map_congr_left fun x _ => by
      show (if x.1 = k then (x.1, x.2.1, b) else x : Vl).1 = x.1
      split <;> rfl
theorem Va.wr {H : Hp} {L : Lb} {vd : Addr} {W : List Vl} {n : Nat} (h : Va H L vd W n) {k : List Key} {a : Addr} {b0 b : List Int} (hx : (k, a, b0) ∈ W) (hn : b.length = n) : Va (upd H a (.lst (b.map V.int))) L vd (setW W k b) n := by
  obtain ⟨e1, e2, e3⟩ := setW_keys (W := W) (k := k) (b := b)
  obtain ⟨y1, y2, y3⟩ := h.va _ hx
  refine ⟨by rw [e1, upd_ne (ne_of h.hv y1 (fun z => nomatch z))]; exact h.hv, fun x hx9 => ?_, by rw [e2]; exact h.vn, by rw [e3]; exact h.vk⟩
  obtain ⟨x0, hx0, rfl⟩ := List.mem_map.mp hx9
  obtain ⟨z1, z2, z3⟩ := h.va x0 hx0
  have uniq : ∀ {p q : Vl}, p ∈ W → q ∈ W → p.1 = q.1 → p = q := fun {p q} hp hq e => by
    have := h.vk
    clear h hx hx0 hx9 e1 e2 e3 y1 y2 y3 z1 z2 z3
    induction W with
    | nil => cases hp
    | cons w l ih =>
      obtain ⟨m1, m2⟩ := List.nodup_cons.mp this
      rcases List.mem_cons.mp hp with a1 | a1 <;> rcases List.mem_cons.mp hq with a2 | a2
      · rw [a1, a2]
      · exact absurd (List.mem_map.mpr ⟨q, a2, by rw [← e, a1]⟩) m1
      · exact absurd (List.mem_map.mpr ⟨p, a1, by rw [e, a2]⟩) m1
      · exact ih a1 a2 m2
  by_cases c : x0.1 = k
  · have e9 : x0 = (k, a, b0) := uniq hx0 hx c
    subst e9
    rw [if_pos rfl]
    exact ⟨upd_same, y2, hn⟩
  · rw [if_neg c]
    have na : x0.2.1 ≠ a := fun e => by
      have := h.vn
      clear h hx9 e1 e2 e3 y1 y2 y3 z1 z2 z3 uniq
      induction W with
      | nil => cases hx
      | cons w l ih =>
        obtain ⟨m1, m2⟩ := List.nodup_cons.mp this
        rcases List.mem_cons.mp hx0 with a1 | a1 <;> rcases List.mem_cons.mp hx with a2 | a2
        · exact c (by rw [a1, ← a2])
        · exact m1 (List.mem_map.mpr ⟨_, a2, by rw [← a1]; exact e.symm⟩)
        · exact m1 (List.mem_map.mpr ⟨_, a1, by rw [← a2]; exact e⟩)
        · exact ih a2 a1 m2
    exact ⟨by rw [upd_ne na]; exact z1, z2, z3⟩
theorem Vs.wr {s : St} {W : List Vl} {i : Nat} {r : Sh} {b : List Int} (h : Vs s W) (hr : s.fr[i]? = some (some r)) : Vs (untie (s.put true i (some { r with b := b })) i) (setW W (hk r) b) := by
  have p1 : (alS s).Perm (r :: (als (s.fr.set i none) ++ als s.sr)) := by unfold alS; rw [als_app]; exact (als_take hr).append_right _
  have p2 : (alS (untie (s.put true i (some { r with b := b })) i)).Perm ({ r with b := b } :: (als (s.fr.set i none) ++ als s.sr)) := by
    unfold alS
    rw [untie_eq.1, untie_eq.2.1]
    show (als (s.fr.set i (some { r with b := b }) ++ s.sr)).Perm _
    rw [als_app]
    exact (als_put hr).append_right _
  have n1 : (hk r :: (als (s.fr.set i none) ++ als s.sr).map hk).Nodup := (p1.map hk).nodup_iff.mp h.nd
  refine ⟨fun q hq => ?_, (p2.map hk).nodup_iff.mpr n1⟩
  rcases List.mem_cons.mp (p2.mem_iff.mp (alS_mem.mpr hq)) with e | e
  · obtain ⟨x1, x2, a, x3⟩ := h.one r (.inl (List.mem_of_getElem? hr))
    rw [e]
    exact ⟨x1, x2, a, List.mem_map.mpr ⟨_, x3, if_pos rfl⟩⟩
  · obtain ⟨x1, x2, a, x3⟩ := h.one q (alS_mem.mp (p1.mem_iff.mpr (List.mem_cons_of_mem _ e)))
    refine ⟨x1, x2, a, List.mem_map.mpr ⟨_, x3, if_neg fun z => ?_⟩⟩
    exact (List.nodup_cons.mp n1).1 (by rw [← show hk q = hk r from z]; exact List.mem_map.mpr ⟨q, e, rfl⟩)
def WrI (H : Hp) (L : Lb) (vd : Addr) (W : List Vl) (n : Nat) (k : List Key) (b : List Int) (a : Addr) (x : Nat) (G : Hp) : Prop := ∃ y : Int, Va G L vd (setW W k (b.set x y)) n ∧ Mv [3] L L H G ∧ G a = some (.lst ((b.set x y).map V.int)) ∧ Lv L G
def sp_wr (A : Adr) : Sp := fun vs H Q _ => ∃ (z : Ss) (s : St) (L : Lb) (wh wf ws bd vd : Addr) (W : List Vl) (n i : Nat) (c : Int) (r : Sh), vs = [.ref z.p, .ref wh, .ref bd, .ref vd, .int (i : Int), .int c] ∧ Tx A H z s L wh wf ws bd vd W n ∧ s.fr[i]? = some (some r) ∧ 1 ≤ n ∧
  ∀ H' s' W', Tx A H' z s' L wh wf ws bd vd W' n → Zv [1, 3] L L H H' → s'.fr.length = s.fr.length → s'.sr.length = s.sr.length → W'.map (·.1) = W.map (·.1) → Q .non H'
theorem h_wr (T : Txt K mg A) : Have P w K mg base "_law_written" 8 ["_law_sheets", "_law_where", "_law_bound", "_law_values", "_law_frame", "_law_cell_here"] [] (sp_wr A) := by
  have H_Sheets_set_box := h_setb (P := P) (w := w) (base := base) T
  refine T.r_l_written.have sc_l_written (fun vs H Q E z => ?_) ?_
  · obtain ⟨z, s, L, wh, wf, ws, bd, vd, W, n, i, c, r, rfl, _⟩ := z; rfl
  · intro f cdv A' outer s H vs Q E hr z
    obtain ⟨z, s, L, wh, wf, ws, bd, vd, W, n, i, c, r, rfl, hX, hri, hn, q⟩ := z
    obtain ⟨us, hf, hP⟩ := hX.wl.hf
    obtain ⟨v, hv, h, rfl, hh⟩ := prd_get2 hP (kys_at hri)
    obtain ⟨x1, x2, a, x3⟩ := hX.vs.one r (.inl (List.mem_of_getElem? hri))
    obtain ⟨y1, y2, y3⟩ := hX.va.va _ x3
    have hrn := hX.blen (.inl (List.mem_of_getElem? hri))
    have h64 := hX.ss.len
    have hil := (List.getElem?_eq_some_iff.mp hri).1
    have e0 := Int.emod_nonneg c (show (n : Int) ≠ 0 by omega)
    have e1 := Int.emod_lt_of_pos c (show (0 : Int) < n by omega)
    obtain ⟨x9, hx9⟩ : ∃ x9 : Nat, c % (n : Int) = (x9 : Int) := ⟨(c % (n : Int)).toNat, by omega⟩
    have hx9n : x9 < r.b.length := by omega
    have hget : DGet H vd (.ref h) (some (.ref a)) := by have := DGet.t hX.va.hv hh; rw [hX.va.get x3] at this; exact this
    refine ⟨_, (pss_cons (ps_set (i := 6) sc_l_written.nd rfl (Or.inl rfl) (pe_ix ix_list (pe_ix ix_list (pvM 1) pe_int (fun _ _ => rfl)) (pvM 4) (fun _ _ => rfl)))
      (pss_cons (ps_set (i := 7) sc_l_written.nd rfl (Or.inl rfl) (pe_dget (hu_of hr) (pvM 3) (pvM 6) (fun _ _ => rfl)))
      (pss_cons (ps_set (i := 8) sc_l_written.nd rfl (Or.inl rfl) (pe_op op_mod (pvM 5) (pe_callB call_len rfl T.b_len PySem.boot_len (pa_cons (pvM 7) pa_nil))))
      (pss_cut (ps_if (pt_cmpR op_gt (pe_op op_mod (pe_op op_fdiv (pvM 5) pe_int) pe_int) pe_int (nomark _)) (pss_one (ps_asg (pe_op op_mod (pe_op op_fdiv (pvM 5) pe_int) (pe_op op_pow pe_int pe_int)) (pg_sub (pvM 7) (pvM 8) set_list))) pss_nil)
      (pss_cut (ps_expr (pe_methE (pvM 0) T.cl_Sheets H_Sheets_set_box (hr.mono (by decide)) xw_def (pa_cons (pvM 4) (pa_cons (pvM 8) (pa_cons (pe_ix ix_list (pvM 7) (pvM 8) (fun _ _ => rfl)) pa_nil)))))
      (pss_one (ps_asg pe_non (pg_sub (pvM 2) (pvM 4) set_list)))))))), ?_⟩
    unfold tDGet
    walk_at "wp"
    refine ⟨_, SqL.of hX.wl.hw, _, atI_nat (j := 0) rfl, wf, rfl, _, SqL.of hf, _, atI_nat hv, .ref a, hget, n, .inl ⟨_, SqL.of y1, by rw [List.length_map]; exact y3.symm⟩, by omega, ?_⟩
    rw [hx9]
    refine ⟨fun σ G => σ = [some (.ref z.p), some (.ref wh), some (.ref bd), some (.ref vd), some (.int (i : Int)), some (.int c), some (.ref h), some (.ref a), some (.int (x9 : Int))] ∧ WrI H L vd W n (hk r) r.b a x9 G, ?_, fun σ1 G1 => ?_⟩
    · walk_at "wp"
      refine ite2 (fun _ => ?_) (fun _ => ?_)
      · refine ⟨_, y1, x9, ixn (by rw [List.length_map]; exact hx9n), c / 9 % 1000000000000000000000000000000, ?_⟩
        rw [← List.map_set]
        exact ⟨hX.va.wr x3 (by rw [List.length_set]; exact hrn), Mv.set y1 (by rw [y2]; simp), upd_same, hX.wl.lv.set⟩
      · refine ⟨r.b[x9], ?_⟩
        have e9 : upd H a (.lst ((r.b.set x9 r.b[x9]).map V.int)) = H := by
          rw [List.set_getElem_self]
          funext c9
          by_cases e : c9 = a
          · rw [e, upd_same]; exact y1.symm
          · rw [upd_ne e]
        have v9 := hX.va.wr x3 (b := r.b.set x9 r.b[x9]) (by rw [List.length_set]; exact hrn)
        rw [e9] at v9
        exact ⟨v9, Mv.of same_refl, by rw [List.set_getElem_self]; exact y1, hX.wl.lv⟩
    rintro ⟨rfl, y, va1, m1, ga1, lv1⟩
    have cs1 : Cs A G1 z s L := Cs.mv ⟨hX.ss, hX.l0, hX.lb⟩ m1 hX.wl.lv (by simp)
    have z1 : Zv [3] L L H G1 := m1.zv hX.wl.lv (by simp)
    have W1 := hX.wl.zv z1 (by simp) lv1
    refine ⟨fun σ G => σ = [some (.ref z.p), some (.ref wh), some (.ref bd), some (.ref vd), some (.int (i : Int)), some (.int c), some (.ref h), some (.ref a), some (.int (x9 : Int))] ∧ SsAt A.C_Sheets A.C_Spots A.C_Sheet G z (wrS s i r x9 y) ∧ Kb z r.bx G1 G, ?_, fun σ2 G2 => ?_⟩
    · obtain ⟨dx9, h9⟩ := cs1.ss.me
      walk_at "wp"
      refine ⟨dx9, _, h9, ssF_no (by decide +kernel), _, SqL.of ga1, .int y, ?_, z, s, i, x9, r, y, rfl, cs1.ss, hX.tw, hX.bx, hri, hx9n, fun H' a1 a2 => ⟨a1, a2⟩⟩
      refine atI_nat ?_
      rw [List.getElem?_map, List.getElem?_set_self hx9n]
      rfl
    rintro ⟨rfl, S2, k2⟩
    have hr9 : some { r with b := r.b.set x9 y } ∈ (wrS s i r x9 y).fr := by
      unfold wrS
      rw [untie_eq.1]
      exact List.mem_of_getElem? (List.getElem?_set_self (i := i) (by exact hil))
    have hx0 := hX.lb r (.inl (List.mem_of_getElem? hri))
    have hbx1 := cs1.ss.bxl (.inl (List.mem_of_getElem? hri))
    have z2 : Zv [] L L G1 G2 := k2.zv cs1.ss S2 ⟨_, S2.bxl (r := { r with b := r.b.set x9 y }) (.inl hr9)⟩ hX.l0 hx0 ⟨_, hbx1⟩ W1.lv
    have W2 := W1.zv z2 (by simp) (W1.lv.zv z2)
    have hvd2 : G2 vd = G1 vd := by
      rw [va1.hv]
      refine k2 _ _ va1.hv (fun e9 => ?_) (fun e9 => ?_) (fun e9 => ?_)
      · obtain ⟨dx, h9⟩ := cs1.ss.me
        have := va1.hv
        rw [e9, h9] at this; cases this
      · obtain ⟨us, h9⟩ := cs1.ss.fours _ e9
        have := va1.hv
        rw [h9] at this; cases this
      · have := va1.hv
        rw [e9, hbx1] at this; cases this
    have va2 := va1.zv z2 (by simp) hvd2
    have hl := hX.ss.lens
    have m3 : Mv [1] L L G2 (upd G2 bd (.lst ((s.tf.map oV).set i (oV none)))) := Mv.set W2.hb (by rw [W2.l1.2.2.2]; simp)
    have W3 := W2.setB (i := i) (o := none)
    have cs2 : Cs A G2 z (wrS s i r x9 y) L := ⟨S2, hX.l0, fun q9 hq => (mem_wr hq).elim (fun e => by rw [e]; exact hx0) (hX.lb q9)⟩
    have cs3 := cs2.mv m3 W2.lv (by simp)
    have z3 := m3.zv W2.lv (by simp)
    have hvd3 : upd G2 bd (.lst ((s.tf.map oV).set i (oV none))) vd = G2 vd := upd_ne (fun e9 => by have := va2.hv; rw [e9, W2.hb] at this; cases this)
    have etf : (wrS s i r x9 y).tf = s.tf.set i none := by
      unfold wrS
      cases e : s.tf[i]? with
      | none => exact absurd (List.getElem?_eq_none_iff.mp e) (by omega)
      | some o =>
        cases o with
        | none =>
          rw [untie_none (fun k z => by have z : s.tf[i]? = some (some k) := z; rw [e] at z; cases z)]
          show s.tf = s.tf.set i none
          obtain ⟨w1, w2⟩ := List.getElem?_eq_some_iff.mp e
          rw [← w2, List.set_getElem_self]
        | some k => rw [untie_some (show (s.put true i (some { r with b := r.b.set x9 y })).tf[i]? = some (some k) from e)]; rfl
    have efr : kys (wrS s i r x9 y).fr = kys s.fr := by
      unfold wrS
      rw [untie_eq.1]
      show kys (s.fr.set i (some { r with b := r.b.set x9 y })) = _
      rw [kys_set]
      have e9 := kys_at hri
      obtain ⟨w1, w2⟩ := List.getElem?_eq_some_iff.mp e9
      show (kys s.fr).set i (Option.map hk (some r)) = _
      rw [← w2, List.set_getElem_self]
    have esr : (wrS s i r x9 y).sr = s.sr := by unfold wrS; rw [untie_eq.2.1]; rfl
    rw [← efr, ← etf, ← esr] at W3
    walk_at "wp"
    refine ⟨_, W2.hb, i, ixn (by rw [List.length_map]; omega), ?_⟩
    exact q _ (wrS s i r x9 y) (setW W (hk r) (r.b.set x9 y)) ⟨cs3.ss, (ap_ks (f := true) (r' := { r with b := r.b.set x9 y }) hX.ap hri rfl).untie, (hX.tw.put (f := true) hri).untie, (bx_put (f := true) (r' := { r with b := r.b.set x9 y }) hX.bx hri rfl).untie, cs3.l0, cs3.lb, W3, va2.zv z3 (by simp) hvd3, hX.vs.wr hri⟩ ((z1.sub (by simp)).trans ((z2.sub (by simp)).trans (z3.sub (by simp)))) (by unfold wrS; rw [untie_eq.1]; exact List.length_set) (by rw [esr]) setW_keys.2.2
theorem Okh.ms {r : Sh} (h : Okh r) : (srt r.ks).length ≤ 64 ∧ ∀ k ∈ srt r.ks, k.length ≤ 64 := by
  obtain ⟨h1, h2, h3⟩ := h
  refine ⟨by rw [srt_perm.length_eq]; omega, fun k hk => ?_⟩
  obtain ⟨s, a, b, rfl⟩ := h3 k (srt_perm.mem_iff.mp hk)
  show 3 ≤ 64
  decide

theorem eqv_o {o : Option Nat} {j : Nat} : eqV (oV o) (.int (j : Int)) = decide (o = some j) := by
  cases o with
  | none => rfl
  | some k =>
    show decide ((k : Int) = (j : Int)) = decide (some k = some j)
    by_cases e : k = j
    · subst e; rw [decide_eq_true rfl, decide_eq_true rfl]
    · rw [decide_eq_false (fun z => e (by omega)), decide_eq_false (fun z => e (Option.some.inj z))]
theorem flat_o {l : List (Option Nat)} : (l.map oV).all flatV = true := by
  rw [List.all_map, List.all_eq_true]
  intro x _
  cases x <;> rfl
theorem in_o {l : List (Option Nat)} {j : Nat} : inV (.int (j : Int)) (l.map oV) = decide (some j ∈ l) := by
  unfold inV
  induction l with
  | nil => rfl
  | cons x r ih =>
    rw [List.map_cons, List.any_cons, ih, eqv_o]
    by_cases e : x = some j
    · rw [decide_eq_true e, decide_eq_true (List.mem_cons.mpr (.inl e.symm))]; rfl
    · rw [decide_eq_false e, Bool.false_or]
      by_cases e2 : some j ∈ r
      · rw [decide_eq_true e2, decide_eq_true (List.mem_cons_of_mem _ e2)]
      · rw [decide_eq_false e2, decide_eq_false (fun z => (List.mem_cons.mp z).elim (fun h => e h.symm) e2)]
theorem idx_o {l : List (Option Nat)} {i j : Nat} (h : l[i]? = some (some j)) (one : ∀ a : Nat, l[a]? = some (some j) → a = i) : (l.map oV).findIdx? (fun z => eqV z (.int (j : Int))) = some i := by
  obtain ⟨hi, e⟩ := List.getElem?_eq_some_iff.mp h
  refine List.findIdx?_eq_some_iff_getElem.mpr ⟨by rw [List.length_map]; exact hi, ?_, fun k hk => ?_⟩
  · rw [List.getElem_map, e, eqv_o]; exact decide_eq_true rfl
  · rw [List.getElem_map, eqv_o, decide_eq_false (fun z => ?_)]
    · simp
    · have := one k (by rw [List.getElem?_eq_getElem (Nat.lt_trans hk hi), z])
      omega
def sp_due (A : Adr) : Sp := fun vs H Q _ => ∃ (z : Ss) (s : St) (L : Lb) (wh wf ws bd vd : Addr) (W : List Vl) (n : Nat), vs = [.ref wh, .ref bd, .ref vd] ∧ Tx A H z s L wh wf ws bd vd W n ∧ n ≤ 64 ∧ ∀ H' t l1 l2, Same H H' → H' t = some (.tup [.ref l1, .ref l2]) → Lks H' (.seq false ((tF s).map dvS)) (.ref l1) → Lks H' (.seq false ((tS s).map dvS)) (.ref l2) → Q (.ref t) H'
theorem h_due (T : Txt K mg A) : Have P w K mg base "_law_due" 8 ["_law_where", "_law_bound", "_law_values"] [] (sp_due A) := by
  refine T.r_l_due.have sc_l_due (fun vs H Q E z => ?_) ?_
  · obtain ⟨z, s, L, wh, wf, ws, bd, vd, W, n, rfl, _⟩ := z; rfl
  · intro f cdv A' outer s H vs Q E hr z
    obtain ⟨z, s, L, wh, wf, ws, bd, vd, W, n, rfl, hX, hn64, q⟩ := z
    obtain ⟨us, hf, hP⟩ := hX.wl.hf
    obtain ⟨vs, hs, hPs⟩ := hX.wl.hs
    have hul := Paired.length hP
    have hvl := Paired.length hPs
    rw [kys_len] at hul hvl
    have h64 := hX.ss.len
    have hln := hX.ss.lens
    have hz := PySem.sizeLine_eq
    have hlF : (tF s).length = s.fr.length := by unfold tF; rw [List.length_zipWith]; omega
    have hlS : (tS s).length = s.sr.length := by unfold tS; rw [List.length_zipWith]; omega
    have okf : okS s.fr := fun r hr => ⟨hX.okh (.inl hr), by rw [hX.blen (.inl hr)]; exact hn64, (hX.okh (.inl hr)).ms⟩
    have oks : okS s.sr := fun r hr => ⟨hX.okh (.inr hr), by rw [hX.blen (.inr hr)]; exact hn64, (hX.okh (.inr hr)).ms⟩
    have val : ∀ {G : Hp}, Same H G → ∀ {r : Sh} {h : Addr}, (some r ∈ s.fr ∨ some r ∈ s.sr) → H h = some (.tup ((hk r).map kV)) → ∃ a, DGet G vd (.ref h) (some (.ref a)) ∧ G a = some (.lst (r.b.map V.int)) ∧ H a ≠ none ∧ srt r.ks = [hk r] := fun {G} sG {r h} hr hh => by
      obtain ⟨x1, x2, a, x3⟩ := hX.vs.one r hr
      have y1 := (hX.va.va _ x3).1
      refine ⟨a, ?_, sG _ _ y1, by rw [y1]; simp, by rw [x1]; rfl⟩
      have := DGet.t (sG _ _ hX.va.hv) (sG _ _ hh)
      rw [hX.va.get x3] at this
      exact this
    refine ⟨_, (pss_cut (ps_set (i := 3) sc_l_due.nd rfl (Or.inl rfl) (pe_lst pa_nil))
      (pss_cut (ps_forE PassesOwn.leaving rfl (pi_enum rfl T.b_enumerate (pa_cons (pe_ix ix_list (pvM 0) pe_int (fun _ _ => rfl)) pa_nil)) (pg_tup (n := 2) rfl (pgs_cons (pg_name (i := 4) sc_l_due.nd rfl (Or.inl rfl)) (pgs_cons (pg_name (i := 5) sc_l_due.nd rfl (Or.inl rfl)) pgs_nil))) (pss_one (ps_if (pt_cmpR op_isN (pvM 5) pe_non (nomark _)) (pss_one (ps_expr (pe_bm PySem.F.plainAttrs_list PySem.F.slot_list_append PySem.F.type_list_append mt_append (pvM 3) (pa_cons pe_non pa_nil)))) (pss_one (ps_expr (pe_bm PySem.F.plainAttrs_list PySem.F.slot_list_append PySem.F.type_list_append mt_append (pvM 3) (pa_cons (pe_tup (pa_cons (pe_dget (hu_of hr) (pvM 2) (pvM 5) (fun _ _ => rfl)) (pa_cons (pe_lst (pa_cons (pvM 5) pa_nil)) (pa_cons (pe_ix ix_list (pvM 1) (pvM 4) (fun _ _ => rfl)) pa_nil)))) pa_nil)))))))
      (pss_cut (ps_set (i := 6) sc_l_due.nd rfl (Or.inl rfl) (pe_lst pa_nil))
      (pss_cut (ps_forE PassesOwn.leaving rfl (pi_enum rfl T.b_enumerate (pa_cons (pe_ix ix_list (pvM 0) pe_int (fun _ _ => rfl)) pa_nil)) (pg_tup (n := 2) rfl (pgs_cons (pg_name (i := 4) sc_l_due.nd rfl (Or.inl rfl)) (pgs_cons (pg_name (i := 5) sc_l_due.nd rfl (Or.inl rfl)) pgs_nil))) (pss_one (ps_if (pt_cmpR op_notN (pvM 5) pe_non (nomark _)) (pss_one (ps_expr (pe_bm PySem.F.plainAttrs_list PySem.F.slot_list_append PySem.F.type_list_append mt_append (pvM 6) (pa_cons (pe_tup (pa_cons (pe_dget (hu_of hr) (pvM 2) (pvM 5) (fun _ _ => rfl)) (pa_cons (pe_lst (pa_cons (pvM 5) pa_nil)) (pa_cons pe_non pa_nil)))) pa_nil)))) (pss_one (ps_if (pt_cmpR op_in_seq (pvM 4) (pvM 1) (by with_unfolding_all rfl)) (pss_one (ps_expr (pe_bm PySem.F.plainAttrs_list PySem.F.slot_list_append PySem.F.type_list_append mt_append (pvM 6) (pa_cons (pe_tup (pa_cons (pe_dget (hu_of hr) (pvM 2) (pe_ix ix_list (pe_ix ix_list (pvM 0) pe_int (fun _ _ => rfl)) (pe_bm PySem.F.plainAttrs_list PySem.F.slot_list_index PySem.F.type_list_index mt_index (pvM 1) (pa_cons (pvM 4) pa_nil)) (fun _ _ => rfl)) (fun _ _ => rfl)) (pa_cons (pe_lst pa_nil) (pa_cons (pe_bm PySem.F.plainAttrs_list PySem.F.slot_list_index PySem.F.type_list_index mt_index (pvM 1) (pa_cons (pvM 4) pa_nil)) pa_nil)))) pa_nil)))) (pss_one (ps_expr (pe_bm PySem.F.plainAttrs_list PySem.F.slot_list_append PySem.F.type_list_append mt_append (pvM 6) (pa_cons pe_non pa_nil)))))))))
      (pss_one (ps_ret (pe_tup (pa_cons (pvM 3) (pa_cons (pvM 6) pa_nil))))))))), ?_⟩
    unfold tDGet
    refine ⟨fun σ G => ∃ l1, σ = [some (.ref wh), some (.ref bd), some (.ref vd), some (.ref l1), none, none, none] ∧ Same H G ∧ H l1 = none ∧ G l1 = some (.lst []), ?_, fun σ1 G1 => ?_⟩
    · walk_at "wp"
      exact fun l1 h1 => ⟨same_upd same_refl h1, h1⟩
    rintro ⟨l1, rfl, s1, h1, g1⟩
    refine ⟨fun σ G => ∃ v4 v5, σ = [some (.ref wh), some (.ref bd), some (.ref vd), some (.ref l1), v4, v5, none] ∧ Same H G ∧ Lks G (.seq false ((tF s).map dvS)) (.ref l1), ?_, fun σ2 G2 => ?_⟩
    · walk_at "wp"
      refine ⟨_, SqL.of (s1 _ _ hX.wl.hw), _, atI_nat (j := 0) rfl, wf, rfl, ⟨_, SqL.of (s1 _ _ hf)⟩, loop_enum (K := K) (xs := us) (fun i σ G => ∃ v4 v5 ys, σ = [some (.ref wh), some (.ref bd), some (.ref vd), some (.ref l1), v4, v5, none] ∧ Same H G ∧ G l1 = some (.lst ys) ∧ Paired (RwT G [l1]) ys ((tF s).take i)) ⟨_, _, [], rfl, s1, g1, .nil⟩ (fun i σ G _ ⟨_, _, _, _, e, _⟩ => SqL.of (e _ _ hf)) (fun i v tt σ G hi => ?_) (fun σ G => ?_)⟩
      · rintro ⟨v4, v5, ys, rfl, s2, g2, hY⟩ htt
        obtain ⟨o, ho1, ho2⟩ := prd_get hP hi
        have hil : i < s.fr.length := by have := (List.getElem?_eq_some_iff.mp hi).1; omega
        obtain ⟨r, hr0⟩ : ∃ r, s.fr[i]? = some r := ⟨_, List.getElem?_eq_getElem hil⟩
        obtain ⟨w0, hw0⟩ : ∃ o, s.tf[i]? = some o := ⟨_, List.getElem?_eq_getElem (by omega)⟩
        rw [kys_at hr0] at ho1
        obtain rfl := Option.some.inj ho1
        have htk : (tF s).take (i + 1) = (tF s).take i ++ [tdF r w0] := by rw [List.take_add_one, show (tF s)[i]? = some (tdF r w0) by unfold tF; rw [List.getElem?_zipWith, hr0, hw0]]; rfl
        have hyl := Paired.length hY
        rw [List.length_take] at hyl
        obtain ⟨b2, c2⟩ := new_at (o := .tup [V.int (i : Int), v]) htt
        walk_at "wp"
        generalize upd G tt _ = G3 at *
        have s3 := s2.trans b2
        have g3 := b2 _ _ g2
        have kp : ∀ {G9 : Hp} {us9 : List V}, Same G3 G9 → G9 l1 = some (.lst us9) → ∀ {ws9 : List V}, Paired (RwT (upd G9 l1 (.lst ws9)) [l1]) ys ((tF s).take i) := fun {G9 us9} s9 hd9 {ws9} => Paired.mapP hY fun _ _ q => q.keep (xs := [l1]) (fun x hx => ⟨ys, by rw [List.mem_singleton.mp hx]; exact g2⟩) (fun c o hc hn _ => by rw [upd_ne (fun z => hn (by simp [z]))]; exact s9 _ _ (b2 _ _ hc))
        refine ⟨_, SqT.of c2, rfl, _, _, rfl, _, _, rfl, rfl, ?_⟩
        cases r with
        | none =>
          obtain rfl : v = .non := ho2
          rw [if_pos rfl]
          refine ⟨.inl ⟨rfl, _, SqL.of g3⟩, ys, g3, by omega, same_put s3 h1, _, rfl, ?_⟩
          rw [htk]
          exact prd_app (kp same_refl g3) rfl
        | some r =>
          obtain ⟨h, rfl, hh⟩ := ho2
          obtain ⟨a, d1, d2, d3, d4⟩ := val s3 (.inl (List.mem_of_getElem? hr0)) hh
          rw [if_neg (fun z => nomatch z)]
          refine ⟨.inl ⟨rfl, _, SqL.of g3⟩, .ref a, d1, fun hl hhl => ?_⟩
          obtain ⟨b4, c4⟩ := new_at (o := .lst [V.ref h]) hhl
          have d2' := b4 _ _ d2
          have hh4 := b4 _ _ (s3 _ _ hh)
          have g4 := b4 _ _ g3
          generalize upd G3 hl _ = G4 at *
          refine ⟨_, _, rfl, SqL.of ((s3.trans b4) _ _ hX.wl.hb), oV w0, atI_nat (by rw [List.getElem?_map, hw0]; rfl), fun tp htp => ?_⟩
          obtain ⟨b5, c5⟩ := new_at (o := .tup [V.ref a, V.ref hl, oV w0]) htp
          have g5 := b5 _ _ g4
          have b45 := b4.trans b5
          generalize upd G4 tp _ = G5 at *
          have na : a ≠ l1 := fun e => d3 (by rw [e]; exact h1)
          have nh : hl ≠ l1 := (ne_of_none g3 hhl).symm
          refine ⟨ys, g5, by omega, same_put (s3.trans b45) h1, _, rfl, ?_⟩
          rw [htk]
          have hw : RwT G5 [l1] (.ref tp) (tdF (some r) w0) := by
            show RwT G5 [l1] (.ref tp) (some (r.b, srt r.ks, w0))
            rw [d4]
            exact ⟨tp, a, hl, rfl, c5, b5 _ _ d2', ⟨_, b5 _ _ c4, .cons ⟨h, rfl, b5 _ _ hh4⟩ .nil⟩, by simpa using na, by simpa using nh⟩
          exact prd_app (kp b45 g5) (hw.keep (xs := [l1]) (fun x hx => ⟨ys, by rw [List.mem_singleton.mp hx]; exact g5⟩) (fun c o hc hn _ => by rw [upd_ne (fun z => hn (by simp [z]))]; exact hc))
      · rintro ⟨v4, v5, ys, rfl, s2, g2, hY⟩
        rw [hul, ← hlF, List.take_length] at hY
        refine ⟨_, _, rfl, s2, ?_⟩
        unfold Lks
        exact ⟨l1, ys, rfl, g2, by rw [List.length_map]; omega, rws_lks hY fun r hr => tF_ok okf hr⟩
    rintro ⟨v4, v5, rfl, s2, lk2⟩
    refine ⟨fun σ G => ∃ l2, σ = [some (.ref wh), some (.ref bd), some (.ref vd), some (.ref l1), v4, v5, some (.ref l2)] ∧ Same G2 G ∧ G2 l2 = none ∧ G l2 = some (.lst []), ?_, fun σ3 G3 => ?_⟩
    · walk_at "wp"
      exact fun l2 h2 => ⟨same_upd same_refl h2, h2⟩
    rintro ⟨l2, rfl, sB, h2, gB⟩
    refine ⟨fun σ G => ∃ v4 v5, σ = [some (.ref wh), some (.ref bd), some (.ref vd), some (.ref l1), v4, v5, some (.ref l2)] ∧ Same G2 G ∧ Lks G (.seq false ((tS s).map dvS)) (.ref l2), ?_, fun σ4 G4 => ?_⟩
    · have s23 := s2.trans sB
      walk_at "wp"
      refine ⟨_, SqL.of (s23 _ _ hX.wl.hw), _, atI_nat (j := 1) rfl, ws, rfl, ⟨_, SqL.of (s23 _ _ hs)⟩, loop_enum (K := K) (xs := vs) (fun i σ G => ∃ v4 v5 ys, σ = [some (.ref wh), some (.ref bd), some (.ref vd), some (.ref l1), v4, v5, some (.ref l2)] ∧ Same G2 G ∧ G l2 = some (.lst ys) ∧ Paired (RwT G [l2]) ys ((tS s).take i)) ⟨_, _, [], rfl, sB, gB, .nil⟩ (fun i σ G _ ⟨_, _, _, _, e, _⟩ => SqL.of (e _ _ (s2 _ _ hs))) (fun i v tt σ G hi => ?_) (fun σ G => ?_)⟩
      · rintro ⟨v4, v5, ys, rfl, sC, g2, hY⟩ htt
        obtain ⟨o, ho1, ho2⟩ := prd_get hPs hi
        have hil : i < s.sr.length := by have := (List.getElem?_eq_some_iff.mp hi).1; omega
        obtain ⟨r, hr0⟩ : ∃ r, s.sr[i]? = some r := ⟨_, List.getElem?_eq_getElem hil⟩
        obtain ⟨w0, hw0⟩ : ∃ o, s.ts[i]? = some o := ⟨_, List.getElem?_eq_getElem (by omega)⟩
        rw [kys_at hr0] at ho1
        obtain rfl := Option.some.inj ho1
        have htk : (tS s).take (i + 1) = (tS s).take i ++ [tdS s.fr r w0] := by rw [List.take_add_one, show (tS s)[i]? = some (tdS s.fr r w0) by unfold tS; rw [List.getElem?_zipWith, hr0, hw0]]; rfl
        have hyl := Paired.length hY
        rw [List.length_take] at hyl
        obtain ⟨b2, c2⟩ := new_at (o := .tup [V.int (i : Int), v]) htt
        walk_at "wp"
        generalize upd G tt _ = G3 at *
        have sD := sC.trans b2
        have s3 := s2.trans sD
        have g3 := b2 _ _ g2
        have kp : ∀ {G9 : Hp} {us9 : List V}, Same G3 G9 → G9 l2 = some (.lst us9) → ∀ {ws9 : List V}, Paired (RwT (upd G9 l2 (.lst ws9)) [l2]) ys ((tS s).take i) := fun {G9 us9} s9 hd9 {ws9} => Paired.mapP hY fun _ _ q => q.keep (xs := [l2]) (fun x hx => ⟨ys, by rw [List.mem_singleton.mp hx]; exact g2⟩) (fun c o hc hn _ => by rw [upd_ne (fun z => hn (by simp [z]))]; exact s9 _ _ (b2 _ _ hc))
        have fin : ∀ {G5 : Hp} {tp a hl : Addr} {b : List Int} {ks : List (List Key)} {w0 : Option Nat}, Same G3 G5 → G5 tp = some (.tup [.ref a, .ref hl, oV w0]) → G5 a = some (.lst (b.map V.int)) → TdK G5 hl ks → a ≠ l2 → hl ≠ l2 → Paired (RwT (upd G5 l2 (.lst (ys ++ [.ref tp]))) [l2]) (ys ++ [.ref tp]) ((tS s).take i ++ [some (b, ks, w0)]) := fun {G5 tp a hl b ks w0} s9 x1 x2 x3 x4 x5 => by
          have g5 := s9 _ _ g3
          have hw : RwT G5 [l2] (.ref tp) (some (b, ks, w0)) := ⟨tp, a, hl, rfl, x1, x2, x3, by simpa using x4, by simpa using x5⟩
          exact prd_app (kp s9 g5) (hw.keep (xs := [l2]) (fun x hx => ⟨ys, by rw [List.mem_singleton.mp hx]; exact g5⟩) (fun c o hc hn _ => by rw [upd_ne (fun z => hn (by simp [z]))]; exact hc))
        refine ⟨_, SqT.of c2, rfl, _, _, rfl, _, _, rfl, rfl, ?_⟩
        have h2H : H l2 = none := same_none s2 h2
        cases r with
        | some r =>
          obtain ⟨h, rfl, hh⟩ := ho2
          obtain ⟨a, d1, d2, d3, d4⟩ := val s3 (.inr (List.mem_of_getElem? hr0)) hh
          refine ifp (by rw [decide_eq_false (fun z => nomatch z)]; rfl) ?_
          refine ⟨.inl ⟨rfl, _, SqL.of g3⟩, .ref a, d1, fun hl hhl => ?_⟩
          obtain ⟨b4, c4⟩ := new_at (o := .lst [V.ref h]) hhl
          have d2' := b4 _ _ d2
          have hh4 := b4 _ _ (s3 _ _ hh)
          have g4 := b4 _ _ g3
          generalize upd G3 hl _ = G4 at *
          intro tp htp
          obtain ⟨b5, c5⟩ := new_at (o := .tup [V.ref a, V.ref hl, oV none]) htp
          have g5 := b5 _ _ g4
          have na : a ≠ l2 := fun e => d3 (by rw [e]; exact h2H)
          have nh : hl ≠ l2 := (ne_of_none g3 hhl).symm
          refine ⟨ys, g5, by omega, same_put (sD.trans (b4.trans b5)) h2, _, rfl, ?_⟩
          rw [htk]
          show Paired _ _ ((tS s).take i ++ [some (r.b, srt r.ks, none)])
          rw [d4]
          exact fin (b4.trans b5) c5 (b5 _ _ d2') ⟨_, b5 _ _ c4, .cons ⟨h, rfl, b5 _ _ hh4⟩ .nil⟩ na nh
        | none =>
          obtain rfl : v = .non := ho2
          have hb3 := s3 _ _ hX.wl.hb
          refine ifn (by rw [decide_eq_true rfl]; rfl) ⟨_, .inl (SqL.of hb3), rfl, flat_o, ?_⟩
          rw [if_neg (show ¬ (false = true) by decide), in_o]
          cases w0 with
          | some x =>
            have hbx := hX.tw.back x i hw0
            obtain ⟨r, hrx⟩ := hX.tw.full x i hbx
            have one : ∀ a : Nat, s.tf[a]? = some (some i) → a = x := fun a ha => by
              have y1 := hX.tw.there a i ha
              rw [hw0] at y1
              exact (Option.some.inj (Option.some.inj y1)).symm
            obtain ⟨v, hv, h, rfl, hh⟩ := prd_get2 hP (kys_at hrx)
            obtain ⟨a, d1, d2, d3, d4⟩ := val s3 (.inl (List.mem_of_getElem? hrx)) hh
            rw [decide_eq_true (List.mem_of_getElem? hbx)]
            refine ifp rfl ⟨.inl ⟨rfl, _, SqL.of g3⟩, _, SqL.of (s3 _ _ hX.wl.hw), _, atI_nat (j := 0) rfl, .inl ⟨rfl, _, SqL.of hb3⟩, bd, _, _, x, rfl, rfl, SqL.of hb3, rfl, flat_o, idx_o hbx one, wf, rfl, us, (x : Int), rfl, SqL.of (s3 _ _ hf), _, atI_nat hv, .ref a, d1, fun e he => ?_⟩
            obtain ⟨b4, c4⟩ := new_at (o := .lst []) he
            refine ⟨.inl ⟨rfl, _, SqL.of (b4 _ _ hb3)⟩, bd, _, _, x, rfl, rfl, SqL.of (b4 _ _ hb3), rfl, flat_o, idx_o hbx one, fun tp htp => ?_⟩
            obtain ⟨b5, c5⟩ := new_at (o := .tup [V.ref a, V.ref e, oV (some x)]) htp
            have g5 := (b4.trans b5) _ _ g3
            have na : a ≠ l2 := fun e => d3 (by rw [e]; exact h2H)
            have nh : e ≠ l2 := (ne_of_none g3 he).symm
            refine ⟨ys, g5, by omega, same_put (sD.trans (b4.trans b5)) h2, _, rfl, ?_⟩
            rw [htk]
            show Paired _ _ ((tS s).take i ++ [some (bOf s.fr x, [], some x)])
            rw [show bOf s.fr x = r.b by unfold bOf; rw [hrx]]
            exact fin (b4.trans b5) c5 ((b4.trans b5) _ _ d2) ⟨[], b5 _ _ c4, .nil⟩ na nh
          | none =>
            rw [decide_eq_false (fun z => ?_)]
            · refine ifn rfl ⟨.inl ⟨rfl, _, SqL.of g3⟩, ys, g3, by omega, same_put sD h2, _, rfl, ?_⟩
              rw [htk]
              exact prd_app (kp same_refl g3) rfl
            · obtain ⟨a, ha⟩ := List.mem_iff_getElem?.mp z
              have := hX.tw.there a i ha
              rw [hw0] at this; cases this
      · rintro ⟨v4, v5, ys, rfl, sC, g2, hY⟩
        rw [hvl, ← hlS, List.take_length] at hY
        refine ⟨_, _, rfl, sC, ?_⟩
        unfold Lks
        exact ⟨l2, ys, rfl, g2, by rw [List.length_map]; omega, rws_lks hY fun r hr => tS_ok okf oks hr⟩
    rintro ⟨v4, v5, rfl, sC, lk4⟩
    walk_at "wp"
    intro t ht
    obtain ⟨b6, c6⟩ := new_at (o := .tup [V.ref l1, V.ref l2]) ht
    exact q _ t l1 l2 ((s2.trans sC).trans b6) c6 (lk2.same (sC.trans b6)) (lk4.same b6)

theorem kys_cnt {rows : List (Option Sh)} : ((kys rows).filter Option.isSome).length = cnt rows := by
  unfold kys cnt
  rw [List.filter_map, List.length_map]
  congr 1
  exact List.filter_congr fun x _ => by cases x <;> rfl
theorem prd_apps {α β : Type} {R : α → β → Prop} {as cs : List α} {bs ds : List β} (h : Paired R as bs) (h2 : Paired R cs ds) : Paired R (as ++ cs) (bs ++ ds) := by
  induction h with
  | nil => exact h2
  | cons r t ih => exact .cons r ih
def sp_true (A : Adr) : Sp := fun vs H Q _ => ∃ (z : Ss) (s : St) (L : Lb) (wh wf ws bd vd : Addr) (W : List Vl) (n : Nat), vs = [.ref z.p, .ref wh, .ref bd, .ref vd] ∧ Tx A H z s L wh wf ws bd vd W n ∧ n ≤ 64 ∧ ∀ H', Same H H' → Q (.bl true) H'
theorem h_true (T : Txt K mg A) : Have P w K mg base "_law_true" 9 ["_law_sheets", "_law_where", "_law_bound", "_law_values"] [] (sp_true A) := by
  have H_l_like := h_like (P := P) (w := w) (base := base) T 5
  have H_l_due := h_due (P := P) (w := w) (base := base) T
  have H_Sheets_told_frames := h_tf (P := P) (w := w) (base := base) T
  have H_Sheets_told_slots := h_tss (P := P) (w := w) (base := base) T
  have H_Sheets_sheet_at := h_sat (P := P) (w := w) (base := base) T
  have H_Sheets_holders_of := h_ho (P := P) (w := w) (base := base) T
  have H_Sheets_live_sheets := h_live (P := P) (w := w) (base := base) T
  refine T.r_l_true.have sc_l_true (fun vs H Q E z => ?_) ?_
  · obtain ⟨z, s, L, wh, wf, ws, bd, vd, W, n, rfl, _⟩ := z; rfl
  · intro f cdv A' outer s H vs Q E hr z
    obtain ⟨z, s, L, wh, wf, ws, bd, vd, W, n, rfl, hX, hn64, q⟩ := z
    obtain ⟨us, hf, hP⟩ := hX.wl.hf
    obtain ⟨vs, hs, hPs⟩ := hX.wl.hs
    have hul := Paired.length hP
    have hvl := Paired.length hPs
    rw [kys_len] at hul hvl
    have h64 := hX.ss.len
    have hz := PySem.sizeLine_eq
    have okf : okS s.fr := fun r hr => ⟨hX.okh (.inl hr), by rw [hX.blen (.inl hr)]; exact hn64, (hX.okh (.inl hr)).ms⟩
    have oks : okS s.sr := fun r hr => ⟨hX.okh (.inr hr), by rw [hX.blen (.inr hr)]; exact hn64, (hX.okh (.inr hr)).ms⟩
    refine ⟨_, (pss_cut (ps_set (i := 4) sc_l_true.nd rfl (Or.inl rfl) (pe_callE H_l_due (hr.mono (by decide)) xw_def (pa_cons (pvM 1) (pa_cons (pvM 2) (pa_cons (pvM 3) pa_nil)))))
      (pss_cut (ps_set (i := 5) sc_l_true.nd rfl (Or.inl rfl) (pe_callB call_len rfl T.b_len PySem.boot_len (pa_cons (pe_comp rfl (pi_list (pe_op op_cat (pe_ix ix_list (pvM 1) pe_int (fun _ _ => rfl)) (pe_ix ix_list (pvM 1) pe_int (fun _ _ => rfl)))) (x := "_law_one") (fs := []) (ix := []) rfl rfl (fun _ _ _ _ _ _ => (pg_name (i := 0) (show (["_law_one"] : List Str).Nodup by decide +kernel) rfl (Or.inl rfl))) (fun _ _ _ _ _ _ => (pf_one (pt_cmpR op_notN (pvM 0) pe_non (nomark _)))) (fun _ _ _ _ _ _ => (pvM 0))) pa_nil)))
      (pss_cut (ps_if (PW.pt (pw_or (pt_not (pt_val (pe_callE H_l_like (hr.mono (by decide)) xw_def (pa_cons (pe_methE0 (pvM 0) T.cl_Sheets H_Sheets_told_frames (hr.mono (by decide)) xw_def) (pa_cons (pe_ix ix_tup (pvM 4) pe_int (fun _ _ => rfl)) pa_nil))))) (pw_or1 (pt_not (pt_val (pe_callE H_l_like (hr.mono (by decide)) xw_def (pa_cons (pe_methE0 (pvM 0) T.cl_Sheets H_Sheets_told_slots (hr.mono (by decide)) xw_def) (pa_cons (pe_ix ix_tup (pvM 4) pe_int (fun _ _ => rfl)) pa_nil)))))))) (pss_one (ps_ret pe_bl)) pss_nil)
      (pss_cut (ps_forE PassesOwn.leaving rfl (pi_enum rfl T.b_enumerate (pa_cons (pe_ix ix_list (pvM 1) pe_int (fun _ _ => rfl)) pa_nil)) (pg_tup (n := 2) rfl (pgs_cons (pg_name (i := 6) sc_l_true.nd rfl (Or.inl rfl)) (pgs_cons (pg_name (i := 7) sc_l_true.nd rfl (Or.inl rfl)) pgs_nil))) (pss_cut (ps_if (PW.pt (pw_and (pt_cmpR op_isN (pvM 7) pe_non (nomark _)) (pw_and1 (pt_cmpR op_notN (pe_methE (pvM 0) T.cl_Sheets H_Sheets_sheet_at (hr.mono (by decide)) xw_def (pa_cons (pe_tup (pa_cons pe_str (pa_cons (pvM 6) pa_nil))) pa_nil)) pe_non (nomark _))))) (pss_one (ps_ret pe_bl)) pss_nil)
      (pss_one (ps_if (PW.pt (pw_and (pt_cmpR op_isN (pvM 7) pe_non (nomark _)) (pw_and1 (pt_not (pt_val (pe_callE H_l_like (hr.mono (by decide)) xw_def (pa_cons (pe_methE (pvM 0) T.cl_Sheets H_Sheets_holders_of (hr.mono (by decide)) xw_def (pa_cons (pe_tup (pa_cons pe_str (pa_cons (pvM 6) pa_nil))) pa_nil)) (pa_cons (pe_lst pa_nil) pa_nil)))))))) (pss_one (ps_ret pe_bl)) pss_nil))))
      (pss_one (ps_ret (pe_callE H_l_like (hr.mono (by decide)) xw_def (pa_cons (pe_methE0 (pvM 0) T.cl_Sheets H_Sheets_live_sheets (hr.mono (by decide)) xw_def) (pa_cons (pvM 5) pa_nil))))))))), ?_⟩
    refine ⟨fun σ G => ∃ t l1 l2, σ = [some (.ref z.p), some (.ref wh), some (.ref bd), some (.ref vd), some (.ref t), none, none, none] ∧ Same H G ∧ G t = some (.tup [.ref l1, .ref l2]) ∧ Lks G (.seq false ((tF s).map dvS)) (.ref l1) ∧ Lks G (.seq false ((tS s).map dvS)) (.ref l2), ?_, fun σ1 G1 => ?_⟩
    · walk_at "wp"
      exact ⟨z, s, L, wh, wf, ws, bd, vd, W, n, rfl, hX, hn64, fun H' t l1 l2 a1 a2 a3 a4 => ⟨t, rfl, a1, l1, l2, a2, a3, a4⟩⟩
    rintro ⟨t, l1, l2, rfl, s1, ht1, k1, k2⟩
    refine ⟨fun σ G => σ = [some (.ref z.p), some (.ref wh), some (.ref bd), some (.ref vd), some (.ref t), some (.int (live s : Int)), none, none] ∧ Same G1 G, ?_, fun σ2 G2 => ?_⟩
    · walk_at "wp"
      refine ⟨_, SqL.of (s1 _ _ hX.wl.hw), _, atI_nat (j := 0) rfl, _, SqL.of (s1 _ _ hX.wl.hw), _, atI_nat (j := 1) rfl, wf, rfl, ws, rfl, us, s1 _ _ hf, vs, s1 _ _ hs, by omega, fun p hp => ?_⟩
      obtain ⟨b2, c2⟩ := new_at (o := .lst (us ++ vs)) hp
      have hPa : Paired (HW H) (us ++ vs) (kys s.fr ++ kys s.sr) := prd_apps hP hPs
      generalize upd G1 p _ = G9 at *
      refine ⟨⟨_, SqL.of c2⟩, fun D hD => comp_list (xs := us ++ vs) (fun i ys σ H' => ∃ v, σ = [v] ∧ Same G9 H' ∧ H' D = some (.lst ys) ∧ ys.length = (((kys s.fr ++ kys s.sr).take i).filter Option.isSome).length) ⟨_, rfl, same_upd same_refl hD, upd_same, rfl⟩ (fun i ys σ H' _ ⟨_, _, s2, _⟩ => SqL.of (s2 _ _ c2)) (fun i v ys σ H' hi => ?_) (fun ys σ H6 => ?_)⟩
      · rintro ⟨v', rfl, s2, hD2, hyl⟩
        obtain ⟨o, ho1, ho2⟩ := prd_get hPa hi
        have hil := (List.getElem?_eq_some_iff.mp hi).1
        rw [List.length_append] at hil
        have htk : (kys s.fr ++ kys s.sr).take (i + 1) = (kys s.fr ++ kys s.sr).take i ++ [o] := by rw [List.take_add_one, ho1]; rfl
        have hle : (((kys s.fr ++ kys s.sr).take i).filter Option.isSome).length ≤ i := Nat.le_trans (List.length_filter_le _ _) (by rw [List.length_take]; omega)
        walk_at "wp"
        cases o with
        | none =>
          obtain rfl : v = .non := ho2
          refine ifn (by rw [decide_eq_true rfl]; rfl) ⟨s2, hD2, ?_⟩
          rw [htk, List.filter_append, List.length_append, hyl]; rfl
        | some k9 =>
          obtain ⟨a9, rfl, _⟩ := ho2
          refine ifp (by rw [decide_eq_false (fun z => nomatch z)]; rfl) ⟨hD2, by omega, same_put s2 hD, ?_⟩
          rw [htk, List.filter_append, List.length_append, List.length_append, hyl]; rfl
      · rintro ⟨v', rfl, s2, hD2, hyl⟩
        have hpl := Paired.length hPa
        rw [hpl, List.take_length, List.filter_append, List.length_append, kys_cnt, kys_cnt] at hyl
        exact ⟨ys.length, .inl ⟨_, SqL.of hD2, rfl⟩, by rw [hyl]; rfl, b2.trans s2⟩
    rintro ⟨rfl, s2⟩
    have s12 := s1.trans s2
    refine ⟨fun σ G => σ = [some (.ref z.p), some (.ref wh), some (.ref bd), some (.ref vd), some (.ref t), some (.int (live s : Int)), none, none] ∧ Same G2 G, ?_, fun σ3 G3 => ?_⟩
    · have X2 := hX.same s12
      obtain ⟨dx, h9⟩ := X2.ss.me
      walk_at "wp"
      refine ⟨dx, _, h9, ssF_no (by decide +kernel), z, s, rfl, X2.ss, okf, fun H1 l3 b1 hl3 lk3 => ⟨_, SqT.of (b1 _ _ (s2 _ _ ht1)), _, atI_nat (j := 0) rfl, _, _, _, rfl, lk3, (k1.same (s2.trans b1)), Nat.le_trans deep_R (by decide), fun H2 b2 => ⟨true, rfl, iteF ?_⟩⟩⟩
      have b12 := b1.trans b2
      refine ⟨dx, _, b12 _ _ h9, ssF_no (by decide +kernel), z, s, rfl, X2.ss.same b12, hX.tw, okf, oks, fun H3 l4 b3 hl4 lk4 => ?_⟩
      exact ⟨_, SqT.of ((b12.trans b3) _ _ (s2 _ _ ht1)), _, atI_nat (j := 1) rfl, _, _, _, rfl, lk4, (k2.same (s2.trans (b12.trans b3))), Nat.le_trans deep_R (by decide), fun H4 b4 => ⟨true, rfl, iteF ((b12.trans b3).trans b4)⟩⟩
    rintro ⟨rfl, s3⟩
    have s13 := s12.trans s3
    refine ⟨fun σ G => ∃ v6 v7, σ = [some (.ref z.p), some (.ref wh), some (.ref bd), some (.ref vd), some (.ref t), some (.int (live s : Int)), v6, v7] ∧ Same G3 G, ?_, fun σ4 G4 => ?_⟩
    · walk_at "wp"
      refine ⟨_, SqL.of (s13 _ _ hX.wl.hw), _, atI_nat (j := 1) rfl, ws, rfl, ⟨_, SqL.of (s13 _ _ hs)⟩, loop_enum (K := K) (xs := vs) (fun i σ G => ∃ v6 v7, σ = [some (.ref z.p), some (.ref wh), some (.ref bd), some (.ref vd), some (.ref t), some (.int (live s : Int)), v6, v7] ∧ Same G3 G) ⟨_, _, rfl, same_refl⟩ (fun i σ G _ ⟨_, _, _, e⟩ => SqL.of (e _ _ (s13 _ _ hs))) (fun i v tt σ G hi => ?_) (fun σ G => ?_)⟩
      · rintro ⟨v6, v7, rfl, s4⟩ htt
        obtain ⟨o, ho1, ho2⟩ := prd_get hPs hi
        have hil : i < s.sr.length := by have := (List.getElem?_eq_some_iff.mp hi).1; omega
        obtain ⟨r, hr0⟩ : ∃ r, s.sr[i]? = some r := ⟨_, List.getElem?_eq_getElem hil⟩
        rw [kys_at hr0] at ho1
        obtain rfl := Option.some.inj ho1
        obtain ⟨b5, c5⟩ := new_at (o := .tup [V.int (i : Int), v]) htt
        walk_at "wp"
        generalize upd G tt _ = G5 at *
        have s5 := s4.trans b5
        have X5 := hX.same (s13.trans s5)
        obtain ⟨dx, h9⟩ := X5.ss.me
        refine ⟨_, SqT.of c5, rfl, _, _, rfl, _, _, rfl, rfl, ?_⟩
        refine ⟨fun σ G => σ = [some (.ref z.p), some (.ref wh), some (.ref bd), some (.ref vd), some (.ref t), some (.int (live s : Int)), some (.int (i : Int)), some v] ∧ Same G5 G, ?_, fun σ6 G6 => ?_⟩
        · walk_at "wp"
          cases r with
          | some r =>
            obtain ⟨h, rfl, hh⟩ := ho2
            rw [if_neg (fun z => nomatch z)]
            exact same_refl
          | none =>
            obtain rfl : v = .non := ho2
            rw [if_pos rfl]
            refine ⟨dx, _, h9, ssF_no (by decide +kernel), fun tp htp => ?_⟩
            obtain ⟨b6, c6⟩ := new_at (o := .tup [V.str (Str.ofString "slot"), V.int (i : Int)]) htp
            refine ⟨z, s, tp, false, i, none, rfl, X5.ss.same b6, c6, hr0, fun _ => ifn (by rw [decide_eq_true rfl]; rfl) b6, fun q9 e9 => by cases e9⟩
        rintro ⟨rfl, s6⟩
        have X6 := X5.same s6
        obtain ⟨dx6, h96⟩ := X6.ss.me
        walk_at "wp"
        cases r with
        | some r =>
          obtain ⟨h, rfl, hh⟩ := ho2
          rw [if_neg (fun z => nomatch z)]
          exact s5.trans s6
        | none =>
          obtain rfl : v = .non := ho2
          rw [if_pos rfl]
          refine ⟨dx6, _, h96, ssF_no (by decide +kernel), fun tp htp => ?_⟩
          obtain ⟨b6, c6⟩ := new_at (o := .tup [V.str (Str.ofString "slot"), V.int (i : Int)]) htp
          refine ⟨z, s, tp, false, i, none, rfl, X6.ss.same b6, c6, hr0, (fun q9 e9 => by cases e9), fun l H7 hl b7 td p hp => ?_⟩
          obtain ⟨b8, c8⟩ := new_at (o := .lst []) hp
          have b68 := (b6.trans b7).trans b8
          exact ⟨_, _, dvT [], rfl, lks_tdk (td.same b8) (Nat.zero_le _) (fun k hk => by cases hk), lks_tdk ⟨[], c8, .nil⟩ (Nat.zero_le _) (fun k hk => by cases hk), Nat.le_trans deep_T (by decide), fun H9 b9 => ⟨true, rfl, iteF ((s5.trans s6).trans (b68.trans b9))⟩⟩
      · rintro ⟨v6, v7, rfl, s4⟩
        exact ⟨_, _, rfl, s4⟩
    rintro ⟨v6, v7, rfl, s4⟩
    have X4 := hX.same (s13.trans s4)
    obtain ⟨dx, h9⟩ := X4.ss.me
    walk_at "wp"
    exact ⟨dx, _, h9, ssF_no (by decide +kernel), z, s, rfl, X4.ss, fun H1 b1 => ⟨_, _, .leaf (.int (live s : Int)), rfl, by unfold Lks; exact ⟨rfl, rfl⟩, by unfold Lks; exact ⟨rfl, rfl⟩, by rw [deep]; exact Nat.zero_le _, fun H2 b2 => q H2 (((s13.trans s4).trans b1).trans b2)⟩⟩

theorem Kg.zv {C P S : Addr} {z : Ss} {s : St} {L : Lb} {H H' : Hp} {d : Addr} {kvs : List (List Key × V)} (k : Kg z d H H') (hd : H d = some (.dT kvs)) (hS : SsAt C P S H z s) (l0 : ∀ c ∈ z.four, L c = 0) (l : Lv L H) (dm : Dm H H') : Zv [] L L H H' := ⟨fun _ => .inl rfl, fun c o hc n => (by
  obtain ⟨dx, h1⟩ := hS.me
  refine k c o hc (fun e => ?_) (fun e => ?_) (fun e => ?_)
  · rcases n with n | n
    · rw [e, h1] at hc
      obtain ⟨ws, h | ⟨p, h⟩⟩ := n <;> (rw [← Option.some.inj hc] at h; cases h)
    · obtain ⟨us, h9⟩ := l c n.1
      rw [e, h1] at h9; cases h9
  · rcases n with n | n
    · obtain ⟨us, h9⟩ := hS.fours c e
      rw [hc] at h9
      exact tf_nl n us (Option.some.inj h9)
    · exact n.1 (l0 c e)
  · rcases n with n | n
    · rw [e, hd] at hc
      obtain ⟨ws, h | ⟨p, h⟩⟩ := n <;> (rw [← Option.some.inj hc] at h; cases h)
    · obtain ⟨us, h9⟩ := l c n.1
      rw [e, hd] at h9; cases h9), dm⟩
def DdI (A : Adr) (z : Ss) (L : Lb) (wh wf ws bd vd : Addr) (W : List Vl) (n nf ns : Nat) (H G : Hp) : Prop := ∃ (s' : St) (W' : List Vl), Tx A G z s' L wh wf ws bd vd W' n ∧ W'.map (·.1) = W.map (·.1) ∧ s'.fr.length = nf ∧ s'.sr.length = ns ∧ Zv [1, 3] L L H G
theorem DdI.same {A : Adr} {z : Ss} {L : Lb} {wh wf ws bd vd : Addr} {W : List Vl} {n nf ns : Nat} {H G G' : Hp} (h : DdI A z L wh wf ws bd vd W n nf ns H G) (e : Same G G') : DdI A z L wh wf ws bd vd W n nf ns H G' := let ⟨s', W', x, w1, l1, l2, zz⟩ := h; ⟨s', W', x.same e, w1, l1, l2, zz.trans (Zv.of e)⟩
def DvI (A : Adr) (z : Ss) (L : Lb) (wh wf ws bd vd : Addr) (W : List Vl) (n nf ns : Nat) (H : Hp) (y t : Nat) (G : Hp) : Prop := (y < t ∧ DdI A z L wh wf ws bd vd W n nf ns H G) ∨ (t ≤ y ∧ Same H G)
def sp_deed (A : Adr) : Sp := fun vs H Q _ => ∃ (z : Ss) (s : St) (L : Lb) (wh wf ws bd vd h : Addr) (W : List Vl) (n : Nat) (nb : Nat) (c : Int) (k : List Key) (a : Addr) (b : List Int), vs = [.ref z.p, .ref wh, .ref bd, .ref vd, .int (nb : Int), .int c, .ref h] ∧ Tx A H z s L wh wf ws bd vd W n ∧ 1 ≤ n ∧ H h = some (.tup (k.map kV)) ∧ Tri k ∧ (k, a, b) ∈ W ∧ k ∉ (alS s).map hk ∧
  ∀ H' L' G0, DdI A z L' wh wf ws bd vd W n s.fr.length s.sr.length G0 H' → Zv [1, 3] L L' H H' → Q .non H'
theorem h_deed (T : Txt K mg A) : Have P w K mg base "_law_deed" 9 ["_law_sheets", "_law_where", "_law_bound", "_law_values", "_law_number", "_law_cell_here", "_law_holder"] [] (sp_deed A) := by
  have H_l_back := h_lback (P := P) (w := w) (base := base) T
  have H_l_written := h_wr (P := P) (w := w) (base := base) T
  have H_l_come := h_come (P := P) (w := w) (base := base) T
  have H_Sheets_let_go := h_lg (P := P) (w := w) (base := base) T
  have H_Sheets_fresh := h_fresh (P := P) (w := w) (base := base) T
  refine T.r_l_deed.have sc_l_deed (fun vs H Q E z => ?_) ?_
  · obtain ⟨z, s, L, wh, wf, ws, bd, vd, h, W, n, nb, c, k, a, b, rfl, _⟩ := z; rfl
  · intro f cdv A' outer s H vs Q E hr z
    obtain ⟨z, s, L, wh, wf, ws, bd, vd, h, W, n, nb, c, k, a, b, rfl, hX, hn1, hh, htk, hka, hkn, q⟩ := z
    obtain ⟨us, hf, hP⟩ := hX.wl.hf
    have hul := Paired.length hP
    rw [kys_len] at hul
    have h64 := hX.ss.len
    have hz := PySem.sizeLine_eq
    refine ⟨_, (pss_cut (ps_setC (i := 7) sc_l_deed.nd rfl rfl rfl (pi_range1 rfl T.b_range (pa_cons (pe_callB call_len rfl T.b_len PySem.boot_len (pa_cons (pe_ix ix_list (pvM 1) pe_int (fun _ _ => rfl)) pa_nil)) pa_nil)) (x := "_law_j") (fs := ["_law_number"]) (ix := [4]) rfl rfl (fun _ _ _ _ _ _ => (pg_name (i := 0) (show (["_law_j", "_law_number"] : List Str).Nodup by decide +kernel) rfl (Or.inl rfl))) (fun _ _ _ _ _ _ => pf_nil) (fun _ _ _ _ _ _ => (pe_or (pe_cmpR op_eq (pe_op op_mod (pe_op op_shr (pvM 1) (pe_op op_mod (pvM 0) pe_int)) pe_int) pe_int (nomark _)) (pe_one (pe_cmpR op_eq (pe_op op_mod (pe_op op_fdiv (pvM 1) pe_int) pe_int) pe_int (nomark _))))))
      (pss_cut (ps_set (i := 8) sc_l_deed.nd rfl (Or.inl rfl) (pe_op op_mod (pe_op op_fdiv (pvM 4) pe_int) pe_int))
      (pss_cut (ps_setC (i := 9) sc_l_deed.nd rfl rfl rfl (pi_range1 rfl T.b_range (pa_cons (pe_callB call_len rfl T.b_len PySem.boot_len (pa_cons (pe_ix ix_list (pvM 1) pe_int (fun _ _ => rfl)) pa_nil)) pa_nil)) (x := "_law_k") (fs := ["_law_where"]) (ix := [1]) rfl rfl (fun _ _ _ _ _ _ => (pg_name (i := 0) (show (["_law_k", "_law_where"] : List Str).Nodup by decide +kernel) rfl (Or.inl rfl))) (fun _ _ _ _ _ _ => (pf_one (pt_cmpR op_notN (pe_ix (ix_listC (K := K) rfl) (pe_ix (ix_listC (K := K) rfl) (pvM 1) pe_int (fun _ _ => rfl)) (pvM 0) (fun _ _ => rfl)) pe_non (nomark _)))) (fun _ _ _ _ _ _ => (pvM 0)))
      (pss_cut (ps_setC (i := 10) sc_l_deed.nd rfl rfl rfl (pi_range1 rfl T.b_range (pa_cons (pe_callB call_len rfl T.b_len PySem.boot_len (pa_cons (pe_ix ix_list (pvM 1) pe_int (fun _ _ => rfl)) pa_nil)) pa_nil)) (x := "_law_k") (fs := ["_law_where"]) (ix := [1]) rfl rfl (fun _ _ _ _ _ _ => (pg_name (i := 0) (show (["_law_k", "_law_where"] : List Str).Nodup by decide +kernel) rfl (Or.inl rfl))) (fun _ _ _ _ _ _ => (pf_one (pt_cmpR op_notN (pe_ix (ix_listC (K := K) rfl) (pe_ix (ix_listC (K := K) rfl) (pvM 1) pe_int (fun _ _ => rfl)) (pvM 0) (fun _ _ => rfl)) pe_non (nomark _)))) (fun _ _ _ _ _ _ => (pvM 0)))
      (pss_cut (ps_if (PW.pt (pw_and (pt_cmpR op_lt (pvM 8) pe_int (nomark _)) (pw_and1 (pt_cmpR op_gt (pe_callB call_len rfl T.b_len PySem.boot_len (pa_cons (pvM 10) pa_nil)) pe_int (nomark _))))) (pss_one (ps_expr (pe_callE H_l_back (hr.mono (by decide)) xw_def (@pa_cons _ _ _ _ _ (pvM 0) (@pa_cons _ _ _ _ _ (pvM 1) (@pa_cons _ _ _ _ _ (pvM 2) (@pa_cons _ _ _ _ _ (pe_ix ix_list (pvM 10) (pe_op op_mod (pe_op op_fdiv (pvM 4) pe_int) (pe_callB call_len rfl T.b_len PySem.boot_len (pa_cons (pvM 10) pa_nil))) (fun _ _ => rfl)) (@pa_cons _ _ _ _ _ (pvM 7) pa_nil rfl) rfl) rfl) rfl) rfl)))) pss_nil)
      (pss_cut (ps_if (PW.pt (pw_and (pt_cmpR op_in_seq (pvM 8) (pe_tup (pa_cons pe_int (pa_cons pe_int pa_nil))) (by with_unfolding_all rfl)) (pw_and1 (pt_cmpR op_gt (pe_callB call_len rfl T.b_len PySem.boot_len (pa_cons (pvM 9) pa_nil)) pe_int (nomark _))))) (pss_one (ps_expr (pe_callE H_l_written (hr.mono (by decide)) xw_def (@pa_cons _ _ _ _ _ (pvM 0) (@pa_cons _ _ _ _ _ (pvM 1) (@pa_cons _ _ _ _ _ (pvM 2) (@pa_cons _ _ _ _ _ (pvM 3) (@pa_cons _ _ _ _ _ (pe_ix ix_list (pvM 9) (pe_op op_mod (pe_op op_fdiv (pvM 4) pe_int) (pe_callB call_len rfl T.b_len PySem.boot_len (pa_cons (pvM 9) pa_nil))) (fun _ _ => rfl)) (@pa_cons _ _ _ _ _ (pvM 5) pa_nil rfl) rfl) rfl) rfl) rfl) rfl)))) pss_nil)
      (pss_cut (ps_if (PW.pt (pw_and (pt_cmpR op_eq (pvM 8) pe_int (nomark _)) (pw_and1 (pt_cmpR op_gt (pe_callB call_len rfl T.b_len PySem.boot_len (pa_cons (pvM 9) pa_nil)) pe_int (nomark _))))) (pss_cons (ps_set (i := 11) sc_l_deed.nd rfl (Or.inl rfl) (pe_ix ix_list (pvM 9) (pe_op op_mod (pe_op op_fdiv (pvM 4) pe_int) (pe_callB call_len rfl T.b_len PySem.boot_len (pa_cons (pvM 9) pa_nil))) (fun _ _ => rfl)))
      (pss_cut (ps_expr (pe_methE (pvM 0) T.cl_Sheets H_Sheets_let_go (hr.mono (by decide)) xw_def (pa_cons (pe_tup (pa_cons pe_str (pa_cons (pvM 11) pa_nil))) (pa_cons (pe_ix ix_list (pe_ix ix_list (pvM 1) pe_int (fun _ _ => rfl)) (pvM 11) (fun _ _ => rfl)) pa_nil))))
      (pss_cut (ps_asg pe_non (pg_sub (pe_ix ix_list (pvM 1) pe_int (fun _ _ => rfl)) (pvM 11) set_list))
      (pss_one (ps_asg pe_non (pg_sub (pvM 2) (pvM 11) set_list)))))) pss_nil)
      (pss_one (ps_if (PW.pt (pw_and (pt_cmpR op_eq (pvM 8) pe_int (nomark _)) (pw_and1 (pt_cmpR op_lt (pe_op op_add (pe_callB call_len rfl T.b_len PySem.boot_len (pa_cons (pvM 9) pa_nil)) (pe_callB call_len rfl T.b_len PySem.boot_len (pa_cons (pvM 10) pa_nil))) (pe_op op_add (pe_callB call_len rfl T.b_len PySem.boot_len (pa_cons (pe_ix ix_list (pvM 1) pe_int (fun _ _ => rfl)) pa_nil)) (pe_callB call_len rfl T.b_len PySem.boot_len (pa_cons (pe_ix ix_list (pvM 1) pe_int (fun _ _ => rfl)) pa_nil))) (nomark _))))) (pss_one (ps_expr (pe_callE H_l_come (hr.mono (by decide)) xw_def (pa_cons (pvM 1) (pa_cons (pvM 2) (pa_cons (pe_methE (pvM 0) T.cl_Sheets H_Sheets_fresh (hr.mono (by decide)) xw_def (pa_cons (pe_callTy call_list_of rfl T.b_list PyProof.Rows.boot_list (pa_cons (pe_dget (hu_of hr) (pvM 3) (pvM 6) (fun _ _ => rfl)) pa_nil)) (pa_cons (pvM 6) (pa_cons (pvM 7) pa_nil)))) (pa_cons (pvM 6) pa_nil))))))) pss_nil))))))))), ?_⟩
    unfold tDGet
    refine ⟨fun σ G => ∃ (mk : Addr) (ms : List Bool), σ = [some (.ref z.p), some (.ref wh), some (.ref bd), some (.ref vd), some (.int (nb : Int)), some (.int c), some (.ref h), some (.ref mk), none, none, none, none] ∧ Same H G ∧ H mk = none ∧ G mk = some (.lst (ms.map V.bl)) ∧ ms.length = s.fr.length, ?_, fun σ1 G1 => ?_⟩
    · walk_at "wp"
      refine ⟨_, SqL.of hX.wl.hw, _, atI_nat (j := 0) rfl, _, .inl ⟨_, SqL.of hf, rfl⟩, by omega, by omega, fun D hD => ?_⟩
      refine comp_range (fun i9 ys σ H' => ∃ (v : Option V) (ms : List Bool), σ = [v, some (.int (nb : Int))] ∧ Same H H' ∧ H' D = some (.lst ys) ∧ ys = ms.map V.bl ∧ ms.length = i9) ⟨_, [], rfl, same_upd same_refl hD, upd_same, rfl, rfl⟩ (fun i9 ys σ H' hi9 => ?_) (fun ys σ H5 => ?_)
      · rintro ⟨v, ms, rfl, s1, hD1, rfl, hml⟩
        walk_at "wp"
        exact ⟨by omega, ite2 (fun _ => ⟨hD1, by rw [List.length_map]; omega, same_put s1 hD, ms ++ [_], by rw [List.map_append]; rfl, by rw [List.length_append, hml]; rfl⟩) (fun _ => ⟨hD1, by rw [List.length_map]; omega, same_put s1 hD, ms ++ [_], by rw [List.map_append]; rfl, by rw [List.length_append, hml]; rfl⟩)⟩
      · rintro ⟨v, ms, rfl, s1, hD1, rfl, hml⟩
        exact ⟨s1, hD, ms, hD1, by omega⟩
    rintro ⟨mk, ms, rfl, s1, hmk, mk1, hml⟩
    have X1 := hX.lab (k := 5) s1 hmk mk1
    have z1 : Zv [1, 3] L (lab L mk 5) H G1 := (Mv.lab s1 hmk).zv hX.wl.lv (by simp)
    have lmk : lab L mk 5 mk = 5 := lab_at
    have hh1 := s1 _ _ hh
    generalize lab L mk 5 = L1 at *
    have hkn1 := hkn
    clear hP hf
    obtain ⟨us, hf, hP⟩ := X1.wl.hf
    obtain ⟨vs, hs, hPs⟩ := X1.wl.hs
    have hul := Paired.length hP
    have hvl := Paired.length hPs
    rw [kys_len] at hul hvl
    refine ⟨fun σ G => ∃ y : Nat, σ = [some (.ref z.p), some (.ref wh), some (.ref bd), some (.ref vd), some (.int (nb : Int)), some (.int c), some (.ref h), some (.ref mk), some (.int (y : Int)), none, none, none] ∧ G = G1, ?_, fun σ2 G2 => ?_⟩
    · walk_at "wp"
      exact ⟨nb / 8192 % 8, by omega⟩
    rintro ⟨y, rfl, rfl⟩
    refine ⟨fun σ G => ∃ (fu : Addr) (js : List Nat), σ = [some (.ref z.p), some (.ref wh), some (.ref bd), some (.ref vd), some (.int (nb : Int)), some (.int c), some (.ref h), some (.ref mk), some (.int (y : Int)), some (.ref fu), none, none] ∧ Same G2 G ∧ G fu = some (.lst (js.map fun (j : Nat) => V.int (j : Int))) ∧ (∀ j ∈ js, ∃ r, s.fr[j]? = some (some r)) ∧ js.length = cnt s.fr, ?_, fun σ3 G3 => ?_⟩
    · walk_at "wp"
      refine ⟨_, SqL.of X1.wl.hw, _, atI_nat (j := 0) rfl, _, .inl ⟨_, SqL.of hf, rfl⟩, by omega, by omega, fun D hD => ?_⟩
      refine comp_range (fun i9 ys σ H' => ∃ (v : Option V) (js : List Nat), σ = [v, some (.ref wh)] ∧ Same G2 H' ∧ H' D = some (.lst ys) ∧ ys = (js.map fun (j : Nat) => V.int (j : Int)) ∧ js.length = (((kys s.fr).take i9).filter Option.isSome).length ∧ ∀ j ∈ js, ∃ r, s.fr[j]? = some (some r)) ⟨_, [], rfl, same_upd same_refl hD, upd_same, rfl, rfl, fun j hj => by cases hj⟩ (fun i9 ys σ H' hi9 => ?_) (fun ys σ H5 => ?_)
      · rintro ⟨v, js, rfl, b1, hD1, rfl, hjl, hjs⟩
        have hi9 : i9 < s.fr.length := by omega
        obtain ⟨r2, hr2⟩ : ∃ r, s.fr[i9]? = some r := ⟨_, List.getElem?_eq_getElem hi9⟩
        obtain ⟨v2, hv2, hF2⟩ := prd_get2 hP (kys_at hr2)
        have htk9 : (kys s.fr).take (i9 + 1) = (kys s.fr).take i9 ++ [r2.map hk] := by rw [List.take_add_one, kys_at hr2]; rfl
        have hle : (((kys s.fr).take i9).filter Option.isSome).length ≤ i9 := Nat.le_trans (List.length_filter_le _ _) (by rw [List.length_take]; omega)
        walk_at "wp"
        rw [Int.zero_add]
        refine ⟨_, SqL.of (b1 _ _ X1.wl.hw), _, atI_nat (j := 0) rfl, wf, rfl, _, SqL.of (b1 _ _ hf), _, atI_nat hv2, ?_⟩
        cases r2 with
        | none =>
          obtain rfl : v2 = .non := hF2
          refine ifn (by rw [decide_eq_true rfl]; rfl) ⟨b1, hD1, js, rfl, ?_, hjs⟩
          rw [htk9, List.filter_append, List.length_append, hjl]; rfl
        | some r2 =>
          obtain ⟨a9, rfl, _⟩ := hF2
          refine ifp (by rw [decide_eq_false (fun z => nomatch z)]; rfl) ⟨hD1, by rw [List.length_map]; omega, same_put b1 hD, js ++ [i9], by rw [List.map_append]; rfl, ?_, fun j hj => ?_⟩
          · rw [htk9, List.filter_append, List.length_append, List.length_append, hjl]; rfl
          · rcases List.mem_append.mp hj with h | h
            · exact hjs j h
            · rw [List.mem_singleton.mp h]; exact ⟨r2, hr2⟩
      · rintro ⟨v, js, rfl, b1, hD1, rfl, hjl, hjs⟩
        rw [show ((us.length : Nat) : Int).toNat = (kys s.fr).length by rw [kys_len]; omega, List.take_length, kys_cnt] at hjl
        exact ⟨b1, js, hD1, hjs, hjl⟩
    rintro ⟨fu, js, rfl, s3, fu3, hjs, hjc⟩
    refine ⟨fun σ G => ∃ (so : Addr) (is : List Nat), σ = [some (.ref z.p), some (.ref wh), some (.ref bd), some (.ref vd), some (.int (nb : Int)), some (.int c), some (.ref h), some (.ref mk), some (.int (y : Int)), some (.ref fu), some (.ref so), none] ∧ Same G3 G ∧ G so = some (.lst (is.map fun (j : Nat) => V.int (j : Int))) ∧ (∀ j ∈ is, ∃ r, s.sr[j]? = some (some r)) ∧ is.length = cnt s.sr, ?_, fun σ4 G4 => ?_⟩
    · walk_at "wp"
      refine ⟨_, SqL.of (s3 _ _ X1.wl.hw), _, atI_nat (j := 1) rfl, _, .inl ⟨_, SqL.of (s3 _ _ hs), rfl⟩, by omega, by omega, fun D hD => ?_⟩
      refine comp_range (fun i9 ys σ H' => ∃ (v : Option V) (js : List Nat), σ = [v, some (.ref wh)] ∧ Same G3 H' ∧ H' D = some (.lst ys) ∧ ys = (js.map fun (j : Nat) => V.int (j : Int)) ∧ js.length = (((kys s.sr).take i9).filter Option.isSome).length ∧ ∀ j ∈ js, ∃ r, s.sr[j]? = some (some r)) ⟨_, [], rfl, same_upd same_refl hD, upd_same, rfl, rfl, fun j hj => by cases hj⟩ (fun i9 ys σ H' hi9 => ?_) (fun ys σ H5 => ?_)
      · rintro ⟨v, js, rfl, b1, hD1, rfl, hjl, hjs⟩
        have hi9 : i9 < s.sr.length := by omega
        obtain ⟨r2, hr2⟩ : ∃ r, s.sr[i9]? = some r := ⟨_, List.getElem?_eq_getElem hi9⟩
        obtain ⟨v2, hv2, hF2⟩ := prd_get2 hPs (kys_at hr2)
        have htk9 : (kys s.sr).take (i9 + 1) = (kys s.sr).take i9 ++ [r2.map hk] := by rw [List.take_add_one, kys_at hr2]; rfl
        have hle : (((kys s.sr).take i9).filter Option.isSome).length ≤ i9 := Nat.le_trans (List.length_filter_le _ _) (by rw [List.length_take]; omega)
        walk_at "wp"
        rw [Int.zero_add]
        refine ⟨_, SqL.of (b1 _ _ (s3 _ _ X1.wl.hw)), _, atI_nat (j := 1) rfl, ws, rfl, _, SqL.of (b1 _ _ (s3 _ _ hs)), _, atI_nat hv2, ?_⟩
        cases r2 with
        | none =>
          obtain rfl : v2 = .non := hF2
          refine ifn (by rw [decide_eq_true rfl]; rfl) ⟨b1, hD1, js, rfl, ?_, hjs⟩
          rw [htk9, List.filter_append, List.length_append, hjl]; rfl
        | some r2 =>
          obtain ⟨a9, rfl, _⟩ := hF2
          refine ifp (by rw [decide_eq_false (fun z => nomatch z)]; rfl) ⟨hD1, by rw [List.length_map]; omega, same_put b1 hD, js ++ [i9], by rw [List.map_append]; rfl, ?_, fun j hj => ?_⟩
          · rw [htk9, List.filter_append, List.length_append, List.length_append, hjl]; rfl
          · rcases List.mem_append.mp hj with h | h
            · exact hjs j h
            · rw [List.mem_singleton.mp h]; exact ⟨r2, hr2⟩
      · rintro ⟨v, js, rfl, b1, hD1, rfl, hjl, hjs⟩
        rw [show ((vs.length : Nat) : Int).toNat = (kys s.sr).length by rw [kys_len]; omega, List.take_length, kys_cnt] at hjl
        exact ⟨b1, js, hD1, hjs, hjl⟩
    rintro ⟨so, is, rfl, s4, so4, his, hic⟩
    have X4 := X1.same (s3.trans s4)
    have fu4 := s4 _ _ fu3
    have mk4 := s4 _ _ (s3 _ _ mk1)
    have hh4 := s4 _ _ (s3 _ _ hh1)
    have z4 : Zv [1, 3] L L1 H G4 := z1.trans (Zv.of (s3.trans s4))
    clear X1 hP hPs hf hs s3 s4 fu3 z1 s1 hmk hh1 mk1
    refine ⟨fun σ G => σ = [some (.ref z.p), some (.ref wh), some (.ref bd), some (.ref vd), some (.int (nb : Int)), some (.int c), some (.ref h), some (.ref mk), some (.int (y : Int)), some (.ref fu), some (.ref so), none] ∧ DvI A z L1 wh wf ws bd vd W n s.fr.length s.sr.length G4 y 4 G, ?_, fun σ5 G5 => ?_⟩
    · have d4 : DdI A z L1 wh wf ws bd vd W n s.fr.length s.sr.length G4 G4 := ⟨s, W, X4, rfl, rfl, rfl, Zv.of same_refl⟩
      walk_at "wp"
      refine ite2 (fun hy => ?_) (fun hy => .inr ⟨by omega, same_refl⟩)
      refine ⟨is.length, .inl ⟨_, SqL.of so4, by rw [List.length_map]⟩, ?_⟩
      refine ite2 (fun hi0 => ?_) (fun _ => .inl ⟨by omega, d4⟩)
      have e1 := Int.emod_nonneg ((nb : Int) / 65536) (show (is.length : Int) ≠ 0 by omega)
      have e2 := Int.emod_lt_of_pos ((nb : Int) / 65536) (show (0 : Int) < is.length by omega)
      obtain ⟨x9, hx9⟩ : ∃ x9 : Nat, (nb : Int) / 65536 % (is.length : Int) = (x9 : Int) := ⟨((nb : Int) / 65536 % (is.length : Int)).toNat, by omega⟩
      obtain ⟨j, hj⟩ : ∃ j, is[x9]? = some j := ⟨_, List.getElem?_eq_getElem (by omega)⟩
      obtain ⟨q0, hq0⟩ := his j (List.mem_of_getElem? hj)
      refine ⟨is.length, .inl ⟨_, SqL.of so4, by rw [List.length_map]⟩, by omega, _, SqL.of so4, V.int (j : Int), by rw [hx9]; exact atI_nat (by rw [List.getElem?_map, hj]; rfl), z, s, L1, wh, wf, ws, bd, vd, mk, W, n, j, ms, q0, rfl, X4, hq0, mk4, lmk, by omega, fun H' s' w1 w2 w3 w4 => .inl ⟨by omega, s', W, w1, rfl, w3, w4, w2.sub (by simp)⟩⟩
    rintro ⟨rfl, h5⟩
    refine ⟨fun σ G => σ = [some (.ref z.p), some (.ref wh), some (.ref bd), some (.ref vd), some (.int (nb : Int)), some (.int c), some (.ref h), some (.ref mk), some (.int (y : Int)), some (.ref fu), some (.ref so), none] ∧ DvI A z L1 wh wf ws bd vd W n s.fr.length s.sr.length G4 y 6 G, ?_, fun σ6 G6 => ?_⟩
    · walk_at "wp"
      intro tp htp
      obtain ⟨b5, c5⟩ := new_at (o := .tup [V.int 4, V.int 5]) htp
      refine ⟨_, .inr (SqT.of c5), rfl, rfl, ?_⟩
      rw [if_neg (show ¬ (false = true) by decide), show inV (V.int (y : Int)) [V.int 4, V.int 5] = decide (y = 4 ∨ y = 5) by
        show (decide ((4 : Int) = (y : Int)) || (decide ((5 : Int) = (y : Int)) || false)) = _
        by_cases y4 : y = 4
        · subst y4; rfl
        · by_cases y5 : y = 5
          · subst y5; rfl
          · rw [decide_eq_false (by omega), decide_eq_false (by omega), decide_eq_false (by omega)]; rfl]
      have keep5 : DvI A z L1 wh wf ws bd vd W n s.fr.length s.sr.length G4 y 4 (upd G5 tp (.tup [V.int 4, V.int 5])) := h5.imp (fun ⟨a, b⟩ => ⟨a, b.same b5⟩) (fun ⟨a, b⟩ => ⟨a, b.trans b5⟩)
      generalize upd G5 tp _ = G9 at *
      by_cases hy : y = 4 ∨ y = 5
      · have s9 : Same G4 G9 := by
          rcases keep5 with h | h
          · omega
          · exact h.2
        have X9 := X4.same s9
        have d9 : DdI A z L1 wh wf ws bd vd W n s.fr.length s.sr.length G4 G9 := ⟨s, W, X9, rfl, rfl, rfl, Zv.of s9⟩
        rw [decide_eq_true hy]
        have fu9 := s9 _ _ fu4
        refine ifp rfl ⟨js.length, .inl ⟨_, SqL.of fu9, by rw [List.length_map]⟩, ?_⟩
        refine ite2 (fun hi0 => ?_) (fun _ => .inl ⟨by omega, d9⟩)
        have e1 := Int.emod_nonneg ((nb : Int) / 65536) (show (js.length : Int) ≠ 0 by omega)
        have e2 := Int.emod_lt_of_pos ((nb : Int) / 65536) (show (0 : Int) < js.length by omega)
        obtain ⟨x9, hx9⟩ : ∃ x9 : Nat, (nb : Int) / 65536 % (js.length : Int) = (x9 : Int) := ⟨((nb : Int) / 65536 % (js.length : Int)).toNat, by omega⟩
        obtain ⟨j, hj⟩ : ∃ j, js[x9]? = some j := ⟨_, List.getElem?_eq_getElem (by omega)⟩
        obtain ⟨q0, hq0⟩ := hjs j (List.mem_of_getElem? hj)
        refine ⟨js.length, .inl ⟨_, SqL.of fu9, by rw [List.length_map]⟩, by omega, _, SqL.of fu9, V.int (j : Int), by rw [hx9]; exact atI_nat (by rw [List.getElem?_map, hj]; rfl), z, s, L1, wh, wf, ws, bd, vd, W, n, j, c, q0, rfl, X9, hq0, hn1, fun H' s' W' w1 w2 w3 w4 w5 => .inl ⟨by omega, s', W', w1, w5, w3, w4, (Zv.of s9).trans w2⟩⟩
      · rw [decide_eq_false hy]
        refine ifn rfl ?_
        rcases keep5 with h | h
        · exact .inl ⟨by omega, h.2⟩
        · exact .inr ⟨by omega, h.2⟩
    rintro ⟨rfl, h6⟩
    refine ⟨fun σ G => ∃ v12, σ = [some (.ref z.p), some (.ref wh), some (.ref bd), some (.ref vd), some (.int (nb : Int)), some (.int c), some (.ref h), some (.ref mk), some (.int (y : Int)), some (.ref fu), some (.ref so), v12] ∧ DvI A z L1 wh wf ws bd vd W n s.fr.length s.sr.length G4 y 7 G, ?_, fun σ7 G7 => ?_⟩
    · walk_at "wp"
      refine ite2 (fun hy => ?_) (fun hy => ?_)
      · have s9 : Same G4 G6 := by
          rcases h6 with h | h
          · omega
          · exact h.2
        have X9 := X4.same s9
        have fu9 := s9 _ _ fu4
        refine ⟨js.length, .inl ⟨_, SqL.of fu9, by rw [List.length_map]⟩, ?_⟩
        refine ite2 (fun hi0 => ?_) (fun _ => .inl ⟨by omega, s, W, X9, rfl, rfl, rfl, Zv.of s9⟩)
        have e1 := Int.emod_nonneg ((nb : Int) / 65536) (show (js.length : Int) ≠ 0 by omega)
        have e2 := Int.emod_lt_of_pos ((nb : Int) / 65536) (show (0 : Int) < js.length by omega)
        obtain ⟨x9, hx9⟩ : ∃ x9 : Nat, (nb : Int) / 65536 % (js.length : Int) = (x9 : Int) := ⟨((nb : Int) / 65536 % (js.length : Int)).toNat, by omega⟩
        obtain ⟨j, hj⟩ : ∃ j, js[x9]? = some j := ⟨_, List.getElem?_eq_getElem (by omega)⟩
        obtain ⟨r, hrj⟩ := hjs j (List.mem_of_getElem? hj)
        have hjl := (List.getElem?_eq_some_iff.mp hrj).1
        have hln := hX.ss.lens
        refine ⟨js.length, .inl ⟨_, SqL.of fu9, by rw [List.length_map]⟩, by omega, _, SqL.of fu9, V.int (j : Int), by rw [hx9]; exact atI_nat (by rw [List.getElem?_map, hj]; rfl), ?_⟩
        obtain ⟨us9, hf9, hP9⟩ := X9.wl.hf
        have hul9 := Paired.length hP9
        rw [kys_len] at hul9
        obtain ⟨v9, hv9, h9, rfl, hh9⟩ := prd_get2 hP9 (kys_at hrj)
        obtain ⟨w1, w2, a9, w3⟩ := X9.vs.one r (.inl (List.mem_of_getElem? hrj))
        have hgone : gone s true j r (hk r) = emptS s true j := by
          unfold gone
          rw [if_pos (by rw [w1]; unfold offK; simp)]
        obtain ⟨_, _, _, _, fr3, _⟩ := id X9.ss.fr
        obtain ⟨_, _, _, _, _, hdr⟩ := prd_get2 fr3 hrj
        refine ⟨fun σ G => σ = [some (.ref z.p), some (.ref wh), some (.ref bd), some (.ref vd), some (.int (nb : Int)), some (.int c), some (.ref h), some (.ref mk), some (.int (y : Int)), some (.ref fu), some (.ref so), some (.int (j : Int))] ∧ SsAt A.C_Sheets A.C_Spots A.C_Sheet G z (emptS s true j) ∧ Ap (emptS s true j) ∧ Tw (emptS s true j) ∧ Kg z r.hd G6 G ∧ Dm G6 G, ?_, fun σ8 G8 => ?_⟩
        · obtain ⟨dx, hme⟩ := X9.ss.me
          walk_at "wp"
          refine ⟨dx, _, hme, ssF_no (by decide +kernel), fun tp htp => ?_⟩
          obtain ⟨b5, c5⟩ := new_at (o := .tup [V.str (Str.ofString "frame"), V.int (j : Int)]) htp
          refine ⟨_, SqL.of (b5 _ _ X9.wl.hw), _, atI_nat (j := 0) rfl, wf, rfl, _, SqL.of (b5 _ _ hf9), _, atI_nat hv9, z, s, tp, h9, true, j, r, hk r, rfl, X9.ss.same b5, X9.ap, X9.tw, c5, hrj, b5 _ _ hh9, by rw [w1]; exact List.mem_singleton.mpr rfl, fun H' a1 a2 a3 a4 a5 => ?_⟩
          rw [hgone] at a1 a2 a3
          exact ⟨a1, a2, a3, fun c9 o9 hc9 n1 n2 n3 => a4 c9 o9 (b5 _ _ hc9) n1 n2 n3, fun c9 hc9 => same_none b5 (a5 c9 hc9)⟩
        rintro ⟨rfl, S8, A8, T8, k8, d8⟩
        have z8 : Zv [] L1 L1 G6 G8 := k8.zv hdr X9.ss X9.l0 X9.wl.lv d8
        have W8 := X9.wl.zv z8 (by simp) (X9.wl.lv.zv z8)
        have hvd8 : G8 vd = G6 vd := by
          rw [X9.va.hv]
          refine k8 _ _ X9.va.hv (fun e9 => ?_) (fun e9 => ?_) (fun e9 => ?_)
          · obtain ⟨dx, hme⟩ := X9.ss.me
            have := X9.va.hv
            rw [e9, hme] at this; cases this
          · obtain ⟨us, hme⟩ := X9.ss.fours _ e9
            have := X9.va.hv
            rw [hme] at this; cases this
          · have := X9.va.hv
            rw [e9, hdr, w1] at this
            have e3 : ksD [hk r] = W.map fun x => (x.1, V.ref x.2.1) := HO.dT.inj (Option.some.inj this)
            have w3' : (hk r, V.ref a9) ∈ W.map fun x => (x.1, V.ref x.2.1) := List.mem_map.mpr ⟨_, w3, rfl⟩
            rw [← e3] at w3'
            have := List.mem_singleton.mp w3'
            cases this
        have va8 := X9.va.zv z8 (by simp) hvd8
        obtain ⟨es1, es2, es3⟩ : (emptS s true j).fr = s.fr.set j none ∧ (emptS s true j).sr = s.sr ∧ (emptS s true j).tf = s.tf.set j none := by
          refine ⟨?_, ?_, ?_⟩
          · show (untie (s.put true j none) j).fr = _; rw [untie_eq.1]; rfl
          · show (untie (s.put true j none) j).sr = _; rw [untie_eq.2.1]; rfl
          · show (untie (s.put true j none) j).tf = _
            cases e : s.tf[j]? with
            | none => exact absurd (List.getElem?_eq_none_iff.mp e) (by omega)
            | some o =>
              cases o with
              | none =>
                rw [untie_none (fun k z => by have z : s.tf[j]? = some (some k) := z; rw [e] at z; cases z)]
                show s.tf = s.tf.set j none
                obtain ⟨w1, w2⟩ := List.getElem?_eq_some_iff.mp e
                rw [← w2, List.set_getElem_self]
              | some k => rw [untie_some (show (s.put true j none).tf[j]? = some (some k) from e)]; rfl
        have pm8 : (alS s).Perm (r :: alS (emptS s true j)) := by
          unfold alS
          rw [es1, es2, als_app, als_app]
          exact (als_take hrj).append_right _
        have vs8 : Vs (emptS s true j) W := ⟨fun q9 hq9 => X9.vs.one q9 (alS_mem.mp (pm8.mem_iff.mpr (List.mem_cons_of_mem _ (alS_mem.mpr hq9)))), (List.nodup_cons.mp ((pm8.map hk).nodup_iff.mp X9.vs.nd)).2⟩
        have bx8 : Bx (emptS s true j) := (List.nodup_cons.mp ((pm8.map Sh.bx).nodup_iff.mp X9.bx)).2
        have cs8 : Cs A G8 z (emptS s true j) L1 := ⟨S8, X9.l0, fun q9 hq9 => X9.lb q9 (alS_mem.mp (pm8.mem_iff.mpr (List.mem_cons_of_mem _ (alS_mem.mpr hq9))))⟩
        obtain ⟨us8, hf8, hP8⟩ := W8.hf
        have hul8 := Paired.length hP8
        rw [kys_len] at hul8
        refine ⟨fun σ G => σ = [some (.ref z.p), some (.ref wh), some (.ref bd), some (.ref vd), some (.int (nb : Int)), some (.int c), some (.ref h), some (.ref mk), some (.int (y : Int)), some (.ref fu), some (.ref so), some (.int (j : Int))] ∧ Wl G L1 wh wf ws bd ((kys s.fr).set j none) (kys s.sr) s.tf ∧ Mv [1] L1 L1 G8 G, ?_, fun σ10 G10 => ?_⟩
        · walk_at "wp"
          exact ⟨_, SqL.of W8.hw, _, atI_nat (j := 0) rfl, wf, rfl, us8, hf8, j, ixn (by omega), W8.setF hf8 (o := none) rfl, Mv.set hf8 (by rw [W8.l1.2.1]; simp)⟩
        rintro ⟨rfl, W10, m10⟩
        walk_at "wp"
        refine ⟨_, W10.hb, j, ixn (by rw [List.length_map]; omega), .inl ⟨by omega, emptS s true j, W, ?_, rfl, by rw [es1, List.length_set], by rw [es2], ?_⟩⟩
        · have m11 : Mv [1] L1 L1 G10 (upd G10 bd (.lst ((s.tf.map oV).set j (oV none)))) := Mv.set W10.hb (by rw [W10.l1.2.2.2]; simp)
          have W11 := W10.setB (i := j) (o := none)
          have cs11 := (cs8.mv m10 W8.lv (by simp)).mv m11 W10.lv (by simp)
          have va10 := va8.zv (m10.zv W8.lv (by simp)) (by simp) (by rw [va8.hv]; exact m10.kw _ _ va8.hv (by rw [W8.lv.zero va8.hv fun _ z => nomatch z]; simp))
          have va11 := va10.zv (m11.zv W10.lv (by simp)) (by simp) (by rw [va10.hv]; exact m11.kw _ _ va10.hv (by rw [W10.lv.zero va10.hv fun _ z => nomatch z]; simp))
          refine ⟨cs11.ss, A8, T8, bx8, cs11.l0, cs11.lb, ?_, va11, vs8⟩
          rw [es1, es2, es3, kys_set]
          exact W11
        · exact (Zv.of s9).trans ((z8.sub (by simp)).trans ((m10.trans (Mv.set W10.hb (by rw [W10.l1.2.2.2]; simp))).zv W8.lv (by simp) |>.sub (by simp)))
      · rcases h6 with h | h
        · exact .inl ⟨by omega, h.2⟩
        · exact .inr ⟨by omega, h.2⟩
    rintro ⟨v12, rfl, h7⟩
    have fin : ∀ G, DdI A z L1 wh wf ws bd vd W n s.fr.length s.sr.length G4 G → Q .non G := fun G hD => q G L1 G4 hD (by
      obtain ⟨_, _, _, _, _, _, zz⟩ := hD
      exact z4.trans zz)
    walk_at "wp"
    refine ite2 (fun hy => ?_) (fun hy => ?_)
    · have s9 : Same G4 G7 := by
        rcases h7 with h | h
        · omega
        · exact h.2
      have X9 := X4.same s9
      have fu9 := s9 _ _ fu4
      have so9 := s9 _ _ so4
      have mk9 := s9 _ _ mk4
      have hh9 := s9 _ _ hh4
      obtain ⟨us9, hf9, hP9⟩ := X9.wl.hf
      obtain ⟨vs9, hs9, hPs9⟩ := X9.wl.hs
      have hul9 := Paired.length hP9
      have hvl9 := Paired.length hPs9
      rw [kys_len] at hul9 hvl9
      have d9 : DdI A z L1 wh wf ws bd vd W n s.fr.length s.sr.length G4 G7 := ⟨s, W, X9, rfl, rfl, rfl, Zv.of s9⟩
      refine ⟨js.length, .inl ⟨_, SqL.of fu9, by rw [List.length_map]⟩, is.length, .inl ⟨_, SqL.of so9, by rw [List.length_map]⟩, _, SqL.of X9.wl.hw, _, atI_nat (j := 0) rfl, _, .inl ⟨_, SqL.of hf9, rfl⟩, _, SqL.of X9.wl.hw, _, atI_nat (j := 1) rfl, _, .inl ⟨_, SqL.of hs9, rfl⟩, ?_⟩
      refine ite2 (fun hlt => ?_) (fun _ => fin G7 d9)
      have hroom : live s < room s := by unfold live room; omega
      have hget : DGet G7 vd (.ref h) (some (.ref a)) := by have := DGet.t X9.va.hv hh9; rw [X9.va.get hka] at this; exact this
      obtain ⟨y1, y2, y3⟩ := X9.va.va _ hka
      obtain ⟨dx, hme⟩ := X9.ss.me
      refine ⟨dx, _, hme, ssF_no (by decide +kernel), .ref a, hget, a, rfl, _, .inl (SqL.of y1), fun l hl => ?_⟩
      obtain ⟨b5, c5⟩ := new_at (o := .lst (b.map V.int)) hl
      have X10 := X9.same b5
      have mk10 := b5 _ _ mk9
      have hh10 := b5 _ _ hh9
      have hl10 := X9.ss.nf hl
      have z910 : Zv [1, 3] L1 L1 G4 (upd G7 l (.lst (b.map V.int))) := (Zv.of s9).trans (Zv.of b5)
      have c5 : upd G7 l (.lst (b.map V.int)) l = some (.lst (b.map V.int)) := c5
      show sp_fresh _ _ _ _ _ (upd G7 l (.lst (b.map V.int))) _ _
      generalize upd G7 l _ = G10 at *
      refine ⟨z, s, l, h, mk, b, k, ms, rfl, X10.ss, X10.ap, X10.tw, c5, hl10, hh10, mk10, by omega, fun r hr => X10.okh (.inl hr), ?_⟩
      rw [if_pos hroom]
      intro H' s1 i ps out t e v3 r a1 a2 a3 a4 a5 a6 a7 a8 a9 a10 a11 a12
      have hkr : hk r = k := by unfold hk; rw [a6]; rfl
      have z12 : Zv [] L1 L1 G10 H' := Zv.ks X10.ss a2 a12.kd X10.l0 X10.wl.lv (a12.dm X10.ss a2)
      have W12 := X10.wl.zv z12 (by simp) (X10.wl.lv.zv z12)
      have hvd12 : H' vd = G10 vd := by
        rw [X10.va.hv]
        refine a12 _ _ X10.va.hv (fun e9 => ?_) (fun e9 => ?_)
        · obtain ⟨dx, hme⟩ := X10.ss.me
          have := X10.va.hv
          rw [e9, hme] at this; cases this
        · obtain ⟨us, hme⟩ := X10.ss.fours _ e9
          have := X10.va.hv
          rw [hme] at this; cases this
      have va12 := X10.va.zv z12 (by simp) hvd12
      have pm := a1.alsF (r := r) X10.tw
      obtain ⟨f1, f2, f3, _⟩ := a1.facts X10.tw
      have hil := (List.getElem?_eq_some_iff.mp f1).1
      obtain ⟨g1, g2, g3⟩ := com_out (k := k) a1 X10.tw
      have hln := X10.ss.lens
      have lr0 : L1 r.bx = 0 := Decidable.byContradiction fun e => by
        obtain ⟨us, h9⟩ := X10.wl.lv _ e
        rw [a7] at h9; cases h9
      have hmem : ∀ q9, some q9 ∈ s1.fr.set i (some r) ∨ some q9 ∈ s1.sr → q9 = r ∨ some q9 ∈ s.fr ∨ some q9 ∈ s.sr := fun q9 hq => (List.mem_cons.mp (pm.mem_iff.mp (alS_mem.mpr (show some q9 ∈ ({ s1 with fr := s1.fr.set i (some r) } : St).fr ∨ some q9 ∈ ({ s1 with fr := s1.fr.set i (some r) } : St).sr from hq)))).imp id alS_mem.mp
      have cs12 : Cs A H' z { s1 with fr := s1.fr.set i (some r) } L1 := ⟨a2, X10.l0, fun q9 hq => (hmem q9 hq).elim (fun e => by rw [e]; exact lr0) (X10.lb q9)⟩
      have hjo : ∀ j2, out.map (·.1) = some j2 → j2 < s.sr.length := fun j2 e9 => by
        rcases a1 with ⟨_, _, _, rfl⟩ | ⟨_, q9, j9, _, _, _, y, _, rfl⟩
        · cases e9
        · cases e9; exact y
      refine ⟨L1, wh, wf, ws, bd, t, h, e, _, _, _, i, v3, _, k, rfl, W12, a8, a10.wo, z12.tup hh10, by rw [kys_len]; omega, by rw [kys_len]; exact hln.1, by rw [kys_len]; omega, fun j2 e9 => by rw [kys_len]; exact hjo j2 e9, fun H2 w1 m1 => fin H2 ⟨{ s1 with fr := s1.fr.set i (some r) }, W, ?_, rfl, by show (s1.fr.set i (some r)).length = _; rw [List.length_set]; exact f2, f3, z910.trans ((z12.sub (by simp)).trans ((m1.zv W12.lv (by simp)).sub (by simp)))⟩⟩
      have cs13 := cs12.mv m1 W12.lv (by simp)
      refine ⟨cs13.ss, a3, a4, ?_, cs13.l0, cs13.lb, ?_, va12.zv (m1.zv W12.lv (by simp)) (by simp) (by rw [va12.hv]; exact m1.kw _ _ va12.hv (by rw [W12.lv.zero va12.hv fun _ z => nomatch z]; simp)), ⟨fun q9 hq9 => ?_, ?_⟩⟩
      · refine (pm.map Sh.bx).nodup_iff.mpr (List.nodup_cons.mpr ⟨fun hx => ?_, X10.bx⟩)
        obtain ⟨q9, hq, e9⟩ := List.mem_map.mp hx
        have := X10.ss.bxl (alS_mem.mp hq)
        rw [e9, a7] at this; cases this
      · show Wl H2 L1 wh wf ws bd (kys (s1.fr.set i (some r))) (kys s1.sr) s1.tf
        rw [kys_set, g2, g3]
        show Wl H2 L1 wh wf ws bd ((kys s1.fr).set i (some (hk r))) _ _
        rw [hkr, g1]
        exact w1
      · rcases hmem q9 hq9 with e9 | e9
        · rw [e9]
          exact ⟨by rw [hkr]; exact a6, by rw [hkr]; exact htk, a, by rw [hkr, a5]; exact hka⟩
        · exact X10.vs.one q9 e9
      · refine (pm.map hk).nodup_iff.mpr (List.nodup_cons.mpr ⟨?_, X10.vs.nd⟩)
        rw [hkr]; exact hkn
    · rcases h7 with h | h
      · exact fin G7 h.2
      · exact fin G7 ⟨s, W, X4.same h.2, rfl, rfl, rfl, Zv.of h.2⟩

def Scr (K : PySem.W.Frag) (G : Hp) (L : Lb) (a : Addr) (xs : List V) : Prop := (G a = some (.lst xs) ∧ L a = 5) ∨ (∃ o, G a = some (.frz o (.lst xs))) ∨ ∀ G', SqL K G' a xs
theorem Scr.sq {K : PySem.W.Frag} {G : Hp} {L : Lb} {a : Addr} {xs : List V} (h : Scr K G L a xs) : SqL K G a xs := by
  rcases h with h | h | h
  · exact SqL.of h.1
  · exact .inl (.inr h)
  · exact h G
theorem Scr.zv {K : PySem.W.Frag} {S : List Nat} {G G' : Hp} {L L' : Lb} {a : Addr} {xs : List V} (h : Scr K G L a xs) (z : Zv S L L' G G') (h5 : 5 ∉ S) : Scr K G' L' a xs := by
  rcases h with h | ⟨o, h⟩ | h
  · exact .inl (z.lst h.1 h.2 (by decide) h5)
  · exact .inr (.inl ⟨o, z.kz _ _ h (.inl ⟨_, .inr ⟨_, rfl⟩⟩)⟩)
  · exact .inr (.inr h)
theorem Scr.of {K : PySem.W.Frag} {G : Hp} {a : Addr} {xs : List V} (h : SqL K G a xs) : ∃ L, Scr K G L a xs ∧ Lv L G ∧ ∀ c, L c = 0 ∨ L c = 5 := by
  have z : Lv (fun _ => 0) G := fun c hc => absurd rfl hc
  rcases h with (h | h) | h
  · refine ⟨lab (fun _ => 0) a 5, .inl ⟨h, lab_at⟩, z.lab same_refl h, fun c => ?_⟩
    by_cases e : c = a
    · rw [e]; exact .inr lab_at
    · rw [lab_ne e]; exact .inl rfl
  · exact ⟨fun _ => 0, .inr (.inl h), z, fun _ => .inl rfl⟩
  · exact ⟨fun _ => 0, .inr (.inr fun _ => .inr h), z, fun _ => .inl rfl⟩
theorem cutV_nat {xs : List V} {lo hi : Nat} : cutV xs (some (lo : Int)) (some (hi : Int)) = (xs.take hi).drop lo := by
  unfold cutV
  show (xs.drop (if (lo : Int) < 0 then ((lo : Int) + (xs.length : Int)).toNat else min (lo : Int).toNat xs.length)).take ((if (hi : Int) < 0 then ((hi : Int) + (xs.length : Int)).toNat else min (hi : Int).toNat xs.length) - (if (lo : Int) < 0 then ((lo : Int) + (xs.length : Int)).toNat else min (lo : Int).toNat xs.length)) = _
  rw [if_neg (by omega), if_neg (by omega), Int.toNat_natCast, Int.toNat_natCast, List.drop_take]
  refine List.ext_getElem? fun k => ?_
  rw [List.getElem?_take, List.getElem?_take, List.getElem?_drop, List.getElem?_drop]
  by_cases h1 : k < hi - lo
  · rw [if_pos h1]
    by_cases h2 : k < min hi xs.length - min lo xs.length
    · rw [if_pos h2, Nat.min_eq_left (by omega)]
    · rw [if_neg h2, List.getElem?_eq_none_iff.mpr (by omega)]
  · rw [if_neg h1]
    by_cases h2 : k < min hi xs.length - min lo xs.length
    · rw [if_pos h2, List.getElem?_eq_none_iff.mpr (by omega)]
    · rw [if_neg h2]
theorem live_al {s : St} : live s = (alS s).length := by
  have e : ∀ {rows : List (Option Sh)}, cnt rows = (als rows).length := fun {rows} => by
    induction rows with
    | nil => rfl
    | cons x l ih =>
      cases x with
      | none => exact ih
      | some y =>
        show (some y :: l.filter Option.isSome).length = (y :: als l).length
        rw [List.length_cons, List.length_cons]
        exact congrArg (· + 1) ih
  unfold live alS
  rw [als_app, List.length_append, e, e]
theorem Tx.frsh {A : Adr} {G H' : Hp} {z : Ss} {s s1 : St} {L : Lb} {wh wf ws bd vd : Addr} {W : List Vl} {n : Nat} {k : List Key} {a : Addr} {b : List Int} {ms : List Bool} {i : Nat} {ps : List Int} {out : Option (Nat × Sh)} {r : Sh} (X : Tx A G z s L wh wf ws bd vd W n) (hka : (k, a, b) ∈ W) (htk : Tri k) (hkn : k ∉ (alS s).map hk) (a1 : Ffr s none ms s1 i ps out) (a2 : SsAt A.C_Sheets A.C_Spots A.C_Sheet H' z { s1 with fr := s1.fr.set i (some r) }) (a3 : Ap { s1 with fr := s1.fr.set i (some r) }) (a4 : Tw { s1 with fr := s1.fr.set i (some r) }) (a5 : r.b = b) (a6 : r.ks = [k]) (a7 : G r.bx = none) (a12 : Ks z G H') : Wl H' L wh wf ws bd (kys s.fr) (kys s.sr) s.tf ∧ Zv [] L L G H' ∧ ∀ H2, Wl H2 L wh wf ws bd (comF (kys s.fr) i k) (comS (kys s.fr) (kys s.sr) i (out.map (·.1))) (comB s.tf i (out.map (·.1))) → Mv [1] L L H' H2 → Tx A H2 z { s1 with fr := s1.fr.set i (some r) } L wh wf ws bd vd W n := by
  have hkr : hk r = k := by unfold hk; rw [a6]; rfl
  have z12 : Zv [] L L G H' := Zv.ks X.ss a2 a12.kd X.l0 X.wl.lv (a12.dm X.ss a2)
  have W12 := X.wl.zv z12 (by simp) (X.wl.lv.zv z12)
  have hvd12 : H' vd = G vd := by
    rw [X.va.hv]
    refine a12 _ _ X.va.hv (fun e9 => ?_) (fun e9 => ?_)
    · obtain ⟨dx, hme⟩ := X.ss.me
      have := X.va.hv
      rw [e9, hme] at this; cases this
    · obtain ⟨us, hme⟩ := X.ss.fours _ e9
      have := X.va.hv
      rw [hme] at this; cases this
  have va12 := X.va.zv z12 (by simp) hvd12
  have pm := a1.alsF (r := r) X.tw
  obtain ⟨g1, g2, g3⟩ := com_out (k := k) a1 X.tw
  have lr0 : L r.bx = 0 := Decidable.byContradiction fun e => by
    obtain ⟨us, h9⟩ := X.wl.lv _ e
    rw [a7] at h9; cases h9
  have hmem : ∀ q9, some q9 ∈ s1.fr.set i (some r) ∨ some q9 ∈ s1.sr → q9 = r ∨ some q9 ∈ s.fr ∨ some q9 ∈ s.sr := fun q9 hq => (List.mem_cons.mp (pm.mem_iff.mp (alS_mem.mpr (show some q9 ∈ ({ s1 with fr := s1.fr.set i (some r) } : St).fr ∨ some q9 ∈ ({ s1 with fr := s1.fr.set i (some r) } : St).sr from hq)))).imp id alS_mem.mp
  have cs12 : Cs A H' z { s1 with fr := s1.fr.set i (some r) } L := ⟨a2, X.l0, fun q9 hq => (hmem q9 hq).elim (fun e => by rw [e]; exact lr0) (X.lb q9)⟩
  refine ⟨W12, z12, fun H2 w1 m1 => ?_⟩
  have cs13 := cs12.mv m1 W12.lv (by simp)
  refine ⟨cs13.ss, a3, a4, ?_, cs13.l0, cs13.lb, ?_, va12.zv (m1.zv W12.lv (by simp)) (by simp) (by rw [va12.hv]; exact m1.kw _ _ va12.hv (by rw [W12.lv.zero va12.hv fun _ z => nomatch z]; simp)), ⟨fun q9 hq9 => ?_, ?_⟩⟩
  · refine (pm.map Sh.bx).nodup_iff.mpr (List.nodup_cons.mpr ⟨fun hx => ?_, X.bx⟩)
    obtain ⟨q9, hq, e9⟩ := List.mem_map.mp hx
    have := X.ss.bxl (alS_mem.mp hq)
    rw [e9, a7] at this; cases this
  · show Wl H2 L wh wf ws bd (kys (s1.fr.set i (some r))) (kys s1.sr) s1.tf
    rw [kys_set, g2, g3]
    show Wl H2 L wh wf ws bd ((kys s1.fr).set i (some (hk r))) _ _
    rw [hkr, g1]
    exact w1
  · rcases hmem q9 hq9 with e9 | e9
    · rw [e9]
      exact ⟨by rw [hkr]; exact a6, by rw [hkr]; exact htk, a, by rw [hkr, a5]; exact hka⟩
    · exact X.vs.one q9 e9
  · refine (pm.map hk).nodup_iff.mpr (List.nodup_cons.mpr ⟨?_, X.vs.nd⟩)
    rw [hkr]; exact hkn
def kTask (k : Nat) (x : Int) : List Key := [.inr (Str.ofString "task"), .inl (k : Int), .inl x]
def kBank (k : Nat) (x : Int) : List Key := [.inr (Str.ofString "bank"), .inl (k : Int), .inl x]
def Kq (W : List Vl) (a b : Nat) : Prop := W.length ≤ a + b ∧ ∀ x ∈ W.map (fun x => x.1), (∃ k y, x = kTask k y ∧ k < a) ∨ ∃ k y, x = kBank k y ∧ k < b
theorem Kq.task {W : List Vl} {a b : Nat} {x : Int} (h : Kq W a b) : kTask a x ∉ W.map (fun x => x.1) := fun z => by
  rcases h.2 _ z with ⟨k, y, e, hk⟩ | ⟨k, y, e, hk⟩
  · injection e with _ e; injection e with e _; injection e with e; omega
  · injection e with e _; injection e with e; exact absurd e (by decide +kernel)
theorem Kq.bank {W : List Vl} {a b : Nat} {x : Int} (h : Kq W a b) : kBank b x ∉ W.map (fun x => x.1) := fun z => by
  rcases h.2 _ z with ⟨k, y, e, hk⟩ | ⟨k, y, e, hk⟩
  · injection e with e _; injection e with e; exact absurd e (by decide +kernel)
  · injection e with _ e; injection e with e _; injection e with e; omega
theorem Kq.of {W W' : List Vl} {a b : Nat} (h : Kq W a b) (e : W'.map (fun x => x.1) = W.map (fun x => x.1)) : Kq W' a b := ⟨by have := congrArg List.length e; rw [List.length_map, List.length_map] at this; rw [this]; exact h.1, by rw [e]; exact h.2⟩
theorem Kq.addT {W : List Vl} {a b : Nat} {x : Int} {p : Addr × List Int} (h : Kq W a b) : Kq (W ++ [(kTask a x, p)]) (a + 1) b := ⟨by rw [List.length_append]; have := h.1; show W.length + 1 ≤ _; omega, fun y hy => by
  rw [List.map_append] at hy
  rcases List.mem_append.mp hy with hy | hy
  · rcases h.2 y hy with ⟨k, z, e, hk⟩ | h
    · exact .inl ⟨k, z, e, by omega⟩
    · exact .inr h
  · rw [List.mem_singleton.mp hy]; exact .inl ⟨a, x, rfl, by omega⟩⟩
theorem Kq.addB {W : List Vl} {a b : Nat} {x : Int} {p : Addr × List Int} (h : Kq W a b) : Kq (W ++ [(kBank b x, p)]) a (b + 1) := ⟨by rw [List.length_append]; have := h.1; show W.length + 1 ≤ _; omega, fun y hy => by
  rw [List.map_append] at hy
  rcases List.mem_append.mp hy with hy | hy
  · rcases h.2 y hy with h | ⟨k, z, e, hk⟩
    · exact .inl h
    · exact .inr ⟨k, z, e, by omega⟩
  · rw [List.mem_singleton.mp hy]; exact .inr ⟨b, x, rfl, by omega⟩⟩
theorem Tx.val {A : Adr} {G : Hp} {z : Ss} {s : St} {L : Lb} {wh wf ws bd vd : Addr} {W : List Vl} {n : Nat} {k : List Key} {a : Addr} {b : List Int} (X : Tx A G z s L wh wf ws bd vd W n) (hk : k ∉ W.map fun x => x.1) (ha : G a = some (.lst (b.map V.int))) (hl : L a = 3) (hn : b.length = n) (hna : a ∉ W.map fun x => x.2.1) (hd : ∀ r, some r ∈ s.fr ∨ some r ∈ s.sr → r.hd ≠ vd) : Tx A (upd G vd (.dT (putK (W.map fun x => (x.1, V.ref x.2.1)) k (.ref a)))) z s L wh wf ws bd vd (W ++ [(k, a, b)]) n := by
  have np : ∀ {c o}, G c = some o → (∀ us, o ≠ .dT us) → upd G vd (.dT (putK (W.map fun x => (x.1, V.ref x.2.1)) k (.ref a))) c = some o := fun {c o} hc ho => by rw [upd_ne (fun z => by rw [z, X.va.hv] at hc; exact ho _ (Option.some.inj hc).symm)]; exact hc
  have zz : Zv [] L L G (upd G vd (.dT (putK (W.map fun x => (x.1, V.ref x.2.1)) k (.ref a)))) := ⟨fun _ => .inl rfl, fun c o hc n9 => np hc (fun us e => by
    rcases n9 with n9 | n9
    · obtain ⟨ws, h | ⟨p, h⟩⟩ := n9 <;> (rw [e] at h; cases h)
    · obtain ⟨us, h9⟩ := X.wl.lv c n9.1
      rw [hc, e] at h9; cases h9), fun c hc => by
    by_cases e : c = vd
    · rw [e, upd_same] at hc; cases hc
    · rw [upd_ne e] at hc; exact hc⟩
  obtain ⟨dx, h1⟩ := X.ss.me
  obtain ⟨dx1, vs1, f1, f2, f3, f4, f5⟩ := id X.ss.fr
  obtain ⟨dx2, vs2, g1, g2, g3, g4, g5⟩ := id X.ss.sl
  have kp : ∀ {v : V} {r : Option Sh}, (∀ q, r = some q → q.hd ≠ vd) → ShAt A.C_Sheet G v r → ShAt A.C_Sheet (upd G vd (.dT (putK (W.map fun x => (x.1, V.ref x.2.1)) k (.ref a)))) v r := fun {v r} hb hv => by
    cases r with
    | none => exact hv
    | some r =>
      obtain ⟨e, ⟨d, x1⟩, x2, x3⟩ := hv
      exact ⟨e, ⟨d, np x1 fun _ z => nomatch z⟩, np x2 (fun _ z => nomatch z), by rw [upd_ne (hb r rfl)]; exact x3⟩
  refine ⟨⟨⟨dx, np h1 fun _ z => nomatch z⟩, ⟨dx1, vs1, np f1 (fun _ z => nomatch z), np f2 (fun _ z => nomatch z), ly_to f3 (fun v r hr h => kp (fun q e => hd q (.inl (by rw [← e]; exact hr))) h), np f4 (fun _ z => nomatch z), f5⟩, ⟨dx2, vs2, np g1 (fun _ z => nomatch z), np g2 (fun _ z => nomatch z), ly_to g3 (fun v r hr h => kp (fun q e => hd q (.inr (by rw [← e]; exact hr))) h), np g4 (fun _ z => nomatch z), g5⟩, X.ss.n4, X.ss.bx, X.ss.len, X.ss.hh⟩, X.ap, X.tw, X.bx, X.l0, X.lb, X.wl.zv zz (by simp) (X.wl.lv.zv zz), X.va.put hk ha hl hn hna, ⟨fun r hr => let ⟨y1, y2, y3, y4⟩ := X.vs.one r hr; ⟨y1, y2, y3, List.mem_append_left _ y4⟩, X.vs.nd⟩⟩
theorem Tx.hdn {A : Adr} {G : Hp} {z : Ss} {s : St} {L : Lb} {wh wf ws bd vd : Addr} {W : List Vl} {n : Nat} (X : Tx A G z s L wh wf ws bd vd W n) : ∀ r, some r ∈ s.fr ∨ some r ∈ s.sr → r.hd ≠ vd := fun r hr e => by
  obtain ⟨w1, w2, a9, w3⟩ := X.vs.one r hr
  have hdr : G r.hd = some (.dT (ksD r.ks)) := by
    obtain ⟨_, _, _, _, f3, _⟩ := X.ss.fr
    obtain ⟨_, _, _, _, g3, _⟩ := X.ss.sl
    rcases hr with hr | hr
    · obtain ⟨i, hi⟩ := List.mem_iff_getElem?.mp hr
      obtain ⟨_, _, _, _, _, e⟩ := prd_get2 f3 hi
      exact e
    · obtain ⟨i, hi⟩ := List.mem_iff_getElem?.mp hr
      obtain ⟨_, _, _, _, _, e⟩ := prd_get2 g3 hi
      exact e
  rw [e, X.va.hv, w1] at hdr
  have e3 : ksD [hk r] = W.map fun x => (x.1, V.ref x.2.1) := (HO.dT.inj (Option.some.inj hdr)).symm
  have w3' : (hk r, V.ref a9) ∈ W.map fun x => (x.1, V.ref x.2.1) := List.mem_map.mpr ⟨_, w3, rfl⟩
  rw [← e3] at w3'
  have := List.mem_singleton.mp w3'
  cases this
def st0 (n m : Nat) : St := ⟨List.replicate n none, List.replicate m none, 0, 0, 0, 0, List.replicate n none, List.replicate m none⟩
theorem tx0 {A : Adr} {H G : Hp} {z : Ss} {L : Lb} {wh wf ws bd vd : Addr} {n m sz : Nat} (hS : SsAt A.C_Sheets A.C_Spots A.C_Sheet G z (st0 n m)) (f4 : ∀ c ∈ z.four, H c = none) (lv : Lv L H) (sm : Same H G) (h1 : H wh = none) (h2 : H wf = none) (h3 : H ws = none) (h4 : H bd = none) (ne : wh ≠ wf ∧ wh ≠ ws ∧ wh ≠ bd ∧ wf ≠ ws ∧ wf ≠ bd ∧ ws ≠ bd) (n4 : ∀ c ∈ z.four, c ≠ wh ∧ c ≠ wf ∧ c ≠ ws ∧ c ≠ bd) (g1 : G wh = some (.lst [.ref wf, .ref ws])) (g2 : G wf = some (.lst (List.replicate n .non))) (g3 : G ws = some (.lst (List.replicate m .non))) (g4 : G bd = some (.lst (List.replicate n .non))) (gv : G vd = some (.dT [])) : Tx A G z (st0 n m) (lab (lab (lab (lab L wh 1) wf 1) ws 1) bd 1) wh wf ws bd vd [] sz ∧ Mv [] L (lab (lab (lab (lab L wh 1) wf 1) ws 1) bd 1) H G := by
  have no : ∀ {k : Nat} {r : Sh}, some r ∉ List.replicate k (none : Option Sh) := fun h => by cases List.eq_of_mem_replicate h
  have no2 : ∀ {i k j : Nat}, (List.replicate k (none : Option Nat))[i]? ≠ some (some j) := fun h => by cases List.eq_of_mem_replicate (List.mem_of_getElem? h)
  have nal : ∀ (k : Nat), als (List.replicate k none) = [] := fun k => by unfold als; exact List.filterMap_eq_nil_iff.mpr fun a ha => by rw [List.eq_of_mem_replicate ha]; rfl
  have nhd : ∀ (k : Nat), hds (List.replicate k none) = [] := fun k => by unfold hds; exact List.filterMap_eq_nil_iff.mpr fun a ha => by rw [List.eq_of_mem_replicate ha]; rfl
  have eal : alS (st0 n m) = [] := by unfold alS st0; rw [als_app, nal, nal]; rfl
  have mv : Mv [] L (lab (lab (lab (lab L wh 1) wf 1) ws 1) bd 1) H G := ⟨fun c => by
    by_cases e1 : c = bd
    · rw [e1]; exact .inr h4
    · rw [lab_ne e1]
      by_cases e2 : c = ws
      · rw [e2]; exact .inr h3
      · rw [lab_ne e2]
        by_cases e3 : c = wf
        · rw [e3]; exact .inr h2
        · rw [lab_ne e3]
          by_cases e4 : c = wh
          · rw [e4]; exact .inr h1
          · exact .inl (lab_ne e4), fun c o hc _ => sm _ _ hc, fun c hc => same_none sm hc⟩
  obtain ⟨n1, n2, n3, n5, n6, n7⟩ := ne
  have hlv : Lv (lab (lab (lab (lab L wh 1) wf 1) ws 1) bd 1) G := ((((lv.same sm).lab same_refl g1).lab same_refl g2).lab same_refl g3).lab same_refl g4
  have kn : ∀ k : Nat, Paired (HW G) (List.replicate k .non) (kys (List.replicate k none)) := fun k => by
    unfold kys
    rw [List.map_replicate]
    induction k with
    | zero => exact .nil
    | succ k ih => exact .cons rfl ih
  refine ⟨⟨hS, ?_, ⟨fun i j h => absurd h no2, fun i j h => absurd h no2, fun i j h => absurd h no2, fun i j h => absurd h no2⟩, ?_, fun c hc => ?_, fun r hr => hr.elim (fun h => absurd h no) (fun h => absurd h no), ⟨g1, ⟨_, g2, kn n⟩, ⟨_, g3, kn m⟩, ?_, ⟨?_, ?_, ?_, lab_at⟩, ⟨n1, n2, n3, n5, n6, n7⟩, hlv⟩, ⟨gv, fun x hx => (by cases hx), List.nodup_nil, List.nodup_nil⟩, ⟨fun r hr => hr.elim (fun h => absurd h no) (fun h => absurd h no), ?_⟩⟩, mv⟩
  · unfold Ap st0
    rw [hds_app, nhd, nhd]; exact List.nodup_nil
  · unfold Bx; rw [eal]; exact List.nodup_nil
  · obtain ⟨m1, m2, m3, m4⟩ := n4 c hc
    rw [lab_ne m4, lab_ne m3, lab_ne m2, lab_ne m1]
    refine Decidable.byContradiction fun e => ?_
    obtain ⟨us, h⟩ := lv c e
    rw [f4 c hc] at h; cases h
  · show G bd = some (.lst ((List.replicate n none).map oV))
    rw [List.map_replicate]; exact g4
  · rw [lab_ne n3, lab_ne n2, lab_ne n1]; exact lab_at
  · rw [lab_ne n6, lab_ne n5]; exact lab_at
  · rw [lab_ne n7]; exact lab_at
  · rw [eal]; exact List.nodup_nil
def LkI (K : PySem.W.Frag) (A : Adr) (z : Ss) (wh wf ws bd vd a : Addr) (ns : List Int) (n m sz t u : Nat) (c : Option Nat) (G : Hp) : Prop := ∃ (s : St) (L : Lb) (W : List Vl), Tx A G z s L wh wf ws bd vd W sz ∧ Scr K G L a (ns.map V.int) ∧ Kq W t u ∧ s.fr.length = n ∧ s.sr.length = m ∧ ∀ x, c = some x → live s = x
def LvI (K : PySem.W.Frag) (A : Adr) (z : Ss) (wh wf ws bd vd a : Addr) (ns : List Int) (n m sz t u : Nat) (c : Option Nat) (k : List Key) (G : Hp) : Prop := ∃ (s : St) (L : Lb) (W : List Vl) (av : Addr) (b : List Int), Tx A G z s L wh wf ws bd vd W sz ∧ Scr K G L a (ns.map V.int) ∧ Kq W t u ∧ s.fr.length = n ∧ s.sr.length = m ∧ (∀ x, c = some x → live s = x) ∧ (k, av, b) ∈ W ∧ k ∉ (alS s).map hk
theorem LvI.of {K : PySem.W.Frag} {A : Adr} {z : Ss} {s : St} {L : Lb} {W : List Vl} {wh wf ws bd vd a av : Addr} {ns : List Int} {n m sz t' u' : Nat} {c : Option Nat} {k : List Key} {b : List Int} {G G' : Hp} (X : Tx A G z s L wh wf ws bd vd W sz) (hs : Scr K G L a (ns.map V.int)) (ln : s.fr.length = n) (lm : s.sr.length = m) (hc : ∀ x, c = some x → live s = x) (e : Same G G') (hav : G av = none) (gav : G' av = some (.lst (b.map V.int))) (hb : b.length = sz) (hk : k ∉ W.map fun x => x.1) (hq : Kq (W ++ [(k, av, b)]) t' u') : LvI K A z wh wf ws bd vd a ns n m sz t' u' c k (upd G' vd (.dT (putK (W.map fun x => (x.1, V.ref x.2.1)) k (.ref av)))) := by
  have X1 := X.lab (k := 3) e hav gav
  have hs1 : Scr K G' (lab L av 3) a (ns.map V.int) := hs.zv ((Mv.lab e hav).zv (S := []) X.wl.lv (by simp)) (by simp)
  have hna : av ∉ W.map fun x => x.2.1 := fun z9 => by
    obtain ⟨x, hx, e9⟩ := List.mem_map.mp z9
    have := (X.va.va x hx).1
    rw [show x.2.1 = av from e9, hav] at this; cases this
  have X2 := X1.val hk gav lab_at hb hna X1.hdn
  have np : ∀ {c o}, G' c = some o → (∀ us, o ≠ .dT us) → upd G' vd (.dT (putK (W.map fun x => (x.1, V.ref x.2.1)) k (.ref av))) c = some o := fun {c o} hc ho => by rw [upd_ne (fun z => by rw [z, X1.va.hv] at hc; exact ho _ (Option.some.inj hc).symm)]; exact hc
  refine ⟨s, _, _, av, b, X2, ?_, hq, ln, lm, hc, List.mem_append_right _ (List.mem_singleton.mpr rfl), fun z9 => ?_⟩
  · rcases hs1 with h | ⟨o, h⟩ | h
    · exact .inl ⟨np h.1 (fun _ z => nomatch z), h.2⟩
    · exact .inr (.inl ⟨o, np h (fun _ z => nomatch z)⟩)
    · exact .inr (.inr h)
  · obtain ⟨r, hr, e9⟩ := List.mem_map.mp z9
    obtain ⟨_, _, a9, h9⟩ := X.vs.one r (alS_mem.mp hr)
    exact hk (List.mem_map.mpr ⟨_, h9, e9⟩)
def spLaw (K : PySem.W.Frag) : Sp := fun vs H Q _ => ∃ (a : Addr) (ns : List Int), vs = [.ref a] ∧ SqL K H a (ns.map V.int) ∧ ns.length ≤ 63 ∧ ∀ H', Q (.bl true) H'
theorem body_law (T : Txt K mg A) : Body P w K mg base "law" s_law ["_law_script", "_law_most", "_law_where", "_law_size", "_law_sheets", "_law_bound", "_law_values", "_law_k", "_law_holder", "_law_cell_here", "_law_number"] 12 (spLaw K) := by
  intro f cdv A' outer s H vs Q E hr z
  obtain ⟨a, ns, rfl, hs, hn, qq⟩ := z
  have H_l_cell := h_cell (P := P) (w := w) (base := base) T a ns
  have H_l_come := h_come (P := P) (w := w) (base := base) T
  have H_l_deed := h_deed (P := P) (w := w) (base := base) T
  have H_l_true := h_true (P := P) (w := w) (base := base) T
  have H_Sheets_init := h_ssi (P := P) (w := w) (base := base) T
  have H_Sheets_fresh := h_fresh (P := P) (w := w) (base := base) T
  have hz := PySem.sizeLine_eq
  refine ⟨_, (pss_cons (ps_set (i := 1) sc_law.nd rfl (Or.inl rfl) pe_int)
      (pss_cut (ps_if (pt_cmpR op_eq (pe_op op_mod (pe_op op_fdiv (pe_callE H_l_cell (hr.mono (by decide)) xw_def (pa_cons (pvM 0) (pa_cons pe_int pa_nil))) pe_int) pe_int) pe_int (nomark _)) (pss_one (ps_set (i := 1) sc_law.nd rfl (Or.inl rfl) pe_int)) pss_nil)
      (pss_cut (ps_set (i := 2) sc_law.nd rfl (Or.inl rfl) (pe_lst (pa_cons (pe_comp rfl (pi_range1 rfl T.b_range (pa_cons (pe_op op_add pe_int (pe_op op_mod (pe_callE H_l_cell (hr.mono (by decide)) xw_def (pa_cons (pvM 0) (pa_cons pe_int pa_nil))) (pvM 1))) pa_nil)) (x := "_law_k") (fs := []) (ix := []) rfl rfl (fun _ _ _ _ _ _ => (pg_name (i := 0) (show (["_law_k"] : List Str).Nodup by decide +kernel) rfl (Or.inl rfl))) (fun _ _ _ _ _ _ => pf_nil) (fun _ _ _ _ _ _ => pe_non)) (pa_cons (pe_lst pa_nil) pa_nil))))
      (pss_cut (ps_asg (pe_comp rfl (pi_range1 rfl T.b_range (pa_cons (pe_op op_add pe_int (pe_op op_mod (pe_callE H_l_cell (hr.mono (by decide)) xw_def (pa_cons (pvM 0) (pa_cons pe_int pa_nil))) (pvM 1))) pa_nil)) (x := "_law_k") (fs := []) (ix := []) rfl rfl (fun _ _ _ _ _ _ => (pg_name (i := 0) (show (["_law_k"] : List Str).Nodup by decide +kernel) rfl (Or.inl rfl))) (fun _ _ _ _ _ _ => pf_nil) (fun _ _ _ _ _ _ => pe_non)) (pg_sub (pvM 2) pe_int set_list))
      (pss_cut (ps_set (i := 3) sc_law.nd rfl (Or.inl rfl) (pe_op op_add pe_int (pe_op op_mod (pe_op op_fdiv (pe_callE H_l_cell (hr.mono (by decide)) xw_def (pa_cons (pvM 0) (pa_cons pe_int pa_nil))) pe_int) pe_int)))
      (pss_cut (ps_set (i := 4) sc_law.nd rfl (Or.inl rfl) (pe_makeE H_Sheets_init (hr.mono (by decide)) xw_def (pa_cons (pe_callB call_len rfl T.b_len PySem.boot_len (pa_cons (pe_ix ix_list (pvM 2) pe_int (fun _ _ => rfl)) pa_nil)) (pa_cons (pe_callB call_len rfl T.b_len PySem.boot_len (pa_cons (pe_ix ix_list (pvM 2) pe_int (fun _ _ => rfl)) pa_nil)) (pa_cons (pvM 3) pa_nil)))))
      (pss_cut (ps_setC (i := 5) sc_law.nd rfl rfl rfl (pi_list (pe_ix ix_list (pvM 2) pe_int (fun _ _ => rfl))) (x := "_law_k") (fs := []) (ix := []) rfl rfl (fun _ _ _ _ _ _ => (pg_name (i := 0) (show (["_law_k"] : List Str).Nodup by decide +kernel) rfl (Or.inl rfl))) (fun _ _ _ _ _ _ => pf_nil) (fun _ _ _ _ _ _ => pe_non))
      (pss_cut (ps_set (i := 6) sc_law.nd rfl (Or.inl rfl) pe_dnewT)
      (pss_cut (ps_forE PassesOwn.leaving rfl (pi_range1 rfl T.b_range (pa_cons (pe_callB (call_max2 rfl) rfl T.b_max PyProof.Rows.boot_max (pa_cons pe_int (pa_cons (pe_op op_sub (pe_op op_add (pe_callB call_len rfl T.b_len PySem.boot_len (pa_cons (pe_ix ix_list (pvM 2) pe_int (fun _ _ => rfl)) pa_nil)) (pe_callB call_len rfl T.b_len PySem.boot_len (pa_cons (pe_ix ix_list (pvM 2) pe_int (fun _ _ => rfl)) pa_nil))) (pe_op op_mod (pe_op op_fdiv (pe_callE H_l_cell (hr.mono (by decide)) xw_def (pa_cons (pvM 0) (pa_cons pe_int pa_nil))) pe_int) pe_int)) pa_nil))) pa_nil)) (pg_name (i := 7) sc_law.nd rfl (Or.inr rfl)) (pss_cut (ps_set (i := 8) sc_law.nd rfl (Or.inl rfl) (pe_tup (pa_cons pe_str (pa_cons (pvM 7) (pa_cons (pe_op op_mod (pe_callE H_l_cell (hr.mono (by decide)) xw_def (pa_cons (pvM 0) (pa_cons pe_int pa_nil))) (pe_op op_pow pe_int pe_int)) pa_nil)))))
      (pss_cut (ps_dput (hu_of hr) (pvM 6) (pvM 8) (pe_comp rfl (pi_range1 rfl T.b_range (pa_cons (pvM 3) pa_nil)) (x := "_law_j") (fs := ["_law_script", "_law_k"]) (ix := [0, 7]) rfl rfl (fun _ _ _ _ _ _ => (pg_name (i := 0) (show (["_law_j", "_law_script", "_law_k"] : List Str).Nodup by decide +kernel) rfl (Or.inl rfl))) (fun _ _ _ _ _ _ => pf_nil) (fun _ _ _ _ _ _ => (pe_op op_mod (pe_op op_add (pe_callE H_l_cell (hr.mono (by decide)) xw_no (pa_cons (pvM 1) (pa_cons pe_int pa_nil))) (pe_op op_mul (pvM 2) (pvM 0))) (pe_op op_pow pe_int pe_int)))) rfl)
      (pss_one (ps_expr (pe_callE H_l_come (hr.mono (by decide)) xw_def (pa_cons (pvM 2) (pa_cons (pvM 5) (pa_cons (pe_methE (pvM 4) T.cl_Sheets H_Sheets_fresh (hr.mono (by decide)) xw_def (pa_cons (pe_callTy call_list_of rfl T.b_list PyProof.Rows.boot_list (pa_cons (pe_dget (hu_of hr) (pvM 6) (pvM 8) (fun _ _ => rfl)) pa_nil)) (pa_cons (pvM 8) (pa_cons (pe_comp rfl (pi_list (pvM 5)) (x := "_law_one") (fs := []) (ix := []) rfl rfl (fun _ _ _ _ _ _ => (pg_name (i := 0) (show (["_law_one"] : List Str).Nodup by decide +kernel) rfl (Or.inl rfl))) (fun _ _ _ _ _ _ => pf_nil) (fun _ _ _ _ _ _ => pe_bl)) pa_nil)))) (pa_cons (pvM 8) pa_nil))))))))))
      (pss_cut (ps_forE PassesOwn.leaving rfl (pi_enum rfl T.b_enumerate (pa_cons (pe_slice sl_list (pvM 0) (po_some pe_int) (po_some pe_int)) pa_nil)) (pg_tup (n := 2) rfl (pgs_cons (pg_name (i := 7) sc_law.nd rfl (Or.inr rfl)) (pgs_cons (pg_name (i := 9) sc_law.nd rfl (Or.inr rfl)) pgs_nil))) (pss_cut (ps_set (i := 10) sc_law.nd rfl (Or.inl rfl) (pe_op op_mod (pe_op op_add (pe_op op_mul (pvM 9) pe_int) (pe_op op_mul (pvM 7) pe_int)) pe_int))
      (pss_cut (ps_set (i := 8) sc_law.nd rfl (Or.inl rfl) (pe_tup (pa_cons pe_str (pa_cons (pvM 7) (pa_cons (pvM 10) pa_nil)))))
      (pss_cut (ps_dput (hu_of hr) (pvM 6) (pvM 8) (pe_comp rfl (pi_range1 rfl T.b_range (pa_cons (pvM 3) pa_nil)) (x := "_law_j") (fs := ["_law_k", "_law_cell_here"]) (ix := [7, 9]) rfl rfl (fun _ _ _ _ _ _ => (pg_name (i := 0) (show (["_law_j", "_law_k", "_law_cell_here"] : List Str).Nodup by decide +kernel) rfl (Or.inl rfl))) (fun _ _ _ _ _ _ => pf_nil) (fun _ _ _ _ _ _ => (pe_op op_mod (pe_op op_add (pvM 2) (pe_op op_mul (pvM 1) (pvM 0))) (pe_op op_pow pe_int pe_int)))) rfl)
      (pss_cut (ps_expr (pe_callE H_l_deed (hr.mono (by decide)) xw_def (@pa_cons _ _ _ _ _ (pvM 4) (@pa_cons _ _ _ _ _ (pvM 2) (@pa_cons _ _ _ _ _ (pvM 5) (@pa_cons _ _ _ _ _ (pvM 6) (@pa_cons _ _ _ _ _ (pvM 10) (@pa_cons _ _ _ _ _ (pvM 9) (@pa_cons _ _ _ _ _ (pvM 8) pa_nil rfl) rfl) rfl) rfl) rfl) rfl) rfl)))
      (pss_one (ps_if (pt_not (pt_val (pe_callE H_l_true (hr.mono (by decide)) xw_def (pa_cons (pvM 4) (pa_cons (pvM 2) (pa_cons (pvM 5) (pa_cons (pvM 6) pa_nil))))))) (pss_one (ps_ret pe_bl)) pss_nil)))))))
      (pss_one (ps_ret (pe_callE H_l_true (hr.mono (by decide)) xw_def (pa_cons (pvM 4) (pa_cons (pvM 2) (pa_cons (pvM 5) (pa_cons (pvM 6) pa_nil))))))))))))))))), ?_⟩
  unfold tDGet
  walk_at "wp"
  refine ⟨fun σ G => ∃ mo : Nat, σ = [some (.ref a), some (.int (mo : Int)), none, none, none, none, none, none, none, none, none] ∧ G = H ∧ 1 ≤ mo ∧ mo ≤ 20, ?_, fun σ0 G0 => ?_⟩
  · walk_at "wp"
    refine ⟨0, rfl, hs, by omega, _, rfl, ?_⟩
    exact ite2 (fun _ => ⟨20, rfl, rfl, by omega, by omega⟩) (fun _ => ⟨4, rfl, rfl, by omega, by omega⟩)
  rintro ⟨mo, rfl, rfl, hm1, hm2⟩
  have nat : ∀ y : Int, ∃ x : Nat, 1 + y % (mo : Int) = (x : Int) ∧ 1 ≤ x ∧ x ≤ 20 := fun y => by
    have hp0 := Int.emod_nonneg y (show (mo : Int) ≠ 0 by omega)
    have hp1 := Int.emod_lt_of_pos y (show (0 : Int) < mo by omega)
    generalize y % (mo : Int) = y2 at *
    exact ⟨(1 + y2).toNat, by omega, by omega, by omega⟩
  obtain ⟨L0, hScr0, hLv0, _⟩ := Scr.of hs
  have sq : ∀ {G : Hp}, Same G0 G → SqL K G a (ns.map V.int) := fun s => (hScr0.zv (Zv.of (S := []) s) (by simp)).sq
  refine ⟨fun σ G => ∃ (n : Nat) (wh wf w0 : Addr), σ = [some (.ref a), some (.int (mo : Int)), some (.ref wh), none, none, none, none, none, none, none, none] ∧ Same G0 G ∧ 1 ≤ n ∧ n ≤ 20 ∧ G wh = some (.lst [.ref wf, .ref w0]) ∧ G wf = some (.lst (List.replicate n .non)) ∧ G0 wh = none ∧ G0 wf = none ∧ wh ≠ wf, ?_, fun σ1 G1 => ?_⟩
  · walk_at "wp"
    refine ⟨0, rfl, hs, by omega, _, rfl, by omega, ?_⟩
    obtain ⟨n, e, n1, n20⟩ := nat (ns.getD (Int.toNat 0) 0)
    rw [e]
    refine ⟨by omega, by omega, fun wf hwf => ?_⟩
    refine comp_range (fun i ys σ H' => ∃ (v : Option V), σ = [v] ∧ Same G0 H' ∧ H' wf = some (.lst ys) ∧ ys = List.replicate i V.non) ⟨_, rfl, same_upd same_refl hwf, upd_same, rfl⟩ (fun i ys σ H' hi => ?_) (fun ys σ H5 => ?_)
    · rintro ⟨v, rfl, s1, hD1, rfl⟩
      walk_at "wp"
      exact ⟨hD1, by rw [List.length_replicate]; omega, same_put s1 hwf, by rw [← List.replicate_succ']; rfl⟩
    rintro ⟨v, rfl, s1, hD1, rfl⟩
    rw [Int.toNat_natCast] at hD1
    intro w0 hw0
    obtain ⟨b1, c1⟩ := new_at (o := .lst []) hw0
    intro wh hwh
    obtain ⟨b2, c2⟩ := new_at (o := .lst [V.ref wf, V.ref w0]) hwh
    exact ⟨s1.trans (b1.trans b2), n, n1, n20, wf, w0, rfl, b2 _ _ (b1 _ _ hD1), same_none (s1.trans b1) hwh, hwf, (ne_of_none (b1 _ _ hD1) hwh).symm⟩
  rintro ⟨n, wh, wf, w0, rfl, s1, n1, n20, g1, g2, h1, h2, e12⟩
  refine ⟨fun σ G => ∃ (m : Nat) (ws : Addr), σ = [some (.ref a), some (.int (mo : Int)), some (.ref wh), none, none, none, none, none, none, none, none] ∧ Same G0 G ∧ 1 ≤ m ∧ m ≤ 20 ∧ G wh = some (.lst [.ref wf, .ref ws]) ∧ G wf = some (.lst (List.replicate n .non)) ∧ G ws = some (.lst (List.replicate m .non)) ∧ G0 ws = none ∧ wh ≠ ws ∧ wf ≠ ws, ?_, fun σ2 G2 => ?_⟩
  · walk_at "wp"
    refine ⟨1, rfl, sq s1, by omega, _, rfl, by omega, ?_⟩
    obtain ⟨m, e, m1, m20⟩ := nat (ns.getD (Int.toNat 1) 0)
    rw [e]
    refine ⟨by omega, by omega, fun ws hws => ?_⟩
    refine comp_range (fun i ys σ H' => ∃ (v : Option V), σ = [v] ∧ Same G1 H' ∧ H' ws = some (.lst ys) ∧ ys = List.replicate i V.non) ⟨_, rfl, same_upd same_refl hws, upd_same, rfl⟩ (fun i ys σ H' hi => ?_) (fun ys σ H5 => ?_)
    · rintro ⟨v, rfl, s1, hD1, rfl⟩
      walk_at "wp"
      exact ⟨hD1, by rw [List.length_replicate]; omega, same_put s1 hws, by rw [← List.replicate_succ']; rfl⟩
    rintro ⟨v, rfl, s5, hD1, rfl⟩
    rw [Int.toNat_natCast] at hD1
    have e13 : wh ≠ ws := ne_of_none g1 hws
    have e23 : wf ≠ ws := ne_of_none g2 hws
    refine ⟨_, s5 _ _ g1, 1, ixn (by show 1 < 2; decide), same_put (s1.trans s5) h1, m, m1, m20, ws, rfl, by rw [upd_ne (Ne.symm e12)]; exact s5 _ _ g2, by rw [upd_ne (Ne.symm e13)]; exact hD1, same_none s1 hws, e13, e23⟩
  rintro ⟨m, ws, rfl, s2, m1, m20, g12, g22, g32, h3, e13, e23⟩
  clear g1 g2 s1
  refine ⟨fun σ G => ∃ sz : Nat, σ = [some (.ref a), some (.int (mo : Int)), some (.ref wh), some (.int (sz : Int)), none, none, none, none, none, none, none] ∧ G = G2 ∧ 1 ≤ sz ∧ sz ≤ 3, ?_, fun σ3 G3 => ?_⟩
  · walk_at "wp"
    refine ⟨1, rfl, sq s2, by omega, _, rfl, ?_⟩
    generalize ns.getD (Int.toNat 1) 0 = y
    exact ⟨(1 + y / 4 % 3).toNat, by omega, rfl, by omega, by omega⟩
  rintro ⟨sz, rfl, rfl, z1, z3⟩
  refine ⟨fun σ G => ∃ z : Ss, σ = [some (.ref a), some (.int (mo : Int)), some (.ref wh), some (.int (sz : Int)), some (.ref z.p), none, none, none, none, none, none] ∧ Same G3 G ∧ SsAt A.C_Sheets A.C_Spots A.C_Sheet G z (st0 n m) ∧ ∀ c ∈ z.four, G3 c = none, ?_, fun σ4 G4 => ?_⟩
  · walk_at "wp"
    refine ⟨_, SqL.of g12, _, atI_nat (j := 0) rfl, n, .inl ⟨_, SqL.of g22, by rw [List.length_replicate]⟩, _, SqL.of g12, _, atI_nat (j := 1) rfl, m, .inl ⟨_, SqL.of g32, by rw [List.length_replicate]⟩, fun x dx hx hdx hne => ?_⟩
    have sm := same_make (o := .ins A.C_Sheets dx []) hx hdx hne
    refine ⟨x, dx, n, m, sz, rfl, upd_same, n1, by omega, by omega, fun H' y hy e1 e2 kp => ⟨rfl, ?_⟩⟩
    subst e1
    exact ⟨y, rfl, fun c o h => kp c o (sm c o h) (fun z => ne_of_none h hx (List.mem_singleton.mp z)), hy, fun c hc => same_none sm (e2 c hc)⟩
  rintro ⟨z, rfl, s4, hS4, f4⟩
  have s04 := s2.trans s4
  have g14 := s4 _ _ g12
  have g24 := s4 _ _ g22
  have g34 := s4 _ _ g32
  refine ⟨fun σ G => ∃ bd, σ = [some (.ref a), some (.int (mo : Int)), some (.ref wh), some (.int (sz : Int)), some (.ref z.p), some (.ref bd), none, none, none, none, none] ∧ Same G4 G ∧ G4 bd = none ∧ G bd = some (.lst (List.replicate n .non)), ?_, fun σ5 G5 => ?_⟩
  · walk_at "wp"
    refine ⟨_, SqL.of g14, _, atI_nat (j := 0) rfl, wf, rfl, ⟨_, SqL.of g24⟩, fun D hD => comp_list (xs := List.replicate n V.non) (fun k ys σ H' => ∃ v, σ = [v] ∧ Same G4 H' ∧ H' D = some (.lst ys) ∧ ys = List.replicate k V.non) ⟨_, rfl, same_upd same_refl hD, upd_same, rfl⟩ (fun k ys σ H' _ ⟨_, _, s2, _⟩ => SqL.of (s2 _ _ g24)) (fun k v ys σ H' hk => ?_) (fun ys σ H6 => ?_)⟩
    · rintro ⟨v', rfl, s2, hD2, rfl⟩
      have hkl := (List.getElem?_eq_some_iff.mp hk).1
      rw [List.length_replicate] at hkl
      walk_at "wp"
      exact ⟨hD2, by rw [List.length_replicate]; omega, same_put s2 hD, by rw [← List.replicate_succ']; rfl⟩
    · rintro ⟨v', rfl, s2, hD2, rfl⟩
      rw [List.length_replicate] at hD2
      exact ⟨s2, hD, hD2⟩
  rintro ⟨bd, rfl, s5, hbd, gbd⟩
  refine ⟨fun σ G => ∃ vd, σ = [some (.ref a), some (.int (mo : Int)), some (.ref wh), some (.int (sz : Int)), some (.ref z.p), some (.ref bd), some (.ref vd), none, none, none, none] ∧ LkI K A z wh wf ws bd vd a ns n m sz 0 0 (some 0) G, ?_, fun σ6 G6 => ?_⟩
  · walk_at "wp"
    intro vd hvd
    obtain ⟨b6, c6⟩ := new_at (o := .dT []) hvd
    have s46 := s5.trans b6
    have s06 := s04.trans s46
    obtain ⟨X, mv⟩ := tx0 (sz := sz) (hS4.same s46) (fun c hc => same_none s2 (f4 c hc)) hLv0 s06 h1 h2 h3 (same_none s04 hbd) ⟨e12, e13, ne_of_none g14 hbd, e23, ne_of_none g24 hbd, ne_of_none g34 hbd⟩ (fun c hc => ⟨(fun e => by have := f4 c hc; rw [e, g12] at this; cases this), (fun e => by have := f4 c hc; rw [e, g22] at this; cases this), (fun e => by have := f4 c hc; rw [e, g32] at this; cases this), fun e => by obtain ⟨us, h9⟩ := hS4.fours c hc; rw [e, hbd] at h9; cases h9⟩) (s46 _ _ g14) (s46 _ _ g24) (s46 _ _ g34) (b6 _ _ gbd) c6
    have nal : ∀ (k : Nat), als (List.replicate k none) = [] := fun k => by unfold als; exact List.filterMap_eq_nil_iff.mpr fun a ha => by rw [List.eq_of_mem_replicate ha]; rfl
    exact ⟨vd, rfl, st0 n m, _, [], X, hScr0.zv (mv.zv hLv0 (by simp)) (by simp), ⟨Nat.zero_le _, fun x hx => by cases hx⟩, List.length_replicate, List.length_replicate, fun x hx => by cases hx; rw [live_al]; unfold alS st0; rw [als_app, nal, nal]; rfl⟩
  rintro ⟨vd, rfl, hI6⟩
  clear hS4 s4 s5 hbd gbd g14 g24 g34 s04 f4 sq hScr0 hLv0 h1 h2 h3 g12 g22 g32 s2 hs
  refine ⟨fun σ G => ∃ v7 v8 many, σ = [some (.ref a), some (.int (mo : Int)), some (.ref wh), some (.int (sz : Int)), some (.ref z.p), some (.ref bd), some (.ref vd), v7, v8, none, none] ∧ LkI K A z wh wf ws bd vd a ns n m sz many 0 none G ∧ many ≤ 40, ?_, fun σ7 G7 => ?_⟩
  · obtain ⟨s0, L6, W6, X6, hc6, q6, l61, l62, lv6⟩ := id hI6
    obtain ⟨us, hf, hP⟩ := X6.wl.hf
    obtain ⟨vs, hs, hPs⟩ := X6.wl.hs
    have hul := Paired.length hP
    have hvl := Paired.length hPs
    rw [kys_len] at hul hvl
    walk_at "wp"
    refine ⟨_, SqL.of X6.wl.hw, _, atI_nat (j := 0) rfl, _, .inl ⟨_, SqL.of hf, rfl⟩, _, SqL.of X6.wl.hw, _, atI_nat (j := 1) rfl, _, .inl ⟨_, SqL.of hs, rfl⟩, 0, rfl, hc6.sq, by omega, _, rfl, ?_⟩
    generalize ns.getD (Int.toNat 0) 0 = y
    obtain ⟨many, hmany, hm40⟩ : ∃ many : Nat, (if (us.length : Int) + (vs.length : Int) - y / 16 % 5 > 1 then (us.length : Int) + (vs.length : Int) - y / 16 % 5 else 1) = (many : Int) ∧ many ≤ n + m := ⟨(if (us.length : Int) + (vs.length : Int) - y / 16 % 5 > 1 then (us.length : Int) + (vs.length : Int) - y / 16 % 5 else 1).toNat, by split <;> omega, by split <;> omega⟩
    rw [hmany]
    clear hf hP hs hPs X6 hc6 q6
    refine ⟨by omega, by omega, loop_range (fun k σ G => ∃ v7 v8, σ = [some (.ref a), some (.int (mo : Int)), some (.ref wh), some (.int (sz : Int)), some (.ref z.p), some (.ref bd), some (.ref vd), v7, v8, none, none] ∧ LkI K A z wh wf ws bd vd a ns n m sz k 0 (some k) G) ⟨_, _, rfl, hI6⟩ (fun k σ G hk => ?_) (fun σ G => ?_)⟩
    · rintro ⟨v7, v8, rfl, s, L, W, X, hc, hq, ln, lm, lv⟩
      have lv := lv k rfl
      rw [Int.zero_add]
      walk_at "wp"
      refine ⟨fun σ G' => ∃ h x, σ = [some (.ref a), some (.int (mo : Int)), some (.ref wh), some (.int (sz : Int)), some (.ref z.p), some (.ref bd), some (.ref vd), some (.int (k : Int)), some (.ref h), none, none] ∧ Same G G' ∧ G' h = some (.tup ((kTask k x).map kV)), ?_, fun σ8 G8 => ?_⟩
      · walk_at "wp"
        refine ⟨1, rfl, hc.sq, by omega, _, rfl, fun h hh => ⟨same_upd same_refl hh, ?_⟩⟩
        exact ⟨_, rfl⟩
      rintro ⟨h, x, rfl, s8, hh8⟩
      have X8 := X.same s8
      have hc8 : Scr K G8 L a (ns.map V.int) := hc.zv (Zv.of (S := []) s8) (by simp)
      refine ⟨fun σ G' => σ = [some (.ref a), some (.int (mo : Int)), some (.ref wh), some (.int (sz : Int)), some (.ref z.p), some (.ref bd), some (.ref vd), some (.int (k : Int)), some (.ref h), none, none] ∧ LvI K A z wh wf ws bd vd a ns n m sz (k + 1) 0 (some k) (kTask k x) G' ∧ G' h = some (.tup ((kTask k x).map kV)), ?_, fun σ9 G9 => ?_⟩
      · unfold sDPut
        walk_at "wp"
        refine ⟨by omega, by omega, fun D hD => ?_⟩
        refine comp_range (fun i9 ys σ H' => ∃ (v : Option V) (bs : List Int), σ = [v, some (.ref a), some (.int (k : Int))] ∧ Same G8 H' ∧ H' D = some (.lst ys) ∧ ys = bs.map V.int ∧ bs.length = i9) ⟨_, [], rfl, same_upd same_refl hD, upd_same, rfl, rfl⟩ (fun i9 ys σ H' hi9 => ?_) (fun ys σ H5 => ?_)
        · rintro ⟨v, bs, rfl, b1, hD1, rfl, hbl⟩
          walk_at "wp"
          exact ⟨2, rfl, (hc8.zv (Zv.of (S := []) b1) (by simp)).sq, by omega, .inl ⟨by omega, by omega⟩, _, rfl, hD1, by rw [List.length_map]; omega, same_put b1 hD, bs ++ [_], by rw [List.map_append]; rfl, by rw [List.length_append, hbl]; rfl⟩
        · rintro ⟨v, bs, rfl, b1, hD1, rfl, hbl⟩
          rw [Int.toNat_natCast] at hbl
          have hwl := hq.1
          have hv5 := b1 _ _ X8.va.hv
          have hh5 := b1 _ _ hh8
          refine ⟨_, .inr ⟨_, kTask k x, h, hv5, rfl, hh5, by rw [List.length_map]; omega, rfl⟩, LvI.of X8 hc8 ln lm (fun y e => by cases e; exact lv) b1 hD hD1 hbl hq.task hq.addT, ?_⟩
          rw [upd_ne (ne_of hh5 hv5 (fun z => nomatch z))]
          exact hh5
      rintro ⟨rfl, ⟨s, L, W, av, b, X9, hc9, hq9, ln, lm, lv9, hka, hkn⟩, hh9⟩
      have lv9 := lv9 k rfl
      have hroom : live s < room s := by unfold room; omega
      have hget : DGet G9 vd (.ref h) (some (.ref av)) := by have := DGet.t X9.va.hv hh9; rw [X9.va.get hka] at this; exact this
      obtain ⟨y1, y2, y3⟩ := X9.va.va _ hka
      obtain ⟨dx, hme⟩ := X9.ss.me
      have hln := X9.ss.lens
      walk_at "wp"
      refine ⟨dx, _, hme, ssF_no (by decide +kernel), .ref av, hget, av, rfl, _, .inl (SqL.of y1), fun l hl => ?_⟩
      obtain ⟨b5, c5⟩ := new_at (o := .lst (b.map V.int)) hl
      have X10 := X9.same b5
      have hh10 := b5 _ _ hh9
      have hl10 := X9.ss.nf hl
      have hc10 : Scr K (upd G9 l (.lst (b.map V.int))) L a (ns.map V.int) := hc9.zv (Zv.of (S := []) b5) (by simp)
      have c5 : upd G9 l (.lst (b.map V.int)) l = some (.lst (b.map V.int)) := c5
      show _ ∧ ∀ D, _
      generalize upd G9 l (.lst (b.map V.int)) = G10 at *
      refine ⟨⟨_, SqL.of X10.wl.hb⟩, fun D hD => comp_list (xs := s.tf.map oV) (fun k ys σ H' => ∃ v, σ = [v] ∧ Same G10 H' ∧ H' D = some (.lst ys) ∧ ys = (List.replicate k false).map V.bl) ⟨_, rfl, same_upd same_refl hD, upd_same, rfl⟩ (fun k ys σ H' _ ⟨_, _, s2, _⟩ => SqL.of (s2 _ _ X10.wl.hb)) (fun k v ys σ H' hk => ?_) (fun ys σ H6 => ?_)⟩
      · rintro ⟨v', rfl, s2, hD2, rfl⟩
        have hkl := (List.getElem?_eq_some_iff.mp hk).1
        rw [List.length_map] at hkl
        walk_at "wp"
        exact ⟨hD2, by rw [List.length_map, List.length_replicate]; omega, same_put s2 hD, by rw [List.map_replicate, ← List.replicate_succ, List.replicate_succ']⟩
      rintro ⟨v', rfl, s6, hD6, rfl⟩
      rw [List.length_map, hln.1, ln] at hD6
      have X6 := X10.same s6
      have hc6 : Scr K H6 L a (ns.map V.int) := hc10.zv (Zv.of (S := []) s6) (by simp)
      have htri : Tri (kTask k x) := ⟨_, _, _, rfl⟩
      refine ⟨z, s, l, h, D, b, kTask k x, List.replicate n false, rfl, X6.ss, X6.ap, X6.tw, s6 _ _ c5, hl10, s6 _ _ hh10, hD6, by rw [List.length_replicate]; omega, fun r hr => X6.okh (.inl hr), ?_⟩
      rw [if_pos hroom]
      intro H' s1 i ps out t e v3 r a1 a2 a3 a4 a5 a6 a7 a8 a9 a10 a11 a12
      obtain ⟨W12, z12, nxt⟩ := X6.frsh hka htri hkn a1 a2 a3 a4 a5 a6 a7 a12
      obtain ⟨f1, f2, f3, _⟩ := a1.facts X6.tw
      have hil := (List.getElem?_eq_some_iff.mp f1).1
      have hl64 := X6.ss.len
      have hjo : ∀ j2, out.map (·.1) = some j2 → j2 < s.sr.length := fun j2 e9 => by
        rcases a1 with ⟨_, _, _, rfl⟩ | ⟨_, q9, j9, _, _, _, y, _, rfl⟩
        · cases e9
        · cases e9; exact y
      refine ⟨L, wh, wf, ws, bd, t, h, e, _, _, _, i, v3, _, kTask k x, rfl, W12, a8, a10.wo, z12.tup (s6 _ _ hh10), by rw [kys_len]; omega, by rw [kys_len]; exact hln.1, by rw [kys_len]; omega, fun j2 e9 => by rw [kys_len]; exact hjo j2 e9, fun H2 w1 m1 => ⟨_, L, W, nxt H2 w1 m1, ?_, hq9, by show (s1.fr.set i (some r)).length = n; rw [List.length_set]; omega, by show s1.sr.length = m; omega, fun y e9 => ?_⟩⟩
      · exact (hc6.zv z12 (by simp)).zv (m1.zv W12.lv (by simp)) (by simp)
      · cases e9
        rw [live_al, (a1.alsF (r := r) X6.tw).length_eq, List.length_cons, ← live_al, lv9]
    · rintro ⟨v7, v8, rfl, s, L, W, X, hc, hq, ln, lm, lv⟩
      rw [Int.toNat_natCast] at hq
      exact ⟨_, _, rfl, many, ⟨s, L, W, X, hc, hq, ln, lm, fun x hx => by cases hx⟩, by omega⟩
  rintro ⟨v7, v8, many, rfl, hI7, hm40⟩
  clear hI6
  refine ⟨fun σ G => ∃ v7 v8 v9 v10 sx zc u, σ = [some (.ref a), some (.int (mo : Int)), some (.ref wh), some (.int (sz : Int)), some (.ref z.p), some (.ref bd), some (.ref vd), v7, v8, v9, v10] ∧ LkI K A z wh wf ws bd vd sx zc n m sz many u none G, ?_, fun σ8 G8 => ?_⟩
  · obtain ⟨s, L, W, X, hc, hq, ln, lm, _⟩ := hI7
    walk_at "wp"
    refine ⟨_, hc.sq, fun sx hsx => ?_⟩
    have hcut : cutV (ns.map V.int) (some 2) (some 62) = ((ns.take 62).drop 2).map V.int := by rw [show cutV (ns.map V.int) (some 2) (some 62) = ((ns.map V.int).take 62).drop 2 from cutV_nat (lo := 2) (hi := 62), ← List.map_take, ← List.map_drop]
    rw [hcut]
    have hcl : ((ns.take 62).drop 2).length ≤ 60 := by rw [List.length_drop, List.length_take]; omega
    generalize (ns.take 62).drop 2 = zc at *
    obtain ⟨b8, c8⟩ := new_at (o := .lst (zc.map V.int)) hsx
    have hI8 : LkI K A z wh wf ws bd vd sx zc n m sz many 0 none (upd G7 sx (.lst (zc.map V.int))) := ⟨s, _, W, X.lab (k := 5) b8 hsx c8, .inl ⟨c8, lab_at⟩, hq, ln, lm, fun y e => by cases e⟩
    generalize upd G7 sx _ = G8 at *
    clear X hc
    refine ⟨⟨_, SqL.of c8⟩, loop_enum (K := K) (xs := zc.map V.int) (fun i σ G => ∃ v7 v8 v9 v10, σ = [some (.ref a), some (.int (mo : Int)), some (.ref wh), some (.int (sz : Int)), some (.ref z.p), some (.ref bd), some (.ref vd), v7, v8, v9, v10] ∧ LkI K A z wh wf ws bd vd sx zc n m sz many i none G) ⟨_, _, _, _, rfl, hI8⟩ (fun i σ G _ ⟨_, _, _, _, _, _, _, _, _, hc, _⟩ => hc.sq) (fun i v tt σ G hi => ?_) (fun σ G => ?_)⟩
    · rintro ⟨v7, v8, v9, v10, rfl, s, L, W, X, hc, hq, ln, lm, _⟩ htt
      rw [List.getElem?_map] at hi
      obtain ⟨c, hci, rfl⟩ : ∃ c, zc[i]? = some c ∧ v = V.int c := by
        cases e9 : zc[i]? with
        | none => rw [e9] at hi; cases hi
        | some c => rw [e9] at hi; exact ⟨c, rfl, (Option.some.inj hi).symm⟩
      have hil := (List.getElem?_eq_some_iff.mp hci).1
      obtain ⟨b1, c1⟩ := new_at (o := .tup [V.int (i : Int), V.int c]) htt
      walk_at "wp"
      generalize upd G tt _ = G1 at *
      have X1 := X.same b1
      have hc1 : Scr K G1 L sx (zc.map V.int) := hc.zv (Zv.of (S := []) b1) (by simp)
      clear X hc b1 htt
      refine ⟨_, SqT.of c1, rfl, _, _, rfl, _, _, rfl, rfl, ?_⟩
      refine ⟨fun σ G' => ∃ nb : Nat, σ = [some (.ref a), some (.int (mo : Int)), some (.ref wh), some (.int (sz : Int)), some (.ref z.p), some (.ref bd), some (.ref vd), some (.int (i : Int)), v8, some (.int c), some (.int (nb : Int))] ∧ G' = G1, ?_, fun σ2 G2 => ?_⟩
      · walk_at "wp"
        have e0 := Int.emod_nonneg (c * 16807 + (i : Int) * 48271) (show (2147483647 : Int) ≠ 0 by decide)
        exact ⟨((c * 16807 + (i : Int) * 48271) % 2147483647).toNat, by omega⟩
      rintro ⟨nb, rfl, rfl⟩
      refine ⟨fun σ G' => ∃ h, σ = [some (.ref a), some (.int (mo : Int)), some (.ref wh), some (.int (sz : Int)), some (.ref z.p), some (.ref bd), some (.ref vd), some (.int (i : Int)), some (.ref h), some (.int c), some (.int (nb : Int))] ∧ Same G2 G' ∧ G' h = some (.tup ((kBank i (nb : Int)).map kV)), ?_, fun σ3 G3 => ?_⟩
      · walk_at "wp"
        intro h hh
        exact ⟨same_upd same_refl hh, rfl⟩
      rintro ⟨h, rfl, s3, hh3⟩
      have X3 := X1.same s3
      have hc3 : Scr K G3 L sx (zc.map V.int) := hc1.zv (Zv.of (S := []) s3) (by simp)
      refine ⟨fun σ G' => σ = [some (.ref a), some (.int (mo : Int)), some (.ref wh), some (.int (sz : Int)), some (.ref z.p), some (.ref bd), some (.ref vd), some (.int (i : Int)), some (.ref h), some (.int c), some (.int (nb : Int))] ∧ LvI K A z wh wf ws bd vd sx zc n m sz many (i + 1) none (kBank i (nb : Int)) G' ∧ G' h = some (.tup ((kBank i (nb : Int)).map kV)), ?_, fun σ4 G4 => ?_⟩
      · unfold sDPut
        walk_at "wp"
        refine ⟨by omega, by omega, fun D hD => ?_⟩
        refine comp_range (fun i9 ys σ H' => ∃ (v : Option V) (bs : List Int), σ = [v, some (.int (i : Int)), some (.int c)] ∧ Same G3 H' ∧ H' D = some (.lst ys) ∧ ys = bs.map V.int ∧ bs.length = i9) ⟨_, [], rfl, same_upd same_refl hD, upd_same, rfl, rfl⟩ (fun i9 ys σ H' hi9 => ?_) (fun ys σ H5 => ?_)
        · rintro ⟨v, bs, rfl, b1, hD1, rfl, hbl⟩
          walk_at "wp"
          exact ⟨.inl ⟨by omega, by omega⟩, hD1, by rw [List.length_map]; omega, same_put b1 hD, bs ++ [_], by rw [List.map_append]; rfl, by rw [List.length_append, hbl]; rfl⟩
        · rintro ⟨v, bs, rfl, b1, hD1, rfl, hbl⟩
          rw [Int.toNat_natCast] at hbl
          have hwl := hq.1
          have hv5 := b1 _ _ X3.va.hv
          have hh5 := b1 _ _ hh3
          refine ⟨_, .inr ⟨_, kBank i (nb : Int), h, hv5, rfl, hh5, by rw [List.length_map]; omega, rfl⟩, LvI.of X3 hc3 ln lm (fun y e => by cases e) b1 hD hD1 hbl hq.bank hq.addB, ?_⟩
          rw [upd_ne (ne_of hh5 hv5 (fun z => nomatch z))]
          exact hh5
      rintro ⟨rfl, ⟨s, L, W, av, b, X4, hc4, hq4, ln, lm, _, hka, hkn⟩, hh4⟩
      refine ⟨fun σ G' => σ = [some (.ref a), some (.int (mo : Int)), some (.ref wh), some (.int (sz : Int)), some (.ref z.p), some (.ref bd), some (.ref vd), some (.int (i : Int)), some (.ref h), some (.int c), some (.int (nb : Int))] ∧ LkI K A z wh wf ws bd vd sx zc n m sz many (i + 1) none G', ?_, fun σ5 G5 => ?_⟩
      · walk_at "wp"
        refine ⟨z, s, L, wh, wf, ws, bd, vd, h, W, sz, nb, c, kBank i (nb : Int), av, b, rfl, X4, z1, hh4, ⟨_, _, _, rfl⟩, hka, hkn, fun H' L' G0 hD zv => ?_⟩
        obtain ⟨s', W', w1, w2, w3, w4, _⟩ := hD
        exact ⟨s', L', W', w1, hc4.zv zv (by decide), hq4.of w2, by omega, by omega, fun y e => by cases e⟩
      rintro ⟨rfl, hI5⟩
      obtain ⟨s, L, W, X5, hc5, hq5, ln, lm, lv5⟩ := id hI5
      walk_at "wp"
      refine ⟨z, s, L, wh, wf, ws, bd, vd, W, sz, rfl, X5, by omega, fun H' b6 => ⟨true, rfl, iteF ?_⟩⟩
      exact ⟨s, L, W, X5.same b6, hc5.zv (Zv.of (S := []) b6) (by simp), hq5, ln, lm, lv5⟩
    · rintro ⟨v7, v8, v9, v10, rfl, hI⟩
      exact ⟨_, _, _, _, rfl, sx, zc, _, hI⟩
  rintro ⟨v7, v8, v9, v10, sx, zc, u, rfl, s, L, W, X, _⟩
  walk_at "wp"
  exact ⟨z, s, L, wh, wf, ws, bd, vd, W, sz, rfl, X, by omega, fun H' _ => qq H'⟩

end

theorem walk {l : PySem.W.OpenLaw} {q : Program} {loose : List Str} {XP : (Str → Option Value) → Heap → Prop} {YP : World → Heap → Prop} {d : DefRec} {K : Params → PySem.W.Frag} (hn : l.most = some 63) (hdf : d.params.defaults = []) (hdn : d.name = "law")
    (hY : ∀ (w : World) (h : Heap), YP w h → (K w.params).In h)
    (F : ∀ (w : World) (mg : Str → Option Value) (h : Heap), (K w.params).In h → h.Ns mainGlobals mg → ∃ A : Adr, Txt (K w.params) mg A) :
    PySem.W.WalkO q loose XP YP l.row.toRowW d [] (fun f vs => PySem.call f vs) := by
  refine L2.walk_of (n := 63) (k := 12 + 1) (x := "_law_script") (CX := fun w => CXe l.prog w) (sp := fun w => spLaw (K w.params)) hn (by decide) hdf ⟨rfl, by decide, by decide⟩ hY ?_ (fun _ _ a ns hl _ hS => ⟨a, ns, rfl, hS, hl, fun _ => rfl⟩) fun _ _ _ _ _ ⟨_, _, _, _, _, _, _, _, _, _, z⟩ => z
  intro w mg fa h KX G hmg
  rw [hdn] at hmg
  obtain ⟨A, T⟩ := F w mg h KX G
  obtain ⟨f, fd, e, Fn, hb⟩ := T.r_law
  have e0 := hmg.symm.trans e
  cases e0
  exact ⟨fd, hb, fun base _ _ => Fn.okE sc_law (fun vs H Q E z => by obtain ⟨a, ns, rfl, _⟩ := z; rfl) (body_law (P := l.prog) (w := w) (base := base) T)⟩

section
open Hd
noncomputable def o2 (_ : Params) : Obj := ⟨.none, none, .dict ⟨[]⟩ 0, #[]⟩
noncomputable def o3 (P : Params) : Obj := dO 25 [ent P (S 6944663249689206880) 165 (.str (S 11152278308674107151587372952260849038370642534826795629) 603), ent P (S 27127582262911072) 166 .none, ent P (S 116512114954948911152848992) 167 .none, ent P (S 455126385231797511086176) 168 (.builtin "__main__.__loader__#opaque"), ent P (S 6944661016558198880) 169 .none, ent P (S 500416834696884185539869749159288928) 170 (.ref 6), ent P (S 29827167671303893903271485536) 171 (.ref 4), ent P (S 6944663245527933024) 173 (.str (S 9700865007064396754801562313776) 172), ent P (S 455125376429887381069920) 174 .none, ent P (S 469986605152) 193 (.ref 21), ent P (S 545146499936607105348423) 213 (.ref 31), ent P (S 121429199908943) 229 (.ref 44), ent P (S 504413714548) 241 (.ref 53), ent P (S 504229161300) 288 (.ref 84), ent P (S 500186509652) 341 (.ref 124), ent P (S 128047577983316) 602 (.ref 318), ent P (S 2018578202597599112544) 612 (.ref 329), ent P (S 1889380072283105815904) 621 (.ref 336), ent P (S 1889525866425437285728) 633 (.ref 343), ent P (S 1999481813178129739104) 646 (.ref 350), ent P (S 34476701206588154122852265312) 661 (.ref 357), ent P (S 7383200104131489120) 674 (.ref 364), ent P (S 1890103190294368513376) 680 (.ref 369), ent P (S 1870499847949168831840) 686 (.ref 374), ent P (S 7889517) 692 (.ref 379)]
noncomputable def o15 (_ : Params) : Obj := tO []
noncomputable def o17 (_ : Params) : Obj := tO [(.str (S 108) 190)]
noncomputable def o20 (_ : Params) : Obj := cO [(.str (S 469986605152) 187), (.str (S 469986605152) 188), (.str (S 9700865007064396754801562313776) 189), (.int (1) 0), (.int (1) 0), (.int (0) 0), (.int (0) 0), (.int (3) 0), (.ref 15), (.bool true), (.int (181) 0), (.ref 16), .none, (.ref 17), (.ref 18), (.ref 19), (.int (191) 0), (.int (1) 0), (.str (S 9700865007064396754801562313776) 192)]
noncomputable def o21 (_ : Params) : Obj := ⟨(.type "function"), none, .func (PySem.W.fnOf (Str.ofString "_wall") (Str.ofString "_wall") (defArgs (top 0)) (defBody (top 0)) (defScope (top 0)) .none .none .none (.str (S 6944673128113922144) 164) none (.ref 20) .none), #[]⟩
noncomputable def o22 (_ : Params) : Obj := ⟨(.type "tuple"), none, .seq #[(.type "ValueError")] 0, #[]⟩
noncomputable def o29 (_ : Params) : Obj := ⟨(.type "tuple"), none, .seq #[] 0, #[]⟩
noncomputable def o30 (P : Params) : Obj := dO 3 [ent P (S 455125450472104437637216) 203 (.str (S 154789842426610354947036250589871895399) 194), ent P (S 500416517772168279997240570217455712) 207 (.int (5) 206), ent P (S 140854816109632365363434125429399349832812124725344) 208 (.ref 29), ent P (S 116512133262362862868258912) 210 (.ref 32), ent P (S 27127582262911072) 211 .none]
noncomputable def o31 (_ : Params) : Obj := ⟨(.type "type"), none, .cls { name := (Str.ofString "FrameError"), bases := [(.type "ValueError")], mro := [(.ref 31), (.type "ValueError"), (.type "Exception"), (.type "BaseException"), (.type "object")], ns := 30, qualname := (Str.ofString "FrameError"), hasDict := true, slotNames := [], subclasses := [(.ref 44)], abstract := false, collection := none, hasDel := false }, #[(some (.ref 22)), none, (some (.str (S 545146499936607105348423) 196)), (some (.str (S 545146499936607105348423) 204)), (some (.builtin "ValueError.__new__")), (some (.bool true))]⟩
noncomputable def o32 (_ : Params) : Obj := ⟨(.type "getset_descriptor"), none, .fields ⟨[(.str (S 116512133262362862868258912) 209), (.ref 31), (.builtin "ExceptionGroup.__weakref__"), .none]⟩, #[]⟩
noncomputable def o35 (_ : Params) : Obj := ⟨(.type "tuple"), none, .seq #[(.ref 31)] 0, #[]⟩
noncomputable def o43 (P : Params) : Obj := dO 2 [ent P (S 455125450472104437637216) 221 (.str (S 154789842426610354947036250589871895399) 194), ent P (S 500416517772168279997240570217455712) 225 (.int (7) 224), ent P (S 140854816109632365363434125429399349832812124725344) 226 (.ref 42), ent P (S 27127582262911072) 227 .none]
noncomputable def o44 (_ : Params) : Obj := ⟨(.type "type"), none, .cls { name := (Str.ofString "NoRoom"), bases := [(.ref 31)], mro := [(.ref 44), (.ref 31), (.type "ValueError"), (.type "Exception"), (.type "BaseException"), (.type "object")], ns := 43, qualname := (Str.ofString "NoRoom"), hasDict := true, slotNames := [], subclasses := [], abstract := false, collection := none, hasDel := false }, #[(some (.ref 35)), none, (some (.str (S 121429199908943) 214)), (some (.str (S 121429199908943) 222)), (some (.builtin "ValueError.__new__")), (some (.bool true))]⟩
noncomputable def o49 (_ : Params) : Obj := tO [(.str (S 500035707502) 235), (.str (S 1701798505) 236), (.str (S 111490714854001) 237), (.str (S 439770836337) 238)]
noncomputable def o52 (_ : Params) : Obj := cO [(.str (S 504413714548) 232), (.str (S 504413714548) 233), (.str (S 9700865007064396754801562313776) 234), (.int (10) 0), (.int (2) 0), (.int (0) 0), (.int (0) 0), (.int (3) 0), (.ref 47), (.bool true), (.int (181) 0), (.ref 48), .none, (.ref 49), (.ref 50), (.ref 51), (.int (239) 0), (.int (10) 0), (.str (S 9700865007064396754801562313776) 240)]
noncomputable def o53 (_ : Params) : Obj := ⟨(.type "function"), none, .func (PySem.W.fnOf (Str.ofString "swept") (Str.ofString "swept") (defArgs (top 5)) (defBody (top 5)) (defScope (top 5)) .none .none .none (.str (S 604424633459520194665304702243205991) 230) none (.ref 52) .none), #[]⟩
noncomputable def o63 (_ : Params) : Obj := tO [(.str (S 1735222900) 259), (.str (S 499935440995) 260), (.str (S 126883625529449) 261)]
noncomputable def o66 (_ : Params) : Obj := cO [(.str (S 6944679725401530464) 256), (.str (S 1954753563970360692704800173091156) 257), (.str (S 9700865007064396754801562313776) 258), (.int (20) 0), (.int (3) 0), (.int (0) 0), (.int (0) 0), (.int (3) 0), (.ref 61), (.bool true), (.int (181) 0), (.ref 62), .none, (.ref 63), (.ref 64), (.ref 65), (.int (262) 0), (.int (20) 0), (.str (S 9700865007064396754801562313776) 263)]
noncomputable def o67 (_ : Params) : Obj := ⟨(.type "function"), none, .func (PySem.W.fnOf (Str.ofString "__init__") (Str.ofString "Sheet.__init__") (defArgs (inClass (top 7) 0)) (defBody (inClass (top 7) 0)) (defScope (inClass (top 7) 0)) .none .none .none (.str (S 604688386180134175214183720302048103) 242) none (.ref 66) .none), #[]⟩
noncomputable def o70 (_ : Params) : Obj := tO [(.str (S 1735222900) 268)]
noncomputable def o73 (_ : Params) : Obj := cO [(.str (S 36039771160920033285907509365) 265), (.str (S 10144293748177338121204804511615218490960212) 266), (.str (S 9700865007064396754801562313776) 267), (.int (24) 0), (.int (1) 0), (.int (0) 0), (.int (0) 0), (.int (3) 0), (.ref 68), (.bool true), (.int (181) 0), (.ref 69), .none, (.ref 70), (.ref 71), (.ref 72), (.int (269) 0), (.int (24) 0), (.str (S 9700865007064396754801562313776) 270)]
noncomputable def o74 (_ : Params) : Obj := ⟨(.type "function"), none, .func (PySem.W.fnOf (Str.ofString "told_holders") (Str.ofString "Sheet.told_holders") (defArgs (inClass (top 7) 1)) (defBody (inClass (top 7) 1)) (defScope (inClass (top 7) 1)) .none .none .none (.str (S 604688386180134175214183720302048103) 242) none (.ref 73) .none), #[]⟩
noncomputable def o77 (_ : Params) : Obj := tO [(.str (S 1735222900) 275)]
noncomputable def o80 (_ : Params) : Obj := cO [(.str (S 1870501547802382857322) 272), (.str (S 526499379604921715462623747400690004) 273), (.str (S 9700865007064396754801562313776) 274), (.int (27) 0), (.int (1) 0), (.int (0) 0), (.int (0) 0), (.int (3) 0), (.ref 75), (.bool true), (.int (181) 0), (.ref 76), .none, (.ref 77), (.ref 78), (.ref 79), (.int (276) 0), (.int (27) 0), (.str (S 9700865007064396754801562313776) 277)]
noncomputable def o81 (_ : Params) : Obj := ⟨(.type "function"), none, .func (PySem.W.fnOf (Str.ofString "is_banked") (Str.ofString "Sheet.is_banked") (defArgs (inClass (top 7) 2)) (defBody (inClass (top 7) 2)) (defScope (inClass (top 7) 2)) .none .none .none (.str (S 604688386180134175214183720302048103) 242) none (.ref 80) .none), #[]⟩
noncomputable def o82 (_ : Params) : Obj := ⟨(.type "tuple"), none, .seq #[(.str (Str.ofString "boxes") 279), (.str (Str.ofString "holders") 280)] 0, #[]⟩
noncomputable def o83 (P : Params) : Obj := dO 4 [ent P (S 455125450472104437637216) 251 (.str (S 604688386180134175214183720302048103) 242), ent P (S 500416517772168279997240570217455712) 255 (.int (18) 254), ent P (S 6944679725401530464) 264 (.ref 67), ent P (S 36039771160920033285907509365) 271 (.ref 74), ent P (S 1870501547802382857322) 278 (.ref 81), ent P (S 140854816109632365363434125429399349832812124725344) 281 (.ref 82), ent P (S 6944679699547512928) 283 (.ref 85), ent P (S 116512133262362862868258912) 285 (.ref 86), ent P (S 27127582262911072) 286 .none]
noncomputable def o84 (_ : Params) : Obj := ⟨(.type "type"), none, .cls { name := (Str.ofString "Sheet"), bases := [(.type "object")], mro := [(.ref 84), (.type "object")], ns := 83, qualname := (Str.ofString "Sheet"), hasDict := true, slotNames := [], subclasses := [], abstract := false, collection := none, hasDel := false }, #[none, none, (some (.str (S 504229161300) 244)), (some (.str (S 504229161300) 252)), (some (.builtin "object.__new__")), (some (.bool true))]⟩
noncomputable def o85 (_ : Params) : Obj := ⟨(.type "getset_descriptor"), none, .fields ⟨[(.str (S 6944679699547512928) 282), (.ref 84), (.builtin "function.__dict__"), (.builtin "function.__dict__#set")]⟩, #[]⟩
noncomputable def o86 (_ : Params) : Obj := ⟨(.type "getset_descriptor"), none, .fields ⟨[(.str (S 116512133262362862868258912) 284), (.ref 84), (.builtin "ExceptionGroup.__weakref__"), .none]⟩, #[]⟩
noncomputable def o98 (_ : Params) : Obj := tO [(.str (S 1735222900) 304), (.str (S 2054120046) 305)]
noncomputable def o101 (_ : Params) : Obj := cO [(.str (S 6944679725401530464) 301), (.str (S 1954753563970360692704796130439508) 302), (.str (S 9700865007064396754801562313776) 303), (.int (31) 0), (.int (2) 0), (.int (0) 0), (.int (0) 0), (.int (3) 0), (.ref 96), (.bool true), (.int (181) 0), (.ref 97), .none, (.ref 98), (.ref 99), (.ref 100), (.int (306) 0), (.int (31) 0), (.str (S 9700865007064396754801562313776) 307)]
noncomputable def o102 (_ : Params) : Obj := ⟨(.type "function"), none, .func (PySem.W.fnOf (Str.ofString "__init__") (Str.ofString "Spots.__init__") (defArgs (inClass (top 8) 0)) (defBody (inClass (top 8) 0)) (defScope (inClass (top 8) 0)) .none .none .none (.str (S 604688386180134175214183720302048103) 242) none (.ref 101) .none), #[]⟩
noncomputable def o105 (_ : Params) : Obj := tO [(.str (S 1735222900) 312), (.str (S 439770836337) 313), (.str (S 504229161332) 314)]
noncomputable def o108 (_ : Params) : Obj := cO [(.str (S 148043559308712686361209447) 309), (.str (S 41670557408582523668509479316187165782356) 310), (.str (S 9700865007064396754801562313776) 311), (.int (35) 0), (.int (1) 0), (.int (0) 0), (.int (0) 0), (.int (3) 0), (.ref 103), (.bool true), (.int (181) 0), (.ref 104), .none, (.ref 105), (.ref 106), (.ref 107), (.int (315) 0), (.int (35) 0), (.str (S 9700865007064396754801562313776) 316)]
noncomputable def o109 (_ : Params) : Obj := ⟨(.type "function"), none, .func (PySem.W.fnOf (Str.ofString "first_empty") (Str.ofString "Spots.first_empty") (defArgs (inClass (top 8) 1)) (defBody (inClass (top 8) 1)) (defScope (inClass (top 8) 1)) .none .none .none (.str (S 604688386180134175214183720302048103) 242) none (.ref 108) .none), #[]⟩
noncomputable def o112 (_ : Params) : Obj := tO [(.str (S 1735222900) 321), (.str (S 1869248629) 322)]
noncomputable def o115 (_ : Params) : Obj := cO [(.str (S 526146714420258238851687) 318), (.str (S 148097134187830361177623957051129491796) 319), (.str (S 9700865007064396754801562313776) 320), (.int (41) 0), (.int (1) 0), (.int (0) 0), (.int (0) 0), (.int (3) 0), (.ref 110), (.bool true), (.int (181) 0), (.ref 111), .none, (.ref 112), (.ref 113), (.ref 114), (.int (323) 0), (.int (41) 0), (.str (S 9700865007064396754801562313776) 324)]
noncomputable def o116 (_ : Params) : Obj := ⟨(.type "function"), none, .func (PySem.W.fnOf (Str.ofString "first_twin") (Str.ofString "Spots.first_twin") (defArgs (inClass (top 8) 2)) (defBody (inClass (top 8) 2)) (defScope (inClass (top 8) 2)) .none .none .none (.str (S 604688386180134175214183720302048103) 242) none (.ref 115) .none), #[]⟩
noncomputable def o120 (_ : Params) : Obj := cO [(.str (S 554573001519589316061805) 326), (.str (S 156098422687084997236258294064131109204) 327), (.str (S 9700865007064396754801562313776) 328), (.int (47) 0), (.int (1) 0), (.int (0) 0), (.int (0) 0), (.int (3) 0), (.ref 117), (.bool true), (.int (181) 0), (.ref 118), .none, .none, .none, (.ref 119), (.int (329) 0), (.int (47) 0), (.str (S 9700865007064396754801562313776) 330)]
noncomputable def o121 (_ : Params) : Obj := ⟨(.type "function"), none, .func (PySem.W.fnOf (Str.ofString "live_count") (Str.ofString "Spots.live_count") (defArgs (inClass (top 8) 3)) (defBody (inClass (top 8) 3)) (defScope (inClass (top 8) 3)) .none .none .none (.str (S 604688386180134175214183720302048103) 242) none (.ref 120) .none), #[]⟩
noncomputable def o122 (_ : Params) : Obj := ⟨(.type "tuple"), none, .seq #[(.str (Str.ofString "lying") 332), (.str (Str.ofString "twins") 333)] 0, #[]⟩
noncomputable def o123 (P : Params) : Obj := dO 4 [ent P (S 455125450472104437637216) 296 (.str (S 604688386180134175214183720302048103) 242), ent P (S 500416517772168279997240570217455712) 300 (.int (29) 299), ent P (S 6944679725401530464) 308 (.ref 102), ent P (S 148043559308712686361209447) 317 (.ref 109), ent P (S 526146714420258238851687) 325 (.ref 116), ent P (S 554573001519589316061805) 331 (.ref 121), ent P (S 140854816109632365363434125429399349832812124725344) 334 (.ref 122), ent P (S 6944679699547512928) 336 (.ref 125), ent P (S 116512133262362862868258912) 338 (.ref 126), ent P (S 27127582262911072) 339 .none]
noncomputable def o124 (_ : Params) : Obj := ⟨(.type "type"), none, .cls { name := (Str.ofString "Spots"), bases := [(.type "object")], mro := [(.ref 124), (.type "object")], ns := 123, qualname := (Str.ofString "Spots"), hasDict := true, slotNames := [], subclasses := [], abstract := false, collection := none, hasDel := false }, #[none, none, (some (.str (S 500186509652) 289)), (some (.str (S 500186509652) 297)), (some (.builtin "object.__new__")), (some (.bool true))]⟩
noncomputable def o125 (_ : Params) : Obj := ⟨(.type "getset_descriptor"), none, .fields ⟨[(.str (S 6944679699547512928) 335), (.ref 124), (.builtin "function.__dict__"), (.builtin "function.__dict__#set")]⟩, #[]⟩
noncomputable def o126 (_ : Params) : Obj := ⟨(.type "getset_descriptor"), none, .fields ⟨[(.str (S 116512133262362862868258912) 337), (.ref 124), (.builtin "ExceptionGroup.__weakref__"), .none]⟩, #[]⟩
noncomputable def o138 (_ : Params) : Obj := tO [(.str (S 1735222900) 359), (.str (S 127983287432039) 360), (.str (S 500186508660) 361), (.str (S 1719364212) 362)]
noncomputable def o141 (_ : Params) : Obj := cO [(.str (S 6944679725401530464) 356), (.str (S 500416912376412337332427809224026452) 357), (.str (S 9700865007064396754801562313776) 358), (.int (52) 0), (.int (4) 0), (.int (0) 0), (.int (0) 0), (.int (3) 0), (.ref 136), (.bool true), (.int (181) 0), (.ref 137), .none, (.ref 138), (.ref 139), (.ref 140), (.int (363) 0), (.int (52) 0), (.str (S 9700865007064396754801562313776) 364)]
noncomputable def o142 (_ : Params) : Obj := ⟨(.type "function"), none, .func (PySem.W.fnOf (Str.ofString "__init__") (Str.ofString "Sheets.__init__") (defArgs (inClass (top 10) 0)) (defBody (inClass (top 10) 0)) (defScope (inClass (top 10) 0)) .none .none .none (.str (S 154800023163187350263413837515144196967) 342) none (.ref 141) .none), #[]⟩
noncomputable def o145 (_ : Params) : Obj := tO [(.str (S 1735222900) 369), (.str (S 504229161332) 370), (.str (S 126883625529449) 371), (.str (S 500035707502) 372), (.str (S 8020600) 373)]
noncomputable def o148 (_ : Params) : Obj := cO [(.str (S 452924437351) 366), (.str (S 32636645236508639938168121684) 367), (.str (S 9700865007064396754801562313776) 368), (.int (61) 0), (.int (4) 0), (.int (0) 0), (.int (0) 0), (.int (3) 0), (.ref 143), (.bool true), (.int (181) 0), (.ref 144), .none, (.ref 145), (.ref 146), (.ref 147), (.int (374) 0), (.int (61) 0), (.str (S 9700865007064396754801562313776) 375)]
noncomputable def o149 (_ : Params) : Obj := ⟨(.type "function"), none, .func (PySem.W.fnOf (Str.ofString "fresh") (Str.ofString "Sheets.fresh") (defArgs (inClass (top 10) 1)) (defBody (inClass (top 10) 1)) (defScope (inClass (top 10) 1)) .none .none .none (.str (S 154800023163187350263413837515144196967) 342) none (.ref 148) .none), #[]⟩
noncomputable def o152 (_ : Params) : Obj := tO [(.str (S 1735222900) 380), (.str (S 1970302324) 381), (.str (S 500035707502) 382), (.str (S 114827736281188) 383), (.str (S 8020600) 384)]
noncomputable def o155 (_ : Params) : Obj := cO [(.str (S 1818518115) 377), (.str (S 131038040094645320163944788) 378), (.str (S 9700865007064396754801562313776) 379), (.int (68) 0), (.int (3) 0), (.int (0) 0), (.int (0) 0), (.int (3) 0), (.ref 150), (.bool true), (.int (181) 0), (.ref 151), .none, (.ref 152), (.ref 153), (.ref 154), (.int (385) 0), (.int (68) 0), (.str (S 9700865007064396754801562313776) 386)]
noncomputable def o156 (_ : Params) : Obj := ⟨(.type "function"), none, .func (PySem.W.fnOf (Str.ofString "back") (Str.ofString "Sheets.back") (defArgs (inClass (top 10) 2)) (defBody (inClass (top 10) 2)) (defScope (inClass (top 10) 2)) .none .none .none (.str (S 154800023163187350263413837515144196967) 342) none (.ref 155) .none), #[]⟩
noncomputable def o159 (_ : Params) : Obj := tO [(.str (S 1735222900) 391), (.str (S 1970303348) 392), (.str (S 126883625529449) 393)]
noncomputable def o162 (_ : Params) : Obj := cO [(.str (S 1701671017) 388), (.str (S 122618319342451338909215060) 389), (.str (S 9700865007064396754801562313776) 390), (.int (79) 0), (.int (3) 0), (.int (0) 0), (.int (0) 0), (.int (3) 0), (.ref 157), (.bool true), (.int (181) 0), (.ref 158), .none, (.ref 159), (.ref 160), (.ref 161), (.int (394) 0), (.int (79) 0), (.str (S 9700865007064396754801562313776) 395)]
noncomputable def o163 (_ : Params) : Obj := ⟨(.type "function"), none, .func (PySem.W.fnOf (Str.ofString "hold") (Str.ofString "Sheets.hold") (defArgs (inClass (top 10) 3)) (defBody (inClass (top 10) 3)) (defScope (inClass (top 10) 3)) .none .none .none (.str (S 154800023163187350263413837515144196967) 342) none (.ref 162) .none), #[]⟩
noncomputable def o166 (_ : Params) : Obj := tO [(.str (S 1735222900) 400), (.str (S 1970303348) 401), (.str (S 126883625529449) 402), (.str (S 504229161332) 403)]
noncomputable def o169 (_ : Params) : Obj := cO [(.str (S 123593597216365) 397), (.str (S 8905857253904022728413553256788) 398), (.str (S 9700865007064396754801562313776) 399), (.int (82) 0), (.int (3) 0), (.int (0) 0), (.int (0) 0), (.int (3) 0), (.ref 164), (.bool true), (.int (181) 0), (.ref 165), .none, (.ref 166), (.ref 167), (.ref 168), (.int (404) 0), (.int (82) 0), (.str (S 9700865007064396754801562313776) 405)]
noncomputable def o170 (_ : Params) : Obj := ⟨(.type "function"), none, .func (PySem.W.fnOf (Str.ofString "let_go") (Str.ofString "Sheets.let_go") (defArgs (inClass (top 10) 4)) (defBody (inClass (top 10) 4)) (defScope (inClass (top 10) 4)) .none .none .none (.str (S 154800023163187350263413837515144196967) 342) none (.ref 169) .none), #[]⟩
noncomputable def o173 (_ : Params) : Obj := tO [(.str (S 1735222900) 410), (.str (S 1970303348) 411), (.str (S 504229161332) 412)]
noncomputable def o176 (_ : Params) : Obj := cO [(.str (S 488476733378837491839081) 407), (.str (S 35198458150785434460000437533358669850964) 408), (.str (S 9700865007064396754801562313776) 409), (.int (88) 0), (.int (2) 0), (.int (0) 0), (.int (0) 0), (.int (3) 0), (.ref 171), (.bool true), (.int (181) 0), (.ref 172), .none, (.ref 173), (.ref 174), (.ref 175), (.int (413) 0), (.int (88) 0), (.str (S 9700865007064396754801562313776) 414)]
noncomputable def o177 (_ : Params) : Obj := ⟨(.type "function"), none, .func (PySem.W.fnOf (Str.ofString "holders_of") (Str.ofString "Sheets.holders_of") (defArgs (inClass (top 10) 5)) (defBody (inClass (top 10) 5)) (defScope (inClass (top 10) 5)) .none .none .none (.str (S 154800023163187350263413837515144196967) 342) none (.ref 176) .none), #[]⟩
noncomputable def o180 (_ : Params) : Obj := tO [(.str (S 1735222900) 419), (.str (S 1970303348) 420)]
noncomputable def o183 (_ : Params) : Obj := cO [(.str (S 36344496227587819637979312233) 416), (.str (S 2618896954680526433690932518906927297180625236) 417), (.str (S 9700865007064396754801562313776) 418), (.int (92) 0), (.int (2) 0), (.int (0) 0), (.int (0) 0), (.int (3) 0), (.ref 178), (.bool true), (.int (181) 0), (.ref 179), .none, (.ref 180), (.ref 181), (.ref 182), (.int (421) 0), (.int (92) 0), (.str (S 9700865007064396754801562313776) 422)]
noncomputable def o184 (_ : Params) : Obj := ⟨(.type "function"), none, .func (PySem.W.fnOf (Str.ofString "holder_count") (Str.ofString "Sheets.holder_count") (defArgs (inClass (top 10) 6)) (defBody (inClass (top 10) 6)) (defScope (inClass (top 10) 6)) .none .none .none (.str (S 154800023163187350263413837515144196967) 342) none (.ref 183) .none), #[]⟩
noncomputable def o187 (_ : Params) : Obj := tO [(.str (S 1735222900) 427), (.str (S 1970303348) 428), (.str (S 504229161332) 429)]
noncomputable def o190 (_ : Params) : Obj := cO [(.str (S 8458429107500640628) 424), (.str (S 609494050826874274975507821181167956) 425), (.str (S 9700865007064396754801562313776) 426), (.int (95) 0), (.int (2) 0), (.int (0) 0), (.int (0) 0), (.int (3) 0), (.ref 185), (.bool true), (.int (181) 0), (.ref 186), .none, (.ref 187), (.ref 188), (.ref 189), (.int (430) 0), (.int (95) 0), (.str (S 9700865007064396754801562313776) 431)]
noncomputable def o191 (_ : Params) : Obj := ⟨(.type "function"), none, .func (PySem.W.fnOf (Str.ofString "sheet_at") (Str.ofString "Sheets.sheet_at") (defArgs (inClass (top 10) 7)) (defBody (inClass (top 10) 7)) (defScope (inClass (top 10) 7)) .none .none .none (.str (S 154800023163187350263413837515144196967) 342) none (.ref 190) .none), #[]⟩
noncomputable def o194 (_ : Params) : Obj := tO [(.str (S 1735222900) 436), (.str (S 439938610023) 437), (.str (S 7958627) 438)]
noncomputable def o197 (_ : Params) : Obj := cO [(.str (S 113732352569443) 433), (.str (S 8195279690427427246896753043796) 434), (.str (S 9700865007064396754801562313776) 435), (.int (99) 0), (.int (3) 0), (.int (0) 0), (.int (0) 0), (.int (3) 0), (.ref 192), (.bool true), (.int (181) 0), (.ref 193), .none, (.ref 194), (.ref 195), (.ref 196), (.int (439) 0), (.int (99) 0), (.str (S 9700865007064396754801562313776) 440)]
noncomputable def o198 (_ : Params) : Obj := ⟨(.type "function"), none, .func (PySem.W.fnOf (Str.ofString "box_of") (Str.ofString "Sheets.box_of") (defArgs (inClass (top 10) 8)) (defBody (inClass (top 10) 8)) (defScope (inClass (top 10) 8)) .none .none .none (.str (S 154800023163187350263413837515144196967) 342) none (.ref 197) .none), #[]⟩
noncomputable def o201 (_ : Params) : Obj := tO [(.str (S 1735222900) 445), (.str (S 439938610023) 446), (.str (S 7958627) 447), (.str (S 440073544311) 448)]
noncomputable def o204 (_ : Params) : Obj := cO [(.str (S 34182044304369268) 442), (.str (S 2463075871870707541703845600454996) 443), (.str (S 9700865007064396754801562313776) 444), (.int (102) 0), (.int (4) 0), (.int (0) 0), (.int (0) 0), (.int (3) 0), (.ref 199), (.bool true), (.int (181) 0), (.ref 200), .none, (.ref 201), (.ref 202), (.ref 203), (.int (449) 0), (.int (102) 0), (.str (S 9700865007064396754801562313776) 450)]
noncomputable def o205 (_ : Params) : Obj := ⟨(.type "function"), none, .func (PySem.W.fnOf (Str.ofString "set_box") (Str.ofString "Sheets.set_box") (defArgs (inClass (top 10) 9)) (defBody (inClass (top 10) 9)) (defScope (inClass (top 10) 9)) .none .none .none (.str (S 154800023163187350263413837515144196967) 342) none (.ref 204) .none), #[]⟩
noncomputable def o208 (_ : Params) : Obj := tO [(.str (S 1735222900) 455)]
noncomputable def o211 (_ : Params) : Obj := cO [(.str (S 1701671015) 452), (.str (S 122618319198336150833359188) 453), (.str (S 9700865007064396754801562313776) 454), (.int (106) 0), (.int (1) 0), (.int (0) 0), (.int (0) 0), (.int (3) 0), (.ref 206), (.bool true), (.int (181) 0), (.ref 207), .none, (.ref 208), (.ref 209), (.ref 210), (.int (456) 0), (.int (106) 0), (.str (S 9700865007064396754801562313776) 457)]
noncomputable def o212 (_ : Params) : Obj := ⟨(.type "function"), none, .func (PySem.W.fnOf (Str.ofString "fold") (Str.ofString "Sheets.fold") (defArgs (inClass (top 10) 10)) (defBody (inClass (top 10) 10)) (defScope (inClass (top 10) 10)) .none .none .none (.str (S 154800023163187350263413837515144196967) 342) none (.ref 211) .none), #[]⟩
noncomputable def o215 (_ : Params) : Obj := tO [(.str (S 1735222900) 462)]
noncomputable def o218 (_ : Params) : Obj := cO [(.str (S 140789800901245672938236525) 459), (.str (S 10144974318022661352875422811256588356446548) 460), (.str (S 9700865007064396754801562313776) 461), (.int (109) 0), (.int (1) 0), (.int (0) 0), (.int (0) 0), (.int (3) 0), (.ref 213), (.bool true), (.int (181) 0), (.ref 214), .none, (.ref 215), (.ref 216), (.ref 217), (.int (463) 0), (.int (109) 0), (.str (S 9700865007064396754801562313776) 464)]
noncomputable def o219 (_ : Params) : Obj := ⟨(.type "function"), none, .func (PySem.W.fnOf (Str.ofString "live_sheets") (Str.ofString "Sheets.live_sheets") (defArgs (inClass (top 10) 11)) (defBody (inClass (top 10) 11)) (defScope (inClass (top 10) 11)) .none .none .none (.str (S 154800023163187350263413837515144196967) 342) none (.ref 218) .none), #[]⟩
noncomputable def o222 (_ : Params) : Obj := tO [(.str (S 1735222900) 469)]
noncomputable def o225 (_ : Params) : Obj := cO [(.str (S 30801127769404522) 466), (.str (S 2219455160718099884163236951910740) 467), (.str (S 9700865007064396754801562313776) 468), (.int (112) 0), (.int (1) 0), (.int (0) 0), (.int (0) 0), (.int (3) 0), (.ref 220), (.bool true), (.int (181) 0), (.ref 221), .none, (.ref 222), (.ref 223), (.ref 224), (.int (470) 0), (.int (112) 0), (.str (S 9700865007064396754801562313776) 471)]
noncomputable def o226 (_ : Params) : Obj := ⟨(.type "function"), none, .func (PySem.W.fnOf (Str.ofString "is_full") (Str.ofString "Sheets.is_full") (defArgs (inClass (top 10) 12)) (defBody (inClass (top 10) 12)) (defScope (inClass (top 10) 12)) .none .none .none (.str (S 154800023163187350263413837515144196967) 342) none (.ref 225) .none), #[]⟩
noncomputable def o229 (_ : Params) : Obj := tO [(.str (S 1735222900) 476)]
noncomputable def o232 (_ : Params) : Obj := cO [(.str (S 33040738433327721) 473), (.str (S 2380836116742092014812639552498004) 474), (.str (S 9700865007064396754801562313776) 475), (.int (115) 0), (.int (1) 0), (.int (0) 0), (.int (0) 0), (.int (3) 0), (.ref 227), (.bool true), (.int (181) 0), (.ref 228), .none, (.ref 229), (.ref 230), (.ref 231), (.int (477) 0), (.int (115) 0), (.str (S 9700865007064396754801562313776) 478)]
noncomputable def o233 (_ : Params) : Obj := ⟨(.type "function"), none, .func (PySem.W.fnOf (Str.ofString "hand_at") (Str.ofString "Sheets.hand_at") (defArgs (inClass (top 10) 13)) (defBody (inClass (top 10) 13)) (defScope (inClass (top 10) 13)) .none .none .none (.str (S 154800023163187350263413837515144196967) 342) none (.ref 232) .none), #[]⟩
noncomputable def o236 (_ : Params) : Obj := tO [(.str (S 1735222900) 483), (.str (S 1701671029) 484), (.str (S 439938610023) 485), (.str (S 504229161332) 486)]
noncomputable def o239 (_ : Params) : Obj := cO [(.str (S 140719112692525297883246709) 480), (.str (S 10139880695775420249778937948812234134546772) 481), (.str (S 9700865007064396754801562313776) 482), (.int (118) 0), (.int (1) 0), (.int (0) 0), (.int (0) 0), (.int (3) 0), (.ref 234), (.bool true), (.int (181) 0), (.ref 235), .none, (.ref 236), (.ref 237), (.ref 238), (.int (487) 0), (.int (118) 0), (.str (S 9700865007064396754801562313776) 488)]
noncomputable def o240 (_ : Params) : Obj := ⟨(.type "function"), none, .func (PySem.W.fnOf (Str.ofString "told_frames") (Str.ofString "Sheets.told_frames") (defArgs (inClass (top 10) 14)) (defBody (inClass (top 10) 14)) (defScope (inClass (top 10) 14)) .none .none .none (.str (S 154800023163187350263413837515144196967) 342) none (.ref 239) .none), #[]⟩
noncomputable def o244 (_ : Params) : Obj := cO [(.str (S 549960882328764939071605) 490), (.str (S 39628857995586799648525390943893217241428) 491), (.str (S 9700865007064396754801562313776) 492), (.int (127) 0), (.int (1) 0), (.int (0) 0), (.int (0) 0), (.int (3) 0), (.ref 241), (.bool true), (.int (181) 0), (.ref 242), .none, .none, .none, (.ref 243), (.int (493) 0), (.int (127) 0), (.str (S 9700865007064396754801562313776) 494)]
noncomputable def o245 (_ : Params) : Obj := ⟨(.type "function"), none, .func (PySem.W.fnOf (Str.ofString "told_slots") (Str.ofString "Sheets.told_slots") (defArgs (inClass (top 10) 15)) (defBody (inClass (top 10) 15)) (defScope (inClass (top 10) 15)) .none .none .none (.str (S 154800023163187350263413837515144196967) 342) none (.ref 244) .none), #[]⟩
noncomputable def o248 (_ : Params) : Obj := tO [(.str (S 1735222900) 499)]
noncomputable def o251 (_ : Params) : Obj := cO [(.str (S 435510800494) 496), (.str (S 31381860461143034575928584532) 497), (.str (S 9700865007064396754801562313776) 498), (.int (130) 0), (.int (1) 0), (.int (0) 0), (.int (0) 0), (.int (3) 0), (.ref 246), (.bool true), (.int (181) 0), (.ref 247), .none, (.ref 248), (.ref 249), (.ref 250), (.int (500) 0), (.int (130) 0), (.str (S 9700865007064396754801562313776) 501)]
noncomputable def o252 (_ : Params) : Obj := ⟨(.type "function"), none, .func (PySem.W.fnOf (Str.ofString "moved") (Str.ofString "Sheets.moved") (defArgs (inClass (top 10) 16)) (defBody (inClass (top 10) 16)) (defScope (inClass (top 10) 16)) .none .none .none (.str (S 154800023163187350263413837515144196967) 342) none (.ref 251) .none), #[]⟩
noncomputable def o255 (_ : Params) : Obj := tO [(.str (S 1735222900) 506), (.str (S 1970303348) 507), (.str (S 500186509684) 508)]
noncomputable def o258 (_ : Params) : Obj := cO [(.str (S 8458429051817327213) 503), (.str (S 609494046814468682230731163709106516) 504), (.str (S 9700865007064396754801562313776) 505), (.int (133) 0), (.int (2) 0), (.int (0) 0), (.int (0) 0), (.int (3) 0), (.ref 253), (.bool true), (.int (181) 0), (.ref 254), .none, (.ref 255), (.ref 256), (.ref 257), (.int (509) 0), (.int (133) 0), (.str (S 9700865007064396754801562313776) 510)]
noncomputable def o259 (_ : Params) : Obj := ⟨(.type "function"), none, .func (PySem.W.fnOf (Str.ofString "lying_at") (Str.ofString "Sheets.lying_at") (defArgs (inClass (top 10) 17)) (defBody (inClass (top 10) 17)) (defScope (inClass (top 10) 17)) .none .none .none (.str (S 154800023163187350263413837515144196967) 342) none (.ref 258) .none), #[]⟩
noncomputable def o262 (_ : Params) : Obj := tO [(.str (S 1735222900) 515)]
noncomputable def o265 (_ : Params) : Obj := cO [(.str (S 2148284700994785078626) 512), (.str (S 154800226862173623962013088011365280084) 513), (.str (S 9700865007064396754801562313776) 514), (.int (137) 0), (.int (1) 0), (.int (0) 0), (.int (0) 0), (.int (3) 0), (.ref 260), (.bool true), (.int (181) 0), (.ref 261), .none, (.ref 262), (.ref 263), (.ref 264), (.int (516) 0), (.int (137) 0), (.str (S 9700865007064396754801562313776) 517)]
noncomputable def o266 (_ : Params) : Obj := ⟨(.type "function"), none, .func (PySem.W.fnOf (Str.ofString "all_spots") (Str.ofString "Sheets.all_spots") (defArgs (inClass (top 10) 18)) (defBody (inClass (top 10) 18)) (defScope (inClass (top 10) 18)) .none .none .none (.str (S 154800023163187350263413837515144196967) 342) none (.ref 265) .none), #[]⟩
noncomputable def o269 (_ : Params) : Obj := tO [(.str (S 1735222900) 522), (.str (S 1970302324) 523), (.str (S 504229161332) 524), (.str (S 439938610023) 525)]
noncomputable def o272 (_ : Params) : Obj := cO [(.str (S 2166370315886094282869) 519), (.str (S 156103432757937886773936481808104712532) 520), (.str (S 9700865007064396754801562313776) 521), (.int (140) 0), (.int (2) 0), (.int (0) 0), (.int (0) 0), (.int (3) 0), (.ref 267), (.bool true), (.int (181) 0), (.ref 268), .none, (.ref 269), (.ref 270), (.ref 271), (.int (526) 0), (.int (140) 0), (.str (S 9700865007064396754801562313776) 527)]
noncomputable def o273 (_ : Params) : Obj := ⟨(.type "function"), none, .func (PySem.W.fnOf (Str.ofString "told_slot") (Str.ofString "Sheets.told_slot") (defArgs (inClass (top 10) 19)) (defBody (inClass (top 10) 19)) (defScope (inClass (top 10) 19)) .none .none .none (.str (S 154800023163187350263413837515144196967) 342) none (.ref 272) .none), #[]⟩
noncomputable def o276 (_ : Params) : Obj := tO [(.str (S 1735222900) 532), (.str (S 1970303348) 533), (.str (S 495639426416) 534)]
noncomputable def o279 (_ : Params) : Obj := cO [(.str (S 2128759062150016623209) 529), (.str (S 153393256304966102397104309401490450772) 530), (.str (S 9700865007064396754801562313776) 531), (.int (149) 0), (.int (3) 0), (.int (0) 0), (.int (0) 0), (.int (3) 0), (.ref 274), (.bool true), (.int (181) 0), (.ref 275), .none, (.ref 276), (.ref 277), (.ref 278), (.int (535) 0), (.int (149) 0), (.str (S 9700865007064396754801562313776) 536)]
noncomputable def o280 (_ : Params) : Obj := ⟨(.type "function"), none, .func (PySem.W.fnOf (Str.ofString "hand_over") (Str.ofString "Sheets.hand_over") (defArgs (inClass (top 10) 20)) (defBody (inClass (top 10) 20)) (defScope (inClass (top 10) 20)) .none .none .none (.str (S 154800023163187350263413837515144196967) 342) none (.ref 279) .none), #[]⟩
noncomputable def o283 (_ : Params) : Obj := tO [(.str (S 1735222900) 541), (.str (S 1970303348) 542)]
noncomputable def o286 (_ : Params) : Obj := cO [(.str (S 578295153549658678911598) 538), (.str (S 41670557408582505496529931128187121985876) 539), (.str (S 9700865007064396754801562313776) 540), (.int (152) 0), (.int (2) 0), (.int (0) 0), (.int (0) 0), (.int (3) 0), (.ref 281), (.bool true), (.int (181) 0), (.ref 282), .none, (.ref 283), (.ref 284), (.ref 285), (.int (543) 0), (.int (152) 0), (.str (S 9700865007064396754801562313776) 544)]
noncomputable def o287 (_ : Params) : Obj := ⟨(.type "function"), none, .func (PySem.W.fnOf (Str.ofString "make_empty") (Str.ofString "Sheets.make_empty") (defArgs (inClass (top 10) 21)) (defBody (inClass (top 10) 21)) (defScope (inClass (top 10) 21)) .none .none .none (.str (S 154800023163187350263413837515144196967) 342) none (.ref 286) .none), #[]⟩
noncomputable def o290 (_ : Params) : Obj := tO [(.str (S 1735222900) 549), (.str (S 439938610023) 550), (.str (S 1970302324) 551)]
noncomputable def o293 (_ : Params) : Obj := cO [(.str (S 2055260603203882086509) 546), (.str (S 148097134187812227235189991446143199572) 547), (.str (S 9700865007064396754801562313776) 548), (.int (159) 0), (.int (2) 0), (.int (0) 0), (.int (0) 0), (.int (3) 0), (.ref 288), (.bool true), (.int (181) 0), (.ref 289), .none, (.ref 290), (.ref 291), (.ref 292), (.int (552) 0), (.int (159) 0), (.str (S 9700865007064396754801562313776) 553)]
noncomputable def o294 (_ : Params) : Obj := ⟨(.type "function"), none, .func (PySem.W.fnOf (Str.ofString "lose_twin") (Str.ofString "Sheets.lose_twin") (defArgs (inClass (top 10) 22)) (defBody (inClass (top 10) 22)) (defScope (inClass (top 10) 22)) .none .none .none (.str (S 154800023163187350263413837515144196967) 342) none (.ref 293) .none), #[]⟩
noncomputable def o297 (_ : Params) : Obj := tO [(.str (S 1735222900) 558), (.str (S 133512874028327697487130724) 559), (.str (S 500035707502) 560), (.str (S 439938610023) 561), (.str (S 112581468514660) 562)]
noncomputable def o300 (_ : Params) : Obj := cO [(.str (S 2129475116924502438759) 555), (.str (S 153444853489214921332424288546578655572) 556), (.str (S 9700865007064396754801562313776) 557), (.int (165) 0), (.int (3) 0), (.int (0) 0), (.int (0) 0), (.int (3) 0), (.ref 295), (.bool true), (.int (181) 0), (.ref 296), .none, (.ref 297), (.ref 298), (.ref 299), (.int (563) 0), (.int (165) 0), (.str (S 9700865007064396754801562313776) 564)]
noncomputable def o301 (_ : Params) : Obj := ⟨(.type "function"), none, .func (PySem.W.fnOf (Str.ofString "frame_for") (Str.ofString "Sheets.frame_for") (defArgs (inClass (top 10) 23)) (defBody (inClass (top 10) 23)) (defScope (inClass (top 10) 23)) .none .none .none (.str (S 154800023163187350263413837515144196967) 342) none (.ref 300) .none), #[]⟩
noncomputable def o304 (_ : Params) : Obj := tO [(.str (S 1735222900) 569), (.str (S 439938610023) 570), (.str (S 133512874028327697487130724) 571), (.str (S 504229161332) 572), (.str (S 1970302324) 573)]
noncomputable def o307 (_ : Params) : Obj := cO [(.str (S 33062797301872241) 566), (.str (S 2382425625736609055251908520208724) 567), (.str (S 9700865007064396754801562313776) 568), (.int (173) 0), (.int (3) 0), (.int (0) 0), (.int (0) 0), (.int (3) 0), (.ref 302), (.bool true), (.int (181) 0), (.ref 303), .none, (.ref 304), (.ref 305), (.ref 306), (.int (574) 0), (.int (173) 0), (.str (S 9700865007064396754801562313776) 575)]
noncomputable def o308 (_ : Params) : Obj := ⟨(.type "function"), none, .func (PySem.W.fnOf (Str.ofString "put_out") (Str.ofString "Sheets.put_out") (defArgs (inClass (top 10) 24)) (defBody (inClass (top 10) 24)) (defScope (inClass (top 10) 24)) .none .none .none (.str (S 154800023163187350263413837515144196967) 342) none (.ref 307) .none), #[]⟩
noncomputable def o311 (_ : Params) : Obj := tO [(.str (S 1735222900) 580), (.str (S 439938610023) 581), (.str (S 133512874028327697487130724) 582), (.str (S 525956378214) 583), (.str (S 1869248629) 584)]
noncomputable def o314 (_ : Params) : Obj := cO [(.str (S 8318262175738129780) 577), (.str (S 599393958960389321452523230538918228) 578), (.str (S 9700865007064396754801562313776) 579), (.int (185) 0), (.int (3) 0), (.int (0) 0), (.int (0) 0), (.int (3) 0), (.ref 309), (.bool true), (.int (181) 0), (.ref 310), .none, (.ref 311), (.ref 312), (.ref 313), (.int (585) 0), (.int (185) 0), (.str (S 9700865007064396754801562313776) 586)]
noncomputable def o315 (_ : Params) : Obj := ⟨(.type "function"), none, .func (PySem.W.fnOf (Str.ofString "slot_for") (Str.ofString "Sheets.slot_for") (defArgs (inClass (top 10) 25)) (defBody (inClass (top 10) 25)) (defScope (inClass (top 10) 25)) .none .none .none (.str (S 154800023163187350263413837515144196967) 342) none (.ref 314) .none), #[]⟩
noncomputable def o316 (_ : Params) : Obj := ⟨(.type "tuple"), none, .seq #[(.str (Str.ofString "come_back") 588), (.str (Str.ofString "frames") 589), (.str (Str.ofString "gone_astray") 590), (.str (Str.ofString "gone_out") 591), (.str (Str.ofString "hand") 592), (.str (Str.ofString "size") 593), (.str (Str.ofString "slots") 594)] 0, #[]⟩
noncomputable def o317 (P : Params) : Obj := dO 4 [ent P (S 455125450472104437637216) 351 (.str (S 154800023163187350263413837515144196967) 342), ent P (S 500416517772168279997240570217455712) 355 (.int (50) 354), ent P (S 6944679725401530464) 365 (.ref 142), ent P (S 452924437351) 376 (.ref 149), ent P (S 1818518115) 387 (.ref 156), ent P (S 1701671017) 396 (.ref 163), ent P (S 123593597216365) 406 (.ref 170), ent P (S 488476733378837491839081) 415 (.ref 177), ent P (S 36344496227587819637979312233) 423 (.ref 184), ent P (S 8458429107500640628) 432 (.ref 191), ent P (S 113732352569443) 441 (.ref 198), ent P (S 34182044304369268) 451 (.ref 205), ent P (S 1701671015) 458 (.ref 212), ent P (S 140789800901245672938236525) 465 (.ref 219), ent P (S 30801127769404522) 472 (.ref 226), ent P (S 33040738433327721) 479 (.ref 233), ent P (S 140719112692525297883246709) 489 (.ref 240), ent P (S 549960882328764939071605) 495 (.ref 245), ent P (S 435510800494) 502 (.ref 252), ent P (S 8458429051817327213) 511 (.ref 259), ent P (S 2148284700994785078626) 518 (.ref 266), ent P (S 2166370315886094282869) 528 (.ref 273), ent P (S 2128759062150016623209) 537 (.ref 280), ent P (S 578295153549658678911598) 545 (.ref 287), ent P (S 2055260603203882086509) 554 (.ref 294), ent P (S 2129475116924502438759) 565 (.ref 301), ent P (S 33062797301872241) 576 (.ref 308), ent P (S 8318262175738129780) 587 (.ref 315), ent P (S 140854816109632365363434125429399349832812124725344) 595 (.ref 316), ent P (S 6944679699547512928) 597 (.ref 319), ent P (S 116512133262362862868258912) 599 (.ref 320), ent P (S 27127582262911072) 600 .none]
noncomputable def o318 (_ : Params) : Obj := ⟨(.type "type"), none, .cls { name := (Str.ofString "Sheets"), bases := [(.type "object")], mro := [(.ref 318), (.type "object")], ns := 317, qualname := (Str.ofString "Sheets"), hasDict := true, slotNames := [], subclasses := [], abstract := false, collection := none, hasDel := false }, #[none, none, (some (.str (S 128047577983316) 344)), (some (.str (S 128047577983316) 352)), (some (.builtin "object.__new__")), (some (.bool true))]⟩
noncomputable def o319 (_ : Params) : Obj := ⟨(.type "getset_descriptor"), none, .fields ⟨[(.str (S 6944679699547512928) 596), (.ref 318), (.builtin "function.__dict__"), (.builtin "function.__dict__#set")]⟩, #[]⟩
noncomputable def o320 (_ : Params) : Obj := ⟨(.type "getset_descriptor"), none, .fields ⟨[(.str (S 116512133262362862868258912) 598), (.ref 318), (.builtin "ExceptionGroup.__weakref__"), .none]⟩, #[]⟩
noncomputable def o325 (_ : Params) : Obj := tO [(.str (S 141979911977246466280418656) 608), (.str (S 119161592376672) 609)]
noncomputable def o328 (_ : Params) : Obj := cO [(.str (S 2018578202597599112544) 605), (.str (S 2018578202597599112544) 606), (.str (S 9700865007064396754801562313776) 607), (.int (194) 0), (.int (2) 0), (.int (0) 0), (.int (0) 0), (.int (3) 0), (.ref 323), (.bool true), (.int (181) 0), (.ref 324), .none, (.ref 325), (.ref 326), (.ref 327), (.int (610) 0), (.int (194) 0), (.str (S 9700865007064396754801562313776) 611)]
noncomputable def o329 (_ : Params) : Obj := ⟨(.type "function"), none, .func (PySem.W.fnOf (Str.ofString "_law_cell") (Str.ofString "_law_cell") (defArgs (top 12)) (defBody (top 12)) (defScope (top 12)) .none .none .none (.str (S 11152278308674107151587372952260849038370642534826795629) 603) none (.ref 328) .none), #[]⟩
noncomputable def o332 (_ : Params) : Obj := tO [(.str (S 479015137796973828140384) 616), (.str (S 8116987160644769142113648668000) 617), (.str (S 119161592376672) 618)]
noncomputable def o335 (_ : Params) : Obj := cO [(.str (S 1889380072283105815904) 613), (.str (S 1889380072283105815904) 614), (.str (S 9700865007064396754801562313776) 615), (.int (198) 0), (.int (2) 0), (.int (0) 0), (.int (0) 0), (.int (3) 0), (.ref 330), (.bool true), (.int (181) 0), (.ref 331), .none, (.ref 332), (.ref 333), (.ref 334), (.int (619) 0), (.int (198) 0), (.str (S 9700865007064396754801562313776) 620)]
noncomputable def o336 (_ : Params) : Obj := ⟨(.type "function"), none, .func (PySem.W.fnOf (Str.ofString "_law_like") (Str.ofString "_law_like") (defArgs (top 13)) (defBody (top 13)) (defScope (top 13)) .none .none .none (.str (S 11152278308674107151587372952260849038370642534826795629) 603) none (.ref 335) .none), #[]⟩
noncomputable def o339 (_ : Params) : Obj := tO [(.str (S 483810136383000565411168) 625), (.str (S 479015137792575781629280) 626), (.str (S 479015137796973828140384) 627), (.str (S 139510021644005314150952288) 628), (.str (S 483717617228313935375712) 629), (.str (S 119161592376672) 630)]
noncomputable def o342 (_ : Params) : Obj := cO [(.str (S 1889525866425437285728) 622), (.str (S 1889525866425437285728) 623), (.str (S 9700865007064396754801562313776) 624), (.int (217) 0), (.int (4) 0), (.int (0) 0), (.int (0) 0), (.int (3) 0), (.ref 337), (.bool true), (.int (181) 0), (.ref 338), .none, (.ref 339), (.ref 340), (.ref 341), (.int (631) 0), (.int (217) 0), (.str (S 9700865007064396754801562313776) 632)]
noncomputable def o343 (_ : Params) : Obj := ⟨(.type "function"), none, .func (PySem.W.fnOf (Str.ofString "_law_come") (Str.ofString "_law_come") (defArgs (top 14)) (defBody (top 14)) (defScope (top 14)) .none .none .none (.str (S 11152278308674107151587372952260849038370642534826795629) 603) none (.ref 342) .none), #[]⟩
noncomputable def o346 (_ : Params) : Obj := tO [(.str (S 140789800901245673238850912) 637), (.str (S 483810136383000565411168) 638), (.str (S 479015137792575781629280) 639), (.str (S 2166370315886412328288) 640), (.str (S 549795074702062171352416) 641), (.str (S 139510021644005314150952288) 642), (.str (S 479015137796973828140384) 643)]
noncomputable def o349 (_ : Params) : Obj := cO [(.str (S 1999481813178129739104) 634), (.str (S 1999481813178129739104) 635), (.str (S 9700865007064396754801562313776) 636), (.int (226) 0), (.int (5) 0), (.int (0) 0), (.int (0) 0), (.int (3) 0), (.ref 344), (.bool true), (.int (181) 0), (.ref 345), .none, (.ref 346), (.ref 347), (.ref 348), (.int (644) 0), (.int (226) 0), (.str (S 9700865007064396754801562313776) 645)]
noncomputable def o350 (_ : Params) : Obj := ⟨(.type "function"), none, .func (PySem.W.fnOf (Str.ofString "_law_back") (Str.ofString "_law_back") (defArgs (top 15)) (defBody (top 15)) (defScope (top 15)) .none .none .none (.str (S 11152278308674107151587372952260849038370642534826795629) 603) none (.ref 349) .none), #[]⟩
noncomputable def o353 (_ : Params) : Obj := tO [(.str (S 140789800901245673238850912) 650), (.str (S 483810136383000565411168) 651), (.str (S 479015137792575781629280) 652), (.str (S 140719261054343939876875616) 653), (.str (S 483717617228313935375712) 654), (.str (S 2077948713125189379357033996905824) 655), (.str (S 139510021644005314150952288) 656), (.str (S 554405825948688972934496) 657), (.str (S 8750603341968600416) 658)]
noncomputable def o356 (_ : Params) : Obj := cO [(.str (S 34476701206588154122852265312) 647), (.str (S 34476701206588154122852265312) 648), (.str (S 9700865007064396754801562313776) 649), (.int (233) 0), (.int (6) 0), (.int (0) 0), (.int (0) 0), (.int (3) 0), (.ref 351), (.bool true), (.int (181) 0), (.ref 352), .none, (.ref 353), (.ref 354), (.ref 355), (.int (659) 0), (.int (233) 0), (.str (S 9700865007064396754801562313776) 660)]
noncomputable def o357 (_ : Params) : Obj := ⟨(.type "function"), none, .func (PySem.W.fnOf (Str.ofString "_law_written") (Str.ofString "_law_written") (defArgs (top 16)) (defBody (top 16)) (defScope (top 16)) .none .none .none (.str (S 11152278308674107151587372952260849038370642534826795629) 603) none (.ref 356) .none), #[]⟩
noncomputable def o360 (_ : Params) : Obj := tO [(.str (S 483810136383000565411168) 665), (.str (S 479015137792575781629280) 666), (.str (S 140719261054343939876875616) 667), (.str (S 140719112692525298201292128) 668), (.str (S 119161592376672) 669), (.str (S 139510021644005314150952288) 670), (.str (S 549960882328765257117024) 671)]
noncomputable def o363 (_ : Params) : Obj := cO [(.str (S 7383200104131489120) 662), (.str (S 7383200104131489120) 663), (.str (S 9700865007064396754801562313776) 664), (.int (241) 0), (.int (3) 0), (.int (0) 0), (.int (0) 0), (.int (3) 0), (.ref 358), (.bool true), (.int (181) 0), (.ref 359), .none, (.ref 360), (.ref 361), (.ref 362), (.int (672) 0), (.int (241) 0), (.str (S 9700865007064396754801562313776) 673)]
noncomputable def o364 (_ : Params) : Obj := ⟨(.type "function"), none, .func (PySem.W.fnOf (Str.ofString "_law_due") (Str.ofString "_law_due") (defArgs (top 17)) (defBody (top 17)) (defScope (top 17)) .none .none .none (.str (S 11152278308674107151587372952260849038370642534826795629) 603) none (.ref 363) .none), #[]⟩
noncomputable def o368 (_ : Params) : Obj := cO [(.str (S 1890103190294368513376) 675), (.str (S 1890103190294368513376) 676), (.str (S 9700865007064396754801562313776) 677), (.int (257) 0), (.int (4) 0), (.int (0) 0), (.int (0) 0), (.int (3) 0), (.ref 365), (.bool true), (.int (181) 0), (.ref 366), .none, .none, .none, (.ref 367), (.int (678) 0), (.int (257) 0), (.str (S 9700865007064396754801562313776) 679)]
noncomputable def o369 (_ : Params) : Obj := ⟨(.type "function"), none, .func (PySem.W.fnOf (Str.ofString "_law_true") (Str.ofString "_law_true") (defArgs (top 18)) (defBody (top 18)) (defScope (top 18)) .none .none .none (.str (S 11152278308674107151587372952260849038370642534826795629) 603) none (.ref 368) .none), #[]⟩
noncomputable def o373 (_ : Params) : Obj := cO [(.str (S 1870499847949168831840) 681), (.str (S 1870499847949168831840) 682), (.str (S 9700865007064396754801562313776) 683), (.int (268) 0), (.int (7) 0), (.int (0) 0), (.int (0) 0), (.int (3) 0), (.ref 370), (.bool true), (.int (181) 0), (.ref 371), .none, .none, .none, (.ref 372), (.int (684) 0), (.int (268) 0), (.str (S 9700865007064396754801562313776) 685)]
noncomputable def o374 (_ : Params) : Obj := ⟨(.type "function"), none, .func (PySem.W.fnOf (Str.ofString "_law_deed") (Str.ofString "_law_deed") (defArgs (top 19)) (defBody (top 19)) (defScope (top 19)) .none .none .none (.str (S 11152278308674107151587372952260849038370642534826795629) 603) none (.ref 373) .none), #[]⟩
noncomputable def o378 (_ : Params) : Obj := cO [(.str (S 7889517) 687), (.str (S 7889517) 688), (.str (S 9700865007064396754801562313776) 689), (.int (284) 0), (.int (1) 0), (.int (0) 0), (.int (0) 0), (.int (3) 0), (.ref 375), (.bool true), (.int (181) 0), (.ref 376), .none, .none, .none, (.ref 377), (.int (690) 0), (.int (284) 0), (.str (S 9700865007064396754801562313776) 691)]
noncomputable def o379 (_ : Params) : Obj := ⟨(.type "function"), none, .func (PySem.W.fnOf (Str.ofString "law") (Str.ofString "law") (defArgs (top 20)) (defBody (top 20)) (defScope (top 20)) .none .none .none (.str (S 11152278308674107151587372952260849038370642534826795629) 603) none (.ref 378) .none), #[]⟩
noncomputable def Kf : Params → PySem.W.Frag := fun P => (nat_lit 2, o2 P) :: (nat_lit 3, o3 P) :: (nat_lit 15, o15 P) :: (nat_lit 17, o17 P) :: (nat_lit 18, o15 P) :: (nat_lit 20, o20 P) :: (nat_lit 21, o21 P) :: (nat_lit 22, o22 P) :: (nat_lit 29, o29 P) :: (nat_lit 30, o30 P) :: (nat_lit 31, o31 P) :: (nat_lit 32, o32 P) :: (nat_lit 35, o35 P) :: (nat_lit 42, o29 P) :: (nat_lit 43, o43 P) :: (nat_lit 44, o44 P) :: (nat_lit 47, o15 P) :: (nat_lit 49, o49 P) :: (nat_lit 50, o15 P) :: (nat_lit 52, o52 P) :: (nat_lit 53, o53 P) :: (nat_lit 61, o15 P) :: (nat_lit 63, o63 P) :: (nat_lit 64, o15 P) :: (nat_lit 66, o66 P) :: (nat_lit 67, o67 P) :: (nat_lit 68, o15 P) :: (nat_lit 70, o70 P) :: (nat_lit 71, o15 P) :: (nat_lit 73, o73 P) :: (nat_lit 74, o74 P) :: (nat_lit 75, o15 P) :: (nat_lit 77, o77 P) :: (nat_lit 78, o15 P) :: (nat_lit 80, o80 P) :: (nat_lit 81, o81 P) :: (nat_lit 82, o82 P) :: (nat_lit 83, o83 P) :: (nat_lit 84, o84 P) :: (nat_lit 85, o85 P) :: (nat_lit 86, o86 P) :: (nat_lit 96, o15 P) :: (nat_lit 98, o98 P) :: (nat_lit 99, o15 P) :: (nat_lit 101, o101 P) :: (nat_lit 102, o102 P) :: (nat_lit 103, o15 P) :: (nat_lit 105, o105 P) :: (nat_lit 106, o15 P) :: (nat_lit 108, o108 P) :: (nat_lit 109, o109 P) :: (nat_lit 110, o15 P) :: (nat_lit 112, o112 P) :: (nat_lit 113, o15 P) :: (nat_lit 115, o115 P) :: (nat_lit 116, o116 P) :: (nat_lit 117, o15 P) :: (nat_lit 120, o120 P) :: (nat_lit 121, o121 P) :: (nat_lit 122, o122 P) :: (nat_lit 123, o123 P) :: (nat_lit 124, o124 P) :: (nat_lit 125, o125 P) :: (nat_lit 126, o126 P) :: (nat_lit 136, o15 P) :: (nat_lit 138, o138 P) :: (nat_lit 139, o15 P) :: (nat_lit 141, o141 P) :: (nat_lit 142, o142 P) :: (nat_lit 143, o15 P) :: (nat_lit 145, o145 P) :: (nat_lit 146, o15 P) :: (nat_lit 148, o148 P) :: (nat_lit 149, o149 P) :: (nat_lit 150, o15 P) :: (nat_lit 152, o152 P) :: (nat_lit 153, o15 P) :: (nat_lit 155, o155 P) :: (nat_lit 156, o156 P) :: (nat_lit 157, o15 P) :: (nat_lit 159, o159 P) :: (nat_lit 160, o15 P) :: (nat_lit 162, o162 P) :: (nat_lit 163, o163 P) :: (nat_lit 164, o15 P) :: (nat_lit 166, o166 P) :: (nat_lit 167, o15 P) :: (nat_lit 169, o169 P) :: (nat_lit 170, o170 P) :: (nat_lit 171, o15 P) :: (nat_lit 173, o173 P) :: (nat_lit 174, o15 P) :: (nat_lit 176, o176 P) :: (nat_lit 177, o177 P) :: (nat_lit 178, o15 P) :: (nat_lit 180, o180 P) :: (nat_lit 181, o15 P) :: (nat_lit 183, o183 P) :: (nat_lit 184, o184 P) :: (nat_lit 185, o15 P) :: (nat_lit 187, o187 P) :: (nat_lit 188, o15 P) :: (nat_lit 190, o190 P) :: (nat_lit 191, o191 P) :: (nat_lit 192, o15 P) :: (nat_lit 194, o194 P) :: (nat_lit 195, o15 P) :: (nat_lit 197, o197 P) :: (nat_lit 198, o198 P) :: (nat_lit 199, o15 P) :: (nat_lit 201, o201 P) :: (nat_lit 202, o15 P) :: (nat_lit 204, o204 P) :: (nat_lit 205, o205 P) :: (nat_lit 206, o15 P) :: (nat_lit 208, o208 P) :: (nat_lit 209, o15 P) :: (nat_lit 211, o211 P) :: (nat_lit 212, o212 P) :: (nat_lit 213, o15 P) :: (nat_lit 215, o215 P) :: (nat_lit 216, o15 P) :: (nat_lit 218, o218 P) :: (nat_lit 219, o219 P) :: (nat_lit 220, o15 P) :: (nat_lit 222, o222 P) :: (nat_lit 223, o15 P) :: (nat_lit 225, o225 P) :: (nat_lit 226, o226 P) :: (nat_lit 227, o15 P) :: (nat_lit 229, o229 P) :: (nat_lit 230, o15 P) :: (nat_lit 232, o232 P) :: (nat_lit 233, o233 P) :: (nat_lit 234, o15 P) :: (nat_lit 236, o236 P) :: (nat_lit 237, o15 P) :: (nat_lit 239, o239 P) :: (nat_lit 240, o240 P) :: (nat_lit 241, o15 P) :: (nat_lit 244, o244 P) :: (nat_lit 245, o245 P) :: (nat_lit 246, o15 P) :: (nat_lit 248, o248 P) :: (nat_lit 249, o15 P) :: (nat_lit 251, o251 P) :: (nat_lit 252, o252 P) :: (nat_lit 253, o15 P) :: (nat_lit 255, o255 P) :: (nat_lit 256, o15 P) :: (nat_lit 258, o258 P) :: (nat_lit 259, o259 P) :: (nat_lit 260, o15 P) :: (nat_lit 262, o262 P) :: (nat_lit 263, o15 P) :: (nat_lit 265, o265 P) :: (nat_lit 266, o266 P) :: (nat_lit 267, o15 P) :: (nat_lit 269, o269 P) :: (nat_lit 270, o15 P) :: (nat_lit 272, o272 P) :: (nat_lit 273, o273 P) :: (nat_lit 274, o15 P) :: (nat_lit 276, o276 P) :: (nat_lit 277, o15 P) :: (nat_lit 279, o279 P) :: (nat_lit 280, o280 P) :: (nat_lit 281, o15 P) :: (nat_lit 283, o283 P) :: (nat_lit 284, o15 P) :: (nat_lit 286, o286 P) :: (nat_lit 287, o287 P) :: (nat_lit 288, o15 P) :: (nat_lit 290, o290 P) :: (nat_lit 291, o15 P) :: (nat_lit 293, o293 P) :: (nat_lit 294, o294 P) :: (nat_lit 295, o15 P) :: (nat_lit 297, o297 P) :: (nat_lit 298, o15 P) :: (nat_lit 300, o300 P) :: (nat_lit 301, o301 P) :: (nat_lit 302, o15 P) :: (nat_lit 304, o304 P) :: (nat_lit 305, o15 P) :: (nat_lit 307, o307 P) :: (nat_lit 308, o308 P) :: (nat_lit 309, o15 P) :: (nat_lit 311, o311 P) :: (nat_lit 312, o15 P) :: (nat_lit 314, o314 P) :: (nat_lit 315, o315 P) :: (nat_lit 316, o316 P) :: (nat_lit 317, o317 P) :: (nat_lit 318, o318 P) :: (nat_lit 319, o319 P) :: (nat_lit 320, o320 P) :: (nat_lit 323, o15 P) :: (nat_lit 325, o325 P) :: (nat_lit 326, o15 P) :: (nat_lit 328, o328 P) :: (nat_lit 329, o329 P) :: (nat_lit 330, o15 P) :: (nat_lit 332, o332 P) :: (nat_lit 333, o15 P) :: (nat_lit 335, o335 P) :: (nat_lit 336, o336 P) :: (nat_lit 337, o15 P) :: (nat_lit 339, o339 P) :: (nat_lit 340, o15 P) :: (nat_lit 342, o342 P) :: (nat_lit 343, o343 P) :: (nat_lit 344, o15 P) :: (nat_lit 346, o346 P) :: (nat_lit 347, o15 P) :: (nat_lit 349, o349 P) :: (nat_lit 350, o350 P) :: (nat_lit 351, o15 P) :: (nat_lit 353, o353 P) :: (nat_lit 354, o15 P) :: (nat_lit 356, o356 P) :: (nat_lit 357, o357 P) :: (nat_lit 358, o15 P) :: (nat_lit 360, o360 P) :: (nat_lit 361, o15 P) :: (nat_lit 363, o363 P) :: (nat_lit 364, o364 P) :: (nat_lit 365, o15 P) :: (nat_lit 368, o368 P) :: (nat_lit 369, o369 P) :: (nat_lit 370, o15 P) :: (nat_lit 373, o373 P) :: (nat_lit 374, o374 P) :: (nat_lit 375, o15 P) :: (nat_lit 378, o378 P) :: (nat_lit 379, o379 P) :: []
noncomputable def Kc0 (P : Params) : List (Option Obj) := [some (o2 P), some (o3 P), some (o15 P), some (o17 P), some (o15 P), some (o20 P), some (o21 P), some (o22 P), some (o29 P), some (o30 P), some (o31 P), some (o32 P), some (o35 P), some (o29 P)]
noncomputable def Kc1 (P : Params) : List (Option Obj) := [some (o43 P), some (o44 P), some (o15 P), some (o49 P), some (o15 P), some (o52 P), some (o53 P), some (o15 P), some (o63 P), some (o15 P), some (o66 P), some (o67 P), some (o15 P), some (o70 P)]
noncomputable def Kc2 (P : Params) : List (Option Obj) := [some (o15 P), some (o73 P), some (o74 P), some (o15 P), some (o77 P), some (o15 P), some (o80 P), some (o81 P), some (o82 P), some (o83 P), some (o84 P), some (o85 P), some (o86 P), some (o15 P)]
noncomputable def Kc3 (P : Params) : List (Option Obj) := [some (o98 P), some (o15 P), some (o101 P), some (o102 P), some (o15 P), some (o105 P), some (o15 P), some (o108 P), some (o109 P), some (o15 P), some (o112 P), some (o15 P), some (o115 P), some (o116 P)]
noncomputable def Kc4 (P : Params) : List (Option Obj) := [some (o15 P), some (o120 P), some (o121 P), some (o122 P), some (o123 P), some (o124 P), some (o125 P), some (o126 P), some (o15 P), some (o138 P), some (o15 P), some (o141 P), some (o142 P), some (o15 P)]
noncomputable def Kc5 (P : Params) : List (Option Obj) := [some (o145 P), some (o15 P), some (o148 P), some (o149 P), some (o15 P), some (o152 P), some (o15 P), some (o155 P), some (o156 P), some (o15 P), some (o159 P), some (o15 P), some (o162 P), some (o163 P)]
noncomputable def Kc6 (P : Params) : List (Option Obj) := [some (o15 P), some (o166 P), some (o15 P), some (o169 P), some (o170 P), some (o15 P), some (o173 P), some (o15 P), some (o176 P), some (o177 P), some (o15 P), some (o180 P), some (o15 P), some (o183 P)]
noncomputable def Kc7 (P : Params) : List (Option Obj) := [some (o184 P), some (o15 P), some (o187 P), some (o15 P), some (o190 P), some (o191 P), some (o15 P), some (o194 P), some (o15 P), some (o197 P), some (o198 P), some (o15 P), some (o201 P), some (o15 P)]
noncomputable def Kc8 (P : Params) : List (Option Obj) := [some (o204 P), some (o205 P), some (o15 P), some (o208 P), some (o15 P), some (o211 P), some (o212 P), some (o15 P), some (o215 P), some (o15 P), some (o218 P), some (o219 P), some (o15 P), some (o222 P)]
noncomputable def Kc9 (P : Params) : List (Option Obj) := [some (o15 P), some (o225 P), some (o226 P), some (o15 P), some (o229 P), some (o15 P), some (o232 P), some (o233 P), some (o15 P), some (o236 P), some (o15 P), some (o239 P), some (o240 P), some (o15 P)]
noncomputable def Kc10 (P : Params) : List (Option Obj) := [some (o244 P), some (o245 P), some (o15 P), some (o248 P), some (o15 P), some (o251 P), some (o252 P), some (o15 P), some (o255 P), some (o15 P), some (o258 P), some (o259 P), some (o15 P), some (o262 P)]
noncomputable def Kc11 (P : Params) : List (Option Obj) := [some (o15 P), some (o265 P), some (o266 P), some (o15 P), some (o269 P), some (o15 P), some (o272 P), some (o273 P), some (o15 P), some (o276 P), some (o15 P), some (o279 P), some (o280 P), some (o15 P)]
noncomputable def Kc12 (P : Params) : List (Option Obj) := [some (o283 P), some (o15 P), some (o286 P), some (o287 P), some (o15 P), some (o290 P), some (o15 P), some (o293 P), some (o294 P), some (o15 P), some (o297 P), some (o15 P), some (o300 P), some (o301 P)]
noncomputable def Kc13 (P : Params) : List (Option Obj) := [some (o15 P), some (o304 P), some (o15 P), some (o307 P), some (o308 P), some (o15 P), some (o311 P), some (o15 P), some (o314 P), some (o315 P), some (o316 P), some (o317 P), some (o318 P), some (o319 P)]
noncomputable def Kc14 (P : Params) : List (Option Obj) := [some (o320 P), some (o15 P), some (o325 P), some (o15 P), some (o328 P), some (o329 P), some (o15 P), some (o332 P), some (o15 P), some (o335 P), some (o336 P), some (o15 P), some (o339 P), some (o15 P)]
noncomputable def Kc15 (P : Params) : List (Option Obj) := [some (o342 P), some (o343 P), some (o15 P), some (o346 P), some (o15 P), some (o349 P), some (o350 P), some (o15 P), some (o353 P), some (o15 P), some (o356 P), some (o357 P), some (o15 P), some (o360 P)]
noncomputable def Kc16 (P : Params) : List (Option Obj) := [some (o15 P), some (o363 P), some (o364 P), some (o15 P), some (o368 P), some (o369 P), some (o15 P), some (o373 P), some (o374 P), some (o15 P), some (o378 P), some (o379 P)]
noncomputable def Kc (P : Params) : List (Option Obj) := Kc0 P ++ (Kc1 P ++ (Kc2 P ++ (Kc3 P ++ (Kc4 P ++ (Kc5 P ++ (Kc6 P ++ (Kc7 P ++ (Kc8 P ++ (Kc9 P ++ (Kc10 P ++ (Kc11 P ++ (Kc12 P ++ (Kc13 P ++ (Kc14 P ++ (Kc15 P ++ (Kc16 P))))))))))))))))
def adr : List Addr := nat_lit 2 :: nat_lit 3 :: nat_lit 15 :: nat_lit 17 :: nat_lit 18 :: nat_lit 20 :: nat_lit 21 :: nat_lit 22 :: nat_lit 29 :: nat_lit 30 :: nat_lit 31 :: nat_lit 32 :: nat_lit 35 :: nat_lit 42 :: nat_lit 43 :: nat_lit 44 :: nat_lit 47 :: nat_lit 49 :: nat_lit 50 :: nat_lit 52 :: nat_lit 53 :: nat_lit 61 :: nat_lit 63 :: nat_lit 64 :: nat_lit 66 :: nat_lit 67 :: nat_lit 68 :: nat_lit 70 :: nat_lit 71 :: nat_lit 73 :: nat_lit 74 :: nat_lit 75 :: nat_lit 77 :: nat_lit 78 :: nat_lit 80 :: nat_lit 81 :: nat_lit 82 :: nat_lit 83 :: nat_lit 84 :: nat_lit 85 :: nat_lit 86 :: nat_lit 96 :: nat_lit 98 :: nat_lit 99 :: nat_lit 101 :: nat_lit 102 :: nat_lit 103 :: nat_lit 105 :: nat_lit 106 :: nat_lit 108 :: nat_lit 109 :: nat_lit 110 :: nat_lit 112 :: nat_lit 113 :: nat_lit 115 :: nat_lit 116 :: nat_lit 117 :: nat_lit 120 :: nat_lit 121 :: nat_lit 122 :: nat_lit 123 :: nat_lit 124 :: nat_lit 125 :: nat_lit 126 :: nat_lit 136 :: nat_lit 138 :: nat_lit 139 :: nat_lit 141 :: nat_lit 142 :: nat_lit 143 :: nat_lit 145 :: nat_lit 146 :: nat_lit 148 :: nat_lit 149 :: nat_lit 150 :: nat_lit 152 :: nat_lit 153 :: nat_lit 155 :: nat_lit 156 :: nat_lit 157 :: nat_lit 159 :: nat_lit 160 :: nat_lit 162 :: nat_lit 163 :: nat_lit 164 :: nat_lit 166 :: nat_lit 167 :: nat_lit 169 :: nat_lit 170 :: nat_lit 171 :: nat_lit 173 :: nat_lit 174 :: nat_lit 176 :: nat_lit 177 :: nat_lit 178 :: nat_lit 180 :: nat_lit 181 :: nat_lit 183 :: nat_lit 184 :: nat_lit 185 :: nat_lit 187 :: nat_lit 188 :: nat_lit 190 :: nat_lit 191 :: nat_lit 192 :: nat_lit 194 :: nat_lit 195 :: nat_lit 197 :: nat_lit 198 :: nat_lit 199 :: nat_lit 201 :: nat_lit 202 :: nat_lit 204 :: nat_lit 205 :: nat_lit 206 :: nat_lit 208 :: nat_lit 209 :: nat_lit 211 :: nat_lit 212 :: nat_lit 213 :: nat_lit 215 :: nat_lit 216 :: nat_lit 218 :: nat_lit 219 :: nat_lit 220 :: nat_lit 222 :: nat_lit 223 :: nat_lit 225 :: nat_lit 226 :: nat_lit 227 :: nat_lit 229 :: nat_lit 230 :: nat_lit 232 :: nat_lit 233 :: nat_lit 234 :: nat_lit 236 :: nat_lit 237 :: nat_lit 239 :: nat_lit 240 :: nat_lit 241 :: nat_lit 244 :: nat_lit 245 :: nat_lit 246 :: nat_lit 248 :: nat_lit 249 :: nat_lit 251 :: nat_lit 252 :: nat_lit 253 :: nat_lit 255 :: nat_lit 256 :: nat_lit 258 :: nat_lit 259 :: nat_lit 260 :: nat_lit 262 :: nat_lit 263 :: nat_lit 265 :: nat_lit 266 :: nat_lit 267 :: nat_lit 269 :: nat_lit 270 :: nat_lit 272 :: nat_lit 273 :: nat_lit 274 :: nat_lit 276 :: nat_lit 277 :: nat_lit 279 :: nat_lit 280 :: nat_lit 281 :: nat_lit 283 :: nat_lit 284 :: nat_lit 286 :: nat_lit 287 :: nat_lit 288 :: nat_lit 290 :: nat_lit 291 :: nat_lit 293 :: nat_lit 294 :: nat_lit 295 :: nat_lit 297 :: nat_lit 298 :: nat_lit 300 :: nat_lit 301 :: nat_lit 302 :: nat_lit 304 :: nat_lit 305 :: nat_lit 307 :: nat_lit 308 :: nat_lit 309 :: nat_lit 311 :: nat_lit 312 :: nat_lit 314 :: nat_lit 315 :: nat_lit 316 :: nat_lit 317 :: nat_lit 318 :: nat_lit 319 :: nat_lit 320 :: nat_lit 323 :: nat_lit 325 :: nat_lit 326 :: nat_lit 328 :: nat_lit 329 :: nat_lit 330 :: nat_lit 332 :: nat_lit 333 :: nat_lit 335 :: nat_lit 336 :: nat_lit 337 :: nat_lit 339 :: nat_lit 340 :: nat_lit 342 :: nat_lit 343 :: nat_lit 344 :: nat_lit 346 :: nat_lit 347 :: nat_lit 349 :: nat_lit 350 :: nat_lit 351 :: nat_lit 353 :: nat_lit 354 :: nat_lit 356 :: nat_lit 357 :: nat_lit 358 :: nat_lit 360 :: nat_lit 361 :: nat_lit 363 :: nat_lit 364 :: nat_lit 365 :: nat_lit 368 :: nat_lit 369 :: nat_lit 370 :: nat_lit 373 :: nat_lit 374 :: nat_lit 375 :: nat_lit 378 :: nat_lit 379 :: []
theorem adr_eq (P : Params) : adr = (Kf P).map (·.1) := by kernel_rfl
theorem kc_eq (P : Params) : Kc P = (Kf P).map fun p => some p.2 := by kernel_rfl
noncomputable def vw : Program := PySem.W.view PySem.Challenge.pw_frameland_k65_twins [0, 2, 3, 5, 7, 8, 10, 12, 13, 14, 15, 16, 17, 18, 19, 20]
noncomputable def lhs := once PySem.Challenge.pw_frameland_k65_twins (fun s => adr.map s.heap.get?) 5000
noncomputable def rhs (w : World) := some (true, Kc w.params)
noncomputable def lht := seen PySem.Challenge.pw_frameland_k65_twins vw [] (fun s => PySem.W.xlAt vw [] s && PySem.W.recOk (PySem.W.RowW.records (PySem.Challenge.rw_frameland_k65_twins).row.toRowW) s) 5000
noncomputable def rht := some (PySem.W.openGood vw [])
theorem twins : (fun (_ : World → OsState → _) (_ : World → _) (_ : World → OsState → _) (_ : Option _) => true) lhs rhs lht rht = true := by k_qdec
theorem run_one : ∀ (w : World) (os : OsState), PySem.W.Fast.tw7128866508377749982 w os = PySem.W.Fast.tw12590348191598281069 w := by intro w os; kernel_rfl
theorem run_two : ∀ (w : World) (os : OsState), PySem.W.Fast.tw7374437481920917934 w os = PySem.W.Fast.tw10733892774512676622 := by intro w os; kernel_rfl
theorem left : PySem.W.LeftO PySem.Challenge.pw_frameland_k65_twins vw [] (fun s => PySem.W.xlAt vw [] s && PySem.W.recOk (PySem.W.RowW.records (PySem.Challenge.rw_frameland_k65_twins).row.toRowW) s) (fun s => adr.map s.heap.get?) (fun w => (Kf w.params).map fun p => some p.2) (5000) := by
  refine left_once (by kernel_rfl) (by kernel_rfl) (by intro s; kernel_rfl) (fun w os => ?_) fun w os => ?_
  · rw [← kc_eq]; exact (congrFun (congrFun PySem.W.Fast.te7128866508377749982 w) os).trans ((run_one w os).trans (congrFun PySem.W.Fast.te12590348191598281069 w).symm)
  · exact (congrFun (congrFun PySem.W.Fast.te7374437481920917934 w) os).trans ((run_two w os).trans PySem.W.Fast.te10733892774512676622.symm)
end

end Pf
open PySem PySem.W PyProof.Rows
set_option maxRecDepth 100000 in
set_option maxHeartbeats 0 in
theorem PySem.Challenge.cw_frameland_k65_twins_holds : PySem.Challenge.rw_frameland_k65_twins.Holds := by
  w_on; o_law
  refine holds_open (q := Pf.vw) (loose := []) (Xt := fun s => xlAt Pf.vw [] s && recOk (RowW.records (PySem.Challenge.rw_frameland_k65_twins).row.toRowW) s) (XP := XL Pf.vw []) (Yf := Hook.obs (kHook Pf.Kf Pf.adr Pf.adr_eq)) (Ya := Hook.val (kHook Pf.Kf Pf.adr Pf.adr_eq)) (YP := Hook.says (kHook Pf.Kf Pf.adr Pf.adr_eq)) (N := (5000)) Pf.left (Hook.of (kHook Pf.Kf Pf.adr Pf.adr_eq)) (Hook.keeps (kHook Pf.Kf Pf.adr Pf.adr_eq)) (fun s e => xl_of s (Bool.and_eq_true_iff.mp e).1) XL.keeps (by rfl) (by rfl) (by rfl) (fun s e => recFacts_of (Bool.and_eq_true_iff.mp e).2) (by rfl) (by first | assumption | decide +kernel) (by decide +kernel) ⟨rfl, rfl, rfl, rfl, rfl, by decide +kernel⟩ ?hw ?hc
  case hw => w_witness2
  k_fill
  refine Pf.walk (l := PySem.Challenge.rw_frameland_k65_twins) rfl rfl rfl (fun w h Y => PySem.W.kIn_of Y) ?F
  case F =>
    intro w mg h KX G
    refine' Pf.txt_mk KX G ?g0 ?g1 ?g2 ?g3 ?g4 ?g5 ?g6 ?g7 ?g8 ?g9 ?g10 ?g11 ?g12 ?g13 ?g14 ?g15 ?g16 ?g17 ?g18 ?g19 ?g20 ?g21 ?g22 ?g23 ?g24 ?g25 ?g26 ?g27 ?g28 ?g29 ?g30 ?g31 ?g32 ?g33 ?g34 ?g35 ?g36 ?g37 ?g38 ?g39 ?g40 ?g41 ?g42 ?g43 ?g44 ?g45 ?g46 ?g47 ?g48 ?g49 ?g50 ?g51 ?g52 ?g53 ?g54 ?g55 ?g56 ?g57 ?g58 ?g59 ?g60 ?g61 ?g62 ?g63 ?g64 ?g65 ?g66 ?g67 ?g68 ?g69 ?g70 ?g71 ?g72 ?g73 ?g74 ?g75 ?g76 ?g77 ?g78 ?g79 ?g80 ?g81 ?g82 ?g83 ?g84 ?g85 ?g86 ?g87 ?g88 ?g89 ?g90 ?g91 ?g92 ?g93 ?g94 ?g95 ?g96 ?g97 ?g98 ?g99 ?g100 ?g101 ?g102 ?g103 ?g104 ?g105 ?g106 ?g107 ?g108 ?g109 ?g110 ?g111 ?g112 ?g113 ?g114 ?g115 ?g116 ?g117 ?g118 ?g119 ?g120 ?g121 ?g122 ?g123 ?g124 ?g125 ?g126 ?g127 ?g128 ?g129 ?g130 ?g131 ?g132 ?g133 ?g134 ?g135 ?g136 ?g137 ?g138 ?g139 ?g140 ?g141 ?g142 ?g143 ?g144 ?g145 ?g146 ?g147 ?g148 ?g149 ?g150 ?g151 ?g152 ?g153 ?g154 ?g155 ?g156 ?g157 ?g158 ?g159 ?g160 ?g161 ?g162 ?g163 ?g164 ?g165 ?g166 ?g167 ?g168 ?g169 ?g170 ?g171 ?g172 ?g173 ?g174 ?g175 ?g176 ?g177 ?g178 ?g179 ?g180 ?g181 ?g182 ?g183 ?g184 ?g185 ?g186 ?g187 ?g188 ?g189 ?g190 ?g191 ?g192 ?g193 ?g194 ?g195 ?g196 ?g197 ?g198 ?g199 ?g200 ?g201 ?g202 ?g203 ?g204 ?g205
    (case g0 => k_is); (case g1 => k_is); (case g2 => k_is); (case g3 => k_is); (case g4 => k_is); (case g5 => k_is)
    (case g6 => k_is); (case g7 => k_is); (case g8 => k_is); (case g9 => k_is); (case g10 => k_is); (case g11 => k_is)
    (case g12 => k_is); (case g13 => k_is); (case g14 => k_is); (case g15 => k_is); (case g16 => k_is); (case g17 => k_is)
    (case g18 => k_is); (case g19 => k_is); (case g20 => k_is); (case g21 => k_is); (case g22 => k_is); (case g23 => k_is)
    (case g24 => k_is); (case g25 => k_is); (case g26 => k_is); (case g27 => k_is); (case g28 => k_is); (case g29 => k_is)
    (case g30 => k_is); (case g31 => k_is); (case g32 => k_is); (case g33 => k_is); (case g34 => k_is); (case g35 => k_is)
    (case g36 => k_is); (case g37 => k_is); (case g38 => k_is); (case g39 => k_is); (case g40 => k_is); (case g41 => k_is)
    (case g42 => k_is); (case g43 => k_is); (case g44 => k_is); (case g45 => k_is); (case g46 => k_is); (case g47 => k_is)
    (case g48 => k_is); (case g49 => k_is); (case g50 => k_is); (case g51 => k_is); (case g52 => k_is); (case g53 => k_is)
    (case g54 => k_is); (case g55 => k_is); (case g56 => k_is); (case g57 => k_is); (case g58 => k_is); (case g59 => k_is)
    (case g60 => k_is); (case g61 => k_is); (case g62 => k_is); (case g63 => k_is); (case g64 => k_is); (case g65 => k_is)
    (case g66 => k_is); (case g67 => k_is); (case g68 => k_is); (case g69 => k_is); (case g70 => k_is); (case g71 => k_is)
    (case g72 => k_is); (case g73 => k_is); (case g74 => k_is); (case g75 => k_is); (case g76 => k_is); (case g77 => k_is)
    (case g78 => k_is); (case g79 => k_is); (case g80 => k_is); (case g81 => k_is); (case g82 => k_is); (case g83 => k_is)
    (case g84 => k_is); (case g85 => k_is); (case g86 => k_is); (case g87 => k_is); (case g88 => k_is); (case g89 => k_is)
    (case g90 => k_is); (case g91 => k_is); (case g92 => k_is); (case g93 => k_is); (case g94 => k_is); (case g95 => k_is)
    (case g96 => k_is); (case g97 => k_is); (case g98 => k_is); (case g99 => k_is); (case g100 => k_is); (case g101 => k_is)
    (case g102 => k_is); (case g103 => k_is); (case g104 => k_is); (case g105 => k_is); (case g106 => k_is); (case g107 => k_is)
    (case g108 => k_is); (case g109 => k_is); (case g110 => k_is); (case g111 => k_is); (case g112 => k_is); (case g113 => k_is)
    (case g114 => k_is); (case g115 => k_is); (case g116 => k_is); (case g117 => k_is); (case g118 => k_is); (case g119 => k_is)
    (case g120 => k_is); (case g121 => k_is); (case g122 => k_is); (case g123 => k_is); (case g124 => k_is); (case g125 => k_is)
    (case g126 => k_is); (case g127 => k_is); (case g128 => k_is); (case g129 => k_is); (case g130 => k_is); (case g131 => k_is)
    (case g132 => k_is); (case g133 => k_is); (case g134 => k_is); (case g135 => k_is); (case g136 => k_is); (case g137 => k_is)
    (case g138 => k_is); (case g139 => k_is); (case g140 => k_is); (case g141 => k_is); (case g142 => k_is); (case g143 => k_is)
    (case g144 => k_is); (case g145 => k_is); (case g146 => k_is); (case g147 => k_is); (case g148 => k_is); (case g149 => k_is)
    (case g150 => k_is); (case g151 => k_is); (case g152 => k_is); (case g153 => k_is); (case g154 => k_is); (case g155 => k_is)
    (case g156 => k_is); (case g157 => k_is); (case g158 => k_is); (case g159 => k_is); (case g160 => k_is); (case g161 => k_is)
    (case g162 => k_is); (case g163 => k_is); (case g164 => k_is); (case g165 => k_is); (case g166 => k_is); (case g167 => k_is)
    (case g168 => k_is); (case g169 => k_is); (case g170 => k_is); (case g171 => k_is); (case g172 => k_is); (case g173 => k_is)
    (case g174 => k_is); (case g175 => k_is); (case g176 => k_is); (case g177 => k_is); (case g178 => k_is); (case g179 => k_is)
    (case g180 => k_is); (case g181 => k_is); (case g182 => k_is); (case g183 => k_is); (case g184 => k_is); (case g185 => k_is)
    (case g186 => k_is); (case g187 => k_is); (case g188 => k_is); (case g189 => k_is); (case g190 => k_is); (case g191 => k_is)
    (case g192 => k_is); (case g193 => k_is); (case g194 => k_is); (case g195 => k_is); (case g196 => k_is); (case g197 => k_is)
    (case g198 => k_is); (case g199 => k_is); (case g200 => k_is); (case g201 => k_exc); (case g202 => k_is); (case g203 => k_is)
    (case g204 => k_is); (case g205 => k_is)
