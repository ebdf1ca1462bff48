import PyProof.Rows.All
import Wide.All
import OpenK.AllK
import Wide.FinOn
import Lean
import PyProof.EqAt
import PyProof.EqKinds
import PyProof.TupleCall
import PyProof.NeKinds
import PyProof.EnumMake
import PyProof.EnumStmt
import PyProof.LayNew
import KE.KDictLaws
import KE.KDictSum
import KE.LcSums
import PyProof.Rows.SumAny
import PyProof.Rows.SortWalk
import PyProof.DictWalks
import KE.KRevIter
import PySem.Challenge.RW_frameland_k27_copies_apart
set_option Elab.async false
set_option linter.all false
set_option maxRecDepth 100000
namespace L2
open PySem PySem.Spec PyProof.Rows
/-- a key: an int or a str -/
abbrev Key := Sum Int Str
def keyIs : Key → Value → Bool
  | .inl k, v => Value.isInt k v
  | .inr x, v => Value.isStrOf x v
def keyH (w : World) : Key → Int
  | .inl k => hashInt k
  | .inr x => hashStr w x
theorem keyIs_shape : ∀ {k : Key} {v : Value}, keyIs k v = true → (∃ i t, k = Sum.inl i ∧ v = Value.int i t) ∨ (∃ x t, k = Sum.inr x ∧ v = Value.str x t)
  | .inl i, v, h => by
    obtain ⟨t, e⟩ := Value.isInt_shape (k := i) (v := v) h
    exact .inl ⟨i, t, rfl, e⟩
  | .inr x, v, h => by
    obtain ⟨t, e⟩ := Value.isStrOf_shape (x := x) (v := v) h
    exact .inr ⟨x, t, rfl, e⟩
theorem key_ll (a b : Int) : decide ((Sum.inl a : Key) = Sum.inl b) = (a == b) := by
  by_cases e : a = b
  · subst e; simp
  · have h : ¬ (Sum.inl a : Key) = Sum.inl b := fun q => e (Sum.inl.inj q)
    rw [decide_eq_false h]
    exact (beq_eq_false_iff_ne.mpr e).symm
theorem key_rr (a b : Str) : decide ((Sum.inr a : Key) = Sum.inr b) = decide (a = b) := by
  by_cases e : a = b
  · subst e; simp
  · have h : ¬ (Sum.inr a : Key) = Sum.inr b := fun q => e (Sum.inr.inj q)
    rw [decide_eq_false h, decide_eq_false e]
theorem key_lr (a : Int) (b : Str) : decide ((Sum.inl a : Key) = Sum.inr b) = false := decide_eq_false (fun q => nomatch q)
theorem key_rl (a : Str) (b : Int) : decide ((Sum.inr a : Key) = Sum.inl b) = false := decide_eq_false (fun q => nomatch q)
def mixKind (prog : Program) (w : World) : PySem.KeyKind prog w Key where
  is := keyIs
  hash := keyH w
  inj := fun v a b ha hb => by
    rcases keyIs_shape ha with ⟨i, t, rfl, rfl⟩ | ⟨x, t, rfl, rfl⟩
    · rcases keyIs_shape hb with ⟨j, u, rfl, e⟩ | ⟨y, u, rfl, e⟩
      · injection e with e1 _; rw [e1]
      · exact nomatch e
    · rcases keyIs_shape hb with ⟨j, u, rfl, e⟩ | ⟨y, u, rfl, e⟩
      · exact nomatch e
      · injection e with e1 _; rw [e1]
  byValue := fun k v h => by
    rcases keyIs_shape h with ⟨i, t, rfl, rfl⟩ | ⟨x, t, rfl, rfl⟩ <;> rfl
  pyHash := fun hv h => by
    rcases keyIs_shape hv with ⟨i, t, rfl, rfl⟩ | ⟨x, t, rfl, rfl⟩
    · exact wpAny_pyHash_int h
    · exact wpAny_pyHash_str h
  eqBool := fun hu hv h => by
    rcases keyIs_shape hu with ⟨i, t, rfl, rfl⟩ | ⟨x, t, rfl, rfl⟩
    · rcases keyIs_shape hv with ⟨j, u, rfl, rfl⟩ | ⟨y, u, rfl, rfl⟩
      · rw [key_ll] at h; exact wpAny_eqBool_int h
      · rw [key_lr] at h; exact SeqAt.EqAt.int_str i t y u _ _ _ _ h
    · rcases keyIs_shape hv with ⟨j, u, rfl, rfl⟩ | ⟨y, u, rfl, rfl⟩
      · rw [key_rl] at h; exact SeqAt.EqAt.str_int x t j u _ _ _ _ h
      · rw [key_rr] at h; exact wpAny_eqBool_str h
  «strs» := fun k x t v h => by
    rcases keyIs_shape h with ⟨i, u, rfl, e⟩ | ⟨y, u, rfl, e⟩
    · exact nomatch e
    · injection e with e1 _
      subst e1
      cases v <;> rfl
end L2
namespace L2
open PySem PySem.Spec PyProof.Rows
/-- a value, without the heap -/
inductive V where
  | non | bl (b : Bool) | int (i : Int) | str (x : Str) | byt (b : Array UInt8) | flt (b : UInt64) | ref (a : Addr) | ty (n : String)
  deriving DecidableEq
def RelV : V → Value → Prop
  | .non, u => u = Value.none
  | .bl b, u => u = Value.bool b
  | .int i, u => ∃ t, u = Value.int i t
  | .str x, u => ∃ t, u = Value.str x t
  | .byt b, u => ∃ t, u = Value.bytes b t
  | .flt b, u => ∃ t, u = Value.float b t
  | .ref a, u => u = Value.ref a
  | .ty n, u => u = Value.type n
abbrev Vals : List V → List Value → Prop := Paired RelV
theorem Vals.length {xs : List V} {us : List Value} (r : Vals xs us) : xs.length = us.length := Paired.length r
theorem Vals.get : ∀ {xs : List V} {us : List Value} {i : Nat} {x : V}, Vals xs us → xs[i]? = some x → ∃ u, us[i]? = some u ∧ RelV x u
  | _, _, _, _, .nil, e => by simp at e
  | _, _, 0, _, .cons r _, e => by simp at e; subst e; exact ⟨_, rfl, r⟩
  | _, _, i + 1, x, .cons _ t, e => by
    obtain ⟨u, h1, h2⟩ := Vals.get (i := i) (x := x) t (by simpa using e)
    exact ⟨u, by simpa using h1, h2⟩
theorem Vals.set {x : V} {u : Value} (r : RelV x u) : ∀ {xs : List V} {us : List Value} (i : Nat), Vals xs us → Vals (xs.set i x) (us.set i u)
  | _, _, _, .nil => .nil
  | _, _, 0, .cons _ t => .cons r t
  | _, _, i + 1, .cons q t => .cons q (Vals.set r i t)
theorem Vals.append : ∀ {xs ys : List V} {us ws : List Value}, Vals xs us → Vals ys ws → Vals (xs ++ ys) (us ++ ws)
  | _, _, _, _, .nil, s => s
  | _, _, _, _, .cons r t, s => .cons r (Vals.append t s)
theorem Vals.take : ∀ {xs : List V} {us : List Value} (n : Nat), Vals xs us → Vals (xs.take n) (us.take n)
  | _, _, 0, _ => .nil
  | _, _, _ + 1, .nil => .nil
  | _, _, n + 1, .cons r t => .cons r (Vals.take n t)
theorem Vals.drop : ∀ {xs : List V} {us : List Value} (n : Nat), Vals xs us → Vals (xs.drop n) (us.drop n)
  | _, _, 0, r => r
  | _, _, _ + 1, .nil => .nil
  | _, _, n + 1, .cons _ t => Vals.drop n t
def RelO : Option V → Option Value → Prop
  | some v, some u => RelV v u
  | none, none => True
  | _, _ => False
def KV {κ : Type} : List (κ × V) → List (κ × Value) → Prop := Paired fun (p : κ × V) (q : κ × Value) => p.1 = q.1 ∧ RelV p.2 q.2
/-- a key of a dict (00_mix): an int or a text -/
def kV : Key → V
  | .inl i => .int i
  | .inr x => .str x
/-- what stands at a tracked address -/
inductive HO where
  /-- a list -/
  | lst (xs : List V)
  /-- a tuple (never changes) -/
  | tup (xs : List V)
  /-- a dict whose keys are ints and texts; one whose keys are tuples of ints and texts (the empty one is both) -/
  | dK (kvs : List (Key × V)) | dT (kvs : List (List Key × V))
  /-- a set of ints: its members, its size -/
  | set (S : Int → Bool) (n : Nat)
  /-- an instance of the class at C, its dict at dx, its attributes -/
  | ins (C dx : Addr) (fs : List (Str × V))
  /-- the dict of the instance at x -/
  | own (x : Addr)
  /-- the dict of an exception -/
  | xd (fs : List (Str × V))
  /-- a bound method, f of x -/
  | met (f x : Addr)
  /-- a range object lo, lo + 1, .. below hi -/
  | rng (lo hi : Int)
  /-- a thing that is known to the object (the script; a dict while a loop walks it): read, never written while it is so -/
  | frz (o : Obj) (u : HO)
  /-- a code object's table -/
  | tbl (ps : Array Value)
  /-- any other thing, by what is true of its one object (a def of one's own: SetO a S n := HO.ext fun h => ..) -/
  | ext (φ : Heap → Prop)
abbrev Hp := Addr → Option HO
def upd (H : Hp) (a : Addr) (o : HO) : Hp := fun b => if b = a then some o else H b
theorem upd_same {H : Hp} {a : Addr} {o : HO} : upd H a o a = some o := by unfold upd; rw [if_pos rfl]
theorem upd_ne {H : Hp} {a b : Addr} {o : HO} (h : b ≠ a) : upd H a o b = H b := by unfold upd; rw [if_neg h]
theorem upd_upd {H : Hp} {a : Addr} {o u : HO} : upd (upd H a o) a u = upd H a u := by
  funext b; unfold upd; split <;> rfl
/-- two objects of different content stand apart -/
theorem ne_of {H : Hp} {a b : Addr} {o u : HO} (h : H a = some o) (h' : H b = some u) (d : o ≠ u) : a ≠ b := by
  intro e; subst e; rw [h] at h'; exact d (Option.some.inj h')
theorem ne_of_none {H : Hp} {a b : Addr} {o : HO} (h : H a = some o) (h' : H b = none) : a ≠ b := by
  intro e; subst e; rw [h] at h'; cases h'
section
variable (P : Program) (w : World)
def ObjOk (H : Hp) (h : Heap) (a : Addr) : HO → Prop
  | .lst xs => xs.length ≤ sizeLine ∧ ∃ (its : List Value) (n : Nat), Vals xs its ∧ h.get? a = some { cls := .type "list", data := .seq its.toArray n }
  | .tup xs => xs.length ≤ sizeLine ∧ ∃ its : List Value, Vals xs its ∧ IsTup h a its.toArray
  | .dK kvs => kvs.length ≤ sizeLine ∧ (a == sysModules) = false ∧ ∃ vs, KV kvs vs ∧ h.DictOf (mixKind P w) a vs
  | .dT kvs => kvs.length ≤ sizeLine ∧ (a == sysModules) = false ∧ ∃ xs : List (List Key × Addr × Value),
      Paired (fun (p : List Key × V) (q : List Key × Addr × Value) => p.1 = q.1 ∧ H q.2.1 = some (.tup (p.1.map kV)) ∧ RelV p.2 q.2.2) kvs xs ∧
      ∃ o es ep, h.get? a = some o ∧ o.ExactDict ∧ o.data = .dict es ep ∧ es.toList = xs.map (entryOfKey (tupleKind (mixKind P w))) ∧ (xs.map (·.1)).Nodup
  | .set S n => h.SetOf (intKind P w) a S n
  | .ins C dx fs => H dx = some (.own a) ∧ fs.length ≤ 1000 ∧ dx ≠ a ∧ h.get? a = some (PySem.W.instObj C dx) ∧
      ∃ mA, h.Ns1 dx mA ∧ (∀ f, RelO (fs.lookup f) (mA f)) ∧ PySem.Within mA (fs.map (·.1))
  | .own _ => ∃ o, h.get? a = some o
  | .xd fs => ∃ mA, h.Ns1 a mA ∧ ∀ f, RelO (fs.lookup f) (mA f)
  | .rng lo hi => ∃ t u v, h.get? a = some { cls := .type "range", data := .fields #[.int lo t, .int hi u, .int 1 v] }
  | .frz o u => h.get? a = some o ∧ ObjOk H h a u
  | .tbl ps => h.get? a = some { cls := .none, data := .fields ps }
  | .met f x => h.get? a = some (PySem.W.methodObj (.ref f) (.ref x))
  | .ext φ => φ h ∧ (∃ o, h.get? a = some o) ∧ ∀ h1 h2 : Heap, φ h1 → (∀ o, h1.get? a = some o → h2.get? a = some o) → φ h2
/-- the abstract heap is held -/
def HOk (H : Hp) (h : Heap) : Prop := ∀ a o, H a = some o → ObjOk P w H h a o
end
section
variable {P : Program} {w : World} {H H' : Hp} {h h' : Heap} {a : Addr} {o : HO}
theorem ObjOk.lt (x : ObjOk P w H h a o) : a < h.objs.size := by
  cases o with
  | lst xs => obtain ⟨_, _, _, _, e⟩ := x; exact Heap.lt_size e
  | tup xs => obtain ⟨_, _, _, p⟩ := x; exact p.lt
  | dK kvs => obtain ⟨_, _, _, _, o, _, _, e, _⟩ := x; exact Heap.lt_size e
  | dT kvs => obtain ⟨_, _, _, _, o, _, _, e, _⟩ := x; exact Heap.lt_size e
  | set S n => obtain ⟨o, _, _, _, e, _⟩ := x; exact Heap.lt_size e
  | ins C dx fs => obtain ⟨_, _, _, e, _⟩ := x; exact Heap.lt_size e
  | own y => obtain ⟨_, e⟩ := x; exact Heap.lt_size e
  | xd fs => obtain ⟨_, ⟨_, _, _, e, _⟩, _⟩ := x; exact Heap.lt_size e
  | rng lo hi => obtain ⟨_, _, _, e⟩ := x; exact Heap.lt_size e
  | frz ob u => obtain ⟨e, _⟩ := x; exact Heap.lt_size e
  | tbl ps => exact Heap.lt_size (show h.get? a = some _ from x)
  | met f y => exact Heap.lt_size (show h.get? a = some _ from x)
  | ext φ => obtain ⟨_, ⟨_, e⟩, _⟩ := x; exact Heap.lt_size e
theorem Paired.mapP {α β : Type} {F G : α → β → Prop} : ∀ {l₁ : List α} {l₂ : List β}, Paired F l₁ l₂ → (∀ a b, F a b → G a b) → Paired G l₁ l₂
  | _, _, .nil, _ => .nil
  | _, _, .cons r t, f => .cons (f _ _ r) (Paired.mapP t f)
/-- what an object's description leans on: its own object, its own dict, the tuples -/
theorem ObjOk.stay (x : ObjOk P w H h a o) (k : ∀ b u, (b = a ∨ H b = some (.own a)) → h.get? b = some u → h'.get? b = some u)
    (ho : ∀ b, H b = some (.own a) → H' b = some (.own a)) (ht : ∀ b xs, H b = some (.tup xs) → H' b = some (.tup xs)) : ObjOk P w H' h' a o := by
  induction o with
  | lst xs => obtain ⟨z, its, n, r, e⟩ := x; exact ⟨z, its, n, r, k _ _ (.inl rfl) e⟩
  | tup xs => obtain ⟨z, its, r, ob, e, c⟩ := x; exact ⟨z, its, r, ob, k _ _ (.inl rfl) e, c⟩
  | dK kvs => obtain ⟨z, y, vs, r, ob, es, ep, e, c⟩ := x; exact ⟨z, y, vs, r, ob, es, ep, k _ _ (.inl rfl) e, c⟩
  | dT kvs =>
    obtain ⟨z, y, xs, r, ob, es, ep, e, c⟩ := x
    exact ⟨z, y, xs, Paired.mapP r fun p q z => ⟨z.1, ht _ _ z.2.1, z.2.2⟩, ob, es, ep, k _ _ (.inl rfl) e, c⟩
  | set S n => obtain ⟨ob, es, ep, t, e, c⟩ := x; exact ⟨ob, es, ep, t, k _ _ (.inl rfl) e, c⟩
  | ins C dx fs =>
    obtain ⟨d, z, ne, e, mA, ⟨od, es, ep, e2, c⟩, r⟩ := x
    exact ⟨ho _ d, z, ne, k _ _ (.inl rfl) e, mA, ⟨od, es, ep, k _ _ (.inr d) e2, c⟩, r⟩
  | own y => obtain ⟨ob, e⟩ := x; exact ⟨ob, k _ _ (.inl rfl) e⟩
  | xd fs => obtain ⟨mA, ⟨od, es, ep, e, c⟩, r⟩ := x; exact ⟨mA, ⟨od, es, ep, k _ _ (.inl rfl) e, c⟩, r⟩
  | rng lo hi => obtain ⟨t, u, v, e⟩ := x; exact ⟨t, u, v, k _ _ (.inl rfl) e⟩
  | frz ob u ih => obtain ⟨e, q⟩ := x; exact ⟨k _ _ (.inl rfl) e, ih q⟩
  | tbl ps =>
    have e : h.get? a = some { cls := .none, data := .fields ps } := x
    show h'.get? a = some { cls := .none, data := .fields ps }
    exact k a _ (.inl rfl) e
  | met f y =>
    have e : h.get? a = some (PySem.W.methodObj (.ref f) (.ref y)) := x
    show h'.get? a = some (PySem.W.methodObj (.ref f) (.ref y))
    exact k a _ (.inl rfl) e
  | ext φ => obtain ⟨p, ⟨o, e⟩, st⟩ := x; exact ⟨st _ _ p fun o q => k _ _ (.inl rfl) q, ⟨o, k _ _ (.inl rfl) e⟩, st⟩
theorem HOk.lt (x : HOk P w H h) (e : H a = some o) : a < h.objs.size := (x a o e).lt
theorem HOk.fresh (x : HOk P w H h) (e : h.objs.size ≤ a) : H a = none := by
  cases q : H a with
  | none => rfl
  | some u => exact absurd (Nat.lt_of_lt_of_le (x.lt q) e) (Nat.lt_irrefl _)
/-- every object of the heap is kept -/
theorem HOk.kept (x : HOk P w H h) (k : ∀ b u, h.get? b = some u → h'.get? b = some u) : HOk P w H h' := fun a o e =>
  (x a o e).stay (fun b u _ q => k b u q) (fun _ q => q) fun _ _ q => q
/-- a new object is laid and tracked -/
theorem HOk.laid (x : HOk P w H h) (k : ∀ b u, h.get? b = some u → h'.get? b = some u) (hp : h.objs.size ≤ a) (new : ObjOk P w (upd H a o) h' a o) : HOk P w (upd H a o) h' := fun b u e => by
  have hn := x.fresh hp
  by_cases hb : b = a
  · subst hb; rw [upd_same] at e; cases e; exact new
  · rw [upd_ne hb] at e
    exact (x b u e).stay (fun c v _ q => k c v q) (fun c q => by rw [upd_ne (ne_of_none q hn)]; exact q) fun c xs q => by rw [upd_ne (ne_of_none q hn)]; exact q
end
/-- what may be read as u: it is u, or a known u -/
def Rd (H : Hp) (a : Addr) (u : HO) : Prop := H a = some u ∨ ∃ o, H a = some (.frz o u)
theorem Rd.of {H : Hp} {a : Addr} {u : HO} (h : H a = some u) : Rd H a u := .inl h
theorem Rd.ok {P : Program} {w : World} {H : Hp} {h : Heap} {a : Addr} {u : HO} (r : Rd H a u) (x : HOk P w H h) : ObjOk P w H h a u := by
  rcases r with r | ⟨o, r⟩
  · exact x a u r
  · obtain ⟨_, q⟩ := x a _ r
    exact q
/-- what may be written -/
def Mut : Option HO → Prop
  | some (.lst _) => True
  | some (.dK _) => True
  | some (.dT _) => True
  | some (.set _ _) => True
  | some (.ins _ _ _) => True
  | some (.ext _) => True
  | _ => False
section
variable {P : Program} {w : World} {H : Hp} {h h' : Heap} {x e : Addr} {o' : HO}
/-- the object at e is changed: x itself, or the dict of the instance x -/
theorem HOk.write (ok : HOk P w H h) (mu : Mut (H x)) (he : e = x ∨ H e = some (.own x)) (k : ∀ b u, b ≠ e → h.get? b = some u → h'.get? b = some u) (heo : ∃ u, h'.get? e = some u)
    (new : ObjOk P w (upd H x o') h' x o') : HOk P w (upd H x o') h' := fun b u q => by
  have nown : ∀ c y, H c = some (.own y) → c ≠ x := fun c y r z => by subst z; rw [r] at mu; exact mu
  have ntup : ∀ c xs, H c = some (.tup xs) → c ≠ x := fun c xs r z => by subst z; rw [r] at mu; exact mu
  by_cases hb : b = x
  · subst hb; rw [upd_same] at q; cases q; exact new
  · rw [upd_ne hb] at q
    by_cases hbe : b = e
    · have q' : H b = some (.own x) := by
        rcases he with z | z
        · exact absurd (hbe.trans z) hb
        · rw [hbe]; exact z
      rw [q] at q'; cases q'
      obtain ⟨v, hv⟩ := heo
      exact ⟨v, by rw [hbe]; exact hv⟩
    · refine (ok b u q).stay (fun c v hc r => k c v ?_ r) (fun c r => by rw [upd_ne (nown c b r)]; exact r) fun c xs r => by rw [upd_ne (ntup c xs r)]; exact r
      rcases hc with rfl | hc
      · exact hbe
      · rintro rfl
        rcases he with z | z
        · exact nown c b hc z
        · rw [hc] at z; cases z; exact hb rfl
end
/-! ### kept unless tracked; of the frames at fs (the callers') the slots may change (an exception that passes writes there); of the records at ex (iterators) nothing is said -/
structure Un (fs ex : List Addr) (H H' : Hp) (h h' : Heap) : Prop where
  keep : ∀ b o, h.get? b = some o → H b = none → b ∉ fs → b ∉ ex → h'.get? b = some o
  slot : ∀ b o, h.get? b = some o → H b = none → b ∈ fs → b ∉ ex → ∃ sl, h'.get? b = some { o with slots := sl }
  free : ∀ b o, h.get? b = some o → H b = none → b ∉ ex → H' b = none
  there : ∀ b o, h.get? b = some o → b ∉ ex → ∃ o', h'.get? b = some o'
  tups : ∀ b xs, H b = some (.tup xs) → H' b = some (.tup xs)
  frzs : ∀ b o u, H b = some (.frz o u) → H' b = some (.frz o u)
  tbls : ∀ b ps, H b = some (.tbl ps) → ∃ more, H' b = some (.tbl (ps ++ more))
section
variable {fs fs' ex ex' : List Addr} {H H1 H2 : Hp} {h h1 h2 h' : Heap} {a x e : Addr} {o : HO}
theorem Un.any (u : Un fs ex H H1 h h1) {b : Addr} {ob : Obj} (q : h.get? b = some ob) (n : H b = none) (hx : b ∉ ex) : ∃ sl, h1.get? b = some { ob with slots := sl } := by
  by_cases hb : b ∈ fs
  · exact u.slot b ob q n hb hx
  · exact ⟨ob.slots, u.keep b ob q n hb hx⟩
theorem Un.trans (a : Un fs ex H H1 h h1) (b : Un fs ex H1 H2 h1 h2) : Un fs ex H H2 h h2 where
  keep := fun c ob q n hc hx => b.keep c ob (a.keep c ob q n hc hx) (a.free c ob q n hx) hc hx
  slot := fun c ob q n hc hx => by
    obtain ⟨sl, e1⟩ := a.slot c ob q n hc hx
    obtain ⟨sl', e2⟩ := b.slot c _ e1 (a.free c ob q n hx) hc hx
    exact ⟨sl', e2⟩
  free := fun c ob q n hx => by
    obtain ⟨o', e1⟩ := a.there c ob q hx
    exact b.free c o' e1 (a.free c ob q n hx) hx
  there := fun c ob q hx => by
    obtain ⟨o', e1⟩ := a.there c ob q hx
    exact b.there c o' e1 hx
  tups := fun c xs q => b.tups c xs (a.tups c xs q)
  frzs := fun c ob xs q => b.frzs c ob xs (a.frzs c ob xs q)
  tbls := fun c ps q => by
    obtain ⟨m1, e1⟩ := a.tbls c ps q
    obtain ⟨m2, e2⟩ := b.tbls c _ e1
    exact ⟨m1 ++ m2, by rw [e2, Array.append_assoc]⟩
theorem Un.kept (k : ∀ b u, h.get? b = some u → h'.get? b = some u) : Un fs ex H H h h' :=
  ⟨fun b ob q _ _ _ => k b ob q, fun b ob q _ _ _ => ⟨ob.slots, k b ob q⟩, fun _ _ _ n _ => n, fun b ob q _ => ⟨ob, k b ob q⟩, fun _ _ q => q, fun _ _ _ q => q, fun _ ps q => ⟨#[], by rw [q]; simp⟩⟩
theorem Un.refl : Un fs ex H H h h := Un.kept fun _ _ q => q
theorem Un.laid (k : ∀ b u, h.get? b = some u → h'.get? b = some u) (hp : h.objs.size ≤ a) (hn : H a = none) : Un fs ex H (upd H a o) h h' where
  keep := fun b u q _ _ _ => k b u q
  slot := fun b u q _ _ _ => ⟨u.slots, k b u q⟩
  free := fun b u q n _ => by rw [upd_ne (Nat.ne_of_lt (Nat.lt_of_lt_of_le (Heap.lt_size q) hp))]; exact n
  there := fun b u q _ => ⟨u, k b u q⟩
  tups := fun b xs q => by rw [upd_ne (ne_of_none q hn)]; exact q
  frzs := fun b u xs q => by rw [upd_ne (ne_of_none q hn)]; exact q
  tbls := fun b ps q => ⟨#[], by rw [upd_ne (ne_of_none q hn), q]; simp⟩
theorem Un.write (mu : Mut (H x)) (he : e = x ∨ H e = some (.own x)) (k : ∀ b u, b ≠ e → h.get? b = some u → h'.get? b = some u) (heo : ∃ u, h'.get? e = some u) : Un fs ex H (upd H x o) h h' := by
  have hx : ∀ b, H b = none → b ≠ x := fun b n z => by subst z; rw [n] at mu; exact mu
  have hb : ∀ b, H b = none → b ≠ e := fun b n z => by
    subst z
    rcases he with r | r
    · exact hx b n r
    · rw [n] at r; cases r
  have hm : ∀ b u, H b = some u → ¬ Mut (some u) → b ≠ x := fun b u q nm z => by subst z; rw [q] at mu; exact nm mu
  refine ⟨fun b u q n _ _ => k b u (hb b n) q, fun b u q n _ _ => ⟨u.slots, k b u (hb b n) q⟩, fun b u q n _ => by rw [upd_ne (hx b n)]; exact n, fun b u q _ => ?_,
    fun b xs q => by rw [upd_ne (hm b _ q fun z => z)]; exact q, fun b u xs q => by rw [upd_ne (hm b _ q fun z => z)]; exact q, fun b ps q => ⟨#[], by rw [upd_ne (hm b _ q fun z => z), q]; simp⟩⟩
  by_cases hbe : b = e
  · subst hbe; exact heo
  · exact ⟨u, k b u hbe q⟩
end
/-! ### the heap without what is tracked -/
def trk (h : Heap) (H : Hp) : List Addr := (List.range h.objs.size).filter fun a => (H a).isSome
def hidT (h : Heap) (H : Hp) : Heap := PySem.W.hideAll h (trk h H)
theorem hidT_size (h : Heap) (H : Hp) : (hidT h H).objs.size = h.objs.size := PySem.W.hideAll_size _ _
theorem hidT_get {h : Heap} {H : Hp} {b : Addr} {o : Obj} (e : h.get? b = some o) (n : H b = none) : (hidT h H).get? b = some o :=
  PySem.W.hideAll_get _ e fun hm => by
    have q : (H b).isSome = true := (List.mem_filter.mp hm).2
    rw [n] at q; simp at q
theorem of_hidT {h : Heap} {H : Hp} {b : Addr} {o : Obj} (e : (hidT h H).get? b = some o) : h.get? b = some o ∧ H b = none := by
  have e' : h.get? b = some o := PySem.W.of_hideAll (trk h H) e
  refine ⟨e', ?_⟩
  cases q : H b with
  | none => rfl
  | some x =>
    have hm : b ∈ trk h H := List.mem_filter.mpr ⟨List.mem_range.mpr (Heap.lt_size e'), by simp [q]⟩
    have z : (hidT h H).get? b = none := PySem.W.hideAll_none (trk h H) hm
    rw [z] at e; cases e
/-! ### OpenK's ledger, filled with every new object but one -/
def allNews (g h : Heap) (L : Addr) : List (Addr × Obj) := (List.range h.objs.size).filterMap fun a => if a = L ∨ (g.get? a).isSome = true then none else (h.get? a).map fun o => (a, o)
def rest (g h : Heap) (L d : Addr) : List (Addr × Obj) := (allNews g h L).filter fun p => decide (p.1 ≠ d)
end L2
namespace L2
open PySem PySem.Spec PyProof.Rows
/-- the module's facts, over the base: the heap at the law's entry without what is tracked there -/
structure Mod (K : PySem.W.Frag) (mg : Str → Option Value) (base : Heap) : Prop where
  kin : K.In base
  glob : base.Ns mainGlobals mg
  blt : ∃ mb, base.Ns builtinsNs mb ∧ ∀ x : Str, x ≠ "__name__" → mb x = bootBuiltins x
  nolimit : base.NoLimit
/-- the context: a def's body (or a comprehension's block) running. base: fixed through the whole law; s₀, H₀: the entry; outer: the frames whose slots others may change (a def's callers); stack: all frames that run;
   ex: iterators that were made ahead of the entry and are walked here (a comprehension's); fn: the names whose cells were made at the entry (a def: all; a comprehension's block: its own); calm: not within an except suite; pn: pins that every state bears; xe: what is wanted of an exception that leaves the code -/
structure Cx where
  prog : Program
  w : World
  K : PySem.W.Frag
  mg : Str → Option Value
  base : Heap
  A : Around
  N : List Str
  s₀ : Shared
  H₀ : Hp
  env : Env
  outer : List Env
  stack : List Env
  ex : List Addr
  fn : Str → Bool
  calm : Bool
  pn : List (Addr × Obj)
  xe : Value → Shared → Prop
/-- the callers' frames -/
def frs (l : List Env) : List Addr := l.filterMap (·.frame)
abbrev Cx.fs (X : Cx) : List Addr := frs X.outer
def Vis (sc : Scope) (x : Str) : Prop := sc.names.lookup x = some .local ∨ sc.names.lookup x = some .cell ∨ sc.names.lookup x = some .free
def Loc (sc : Scope) (x : Str) : Prop := sc.names.lookup x = some .local ∨ sc.names.lookup x = some .cell
def Look (env : Env) (h : Heap) (m : Str → Option Value) (x : Str) (u : Value) : Prop :=
  (env.kindOf x = some .local ∧ m x = some u) ∨ ((env.kindOf x = some .cell ∨ env.kindOf x = some .free) ∧ ∃ c, env.cells.lookup x = some c ∧ h.IsCell c (some u))
structure Cx.Ok (X : Cx) : Prop where
  mod : Mod X.K X.mg X.base
  kind : X.env.scope.kind = .function
  glob : X.env.globals = mainGlobals
  blt : X.env.builtins = builtinsNs
  above : X.s₀.heap.objs.size ≤ X.env.locals
  inj : ∀ x y c, X.env.cells.lookup x = some c → X.env.cells.lookup y = some c → x = y
  has : ∀ x, (X.env.kindOf x = some .cell ∨ X.env.kindOf x = some .free) → ∃ c, X.env.cells.lookup x = some c
  cab : ∀ x c, X.fn x = true → X.env.cells.lookup x = some c → X.s₀.heap.objs.size ≤ c
  hd : X.calm = true → X.A.handled = none
  frames : X.A.frames = some X.stack
  stk : X.stack = X.outer ∨ (X.stack = X.env :: X.outer ∧ X.env.frame = some X.env.locals)
  exf : ∀ b ∈ X.ex, b ≠ X.env.locals ∧ ∀ x c, X.env.cells.lookup x = some c → c ≠ b
  bs : ∀ b o, X.base.get? b = some o → X.s₀.heap.get? b = some o ∧ X.H₀ b = none
  bsz : X.base.objs.size ≤ X.s₀.heap.objs.size
  noex : ∀ b o, X.base.get? b = some o → b ∉ X.ex
  exfs : ∀ b ∈ X.ex, b ∉ X.fs
  funs : X.s₀.heap.FunFrames X.base X.outer
  frf : ∀ b ∈ X.fs, X.H₀ b = none
structure Inv (X : Cx) (pins : List (Addr × Obj)) (σ : List (Option V)) (H : Hp) (s : Shared) : Prop where
  ok : X.Ok
  os : s.os = X.s₀.os
  bare : AllBare s.gens
  base : Un X.fs X.ex X.H₀ H X.s₀.heap s.heap
  loc : ∃ m, s.heap.Ns X.env.locals m ∧ ∀ (i : Nat) (x : Str) (v : V), X.N[i]? = some x → σ[i]? = some (some v) → Vis X.env.scope x → ∃ u, RelV v u ∧ Look X.env s.heap m x u
  cell : ∀ x c, X.env.cells.lookup x = some c → ∃ v, s.heap.IsCell c v
  free : H X.env.locals = none
  freeC : ∀ x c, X.env.cells.lookup x = some c → H c = none
  pin : ∀ p ∈ X.pn ++ pins, s.heap.get? p.1 = some p.2 ∧ H p.1 = none ∧ p.1 ≠ X.env.locals ∧ p.1 ∉ X.fs ∧ ∀ v, p.2.data ≠ .cell v
  hok : HOk X.prog X.w H s.heap
  len : σ.length = X.N.length
section
variable {X : Cx} {pins : List (Addr × Obj)} {σ : List (Option V)} {H H' : Hp} {s : Shared} {h' : Heap}
theorem Cx.Ok.nofr (ok : X.Ok) {b : Addr} {o : Obj} (e : X.base.get? b = some o) : b ∉ X.fs := fun hb => by
  have := (ok.funs.mem hb).1
  rw [e] at this; cases this
theorem Inv.bs (I : Inv X pins σ H s) : ∀ b o, X.base.get? b = some o → s.heap.get? b = some o ∧ H b = none := fun b o e =>
  ⟨I.base.keep b o (I.ok.bs b o e).1 (I.ok.bs b o e).2 (I.ok.nofr e) (I.ok.noex b o e), I.base.free b o (I.ok.bs b o e).1 (I.ok.bs b o e).2 (I.ok.noex b o e)⟩
theorem Inv.bk (I : Inv X pins σ H s) : ∀ b o, X.base.get? b = some o → s.heap.get? b = some o := fun b o e => (I.bs b o e).1
theorem Inv.mod (I : Inv X pins σ H s) : Mod X.K X.mg X.base := I.ok.mod
theorem Inv.kIn (I : Inv X pins σ H s) : X.K.In s.heap := I.ok.mod.kin.keeps I.bk
theorem Inv.lt (I : Inv X pins σ H s) : X.env.locals < s.heap.objs.size := let ⟨_, hn, _⟩ := I.loc; hn.lt
theorem Inv.sz (I : Inv X pins σ H s) : X.s₀.heap.objs.size ≤ s.heap.objs.size := Nat.le_trans I.ok.above (Nat.le_of_lt I.lt)
theorem Inv.nofs (I : Inv X pins σ H s) {a : Addr} (h : s.heap.objs.size ≤ a) : a ∉ X.fs := fun hb => by
  obtain ⟨_, o, ho, _⟩ := I.ok.funs.mem hb
  exact absurd (Nat.lt_of_lt_of_le (Heap.lt_size ho) (Nat.le_trans I.sz h)) (Nat.lt_irrefl _)
theorem Inv.cne (I : Inv X pins σ H s) : ∀ x c, X.env.cells.lookup x = some c → c ≠ X.env.locals := fun x c e z => by
  obtain ⟨v, o, ho, hd⟩ := I.cell x c e
  obtain ⟨m, ⟨o', es, ep, ho', hd', _⟩, _⟩ := I.loc
  rw [z, ho'] at ho; cases ho; rw [hd'] at hd; cases hd
theorem Inv.funs (I : Inv X pins σ H s) : s.heap.FunFrames X.base X.outer := by
  have all : ∀ (l : List Env), (∀ b ∈ frs l, b ∈ X.fs) → X.s₀.heap.FunFrames X.base l → s.heap.FunFrames X.base l := by
    intro l
    induction l with
    | nil => intro _ _; trivial
    | cons env r ih =>
      intro hs hl
      obtain ⟨hk, ⟨L, o, hf, hn, ho, hd⟩, hr⟩ := hl
      have hL : L ∈ X.fs := hs L (by unfold frs; rw [List.filterMap_cons, hf]; exact List.mem_cons_self)
      obtain ⟨sl, e⟩ := I.base.slot L o ho (I.ok.frf L hL) hL fun z => I.ok.exfs L z hL
      exact ⟨hk, ⟨L, _, hf, hn, e, hd⟩, ih (fun b hb => hs b (by unfold frs; rw [List.filterMap_cons, hf]; exact List.mem_cons_of_mem _ hb)) hr⟩
  exact all X.outer (fun _ hb => hb) I.ok.funs
/-- the frames that run, for a call -/
theorem Inv.stack (I : Inv X pins σ H s) : s.heap.FunFrames X.base X.stack := by
  rcases I.ok.stk with e | ⟨e, hf⟩
  · rw [e]; exact I.funs
  · rw [e]
    obtain ⟨m, hn, _⟩ := I.loc
    refine .cons (by rw [I.ok.kind]; decide) hf hn ?_ I.funs
    exact Heap.get?_none_of_le (Nat.le_trans I.ok.bsz I.ok.above)
theorem Inv.stkSub (I : Inv X pins σ H s) : ∀ b ∈ frs X.stack, b ∈ X.env.locals :: X.fs := fun b hb => by
  rcases I.ok.stk with e | ⟨e, hf⟩
  · rw [e] at hb; exact List.mem_cons_of_mem _ hb
  · rw [e] at hb
    unfold frs at hb
    rw [List.filterMap_cons, hf] at hb
    exact hb
theorem Inv.stkFree (I : Inv X pins σ H s) : ∀ b ∈ frs X.stack, H b = none := fun b hb => by
  rcases List.mem_cons.mp (I.stkSub b hb) with e | hb
  · rw [e]; exact I.free
  · obtain ⟨_, o, ho, _⟩ := I.ok.funs.mem hb
    exact I.base.free b o ho (I.ok.frf b hb) fun z => I.ok.exfs b z hb
/-- THE STEP: the untracked objects but the frame and the records at ch are kept (the callers' frames up to slots), the frame's map is kept, the new abstract heap is held -/
theorem Inv.step {g' : Array GenState} {t' : Nat} {d' : Drawn} {ch : List Addr} (I : Inv X pins σ H s)
    (hch : ∀ b ∈ ch, (b ∈ X.ex ∨ X.s₀.heap.objs.size ≤ b) ∧ b ≠ X.env.locals ∧ (∀ x c, X.env.cells.lookup x = some c → c ≠ b) ∧ ∀ p ∈ X.pn ++ pins, p.1 ≠ b)
    (keep : ∀ b o, b ≠ X.env.locals → b ∉ X.fs → b ∉ ch → s.heap.get? b = some o → H b = none → h'.get? b = some o)
    (slot : ∀ b o, b ≠ X.env.locals → b ∈ X.fs → b ∉ ch → s.heap.get? b = some o → H b = none → ∃ sl, h'.get? b = some { o with slots := sl }) (free : ∀ b o, b ∉ ch → s.heap.get? b = some o → H b = none → H' b = none)
    (there : ∀ b o, b ∉ ch → s.heap.get? b = some o → ∃ o', h'.get? b = some o')
    (tups : ∀ b xs, H b = some (.tup xs) → H' b = some (.tup xs)) (frzs : ∀ b o u, H b = some (.frz o u) → H' b = some (.frz o u)) (tbls : ∀ b ps, H b = some (.tbl ps) → ∃ more, H' b = some (.tbl (ps ++ more)))
    (ns : ∀ m, s.heap.Ns X.env.locals m → h'.Ns X.env.locals m) (hok : HOk X.prog X.w H' h') (hg : AllBare g') :
    Inv X pins σ H' { s with heap := h', gens := g', drawn := d', toks := t' } := by
  have neL : ∀ b o, X.s₀.heap.get? b = some o → b ≠ X.env.locals := fun b o e => Nat.ne_of_lt (Nat.lt_of_lt_of_le (Heap.lt_size e) I.ok.above)
  have neC : ∀ b o, X.s₀.heap.get? b = some o → b ∉ X.ex → b ∉ ch := fun b o e hx hb => by
    rcases (hch b hb).1 with z | z
    · exact hx z
    · exact absurd (Nat.lt_of_lt_of_le (Heap.lt_size e) z) (Nat.lt_irrefl _)
  have cellK : ∀ x c, X.env.cells.lookup x = some c → ∀ v, s.heap.IsCell c v → h'.IsCell c v := fun x c e v ⟨o, ho, hd⟩ => by
    have nch : c ∉ ch := fun z => (hch c z).2.2.1 x c e rfl
    by_cases hc : c ∈ X.fs
    · obtain ⟨sl, q⟩ := slot c o (I.cne x c e) hc nch ho (I.freeC x c e)
      exact ⟨_, q, hd⟩
    · exact ⟨o, keep c o (I.cne x c e) hc nch ho (I.freeC x c e), hd⟩
  refine ⟨I.ok, I.os, hg, ⟨fun b o e n hb hx => ?_, fun b o e n hb hx => ?_, fun b o e n hx => ?_, fun b o e hx => ?_, fun b xs e => tups b xs (I.base.tups b xs e), fun b o xs e => frzs b o xs (I.base.frzs b o xs e), fun b ps e => ?_⟩, ?_, fun x c e => ?_, ?_, fun x c e => ?_, fun p hp => ?_, hok, I.len⟩
  · exact keep b o (neL b o e) hb (neC b o e hx) (I.base.keep b o e n hb hx) (I.base.free b o e n hx)
  · obtain ⟨sl, e1⟩ := I.base.slot b o e n hb hx
    obtain ⟨sl', e2⟩ := slot b _ (neL b o e) hb (neC b o e hx) e1 (I.base.free b o e n hx)
    exact ⟨sl', e2⟩
  · obtain ⟨o', e1⟩ := I.base.there b o e hx
    exact free b o' (neC b o e hx) e1 (I.base.free b o e n hx)
  · obtain ⟨o', e1⟩ := I.base.there b o e hx
    exact there b o' (neC b o e hx) e1
  · obtain ⟨m1, e1⟩ := I.base.tbls b ps e
    obtain ⟨m2, e2⟩ := tbls b _ e1
    exact ⟨m1 ++ m2, by rw [e2, Array.append_assoc]⟩
  · obtain ⟨m, hn, hl⟩ := I.loc
    refine ⟨m, ns m hn, fun i x v e1 e2 e3 => ?_⟩
    obtain ⟨u, r, l⟩ := hl i x v e1 e2 e3
    refine ⟨u, r, ?_⟩
    rcases l with l | ⟨k, c, e, z⟩
    · exact .inl l
    · exact .inr ⟨k, c, e, cellK x c e _ z⟩
  · obtain ⟨v, z⟩ := I.cell x c e
    exact ⟨v, cellK x c e v z⟩
  · obtain ⟨m, ⟨o, _, _, ho, _⟩, _⟩ := I.loc
    exact free _ o (fun z => (hch _ z).2.1 rfl) ho I.free
  · obtain ⟨v, o, ho, hd⟩ := I.cell x c e
    exact free c o (fun z => (hch c z).2.2.1 x c e rfl) ho (I.freeC x c e)
  · obtain ⟨e, n, ne, nf, d⟩ := I.pin p hp
    have nch : p.1 ∉ ch := fun z => (hch p.1 z).2.2.2 p hp rfl
    exact ⟨keep p.1 p.2 ne nf nch e n, free p.1 p.2 nch e n, ne, nf, d⟩
/-- .. where the frame's own object is kept too -/
theorem Inv.un {t' : Nat} (I : Inv X pins σ H s) (u : Un X.fs [] H H' s.heap h') (hok : HOk X.prog X.w H' h') : Inv X pins σ H' { s with heap := h', toks := t' } := by
  obtain ⟨m, ⟨o, es, ep, ho, r⟩, _⟩ := id I.loc
  obtain ⟨sl, hL⟩ := u.any ho I.free (by simp)
  exact I.step (g' := s.gens) (d' := s.drawn) (ch := []) (fun _ z => nomatch z) (fun b o _ hb _ e n => u.keep b o e n hb (by simp)) (fun b o _ hb _ e n => u.slot b o e n hb (by simp)) (fun b o _ e n => u.free b o e n (by simp)) (fun b o _ e => u.there b o e (by simp)) u.tups u.frzs u.tbls (fun m' hm => by
    obtain ⟨o', es', ep', ho', r'⟩ := hm
    rw [ho] at ho'; cases ho'
    exact ⟨_, es', ep', hL, r'⟩) hok I.bare
/-- behind a call (or a comprehension's block): the slots of this frame may have changed too, the records at ch may have turned -/
theorem Inv.call {g' : Array GenState} {t' : Nat} {d' : Drawn} {ch : List Addr} (I : Inv X pins σ H s) (u : Un (frs X.stack) ch H H' s.heap h') (hok : HOk X.prog X.w H' h') (hg : AllBare g')
    (hch : ∀ b ∈ ch, (b ∈ X.ex ∨ X.s₀.heap.objs.size ≤ b) ∧ b ≠ X.env.locals ∧ (∀ x c, X.env.cells.lookup x = some c → c ≠ b) ∧ ∀ p ∈ X.pn ++ pins, p.1 ≠ b) :
    Inv X pins σ H' { s with heap := h', gens := g', drawn := d', toks := t' } := by
  obtain ⟨m, ⟨o, es, ep, ho, r⟩, _⟩ := id I.loc
  obtain ⟨sl, hL⟩ := u.any ho I.free fun z => (hch _ z).2.1 rfl
  exact I.step (ch := ch) hch (fun b o hL hb hc e n => u.keep b o e n (fun z => (List.mem_cons.mp (I.stkSub b z)).elim hL hb) hc) (fun b o _ _ hc e n => u.any e n hc) (fun b o hc e n => u.free b o e n hc) (fun b o hc e => u.there b o e hc) u.tups u.frzs u.tbls (fun m' hm => by
    obtain ⟨o', es', ep', ho', r'⟩ := hm
    rw [ho] at ho'; cases ho'
    exact ⟨_, es', ep', hL, r'⟩) hok hg
/-- an untracked record of ours (an iterator) has turned -/
theorem Inv.turned {t' : Nat} {it : Addr} (I : Inv X pins σ H s) (k : ∀ b o, b ≠ it → s.heap.get? b = some o → h'.get? b = some o) (hn : H it = none) (hL : it ≠ X.env.locals)
    (h1 : it ∈ X.ex ∨ X.s₀.heap.objs.size ≤ it) (h2 : ∀ x c, X.env.cells.lookup x = some c → c ≠ it) (h3 : ∀ p ∈ X.pn ++ pins, p.1 ≠ it) : Inv X pins σ H { s with heap := h', toks := t' } := by
  have nit : ∀ b u, H b = some u → b ≠ it := fun b u e z => by rw [z, hn] at e; cases e
  refine I.step (g' := s.gens) (d' := s.drawn) (ch := [it]) (fun b hb => ?_) (fun b o _ _ hc e _ => k b o (fun z => hc (by simp [z])) e) (fun b o _ _ hc e _ => ⟨o.slots, k b o (fun z => hc (by simp [z])) e⟩) (fun _ _ _ _ n => n)
    (fun b o hc e => ⟨o, k b o (fun z => hc (by simp [z])) e⟩) (fun _ _ e => e) (fun _ _ _ e => e) (fun b ps e => ⟨#[], by rw [e]; simp⟩) (fun m hm => ?_) (fun b u e => ?_) I.bare
  · have e : b = it := by simpa using hb
    subst e
    exact ⟨h1, hL, h2, h3⟩
  · obtain ⟨o, es, ep, ho, r⟩ := hm
    exact ⟨o, es, ep, k _ o (Ne.symm hL) ho, r⟩
  · refine (I.hok b u e).stay (fun c v hc q => k c v ?_ q) (fun _ q => q) fun _ _ q => q
    rcases hc with z | z
    · rw [z]; exact nit b u e
    · exact nit c _ z
theorem Inv.tok (I : Inv X pins σ H s) (t : Nat) : Inv X pins σ H { s with toks := t } := I.un (h' := s.heap) (t' := t) Un.refl I.hok
/-- all objects kept -/
theorem Inv.kept {t' : Nat} (I : Inv X pins σ H s) (k : ∀ b u, s.heap.get? b = some u → h'.get? b = some u) : Inv X pins σ H { s with heap := h', toks := t' } := I.un (Un.kept k) (I.hok.kept k)
/-- a new object laid and tracked -/
theorem Inv.laid {a : Addr} {o : HO} {t' : Nat} (I : Inv X pins σ H s) (k : ∀ b u, s.heap.get? b = some u → h'.get? b = some u) (hp : s.heap.objs.size ≤ a) (new : ObjOk X.prog X.w (upd H a o) h' a o) :
    Inv X pins σ (upd H a o) { s with heap := h', toks := t' } := I.un (Un.laid k hp (I.hok.fresh hp)) (I.hok.laid k hp new)
/-- an object written -/
theorem Inv.write {x e : Addr} {o : HO} {t' : Nat} (I : Inv X pins σ H s) (mu : Mut (H x)) (he : e = x ∨ H e = some (.own x)) (k : ∀ b u, b ≠ e → s.heap.get? b = some u → h'.get? b = some u) (heo : ∃ u, h'.get? e = some u)
    (new : ObjOk X.prog X.w (upd H x o) h' x o) : Inv X pins σ (upd H x o) { s with heap := h', toks := t' } := I.un (Un.write mu he k heo) (I.hok.write mu he k heo new)
theorem Inv.pins_of {pins' : List (Addr × Obj)} (I : Inv X pins σ H s) (h : ∀ p ∈ pins', s.heap.get? p.1 = some p.2 ∧ H p.1 = none ∧ p.1 ≠ X.env.locals ∧ p.1 ∉ X.fs ∧ ∀ v, p.2.data ≠ .cell v) : Inv X pins' σ H s :=
  ⟨I.ok, I.os, I.bare, I.base, I.loc, I.cell, I.free, I.freeC, fun p hp => (List.mem_append.mp hp).elim (fun z => I.pin p (List.mem_append_left _ z)) (h p), I.hok, I.len⟩
theorem nodup_ix {N : List Str} (hN : N.Nodup) {i j : Nat} {x : Str} (a : N[i]? = some x) (b : N[j]? = some x) : i = j := by
  obtain ⟨h1, e1⟩ := List.getElem?_eq_some_iff.mp a
  obtain ⟨h2, e2⟩ := List.getElem?_eq_some_iff.mp b
  exact (List.getElem_inj hN).mp (e1.trans e2.symm)
/-- a name is stored; what changed -/
theorem store_ok2 {M : Model} {A : Around} {E : Value → Shared → Prop} {i : Nat} {x : Str} {v : V} {u : Value} {Q : Unit → Shared → Prop} (I : Inv X pins σ H s) (hN : X.N.Nodup) (hi : X.N[i]? = some x) (hx : Loc X.env.scope x) (r : RelV v u)
    (h : ∀ s', Inv X pins (σ.set i (some v)) H s' → (∃ a, Heap.SameBut a s.heap s'.heap ∧ (a = X.env.locals ∨ X.env.cells.lookup x = some a)) → Q () s') (hf : X.fn x = true ∨ X.env.scope.names.lookup x = some .local := by first | exact .inl rfl | exact .inr rfl | assumption) : wpAny M A (storeName X.env x u) Q E s := by
  obtain ⟨m, hn, hl⟩ := id I.loc
  have hcls : (X.env.scope.kind == .class || (X.env.scope.kind == .module && X.env.locals != X.env.globals)) = false := by rw [I.ok.kind]; rfl
  have hiσ : i < σ.length := by rw [I.len]; exact (List.getElem?_eq_some_iff.mp hi).1
  have cne := I.cne
  have tracked : ∀ {a : Addr} {h' : Heap}, (∃ o, s.heap.get? a = some o ∧ H a = none) → Heap.SameBut a s.heap h' → HOk X.prog X.w H h' := fun {a h'} ha hs b ob e => by
    obtain ⟨_, _, hfree⟩ := ha
    refine (I.hok b ob e).stay (fun c w' hc q => (hs.2 c ?_).trans q) (fun _ q => q) fun _ _ q => q
    rintro rfl
    rcases hc with rfl | hc
    · rw [hfree] at e; cases e
    · rw [hfree] at hc; cases hc
  rcases hx with hk | hk
  · refine wpAny_storeName_local hk hn (fun h' hn' hs => ?_) hcls
    obtain ⟨oL, _, _, hoL, _⟩ := id hn
    refine h _ ⟨I.ok, I.os, I.bare, ⟨fun b o e n hb hx => ?_, fun b o e n hb hx => ?_, I.base.free, fun b o e hx => ?_, I.base.tups, I.base.frzs, I.base.tbls⟩, ⟨_, hn', fun j y v' e1 e2 e3 => ?_⟩, fun y c e => ?_, I.free, I.freeC, fun p hp => ?_, tracked ⟨oL, hoL, I.free⟩ hs, by simpa using I.len⟩ ⟨_, hs, .inl rfl⟩
    · exact (hs.2 b (Nat.ne_of_lt (Nat.lt_of_lt_of_le (Heap.lt_size e) I.ok.above))).trans (I.base.keep b o e n hb hx)
    · obtain ⟨sl, e1⟩ := I.base.slot b o e n hb hx
      exact ⟨sl, (hs.2 b (Nat.ne_of_lt (Nat.lt_of_lt_of_le (Heap.lt_size e) I.ok.above))).trans e1⟩
    · obtain ⟨o', e1⟩ := I.base.there b o e hx
      exact ⟨o', (hs.2 b (Nat.ne_of_lt (Nat.lt_of_lt_of_le (Heap.lt_size e) I.ok.above))).trans e1⟩
    · by_cases hj : j = i
      · subst hj
        rw [hi] at e1; cases e1
        rw [List.getElem?_set_self hiσ] at e2
        cases e2
        exact ⟨u, r, .inl ⟨hk, by simp⟩⟩
      · rw [List.getElem?_set_ne (Ne.symm hj)] at e2
        obtain ⟨u', r', q⟩ := hl j y v' e1 e2 e3
        refine ⟨u', r', ?_⟩
        rcases q with ⟨k, e⟩ | ⟨k, c, e, z⟩
        · refine .inl ⟨k, ?_⟩
          have : y ≠ x := fun e => hj (nodup_ix hN e1 (e ▸ hi))
          simp [this, e]
        · exact .inr ⟨k, c, e, z.sameBut hs (cne y c e)⟩
    · obtain ⟨w', z⟩ := I.cell y c e
      exact ⟨w', z.sameBut hs (cne y c e)⟩
    · obtain ⟨e, n, ne, nf, d⟩ := I.pin p hp
      exact ⟨(hs.2 p.1 ne).trans e, n, ne, nf, d⟩
  · have hfn : X.fn x = true := by
      rcases hf with z | z
      · exact z
      · rw [z] at hk; cases hk
    obtain ⟨c, hc⟩ := I.ok.has x (.inl hk)
    obtain ⟨w', z⟩ := I.cell x c hc
    refine wpAny_storeName_cell I.ok.kind hk hc z (fun h' hc' hs => ?_)
    obtain ⟨oc, hoc, hocd⟩ := id z
    refine h { s with heap := h' } ⟨I.ok, I.os, I.bare, ⟨fun b o e n hb hx => ?_, fun b o e n hb hx => ?_, I.base.free, fun b o e hx => ?_, I.base.tups, I.base.frzs, I.base.tbls⟩, ⟨m, hn.sameBut hs (Ne.symm (cne x c hc)), fun j y v' e1 e2 e3 => ?_⟩, fun y c' e => ?_, I.free, I.freeC, fun p hp => ?_, tracked ⟨oc, hoc, I.freeC x c hc⟩ hs, by simpa using I.len⟩ ⟨c, hs, .inr hc⟩
    · exact (hs.2 b (Nat.ne_of_lt (Nat.lt_of_lt_of_le (Heap.lt_size e) (I.ok.cab x c hfn hc)))).trans (I.base.keep b o e n hb hx)
    · obtain ⟨sl, e1⟩ := I.base.slot b o e n hb hx
      exact ⟨sl, (hs.2 b (Nat.ne_of_lt (Nat.lt_of_lt_of_le (Heap.lt_size e) (I.ok.cab x c hfn hc)))).trans e1⟩
    · obtain ⟨o', e1⟩ := I.base.there b o e hx
      exact ⟨o', (hs.2 b (Nat.ne_of_lt (Nat.lt_of_lt_of_le (Heap.lt_size e) (I.ok.cab x c hfn hc)))).trans e1⟩
    · by_cases hj : j = i
      · subst hj
        rw [hi] at e1; cases e1
        rw [List.getElem?_set_self hiσ] at e2
        cases e2
        exact ⟨u, r, .inr ⟨.inl hk, c, hc, hc'⟩⟩
      · rw [List.getElem?_set_ne (Ne.symm hj)] at e2
        obtain ⟨u', r', q⟩ := hl j y v' e1 e2 e3
        refine ⟨u', r', ?_⟩
        rcases q with q | ⟨k, c', e, z'⟩
        · exact .inl q
        · refine .inr ⟨k, c', e, z'.sameBut hs ?_⟩
          rintro rfl
          exact hj (nodup_ix hN e1 (I.ok.inj _ _ _ e hc ▸ hi))
    · by_cases hcc : c' = c
      · subst hcc; exact ⟨_, hc'⟩
      · obtain ⟨w2, z2⟩ := I.cell y c' e
        exact ⟨w2, z2.sameBut hs hcc⟩
    · obtain ⟨e, n, ne, nf, d⟩ := I.pin p hp
      refine ⟨(hs.2 p.1 ?_).trans e, n, ne, nf, d⟩
      intro q
      rw [q, hoc] at e
      have q' : oc = p.2 := Option.some.inj e
      exact d w' (by rw [← q']; exact hocd)
theorem store_ok {M : Model} {A : Around} {E : Value → Shared → Prop} {i : Nat} {x : Str} {v : V} {u : Value} {Q : Unit → Shared → Prop} (I : Inv X pins σ H s) (hN : X.N.Nodup) (hi : X.N[i]? = some x) (hx : Loc X.env.scope x) (r : RelV v u)
    (h : ∀ s', Inv X pins (σ.set i (some v)) H s' → Q () s') (hf : X.fn x = true ∨ X.env.scope.names.lookup x = some .local := by first | exact .inl rfl | exact .inr rfl | assumption) : wpAny M A (storeName X.env x u) Q E s :=
  store_ok2 I hN hi hx r (fun s' I' _ => h s' I') hf
/-- behind a call or a block, the state as it is -/
theorem Inv.call' {s' : Shared} {ch : List Addr} (I : Inv X pins σ H s) (ho : s'.os = s.os) (u : Un (frs X.stack) ch H H' s.heap s'.heap) (hok : HOk X.prog X.w H' s'.heap) (hg : AllBare s'.gens)
    (hch : ∀ b ∈ ch, (b ∈ X.ex ∨ X.s₀.heap.objs.size ≤ b) ∧ b ≠ X.env.locals ∧ (∀ x c, X.env.cells.lookup x = some c → c ≠ b) ∧ ∀ p ∈ X.pn ++ pins, p.1 ≠ b) : Inv X pins σ H' s' := by
  obtain ⟨h', g', d', t', o'⟩ := s'
  have e : o' = s.os := ho
  subst e
  exact I.call (g' := g') (t' := t') (d' := d') u hok hg hch
end
/-! ### the judgements -/
/-- an exception: its class, its own dict's address (where it has one), the abstract heap behind it -/
abbrev XK := Value → Option Addr → Hp → Prop
abbrev St := List (Option V)
abbrev VK := V → Hp → Prop
/-- an expression's reading; a test's; an argument list's -/
abbrev TE := St → Hp → VK → Prop
abbrev TT := St → Hp → (Bool → Hp → Prop) → Prop
abbrev TA := St → Hp → (List V → Hp → Prop) → Prop
/-- what is wanted behind a statement -/
structure Ends where
  nx : St → Hp → Prop
  rt : VK
  bk : St → Hp → Prop := fun _ _ => False
  ct : St → Hp → Prop := fun _ _ => False
abbrev TS := Ends → St → Hp → Prop
def EP (X : Cx) (pins : List (Addr × Obj)) (σ : St) (Q : VK) (u : Value) (s' : Shared) : Prop := ∃ v H', Inv X pins σ H' s' ∧ RelV v u ∧ Q v H'
def TP (X : Cx) (pins : List (Addr × Obj)) (σ : St) (Q : Bool → Hp → Prop) (b : Bool) (s' : Shared) : Prop := ∃ H', Inv X pins σ H' s' ∧ Q b H'
def AP (X : Cx) (pins : List (Addr × Obj)) (σ : St) (Q : List V → Hp → Prop) (us : List Value) (s' : Shared) : Prop := ∃ vs H', Inv X pins σ H' s' ∧ Vals vs us ∧ Q vs H'
def SP (X : Cx) (pins : List (Addr × Obj)) (D : Ends) (f : Flow) (s' : Shared) : Prop :=
  match f with
  | .next => ∃ σ' H', Inv X pins σ' H' s' ∧ D.nx σ' H'
  | .brk => ∃ σ' H', Inv X pins σ' H' s' ∧ D.bk σ' H'
  | .cont => ∃ σ' H', Inv X pins σ' H' s' ∧ D.ct σ' H'
  | .ret u => ∃ v σ' H', Inv X pins σ' H' s' ∧ RelV v u ∧ D.rt v H'
def PE (X : Cx) (e : Expr) (t : TE) : Prop :=
  ∀ (pins : List (Addr × Obj)) (s : Shared) (σ : St) (H : Hp) (Q : VK), Inv X pins σ H s → t σ H Q → wpAny (model X.prog X.w) X.A (eval e X.env) (EP X pins σ Q) X.xe s
def PT (X : Cx) (e : Expr) (t : TT) : Prop :=
  ∀ (pins : List (Addr × Obj)) (s : Shared) (σ : St) (H : Hp) (Q : Bool → Hp → Prop), Inv X pins σ H s → t σ H Q → wpAny (model X.prog X.w) X.A (isTrue e X.env (eval e X.env)) (TP X pins σ Q) X.xe s
/-- a test whatever its 'whole' is (and, or) -/
def PW (X : Cx) (e : Expr) (t : TT) : Prop :=
  ∀ (whole : Sem Value) (pins : List (Addr × Obj)) (s : Shared) (σ : St) (H : Hp) (Q : Bool → Hp → Prop), Inv X pins σ H s → t σ H Q → wpAny (model X.prog X.w) X.A (isTrue e X.env whole) (TP X pins σ Q) X.xe s
theorem PW.pt {X : Cx} {e : Expr} {t : TT} (h : PW X e t) : PT X e t := h _
/-- an argument list (no star), from the left -/
def PA (X : Cx) (es : List Expr) (t : TA) : Prop :=
  ∀ (pos : Pos) (pins : List (Addr × Obj)) (s : Shared) (σ : St) (H : Hp) (Q : List V → Hp → Prop), Inv X pins σ H s → t σ H Q → wpAny (model X.prog X.w) X.A (spliced (backTo pos (starEach es X.env))) (AP X pins σ Q) X.xe s
def PS (X : Cx) (st : Stmt) (t : TS) : Prop :=
  ∀ (pins : List (Addr × Obj)) (s : Shared) (σ : St) (H : Hp) (D : Ends), Inv X pins σ H s → t D σ H → wpAny (model X.prog X.w) X.A (exec st X.env) (SP X pins D) X.xe s
def PSs (X : Cx) (st : List Stmt) (t : TS) : Prop :=
  ∀ (pins : List (Addr × Obj)) (s : Shared) (σ : St) (H : Hp) (D : Ends), Inv X pins σ H s → t D σ H → wpAny (model X.prog X.w) X.A (execs st X.env) (SP X pins D) X.xe s
/-- weaken the end -/
theorem thn {α : Type} {t : Sem α} {Q Q' : α → Shared → Prop} {M : Model} {A : Around} {E : Value → Shared → Prop} {s : Shared} (h : wpAny M A t Q E s) (hQ : ∀ a s, Q a s → Q' a s) : wpAny M A t Q' E s := wpAny_mono h hQ fun _ _ x => x
end L2
namespace L2
open PySem PySem.Spec PyProof.Rows
section
variable {X : Cx}
/-- two expressions in a row -/
theorem bin {a b : Expr} {ta tb : TE} (ha : PE X a ta) (hb : PE X b tb) {pins : List (Addr × Obj)} {s : Shared} {σ : St} {H : Hp} {R : V → V → Hp → Prop} (I : Inv X pins σ H s) (h : ta σ H fun x H1 => tb σ H1 fun y H2 => R x y H2)
    {α : Type} {Q : α → Shared → Prop} {f : Value → Value → Sem α}
    (hf : ∀ v u s2 x y H2, Inv X pins σ H2 s2 → RelV x v → RelV y u → R x y H2 → wpAny (model X.prog X.w) X.A (f v u) Q X.xe s2) :
    wpAny (model X.prog X.w) X.A (eval a X.env) (fun v s₁ => wpAny (model X.prog X.w) X.A (eval b X.env) (fun u s₂ => wpAny (model X.prog X.w) X.A (f v u) Q X.xe s₂) X.xe s₁) X.xe s := by
  refine thn (ha pins s σ H _ I h) fun v s1 ⟨x, H1, I1, r1, q1⟩ => ?_
  refine thn (hb pins s1 σ H1 _ I1 q1) fun u s2 ⟨y, H2, I2, r2, q2⟩ => ?_
  exact hf v u s2 x y H2 I2 r1 r2 q2
/-! ### names and constants -/
def tVar (i : Nat) : TE := fun σ H Q => ∃ v, σ[i]? = some (some v) ∧ Q v H
def tC (v : V) : TE := fun _ H Q => Q v H
theorem pe_var {i : Nat} {x : Str} {pos : Pos} (hN : X.N[i]? = some x) (hv : Vis X.env.scope x) (hd : (x == ("__debug__" : Str)) = false := by decide) (hcd : (x == ("__classdict__" : Str)) = false := by decide) : PE X (.Name x pos) (tVar i) := by
  intro pins s σ H Q I h
  obtain ⟨v, e, h⟩ := h
  obtain ⟨m, hn, hl⟩ := I.loc
  obtain ⟨u, r, l⟩ := hl i x v hN e hv
  have fin : EP X pins σ Q u s := ⟨v, H, I, r, h⟩
  rcases l with ⟨hk, hm⟩ | ⟨hk, c, hc, hcell⟩
  · exact wpAny_Name (wpAny_loadName_local I.ok.kind hk hn hm fin) hd
  · rcases hk with hk | hk
    · exact wpAny_Name (wpAny_loadName_cell I.ok.kind hk hc hcell fin) hd
    · exact wpAny_Name (wpAny_loadName_free I.ok.kind hk hc hcell fin hcd) hd
theorem pe_int {i j pos} : PE X (.Constant (.int i) j pos) (tC (.int i)) := fun _ _ _ H _ I h => wpAny_Constant_int ⟨.int i, H, I.tok _, ⟨_, rfl⟩, h⟩
theorem pe_bl {b j pos} : PE X (.Constant (.bool b) j pos) (tC (.bl b)) := fun _ _ _ H _ I h => Constant_bool ⟨.bl b, H, I, rfl, h⟩
theorem pe_non {j pos} : PE X (.Constant .none j pos) (tC .non) := fun _ _ _ H _ I h => Constant_none ⟨.non, H, I, rfl, h⟩
theorem pe_str {x j pos} : PE X (.Constant (.str x) j pos) (tC (.str x)) := fun _ _ _ H _ I h => Calls.Constant_str ⟨.str x, H, I.tok _, ⟨_, rfl⟩, h⟩
/-- a global name of the def -/
def Gl (X : Cx) (x : Str) : Prop := X.env.kindOf x = some .globalImplicit
theorem ld_glob {E : Value → Shared → Prop} {pins : List (Addr × Obj)} {s : Shared} {σ : St} {H : Hp} {x : Str} {u : Value} {pos : Pos} {Q : Value → Shared → Prop} (I : Inv X pins σ H s) (hg : Gl X x) (hm : X.mg x = some u) (h : Q u s)
    (hd : (x == ("__debug__" : Str)) = false := by decide) : wpAny (model X.prog X.w) X.A (eval (.Name x pos) X.env) Q E s :=
  Calls.Name_function_global I.ok.kind hg (Calls.loadGlobal_global (by rw [I.ok.glob]; exact I.mod.glob.keeps I.bk) hm h) hd
theorem ld_blt {E : Value → Shared → Prop} {pins : List (Addr × Obj)} {s : Shared} {σ : St} {H : Hp} {x : Str} {u : Value} {pos : Pos} {Q : Value → Shared → Prop} (I : Inv X pins σ H s) (hg : Gl X x) (hm : X.mg x = none) (hv : bootBuiltins x = some u) (h : Q u s)
    (hn : x ≠ "__name__" := by decide) (hd : (x == ("__debug__" : Str)) = false := by decide) : wpAny (model X.prog X.w) X.A (eval (.Name x pos) X.env) Q E s := by
  obtain ⟨mb, h1, h2⟩ := I.mod.blt
  exact Calls.Name_function_global I.ok.kind hg (Calls.loadGlobal_builtin (by rw [I.ok.glob]; exact I.mod.glob.keeps I.bk) hm (by rw [I.ok.blt]; exact h1.keeps I.bk) ((h2 x hn).trans hv) h) hd
/-- a module's constant, a class, a function, as a value -/
theorem pe_glob {x : Str} {v : V} {u : Value} {pos : Pos} (hg : Gl X x) (hm : X.mg x = some u) (r : RelV v u) (hd : (x == ("__debug__" : Str)) = false := by decide) : PE X (.Name x pos) (tC v) :=
  fun _ _ _ H _ I h => ld_glob I hg hm ⟨v, H, I, r, h⟩ hd
theorem pe_bltn {x : Str} {v : V} {u : Value} {pos : Pos} (hg : Gl X x) (hm : X.mg x = none) (hv : bootBuiltins x = some u) (r : RelV v u) (hn : x ≠ "__name__" := by decide) (hd : (x == ("__debug__" : Str)) = false := by decide) : PE X (.Name x pos) (tC v) :=
  fun _ _ _ H _ I h => ld_blt I hg hm hv ⟨v, H, I, r, h⟩ hn hd
variable {a b : Expr} {ta tb : TE} {pos : Pos}
/-! ### comparisons -/
def PC (X : Cx) (op : CmpOp) (a b : Expr) (t : TE) : Prop :=
  ∀ (pins : List (Addr × Obj)) (s : Shared) (σ : St) (H : Hp) (Q : VK), Inv X pins σ H s → t σ H Q →
    wpAny (model X.prog X.w) X.A (eval a X.env) (fun v s₁ => wpAny (model X.prog X.w) X.A (eval b X.env) (fun u s₂ => wpAny (model X.prog X.w) X.A (compareOp op v u) (EP X pins σ Q) X.xe s₂) X.xe s₁) X.xe s
theorem nobehind (b : Expr) {op : CmpOp} (h : op ≠ .In) (h2 : op ≠ .NotIn) : behindInMarks op b = false := by
  have e1 : (op == CmpOp.In) = false := by cases op <;> first | rfl | exact absurd rfl h
  have e2 : (op == CmpOp.NotIn) = false := by cases op <;> first | rfl | exact absurd rfl h2
  cases b <;> simp [behindInMarks, e1, e2]
/-- a comparison as a value, as a test -/
def tB (t : TE) : TT := fun σ H Q => t σ H fun x H1 => ∃ c, x = .bl c ∧ Q c H1
theorem pt_cmp {op : CmpOp} {t : TE} (h : PC X op a b t) (h1 : behindInMarks op b = false := by first | exact nobehind _ (by decide) (by decide) | rfl) : PT X (.Compare a [op] [b] pos) (tB t) := by
  intro pins s σ H Q I hw
  refine wpAny_isTrue_Compare1 (thn (h pins s σ H _ I hw) fun v s1 h1 => thn h1 fun u s2 h2 => thn h2 fun c s3 ⟨x, H1, I1, r1, q1⟩ => ?_) h1
  obtain ⟨d, rfl, q⟩ := q1
  cases r1
  exact wpAny_truthy_bool ⟨H1, I1, q⟩
/-- an expression whose value is a bool, as a test -/
theorem pt_val {e : Expr} {t : TE} (h : PE X e t) (he : ∀ whole, isTrue e X.env whole = (do let v ← whole; standAt e.pos; holding [v] (truthy v)) := by intro _; rfl) : PT X e (tB t) := by
  intro pins s σ H Q I hw
  refine isTrue_plain (thn (h pins s σ H _ I hw) fun v s1 ⟨x, H1, I1, r1, q1⟩ => ?_) (he _)
  obtain ⟨d, rfl, q⟩ := q1
  cases r1
  exact wpAny_truthy_bool ⟨H1, I1, q⟩
/-! ### and, or, not -/
variable {tA tB' : TT} {rest : List Expr}
def tAnd (t u : TT) : TT := fun σ H Q => t σ H fun c H1 => if c = true then u σ H1 Q else Q false H1
def tOr (t u : TT) : TT := fun σ H Q => t σ H fun c H1 => if c = true then Q true H1 else u σ H1 Q
def tNot (t : TT) : TT := fun σ H Q => t σ H fun c H1 => Q (!c) H1
theorem pw_and1 (ha : PT X a tA) : PW X (.BoolOp .And [a] pos) tA := by
  intro wh pins s σ H Q I h
  refine isTrue_and (thn (ha pins s σ H Q I h) fun c s1 e => ?_)
  cases c with
  | true => exact isTrue_and_nil e
  | false => exact e
theorem pw_or1 (ha : PT X a tA) : PW X (.BoolOp .Or [a] pos) tA := by
  intro wh pins s σ H Q I h
  refine isTrue_or (thn (ha pins s σ H Q I h) fun c s1 e => ?_)
  cases c with
  | false => exact isTrue_or_nil e
  | true => exact e
theorem pw_and (ha : PT X a tA) (hb : PW X (.BoolOp .And (b :: rest) pos) tB') : PW X (.BoolOp .And (a :: b :: rest) pos) (tAnd tA tB') := by
  intro wh pins s σ H Q I h
  refine isTrue_and (thn (ha pins s σ H _ I h) fun c s1 ⟨H1, I1, q1⟩ => ?_)
  cases c with
  | true => exact hb wh pins s1 σ H1 Q I1 q1
  | false => exact ⟨H1, I1, q1⟩
theorem pw_or (ha : PT X a tA) (hb : PW X (.BoolOp .Or (b :: rest) pos) tB') : PW X (.BoolOp .Or (a :: b :: rest) pos) (tOr tA tB') := by
  intro wh pins s σ H Q I h
  refine isTrue_or (thn (ha pins s σ H _ I h) fun c s1 ⟨H1, I1, q1⟩ => ?_)
  cases c with
  | true => exact ⟨H1, I1, q1⟩
  | false => exact hb wh pins s1 σ H1 Q I1 q1
theorem pt_not (ha : PT X a tA) : PT X (.UnaryOp .Not a pos) (tNot tA) := by
  intro pins s σ H Q I h
  exact isTrue_not (ha pins s σ H (fun c H1 => Q (!c) H1) I h)
/-- .. as values (bools) -/
def tAndV (ta tb : TE) : TE := fun σ H Q => ta σ H fun x H1 => ∃ c, x = .bl c ∧ if c = true then tb σ H1 Q else Q (.bl false) H1
def tNotV (ta : TE) : TE := fun σ H Q => ta σ H fun x H1 => ∃ c, x = .bl c ∧ Q (.bl (!c)) H1
theorem pe_one {op} {t : TE} (h : PE X a t) : PE X (.BoolOp op [a] pos) t := fun pins s σ H Q I hw => BoolOp_one (h pins s σ H Q I hw)
theorem pe_and (ha : PE X a ta) (hb : PE X (.BoolOp .And (b :: rest) pos) tb) : PE X (.BoolOp .And (a :: b :: rest) pos) (tAndV ta tb) := by
  intro pins s σ H Q I h
  refine BoolOp_and (thn (ha pins s σ H _ I h) fun v s1 ⟨x, H1, I1, r1, q1⟩ => ?_)
  obtain ⟨c, rfl, q1⟩ := q1
  cases r1
  refine wpAny_truthy_bool ?_
  cases c with
  | true => exact hb pins s1 σ H1 Q I1 q1
  | false => exact ⟨.bl false, H1, I1, rfl, q1⟩
theorem pe_not (ha : PE X a ta) : PE X (.UnaryOp .Not a pos) (tNotV ta) := by
  intro pins s σ H Q I h
  refine UnaryOp_ (thn (ha pins s σ H _ I h) fun v s1 ⟨x, H1, I1, r1, q1⟩ => ?_)
  obtain ⟨c, rfl, q1⟩ := q1
  cases r1
  exact not_of (wpAny_truthy_bool ⟨.bl (!c), H1, I1, rfl, q1⟩)
end
end L2
namespace L2
open PySem PySem.Spec PyProof.Rows
/-! ### a list, a tuple that is read: tracked, frozen, or an object of the module -/
def SqL (K : PySem.W.Frag) (H : Hp) (a : Addr) (xs : List V) : Prop :=
  Rd H a (.lst xs) ∨
    ∃ (o : Obj) (its : Array Value) (n : Nat), K.lookup a = some o ∧ o.cls = .type "list" ∧ o.dict = none ∧ o.data = .seq its n ∧ its.size ≤ sizeLine ∧ Vals xs its.toList
def SqT (K : PySem.W.Frag) (H : Hp) (a : Addr) (xs : List V) : Prop :=
  Rd H a (.tup xs) ∨
    ∃ (o : Obj) (its : Array Value) (n : Nat), K.lookup a = some o ∧ o.cls = .type "tuple" ∧ o.data = .seq its n ∧ its.size ≤ sizeLine ∧ Vals xs its.toList
def absV : Value → Option V
  | .none => some .non
  | .bool b => some (.bl b)
  | .int i _ => some (.int i)
  | .str x _ => some (.str x)
  | .bytes b _ => some (.byt b)
  | .float b _ => some (.flt b)
  | .ref a => some (.ref a)
  | .type n => some (.ty n)
  | _ => none
theorem RelV.abs {x : V} {u : Value} (r : RelV x u) : absV u = some x := by
  cases x with
  | non => cases r; rfl
  | bl _ => cases r; rfl
  | int _ => obtain ⟨t, rfl⟩ := r; rfl
  | str _ => obtain ⟨t, rfl⟩ := r; rfl
  | byt _ => obtain ⟨t, rfl⟩ := r; rfl
  | flt _ => obtain ⟨t, rfl⟩ := r; rfl
  | ref _ => cases r; rfl
  | ty _ => cases r; rfl
theorem RelV.inj {x y : V} {u : Value} (r : RelV x u) (q : RelV y u) : x = y := Option.some.inj (r.abs.symm.trans q.abs)
theorem Vals.inj : ∀ {xs ys : List V} {us : List Value}, Vals xs us → Vals ys us → xs = ys
  | _, _, _, .nil, .nil => rfl
  | _, _, _, .cons r t, .cons r' t' => by rw [r.inj r', Vals.inj t t']
section
variable {X : Cx} {pins : List (Addr × Obj)} {σ : St} {H : Hp} {s : Shared} {a : Addr} {xs ys : List V}
theorem SqL.of {K : PySem.W.Frag} (h : H a = some (.lst xs)) : SqL K H a xs := .inl (.inl h)
theorem SqT.of {K : PySem.W.Frag} (h : H a = some (.tup xs)) : SqT K H a xs := .inl (.inl h)
theorem Inv.list (I : Inv X pins σ H s) (h : SqL X.K H a xs) : ∃ its : List Value, Vals xs its ∧ PlainL s.heap a its.toArray ∧ xs.length ≤ sizeLine := by
  rcases h with h | ⟨o, its, n, hk, hc, hd, hs, hz, r⟩
  · obtain ⟨z, its, n, r, e⟩ := h.ok I.hok
    exact ⟨its, r, ⟨_, n, e, rfl, rfl, rfl⟩, z⟩
  · refine ⟨its.toList, r, ⟨o, n, I.kIn a o hk, hc, hd, by simpa using hs⟩, ?_⟩
    have e := r.length
    simp only [Array.length_toList] at e
    omega
theorem Inv.tuple (I : Inv X pins σ H s) (h : SqT X.K H a xs) : ∃ its : List Value, Vals xs its ∧ IsTup s.heap a its.toArray ∧ xs.length ≤ sizeLine := by
  rcases h with h | ⟨o, its, n, hk, hc, hs, hz, r⟩
  · obtain ⟨z, its, r, p⟩ := h.ok I.hok
    exact ⟨its, r, p, z⟩
  · refine ⟨its.toList, r, ⟨o, I.kIn a o hk, hc, n, by simpa using hs⟩, ?_⟩
    have e := r.length
    simp only [Array.length_toList] at e
    omega
theorem Inv.list_inj (I : Inv X pins σ H s) (h : SqL X.K H a xs) (h' : SqL X.K H a ys) : xs = ys := by
  obtain ⟨its, r, ⟨o, n, e, _, _, d⟩, _⟩ := I.list h
  obtain ⟨its', r', ⟨o', n', e', _, _, d'⟩, _⟩ := I.list h'
  rw [e] at e'; cases e'
  rw [d] at d'
  injection d' with d1 _
  have : its = its' := by simpa using congrArg Array.toList d1
  subst this
  exact r.inj r'
theorem Inv.tuple_inj (I : Inv X pins σ H s) (h : SqT X.K H a xs) (h' : SqT X.K H a ys) : xs = ys := by
  obtain ⟨its, r, ⟨o, e, _, n, d⟩, _⟩ := I.tuple h
  obtain ⟨its', r', ⟨o', e', _, n', d'⟩, _⟩ := I.tuple h'
  rw [e] at e'; cases e'
  rw [d] at d'
  injection d' with d1 _
  have : its = its' := by simpa using congrArg Array.toList d1
  subst this
  exact r.inj r'
end
/-! ### another wish about exceptions -/
abbrev Cx.wish (X : Cx) (E : Value → Shared → Prop) : Cx := { X with xe := E }
/-- no exception leaves -/
abbrev Cx.nox (X : Cx) : Cx := X.wish fun _ _ => False
theorem Cx.Ok.wish {X : Cx} (ok : X.Ok) (E : Value → Shared → Prop) : (X.wish E).Ok :=
  ⟨ok.mod, ok.kind, ok.glob, ok.blt, ok.above, ok.inj, ok.has, ok.cab, ok.hd, ok.frames, ok.stk, ok.exf, ok.bs, ok.bsz, ok.noex, ok.exfs, ok.funs, ok.frf⟩
theorem Cx.Ok.unwish {X : Cx} {E : Value → Shared → Prop} (ok : (X.wish E).Ok) : X.Ok :=
  ⟨ok.mod, ok.kind, ok.glob, ok.blt, ok.above, ok.inj, ok.has, ok.cab, ok.hd, ok.frames, ok.stk, ok.exf, ok.bs, ok.bsz, ok.noex, ok.exfs, ok.funs, ok.frf⟩
section
variable {X : Cx} {pins : List (Addr × Obj)} {σ : St} {H : Hp} {s : Shared} {E : Value → Shared → Prop}
theorem Inv.wish (I : Inv X pins σ H s) (E : Value → Shared → Prop) : Inv (X.wish E) pins σ H s := ⟨I.ok.wish E, I.os, I.bare, I.base, I.loc, I.cell, I.free, I.freeC, I.pin, I.hok, I.len⟩
theorem Inv.unwish (I : Inv (X.wish E) pins σ H s) : Inv X pins σ H s := ⟨I.ok.unwish, I.os, I.bare, I.base, I.loc, I.cell, I.free, I.freeC, I.pin, I.hok, I.len⟩
theorem SP.unwish {D : Ends} {f : Flow} {s' : Shared} (h : SP (X.wish E) pins D f s') : SP X pins D f s' := by
  cases f with
  | next => obtain ⟨σ', H', I, q⟩ := h; exact ⟨σ', H', I.unwish, q⟩
  | brk => obtain ⟨σ', H', I, q⟩ := h; exact ⟨σ', H', I.unwish, q⟩
  | cont => obtain ⟨σ', H', I, q⟩ := h; exact ⟨σ', H', I.unwish, q⟩
  | ret u => obtain ⟨v, σ', H', I, r, q⟩ := h; exact ⟨v, σ', H', I.unwish, r, q⟩
theorem PE.nox {e : Expr} {t : TE} (h : PE X.nox e t) : PE X e t := fun pins s σ H Q I hw =>
  wpAny_mono (h pins s σ H Q (I.wish _) hw) (fun _ _ ⟨v, H', I', r, q⟩ => ⟨v, H', I'.unwish, r, q⟩) fun _ _ z => False.elim z
theorem PT.nox {e : Expr} {t : TT} (h : PT X.nox e t) : PT X e t := fun pins s σ H Q I hw =>
  wpAny_mono (h pins s σ H Q (I.wish _) hw) (fun _ _ ⟨H', I', q⟩ => ⟨H', I'.unwish, q⟩) fun _ _ z => False.elim z
theorem PSs.nox {st : List Stmt} {t : TS} (h : PSs X.nox st t) : PSs X st t := fun pins s σ H D I hw =>
  wpAny_mono (h pins s σ H D (I.wish _) hw) (fun _ _ q => q.unwish) fun _ _ z => False.elim z
end
/-! ### blocks and small statements -/
section
variable {X : Cx} {st : Stmt} {rest : List Stmt} {t u : TS} {e : Expr} {te : TE} {pos : Pos}
def tNext : TS := fun D σ H => D.nx σ H
def tSeq (t u : TS) : TS := fun D σ H => t { D with nx := u D } σ H
theorem pss_nil : PSs X [] tNext := fun _ _ σ H _ I h => wpAny_execs_nil ⟨σ, H, I, h⟩
theorem pss_cons (h1 : PS X st t) (h2 : PSs X rest u) : PSs X (st :: rest) (tSeq t u) := by
  intro pins s σ H D I h
  refine wpAny_execs_cons (thn (h1 pins s σ H { D with nx := u D } I h) fun f s1 q => ?_)
  cases f with
  | next =>
    obtain ⟨σ', H', I', q⟩ := q
    exact h2 pins s1 σ' H' D I' q
  | ret v => exact q
  | brk => exact q
  | cont => exact q
theorem pss_one (h1 : PS X st t) : PSs X [st] t := by
  intro pins s σ H D I h
  refine wpAny_execs_cons (thn (h1 pins s σ H D I h) fun f s1 q => ?_)
  cases f with
  | next => exact wpAny_execs_nil q
  | ret v => exact q
  | brk => exact q
  | cont => exact q
/-- in a def's body nothing is shown -/
theorem Inv.quiet {pins : List (Addr × Obj)} {σ : St} {H : Hp} {s : Shared} (I : Inv X pins σ H s) : interactive X.env = false := by simp [interactive, I.ok.kind]
/-- an expression whose value is dropped -/
def tDrop (te : TE) : TS := fun D σ H => te σ H fun _ H1 => D.nx σ H1
theorem ps_expr (he : PE X e te) (hs : swapsWith e none pos.line X.env = pure false := by rfl) : PS X (.Expr e pos) (tDrop te) := by
  intro pins s σ H D I h
  exact wpAny_Expr_any (thn (he pins s σ H _ I h) fun v s1 ⟨x, H1, I1, r1, q1⟩ => ⟨σ, H1, I1, q1⟩) I.quiet hs
def tRet (te : TE) : TS := fun D σ H => te σ H D.rt
theorem ps_ret (he : PE X e te) : PS X (.Return (some e) pos) (tRet te) := by
  intro pins s σ H D I h
  exact wpAny_Return_some (thn (he pins s σ H _ I h) fun v s1 ⟨x, H1, I1, r1, q1⟩ => ⟨x, σ, H1, I1, r1, q1⟩)
def tIfS (c : TT) (t u : TS) : TS := fun D σ H => c σ H fun b H1 => if b = true then t D σ H1 else u D σ H1
theorem ps_if {c : Expr} {a b : List Stmt} {tc : TT} (hc : PT X c tc) (ha : PSs X a t) (hb : PSs X b u) : PS X (.If c a b pos) (tIfS tc t u) := by
  intro pins s σ H D I h
  refine wpAny_If (thn (hc pins s σ H _ I h) fun d s1 ⟨H1, I1, q1⟩ => ?_)
  cases d with
  | true => exact ha pins s1 σ H1 D I1 q1
  | false => exact hb pins s1 σ H1 D I1 q1
end
/-! ### targets -/
abbrev TG := V → St → Hp → (St → Hp → Prop) → Prop
def PG (X : Cx) (target : Expr) (t : TG) : Prop :=
  ∀ (pins : List (Addr × Obj)) (s : Shared) (σ : St) (H : Hp) (v : V) (u : Value) (Q : St → Hp → Prop), Inv X pins σ H s → RelV v u → t v σ H Q →
    wpAny (model X.prog X.w) X.A (assign target X.env u) (fun _ s' => ∃ σ' H', Inv X pins σ' H' s' ∧ Q σ' H') X.xe s
/-- o[i] = v, by values -/
abbrev TSet := V → V → V → Hp → (Hp → Prop) → Prop
def PSet (X : Cx) (t : TSet) : Prop :=
  ∀ (pins : List (Addr × Obj)) (s : Shared) (σ : St) (H : Hp) (o i v : V) (ov iv u : Value) (Q : Hp → Prop), Inv X pins σ H s → RelV o ov → RelV i iv → RelV v u → t o i v H Q →
    wpAny (model X.prog X.w) X.A (setItem ov iv u) (fun _ s' => ∃ H', Inv X pins σ H' s' ∧ Q H') X.xe s
section
variable {X : Cx} {pos : Pos}
def gName (i : Nat) : TG := fun v σ H Q => Q (σ.set i (some v)) H
theorem pg_name {i : Nat} {x : Str} (hN : X.N.Nodup) (hi : X.N[i]? = some x) (hx : Loc X.env.scope x) (hf : X.fn x = true ∨ X.env.scope.names.lookup x = some .local := by first | exact .inl rfl | exact .inr rfl | assumption) : PG X (.Name x pos) (gName i) := by
  intro pins s σ H v u Q I r h
  exact wpAny_assign_Name (store_ok I hN hi hx r (fun s' I' => ⟨_, H, I', h⟩) hf)
/-- o[i] = .. -/
def gSub (to ti : TE) (t : TSet) : TG := fun v σ H Q => to σ H fun o H1 => ti σ H1 fun i H2 => t o i v H2 fun H3 => Q σ H3
theorem pg_sub {o i : Expr} {to ti : TE} {t : TSet} (ho : PE X o to) (hi : PE X i ti) (hs : PSet X t)
    (ha : ∀ v, assign (.Subscript o i pos) X.env v = (do
      let ov ← holding [v] (eval o X.env)
      let iv ← holding [v, ov] (eval i X.env)
      standAt pos
      holding [v, ov, iv] (setItem ov iv v)
      release [v, ov, iv] []) := by intro _; rfl) : PG X (.Subscript o i pos) (gSub to ti t) := by
  intro pins s σ H v u Q I r h
  rw [ha]
  refine wpAny_bind (wpAny_holding (thn (ho pins s σ H _ I h) fun ov s1 ⟨x, H1, I1, r1, q1⟩ => ?_))
  refine wpAny_bind (wpAny_holding (thn (hi pins s1 σ H1 _ I1 q1) fun iv s2 ⟨y, H2, I2, r2, q2⟩ => ?_))
  refine wpAny_bind (wpAny_standAt (wpAny_bind (wpAny_holding (thn (hs pins s2 σ H2 x y v ov iv u _ I2 r1 r2 r q2) fun _ s3 ⟨H3, I3, q3⟩ => ?_))))
  exact wpAny_release ⟨σ, H3, I3, q3⟩
/-- target = value -/
def tAsg (te : TE) (g : TG) : TS := fun D σ H => te σ H fun x H1 => g x σ H1 D.nx
theorem ps_asg {tg e : Expr} {te : TE} {g : TG} (he : PE X e te) (hg : PG X tg g) (hs : swapsWithSole [tg] e pos.line X.env = pure false := by rfl) (hw : swappedStores [tg] e X.env = pure none := by rfl)
    (h1 : (assignEach [tg] X.env).map (·.2) = [assign tg X.env] := by rfl) : PS X (.Assign [tg] e pos) (tAsg te g) := by
  intro pins s σ H D I h
  refine wpAny_Assign_stores (thn (he pins s σ H _ I h) fun v s1 ⟨x, H1, I1, r1, q1⟩ => ?_) hs hw
  rw [h1]
  exact thn (hg pins s1 σ H1 x v _ I1 r1 q1) fun _ s2 q => q
/-- name = value -/
theorem ps_set {i : Nat} {x : Str} {e : Expr} {te : TE} {pos' : Pos} (hN : X.N.Nodup) (hi : X.N[i]? = some x) (hx : Loc X.env.scope x) (he : PE X e te) (hs : swapsWith e (some (.Name x pos')) pos.line X.env = pure false := by rfl) (hf : X.fn x = true ∨ X.env.scope.names.lookup x = some .local := by first | exact .inl rfl | exact .inr rfl | assumption) :
    PS X (.Assign [.Name x pos'] e pos) (tAsg te (gName i)) := by
  intro pins s σ H D I h
  refine wpAny_Assign_Name (thn (he pins s σ H _ I h) fun v s1 ⟨y, H1, I1, r1, q1⟩ => ?_) hs
  exact store_ok I1 hN hi hx r1 (fun s2 I2 => ⟨_, H1, I2, q1⟩) hf
end
/-! ### while -/
section
variable {X : Cx} {pos : Pos}
/-- the invariant W with its measure -/
def tWhile (c : TT) (tb : TS) : TS := fun D σ H => ∃ W : Nat → St → Hp → Prop, (∃ m, W m σ H) ∧ ∀ m σ H, W m σ H →
  c σ H fun b H1 => if b = true then ∃ N : St → Hp → Prop, (∀ σ' H', N σ' H' → ∃ m', m' < m ∧ W m' σ' H') ∧ tb { D with nx := N, ct := N, bk := D.nx } σ H1 else D.nx σ H1
theorem ps_while {c : Expr} {body : List Stmt} {tc : TT} {tb : TS} (hp : PassesOwn (model X.prog X.w) X.A X.env X.xe) (hc : PT X c tc) (hb : PSs X body tb) : PS X (.While c body [] pos) (tWhile tc tb) := by
  intro pins s σ H D I h
  obtain ⟨W, ⟨m0, w0⟩, turn⟩ := h
  refine wpAny_While (codeAny_whileLoop (fun n s' => ∃ σ' H', Inv X pins σ' H' s' ∧ W n σ' H') ?_ m0 ⟨σ, H, I, w0⟩)
  rintro n s1 ⟨σ1, H1, I1, w1⟩
  refine wpAny_passesOwn hp (thn (hc pins s1 σ1 H1 _ I1 (turn n σ1 H1 w1)) fun b s2 ⟨H2, I2, q2⟩ => ?_)
  cases b with
  | true =>
    obtain ⟨N, hN, q2⟩ := q2
    rw [if_pos rfl]
    refine wpAny_passesOwn hp (thn (hb pins s2 σ1 H2 _ I2 q2) fun f s3 q3 => ?_)
    cases f with
    | next =>
      obtain ⟨σ3, H3, I3, n3⟩ := q3
      obtain ⟨m', hm, w3⟩ := hN σ3 H3 n3
      exact ⟨m', hm, σ3, H3, I3, w3⟩
    | cont =>
      obtain ⟨σ3, H3, I3, n3⟩ := q3
      obtain ⟨m', hm, w3⟩ := hN σ3 H3 n3
      exact ⟨m', hm, σ3, H3, I3, w3⟩
    | brk => exact q3
    | ret v => exact q3
  | false =>
    rw [if_neg Bool.false_ne_true]
    exact wpAny_execs_nil ⟨σ1, H2, I2, q2⟩
end
/-! ### what a loop or a comprehension walks -/
/-- at turn i: it yields x (the heap may grow), or it stops -/
structure It where
  go : Nat → Hp → Prop
  yld : Nat → Hp → V → Hp → Prop
  stop : Nat → Hp → Prop
/-- the iterator's own objects may turn: they are not the frame's, not pinned, younger than the entry (or a comprehension's own) -/
def FpOk (X : Cx) (pins : List (Addr × Obj)) (H : Hp) (b : Addr) : Prop :=
  H b = none ∧ b ≠ X.env.locals ∧ b ∉ X.fs ∧ (b ∈ X.ex ∨ X.s₀.heap.objs.size ≤ b) ∧ (∀ x c, X.env.cells.lookup x = some c → c ≠ b) ∧ ∀ p ∈ X.pn ++ pins, p.1 ≠ b
theorem Inv.fpOk {X : Cx} {pins : List (Addr × Obj)} {σ : St} {H H' : Hp} {s : Shared} {b : Addr} (I : Inv X pins σ H s) (hb : s.heap.objs.size ≤ b) (hn : H' b = none) : FpOk X pins H' b := by
  refine ⟨hn, Nat.ne_of_gt (Nat.lt_of_lt_of_le I.lt hb), I.nofs hb, .inr (Nat.le_trans I.sz hb), fun x c e z => ?_, fun p hp z => ?_⟩
  · obtain ⟨v, q⟩ := I.cell x c e
    exact absurd (Nat.lt_of_lt_of_le q.lt (by rw [z]; exact hb)) (Nat.lt_irrefl _)
  · exact absurd (Nat.lt_of_lt_of_le (Heap.lt_size (I.pin p hp).1) (by rw [z]; exact hb)) (Nat.lt_irrefl _)
structure Turn (P : Program) (w : World) (K : PySem.W.Frag) (tg : Expr) (J : It) (fp : List Addr) (it : Addr) (tn : Nat → Heap → Prop) : Prop where
  mem : it ∈ fp
  obj : ∀ i h, tn i h → ∀ b ∈ fp, ∃ o, h.get? b = some o ∧ ∀ v, o.data ≠ .cell v
  keep : ∀ i h h', tn i h → (∀ b ∈ fp, ∀ o, h.get? b = some o → h'.get? b = some o) → tn i h'
  item : ∀ (X : Cx), X.prog = P → X.w = w → X.K = K → X.calm = true → ∀ (i : Nat) (pins : List (Addr × Obj)) (s : Shared) (σ : St) (H : Hp) (E : Value → Shared → Prop), Inv X pins σ H s → (∀ b ∈ fp, FpOk X pins H b) → tn i s.heap → J.go i H →
    wpAny (model P w) X.A (pyNext (.ref it)) (fun r s1 => ∃ u, r = some u ∧
      wpAny (model P w) X.A (letOwnedTupleGo tg (.ref it) u) (fun _ s2 => ∃ x H', Inv X pins σ H' s2 ∧ RelV x u ∧ J.yld i H x H' ∧ tn (i + 1) s2.heap ∧ ∀ b ∈ fp, H' b = none) E s1) E s
  done : ∀ (X : Cx), X.prog = P → X.w = w → X.K = K → X.calm = true → ∀ (i : Nat) (pins : List (Addr × Obj)) (s : Shared) (σ : St) (H : Hp) (E : Value → Shared → Prop), Inv X pins σ H s → (∀ b ∈ fp, FpOk X pins H b) → tn i s.heap → J.stop i H →
    wpAny (model P w) X.A (pyNext (.ref it)) (fun r s1 => r = none ∧ Inv X pins σ H s1) E s
  self : ∀ (A : Around) (i : Nat) (s : Shared) (Q : Value → Shared → Prop) (E : Value → Shared → Prop), tn i s.heap → Q (.ref it) s → wpAny (model P w) A (pyIter (.ref it)) Q E s
abbrev TI := St → Hp → (It → Hp → Prop) → Prop
/-- an iterator has come -/
def PIE (X : Cx) (pins : List (Addr × Obj)) (σ : St) (tg : Expr) (R : It → Hp → Prop) (itv : Value) (s2 : Shared) : Prop :=
  ∃ (it : Addr) (fp : List Addr) (tn : Nat → Heap → Prop) (J : It) (H' : Hp), itv = .ref it ∧ Inv X pins σ H' s2 ∧ Turn X.prog X.w X.K tg J fp it tn ∧ tn 0 s2.heap ∧ (∀ b ∈ fp, FpOk X pins H' b) ∧ R J H'
def PI (X : Cx) (tg iter : Expr) (wi : TI) : Prop :=
  ∀ (pins : List (Addr × Obj)) (s : Shared) (σ : St) (H : Hp) (R : It → Hp → Prop), Inv X pins σ H s → wi σ H R →
    wpAny (model X.prog X.w) X.A (eval iter X.env) (fun v s1 => wpAny (model X.prog X.w) X.A (pyIter v) (PIE X pins σ tg R) X.xe s1) X.xe s
/-- the step ahead of the store is nothing for an iterator that keeps no tuple -/
theorem go_of {M : Model} {A : Around} {E : Value → Shared → Prop} {s : Shared} {tg : Expr} {it : Addr} {u : Value} {o : Obj} {n : String} {vs : Array Value} {Q : Unit → Shared → Prop} (ho : s.heap.get? it = some o) (hc : o.cls = .type n) (hd : o.data = .fields vs)
    (hn : ["enumerate", "zip", "dict_itemiterator", "dict_reverseitemiterator", "odict_iterator", "itertools.zip_longest", "itertools.pairwise"].contains n = false) (hQ : Q () s) : wpAny M A (letOwnedTupleGo tg (.ref it) u) Q E s := by
  unfold letOwnedTupleGo
  cases tg <;> first
    | exact wpAny_pure hQ
    | (cases u <;> first
        | exact wpAny_pure hQ
        | (refine wpAny_bind (wpAny_load ho ?_)
           rw [hc, hd]
           show wpAny M A (if (["enumerate", "zip", "dict_itemiterator", "dict_reverseitemiterator", "odict_iterator", "itertools.zip_longest", "itertools.pairwise"].contains n && vs[0]? == some (rawInt _)) = true then _ else _) Q E s
           rw [if_neg (by intro h; rw [hn, Bool.false_and] at h; cases h)]
           exact wpAny_pure hQ))
/-- the list at a, as it stands at each turn (a loop may append to it) -/
def Itl (K : PySem.W.Frag) (a : Addr) : It :=
  ⟨fun i H => ∃ xs x, SqL K H a xs ∧ xs[i]? = some x, fun i H x H' => H' = H ∧ ∀ xs, SqL K H a xs → xs[i]? = some x, fun i H => ∃ xs, SqL K H a xs ∧ xs.length ≤ i⟩
/-- lo, lo + 1, .. (n of them) -/
def Itr (lo : Int) (n : Nat) : It := ⟨fun i _ => i < n, fun i H x H' => H' = H ∧ x = .int (lo + i), fun i _ => n ≤ i⟩
theorem turn_list {P : Program} {w : World} {K : PySem.W.Frag} {tg : Expr} (a it : Addr) : Turn P w K tg (Itl K a) [it] it (fun i h => h.IsListIter it a i) where
  mem := by simp
  obj := fun i h st b hb => by
    have e : b = it := by simpa using hb
    subst e
    obtain ⟨o, e, c, d⟩ := st
    exact ⟨o, e, fun v z => by rw [d] at z; cases z⟩
  keep := fun i h h' st k => st.at fun o e => k it (by simp) o e
  item := by
    intro X hP hw hK hc i pins s σ H E I hf st hg
    subst hP hw hK
    obtain ⟨xs, x, hq, hx⟩ := hg
    obtain ⟨its, rv, p, hz⟩ := I.list hq
    obtain ⟨u, hu, ru⟩ := rv.get hx
    obtain ⟨f0, f1, f2, f3, f4, f5⟩ := hf it (by simp)
    refine wpAny_pyNext_list_item st p.isList (x := u) (by simpa using hu) fun h' st' sb => ?_
    have I1 : Inv X pins σ H { s with heap := h' } := I.turned (t' := s.toks) (fun b o hb e => (sb.2 b hb).trans e) f0 f1 f3 f4 f5
    obtain ⟨o, e, c, d⟩ := id st'
    exact ⟨u, rfl, go_of (s := { s with heap := h' }) e c d (by decide) ⟨x, H, I1, ru, ⟨rfl, fun ys hy => by rw [I.list_inj hy hq]; exact hx⟩, st', fun b hb => (hf b hb).1⟩⟩
  done := by
    intro X hP hw hK hc i pins s σ H E I hf st hg
    subst hP hw hK
    obtain ⟨xs, hq, hx⟩ := hg
    obtain ⟨its, rv, p, hz⟩ := I.list hq
    obtain ⟨f0, f1, f2, f3, f4, f5⟩ := hf it (by simp)
    have hl := rv.length
    exact wpAny_pyNext_list_end (I.ok.hd hc) st p.isList (by simp; omega) fun h' eb => ⟨rfl, I.turned (t' := s.toks) (fun b o hb e => eb b o hb e) f0 f1 f3 f4 f5⟩
  self := fun _ _ _ _ _ st h => wpAny_pyIter_listiter st h
theorem turn_range {P : Program} {w : World} {K : PySem.W.Frag} {tg : Expr} (it : Addr) (lo : Int) (n : Nat) : Turn P w K tg (Itr lo n) [it] it (fun i h => IsRangeIter h it (lo + (i : Nat) * 1) ((n : Int) - (i : Nat)) 1) where
  mem := by simp
  obj := fun i h st b hb => by
    have e : b = it := by simpa using hb
    subst e
    exact ⟨_, st, fun v z => by
      have z' : Data.fields _ = Data.cell v := z
      cases z'⟩
  keep := fun i h h' st k => k it (by simp) _ st
  item := by
    intro X hP hw hK hc i pins s σ H E I hf st hg
    subst hP hw hK
    obtain ⟨f0, f1, f2, f3, f4, f5⟩ := hf it (by simp)
    have W := Walks.range (prog := X.prog) (w := X.w) (I.ok.hd hc) it lo 1 n
    refine W.item i s _ _ hg st fun v h' tk hv st' kk => ?_
    obtain ⟨t, rfl⟩ := hv
    have I1 : Inv X pins σ H { s with heap := h', toks := tk } := I.turned (fun b o hb e => kk b o (by simpa using hb) e) f0 f1 f3 f4 f5
    refine ⟨_, rfl, go_of (s := { s with heap := h', toks := tk }) (n := "range_iterator") st' rfl rfl (by decide) ⟨.int (lo + i), H, I1, ⟨t, ?_⟩, ⟨rfl, rfl⟩, st', fun b hb => (hf b hb).1⟩⟩
    rw [Int.mul_one]
  done := by
    intro X hP hw hK hc i pins s σ H E I hf st hg
    subst hP hw hK
    obtain ⟨f0, f1, f2, f3, f4, f5⟩ := hf it (by simp)
    exact wpAny_pyNext_range_end (I.ok.hd hc) st (by have : n ≤ i := hg; omega) fun h' eb => ⟨rfl, I.turned (t' := s.toks) (fun b o hb e => eb b o hb e) f0 f1 f3 f4 f5⟩
  self := fun _ _ _ _ _ st h => wpAny_pyIter_rangeiter st h
end L2
namespace L2
open PySem PySem.Spec PyProof.Rows
section
variable {X : Cx} {tg : Expr}
def iList (K : PySem.W.Frag) (tl : TE) : TI := fun σ H R => tl σ H fun x H1 => ∃ a, x = .ref a ∧ (∃ xs, SqL K H1 a xs) ∧ R (Itl K a) H1
theorem pi_list {l : Expr} {tl : TE} (hl : PE X l tl) : PI X tg l (iList X.K tl) := by
  intro pins s σ H R I h
  refine thn (hl pins s σ H _ I h) fun v s1 ⟨x, H1, I1, r1, q1⟩ => ?_
  obtain ⟨a, e, ⟨xs, hq⟩, q⟩ := q1
  subst e
  cases r1
  obtain ⟨its, rv, p, hz⟩ := I1.list hq
  refine wpAny_pyIter_list p.isList ?_
  refine ⟨s1.heap.objs.size, [s1.heap.objs.size], _, _, H1, rfl, I1.kept (t' := s1.toks) fun b o e => Heap.get?_push_of_some _ e, turn_list a _, ⟨_, Heap.get?_push_size _ rfl, rfl, rfl⟩, fun b hb => ?_, q⟩
  have e : b = s1.heap.objs.size := by simpa using hb
  subst e
  exact I1.fpOk (Nat.le_refl _) (I1.hok.fresh (Nat.le_refl _))
/-- a range object just made, walked -/
theorem range_it {pins : List (Addr × Obj)} {σ : St} {H : Hp} {s : Shared} {R : It → Hp → Prop} {E : Value → Shared → Prop} {lo hi : Int} {t u v : Tok} {tk : Nat} (I : Inv X pins σ H s) (h1 : -(2 ^ 62) ≤ lo) (h2 : lo < 2 ^ 62) (h3 : -(2 ^ 62) ≤ hi) (h4 : hi < 2 ^ 62)
    (q : R (Itr lo (hi - lo).toNat) H) : wpAny (model X.prog X.w) X.A (pyIter (.ref s.heap.objs.size)) (PIE X pins σ tg R) E { s with heap := s.heap.push { cls := .type "range", data := .fields #[.int lo t, .int hi u, .int 1 v] }, toks := tk } := by
  refine wpAny_pyIter_range (IsRange.new ..) (small_one h1 h2 h3 h4) ?_
  have I1 : Inv X pins σ H { s with heap := s.heap.push { cls := .type "range", data := .fields #[.int lo t, .int hi u, .int 1 v] }, toks := tk } := I.kept fun b o e => Heap.get?_push_of_some _ e
  refine ⟨(s.heap.push { cls := .type "range", data := .fields #[.int lo t, .int hi u, .int 1 v] }).objs.size, [(s.heap.push { cls := .type "range", data := .fields #[.int lo t, .int hi u, .int 1 v] }).objs.size], _, _, H, rfl,
    I1.kept (t' := tk) fun b o e => Heap.get?_push_of_some _ e, turn_range _ lo (hi - lo).toNat, ?_, fun b hb => ?_, q⟩
  · have e1 : lo + ((0 : Nat) : Int) * 1 = lo := by simp
    have e2 : (((hi - lo).toNat : Nat) : Int) - ((0 : Nat) : Int) = Builtin.Range.rangeSize lo hi 1 := by rw [rangeSize_one]; split <;> omega
    show IsRangeIter _ _ (lo + ((0 : Nat) : Int) * 1) ((((hi - lo).toNat : Nat) : Int) - ((0 : Nat) : Int)) 1
    rw [e1, e2]
    exact Heap.get?_push_size _ rfl
  · have e : b = (s.heap.push { cls := .type "range", data := .fields #[.int lo t, .int hi u, .int 1 v] }).objs.size := by simpa using hb
    subst e
    exact I1.fpOk (Nat.le_refl _) (I1.hok.fresh (Nat.le_refl _))
def iRng1 (ta : TA) : TI := fun σ H R => ta σ H fun vs H1 => ∃ j : Int, vs = [.int j] ∧ -(2 ^ 62) ≤ j ∧ j < 2 ^ 62 ∧ R (Itr 0 j.toNat) H1
theorem pi_range1 {a : Expr} {ta : TA} {p pos : Pos} (hg : Gl X "range") (hm : X.mg "range" = none) (ha : PA X [a] ta) (hs : starEach [a] X.env = [(false, eval a X.env)] := by rfl) : PI X tg (.Call (.Name "range" p) [a] [] pos) (iRng1 ta) := by
  intro pins s σ H R I h
  refine Call_ (ld_blt I hg hm boot_range (PyProof.Rows.callWith_type1 (thn (ha pos pins s σ H _ I h) fun us s1 ⟨vs, H1, I1, r1, q1⟩ => ?_) hs rfl))
  obtain ⟨j, e, q1, q2, q⟩ := q1
  subst e
  cases r1 with
  | cons r rr =>
    cases rr
    obtain ⟨t, rfl⟩ := r
    exact call_range_1 (range_it I1 (by omega) (by omega) q1 q2 (by simpa using q))
/-! ### for -/
/-- W: the invariant by the turn and a measure; N: what the body is to reach -/
def tFor (wi : TI) (g : TG) (tb : TS) : TS := fun D σ H => wi σ H fun J H1 => ∃ W : Nat → Nat → St → Hp → Prop, (∃ m, W 0 m σ H1) ∧ ∀ i m σ H, W i m σ H →
  (J.stop i H ∧ D.nx σ H) ∨ (J.go i H ∧ ∃ N : St → Hp → Prop, (∀ σ' H', N σ' H' → ∃ m', m' < m ∧ W (i + 1) m' σ' H') ∧ ∀ x H', J.yld i H x H' → g x σ H' fun σ2 H2 => tb { D with nx := N, ct := N, bk := D.nx } σ2 H2)
/-- the records at fp as they stand -/
def pinsAt (fp : List Addr) (h : Heap) : List (Addr × Obj) := fp.filterMap fun b => (h.get? b).map fun o => (b, o)
theorem mem_pinsAt {fp : List Addr} {h : Heap} {b : Addr} {o : Obj} (hb : b ∈ fp) (e : h.get? b = some o) : (b, o) ∈ pinsAt fp h := List.mem_filterMap.mpr ⟨b, hb, by rw [e]; rfl⟩
theorem of_pinsAt {fp : List Addr} {h : Heap} {p : Addr × Obj} (hp : p ∈ pinsAt fp h) : p.1 ∈ fp ∧ h.get? p.1 = some p.2 := by
  obtain ⟨b, hb, e⟩ := List.mem_filterMap.mp hp
  cases q : h.get? b with
  | none => rw [q] at e; cases e
  | some o =>
    rw [q] at e
    have e' : (b, o) = p := Option.some.inj e
    subst e'
    exact ⟨hb, q⟩
theorem Inv.pinned {pins : List (Addr × Obj)} {σ : St} {H : Hp} {s : Shared} {fp : List Addr} (I : Inv X pins σ H s) (hf : ∀ b ∈ fp, FpOk X pins H b) (ho : ∀ b ∈ fp, ∃ o, s.heap.get? b = some o ∧ ∀ v, o.data ≠ .cell v) : Inv X (pins ++ pinsAt fp s.heap) σ H s :=
  I.pins_of fun p hp => (List.mem_append.mp hp).elim (fun z => I.pin p (List.mem_append_right _ z)) fun z => by
    obtain ⟨hb, e⟩ := of_pinsAt z
    obtain ⟨f0, f1, f2, _⟩ := hf p.1 hb
    obtain ⟨o, e', d⟩ := ho p.1 hb
    rw [e] at e'; cases e'
    exact ⟨e, f0, f1, f2, d⟩
theorem Inv.unpinned {pins pl : List (Addr × Obj)} {σ : St} {H : Hp} {s : Shared} (I : Inv X (pins ++ pl) σ H s) : Inv X pins σ H s := I.pins_of fun p hp => I.pin p (List.mem_append_right _ (List.mem_append_left _ hp))
theorem ps_for {iter : Expr} {body : List Stmt} {wi : TI} {g : TG} {tb : TS} {pos : Pos} (hp : PassesOwn (model X.prog X.w) X.A X.env X.xe) (hc : X.calm = true) (hi : PI X tg iter wi) (hg : PG X tg g) (hb : PSs X body tb)
    (hs : ∀ x, foldedSetIterable iter X.env x = pure x := by intro _; rfl) : PS X (.For tg iter body [] pos) (tFor wi g tb) := by
  intro pins s σ H D I h
  refine wpAny_For (thn (hi pins s σ H _ I h) fun v s1 h1 => thn h1 fun itv s2 h2 => ?_) hs
  obtain ⟨it, fp, tn, J, H2, e, I2, T, st2, f2, W, ⟨m0, w0⟩, turn⟩ := h2
  subst e
  -- what stays true of the iterator's objects through the loop
  have stat : ∀ {H' : Hp}, (∀ b ∈ fp, H' b = none) → ∀ b ∈ fp, FpOk X pins H' b := fun hn b hb => ⟨hn b hb, (f2 b hb).2⟩
  refine codeAny_forLoop_any (fun n s' => ∃ i σ' H', Inv X pins σ' H' s' ∧ tn i s'.heap ∧ (∀ b ∈ fp, H' b = none) ∧ W i n σ' H') ?_ m0 ⟨0, σ, H2, I2, st2, fun b hb => (f2 b hb).1, w0⟩
  rintro n s3 ⟨i, σ3, H3, I3, st3, fr3, w3⟩
  rcases turn i n σ3 H3 w3 with ⟨stop, qn⟩ | ⟨go, N, hN, step⟩
  · refine wpAny_passesOwn hp (thn (T.done X rfl rfl rfl hc i pins s3 σ3 H3 X.xe I3 (stat fr3) st3 stop) fun r s4 ⟨hr, I4⟩ => ?_)
    subst hr
    exact wpAny_execs_nil ⟨σ3, H3, I4, qn⟩
  · refine wpAny_passesOwn hp (thn (T.item X rfl rfl rfl hc i pins s3 σ3 H3 X.xe I3 (stat fr3) st3 go) fun r s4 ⟨u, hr, h4⟩ => ?_)
    subst hr
    refine wpAny_passesOwn hp (thn h4 fun _ s5 ⟨x, H5, I5, r5, y5, st5, fr5⟩ => ?_)
    have I5' := I5.pinned (stat fr5) (T.obj _ _ st5)
    refine wpAny_passesOwn hp (thn (hg _ s5 σ3 H5 x u _ I5' r5 (step x H5 y5)) fun _ s6 ⟨σ6, H6, I6, q6⟩ => ?_)
    refine wpAny_passesOwn hp (thn (hb _ s6 σ6 H6 _ I6 q6) fun f s7 q7 => ?_)
    have again : ∀ {σ7 : St} {H7 : Hp}, Inv X (pins ++ pinsAt fp s5.heap) σ7 H7 s7 → N σ7 H7 → ∃ m, m < n ∧ ∃ i σ' H', Inv X pins σ' H' s7 ∧ tn i s7.heap ∧ (∀ b ∈ fp, H' b = none) ∧ W i m σ' H' := fun {σ7 H7} I7 n7 => by
      obtain ⟨m', hm, w7⟩ := hN σ7 H7 n7
      refine ⟨m', hm, i + 1, σ7, H7, I7.unpinned, T.keep _ _ _ st5 fun b hb o e => (I7.pin (b, o) (List.mem_append_right _ (List.mem_append_right _ (mem_pinsAt hb e)))).1, fun b hb => ?_, w7⟩
      obtain ⟨o, e, d⟩ := T.obj _ _ st5 b hb
      exact (I7.pin (b, o) (List.mem_append_right _ (List.mem_append_right _ (mem_pinsAt hb e)))).2.1
    cases f with
    | next => obtain ⟨σ7, H7, I7, n7⟩ := q7; exact again I7 n7
    | cont => obtain ⟨σ7, H7, I7, n7⟩ := q7; exact again I7 n7
    | brk => obtain ⟨σ7, H7, I7, q7⟩ := q7; exact ⟨σ7, H7, I7.unpinned, q7⟩
    | ret v => obtain ⟨x7, σ7, H7, I7, r7, q7⟩ := q7; exact ⟨x7, σ7, H7, I7.unpinned, r7, q7⟩
end
/-! ### the forms one uses -/
/-- over a list that the body leaves as it is -/
theorem for_list {K : PySem.W.Frag} {a : Addr} {xs : List V} {g : TG} {tb : TS} {D : Ends} {σ : St} {H : Hp} (Pv : Nat → St → Hp → Prop) (h0 : Pv 0 σ H) (hl : ∀ i σ H, i ≤ xs.length → Pv i σ H → SqL K H a xs)
    (hs : ∀ i x σ H, xs[i]? = some x → Pv i σ H → g x σ H fun σ2 H2 => tb { D with nx := Pv (i + 1), ct := Pv (i + 1), bk := D.nx } σ2 H2) (hd : ∀ σ H, Pv xs.length σ H → D.nx σ H) :
    ∃ W : Nat → Nat → St → Hp → Prop, (∃ m, W 0 m σ H) ∧ ∀ i m σ H, W i m σ H →
      ((Itl K a).stop i H ∧ D.nx σ H) ∨ ((Itl K a).go i H ∧ ∃ N : St → Hp → Prop, (∀ σ' H', N σ' H' → ∃ m', m' < m ∧ W (i + 1) m' σ' H') ∧ ∀ x H', (Itl K a).yld i H x H' → g x σ H' fun σ2 H2 => tb { D with nx := N, ct := N, bk := D.nx } σ2 H2) := by
  refine ⟨fun i m σ H => m = xs.length - i ∧ i ≤ xs.length ∧ Pv i σ H, ⟨xs.length, by simp, Nat.zero_le _, h0⟩, ?_⟩
  rintro i m σ H ⟨rfl, hi, p⟩
  have q := hl i σ H hi p
  by_cases hlt : i < xs.length
  · refine .inr ⟨⟨xs, xs[i], q, by simp [hlt]⟩, Pv (i + 1), fun σ' H' p' => ⟨xs.length - (i + 1), by omega, rfl, hlt, p'⟩, fun x H' y => ?_⟩
    obtain ⟨e, y⟩ := y
    subst e
    exact hs i x σ _ (y xs q) p
  · have e : i = xs.length := by omega
    subst e
    exact .inl ⟨⟨xs, q, Nat.le_refl _⟩, hd σ H p⟩
theorem for_range {lo : Int} {n : Nat} {g : TG} {tb : TS} {D : Ends} {σ : St} {H : Hp} (Pv : Nat → St → Hp → Prop) (h0 : Pv 0 σ H)
    (hs : ∀ i σ H, i < n → Pv i σ H → g (.int (lo + i)) σ H fun σ2 H2 => tb { D with nx := Pv (i + 1), ct := Pv (i + 1), bk := D.nx } σ2 H2) (hd : ∀ σ H, Pv n σ H → D.nx σ H) :
    ∃ W : Nat → Nat → St → Hp → Prop, (∃ m, W 0 m σ H) ∧ ∀ i m σ H, W i m σ H →
      ((Itr lo n).stop i H ∧ D.nx σ H) ∨ ((Itr lo n).go i H ∧ ∃ N : St → Hp → Prop, (∀ σ' H', N σ' H' → ∃ m', m' < m ∧ W (i + 1) m' σ' H') ∧ ∀ x H', (Itr lo n).yld i H x H' → g x σ H' fun σ2 H2 => tb { D with nx := N, ct := N, bk := D.nx } σ2 H2) := by
  refine ⟨fun i m σ H => m = n - i ∧ i ≤ n ∧ Pv i σ H, ⟨n, by simp, Nat.zero_le _, h0⟩, ?_⟩
  rintro i m σ H ⟨rfl, hi, p⟩
  by_cases hlt : i < n
  · refine .inr ⟨hlt, Pv (i + 1), fun σ' H' p' => ⟨n - (i + 1), by omega, rfl, hlt, p'⟩, fun x H' y => ?_⟩
    obtain ⟨e, y⟩ := y
    subst e y
    exact hs i σ _ hlt p
  · have e : i = n := by omega
    subst e
    exact .inl ⟨Nat.le_refl _, hd σ H p⟩
end L2
namespace L2
open PySem PySem.Spec PyProof.Rows
abbrev R2 := V → V → Hp → VK → Prop
/-- a two-place operation on values: f is binaryOp op, inplaceOp op or compareOp op -/
def OpR (X : Cx) (f : Value → Value → Sem Value) (r : R2) : Prop :=
  ∀ (pins : List (Addr × Obj)) (s : Shared) (σ : St) (H : Hp) (x y : V) (v u : Value) (Q : VK), Inv X pins σ H s → RelV x v → RelV y u → r x y H Q →
    wpAny (model X.prog X.w) X.A (f v u) (EP X pins σ Q) X.xe s
/-- a one-place operation -/
def UnR (X : Cx) (f : Value → Sem Value) (r : V → Hp → VK → Prop) : Prop :=
  ∀ (pins : List (Addr × Obj)) (s : Shared) (σ : St) (H : Hp) (x : V) (v : Value) (Q : VK), Inv X pins σ H s → RelV x v → r x H Q →
    wpAny (model X.prog X.w) X.A (f v) (EP X pins σ Q) X.xe s
/-- a call of a value that is known (a builtin, a type) with values -/
def CallR (X : Cx) (f : Value) (r : List V → Hp → VK → Prop) : Prop :=
  ∀ (pins : List (Addr × Obj)) (s : Shared) (σ : St) (H : Hp) (xs : List V) (us : List Value) (Q : VK), Inv X pins σ H s → Vals xs us → r xs H Q →
    wpAny (model X.prog X.w) X.A (call f us) (EP X pins σ Q) X.xe s
/-- a value's truth -/
def TruR (X : Cx) (r : V → Hp → (Bool → Hp → Prop) → Prop) : Prop :=
  ∀ (pins : List (Addr × Obj)) (s : Shared) (σ : St) (H : Hp) (x : V) (v : Value) (Q : Bool → Hp → Prop), Inv X pins σ H s → RelV x v → r x H Q →
    wpAny (model X.prog X.w) X.A (truthy v) (TP X pins σ Q) X.xe s
def tOp (r : R2) (ta tb : TE) : TE := fun σ H Q => ta σ H fun x H1 => tb σ H1 fun y H2 => r x y H2 Q
def tUn (r : V → Hp → VK → Prop) (ta : TE) : TE := fun σ H Q => ta σ H fun x H1 => r x H1 Q
/-- ints in, under C, and a value out -/
def rI (C : Int → Int → Prop) (g : Int → Int → V) : R2 := fun x y H Q => ∃ i j, x = .int i ∧ y = .int j ∧ C i j ∧ Q (g i j) H
def rI0 (g : Int → Int → V) : R2 := fun x y H Q => ∃ i j, x = .int i ∧ y = .int j ∧ Q (g i j) H
def rU (g : Int → V) : V → Hp → VK → Prop := fun x H Q => ∃ i, x = .int i ∧ Q (g i) H
section
variable {X : Cx} {a b c : Expr} {ta tb tc : TE} {pos : Pos}
theorem binT (ha : PE X a ta) (hb : PE X b tb) {pins : List (Addr × Obj)} {s : Shared} {σ : St} {H : Hp} {R : V → V → Hp → Prop} (I : Inv X pins σ H s)
    (h : ta σ H fun x H1 => tb σ H1 fun y H2 => R x y H2) {Q : Value → Shared → Prop} {f : Value → Value → Sem Value}
    (hf : ∀ v u s2 x y H2, Inv X pins σ H2 s2 → RelV x v → RelV y u → R x y H2 → wpAny (model X.prog X.w) X.A (f v u) Q X.xe s2) :
    wpAny (model X.prog X.w) X.A (eval a X.env) (fun v s₁ => wpAny (model X.prog X.w) X.A (eval b X.env) (fun u s₂ => wpAny (model X.prog X.w) X.A (f v u) Q X.xe s₂) X.xe s₁) X.xe s := by
  refine thn (ha pins s σ H _ I h) fun v s1 ⟨x, H1, I1, r1, q1⟩ => ?_
  refine thn (hb pins s1 σ H1 _ I1 q1) fun u s2 ⟨y, H2, I2, r2, q2⟩ => ?_
  exact hf v u s2 x y H2 I2 r1 r2 q2
theorem pe_op {op : Operator} {r : R2} (ho : OpR X (binaryOp op) r) (ha : PE X a ta) (hb : PE X b tb) : PE X (.BinOp a op b pos) (tOp r ta tb) := by
  intro pins s σ H Q I h
  exact wpAny_BinOp (binT ha hb I h fun v u s2 x y H2 I2 rx ry q => ho pins s2 σ H2 x y v u Q I2 rx ry q)
theorem pe_un {op : UnaryOp} {r : V → Hp → VK → Prop} (ho : UnR X (unaryOp op) r) (ha : PE X a ta) : PE X (.UnaryOp op a pos) (tUn r ta) := by
  intro pins s σ H Q I h
  exact UnaryOp_ (thn (ha pins s σ H _ I h) fun v s1 ⟨x, H1, I1, r1, q1⟩ => ho pins s1 σ H1 x v Q I1 r1 q1)
/-! ### ints -/
theorem opI {f : Value → Value → Sem Value} {C : Int → Int → Prop} {g : Int → Int → Int}
    (rule : ∀ (i j : Int) (t u : Tok) (s : Shared) (Q : Value → Shared → Prop) (E : Value → Shared → Prop), C i j → Q (.int (g i j) s.toks) { s with toks := s.toks + 1 } → wpAny (model X.prog X.w) X.A (f (.int i t) (.int j u)) Q E s) :
    OpR X f (rI C fun i j => .int (g i j)) := by
  intro pins s σ H x y v u Q I rx ry h
  obtain ⟨i, j, rfl, rfl, hc, q⟩ := h
  obtain ⟨t, rfl⟩ := rx
  obtain ⟨t', rfl⟩ := ry
  exact rule i j t t' s _ _ hc ⟨.int (g i j), H, I.tok _, ⟨_, rfl⟩, q⟩
theorem opI0 {f : Value → Value → Sem Value} {g : Int → Int → Int}
    (rule : ∀ (i j : Int) (t u : Tok) (s : Shared) (Q : Value → Shared → Prop) (E : Value → Shared → Prop), Q (.int (g i j) s.toks) { s with toks := s.toks + 1 } → wpAny (model X.prog X.w) X.A (f (.int i t) (.int j u)) Q E s) :
    OpR X f (rI0 fun i j => .int (g i j)) := by
  intro pins s σ H x y v u Q I rx ry h
  obtain ⟨i, j, rfl, rfl, q⟩ := h
  obtain ⟨t, rfl⟩ := rx
  obtain ⟨t', rfl⟩ := ry
  exact rule i j t t' s _ _ ⟨.int (g i j), H, I.tok _, ⟨_, rfl⟩, q⟩
theorem opB0 {f : Value → Value → Sem Value} {g : Int → Int → Bool}
    (rule : ∀ (i j : Int) (t u : Tok) (s : Shared) (Q : Value → Shared → Prop) (E : Value → Shared → Prop), Q (.bool (g i j)) s → wpAny (model X.prog X.w) X.A (f (.int i t) (.int j u)) Q E s) :
    OpR X f (rI0 fun i j => .bl (g i j)) := by
  intro pins s σ H x y v u Q I rx ry h
  obtain ⟨i, j, rfl, rfl, q⟩ := h
  obtain ⟨t, rfl⟩ := rx
  obtain ⟨t', rfl⟩ := ry
  exact rule i j t t' s _ _ ⟨.bl (g i j), H, I, rfl, q⟩
def CDiv (i j : Int) : Prop := 0 < j ∧ j < 1073741824
def CPow (i j : Int) : Prop := 0 ≤ j ∧ j ≤ 1000000 ∧ i.natAbs < 2 ^ 64
def CMul (i j : Int) : Prop := (-(2 ^ 64) < i ∧ i < 2 ^ 64) ∨ (-(2 ^ 64) < j ∧ j < 2 ^ 64)
theorem CMul.ok {i j : Int} (h : CMul i j) : IntMulOk i j := by
  rcases h with ⟨h1, h2⟩ | ⟨h1, h2⟩
  · exact .of_left (intBits_le_64 h1 h2)
  · exact .of_right (intBits_le_64 h1 h2)
theorem op_add : OpR X (binaryOp .Add) (rI0 fun i j => .int (i + j)) := opI0 fun _ _ _ _ _ _ _ q => add_int q
theorem op_sub : OpR X (binaryOp .Sub) (rI0 fun i j => .int (i - j)) := opI0 fun _ _ _ _ _ _ _ q => sub_int q
theorem op_mul : OpR X (binaryOp .Mult) (rI CMul fun i j => .int (i * j)) := opI fun _ _ _ _ _ _ _ hc q => mul_int q hc.ok
/-- // by a positive divisor -/
theorem op_fdiv : OpR X (binaryOp .FloorDiv) (rI CDiv fun i j => .int (i / j)) := opI fun i j _ _ _ _ _ hc q => by
  have h1 : (0 : Int) < j := hc.1
  have h2 : j < 1073741824 := hc.2
  exact floordiv_int (by omega) (by rw [Int.fdiv_eq_ediv_of_nonneg i (by omega)]; exact q) (.inl (PyProof.noPylong_small (by omega)))
/-- % by a positive divisor of any size -/
theorem op_mod : OpR X (binaryOp .Mod) (rI (fun _ j => 0 < j) fun i j => .int (i % j)) := opI fun i j _ _ _ _ _ hc q => by
  have h1 : (0 : Int) < j := hc
  exact mod_int' (by omega) (by rw [Int.fmod_eq_emod_of_nonneg i (by omega)]; exact q)
theorem op_pow : OpR X (binaryOp .Pow) (rI CPow fun i j => .int (i ^ j.toNat)) := opI fun _ _ _ _ _ _ _ hc q => pow_int_small hc.1 hc.2.1 hc.2.2 q
end
/-! ### comparisons -/
/-- the scalars that == tells apart as data does -/
def scal : V → V → Bool
  | .non, .non => true | .non, .int _ => true | .int _, .non => true | .non, .bl _ => true | .bl _, .non => true | .non, .str _ => true | .str _, .non => true
  | .int _, .int _ => true | .bl _, .bl _ => true | .str _, .str _ => true | .byt _, .byt _ => true
  | .int _, .str _ => true | .str _, .int _ => true | .bl _, .str _ => true | .str _, .bl _ => true
  | _, _ => false
def rEq : R2 := fun x y H Q => scal x y = true ∧ Q (.bl (decide (x = y))) H
theorem dec_int {i j : Int} : decide (V.int i = V.int j) = (i == j) := by
  rw [Bool.eq_iff_iff]
  simp
theorem dec_bl {i j : Bool} : decide (V.bl i = V.bl j) = (i == j) := by
  rw [Bool.eq_iff_iff]
  simp
theorem dec_str {i j : Str} : decide (V.str i = V.str j) = (i == j) := by
  rw [Bool.eq_iff_iff]
  simp
theorem dec_byt {i j : Array UInt8} : decide (V.byt i = V.byt j) = (i.toList == j.toList) := by
  rw [Bool.eq_iff_iff]
  cases i
  cases j
  simp
section
variable {X : Cx} {a b c : Expr} {ta tb tc : TE} {pos : Pos}
theorem fin_bl {pins : List (Addr × Obj)} {σ : St} {H : Hp} {s : Shared} {Q : VK} {k k' : Bool} (I : Inv X pins σ H s) (q : Q (.bl k) H) (e : k = k') : EP X pins σ Q (.bool k') s := by
  subst e
  exact ⟨.bl k, H, I, rfl, q⟩
theorem op_eq : OpR X (compareOp .Eq) rEq := by
  intro pins s σ H x y v u Q I rx ry h
  obtain ⟨hs, q⟩ := h
  cases x with
  | non =>
    cases rx
    cases y with
    | non => cases ry; exact PySem.EqNone.eq_none_none (fin_bl I q (by simp))
    | bl j => cases ry; exact PySem.EqNone.eq_none_bool (fin_bl I q (by simp))
    | int j => obtain ⟨t', rfl⟩ := ry; exact PySem.EqNone.eq_none_int (fin_bl I q (by simp))
    | str j => obtain ⟨t', rfl⟩ := ry; exact PySem.EqNone.eq_none_str (fin_bl I q (by simp))
    | _ => exact absurd (show false = true from hs) Bool.false_ne_true
  | bl i =>
    cases rx
    cases y with
    | non => cases ry; exact PySem.EqNone.eq_bool_none (fin_bl I q (by simp))
    | bl j => cases ry; exact eq_bool (fin_bl I q dec_bl)
    | str j => obtain ⟨t', rfl⟩ := ry; exact PySem.EqMixed.eq_bool_str (fin_bl I q (by simp))
    | _ => exact absurd (show false = true from hs) Bool.false_ne_true
  | int i =>
    obtain ⟨t, rfl⟩ := rx
    cases y with
    | non => cases ry; exact PySem.EqNone.eq_int_none (fin_bl I q (by simp))
    | int j => obtain ⟨t', rfl⟩ := ry; exact eq_int (fin_bl I q dec_int)
    | str j => obtain ⟨t', rfl⟩ := ry; exact PySem.EqMixed.eq_int_str (fin_bl I q (by simp))
    | _ => exact absurd (show false = true from hs) Bool.false_ne_true
  | str i =>
    obtain ⟨t, rfl⟩ := rx
    cases y with
    | non => cases ry; exact PySem.EqNone.eq_str_none (fin_bl I q (by simp))
    | bl j => cases ry; exact PySem.EqMixed.eq_str_bool (fin_bl I q (by simp))
    | int j => obtain ⟨t', rfl⟩ := ry; exact PySem.EqMixed.eq_str_int (fin_bl I q (by simp))
    | str j => obtain ⟨t', rfl⟩ := ry; exact eq_str (fin_bl I q dec_str)
    | _ => exact absurd (show false = true from hs) Bool.false_ne_true
  | byt i =>
    obtain ⟨t, rfl⟩ := rx
    cases y with
    | byt j => obtain ⟨t', rfl⟩ := ry; exact PySem.W.eq_bytes (fin_bl I q dec_byt)
    | _ => exact absurd (show false = true from hs) Bool.false_ne_true
  | _ => cases y <;> exact absurd (show false = true from hs) Bool.false_ne_true
theorem op_lt : OpR X (compareOp .Lt) (rI0 fun i j => .bl (decide (i < j))) := opB0 fun _ _ _ _ _ _ _ q => lt_int q
theorem op_le : OpR X (compareOp .LtE) (rI0 fun i j => .bl (decide (i ≤ j))) := opB0 fun _ _ _ _ _ _ _ q => le_int q
theorem op_gt : OpR X (compareOp .Gt) (rI0 fun i j => .bl (decide (j < i))) := opB0 fun _ _ _ _ _ _ _ q => gt_int q
/-- is None, is not None: the right side a value none -/
theorem op_isN : OpR X (compareOp .Is) (fun x y H Q => y = .non ∧ Q (.bl (decide (x = .non))) H) := by
  intro pins s σ H x y v u Q I rx ry h
  obtain ⟨rfl, q⟩ := h
  cases ry
  refine is_none_gen (fin_bl I q ?_)
  cases x <;> first
    | (cases rx; rfl)
    | (obtain ⟨t, rfl⟩ := rx; rfl)
theorem op_notN : OpR X (compareOp .IsNot) (fun x y H Q => y = .non ∧ Q (.bl (!decide (x = .non))) H) := by
  intro pins s σ H x y v u Q I rx ry h
  obtain ⟨rfl, q⟩ := h
  cases ry
  refine isnot_none_gen (fin_bl I q ?_)
  cases x <;> first
    | (cases rx; rfl)
    | (obtain ⟨t, rfl⟩ := rx; rfl)
/-- two rules for one operation: by cases -/
theorem OpR.or {f : Value → Value → Sem Value} {r r' : R2} (h : OpR X f r) (h' : OpR X f r') : OpR X f (fun x y H Q => r x y H Q ∨ r' x y H Q) := by
  intro pins s σ H x y v u Q I rx ry q
  rcases q with q | q
  · exact h pins s σ H x y v u Q I rx ry q
  · exact h' pins s σ H x y v u Q I rx ry q
theorem nomark (b : Expr) {op : CmpOp} (h : op ≠ .In := by decide) (h2 : op ≠ .NotIn := by decide) : behindInMarks op b = false := by
  have e1 : (op == CmpOp.In) = false := by cases op <;> first | rfl | exact absurd rfl h
  have e2 : (op == CmpOp.NotIn) = false := by cases op <;> first | rfl | exact absurd rfl h2
  cases b <;> simp [behindInMarks, e1, e2]
/-- a comparison as a value; hm: nomark b, or (for in, not in) by with_unfolding_all rfl -/
theorem pe_cmpR {op : CmpOp} {r : R2} (ho : OpR X (compareOp op) r) (ha : PE X a ta) (hb : PE X b tb) (hm : behindInMarks op b = false) : PE X (.Compare a [op] [b] pos) (tOp r ta tb) := by
  intro pins s σ H Q I h
  exact wpAny_Compare1 (binT ha hb I h fun v u s2 x y H2 I2 rx ry q => ho pins s2 σ H2 x y v u Q I2 rx ry q) hm
/-- a reading of a value as a test -/
def tTest (t : TE) : TT := fun σ H Q => t σ H fun x H' => ∃ k, x = .bl k ∧ Q k H'
theorem pt_cmpR {op : CmpOp} {r : R2} (ho : OpR X (compareOp op) r) (ha : PE X a ta) (hb : PE X b tb) (hm : behindInMarks op b = false) : PT X (.Compare a [op] [b] pos) (tTest (tOp r ta tb)) := by
  intro pins s σ H Q I h
  refine wpAny_isTrue_Compare1 (thn (ha pins s σ H _ I h) fun v s1 ⟨x, H1, I1, r1, q1⟩ => thn (hb pins s1 σ H1 _ I1 q1) fun u s2 ⟨y, H2, I2, r2, q2⟩ =>
    thn (ho pins s2 σ H2 x y v u _ I2 r1 r2 q2) fun c s3 ⟨z, H3, I3, r3, k, e, q3⟩ => ?_) hm
  subst e
  cases r3
  exact wpAny_truthy_bool ⟨H3, I3, q3⟩
/-- a op1 b op2 c -/
def tChain (r r' : R2) (ta tb tc : TE) : TE := fun σ H Q => ta σ H fun x H1 => tb σ H1 fun y H2 => r x y H2 fun z H3 => ∃ k, z = .bl k ∧
  (if k = true then tc σ H3 fun w' H4 => r' y w' H4 Q else Q (.bl false) H3)
theorem pe_chain {op op' : CmpOp} {r r' : R2} (ho : OpR X (compareOp op) r) (ho' : OpR X (compareOp op') r') (ha : PE X a ta) (hb : PE X b tb) (hc : PE X c tc)
    (hm : lastMarks [op, op'] [b, c] = false := by with_unfolding_all rfl) : PE X (.Compare a [op, op'] [b, c] pos) (tChain r r' ta tb tc) := by
  intro pins s σ H Q I h
  refine Compare_chain (thn (ha pins s σ H _ I h) fun v s1 ⟨x, H1, I1, r1, q1⟩ => chain_link (thn (hb pins s1 σ H1 _ I1 q1) fun u s2 ⟨y, H2, I2, r2, q2⟩ =>
    thn (ho pins s2 σ H2 x y v u _ I2 r1 r2 q2) fun d s3 ⟨z, H3, I3, r3, k, e, q3⟩ => ?_)) hm
  subst e
  cases r3
  refine wpAny_truthy_bool ?_
  cases k with
  | false => exact ite_ff ⟨.bl false, H3, I3, rfl, q3⟩
  | true => exact ite_tt (chain_last (thn (hc pins s3 σ H3 _ I3 q3) fun w' s4 ⟨z', H4, I4, r4, q4⟩ => ho' pins s4 σ H4 y z' u w' Q I4 r2 r4 q4))
/-! ### truth -/
/-- a value's truth by the abstract heap -/
def TruV (K : PySem.W.Frag) (x : V) (H : Hp) (k : Bool) : Prop :=
  match x with
  | .non => k = false
  | .bl b => k = b
  | .int i => k = (i != 0)
  | .str y => y.length ≤ sizeLine ∧ k = ((y.length : Int) != 0)
  | .byt y => y.size ≤ sizeLine ∧ k = ((y.size : Int) != 0)
  | .ref p => (∃ xs, SqL K H p xs ∧ k = !xs.isEmpty) ∨ (∃ xs, SqT K H p xs ∧ k = !xs.isEmpty) ∨ ∃ kvs, H p = some (.dK kvs) ∧ k = !kvs.isEmpty
  | _ => False
theorem isEmpty_kv {κ : Type} {kvs : List (κ × V)} {vs : List (κ × Value)} (r : KV kvs vs) : (!vs.isEmpty) = !kvs.isEmpty := by
  cases r <;> rfl
theorem isEmpty_of {xs : List V} {its : List Value} (r : Vals xs its) : (!its.toArray.isEmpty) = !xs.isEmpty := by
  cases r <;> simp
theorem line63 : (sizeLine : Nat) < 2 ^ 63 := by rw [sizeLine_eq]; decide
theorem tru_ok : TruR X (fun x H Q => ∃ k, TruV X.K x H k ∧ Q k H) := by
  intro pins s σ H x v Q I rx h
  obtain ⟨k, e, q⟩ := h
  have hl := line63
  have hs : sizeLine = 16777216 := sizeLine_eq
  cases x with
  | non =>
    cases rx
    have e' : k = false := e
    subst e'
    exact truthy_none ⟨H, I, q⟩
  | bl b =>
    cases rx
    have e' : k = b := e
    subst e'
    exact wpAny_truthy_bool ⟨H, I, q⟩
  | int i =>
    obtain ⟨t, rfl⟩ := rx
    have e' : k = (i != 0) := e
    subst e'
    exact PySem.P.truthy_int ⟨H, I, q⟩
  | str y =>
    obtain ⟨t, rfl⟩ := rx
    obtain ⟨hy, e'⟩ : y.length ≤ sizeLine ∧ k = ((y.length : Int) != 0) := e
    subst e'
    exact PySem.P.truthy_str (by omega) ⟨H, I.tok _, q⟩
  | byt y =>
    obtain ⟨t, rfl⟩ := rx
    obtain ⟨hy, e'⟩ : y.size ≤ sizeLine ∧ k = ((y.size : Int) != 0) := e
    subst e'
    exact PySem.W.truthy_bytes (by omega) ⟨H, I.tok _, q⟩
  | ref p =>
    cases rx
    have e' : (∃ xs, SqL X.K H p xs ∧ k = !xs.isEmpty) ∨ (∃ xs, SqT X.K H p xs ∧ k = !xs.isEmpty) ∨ ∃ kvs, H p = some (.dK kvs) ∧ k = !kvs.isEmpty := e
    rcases e' with ⟨xs, hx, e'⟩ | ⟨xs, hx, e'⟩ | ⟨kvs, hx, e'⟩
    · subst e'
      obtain ⟨its, r, pl, hz⟩ := I.list hx
      have hlen := r.length
      exact wpAny_truthy_list pl.isList (by simp only [List.size_toArray]; omega) ⟨H, I.tok _, by rw [isEmpty_of r]; exact q⟩
    · subst e'
      obtain ⟨its, r, pl, hz⟩ := I.tuple hx
      have hlen := r.length
      exact truthy_tuple pl (by simp only [List.size_toArray]; omega) ⟨H, I.tok _, by rw [isEmpty_of r]; exact q⟩
    · subst e'
      obtain ⟨hz, hS, vs, r, m⟩ : kvs.length ≤ sizeLine ∧ (p == sysModules) = false ∧ ∃ vs, KV kvs vs ∧ s.heap.DictOf (mixKind X.prog X.w) p vs := I.hok p _ hx
      have hlen : kvs.length = vs.length := Paired.length r
      exact wpAny_truthy_dict hS m (by omega) ⟨H, I.tok _, by rw [isEmpty_kv r]; exact q⟩
  | _ => exact (show False from e).elim
/-! ### scalar builtins, by CallR -/
theorem vals1 {x : V} {us : List Value} (r : Vals [x] us) : ∃ u, us = [u] ∧ RelV x u := by
  cases r with
  | cons r1 r2 => cases r2; exact ⟨_, rfl, r1⟩
theorem vals2 {x y : V} {us : List Value} (r : Vals [x, y] us) : ∃ u w', us = [u, w'] ∧ RelV x u ∧ RelV y w' := by
  cases r with
  | cons r1 r2 =>
    cases r2 with
    | cons r3 r4 => cases r4; exact ⟨_, _, rfl, r1, r3⟩
theorem call_max2 (hc : X.calm = true) : CallR X (.builtin "max") (fun xs H Q => ∃ i j, xs = [.int i, .int j] ∧ Q (.int (if j > i then j else i)) H) := by
  intro pins s σ H xs us Q I r h
  obtain ⟨i, j, rfl, q⟩ := h
  obtain ⟨u, w', rfl, ⟨t, rfl⟩, ⟨t', rfl⟩⟩ := vals2 r
  refine max_two_ints (I.ok.hd hc) fun h' tk k => ⟨_, H, I.kept k, ?_, q⟩
  by_cases hj : j > i
  · rw [if_pos hj, if_pos hj]; exact ⟨_, rfl⟩
  · rw [if_neg hj, if_neg hj]; exact ⟨_, rfl⟩
theorem call_min2 (hc : X.calm = true) : CallR X (.builtin "min") (fun xs H Q => ∃ i j, xs = [.int i, .int j] ∧ Q (.int (if j < i then j else i)) H) := by
  intro pins s σ H xs us Q I r h
  obtain ⟨i, j, rfl, q⟩ := h
  obtain ⟨u, w', rfl, ⟨t, rfl⟩, ⟨t', rfl⟩⟩ := vals2 r
  refine min_two_ints (I.ok.hd hc) fun h' tk k => ⟨_, H, I.kept k, ?_, q⟩
  by_cases hj : j < i
  · rw [if_pos hj, if_pos hj]; exact ⟨_, rfl⟩
  · rw [if_neg hj, if_neg hj]; exact ⟨_, rfl⟩
/-- len of a str, a bytes, a list, a tuple -/
def LenV (K : PySem.W.Frag) (x : V) (H : Hp) (n : Nat) : Prop :=
  match x with
  | .str y => y.length ≤ sizeLine ∧ n = y.length
  | .byt y => y.size ≤ sizeLine ∧ n = y.size
  | .ref p => (∃ xs, SqL K H p xs ∧ n = xs.length) ∨ ∃ xs, SqT K H p xs ∧ n = xs.length
  | _ => False
theorem call_len : CallR X (.builtin "len") (fun xs H Q => ∃ x n, xs = [x] ∧ LenV X.K x H n ∧ Q (.int n) H) := by
  intro pins s σ H xs us Q I r h
  obtain ⟨x, n, rfl, e, q⟩ := h
  obtain ⟨u, rfl, rx⟩ := vals1 r
  have hl := line63
  have hs : sizeLine = 16777216 := sizeLine_eq
  cases x with
  | str y =>
    obtain ⟨t, rfl⟩ := rx
    obtain ⟨hy, e'⟩ : y.length ≤ sizeLine ∧ n = y.length := e
    subst e'
    exact len_str (by omega) ⟨.int _, H, I.tok _, ⟨_, rfl⟩, q⟩
  | byt y =>
    obtain ⟨t, rfl⟩ := rx
    obtain ⟨hy, e'⟩ : y.size ≤ sizeLine ∧ n = y.size := e
    subst e'
    exact PySem.W.len_bytes (by omega) ⟨.int _, H, I.tok _, ⟨_, rfl⟩, q⟩
  | ref p =>
    cases rx
    have e' : (∃ xs, SqL X.K H p xs ∧ n = xs.length) ∨ ∃ xs, SqT X.K H p xs ∧ n = xs.length := e
    rcases e' with ⟨xs, hx, e'⟩ | ⟨xs, hx, e'⟩
    · subst e'
      obtain ⟨its, r', pl, hz⟩ := I.list hx
      have hlen := r'.length
      exact Calls.call_len_list pl.isList (by simp only [List.size_toArray]; omega) ⟨.int xs.length, H, I.tok _, ⟨_, by simp only [List.size_toArray]; rw [hlen]⟩, q⟩
    · subst e'
      obtain ⟨its, r', pl, hz⟩ := I.tuple hx
      have hlen := r'.length
      exact len_tuple pl (by simp only [List.size_toArray]; omega) ⟨.int xs.length, H, I.tok _, ⟨_, by simp only [List.size_toArray]; rw [hlen]⟩, q⟩
  | _ => exact (show False from e).elim
end
end L2
namespace L2
open PySem PySem.Spec PyProof.Rows
/-! ### an instance, its attributes a map -/
structure ObjM (h : Heap) (x dx C : Addr) (mA : Str → Option Value) : Prop where
  obj : h.get? x = some (PySem.W.instObj C dx)
  ns : h.Ns1 dx mA
  ne : dx ≠ x
theorem lookIn_ns {h : Heap} {dx : Addr} {mA : Str → Option Value} (n : h.Ns1 dx mA) : ∃ od, h.get? dx = some od ∧ ∀ name, PySem.W.lookIn name od = some (mA name) := by
  obtain ⟨o, es, ep, ho, hd, hk, _, hm⟩ := n
  refine ⟨o, ho, fun name => ?_⟩
  have e := hm name
  unfold nsFind findBy at e
  rw [← Array.find?_toList] at e
  unfold PySem.W.lookIn
  rw [hd]
  dsimp only
  split
  · rename_i y q
    rw [q] at e
    exact congrArg some e
  · rename_i q
    rw [q] at e
    have a : es.toList.any (·.refKey) = false := by
      rw [List.any_eq_false]
      intro y hy
      obtain ⟨z, t, hkey⟩ := hk y (Array.mem_toList_iff.mp hy)
      simp [DictEntry.refKey, hkey]
    have a' : ¬ es.toList.any (·.refKey) = true := by rw [a]; exact Bool.false_ne_true
    rw [if_neg a']
    exact congrArg some e
theorem ObjM.look {h : Heap} {x dx C : Addr} {mA : Str → Option Value} (I : ObjM h x dx C mA) : ∃ od, PySem.W.InstAt h x (PySem.W.instObj C dx) C (some od) ∧ ∀ name, PySem.W.lookIn name od = some (mA name) :=
  let ⟨od, ho, hl⟩ := lookIn_ns I.ns
  ⟨od, ⟨I.obj, rfl, rfl, ho⟩, hl⟩
section
variable {prog : Program} {w : World} {A : Around} {E : Value → Shared → Prop} {s : Shared} {K : PySem.W.Frag} {x dx C f : Addr} {mA : Str → Option Value} {name : Str} {v : Value}
theorem get_map {expr : Bool} {Q : Value → Shared → Prop} (X : K.In s.heap) (I : ObjM s.heap x dx C mA) (hg : PySem.W.plainGet K C name = true) (hh : PySem.W.hasDictIn K C = true)
    (ha : PySem.W.findIn K (.ref C) name = some none) (hv : mA name = some v) (hv' : PySem.W.handedIn v = true) (h : Q v { s with toks := s.toks + 1 }) :
    wpAny (model prog w) A (getAttr (.ref x) name expr) Q E s := by
  obtain ⟨od, J, hl⟩ := I.look
  exact PySem.W.get_value X J (PySem.W.plainGet_of hg).1 (PySem.W.findObj_own hh ha rfl (by rw [hl, hv])) hv' h
theorem get_meth {pl : Sem Bool} {Q : Value × List Value → Shared → Prop} (X : K.In s.heap) (I : ObjM s.heap x dx C mA) (hg : PySem.W.plainGet K C name = true)
    (hf : PySem.W.findIn K (.ref C) name = some (some (.ref f))) (ht : PySem.W.isFn K (.ref f) = true) (hv : mA name = none) (h : Q (.ref f, [.ref x]) s) :
    wpAny (model prog w) A (getMethod (.ref x) name pl) Q E s := by
  obtain ⟨od, J, hl⟩ := I.look
  exact PySem.W.method_fn X J (PySem.W.plainGet_of hg).1 (PySem.W.plainGet_of hg).2 hf (beq_iff_eq.mp ht) (by show (PySem.W.lookIn name od).map (·.isSome) = some false; rw [hl, hv]; rfl) h
theorem set_map {ns : List Str} {Q : Unit → Shared → Prop} (X : K.In s.heap) (I : ObjM s.heap x dx C mA)
    (hs : PySem.W.findIn K (.ref C) "__setattr__" = some (some (.builtin "object.__setattr__"))) (hp : PySem.W.plainOver K C = true) (ht : PySem.W.takerIn K C name = some none) (hh : PySem.W.hasDictIn K C = true)
    (hw : PySem.Within mA ns) (hsz : ns.length ≤ sizeLine)
    (h : ∀ h', ObjM h' x dx C (fun y => if y = name then some v else mA y) → Heap.SameBut dx s.heap h' → Q () { s with heap := h', toks := s.toks + 2 }) :
    wpAny (model prog w) A (setAttr (.ref x) name v) Q E s := by
  obtain ⟨od, J, hl⟩ := I.look
  refine PySem.W.set_plain X J hs (PySem.W.osa_open (s := { s with toks := s.toks + 1 }) (r := none) X J hp ht fun b => ?_)
  obtain ⟨cd, hc, hd'⟩ := PySem.W.any_some hh
  have hx : s.heap.get? x = some ⟨.ref C, some dx, .plain, #[]⟩ := I.obj
  refine wpAny_bind (wpAny_pure (wpAny_bind (wpAny_bind (wpAny_loadPart hx (wpAny_bind (PySem.W.Looks.here (s := { s with toks := s.toks + 1 }) (PySem.W.looks_clsIn X hc) ?_))))))
  rw [hd']
  refine wpAny_pure (a := some dx) (wpAny_bind (wpAny_pure (wpAny_bind ?_)))
  refine wpAny_nsSet1 (s := { s with toks := s.toks + 1 }) I.ns fun h' hn2 hs2 => ?_
  obtain ⟨oD, esD, epD, hoD, hdD, hcD⟩ := hn2.count (PySem.Within.cons name v hw)
  refine wpAny_bind (wpAny_lookBehind hoD (by rw [hdD]; exact pastItsLine_dict (Nat.le_trans hcD (by rw [List.length_cons]; omega))) ?_)
  exact wpAny_pure (h _ ⟨(hs2.2 _ (Ne.symm I.ne)).trans I.obj, hn2, I.ne⟩ hs2)
/-- C(..): the dict at the heap's end, the instance behind it; then its __init__ -/
theorem make_map {R : Result → Shared → Prop} {vs : List Value} {kw : List (Str × Value)} (X : K.In s.heap) (hm : PySem.W.makesIn K C = true)
    (hi : PySem.W.findIn K (.ref C) "__init__" = some (some (.ref f))) (hf : PySem.W.typeIn K (.ref f) = some (.type "function"))
    (h : codeAny (model prog w) (A.under (.builtin "type.__call__" ⟨.ref C :: vs, kw⟩)) (.call (.ref f) ⟨.ref (s.heap.objs.size + 1) :: vs, kw⟩) (PySem.W.InitBack (s.heap.objs.size + 1) R)
      { s with heap := (s.heap.push PySem.W.emptyDict).push (PySem.W.instObj C s.heap.objs.size) }) :
    codeAny (model prog w) A (.call (.ref C) ⟨vs, kw⟩) R s := by
  obtain ⟨hh, g, d, t, os⟩ := s
  exact PySem.W.make_core (PySem.W.makes_of X hm) (PySem.W.looks_findIn X hi) (fun self => PySem.W.bind_fn X self hf) (.inl rfl) h
end
/-! ### the attributes as a list of pairs -/
def putF (f : Str) (v : V) : List (Str × V) → List (Str × V)
  | [] => [(f, v)]
  | (g, x) :: r => if g = f then (g, v) :: r else (g, x) :: putF f v r
theorem lookup_putF (f g : Str) (v : V) : ∀ fs : List (Str × V), (putF f v fs).lookup g = if g = f then some v else fs.lookup g
  | [] => by
    show List.lookup g [(f, v)] = _
    by_cases h : g = f
    · have hb : (g == f) = true := beq_iff_eq.mpr h
      simp only [List.lookup, hb, if_pos h]
    · have hb : (g == f) = false := beq_eq_false_iff_ne.mpr h
      simp only [List.lookup, hb, if_neg h]
  | (k, x) :: r => by
    have ih := lookup_putF f g v r
    rw [show putF f v ((k, x) :: r) = (if k = f then (k, v) :: r else (k, x) :: putF f v r) from rfl]
    by_cases hk : k = f
    · rw [if_pos hk]
      by_cases h : g = k
      · have hb : (g == k) = true := beq_iff_eq.mpr h
        simp only [List.lookup, hb, if_pos (h.trans hk)]
      · have hb : (g == k) = false := beq_eq_false_iff_ne.mpr h
        simp only [List.lookup, hb, if_neg (fun e : g = f => h (e.trans hk.symm))]
    · rw [if_neg hk]
      by_cases h : g = k
      · have hb : (g == k) = true := beq_iff_eq.mpr h
        simp only [List.lookup, hb, if_neg (fun e : g = f => hk (h.symm.trans e))]
      · have hb : (g == k) = false := beq_eq_false_iff_ne.mpr h
        simp only [List.lookup, hb]
        exact ih
theorem keys_putF (f : Str) (v : V) : ∀ fs : List (Str × V), f ∈ (putF f v fs).map (·.1) ∧ ∀ g, g ∈ fs.map (·.1) → g ∈ (putF f v fs).map (·.1)
  | [] => ⟨by simp [putF], fun g h => by simp at h⟩
  | (k, x) :: r => by
    obtain ⟨i1, i2⟩ := keys_putF f v r
    rw [show putF f v ((k, x) :: r) = (if k = f then (k, v) :: r else (k, x) :: putF f v r) from rfl]
    by_cases hk : k = f
    · rw [if_pos hk]
      subst hk
      exact ⟨by simp, fun g h => by simpa using h⟩
    · rw [if_neg hk]
      refine ⟨?_, fun g h => ?_⟩
      · rw [List.map_cons]
        exact List.mem_cons_of_mem _ i1
      · rw [List.map_cons] at h ⊢
        rcases List.mem_cons.mp h with e | e
        · exact List.mem_cons.mpr (.inl e)
        · exact List.mem_cons_of_mem _ (i2 g e)
theorem length_putF (f : Str) (v : V) : ∀ fs : List (Str × V), (putF f v fs).length ≤ fs.length + 1
  | [] => by simp [putF]
  | (k, x) :: r => by
    have ih := length_putF f v r
    rw [show putF f v ((k, x) :: r) = (if k = f then (k, v) :: r else (k, x) :: putF f v r) from rfl]
    by_cases hk : k = f
    · rw [if_pos hk, List.length_cons, List.length_cons]; omega
    · rw [if_neg hk, List.length_cons, List.length_cons]; omega
theorem RelO.some_of {v : V} {o : Option Value} (r : RelO (some v) o) : ∃ u, o = some u ∧ RelV v u := by
  cases o with
  | none => exact (show False from r).elim
  | some u => exact ⟨u, rfl, r⟩
theorem RelO.none_of {o : Option Value} (r : RelO none o) : o = none := by
  cases o with
  | none => rfl
  | some u => exact (show False from r).elim
theorem handed_of {v : V} {u : Value} (r : RelV v u) : PySem.W.handedIn u = true := by
  cases v with
  | non => cases (show u = Value.none from r); rfl
  | bl b => cases (show u = Value.bool b from r); rfl
  | int i => obtain ⟨t, e⟩ := (show ∃ t, u = Value.int i t from r); cases e; rfl
  | str x => obtain ⟨t, e⟩ := (show ∃ t, u = Value.str x t from r); cases e; rfl
  | byt b => obtain ⟨t, e⟩ := (show ∃ t, u = Value.bytes b t from r); cases e; rfl
  | flt b => obtain ⟨t, e⟩ := (show ∃ t, u = Value.float b t from r); cases e; rfl
  | ref a => cases (show u = Value.ref a from r); rfl
  | ty n => cases (show u = Value.type n from r); rfl
section
variable {P : Program} {w : World} {H H' : Hp} {h h' : Heap} {a C dx : Addr} {fs fs' : List (Str × V)}
theorem ins_get (hok : HOk P w H h) (e : H a = some (.ins C dx fs)) : ∃ mA, ObjM h a dx C mA ∧ (∀ f, RelO (fs.lookup f) (mA f)) ∧ PySem.Within mA (fs.map (·.1)) ∧ fs.length ≤ 1000 ∧ H dx = some (.own a) := by
  obtain ⟨d, z, ne, ob, mA, n, r, q⟩ := (show ObjOk P w H h a (.ins C dx fs) from hok a _ e)
  exact ⟨mA, ⟨ob, n, ne⟩, r, q, z, d⟩
end
/-! ### what of the text a class must have -/
structure Cls (K : PySem.W.Frag) (C : Addr) : Prop where
  pg : PySem.W.plainGet K C Str.empty = true
  hd : PySem.W.hasDictIn K C = true
  po : PySem.W.plainOver K C = true
  sa : PySem.W.findIn K (.ref C) "__setattr__" = some (some (.builtin "object.__setattr__"))
theorem Cls.get {K : PySem.W.Frag} {C : Addr} (c : Cls K C) (f : Str) : PySem.W.plainGet K C f = true := c.pg
/-- no class of it has the name -/
def NoAttr (K : PySem.W.Frag) (C : Addr) (f : Str) : Prop := PySem.W.findIn K (.ref C) f = some none
theorem NoAttr.taker {K : PySem.W.Frag} {C : Addr} {f : Str} (n : NoAttr K C f) : PySem.W.takerIn K C f = some none := by
  unfold PySem.W.takerIn
  rw [show PySem.W.findIn K (.ref C) f = some none from n]
  rfl
/-- a method: a plain def of the class or of one above it -/
structure Meth (K : PySem.W.Frag) (C : Addr) (m : Str) (f : Addr) : Prop where
  at_ : PySem.W.findIn K (.ref C) m = some (some (.ref f))
  fn : PySem.W.isFn K (.ref f) = true
  kp : PySem.W.keepIn K (.ref f) = true
section
variable {X : Cx} {pins : List (Addr × Obj)} {σ : St} {H : Hp} {s : Shared} {a C dx : Addr} {fs : List (Str × V)} {f : Str} {v : V} {A : Around} {E : Value → Shared → Prop}
theorem getattr_ok {b : Bool} {Q : Value → Shared → Prop} (I : Inv X pins σ H s) (e : H a = some (.ins C dx fs)) (c : Cls X.K C) (n : NoAttr X.K C f) (l : fs.lookup f = some v)
    (h : ∀ u s', Inv X pins σ H s' → RelV v u → Q u s') : wpAny (model X.prog X.w) A (getAttr (.ref a) f b) Q E s := by
  obtain ⟨mA, O, r, _, _, _⟩ := ins_get I.hok e
  obtain ⟨u, hu, ru⟩ := RelO.some_of (v := v) (o := mA f) (by rw [← l]; exact r f)
  exact get_map I.kIn O (c.get f) c.hd n hu (handed_of ru) (h u _ (I.tok _) ru)
theorem getmeth_ok {m : Str} {g : Addr} {pl : Sem Bool} {Q : Value × List Value → Shared → Prop} (I : Inv X pins σ H s) (e : H a = some (.ins C dx fs)) (c : Cls X.K C) (k : Meth X.K C m g) (l : fs.lookup m = none)
    (h : Q (.ref g, [.ref a]) s) : wpAny (model X.prog X.w) A (getMethod (.ref a) m pl) Q E s := by
  obtain ⟨mA, O, r, _, _, _⟩ := ins_get I.hok e
  have hn : mA m = none := RelO.none_of (by rw [← l]; exact r m)
  exact get_meth I.kIn O (c.get m) k.at_ k.fn hn h
theorem setattr_ok {y : V} {u : Value} {Q : Unit → Shared → Prop} (I : Inv X pins σ H s) (e : H a = some (.ins C dx fs)) (c : Cls X.K C) (n : NoAttr X.K C f) (hl : fs.length < 1000) (ry : RelV y u)
    (h : ∀ s', Inv X pins σ (upd H a (.ins C dx (putF f y fs))) s' → Q () s') : wpAny (model X.prog X.w) A (setAttr (.ref a) f u) Q E s := by
  obtain ⟨mA, O, r, wi, _, ho⟩ := ins_get I.hok e
  have hz : (fs.map (·.1)).length ≤ sizeLine := by rw [List.length_map, sizeLine_eq]; omega
  refine set_map I.kIn O c.sa c.po n.taker c.hd wi hz fun h' O' sb => h _ ?_
  have hd : ∃ o, h'.get? dx = some o := let ⟨o, _, _, e', _⟩ := O'.ns; ⟨o, e'⟩
  refine I.write (x := a) (e := dx) (by rw [e]; exact True.intro) (.inr ho) (fun b q hb z => (sb.2 b hb).trans z) hd ?_
  refine ⟨by rw [upd_ne O.ne]; exact ho, ?_, O.ne, O'.obj, _, O'.ns, fun g => ?_, fun g hg => ?_⟩
  · have := length_putF f y fs; omega
  · show RelO ((putF f y fs).lookup g) (if g = f then some u else mA g)
    rw [lookup_putF]
    by_cases q : g = f
    · rw [if_pos q, if_pos q]; exact ry
    · rw [if_neg q, if_neg q]; exact r g
  · by_cases q : g = f
    · rw [q]; exact (keys_putF f y fs).1
    · refine (keys_putF f y fs).2 g (wi g fun z => hg ?_)
      show (if g = f then some u else mA g) = none
      rw [if_neg q]; exact z
/-- a new instance, tracked, without attributes -/
theorem Inv.made (I : Inv X pins σ H s) : Inv X pins σ (upd (upd H s.heap.objs.size (.own (s.heap.objs.size + 1))) (s.heap.objs.size + 1) (.ins C s.heap.objs.size []))
    { s with heap := (s.heap.push PySem.W.emptyDict).push (PySem.W.instObj C s.heap.objs.size) } := by
  have e1 : (s.heap.push PySem.W.emptyDict).get? s.heap.objs.size = some PySem.W.emptyDict := Heap.get?_push_size s.heap rfl
  have e2 : ((s.heap.push PySem.W.emptyDict).push (PySem.W.instObj C s.heap.objs.size)).get? (s.heap.objs.size + 1) = some (PySem.W.instObj C s.heap.objs.size) := by
    have := Heap.get?_push_size (s.heap.push PySem.W.emptyDict) (o := PySem.W.instObj C s.heap.objs.size) rfl
    rwa [Heap.size_push] at this
  have e3 : (s.heap.push PySem.W.emptyDict).Ns s.heap.objs.size (fun _ => none) := ⟨PySem.W.emptyDict, #[], _, e1, rfl, (fun e he => absurd he (by simp)), fun _ => rfl⟩
  have I1 := I.laid (a := s.heap.objs.size) (o := .own (s.heap.objs.size + 1)) (h' := s.heap.push PySem.W.emptyDict) (t' := s.toks) (fun b u q => Heap.get?_push_of_some _ q) (Nat.le_refl _) ⟨_, e1⟩
  refine I1.laid (a := s.heap.objs.size + 1) (o := .ins C s.heap.objs.size []) (t' := s.toks) (fun b u q => Heap.get?_push_of_some _ q) (Nat.le_of_eq (Heap.size_push _ _)) ?_
  have ne : s.heap.objs.size ≠ s.heap.objs.size + 1 := Nat.ne_of_lt (Nat.lt_succ_self _)
  refine ⟨by rw [upd_ne ne, upd_same], Nat.zero_le _, ne, e2, fun _ => none, (Heap.Ns1.of_empty e3).at fun o q => Heap.get?_push_of_some _ q, fun _ => True.intro, fun y hy => absurd rfl hy⟩
/-- e.f where nothing but the object is asked: through attributeBase (super) and the last hold -/
theorem attr_of {prog : Program} {w : World} {env : Env} {e : Expr} {f : Str} {pos : Pos} {s : Shared} {Q : Value → Shared → Prop} (hb : attributeBase e f env (eval e env) = eval e env)
    (h : wpAny (model prog w) A (eval e env) (fun o s₁ => wpAny (model prog w) A (getAttr o f true) Q E s₁) E s) : wpAny (model prog w) A (eval (.Attribute e f pos) env) Q E s :=
  Attribute_any_ h (by rw [arm_eval_Attribute, hb])
end
/-! ### readings and rules -/
/-- e.f, an attribute of the instance -/
def tFld (K : PySem.W.Frag) (ta : TE) (f : Str) : TE := fun σ H Q => ta σ H fun x H1 => ∃ a C dx fs v, x = .ref a ∧ H1 a = some (.ins C dx fs) ∧ Cls K C ∧ NoAttr K C f ∧ fs.lookup f = some v ∧ Q v H1
/-- e.f = value -/
def sFld (K : PySem.W.Frag) (ta tv : TE) (f : Str) : TS := fun D σ H => tv σ H fun y H1 => ta σ H1 fun x H2 => ∃ a C dx fs, x = .ref a ∧ H2 a = some (.ins C dx fs) ∧ Cls K C ∧ NoAttr K C f ∧ fs.length < 1000 ∧
  D.nx σ (upd H2 a (.ins C dx (putF f y fs)))
section
variable {X : Cx} {o e value : Expr} {f : Str} {pos pos' tpos : Pos} {ta tv : TE}
theorem pe_fld (he : PE X e ta) (hb : attributeBase e f X.env (eval e X.env) = eval e X.env) : PE X (.Attribute e f pos) (tFld X.K ta f) := by
  intro pins s σ H Q I h
  refine attr_of hb (thn (he pins s σ H _ I h) fun u s1 ⟨x, H1, I1, rx, a, C, dx, fs, v, ex, ea, c, n, l, q⟩ => ?_)
  subst ex
  obtain rfl : u = Value.ref a := rx
  exact getattr_ok I1 ea c n l fun u' s2 I2 ru => ⟨v, H1, I2, ru, q⟩
theorem ps_fld (ha : PE X o ta) (hv : PE X value tv) (hs : swapsWith value (some (.Attribute o f pos')) pos.line X.env = pure false) : PS X (.Assign [.Attribute o f pos'] value pos) (sFld X.K ta tv f) := by
  intro pins s σ H D I h
  refine plainObj_wpAny_Assign_Attribute (thn (hv pins s σ H _ I h) fun u s1 ⟨y, H1, I1, ry, q⟩ => thn (ha pins s1 σ H1 _ I1 q) fun ov s2 ⟨x, H2, I2, rx, a, C, dx, fs, ex, ea, c, n, l, q2⟩ => ?_) hs
  subst ex
  obtain rfl : ov = Value.ref a := rx
  exact setattr_ok I2 ea c n l ry fun s3 I3 => ⟨σ, _, I3, q2⟩
end
/-! ### isinstance -/
section
variable {X : Cx} {pins : List (Addr × Obj)} {σ : St} {H : Hp} {s : Shared} {A : Around} {E : Value → Shared → Prop} {Q : Value → Shared → Prop} {c : Value} {b : Bool}
/-- the type of a value, as the fragment's deciders take it; for an instance its class -/
inductive TyOf (K : PySem.W.Frag) (H : Hp) : V → Value → Prop where
  | non : TyOf K H .non (.type "NoneType")
  | bl (x : Bool) : TyOf K H (.bl x) (.type "bool")
  | int (i : Int) : TyOf K H (.int i) (.type "int")
  | str (x : Str) : TyOf K H (.str x) (.type "str")
  | flt (x : UInt64) : TyOf K H (.flt x) (.type "float")
  | lst {a : Addr} {xs : List V} (e : H a = some (.lst xs)) : TyOf K H (.ref a) (.type "list")
  | frz {a : Addr} {o : Obj} {xs : List V} (e : H a = some (.frz o (.lst xs))) : TyOf K H (.ref a) (.type "list")
  | tup {a : Addr} {xs : List V} (e : H a = some (.tup xs)) : TyOf K H (.ref a) (.type "tuple")
  | dK {a : Addr} {kvs : List (Key × V)} (e : H a = some (.dK kvs)) : TyOf K H (.ref a) (.type "dict")
  | dT {a : Addr} {kvs : List (List Key × V)} (e : H a = some (.dT kvs)) : TyOf K H (.ref a) (.type "dict")
  | ins {a C dx : Addr} {fs : List (Str × V)} (e : H a = some (.ins C dx fs)) (cl : Cls K C) (ha : PySem.W.findIn K (.ref C) "__class__" = some (some (.builtin "object.__class__")))
      (hn : PySem.W.specialIn K (.builtin "object.__class__") "__get__" = some (some (.builtin "getset_descriptor.__get__"))) (htk : PySem.W.takesIn K (.builtin "object.__class__") = some true)
      (hm : PySem.W.mroIn K C (.type "object") = some true) : TyOf K H (.ref a) (.ref C)
/-- isinstance(x, c) for one class c, a built-in or an own one: kitOne's answer -/
theorem isinst_ok {x : V} {u t : Value} (I : Inv X pins σ H s) (rx : RelV x u) (ty : TyOf X.K H x t) (e : PySem.W.kitOne X.K t c = some b) (h : ∀ tk, Q (.bool b) { s with toks := tk }) :
    wpAny (model X.prog X.w) A (call (.builtin "isinstance") [u, c]) Q E s := by
  cases ty with
  | non => cases (show u = Value.none from rx); exact PySem.W.kia_one PySem.W.kitx_none I.kIn True.intro e (fun z => nomatch z) h
  | bl y => cases (show u = Value.bool y from rx); exact PySem.W.kia_one PySem.W.kitx_bool I.kIn True.intro e (fun z => nomatch z) h
  | int i => obtain ⟨t, q⟩ := (show ∃ t, u = Value.int i t from rx); cases q; exact PySem.W.kia_one PySem.W.kitx_int I.kIn True.intro e (fun z => nomatch z) h
  | str y => obtain ⟨t, q⟩ := (show ∃ t, u = Value.str y t from rx); cases q; exact PySem.W.kia_one PySem.W.kitx_str I.kIn True.intro e (fun z => nomatch z) h
  | flt y => obtain ⟨t, q⟩ := (show ∃ t, u = Value.float y t from rx); cases q; exact PySem.W.kia_one PySem.W.kitx_float I.kIn True.intro e (fun z => nomatch z) h
  | @lst a xs ea =>
    cases (show u = Value.ref a from rx)
    obtain ⟨_, _, n, _, h1⟩ := (show ObjOk X.prog X.w H s.heap a (.lst xs) from I.hok a _ ea)
    exact PySem.W.kia_one PySem.W.kitx_list I.kIn ⟨_, h1, rfl⟩ e (fun z => nomatch z) h
  | @frz a ob xs ea =>
    cases (show u = Value.ref a from rx)
    obtain ⟨_, _, _, n, _, h1⟩ := (show ObjOk X.prog X.w H s.heap a (.frz ob (.lst xs)) from I.hok a _ ea)
    exact PySem.W.kia_one PySem.W.kitx_list I.kIn ⟨_, h1, rfl⟩ e (fun z => nomatch z) h
  | @tup a xs ea =>
    cases (show u = Value.ref a from rx)
    obtain ⟨_, _, _, p⟩ := (show ObjOk X.prog X.w H s.heap a (.tup xs) from I.hok a _ ea)
    obtain ⟨o, h1, h2, _⟩ := p
    exact PySem.W.kia_one PySem.W.kitx_tuple I.kIn ⟨o, h1, h2⟩ e (fun z => nomatch z) h
  | @dK a kvs ea =>
    cases (show u = Value.ref a from rx)
    obtain ⟨_, _, vs, _, p⟩ := (show ObjOk X.prog X.w H s.heap a (.dK kvs) from I.hok a _ ea)
    obtain ⟨o, es, ep, h1, h2, _⟩ := p
    exact PySem.W.kia_one PySem.W.kitx_dict I.kIn ⟨o, h1, h2.1⟩ e (fun z => nomatch z) h
  | @dT a kvs ea =>
    cases (show u = Value.ref a from rx)
    obtain ⟨_, _, xs, _, o, es, ep, h1, h2, _⟩ := (show ObjOk X.prog X.w H s.heap a (.dT kvs) from I.hok a _ ea)
    exact PySem.W.kia_one PySem.W.kitx_dict I.kIn ⟨o, h1, h2.1⟩ e (fun z => nomatch z) h
  | @ins a C dx fs ea cl ha hn htk hm =>
    cases (show u = Value.ref a from rx)
    obtain ⟨mA, O, _⟩ := ins_get I.hok ea
    obtain ⟨od, J, _⟩ := O.look
    exact PySem.W.kia_one (PySem.W.kitx_own (cl.get _) cl.hd ha hn htk hm) I.kIn J e (fun z => nomatch z) h
end
end L2
namespace L2
open PySem PySem.Spec PyProof.Rows
/-! ### room -/
structure Room (k : Nat) (A : Around) : Prop where
  hd : A.handled = none
  dp : A.depth + 3 * k + 5 < recursionLimit
  un : A.units + 16 * k + 200 < cLine
theorem Room.mono {j k : Nat} {A : Around} (r : Room k A) (h : j ≤ k) : Room j A := ⟨r.hd, by have := r.dp; omega, by have := r.un; omega⟩
theorem Room.deeper {k : Nat} {A : Around} (r : Room (k + 1) A) (env : Env) : Room k (A.deeper env) :=
  ⟨r.hd, by have := r.dp; show A.depth + 1 + 3 * k + 5 < _; omega, by have := r.un; show A.units + 3 + 16 * k + 200 < _; omega⟩
theorem make_depth {A : Around} {C : Addr} {us : List Value} {kw : List (Str × Value)} : (A.under (.builtin "type.__call__" ⟨.ref C :: us, kw⟩)).depth = A.depth + 1 := by
  first | rfl | simp [Around.under, Code.weight, Code.isCreation, Code.isGuard, Code.isCaller, Code.frames, Code.isFrame, guardIds]
theorem make_units {A : Around} {C : Addr} {us : List Value} {kw : List (Str × Value)} : (A.under (.builtin "type.__call__" ⟨.ref C :: us, kw⟩)).units = A.units + 1 := by
  first | rfl | simp [Around.under, Code.cUnits, Code.frames, Code.isFrame]
theorem Room.make {k : Nat} {A : Around} (r : Room (k + 1) A) (C : Addr) (us : List Value) (kw : List (Str × Value)) : Room k (A.under (.builtin "type.__call__" ⟨.ref C :: us, kw⟩)) :=
  ⟨r.hd, by have := r.dp; rw [make_depth]; omega, by have := r.un; rw [make_units]; omega⟩
theorem Room.depth {k : Nat} {A : Around} (r : Room k A) : A.depth < recursionLimit := by have := r.dp; omega
theorem Room.units {k : Nat} {A : Around} (r : Room k A) : A.units + 64 < cLine := by have := r.un; omega
/-! ### argument lists and displays -/
def tNil : TA := fun _ H Q => Q [] H
def tCons (ta : TE) (tr : TA) : TA := fun σ H Q => ta σ H fun x H1 => tr σ H1 fun xs H2 => Q (x :: xs) H2
section
variable {X : Cx} {e : Expr} {es : List Expr} {te : TE} {t : TA} {pos : Pos}
theorem pa_nil : PA X [] tNil := fun _ _ _ _ H Q I h => Calls.spliced_nil ⟨[], H, I, .nil, h⟩
theorem pa_cons (ha : PE X e te) (hr : PA X es t) (hs : starEach (e :: es) X.env = (false, eval e X.env) :: starEach es X.env := by rfl) : PA X (e :: es) (tCons te t) := by
  intro pos pins s σ H Q I h
  rw [hs]
  show wpAny _ _ (spliced ((false, eval e X.env) :: backTo pos (starEach es X.env))) _ _ s
  refine Calls.spliced_cons (thn (ha pins s σ H _ I h) fun u s1 ⟨x, H1, I1, r1, q1⟩ => ?_)
  exact thn (hr pos pins s1 σ H1 _ I1 q1) fun us s2 ⟨xs, H2, I2, r2, q2⟩ => ⟨x :: xs, H2, I2, .cons r1 r2, q2⟩
/-- a tuple, a list of written items -/
def tTup (t : TA) : TE := fun σ H Q => t σ H fun xs H1 => xs.length ≤ sizeLine ∧ ∀ p, H1 p = none → Q (.ref p) (upd H1 p (.tup xs))
def tLst (t : TA) : TE := fun σ H Q => t σ H fun xs H1 => xs.length ≤ sizeLine ∧ ∀ p, H1 p = none → Q (.ref p) (upd H1 p (.lst xs))
theorem pe_tup {x1} (h : PA X es t) : PE X (.Tuple es x1 pos) (tTup t) := by
  intro pins s σ H Q I hq
  refine wpAny_Tuple_spliced (thn (h pos pins s σ H _ I hq) fun us s1 ⟨xs, H1, I1, r, z, q⟩ => ⟨by rw [← r.length]; exact z, ?_⟩)
  have hf : H1 s1.heap.objs.size = none := I1.hok.fresh (Nat.le_refl _)
  refine ⟨.ref s1.heap.objs.size, upd H1 s1.heap.objs.size (.tup xs), I1.laid (t' := s1.toks) (fun b u e => Heap.get?_push_of_some _ e) (Nat.le_refl _) ?_, rfl, q _ hf⟩
  exact ⟨z, us, r, ⟨_, Heap.get?_push_size _ rfl, rfl, _, rfl⟩⟩
theorem pe_lst (h : PA X es t) : PE X (.List es pos) (tLst t) := by
  intro pins s σ H Q I hq
  refine wpAny_List_spliced (thn (h pos pins s σ H _ I hq) fun us s1 ⟨xs, H1, I1, r, z, q⟩ => ⟨by rw [← r.length]; exact z, ?_⟩)
  have hf : H1 s1.heap.objs.size = none := I1.hok.fresh (Nat.le_refl _)
  refine ⟨.ref s1.heap.objs.size, upd H1 s1.heap.objs.size (.lst xs), I1.laid (t' := s1.toks) (fun b u e => Heap.get?_push_of_some _ e) (Nat.le_refl _) ?_, rfl, q _ hf⟩
  exact ⟨z, us, 0, r, Heap.get?_push_size _ rfl⟩
end
/-! ### what a def promises -/
/-- a def's promise: the bound arguments in the parameters' order, the heap, the wanted end, the wanted exception -/
abbrev Sp := List V → Hp → VK → XK → Prop
/-- how an exception lies behind a call (file 08 gives it): the callers' frames, abstract heap and state ahead of the call, the wish, the exception, the state -/
abbrev CXT := List Env → Hp → Shared → XK → Value → Shared → Prop
/-- the state at a call -/
structure Env0 (P : Program) (w : World) (K : PySem.W.Frag) (mg : Str → Option Value) (base : Heap) (A : Around) (outer : List Env) (s : Shared) (H : Hp) : Prop where
  frames : A.frames = some outer
  mod : Mod K mg base
  bs : ∀ b o, base.get? b = some o → s.heap.get? b = some o ∧ H b = none
  bsz : base.objs.size ≤ s.heap.objs.size
  funs : s.heap.FunFrames base outer
  frf : ∀ b ∈ frs outer, H b = none
  hok : HOk P w H s.heap
  bare : AllBare s.gens
/-- a call's end -/
def CE (outer : List Env) (P : Program) (w : World) (H : Hp) (s : Shared) (Q : VK) (u : Value) (s' : Shared) : Prop :=
  ∃ v H', s'.os = s.os ∧ AllBare s'.gens ∧ Un (frs outer) [] H H' s.heap s'.heap ∧ HOk P w H' s'.heap ∧ RelV v u ∧ Q v H'
def CR (CX : CXT) (outer : List Env) (P : Program) (w : World) (H : Hp) (s : Shared) (Q : VK) (E : XK) (r : Result) (s' : Shared) : Prop :=
  match r with
  | .ok (.ret u) => CE outer P w H s Q u s'
  | .ok _ => False
  | .error e => CX outer H s E e s'
structure FnOk (P : Program) (w : World) (K : PySem.W.Frag) (mg : Str → Option Value) (base : Heap) (CX : CXT) (k : Nat) (f : Addr) (fd : FuncData) (ps : List Str) (sp : Sp) : Prop where
  len : ∀ vs H Q E, sp vs H Q E → vs.length = ps.length
  run : ∀ (A : Around) (outer : List Env) (s : Shared) (H : Hp) (args : Args) (us : List Value) (vs : List V) (Q : VK) (E : XK), Room k A → Env0 P w K mg base A outer s H → BindsTo s fd args (ps.zip us) → Vals vs us → sp vs H Q E →
    codeAny (model P w) A (.call (.ref f) args) (CR CX outer P w H s Q E) s
theorem Env0.make {P : Program} {w : World} {K : PySem.W.Frag} {mg : Str → Option Value} {base : Heap} {A : Around} {outer : List Env} {s : Shared} {H : Hp} (e : Env0 P w K mg base A outer s H) (C : Addr) (us : List Value) (kw : List (Str × Value)) :
    Env0 P w K mg base (A.under (.builtin "type.__call__" ⟨.ref C :: us, kw⟩)) outer s H := ⟨by first | exact e.frames | (simpa [Around.under, Code.envs, Code.isFrame, pushEnvs] using e.frames), e.mod, e.bs, e.bsz, e.funs, e.frf, e.hok, e.bare⟩
section
variable {X : Cx} {pins : List (Addr × Obj)} {σ : St} {H : Hp} {s s' : Shared}
/-- from a body: what a callee wants -/
theorem Inv.env0 (I : Inv X pins σ H s) : Env0 X.prog X.w X.K X.mg X.base X.A X.stack s H :=
  ⟨I.ok.frames, I.ok.mod, I.bs, Nat.le_trans I.ok.bsz I.sz, I.stack, I.stkFree, I.hok, I.bare⟩
/-- behind a call -/
theorem Inv.after {Q : VK} {u : Value} (I : Inv X pins σ H s) (h : CE X.stack X.prog X.w H s Q u s') : EP X pins σ Q u s' := by
  obtain ⟨v, H', os, bare, un, hok, r, q⟩ := h
  obtain ⟨hh, g, d, t, os'⟩ := s'
  obtain rfl : os' = s.os := os
  exact ⟨v, H', I.call (h' := hh) (g' := g) (d' := d) (t' := t) (ch := []) un hok bare (fun b z => absurd z (by simp)), r, q⟩
end
/-- how the parameters are bound: us the positional arguments, kw the keywords' values by name, ds the defaults that fill up -/
def Binds (K : PySem.W.Frag) (fd : FuncData) (ps : List Str) (ds : List Value) : Prop :=
  ∀ (s : Shared) (us : List Value), K.In s.heap → (us ++ ds).length = ps.length → BindsTo s fd ⟨us, []⟩ (ps.zip (us ++ ds))
/-- every parameter is given -/
theorem Binds.all {K : PySem.W.Frag} {fd : FuncData} {ps : List Str} (h : ∀ us : List Value, us.length = ps.length → bindArgs fd ⟨us, []⟩ = pure (ps.zip us)) : Binds K fd ps [] := fun s us _ hl => by
  rw [List.append_nil] at hl ⊢
  exact .of_eq (h us hl)
section
variable {X : Cx} {CX : CXT} {k : Nat} {f C : Addr} {fd : FuncData} {ps : List Str} {sp : Sp} {dvs : List V} {ds : List Value} {E : XK} {x m : Str} {p pos apos : Pos} {e o : Expr} {es : List Expr} {ta : TE} {t : TA}
/-- what a class must have to be made -/
structure Mk (K : PySem.W.Frag) (C f : Addr) : Prop where
  makes : PySem.W.makesIn K C = true
  init : PySem.W.findIn K (.ref C) "__init__" = some (some (.ref f))
  fn : PySem.W.isFn K (.ref f) = true
  kp : PySem.W.keepIn K (.ref C) = true
end
section
variable {X : Cx} {CX : CXT} {k : Nat} {f C : Addr} {fd : FuncData} {ps ks : List Str} {sp : Sp} {E : XK} {x m : Str} {p pos apos kpos : Pos} {e o : Expr} {es : List Expr} {kws : List Keyword} {te ta : TE} {t tk : TA} {nm : Option Str}
variable {g : List Value → List Value → List Value} {gV : List V → List V → List V}
end
/-! ### a def's body keeps its promise -/
/-- names: the parameters first -/
structure FnScope (N P : List Str) (sc : Scope) : Prop where
  kind : sc.kind = .function
  co : sc.isCoroutine = false
  gen : sc.isGenerator = false
  nd : N.Nodup
  pre : N.take P.length = P
  par : ∀ x ∈ P, sc.names.lookup x = some .local ∨ sc.names.lookup x = some .cell
  nofree : ∀ y ∈ sc.names, y.2 ≠ .free
theorem bindL_out {kindOf : Str → Option NameKind} {x : Str} : ∀ {binds : List (Str × Value)} {m : Str → Option Value}, (∀ v, (x, v) ∉ binds) → bindL kindOf binds m x = m x
  | [], _, _ => rfl
  | (n, v) :: r, m, h => by
    unfold bindL
    rw [bindL_out fun w hw => h w (List.mem_cons_of_mem _ hw)]
    split
    · have : x ≠ n := by rintro rfl; exact h v List.mem_cons_self
      simp [this]
    · rfl
theorem bindC_out {kindOf : Str → Option NameKind} {x : Str} : ∀ {binds : List (Str × Value)} {m : Str → Option Value}, (∀ v, (x, v) ∉ binds) → bindC kindOf binds m x = m x
  | [], _, _ => rfl
  | (n, v) :: r, m, h => by
    unfold bindC
    rw [bindC_out fun w hw => h w (List.mem_cons_of_mem _ hw)]
    split
    · rfl
    · have : x ≠ n := by rintro rfl; exact h v List.mem_cons_self
      simp [this]
theorem bindL_get {kindOf : Str → Option NameKind} {x : Str} {v : Value} : ∀ {P : List Str} {vs : List Value} {i : Nat} {m : Str → Option Value}, P.Nodup → P[i]? = some x → vs[i]? = some v → kindOf x = some .local →
    bindL kindOf (P.zip vs) m x = some v
  | [], _, _, _, _, h, _, _ => by simp at h
  | _ :: _, [], _, _, _, _, h, _ => by simp at h
  | p :: P, w :: vs, 0, m, nd, h1, h2, hk => by
    simp at h1 h2; subst h1; subst h2
    show bindL kindOf ((p, w) :: P.zip vs) m p = _
    unfold bindL
    rw [bindL_out fun v hv => (List.nodup_cons.mp nd).1 (List.of_mem_zip hv).1, if_pos hk]
    simp
  | p :: P, w :: vs, i + 1, m, nd, h1, h2, hk => by
    show bindL kindOf ((p, w) :: P.zip vs) m x = _
    unfold bindL
    exact bindL_get (i := i) (List.nodup_cons.mp nd).2 (by simpa using h1) (by simpa using h2) hk
theorem bindC_get {kindOf : Str → Option NameKind} {x : Str} {v : Value} : ∀ {P : List Str} {vs : List Value} {i : Nat} {m : Str → Option Value}, P.Nodup → P[i]? = some x → vs[i]? = some v → kindOf x ≠ some .local →
    bindC kindOf (P.zip vs) m x = some v
  | [], _, _, _, _, h, _, _ => by simp at h
  | _ :: _, [], _, _, _, _, h, _ => by simp at h
  | p :: P, w :: vs, 0, m, nd, h1, h2, hk => by
    simp at h1 h2; subst h1; subst h2
    show bindC kindOf ((p, w) :: P.zip vs) m p = _
    unfold bindC
    rw [bindC_out fun v hv => (List.nodup_cons.mp nd).1 (List.of_mem_zip hv).1, if_neg hk]
    simp
  | p :: P, w :: vs, i + 1, m, nd, h1, h2, hk => by
    show bindC kindOf ((p, w) :: P.zip vs) m x = _
    unfold bindC
    exact bindC_get (i := i) (List.nodup_cons.mp nd).2 (by simpa using h1) (by simpa using h2) hk
/-- the names' values at the entry -/
def start (N : List Str) (vs : List V) : St := vs.map some ++ List.replicate (N.length - vs.length) none
/-- the context of a def's body, at its entry; an exception leaves the frame, then lies as CX says -/
def cxOf (CX : CXT) (P : Program) (w : World) (K : PySem.W.Frag) (mg : Str → Option Value) (base : Heap) (N : List Str) (qual : Str) (scope : Scope) (f : Addr) (cd : Value) (A : Around) (outer : List Env) (s : Shared) (H : Hp) (E : XK) : Cx where
  prog := P
  w := w
  K := K
  mg := mg
  base := base
  A := A.deeper (envOfC qual scope s.heap.objs.size f cd)
  N := N
  s₀ := s
  H₀ := H
  env := envOfC qual scope s.heap.objs.size f cd
  outer := outer
  stack := envOfC qual scope s.heap.objs.size f cd :: outer
  ex := []
  calm := true
  fn := fun _ => true
  pn := []
  xe := fun e s' => wpAny (model P w) (A.deeper (envOfC qual scope s.heap.objs.size f cd)) (leaving (envOfC qual scope s.heap.objs.size f cd) e) (fun _ s'' => CX outer H s E e s'') (fun e' s'' => CX outer H s E e' s'') s'
theorem cell_has {sc : Scope} {n : Nat} {x : Str} (h : sc.names.lookup x = some .cell) : ∃ c, (cellsFrom n sc.names []).lookup x = some c := by
  have q := PySem.W.cellsFrom_some sc.names n [] (.inl h)
  exact Option.isSome_iff_exists.mp q
theorem inv_start {CX : CXT} {P : Program} {w : World} {K : PySem.W.Frag} {mg : Str → Option Value} {base : Heap} {N ps : List Str} {qual : Str} {scope : Scope} {f : Addr} {cd : Value} {A : Around} {outer : List Env} {s s1 : Shared} {H : Hp} {E : XK} {us : List Value} {vs : List V}
    (S : FnScope N ps scope) (hd : A.handled = none) (e0 : Env0 P w K mg base A outer s H) (hl : vs.length = ps.length) (r : Vals vs us)
    (x : InCallC s s.heap.objs.size (bindL (envOfC qual scope s.heap.objs.size f cd).kindOf (ps.zip us) fun _ => none) (cellsFrom (s.heap.objs.size + 1) scope.names []) (bindC (envOfC qual scope s.heap.objs.size f cd).kindOf (ps.zip us) fun _ => none) s1) :
    Inv (cxOf CX P w K mg base N qual scope f cd A outer s H E) [] (start N vs) H s1 := by
  have hpl : ps.length ≤ N.length := by have := congrArg List.length S.pre; rw [List.length_take] at this; omega
  obtain ⟨h1, tk, rfl, hk⟩ := x.done
  have noA : ∀ b : Addr, b ∉ (cxOf CX P w K mg base N qual scope f cd A outer s H E).ex := fun b z => absurd (show b ∈ ([] : List Addr) from z) (by simp)
  refine ⟨⟨e0.mod, S.kind, rfl, rfl, Nat.le_refl _, fun y z c h1 h2 => ?_, fun y hy => ?_, fun y c _ h => ?_, fun _ => hd, Around.frames_deeper e0.frames, .inr ⟨rfl, rfl⟩, fun b z => absurd z (noA b), e0.bs, e0.bsz, fun b _ _ => noA b, fun b z => absurd z (noA b), e0.funs, e0.frf⟩,
    rfl, e0.bare, Un.kept hk, ⟨_, x.toInCall.ns, fun i y v h1 h2 h3 => ?_⟩, fun y c h => ⟨_, x.cell y c h⟩, e0.hok.fresh (Nat.le_refl _), fun y c h => ?_, fun p hp => absurd (show p ∈ ([] : List (Addr × Obj)) from hp) (by simp), e0.hok.kept hk, ?_⟩
  · exact name_of_addr x.apart (PySem.mem_of_lookup h1) (PySem.mem_of_lookup h2)
  · have hy : scope.names.lookup y = some .cell ∨ scope.names.lookup y = some .free := hy
    rcases hy with hy | hy
    · exact cell_has hy
    · exact absurd rfl (S.nofree _ (PySem.mem_of_lookup hy))
  · exact Nat.le_of_lt (x.above y c (PySem.mem_of_lookup h))
  · have hi : i < vs.length := by
      unfold start at h2
      by_cases hi : i < vs.length
      · exact hi
      · rw [List.getElem?_append_right (by simpa using hi)] at h2
        rw [List.getElem?_replicate] at h2
        split at h2 <;> cases h2
    have ha : vs[i]? = some v := by
      unfold start at h2
      rw [List.getElem?_append_left (by simpa using hi), List.getElem?_map] at h2
      cases e : vs[i]? with
      | none => rw [e] at h2; cases h2
      | some a => rw [e] at h2; cases h2; rfl
    obtain ⟨u, hu, rv⟩ := r.get ha
    have hp : ps[i]? = some y := by
      rw [← S.pre, List.getElem?_take_of_lt (by omega)]; exact h1
    have ndP : ps.Nodup := by rw [← S.pre]; exact S.nd.sublist (List.take_sublist _ _)
    refine ⟨u, rv, ?_⟩
    rcases S.par y (List.mem_of_getElem? hp) with k | k
    · exact .inl ⟨k, bindL_get ndP hp hu k⟩
    · obtain ⟨c, e⟩ := cell_has (n := s.heap.objs.size + 1) k
      refine .inr ⟨.inl k, c, e, ?_⟩
      have q := x.cell y c e
      rw [bindC_get ndP hp hu (by show scope.names.lookup y ≠ _; rw [k]; decide)] at q
      exact q
  · exact e0.hok.fresh (Nat.le_of_lt (x.above y c (PySem.mem_of_lookup h)))
  · unfold start
    show _ = N.length
    rw [List.length_append, List.length_map, List.length_replicate]
    omega
/-- THE RULE: a def (or a method) of the text, by its body. The body's reading t is chosen for each entry; it is run at the parameters' values -/
theorem fn_of {CX : CXT} {P : Program} {w : World} {K : PySem.W.Frag} {mg : Str → Option Value} {base : Heap} {k : Nat} {f : Addr} {name qual : Str} {params : Arguments} {body : List Stmt} {scope : Scope} {dV kV doc pm cdv ct oc : Value} {an od : Option Addr}
    {osl : Array (Option Value)} {N ps : List Str} {sp : Sp} (lk : K.lookup f = some ⟨oc, od, .func (PySem.W.fnOf name qual params body scope dV kV doc pm an cdv ct), osl⟩) (hcd : PySem.W.codeIn K cdv qual = true) (S : FnScope N ps scope)
    (len : ∀ vs H Q E, sp vs H Q E → vs.length = ps.length)
    (hbody : ∀ (A : Around) (outer : List Env) (s : Shared) (H : Hp) (vs : List V) (Q : VK) (E : XK), Room k (A.deeper (envOfC qual scope s.heap.objs.size f cdv)) → sp vs H Q E →
      ∃ t, PSs (cxOf CX P w K mg base N qual scope f cdv A outer s H E) body t ∧ t { nx := fun _ H' => Q .non H', rt := Q } (start N vs) H) :
    FnOk P w K mg base CX (k + 1) f (PySem.W.fnOf name qual params body scope dV kV doc pm an cdv ct) ps sp := by
  refine ⟨len, fun A outer s H args us vs Q E hr e0 hb r hsp => ?_⟩
  have hl := len _ _ _ _ hsp
  have KX : K.In s.heap := e0.mod.kin.keeps fun b o e => (e0.bs b o e).1
  have lim : s.heap.NoLimit := e0.mod.nolimit.keeps fun b o e => (e0.bs b o e).1
  have hkind : ∀ y ∈ ps.zip us, scope.names.lookup y.1 = some .local ∨ (scope.names.lookup y.1 = some .cell ∧ ((cellsFrom (s.heap.objs.size + 1) scope.names []).lookup y.1).isSome = true) := fun ⟨n, v⟩ hy => by
    rcases S.par n (List.of_mem_zip hy).1 with q | q
    · exact .inl q
    · exact .inr ⟨q, PySem.W.cellsFrom_some _ _ _ (.inl q)⟩
  refine codeAny_call_function hr.depth (KX _ _ lk) rfl S.co S.gen rfl (PySem.W.codeRec_of KX hcd) (hb _ _ _ _ ?_)
  refine wpAny_newFunctionEnv_cells S.kind hkind fun env he s1 x => ?_
  subst he
  refine ⟨lim.keeps x.toInCall.keep, codeAny_func ?_⟩
  obtain ⟨t, ht, hq⟩ := hbody A outer s H vs Q E (hr.deeper _) hsp
  have I : Inv (cxOf CX P w K mg base N qual scope f cdv A outer s H E) [] (start N vs) H s1 := inv_start S hr.hd e0 hl r x
  refine wpAny_mono (ht [] s1 (start N vs) H _ I hq) (fun fl s' hs => ?_) fun e s' hs => hs
  have fin : ∀ {σ' : St} {H' : Hp} {v : V} {u : Value}, Inv (cxOf CX P w K mg base N qual scope f cdv A outer s H E) [] σ' H' s' → RelV v u → Q v H' → CE outer P w H s Q u s' :=
    fun {σ' H' v u} J rv q => ⟨v, H', J.os, J.bare, J.base, J.hok, rv, q⟩
  cases fl with
  | ret u =>
    obtain ⟨v, σ', H', J, rv, q⟩ := hs
    exact fin J rv q
  | next =>
    obtain ⟨σ', H', J, q⟩ := hs
    exact fin (v := V.non) (u := Value.none) J rfl q
  | brk =>
    obtain ⟨_, _, _, q⟩ := hs
    exact False.elim q
  | cont =>
    obtain ⟨_, _, _, q⟩ := hs
    exact False.elim q
end L2
namespace L2
open PySem PySem.Spec PyProof.Rows
section
variable {X : Cx} {x : Str} {p pos : Pos} {e : Expr} {es : List Expr} {t : TA} {id T : String} {r : List V → Hp → VK → Prop}
def tCB (r : List V → Hp → VK → Prop) (t : TA) : TE := fun σ H Q => t σ H fun vs H1 => r vs H1 Q
/-- f(e, ..), f a built-in function -/
theorem pe_callB (hc : CallR X (.builtin id) r) (hg : Gl X x) (hm : X.mg x = none) (hv : bootBuiltins x = some (.builtin id)) (ha : PA X (e :: es) t) (hn : x ≠ "__name__" := by decide) (hdb : (x == ("__debug__" : Str)) = false := by decide)
    (he : starEach (e :: es) X.env = (false, eval e X.env) :: starEach es X.env := by rfl) (hpl : (backTo pos (starEach es X.env)).any (·.1) = false := by rfl) : PE X (.Call (.Name x p) (e :: es) [] pos) (tCB r t) := by
  intro pins s σ H Q I h
  refine wpAny_Call_Name_kw (ld_blt I hg hm hv ?_ hn hdb)
  exact PyProof.Rows.callWith_builtin1 (thn (ha pos pins s σ H _ I h) fun us s1 ⟨vs, H1, I1, r1, q1⟩ => hc pins s1 σ H1 vs us Q I1 r1 q1) he hpl
/-- T(e, ..), T a built-in type -/
theorem pe_callTy (hc : CallR X (.type T) r) (hg : Gl X x) (hm : X.mg x = none) (hv : bootBuiltins x = some (.type T)) (ha : PA X (e :: es) t) (hn : x ≠ "__name__" := by decide) (hdb : (x == ("__debug__" : Str)) = false := by decide)
    (he : starEach (e :: es) X.env = (false, eval e X.env) :: starEach es X.env := by rfl) (hpl : (backTo pos (starEach es X.env)).any (·.1) = false := by rfl) : PE X (.Call (.Name x p) (e :: es) [] pos) (tCB r t) := by
  intro pins s σ H Q I h
  refine wpAny_Call_Name_kw (ld_blt I hg hm hv ?_ hn hdb)
  exact PyProof.Rows.callWith_type1 (thn (ha pos pins s σ H _ I h) fun us s1 ⟨vs, H1, I1, r1, q1⟩ => hc pins s1 σ H1 vs us Q I1 r1 q1) he hpl
end
end L2
namespace HT
open PySem PyProof.Rows
section
open PySem.SeqAt
open PySem.AutoSeq1 (wpAny_loadPart')
open PySem.MeetsSeq PySem.MeetsSeq2 PySem.MeetsSeq3
end
section
variable {prog : Program} {w : World} {A : Around} {E : Value → Shared → Prop} {s : Shared}
/-! ### t[a:b], not the whole -/
/-- a slice's bound as a place among n (d where it is left out) -/
def sIx (n d : Nat) : Option Int → Nat
  | none => d
  | some v => if v < 0 then (v + (n : Int)).toNat else min v.toNat n
end
end HT
namespace L2
open PySem PySem.Spec PyProof.Rows
/-! ### the parts of a slice -/
abbrev TO := St → Hp → (Option Int → Hp → Prop) → Prop
/-- a slice's part (left out, or an int) -/
def PO (X : Cx) (e : Option Expr) (t : TO) : Prop :=
  ∀ (pins : List (Addr × Obj)) (s : Shared) (σ : St) (H : Hp) (Q : Option Int → Hp → Prop), Inv X pins σ H s → t σ H Q →
    wpAny (model X.prog X.w) X.A (evalPart e X.env) (fun u s' => ∃ o H', Inv X pins σ H' s' ∧ IsPart u o ∧ Q o H') X.xe s
def tNoPart : TO := fun _ H Q => Q none H
def tPart (t : TE) : TO := fun σ H Q => t σ H fun x H1 => ∃ i, x = .int i ∧ Q (some i) H1
section
variable {X : Cx} {e : Expr} {te : TE} {lo hi : Option Expr} {tl th : TO} {pos p2 : Pos}
theorem po_none : PO X none tNoPart := by
  intro pins s σ H Q I h
  rw [evalPart_none]
  exact wpAny_pure ⟨none, H, I, .none, h⟩
theorem po_some (h : PE X e te) : PO X (some e) (tPart te) := by
  intro pins s σ H Q I hw
  rw [evalPart_some]
  refine thn (h pins s σ H _ I hw) fun u s1 ⟨x, H1, I1, r1, q1⟩ => ?_
  obtain ⟨i, rfl, q⟩ := q1
  obtain ⟨t, rfl⟩ := r1
  exact ⟨some i, H1, I1, .int i t, q⟩
/-- what a slice of a value is, by values: the slice object stands at sl -/
def SlR (X : Cx) (r : V → Option Int → Option Int → Hp → VK → Prop) : Prop :=
  ∀ (pins : List (Addr × Obj)) (s : Shared) (σ : St) (H : Hp) (x : V) (v vl vu : Value) (lo hi : Option Int) (sl : Addr) (Q : VK), Inv X pins σ H s → RelV x v → s.heap.IsSliceOf sl vl vu .none → IsPart vl lo → IsPart vu hi → r x lo hi H Q →
    ∃ T id, typeLookup (.type T) "__getitem__" = pure (some (.builtin id)) ∧ s.TypeIs v T ∧ wpAny (model X.prog X.w) X.A (getItem v (.ref sl)) (EP X pins σ Q) X.xe s
theorem SlR.or {r r' : V → Option Int → Option Int → Hp → VK → Prop} (h : SlR X r) (h' : SlR X r') : SlR X (fun x lo hi H Q => r x lo hi H Q ∨ r' x lo hi H Q) := by
  intro pins s σ H x v vl vu lo hi sl Q I rx hs pl pu q
  rcases q with q | q
  · exact h pins s σ H x v vl vu lo hi sl Q I rx hs pl pu q
  · exact h' pins s σ H x v vl vu lo hi sl Q I rx hs pl pu q
def tSl (r : V → Option Int → Option Int → Hp → VK → Prop) (te : TE) (tl th : TO) : TE := fun σ H Q => te σ H fun x H1 => tl σ H1 fun l H2 => th σ H2 fun u H3 => r x l u H3 Q
/-- a[lo:hi], any a -/
theorem pe_slice {r : V → Option Int → Option Int → Hp → VK → Prop} (hr : SlR X r) (he : PE X e te) (hl : PO X lo tl) (hu : PO X hi th) : PE X (.Subscript e (.Slice lo hi none p2) pos) (tSl r te tl th) := by
  intro pins s σ H Q I h
  refine Subscript_ (thn (he pins s σ H _ I h) fun v s1 ⟨x, H1, I1, r1, q1⟩ => ?_)
  refine wpAny_Slice (thn (hl pins s1 σ H1 _ I1 q1) fun vl s2 ⟨l, H2, I2, pl, q2⟩ => thn (hu pins s2 σ H2 _ I2 q2) fun vu s3 ⟨u, H3, I3, pu, q3⟩ => ?_)
  rw [evalPart_none]
  refine wpAny_pure ?_
  have I4 : Inv X pins σ H3 { s3 with heap := s3.heap.push { cls := .type "slice", data := .fields #[vl, vu, .none] } } := I3.kept (t' := s3.toks) fun b ob q => Heap.get?_push_of_some _ q
  obtain ⟨T, id, hT, ht, hg⟩ := hr pins { s3 with heap := s3.heap.push { cls := .type "slice", data := .fields #[vl, vu, .none] } } σ H3 x v vl vu l u s3.heap.objs.size Q I4 r1 (Heap.IsSliceOf.new ..) pl pu q3
  show wpAny (model X.prog X.w) X.A (subscriptTail e (.Slice lo hi none p2) v (.ref s3.heap.objs.size)) (EP X pins σ Q) X.xe { s3 with heap := s3.heap.push { cls := .type "slice", data := .fields #[vl, vu, .none] } }
  exact tail_any (ops := [.ref s3.heap.objs.size, v]) ht hT hg (by with_unfolding_all rfl)
/-- the items of xs[lo:hi] -/
def cutV (xs : List V) (lo hi : Option Int) : List V := (xs.drop (HT.sIx xs.length 0 lo)).take (HT.sIx xs.length xs.length hi - HT.sIx xs.length 0 lo)
theorem cutV_length (xs : List V) (lo hi : Option Int) : (cutV xs lo hi).length ≤ xs.length := by
  unfold cutV
  rw [List.length_take, List.length_drop]
  omega
end
end L2
namespace L2
open PySem PySem.Spec PyProof.Rows
/-! ### places -/
/-- the place that an index of any sign means -/
def ixN (n : Nat) (i : Int) : Option Nat := if 0 ≤ i then (if i < n then some i.toNat else none) else if -(n : Int) ≤ i then some (i + n).toNat else none
def atI {α : Type} (xs : List α) (i : Int) : Option α := (ixN xs.length i).bind fun j => xs[j]?
theorem ixN_seq {n : Nat} {i : Int} {j : Nat} (h : ixN n i = some j) : seqIndex? i n = some j ∧ j < n ∧ -(n : Int) ≤ i ∧ i < n := by
  unfold ixN at h
  by_cases h0 : 0 ≤ i
  · rw [if_pos h0] at h
    by_cases h1 : i < n
    · rw [if_pos h1] at h
      have e : i.toNat = j := Option.some.inj h
      exact ⟨by rw [seqIndex_of h0 h1, e], by omega, by omega, h1⟩
    · rw [if_neg h1] at h; cases h
  · rw [if_neg h0] at h
    by_cases h1 : -(n : Int) ≤ i
    · rw [if_pos h1] at h
      have e : (i + n).toNat = j := Option.some.inj h
      exact ⟨by rw [seqIndex_neg (by omega) h1, e], by omega, h1, by omega⟩
    · rw [if_neg h1] at h; cases h
theorem atI_get {α : Type} {xs : List α} {i : Int} {v : α} (h : atI xs i = some v) : ∃ j, seqIndex? i xs.length = some j ∧ xs[j]? = some v ∧ j < xs.length ∧ -(xs.length : Int) ≤ i ∧ i < xs.length := by
  unfold atI at h
  cases e : ixN xs.length i with
  | none => rw [e] at h; cases h
  | some j =>
    rw [e] at h
    obtain ⟨h1, h2, h3, h4⟩ := ixN_seq e
    exact ⟨j, h1, h, h2, h3, h4⟩
theorem atI_nat {α : Type} {xs : List α} {j : Nat} {v : α} (h : xs[j]? = some v) : atI xs (j : Int) = some v := by
  have hj : j < xs.length := (List.getElem?_eq_some_iff.mp h).1
  have e : ixN xs.length (j : Int) = some j := by
    unfold ixN
    rw [if_pos (by omega), if_pos (by omega)]; simp
  unfold atI; rw [e]; exact h
/-! ### what may be subscripted -/
/-- what stands as an index of a plain subscript -/
def PlainIx (b : Expr) : Prop := ∀ o i, subscripted b false o i = operate [o, i] (getItem o i)
/-- a subscript by values -/
def IxR (X : Cx) (r : R2) : Prop :=
  ∀ (value slice : Expr) (pins : List (Addr × Obj)) (s : Shared) (σ : St) (H : Hp) (x y : V) (v u : Value) (Q : VK), Inv X pins σ H s → RelV x v → RelV y u → r x y H Q →
    subscripted slice false v u = operate [v, u] (getItem v u) → wpAny (model X.prog X.w) X.A (subscriptTail value slice v u) (EP X pins σ Q) X.xe s
/-- a call of a builtin's method by values: the receiver, the arguments -/
def MtR (X : Cx) (id : String) (r : V → List V → Hp → VK → Prop) : Prop :=
  ∀ (pins : List (Addr × Obj)) (s : Shared) (σ : St) (H : Hp) (x : V) (xs : List V) (v : Value) (us : List Value) (Q : VK), Inv X pins σ H s → RelV x v → Vals xs us → r x xs H Q →
    wpAny (model X.prog X.w) X.A (call (.builtin id) (v :: us)) (EP X pins σ Q) X.xe s
section
variable {X : Cx} {a b : Expr} {ta tb : TE} {pos : Pos}
theorem IxR.or {r r' : R2} (h : IxR X r) (h' : IxR X r') : IxR X (fun x y H Q => r x y H Q ∨ r' x y H Q) := by
  intro value slice pins s σ H x y v u Q I rx ry q hs
  rcases q with q | q
  · exact h value slice pins s σ H x y v u Q I rx ry q hs
  · exact h' value slice pins s σ H x y v u Q I rx ry q hs
theorem MtR.or {id : String} {r r' : V → List V → Hp → VK → Prop} (h : MtR X id r) (h' : MtR X id r') : MtR X id (fun x xs H Q => r x xs H Q ∨ r' x xs H Q) := by
  intro pins s σ H x xs v us Q I rx rs q
  rcases q with q | q
  · exact h pins s σ H x xs v us Q I rx rs q
  · exact h' pins s σ H x xs v us Q I rx rs q
/-- a[b] -/
theorem pe_ix {r : R2} (hr : IxR X r) (ha : PE X a ta) (hb : PE X b tb) (hs : PlainIx b) : PE X (.Subscript a b pos) (tOp r ta tb) := by
  intro pins s σ H Q I h
  exact Subscript_ (binT ha hb I h fun v u s2 x y H2 I2 rx ry q => hr a b pins s2 σ H2 x y v u Q I2 rx ry q (hs _ _))
def rIxL (K : PySem.W.Frag) : R2 := fun x y H Q => ∃ p xs i v, x = .ref p ∧ y = .int i ∧ SqL K H p xs ∧ atI xs i = some v ∧ Q v H
def rIxT (K : PySem.W.Frag) : R2 := fun x y H Q => ∃ p xs i v, x = .ref p ∧ y = .int i ∧ SqT K H p xs ∧ atI xs i = some v ∧ Q v H
theorem ix_list : IxR X (rIxL X.K) := by
  intro value slice pins s σ H x y v u Q I rx ry h hs
  obtain ⟨p, xs, i, z, rfl, rfl, hq, he, q⟩ := h
  cases rx
  obtain ⟨t, rfl⟩ := ry
  obtain ⟨its, r, pl, hz⟩ := I.list hq
  obtain ⟨j, h1, h2, h3, h4, h5⟩ := atI_get he
  obtain ⟨w, ew, rw'⟩ := r.get h2
  have hl := r.length
  have hn := line63
  have fin : EP X pins σ Q w s := ⟨z, H, I, rw', q⟩
  by_cases h0 : 0 ≤ i
  · have hj : i.toNat = j := by
      rw [seqIndex_of h0 h5] at h1
      exact Option.some.inj h1
    exact item_listR pl.isList h0 (by omega) (by rw [hj]; simpa using ew) fin hs
  · have hj : (i + (its.toArray.size : Int)).toNat = j := by
      rw [seqIndex_neg (by omega) h4] at h1
      rw [List.size_toArray, ← hl]
      exact Option.some.inj h1
    exact subscriptTail_builtinR (x := w) pl.isList.typeIs slot_list_getitem.lookup
      (wpAny_getItem_list_neg (Q := fun r s' => r = w ∧ EP X pins σ Q r s') pl.isList (by omega) (by rw [List.size_toArray] <;> omega) (by omega) (by rw [hj]; simpa using ew) ⟨rfl, fin⟩) hs
theorem ix_tup : IxR X (rIxT X.K) := by
  intro value slice pins s σ H x y v u Q I rx ry h hs
  obtain ⟨p, xs, i, z, rfl, rfl, hq, he, q⟩ := h
  cases rx
  obtain ⟨t, rfl⟩ := ry
  obtain ⟨its, r, pl, hz⟩ := I.tuple hq
  obtain ⟨j, h1, h2, h3, h4, h5⟩ := atI_get he
  obtain ⟨w, ew, rw'⟩ := r.get h2
  have hl := r.length
  have hn := line63
  have fin : EP X pins σ Q w s := ⟨z, H, I, rw', q⟩
  exact subscriptTail_builtinR (x := w) pl.typeIs slot_tuple_getitem.lookup
    (getItem_tuple (j := j) (Q := fun r s' => r = w ∧ EP X pins σ Q r s') pl (by omega) (by omega) (by rw [List.size_toArray, ← hl]; exact h1) (by simpa using ew) ⟨rfl, fin⟩) hs
/-! ### xs[i] = v, any sign -/
/-- the list's object behind a store -/
theorem mapSeq_set (its : List Value) (n j : Nat) (u : Value) : Obj.mapSeq (·.setIfInBounds j u) { cls := .type "list", data := .seq its.toArray n } = { cls := .type "list", data := .seq (its.set j u).toArray n } := by
  simp [Obj.mapSeq]
theorem Inv.lst {pins : List (Addr × Obj)} {σ : St} {H : Hp} {s : Shared} {p : Addr} {xs : List V} (I : Inv X pins σ H s) (h : H p = some (.lst xs)) :
    ∃ (its : List Value) (n : Nat), Vals xs its ∧ s.heap.get? p = some { cls := .type "list", data := .seq its.toArray n } ∧ xs.length ≤ sizeLine := by
  obtain ⟨z, its, n, r, e⟩ := I.hok p _ h
  exact ⟨its, n, r, e, z⟩
/-- the list at p is written by an update of its object -/
theorem Inv.lstUpd {pins : List (Addr × Obj)} {σ : St} {H : Hp} {s : Shared} {p : Addr} {xs ys : List V} {its its' : List Value} {n n' : Nat} {f : Obj → Obj} (I : Inv X pins σ H s) (h : H p = some (.lst xs))
    (ho : s.heap.get? p = some { cls := .type "list", data := .seq its.toArray n }) (hf : f { cls := .type "list", data := .seq its.toArray n } = { cls := .type "list", data := .seq its'.toArray n' }) (r : Vals ys its') (hz : ys.length ≤ sizeLine) (t : Nat) :
    Inv X pins σ (upd H p (.lst ys)) { s with heap := s.heap.update p f, toks := t } := by
  have e : (s.heap.update p f).get? p = some { cls := .type "list", data := .seq its'.toArray n' } := by
    rw [Heap.get?_update_self f ho (by rw [hf] <;> rfl), hf]
  refine I.write (x := p) (e := p) (by rw [h]; trivial) (.inl rfl) (fun b u hb q => (Heap.get?_update_other _ _ (Ne.symm hb)).trans q) ⟨_, e⟩ ?_
  exact ⟨hz, its', n', r, e⟩
def rSetL : V → V → V → Hp → (Hp → Prop) → Prop := fun o i v H Q => ∃ p xs k j, o = .ref p ∧ i = .int k ∧ H p = some (.lst xs) ∧ ixN xs.length k = some j ∧ Q (upd H p (.lst (xs.set j v)))
theorem set_list : PSet X rSetL := by
  intro pins s σ H o i v ov iv u Q I ro ri rv h
  obtain ⟨p, xs, k, j, rfl, rfl, hp, hj, q⟩ := h
  cases ro
  obtain ⟨t, rfl⟩ := ri
  obtain ⟨its, n, r, ho, hz⟩ := I.lst hp
  obtain ⟨h1, h2, h3, h4⟩ := ixN_seq hj
  have hl := r.length
  have hn := line63
  have I' : Inv X pins σ (upd H p (.lst (xs.set j v))) { s with heap := s.heap.update p (Obj.mapSeq (·.setIfInBounds j u)) } :=
    I.lstUpd hp ho (mapSeq_set its n j u) (r.set rv j) (by rw [List.length_set]; exact hz) s.toks
  by_cases h0 : 0 ≤ k
  · have hk : k.toNat = j := by
      rw [seqIndex_of h0 h4] at h1
      exact Option.some.inj h1
    exact PySem.W.ki_setAt ho h0 (by omega) (by rw [List.size_toArray, ← hl]; exact h4) (by rw [hk]; exact ⟨_, I', q⟩)
  · have hk : (k + (its.toArray.size : Int)).toNat = j := by
      rw [seqIndex_neg (by omega) h3] at h1
      rw [List.size_toArray, ← hl]
      exact Option.some.inj h1
    exact PySem.W.ki_setBack ho (by omega) (by rw [List.size_toArray, ← hl]; exact h3) (by omega) (by rw [hk]; exact ⟨_, I', q⟩)
/-! ### slices -/
theorem slice_bounds (lo hi : Option Int) (n : Nat) : (sliceBounds lo hi none n).1 = ((HT.sIx n 0 lo : Nat) : Int) ∧ (sliceBounds lo hi none n).2.1 = ((HT.sIx n n hi : Nat) : Int) ∧ (sliceBounds lo hi none n).2.2 = 1 := by
  refine ⟨?_, ?_, rfl⟩
  · cases lo with
    | none => simp [sliceBounds, HT.sIx]
    | some i =>
      simp only [sliceBounds, HT.sIx, Option.getD_none, show (1 : Int) > 0 by decide, if_true]
      by_cases h : i < 0
      · simp only [h, if_true] <;> omega
      · simp only [h, if_false] <;> omega
  · cases hi with
    | none => simp [sliceBounds, HT.sIx]
    | some i =>
      simp only [sliceBounds, HT.sIx, Option.getD_none, show (1 : Int) > 0 by decide, if_true]
      by_cases h : i < 0
      · simp only [h, if_true] <;> omega
      · simp only [h, if_false] <;> omega
theorem slicePick_cut (its : List Value) (lo hi : Option Int) : slicePick its.toArray lo hi none = ((its.drop (HT.sIx its.length 0 lo)).take (HT.sIx its.length its.length hi - HT.sIx its.length 0 lo)).toArray := by
  obtain ⟨h1, h2, h3⟩ := slice_bounds lo hi its.toArray.size
  unfold slicePick
  rw [h1, h2, h3]
  simp only [sliceRange_one, pick_run, List.size_toArray] <;> rfl
/-- xs[lo:hi] of a list: a new list -/
def rSlL (K : PySem.W.Frag) : V → Option Int → Option Int → Hp → VK → Prop := fun x lo hi H Q => ∃ a xs, x = .ref a ∧ SqL K H a xs ∧ ∀ p, H p = none → Q (.ref p) (upd H p (.lst (cutV xs lo hi)))
theorem sl_list : SlR X (rSlL X.K) := by
  intro pins s σ H x v vl vu lo hi sl Q I rx hs pl pu h
  obtain ⟨a, xs, rfl, hx, q⟩ := h
  cases rx
  obtain ⟨its, r, ht, hz⟩ := I.list hx
  have hlen := r.length
  refine ⟨"list", _, slot_list_getitem.lookup, ht.isList.typeIs, ?_⟩
  refine wpAny_getItem_list_slice ht.isList hs pl pu .none (by simp) ?_ (by rw [List.size_toArray] <;> omega)
  rw [slicePick_cut, ← hlen]
  refine ⟨.ref s.heap.objs.size, _, I.laid (t' := s.toks) (o := .lst (cutV xs lo hi)) (fun b ob q => Heap.get?_push_of_some _ q) (Nat.le_refl _) ?_, rfl, q _ (I.hok.fresh (Nat.le_refl _))⟩
  exact ⟨Nat.le_trans (cutV_length xs lo hi) hz, _, 0, (r.drop (HT.sIx xs.length 0 lo)).take (HT.sIx xs.length xs.length hi - HT.sIx xs.length 0 lo), Heap.get?_push_size _ rfl⟩
/-! ### in, not in: flat items -/
def flatV : V → Bool
  | .non => true
  | .bl _ => true
  | .int _ => true
  | .str _ => true
  | _ => false
/-- == of flat values -/
def eqV : V → V → Bool
  | .non, .non => true
  | .bl a, .bl b => a == b
  | .bl a, .int b => (if a then 1 else 0) == b
  | .int a, .bl b => a == (if b then 1 else 0)
  | .int a, .int b => a == b
  | .str a, .str b => a == b
  | _, _ => false
theorem eqAt_V {A : Around} {s : Shared} {y x : V} {u v : Value} (ry : RelV y u) (rx : RelV x v) (fy : flatV y = true) (fx : flatV x = true) : SeqAt.EqAt A s u v (eqV y x) := by
  cases y with
  | non =>
    cases ry
    cases x with
    | non => cases rx; exact SeqAt.EqAt.same _
    | bl b => cases rx; exact SeqAt.EqAt.none_bool b
    | int b => obtain ⟨t, rfl⟩ := rx; exact SeqAt.EqAt.none_int b t
    | str b => obtain ⟨t, rfl⟩ := rx; exact SeqAt.EqAt.none_str b t
    | _ => exact absurd (show false = true from fx) Bool.false_ne_true
  | bl a =>
    cases ry
    cases x with
    | non => cases rx; exact SeqAt.EqAt.bool_none a
    | bl b => cases rx; exact SeqAt.EqAt.bool_bool a b
    | int b => obtain ⟨t, rfl⟩ := rx; exact SeqAt.EqAt.bool_int a b t
    | str b => obtain ⟨t, rfl⟩ := rx; exact SeqAt.EqAt.bool_str a b t
    | _ => exact absurd (show false = true from fx) Bool.false_ne_true
  | int a =>
    obtain ⟨t', rfl⟩ := ry
    cases x with
    | non => cases rx; exact SeqAt.EqAt.int_none a t'
    | bl b => cases rx; exact SeqAt.EqAt.int_bool a t' b
    | int b => obtain ⟨t, rfl⟩ := rx; exact SeqAt.EqAt.int_int a t' b t
    | str b => obtain ⟨t, rfl⟩ := rx; exact SeqAt.EqAt.int_str a t' b t
    | _ => exact absurd (show false = true from fx) Bool.false_ne_true
  | str a =>
    obtain ⟨t', rfl⟩ := ry
    cases x with
    | non => cases rx; exact SeqAt.EqAt.str_none a t'
    | bl b => cases rx; exact SeqAt.EqAt.str_bool a t' b
    | int b => obtain ⟨t, rfl⟩ := rx; exact SeqAt.EqAt.str_int a t' b t
    | str b => obtain ⟨t, rfl⟩ := rx; exact SeqAt.EqAt.str_str a t' b t
    | _ => exact absurd (show false = true from fx) Bool.false_ne_true
  | _ => exact absurd (show false = true from fy) Bool.false_ne_true
theorem CallR.or {f : Value} {r r' : List V → Hp → VK → Prop} (h : CallR X f r) (h' : CallR X f r') : CallR X f (fun xs H Q => r xs H Q ∨ r' xs H Q) := by
  intro pins s σ H xs us Q I rs q
  rcases q with q | q
  · exact h pins s σ H xs us Q I rs q
  · exact h' pins s σ H xs us Q I rs q
theorem call_list_of : CallR X (.type "list") (fun xs H Q => ∃ p ys, xs = [.ref p] ∧ (SqL X.K H p ys ∨ SqT X.K H p ys) ∧ ∀ l, H l = none → Q (.ref l) (upd H l (.lst ys))) := by
  intro pins s σ H xs us Q I r h
  obtain ⟨p, ys, rfl, hq, q⟩ := h
  obtain ⟨u, rfl, rx⟩ := vals1 r
  cases rx
  have fin : ∀ (its : List Value), Vals ys its → ys.length ≤ sizeLine → ∀ (h' : Heap) (c' : Nat), (∀ b o', s.heap.get? b = some o' → h'.get? b = some o') →
      h'.get? s.heap.objs.size = some { cls := .type "list", dict := none, data := .seq its.toArray c', slots := #[] } → EP X pins σ Q (.ref s.heap.objs.size) { s with heap := h' } := fun its r' hz h' c' kp e =>
    ⟨.ref s.heap.objs.size, _, I.laid (t' := s.toks) kp (Nat.le_refl _) (show ObjOk X.prog X.w _ h' _ (.lst ys) from ⟨hz, its, c', r', e⟩), rfl, q _ (I.hok.fresh (Nat.le_refl _))⟩
  rcases hq with hq | hq
  · obtain ⟨its, r', pl, hz⟩ := I.list hq
    have hlen := r'.length
    obtain ⟨o, ho, hc, n, hd⟩ := pl.isList
    exact call_list_seq p (.inl rfl) ho hc hd (fun h' c' kp e => fin its r' hz h' c' kp e) (by simp only [List.size_toArray] <;> omega)
  · obtain ⟨its, r', pl, hz⟩ := I.tuple hq
    have hlen := r'.length
    obtain ⟨o, ho, hc, n, hd⟩ := pl
    exact call_list_seq p (.inr rfl) ho hc hd (fun h' c' kp e => fin its r' hz h' c' kp e) (by simp only [List.size_toArray] <;> omega)
/-! ### the call of a builtin's method: o.m(..) -/
/-- the value is of that builtin type -/
def tyV (K : PySem.W.Frag) (T : String) (x : V) (H : Hp) : Prop := match x with
  | .str _ => T = "str"
  | .int _ => T = "int"
  | .ref p => (T = "list" ∧ ∃ xs, SqL K H p xs) ∨ (T = "tuple" ∧ ∃ o, K.lookup p = some o ∧ o.cls = .type "tuple" ∧ o.dict = none) ∨
      (T = "dict" ∧ ((∃ kvs, H p = some (.dK kvs)) ∨ ∃ kvs, H p = some (.dT kvs))) ∨ (T = "set" ∧ ∃ S n, H p = some (.set S n))
  | _ => False
theorem tyV_is {pins : List (Addr × Obj)} {σ : St} {H : Hp} {s : Shared} {T : String} {x : V} {v : Value} (I : Inv X pins σ H s) (r : RelV x v) (ty : tyV X.K T x H) :
    s.TypeIs v T ∧ ∀ a, v = .ref a → ∃ ob, s.heap.get? a = some ob ∧ ob.dict = none := by
  cases x with
  | str z =>
    obtain ⟨t, rfl⟩ := r
    cases (show T = "str" from ty)
    exact ⟨typeIs_str s z t, fun _ e => nomatch e⟩
  | int i =>
    obtain ⟨t, rfl⟩ := r
    cases (show T = "int" from ty)
    exact ⟨typeIs_int s i t, fun _ e => nomatch e⟩
  | ref p =>
    cases r
    rcases ty with ⟨rfl, xs, hq⟩ | ⟨rfl, o, hk, hc, hd⟩ | ⟨rfl, hk⟩ | ⟨rfl, S, n, hk⟩
    · obtain ⟨its, _, pl, _⟩ := I.list hq
      refine ⟨pl.isList.typeIs, fun a e => ?_⟩
      cases e
      obtain ⟨o, n, e, c, hd, _⟩ := pl
      exact ⟨o, e, hd⟩
    · refine ⟨⟨o, I.kIn p o hk, hc⟩, fun a e => ?_⟩
      cases e
      exact ⟨o, I.kIn _ o hk, hd⟩
    · have z : ∃ o, s.heap.get? p = some o ∧ o.ExactDict := by
        rcases hk with ⟨kvs, hk⟩ | ⟨kvs, hk⟩
        · obtain ⟨_, _, _, _, o, _, _, e, ex, _⟩ := I.hok p _ hk
          exact ⟨o, e, ex⟩
        · obtain ⟨_, _, _, _, o, _, _, e, ex, _⟩ := I.hok p _ hk
          exact ⟨o, e, ex⟩
      obtain ⟨o, e, ex⟩ := z
      refine ⟨⟨o, e, ex.1⟩, fun a e2 => ?_⟩
      cases e2
      exact ⟨o, e, ex.2.1⟩
    · obtain ⟨o, _, _, _, e, ex, _⟩ := I.hok p _ hk
      refine ⟨⟨o, e, ex.1⟩, fun a e2 => ?_⟩
      cases e2
      exact ⟨o, e, ex.2.1⟩
  | _ => exact False.elim ty
def tBM0 (K : PySem.W.Frag) (T : String) (r : V → List V → Hp → VK → Prop) (to : TE) : TE := fun σ H Q => to σ H fun x H1 => tyV K T x H1 ∧ r x [] H1 Q
def tBM (K : PySem.W.Frag) (T : String) (r : V → List V → Hp → VK → Prop) (to : TE) (t : TA) : TE := fun σ H Q => to σ H fun x H1 => tyV K T x H1 ∧ t σ H1 fun xs H2 => r x xs H2 Q
variable {o e : Expr} {es : List Expr} {to : TE} {t : TA} {name : Str} {apos cpos : Pos} {T id : String} {r : V → List V → Hp → VK → Prop}
theorem pe_bm0 (pa : PlainAttrs T) (slot : Slot T name id) (hty : typeOf (.builtin id) = pure (.type "method_descriptor")) (hm : MtR X id r) (ho : PE X o to)
    (hbase : attributeBase o name X.env (eval o X.env) = eval o X.env := by rfl) (hline : (apos.endLine == cpos.line) = true := by rfl) : PE X (.Call (.Attribute o name apos) [] [] cpos) (tBM0 X.K T r to) := by
  intro pins s σ H Q I h
  refine wpAny_Call_method0_late hbase hline (thn (ho pins s σ H _ I h) fun v s1 ⟨x, H1, I1, r1, ty, q1⟩ => ?_)
  obtain ⟨h1, h2⟩ := tyV_is I1 r1 ty
  exact ⟨T, id, pa, slot, hty, h1, h2, Calls.callWith_builtin rfl (PySem.evalArgs_none (hm pins s1 σ H1 x [] v [] Q I1 r1 .nil q1))⟩
theorem pe_bm (pa : PlainAttrs T) (slot : Slot T name id) (hty : typeOf (.builtin id) = pure (.type "method_descriptor")) (hm : MtR X id r) (ho : PE X o to) (ha : PA X (e :: es) t)
    (hbase : attributeBase o name X.env (eval o X.env) = eval o X.env := by rfl)
    (hfew : ((backTo cpos (starEach (e :: es) X.env)).all (fun x => !x.1) && (backToKw cpos (keywordEach [] X.env)).all (fun x => x.1.isSome)
      && decide ((e :: es).length + ([] : List Keyword).length + (if ([] : List Keyword).isEmpty then 0 else 1) < 30)) = true := by rfl)
    (hline : (apos.endLine == cpos.line) = true := by rfl) (hs : starEach (e :: es) X.env = (false, eval e X.env) :: starEach es X.env := by rfl) (hplain : (backTo cpos (starEach es X.env)).any (·.1) = false := by rfl) :
    PE X (.Call (.Attribute o name apos) (e :: es) [] cpos) (tBM X.K T r to t) := by
  intro pins s σ H Q I h
  refine wpAny_Call_method_late hbase hfew hline rfl (thn (ho pins s σ H _ I h) fun v s1 ⟨x, H1, I1, r1, ty, q1⟩ => ?_)
  obtain ⟨h1, h2⟩ := tyV_is I1 r1 ty
  refine ⟨T, id, pa, slot, hty, h1, h2, ?_⟩
  have hA := ha cpos pins s1 σ H1 _ I1 q1
  rw [hs] at hA ⊢
  refine Calls.callWith_builtin (by show (false || (backTo cpos (starEach es X.env)).any (·.1)) = false; rw [hplain] <;> rfl) (Calls.evalArgs_plain ?_)
  exact thn hA fun us s2 ⟨vs, H2, I2, r2, q2⟩ => hm pins s2 σ H2 x vs v us Q I2 r1 r2 q2
/- xs.append(e), list.index on a module's tuple .. are MtR facts of 06m -/
end
end L2
namespace L2
open PySem PySem.Spec PyProof.Rows
def MtM (X : Cx) (id : String) (r : V → List V → Hp → VK → Prop) : Prop :=
  ∀ (pins : List (Addr × Obj)) (s : Shared) (σ : St) (H : Hp) (x : V) (xs : List V) (v : Value) (us : List Value) (Q : VK), Inv X pins σ H s → RelV x v → Vals xs us → r x xs H Q →
    wpAny (model X.prog X.w) X.A (call (.builtin id) (v :: us)) (EP X pins σ Q) X.xe s
/-! ### lists of values -/
theorem Vals.one : ∀ {x : V} {us : List Value}, Vals [x] us → ∃ u, us = [u] ∧ RelV x u
  | _, _, .cons r .nil => ⟨_, rfl, r⟩
theorem Vals.two : ∀ {x y : V} {us : List Value}, Vals [x, y] us → ∃ u v, us = [u, v] ∧ RelV x u ∧ RelV y v
  | _, _, _, .cons r (.cons q .nil) => ⟨_, _, rfl, r, q⟩
theorem Vals.zero : ∀ {us : List Value}, Vals [] us → us = []
  | _, .nil => rfl
theorem Vals.dropLast {xs : List V} {us : List Value} (h : Vals xs us) : Vals xs.dropLast us.dropLast := by
  induction h with
  | nil => exact .nil
  | cons r t ih =>
    cases t with
    | nil => exact .nil
    | cons q t' => exact .cons r ih
theorem Vals.reverse {xs : List V} {us : List Value} (h : Vals xs us) : Vals xs.reverse us.reverse := by
  induction h with
  | nil => exact .nil
  | cons r t ih => rw [List.reverse_cons, List.reverse_cons]; exact Vals.append ih (.cons r .nil)
theorem erase_last {α : Type} (l : List α) : l.eraseIdx (l.length - 1) = l.dropLast := by
  induction l with
  | nil => rfl
  | cons a r ih =>
    cases r with
    | nil => rfl
    | cons b r =>
      have e : (a :: b :: r).length - 1 = ((b :: r).length - 1) + 1 := by
        have h1 : (a :: b :: r).length = r.length + 2 := rfl
        have h2 : (b :: r).length = r.length + 1 := rfl
        omega
      rw [e, List.eraseIdx_cons_succ, ih]
      all_goals rfl
section
variable {X : Cx} {pins : List (Addr × Obj)} {σ : St} {H : Hp} {s : Shared} {l b : Addr} {xs ys zs : List V}
/-! ### the two steps: a tracked list is rewritten, a new list is laid -/
theorem Inv.lset {its its' : List Value} {n : Nat} {f : Array Value → Array Value} {t' : Nat} (I : Inv X pins σ H s) (hH : H l = some (.lst xs))
    (e : s.heap.get? l = some { cls := .type "list", data := .seq its.toArray n }) (hf : f its.toArray = its'.toArray) (hv : Vals ys its') (hz : ys.length ≤ sizeLine) :
    Inv X pins σ (upd H l (.lst ys)) { s with heap := s.heap.update l (Obj.mapSeq f), toks := t' } := by
  have q := PySem.IsL.update e f
  rw [hf] at q
  refine I.write (x := l) (e := l) (by rw [hH]; exact trivial) (.inl rfl) (fun b' u hb hu => (Heap.get?_update_other s.heap (Obj.mapSeq f) (Ne.symm hb)).trans hu) ⟨_, q⟩ ?_
  exact ⟨hz, its', _, hv, q⟩
theorem Inv.lnew {its : List Value} {t' : Nat} (I : Inv X pins σ H s) (hv : Vals ys its) (hz : ys.length ≤ sizeLine) :
    Inv X pins σ (upd H s.heap.objs.size (.lst ys)) { s with heap := s.heap.push { cls := .type "list", data := .seq its.toArray }, toks := t' } :=
  I.laid (fun _ _ q => Heap.get?_push_of_some _ q) (Nat.le_refl _) ⟨hz, its, 0, hv, Heap.get?_push_size _ rfl⟩
theorem Inv.fresh (I : Inv X pins σ H s) : H s.heap.objs.size = none := I.hok.fresh (Nat.le_refl _)
theorem Inv.lstM (I : Inv X pins σ H s) (hH : H l = some (.lst xs)) : xs.length ≤ sizeLine ∧ ∃ (its : List Value) (n : Nat), Vals xs its ∧ xs.length = its.length ∧ s.heap.get? l = some { cls := .type "list", data := .seq its.toArray n } := by
  obtain ⟨z, its, n, r, e⟩ := I.hok l _ hH
  exact ⟨z, its, n, r, r.length, e⟩
theorem notLongL {n : Nat} (h : n ≤ sizeLine) : Builtin.List.listTooLong n = false := by
  unfold Builtin.List.listTooLong
  exact decide_eq_false (by omega)
end
section
variable {X : Cx}
/-! ### methods -/
def rAppend : V → List V → Hp → VK → Prop := fun x vs H Q => ∃ l xs y, x = .ref l ∧ vs = [y] ∧ H l = some (.lst xs) ∧ xs.length < sizeLine ∧ Q .non (upd H l (.lst (xs ++ [y])))
theorem mt_append : MtM X "list.append" rAppend := by
  intro pins s σ H x vs v us Q I rx rv h
  obtain ⟨l, xs, y, rfl, rfl, hH, hz, q⟩ := h
  cases rx
  obtain ⟨u, rfl, ru⟩ := rv.one
  obtain ⟨z, its, n, r, hl, e⟩ := I.lstM hH
  refine call_meets F.slot_list_append ⟨_, e, rfl⟩ F.entry_list_append (F.args_list_append_2 _ _) (PySem.list_append l its.toArray n u (by rw [List.size_toArray]; omega)) ⟨e, ?_⟩
  refine ⟨.non, _, I.lset (its' := its ++ [u]) hH e (by simp) (r.append (.cons ru .nil)) ?_, rfl, q⟩
  rw [List.length_append, List.length_singleton]
  omega
def rExtend : V → List V → Hp → VK → Prop := fun x vs H Q => ∃ l b xs zs, x = .ref l ∧ vs = [.ref b] ∧ H l = some (.lst xs) ∧ H b = some (.lst zs) ∧ xs.length + zs.length ≤ sizeLine ∧ Q .non (upd H l (.lst (xs ++ zs)))
theorem mt_extend : MtM X "list.extend" rExtend := by
  intro pins s σ H x vs v us Q I rx rv h
  obtain ⟨l, b, xs, zs, rfl, rfl, hH, hB, hz, q⟩ := h
  cases rx
  obtain ⟨u, rfl, ru⟩ := rv.one
  cases ru
  obtain ⟨z, its, n, r, hl, e⟩ := I.lstM hH
  obtain ⟨z2, its2, n2, r2, hl2, e2⟩ := I.lstM hB
  have hsz : its.toArray.size + its2.toArray.size ≤ sizeLine := by rw [List.size_toArray, List.size_toArray]; omega
  have hlong : ¬ (!its.toArray.isEmpty && Builtin.List.listTooLong (its.toArray.size + its2.toArray.size)) = true := by
    rw [notLongL hsz, Bool.and_false]
    exact Bool.false_ne_true
  refine call_meets F.slot_list_extend ⟨_, e, rfl⟩ F.entry_list_extend (F.args_list_extend_2 _ _)
    (AutoSeq1.list_extend_list_list_0 l its.toArray n b its2.toArray n2 hlong (by rw [List.size_toArray]; omega) (by omega)) ⟨e, e2, ?_⟩
  refine ⟨.non, _, I.lset (its' := its ++ its2) hH e (by simp) (r.append r2) ?_, rfl, q⟩
  rw [List.length_append]
  omega
def rPop : V → List V → Hp → VK → Prop := fun x vs H Q => ∃ l xs y, x = .ref l ∧ vs = [] ∧ H l = some (.lst xs) ∧ xs[xs.length - 1]? = some y ∧ Q y (upd H l (.lst xs.dropLast))
theorem mt_pop : MtM X "list.pop" rPop := by
  intro pins s σ H x vs v us Q I rx rv h
  obtain ⟨l, xs, y, rfl, rfl, hH, hy, q⟩ := h
  cases rx
  have hus := rv.zero
  subst hus
  obtain ⟨z, its, n, r, hl, e⟩ := I.lstM hH
  obtain ⟨u, hu, ru⟩ := r.get hy
  have hy' : its.toArray[its.toArray.size - 1]? = some u := by
    show its.toArray[its.length - 1]? = some u
    rw [← Array.getElem?_toList, ← hl]
    exact hu
  refine call_meets F.slot_list_pop ⟨_, e, rfl⟩ F.entry_list_pop (F.args_list_pop_1 _) (MeetsSeq.list_pop_last l its.toArray n u hy' (by rw [List.size_toArray]; omega)) ⟨e, ?_⟩
  refine ⟨y, _, I.lset (its' := its.dropLast) hH e ?_ r.dropLast ?_, ru, q⟩
  · show its.toArray.eraseIdxIfInBounds (its.toArray.size - 1) = its.dropLast.toArray
    rw [List.size_toArray, List.eraseIdxIfInBounds_toArray, erase_last]
  · rw [List.length_dropLast]
    omega
def rReverse : V → List V → Hp → VK → Prop := fun x vs H Q => ∃ l xs, x = .ref l ∧ vs = [] ∧ H l = some (.lst xs) ∧ Q .non (upd H l (.lst xs.reverse))
theorem mt_reverse : MtM X "list.reverse" rReverse := by
  intro pins s σ H x vs v us Q I rx rv h
  obtain ⟨l, xs, rfl, rfl, hH, q⟩ := h
  cases rx
  have hus := rv.zero
  subst hus
  obtain ⟨z, its, n, r, hl, e⟩ := I.lstM hH
  refine call_meets F.slot_list_reverse ⟨_, e, rfl⟩ F.entry_list_reverse (F.args_list_reverse_1 _) (AutoSeq1.list_reverse_list_0 l its.toArray n (by rw [List.size_toArray]; omega)) ⟨e, ?_⟩
  refine ⟨.non, _, I.lset (its' := its.reverse) hH e (by simp) r.reverse ?_, rfl, q⟩
  rw [List.length_reverse]
  omega
/-! ### list + list, list += list, list * int -/
def rCat : R2 := fun x y H Q => ∃ l b xs zs, x = .ref l ∧ y = .ref b ∧ H l = some (.lst xs) ∧ H b = some (.lst zs) ∧ xs.length + zs.length ≤ sizeLine ∧ ∀ p, H p = none → Q (.ref p) (upd H p (.lst (xs ++ zs)))
theorem op_cat : OpR X (binaryOp .Add) rCat := by
  intro pins s σ H x y v u Q I rx ry h
  obtain ⟨l, b, xs, zs, rfl, rfl, hH, hB, hz, q⟩ := h
  cases rx
  cases ry
  obtain ⟨z, its, n, r, hl, e⟩ := I.lstM hH
  obtain ⟨z2, its2, n2, r2, hl2, e2⟩ := I.lstM hB
  refine PySem.P.add_list e e2 ?_ (by rw [List.size_toArray, List.size_toArray]; omega)
  have ea : its.toArray ++ its2.toArray = (its ++ its2).toArray := by simp
  rw [ea]
  exact ⟨.ref _, _, I.lnew (t' := s.toks) (r.append r2) (by rw [List.length_append]; omega), rfl, q _ I.fresh⟩
end
/-! ### xs[a:b] = ys -/
section
variable {prog : Program} {w : World} {A : Around} {E : Value → Shared → Prop} {s : Shared}
end
section
variable {X : Cx}
end
end L2
namespace L2
open PySem PySem.Spec PyProof.Rows
/-! ### lists of pairs as tables -/
section
variable {κ : Type} [DecidableEq κ]
def valV (kvs : List (κ × V)) (k : κ) : Option V := (kvs.find? fun kv => decide (kv.1 = k)).map (·.2)
/-- in its place, or at the end -/
def putK (kvs : List (κ × V)) (k : κ) (v : V) : List (κ × V) :=
  if (kvs.any fun kv => decide (kv.1 = k)) = true then kvs.map (fun kv => if kv.1 = k then (kv.1, v) else kv) else kvs ++ [(k, v)]
def dropK (kvs : List (κ × V)) (k : κ) : List (κ × V) := kvs.filter fun kv => decide (kv.1 ≠ k)
theorem valV_pos {p : κ × V} {r : List (κ × V)} {k : κ} (e : p.1 = k) : valV (p :: r) k = some p.2 := by simp [valV, List.find?_cons, e]
theorem valV_neg {p : κ × V} {r : List (κ × V)} {k : κ} (e : ¬ p.1 = k) : valV (p :: r) k = valV r k := by simp [valV, List.find?_cons, e]
theorem valV_any (k : κ) : ∀ kvs : List (κ × V), (kvs.any fun kv => decide (kv.1 = k)) = (valV kvs k).isSome
  | [] => rfl
  | p :: r => by
    rw [List.any_cons]
    by_cases e : p.1 = k
    · simp only [valV_pos e, decide_eq_true e, Bool.true_or, Option.isSome_some]
    · rw [valV_neg e, decide_eq_false e, Bool.false_or]; exact valV_any k r
theorem RelO.isSome_eq {o : Option V} {u : Option Value} (r : RelO o u) : o.isSome = u.isSome := by
  cases o with
  | none => cases u with
    | none => rfl
    | some _ => exact (show False from r).elim
  | some _ => cases u with
    | none => exact (show False from r).elim
    | some _ => rfl
/-- raw tables of the same keys -/
theorem KV.val {kvs : List (κ × V)} {vs : List (κ × Value)} (r : KV kvs vs) (k : κ) : RelO (valV kvs k) (valueAt vs k) := by
  unfold KV at r
  induction r with
  | nil => exact True.intro
  | @cons p q ps qs h t ih =>
    obtain ⟨h1, h2⟩ := h
    by_cases e : p.1 = k
    · have e' : q.1 = k := h1.symm.trans e
      have b : valueAt (q :: qs) k = some q.2 := by simp [valueAt, List.find?_cons, e']
      rw [valV_pos e, b]; exact h2
    · have e' : ¬ q.1 = k := fun z => e (h1.trans z)
      have b : valueAt (q :: qs) k = valueAt qs k := by simp [valueAt, List.find?_cons, e']
      rw [valV_neg e, b]; exact ih
theorem KV.any {kvs : List (κ × V)} {vs : List (κ × Value)} (r : KV kvs vs) (k : κ) : (kvs.any fun kv => decide (kv.1 = k)) = vs.any fun kv => decide (kv.1 = k) := by
  unfold KV at r
  induction r with
  | nil => rfl
  | cons h t ih => rw [List.any_cons, List.any_cons, ih, h.1]
theorem KV.repl {kvs : List (κ × V)} {vs : List (κ × Value)} (r : KV kvs vs) (k : κ) {y : V} {u : Value} (ry : RelV y u) :
    KV (kvs.map fun kv => if kv.1 = k then (kv.1, y) else kv) (vs.map fun kv => if kv.1 = k then (kv.1, u) else kv) := by
  unfold KV at r ⊢
  induction r with
  | nil => exact .nil
  | @cons p q ps qs h t ih =>
    rw [List.map_cons, List.map_cons]
    refine .cons ?_ ih
    obtain ⟨h1, h2⟩ := h
    by_cases e : p.1 = k
    · rw [if_pos e, if_pos (h1.symm.trans e)]; exact ⟨h1, ry⟩
    · rw [if_neg e, if_neg (fun z => e (h1.trans z))]; exact ⟨h1, h2⟩
theorem KV.put {kvs : List (κ × V)} {vs : List (κ × Value)} (r : KV kvs vs) (k : κ) {y : V} {u : Value} (ry : RelV y u) : KV (putK kvs k y) (stored vs k u) := by
  unfold putK stored
  rw [r.any k]
  by_cases e : (vs.any fun kv => decide (kv.1 = k)) = true
  · rw [if_pos e, if_pos e]; exact r.repl k ry
  · rw [if_neg e, if_neg e]; exact Paired.snoc r ⟨rfl, ry⟩
theorem KV.drop {kvs : List (κ × V)} {vs : List (κ × Value)} (r : KV kvs vs) (k : κ) : KV (dropK kvs k) (without vs k) := by
  unfold KV at r ⊢
  unfold dropK without
  induction r with
  | nil => exact .nil
  | @cons p q ps qs h t ih =>
    obtain ⟨h1, h2⟩ := h
    rw [List.filter_cons, List.filter_cons]
    by_cases e : p.1 = k
    · have a : ¬ decide (p.1 ≠ k) = true := by simp [e]
      have b : ¬ decide (q.1 ≠ k) = true := by simp [h1.symm.trans e]
      rw [if_neg a, if_neg b]; exact ih
    · have e' : ¬ q.1 = k := fun z => e (h1.trans z)
      have a : decide (p.1 ≠ k) = true := by simp [e]
      have b : decide (q.1 ≠ k) = true := by simp [e']
      rw [if_pos a, if_pos b]; exact .cons ⟨h1, h2⟩ ih
theorem KV.keys {kvs : List (κ × V)} {vs : List (κ × Value)} (r : KV kvs vs) : kvs.map (·.1) = vs.map (·.1) := by
  unfold KV at r
  induction r with
  | nil => rfl
  | cons h t ih => rw [List.map_cons, List.map_cons, ih, h.1]
theorem KV.length {kvs : List (κ × V)} {vs : List (κ × Value)} (r : KV kvs vs) : kvs.length = vs.length := Paired.length r
end
/-- raw entries of a dict with tuple keys -/
abbrev KT (H : Hp) : List (List Key × V) → List (List Key × Addr × Value) → Prop := Paired fun p q => p.1 = q.1 ∧ H q.2.1 = some (.tup (p.1.map kV)) ∧ RelV p.2 q.2.2
theorem KT.val {H : Hp} {kvs : List (List Key × V)} {xs : List (List Key × Addr × Value)} (r : KT H kvs xs) (k : List Key) : RelO (valV kvs k) ((atKey xs k).map (·.2)) := by
  induction r with
  | nil => exact True.intro
  | @cons p q ps qs h t ih =>
    obtain ⟨h1, _, h2⟩ := h
    by_cases e : p.1 = k
    · have e' : q.1 = k := h1.symm.trans e
      have b : atKey (q :: qs) k = some q.2 := by simp [atKey, List.find?_cons, e']
      rw [valV_pos e, b]; exact h2
    · have e' : ¬ q.1 = k := fun z => e (h1.trans z)
      have b : atKey (q :: qs) k = atKey qs k := by simp [atKey, List.find?_cons, e']
      rw [valV_neg e, b]; exact ih
theorem KT.repl {H : Hp} {kvs : List (List Key × V)} {xs : List (List Key × Addr × Value)} (r : KT H kvs xs) (k : List Key) {y : V} {u : Value} (ry : RelV y u) :
    KT H (kvs.map fun kv => if kv.1 = k then (kv.1, y) else kv) (xs.map (putAt k u)) := by
  induction r with
  | nil => exact .nil
  | @cons p q ps qs h t ih =>
    rw [List.map_cons, List.map_cons]
    refine .cons ?_ ih
    obtain ⟨h1, h2, h3⟩ := h
    unfold putAt
    by_cases e : p.1 = k
    · rw [if_pos e, if_pos (h1.symm.trans e)]; exact ⟨h1, h2, ry⟩
    · rw [if_neg e, if_neg (fun z => e (h1.trans z))]; exact ⟨h1, h2, h3⟩
theorem KT.put {H : Hp} {kvs : List (List Key × V)} {xs : List (List Key × Addr × Value)} (r : KT H kvs xs) (k : List Key) {b : Addr} {y : V} {u : Value} (hb : H b = some (.tup (k.map kV))) (ry : RelV y u) :
    KT H (putK kvs k y) (storedH xs k b u) := by
  have e : (kvs.any fun kv => decide (kv.1 = k)) = (atKey xs k).isSome := by
    rw [valV_any, (r.val k).isSome_eq, Option.isSome_map]
  unfold putK storedH
  rw [e]
  by_cases q : (atKey xs k).isSome = true
  · rw [if_pos q, if_pos q]; exact r.repl k ry
  · rw [if_neg q, if_neg q]; exact Paired.snoc r ⟨rfl, hb, ry⟩
section
variable {P : Program} {w : World} {H : Hp} {h : Heap} {a : Addr}
end
/-- what the dict at a holds at the key y -/
def DGet (H : Hp) (a : Addr) (y : V) (r : Option V) : Prop :=
  (∃ kvs k, Rd H a (.dK kvs) ∧ y = kV k ∧ r = valV kvs k) ∨ ∃ kvs k b, Rd H a (.dT kvs) ∧ y = .ref b ∧ H b = some (.tup (k.map kV)) ∧ r = valV kvs k
/-- the heap behind a[y] = v -/
def DPut (H : Hp) (a : Addr) (y v : V) (H' : Hp) : Prop :=
  (∃ kvs k, H a = some (.dK kvs) ∧ y = kV k ∧ kvs.length < sizeLine ∧ H' = upd H a (.dK (putK kvs k v))) ∨
  ∃ kvs k b, H a = some (.dT kvs) ∧ y = .ref b ∧ H b = some (.tup (k.map kV)) ∧ kvs.length < sizeLine ∧ H' = upd H a (.dT (putK kvs k v))
theorem DGet.k {H : Hp} {a : Addr} {kvs : List (Key × V)} {k : Key} (e : H a = some (.dK kvs)) : DGet H a (kV k) (valV kvs k) := .inl ⟨kvs, k, .inl e, rfl, rfl⟩
theorem DGet.t {H : Hp} {a b : Addr} {kvs : List (List Key × V)} {k : List Key} (e : H a = some (.dT kvs)) (eb : H b = some (.tup (k.map kV))) : DGet H a (.ref b) (valV kvs k) := .inr ⟨kvs, k, b, .inl e, rfl, eb, rfl⟩
theorem DPut.k {H : Hp} {a : Addr} {kvs : List (Key × V)} {k : Key} {v : V} (e : H a = some (.dK kvs)) (hl : kvs.length < sizeLine) : DPut H a (kV k) v (upd H a (.dK (putK kvs k v))) := .inl ⟨kvs, k, e, rfl, hl, rfl⟩
theorem DPut.t {H : Hp} {a b : Addr} {kvs : List (List Key × V)} {k : List Key} {v : V} (e : H a = some (.dT kvs)) (eb : H b = some (.tup (k.map kV))) (hl : kvs.length < sizeLine) :
    DPut H a (.ref b) v (upd H a (.dT (putK kvs k v))) := .inr ⟨kvs, k, b, e, rfl, eb, hl, rfl⟩
section
variable {X : Cx} {pins : List (Addr × Obj)} {σ : St} {H : Hp} {s : Shared} {a : Addr} {y v : V} {u r : Value} {o : Option V} {A : Around} {E : Value → Shared → Prop}
end
section
variable {X : Cx} {pins : List (Addr × Obj)} {σ : St} {H : Hp} {s : Shared} {a : Addr} {kvs : List (Key × V)} {k : Key} {u : Value} {A : Around} {E : Value → Shared → Prop}
end
section
variable {X : Cx} {o i e value : Expr} {pos pos' tpos : Pos} {td ty tv : TE}
end
section
variable {X : Cx} {pos : Pos}
end
section
variable {X : Cx} {pins : List (Addr × Obj)} {σ : St} {H : Hp} {s : Shared} {a : Addr} {y d : V} {u r : Value} {o : Option V} {A : Around} {E : Value → Shared → Prop}
end
section
variable {X : Cx} {o e f : Expr} {apos cpos : Pos} {td ty tx : TE}
end
/-! ### dict(d): a copy -/
section
variable {X : Cx} {pins : List (Addr × Obj)} {σ : St} {H : Hp} {s : Shared} {a : Addr} {kvs : List (Key × V)} {A : Around} {E : Value → Shared → Prop}
end
section
variable {X : Cx} {pins : List (Addr × Obj)} {σ : St} {H : Hp} {s : Shared} {a : Addr} {y : V} {u : Value} {A : Around} {E : Value → Shared → Prop}
end
end L2
namespace Att
open PySem PySem.W PySem.Calls PyProof.Rows
/-! ### the script -/
theorem ints_of_wellAll {P : Params} {h : Heap} : ∀ (ns : List Int) (vs : List Value), WellAll P h vs (ns.map WData.int) → IntsAre vs ns := by
  intro ns
  induction ns with
  | nil =>
    intro vs w
    rw [List.map_nil] at w
    cases w
    exact .nil
  | cons n ns ih =>
    intro vs w
    rw [List.map_cons] at w
    cases w with
    | cons a b =>
      cases a
      exact .cons _ _ (ih _ b)
theorem script_of {l : OpenLaw} {n : Nat} (hn : l.most = some n) {P : Params} {h : Heap} {args : List WData} {vals : List Value}
    (hpre : l.row.toRowW.claim.pre args = true) (hwl : WellAll P h vals args) :
    ∃ a vs ns, vals = [Value.ref a] ∧ args = [WData.list (ns.map WData.int)] ∧ h.get? a = some { cls := .type "list", data := .seq vs.toArray } ∧ IntsAre vs ns ∧ ns.length ≤ n := by
  have hsh : WShape.hasAll [] args [.list .int] = true := (pre_splitW hpre).1
  have hc : l.pre.holds [] { args := args } = true := (pre_splitW hpre).2
  obtain ⟨d, r, rfl, h1, h2⟩ := hasAllW_cons hsh
  obtain rfl := hasAllW_nil h2
  obtain ⟨xs, rfl, h3⟩ := hasW_list h1
  obtain ⟨ns, rfl⟩ := items_int h3
  have hlen : ns.length ≤ n := by
    unfold OpenLaw.pre at hc
    have h4 : (WTm.not (.lt (.lit (.int (n : Int))) (.len (.arg 0)))).holds [] { args := [.list (ns.map .int)] } = true := by
      have h4 := (holds_andW hc).1
      rw [hn] at h4
      exact h4
    have h5 := condW_of h4 (w_not (w_lt w_lit (w_len_list (w_arg rfl))))
    rw [List.length_map] at h5
    refine Nat.le_of_not_lt fun q => ?_
    have q' : (n : Int) < ((ns.length : Nat) : Int) := by omega
    first
      | (rw [decide_eq_true q'] at h5; exact absurd h5 (by decide))
      | (simp at h5; omega)
  cases hwl with
  | cons w1 w2 =>
    cases w2
    cases w1 with
    | list ho hall => exact ⟨_, _, ns, rfl, rfl, ho, ints_of_wellAll ns _ hall, hlen⟩
theorem post_true (l : OpenLaw) (args : List WData) : l.row.toRowW.claim.post args (.bool true) args = true :=
  postW_of (r := l.row.toRowW) (X := (true == true))
    (show WShape.has [] (.bool true) .bool = true by first | rfl | decide | simp [WShape.has, WShape.arms, WShape.armsAll])
    (show (WTm.eq .res (.lit (.bool true))).value [] { args := args, res := some (.bool true), after := args } = some (.bool (true == true)) from w_eq_bool (w_res rfl) w_lit) rfl
/-- the same from a codeAny of the CALL (for a layer whose function contracts speak of calls) -/
theorem attach_call {l : OpenLaw} {n : Nat} {q : Program} {loose : List Str} {XP : (Str → Option Value) → Heap → Prop} {YP : World → Heap → Prop} {d : DefRec}
    (hn : l.most = some n) (hdf : d.params.defaults = [])
    (call : ∀ (w : World) (s₀ s₁ : Shared) (mg mb : Str → Option Value) (fa : Addr) (o : Obj) (pm cd doc : Value) (a : Addr) (vs : List Value) (ns : List Int),
      Ground q loose [] XP w s₀ mg mb s₁.heap → YP w s₁.heap →
      s₁.heap.get? fa = some o → o.data = .func (docDef d.name d.params d.body d.scope pm cd doc) → s₁.heap.CodeRec cd d.name → mg d.name = some (.ref fa) →
      s₁.heap.get? a = some { cls := .type "list", data := .seq vs.toArray } → IntsAre vs ns → ns.length ≤ n → s₁.gens = #[] →
      codeAny (model l.prog w) callerA (.call (.ref fa) ⟨[.ref a], []⟩) (fun r s' => r = .ok (.ret (.bool true)) ∧ OldK s₁.heap s'.heap ∧ s'.os = s₁.os ∧ AllBare s'.gens) s₁) :
    WalkO q loose XP YP l.row.toRowW d [] (fun f vs => PySem.call f vs) := by
  intro w s₀ s₁ mg mb G Y fa o pm cd doc dV kV ho hd hcd hD hmg hg args vals as hpre hlay hrd hwl hlo
  obtain rfl : dV = .none := Dflts.none hD hdf
  obtain rfl : kV = .none := Dflts.noKw hD
  obtain ⟨a, vs, ns, rfl, rfl, hobj, hints, hlen⟩ := script_of hn hpre hwl
  refine enter_call (codeAny_mono (call w s₀ s₁ mg mb fa o pm cd doc a vs ns G Y ho (fd_plain hd) hcd hmg hobj hints hlen hg) fun r s' hq => ?_)
  obtain ⟨rfl, h2, h3, h4⟩ := hq
  exact ⟨.inl ⟨.bool true, .bool true, [], rfl, fun _ => rfl, .bool true, post_true l _, fun _ => ⟨List.Pairwise.nil, fun _ hm => (nomatch hm)⟩⟩, h2, h3, h4⟩
/-! ### rules over ANY heap (no ledger) from facts about the written part K: the library's own take a ledger (News) for what they write -/
section
variable {prog : Program} {w : World} {A : Around} {E : Value → Shared → Prop} {s : Shared} {K : Frag}
def ledger (h : Heap) (L d : Addr) : List (Addr × Obj) := (List.range h.objs.size).filterMap fun a => if a = L ∨ a = d then none else (h.get? a).map fun o => (a, o)
end
end Att
namespace L2
open PySem PySem.Spec PyProof.Rows
theorem vals_ints : ∀ {vs : List Value} {ns : List Int}, IntsAre vs ns → Vals (ns.map V.int) vs
  | _, _, .nil => .nil
  | _, _, .cons n t h => .cons ⟨t, rfl⟩ (vals_ints h)
/-- nothing is tracked but the script, known to the object (or it is an object of the module) -/
def Only (H : Hp) : Prop := ∀ b, H b = none ∨ ∃ o xs, H b = some (.frz o (.lst xs))
/-- THE HEAD: the law's promise, at the heap behind the top. F, the promise of the law's def, may use that base is part of the heap (so K.In base, base.Ns mainGlobals mg stand in Mod) -/
theorem law_call {P : Program} {w : World} {K : PySem.W.Frag} {mg mb : Str → Option Value} {CX : CXT} {k : Nat} {fa a : Addr} {fd : FuncData} {x : Str} {sp : Sp} {s₁ : Shared} {vs : List Value} {ns : List Int}
    (KX : K.In s₁.heap) (hns : s₁.heap.Ns mainGlobals mg) (hb : s₁.heap.Ns builtinsNs mb) (hbb : ∀ x : Str, x ≠ "__name__" → mb x = bootBuiltins x) (hlim : s₁.heap.NoLimit) (hg : s₁.gens = #[])
    (ha : s₁.heap.get? a = some { cls := .type "list", data := .seq vs.toArray }) (hi : IntsAre vs ns) (hl : ns.length ≤ sizeLine) (hr : Room k callerA)
    (F : ∀ base : Heap, K.In base → base.Ns mainGlobals mg → FnOk P w K mg base CX k fa fd [x] sp) (hbind : ∀ (s : Shared) (u : Value), BindsTo s fd ⟨[u], []⟩ [(x, u)])
    (hsp : ∀ H : Hp, Only H → SqL K H a (ns.map V.int) → sp [.ref a] H (fun v _ => v = .bl true) fun _ _ _ => False)
    (hCX : ∀ H e s', CX [] H s₁ (fun _ _ _ => False) e s' → False) :
    codeAny (model P w) callerA (.call (.ref fa) ⟨[.ref a], []⟩) (fun r s' => r = .ok (.ret (.bool true)) ∧ OldK s₁.heap s'.heap ∧ s'.os = s₁.os ∧ AllBare s'.gens) s₁ := by
  have rv := vals_ints hi
  have lenV := hi.length
  -- from an abstract heap in which nothing but the script may be tracked
  have core : ∀ H : Hp, Only H → SqL K H a (ns.map V.int) → HOk P w H s₁.heap → (∀ b, H b ≠ none → b = a) → (H a ≠ none → K.lookup a = none) →
      codeAny (model P w) callerA (.call (.ref fa) ⟨[.ref a], []⟩) (fun r s' => r = .ok (.ret (.bool true)) ∧ OldK s₁.heap s'.heap ∧ s'.os = s₁.os ∧ AllBare s'.gens) s₁ := by
    intro H hO hS hok hA hK
    have base_of : ∀ {b : Addr} {o : Obj}, s₁.heap.get? b = some o → H b = none → (hidT s₁.heap H).get? b = some o := fun e n => hidT_get e n
    have noA : ∀ {b : Addr} {o : Obj} {es : Array DictEntry} {ep : Nat}, s₁.heap.get? b = some o → o.data = .dict es ep → H b = none := fun {b o es ep} e d => by
      cases q : H b with
      | none => rfl
      | some u =>
        have e' : b = a := hA b (by rw [q]; simp)
        subst e'
        rw [ha] at e; cases e
        have d' : Data.seq vs.toArray _ = Data.dict es ep := d
        cases d'
    have nsK : ∀ {b : Addr} {m : Str → Option Value}, s₁.heap.Ns b m → (hidT s₁.heap H).Ns b m := fun {b m} ⟨o, es, ep, e, d, r⟩ => ⟨o, es, ep, base_of e (noA e d), d, r⟩
    have hKb : K.In (hidT s₁.heap H) := fun b o e => base_of (KX b o e) (by
      cases q : H b with
      | none => rfl
      | some u =>
        have e' : b = a := hA b (by rw [q]; simp)
        subst e'
        rw [hK (by rw [q]; simp)] at e; cases e)
    have hM : Mod K mg (hidT s₁.heap H) := ⟨hKb, nsK hns, ⟨mb, nsK hb, hbb⟩, let ⟨mc, h1, h2⟩ := hlim; ⟨mc, nsK h1, h2⟩⟩
    have e0 : Env0 P w K mg (hidT s₁.heap H) callerA [] s₁ H := ⟨rfl, hM, fun b o e => of_hidT e, Nat.le_of_eq (hidT_size _ _), trivial, fun b hb => absurd (show b ∈ ([] : List Addr) from hb) (by simp), hok, .of_eq hg⟩
    refine codeAny_mono ((F _ hKb (nsK hns)).run callerA [] s₁ H ⟨[.ref a], []⟩ [.ref a] [.ref a] _ _ hr e0 (hbind s₁ (.ref a)) (.cons rfl .nil) (hsp H hO hS)) fun r s' h => ?_
    cases r with
    | error e => exact (hCX H e s' h).elim
    | ok fl =>
      cases fl with
      | next => exact False.elim h
      | brk => exact False.elim h
      | cont => exact False.elim h
      | ret u =>
        obtain ⟨v, H', os, bare, un, hok', r', q⟩ := h
        have q' : v = .bl true := q
        subst q'
        obtain rfl : u = Value.bool true := r'
        refine ⟨rfl, OldK.of_keep fun b o e => ?_, os, bare⟩
        cases q : H b with
        | none => exact un.keep b o e q (by intro z; exact absurd (show b ∈ ([] : List Addr) from z) (by simp)) (by simp)
        | some u =>
          rcases hO b with z | ⟨ob, xs, z⟩
          · rw [q] at z; cases z
          · have z2 := un.frzs b ob _ z
            obtain ⟨e1, _⟩ := hok b _ z
            obtain ⟨e2, _⟩ := hok' b _ z2
            rw [e] at e1; cases e1
            exact e2
  cases hk : K.lookup a with
  | some o =>
    -- the script is one of the module's own objects
    have e := KX a o hk
    rw [ha] at e
    cases e
    refine core (fun _ => none) (fun _ => .inl rfl) (.inr ⟨_, vs.toArray, _, hk, rfl, rfl, rfl, by rw [List.size_toArray, lenV]; exact hl, by simpa using rv⟩) (fun b u z => by have z' : (none : Option HO) = some u := z; cases z') (fun b z => absurd rfl z) fun z => absurd rfl z
  | none =>
    refine core (fun b => if b = a then some (.frz { cls := .type "list", data := .seq vs.toArray } (.lst (ns.map V.int))) else none) (fun b => ?_) (.inl (.inr ⟨{ cls := .type "list", data := .seq vs.toArray }, if_pos rfl⟩)) (fun b u z => ?_) (fun b z => ?_) fun _ => hk
    · by_cases hb : b = a
      · exact .inr ⟨_, _, if_pos hb⟩
      · exact .inl (if_neg hb)
    · by_cases hb : b = a
      · have z' := (if_pos hb).symm.trans z
        cases z'
        subst hb
        exact ⟨ha, by rw [List.length_map]; exact hl, vs, _, rv, ha⟩
      · have z' := (if_neg hb).symm.trans z
        cases z'
    · by_cases hb : b = a
      · exact hb
      · exact absurd (if_neg hb) z
end L2
namespace L2
open PySem PySem.Spec PyProof.Rows
/-- the goal that k_head leaves (case hc), from the law's promise. F gives the function object fd (K's own) once, then the promise over every base -/
theorem walk_of {l : PySem.W.OpenLaw} {n k : Nat} {q : Program} {loose : List Str} {XP : (Str → Option Value) → Heap → Prop} {YP : World → Heap → Prop} {d : DefRec} {K : Params → PySem.W.Frag} {CX : World → CXT} {sp : World → Sp} {x : Str}
    (hn : l.most = some n) (hn2 : n ≤ sizeLine) (hdf : d.params.defaults = []) (hr : Room k callerA)
    (hY : ∀ (w : World) (h : Heap), YP w h → (K w.params).In h)
    (F : ∀ (w : World) (mg : Str → Option Value) (fa : Addr) (h : Heap), (K w.params).In h → h.Ns mainGlobals mg → mg d.name = some (.ref fa) →
      ∃ fd : FuncData, (∀ (s : Shared) (u : Value), BindsTo s fd ⟨[u], []⟩ [(x, u)]) ∧
        ∀ base : Heap, (K w.params).In base → base.Ns mainGlobals mg → FnOk l.prog w (K w.params) mg base (CX w) k fa fd [x] (sp w))
    (hsp : ∀ (w : World) (H : Hp) (a : Addr) (ns : List Int), ns.length ≤ n → Only H → SqL (K w.params) H a (ns.map V.int) → sp w [.ref a] H (fun v _ => v = .bl true) fun _ _ _ => False)
    (hCX : ∀ (w : World) (H : Hp) (s : Shared) (e : Value) (s' : Shared), CX w [] H s (fun _ _ _ => False) e s' → False) :
    PySem.W.WalkO q loose XP YP l.row.toRowW d [] (fun f vs => PySem.call f vs) := by
  refine Att.attach_call hn hdf fun w s₀ s₁ mg mb fa o pm cd doc a vs ns G Y ho hd hcd hmg hobj hints hlen hg => ?_
  have KX := hY w _ Y
  obtain ⟨fd, hb, hF⟩ := F w mg fa _ KX G.T.g hmg
  exact law_call KX G.T.g G.T.b G.T.builtins G.T.nolimit hg hobj hints (Nat.le_trans hlen hn2) hr hF hb (fun H hO hS => hsp w H a ns hlen hO hS) fun H e s' => hCX w H s₁ e s'
end L2
/-! SHORT WORDS over the layer: a def of the text, its body, what a loop and a test want. -/
namespace L2
open PySem PySem.Spec PyProof.Rows
/-! ### the text by places -/
/-- the j-th statement of a class's body -/
def inClass (s : Stmt) (j : Nat) : Stmt := match s with
  | .ClassDef _ _ _ body _ _ _ _ _ _ _ => body.getD j (.Pass ⟨0, 0, 0, 0⟩)
  | _ => .Pass ⟨0, 0, 0, 0⟩
def defArgs (s : Stmt) : Arguments := match s with
  | .FunctionDef _ a _ _ _ _ _ _ _ _ => a
  | _ => { posonlyargs := [], args := [], vararg := none, kwonlyargs := [], kw_defaults := [], kwarg := none, defaults := [] }
def defBody (s : Stmt) : List Stmt := match s with
  | .FunctionDef _ _ b _ _ _ _ _ _ _ => b
  | _ => []
def defScope (s : Stmt) : Scope := match s with
  | .FunctionDef _ _ _ _ _ _ sc _ _ _ => sc
  | _ => { kind := .function, names := [], isGenerator := false, isCoroutine := false }
/-! ### no exception leaves a def -/
abbrev CX0 : CXT := fun _ _ _ _ _ _ => False
/-! ### a def (or method) of the text as it stands behind the top -/
structure Fun (K : PySem.W.Frag) (x qual : Str) (st : Stmt) (f : Addr) (fd : FuncData) : Prop where
  ex : ∃ (oc : Value) (od : Option Addr) (kV doc pm : Value) (an : Option Addr) (cdv ct : Value) (osl : Array (Option Value)),
    fd = PySem.W.fnOf x qual (defArgs st) (defBody st) (defScope st) .none kV doc pm an cdv ct ∧ K.lookup f = some ⟨oc, od, .func fd, osl⟩ ∧ PySem.W.codeIn K cdv qual = true
  kp : PySem.W.keepIn K (.ref f) = true
section
variable {P : Program} {w : World} {K : PySem.W.Frag} {mg : Str → Option Value} {base : Heap}
/-- THE RULE for a def: its body as a term of rules, and the reading of that term -/
theorem Fun.ok {x qual : Str} {st : Stmt} {f : Addr} {fd : FuncData} {N ps : List Str} {k : Nat} {sp : Sp} (F : Fun K x qual st f fd) (S : FnScope N ps (defScope st)) (len : ∀ vs H Q E, sp vs H Q E → vs.length = ps.length)
    (hbody : ∀ (cdv : Value) (A : Around) (outer : List Env) (s : Shared) (H : Hp) (vs : List V) (Q : VK) (E : XK), Room k (A.deeper (envOfC qual (defScope st) s.heap.objs.size f cdv)) → sp vs H Q E →
      ∃ t, PSs (cxOf CX0 P w K mg base N qual (defScope st) f cdv A outer s H E).nox (defBody st) t ∧ t { nx := fun _ H' => Q .non H', rt := Q } (start N vs) H) : FnOk P w K mg base CX0 (k + 1) f fd ps sp := by
  obtain ⟨oc, od, kV, doc, pm, an, cdv, ct, osl, rfl, lk, hcd⟩ := F.ex
  refine fn_of lk hcd S len fun A outer s H vs Q E hr hsp => ?_
  obtain ⟨t, h, q⟩ := hbody cdv A outer s H vs Q E hr hsp
  exact ⟨t, h.nox, q⟩
/-- how its arguments bind (no defaults): h is «fun _ _ _ _ _ _ us hl => match us, hl with | [_, _], _ => rfl», one _ a parameter -/
theorem Fun.binds {x qual : Str} {st : Stmt} {f : Addr} {fd : FuncData} {ps : List Str} (F : Fun K x qual st f fd)
    (h : ∀ (kV doc pm : Value) (an : Option Addr) (cdv ct : Value) (us : List Value), us.length = ps.length → bindArgs (PySem.W.fnOf x qual (defArgs st) (defBody st) (defScope st) .none kV doc pm an cdv ct) ⟨us, []⟩ = pure (ps.zip us)) : Binds K fd ps [] := by
  obtain ⟨oc, od, kV, doc, pm, an, cdv, ct, osl, rfl, lk, hcd⟩ := F.ex
  exact .all (h kV doc pm an cdv ct)
theorem fun_mk {x qual : Str} {st : Stmt} {f : Addr} {oc : Value} {od an : Option Addr} {osl : Array (Option Value)} {kV doc pm cdv ct : Value} (l : K.lookup f = some ⟨oc, od, .func (PySem.W.fnOf x qual (defArgs st) (defBody st) (defScope st) .none kV doc pm an cdv ct), osl⟩)
    (c : PySem.W.codeIn K cdv qual = true) (k : PySem.W.keepIn K (.ref f) = true) : Fun K x qual st f (PySem.W.fnOf x qual (defArgs st) (defBody st) (defScope st) .none kV doc pm an cdv ct) := ⟨⟨oc, od, kV, doc, pm, an, cdv, ct, osl, rfl, l, c⟩, k⟩
end
/-! ### expressions in short: the name that stands in the i-th slot -/
section
variable {X : Cx}
theorem pv (i : Nat) {x : Str} {pos : Pos} (hN : X.N[i]? = some x := by rfl) (hv : Vis X.env.scope x := by first | exact Or.inl rfl | exact Or.inr (Or.inl rfl) | exact Or.inr (Or.inr rfl)) (hd : (x == ("__debug__" : Str)) = false := by decide)
    (hcd : (x == ("__classdict__" : Str)) = false := by decide) : PE X (.Name x pos) (tVar i) := pe_var hN hv hd hcd
end
/-! ### tests -/
theorem iteF {A B : Prop} (h : B) : if false = true then A else B := by
  rw [if_neg Bool.false_ne_true]
  exact h
theorem iteT {A B : Prop} (h : A) : if true = true then A else B := by
  rw [if_pos rfl]
  exact h
theorem ite2 {c A B : Prop} [Decidable c] (h1 : c → A) (h2 : ¬ c → B) : if c then A else B := by
  by_cases h : c
  · rw [if_pos h]
    exact h1 h
  · rw [if_neg h]
    exact h2 h
/-! ### heaps -/
/-- all that was tracked is as it was -/
def Same (H H' : Hp) : Prop := ∀ b o, H b = some o → H' b = some o
theorem Same.trans {H H1 H2 : Hp} (a : Same H H1) (b : Same H1 H2) : Same H H2 := fun c o h => b c o (a c o h)
theorem Same.free {H H' : Hp} (e : Same H H') {l : Addr} (h : H' l = Option.none) : H l = Option.none := by
  cases q : H l with
  | none => rfl
  | some o =>
    rw [e l o q] at h
    cases h
theorem Same.seq {K : PySem.W.Frag} {H H' : Hp} {a : Addr} {xs : List V} (e : Same H H') (h : SqL K H a xs) : SqL K H' a xs := by
  rcases h with (h | ⟨o, h⟩) | h
  · exact .inl (.inl (e _ _ h))
  · exact .inl (.inr ⟨o, e _ _ h⟩)
  · exact .inr h
/-! ### a dict's pairs: keys that differ -/
section
variable {κ : Type} [DecidableEq κ]
end
end L2
set_option maxHeartbeats 4000000
/-! MY OWN LAYER over the hand layer: exceptions, packed promises -/
namespace L2
open PySem PySem.Spec PyProof.Rows

/-- an exception of class cls flies, its record at ea, over the frames l; B: all that stays whatever it passes -/
structure Fly (B : Heap) (l : List Env) (h : Heap) (H H' : Hp) (h' : Heap) (ea : Addr) (cls : Value) : Prop where
  fl : ∃ a0, Heap.FlyingW B l ea cls a0 h'
  trk : ∀ b u, H' b = some u → ∃ o, B.get? b = some o
  kept : ∀ b o, h.get? b = some o → H b = none → b ∉ frs l → B.get? b = some o
  alive : ∀ b o, h.get? b = some o → b ∉ frs l → ∃ o', B.get? b = some o'
/-- how an exception lies behind a call -/
def CXe (P : Program) (w : World) : CXT := fun outer H s E e s' => ∃ ea cls H' B, e = .ref ea ∧ s'.os = s.os ∧ AllBare s'.gens ∧ Un (frs outer) [] H H' s.heap s'.heap ∧ HOk P w H' s'.heap ∧ Fly B outer s.heap H H' s'.heap ea cls ∧ E cls none H'
/-- what a context wants of exceptions, in abstract words: class, frame, heap -/
abbrev XKs := Value → St → Hp → Prop
def XW (X : Cx) (K : XKs) : Prop := ∀ (pins : List (Addr × Obj)) (σ : St) (H : Hp) (s s' : Shared) (ea : Addr) (cls : Value) (H' : Hp) (B : Heap), Inv X pins σ H s → s'.os = s.os → AllBare s'.gens →
  Un (frs X.stack) [] H H' s.heap s'.heap → HOk X.prog X.w H' s'.heap → Fly B X.stack s.heap H H' s'.heap ea cls → K cls σ H' → X.xe (.ref ea) s'

theorem frs_cons {env : Env} {l : List Env} {L : Addr} (h : env.frame = some L) : frs (env :: l) = L :: frs l := by
  unfold frs; rw [List.filterMap_cons, h]

/-- tracked things stay where all that B holds stays -/
theorem HOk.flown {P : Program} {w : World} {H : Hp} {B h h' : Heap} (x : HOk P w H h) (t : ∀ b u, H b = some u → ∃ o, B.get? b = some o) (s : B.StaysIn h) (s' : B.StaysIn h') : HOk P w H h' := fun a o e =>
  (x a o e).stay (fun b u hb q => by
    have hB : ∃ o, B.get? b = some o := by
      rcases hb with rfl | hb
      · exact t _ _ e
      · exact t _ _ hb
    obtain ⟨o', ho⟩ := hB
    have e1 := s b o' ho
    rw [q] at e1; cases e1
    exact s' b _ ho) (fun _ q => q) fun _ _ q => q

/-- the wish of a def's body -/
theorem xw_def {P : Program} {w : World} {K : PySem.W.Frag} {mg : Str → Option Value} {base : Heap} {N : List Str} {qual : Str} {scope : Scope} {f : Addr} {cd : Value} {A : Around} {outer : List Env} {s0 : Shared} {H0 : Hp} {E : XK} :
    XW (cxOf (CXe P w) P w K mg base N qual scope f cd A outer s0 H0 E) (fun c _ H' => E c none H') := by
  intro pins σ H s s' ea cls H' B I os bare un hok fly hK
  have I' := I.call' (s' := s') (ch := []) os un hok bare (fun b z => absurd z (by simp))
  have hfr := I.ok.frames
  have hstk : (cxOf (CXe P w) P w K mg base N qual scope f cd A outer s0 H0 E).stack = envOfC qual scope s0.heap.objs.size f cd :: outer := rfl
  rw [hstk] at hfr
  obtain ⟨a0, hfl⟩ := fly.fl
  have hf : (envOfC qual scope s0.heap.objs.size f cd).frame = some s0.heap.objs.size := rfl
  show wpAny _ _ (leaving (envOfC qual scope s0.heap.objs.size f cd) (.ref ea)) _ _ s'
  refine wpAny_leaves_onW hfr hf hfl fun h' fl' up => ?_
  have hfs : frs (envOfC qual scope s0.heap.objs.size f cd :: outer) = s0.heap.objs.size :: frs outer := frs_cons hf
  have nf : ∀ b o, s0.heap.get? b = some o → b ∉ frs outer → b ∉ frs (envOfC qual scope s0.heap.objs.size f cd :: outer) := fun b o e n z => by
    rw [hfs] at z
    rcases List.mem_cons.mp z with z | z
    · exact absurd (Heap.lt_size e) (by rw [z]; exact Nat.lt_irrefl _)
    · exact n z
  have stay : ∀ b o, s0.heap.get? b = some o → H0 b = none → b ∉ frs outer → B.get? b = some o := fun b o e n hb =>
    fly.kept b o (I.base.keep b o e n hb (by intro z; exact absurd z (by simp [cxOf]))) (I.base.free b o e n (by intro z; exact absurd z (by simp [cxOf]))) (nf b o e hb)
  have live : ∀ b o, s0.heap.get? b = some o → b ∉ frs outer → ∃ o', B.get? b = some o' := fun b o e hb => by
    obtain ⟨o1, e1⟩ := I.base.there b o e (by intro z; exact absurd z (by simp [cxOf]))
    exact fly.alive b o1 e1 (nf b o e hb)
  refine ⟨ea, cls, H', B, rfl, I'.os, bare, ?_, hok.flown fly.trk hfl.1 fl'.1, ⟨⟨a0, fl'⟩, fly.trk, stay, live⟩, hK⟩
  have noA : ∀ b : Addr, b ∉ (cxOf (CXe P w) P w K mg base N qual scope f cd A outer s0 H0 E).ex := fun b z => absurd z (by simp [cxOf])
  have slotOf : ∀ b, b ∈ frs outer → ∀ o, s'.heap.get? b = some o → ∃ sl, h'.get? b = some { o with slots := sl } := fun b hb o e => by
    have hm : b ∈ frs (envOfC qual scope s0.heap.objs.size f cd :: outer) := by rw [hfs]; exact List.mem_cons_of_mem _ hb
    obtain ⟨_, o', ho', hd⟩ := hfl.2.2.1.mem hm
    rw [e] at ho'; cases ho'
    exact up b o e hd
  refine ⟨fun b o e n hb _ => fl'.1 b o (stay b o e n hb), fun b o e n hb _ => ?_, fun b o e n _ => I'.base.free b o e n (noA b), fun b o e _ => ?_, I'.base.tups, I'.base.frzs, I'.base.tbls⟩
  · obtain ⟨sl, e1⟩ := I'.base.slot b o e n hb (noA b)
    obtain ⟨sl', e2⟩ := slotOf b hb _ e1
    exact ⟨sl', e2⟩
  · by_cases hb : b ∈ frs outer
    · obtain ⟨o1, e1⟩ := I'.base.there b o e (noA b)
      obtain ⟨sl, e2⟩ := slotOf b hb _ e1
      exact ⟨_, e2⟩
    · obtain ⟨o1, e1⟩ := live b o e hb
      exact ⟨o1, fl'.1 b o1 e1⟩

/-! ### packed promises -/
/-- a def of the module: bound to x, its promise -/
def Have (P : Program) (w : World) (K : PySem.W.Frag) (mg : Str → Option Value) (base : Heap) (x : Str) (k : Nat) (ps : List Str) (dvs : List V) (sp : Sp) : Prop :=
  ∃ f fd ds, mg x = some (.ref f) ∧ PySem.W.keepIn K (.ref f) = true ∧ Binds K fd ps ds ∧ Vals dvs ds ∧ FnOk P w K mg base (CXe P w) k f fd ps sp
/-- a method -/
def HaveM (P : Program) (w : World) (K : PySem.W.Frag) (mg : Str → Option Value) (base : Heap) (C : Addr) (m : Str) (k : Nat) (ps : List Str) (dvs : List V) (sp : Sp) : Prop :=
  ∃ f fd ds, Meth K C m f ∧ Binds K fd ps ds ∧ Vals dvs ds ∧ FnOk P w K mg base (CXe P w) k f fd ps sp
/-- __init__ of the class at C, bound to x -/
def HaveI (P : Program) (w : World) (K : PySem.W.Frag) (mg : Str → Option Value) (base : Heap) (x : Str) (C : Addr) (k : Nat) (ps : List Str) (dvs : List V) (sp : Sp) : Prop :=
  ∃ f fd ds, mg x = some (.ref C) ∧ Mk K C f ∧ Binds K fd ps ds ∧ Vals dvs ds ∧ FnOk P w K mg base (CXe P w) k f fd ps sp
def tCallE (Kx : XKs) (sp : Sp) (dvs : List V) (t : TA) : TE := fun σ H Q => t σ H fun vs H1 => sp (vs ++ dvs) H1 Q (fun c _ H' => Kx c σ H')
def tMethE (Kx : XKs) (C : Addr) (m : Str) (sp : Sp) (dvs : List V) (ta : TE) (t : TA) : TE := fun σ H Q => ta σ H fun x H1 => ∃ a dx fs, x = .ref a ∧ H1 a = some (.ins C dx fs) ∧ fs.lookup m = none ∧
  t σ H1 fun vs H2 => sp (x :: (vs ++ dvs)) H2 Q (fun c _ H' => Kx c σ H')
def tMakeE (Kx : XKs) (C : Addr) (sp : Sp) (dvs : List V) (t : TA) : TE := fun σ H Q => t σ H fun vs H1 => ∀ x dx, H1 x = none → H1 dx = none → dx ≠ x →
  sp (.ref x :: (vs ++ dvs)) (upd (upd H1 dx (.own x)) x (.ins C dx [])) (fun v H2 => v = .non ∧ Q (.ref x) H2) (fun c _ H' => Kx c σ H')
section
variable {X : Cx} {Kx : XKs} {k : Nat} {f C : Addr} {fd : FuncData} {ps : List Str} {sp : Sp} {dvs : List V} {ds : List Value} {x m : Str} {p pos apos : Pos} {e o : Expr} {es : List Expr} {ta : TE} {t : TA}
theorem run_fnE {pins : List (Addr × Obj)} {σ : St} {H : Hp} {s : Shared} {Q : VK} {us : List Value} {vs : List V} (F : FnOk X.prog X.w X.K X.mg X.base (CXe X.prog X.w) k f fd ps sp) (hr : Room k X.A) (hb : Binds X.K fd ps ds) (hd : Vals dvs ds) (hx : XW X Kx)
    (I : Inv X pins σ H s) (r : Vals vs us) (h : sp (vs ++ dvs) H Q (fun c _ H' => Kx c σ H')) : wpAny (model X.prog X.w) X.A (call (.ref f) us) (EP X pins σ Q) X.xe s := by
  have r2 : Vals (vs ++ dvs) (us ++ ds) := r.append hd
  have hl : (us ++ ds).length = ps.length := by rw [← r2.length]; exact F.len _ _ _ _ h
  refine wpAny_call (codeAny_mono (F.run X.A X.stack s H ⟨us, []⟩ (us ++ ds) (vs ++ dvs) Q _ hr I.env0 (hb s us I.kIn hl) r2 h) fun r s' hq => ?_)
  cases r with
  | error e =>
    obtain ⟨ea, cls, H', B, rfl, os, bare, un, hok, fly, hK⟩ := hq
    exact hx pins σ H s s' ea cls H' B I os bare un hok fly hK
  | ok fl =>
    cases fl with
    | ret u => exact I.after hq
    | next => exact False.elim hq
    | brk => exact False.elim hq
    | cont => exact False.elim hq
theorem pe_callE (F : Have X.prog X.w X.K X.mg X.base x k ps dvs sp) (hr : Room k X.A) (hx : XW X Kx) (ha : PA X (e :: es) t) (hg : Gl X x := by rfl) (hdb : (x == ("__debug__" : Str)) = false := by decide)
    (he : starEach (e :: es) X.env = (false, eval e X.env) :: starEach es X.env := by rfl) (hpl : (backTo pos (starEach es X.env)).any (·.1) = false := by rfl) :
    PE X (.Call (.Name x p) (e :: es) [] pos) (tCallE Kx sp dvs t) := by
  obtain ⟨f, fd, ds, hm, hk, hb, hd, F⟩ := F
  intro pins s σ H Q I h
  refine wpAny_Call_Name_kw (ld_glob I hg hm ?_ hdb)
  refine PySem.W.callWith_K (h₀ := X.base) I.ok.mod.kin hk (thn (ha pos pins s σ H _ I h) fun us s1 ⟨vs, H1, I1, r, q⟩ => ⟨I1.kIn, ?_⟩) he hpl
  exact run_fnE F hr hb hd hx I1 r q
theorem pe_methE {pl : Sem Bool} (ho : PE X o ta) (c : Cls X.K C) (F : HaveM X.prog X.w X.K X.mg X.base C m k ps dvs sp) (hr : Room k X.A) (hx : XW X Kx) (ha : PA X (e :: es) t)
    (hst : starEach (e :: es) X.env = (false, eval e X.env) :: starEach es X.env := by rfl) (hpl : (backTo pos (starEach es X.env)).any (·.1) = false := by rfl)
    (ht : eval (.Call (.Attribute o m apos) (e :: es) [] pos) X.env = (do
      let ov ← eval o X.env
      standAt apos.atName
      let (f, first) ← holding [ov] (getMethod ov m pl)
      callWith pos f first (backTo pos (starEach (e :: es) X.env)) (backToKw pos (keywordEach [] X.env))) := by rfl) :
    PE X (.Call (.Attribute o m apos) (e :: es) [] pos) (tMethE Kx C m sp dvs ta t) := by
  obtain ⟨f, fd, ds, hm, hb, hd, F⟩ := F
  intro pins s σ H Q I h
  refine PySem.W.methodCall_KW (pl := pl) (thn (ho pins s σ H _ I h) fun u s1 ⟨x, H1, I1, rx, a, dx, fs, ex, ea, l, q⟩ => ?_) ht
  subst ex
  obtain rfl : u = Value.ref a := rx
  refine getmeth_ok I1 ea c hm l ?_
  refine PySem.W.callWith_K (first := [.ref a]) (h₀ := X.base) I.ok.mod.kin hm.kp (thn (ha pos pins s1 σ H1 _ I1 q) fun us s2 ⟨vs, H2, I2, r, q2⟩ => ⟨I2.kIn, ?_⟩) hst hpl
  exact run_fnE (us := .ref a :: us) (vs := .ref a :: vs) F hr hb hd hx I2 (.cons rfl r) q2
theorem pe_methE0 {pl : Sem Bool} (ho : PE X o ta) (c : Cls X.K C) (F : HaveM X.prog X.w X.K X.mg X.base C m k ps dvs sp) (hr : Room k X.A) (hx : XW X Kx)
    (ht : eval (.Call (.Attribute o m apos) [] [] pos) X.env = (do
      let ov ← eval o X.env
      standAt apos.atName
      let (f, first) ← holding [ov] (getMethod ov m pl)
      callWith pos f first (backTo pos (starEach [] X.env)) (backToKw pos (keywordEach [] X.env))) := by rfl) :
    PE X (.Call (.Attribute o m apos) [] [] pos) (tMethE Kx C m sp dvs ta tNil) := by
  obtain ⟨f, fd, ds, hm, hb, hd, F⟩ := F
  intro pins s σ H Q I h
  refine PySem.W.methodCall_KW (pl := pl) (thn (ho pins s σ H _ I h) fun u s1 ⟨x, H1, I1, rx, a, dx, fs, ex, ea, l, q⟩ => ?_) ht
  subst ex
  obtain rfl : u = Value.ref a := rx
  refine getmeth_ok I1 ea c hm l ?_
  exact PySem.W.callWith_K0 (first := [.ref a]) I1.kIn hm.kp (run_fnE (us := [.ref a]) (vs := [.ref a]) F hr hb hd hx I1 (.cons rfl .nil) q)
theorem run_makeE {pins : List (Addr × Obj)} {σ : St} {H : Hp} {s : Shared} {Q : VK} {us : List Value} {vs : List V} (M : Mk X.K C f) (F : FnOk X.prog X.w X.K X.mg X.base (CXe X.prog X.w) k f fd ps sp) (hr : Room (k + 1) X.A) (hb : Binds X.K fd ps ds) (hd : Vals dvs ds)
    (hx : XW X Kx) (I : Inv X pins σ H s) (r : Vals vs us)
    (h : ∀ x dx, H x = none → H dx = none → dx ≠ x → sp (.ref x :: (vs ++ dvs)) (upd (upd H dx (.own x)) x (.ins C dx [])) (fun v H2 => v = .non ∧ Q (.ref x) H2) (fun c _ H' => Kx c σ H')) :
    wpAny (model X.prog X.w) X.A (call (.ref C) us) (EP X pins σ Q) X.xe s := by
  have hq := h (s.heap.objs.size + 1) s.heap.objs.size (I.hok.fresh (Nat.le_succ _)) (I.hok.fresh (Nat.le_refl _)) (Nat.ne_of_lt (Nat.lt_succ_self _))
  have I2 := Inv.made (C := C) I
  have r2 : Vals (V.ref (s.heap.objs.size + 1) :: (vs ++ dvs)) (Value.ref (s.heap.objs.size + 1) :: (us ++ ds)) := .cons rfl (r.append hd)
  have hl : (Value.ref (s.heap.objs.size + 1) :: us ++ ds).length = ps.length := by
    have e := r2.length
    rw [F.len _ _ _ _ hq] at e
    exact e.symm
  refine wpAny_call (make_map (f := f) I.kIn M.makes M.init (beq_iff_eq.mp M.fn) (codeAny_mono (F.run _ X.stack _ _ ⟨Value.ref (s.heap.objs.size + 1) :: us, []⟩ (Value.ref (s.heap.objs.size + 1) :: (us ++ ds)) _ _ _ (hr.make C us [])
    (I2.env0.make C us []) (hb _ (Value.ref (s.heap.objs.size + 1) :: us) I2.kIn hl) r2 hq) fun r s' hq' => ?_))
  cases r with
  | error e =>
    obtain ⟨ea, cls, H', B, rfl, os, bare, un, hok, fly, hK⟩ := hq'
    exact hx pins σ _ _ s' ea cls H' B I2 os bare un hok fly hK
  | ok fl =>
    cases fl with
    | ret u =>
      obtain ⟨v, H', I3, rv, ev, q3⟩ := I2.after hq'
      subst ev
      exact ⟨rv, ⟨V.ref (s.heap.objs.size + 1), H', I3, rfl, q3⟩⟩
    | next => exact False.elim hq'
    | brk => exact False.elim hq'
    | cont => exact False.elim hq'
theorem pe_makeE0 (F : HaveI X.prog X.w X.K X.mg X.base x C k ps dvs sp) (hr : Room (k + 1) X.A) (hx : XW X Kx) (hg : Gl X x := by rfl) (hdb : (x == ("__debug__" : Str)) = false := by decide) :
    PE X (.Call (.Name x p) [] [] pos) (tMakeE Kx C sp dvs tNil) := by
  obtain ⟨f, fd, ds, hm, M, hb, hd, F⟩ := F
  intro pins s σ H Q I h
  refine wpAny_Call_Name_kw (ld_glob I hg hm ?_ hdb)
  exact PySem.W.callWith_K0 I.kIn M.kp (run_makeE (us := []) M F hr hb hd hx I .nil h)
/-- a name of the module, a built-in's name, as a value -/
theorem pe_globE {v : V} (hg : Gl X x) (hm : ∃ u, X.mg x = some u ∧ RelV v u) (hd : (x == ("__debug__" : Str)) = false := by decide) : PE X (.Name x pos) (tC v) := by
  obtain ⟨u, hm, r⟩ := hm
  exact pe_glob hg hm r hd
theorem pe_bltnE {n : String} (hg : Gl X x) (hm : X.mg x = none) (hv : bootBuiltins x = some (.type n)) (hn : x ≠ "__name__" := by decide) (hd : (x == ("__debug__" : Str)) = false := by decide) : PE X (.Name x pos) (tC (.ty n)) := pe_bltn hg hm hv rfl hn hd
end
/-! ### a def by its body -/
/-- a def (or method) of the text -/
def Raw (K : PySem.W.Frag) (mg : Str → Option Value) (x qual : Str) (st : Stmt) (ps : List Str) (dvs : List V) : Prop := ∃ f fd ds, mg x = some (.ref f) ∧ Fun K x qual st f fd ∧ Binds K fd ps ds ∧ Vals dvs ds
def RawM (K : PySem.W.Frag) (C : Addr) (m qual : Str) (st : Stmt) (ps : List Str) (dvs : List V) : Prop := ∃ f fd ds, Meth K C m f ∧ Fun K m qual st f fd ∧ Binds K fd ps ds ∧ Vals dvs ds
def RawI (K : PySem.W.Frag) (mg : Str → Option Value) (x : Str) (C : Addr) (qual : Str) (st : Stmt) (ps : List Str) (dvs : List V) : Prop := ∃ f fd ds, mg x = some (.ref C) ∧ Mk K C f ∧ Fun K "__init__" qual st f fd ∧ Binds K fd ps ds ∧ Vals dvs ds
section
variable {P : Program} {w : World} {K : PySem.W.Frag} {mg : Str → Option Value} {base : Heap}
/-- the body's duty -/
def Body (P : Program) (w : World) (K : PySem.W.Frag) (mg : Str → Option Value) (base : Heap) (qual : Str) (st : Stmt) (N : List Str) (k : Nat) (sp : Sp) : Prop :=
  ∀ (f : Addr) (cdv : Value) (A : Around) (outer : List Env) (s : Shared) (H : Hp) (vs : List V) (Q : VK) (E : XK), Room k (A.deeper (envOfC qual (defScope st) s.heap.objs.size f cdv)) → sp vs H Q E →
    ∃ t, PSs (cxOf (CXe P w) P w K mg base N qual (defScope st) f cdv A outer s H E) (defBody st) t ∧ t { nx := fun _ H' => Q .non H', rt := Q } (start N vs) H
theorem Fun.okE {x qual : Str} {st : Stmt} {f : Addr} {fd : FuncData} {N ps : List Str} {k : Nat} {sp : Sp} (F : Fun K x qual st f fd) (S : FnScope N ps (defScope st)) (len : ∀ vs H Q E, sp vs H Q E → vs.length = ps.length)
    (hbody : Body P w K mg base qual st N k sp) : FnOk P w K mg base (CXe P w) (k + 1) f fd ps sp := by
  obtain ⟨oc, od, kV, doc, pm, an, cdv, ct, osl, rfl, lk, hcd⟩ := F.ex
  exact fn_of lk hcd S len fun A outer s H vs Q E hr hsp => hbody f cdv A outer s H vs Q E hr hsp
theorem Raw.have {x qual : Str} {st : Stmt} {N ps : List Str} {dvs : List V} {k : Nat} {sp : Sp} (R : Raw K mg x qual st ps dvs) (S : FnScope N ps (defScope st)) (len : ∀ vs H Q E, sp vs H Q E → vs.length = ps.length)
    (hbody : Body P w K mg base qual st N k sp) : Have P w K mg base x (k + 1) ps dvs sp :=
  let ⟨f, fd, ds, hm, F, hb, hd⟩ := R
  ⟨f, fd, ds, hm, F.kp, hb, hd, F.okE S len hbody⟩
theorem RawM.have {C : Addr} {m qual : Str} {st : Stmt} {N ps : List Str} {dvs : List V} {k : Nat} {sp : Sp} (R : RawM K C m qual st ps dvs) (S : FnScope N ps (defScope st)) (len : ∀ vs H Q E, sp vs H Q E → vs.length = ps.length)
    (hbody : Body P w K mg base qual st N k sp) : HaveM P w K mg base C m (k + 1) ps dvs sp :=
  let ⟨f, fd, ds, hm, F, hb, hd⟩ := R
  ⟨f, fd, ds, hm, hb, hd, F.okE S len hbody⟩
theorem RawI.have {C : Addr} {x qual : Str} {st : Stmt} {N ps : List Str} {dvs : List V} {k : Nat} {sp : Sp} (R : RawI K mg x C qual st ps dvs) (S : FnScope N ps (defScope st)) (len : ∀ vs H Q E, sp vs H Q E → vs.length = ps.length)
    (hbody : Body P w K mg base qual st N k sp) : HaveI P w K mg base x C (k + 1) ps dvs sp :=
  let ⟨f, fd, ds, hm, M, F, hb, hd⟩ := R
  ⟨f, fd, ds, hm, M, hb, hd, F.okE S len hbody⟩
end
end L2
/-! ### exceptions: raised, caught -/
namespace L2
open PySem PySem.Spec PyProof.Rows

/-- the wish at a raise -/
def XR (X : Cx) (K : XKs) : Prop := ∀ (pins : List (Addr × Obj)) (σ : St) (H : Hp) (s : Shared) (h' : Heap) (e : Addr) (cls : Value) (args : List Value), Inv X pins σ H s → Heap.MadeExcOf s.heap h' e cls args → K cls σ H → X.xe (.ref e) { s with heap := h' }

theorem HOk.alive {P : Program} {w : World} {H : Hp} {h : Heap} (x : HOk P w H h) {b : Addr} {u : HO} (e : H b = some u) : ∃ o, h.get? b = some o := by
  have q := x b u e
  cases u with
  | lst xs => obtain ⟨_, _, _, _, e⟩ := q; exact ⟨_, e⟩
  | tup xs => obtain ⟨_, _, _, ⟨o, e, _⟩⟩ := q; exact ⟨_, e⟩
  | dK kvs => obtain ⟨_, _, _, _, o, _, _, e, _⟩ := q; exact ⟨_, e⟩
  | dT kvs => obtain ⟨_, _, _, _, o, _, _, e, _⟩ := q; exact ⟨_, e⟩
  | set S n => obtain ⟨o, _, _, _, e, _⟩ := q; exact ⟨_, e⟩
  | ins C dx fs => obtain ⟨_, _, _, e, _⟩ := q; exact ⟨_, e⟩
  | own y => exact q
  | xd fs => obtain ⟨_, ⟨_, _, _, e, _⟩, _⟩ := q; exact ⟨_, e⟩
  | rng lo hi => obtain ⟨_, _, _, e⟩ := q; exact ⟨_, e⟩
  | frz ob u => obtain ⟨e, _⟩ := q; exact ⟨_, e⟩
  | tbl ps => exact ⟨_, q⟩
  | met f y => exact ⟨_, q⟩
  | ext φ => obtain ⟨_, e, _⟩ := q; exact e

theorem xr_def {P : Program} {w : World} {K : PySem.W.Frag} {mg : Str → Option Value} {base : Heap} {N : List Str} {qual : Str} {scope : Scope} {f : Addr} {cd : Value} {A : Around} {outer : List Env} {s0 : Shared} {H0 : Hp} {E : XK} :
    XR (cxOf (CXe P w) P w K mg base N qual scope f cd A outer s0 H0 E) (fun c _ H' => E c none H') := by
  intro pins σ H s h1 ea cls args I mk hK
  have hfr := I.ok.frames
  have hstk : (cxOf (CXe P w) P w K mg base N qual scope f cd A outer s0 H0 E).stack = envOfC qual scope s0.heap.objs.size f cd :: outer := rfl
  have hfun := I.stack
  have hfree := I.stkFree
  rw [hstk] at hfr hfun hfree
  have hf : (envOfC qual scope s0.heap.objs.size f cd).frame = some s0.heap.objs.size := rfl
  have hfs : frs (envOfC qual scope s0.heap.objs.size f cd :: outer) = s0.heap.objs.size :: frs outer := frs_cons hf
  have noA : ∀ b : Addr, b ∉ (cxOf (CXe P w) P w K mg base N qual scope f cd A outer s0 H0 E).ex := fun b z => absurd z (by simp [cxOf])
  have nf : ∀ b o, s0.heap.get? b = some o → b ∉ frs outer → b ∉ frs (envOfC qual scope s0.heap.objs.size f cd :: outer) := fun b o e n z => by
    rw [hfs] at z
    rcases List.mem_cons.mp z with z | z
    · exact absurd (Heap.lt_size e) (by rw [z]; exact Nat.lt_irrefl _)
    · exact n z
  show wpAny _ _ (leaving (envOfC qual scope s0.heap.objs.size f cd) (.ref ea)) _ _ _
  refine wpAny_leaves_madeW (base := PySem.W.hideAll s.heap (frs (envOfC qual scope s0.heap.objs.size f cd :: outer))) (h := s.heap) hfr hf (fun b o q => PySem.W.of_hideAll _ q)
    (PySem.W.funFrames_hide hfun fun env he b hb => List.mem_filterMap.mpr ⟨env, he, hb⟩) mk fun h' t fl' _ _ up => ?_
  have inB : ∀ b o, s.heap.get? b = some o → b ∉ frs (envOfC qual scope s0.heap.objs.size f cd :: outer) → (PySem.W.hideAll s.heap (frs (envOfC qual scope s0.heap.objs.size f cd :: outer))).get? b = some o := fun b o e n => PySem.W.hideAll_get _ e n
  have stay : ∀ b o, s0.heap.get? b = some o → H0 b = none → b ∉ frs outer → (PySem.W.hideAll s.heap (frs (envOfC qual scope s0.heap.objs.size f cd :: outer))).get? b = some o := fun b o e n hb =>
    inB b o (I.base.keep b o e n hb (noA b)) (nf b o e hb)
  have live : ∀ b o, s0.heap.get? b = some o → b ∉ frs outer → ∃ o', (PySem.W.hideAll s.heap (frs (envOfC qual scope s0.heap.objs.size f cd :: outer))).get? b = some o' := fun b o e hb => by
    obtain ⟨o1, e1⟩ := I.base.there b o e (noA b)
    exact ⟨o1, inB b o1 e1 (nf b o e hb)⟩
  have trk : ∀ b u, H b = some u → ∃ o, (PySem.W.hideAll s.heap (frs (envOfC qual scope s0.heap.objs.size f cd :: outer))).get? b = some o := fun b u e => by
    obtain ⟨o, ho⟩ := I.hok.alive e
    exact ⟨o, inB b o ho fun z => by rw [hfree b z] at e; cases e⟩
  have slotOf : ∀ b, b ∈ frs outer → ∀ o, s.heap.get? b = some o → ∃ sl, h'.get? b = some { o with slots := sl } := fun b hb o e => by
    have hm : b ∈ frs (envOfC qual scope s0.heap.objs.size f cd :: outer) := by rw [hfs]; exact List.mem_cons_of_mem _ hb
    obtain ⟨_, o', ho', hd⟩ := hfun.mem hm
    rw [e] at ho'; cases ho'
    exact up b o (mk.keeps b o e) hd
  refine ⟨ea, cls, H, _, rfl, I.os, I.bare, ?_, I.hok.flown trk (fun b o q => PySem.W.of_hideAll _ q) fl'.1, ⟨⟨_, fl'⟩, trk, stay, live⟩, hK⟩
  refine ⟨fun b o e n hb _ => fl'.1 b o (stay b o e n hb), fun b o e n hb _ => ?_, fun b o e n _ => I.base.free b o e n (noA b), fun b o e _ => ?_, I.base.tups, I.base.frzs, I.base.tbls⟩
  · obtain ⟨sl, e1⟩ := I.base.slot b o e n hb (noA b)
    obtain ⟨sl', e2⟩ := slotOf b hb _ e1
    exact ⟨sl', e2⟩
  · by_cases hb : b ∈ frs outer
    · obtain ⟨o1, e1⟩ := I.base.there b o e (noA b)
      obtain ⟨sl, e2⟩ := slotOf b hb _ e1
      exact ⟨_, e2⟩
    · obtain ⟨o1, e1⟩ := live b o e hb
      exact ⟨o1, fl'.1 b o1 e1⟩

abbrev mroVE : List Value := [.type "ValueError", .type "Exception", .type "BaseException", .type "object"]
/-- an own error class under ValueError, bound to x -/
structure XC (K : PySem.W.Frag) (mg : Str → Option Value) (x : Str) (C : Addr) : Prop where
  m : mg x = some (.ref C)
  ex : PySem.W.excIn K C mroVE "ValueError.__new__" = true
theorem exc_obj {K : PySem.W.Frag} {h : Heap} {C : Addr} {l : List Value} {id : String} (hin : K.In h) (q : PySem.W.excIn K C l id = true) :
    ∃ bm N nm qn bs hdct sn sub ab col dd k0 k1 k2 k3 k5 mN, h.get? C = some (excClassObj nm qn C N bs bm hdct sn sub ab col dd k0 k1 k2 k3 k5 id) ∧ h.Ns N mN ∧ mN "__init__" = none ∧ OwnTail h l bm := by
  unfold PySem.W.excIn at q
  split at q
  case h_2 => cases q
  case h_1 dd cd sl ho =>
    split at q
    case h_2 => cases q
    case h_1 C' bm k0 k1 k2 k3 n k5 hm hs =>
      rw [Bool.and_eq_true, Bool.and_eq_true, Bool.and_eq_true, Bool.and_eq_true, Bool.and_eq_true] at q
      obtain ⟨⟨⟨⟨⟨q1, q2⟩, q3⟩, q4⟩, q5⟩, q6⟩ := q
      have e1 := beq_iff_eq.mp q1
      have e2 := beq_iff_eq.mp q2
      have e6 := beq_iff_eq.mp q6
      subst e1 e2
      obtain ⟨nm, bs, mro, ns, qn, hd, sn, sub, ab, col, del⟩ := cd
      have e3 : del = false := by
        cases del with
        | false => rfl
        | true => cases q3
      have hm' : mro = .ref C' :: bm := hm
      subst e3 hm'
      obtain ⟨l'⟩ := sl
      have hs' : l' = [k0, k1, k2, k3, some (.builtin n), k5] := hs
      subst hs'
      exact ⟨bm, ns, nm, qn, bs, hd, sn, sub, ab, col, dd, k0, k1, k2, k3, k5, _, hin _ _ ho, .of_isNs (PySem.W.isNs_of_in hin q5), PySem.W.nsMap_none_of_in hin q5 e6, PySem.W.tail_of_in hin q4⟩
def tRaise (Kx : XKs) (C : Addr) (t : TA) : TS := fun _ σ H => t σ H fun vs H1 => vs.length ≤ sizeLine ∧ Kx (.ref C) σ H1
theorem ps_raise {X : Cx} {Kx : XKs} {C : Addr} {x : Str} {np cpos pos : Pos} {e : Expr} {es : List Expr} {t : TA} (hx : XR X Kx) (hc : X.calm = true) (c : XC X.K X.mg x C) (ha : PA X (e :: es) t) (hg : Gl X x := by rfl) (hd : (x == ("__debug__" : Str)) = false := by decide)
    (he : starEach (e :: es) X.env = (false, eval e X.env) :: starEach es X.env := by rfl) (hpl : (backTo cpos (starEach es X.env)).any (·.1) = false := by rfl) :
    PS X (.Raise (some (.Call (.Name x np) (e :: es) [] cpos)) none pos) (tRaise Kx C t) := by
  intro pins s σ H D I h
  obtain ⟨bm, N, nm, qn, bs, hdct, sn, sub, ab, col, dd, k0, k1, k2, k3, k5, mN, hC, hN, hni, T⟩ := exc_obj I.mod.kin c.ex
  refine wpAny_Raise_call_subT (C := C) (nm := nm) (q := qn) (N := N) (bs := bs) (bm := bm) (hdct := hdct) (sn := sn) (sub := sub) (ab := ab) (col := col) (dd := dd) (k0 := k0) (k1 := k1) (k2 := k2) (k3 := k3) (k5 := k5) (mN := mN) PySem.F.excBase_ValueError (T.hasType PySem.F.excBase_ValueError.hasBase) (I.ok.hd hc) (by rw [he]; show (false || (backTo cpos (starEach es X.env)).any (·.1)) = false; rw [hpl]; rfl) hni
    (ld_glob I hg c.m ⟨rfl, ?_⟩ hd)
  have q := ha cpos pins s σ H _ I h
  rw [he] at q ⊢
  refine Calls.evalArgs_plain (wpAny_mono q (fun us s2 hq => ?_) fun _ _ y => y)
  obtain ⟨vs, H1, I1, r, hl, hk⟩ := hq
  exact ⟨rfl, by rw [← r.length]; exact hl, I1.bk _ _ hC, hN.keeps I1.bk, T.keeps I1.bk, fun h' ea mk => hx pins σ H1 s2 h' ea (.ref C) us I1 mk hk⟩

end L2
/-! ### kinds of values: isinstance with a built-in class; is True; == at any depth -/
namespace L2
open PySem PySem.Spec PyProof.Rows
/-- the kind of a value, by name ("" where it is not known) -/
def kdO : Option HO → String
  | some (.lst _) => "list"
  | some (.frz _ (.lst _)) => "list"
  | some (.tup _) => "tuple"
  | some (.dK _) => "dict"
  | some (.dT _) => "dict"
  | _ => ""
def kd (H : Hp) : V → String
  | .non => "NoneType"
  | .bl _ => "bool"
  | .int _ => "int"
  | .str _ => "str"
  | .ref a => kdO (H a)
  | _ => ""
def Kn (H : Hp) (x : V) : Prop := kd H x ≠ ""
def isTy (n : String) (H : Hp) (x : V) : Bool := kd H x == n || (kd H x == "bool" && n == "int")
theorem kd_ty {K : PySem.W.Frag} {H : Hp} {x : V} (h : Kn H x) : TyOf K H x (.type (kd H x)) := by
  cases x with
  | non => exact .non
  | bl b => exact .bl b
  | int i => exact .int i
  | str s => exact .str s
  | ref a =>
    have h : kdO (H a) ≠ "" := h
    show TyOf K H (.ref a) (.type (kdO (H a)))
    cases e : H a with
    | none => rw [e] at h; exact absurd rfl h
    | some o =>
      rw [e] at h
      cases o with
      | lst xs => exact .lst e
      | tup xs => exact .tup e
      | dK k => exact .dK e
      | dT k => exact .dT e
      | frz ob u =>
        cases u with
        | lst xs => exact .frz e
        | _ => exact absurd rfl h
      | _ => exact absurd rfl h
  | _ => exact absurd rfl h
theorem kdO_cases (o : Option HO) : kdO o = "" ∨ kdO o = "list" ∨ kdO o = "tuple" ∨ kdO o = "dict" := by
  unfold kdO
  split <;> simp
theorem Kn.cases {H : Hp} {x : V} (h : Kn H x) : kd H x = "NoneType" ∨ kd H x = "bool" ∨ kd H x = "int" ∨ kd H x = "str" ∨ kd H x = "list" ∨ kd H x = "tuple" ∨ kd H x = "dict" := by
  cases x with
  | ref a =>
    have h : kdO (H a) ≠ "" := h
    show kdO (H a) = _ ∨ kdO (H a) = _ ∨ kdO (H a) = _ ∨ kdO (H a) = _ ∨ kdO (H a) = _ ∨ kdO (H a) = _ ∨ kdO (H a) = _
    rcases kdO_cases (H a) with e | e | e | e
    · exact absurd e h
    · exact .inr (.inr (.inr (.inr (.inl e))))
    · exact .inr (.inr (.inr (.inr (.inr (.inl e)))))
    · exact .inr (.inr (.inr (.inr (.inr (.inr e)))))
  | non => exact .inl rfl
  | bl b => exact .inr (.inl rfl)
  | int i => exact .inr (.inr (.inl rfl))
  | str z => exact .inr (.inr (.inr (.inl rfl)))
  | _ => exact absurd rfl h
theorem kit_scal (K : PySem.W.Frag) : ∀ k ∈ ["NoneType", "bool", "int", "str", "list", "tuple", "dict"], ∀ n ∈ ["bool", "int", "str", "list", "tuple", "dict"], PySem.W.kitOne K (.type k) (.type n) = some (k == n || (k == "bool" && n == "int")) := by
  have e : ∀ k ∈ ["NoneType", "bool", "int", "str", "list", "tuple", "dict"], ∀ n ∈ ["bool", "int", "str", "list", "tuple", "dict"], (if (Value.type k == Value.type n) = true then some true else if PySem.W.kitMeta n = true then (fastBuiltinMro k).map (·.contains (.type n)) else none) = some (k == n || (k == "bool" && n == "int")) := by decide +kernel
  exact fun k hk n hn => e k hk n hn
theorem call_isi {X : Cx} : CallR X (.builtin "isinstance") (fun xs H Q => ∃ x n, xs = [x, .ty n] ∧ n ∈ ["bool", "int", "str", "list", "tuple", "dict"] ∧ Kn H x ∧ Q (.bl (isTy n H x)) H) := by
  intro pins s σ H xs us Q I r h
  obtain ⟨x, n, rfl, hn, hk, q⟩ := h
  cases r with
  | cons r1 rr =>
    cases rr with
    | cons r2 rr =>
      cases rr
      cases r2
      refine isinst_ok I r1 (kd_ty hk) (kit_scal X.K _ ?_ n hn) fun tk => ⟨.bl _, H, I.tok tk, rfl, q⟩
      rcases hk.cases with e | e | e | e | e | e | e <;> rw [e] <;> simp
/-- -x -/
theorem op_neg {X : Cx} : UnR X (unaryOp .USub) (rU fun i => .int (-i)) := by
  intro pins s σ H x v Q I rx h
  obtain ⟨i, rfl, q⟩ := h
  obtain ⟨t, rfl⟩ := rx
  exact neg_int ⟨.int _, H, I.tok _, ⟨_, rfl⟩, q⟩
end L2
namespace L2
open PySem PySem.Spec PyProof.Rows
theorem kn_int {H : Hp} {i : Int} : Kn H (.int i) ↔ True := ⟨fun _ => trivial, fun _ => (by decide : "int" ≠ "")⟩
theorem kn_lst {H : Hp} {a : Addr} {xs : List V} (h : H a = some (.lst xs)) : Kn H (.ref a) := fun z => by
  have z : kdO (H a) = "" := z
  rw [h] at z; exact absurd z (show "list" ≠ "" by decide)
theorem cxOf_K {CX : CXT} {P : Program} {w : World} {K : PySem.W.Frag} {mg : Str → Option Value} {base : Heap} {N : List Str} {qual : Str} {scope : Scope} {f : Addr} {cd : Value} {A : Around} {outer : List Env} {s : Shared} {H : Hp} {E : XK} :
    (cxOf CX P w K mg base N qual scope f cd A outer s H E).K = K := rfl
/-- whether a value is a whole number and no truth -/
def whole : V → Bool
  | .int _ => true
  | _ => false
def within (x : V) (l h : Int) : Bool := match x with
  | .int i => decide (l ≤ i) && decide (i ≤ h)
  | _ => false
theorem within_int {i l h : Int} : within (.int i) l h = (decide (l ≤ i) && decide (i ≤ h)) := rfl
theorem isTy_whole {H : Hp} {x : V} (h : Kn H x) : (isTy "int" H x && !isTy "bool" H x) = whole x := by
  cases x with
  | ref a =>
    have h : kdO (H a) ≠ "" := h
    have e : kd H (.ref a) = kdO (H a) := rfl
    unfold isTy
    rw [e]
    rcases kdO_cases (H a) with e | e | e | e <;> rw [e] <;> first | rfl | exact absurd e h
  | _ => first | rfl | exact absurd rfl h
end L2
namespace L2
open PySem PySem.Spec PyProof.Rows
/-! ### a word between two statements; lists that are tracked -/
/-- a mark whose kind names both parts: so they stand still while what is ahead of them is read -/
inductive Hid (t u : TS) : Type where
  | mk : Hid t u
def tCut (t u : TS) (_ : Hid t u) : TS := fun D σ H => ∃ M : St → Hp → Prop, t { D with nx := M } σ H ∧ ∀ σ' H', M σ' H' → u D σ' H'
theorem pss_cut {X : Cx} {st : Stmt} {rest : List Stmt} {t u : TS} (h1 : PS X st t) (h2 : PSs X rest u) : PSs X (st :: rest) (tCut t u .mk) := by
  intro pins s σ H D I h
  obtain ⟨M, h, hM⟩ := h
  refine wpAny_execs_cons (thn (h1 pins s σ H { D with nx := M } I h) fun f s1 q => ?_)
  cases f with
  | next =>
    obtain ⟨σ', H', I', q⟩ := q
    exact h2 pins s1 σ' H' D I' (hM σ' H' q)
  | ret v => exact q
  | brk => exact q
  | cont => exact q
def lstO : Option HO → Option (List V)
  | some (.lst xs) => some xs
  | some (.frz _ (.lst xs)) => some xs
  | _ => none
def tupO : Option HO → Option (List V)
  | some (.tup xs) => some xs
  | some (.frz _ (.tup xs)) => some xs
  | _ => none
theorem lstO_lst {xs : List V} : lstO (some (.lst xs)) = some xs := rfl
theorem tupO_tup {xs : List V} : tupO (some (.tup xs)) = some xs := rfl
theorem sq_lstO {K : PySem.W.Frag} {H : Hp} {a : Addr} {xs : List V} (h : lstO (H a) = some xs) : SqL K H a xs := by
  unfold lstO at h
  split at h
  · rename_i e; cases h; exact .inl (.inl e)
  · rename_i e; cases h; exact .inl (.inr ⟨_, e⟩)
  · cases h
def rIxH : R2 := fun x y H Q => ∃ p xs i v, x = .ref p ∧ y = .int i ∧ lstO (H p) = some xs ∧ atI xs i = some v ∧ Q v H
theorem ix_lst {X : Cx} : IxR X rIxH := by
  intro value slice pins s σ H x y v u Q I rx ry h hs
  obtain ⟨p, xs, i, w', e1, e2, e3, e4, q⟩ := h
  exact ix_list value slice pins s σ H x y v u Q I rx ry ⟨p, xs, i, w', e1, e2, sq_lstO e3, e4, q⟩ hs
theorem scal_ii {i j : Int} : scal (.int i) (.int j) = true := rfl
theorem scal_bb {i j : Bool} : scal (.bl i) (.bl j) = true := rfl
theorem scal_ss {i j : Str} : scal (.str i) (.str j) = true := rfl
theorem na10 : Int.natAbs 10 = 10 := rfl
theorem same_refl {H : Hp} : Same H H := fun _ _ h => h
theorem same_upd {H H' : Hp} {p : Addr} {o : HO} (s : Same H H') (h : H' p = none) : Same H (upd H' p o) := fun b u e => by
  have q := s b u e
  rw [upd_ne (ne_of_none q h)]
  exact q
end L2
namespace L2
open PySem PySem.Spec PyProof.Rows
end L2
namespace L2
open PySem PySem.Spec PyProof.Rows
/-! ### loops, their bodies standing still until a word is said -/
inductive HidF (g : TG) (tb : TS) : Type where
  | mk : HidF g tb
def Loop (g : TG) (tb : TS) (_ : HidF g tb) (J : It) : TS := fun D σ H => ∃ W : Nat → Nat → St → Hp → Prop, (∃ m, W 0 m σ H) ∧ ∀ i m σ H, W i m σ H →
  (J.stop i H ∧ D.nx σ H) ∨ (J.go i H ∧ ∃ N : St → Hp → Prop, (∀ σ' H', N σ' H' → ∃ m', m' < m ∧ W (i + 1) m' σ' H') ∧ ∀ x H', J.yld i H x H' → g x σ H' fun σ2 H2 => tb { D with nx := N, ct := N, bk := D.nx } σ2 H2)
def tForE (wi : TI) (g : TG) (tb : TS) (h : HidF g tb) : TS := fun D σ H => wi σ H fun J H1 => Loop g tb h J D σ H1
theorem ps_forE {X : Cx} {tg iter : Expr} {body : List Stmt} {wi : TI} {g : TG} {tb : TS} {pos : Pos} (hp : PassesOwn (model X.prog X.w) X.A X.env X.xe) (hc : X.calm = true) (hi : PI X tg iter wi) (hg : PG X tg g) (hb : PSs X body tb)
    (hs : ∀ x, foldedSetIterable iter X.env x = pure x := by intro _; rfl) : PS X (.For tg iter body [] pos) (tForE wi g tb .mk) := ps_for hp hc hi hg hb hs
theorem loop_range {lo : Int} {n : Nat} {g : TG} {tb : TS} {h : HidF g tb} {D : Ends} {σ : St} {H : Hp} (Pv : Nat → St → Hp → Prop) (h0 : Pv 0 σ H)
    (hs : ∀ i σ H, i < n → Pv i σ H → g (.int (lo + i)) σ H fun σ2 H2 => tb { D with nx := Pv (i + 1), ct := Pv (i + 1), bk := D.nx } σ2 H2) (hd : ∀ σ H, Pv n σ H → D.nx σ H) : Loop g tb h (Itr lo n) D σ H := for_range Pv h0 hs hd
theorem loop_list {K : PySem.W.Frag} {a : Addr} {xs : List V} {g : TG} {tb : TS} {h : HidF g tb} {D : Ends} {σ : St} {H : Hp} (Pv : Nat → St → Hp → Prop) (h0 : Pv 0 σ H) (hl : ∀ i σ H, i ≤ xs.length → Pv i σ H → SqL K H a xs)
    (hs : ∀ i x σ H, xs[i]? = some x → Pv i σ H → g x σ H fun σ2 H2 => tb { D with nx := Pv (i + 1), ct := Pv (i + 1), bk := D.nx } σ2 H2) (hd : ∀ σ H, Pv xs.length σ H → D.nx σ H) : Loop g tb h (Itl K a) D σ H := for_list Pv h0 hl hs hd
end L2
namespace L2
open PySem PySem.Spec PyProof.Rows
end L2
namespace L2
open PySem PySem.Spec PyProof.Rows
end L2
namespace L2
open PySem PySem.Spec PyProof.Rows
end L2
namespace L2
open PySem PySem.Spec PyProof.Rows
end L2
namespace L2
open PySem PySem.Spec PyProof.Rows
theorem isTy_lst {H : Hp} {a : Addr} {xs : List V} (h : H a = some (.lst xs)) : isTy "list" H (.ref a) = true := by
  unfold isTy
  rw [show kd H (.ref a) = kdO (H a) from rfl, h]; rfl
end L2
namespace L2
open PySem PySem.Spec PyProof.Rows
/-! ### try: .. except X as n: .. -/
section
variable {X : Cx} {pins pins2 : List (Addr × Obj)} {σ : St} {H : Hp} {s : Shared} {E' : Value → Shared → Prop}
end
end L2
/-! ### isinstance of an exception that was caught -/
namespace PySem.W
open PySem PySem.Spec PySem.Calls PyProof.Rows
open Builtin Builtin.ObjectAttr Builtin.Getset_descriptor
/-- a record of this class stands at e -/
def ExcAt (e C : Addr) (h : Heap) : Prop := ∃ o, h.get? e = some o ∧ o.cls = .ref C
section
variable {K : Frag} {e C : Addr}
theorem ExcAt.ty {M : Model} {h : Heap} (p : ExcAt e C h) : Looks M h (typeOf (.ref e)) (.ref C) := by
  obtain ⟨o, h1, h2⟩ := p
  exact h2 ▸ (Looks.ld h1).andThen .now
variable {prog : Program} {w : World} {A : Around} {E : Value → Shared → Prop} {s : Shared}
end
end PySem.W
namespace L2
open PySem PySem.Spec PyProof.Rows
def clsV : V → Value
  | .ref a => .ref a
  | .ty n => .type n
  | _ => .none
theorem clsV_ref {a : Addr} : clsV (.ref a) = .ref a := rfl
theorem clsV_ty {n : String} : clsV (.ty n) = .type n := rfl
end L2
namespace L2
open PySem PySem.Spec PyProof.Rows
/-! ### data seen through the heap; == at any depth -/
/-- data: a flat value, a list (false) or a tuple (true) of data -/
inductive Dv where
  | leaf (v : V)
  | seq (t : Bool) (ds : List Dv)
mutual
def Sees (K : PySem.W.Frag) (H : Hp) : Dv → V → Prop
  | .leaf v, x => x = v ∧ flatV v = true
  | .seq t ds, x => ∃ a xs, x = .ref a ∧ (if t = true then SqT K H a xs else SqL K H a xs) ∧ SeesL K H ds xs
def SeesL (K : PySem.W.Frag) (H : Hp) : List Dv → List V → Prop
  | [], xs => xs = []
  | d :: ds, xs => ∃ x r, xs = x :: r ∧ Sees K H d x ∧ SeesL K H ds r
end
mutual
/-- two data of the same make -/
def alike : Dv → Dv → Bool
  | .leaf _, .leaf _ => true
  | .seq t ds, .seq u es => t == u && alikeL ds es
  | _, _ => false
def alikeL : List Dv → List Dv → Bool
  | d :: ds, e :: es => alike d e && alikeL ds es
  | _, _ => true
end
mutual
def eqDv : Dv → Dv → Bool
  | .leaf v, .leaf w => eqV v w
  | .seq _ ds, .seq _ es => eqDvL ds es
  | _, _ => false
def eqDvL : List Dv → List Dv → Bool
  | [], [] => true
  | d :: ds, e :: es => eqDv d e && eqDvL ds es
  | _, _ => false
end
mutual
def deep : Dv → Nat
  | .leaf _ => 0
  | .seq _ ds => deepL ds + 1
def deepL : List Dv → Nat
  | [] => 0
  | d :: ds => max (deep d) (deepL ds)
end
theorem SeesL.length {K : PySem.W.Frag} {H : Hp} : ∀ {ds : List Dv} {xs : List V}, SeesL K H ds xs → ds.length = xs.length
  | [], xs, h => by unfold SeesL at h; subst h; rfl
  | d :: ds, xs, h => by
    unfold SeesL at h
    obtain ⟨x, r, rfl, _, h⟩ := h
    simp [h.length]
theorem all_range_succ (n : Nat) (f : Nat → Bool) : (List.range (n + 1)).all f = (f 0 && (List.range n).all fun j => f (j + 1)) := by
  rw [List.range_succ_eq_map, List.all_cons, List.all_map]; rfl
theorem eqDvL_eq : ∀ (ds es : List Dv), eqDvL ds es = (decide (ds.length = es.length) && (List.range (min ds.length es.length)).all fun j => eqDv (ds.getD j (.leaf .non)) (es.getD j (.leaf .non)))
  | [], [] => by simp [eqDvL]
  | [], e :: es => by simp [eqDvL]
  | d :: ds, [] => by simp [eqDvL]
  | d :: ds, e :: es => by
    have ih := eqDvL_eq ds es
    rw [eqDvL, ih]
    have hm : min (d :: ds).length (e :: es).length = min ds.length es.length + 1 := by simp [Nat.succ_min_succ]
    rw [hm, all_range_succ]
    simp only [List.length_cons, Nat.add_right_cancel_iff, List.getD_cons_zero, List.getD_cons_succ]
    cases eqDv d e <;> cases decide (ds.length = es.length) <;> simp
theorem eqV_self {v : V} (h : flatV v = true) : eqV v v = true := by
  cases v <;> first | rfl | (simp [eqV]; done) | exact absurd h (by simp [flatV])
mutual
theorem sees_same {X : Cx} {pins : List (Addr × Obj)} {σ : St} {H : Hp} {s : Shared} (I : Inv X pins σ H s) : ∀ (d e : Dv) (x : V), alike d e = true → Sees X.K H d x → Sees X.K H e x → eqDv d e = true
  | .leaf a, .leaf b, x, _, hx, hy => by
    unfold Sees at hx hy
    obtain ⟨rfl, fx⟩ := hx
    obtain ⟨rfl, fy⟩ := hy
    rw [eqDv]
    exact eqV_self fx
  | .leaf a, .seq t es, _, h, _, _ => by simp [alike] at h
  | .seq t ds, .leaf b, _, h, _, _ => by simp [alike] at h
  | .seq t ds, .seq t' es, x, h, hx, hy => by
    rw [alike, Bool.and_eq_true] at h
    have ht := beq_iff_eq.mp h.1
    subst ht
    unfold Sees at hx hy
    obtain ⟨a, xs, rfl, hsx, hL⟩ := hx
    obtain ⟨b, ys, e, hsy, hM⟩ := hy
    cases e
    rw [eqDv]
    have exy : xs = ys := by
      cases t with
      | true => exact I.tuple_inj (by simpa using hsx) (by simpa using hsy)
      | false => exact I.list_inj (by simpa using hsx) (by simpa using hsy)
    subst exy
    exact sees_sameL I ds es xs h.2 hL hM
theorem sees_sameL {X : Cx} {pins : List (Addr × Obj)} {σ : St} {H : Hp} {s : Shared} (I : Inv X pins σ H s) : ∀ (ds es : List Dv) (xs : List V), alikeL ds es = true → SeesL X.K H ds xs → SeesL X.K H es xs → eqDvL ds es = true
  | [], [], _, _, _, _ => by rw [eqDvL]
  | [], e :: es, xs, _, hx, hy => by
    unfold SeesL at hx hy
    obtain ⟨x, r, e1, _⟩ := hy
    rw [hx] at e1; cases e1
  | d :: ds, [], xs, _, hx, hy => by
    unfold SeesL at hx hy
    obtain ⟨x, r, e1, _⟩ := hx
    rw [hy] at e1; cases e1
  | d :: ds, e :: es, xs, h, hx, hy => by
    rw [alikeL, Bool.and_eq_true] at h
    unfold SeesL at hx hy
    obtain ⟨x, r, rfl, hx, hxr⟩ := hx
    obtain ⟨y, r', e1, hy, hyr⟩ := hy
    cases e1
    rw [eqDvL, sees_same I d e x h.1 hx hy, sees_sameL I ds es r h.2 hxr hyr]
    rfl
end
theorem rc_deep {X : Cx} {pins : List (Addr × Obj)} {σ : St} {H : Hp} {s : Shared} (I : Inv X pins σ H s) {A : Around} {t : Bool} {ds es : List Dv} {a b : Addr} {xs ys : List V} (hu : A.units < cLine)
    (hsx : if t = true then SqT X.K H a xs else SqL X.K H a xs) (hsy : if t = true then SqT X.K H b ys else SqL X.K H b ys) (l1 : ds.length = xs.length) (l2 : es.length = ys.length)
    (ih : ∀ (j : Nat) (u v : Value) (us vs : List Value), Vals xs us → Vals ys vs → us[j]? = some u → vs[j]? = some v → SeqAt.EqAt A.in1 s u v (eqDv (ds.getD j (.leaf .non)) (es.getD j (.leaf .non)))) :
    SeqAt.RcAt A s (.ref a) (.ref b) (eqDvL ds es) := by
  rw [eqDvL_eq]
  cases t with
  | false =>
    obtain ⟨its, rv, pl, _⟩ := I.list (show SqL X.K H a xs by simpa using hsx)
    obtain ⟨its2, rv2, pl2, _⟩ := I.list (show SqL X.K H b ys by simpa using hsy)
    have n1 := rv.length
    have n2 := rv2.length
    by_cases hl : ds.length = es.length
    · have q := SeqAt.RcAt.lists (e := fun j => eqDv (ds.getD j (.leaf .non)) (es.getD j (.leaf .non))) pl.isList pl2.isList (by simp; omega) (by omega : A.units < cLine) (fun j h1 h2 => by
        have h1 : j < its.length := by simpa using h1
        have h2 : j < its2.length := by simpa using h2
        have e := ih j (its[j]) (its2[j]) its its2 rv rv2 (by simp [h1]) (by simp [h2])
        simpa using e)
      rw [decide_eq_true hl, Bool.true_and]
      have em : min ds.length es.length = its.toArray.size := by simp; omega
      rw [em]
      exact q
    · have q := SeqAt.RcAt.lists_lengths (A := A) pl.isList pl2.isList (by simp; omega) (by omega : A.units < cLine)
      rw [decide_eq_false hl, Bool.false_and]
      exact q
  | true =>
    obtain ⟨its, rv, pl, _⟩ := I.tuple (show SqT X.K H a xs by simpa using hsx)
    obtain ⟨its2, rv2, pl2, _⟩ := I.tuple (show SqT X.K H b ys by simpa using hsy)
    have n1 := rv.length
    have n2 := rv2.length
    have q := SeqAt.RcAt.tuples (e := fun j => eqDv (ds.getD j (.leaf .non)) (es.getD j (.leaf .non))) (show s.heap.IsTuple a its.toArray from pl) (show s.heap.IsTuple b its2.toArray from pl2) (by omega : A.units < cLine) (fun j h1 h2 => by
        have h1 : j < its.length := by simpa using h1
        have h2 : j < its2.length := by simpa using h2
        have e := ih j (its[j]) (its2[j]) its its2 rv rv2 (by simp [h1]) (by simp [h2])
        simpa using e)
    have em : min its.toArray.size its2.toArray.size = min ds.length es.length := by simp; omega
    have eb : (its.toArray.size == its2.toArray.size) = decide (ds.length = es.length) := by
      rw [Bool.eq_iff_iff]; simp; omega
    rw [em, eb, Bool.and_comm] at q
    exact q
mutual
theorem eqAt_deep {X : Cx} {pins : List (Addr × Obj)} {σ : St} {H : Hp} {s : Shared} (I : Inv X pins σ H s) : ∀ (d e : Dv) (A : Around) (x y : V) (u v : Value), A.units + deep d < cLine → alike d e = true → Sees X.K H d x → Sees X.K H e y → RelV x u → RelV y v → SeqAt.EqAt A s u v (eqDv d e)
  | .leaf a, .leaf b, A, x, y, u, v, _, _, hx, hy, rx, ry => by
    unfold Sees at hx hy
    obtain ⟨rfl, fx⟩ := hx
    obtain ⟨rfl, fy⟩ := hy
    rw [eqDv]
    exact eqAt_V rx ry fx fy
  | .leaf a, .seq t es, A, x, y, u, v, _, h, _, _, _, _ => by simp [alike] at h
  | .seq t ds, .leaf b, A, x, y, u, v, _, h, _, _, _, _ => by simp [alike] at h
  | .seq t ds, .seq t' es, A, x, y, u, v, hu, h, hx, hy, rx, ry => by
    have h0 := h
    rw [alike, Bool.and_eq_true] at h
    have ht := beq_iff_eq.mp h.1
    subst ht
    have hx0 := hx
    have hy0 := hy
    unfold Sees at hx hy
    obtain ⟨a, xs, rfl, hsx, hL⟩ := hx
    obtain ⟨b, ys, rfl, hsy, hM⟩ := hy
    cases rx
    cases ry
    by_cases hab : a = b
    · subst hab
      rw [sees_same I _ _ _ h0 hx0 hy0]
      exact SeqAt.EqAt.same _
    · rw [deep] at hu
      have hu1 : A.in1.units + deepL ds < cLine := by show A.units + 1 + deepL ds < cLine; omega
      have ih := eqAt_deepL I ds es A.in1 xs ys hu1 h.2 hL hM
      rw [eqDv]
      exact SeqAt.EqAt.of_refs hab (rc_deep I (by omega) hsx hsy hL.length hM.length ih)
theorem eqAt_deepL {X : Cx} {pins : List (Addr × Obj)} {σ : St} {H : Hp} {s : Shared} (I : Inv X pins σ H s) : ∀ (ds es : List Dv) (A : Around) (xs ys : List V), A.units + deepL ds < cLine → alikeL ds es = true → SeesL X.K H ds xs → SeesL X.K H es ys →
    ∀ (j : Nat) (u v : Value) (us vs : List Value), Vals xs us → Vals ys vs → us[j]? = some u → vs[j]? = some v → SeqAt.EqAt A s u v (eqDv (ds.getD j (.leaf .non)) (es.getD j (.leaf .non)))
  | [], es, A, xs, ys, _, _, hx, hy, j, u, v, us, vs, rx, ry, e1, e2 => by
    unfold SeesL at hx
    subst hx
    cases rx
    simp at e1
  | d :: ds, [], A, xs, ys, _, _, hx, hy, j, u, v, us, vs, rx, ry, e1, e2 => by
    unfold SeesL at hy
    subst hy
    cases ry
    simp at e2
  | d :: ds, e :: es, A, xs, ys, hu, h, hx, hy, j, u, v, us, vs, rx, ry, e1, e2 => by
    rw [alikeL, Bool.and_eq_true] at h
    rw [deepL] at hu
    unfold SeesL at hx hy
    obtain ⟨x, r, rfl, hx, hxr⟩ := hx
    obtain ⟨y, r', rfl, hy, hyr⟩ := hy
    cases rx with
    | cons p1 p2 =>
      cases ry with
      | cons q1 q2 =>
        cases j with
        | zero =>
          simp at e1 e2
          subst e1 e2
          exact eqAt_deep I d e A x y _ _ (by omega) h.1 hx hy p1 q1
        | succ k =>
          have z := eqAt_deepL I ds es A r r' (by omega) h.2 hxr hyr k u v _ _ p2 q2 (by simpa using e1) (by simpa using e2)
          simpa using z
end
theorem hu6 {A : Around} {k : Nat} (hr : Room k A) : A.units + 4 + 2 < cLine := by have := hr.units; omega
def rEqD (K : PySem.W.Frag) (n : Nat) : R2 := fun x y H Q => ∃ t ds es, Sees K H (.seq t ds) x ∧ Sees K H (.seq t es) y ∧ alikeL ds es = true ∧ deepL ds ≤ n ∧ Q (.bl (eqDvL ds es)) H
def rNeD (K : PySem.W.Frag) (n : Nat) : R2 := fun x y H Q => ∃ t ds es, Sees K H (.seq t ds) x ∧ Sees K H (.seq t es) y ∧ alikeL ds es = true ∧ deepL ds ≤ n ∧ Q (.bl (!eqDvL ds es)) H
theorem rc_of {X : Cx} {pins : List (Addr × Obj)} {σ : St} {H : Hp} {s : Shared} (I : Inv X pins σ H s) {A : Around} {n : Nat} (hu : A.units + n + 2 < cLine) {t : Bool} {ds es : List Dv} {x y : V} {u v : Value} (hx : Sees X.K H (.seq t ds) x) (hy : Sees X.K H (.seq t es) y) (ha : alikeL ds es = true) (hd : deepL ds ≤ n)
    (rx : RelV x u) (ry : RelV y v) : SeqAt.RcAt A s u v (eqDvL ds es) := by
  unfold Sees at hx hy
  obtain ⟨a, xs, rfl, hsx, hL⟩ := hx
  obtain ⟨b, ys, rfl, hsy, hM⟩ := hy
  cases rx
  cases ry
  exact rc_deep I (by omega) hsx hsy hL.length hM.length (eqAt_deepL I ds es A.in1 xs ys (by show A.units + 1 + deepL ds < cLine; omega) ha hL hM)
theorem op_eqD {X : Cx} {n : Nat} (hu : X.A.units + n + 2 < cLine) : OpR X (compareOp .Eq) (rEqD X.K n) := by
  intro pins s σ H x y v u Q I rx ry h
  obtain ⟨t, ds, es, hx, hy, ha, hd, q⟩ := h
  exact rc_of I hu hx hy ha hd rx ry X.prog X.w X.xe _ ⟨.bl _, H, I, rfl, q⟩
theorem rcNe_deep {X : Cx} {pins : List (Addr × Obj)} {σ : St} {H : Hp} {s : Shared} (I : Inv X pins σ H s) {A : Around} {t : Bool} {ds es : List Dv} {a b : Addr} {xs ys : List V} (hu : A.units < cLine)
    (hsx : if t = true then SqT X.K H a xs else SqL X.K H a xs) (hsy : if t = true then SqT X.K H b ys else SqL X.K H b ys) (l1 : ds.length = xs.length) (l2 : es.length = ys.length)
    (ih : ∀ (j : Nat) (u v : Value) (us vs : List Value), Vals xs us → Vals ys vs → us[j]? = some u → vs[j]? = some v → SeqAt.EqAt A.in1 s u v (eqDv (ds.getD j (.leaf .non)) (es.getD j (.leaf .non)))) :
    SeqAt.RcNeAt A s (.ref a) (.ref b) (!eqDvL ds es) := by
  rw [eqDvL_eq]
  cases t with
  | false =>
    obtain ⟨its, rv, pl, _⟩ := I.list (show SqL X.K H a xs by simpa using hsx)
    obtain ⟨its2, rv2, pl2, _⟩ := I.list (show SqL X.K H b ys by simpa using hsy)
    have n1 := rv.length
    have n2 := rv2.length
    by_cases hl : ds.length = es.length
    · have q := SeqAt.RcNeAt.lists (e := fun j => eqDv (ds.getD j (.leaf .non)) (es.getD j (.leaf .non))) pl.isList pl2.isList (by simp; omega) (by omega : A.units < cLine) (fun j h1 h2 => by
        have h1 : j < its.length := by simpa using h1
        have h2 : j < its2.length := by simpa using h2
        have e := ih j (its[j]) (its2[j]) its its2 rv rv2 (by simp [h1]) (by simp [h2])
        simpa using e)
      rw [decide_eq_true hl, Bool.true_and]
      have em : min ds.length es.length = its.toArray.size := by simp; omega
      rw [em]
      exact q
    · have q := SeqAt.RcNeAt.lists_lengths (A := A) pl.isList pl2.isList (by simp; omega) (by omega : A.units < cLine)
      rw [decide_eq_false hl, Bool.false_and]
      exact q
  | true =>
    obtain ⟨its, rv, pl, _⟩ := I.tuple (show SqT X.K H a xs by simpa using hsx)
    obtain ⟨its2, rv2, pl2, _⟩ := I.tuple (show SqT X.K H b ys by simpa using hsy)
    have n1 := rv.length
    have n2 := rv2.length
    have q := SeqAt.RcNeAt.tuples (e := fun j => eqDv (ds.getD j (.leaf .non)) (es.getD j (.leaf .non))) (show s.heap.IsTuple a its.toArray from pl) (show s.heap.IsTuple b its2.toArray from pl2) (by omega : A.units < cLine) (fun j h1 h2 => by
        have h1 : j < its.length := by simpa using h1
        have h2 : j < its2.length := by simpa using h2
        have e := ih j (its[j]) (its2[j]) its its2 rv rv2 (by simp [h1]) (by simp [h2])
        simpa using e)
    have em : min its.toArray.size its2.toArray.size = min ds.length es.length := by simp; omega
    have eb : (its.toArray.size == its2.toArray.size) = decide (ds.length = es.length) := by
      rw [Bool.eq_iff_iff]; simp; omega
    rw [em, eb, Bool.and_comm] at q
    exact q
theorem op_neD {X : Cx} {n : Nat} (hu : X.A.units + n + 2 < cLine) : OpR X (compareOp .NotEq) (rNeD X.K n) := by
  intro pins s σ H x y v u Q I rx ry h
  obtain ⟨t, ds, es, hx, hy, ha, hd, q⟩ := h
  unfold Sees at hx hy
  obtain ⟨a, xs, rfl, hsx, hL⟩ := hx
  obtain ⟨b, ys, rfl, hsy, hM⟩ := hy
  cases rx
  cases ry
  exact rcNe_deep I (by omega) hsx hsy hL.length hM.length (eqAt_deepL I ds es X.A.in1 xs ys (by show X.A.units + 1 + deepL ds < cLine; omega) ha hL hM) X.prog X.w X.xe _ ⟨.bl _, H, I, rfl, q⟩
/-- lists and tuples of whole numbers -/
def dInts (ns : List Int) : List Dv := ns.map fun i => .leaf (.int i)
theorem seesL_ints {K : PySem.W.Frag} {H : Hp} : ∀ (ns : List Int), SeesL K H (dInts ns) (ns.map V.int)
  | [] => by unfold dInts SeesL; rfl
  | n :: ns => by
    show SeesL K H (.leaf (.int n) :: dInts ns) (.int n :: ns.map V.int)
    unfold SeesL
    exact ⟨_, _, rfl, by unfold Sees; exact ⟨rfl, rfl⟩, seesL_ints ns⟩
theorem sees_tup {K : PySem.W.Frag} {H : Hp} {a : Addr} {ns : List Int} (h : SqT K H a (ns.map V.int)) : Sees K H (.seq true (dInts ns)) (.ref a) := by
  unfold Sees
  exact ⟨a, _, rfl, by simpa using h, seesL_ints ns⟩
theorem alike_ints : ∀ (ns ms : List Int), alikeL (dInts ns) (dInts ms) = true
  | [], _ => by unfold dInts; simp [alikeL]
  | _ :: _, [] => by unfold dInts; simp [alikeL]
  | n :: ns, m :: ms => by
    show alikeL (.leaf (.int n) :: dInts ns) (.leaf (.int m) :: dInts ms) = true
    rw [alikeL, alike, alike_ints ns ms]; rfl
theorem deep_ints : ∀ (ns : List Int), deepL (dInts ns) = 0
  | [] => by unfold dInts; simp [deepL]
  | n :: ns => by
    show deepL (.leaf (.int n) :: dInts ns) = 0
    rw [deepL, deep, deep_ints ns]; rfl
theorem eq_ints : ∀ (ns ms : List Int), eqDvL (dInts ns) (dInts ms) = decide (ns = ms)
  | [], [] => by unfold dInts; simp [eqDvL]
  | [], _ :: _ => by unfold dInts; simp [eqDvL]
  | _ :: _, [] => by unfold dInts; simp [eqDvL]
  | n :: ns, m :: ms => by
    show eqDvL (.leaf (.int n) :: dInts ns) (.leaf (.int m) :: dInts ms) = _
    rw [eqDvL, eqDv, eq_ints ns ms]
    show ((n == m) && decide (ns = ms)) = _
    rw [Bool.eq_iff_iff]; simp
end L2
namespace L2
open PySem PySem.Spec PyProof.Rows
/-! ### list comprehensions -/
/-- what a comprehension's scope must be, over the env that it stands in; x: its name, fs: the names that it takes from around -/
def compChk (sc : Scope) (env : Env) (x : Str) (fs : List Str) : Bool :=
  sc.kind == .function && sc.names.all (fun y => y.2 != .cell && (y.2 != .local || sc.names.lookup y.1 == some .local) && (y.2 != .free || env.kindOf y.1 == some .cell || env.kindOf y.1 == some .free)) &&
    sc.names.lookup x == some .local && fs.all (fun f => sc.names.lookup f == some .free)
structure CompSc (sc : Scope) (env : Env) (x : Str) (fs : List Str) : Prop where
  kind : sc.kind = .function
  nocell : ∀ y ∈ sc.names, y.2 ≠ .cell
  own : ∀ y ∈ sc.names, y.2 = .local → sc.names.lookup y.1 = some .local
  fr : ∀ y ∈ sc.names, y.2 = .free → env.kindOf y.1 = some .cell ∨ env.kindOf y.1 = some .free
  x : sc.names.lookup x = some .local
  fs : ∀ f ∈ fs, sc.names.lookup f = some .free
theorem CompSc.of {sc : Scope} {env : Env} {x : Str} {fs : List Str} (h : compChk sc env x fs = true) : CompSc sc env x fs := by
  unfold compChk at h
  simp only [Bool.and_eq_true, beq_iff_eq, List.all_eq_true, Bool.or_eq_true, bne_iff_ne, ne_eq] at h
  obtain ⟨⟨⟨h1, h2⟩, h3⟩, h4⟩ := h
  refine ⟨h1, fun y hy => (h2 y hy).1.1, fun y hy e => ?_, fun y hy e => ?_, h3, h4⟩
  · rcases (h2 y hy).1.2 with z | z
    · exact absurd e z
    · exact z
  · rcases (h2 y hy).2 with (z | z) | z
    · exact absurd e z
    · exact .inl z
    · exact .inr z
theorem closure_ex {env : Env} : ∀ (names : List (Str × NameKind)) (acc : List (Str × Addr)), (∀ n, (n, NameKind.free) ∈ names → ∃ c, env.cells.lookup n = some c) →
    ∃ cl, (forIn names acc fun y r => (do if (y.2 == NameKind.free) = true then do let c ← cellOf env y.1; pure (ForInStep.yield ((y.1, c) :: r)) else pure (ForInStep.yield r) : Sem (ForInStep (List (Str × Addr))))) = pure cl ∧
      (∀ n c, cl.lookup n = some c → acc.lookup n = some c ∨ env.cells.lookup n = some c) ∧ ∀ n, (∃ c, acc.lookup n = some c) ∨ (n, NameKind.free) ∈ names → ∃ c, cl.lookup n = some c
  | [], acc, _ => ⟨acc, rfl, fun _ _ e => .inl e, fun n h => h.elim id fun z => nomatch z⟩
  | (n, k) :: r, acc, h => by
    have hr : ∀ m, (m, NameKind.free) ∈ r → ∃ c, env.cells.lookup m = some c := fun m hm => h m (List.mem_cons_of_mem _ hm)
    by_cases hk : k = .free
    · subst hk
      obtain ⟨c, hc⟩ := h n List.mem_cons_self
      obtain ⟨cl, e, h1, h2⟩ := closure_ex r ((n, c) :: acc) hr
      refine ⟨cl, ?_, fun m c' hm => ?_, fun m hm => h2 m ?_⟩
      · rw [List.forIn_cons]
        simp only [beq_self_eq_true, if_true, cellOf, hc, pure_bind]
        exact e
      · rcases h1 m c' hm with z | z
        · rw [List.lookup_cons] at z
          cases q : m == n with
          | true =>
            rw [q] at z
            cases z
            rw [beq_iff_eq.mp q]
            exact .inr hc
          | false => rw [q] at z; exact .inl z
        · exact .inr z
      · rw [List.lookup_cons]
        rcases hm with ⟨c', z⟩ | hm
        · cases q : m == n with
          | true => exact .inl ⟨c, rfl⟩
          | false => exact .inl ⟨c', z⟩
        · rcases List.mem_cons.mp hm with z | z
          · cases z
            rw [beq_self_eq_true]
            exact .inl ⟨c, rfl⟩
          · exact .inr z
    · obtain ⟨cl, e, h1, h2⟩ := closure_ex r acc hr
      refine ⟨cl, ?_, h1, fun m hm => h2 m ?_⟩
      · rw [List.forIn_cons]
        have hb : (k == NameKind.free) = false := by simpa using hk
        simp only [hb, Bool.false_eq_true, if_false, pure_bind]
        exact e
      · rcases hm with z | hm
        · exact .inl z
        · rcases List.mem_cons.mp hm with z | z
          · cases z; exact absurd rfl hk
          · exact .inr z
theorem closure_of {env : Env} {sc : Scope} (h : ∀ n, (n, NameKind.free) ∈ sc.names → ∃ c, env.cells.lookup n = some c) :
    ∃ cl, closureFor sc env = pure cl ∧ (∀ n c, cl.lookup n = some c → env.cells.lookup n = some c) ∧ ∀ n, (n, NameKind.free) ∈ sc.names → ∃ c, cl.lookup n = some c := by
  obtain ⟨cl, e, h1, h2⟩ := closure_ex sc.names [] h
  refine ⟨cl, ?_, fun n c z => (h1 n c z).elim (fun q => nomatch q) id, fun n hn => h2 n (.inr hn)⟩
  unfold closureFor
  simp only [bind_pure]
  exact e
theorem relabel_kind {env : Env} : ∀ {names : List (Str × NameKind)} {x : Str} {k : NameKind}, (names.map fun (n, k) => if (k == NameKind.free && env.scope.kind == .function && env.kindOf n == some .cell) then (n, NameKind.cell) else (n, k)).lookup x = some k →
    k = .cell ∨ k = .free → names.lookup x = some .free ∨ names.lookup x = some .cell
  | [], _, _, h, _ => by simp at h
  | (n, k0) :: r, x, k, h, hk => by
    have ih := @relabel_kind env r x k
    have h : List.lookup x ((if (k0 == NameKind.free && env.scope.kind == .function && env.kindOf n == some .cell) = true then (n, NameKind.cell) else (n, k0)) :: (r.map fun (n, k) => if (k == NameKind.free && env.scope.kind == .function && env.kindOf n == some .cell) then (n, NameKind.cell) else (n, k))) = some k := h
    by_cases hc : (k0 == NameKind.free && env.scope.kind == .function && env.kindOf n == some .cell) = true
    · rw [if_pos hc] at h
      simp only [List.lookup_cons] at h ⊢
      cases hx : x == n with
      | true =>
        simp only [Bool.and_eq_true, beq_iff_eq] at hc
        rw [hc.1.1]
        exact .inl rfl
      | false => rw [hx] at h; exact ih h hk
    · rw [if_neg hc] at h
      simp only [List.lookup_cons] at h ⊢
      cases hx : x == n with
      | true =>
        rw [hx] at h
        cases h
        rcases hk with rfl | rfl
        · exact .inr rfl
        · exact .inl rfl
      | false => rw [hx] at h; exact ih h hk
theorem relabel_free {env : Env} : ∀ {names : List (Str × NameKind)} {x : Str}, names.lookup x = some .free →
    (names.map fun (n, k) => if (k == NameKind.free && env.scope.kind == .function && env.kindOf n == some .cell) then (n, NameKind.cell) else (n, k)).lookup x = some .cell ∨ (names.map fun (n, k) => if (k == NameKind.free && env.scope.kind == .function && env.kindOf n == some .cell) then (n, NameKind.cell) else (n, k)).lookup x = some .free
  | [], _, h => by simp at h
  | (n, k0) :: r, x, h => by
    have ih := @relabel_free env r x
    show List.lookup x ((if (k0 == NameKind.free && env.scope.kind == .function && env.kindOf n == some .cell) = true then (n, NameKind.cell) else (n, k0)) :: _) = _ ∨ List.lookup x ((if (k0 == NameKind.free && env.scope.kind == .function && env.kindOf n == some .cell) = true then (n, NameKind.cell) else (n, k0)) :: _) = _
    simp only [List.lookup_cons] at h
    by_cases hc : (k0 == NameKind.free && env.scope.kind == .function && env.kindOf n == some .cell) = true
    · rw [if_pos hc]
      simp only [List.lookup_cons]
      cases hx : x == n with
      | true => exact .inl rfl
      | false => rw [hx] at h; exact ih h
    · rw [if_neg hc]
      simp only [List.lookup_cons]
      cases hx : x == n with
      | true => rw [hx] at h; exact .inr h
      | false => rw [hx] at h; exact ih h
/-- the block's context -/
def cxComp (X : Cx) (scope : Scope) (cl : List (Str × Addr)) (C : Addr) (N : List Str) (s₀ : Shared) (H₀ : Hp) (fp : List Addr) (xe : Value → Shared → Prop) : Cx :=
  { X with N := N, s₀ := s₀, H₀ := H₀, env := compEnvC scope cl C X.env, outer := X.stack, stack := X.stack, ex := fp, fn := fun _ => false, pn := [], xe := xe }
theorem xw_no {X : Cx} : XW X (fun _ _ _ => False) := fun _ _ _ _ _ _ _ _ _ _ _ _ _ _ _ h => h.elim
inductive HidC (g : TG) (tt : TT) (te : TE) : Type where
  | mk : HidC g tt te
/-- the tests of a clause: none, or one -/
def PF (X : Cx) (ifs : List Expr) (tt : TT) : Prop :=
  ∀ (pins : List (Addr × Obj)) (s : Shared) (σ : St) (H : Hp) (Q : Bool → Hp → Prop), Inv X pins σ H s → tt σ H Q →
    wpAny (model X.prog X.w) X.A (forIn ifs true fun c r => if r = true then do let ok ← isTrue c X.env (eval c X.env); pure (ForInStep.yield ok) else pure (ForInStep.yield r)) (TP X pins σ Q) X.xe s
def tYes : TT := fun _ H Q => Q true H
theorem pf_nil {X : Cx} : PF X [] tYes := fun _ _ _ H _ I h => by
  simp only [List.forIn_nil]
  exact wpAny_pure ⟨H, I, h⟩
theorem pf_one {X : Cx} {c : Expr} {tt : TT} (h : PT X c tt) : PF X [c] tt := fun pins s σ H Q I hw => wpAny_tests_one (h pins s σ H Q I hw)
/-- the reading of the block: D is the new list -/
def Comp (g : TG) (tt : TT) (te : TE) (_ : HidC g tt te) (J : It) (σ0 : St) (D : Addr) (Q : Hp → Prop) (H : Hp) : Prop :=
  ∃ W : Nat → Nat → List V → St → Hp → Prop, (∃ m, W 0 m [] σ0 (upd H D (.lst []))) ∧ ∀ i m ys σ H, W i m ys σ H →
    (J.stop i H ∧ Q H) ∨ (J.go i H ∧ ∃ N : List V → St → Hp → Prop, (∀ ys σ H, N ys σ H → ∃ m', m' < m ∧ W (i + 1) m' ys σ H) ∧
      ∀ y H', J.yld i H y H' → g y σ H' fun σ2 H2 => tt σ2 H2 fun b H2' => if b = true then te σ2 H2' fun v H3 => H3 D = some (.lst ys) ∧ ys.length < sizeLine ∧ N (ys ++ [v]) σ2 (upd H3 D (.lst (ys ++ [v]))) else N ys σ2 H2')
def tComp (wi : TI) (ix : List Nat) (g : TG) (tt : TT) (te : TE) (h : HidC g tt te) : TE := fun σ H Q => wi σ H fun J H1 => ∀ D, H1 D = none → Comp g tt te h J (none :: ix.map fun i => (σ[i]?).join) D (fun H' => Q (.ref D) H') H1
theorem comp_list {K : PySem.W.Frag} {a : Addr} {xs : List V} {g : TG} {tt : TT} {te : TE} {h : HidC g tt te} {σ0 : St} {D : Addr} {Q : Hp → Prop} {H : Hp} (Pv : Nat → List V → St → Hp → Prop) (h0 : Pv 0 [] σ0 (upd H D (.lst []))) (hl : ∀ i ys σ H, i ≤ xs.length → Pv i ys σ H → SqL K H a xs)
    (hs : ∀ i x ys σ H, xs[i]? = some x → Pv i ys σ H → g x σ H fun σ2 H2 => tt σ2 H2 fun b H2' => if b = true then te σ2 H2' fun v H3 => H3 D = some (.lst ys) ∧ ys.length < sizeLine ∧ Pv (i + 1) (ys ++ [v]) σ2 (upd H3 D (.lst (ys ++ [v]))) else Pv (i + 1) ys σ2 H2') (hd : ∀ ys σ H, Pv xs.length ys σ H → Q H) :
    Comp g tt te h (Itl K a) σ0 D Q H := by
  refine ⟨fun i m ys σ H => i + m = xs.length ∧ Pv i ys σ H, ⟨xs.length, Nat.zero_add _, h0⟩, fun i m ys σ H ⟨e, p⟩ => ?_⟩
  have hq := hl i ys σ H (by omega) p
  by_cases hi : i < xs.length
  · have ex : xs[i]? = some xs[i] := List.getElem?_eq_getElem hi
    refine .inr ⟨⟨xs, _, hq, ex⟩, Pv (i + 1), fun ys σ H q => ⟨m - 1, by omega, by omega, q⟩, ?_⟩
    rintro y H' ⟨rfl, hy⟩
    exact hs i y ys σ H' (hy xs hq) p
  · have e' : i = xs.length := by omega
    subst e'
    exact .inl ⟨⟨xs, hq, Nat.le_refl _⟩, hd ys σ H p⟩
/-- one turn of the block, whatever the target is -/
theorem compLoop_turn {prog : Program} {w : World} {A : Around} {R : Result → Shared → Prop} {s : Shared} {elt target iter : Expr} {ifs : List Expr} {scope : Scope} {pos : Pos} {it acc : Value} {env : Env} (I : Nat → Shared → Prop)
    (turn : ∀ n s, I n s → wpAny (model prog w) A (pyNext it) (fun r s₁ => match r with
      | none => R (.ok .next) s₁
      | some v => wpAny (model prog w) A (letOwnedTupleGo target it v) (fun _ s₁' => wpAny (model prog w) A (assign target env v) (fun _ s₂ =>
          wpAny (model prog w) A (forIn ifs true fun c r => if r = true then do let ok ← isTrue c env (eval c env); pure (ForInStep.yield ok) else pure (ForInStep.yield r)) (fun ok s₃ =>
            if ok = true then wpAny (model prog w) A (eval elt env) (fun x s₄ =>
              wpAny (model prog w) A (call (.builtin "list.append") [acc, x]) (fun _ s₅ => ∃ m, m < n ∧ I m s₅) (notedBy (model prog w) A env fun e s' => R (.error e) s') s₄) (notedBy (model prog w) A env fun e s' => R (.error e) s') s₃
            else ∃ m, m < n ∧ I m s₃) (notedBy (model prog w) A env fun e s' => R (.error e) s') s₂) (notedBy (model prog w) A env fun e s' => R (.error e) s') s₁') (notedBy (model prog w) A env fun e s' => R (.error e) s') s₁) (notedBy (model prog w) A env fun e s' => R (.error e) s') s)
    (n : Nat) (h : I n s) : codeAny (model prog w) A (.compLoop (.ListComp elt [⟨target, iter, ifs, 0⟩] scope pos) 0 it acc env) R s := by
  refine codeAny_loop rfl I (fun n s hI => ?_) n h
  show wpAny _ _ ((compTurn (.ListComp elt [⟨target, iter, ifs, 0⟩] scope pos) 0 it acc env).onRaise (fun x => do noteFrame x env; theTreesLotGoes x)) _ _ s
  refine wpAny_noted ?_
  rw [compTurn_list]
  refine wpAny_bind (wpAny_standAt (wpAny_bind (wpAny_mono (turn n s hI) (fun r s₁ h₁ => ?_) fun _ _ h' => h')))
  cases r with
  | none => exact wpAny_pure h₁
  | some v =>
    refine wpAny_bind (wpAny_mono h₁ (fun _ s₁' h₁' => ?_) fun _ _ h' => h')
    refine wpAny_bind (wpAny_mono h₁' (fun _ s₂ h₂ => wpAny_bind (wpAny_mono h₂ (fun ok s₃ h₃ => ?_) fun _ _ h' => h')) fun _ _ h' => h')
    cases ok with
    | false => exact wpAny_pure ⟨rfl, h₃⟩
    | true =>
      exact wpAny_bind (wpAny_bind (wpAny_mono h₃ (fun x s₄ h₄ => wpAny_bind (wpAny_mono h₄ (fun _ s₅ h₅ => wpAny_pure (wpAny_pure ⟨rfl, h₅⟩)) fun _ _ h' => h')) fun _ _ h' => h'))
section
variable {X : Cx}
theorem comp_block {pins : List (Addr × Obj)} {σ : St} {H2 : Hp} {s2 : Shared} {it : Addr} {fp : List Addr} {tn : Nat → Heap → Prop} {J : It} {tg iter elt : Expr} {ifs : List Expr} {scope : Scope} {cl : List (Str × Addr)} {pos : Pos} {x : Str} {fs : List Str} {ix : List Nat} {g : TG} {tt : TT} {te : TE}
    {Qf : Addr → Hp → Prop} {E : Value → Shared → Prop} {RR : Value → Addr → Result → Shared → Prop}
    (I2 : Inv X pins σ H2 s2) (T : Turn X.prog X.w X.K tg J fp it tn) (st2 : tn 0 s2.heap) (f2 : ∀ b ∈ fp, FpOk X pins H2 b) (hc : X.calm = true) (S : CompSc scope X.env x fs)
    (c1 : ∀ n c, cl.lookup n = some c → X.env.cells.lookup n = some c) (c2 : ∀ n, (n, NameKind.free) ∈ scope.names → ∃ c, cl.lookup n = some c) (hix : ix.map (X.N[·]?) = fs.map some)
    (hg : ∀ C s₀ H₀ xe, PG (cxComp X scope cl C (x :: fs) s₀ H₀ fp xe) tg g) (hf : ∀ C s₀ H₀ xe, PF (cxComp X scope cl C (x :: fs) s₀ H₀ fp xe) ifs tt) (he : ∀ C s₀ H₀ xe, PE (cxComp X scope cl C (x :: fs) s₀ H₀ fp xe) elt te)
    (h : ∀ D, H2 D = none → Comp g tt te .mk J (none :: ix.map fun i => (σ[i]?).join) D (Qf D) H2)
    (fin : ∀ D C H' s', Inv X pins σ H' s' → Qf D H' → (∃ m, s'.heap.Ns C m) → FpOk X pins H' C → RR (.ref D) C (.ok .next) s') :
    wpAny (model X.prog X.w) X.A (newList []) (fun acc s₃ => wpAny (model X.prog X.w) X.A (newFunctionEnv scope X.env.globals cl [] X.env.qual none .none (some X.env)) (fun cenv s₄ =>
      codeAny (model X.prog X.w) X.A (.compStart (.ListComp elt [⟨tg, iter, ifs, 0⟩] scope pos) 0 (.ref it) acc { cenv with scope := relabel scope X.env }) (RR acc cenv.locals) s₄) E s₃) E s2 := by
  have hD : H2 s2.heap.objs.size = none := I2.hok.fresh (Nat.le_refl _)
  obtain ⟨W, ⟨m0, w0⟩, turn⟩ := h _ hD
  refine wpAny_newObj_type (wpAny_newFunctionEnv S.nocell (by intro y hy; simp at hy) (fun h₁ hns₁ hsb₁ => ?_) S.kind)
  have I3 : Inv X pins σ (upd H2 s2.heap.objs.size (.lst [])) { s2 with heap := s2.heap.push { cls := .type "list", dict := none, data := .seq ([] : List Value).toArray } } :=
    I2.laid (t' := s2.toks) (fun b u e => Heap.get?_push_of_some _ e) (Nat.le_refl _) ⟨by decide, [], 0, .nil, Heap.get?_push_size _ rfl⟩
  obtain ⟨e3, he3⟩ : ∃ s3 : Shared, s3 = { s2 with heap := s2.heap.push { cls := .type "list", dict := none, data := .seq ([] : List Value).toArray } } := ⟨_, rfl⟩
  rw [← he3] at I3
  have hh3 : s2.heap.push { cls := .type "list", dict := none, data := .seq ([] : List Value).toArray } = e3.heap := by rw [he3]
  have sz3 : e3.heap.objs.size = s2.heap.objs.size + 1 := by rw [← hh3, Heap.size_push]
  dsimp only at hns₁ hsb₁ ⊢
  rw [hh3] at hns₁ hsb₁ ⊢
  generalize hH3 : upd H2 s2.heap.objs.size (.lst []) = H3 at *
  -- the iterator's objects: older than the list
  have live : ∀ b ∈ fp, b < s2.heap.objs.size := fun b hb => let ⟨_, e, _⟩ := T.obj _ _ st2 b hb; Heap.lt_size e
  have f3 : ∀ b ∈ fp, FpOk X pins H3 b := fun b hb => by
    refine ⟨?_, (f2 b hb).2⟩
    rw [← hH3, upd_ne (Nat.ne_of_lt (live b hb))]
    exact (f2 b hb).1
  have C0 : FpOk X pins H3 e3.heap.objs.size := I3.fpOk (Nat.le_refl _) (I3.hok.fresh (Nat.le_refl _))
  have old3 : ∀ b o, e3.heap.get? b = some o → h₁.get? b = some o := fun b o e => hsb₁.extBut b o (Nat.ne_of_lt (Heap.lt_size e)) (Heap.get?_push_of_some _ e)
  have nofs : ∀ b ∈ fp, b ∉ frs X.stack := fun b hb z => (List.mem_cons.mp (I3.stkSub b z)).elim (f3 b hb).2.1 (f3 b hb).2.2.1
  have hst1 : tn 0 h₁ := T.keep _ _ _ st2 fun b _ o e => old3 b o (by rw [← hh3]; exact Heap.get?_push_of_some _ e)
  have e0 := I3.env0
  have ok : ∀ xe, (cxComp X scope cl e3.heap.objs.size (x :: fs) e3 H3 fp xe).Ok := fun xe => by
    refine ⟨I3.ok.mod, S.kind, I3.ok.glob, I3.ok.blt, Nat.le_refl _, fun y z c h1 h2 => I3.ok.inj y z c (c1 _ _ h1) (c1 _ _ h2), fun y hy => ?_, fun y c z => ?_, I3.ok.hd, I3.ok.frames, .inl rfl, fun b hb => ⟨?_, fun y c e => (f3 b hb).2.2.2.2.1 y c (c1 _ _ e)⟩, e0.bs, e0.bsz, fun b o e hb => ?_, nofs, e0.funs, e0.frf⟩
    · have q : scope.names.lookup y = some .free ∨ scope.names.lookup y = some .cell := by
        rcases hy with hy | hy
        · exact relabel_kind hy (.inl rfl)
        · exact relabel_kind hy (.inr rfl)
      rcases q with q | q
      · exact c2 y (PySem.mem_of_lookup q)
      · exact absurd rfl (S.nocell _ (PySem.mem_of_lookup q))
    · cases z
    · exact Nat.ne_of_lt (Nat.lt_of_lt_of_le (live b hb) (by rw [sz3]; exact Nat.le_succ _))
    · rcases (f3 b hb).2.2.2.1 with z | z
      · exact I3.ok.noex b o e z
      · exact absurd (Nat.lt_of_lt_of_le (Heap.lt_size e) (Nat.le_trans I3.ok.bsz z)) (Nat.lt_irrefl _)
  have cellUp : ∀ c v, e3.heap.IsCell c v → h₁.IsCell c v := fun c v ⟨o, ho, hd⟩ => ⟨o, old3 _ _ ho, hd⟩
  have J0 : ∀ xe, Inv (cxComp X scope cl e3.heap.objs.size (x :: fs) e3 H3 fp xe) [] (none :: ix.map fun i => (σ[i]?).join) H3 { e3 with heap := h₁, toks := e3.toks + ([] : List (Str × Value)).length } := fun xe => by
    have hk : ∀ b o, e3.heap.get? b = some o → h₁.get? b = some o := old3
    refine ⟨ok xe, rfl, I3.bare, Un.kept hk, ⟨_, hns₁, fun i y v h1 h2 h3 => ?_⟩, fun y c e => ?_, I3.hok.fresh (Nat.le_refl _), fun y c e => I3.freeC y c (c1 _ _ e), fun p hp => absurd (show p ∈ ([] : List (Addr × Obj)) from hp) (by simp), I3.hok.kept hk, ?_⟩
    · cases i with
      | zero => cases h2
      | succ i =>
        have h1 : fs[i]? = some y := h1
        have h2 : (ix.map fun i => (σ[i]?).join)[i]? = some (some v) := h2
        have hy := S.fs y (List.mem_of_getElem? h1)
        rw [List.getElem?_map] at h2
        cases ej : ix[i]? with
        | none => rw [ej] at h2; cases h2
        | some j =>
          rw [ej] at h2
          have h2 : (σ[j]?).join = some v := Option.some.inj h2
          have hσ : σ[j]? = some (some v) := by
            cases q : σ[j]? with
            | none => rw [q] at h2; cases h2
            | some o => rw [q] at h2; cases o with
              | none => cases h2
              | some o => cases h2; rfl
          have hN : X.N[j]? = some y := by
            have z := congrArg (·[i]?) hix
            simp only [List.getElem?_map, ej, h1, Option.map_some] at z
            exact Option.some.inj z
          have kf := S.fr _ (PySem.mem_of_lookup hy) rfl
          obtain ⟨m, hn, hl⟩ := I3.loc
          obtain ⟨u, r, l⟩ := hl j y v hN hσ (by rcases kf with k | k; exact .inr (.inl k); exact .inr (.inr k))
          refine ⟨u, r, .inr ⟨relabel_free hy, ?_⟩⟩
          rcases l with ⟨l, _⟩ | ⟨_, c, e, z⟩
          · rcases kf with k | k <;> (rw [l] at k; cases k)
          · obtain ⟨c', e'⟩ := c2 y (PySem.mem_of_lookup hy)
            have q := c1 _ _ e'
            rw [e] at q; cases q
            exact ⟨c, e', cellUp _ _ z⟩
    · obtain ⟨v, z⟩ := I3.cell y c (c1 _ _ e)
      exact ⟨v, cellUp _ _ z⟩
    · have z := congrArg List.length hix
      simp only [List.length_map] at z
      show (none :: _ : St).length = (x :: fs).length
      simp only [List.length_cons, List.length_map, z]
  have back : ∀ {xe σ' H' s'}, Inv (cxComp X scope cl e3.heap.objs.size (x :: fs) e3 H3 fp xe) [] σ' H' s' → Inv X pins σ H' s' := fun {xe σ' H' s'} J =>
    I3.call' (s' := s') (ch := fp) J.os J.base J.hok J.bare fun b hb => ⟨(f3 b hb).2.2.2.1, (f3 b hb).2.1, (f3 b hb).2.2.2.2.1, (f3 b hb).2.2.2.2.2⟩
  have stat : ∀ {xe} {H' : Hp}, (∀ b ∈ fp, H' b = none) → ∀ b ∈ fp, FpOk (cxComp X scope cl e3.heap.objs.size (x :: fs) e3 H3 fp xe) [] H' b := fun {xe H'} hn b hb =>
    ⟨hn b hb, Nat.ne_of_lt (Nat.lt_of_lt_of_le (live b hb) (by rw [sz3]; exact Nat.le_succ _)), nofs b hb, .inl hb, fun y c e => (f3 b hb).2.2.2.2.1 y c (c1 _ _ e), fun p hp => absurd (show p ∈ ([] : List (Addr × Obj)) from hp) (by simp)⟩
  have loop : ∀ s4 : Shared, s4 = { e3 with heap := h₁, toks := e3.toks + ([] : List (Str × Value)).length } →
      codeAny (model X.prog X.w) X.A (.compLoop (.ListComp elt [⟨tg, iter, ifs, 0⟩] scope pos) 0 (.ref it) (.ref s2.heap.objs.size) (compEnvC scope cl e3.heap.objs.size X.env)) (RR (.ref s2.heap.objs.size) e3.heap.objs.size) s4 := by
    rintro s4 rfl
    let xe := notedBy (model X.prog X.w) X.A (compEnvC scope cl e3.heap.objs.size X.env) fun e s' => RR (.ref s2.heap.objs.size) e3.heap.objs.size (.error e) s'
    refine compLoop_turn (fun n s' => ∃ i ys σ' H', Inv (cxComp X scope cl e3.heap.objs.size (x :: fs) e3 H3 fp xe) [] σ' H' s' ∧ tn i s'.heap ∧ (∀ b ∈ fp, H' b = none) ∧ W i n ys σ' H') ?_ m0 ⟨0, [], _, _, J0 xe, hst1, fun b hb => (f3 b hb).1, w0⟩
    rintro n s5 ⟨i, ys, σ5, H5, J5, st5, fr5, w5⟩
    rcases turn i n ys σ5 H5 w5 with ⟨stop, qn⟩ | ⟨go, N, hN, step⟩
    · refine thn (T.done (cxComp X scope cl e3.heap.objs.size (x :: fs) e3 H3 fp xe) rfl rfl rfl hc i [] s5 σ5 H5 xe J5 (stat fr5) st5 stop) fun r s6 ⟨hr, J6⟩ => ?_
      subst hr
      obtain ⟨m, hn, _⟩ := J6.loc
      exact fin _ _ H5 s6 (back J6) qn ⟨m, hn⟩ ⟨J6.free, C0.2⟩
    · refine thn (T.item (cxComp X scope cl e3.heap.objs.size (x :: fs) e3 H3 fp xe) rfl rfl rfl hc i [] s5 σ5 H5 xe J5 (stat fr5) st5 go) fun r s6 ⟨u, hr, h6⟩ => ?_
      subst hr
      refine thn h6 fun _ s7 ⟨y, H7, J7, r7, y7, st7, fr7⟩ => ?_
      have J7' := J7.pinned (stat fr7) (T.obj _ _ st7)
      refine thn (hg _ _ _ xe _ s7 σ5 H7 y u _ J7' r7 (step y H7 y7)) fun _ s8 ⟨σ8, H8, J8, q8⟩ => ?_
      refine thn (hf _ _ _ xe _ s8 σ8 H8 _ J8 q8) fun ok s8' ⟨H8', J8', q8'⟩ => ?_
      cases ok with
      | false =>
        obtain ⟨m', hm', w9⟩ := hN _ _ _ (by simpa using q8')
        refine ⟨m', hm', i + 1, ys, σ8, _, J8'.unpinned, T.keep _ _ _ st7 fun b hb o e => (J8'.pin (b, o) (List.mem_append_right _ (List.mem_append_right _ (mem_pinsAt hb e)))).1, fun b hb => ?_, w9⟩
        obtain ⟨o, e, d⟩ := T.obj _ _ st7 b hb
        exact (J8'.pin (b, o) (List.mem_append_right _ (List.mem_append_right _ (mem_pinsAt hb e)))).2.1
      | true =>
      rw [if_pos rfl] at q8' ⊢
      refine thn (he _ _ _ xe _ s8' σ8 H8' _ J8' q8') fun uv s9 ⟨v, H9, J9, r9, hD9, hl9, n9⟩ => ?_
      obtain ⟨m', hm', w9⟩ := hN _ _ _ n9
      refine thn (mt_append (X := cxComp X scope cl e3.heap.objs.size (x :: fs) e3 H3 fp xe) _ s9 σ8 H9 (.ref s2.heap.objs.size) [v] _ [uv] (fun _ H' => H' = upd H9 s2.heap.objs.size (.lst (ys ++ [v]))) J9 rfl (.cons r9 .nil) ⟨_, ys, v, rfl, rfl, hD9, hl9, rfl⟩) fun _ s10 ⟨_, H10, J10, _, eH⟩ => ?_
      subst eH
      refine ⟨m', hm', i + 1, ys ++ [v], σ8, _, J10.unpinned, T.keep _ _ _ st7 fun b hb o e => (J10.pin (b, o) (List.mem_append_right _ (List.mem_append_right _ (mem_pinsAt hb e)))).1, fun b hb => ?_, w9⟩
      obtain ⟨o, e, d⟩ := T.obj _ _ st7 b hb
      exact (J10.pin (b, o) (List.mem_append_right _ (List.mem_append_right _ (mem_pinsAt hb e)))).2.1
  subst he3
  exact codeAny_compStart_list (loop _ rfl) (T.self X.A 0 _ _ _ hst1 (loop _ rfl))
theorem CompSc.clos {pins : List (Addr × Obj)} {σ : St} {H : Hp} {s : Shared} {scope : Scope} {x : Str} {fs : List Str} (S : CompSc scope X.env x fs) (I : Inv X pins σ H s) :
    ∃ cl, closureFor scope X.env = pure cl ∧ (∀ n c, cl.lookup n = some c → X.env.cells.lookup n = some c) ∧ ∀ n, (n, NameKind.free) ∈ scope.names → ∃ c, cl.lookup n = some c :=
  closure_of fun n hn => I.ok.has n (S.fr _ hn rfl)
/-- [elt for tg in iter], its value kept -/
theorem pe_comp {tg iter elt : Expr} {ifs : List Expr} {scope : Scope} {pos : Pos} {x : Str} {fs : List Str} {ix : List Nat} {wi : TI} {g : TG} {tt : TT} {te : TE} (hc : X.calm = true) (hi : PI X tg iter wi) (hk : compChk scope X.env x fs = true) (hix : ix.map (X.N[·]?) = fs.map some)
    (hg : ∀ cl C s₀ H₀ fp xe, PG (cxComp X scope cl C (x :: fs) s₀ H₀ fp xe) tg g) (hf : ∀ cl C s₀ H₀ fp xe, PF (cxComp X scope cl C (x :: fs) s₀ H₀ fp xe) ifs tt) (he : ∀ cl C s₀ H₀ fp xe, PE (cxComp X scope cl C (x :: fs) s₀ H₀ fp xe) elt te) (hs : ∀ x, foldedSetIterable iter X.env x = pure x := by intro _; rfl) :
    PE X (.ListComp elt [⟨tg, iter, ifs, 0⟩] scope pos) (tComp wi ix g tt te .mk) := by
  intro pins s σ H Q I h
  have S := CompSc.of hk
  obtain ⟨cl, hcl, c1, c2⟩ := S.clos I
  rw [eval_ListComp]
  refine wpAny_comprehension_free (use := none) rfl hs hcl S.kind S.own (thn (hi pins s σ H _ I h) fun v s1 h1 => thn h1 fun itv s2 h2 => ?_)
  obtain ⟨it, fp, tn, J, H2, e, I2, T, st2, f2, q⟩ := h2
  subst e
  refine comp_block (RR := fun acc C => compPost (model X.prog X.w) X.A X.xe none (EP X pins σ Q) acc C) I2 T st2 f2 hc S c1 c2 hix (fun C s₀ H₀ xe => hg cl C s₀ H₀ fp xe) (fun C s₀ H₀ xe => hf cl C s₀ H₀ fp xe) (fun C s₀ H₀ xe => he cl C s₀ H₀ fp xe) q fun D C H' s' I' q' ⟨m, hn⟩ ⟨f0, f1, _, f3, f4, f5⟩ => ?_
  exact ⟨m, hn, fun h' hs' => ⟨.ref D, H', I'.turned (t' := s'.toks) (fun b o hb e => (hs'.2 b hb).trans e) f0 f1 f3 f4 f5, rfl, q'⟩⟩
/-- y = [elt for tg in iter], y a local name of its own -/
theorem ps_setC {tg iter elt : Expr} {ifs : List Expr} {scope : Scope} {pos spos py : Pos} {x y : Str} {i : Nat} {fs : List Str} {ix : List Nat} {wi : TI} {g : TG} {tt : TT} {te : TE} (hN : X.N.Nodup) (hy : X.N[i]? = some y) (hl : X.env.kindOf y = some .local) (hc : X.calm = true) (hi : PI X tg iter wi)
    (hk : compChk scope X.env x fs = true) (hix : ix.map (X.N[·]?) = fs.map some)
    (hg : ∀ cl C s₀ H₀ fp xe, PG (cxComp X scope cl C (x :: fs) s₀ H₀ fp xe) tg g) (hf : ∀ cl C s₀ H₀ fp xe, PF (cxComp X scope cl C (x :: fs) s₀ H₀ fp xe) ifs tt) (he : ∀ cl C s₀ H₀ fp xe, PE (cxComp X scope cl C (x :: fs) s₀ H₀ fp xe) elt te)
    (hsw : swapsWith (.ListComp elt [⟨tg, iter, ifs, 0⟩] scope pos) (some (.Name y py)) spos.line X.env = pure true := by rfl) (hs : ∀ x, foldedSetIterable iter X.env x = pure x := by intro _; rfl) :
    PS X (.Assign [.Name y py] (.ListComp elt [⟨tg, iter, ifs, 0⟩] scope pos) spos) (tAsg (tComp wi ix g tt te .mk) (gName i)) := by
  intro pins s σ H D I h
  have S := CompSc.of hk
  obtain ⟨cl, hcl, c1, c2⟩ := S.clos I
  rw [exec_Assign_Name_used _ _ _ _ hsw]
  refine wpAny_bind (wpAny_standAt (wpAny_bind ?_))
  show wpAny _ X.A (do let _ ← comprehension (.ListComp elt [⟨tg, iter, ifs, 0⟩] scope pos) scope X.env _ (newList []) false (eval iter X.env) (some (assign (.Name y py) X.env))) _ _ s
  refine wpAny_bind (wpAny_mono (wpAny_comprehension_free (use := some (assign (.Name y py) X.env)) (Q := fun _ s' => SP X pins D .next s') rfl hs hcl S.kind S.own
    (thn (hi pins s σ H _ I h) fun v s1 h1 => thn h1 fun itv s2 h2 => ?_)) (fun _ s' hq => wpAny_pure (wpAny_pure hq)) fun _ _ e => e)
  obtain ⟨it, fp, tn, J, H2, e, I2, T, st2, f2, q⟩ := h2
  subst e
  refine comp_block (RR := fun acc C => compPost (model X.prog X.w) X.A X.xe (some (assign (.Name y py) X.env)) (fun _ s' => SP X pins D .next s') acc C) I2 T st2 f2 hc S c1 c2 hix (fun C s₀ H₀ xe => hg cl C s₀ H₀ fp xe) (fun C s₀ H₀ xe => hf cl C s₀ H₀ fp xe) (fun C s₀ H₀ xe => he cl C s₀ H₀ fp xe) q
    fun D' C H' s' I' q' ⟨m, hn⟩ ⟨f0, f1, _, f3, f4, f5⟩ => ?_
  show wpAny _ X.A (assign (.Name y py) X.env (.ref D')) _ _ _
  refine wpAny_assign_Name (store_ok2 (v := .ref D') I' hN hy (.inl hl) rfl (fun s'' I'' ⟨a, sb, ha⟩ => ?_) (.inr hl))
  have hne : C ≠ a := by
    rcases ha with ha | ha
    · rw [ha]; exact f1
    · exact fun z => f4 _ _ ha z.symm
  exact ⟨m, hn.sameBut sb hne, fun h' hs' => ⟨_, H', I''.turned (t' := s''.toks) (fun b o hb e => (hs'.2 b hb).trans e) f0 f1 f3 f4 f5, q'⟩⟩
end
end L2
namespace L2
open PySem PySem.Spec PyProof.Rows
/-! ### for i, x in enumerate(list) -/
section
variable {X : Cx} {pins : List (Addr × Obj)} {σ : List (Option V)} {H H' : Hp} {s : Shared} {h' : Heap}
end
section
variable {X : Cx}
end
/-! ### sorted(list of ints) -/
theorem ints_of : ∀ {ns : List Int} {us : List Value}, Vals (ns.map V.int) us → IntsAre us ns
  | [], _, h => by cases h; exact .nil
  | n :: ns, _, h => by
    cases h with
    | cons r rr =>
      obtain ⟨t, rfl⟩ := r
      exact .cons _ _ (ints_of rr)
end L2
namespace L2
open PySem PySem.Spec PyProof.Rows
/-! ### d.setdefault(k, x) -/
section
variable {X : Cx} {pins : List (Addr × Obj)} {σ : St} {H : Hp} {s : Shared} {a : Addr} {kvs : List (Key × V)} {k : Key} {u r : Value} {z : V} {A : Around} {E : Value → Shared → Prop}
end
section
variable {X : Cx} {o e f : Expr} {apos cpos : Pos} {td ty tx : TE}
end
/-! ### sum, all, any of a list -/
theorem call_sum {X : Cx} (hc : X.calm = true) : CallR X (.builtin "sum") (fun xs H Q => ∃ (p : Addr) (ns : List Int), xs = [.ref p] ∧ SqL X.K H p (ns.map V.int) ∧ Q (.int ns.sum) H) := by
  intro pins s σ H xs us Q I r h
  obtain ⟨p, ns, rfl, hq, q⟩ := h
  obtain ⟨u, rfl, rx⟩ := vals1 r
  cases rx
  obtain ⟨its, r', pl, hz⟩ := I.list hq
  have hi := ints_of r'
  obtain ⟨ps, hx⟩ := hi.allInts.items
  have e : preSum (numAt ps) ps.size = ns.sum := by
    have h1 := hi.numsOf
    rw [preSum_eq, List.take_of_length_le (by simp), ← h1, ← nums_intItems, ← hx]
  have hl := pl.isList
  rw [hx] at hl
  refine sum_intListG (I.ok.hd hc) hl fun h' tk t' hk => ?_
  rw [e]
  exact ⟨.int ns.sum, H, I.kept (t' := tk) hk, ⟨t', rfl⟩, q⟩
theorem bools_of : ∀ {bs : List Bool} {us : List Value}, Vals (bs.map V.bl) us → LSm.BoolsAre us bs
  | [], _, h => by cases h; exact .nil
  | b :: bs, _, h => by
    cases h with
    | cons r rr =>
      cases r
      exact .cons _ (bools_of rr)
theorem call_any {X : Cx} (hc : X.calm = true) : CallR X (.builtin "any") (fun xs H Q => ∃ (p : Addr) (bs : List Bool), xs = [.ref p] ∧ SqL X.K H p (bs.map V.bl) ∧ Q (.bl (bs.any id)) H) := by
  intro pins s σ H xs us Q I r h
  obtain ⟨p, bs, rfl, hq, q⟩ := h
  obtain ⟨u, rfl, rx⟩ := vals1 r
  cases rx
  obtain ⟨its, r', pl, hz⟩ := I.list hq
  have hb := bools_of r'
  have hl := pl.isList
  have hlt : p < s.heap.objs.size := by obtain ⟨_, e, _⟩ := id hl; exact Heap.lt_size e
  refine call_any_walk (wpAny_pyIter_list hl ?_)
  refine ⟨s.heap.objs.size, [s.heap.objs.size, p], [s.heap.objs.size], its.toArray.size, _, _, fun i => (bs[i]?).getD false, rfl, Walks.list (A := X.A.in1) (I.ok.hd hc) _ p (Nat.ne_of_lt hlt) its.toArray,
    ⟨⟨_, Heap.get?_push_size _ rfl, rfl, rfl⟩, hl.push _⟩, fun i v s' Q' E' hP hQ => ?_, fun h' tk hk => ?_⟩
  · obtain ⟨b, e, rfl⟩ := hb.get i v (by simpa using hP)
    simp only [e, Option.getD_some] at hQ
    exact wpAny_truthy_bool hQ
  · have e : ((List.range its.toArray.size).any fun i => (bs[i]?).getD false) = bs.any id := by
      rw [List.size_toArray, hb.length]; exact LSm.range_any bs
    rw [e]
    exact ⟨.bl (bs.any id), H, I.kept (t' := tk) (LSm.kept_iter hk), rfl, q⟩
/-! ### while -/
inductive HidW (c : TT) (tb : TS) : Type where
  | mk : HidW c tb
inductive HidB (tb : TS) : Type where
  | mk : HidB tb
def LoopW (c : TT) (tb : TS) (_ : HidW c tb) : TS := tWhile c tb
def TurnW (tb : TS) (_ : HidB tb) (Pv : Nat → St → Hp → Prop) (m : Nat) (D : Ends) (σ : St) (H : Hp) : Prop :=
  ∃ N : St → Hp → Prop, (∀ σ' H', N σ' H' → ∃ m', m' < m ∧ Pv m' σ' H') ∧ tb { D with nx := N, ct := N, bk := D.nx } σ H
theorem ps_whileE {X : Cx} {c : Expr} {body : List Stmt} {tc : TT} {tb : TS} {pos : Pos} (hp : PassesOwn (model X.prog X.w) X.A X.env X.xe) (hc : PT X c tc) (hb : PSs X body tb) : PS X (.While c body [] pos) (LoopW tc tb .mk) := ps_while hp hc hb
theorem loop_while {c : TT} {tb : TS} {h : HidW c tb} {D : Ends} {σ : St} {H : Hp} (Pv : Nat → St → Hp → Prop) (m0 : Nat) (h0 : Pv m0 σ H)
    (hs : ∀ m σ H, Pv m σ H → c σ H fun b H1 => if b = true then TurnW tb .mk Pv m D σ H1 else D.nx σ H1) : LoopW c tb h D σ H := ⟨Pv, ⟨m0, h0⟩, hs⟩
theorem turnW {tb : TS} {h : HidB tb} {Pv : Nat → St → Hp → Prop} {m : Nat} {D : Ends} {σ : St} {H : Hp}
    (q : tb { D with nx := fun σ' H' => ∃ m', m' < m ∧ Pv m' σ' H', ct := fun σ' H' => ∃ m', m' < m ∧ Pv m' σ' H', bk := D.nx } σ H) : TurnW tb h Pv m D σ H := ⟨_, fun _ _ h => h, q⟩
end L2
namespace L2
open PySem PySem.Spec PyProof.Rows
/-! ### a dict walked: it stands still meanwhile, and is thawed behind -/
section
variable {X : Cx} {pins : List (Addr × Obj)} {σ : List (Option V)} {H : Hp} {s : Shared} {a : Addr}
end
end L2
namespace L2
open PySem PySem.Spec PyProof.Rows
/-! ### == of things that are None or a list or tuple -/
def rEqN (K : PySem.W.Frag) (n : Nat) : R2 := fun x y H Q => (x = .non ∧ y = .non ∧ Q (.bl true) H) ∨ (x = .non ∧ (∃ a xs, y = .ref a ∧ SqT K H a xs) ∧ Q (.bl false) H) ∨ ((∃ a xs, x = .ref a ∧ SqT K H a xs) ∧ y = .non ∧ Q (.bl false) H) ∨ rEqD K n x y H Q
theorem op_eqN {X : Cx} {n : Nat} (hu : X.A.units + n + 2 < cLine) : OpR X (compareOp .Eq) (rEqN X.K n) := by
  intro pins s σ H x y u v Q I rx ry h
  rcases h with ⟨rfl, rfl, q⟩ | ⟨rfl, ⟨a, xs, rfl, hy⟩, q⟩ | ⟨⟨a, xs, rfl, hx⟩, rfl, q⟩ | h
  · cases rx; cases ry
    exact SeqAt.RcAt.none_none X.prog X.w X.xe _ ⟨.bl true, H, I, rfl, q⟩
  · cases rx; cases ry
    obtain ⟨its, r, p, hz⟩ := I.tuple hy
    exact SeqAt.RcAt.none_tuple (A := X.A) (s := s) (show s.heap.IsTuple a its.toArray from p) (by omega) X.prog X.w X.xe _ ⟨.bl false, H, I, rfl, q⟩
  · cases rx; cases ry
    obtain ⟨its, r, p, hz⟩ := I.tuple hx
    exact SeqAt.RcAt.tuple_none (A := X.A) (s := s) (show s.heap.IsTuple a its.toArray from p) (by omega) X.prog X.w X.xe _ ⟨.bl false, H, I, rfl, q⟩
  · exact op_eqD hu pins s σ H x y u v Q I rx ry h
end L2
namespace L2
open PySem PySem.Spec PyProof.Rows
end L2
namespace L2
open PySem PySem.Spec PyProof.Rows
end L2
namespace L2
open PySem PySem.Spec PyProof.Rows
/-! ### within a comprehension: the module's part by its name -/
theorem ix_tupC {X : Cx} {K : PySem.W.Frag} (h : X.K = K) : IxR X (rIxT K) := h ▸ ix_tup
end L2
/-! MY LAYER, l: defs whose last parameters have defaults -/
namespace L2
open PySem PySem.Spec PyProof.Rows
structure FunD (K : PySem.W.Frag) (x qual : Str) (st : Stmt) (f : Addr) (fd : FuncData) : Prop where
  ex : ∃ (oc : Value) (od : Option Addr) (dV kV doc pm : Value) (an : Option Addr) (cdv ct : Value) (osl : Array (Option Value)),
    fd = PySem.W.fnOf x qual (defArgs st) (defBody st) (defScope st) dV kV doc pm an cdv ct ∧ K.lookup f = some ⟨oc, od, .func fd, osl⟩ ∧ PySem.W.codeIn K cdv qual = true
  kp : PySem.W.keepIn K (.ref f) = true
section
variable {P : Program} {w : World} {K : PySem.W.Frag} {mg : Str → Option Value} {base : Heap}
theorem fund_mk {x qual : Str} {st : Stmt} {f : Addr} {oc : Value} {od an : Option Addr} {osl : Array (Option Value)} {dV kV doc pm cdv ct : Value} (l : K.lookup f = some ⟨oc, od, .func (PySem.W.fnOf x qual (defArgs st) (defBody st) (defScope st) dV kV doc pm an cdv ct), osl⟩)
    (c : PySem.W.codeIn K cdv qual = true) (k : PySem.W.keepIn K (.ref f) = true) : FunD K x qual st f (PySem.W.fnOf x qual (defArgs st) (defBody st) (defScope st) dV kV doc pm an cdv ct) := ⟨⟨oc, od, dV, kV, doc, pm, an, cdv, ct, osl, rfl, l, c⟩, k⟩
theorem FunD.okE {x qual : Str} {st : Stmt} {f : Addr} {fd : FuncData} {N ps : List Str} {k : Nat} {sp : Sp} (F : FunD K x qual st f fd) (S : FnScope N ps (defScope st)) (len : ∀ vs H Q E, sp vs H Q E → vs.length = ps.length)
    (hbody : Body P w K mg base qual st N k sp) : FnOk P w K mg base (CXe P w) (k + 1) f fd ps sp := by
  obtain ⟨oc, od, dV, kV, doc, pm, an, cdv, ct, osl, rfl, lk, hcd⟩ := F.ex
  exact fn_of lk hcd S len fun A outer s H vs Q E hr hsp => hbody f cdv A outer s H vs Q E hr hsp
def RawMD (K : PySem.W.Frag) (C : Addr) (m qual : Str) (st : Stmt) (ps : List Str) (dvs : List V) : Prop := ∃ f fd ds, Meth K C m f ∧ FunD K m qual st f fd ∧ Binds K fd ps ds ∧ Vals dvs ds
def RawID (K : PySem.W.Frag) (mg : Str → Option Value) (x : Str) (C : Addr) (qual : Str) (st : Stmt) (ps : List Str) (dvs : List V) : Prop := ∃ f fd ds, mg x = some (.ref C) ∧ Mk K C f ∧ FunD K "__init__" qual st f fd ∧ Binds K fd ps ds ∧ Vals dvs ds
theorem RawMD.have {C : Addr} {m qual : Str} {st : Stmt} {N ps : List Str} {dvs : List V} {k : Nat} {sp : Sp} (R : RawMD K C m qual st ps dvs) (S : FnScope N ps (defScope st)) (len : ∀ vs H Q E, sp vs H Q E → vs.length = ps.length)
    (hbody : Body P w K mg base qual st N k sp) : HaveM P w K mg base C m (k + 1) ps dvs sp :=
  let ⟨f, fd, ds, hm, F, hb, hd⟩ := R
  ⟨f, fd, ds, hm, hb, hd, F.okE S len hbody⟩
theorem RawID.have {C : Addr} {x qual : Str} {st : Stmt} {N ps : List Str} {dvs : List V} {k : Nat} {sp : Sp} (R : RawID K mg x C qual st ps dvs) (S : FnScope N ps (defScope st)) (len : ∀ vs H Q E, sp vs H Q E → vs.length = ps.length)
    (hbody : Body P w K mg base qual st N k sp) : HaveI P w K mg base x C (k + 1) ps dvs sp :=
  let ⟨f, fd, ds, hm, M, F, hb, hd⟩ := R
  ⟨f, fd, ds, hm, M, hb, hd, F.okE S len hbody⟩
end
end L2
namespace L2
open PySem PySem.Spec PyProof.Rows
theorem binds_d {K : PySem.W.Frag} {fd : FuncData} {ps : List Str} {ds : List Value} (n : Nat) (hn : ps.length = n + ds.length) (h : ∀ (s : Shared) (us : List Value), K.In s.heap → us.length = n → BindsTo s fd ⟨us, []⟩ (ps.zip (us ++ ds))) : Binds K fd ps ds :=
  fun s us X hl => h s us X (by rw [List.length_append, hn] at hl; omega)
end L2
namespace L2
open PySem PySem.Spec PyProof.Rows
/-- x is not True, x is not False -/
theorem op_notB {X : Cx} : OpR X (compareOp .IsNot) (fun x y H Q => ∃ a b, x = .bl a ∧ y = .bl b ∧ Q (.bl (!(a == b))) H) := by
  intro pins s σ H x y v u Q I rx ry h
  obtain ⟨a, b, rfl, rfl, q⟩ := h
  cases rx
  cases ry
  refine wpAny_isNot_plain (by cases a <;> cases b <;> rfl) ⟨.bl (!(a == b)), H, I, ?_, q⟩
  cases a <;> cases b <;> rfl
end L2
namespace L2
open PySem PySem.Spec PyProof.Rows
/-! ### for x in reversed(list) -/
def Itv (K : PySem.W.Frag) (a : Addr) (n : Nat) : It :=
  ⟨fun i H => ∃ xs, SqL K H a xs ∧ xs.length = n ∧ i < n, fun i H x H' => H' = H ∧ ∀ xs, SqL K H a xs → xs[n - 1 - i]? = some x, fun i _ => n ≤ i⟩
theorem turn_rev {P : Program} {w : World} {K : PySem.W.Frag} {tg : Expr} (a it : Addr) (n : Nat) : Turn P w K tg (Itv K a n) [it] it (fun i h => i ≤ n ∧ h.IsRevIter it a ((n : Int) - 1 - (i : Int))) where
  mem := by simp
  obj := fun i h st b hb => by
    have e : b = it := by simpa using hb
    subst e
    obtain ⟨_, o, e, c, d⟩ := st
    exact ⟨o, e, fun v z => by rw [d] at z; cases z⟩
  keep := fun i h h' st k => ⟨st.1, st.2.at fun o e => k it (by simp) o e⟩
  item := by
    intro X hP hw hK hc i pins s σ H E I hf st hg
    subst hP hw hK
    obtain ⟨xs, hq, hn, hi⟩ := hg
    obtain ⟨its, rv, p, hz⟩ := I.list hq
    have hx : xs[n - 1 - i]? = some xs[n - 1 - i] := List.getElem?_eq_getElem (by omega)
    obtain ⟨u, hu, ru⟩ := rv.get hx
    obtain ⟨f0, f1, f2, f3, f4, f5⟩ := hf it (by simp)
    have st2 := st.2
    rw [show (n : Int) - 1 - (i : Int) = ((n - 1 - i : Nat) : Int) by omega] at st2
    refine wpAny_pyNext_rev_item st2 p.isList (x := u) (by simpa using hu) fun h' st' sb => ?_
    have I1 : Inv X pins σ H { s with heap := h' } := I.turned (t' := s.toks) (fun b o hb e => (sb.2 b hb).trans e) f0 f1 f3 f4 f5
    obtain ⟨o, e, c, d⟩ := id st'
    rw [show ((n - 1 - i : Nat) : Int) - 1 = (n : Int) - 1 - ((i + 1 : Nat) : Int) by omega] at st'
    exact ⟨u, rfl, go_of (s := { s with heap := h' }) e c d (by decide) ⟨_, H, I1, ru, ⟨rfl, fun ys hy => by rw [I.list_inj hy hq]; exact hx⟩, ⟨by omega, st'⟩, fun b hb => (hf b hb).1⟩⟩
  done := by
    intro X hP hw hK hc i pins s σ H E I hf st hg
    subst hP hw hK
    have hg : n ≤ i := hg
    obtain ⟨f0, f1, f2, f3, f4, f5⟩ := hf it (by simp)
    have st2 := st.2
    rw [show (n : Int) - 1 - (i : Int) = -1 by have := st.1; omega] at st2
    exact wpAny_pyNext_rev_end (I.ok.hd hc) st2 fun h' eb => ⟨rfl, I.turned (t' := s.toks) (fun b o hb e => eb b o hb e) f0 f1 f3 f4 f5⟩
  self := fun _ _ _ _ _ st h => wpAny_pyIter_revIter st.2 h
section
variable {X : Cx}
def iRev (K : PySem.W.Frag) (ta : TA) : TI := fun σ H R => ta σ H fun vs H1 => ∃ a xs, vs = [.ref a] ∧ SqL K H1 a xs ∧ R (Itv K a xs.length) H1
theorem boot_rev : bootBuiltins "reversed" = some (.type "reversed") := by decide +kernel
theorem pi_rev {e tg : Expr} {ta : TA} {p pos : Pos} (hg : Gl X "reversed") (hm : X.mg "reversed" = none) (ha : PA X [e] ta) (hs : starEach [e] X.env = [(false, eval e X.env)] := by rfl) :
    PI X tg (.Call (.Name "reversed" p) [e] [] pos) (iRev X.K ta) := by
  intro pins s σ H R I h
  refine Call_ (ld_blt I hg hm boot_rev (PyProof.Rows.callWith_type1 (thn (ha pos pins s σ H _ I h) fun us s1 ⟨vs, H1, I1, r1, q1⟩ => ?_) hs rfl))
  obtain ⟨a, xs, ev, hq, q⟩ := q1
  subst ev
  cases r1 with
  | cons r rr =>
    cases rr
    cases r
    obtain ⟨its, rv, pl, hz⟩ := I1.list hq
    refine call_reversed_list pl.isList ?_
    have hl := rv.length
    have hr : Heap.IsRevIter (s1.heap.push (revObj a ((its.toArray.size : Int) - 1))) s1.heap.objs.size a ((xs.length : Int) - 1 - ((0 : Nat) : Int)) := ⟨_, Heap.get?_push_size _ rfl, rfl, by
      show Data.fields #[.ref a, rawInt ((its.toArray.size : Int) - 1)] = _
      rw [show (its.toArray.size : Int) - 1 = (xs.length : Int) - 1 - ((0 : Nat) : Int) by simp; omega]⟩
    refine wpAny_pyIter_revIter hr ?_
    refine ⟨s1.heap.objs.size, [s1.heap.objs.size], _, _, H1, rfl, I1.kept (t' := s1.toks) fun b o e => Heap.get?_push_of_some _ e, turn_rev a _ xs.length, ⟨Nat.zero_le _, hr⟩, fun b hb => ?_, q⟩
    have e : b = s1.heap.objs.size := by simpa using hb
    subst e
    exact I1.fpOk (Nat.le_refl _) (I1.hok.fresh (Nat.le_refl _))
end
theorem loop_rev {K : PySem.W.Frag} {a : Addr} {xs : List V} {g : TG} {tb : TS} {h : HidF g tb} {D : Ends} {σ : St} {H : Hp} (Pv : Nat → St → Hp → Prop) (h0 : Pv 0 σ H) (hl : ∀ i σ H, i ≤ xs.length → Pv i σ H → SqL K H a xs)
    (hs : ∀ i x σ H, xs[xs.length - 1 - i]? = some x → i < xs.length → Pv i σ H → g x σ H fun σ2 H2 => tb { D with nx := Pv (i + 1), ct := Pv (i + 1), bk := D.nx } σ2 H2) (hd : ∀ σ H, Pv xs.length σ H → D.nx σ H) : Loop g tb h (Itv K a xs.length) D σ H := by
  refine ⟨fun i m σ H => i + m = xs.length ∧ Pv i σ H, ⟨xs.length, Nat.zero_add _, h0⟩, fun i m σ H ⟨e, p⟩ => ?_⟩
  have hq := hl i σ H (by omega) p
  by_cases hi : i < xs.length
  · refine .inr ⟨⟨xs, hq, rfl, hi⟩, Pv (i + 1), fun σ H q => ⟨m - 1, by omega, by omega, q⟩, ?_⟩
    rintro y H' ⟨rfl, hy⟩
    exact hs i y σ _ (hy xs hq) hi p
  · have e' : i = xs.length := by omega
    subst e'
    exact .inl ⟨Nat.le_refl _, hd σ H p⟩
end L2
set_option hygiene false in
local macro_rules | `(tactic| walk_at "wp") => `(tactic| simp only [L2.tSeq, L2.tNext, L2.tAsg, L2.gName, L2.tRet, L2.tDrop, L2.tIfS, L2.tTest, L2.tB, L2.tOp, L2.tUn, L2.tVar, L2.tC, L2.rI, L2.rI0, L2.rU, L2.tAnd, L2.tOr, L2.tNot, L2.tAndV, L2.tNotV, L2.tCallE, L2.tMethE, L2.tMakeE, L2.tCB, L2.tCons, L2.tNil, L2.tChain, L2.tLst, L2.tTup, L2.rIxL, L2.rIxT, L2.tFld, L2.sFld, L2.tRaise, L2.rEq, L2.start, L2.CDiv, L2.CPow, L2.CMul, L2.kn_int, L2.cxOf_K, L2.scal_ii, L2.scal_bb, L2.scal_ss, L2.rIxH, L2.lstO_lst, L2.tupO_tup, L2.upd_same, L2.upd_upd, L2.HO.ins.injEq, L2.rCat, L2.rSlL, L2.tSl, L2.tPart, L2.tNoPart, L2.clsV_ref, L2.clsV_ty, L2.tForE, L2.iRng1, L2.iList, L2.tBM, L2.tBM0, L2.rAppend, L2.rPop, L2.rReverse, L2.gSub, L2.rSetL, L2.tComp, L2.tYes, Option.join_some, Option.join_none, PySem.sizeLine_eq, Nat.reduceLeDiff, eq_self, decide_eq_true_eq, 
  List.map_cons, List.map_nil, List.length_cons, List.length_nil, List.cons_append, List.nil_append, List.append_nil, List.replicate, Nat.reduceSub, Nat.reduceAdd, List.getElem?_cons_zero, List.getElem?_cons_succ, List.set_cons_zero, List.set_cons_succ,
  Option.some.injEq, List.cons.injEq, L2.V.int.injEq, L2.V.bl.injEq, L2.V.ref.injEq, L2.V.ty.injEq, L2.V.str.injEq, exists_eq_left, exists_eq_left', exists_and_left, exists_eq', exists_const, and_assoc, and_true, true_and, ↓reduceIte, Int.reduceLE, Int.reduceLT, Nat.reducePow, Int.reducePow, Int.reduceNeg, L2.na10, Nat.reduceLT, Int.reduceToNat, Int.reduceAdd, Int.reduceMul, Int.reduceSub, true_or, or_true, decide_true, decide_false])
namespace Pf
open PySem L2
def top (i : Nat) : Stmt := PySem.Challenge.pw_frameland_k27_copies_apart.main.body.getD i (.Pass ⟨0, 0, 0, 0⟩)
abbrev s_is_whole : Stmt := top 7
theorem sc_is_whole : FnScope ["thing"] ["thing"] (defScope s_is_whole) := ⟨rfl, rfl, rfl, by decide +kernel, rfl, by decide +kernel, by decide +kernel⟩
abbrev s_is_within : Stmt := top 8
theorem sc_is_within : FnScope ["thing", "low", "high"] ["thing", "low", "high"] (defScope s_is_within) := ⟨rfl, rfl, rfl, by decide +kernel, rfl, by decide +kernel, by decide +kernel⟩
abbrev s_check_rights : Stmt := top 11
theorem sc_check_rights : FnScope ["rights"] ["rights"] (defScope s_check_rights) := ⟨rfl, rfl, rfl, by decide +kernel, rfl, by decide +kernel, by decide +kernel⟩
abbrev s_end_of : Stmt := top 12
theorem sc_end_of : FnScope ["run"] ["run"] (defScope s_end_of) := ⟨rfl, rfl, rfl, by decide +kernel, rfl, by decide +kernel, by decide +kernel⟩
abbrev s_tie_from : Stmt := top 13
theorem sc_tie_from : FnScope ["run", "page", "tie"] ["run", "page"] (defScope s_tie_from) := ⟨rfl, rfl, rfl, by decide +kernel, rfl, by decide +kernel, by decide +kernel⟩
abbrev s_part_of : Stmt := top 14
theorem sc_part_of : FnScope ["run", "low", "high", "first"] ["run", "low", "high"] (defScope s_part_of) := ⟨rfl, rfl, rfl, by decide +kernel, rfl, by decide +kernel, by decide +kernel⟩
abbrev s_goes_on : Stmt := top 15
theorem sc_goes_on : FnScope ["run", "later"] ["run", "later"] (defScope s_goes_on) := ⟨rfl, rfl, rfl, by decide +kernel, rfl, by decide +kernel, by decide +kernel⟩
abbrev s_joined : Stmt := top 16
theorem sc_joined : FnScope ["runs", "fewer", "run", "last"] ["runs"] (defScope s_joined) := ⟨rfl, rfl, rfl, by decide +kernel, rfl, by decide +kernel, by decide +kernel⟩
abbrev s_Stretches_init : Stmt := inClass (top 17) 0
theorem sc_Stretches_init : FnScope ["self"] ["self"] (defScope s_Stretches_init) := ⟨rfl, rfl, rfl, by decide +kernel, rfl, by decide +kernel, by decide +kernel⟩
abbrev s_Stretches_put : Stmt := inClass (top 17) 1
theorem sc_Stretches_put : FnScope ["self", "first", "many", "rights", "tie"] ["self", "first", "many", "rights", "tie"] (defScope s_Stretches_put) := ⟨rfl, rfl, rfl, by decide +kernel, rfl, by decide +kernel, by decide +kernel⟩
abbrev s_Stretches_cut : Stmt := inClass (top 17) 2
theorem sc_Stretches_cut : FnScope ["self", "first", "many"] ["self", "first", "many"] (defScope s_Stretches_cut) := ⟨rfl, rfl, rfl, by decide +kernel, rfl, by decide +kernel, by decide +kernel⟩
abbrev s_Stretches_guard : Stmt := inClass (top 17) 3
theorem sc_Stretches_guard : FnScope ["self", "first", "many", "rights", "parts"] ["self", "first", "many", "rights"] (defScope s_Stretches_guard) := ⟨rfl, rfl, rfl, by decide +kernel, rfl, by decide +kernel, by decide +kernel⟩
abbrev s_Stretches_check_full : Stmt := inClass (top 17) 4
theorem sc_Stretches_check_full : FnScope ["self", "first", "many"] ["self", "first", "many"] (defScope s_Stretches_check_full) := ⟨rfl, rfl, rfl, by decide +kernel, rfl, by decide +kernel, by decide +kernel⟩
abbrev s_Stretches_is_free : Stmt := inClass (top 17) 7
theorem sc_Stretches_is_free : FnScope ["self", "first", "many"] ["self", "first", "many"] (defScope s_Stretches_is_free) := ⟨rfl, rfl, rfl, by decide +kernel, rfl, by decide +kernel, by decide +kernel⟩
abbrev s_Stretches_is_full : Stmt := inClass (top 17) 8
theorem sc_Stretches_is_full : FnScope ["self", "first", "many"] ["self", "first", "many"] (defScope s_Stretches_is_full) := ⟨rfl, rfl, rfl, by decide +kernel, rfl, by decide +kernel, by decide +kernel⟩
abbrev s_Stretches_is_tied : Stmt := inClass (top 17) 9
theorem sc_Stretches_is_tied : FnScope ["self", "bank"] ["self", "bank"] (defScope s_Stretches_is_tied) := ⟨rfl, rfl, rfl, by decide +kernel, rfl, by decide +kernel, by decide +kernel⟩
abbrev s_Stretches_told : Stmt := inClass (top 17) 10
theorem sc_Stretches_told : FnScope ["self"] ["self"] (defScope s_Stretches_told) := ⟨rfl, rfl, rfl, by decide +kernel, rfl, by decide +kernel, by decide +kernel⟩
abbrev s_Stretches_copied : Stmt := inClass (top 17) 11
theorem sc_Stretches_copied : FnScope ["self", "other"] ["self"] (defScope s_Stretches_copied) := ⟨rfl, rfl, rfl, by decide +kernel, rfl, by decide +kernel, by decide +kernel⟩
abbrev s_Stretches_place_behind : Stmt := inClass (top 17) 12
theorem sc_Stretches_place_behind : FnScope ["self", "page", "low", "high", "middle"] ["self", "page"] (defScope s_Stretches_place_behind) := ⟨rfl, rfl, rfl, by decide +kernel, rfl, by decide +kernel, by decide +kernel⟩
abbrev s_Stretches_parts_amid : Stmt := inClass (top 17) 13
theorem sc_Stretches_parts_amid : FnScope ["self", "first", "many", "end", "near"] ["self", "first", "many"] (defScope s_Stretches_parts_amid) := ⟨rfl, rfl, rfl, by decide +kernel, rfl, by decide +kernel, by decide +kernel⟩
abbrev s_Stretches_lay_amid : Stmt := inClass (top 17) 15
theorem sc_Stretches_lay_amid : FnScope ["self", "first", "many", "parts", "end", "low", "high", "near", "ahead", "behind"] ["self", "first", "many", "parts"] (defScope s_Stretches_lay_amid) := ⟨rfl, rfl, rfl, by decide +kernel, rfl, by decide +kernel, by decide +kernel⟩
abbrev s_l_part : Stmt := top 19
theorem sc_l_part : FnScope ["_law_cell", "_law_place", "_law_many", "_law_prime"] ["_law_cell", "_law_place", "_law_many"] (defScope s_l_part) := ⟨rfl, rfl, rfl, by decide +kernel, rfl, by decide +kernel, by decide +kernel⟩
abbrev s_l_number : Stmt := top 20
theorem sc_l_number : FnScope ["_law_cell", "_law_place"] ["_law_cell", "_law_place"] (defScope s_l_number) := ⟨rfl, rfl, rfl, by decide +kernel, rfl, by decide +kernel, by decide +kernel⟩
abbrev s_l_rows : Stmt := top 21
theorem sc_l_rows : FnScope ["_law_cells", "_law_rows_here", "_law_page", "_law_cell", "_law_many", "_law_tie"] ["_law_cells"] (defScope s_l_rows) := ⟨rfl, rfl, rfl, by decide +kernel, rfl, by decide +kernel, by decide +kernel⟩
abbrev s_l_told_all : Stmt := top 22
theorem sc_l_told_all : FnScope ["_law_some", "_law_dues", "_law_k", "_law_told"] ["_law_some", "_law_dues"] (defScope s_l_told_all) := ⟨rfl, rfl, rfl, by decide +kernel, rfl, by decide +kernel, by decide +kernel⟩
abbrev s_l_step : Stmt := top 23
theorem sc_l_step : FnScope ["_law_one", "_law_due", "_law_cell", "_law_way", "_law_page", "_law_row", "_law_rights"] ["_law_one", "_law_due", "_law_cell"] (defScope s_l_step) := ⟨rfl, rfl, rfl, by decide +kernel, rfl, by decide +kernel, by decide +kernel⟩
abbrev s_law : Stmt := top 24
theorem sc_law : FnScope ["_law_script", "_law_rows_here", "_law_one", "_law_row", "_law_two", "_law_some", "_law_dues", "_law_early", "_law_cell", "_law_at", "_law_told"] ["_law_script"] (defScope s_law) := ⟨rfl, rfl, rfl, by decide +kernel, rfl, by decide +kernel, by decide +kernel⟩
structure Adr where
  C_Stretches : Addr
  C_BadRights : Addr
  C_Taken : Addr
  C_NotMapped : Addr
/-- what the top has made -/
structure Txt (K : PySem.W.Frag) (mg : Str → Option Value) (A : Adr) : Prop where
  b_any : mg "any" = none
  b_bool : mg "bool" = none
  b_int : mg "int" = none
  b_isinstance : mg "isinstance" = none
  b_len : mg "len" = none
  b_list : mg "list" = none
  b_max : mg "max" = none
  b_min : mg "min" = none
  b_range : mg "range" = none
  b_reversed : mg "reversed" = none
  b_sum : mg "sum" = none
  c_MOST_RIGHTS : ∃ u, mg "MOST_RIGHTS" = some u ∧ RelV (.int 3) u
  r_is_whole : Raw K mg "is_whole" "is_whole" s_is_whole ["thing"] []
  r_is_within : Raw K mg "is_within" "is_within" s_is_within ["thing", "low", "high"] []
  r_check_rights : Raw K mg "check_rights" "check_rights" s_check_rights ["rights"] []
  r_end_of : Raw K mg "end_of" "end_of" s_end_of ["run"] []
  r_tie_from : Raw K mg "tie_from" "tie_from" s_tie_from ["run", "page"] []
  r_part_of : Raw K mg "part_of" "part_of" s_part_of ["run", "low", "high"] []
  r_goes_on : Raw K mg "goes_on" "goes_on" s_goes_on ["run", "later"] []
  r_joined : Raw K mg "joined" "joined" s_joined ["runs"] []
  r_l_part : Raw K mg "_law_part" "_law_part" s_l_part ["_law_cell", "_law_place", "_law_many"] []
  r_l_number : Raw K mg "_law_number" "_law_number" s_l_number ["_law_cell", "_law_place"] []
  r_l_rows : Raw K mg "_law_rows" "_law_rows" s_l_rows ["_law_cells"] []
  r_l_told_all : Raw K mg "_law_told_all" "_law_told_all" s_l_told_all ["_law_some", "_law_dues"] []
  r_l_step : Raw K mg "_law_step" "_law_step" s_l_step ["_law_one", "_law_due", "_law_cell"] []
  cl_Stretches : Cls K A.C_Stretches
  na_Stretches_runs : NoAttr K A.C_Stretches "runs"
  r_Stretches_init : RawI K mg "Stretches" A.C_Stretches "Stretches.__init__" s_Stretches_init ["self"] []
  r_Stretches_put : RawMD K A.C_Stretches "put" "Stretches.put" s_Stretches_put ["self", "first", "many", "rights", "tie"] []
  r1_Stretches_put : RawMD K A.C_Stretches "put" "Stretches.put" s_Stretches_put ["self", "first", "many", "rights", "tie"] [.non]
  r_Stretches_cut : RawM K A.C_Stretches "cut" "Stretches.cut" s_Stretches_cut ["self", "first", "many"] []
  r_Stretches_guard : RawM K A.C_Stretches "guard" "Stretches.guard" s_Stretches_guard ["self", "first", "many", "rights"] []
  r_Stretches_check_full : RawM K A.C_Stretches "check_full" "Stretches.check_full" s_Stretches_check_full ["self", "first", "many"] []
  r_Stretches_is_free : RawM K A.C_Stretches "is_free" "Stretches.is_free" s_Stretches_is_free ["self", "first", "many"] []
  r_Stretches_is_full : RawM K A.C_Stretches "is_full" "Stretches.is_full" s_Stretches_is_full ["self", "first", "many"] []
  r_Stretches_is_tied : RawM K A.C_Stretches "is_tied" "Stretches.is_tied" s_Stretches_is_tied ["self", "bank"] []
  r_Stretches_told : RawM K A.C_Stretches "told" "Stretches.told" s_Stretches_told ["self"] []
  r_Stretches_copied : RawM K A.C_Stretches "copied" "Stretches.copied" s_Stretches_copied ["self"] []
  r_Stretches_place_behind : RawM K A.C_Stretches "place_behind" "Stretches.place_behind" s_Stretches_place_behind ["self", "page"] []
  r_Stretches_parts_amid : RawM K A.C_Stretches "parts_amid" "Stretches.parts_amid" s_Stretches_parts_amid ["self", "first", "many"] []
  r_Stretches_lay_amid : RawM K A.C_Stretches "lay_amid" "Stretches.lay_amid" s_Stretches_lay_amid ["self", "first", "many", "parts"] []
  m_BadRights : ∃ u, mg "BadRights" = some u ∧ RelV (.ref A.C_BadRights) u
  x_BadRights : XC K mg "BadRights" A.C_BadRights
  m_Taken : ∃ u, mg "Taken" = some u ∧ RelV (.ref A.C_Taken) u
  x_Taken : XC K mg "Taken" A.C_Taken
  m_NotMapped : ∃ u, mg "NotMapped" = some u ∧ RelV (.ref A.C_NotMapped) u
  x_NotMapped : XC K mg "NotMapped" A.C_NotMapped
  r_law : ∃ f fd, mg "law" = some (.ref f) ∧ Fun K "law" "law" s_law f fd ∧ ∀ (s : Shared) (u : Value), BindsTo s fd ⟨[u], []⟩ [("_law_script", u)]
theorem el1 {P : List Value → Prop} (h : ∀ a0, P [a0]) : ∀ us : List Value, us.length = 1 → P us
  | [a0], _ => h a0
theorem el2 {P : List Value → Prop} (h : ∀ a0 a1, P [a0, a1]) : ∀ us : List Value, us.length = 2 → P us
  | [a0, a1], _ => h a0 a1
theorem el3 {P : List Value → Prop} (h : ∀ a0 a1 a2, P [a0, a1, a2]) : ∀ us : List Value, us.length = 3 → P us
  | [a0, a1, a2], _ => h a0 a1 a2
theorem el4 {P : List Value → Prop} (h : ∀ a0 a1 a2 a3, P [a0, a1, a2, a3]) : ∀ us : List Value, us.length = 4 → P us
  | [a0, a1, a2, a3], _ => h a0 a1 a2 a3
theorem txt_mk {K : PySem.W.Frag} {h : Heap} {mg : Str → Option Value} (X : K.In h) (G : h.Ns mainGlobals mg)
    {C_NotMapped : Addr}
    {C_Taken : Addr}
    {C_BadRights : Addr}
    {C_Stretches : Addr}
    {t_MOST_RIGHTS : Tok}
    {f_is_whole : Addr} {od_is_whole an_is_whole : Option Addr} {sl_is_whole : Array (Option Value)} {oc_is_whole kV_is_whole dc_is_whole pm_is_whole cd_is_whole ct_is_whole : Value}
    {f_is_within : Addr} {od_is_within an_is_within : Option Addr} {sl_is_within : Array (Option Value)} {oc_is_within kV_is_within dc_is_within pm_is_within cd_is_within ct_is_within : Value}
    {f_check_rights : Addr} {od_check_rights an_check_rights : Option Addr} {sl_check_rights : Array (Option Value)} {oc_check_rights kV_check_rights dc_check_rights pm_check_rights cd_check_rights ct_check_rights : Value}
    {f_end_of : Addr} {od_end_of an_end_of : Option Addr} {sl_end_of : Array (Option Value)} {oc_end_of kV_end_of dc_end_of pm_end_of cd_end_of ct_end_of : Value}
    {f_tie_from : Addr} {od_tie_from an_tie_from : Option Addr} {sl_tie_from : Array (Option Value)} {oc_tie_from kV_tie_from dc_tie_from pm_tie_from cd_tie_from ct_tie_from : Value}
    {f_part_of : Addr} {od_part_of an_part_of : Option Addr} {sl_part_of : Array (Option Value)} {oc_part_of kV_part_of dc_part_of pm_part_of cd_part_of ct_part_of : Value}
    {f_goes_on : Addr} {od_goes_on an_goes_on : Option Addr} {sl_goes_on : Array (Option Value)} {oc_goes_on kV_goes_on dc_goes_on pm_goes_on cd_goes_on ct_goes_on : Value}
    {f_joined : Addr} {od_joined an_joined : Option Addr} {sl_joined : Array (Option Value)} {oc_joined kV_joined dc_joined pm_joined cd_joined ct_joined : Value}
    {f_l_part : Addr} {od_l_part an_l_part : Option Addr} {sl_l_part : Array (Option Value)} {oc_l_part kV_l_part dc_l_part pm_l_part cd_l_part ct_l_part : Value}
    {f_l_number : Addr} {od_l_number an_l_number : Option Addr} {sl_l_number : Array (Option Value)} {oc_l_number kV_l_number dc_l_number pm_l_number cd_l_number ct_l_number : Value}
    {f_l_rows : Addr} {od_l_rows an_l_rows : Option Addr} {sl_l_rows : Array (Option Value)} {oc_l_rows kV_l_rows dc_l_rows pm_l_rows cd_l_rows ct_l_rows : Value}
    {f_l_told_all : Addr} {od_l_told_all an_l_told_all : Option Addr} {sl_l_told_all : Array (Option Value)} {oc_l_told_all kV_l_told_all dc_l_told_all pm_l_told_all cd_l_told_all ct_l_told_all : Value}
    {f_l_step : Addr} {od_l_step an_l_step : Option Addr} {sl_l_step : Array (Option Value)} {oc_l_step kV_l_step dc_l_step pm_l_step cd_l_step ct_l_step : Value}
    {f_Stretches_init : Addr} {od_Stretches_init an_Stretches_init : Option Addr} {sl_Stretches_init : Array (Option Value)} {oc_Stretches_init kV_Stretches_init dc_Stretches_init pm_Stretches_init cd_Stretches_init ct_Stretches_init : Value}
    {f_Stretches_put tu_Stretches_put : Addr} {od_Stretches_put an_Stretches_put ud_Stretches_put : Option Addr} {sl_Stretches_put us_Stretches_put : Array (Option Value)} {oc_Stretches_put kV_Stretches_put dc_Stretches_put pm_Stretches_put cd_Stretches_put ct_Stretches_put uo_Stretches_put : Value} {un_Stretches_put : Nat}
    {f_Stretches_cut : Addr} {od_Stretches_cut an_Stretches_cut : Option Addr} {sl_Stretches_cut : Array (Option Value)} {oc_Stretches_cut kV_Stretches_cut dc_Stretches_cut pm_Stretches_cut cd_Stretches_cut ct_Stretches_cut : Value}
    {f_Stretches_guard : Addr} {od_Stretches_guard an_Stretches_guard : Option Addr} {sl_Stretches_guard : Array (Option Value)} {oc_Stretches_guard kV_Stretches_guard dc_Stretches_guard pm_Stretches_guard cd_Stretches_guard ct_Stretches_guard : Value}
    {f_Stretches_check_full : Addr} {od_Stretches_check_full an_Stretches_check_full : Option Addr} {sl_Stretches_check_full : Array (Option Value)} {oc_Stretches_check_full kV_Stretches_check_full dc_Stretches_check_full pm_Stretches_check_full cd_Stretches_check_full ct_Stretches_check_full : Value}
    {f_Stretches_is_free : Addr} {od_Stretches_is_free an_Stretches_is_free : Option Addr} {sl_Stretches_is_free : Array (Option Value)} {oc_Stretches_is_free kV_Stretches_is_free dc_Stretches_is_free pm_Stretches_is_free cd_Stretches_is_free ct_Stretches_is_free : Value}
    {f_Stretches_is_full : Addr} {od_Stretches_is_full an_Stretches_is_full : Option Addr} {sl_Stretches_is_full : Array (Option Value)} {oc_Stretches_is_full kV_Stretches_is_full dc_Stretches_is_full pm_Stretches_is_full cd_Stretches_is_full ct_Stretches_is_full : Value}
    {f_Stretches_is_tied : Addr} {od_Stretches_is_tied an_Stretches_is_tied : Option Addr} {sl_Stretches_is_tied : Array (Option Value)} {oc_Stretches_is_tied kV_Stretches_is_tied dc_Stretches_is_tied pm_Stretches_is_tied cd_Stretches_is_tied ct_Stretches_is_tied : Value}
    {f_Stretches_told : Addr} {od_Stretches_told an_Stretches_told : Option Addr} {sl_Stretches_told : Array (Option Value)} {oc_Stretches_told kV_Stretches_told dc_Stretches_told pm_Stretches_told cd_Stretches_told ct_Stretches_told : Value}
    {f_Stretches_copied : Addr} {od_Stretches_copied an_Stretches_copied : Option Addr} {sl_Stretches_copied : Array (Option Value)} {oc_Stretches_copied kV_Stretches_copied dc_Stretches_copied pm_Stretches_copied cd_Stretches_copied ct_Stretches_copied : Value}
    {f_Stretches_place_behind : Addr} {od_Stretches_place_behind an_Stretches_place_behind : Option Addr} {sl_Stretches_place_behind : Array (Option Value)} {oc_Stretches_place_behind kV_Stretches_place_behind dc_Stretches_place_behind pm_Stretches_place_behind cd_Stretches_place_behind ct_Stretches_place_behind : Value}
    {f_Stretches_parts_amid : Addr} {od_Stretches_parts_amid an_Stretches_parts_amid : Option Addr} {sl_Stretches_parts_amid : Array (Option Value)} {oc_Stretches_parts_amid kV_Stretches_parts_amid dc_Stretches_parts_amid pm_Stretches_parts_amid cd_Stretches_parts_amid ct_Stretches_parts_amid : Value}
    {f_Stretches_lay_amid : Addr} {od_Stretches_lay_amid an_Stretches_lay_amid : Option Addr} {sl_Stretches_lay_amid : Array (Option Value)} {oc_Stretches_lay_amid kV_Stretches_lay_amid dc_Stretches_lay_amid pm_Stretches_lay_amid cd_Stretches_lay_amid ct_Stretches_lay_amid : Value}
    {f_law : Addr} {od_law an_law : Option Addr} {sl_law : Array (Option Value)} {oc_law kV_law dc_law pm_law cd_law ct_law : Value}
    (a_NotMapped : PySem.W.nsIn K mainGlobals "NotMapped" = some (some (.ref C_NotMapped)))
    (a_Taken : PySem.W.nsIn K mainGlobals "Taken" = some (some (.ref C_Taken)))
    (a_BadRights : PySem.W.nsIn K mainGlobals "BadRights" = some (some (.ref C_BadRights)))
    (a_Stretches : PySem.W.nsIn K mainGlobals "Stretches" = some (some (.ref C_Stretches)))
    (zb_any : PySem.W.nsIn K mainGlobals "any" = some none)
    (zb_bool : PySem.W.nsIn K mainGlobals "bool" = some none)
    (zb_int : PySem.W.nsIn K mainGlobals "int" = some none)
    (zb_isinstance : PySem.W.nsIn K mainGlobals "isinstance" = some none)
    (zb_len : PySem.W.nsIn K mainGlobals "len" = some none)
    (zb_list : PySem.W.nsIn K mainGlobals "list" = some none)
    (zb_max : PySem.W.nsIn K mainGlobals "max" = some none)
    (zb_min : PySem.W.nsIn K mainGlobals "min" = some none)
    (zb_range : PySem.W.nsIn K mainGlobals "range" = some none)
    (zb_reversed : PySem.W.nsIn K mainGlobals "reversed" = some none)
    (zb_sum : PySem.W.nsIn K mainGlobals "sum" = some none)
    (zc_MOST_RIGHTS : PySem.W.nsIn K mainGlobals "MOST_RIGHTS" = some (some (.int 3 t_MOST_RIGHTS)))
    (a_is_whole_ : PySem.W.nsIn K mainGlobals "is_whole" = some (some (.ref f_is_whole)))
    (l_is_whole_ : K.lookup f_is_whole = some ⟨oc_is_whole, od_is_whole, .func (PySem.W.fnOf "is_whole" "is_whole" (defArgs s_is_whole) (defBody s_is_whole) (defScope s_is_whole) .none kV_is_whole dc_is_whole pm_is_whole an_is_whole cd_is_whole ct_is_whole), sl_is_whole⟩)
    (c_is_whole_ : PySem.W.codeIn K cd_is_whole "is_whole" = true)
    (k_is_whole_ : PySem.W.keepIn K (.ref f_is_whole) = true)
    (a_is_within_ : PySem.W.nsIn K mainGlobals "is_within" = some (some (.ref f_is_within)))
    (l_is_within_ : K.lookup f_is_within = some ⟨oc_is_within, od_is_within, .func (PySem.W.fnOf "is_within" "is_within" (defArgs s_is_within) (defBody s_is_within) (defScope s_is_within) .none kV_is_within dc_is_within pm_is_within an_is_within cd_is_within ct_is_within), sl_is_within⟩)
    (c_is_within_ : PySem.W.codeIn K cd_is_within "is_within" = true)
    (k_is_within_ : PySem.W.keepIn K (.ref f_is_within) = true)
    (a_check_rights_ : PySem.W.nsIn K mainGlobals "check_rights" = some (some (.ref f_check_rights)))
    (l_check_rights_ : K.lookup f_check_rights = some ⟨oc_check_rights, od_check_rights, .func (PySem.W.fnOf "check_rights" "check_rights" (defArgs s_check_rights) (defBody s_check_rights) (defScope s_check_rights) .none kV_check_rights dc_check_rights pm_check_rights an_check_rights cd_check_rights ct_check_rights), sl_check_rights⟩)
    (c_check_rights_ : PySem.W.codeIn K cd_check_rights "check_rights" = true)
    (k_check_rights_ : PySem.W.keepIn K (.ref f_check_rights) = true)
    (a_end_of_ : PySem.W.nsIn K mainGlobals "end_of" = some (some (.ref f_end_of)))
    (l_end_of_ : K.lookup f_end_of = some ⟨oc_end_of, od_end_of, .func (PySem.W.fnOf "end_of" "end_of" (defArgs s_end_of) (defBody s_end_of) (defScope s_end_of) .none kV_end_of dc_end_of pm_end_of an_end_of cd_end_of ct_end_of), sl_end_of⟩)
    (c_end_of_ : PySem.W.codeIn K cd_end_of "end_of" = true)
    (k_end_of_ : PySem.W.keepIn K (.ref f_end_of) = true)
    (a_tie_from_ : PySem.W.nsIn K mainGlobals "tie_from" = some (some (.ref f_tie_from)))
    (l_tie_from_ : K.lookup f_tie_from = some ⟨oc_tie_from, od_tie_from, .func (PySem.W.fnOf "tie_from" "tie_from" (defArgs s_tie_from) (defBody s_tie_from) (defScope s_tie_from) .none kV_tie_from dc_tie_from pm_tie_from an_tie_from cd_tie_from ct_tie_from), sl_tie_from⟩)
    (c_tie_from_ : PySem.W.codeIn K cd_tie_from "tie_from" = true)
    (k_tie_from_ : PySem.W.keepIn K (.ref f_tie_from) = true)
    (a_part_of_ : PySem.W.nsIn K mainGlobals "part_of" = some (some (.ref f_part_of)))
    (l_part_of_ : K.lookup f_part_of = some ⟨oc_part_of, od_part_of, .func (PySem.W.fnOf "part_of" "part_of" (defArgs s_part_of) (defBody s_part_of) (defScope s_part_of) .none kV_part_of dc_part_of pm_part_of an_part_of cd_part_of ct_part_of), sl_part_of⟩)
    (c_part_of_ : PySem.W.codeIn K cd_part_of "part_of" = true)
    (k_part_of_ : PySem.W.keepIn K (.ref f_part_of) = true)
    (a_goes_on_ : PySem.W.nsIn K mainGlobals "goes_on" = some (some (.ref f_goes_on)))
    (l_goes_on_ : K.lookup f_goes_on = some ⟨oc_goes_on, od_goes_on, .func (PySem.W.fnOf "goes_on" "goes_on" (defArgs s_goes_on) (defBody s_goes_on) (defScope s_goes_on) .none kV_goes_on dc_goes_on pm_goes_on an_goes_on cd_goes_on ct_goes_on), sl_goes_on⟩)
    (c_goes_on_ : PySem.W.codeIn K cd_goes_on "goes_on" = true)
    (k_goes_on_ : PySem.W.keepIn K (.ref f_goes_on) = true)
    (a_joined_ : PySem.W.nsIn K mainGlobals "joined" = some (some (.ref f_joined)))
    (l_joined_ : K.lookup f_joined = some ⟨oc_joined, od_joined, .func (PySem.W.fnOf "joined" "joined" (defArgs s_joined) (defBody s_joined) (defScope s_joined) .none kV_joined dc_joined pm_joined an_joined cd_joined ct_joined), sl_joined⟩)
    (c_joined_ : PySem.W.codeIn K cd_joined "joined" = true)
    (k_joined_ : PySem.W.keepIn K (.ref f_joined) = true)
    (a_l_part_ : PySem.W.nsIn K mainGlobals "_law_part" = some (some (.ref f_l_part)))
    (l_l_part_ : K.lookup f_l_part = some ⟨oc_l_part, od_l_part, .func (PySem.W.fnOf "_law_part" "_law_part" (defArgs s_l_part) (defBody s_l_part) (defScope s_l_part) .none kV_l_part dc_l_part pm_l_part an_l_part cd_l_part ct_l_part), sl_l_part⟩)
    (c_l_part_ : PySem.W.codeIn K cd_l_part "_law_part" = true)
    (k_l_part_ : PySem.W.keepIn K (.ref f_l_part) = true)
    (a_l_number_ : PySem.W.nsIn K mainGlobals "_law_number" = some (some (.ref f_l_number)))
    (l_l_number_ : K.lookup f_l_number = some ⟨oc_l_number, od_l_number, .func (PySem.W.fnOf "_law_number" "_law_number" (defArgs s_l_number) (defBody s_l_number) (defScope s_l_number) .none kV_l_number dc_l_number pm_l_number an_l_number cd_l_number ct_l_number), sl_l_number⟩)
    (c_l_number_ : PySem.W.codeIn K cd_l_number "_law_number" = true)
    (k_l_number_ : PySem.W.keepIn K (.ref f_l_number) = true)
    (a_l_rows_ : PySem.W.nsIn K mainGlobals "_law_rows" = some (some (.ref f_l_rows)))
    (l_l_rows_ : K.lookup f_l_rows = some ⟨oc_l_rows, od_l_rows, .func (PySem.W.fnOf "_law_rows" "_law_rows" (defArgs s_l_rows) (defBody s_l_rows) (defScope s_l_rows) .none kV_l_rows dc_l_rows pm_l_rows an_l_rows cd_l_rows ct_l_rows), sl_l_rows⟩)
    (c_l_rows_ : PySem.W.codeIn K cd_l_rows "_law_rows" = true)
    (k_l_rows_ : PySem.W.keepIn K (.ref f_l_rows) = true)
    (a_l_told_all_ : PySem.W.nsIn K mainGlobals "_law_told_all" = some (some (.ref f_l_told_all)))
    (l_l_told_all_ : K.lookup f_l_told_all = some ⟨oc_l_told_all, od_l_told_all, .func (PySem.W.fnOf "_law_told_all" "_law_told_all" (defArgs s_l_told_all) (defBody s_l_told_all) (defScope s_l_told_all) .none kV_l_told_all dc_l_told_all pm_l_told_all an_l_told_all cd_l_told_all ct_l_told_all), sl_l_told_all⟩)
    (c_l_told_all_ : PySem.W.codeIn K cd_l_told_all "_law_told_all" = true)
    (k_l_told_all_ : PySem.W.keepIn K (.ref f_l_told_all) = true)
    (a_l_step_ : PySem.W.nsIn K mainGlobals "_law_step" = some (some (.ref f_l_step)))
    (l_l_step_ : K.lookup f_l_step = some ⟨oc_l_step, od_l_step, .func (PySem.W.fnOf "_law_step" "_law_step" (defArgs s_l_step) (defBody s_l_step) (defScope s_l_step) .none kV_l_step dc_l_step pm_l_step an_l_step cd_l_step ct_l_step), sl_l_step⟩)
    (c_l_step_ : PySem.W.codeIn K cd_l_step "_law_step" = true)
    (k_l_step_ : PySem.W.keepIn K (.ref f_l_step) = true)
    (pg_Stretches : PySem.W.plainGet K C_Stretches Str.empty = true)
    (hd_Stretches : PySem.W.hasDictIn K C_Stretches = true)
    (po_Stretches : PySem.W.plainOver K C_Stretches = true)
    (sa_Stretches : PySem.W.findIn K (.ref C_Stretches) "__setattr__" = some (some (.builtin "object.__setattr__")))
    (zn_Stretches_runs : PySem.W.findIn K (.ref C_Stretches) "runs" = some none)
    (mk_Stretches : PySem.W.makesIn K C_Stretches = true)
    (kc_Stretches : PySem.W.keepIn K (.ref C_Stretches) = true)
    (a_Stretches_init_ : PySem.W.findIn K (.ref C_Stretches) "__init__" = some (some (.ref f_Stretches_init)))
    (i_Stretches_init_ : PySem.W.isFn K (.ref f_Stretches_init) = true)
    (l_Stretches_init_ : K.lookup f_Stretches_init = some ⟨oc_Stretches_init, od_Stretches_init, .func (PySem.W.fnOf "__init__" "Stretches.__init__" (defArgs s_Stretches_init) (defBody s_Stretches_init) (defScope s_Stretches_init) .none kV_Stretches_init dc_Stretches_init pm_Stretches_init an_Stretches_init cd_Stretches_init ct_Stretches_init), sl_Stretches_init⟩)
    (c_Stretches_init_ : PySem.W.codeIn K cd_Stretches_init "Stretches.__init__" = true)
    (k_Stretches_init_ : PySem.W.keepIn K (.ref f_Stretches_init) = true)
    (a_Stretches_put_ : PySem.W.findIn K (.ref C_Stretches) "put" = some (some (.ref f_Stretches_put)))
    (i_Stretches_put_ : PySem.W.isFn K (.ref f_Stretches_put) = true)
    (l_Stretches_put_ : K.lookup f_Stretches_put = some ⟨oc_Stretches_put, od_Stretches_put, .func (PySem.W.fnOf "put" "Stretches.put" (defArgs s_Stretches_put) (defBody s_Stretches_put) (defScope s_Stretches_put) (.ref tu_Stretches_put) kV_Stretches_put dc_Stretches_put pm_Stretches_put an_Stretches_put cd_Stretches_put ct_Stretches_put), sl_Stretches_put⟩)
    (u_Stretches_put_ : K.lookup tu_Stretches_put = some ⟨uo_Stretches_put, ud_Stretches_put, .seq #[.none] un_Stretches_put, us_Stretches_put⟩)
    (c_Stretches_put_ : PySem.W.codeIn K cd_Stretches_put "Stretches.put" = true)
    (k_Stretches_put_ : PySem.W.keepIn K (.ref f_Stretches_put) = true)
    (a_Stretches_cut_ : PySem.W.findIn K (.ref C_Stretches) "cut" = some (some (.ref f_Stretches_cut)))
    (i_Stretches_cut_ : PySem.W.isFn K (.ref f_Stretches_cut) = true)
    (l_Stretches_cut_ : K.lookup f_Stretches_cut = some ⟨oc_Stretches_cut, od_Stretches_cut, .func (PySem.W.fnOf "cut" "Stretches.cut" (defArgs s_Stretches_cut) (defBody s_Stretches_cut) (defScope s_Stretches_cut) .none kV_Stretches_cut dc_Stretches_cut pm_Stretches_cut an_Stretches_cut cd_Stretches_cut ct_Stretches_cut), sl_Stretches_cut⟩)
    (c_Stretches_cut_ : PySem.W.codeIn K cd_Stretches_cut "Stretches.cut" = true)
    (k_Stretches_cut_ : PySem.W.keepIn K (.ref f_Stretches_cut) = true)
    (a_Stretches_guard_ : PySem.W.findIn K (.ref C_Stretches) "guard" = some (some (.ref f_Stretches_guard)))
    (i_Stretches_guard_ : PySem.W.isFn K (.ref f_Stretches_guard) = true)
    (l_Stretches_guard_ : K.lookup f_Stretches_guard = some ⟨oc_Stretches_guard, od_Stretches_guard, .func (PySem.W.fnOf "guard" "Stretches.guard" (defArgs s_Stretches_guard) (defBody s_Stretches_guard) (defScope s_Stretches_guard) .none kV_Stretches_guard dc_Stretches_guard pm_Stretches_guard an_Stretches_guard cd_Stretches_guard ct_Stretches_guard), sl_Stretches_guard⟩)
    (c_Stretches_guard_ : PySem.W.codeIn K cd_Stretches_guard "Stretches.guard" = true)
    (k_Stretches_guard_ : PySem.W.keepIn K (.ref f_Stretches_guard) = true)
    (a_Stretches_check_full_ : PySem.W.findIn K (.ref C_Stretches) "check_full" = some (some (.ref f_Stretches_check_full)))
    (i_Stretches_check_full_ : PySem.W.isFn K (.ref f_Stretches_check_full) = true)
    (l_Stretches_check_full_ : K.lookup f_Stretches_check_full = some ⟨oc_Stretches_check_full, od_Stretches_check_full, .func (PySem.W.fnOf "check_full" "Stretches.check_full" (defArgs s_Stretches_check_full) (defBody s_Stretches_check_full) (defScope s_Stretches_check_full) .none kV_Stretches_check_full dc_Stretches_check_full pm_Stretches_check_full an_Stretches_check_full cd_Stretches_check_full ct_Stretches_check_full), sl_Stretches_check_full⟩)
    (c_Stretches_check_full_ : PySem.W.codeIn K cd_Stretches_check_full "Stretches.check_full" = true)
    (k_Stretches_check_full_ : PySem.W.keepIn K (.ref f_Stretches_check_full) = true)
    (a_Stretches_is_free_ : PySem.W.findIn K (.ref C_Stretches) "is_free" = some (some (.ref f_Stretches_is_free)))
    (i_Stretches_is_free_ : PySem.W.isFn K (.ref f_Stretches_is_free) = true)
    (l_Stretches_is_free_ : K.lookup f_Stretches_is_free = some ⟨oc_Stretches_is_free, od_Stretches_is_free, .func (PySem.W.fnOf "is_free" "Stretches.is_free" (defArgs s_Stretches_is_free) (defBody s_Stretches_is_free) (defScope s_Stretches_is_free) .none kV_Stretches_is_free dc_Stretches_is_free pm_Stretches_is_free an_Stretches_is_free cd_Stretches_is_free ct_Stretches_is_free), sl_Stretches_is_free⟩)
    (c_Stretches_is_free_ : PySem.W.codeIn K cd_Stretches_is_free "Stretches.is_free" = true)
    (k_Stretches_is_free_ : PySem.W.keepIn K (.ref f_Stretches_is_free) = true)
    (a_Stretches_is_full_ : PySem.W.findIn K (.ref C_Stretches) "is_full" = some (some (.ref f_Stretches_is_full)))
    (i_Stretches_is_full_ : PySem.W.isFn K (.ref f_Stretches_is_full) = true)
    (l_Stretches_is_full_ : K.lookup f_Stretches_is_full = some ⟨oc_Stretches_is_full, od_Stretches_is_full, .func (PySem.W.fnOf "is_full" "Stretches.is_full" (defArgs s_Stretches_is_full) (defBody s_Stretches_is_full) (defScope s_Stretches_is_full) .none kV_Stretches_is_full dc_Stretches_is_full pm_Stretches_is_full an_Stretches_is_full cd_Stretches_is_full ct_Stretches_is_full), sl_Stretches_is_full⟩)
    (c_Stretches_is_full_ : PySem.W.codeIn K cd_Stretches_is_full "Stretches.is_full" = true)
    (k_Stretches_is_full_ : PySem.W.keepIn K (.ref f_Stretches_is_full) = true)
    (a_Stretches_is_tied_ : PySem.W.findIn K (.ref C_Stretches) "is_tied" = some (some (.ref f_Stretches_is_tied)))
    (i_Stretches_is_tied_ : PySem.W.isFn K (.ref f_Stretches_is_tied) = true)
    (l_Stretches_is_tied_ : K.lookup f_Stretches_is_tied = some ⟨oc_Stretches_is_tied, od_Stretches_is_tied, .func (PySem.W.fnOf "is_tied" "Stretches.is_tied" (defArgs s_Stretches_is_tied) (defBody s_Stretches_is_tied) (defScope s_Stretches_is_tied) .none kV_Stretches_is_tied dc_Stretches_is_tied pm_Stretches_is_tied an_Stretches_is_tied cd_Stretches_is_tied ct_Stretches_is_tied), sl_Stretches_is_tied⟩)
    (c_Stretches_is_tied_ : PySem.W.codeIn K cd_Stretches_is_tied "Stretches.is_tied" = true)
    (k_Stretches_is_tied_ : PySem.W.keepIn K (.ref f_Stretches_is_tied) = true)
    (a_Stretches_told_ : PySem.W.findIn K (.ref C_Stretches) "told" = some (some (.ref f_Stretches_told)))
    (i_Stretches_told_ : PySem.W.isFn K (.ref f_Stretches_told) = true)
    (l_Stretches_told_ : K.lookup f_Stretches_told = some ⟨oc_Stretches_told, od_Stretches_told, .func (PySem.W.fnOf "told" "Stretches.told" (defArgs s_Stretches_told) (defBody s_Stretches_told) (defScope s_Stretches_told) .none kV_Stretches_told dc_Stretches_told pm_Stretches_told an_Stretches_told cd_Stretches_told ct_Stretches_told), sl_Stretches_told⟩)
    (c_Stretches_told_ : PySem.W.codeIn K cd_Stretches_told "Stretches.told" = true)
    (k_Stretches_told_ : PySem.W.keepIn K (.ref f_Stretches_told) = true)
    (a_Stretches_copied_ : PySem.W.findIn K (.ref C_Stretches) "copied" = some (some (.ref f_Stretches_copied)))
    (i_Stretches_copied_ : PySem.W.isFn K (.ref f_Stretches_copied) = true)
    (l_Stretches_copied_ : K.lookup f_Stretches_copied = some ⟨oc_Stretches_copied, od_Stretches_copied, .func (PySem.W.fnOf "copied" "Stretches.copied" (defArgs s_Stretches_copied) (defBody s_Stretches_copied) (defScope s_Stretches_copied) .none kV_Stretches_copied dc_Stretches_copied pm_Stretches_copied an_Stretches_copied cd_Stretches_copied ct_Stretches_copied), sl_Stretches_copied⟩)
    (c_Stretches_copied_ : PySem.W.codeIn K cd_Stretches_copied "Stretches.copied" = true)
    (k_Stretches_copied_ : PySem.W.keepIn K (.ref f_Stretches_copied) = true)
    (a_Stretches_place_behind_ : PySem.W.findIn K (.ref C_Stretches) "place_behind" = some (some (.ref f_Stretches_place_behind)))
    (i_Stretches_place_behind_ : PySem.W.isFn K (.ref f_Stretches_place_behind) = true)
    (l_Stretches_place_behind_ : K.lookup f_Stretches_place_behind = some ⟨oc_Stretches_place_behind, od_Stretches_place_behind, .func (PySem.W.fnOf "place_behind" "Stretches.place_behind" (defArgs s_Stretches_place_behind) (defBody s_Stretches_place_behind) (defScope s_Stretches_place_behind) .none kV_Stretches_place_behind dc_Stretches_place_behind pm_Stretches_place_behind an_Stretches_place_behind cd_Stretches_place_behind ct_Stretches_place_behind), sl_Stretches_place_behind⟩)
    (c_Stretches_place_behind_ : PySem.W.codeIn K cd_Stretches_place_behind "Stretches.place_behind" = true)
    (k_Stretches_place_behind_ : PySem.W.keepIn K (.ref f_Stretches_place_behind) = true)
    (a_Stretches_parts_amid_ : PySem.W.findIn K (.ref C_Stretches) "parts_amid" = some (some (.ref f_Stretches_parts_amid)))
    (i_Stretches_parts_amid_ : PySem.W.isFn K (.ref f_Stretches_parts_amid) = true)
    (l_Stretches_parts_amid_ : K.lookup f_Stretches_parts_amid = some ⟨oc_Stretches_parts_amid, od_Stretches_parts_amid, .func (PySem.W.fnOf "parts_amid" "Stretches.parts_amid" (defArgs s_Stretches_parts_amid) (defBody s_Stretches_parts_amid) (defScope s_Stretches_parts_amid) .none kV_Stretches_parts_amid dc_Stretches_parts_amid pm_Stretches_parts_amid an_Stretches_parts_amid cd_Stretches_parts_amid ct_Stretches_parts_amid), sl_Stretches_parts_amid⟩)
    (c_Stretches_parts_amid_ : PySem.W.codeIn K cd_Stretches_parts_amid "Stretches.parts_amid" = true)
    (k_Stretches_parts_amid_ : PySem.W.keepIn K (.ref f_Stretches_parts_amid) = true)
    (a_Stretches_lay_amid_ : PySem.W.findIn K (.ref C_Stretches) "lay_amid" = some (some (.ref f_Stretches_lay_amid)))
    (i_Stretches_lay_amid_ : PySem.W.isFn K (.ref f_Stretches_lay_amid) = true)
    (l_Stretches_lay_amid_ : K.lookup f_Stretches_lay_amid = some ⟨oc_Stretches_lay_amid, od_Stretches_lay_amid, .func (PySem.W.fnOf "lay_amid" "Stretches.lay_amid" (defArgs s_Stretches_lay_amid) (defBody s_Stretches_lay_amid) (defScope s_Stretches_lay_amid) .none kV_Stretches_lay_amid dc_Stretches_lay_amid pm_Stretches_lay_amid an_Stretches_lay_amid cd_Stretches_lay_amid ct_Stretches_lay_amid), sl_Stretches_lay_amid⟩)
    (c_Stretches_lay_amid_ : PySem.W.codeIn K cd_Stretches_lay_amid "Stretches.lay_amid" = true)
    (k_Stretches_lay_amid_ : PySem.W.keepIn K (.ref f_Stretches_lay_amid) = true)
    (ze_BadRights : PySem.W.excIn K C_BadRights mroVE "ValueError.__new__" = true)
    (ze_Taken : PySem.W.excIn K C_Taken mroVE "ValueError.__new__" = true)
    (ze_NotMapped : PySem.W.excIn K C_NotMapped mroVE "ValueError.__new__" = true)
    (a_law_ : PySem.W.nsIn K mainGlobals "law" = some (some (.ref f_law)))
    (l_law_ : K.lookup f_law = some ⟨oc_law, od_law, .func (PySem.W.fnOf "law" "law" (defArgs s_law) (defBody s_law) (defScope s_law) .none kV_law dc_law pm_law an_law cd_law ct_law), sl_law⟩)
    (c_law_ : PySem.W.codeIn K cd_law "law" = true)
    (k_law_ : PySem.W.keepIn K (.ref f_law) = true)
    : ∃ A : Adr, Txt K mg A := ⟨⟨C_Stretches, C_BadRights, C_Taken, C_NotMapped⟩, {
      b_any := PySem.W.mg_none_of X G zb_any
      b_bool := PySem.W.mg_none_of X G zb_bool
      b_int := PySem.W.mg_none_of X G zb_int
      b_isinstance := PySem.W.mg_none_of X G zb_isinstance
      b_len := PySem.W.mg_none_of X G zb_len
      b_list := PySem.W.mg_none_of X G zb_list
      b_max := PySem.W.mg_none_of X G zb_max
      b_min := PySem.W.mg_none_of X G zb_min
      b_range := PySem.W.mg_none_of X G zb_range
      b_reversed := PySem.W.mg_none_of X G zb_reversed
      b_sum := PySem.W.mg_none_of X G zb_sum
      c_MOST_RIGHTS := ⟨_, PySem.W.mg_of X G zc_MOST_RIGHTS, ⟨_, rfl⟩⟩
      r_is_whole := ⟨_, _, _, PySem.W.mg_of X G a_is_whole_, fun_mk (st := s_is_whole) l_is_whole_ c_is_whole_ k_is_whole_, (fun_mk (st := s_is_whole) l_is_whole_ c_is_whole_ k_is_whole_).binds (ps := ["thing"]) fun _ _ _ _ _ _ => el1 (fun _ => rfl), .nil⟩
      r_is_within := ⟨_, _, _, PySem.W.mg_of X G a_is_within_, fun_mk (st := s_is_within) l_is_within_ c_is_within_ k_is_within_, (fun_mk (st := s_is_within) l_is_within_ c_is_within_ k_is_within_).binds (ps := ["thing", "low", "high"]) fun _ _ _ _ _ _ => el3 (fun _ _ _ => rfl), .nil⟩
      r_check_rights := ⟨_, _, _, PySem.W.mg_of X G a_check_rights_, fun_mk (st := s_check_rights) l_check_rights_ c_check_rights_ k_check_rights_, (fun_mk (st := s_check_rights) l_check_rights_ c_check_rights_ k_check_rights_).binds (ps := ["rights"]) fun _ _ _ _ _ _ => el1 (fun _ => rfl), .nil⟩
      r_end_of := ⟨_, _, _, PySem.W.mg_of X G a_end_of_, fun_mk (st := s_end_of) l_end_of_ c_end_of_ k_end_of_, (fun_mk (st := s_end_of) l_end_of_ c_end_of_ k_end_of_).binds (ps := ["run"]) fun _ _ _ _ _ _ => el1 (fun _ => rfl), .nil⟩
      r_tie_from := ⟨_, _, _, PySem.W.mg_of X G a_tie_from_, fun_mk (st := s_tie_from) l_tie_from_ c_tie_from_ k_tie_from_, (fun_mk (st := s_tie_from) l_tie_from_ c_tie_from_ k_tie_from_).binds (ps := ["run", "page"]) fun _ _ _ _ _ _ => el2 (fun _ _ => rfl), .nil⟩
      r_part_of := ⟨_, _, _, PySem.W.mg_of X G a_part_of_, fun_mk (st := s_part_of) l_part_of_ c_part_of_ k_part_of_, (fun_mk (st := s_part_of) l_part_of_ c_part_of_ k_part_of_).binds (ps := ["run", "low", "high"]) fun _ _ _ _ _ _ => el3 (fun _ _ _ => rfl), .nil⟩
      r_goes_on := ⟨_, _, _, PySem.W.mg_of X G a_goes_on_, fun_mk (st := s_goes_on) l_goes_on_ c_goes_on_ k_goes_on_, (fun_mk (st := s_goes_on) l_goes_on_ c_goes_on_ k_goes_on_).binds (ps := ["run", "later"]) fun _ _ _ _ _ _ => el2 (fun _ _ => rfl), .nil⟩
      r_joined := ⟨_, _, _, PySem.W.mg_of X G a_joined_, fun_mk (st := s_joined) l_joined_ c_joined_ k_joined_, (fun_mk (st := s_joined) l_joined_ c_joined_ k_joined_).binds (ps := ["runs"]) fun _ _ _ _ _ _ => el1 (fun _ => rfl), .nil⟩
      r_l_part := ⟨_, _, _, PySem.W.mg_of X G a_l_part_, fun_mk (st := s_l_part) l_l_part_ c_l_part_ k_l_part_, (fun_mk (st := s_l_part) l_l_part_ c_l_part_ k_l_part_).binds (ps := ["_law_cell", "_law_place", "_law_many"]) fun _ _ _ _ _ _ => el3 (fun _ _ _ => rfl), .nil⟩
      r_l_number := ⟨_, _, _, PySem.W.mg_of X G a_l_number_, fun_mk (st := s_l_number) l_l_number_ c_l_number_ k_l_number_, (fun_mk (st := s_l_number) l_l_number_ c_l_number_ k_l_number_).binds (ps := ["_law_cell", "_law_place"]) fun _ _ _ _ _ _ => el2 (fun _ _ => rfl), .nil⟩
      r_l_rows := ⟨_, _, _, PySem.W.mg_of X G a_l_rows_, fun_mk (st := s_l_rows) l_l_rows_ c_l_rows_ k_l_rows_, (fun_mk (st := s_l_rows) l_l_rows_ c_l_rows_ k_l_rows_).binds (ps := ["_law_cells"]) fun _ _ _ _ _ _ => el1 (fun _ => rfl), .nil⟩
      r_l_told_all := ⟨_, _, _, PySem.W.mg_of X G a_l_told_all_, fun_mk (st := s_l_told_all) l_l_told_all_ c_l_told_all_ k_l_told_all_, (fun_mk (st := s_l_told_all) l_l_told_all_ c_l_told_all_ k_l_told_all_).binds (ps := ["_law_some", "_law_dues"]) fun _ _ _ _ _ _ => el2 (fun _ _ => rfl), .nil⟩
      r_l_step := ⟨_, _, _, PySem.W.mg_of X G a_l_step_, fun_mk (st := s_l_step) l_l_step_ c_l_step_ k_l_step_, (fun_mk (st := s_l_step) l_l_step_ c_l_step_ k_l_step_).binds (ps := ["_law_one", "_law_due", "_law_cell"]) fun _ _ _ _ _ _ => el3 (fun _ _ _ => rfl), .nil⟩
      cl_Stretches := ⟨pg_Stretches, hd_Stretches, po_Stretches, sa_Stretches⟩
      na_Stretches_runs := zn_Stretches_runs
      r_Stretches_init := ⟨_, _, _, PySem.W.mg_of X G a_Stretches, ⟨mk_Stretches, a_Stretches_init_, i_Stretches_init_, kc_Stretches⟩, fun_mk (st := s_Stretches_init) l_Stretches_init_ c_Stretches_init_ k_Stretches_init_, (fun_mk (st := s_Stretches_init) l_Stretches_init_ c_Stretches_init_ k_Stretches_init_).binds (ps := ["self"]) fun _ _ _ _ _ _ => el1 (fun _ => rfl), .nil⟩
      r_Stretches_put := ⟨_, _, _, ⟨a_Stretches_put_, i_Stretches_put_, k_Stretches_put_⟩, fund_mk (st := s_Stretches_put) l_Stretches_put_ c_Stretches_put_ k_Stretches_put_, (binds_d 5 rfl fun _ us X_ hl => match us, hl with | [_, _, _, _, _], _ => BindsTo.of_defaults rfl (X_ _ _ u_Stretches_put_) rfl rfl rfl), .nil⟩
      r1_Stretches_put := ⟨_, _, _, ⟨a_Stretches_put_, i_Stretches_put_, k_Stretches_put_⟩, fund_mk (st := s_Stretches_put) l_Stretches_put_ c_Stretches_put_ k_Stretches_put_, (binds_d 4 rfl fun _ us X_ hl => match us, hl with | [_, _, _, _], _ => BindsTo.of_defaults rfl (X_ _ _ u_Stretches_put_) rfl rfl rfl), .cons rfl (.nil)⟩
      r_Stretches_cut := ⟨_, _, _, ⟨a_Stretches_cut_, i_Stretches_cut_, k_Stretches_cut_⟩, fun_mk (st := s_Stretches_cut) l_Stretches_cut_ c_Stretches_cut_ k_Stretches_cut_, (fun_mk (st := s_Stretches_cut) l_Stretches_cut_ c_Stretches_cut_ k_Stretches_cut_).binds (ps := ["self", "first", "many"]) fun _ _ _ _ _ _ => el3 (fun _ _ _ => rfl), .nil⟩
      r_Stretches_guard := ⟨_, _, _, ⟨a_Stretches_guard_, i_Stretches_guard_, k_Stretches_guard_⟩, fun_mk (st := s_Stretches_guard) l_Stretches_guard_ c_Stretches_guard_ k_Stretches_guard_, (fun_mk (st := s_Stretches_guard) l_Stretches_guard_ c_Stretches_guard_ k_Stretches_guard_).binds (ps := ["self", "first", "many", "rights"]) fun _ _ _ _ _ _ => el4 (fun _ _ _ _ => rfl), .nil⟩
      r_Stretches_check_full := ⟨_, _, _, ⟨a_Stretches_check_full_, i_Stretches_check_full_, k_Stretches_check_full_⟩, fun_mk (st := s_Stretches_check_full) l_Stretches_check_full_ c_Stretches_check_full_ k_Stretches_check_full_, (fun_mk (st := s_Stretches_check_full) l_Stretches_check_full_ c_Stretches_check_full_ k_Stretches_check_full_).binds (ps := ["self", "first", "many"]) fun _ _ _ _ _ _ => el3 (fun _ _ _ => rfl), .nil⟩
      r_Stretches_is_free := ⟨_, _, _, ⟨a_Stretches_is_free_, i_Stretches_is_free_, k_Stretches_is_free_⟩, fun_mk (st := s_Stretches_is_free) l_Stretches_is_free_ c_Stretches_is_free_ k_Stretches_is_free_, (fun_mk (st := s_Stretches_is_free) l_Stretches_is_free_ c_Stretches_is_free_ k_Stretches_is_free_).binds (ps := ["self", "first", "many"]) fun _ _ _ _ _ _ => el3 (fun _ _ _ => rfl), .nil⟩
      r_Stretches_is_full := ⟨_, _, _, ⟨a_Stretches_is_full_, i_Stretches_is_full_, k_Stretches_is_full_⟩, fun_mk (st := s_Stretches_is_full) l_Stretches_is_full_ c_Stretches_is_full_ k_Stretches_is_full_, (fun_mk (st := s_Stretches_is_full) l_Stretches_is_full_ c_Stretches_is_full_ k_Stretches_is_full_).binds (ps := ["self", "first", "many"]) fun _ _ _ _ _ _ => el3 (fun _ _ _ => rfl), .nil⟩
      r_Stretches_is_tied := ⟨_, _, _, ⟨a_Stretches_is_tied_, i_Stretches_is_tied_, k_Stretches_is_tied_⟩, fun_mk (st := s_Stretches_is_tied) l_Stretches_is_tied_ c_Stretches_is_tied_ k_Stretches_is_tied_, (fun_mk (st := s_Stretches_is_tied) l_Stretches_is_tied_ c_Stretches_is_tied_ k_Stretches_is_tied_).binds (ps := ["self", "bank"]) fun _ _ _ _ _ _ => el2 (fun _ _ => rfl), .nil⟩
      r_Stretches_told := ⟨_, _, _, ⟨a_Stretches_told_, i_Stretches_told_, k_Stretches_told_⟩, fun_mk (st := s_Stretches_told) l_Stretches_told_ c_Stretches_told_ k_Stretches_told_, (fun_mk (st := s_Stretches_told) l_Stretches_told_ c_Stretches_told_ k_Stretches_told_).binds (ps := ["self"]) fun _ _ _ _ _ _ => el1 (fun _ => rfl), .nil⟩
      r_Stretches_copied := ⟨_, _, _, ⟨a_Stretches_copied_, i_Stretches_copied_, k_Stretches_copied_⟩, fun_mk (st := s_Stretches_copied) l_Stretches_copied_ c_Stretches_copied_ k_Stretches_copied_, (fun_mk (st := s_Stretches_copied) l_Stretches_copied_ c_Stretches_copied_ k_Stretches_copied_).binds (ps := ["self"]) fun _ _ _ _ _ _ => el1 (fun _ => rfl), .nil⟩
      r_Stretches_place_behind := ⟨_, _, _, ⟨a_Stretches_place_behind_, i_Stretches_place_behind_, k_Stretches_place_behind_⟩, fun_mk (st := s_Stretches_place_behind) l_Stretches_place_behind_ c_Stretches_place_behind_ k_Stretches_place_behind_, (fun_mk (st := s_Stretches_place_behind) l_Stretches_place_behind_ c_Stretches_place_behind_ k_Stretches_place_behind_).binds (ps := ["self", "page"]) fun _ _ _ _ _ _ => el2 (fun _ _ => rfl), .nil⟩
      r_Stretches_parts_amid := ⟨_, _, _, ⟨a_Stretches_parts_amid_, i_Stretches_parts_amid_, k_Stretches_parts_amid_⟩, fun_mk (st := s_Stretches_parts_amid) l_Stretches_parts_amid_ c_Stretches_parts_amid_ k_Stretches_parts_amid_, (fun_mk (st := s_Stretches_parts_amid) l_Stretches_parts_amid_ c_Stretches_parts_amid_ k_Stretches_parts_amid_).binds (ps := ["self", "first", "many"]) fun _ _ _ _ _ _ => el3 (fun _ _ _ => rfl), .nil⟩
      r_Stretches_lay_amid := ⟨_, _, _, ⟨a_Stretches_lay_amid_, i_Stretches_lay_amid_, k_Stretches_lay_amid_⟩, fun_mk (st := s_Stretches_lay_amid) l_Stretches_lay_amid_ c_Stretches_lay_amid_ k_Stretches_lay_amid_, (fun_mk (st := s_Stretches_lay_amid) l_Stretches_lay_amid_ c_Stretches_lay_amid_ k_Stretches_lay_amid_).binds (ps := ["self", "first", "many", "parts"]) fun _ _ _ _ _ _ => el4 (fun _ _ _ _ => rfl), .nil⟩
      m_BadRights := ⟨_, PySem.W.mg_of X G a_BadRights, rfl⟩
      x_BadRights := ⟨PySem.W.mg_of X G a_BadRights, ze_BadRights⟩
      m_Taken := ⟨_, PySem.W.mg_of X G a_Taken, rfl⟩
      x_Taken := ⟨PySem.W.mg_of X G a_Taken, ze_Taken⟩
      m_NotMapped := ⟨_, PySem.W.mg_of X G a_NotMapped, rfl⟩
      x_NotMapped := ⟨PySem.W.mg_of X G a_NotMapped, ze_NotMapped⟩
      r_law := ⟨_, _, PySem.W.mg_of X G a_law_, fun_mk (st := s_law) l_law_ c_law_ k_law_, fun _ _ => .of_eq rfl⟩
    }⟩

section
variable {P : Program} {w : World} {K : PySem.W.Frag} {mg : Str → Option Value} {base : Heap} {A : Adr}

def sp_is_whole : Sp := fun vs H Q _ => ∃ x, vs = [x] ∧ Kn H x ∧ Q (.bl (whole x)) H
theorem h_is_whole (T : Txt K mg A) : Have P w K mg base "is_whole" 1 ["thing"] [] sp_is_whole := by
  refine T.r_is_whole.have sc_is_whole (fun vs H Q E z => ?_) ?_
  · obtain ⟨x, rfl, _⟩ := z; rfl
  · intro f cdv A' outer s H vs Q E hr z
    obtain ⟨x, rfl, hk, q⟩ := z
    refine ⟨_, (pss_one (ps_ret (pe_and (pe_callB call_isi rfl T.b_isinstance PyProof.Rows.boot_isinstance (pa_cons (pv 0) (pa_cons (pe_bltnE (n := "int") rfl T.b_int PyProof.Rows.boot_int) pa_nil))) (pe_one (pe_not (pe_callB call_isi rfl T.b_isinstance PyProof.Rows.boot_isinstance (pa_cons (pv 0) (pa_cons (pe_bltnE (n := "bool") rfl T.b_bool PyProof.Rows.boot_bool) pa_nil)))))))), ?_⟩
    walk_at "wp"
    rw [← isTy_whole hk] at q
    refine ⟨by decide, hk, ?_⟩
    cases e : isTy "int" H x with
    | true => rw [e] at q; exact iteT ⟨by decide, hk, q⟩
    | false => rw [e] at q; exact iteF q

def sp_is_within : Sp := fun vs H Q _ => ∃ x l h, vs = [x, .int l, .int h] ∧ Kn H x ∧ Q (.bl (within x l h)) H
theorem h_is_within (T : Txt K mg A) : Have P w K mg base "is_within" 2 ["thing", "low", "high"] [] sp_is_within := by
  have H_is_whole := h_is_whole (P := P) (w := w) (base := base) T
  refine T.r_is_within.have sc_is_within (fun vs H Q E z => ?_) ?_
  · obtain ⟨x, l, h, rfl, _⟩ := z; rfl
  · intro f cdv A' outer s H vs Q E hr z
    obtain ⟨x, l, h, rfl, hk, q⟩ := z
    refine ⟨_, (pss_one (ps_ret (pe_and (pe_callE H_is_whole (hr.mono (by decide)) xw_def (pa_cons (pv 0) pa_nil)) (pe_one (pe_chain op_le op_le (pv 1) (pv 0) (pv 2)))))), ?_⟩
    unfold sp_is_whole
    walk_at "wp"
    refine ⟨hk, ?_⟩
    cases x with
    | int i =>
      refine iteT ⟨i, rfl, ?_⟩
      rw [within_int] at q
      by_cases c : l ≤ i
      · rw [decide_eq_true c] at q
        rw [if_pos c]
        exact ⟨i, rfl, q⟩
      · rw [decide_eq_false c] at q
        rw [if_neg c]
        exact q
    | _ => exact iteF q
theorem same_put {H H' : Hp} {t : Addr} {o : HO} (s : Same H H') (h : H t = none) : Same H (upd H' t o) := fun b u e => by
  rw [upd_ne (ne_of_none e h)]; exact s b u e

theorem same_none {H H' : Hp} {p : Addr} (s : Same H H') (h : H' p = none) : H p = none := by
  cases e : H p with
  | none => rfl
  | some o => rw [s p o e] at h; cases h
/-- a run of pages: first, many, rights, tie -/
structure Rn where
  f : Int
  m : Int
  r : Int
  t : Option (Int × Int)
  deriving DecidableEq
def enR (r : Rn) : Int := r.f + r.m
def tf (r : Rn) (p : Int) : Option (Int × Int) := r.t.map fun t => (t.1, t.2 + p - r.f)
def poR (r : Rn) (lo hi : Int) : Rn := ⟨max r.f lo, min (enR r) hi - max r.f lo, r.r, tf r (max r.f lo)⟩
def go (r s : Rn) : Bool := decide (enR r = s.f) && decide (r.r = s.r) && decide (tf r s.f = s.t)
def jstep (acc : List Rn) (r : Rn) : List Rn :=
  match acc.getLast? with
  | none => acc ++ [r]
  | some l => if go l r = true then acc.dropLast ++ [⟨l.f, l.m + r.m, l.r, l.t⟩] else acc ++ [r]
def jn (rs : List Rn) : List Rn := rs.foldl jstep []
def pb (rs : List Rn) (p : Int) : Nat := (rs.takeWhile fun r => decide (enR r ≤ p)).length
def cutR (rs : List Rn) (lo hi : Nat) : List Rn := (rs.take hi).drop lo
def pam (rs : List Rn) (a n : Int) : List Rn := ((cutR rs (pb rs a) (pb rs (a + n) + 1)).filter fun r => decide (r.f < a + n)).map fun r => poR r a (a + n)
def layR (rs : List Rn) (a n : Int) (parts : List Rn) : List Rn :=
  let near := cutR rs (pb rs (a - 1)) (pb rs (a + n) + 1)
  rs.take (pb rs (a - 1)) ++ jn ((near.filter fun r => decide (r.f < a)).map (fun r => poR r r.f a) ++ parts ++ (near.filter fun r => decide (enR r > a + n)).map (fun r => poR r (a + n) (enR r))) ++ rs.drop (pb rs (a + n) + 1)
/-- what a page has -/
def pm : List Rn → Int → Option (Int × Option (Int × Int))
  | [], _ => none
  | r :: rs, p => if r.f ≤ p ∧ p < enR r then some (r.r, tf r p) else pm rs p
def OrdR (rs : List Rn) : Prop := rs.Pairwise (fun a b => enR a ≤ b.f) ∧ ∀ r ∈ rs, 0 < r.m
def LstR : List Rn → Prop
  | [] => True
  | [_] => True
  | a :: b :: r => go a b = false ∧ LstR (b :: r)
theorem OrdR.tail {r : Rn} {rs : List Rn} (h : OrdR (r :: rs)) : OrdR rs := ⟨(List.pairwise_cons.mp h.1).2, fun x hx => h.2 x (List.mem_cons_of_mem _ hx)⟩
theorem OrdR.head {r : Rn} {rs : List Rn} (h : OrdR (r :: rs)) : ∀ s ∈ rs, enR r ≤ s.f := (List.pairwise_cons.mp h.1).1
theorem LstR.tail {r : Rn} {rs : List Rn} (h : LstR (r :: rs)) : LstR rs := by
  cases rs with
  | nil => exact True.intro
  | cons s rs => exact h.2
theorem pm_none {p : Int} : ∀ {rs : List Rn}, (∀ r ∈ rs, ¬ (r.f ≤ p ∧ p < enR r)) → pm rs p = none
  | [], _ => rfl
  | r :: rs, h => by
    unfold pm
    rw [if_neg (h r List.mem_cons_self)]
    exact pm_none fun s hs => h s (List.mem_cons_of_mem _ hs)
theorem pm_below {p : Int} {rs : List Rn} (h : ∀ r ∈ rs, p < r.f) : pm rs p = none := pm_none fun r hr z => by have := h r hr; omega
theorem pm_above {p : Int} {rs : List Rn} (h : ∀ r ∈ rs, enR r ≤ p) : pm rs p = none := pm_none fun r hr z => by have := h r hr; omega
theorem pm_mem {p : Int} : ∀ {rs : List Rn} {r : Rn}, OrdR rs → r ∈ rs → r.f ≤ p → p < enR r → pm rs p = some (r.r, tf r p)
  | [], _, _, h, _, _ => by cases h
  | s :: rs, r, o, h, h1, h2 => by
    unfold pm
    rcases List.mem_cons.mp h with rfl | h
    · rw [if_pos ⟨h1, h2⟩]
    · have := o.head r h
      rw [if_neg (by omega)]
      exact pm_mem o.tail h h1 h2
theorem pm_some {p : Int} {x : Int × Option (Int × Int)} : ∀ {rs : List Rn}, pm rs p = some x → ∃ r ∈ rs, r.f ≤ p ∧ p < enR r ∧ x = (r.r, tf r p)
  | [], h => by cases h
  | s :: rs, h => by
    unfold pm at h
    by_cases c : s.f ≤ p ∧ p < enR s
    · rw [if_pos c] at h
      exact ⟨s, List.mem_cons_self, c.1, c.2, (Option.some.inj h).symm⟩
    · rw [if_neg c] at h
      obtain ⟨r, h1, h2⟩ := pm_some h
      exact ⟨r, List.mem_cons_of_mem _ h1, h2⟩
theorem pm_append {p : Int} : ∀ {rs ss : List Rn}, pm (rs ++ ss) p = (pm rs p).or (pm ss p)
  | [], ss => by rw [List.nil_append]; rfl
  | r :: rs, ss => by
    show (if r.f ≤ p ∧ p < enR r then some (r.r, tf r p) else pm (rs ++ ss) p) = (if r.f ≤ p ∧ p < enR r then some (r.r, tf r p) else pm rs p).or (pm ss p)
    by_cases c : r.f ≤ p ∧ p < enR r
    · rw [if_pos c, if_pos c]; rfl
    · rw [if_neg c, if_neg c]; exact pm_append
theorem tf_at {r : Rn} : tf r r.f = r.t := by
  unfold tf
  cases r.t with
  | none => rfl
  | some t => simp
theorem tf_shift {r : Rn} {p q : Int} {m x : Int} : tf ⟨p, m, x, tf r p⟩ q = tf r q := by
  unfold tf
  cases r.t with
  | none => rfl
  | some t => simp; omega
/-- least lists of the same pages are the same -/
theorem least_one : ∀ {rs ss : List Rn}, OrdR rs → OrdR ss → LstR rs → LstR ss → (∀ p, pm rs p = pm ss p) → rs = ss
  | [], [], _, _, _, _, _ => rfl
  | [], b :: ss, _, o2, _, _, h => by
    have hb := o2.2 b List.mem_cons_self
    have := h b.f
    rw [pm_mem o2 List.mem_cons_self (Int.le_refl _) (by unfold enR; omega)] at this
    cases this
  | a :: rs, [], o1, _, _, _, h => by
    have hb := o1.2 a List.mem_cons_self
    have := h a.f
    rw [pm_mem o1 List.mem_cons_self (Int.le_refl _) (by unfold enR; omega)] at this
    cases this
  | a :: rs, b :: ss, o1, o2, l1, l2, h => by
    have pa := o1.2 a List.mem_cons_self
    have pb' := o2.2 b List.mem_cons_self
    have ha := pm_mem o1 (p := a.f) List.mem_cons_self (Int.le_refl _) (by unfold enR; omega)
    have hb := pm_mem o2 (p := b.f) List.mem_cons_self (Int.le_refl _) (by unfold enR; omega)
    have first : ∀ {x y : Rn} {xs ys : List Rn}, OrdR (x :: xs) → OrdR (y :: ys) → (∀ p, pm (x :: xs) p = pm (y :: ys) p) → ¬ x.f < y.f := by
      intro x y xs ys ox oy hh hlt
      have px := ox.2 x List.mem_cons_self
      have e1 := pm_mem ox (p := x.f) List.mem_cons_self (Int.le_refl _) (by unfold enR; omega)
      rw [hh, pm_below (fun r hr => by
        rcases List.mem_cons.mp hr with rfl | hr
        · exact hlt
        · have := oy.head r hr; have := oy.2 y List.mem_cons_self; unfold enR at *; omega)] at e1
      cases e1
    have ef : a.f = b.f := by
      have h1 := first o1 o2 h
      have h2 := first o2 o1 fun p => (h p).symm
      omega
    have e0 := h a.f
    rw [ha, ef, hb] at e0
    have e1 := Option.some.inj e0
    have er : a.r = b.r := congrArg Prod.fst e1
    have et : a.t = b.t := by
      have := congrArg Prod.snd e1
      simp only at this
      rw [← ef, tf_at, ef, tf_at] at this
      exact this
    have etf : ∀ p, tf a p = tf b p := fun p => by unfold tf; rw [et, ef]
    have nlt : ∀ {x y : Rn} {xs ys : List Rn}, OrdR (x :: xs) → OrdR (y :: ys) → LstR (x :: xs) → (∀ p, pm (x :: xs) p = pm (y :: ys) p) → x.f = y.f → x.r = y.r → (∀ p, tf x p = tf y p) → ¬ enR x < enR y := by
      intro x y xs ys ox oy lx hh efx erx etx hlt
      have px := ox.2 x List.mem_cons_self
      have e1 := pm_mem oy (p := enR x) List.mem_cons_self (by unfold enR at *; omega) hlt
      rw [← hh] at e1
      obtain ⟨s, hs, h1, h2, h3⟩ := pm_some e1
      rcases List.mem_cons.mp hs with rfl | hs
      · omega
      · cases xs with
        | nil => cases hs
        | cons z zs =>
          have g := lx.1
          have hz := ox.head z List.mem_cons_self
          rcases List.mem_cons.mp hs with rfl | hs
          · have hsf : enR x = s.f := by omega
            unfold go at g
            rw [decide_eq_true hsf] at g
            have h4 := Prod.mk.inj h3
            rw [decide_eq_true (show x.r = s.r by rw [erx, h4.1])] at g
            rw [decide_eq_true (show tf x s.f = s.t by rw [etx, ← hsf, h4.2, hsf, tf_at])] at g
            cases g
          · have := ox.tail.head s hs
            have := ox.2 z (by simp)
            unfold enR at *
            omega
    have ee : enR a = enR b := by
      have h1 := nlt o1 o2 l1 h ef er etf
      have h2 := nlt o2 o1 l2 (fun p => (h p).symm) ef.symm er.symm fun p => (etf p).symm
      omega
    have eab : a = b := by
      cases a; cases b
      simp only [enR] at *
      simp only [Rn.mk.injEq]
      exact ⟨ef, by omega, er, et⟩
    subst eab
    refine congrArg (a :: ·) (least_one o1.tail o2.tail l1.tail l2.tail fun p => ?_)
    by_cases c : p < enR a
    · rw [pm_below fun r hr => by have := o1.head r hr; omega, pm_below fun r hr => by have := o2.head r hr; omega]
    · have := h p
      unfold pm at this
      rw [if_neg (by omega), if_neg (by omega)] at this
      exact this

/-! ### joining -/
def sHd (a b : Rn) : Prop := a.f = b.f ∧ a.r = b.r ∧ a.t = b.t
def sLs (a b : Rn) : Prop := enR a = enR b ∧ a.r = b.r ∧ ∀ p, tf a p = tf b p
theorem go_hd {l a b : Rn} (h : sHd a b) : go l a = go l b := by unfold go; rw [h.1, h.2.1, h.2.2]
theorem go_ls {l a b : Rn} (h : sLs a b) : go a l = go b l := by unfold go; rw [h.1, h.2.1, h.2.2]
theorem lst_app : ∀ {xs ys : List Rn}, LstR xs → LstR ys → (∀ a b, xs.getLast? = some a → ys.head? = some b → go a b = false) → LstR (xs ++ ys)
  | [], ys, _, h, _ => h
  | [a], [], h, _, _ => h
  | [a], b :: ys, _, h, g => ⟨g a b rfl rfl, h⟩
  | a :: b :: xs, ys, h, h2, g => ⟨h.1, lst_app (xs := b :: xs) h.2 h2 fun x y e1 e2 => g x y (by rw [List.getLast?_cons_cons]; exact e1) e2⟩
theorem lst_left : ∀ {xs ys : List Rn}, LstR (xs ++ ys) → LstR xs
  | [], _, _ => True.intro
  | [a], _, _ => True.intro
  | a :: b :: xs, ys, h => ⟨h.1, lst_left (xs := b :: xs) (ys := ys) h.2⟩
theorem lst_right : ∀ {xs ys : List Rn}, LstR (xs ++ ys) → LstR ys
  | [], _, h => h
  | a :: xs, ys, h => lst_right (xs := xs) (LstR.tail (r := a) h)
theorem lst_amid : ∀ {xs ys : List Rn} {a b : Rn}, LstR (xs ++ ys) → xs.getLast? = some a → ys.head? = some b → go a b = false
  | [], _, _, _, _, h, _ => by cases h
  | [x], [], _, _, _, _, h => by cases h
  | [x], y :: ys, a, b, h, h1, h2 => by
    cases h1; cases h2; exact h.1
  | x :: z :: xs, ys, a, b, h, h1, h2 => lst_amid (xs := z :: xs) h.2 (by rw [List.getLast?_cons_cons] at h1; exact h1) h2
theorem lst_same : ∀ {xs : List Rn} {a b : Rn}, sHd a b → LstR (xs ++ [b]) → LstR (xs ++ [a])
  | [], _, _, _, _ => True.intro
  | [x], a, b, h, l => ⟨by rw [go_hd h]; exact l.1, True.intro⟩
  | x :: z :: xs, a, b, h, l => ⟨l.1, lst_same (xs := z :: xs) h l.2⟩
theorem ord_app {xs ys : List Rn} (h1 : OrdR xs) (h2 : OrdR ys) (h : ∀ x ∈ xs, ∀ y ∈ ys, enR x ≤ y.f) : OrdR (xs ++ ys) :=
  ⟨List.pairwise_append.mpr ⟨h1.1, h2.1, h⟩, fun r hr => (List.mem_append.mp hr).elim (h1.2 r) (h2.2 r)⟩
theorem ord_left {xs ys : List Rn} (h : OrdR (xs ++ ys)) : OrdR xs := ⟨(List.pairwise_append.mp h.1).1, fun r hr => h.2 r (List.mem_append_left _ hr)⟩
theorem ord_right {xs ys : List Rn} (h : OrdR (xs ++ ys)) : OrdR ys := ⟨(List.pairwise_append.mp h.1).2.1, fun r hr => h.2 r (List.mem_append_right _ hr)⟩
theorem ord_amid {xs ys : List Rn} (h : OrdR (xs ++ ys)) : ∀ x ∈ xs, ∀ y ∈ ys, enR x ≤ y.f := (List.pairwise_append.mp h.1).2.2
theorem ord_one {r : Rn} (h : 0 < r.m) : OrdR [r] := ⟨by simp, fun x hx => by rw [List.mem_singleton.mp hx]; exact h⟩
structure Jn (c acc : List Rn) : Prop where
  ord : OrdR acc
  lst : LstR acc
  pg : ∀ p, pm acc p = pm c p
  hd : ∀ b, c.head? = some b → ∃ a, acc.head? = some a ∧ sHd a b
  ls : ∀ b, c.getLast? = some b → ∃ a, acc.getLast? = some a ∧ sLs a b
  lo : ∀ z, (∀ y ∈ c, z ≤ y.f) → ∀ x ∈ acc, z ≤ x.f
  hi : ∀ z, (∀ y ∈ c, enR y ≤ z) → ∀ x ∈ acc, enR x ≤ z
  no : c = [] → acc = []
theorem snoc_of {α : Type} : ∀ {l : List α} {a : α}, l.getLast? = some a → ∃ i, l = i ++ [a]
  | [], _, h => by cases h
  | [x], a, h => ⟨[], by cases h; rfl⟩
  | x :: y :: l, a, h => by
    rw [List.getLast?_cons_cons] at h
    obtain ⟨i, e⟩ := snoc_of h
    exact ⟨x :: i, by rw [e]; rfl⟩
theorem Jn.step {c acc : List Rn} {r : Rn} (J : Jn c acc) (o : OrdR (c ++ [r])) : Jn (c ++ [r]) (jstep acc r) := by
  have hr : 0 < r.m := o.2 r (List.mem_append_right _ List.mem_cons_self)
  have hcr : ∀ y ∈ c, enR y ≤ r.f := fun y hy => ord_amid o y hy r List.mem_cons_self
  rcases hc : c.getLast? with _ | d
  · have : c = [] := List.getLast?_eq_none_iff.mp hc
    subst this
    have := J.no rfl
    subst this
    exact ⟨ord_one hr, True.intro, fun _ => rfl, fun b h => ⟨r, rfl, by cases h; exact ⟨rfl, rfl, rfl⟩⟩, fun b h => ⟨r, rfl, by cases h; exact ⟨rfl, rfl, fun _ => rfl⟩⟩, fun z h => h, fun z h => h, fun h => by cases h⟩
  · obtain ⟨l, hl, sl⟩ := J.ls d hc
    obtain ⟨i, rfl⟩ := snoc_of hl
    have hcne : c ≠ [] := fun e => by rw [e] at hc; cases hc
    have hlr : enR l ≤ r.f := J.hi r.f hcr l (by simp)
    have hil : ∀ x ∈ i, enR x ≤ l.f := fun x hx => ord_amid J.ord x hx l List.mem_cons_self
    have hlm : 0 < l.m := J.ord.2 l (by simp)
    have hhd : ∀ {b : Rn} {x : List Rn}, (c ++ x).head? = some b → c.head? = some b := fun {b x} h => by
      cases c with
      | nil => exact absurd rfl hcne
      | cons y c => exact h
    unfold jstep
    rw [hl]
    show Jn (c ++ [r]) (if go l r = true then (i ++ [l]).dropLast ++ [⟨l.f, l.m + r.m, l.r, l.t⟩] else (i ++ [l]) ++ [r])
    cases g : go l r with
    | true =>
      rw [if_pos rfl, List.dropLast_concat]
      unfold go at g
      simp only [Bool.and_eq_true, decide_eq_true_eq] at g
      obtain ⟨⟨g1, g2⟩, g3⟩ := g
      have etf : ∀ p, tf r p = tf l p := fun p => by
        unfold tf at g3 ⊢
        rw [← g3]
        cases l.t with
        | none => rfl
        | some t => simp; omega
      have etl : ∀ p, tf (⟨l.f, l.m + r.m, l.r, l.t⟩ : Rn) p = tf l p := fun p => rfl
      refine ⟨?_, ?_, ?_, ?_, ?_, ?_, ?_, ?_⟩
      · refine ord_app (ord_left J.ord) (ord_one (by show 0 < l.m + r.m; omega)) fun x hx y hy => ?_
        rw [List.mem_singleton.mp hy]
        exact hil x hx
      · exact lst_same (b := l) ⟨rfl, rfl, rfl⟩ J.lst
      · intro p
        rw [pm_append, pm_append, ← J.pg p, pm_append]
        cases pm i p with
        | some x => rfl
        | none =>
          show (if l.f ≤ p ∧ p < l.f + (l.m + r.m) then some (l.r, tf l p) else none) = ((if l.f ≤ p ∧ p < enR l then some (l.r, tf l p) else none).or (if r.f ≤ p ∧ p < enR r then some (r.r, tf r p) else none))
          unfold enR at *
          by_cases c1 : l.f ≤ p ∧ p < l.f + l.m
          · rw [if_pos c1, if_pos (by omega)]; rfl
          · rw [if_neg c1]
            by_cases c2 : r.f ≤ p ∧ p < r.f + r.m
            · rw [if_pos c2, if_pos (by omega), etf, g2]; rfl
            · rw [if_neg c2, if_neg (by omega)]; rfl
      · intro b hb
        obtain ⟨a, ha, sa⟩ := J.hd b (hhd hb)
        cases i with
        | nil =>
          cases ha
          exact ⟨_, rfl, sa.1, sa.2.1, sa.2.2⟩
        | cons x i => exact ⟨a, ha, sa⟩
      · intro b hb
        rw [List.getLast?_concat] at hb
        cases hb
        exact ⟨⟨l.f, l.m + r.m, l.r, l.t⟩, by rw [List.getLast?_concat], by show l.f + (l.m + r.m) = enR r; unfold enR at *; omega, g2, fun p => (etl p).trans (etf p).symm⟩
      · intro z hz x hx
        have hz' : ∀ y ∈ c, z ≤ y.f := fun y hy => hz y (List.mem_append_left _ hy)
        rcases List.mem_append.mp hx with hx | hx
        · exact J.lo z hz' x (List.mem_append_left _ hx)
        · rw [List.mem_singleton.mp hx]; exact J.lo z hz' l (by simp)
      · intro z hz x hx
        have hz' : ∀ y ∈ c, enR y ≤ z := fun y hy => hz y (List.mem_append_left _ hy)
        rcases List.mem_append.mp hx with hx | hx
        · exact J.hi z hz' x (List.mem_append_left _ hx)
        · rw [List.mem_singleton.mp hx]
          have := hz r (by simp)
          show l.f + (l.m + r.m) ≤ z
          unfold enR at *
          omega
      · intro h; simp at h
    | false =>
      rw [if_neg Bool.false_ne_true]
      refine ⟨?_, ?_, ?_, ?_, ?_, ?_, ?_, ?_⟩
      · refine ord_app J.ord (ord_one hr) fun x hx y hy => ?_
        rw [List.mem_singleton.mp hy]
        exact J.hi r.f hcr x hx
      · refine lst_app J.lst True.intro fun a b ha hb => ?_
        rw [List.getLast?_concat] at ha
        cases ha; cases hb; exact g
      · intro p
        rw [pm_append, pm_append (rs := c), J.pg p]
      · intro b hb
        obtain ⟨a, ha, sa⟩ := J.hd b (hhd hb)
        refine ⟨a, ?_, sa⟩
        rw [List.head?_append, ha]; rfl
      · intro b hb
        rw [List.getLast?_concat] at hb
        cases hb
        exact ⟨_, by rw [List.getLast?_concat], rfl, rfl, fun _ => rfl⟩
      · intro z hz x hx
        rcases List.mem_append.mp hx with hx | hx
        · exact J.lo z (fun y hy => hz y (List.mem_append_left _ hy)) x hx
        · exact hz x (List.mem_append_right _ hx)
      · intro z hz x hx
        rcases List.mem_append.mp hx with hx | hx
        · exact J.hi z (fun y hy => hz y (List.mem_append_left _ hy)) x hx
        · exact hz x (List.mem_append_right _ hx)
      · intro h; simp at h
theorem Jn.fold : ∀ {rs c acc : List Rn}, Jn c acc → OrdR (c ++ rs) → Jn (c ++ rs) (rs.foldl jstep acc)
  | [], c, acc, J, _ => by rw [List.append_nil]; exact J
  | r :: rs, c, acc, J, o => by
    have e : c ++ r :: rs = (c ++ [r]) ++ rs := by simp
    rw [e] at o ⊢
    exact Jn.fold (J.step (ord_left o)) o
theorem jn_ok {rs : List Rn} (o : OrdR rs) : Jn rs (jn rs) := by
  have := Jn.fold (rs := rs) (c := []) (acc := []) ⟨⟨by simp, fun _ h => by simp at h⟩, True.intro, fun _ => rfl, fun _ h => by simp at h, fun _ h => by simp at h, fun _ _ _ h => by simp at h, fun _ _ _ h => by simp at h, fun _ => rfl⟩ o
  exact this

/-- how a row parts at p -/
theorem pb_part {rs : List Rn} (o : OrdR rs) (p : Int) : ∃ A R, rs = A ++ R ∧ pb rs p = A.length ∧ (∀ x ∈ A, enR x ≤ p) ∧ (∀ x ∈ R, p < enR x) := by
  refine ⟨rs.takeWhile fun r => decide (enR r ≤ p), rs.dropWhile fun r => decide (enR r ≤ p), (List.takeWhile_append_dropWhile).symm, rfl, fun x hx => ?_, fun x hx => ?_⟩
  · induction rs with
    | nil => cases hx
    | cons y rs ih =>
      rw [List.takeWhile_cons] at hx
      by_cases c : enR y ≤ p
      · rw [decide_eq_true c] at hx
        simp only [if_true] at hx
        rcases List.mem_cons.mp hx with rfl | hx
        · exact c
        · exact ih o.tail hx
      · rw [decide_eq_false c] at hx
        simp at hx
  · induction rs with
    | nil => cases hx
    | cons y rs ih =>
      rw [List.dropWhile_cons] at hx
      by_cases c : enR y ≤ p
      · rw [decide_eq_true c] at hx
        simp only [if_true] at hx
        exact ih o.tail hx
      · rw [decide_eq_false c] at hx
        simp only [Bool.false_eq_true, if_false] at hx
        rcases List.mem_cons.mp hx with rfl | hx
        · omega
        · have h1 := o.head x hx
          have h2 := o.2 x (List.mem_cons_of_mem _ hx)
          unfold enR at *
          omega
theorem pb_two {rs : List Rn} (o : OrdR rs) {p q : Int} (h : p ≤ q) : ∃ A M R, rs = A ++ M ++ R ∧ pb rs p = A.length ∧ pb rs q = A.length + M.length ∧ (∀ x ∈ A, enR x ≤ p) ∧ (∀ x ∈ M, p < enR x ∧ enR x ≤ q) ∧ (∀ x ∈ R, q < enR x) := by
  obtain ⟨A, R1, e1, h1, h2, h3⟩ := pb_part o p
  obtain ⟨M, R, e2, h4, h5, h6⟩ := pb_part (rs := R1) (by rw [e1] at o; exact ord_right o) q
  refine ⟨A, M, R, by rw [e1, e2, List.append_assoc], h1, ?_, h2, fun x hx => ⟨h3 x (by rw [e2]; exact List.mem_append_left _ hx), h5 x hx⟩, h6⟩
  have : pb rs q = A.length + pb R1 q := by
    rw [e1]
    clear e1 h1 e2 h4 o
    induction A with
    | nil => simp
    | cons y A ih =>
      have hy := h2 y List.mem_cons_self
      unfold pb at *
      rw [List.cons_append, List.takeWhile_cons, decide_eq_true (by omega)]
      simp only [if_true, List.length_cons]
      rw [ih fun x hx => h2 x (List.mem_cons_of_mem _ hx)]
      omega
  rw [this, h4]
theorem cut_is {A M R : List Rn} {n m : Nat} (hn : n = A.length) (hm : m = A.length + M.length + 1) : cutR (A ++ M ++ R) n m = M ++ R.take 1 := by
  unfold cutR
  rw [hn, hm, List.append_assoc, List.take_append, List.take_of_length_le (by omega), List.drop_append, List.drop_length, Nat.sub_self, List.drop_zero, List.nil_append,
    List.take_append, List.take_of_length_le (by omega)]
  congr 2
  omega
theorem drop_is {A M R : List Rn} {m : Nat} (hm : m = A.length + M.length + 1) : (A ++ M ++ R).drop m = R.drop 1 := by
  rw [hm, ← List.length_append, List.drop_append, List.drop_eq_nil_of_le (by omega), List.nil_append]
  congr 1
  omega
theorem po_ahead {r : Rn} {a : Int} (h1 : a ≤ enR r) : poR r r.f a = ⟨r.f, a - r.f, r.r, r.t⟩ := by
  unfold poR
  rw [Int.max_self, Int.min_eq_right h1, tf_at]
theorem pm_ahead {a p : Int} : ∀ {N : List Rn}, (∀ x ∈ N, a ≤ enR x) → pm ((N.filter fun r => decide (r.f < a)).map fun r => poR r r.f a) p = if p < a then pm N p else none
  | [], _ => by simp [pm]
  | x :: N, h => by
    have ih := pm_ahead (p := p) (N := N) fun y hy => h y (List.mem_cons_of_mem _ hy)
    have hx := h x List.mem_cons_self
    rw [List.filter_cons]
    by_cases c : x.f < a
    · rw [decide_eq_true c]
      simp only [if_true, List.map_cons]
      rw [po_ahead hx]
      show (if x.f ≤ p ∧ p < x.f + (a - x.f) then some (x.r, tf ⟨x.f, a - x.f, x.r, x.t⟩ p) else pm _ p) = if p < a then (if x.f ≤ p ∧ p < enR x then some (x.r, tf x p) else pm N p) else none
      rw [ih]
      have et : tf ⟨x.f, a - x.f, x.r, x.t⟩ p = tf x p := rfl
      rw [et]
      by_cases c2 : p < a
      · rw [if_pos c2, if_pos c2]
        by_cases c3 : x.f ≤ p
        · rw [if_pos (by omega), if_pos (by omega)]
        · rw [if_neg (by omega), if_neg (by omega)]
      · rw [if_neg c2, if_neg c2, if_neg (by omega)]
    · rw [decide_eq_false c]
      simp only [Bool.false_eq_true, if_false]
      rw [ih]
      show _ = if p < a then (if x.f ≤ p ∧ p < enR x then some (x.r, tf x p) else pm N p) else none
      by_cases c2 : p < a
      · rw [if_pos c2, if_pos c2, if_neg (by omega)]
      · rw [if_neg c2, if_neg c2]
theorem pm_behind {e p : Int} : ∀ {N : List Rn}, pm ((N.filter fun r => decide (enR r > e)).map fun r => poR r e (enR r)) p = if e ≤ p then pm N p else none
  | [] => by simp [pm]
  | x :: N => by
    have ih := pm_behind (e := e) (p := p) (N := N)
    rw [List.filter_cons]
    by_cases c : enR x > e
    · rw [decide_eq_true c]
      simp only [if_true, List.map_cons]
      show (if max x.f e ≤ p ∧ p < max x.f e + (min (enR x) (enR x) - max x.f e) then some (x.r, tf ⟨_, _, _, tf x (max x.f e)⟩ p) else pm _ p) = if e ≤ p then (if x.f ≤ p ∧ p < enR x then some (x.r, tf x p) else pm N p) else none
      rw [ih, tf_shift, Int.min_self]
      by_cases c2 : e ≤ p
      · rw [if_pos c2, if_pos c2]
        by_cases c3 : x.f ≤ p ∧ p < enR x
        · rw [if_pos c3, if_pos (by omega)]
        · rw [if_neg c3, if_neg (by omega)]
      · rw [if_neg c2, if_neg c2, if_neg (by omega)]
    · rw [decide_eq_false c]
      simp only [Bool.false_eq_true, if_false]
      rw [ih]
      show _ = if e ≤ p then (if x.f ≤ p ∧ p < enR x then some (x.r, tf x p) else pm N p) else none
      by_cases c2 : e ≤ p
      · rw [if_pos c2, if_pos c2, if_neg (by omega)]
      · rw [if_neg c2, if_neg c2]
/-- a part of each of some runs -/
theorem ord_map {N : List Rn} {q : Rn → Bool} {g : Rn → Rn} (o : OrdR N) (h1 : ∀ x ∈ N, q x = true → 0 < (g x).m) (h2 : ∀ x ∈ N, ∀ y ∈ N, q x = true → q y = true → enR x ≤ y.f → enR (g x) ≤ (g y).f) : OrdR ((N.filter q).map g) := by
  refine ⟨?_, fun r hr => ?_⟩
  · rw [List.pairwise_map]
    have h3 : ((N.filter q)).Pairwise fun a b => enR a ≤ b.f := o.1.filter q
    refine List.Pairwise.imp_of_mem (fun {x y} hx hy h => ?_) h3
    have hx := List.mem_filter.mp hx
    have hy := List.mem_filter.mp hy
    exact h2 x hx.1 y hy.1 hx.2 hy.2 h
  · obtain ⟨x, hx, rfl⟩ := List.mem_map.mp hr
    have hx := List.mem_filter.mp hx
    exact h1 x hx.1 hx.2
theorem lay_ok {rs parts : List Rn} {a n : Int} (o : OrdR rs) (l : LstR rs) (hn : 0 < n) (op : OrdR parts) (hb : ∀ x ∈ parts, a ≤ x.f ∧ enR x ≤ a + n) :
    OrdR (layR rs a n parts) ∧ LstR (layR rs a n parts) ∧ ∀ p, pm (layR rs a n parts) p = if a ≤ p ∧ p < a + n then pm parts p else pm rs p := by
  obtain ⟨A, M, R, e, h1, h2, hA, hM, hR⟩ := pb_two o (p := a - 1) (q := a + n) (by omega)
  have eN : cutR rs (pb rs (a - 1)) (pb rs (a + n) + 1) = M ++ R.take 1 := by rw [h1, h2]; conv => lhs; rw [e]
                                                                              exact cut_is rfl rfl
  have eB : rs.drop (pb rs (a + n) + 1) = R.drop 1 := by rw [h2]; conv => lhs; rw [e]
                                                         exact drop_is rfl
  have eA : rs.take (pb rs (a - 1)) = A := by rw [h1]; conv => lhs; rw [e, List.append_assoc, List.take_left]
  unfold layR
  simp only []
  rw [eN, eB, eA]
  have hRs : R = R.take 1 ++ R.drop 1 := (List.take_append_drop 1 R).symm
  have o3 : OrdR (A ++ ((M ++ R.take 1) ++ R.drop 1)) := by rw [List.append_assoc M, ← hRs, ← List.append_assoc, ← e]; exact o
  have l3 : LstR (A ++ ((M ++ R.take 1) ++ R.drop 1)) := by rw [List.append_assoc M, ← hRs, ← List.append_assoc, ← e]; exact l
  have hN : ∀ x ∈ M ++ R.take 1, a ≤ enR x := fun x hx => by
    rcases List.mem_append.mp hx with hx | hx
    · have := hM x hx; omega
    · have := hR x (List.mem_of_mem_take hx); omega
  have hB : ∀ x ∈ R.drop 1, a + n < x.f := fun x hx => by
    cases R with
    | nil => cases hx
    | cons z B =>
      have h4 : enR z ≤ x.f := (ord_right (ord_right o3)) |> fun _ => by
        have h5 := ord_amid (ord_right o3) z (by simp) x hx
        exact h5
      have := hR z List.mem_cons_self
      omega
  have hz : R.drop 1 ≠ [] → ∃ z, (M ++ R.take 1).getLast? = some z ∧ a + n < enR z := fun h => by
    cases R with
    | nil => exact absurd rfl h
    | cons z B => exact ⟨z, by simp, hR z List.mem_cons_self⟩
  have oN : OrdR (M ++ R.take 1) := ord_left (ord_right o3)
  have oB : OrdR (R.drop 1) := ord_right (ord_right o3)
  have oA : OrdR A := ord_left o3
  have ep : ∀ p, pm rs p = (pm A p).or ((pm (M ++ R.take 1) p).or (pm (R.drop 1) p)) := fun p => by
    rw [← pm_append, ← pm_append, List.append_assoc M, ← hRs, ← List.append_assoc, ← e]
  generalize hNN : M ++ R.take 1 = N at *
  generalize R.drop 1 = B at *
  have oa : OrdR ((N.filter fun r => decide (r.f < a)).map fun r => poR r r.f a) := ord_map oN (fun x hx c => by
      have c : x.f < a := by simpa using c
      rw [po_ahead (hN x hx)]; show 0 < a - x.f; omega) fun x hx y hy c1 c2 h => by
    have c2 : y.f < a := by simpa using c2
    have := hN x hx
    omega
  have ob : OrdR ((N.filter fun r => decide (enR r > a + n)).map fun r => poR r (a + n) (enR r)) := ord_map oN (fun x hx c => by
      have c : enR x > a + n := by simpa using c
      have := oN.2 x hx
      show 0 < min (enR x) (enR x) - max x.f (a + n)
      rw [Int.min_self]
      unfold enR at *
      omega) fun x hx y hy c1 c2 h => by
    have c1 : enR x > a + n := by simpa using c1
    have := oN.2 x hx
    show max x.f (a + n) + (min (enR x) (enR x) - max x.f (a + n)) ≤ max y.f (a + n)
    rw [Int.min_self]
    omega
  have ahd : ∀ x ∈ (N.filter fun r => decide (r.f < a)).map fun r => poR r r.f a, enR x = a ∧ ∃ y ∈ N, y.f < a ∧ sHd x y := fun x hx => by
    obtain ⟨y, hy, rfl⟩ := List.mem_map.mp hx
    have hy := List.mem_filter.mp hy
    have c : y.f < a := by simpa using hy.2
    rw [po_ahead (hN y hy.1)]
    exact ⟨by show y.f + (a - y.f) = a; omega, y, hy.1, c, rfl, rfl, rfl⟩
  have bhd : ∀ x ∈ (N.filter fun r => decide (enR r > a + n)).map fun r => poR r (a + n) (enR r), a + n ≤ x.f ∧ ∃ y ∈ N, enR x = enR y := fun x hx => by
    obtain ⟨y, hy, rfl⟩ := List.mem_map.mp hx
    have hy := List.mem_filter.mp hy
    refine ⟨by show a + n ≤ max y.f (a + n); omega, y, hy.1, ?_⟩
    show max y.f (a + n) + (min (enR y) (enR y) - max y.f (a + n)) = enR y
    rw [Int.min_self]; omega
  generalize hAH : (N.filter fun r => decide (r.f < a)).map (fun r => poR r r.f a) = ah at *
  generalize hBH : (N.filter fun r => decide (enR r > a + n)).map (fun r => poR r (a + n) (enR r)) = bh at *
  have oX : OrdR (ah ++ parts ++ bh) := by
    refine ord_app (ord_app oa op fun x hx y hy => ?_) ob fun x hx y hy => ?_
    · have := (ahd x hx).1; have := (hb y hy).1; omega
    · have h4 := (bhd y hy).1
      rcases List.mem_append.mp hx with hx | hx
      · have := (ahd x hx).1; omega
      · have := (hb x hx).2; omega
  have J := jn_ok oX
  have hXB : ∀ x ∈ jn (ah ++ parts ++ bh), ∀ y ∈ B, enR x ≤ y.f := fun x hx y hy => by
    refine J.hi y.f (fun w hw => ?_) x hx
    rcases List.mem_append.mp hw with hw | hw
    · rcases List.mem_append.mp hw with hw | hw
      · have := (ahd w hw).1; have := hB y hy; omega
      · have := (hb w hw).2; have := hB y hy; omega
    · obtain ⟨z, hz1, hz2⟩ := (bhd w hw).2
      rw [hz2]
      exact ord_amid (ord_right o3) z hz1 y hy
  have hAX : ∀ x ∈ A, ∀ y ∈ jn (ah ++ parts ++ bh), enR x ≤ y.f := fun x hx y hy => by
    refine J.lo (enR x) (fun w hw => ?_) y hy
    have hx2 := hA x hx
    rcases List.mem_append.mp hw with hw | hw
    · rcases List.mem_append.mp hw with hw | hw
      · obtain ⟨z, hz1, _, hz2⟩ := (ahd w hw).2
        rw [hz2.1]
        exact ord_amid o3 x hx z (List.mem_append_left _ hz1)
      · have := (hb w hw).1; omega
    · have := (bhd w hw).1; omega
  refine ⟨?_, ?_, ?_⟩
  · refine ord_app (ord_app oA J.ord hAX) oB fun x hx y hy => ?_
    rcases List.mem_append.mp hx with hx | hx
    · exact ord_amid o3 x hx y (List.mem_append_right _ hy)
    · exact hXB x hx y hy
  · have lA : LstR A := lst_left l3
    have lB : LstR B := lst_right (lst_right l3)
    have lAX : LstR (A ++ jn (ah ++ parts ++ bh)) := lst_app lA J.lst fun u v hu hv => by
      cases hX : (ah ++ parts ++ bh).head? with
      | none =>
        have hX := List.head?_eq_none_iff.mp hX
        rw [hX, show jn [] = [] from rfl] at hv
        cases hv
      | some w =>
        obtain ⟨v', hv', sv⟩ := J.hd w hX
        rw [hv] at hv'
        cases hv'
        rw [go_hd sv]
        have hu2 := hA u (List.mem_of_getLast? hu)
        by_cases cw : a ≤ w.f
        · unfold go
          rw [decide_eq_false (by omega)]; rfl
        · cases ah with
          | nil =>
            exfalso
            have hw : w ∈ parts ++ bh := by
              rw [List.nil_append] at hX
              exact List.mem_of_head? hX
            rcases List.mem_append.mp hw with hw | hw
            · exact cw (hb w hw).1
            · have := (bhd w hw).1; omega
          | cons w' ah' =>
            obtain rfl : w' = w := by simpa using hX
            obtain ⟨y, hy, hya, sy⟩ := (ahd w' List.mem_cons_self).2
            rw [go_hd sy]
            refine lst_amid l3 hu ?_
            rw [List.head?_append]
            cases N with
            | nil => cases hy
            | cons y0 N =>
              rcases List.mem_cons.mp hy with rfl | hy
              · rfl
              · have h5 := oN.head y hy
                have h6 := hN y0 List.mem_cons_self
                omega
    refine lst_app lAX lB fun u v hu hv => ?_
    have hBne : B ≠ [] := fun z => by rw [z] at hv; cases hv
    obtain ⟨z, hz1, hz2⟩ := hz hBne
    obtain ⟨N0, rfl⟩ := snoc_of hz1
    have hlast : (ah ++ parts ++ bh).getLast? = some (poR z (a + n) (enR z)) := by
      rw [← hBH, List.filter_append, List.map_append]
      have : ([z].filter fun r => decide (enR r > a + n)) = [z] := by rw [List.filter_cons, decide_eq_true hz2]; rfl
      rw [this, ← List.append_assoc, List.map_cons, List.map_nil, List.getLast?_concat]
    obtain ⟨u', hu', su⟩ := J.ls _ hlast
    have hne : jn (ah ++ parts ++ bh) ≠ [] := fun z => by rw [z] at hu'; cases hu'
    rw [List.getLast?_append, hu'] at hu
    obtain rfl : u' = u := by simpa using hu
    rw [go_ls su]
    have sz : sLs (poR z (a + n) (enR z)) z := by
      refine ⟨?_, rfl, fun p => ?_⟩
      · show max z.f (a + n) + (min (enR z) (enR z) - max z.f (a + n)) = enR z
        rw [Int.min_self]; omega
      · exact tf_shift
    rw [go_ls sz]
    exact lst_amid (lst_right l3) hz1 hv
  · intro p
    rw [pm_append, pm_append, J.pg, pm_append, pm_append, ep p]
    have e1 : pm ah p = if p < a then pm N p else none := by rw [← hAH]; exact pm_ahead hN
    have e2 : pm bh p = if a + n ≤ p then pm N p else none := by rw [← hBH]; exact pm_behind
    rw [e1, e2]
    by_cases c : a ≤ p ∧ p < a + n
    · rw [if_pos c, if_neg (by omega), if_neg (by omega), pm_above (rs := A) fun r hr => by have := hA r hr; omega, pm_below (rs := B) fun r hr => by have := hB r hr; omega]
      cases pm parts p <;> rfl
    · rw [if_neg c, pm_none (rs := parts) fun r hr z => by have := hb r hr; omega]
      by_cases c2 : p < a
      · rw [if_pos c2, if_neg (by omega)]
        cases pm A p <;> cases pm N p <;> rfl
      · rw [if_neg c2, if_pos (by omega)]
        cases pm A p <;> cases pm N p <;> rfl

/-! ### what lies amid -/
theorem po_amid {r : Rn} {a e : Int} (h1 : a < enR r) (h2 : r.f < e) (h3 : a < e) (h0 : 0 < r.m) : a ≤ (poR r a e).f ∧ enR (poR r a e) ≤ e ∧ 0 < (poR r a e).m := by
  have e1 : (poR r a e).f = max r.f a := rfl
  have e2 : (poR r a e).m = min (enR r) e - max r.f a := rfl
  have e3 : enR (poR r a e) = max r.f a + (min (enR r) e - max r.f a) := rfl
  rw [e3, e2, e1]
  unfold enR at *
  omega
theorem pm_po {a e p : Int} : ∀ {N : List Rn}, (∀ x ∈ N, 0 < x.m) → pm ((N.filter fun r => decide (r.f < e)).map fun r => poR r a e) p = if a ≤ p ∧ p < e then pm N p else none
  | [], _ => by simp [pm]
  | x :: N, h => by
    have ih := pm_po (a := a) (e := e) (p := p) (N := N) fun y hy => h y (List.mem_cons_of_mem _ hy)
    have hx := h x List.mem_cons_self
    rw [List.filter_cons]
    by_cases c : x.f < e
    · rw [decide_eq_true c]
      simp only [if_true, List.map_cons]
      show (if max x.f a ≤ p ∧ p < max x.f a + (min (enR x) e - max x.f a) then some (x.r, tf ⟨_, _, _, tf x (max x.f a)⟩ p) else pm _ p) = if a ≤ p ∧ p < e then (if x.f ≤ p ∧ p < enR x then some (x.r, tf x p) else pm N p) else none
      rw [ih, tf_shift]
      by_cases c2 : a ≤ p ∧ p < e
      · rw [if_pos c2, if_pos c2]
        by_cases c3 : x.f ≤ p ∧ p < enR x
        · rw [if_pos c3, if_pos (by omega)]
        · rw [if_neg c3, if_neg (by omega)]
      · rw [if_neg c2, if_neg c2, if_neg (by omega)]
    · rw [decide_eq_false c]
      simp only [Bool.false_eq_true, if_false]
      rw [ih]
      show _ = if a ≤ p ∧ p < e then (if x.f ≤ p ∧ p < enR x then some (x.r, tf x p) else pm N p) else none
      by_cases c2 : a ≤ p ∧ p < e
      · rw [if_pos c2, if_pos c2, if_neg (by omega)]
      · rw [if_neg c2, if_neg c2]
theorem pam_ok {rs : List Rn} {a n : Int} (o : OrdR rs) (hn : 0 < n) : OrdR (pam rs a n) ∧ (∀ x ∈ pam rs a n, a ≤ x.f ∧ enR x ≤ a + n) ∧ ∀ p, pm (pam rs a n) p = if a ≤ p ∧ p < a + n then pm rs p else none := by
  obtain ⟨A, M, R, e, h1, h2, hA, hM, hR⟩ := pb_two o (p := a) (q := a + n) (by omega)
  have eN : cutR rs (pb rs a) (pb rs (a + n) + 1) = M ++ R.take 1 := by rw [h1, h2]; conv => lhs; rw [e]
                                                                        exact cut_is rfl rfl
  unfold pam
  rw [eN]
  have hRs : R = R.take 1 ++ R.drop 1 := (List.take_append_drop 1 R).symm
  have o3 : OrdR (A ++ ((M ++ R.take 1) ++ R.drop 1)) := by rw [List.append_assoc M, ← hRs, ← List.append_assoc, ← e]; exact o
  have hN : ∀ x ∈ M ++ R.take 1, a < enR x := fun x hx => by
    rcases List.mem_append.mp hx with hx | hx
    · exact (hM x hx).1
    · have := hR x (List.mem_of_mem_take hx); omega
  have hB : ∀ x ∈ R.drop 1, a + n < x.f := fun x hx => by
    cases R with
    | nil => cases hx
    | cons z B =>
      have h5 := ord_amid (ord_right o3) z (by simp) x hx
      have := hR z List.mem_cons_self
      omega
  have oN : OrdR (M ++ R.take 1) := ord_left (ord_right o3)
  have ep : ∀ p, pm rs p = (pm A p).or ((pm (M ++ R.take 1) p).or (pm (R.drop 1) p)) := fun p => by
    rw [← pm_append, ← pm_append, List.append_assoc M, ← hRs, ← List.append_assoc, ← e]
  generalize M ++ R.take 1 = N at *
  generalize R.drop 1 = B at *
  refine ⟨ord_map oN (fun x hx c => ?_) (fun x hx y hy c1 c2 h => ?_), fun x hx => ?_, fun p => ?_⟩
  · exact (po_amid (hN x hx) (by simpa using c) (by omega) (oN.2 x hx)).2.2
  · show max x.f a + (min (enR x) (a + n) - max x.f a) ≤ max y.f a
    omega
  · obtain ⟨y, hy, rfl⟩ := List.mem_map.mp hx
    have hy := List.mem_filter.mp hy
    have := po_amid (hN y hy.1) (by simpa using hy.2) (show a < a + n by omega) (oN.2 y hy.1)
    exact ⟨this.1, this.2.1⟩
  · rw [pm_po fun x hx => oN.2 x hx, ep p]
    by_cases c : a ≤ p ∧ p < a + n
    · rw [if_pos c, if_pos c, pm_above (rs := A) fun r hr => by have := hA r hr; omega, pm_below (rs := B) fun r hr => by have := hB r hr; omega]
      cases pm N p <;> rfl
    · rw [if_neg c, if_neg c]
theorem sum_le : ∀ {L : List Rn} {a e : Int}, OrdR L → a ≤ e → (∀ x ∈ L, a ≤ x.f ∧ enR x ≤ e) → 0 ≤ (L.map (·.m)).sum ∧ (L.map (·.m)).sum ≤ e - a ∧ ((L.map (·.m)).sum = e - a ↔ ∀ p, a ≤ p → p < e → pm L p ≠ none)
  | [], a, e, _, h, _ => by
    refine ⟨by simp, by simp; omega, ?_⟩
    constructor
    · intro h1 p h2 h3
      simp at h1
      omega
    · intro h1
      simp
      rcases (by omega : a < e ∨ e ≤ a) with h2 | h2
      · exact absurd rfl (h1 a (Int.le_refl _) h2)
      · omega
  | x :: L, a, e, o, h, hb => by
    have hx := hb x List.mem_cons_self
    have pos := o.2 x List.mem_cons_self
    have ih := sum_le (L := L) (a := enR x) (e := e) o.tail hx.2 fun y hy => ⟨o.head y hy, (hb y (List.mem_cons_of_mem _ hy)).2⟩
    rw [List.map_cons, List.sum_cons]
    have ex : enR x = x.f + x.m := rfl
    refine ⟨by omega, by omega, ?_⟩
    constructor
    · intro h1 p h2 h3
      have h4 : (L.map (·.m)).sum = e - enR x := by omega
      have h5 : x.f = a := by omega
      show (if x.f ≤ p ∧ p < enR x then some (x.r, tf x p) else pm L p) ≠ none
      by_cases c : p < enR x
      · rw [if_pos (by omega)]; exact fun z => by cases z
      · rw [if_neg (by omega)]
        exact ih.2.2.mp h4 p (by omega) h3
    · intro h1
      have h5 : x.f = a := by
        rcases (by omega : a < x.f ∨ x.f ≤ a) with h2 | h2
        · refine absurd (pm_below (p := a) (rs := x :: L) fun r hr => ?_) (h1 a (Int.le_refl _) (by omega))
          rcases List.mem_cons.mp hr with rfl | hr
          · exact h2
          · have := o.head r hr; omega
        · omega
      have h4 := ih.2.2.mpr fun p h2 h3 => by
        have := h1 p (by omega) h3
        intro z
        apply this
        show (if x.f ≤ p ∧ p < enR x then some (x.r, tf x p) else pm L p) = none
        rw [if_neg (by omega)]; exact z
      omega
theorem full_iff {rs : List Rn} {a n : Int} (o : OrdR rs) (hn : 0 < n) : ((pam rs a n).map (·.m)).sum = n ↔ ∀ p, a ≤ p → p < a + n → pm rs p ≠ none := by
  obtain ⟨h1, h2, h3⟩ := pam_ok (a := a) o hn
  have := (sum_le h1 (show a ≤ a + n by omega) h2).2.2
  rw [show a + n - a = n by omega] at this
  rw [this]
  refine ⟨fun h p x y => ?_, fun h p x y => ?_⟩
  · have := h p x y; rw [h3, if_pos ⟨x, y⟩] at this; exact this
  · rw [h3, if_pos ⟨x, y⟩]; exact h p x y
theorem free_iff {rs : List Rn} {a n : Int} (o : OrdR rs) (hn : 0 < n) : pam rs a n = [] ↔ ∀ p, a ≤ p → p < a + n → pm rs p = none := by
  obtain ⟨h1, h2, h3⟩ := pam_ok (a := a) o hn
  refine ⟨fun h p x y => ?_, fun h => ?_⟩
  · have := h3 p
    rw [h, if_pos ⟨x, y⟩] at this
    exact this.symm
  · cases e : pam rs a n with
    | nil => rfl
    | cons z L =>
      rw [e] at h1 h2 h3
      have hz := h2 z List.mem_cons_self
      have hp := h1.2 z List.mem_cons_self
      have ez : enR z = z.f + z.m := rfl
      have h4 := pm_mem h1 (p := z.f) List.mem_cons_self (Int.le_refl _) (by omega)
      rw [h3, if_pos (by omega), h z.f hz.1 (by omega)] at h4
      cases h4
/-- other rights -/
theorem pm_rights {q : Int} : ∀ {L : List Rn} {p : Int}, pm (L.map fun x => (⟨x.f, x.m, q, x.t⟩ : Rn)) p = (pm L p).map fun y => (q, y.2)
  | [], _ => rfl
  | x :: L, p => by
    show (if x.f ≤ p ∧ p < enR x then some (q, tf ⟨x.f, x.m, q, x.t⟩ p) else pm _ p) = (if x.f ≤ p ∧ p < enR x then some (x.r, tf x p) else pm L p).map _
    have e : tf ⟨x.f, x.m, q, x.t⟩ p = tf x p := rfl
    rw [e, pm_rights (L := L)]
    by_cases c : x.f ≤ p ∧ p < enR x
    · rw [if_pos c, if_pos c]; rfl
    · rw [if_neg c, if_neg c]
theorem ord_rights {q : Int} {L : List Rn} (o : OrdR L) : OrdR (L.map fun x => (⟨x.f, x.m, q, x.t⟩ : Rn)) := by
  refine ⟨?_, fun r hr => ?_⟩
  · rw [List.pairwise_map]; exact o.1
  · obtain ⟨x, hx, rfl⟩ := List.mem_map.mp hr
    exact o.2 x hx
/-! ### halving -/
theorem pb_le {rs : List Rn} {p : Int} : pb rs p ≤ rs.length := by unfold pb; exact (List.takeWhile_prefix _).length_le
theorem pb_at {rs : List Rn} (o : OrdR rs) {p : Int} {i : Nat} {x : Rn} (h : rs[i]? = some x) : i < pb rs p ↔ enR x ≤ p := by
  obtain ⟨A, R, e, h1, h2, h3⟩ := pb_part o p
  rw [h1]
  rw [e] at h
  constructor
  · intro hi
    rw [List.getElem?_append_left hi] at h
    exact h2 x (List.mem_of_getElem? h)
  · intro hx
    rcases Nat.lt_or_ge i A.length with hi | hi
    · exact hi
    · rw [List.getElem?_append_right hi] at h
      have := h3 x (List.mem_of_getElem? h)
      omega

/-! ### runs in the heap -/
def TieAt (H : Hp) (v : V) : Option (Int × Int) → Prop
  | none => v = .non
  | some (b, k) => ∃ a, v = .ref a ∧ H a = some (.tup [.int b, .int k])
def RunAt (H : Hp) (v : V) (r : Rn) : Prop := ∃ a tv, v = .ref a ∧ H a = some (.tup [.int r.f, .int r.m, .int r.r, tv]) ∧ TieAt H tv r.t
theorem TieAt.same {H H' : Hp} {v : V} : ∀ {t : Option (Int × Int)}, TieAt H v t → Same H H' → TieAt H' v t
  | none, h, _ => h
  | some (b, k), ⟨a, e, h⟩, s => ⟨a, e, s _ _ h⟩
theorem RunAt.same {H H' : Hp} {v : V} {r : Rn} (h : RunAt H v r) (s : Same H H') : RunAt H' v r := let ⟨a, tv, e, h1, h2⟩ := h; ⟨a, tv, e, s _ _ h1, h2.same s⟩
/-- a list of ours changes; tuples stay -/
theorem TieAt.same2 {H H' : Hp} {a : Addr} {xs : List V} {o : HO} {v : V} (hx : H' a = some (.lst xs)) : ∀ {t : Option (Int × Int)}, TieAt H' v t → TieAt (upd H' a o) v t
  | none, h => h
  | some (b, k), ⟨c, e, h⟩ => ⟨c, e, by rw [upd_ne (ne_of h hx fun z => nomatch z)]; exact h⟩
theorem RunAt.same2 {H H' : Hp} {a : Addr} {xs : List V} {o : HO} {v : V} {r : Rn} (h : RunAt H' v r) (hx : H' a = some (.lst xs)) (_ : Same H H') : RunAt (upd H' a o) v r :=
  let ⟨c, tv, e, h1, h2⟩ := h
  ⟨c, tv, e, by rw [upd_ne (ne_of h1 hx fun z => nomatch z)]; exact h1, TieAt.same2 (H := H) hx h2⟩
abbrev RunsAt (H : Hp) : List V → List Rn → Prop := Paired (RunAt H)
theorem RunsAt.same {H H' : Hp} {vs : List V} {rs : List Rn} (h : RunsAt H vs rs) (s : Same H H') : RunsAt H' vs rs := Paired.mapP h fun _ _ q => q.same s
theorem RunsAt.same2 {H H' : Hp} {a : Addr} {xs : List V} {o : HO} {vs : List V} {rs : List Rn} (h : RunsAt H' vs rs) (hx : H' a = some (.lst xs)) (s : Same H H') : RunsAt (upd H' a o) vs rs := Paired.mapP h fun _ _ q => q.same2 hx s
theorem prd_get {α β : Type} {F : α → β → Prop} : ∀ {xs : List α} {ys : List β} {i : Nat} {x : α}, Paired F xs ys → xs[i]? = some x → ∃ y, ys[i]? = some y ∧ F x y
  | _, _, _, _, .nil, e => by simp at e
  | _, _, 0, _, .cons r _, e => by simp at e; subst e; exact ⟨_, rfl, r⟩
  | _, _, i + 1, x, .cons _ t, e => by
    obtain ⟨u, h1, h2⟩ := prd_get (i := i) (x := x) t (by simpa using e)
    exact ⟨u, by simpa using h1, h2⟩
theorem prd_app {α β : Type} {F : α → β → Prop} : ∀ {xs : List α} {ys : List β} {zs : List α} {ws : List β}, Paired F xs ys → Paired F zs ws → Paired F (xs ++ zs) (ys ++ ws)
  | _, _, _, _, .nil, h => h
  | _, _, _, _, .cons r t, h => .cons r (prd_app t h)
theorem prd_take {α β : Type} {F : α → β → Prop} : ∀ {xs : List α} {ys : List β} (n : Nat), Paired F xs ys → Paired F (xs.take n) (ys.take n)
  | _, _, 0, _ => .nil
  | _, _, _ + 1, .nil => .nil
  | _, _, n + 1, .cons r t => .cons r (prd_take n t)
theorem prd_drop {α β : Type} {F : α → β → Prop} : ∀ {xs : List α} {ys : List β} (n : Nat), Paired F xs ys → Paired F (xs.drop n) (ys.drop n)
  | _, _, 0, h => h
  | _, _, _ + 1, .nil => .nil
  | _, _, n + 1, .cons _ t => prd_drop n t

def sp_end_of (K : PySem.W.Frag) : Sp := fun vs H Q _ => ∃ v r, vs = [v] ∧ RunAt H v r ∧ Q (.int (enR r)) H
theorem h_end_of (T : Txt K mg A) : Have P w K mg base "end_of" 1 ["run"] [] (sp_end_of K) := by
  refine T.r_end_of.have sc_end_of (fun vs H Q E z => ?_) ?_
  · obtain ⟨v, r, rfl, _⟩ := z; rfl
  · intro f cdv A' outer s H vs Q E hr z
    obtain ⟨v, r, rfl, ⟨a, tv, rfl, ha, ht⟩, q⟩ := z
    refine ⟨_, (pss_one (ps_ret (pe_op op_add (pe_ix ix_tup (pv 0) pe_int (fun _ _ => rfl)) (pe_ix ix_tup (pv 0) pe_int (fun _ _ => rfl))))), ?_⟩
    walk_at "wp"
    exact ⟨_, SqT.of ha, _, rfl, _, SqT.of ha, _, rfl, _, rfl, _, rfl, q⟩
def sp_tie_from (K : PySem.W.Frag) : Sp := fun vs H Q _ => ∃ v r p, vs = [v, .int p] ∧ RunAt H v r ∧ ∀ u H', Same H H' → TieAt H' u (tf r p) → Q u H'
theorem h_tie_from (T : Txt K mg A) : Have P w K mg base "tie_from" 1 ["run", "page"] [] (sp_tie_from K) := by
  refine T.r_tie_from.have sc_tie_from (fun vs H Q E z => ?_) ?_
  · obtain ⟨v, r, p, rfl, _⟩ := z; rfl
  · intro f cdv A' outer s H vs Q E hr z
    obtain ⟨v, r, p, rfl, ⟨a, tv, rfl, ha, ht⟩, q⟩ := z
    refine ⟨_, (pss_cons (ps_set (i := 2) sc_tie_from.nd rfl (Or.inl rfl) (pe_ix ix_tup (pv 0) pe_int (fun _ _ => rfl)))
      (pss_cons (ps_if (pt_cmpR op_isN (pv 2) pe_non (nomark _)) (pss_one (ps_ret pe_non)) pss_nil)
      (pss_one (ps_ret (pe_tup (pa_cons (pe_ix ix_tup (pv 2) pe_int (fun _ _ => rfl)) (pa_cons (pe_op op_sub (pe_op op_add (pe_ix ix_tup (pv 2) pe_int (fun _ _ => rfl)) (pv 1)) (pe_ix ix_tup (pv 0) pe_int (fun _ _ => rfl))) pa_nil))))))), ?_⟩
    walk_at "wp"
    refine ⟨_, SqT.of ha, _, rfl, ?_⟩
    cases e : r.t with
    | none =>
      rw [e] at ht
      have ht : tv = .non := ht
      subst ht
      rw [if_pos rfl]
      refine q _ _ same_refl ?_
      unfold tf
      rw [e]
      rfl
    | some t =>
      obtain ⟨b, k⟩ := t
      rw [e] at ht
      obtain ⟨c, rfl, hc⟩ := ht
      rw [if_neg (fun z => nomatch z)]
      walk_at "wp"
      refine ⟨_, SqT.of hc, _, rfl, _, SqT.of hc, _, rfl, _, rfl, _, SqT.of ha, _, rfl, _, rfl, fun p2 hp2 => ?_⟩
      refine q _ _ (same_upd same_refl hp2) ?_
      unfold tf
      rw [e]
      exact ⟨p2, rfl, upd_same⟩
def sp_part_of (K : PySem.W.Frag) : Sp := fun vs H Q _ => ∃ v r lo hi, vs = [v, .int lo, .int hi] ∧ RunAt H v r ∧ ∀ u H', Same H H' → RunAt H' u (poR r lo hi) → Q u H'
theorem h_part_of (T : Txt K mg A) : Have P w K mg base "part_of" 2 ["run", "low", "high"] [] (sp_part_of K) := by
  have H_end_of := h_end_of (P := P) (w := w) (base := base) T
  have H_tie_from := h_tie_from (P := P) (w := w) (base := base) T
  refine T.r_part_of.have sc_part_of (fun vs H Q E z => ?_) ?_
  · obtain ⟨v, r, lo, hi, rfl, _⟩ := z; rfl
  · intro f cdv A' outer s H vs Q E hr z
    obtain ⟨v, r, lo, hi, rfl, hR, q⟩ := z
    obtain ⟨a, tv, rfl, ha, ht⟩ := id hR
    refine ⟨_, (pss_cons (ps_set (i := 3) sc_part_of.nd rfl (Or.inl rfl) (pe_callB (call_max2 rfl) rfl T.b_max PyProof.Rows.boot_max (pa_cons (pe_ix ix_tup (pv 0) pe_int (fun _ _ => rfl)) (pa_cons (pv 1) pa_nil))))
      (pss_one (ps_ret (pe_tup (pa_cons (pv 3) (pa_cons (pe_op op_sub (pe_callB (call_min2 rfl) rfl T.b_min PyProof.Rows.boot_min (pa_cons (pe_callE H_end_of (hr.mono (by decide)) xw_def (pa_cons (pv 0) pa_nil)) (pa_cons (pv 2) pa_nil))) (pv 3)) (pa_cons (pe_ix ix_tup (pv 0) pe_int (fun _ _ => rfl)) (pa_cons (pe_callE H_tie_from (hr.mono (by decide)) xw_def (pa_cons (pv 0) (pa_cons (pv 3) pa_nil))) pa_nil)))))))), ?_⟩
    unfold sp_end_of sp_tie_from
    walk_at "wp"
    refine ⟨_, SqT.of ha, _, rfl, _, rfl, r, hR, _, SqT.of ha, _, rfl, r, hR, fun u H1 s1 hu p hp => ?_⟩
    have e1 : (if lo > r.f then lo else r.f) = max r.f lo := by split <;> omega
    have e2 : (if hi < enR r then hi else enR r) = min (enR r) hi := by split <;> omega
    rw [e1, e2]
    rw [e1] at hu
    refine q _ _ (same_upd s1 hp) ⟨p, u, rfl, upd_same, ?_⟩
    exact hu.same (same_upd same_refl hp)
theorem eq_ties {H : Hp} {u v : V} {t1 t2 : Option (Int × Int)} {Q : VK} (h1 : TieAt H u t1) (h2 : TieAt H v t2) (q : Q (.bl (decide (t1 = t2))) H) : rEqN K 4 u v H Q := by
  cases t1 with
  | none =>
    cases t2 with
    | none => exact .inl ⟨h1, h2, q⟩
    | some t2 =>
      obtain ⟨b, k⟩ := t2
      obtain ⟨a, e, h2⟩ := h2
      exact .inr (.inl ⟨h1, ⟨a, _, e, SqT.of h2⟩, q⟩)
  | some t1 =>
    obtain ⟨b, k⟩ := t1
    obtain ⟨a, e, h1⟩ := h1
    cases t2 with
    | none => exact .inr (.inr (.inl ⟨⟨a, _, e, SqT.of h1⟩, h2, q⟩))
    | some t2 =>
      obtain ⟨b2, k2⟩ := t2
      obtain ⟨a2, e2, h2⟩ := h2
      subst e e2
      refine .inr (.inr (.inr ⟨true, dInts [b, k], dInts [b2, k2], sees_tup (ns := [b, k]) (SqT.of h1), sees_tup (ns := [b2, k2]) (SqT.of h2), alike_ints _ _, by rw [deep_ints]; decide, ?_⟩))
      rw [eq_ints]
      rw [show decide ([b, k] = [b2, k2]) = decide (some (b, k) = some (b2, k2)) from by rw [decide_eq_decide]; simp]
      exact q
def sp_goes_on (K : PySem.W.Frag) : Sp := fun vs H Q _ => ∃ v u r s, vs = [v, u] ∧ RunAt H v r ∧ RunAt H u s ∧ ∀ H', Same H H' → Q (.bl (go r s)) H'
theorem h_goes_on (T : Txt K mg A) : Have P w K mg base "goes_on" 2 ["run", "later"] [] (sp_goes_on K) := by
  have H_end_of := h_end_of (P := P) (w := w) (base := base) T
  have H_tie_from := h_tie_from (P := P) (w := w) (base := base) T
  refine T.r_goes_on.have sc_goes_on (fun vs H Q E z => ?_) ?_
  · obtain ⟨v, u, r, s, rfl, _⟩ := z; rfl
  · intro f cdv A' outer s H vs Q E hr z
    obtain ⟨v, u, r, s', rfl, hR, hS, q⟩ := z
    obtain ⟨a, tv, rfl, ha, ht⟩ := id hR
    obtain ⟨b, uv, rfl, hb, hu⟩ := id hS
    refine ⟨_, (pss_one (ps_ret (pe_and (pe_cmpR op_eq (pe_callE H_end_of (hr.mono (by decide)) xw_def (pa_cons (pv 0) pa_nil)) (pe_ix ix_tup (pv 1) pe_int (fun _ _ => rfl)) (nomark _)) (pe_and (pe_cmpR op_eq (pe_ix ix_tup (pv 0) pe_int (fun _ _ => rfl)) (pe_ix ix_tup (pv 1) pe_int (fun _ _ => rfl)) (nomark _)) (pe_one (pe_cmpR (op_eqN (n := 4) (hu6 hr)) (pe_callE H_tie_from (hr.mono (by decide)) xw_def (pa_cons (pv 0) (pa_cons (pe_ix ix_tup (pv 1) pe_int (fun _ _ => rfl)) pa_nil))) (pe_ix ix_tup (pv 1) pe_int (fun _ _ => rfl)) (nomark _))))))), ?_⟩
    unfold sp_end_of sp_tie_from
    walk_at "wp"
    refine ⟨r, hR, _, SqT.of hb, .int s'.f, rfl, rfl, ?_⟩
    by_cases c1 : enR r = s'.f
    · rw [if_pos (by rw [c1])]
      refine ⟨_, SqT.of ha, .int r.r, rfl, _, SqT.of hb, .int s'.r, rfl, rfl, ?_⟩
      by_cases c2 : r.r = s'.r
      · rw [if_pos (by rw [c2])]
        refine ⟨_, SqT.of hb, _, rfl, r, _, rfl, hR, fun u H1 s1 hu1 => ⟨_, SqT.of (s1 _ _ hb), uv, rfl, eq_ties hu1 (hu.same s1) ?_⟩⟩
        have e : go r s' = decide (tf r s'.f = s'.t) := by unfold go; rw [decide_eq_true c1, decide_eq_true c2, Bool.true_and, Bool.true_and]
        have := q _ s1
        rw [e] at this
        exact this
      · rw [if_neg (fun z => c2 (V.int.inj z))]
        have e : go r s' = false := by unfold go; rw [decide_eq_false c2, Bool.and_false, Bool.false_and]
        have := q _ same_refl
        rw [e] at this
        exact this
    · rw [if_neg (fun z => c1 (V.int.inj z))]
      have e : go r s' = false := by unfold go; rw [decide_eq_false c1, Bool.false_and, Bool.false_and]
      have := q _ same_refl
      rw [e] at this
      exact this
theorem prd_snoc {α β : Type} {F : α → β → Prop} {y : β} : ∀ {ys : List β} {xs : List α}, Paired F xs (ys ++ [y]) → ∃ zs z, xs = zs ++ [z] ∧ Paired F zs ys ∧ F z y
  | [], _, .cons r .nil => ⟨[], _, rfl, .nil, r⟩
  | _ :: _, _, .cons r t => by
    obtain ⟨zs, z, e, h1, h2⟩ := prd_snoc t
    exact ⟨_ :: zs, z, by rw [e]; rfl, .cons r h1, h2⟩
theorem jn_len : ∀ (l acc : List Rn), (l.foldl jstep acc).length ≤ acc.length + l.length
  | [], acc => Nat.le_refl _
  | r :: l, acc => by
    rw [List.foldl_cons]
    refine Nat.le_trans (jn_len l _) ?_
    have : (jstep acc r).length ≤ acc.length + 1 := by
      unfold jstep
      cases h : acc.getLast? with
      | none => simp
      | some x =>
        simp only
        split
        · rw [List.length_append, List.length_dropLast, List.length_singleton]
          cases acc with
          | nil => cases h
          | cons a acc => simp
        · simp
    rw [List.length_cons]
    omega
theorem jstep_no {acc : List Rn} {l r : Rn} (h : go l r = false) : jstep (acc ++ [l]) r = acc ++ [l] ++ [r] := by
  unfold jstep
  rw [List.getLast?_concat]
  show (if go l r = true then _ else _) = _
  rw [h]; rfl
theorem jstep_yes {acc : List Rn} {l r : Rn} (h : go l r = true) : jstep (acc ++ [l]) r = acc ++ [⟨l.f, l.m + r.m, l.r, l.t⟩] := by
  unfold jstep
  rw [List.getLast?_concat]
  show (if go l r = true then _ else _) = _
  rw [if_pos h, List.dropLast_concat]
def sp_joined (K : PySem.W.Frag) : Sp := fun vs H Q _ => ∃ (a : Addr) (ws : List V) (rs : List Rn), vs = [.ref a] ∧ SqL K H a ws ∧ RunsAt H ws rs ∧ rs.length ≤ 1000000 ∧ ∀ t us H', Same H H' → H t = none → H' t = some (.lst us) → RunsAt H' us (jn rs) → Q (.ref t) H'
theorem h_joined (T : Txt K mg A) : Have P w K mg base "joined" 3 ["runs"] [] (sp_joined K) := by
  have H_goes_on := h_goes_on (P := P) (w := w) (base := base) T
  refine T.r_joined.have sc_joined (fun vs H Q E z => ?_) ?_
  · obtain ⟨a, ws, rs, rfl, _⟩ := z; rfl
  · intro f cdv A' outer s H vs Q E hr z
    obtain ⟨a, ws, rs, rfl, ha, hR, hlen, q⟩ := z
    refine ⟨_, (pss_cons (ps_set (i := 1) sc_joined.nd rfl (Or.inl rfl) (pe_lst pa_nil))
      (pss_cons (ps_forE PassesOwn.leaving rfl (pi_list (pv 0)) (pg_name (i := 2) sc_joined.nd rfl (Or.inl rfl)) (pss_one (ps_if (PW.pt (pw_and (pt_cmpR op_gt (pe_callB call_len rfl T.b_len PySem.boot_len (pa_cons (pv 1) pa_nil)) pe_int (nomark _)) (pw_and1 (pt_val (pe_callE H_goes_on (hr.mono (by decide)) xw_def (pa_cons (pe_ix ix_list (pv 1) (pe_un op_neg pe_int) (fun _ _ => rfl)) (pa_cons (pv 2) pa_nil))))))) (pss_cons (ps_set (i := 3) sc_joined.nd rfl (Or.inl rfl) (pe_bm0 PySem.F.plainAttrs_list PySem.F.slot_list_pop PySem.F.type_list_pop mt_pop (pv 1)))
      (pss_one (ps_expr (pe_bm PySem.F.plainAttrs_list PySem.F.slot_list_append PySem.F.type_list_append mt_append (pv 1) (pa_cons (pe_tup (pa_cons (pe_ix ix_tup (pv 3) pe_int (fun _ _ => rfl)) (pa_cons (pe_op op_add (pe_ix ix_tup (pv 3) pe_int (fun _ _ => rfl)) (pe_ix ix_tup (pv 2) pe_int (fun _ _ => rfl))) (pa_cons (pe_ix ix_tup (pv 3) pe_int (fun _ _ => rfl)) (pa_cons (pe_ix ix_tup (pv 3) pe_int (fun _ _ => rfl)) pa_nil))))) pa_nil))))) (pss_one (ps_expr (pe_bm PySem.F.plainAttrs_list PySem.F.slot_list_append PySem.F.type_list_append mt_append (pv 1) (pa_cons (pv 2) pa_nil)))))))
      (pss_one (ps_ret (pv 1))))), ?_⟩
    unfold sp_goes_on
    walk_at "wp"
    intro t ht
    have sm0 := same_upd (o := .lst []) same_refl ht
    have hwl : ws.length = rs.length := Paired.length hR
    refine ⟨⟨_, sm0.seq ha⟩, loop_list (xs := ws) (fun i σ H' => ∃ us v2 v3, σ = [some (.ref a), some (.ref t), v2, v3] ∧ Same H H' ∧ H' t = some (.lst us) ∧ RunsAt H' us ((rs.take i).foldl jstep [])) ⟨[], _, _, rfl, sm0, upd_same, .nil⟩ (fun i σ H' _ ⟨_, _, _, _, e, _⟩ => e.seq ha) (fun i x σ H' hi => ?_) (fun σ H' => ?_)⟩
    · rintro ⟨us, v2, v3, rfl, sm, ht', hU⟩
      obtain ⟨r, hr1, hr2⟩ := prd_get hR hi
      have hrx := hr2.same sm
      have htk : rs.take (i + 1) = rs.take i ++ [r] := by rw [List.take_add_one, hr1]; rfl
      have hul : us.length ≤ i := by
        have h1 := Paired.length hU
        have h2 := jn_len (rs.take i) []
        rw [List.length_take] at h2
        simp only [List.length_nil] at h2
        omega
      have hil : i < rs.length := (List.getElem?_eq_some_iff.mp hr1).1
      rw [htk, List.foldl_append, List.foldl_cons, List.foldl_nil]
      generalize (rs.take i).foldl jstep [] = acc at *
      walk_at "wp"
      refine ⟨us.length, .inl ⟨_, SqL.of ht', rfl⟩, ?_⟩
      rcases hacc : acc.getLast? with _ | l
      · have e0 : acc = [] := List.getLast?_eq_none_iff.mp hacc
        subst e0
        cases hU
        rw [if_neg (show ¬ (0 : Int) < (([] : List V).length : Int) from fun z => absurd z (by decide))]
        refine iteF ⟨.inl ⟨rfl, _, SqL.of ht'⟩, _, ht', by show 0 < 16777216; decide, same_put sm ht, _, rfl, ?_⟩
        exact .cons (hrx.same2 ht' sm) .nil
      · obtain ⟨acc0, rfl⟩ := snoc_of hacc
        obtain ⟨us0, y, rfl, hU0, hy⟩ := prd_snoc hU
        have hpos : (0 : Int) < ((us0 ++ [y]).length : Int) := by rw [List.length_append, List.length_singleton]; omega
        rw [if_pos hpos]
        refine ⟨_, SqL.of ht', y, ?_, l, hy, r, hrx, fun H1 s1 => ?_⟩
        · unfold atI ixN
          rw [if_neg (by decide), if_pos (by rw [List.length_append, List.length_singleton]; omega)]
          show (us0 ++ [y])[(-1 + ((us0 ++ [y]).length : Int)).toNat]? = some y
          rw [List.length_append, List.length_singleton, show (-1 + ((us0.length + 1 : Nat) : Int)).toNat = us0.length by omega, List.getElem?_append_right (Nat.le_refl _), Nat.sub_self]
          rfl
        have ht1 := s1 _ _ ht'
        have sm1 := sm.trans s1
        cases hg : go l r with
        | true =>
          refine iteT ⟨.inl ⟨rfl, _, SqL.of ht1⟩, _, ht1, y, by rw [List.length_append, List.length_singleton, Nat.add_sub_cancel, List.getElem?_append_right (Nat.le_refl _), Nat.sub_self]; rfl, ?_⟩
          rw [List.dropLast_concat]
          have hy2 : RunAt (upd H1 t (.lst us0)) y l := (hy.same s1).same2 ht1 sm1
          have hx2 : RunAt (upd H1 t (.lst us0)) x r := (hrx.same s1).same2 ht1 sm1
          obtain ⟨c, cv, rfl, hc, hcv⟩ := id hy2
          obtain ⟨d, dv, rfl, hd, hdv⟩ := id hx2
          walk_at "wp"
          refine ⟨.inl ⟨rfl, _, SqL.of upd_same⟩, _, SqT.of hc, _, rfl, _, SqT.of hc, _, rfl, _, SqT.of hd, _, rfl, _, rfl, _, rfl, _, SqT.of hc, _, rfl, _, SqT.of hc, _, rfl, fun e he => ?_⟩
          have se := same_upd (o := .tup [V.int l.f, V.int (l.m + r.m), V.int l.r, cv]) same_refl he
          have hte := se _ _ (upd_same (H := H1) (a := t) (o := .lst us0))
          have sme := same_upd (o := .tup [V.int l.f, V.int (l.m + r.m), V.int l.r, cv]) (same_put (o := .lst us0) sm1 ht) he
          refine ⟨us0, hte, by rw [List.length_append, List.length_singleton] at hul; omega, same_put sme ht, _, rfl, ?_⟩
          rw [jstep_yes hg]
          refine prd_app (RunsAt.same2 (RunsAt.same (RunsAt.same2 (RunsAt.same hU0 s1) ht1 sm1) se) hte sme) (.cons ?_ .nil)
          exact RunAt.same2 (⟨e, cv, rfl, upd_same, hcv.same se⟩ : RunAt _ (.ref e) ⟨l.f, l.m + r.m, l.r, l.t⟩) hte sme
        | false =>
          refine iteF ⟨.inl ⟨rfl, _, SqL.of ht1⟩, _, ht1, by rw [List.length_append, List.length_singleton] at *; omega, same_put sm1 ht, _, rfl, ?_⟩
          rw [jstep_no hg]
          exact prd_app (prd_app (RunsAt.same2 (RunsAt.same hU0 s1) ht1 sm1) (.cons ((hy.same s1).same2 ht1 sm1) .nil)) (.cons ((hrx.same s1).same2 ht1 sm1) .nil)
    · rintro ⟨us, v2, v3, rfl, sm, ht', hU⟩
      walk_at "wp"
      rw [hwl, List.take_length] at hU
      exact q _ _ _ sm ht ht' hU

/-! ### the object -/
def stF (a : Addr) : List (Str × V) := putF "runs" (.ref a) []
theorem stF_runs {a : Addr} : (stF a).lookup ("runs" : Str) = some (.ref a) := by rfl
theorem stF_no {a : Addr} {m : Str} (h : ¬ m ∈ (["runs"] : List Str)) : (stF a).lookup m = none := by
  simp only [List.mem_cons, List.not_mem_nil, or_false] at h
  unfold stF
  simp only [lookup_putF, h, if_false]
  rfl
/-- stretches stand at p: the list at a -/
def StAt (C : Addr) (H : Hp) (p a : Addr) (rs : List Rn) : Prop := ∃ dx vs, H p = some (.ins C dx (stF a)) ∧ H a = some (.lst vs) ∧ RunsAt H vs rs
theorem StAt.same {C : Addr} {H H' : Hp} {p a : Addr} {rs : List Rn} (h : StAt C H p a rs) (s : Same H H') : StAt C H' p a rs := let ⟨dx, vs, h1, h2, h3⟩ := h; ⟨dx, vs, s _ _ h1, s _ _ h2, RunsAt.same h3 s⟩
def sp_place (K : PySem.W.Frag) (C : Addr) : Sp := fun vs H Q _ => ∃ (p a : Addr) (rs : List Rn) (x : Int), vs = [.ref p, .int x] ∧ StAt C H p a rs ∧ OrdR rs ∧ rs.length ≤ 1000000 ∧ Q (.int (pb rs x)) H
theorem h_place (T : Txt K mg A) : HaveM P w K mg base A.C_Stretches "place_behind" 2 ["self", "page"] [] (sp_place K A.C_Stretches) := by
  have H_end_of := h_end_of (P := P) (w := w) (base := base) T
  refine T.r_Stretches_place_behind.have sc_Stretches_place_behind (fun vs H Q E z => ?_) ?_
  · obtain ⟨p, a, rs, x, rfl, _⟩ := z; rfl
  · intro f cdv A' outer s H vs Q E hr z
    obtain ⟨p, a, rs, x, rfl, ⟨dx, vs, h1, h2, h3⟩, ho, hlen, q⟩ := z
    refine ⟨_, (pss_cons (ps_set (i := 2) sc_Stretches_place_behind.nd rfl (Or.inl rfl) pe_int)
      (pss_cons (ps_set (i := 3) sc_Stretches_place_behind.nd rfl (Or.inl rfl) (pe_callB call_len rfl T.b_len PySem.boot_len (pa_cons (pe_fld (pv 0) rfl) pa_nil)))
      (pss_cons (ps_whileE PassesOwn.leaving (pt_cmpR op_lt (pv 2) (pv 3) (nomark _)) (pss_cons (ps_set (i := 4) sc_Stretches_place_behind.nd rfl (Or.inl rfl) (pe_op op_fdiv (pe_op op_add (pv 2) (pv 3)) pe_int))
      (pss_one (ps_if (pt_cmpR op_gt (pe_callE H_end_of (hr.mono (by decide)) xw_def (pa_cons (pe_ix ix_list (pe_fld (pv 0) rfl) (pv 4) (fun _ _ => rfl)) pa_nil)) (pv 1) (nomark _)) (pss_one (ps_set (i := 3) sc_Stretches_place_behind.nd rfl (Or.inl rfl) (pv 4))) (pss_one (ps_set (i := 2) sc_Stretches_place_behind.nd rfl (Or.inl rfl) (pe_op op_add (pv 4) pe_int)))))))
      (pss_one (ps_ret (pv 2)))))), ?_⟩
    have hvl : vs.length = rs.length := Paired.length h3
    unfold sp_end_of
    walk_at "wp"
    simp only [h1]
    walk_at "wp"
    refine ⟨T.cl_Stretches, T.na_Stretches_runs, _, stF_runs, vs.length, .inl ⟨_, SqL.of h2, rfl⟩, ?_⟩
    refine loop_while (fun mm σ H' => ∃ (lo hi : Nat) (v4 : Option V), mm = hi - lo ∧ σ = [some (.ref p), some (.int x), some (.int lo), some (.int hi), v4] ∧ H' = H ∧ lo ≤ pb rs x ∧ pb rs x ≤ hi ∧ hi ≤ rs.length) vs.length ⟨0, vs.length, _, rfl, rfl, rfl, Nat.zero_le _, by rw [hvl]; exact pb_le, by omega⟩ (fun mm σ H' => ?_)
    rintro ⟨lo, hi, v4, rfl, rfl, rfl, k1, k2, k3⟩
    walk_at "wp"
    by_cases c : (lo : Int) < (hi : Int)
    · rw [if_pos c]
      refine turnW ?_
      walk_at "wp"
      have hmid : (lo + hi) / 2 < vs.length := by omega
      obtain ⟨r, hr1, hr2⟩ := prd_get h3 (List.getElem?_eq_getElem hmid)
      have hat := atI_nat (List.getElem?_eq_getElem hmid)
      have em : ((lo : Int) + (hi : Int)) / 2 = (((lo + hi) / 2 : Nat) : Int) := by omega
      have hpb := pb_at ho (p := x) hr1
      rw [em]
      refine ⟨_, dx, _, h1, T.cl_Stretches, T.na_Stretches_runs, _, stF_runs, a, rfl, _, SqL.of h2, _, hat, r, hr2, ?_⟩
      by_cases c2 : x < enR r
      · rw [if_pos c2]
        have : ¬ (lo + hi) / 2 < pb rs x := fun z => by have := hpb.mp z; omega
        refine ⟨(lo + hi) / 2 - lo, by omega, lo, (lo + hi) / 2, ?_⟩
        first
          | exact ⟨rfl, rfl, rfl, k1, by omega, by omega⟩
          | exact ⟨rfl, k1, by omega, by omega⟩
          | (trace_state; exact ⟨rfl, rfl, k1, by omega, by omega⟩)
      · rw [if_neg c2]
        have : (lo + hi) / 2 < pb rs x := hpb.mpr (by omega)
        refine ⟨hi - ((lo + hi) / 2 + 1), by omega, (lo + hi) / 2 + 1, hi, ?_⟩
        first
          | exact ⟨rfl, rfl, rfl, by omega, k2, k3⟩
          | exact ⟨rfl, by omega, k2, k3⟩
          | (trace_state; exact ⟨rfl, by omega, rfl, by omega, k2, k3⟩)
    · rw [if_neg c]
      have e : pb rs x = lo := by omega
      rw [e] at q
      exact q

theorem cutV_nat {xs : List V} {lo hi : Nat} : cutV xs (some (lo : Int)) (some (hi : Int)) = (xs.take hi).drop lo := by
  unfold cutV
  show (xs.drop (if (lo : Int) < 0 then ((lo : Int) + (xs.length : Int)).toNat else min (lo : Int).toNat xs.length)).take ((if (hi : Int) < 0 then ((hi : Int) + (xs.length : Int)).toNat else min (hi : Int).toNat xs.length) - (if (lo : Int) < 0 then ((lo : Int) + (xs.length : Int)).toNat else min (lo : Int).toNat xs.length)) = _
  rw [if_neg (by omega), if_neg (by omega), Int.toNat_natCast, Int.toNat_natCast, List.drop_take]
  refine List.ext_getElem? fun k => ?_
  rw [List.getElem?_take, List.getElem?_take, List.getElem?_drop, List.getElem?_drop]
  by_cases h1 : k < hi - lo
  · rw [if_pos h1]
    by_cases h2 : k < min hi xs.length - min lo xs.length
    · rw [if_pos h2, Nat.min_eq_left (by omega)]
    · rw [if_neg h2, List.getElem?_eq_none_iff.mpr (by omega)]
  · rw [if_neg h1]
    by_cases h2 : k < min hi xs.length - min lo xs.length
    · rw [if_pos h2, List.getElem?_eq_none_iff.mpr (by omega)]
    · rw [if_neg h2]
theorem cutV_to {xs : List V} {hi : Nat} : cutV xs none (some (hi : Int)) = xs.take hi := by
  unfold cutV
  show (xs.drop 0).take ((if (hi : Int) < 0 then ((hi : Int) + (xs.length : Int)).toNat else min (hi : Int).toNat xs.length) - 0) = _
  rw [if_neg (by omega), Int.toNat_natCast, List.drop_zero, Nat.sub_zero]
  rcases Nat.le_total hi xs.length with h | h
  · rw [Nat.min_eq_left h]
  · rw [Nat.min_eq_right h, List.take_length, List.take_of_length_le h]
theorem cutV_from {xs : List V} {lo : Nat} : cutV xs (some (lo : Int)) none = xs.drop lo := by
  unfold cutV
  show (xs.drop (if (lo : Int) < 0 then ((lo : Int) + (xs.length : Int)).toNat else min (lo : Int).toNat xs.length)).take (xs.length - (if (lo : Int) < 0 then ((lo : Int) + (xs.length : Int)).toNat else min (lo : Int).toNat xs.length)) = _
  rw [if_neg (by omega), Int.toNat_natCast]
  rcases Nat.le_total lo xs.length with h | h
  · rw [Nat.min_eq_left h]
    exact List.take_of_length_le (by rw [List.length_drop]; omega)
  · rw [Nat.min_eq_right h, Nat.sub_self, List.take_zero, List.drop_eq_nil_of_le h]
def sp_parts (K : PySem.W.Frag) (C : Addr) : Sp := fun vs H Q _ => ∃ (p a : Addr) (rs : List Rn) (x n : Int), vs = [.ref p, .int x, .int n] ∧ StAt C H p a rs ∧ OrdR rs ∧ rs.length ≤ 1000000 ∧ ∀ t us H', Same H H' → H t = none → H' t = some (.lst us) → RunsAt H' us (pam rs x n) → Q (.ref t) H'
theorem h_parts (T : Txt K mg A) : HaveM P w K mg base A.C_Stretches "parts_amid" 4 ["self", "first", "many"] [] (sp_parts K A.C_Stretches) := by
  have H_part_of := h_part_of (P := P) (w := w) (base := base) T
  have H_Stretches_place_behind := h_place (P := P) (w := w) (base := base) T
  refine T.r_Stretches_parts_amid.have sc_Stretches_parts_amid (fun vs H Q E z => ?_) ?_
  · obtain ⟨p, a, rs, x, n, rfl, _⟩ := z; rfl
  · intro f cdv A' outer s H vs Q E hr z
    obtain ⟨p, a, rs, x, n, rfl, hS, ho, hlen, q⟩ := z
    obtain ⟨dx, vs, h1, h2, h3⟩ := id hS
    refine ⟨_, (pss_cons (ps_set (i := 3) sc_Stretches_parts_amid.nd rfl (Or.inr rfl) (pe_op op_add (pv 1) (pv 2)))
      (pss_cons (ps_set (i := 4) sc_Stretches_parts_amid.nd rfl (Or.inl rfl) (pe_slice sl_list (pe_fld (pv 0) rfl) (po_some (pe_methE (pv 0) T.cl_Stretches H_Stretches_place_behind (hr.mono (by decide)) xw_def (pa_cons (pv 1) pa_nil))) (po_some (pe_op op_add (pe_methE (pv 0) T.cl_Stretches H_Stretches_place_behind (hr.mono (by decide)) xw_def (pa_cons (pv 3) pa_nil)) pe_int))))
      (pss_one (ps_ret (pe_comp rfl (pi_list (pv 4)) (x := "run") (fs := ["first", "end"]) (ix := [1, 3]) rfl rfl (fun _ _ _ _ _ _ => (pg_name (i := 0) (show (["run", "first", "end"] : List Str).Nodup by decide +kernel) rfl (Or.inl rfl))) (fun _ _ _ _ _ _ => (pf_one (pt_cmpR op_lt (pe_ix (ix_tupC (K := K) rfl) (pv 0) pe_int (fun _ _ => rfl)) (pv 2) (nomark _)))) (fun _ _ _ _ _ _ => (pe_callE H_part_of (hr.mono (by decide)) xw_no (pa_cons (pv 0) (pa_cons (pv 1) (pa_cons (pv 2) pa_nil)))))))))), ?_⟩
    unfold sp_part_of sp_place
    walk_at "wp"
    simp only [h1]
    walk_at "wp"
    refine ⟨T.cl_Stretches, T.na_Stretches_runs, _, stF_runs, stF_no (by decide +kernel), a, rs, hS, ho, hlen, stF_no (by decide +kernel), a, rs, hS, ho, hlen, ?_⟩
    refine ⟨a, rfl, _, SqL.of h2, fun sl hsl => ⟨⟨_, SqL.of upd_same⟩, ?_⟩⟩
    have ecut : cutV vs (some ((pb rs x : Nat) : Int)) (some (((pb rs (x + n) : Nat) : Int) + 1)) = (vs.take (pb rs (x + n) + 1)).drop (pb rs x) := cutV_nat (hi := pb rs (x + n) + 1)
    rw [ecut]
    have hnear : RunsAt H ((vs.take (pb rs (x + n) + 1)).drop (pb rs x)) (cutR rs (pb rs x) (pb rs (x + n) + 1)) := prd_drop _ (prd_take _ h3)
    have q' : ∀ t us H', Same H H' → H t = none → H' t = some (.lst us) → RunsAt H' us (((cutR rs (pb rs x) (pb rs (x + n) + 1)).filter fun r => decide (r.f < x + n)).map fun r => poR r x (x + n)) → Q (.ref t) H' := q
    have hnl : (cutR rs (pb rs x) (pb rs (x + n) + 1)).length ≤ 1000000 := by
      unfold cutR
      rw [List.length_drop, List.length_take]
      omega
    generalize (vs.take (pb rs (x + n) + 1)).drop (pb rs x) = nv at *
    generalize cutR rs (pb rs x) (pb rs (x + n) + 1) = near at *
    intro D hD
    have s1 := same_upd (o := .lst nv) same_refl hsl
    have hnvl : nv.length = near.length := Paired.length hnear
    refine comp_list (xs := nv) (fun i ys σ H' => ∃ v, σ = [v, some (.int x), some (.int (x + n))] ∧ Same (upd H sl (.lst nv)) H' ∧ H' D = some (.lst ys) ∧ RunsAt H' ys (((near.take i).filter fun r => decide (r.f < x + n)).map fun r => poR r x (x + n))) ⟨_, rfl, same_upd same_refl hD, upd_same, .nil⟩ (fun i ys σ H' _ ⟨_, _, s2, _⟩ => SqL.of (s2 _ _ upd_same)) (fun i v ys σ H' hi => ?_) (fun ys σ H' => ?_)
    · rintro ⟨v0, rfl, s2, hDD, hys⟩
      obtain ⟨r, hr1, hr2⟩ := prd_get hnear hi
      have hrx := hr2.same (s1.trans s2)
      have htk : near.take (i + 1) = near.take i ++ [r] := by rw [List.take_add_one, hr1]; rfl
      have hil : i < near.length := (List.getElem?_eq_some_iff.mp hr1).1
      have hyl : ys.length ≤ i := by
        have h4 := Paired.length hys
        rw [List.length_map] at h4
        have h5 := List.length_filter_le (fun r : Rn => decide (r.f < x + n)) (near.take i)
        rw [List.length_take] at h5
        omega
      rw [htk, List.filter_append, List.map_append]
      obtain ⟨c, cv, rfl, hc, hcv⟩ := id hrx
      walk_at "wp"
      refine ⟨_, SqT.of hc, _, rfl, _, rfl, ?_⟩
      by_cases c1 : r.f < x + n
      · rw [if_pos c1]
        refine ⟨r, hrx, fun u H2 s3 hu => ?_⟩
        have hD2 := s3 _ _ hDD
        have hu2 : RunAt (upd H2 D (.lst (ys ++ [u]))) u (poR r x (x + n)) := RunAt.same2 (H := H2) hu hD2 same_refl
        have hys2 : RunsAt (upd H2 D (.lst (ys ++ [u]))) ys (((near.take i).filter fun r => decide (r.f < x + n)).map fun r => poR r x (x + n)) := RunsAt.same2 (H := H2) (RunsAt.same hys s3) hD2 same_refl
        refine ⟨hD2, by omega, same_put (s2.trans s3) hD, ?_⟩
        have ef : [r].filter (fun r => decide (r.f < x + n)) = [r] := by rw [List.filter_cons, decide_eq_true c1]; rfl
        rw [ef]
        exact prd_app hys2 (.cons hu2 .nil)
      · rw [if_neg c1]
        have ef : [r].filter (fun r => decide (r.f < x + n)) = [] := by rw [List.filter_cons, decide_eq_false c1]; rfl
        rw [ef, List.map_nil, List.append_nil]
        exact ⟨s2, hDD, hys⟩
    · rintro ⟨v0, rfl, s2, hDD, hys⟩
      rw [hnvl, List.take_length] at hys
      exact q' _ _ _ (s1.trans s2) (same_none s1 hD) hDD hys

def sp_free (C : Addr) : Sp := fun vs H Q _ => ∃ (p a : Addr) (rs : List Rn) (x n : Int), vs = [.ref p, .int x, .int n] ∧ StAt C H p a rs ∧ OrdR rs ∧ rs.length ≤ 1000000 ∧ ∀ H', Same H H' → Q (.bl (decide (pam rs x n = []))) H'
theorem h_free (T : Txt K mg A) : HaveM P w K mg base A.C_Stretches "is_free" 5 ["self", "first", "many"] [] (sp_free A.C_Stretches) := by
  have H_Stretches_parts_amid := h_parts (P := P) (w := w) (base := base) T
  refine T.r_Stretches_is_free.have sc_Stretches_is_free (fun vs H Q E z => ?_) ?_
  · obtain ⟨p, a, rs, x, n, rfl, _⟩ := z; rfl
  · intro f cdv A' outer s H vs Q E hr z
    obtain ⟨p, a, rs, x, n, rfl, hS, ho, hlen, q⟩ := z
    obtain ⟨dx, vs, h1, h2, h3⟩ := id hS
    refine ⟨_, (pss_one (ps_ret (pe_cmpR op_eq (pe_callB call_len rfl T.b_len PySem.boot_len (pa_cons (pe_methE (pv 0) T.cl_Stretches H_Stretches_parts_amid (hr.mono (by decide)) xw_def (pa_cons (pv 1) (pa_cons (pv 2) pa_nil))) pa_nil)) pe_int (nomark _)))), ?_⟩
    unfold sp_parts
    walk_at "wp"
    simp only [h1]
    walk_at "wp"
    refine ⟨stF_no (by decide +kernel), a, rs, hS, ho, hlen, fun t us H1 s1 ht0 ht hU => ⟨us.length, .inl ⟨_, SqL.of ht, rfl⟩, ?_⟩⟩
    have hl := Paired.length hU
    have e : decide ((us.length : Int) = 0) = decide (pam rs x n = []) := by
      rw [decide_eq_decide, ← List.length_eq_zero_iff, ← hl]
      omega
    rw [e]
    exact q _ s1
def sp_full (C : Addr) : Sp := fun vs H Q _ => ∃ (p a : Addr) (rs : List Rn) (x n : Int), vs = [.ref p, .int x, .int n] ∧ StAt C H p a rs ∧ OrdR rs ∧ rs.length ≤ 1000000 ∧ ∀ H', Same H H' → Q (.bl (decide (((pam rs x n).map (·.m)).sum = n))) H'
theorem h_full (T : Txt K mg A) : HaveM P w K mg base A.C_Stretches "is_full" 5 ["self", "first", "many"] [] (sp_full A.C_Stretches) := by
  have H_Stretches_parts_amid := h_parts (P := P) (w := w) (base := base) T
  refine T.r_Stretches_is_full.have sc_Stretches_is_full (fun vs H Q E z => ?_) ?_
  · obtain ⟨p, a, rs, x, n, rfl, _⟩ := z; rfl
  · intro f cdv A' outer s H vs Q E hr z
    obtain ⟨p, a, rs, x, n, rfl, hS, ho, hlen, q⟩ := z
    obtain ⟨dx, vs, h1, h2, h3⟩ := id hS
    refine ⟨_, (pss_one (ps_ret (pe_cmpR op_eq (pe_callB (call_sum rfl) rfl T.b_sum (by decide +kernel) (pa_cons (pe_comp rfl (pi_list (pe_methE (pv 0) T.cl_Stretches H_Stretches_parts_amid (hr.mono (by decide)) xw_def (pa_cons (pv 1) (pa_cons (pv 2) pa_nil)))) (x := "part") (fs := []) (ix := []) rfl rfl (fun _ _ _ _ _ _ => (pg_name (i := 0) (show (["part"] : List Str).Nodup by decide +kernel) rfl (Or.inl rfl))) (fun _ _ _ _ _ _ => pf_nil) (fun _ _ _ _ _ _ => (pe_ix (ix_tupC (K := K) rfl) (pv 0) pe_int (fun _ _ => rfl)))) pa_nil)) (pv 2) (nomark _)))), ?_⟩
    unfold sp_parts
    walk_at "wp"
    simp only [h1]
    walk_at "wp"
    refine ⟨stF_no (by decide +kernel), a, rs, hS, ho, hlen, fun t us H1 s1 ht0 ht hU => ⟨⟨_, SqL.of ht⟩, fun D hD => ?_⟩⟩
    refine comp_list (xs := us) (fun i ys σ H' => ∃ v, σ = [v] ∧ Same H1 H' ∧ H' D = some (.lst ys) ∧ ys = (((pam rs x n).take i).map (·.m)).map V.int) ⟨_, rfl, same_upd same_refl hD, upd_same, rfl⟩ (fun i ys σ H' _ ⟨_, _, s2, _⟩ => SqL.of (s2 _ _ ht)) (fun i v ys σ H' hi => ?_) (fun ys σ H' => ?_)
    · rintro ⟨v0, rfl, s2, hDD, rfl⟩
      obtain ⟨r, hr1, hr2⟩ := prd_get hU hi
      obtain ⟨c, cv, rfl, hc, hcv⟩ := hr2.same s2
      have htk : (pam rs x n).take (i + 1) = (pam rs x n).take i ++ [r] := by rw [List.take_add_one, hr1]; rfl
      have hpl : (pam rs x n).length ≤ 1000000 := by
        unfold pam cutR
        rw [List.length_map]
        refine Nat.le_trans (List.length_filter_le _ _) ?_
        rw [List.length_drop, List.length_take]
        omega
      walk_at "wp"
      refine ⟨_, SqT.of hc, _, rfl, hDD, by rw [List.length_map, List.length_map, List.length_take]; omega, same_put s2 hD, ?_⟩
      rw [htk, List.map_append, List.map_append]; rfl
    · rintro ⟨v0, rfl, s2, hDD, rfl⟩
      rw [Paired.length hU, List.take_length] at hDD
      exact ⟨_, SqL.of hDD, q _ (s1.trans s2)⟩
def tiedTo (b : Int) (x : Rn) : Bool := match x.t with | none => false | some t => decide (t.1 = b)
def sp_tied (C : Addr) : Sp := fun vs H Q _ => ∃ (p a : Addr) (rs : List Rn) (b : Int), vs = [.ref p, .int b] ∧ StAt C H p a rs ∧ rs.length ≤ 1000000 ∧ ∀ H', Same H H' → Q (.bl (rs.any (tiedTo b))) H'
theorem h_tied (T : Txt K mg A) : HaveM P w K mg base A.C_Stretches "is_tied" 1 ["self", "bank"] [] (sp_tied A.C_Stretches) := by
  refine T.r_Stretches_is_tied.have sc_Stretches_is_tied (fun vs H Q E z => ?_) ?_
  · obtain ⟨p, a, rs, b, rfl, _⟩ := z; rfl
  · intro f cdv A' outer s H vs Q E hr z
    obtain ⟨p, a, rs, b, rfl, hS, hlen, q⟩ := z
    obtain ⟨dx, vs, h1, h2, h3⟩ := id hS
    refine ⟨_, (pss_one (ps_ret (pe_callB (call_any rfl) rfl T.b_any (by decide +kernel) (pa_cons (pe_comp rfl (pi_list (pe_fld (pv 0) rfl)) (x := "run") (fs := ["bank"]) (ix := [1]) rfl rfl (fun _ _ _ _ _ _ => (pg_name (i := 0) (show (["run", "bank"] : List Str).Nodup by decide +kernel) rfl (Or.inl rfl))) (fun _ _ _ _ _ _ => pf_nil) (fun _ _ _ _ _ _ => (pe_and (pe_cmpR op_notN (pe_ix (ix_tupC (K := K) rfl) (pv 0) pe_int (fun _ _ => rfl)) pe_non (nomark _)) (pe_one (pe_cmpR op_eq (pe_ix (ix_tupC (K := K) rfl) (pe_ix (ix_tupC (K := K) rfl) (pv 0) pe_int (fun _ _ => rfl)) pe_int (fun _ _ => rfl)) (pv 1) (nomark _)))))) pa_nil)))), ?_⟩
    walk_at "wp"
    simp only [h1]
    walk_at "wp"
    refine ⟨T.cl_Stretches, T.na_Stretches_runs, _, stF_runs, a, rfl, ⟨_, SqL.of h2⟩, fun D hD => ?_⟩
    refine comp_list (xs := vs) (fun i ys σ H' => ∃ v, σ = [v, some (.int b)] ∧ Same H H' ∧ H' D = some (.lst ys) ∧ ys = ((rs.take i).map (tiedTo b)).map V.bl) ⟨_, rfl, same_upd same_refl hD, upd_same, rfl⟩ (fun i ys σ H' _ ⟨_, _, s2, _⟩ => SqL.of (s2 _ _ h2)) (fun i v ys σ H' hi => ?_) (fun ys σ H' => ?_)
    · rintro ⟨v0, rfl, s2, hDD, rfl⟩
      obtain ⟨r, hr1, hr2⟩ := prd_get h3 hi
      obtain ⟨c, cv, rfl, hc, hcv⟩ := hr2.same s2
      have htk : rs.take (i + 1) = rs.take i ++ [r] := by rw [List.take_add_one, hr1]; rfl
      rw [htk, List.map_append, List.map_append]
      have hfin : ∀ k : Bool, k = tiedTo b r → H' D = some (.lst (((rs.take i).map (tiedTo b)).map V.bl)) ∧ (((rs.take i).map (tiedTo b)).map V.bl).length < 16777216 ∧ Same H (upd H' D (.lst (((rs.take i).map (tiedTo b)).map V.bl ++ [V.bl k]))) ∧ ((rs.take i).map (tiedTo b)).map V.bl ++ [V.bl k] = ((rs.take i).map (tiedTo b)).map V.bl ++ ([r].map (tiedTo b)).map V.bl := fun k e => by
        refine ⟨hDD, by rw [List.length_map, List.length_map, List.length_take]; omega, same_put s2 hD, ?_⟩
        rw [e]; rfl
      walk_at "wp"
      refine ⟨_, SqT.of hc, cv, rfl, ?_⟩
      cases e : r.t with
      | none =>
        rw [e] at hcv
        have hcv : cv = .non := hcv
        rw [hcv, decide_eq_true rfl]
        exact iteF (hfin false (by unfold tiedTo; rw [e]))
      | some t =>
        obtain ⟨b2, k2⟩ := t
        rw [e] at hcv
        obtain ⟨a2, rfl, h⟩ := hcv
        rw [decide_eq_false (fun z => nomatch z)]
        refine iteT ⟨_, SqT.of hc, _, rfl, a2, rfl, _, SqT.of h, .int b2, rfl, rfl, hfin _ ?_⟩
        unfold tiedTo
        rw [e]
        show decide (V.int b2 = V.int b) = decide (b2 = b)
        rw [decide_eq_decide]
        exact ⟨fun z => V.int.inj z, fun z => by rw [z]⟩
    · rintro ⟨v0, rfl, s2, hDD, rfl⟩
      rw [Paired.length h3, List.take_length] at hDD
      refine ⟨_, SqL.of hDD, ?_⟩
      rw [List.any_map]
      exact q _ s2
def sp_st_told (C : Addr) : Sp := fun vs H Q _ => ∃ (p a : Addr) (rs : List Rn), vs = [.ref p] ∧ StAt C H p a rs ∧ ∀ t us, H t = none → RunsAt (upd H t (.lst us)) us rs → Q (.ref t) (upd H t (.lst us))
theorem h_st_told (T : Txt K mg A) : HaveM P w K mg base A.C_Stretches "told" 1 ["self"] [] (sp_st_told A.C_Stretches) := by
  refine T.r_Stretches_told.have sc_Stretches_told (fun vs H Q E z => ?_) ?_
  · obtain ⟨p, a, rs, rfl, _⟩ := z; rfl
  · intro f cdv A' outer s H vs Q E hr z
    obtain ⟨p, a, rs, rfl, hS, q⟩ := z
    obtain ⟨dx, vs, h1, h2, h3⟩ := id hS
    refine ⟨_, (pss_one (ps_ret (pe_callTy call_list_of rfl T.b_list PyProof.Rows.boot_list (pa_cons (pe_fld (pv 0) rfl) pa_nil)))), ?_⟩
    walk_at "wp"
    simp only [h1]
    walk_at "wp"
    refine ⟨T.cl_Stretches, T.na_Stretches_runs, _, stF_runs, a, rfl, _, .inl (SqL.of h2), fun t ht => ?_⟩
    exact q t vs ht (RunsAt.same h3 (same_upd same_refl ht))
def sp_init (C : Addr) : Sp := fun vs H Q _ => ∃ (p dx : Addr), vs = [.ref p] ∧ H p = some (.ins C dx []) ∧ ∀ a, H a = none → Q .non (upd (upd H a (.lst [])) p (.ins C dx (stF a)))
theorem h_st_init (T : Txt K mg A) : HaveI P w K mg base "Stretches" A.C_Stretches 1 ["self"] [] (sp_init A.C_Stretches) := by
  refine T.r_Stretches_init.have sc_Stretches_init (fun vs H Q E z => ?_) ?_
  · obtain ⟨p, dx, rfl, _⟩ := z; rfl
  · intro f cdv A' outer s H vs Q E hr z
    obtain ⟨p, dx, rfl, hp, q⟩ := z
    refine ⟨_, (pss_one (ps_fld (pv 0) (pe_lst pa_nil) rfl)), ?_⟩
    walk_at "wp"
    intro a ha
    have hpa : p ≠ a := ne_of_none hp ha
    refine ⟨_, dx, [], by rw [upd_ne hpa]; exact hp, T.cl_Stretches, T.na_Stretches_runs, by show 0 < 1000; decide, ?_⟩
    exact q a ha
def sp_cr (O : Addr) : Sp := fun vs H Q E => ∃ x : V, vs = [x] ∧ Kn H x ∧ if within x 0 3 = true then Q .non H else E (.ref O) none H
theorem h_cr (T : Txt K mg A) : Have P w K mg base "check_rights" 3 ["rights"] [] (sp_cr A.C_BadRights) := by
  have H_is_within := h_is_within (P := P) (w := w) (base := base) T
  refine T.r_check_rights.have sc_check_rights (fun vs H Q E z => ?_) ?_
  · obtain ⟨x, rfl, _⟩ := z; rfl
  · intro f cdv A' outer s H vs Q E hr z
    obtain ⟨x, rfl, hk, q⟩ := z
    refine ⟨_, (pss_one (ps_if (pt_not (pt_val (pe_callE H_is_within (hr.mono (by decide)) xw_def (pa_cons (pv 0) (pa_cons pe_int (pa_cons (pe_globE rfl T.c_MOST_RIGHTS) pa_nil)))))) (pss_one (ps_raise xr_def rfl T.x_BadRights (pa_cons pe_str pa_nil))) pss_nil)), ?_⟩
    unfold sp_is_within
    walk_at "wp"
    refine ⟨hk, ?_⟩
    cases e : within x 0 3 with
    | true => rw [e, if_pos rfl] at q; exact iteF q
    | false => rw [e, if_neg (show ¬ false = true by decide)] at q; exact iteT q
/-- all but the object stays -/
def Bu (p : Addr) (H H' : Hp) : Prop := ∀ c o, H c = some o → c ≠ p → H' c = some o
def sp_lay (C : Addr) : Sp := fun vs H Q _ => ∃ (p a b : Addr) (rs parts : List Rn) (x n : Int) (ws : List V), vs = [.ref p, .int x, .int n, .ref b] ∧ StAt C H p a rs ∧ OrdR rs ∧ rs.length ≤ 100000 ∧ H b = some (.lst ws) ∧ RunsAt H ws parts ∧ parts.length ≤ 100000 ∧ ∀ a' H', StAt C H' p a' (layR rs x n parts) → Bu p H H' → Q .non H'
theorem h_lay (T : Txt K mg A) : HaveM P w K mg base A.C_Stretches "lay_amid" 5 ["self", "first", "many", "parts"] [] (sp_lay A.C_Stretches) := by
  have H_part_of := h_part_of (P := P) (w := w) (base := base) T
  have H_end_of := h_end_of (P := P) (w := w) (base := base) T
  have H_joined := h_joined (P := P) (w := w) (base := base) T
  have H_Stretches_place_behind := h_place (P := P) (w := w) (base := base) T
  refine T.r_Stretches_lay_amid.have sc_Stretches_lay_amid (fun vs H Q E z => ?_) ?_
  · obtain ⟨p, a, b, rs, parts, x, n, ws, rfl, _⟩ := z; rfl
  · intro f cdv A' outer s H vs Q E hr z
    obtain ⟨p, a, b, rs, parts, x, n, ws, rfl, hS, ho, hlen, hb, hP, hpl, q⟩ := z
    obtain ⟨dx, vs, h1, h2, h3⟩ := id hS
    refine ⟨_, (pss_cons (ps_set (i := 4) sc_Stretches_lay_amid.nd rfl (Or.inr rfl) (pe_op op_add (pv 1) (pv 2)))
      (pss_cons (ps_set (i := 5) sc_Stretches_lay_amid.nd rfl (Or.inl rfl) (pe_methE (pv 0) T.cl_Stretches H_Stretches_place_behind (hr.mono (by decide)) xw_def (pa_cons (pe_op op_sub (pv 1) pe_int) pa_nil)))
      (pss_cons (ps_set (i := 6) sc_Stretches_lay_amid.nd rfl (Or.inl rfl) (pe_op op_add (pe_methE (pv 0) T.cl_Stretches H_Stretches_place_behind (hr.mono (by decide)) xw_def (pa_cons (pv 4) pa_nil)) pe_int))
      (pss_cons (ps_set (i := 7) sc_Stretches_lay_amid.nd rfl (Or.inl rfl) (pe_slice sl_list (pe_fld (pv 0) rfl) (po_some (pv 5)) (po_some (pv 6))))
      (pss_cons (ps_setC (i := 8) sc_Stretches_lay_amid.nd rfl rfl rfl (pi_list (pv 7)) (x := "run") (fs := ["first"]) (ix := [1]) rfl rfl (fun _ _ _ _ _ _ => (pg_name (i := 0) (show (["run", "first"] : List Str).Nodup by decide +kernel) rfl (Or.inl rfl))) (fun _ _ _ _ _ _ => (pf_one (pt_cmpR op_lt (pe_ix (ix_tupC (K := K) rfl) (pv 0) pe_int (fun _ _ => rfl)) (pv 1) (nomark _)))) (fun _ _ _ _ _ _ => (pe_callE H_part_of (hr.mono (by decide)) xw_no (pa_cons (pv 0) (pa_cons (pe_ix (ix_tupC (K := K) rfl) (pv 0) pe_int (fun _ _ => rfl)) (pa_cons (pv 1) pa_nil))))))
      (pss_cons (ps_setC (i := 9) sc_Stretches_lay_amid.nd rfl rfl rfl (pi_list (pv 7)) (x := "run") (fs := ["end"]) (ix := [4]) rfl rfl (fun _ _ _ _ _ _ => (pg_name (i := 0) (show (["run", "end"] : List Str).Nodup by decide +kernel) rfl (Or.inl rfl))) (fun _ _ _ _ _ _ => (pf_one (pt_cmpR op_gt (pe_callE H_end_of (hr.mono (by decide)) xw_no (pa_cons (pv 0) pa_nil)) (pv 1) (nomark _)))) (fun _ _ _ _ _ _ => (pe_callE H_part_of (hr.mono (by decide)) xw_no (pa_cons (pv 0) (pa_cons (pv 1) (pa_cons (pe_callE H_end_of (hr.mono (by decide)) xw_no (pa_cons (pv 0) pa_nil)) pa_nil))))))
      (pss_one (ps_fld (pv 0) (pe_op op_cat (pe_op op_cat (pe_slice sl_list (pe_fld (pv 0) rfl) po_none (po_some (pv 5))) (pe_callE H_joined (hr.mono (by decide)) xw_def (pa_cons (pe_op op_cat (pe_op op_cat (pv 8) (pv 3)) (pv 9)) pa_nil))) (pe_slice sl_list (pe_fld (pv 0) rfl) (po_some (pv 6)) po_none)) rfl)))))))), ?_⟩
    unfold sp_part_of sp_end_of sp_joined sp_place
    walk_at "wp"
    simp only [h1]
    walk_at "wp"
    refine ⟨stF_no (by decide +kernel), a, rs, hS, ho, by omega, stF_no (by decide +kernel), a, rs, hS, ho, by omega, T.cl_Stretches, T.na_Stretches_runs, _, stF_runs, a, rfl, _, SqL.of h2, fun sl hsl => ⟨⟨_, SqL.of upd_same⟩, ?_⟩⟩
    have ecut : cutV vs (some ((pb rs (x - 1) : Nat) : Int)) (some (((pb rs (x + n) : Nat) : Int) + 1)) = (vs.take (pb rs (x + n) + 1)).drop (pb rs (x - 1)) := cutV_nat (hi := pb rs (x + n) + 1)
    rw [ecut]
    have hnear : RunsAt H ((vs.take (pb rs (x + n) + 1)).drop (pb rs (x - 1))) (cutR rs (pb rs (x - 1)) (pb rs (x + n) + 1)) := prd_drop _ (prd_take _ h3)
    have hnl : (cutR rs (pb rs (x - 1)) (pb rs (x + n) + 1)).length ≤ 100000 := by
      unfold cutR
      rw [List.length_drop, List.length_take]
      omega
    have q' : ∀ a' H', StAt A.C_Stretches H' p a' (rs.take (pb rs (x - 1)) ++ jn (((cutR rs (pb rs (x - 1)) (pb rs (x + n) + 1)).filter fun r => decide (r.f < x)).map (fun r => poR r r.f x) ++ parts ++ ((cutR rs (pb rs (x - 1)) (pb rs (x + n) + 1)).filter fun r => decide (enR r > x + n)).map (fun r => poR r (x + n) (enR r))) ++ rs.drop (pb rs (x + n) + 1)) → Bu p H H' → Q .non H' := q
    generalize (vs.take (pb rs (x + n) + 1)).drop (pb rs (x - 1)) = nv at *
    generalize cutR rs (pb rs (x - 1)) (pb rs (x + n) + 1) = near at *
    intro D1 hD1
    have s1 := same_upd (o := .lst nv) same_refl hsl
    have hnvl : nv.length = near.length := Paired.length hnear
    have flen : ∀ (i : Nat) (g : Rn → Bool), ((near.take i).filter g).length ≤ 100000 := fun i g => Nat.le_trans (List.length_filter_le _ _) (by rw [List.length_take]; omega)
    refine comp_list (xs := nv) (fun i ys σ H' => ∃ v, σ = [v, some (.int x)] ∧ Same (upd H sl (.lst nv)) H' ∧ H' D1 = some (.lst ys) ∧ RunsAt H' ys (((near.take i).filter fun r => decide (r.f < x)).map fun r => poR r r.f x)) ⟨_, rfl, same_upd same_refl hD1, upd_same, .nil⟩ (fun i ys σ H' _ ⟨_, _, s2, _⟩ => SqL.of (s2 _ _ upd_same)) (fun i v ys σ H' hi => ?_) (fun ys σ H' => ?_)
    · rintro ⟨v0, rfl, s2, hDD, hys⟩
      obtain ⟨r, hr1, hr2⟩ := prd_get hnear hi
      have hrx := hr2.same (s1.trans s2)
      have htk : near.take (i + 1) = near.take i ++ [r] := by rw [List.take_add_one, hr1]; rfl
      have hyl : ys.length ≤ 100000 := by
        have h4 := Paired.length hys
        rw [List.length_map] at h4
        have := flen i fun r => decide (r.f < x)
        omega
      rw [htk, List.filter_append, List.map_append]
      obtain ⟨c, cv, rfl, hc, hcv⟩ := id hrx
      walk_at "wp"
      refine ⟨_, SqT.of hc, _, rfl, _, rfl, ?_⟩
      by_cases c1 : r.f < x
      · rw [if_pos c1]
        refine ⟨_, SqT.of hc, _, rfl, r, _, rfl, hrx, fun u H2 s3 hu => ?_⟩
        have hD2 := s3 _ _ hDD
        refine ⟨hD2, by omega, same_put (s2.trans s3) hD1, ?_⟩
        have ef : [r].filter (fun r => decide (r.f < x)) = [r] := by rw [List.filter_cons, decide_eq_true c1]; rfl
        rw [ef]
        exact prd_app (RunsAt.same2 (H := H2) (RunsAt.same hys s3) hD2 same_refl) (.cons (RunAt.same2 (H := H2) hu hD2 same_refl) .nil)
      · rw [if_neg c1]
        have ef : [r].filter (fun r => decide (r.f < x)) = [] := by rw [List.filter_cons, decide_eq_false c1]; rfl
        rw [ef, List.map_nil, List.append_nil]
        exact ⟨s2, hDD, hys⟩
    rintro ⟨v0, rfl, s2, hA, hys⟩
    rw [hnvl, List.take_length] at hys
    have hsl1 := s2 _ _ (upd_same (H := H) (a := sl) (o := .lst nv))
    refine ⟨⟨_, SqL.of hsl1⟩, fun D2 hD2 => ?_⟩
    have s12 := s1.trans s2
    refine comp_list (xs := nv) (fun i zs σ H2 => ∃ v, σ = [v, some (.int (x + n))] ∧ Same H' H2 ∧ H2 D2 = some (.lst zs) ∧ RunsAt H2 zs (((near.take i).filter fun r => decide (enR r > x + n)).map fun r => poR r (x + n) (enR r))) ⟨_, rfl, same_upd same_refl hD2, upd_same, .nil⟩ (fun i ys σ H' _ ⟨_, _, s2, _⟩ => SqL.of (s2 _ _ hsl1)) (fun i v zs σ H2 hi => ?_) (fun zs σ H2 => ?_)
    · rintro ⟨v0, rfl, s3, hDD, hzs⟩
      obtain ⟨r, hr1, hr2⟩ := prd_get hnear hi
      have hrx := hr2.same (s12.trans s3)
      have htk : near.take (i + 1) = near.take i ++ [r] := by rw [List.take_add_one, hr1]; rfl
      have hyl : zs.length ≤ 100000 := by
        have h4 := Paired.length hzs
        rw [List.length_map] at h4
        have := flen i fun r => decide (enR r > x + n)
        omega
      rw [htk, List.filter_append, List.map_append]
      walk_at "wp"
      refine ⟨r, hrx, ?_⟩
      by_cases c1 : enR r > x + n
      · rw [if_pos (show x + n < enR r from c1)]
        refine ⟨r, hrx, r, hrx, fun u H3 s4 hu => ?_⟩
        have hD3 := s4 _ _ hDD
        refine ⟨hD3, by omega, same_put (s3.trans s4) hD2, ?_⟩
        have ef : [r].filter (fun r => decide (enR r > x + n)) = [r] := by rw [List.filter_cons, decide_eq_true c1]; rfl
        rw [ef]
        exact prd_app (RunsAt.same2 (H := H3) (RunsAt.same hzs s4) hD3 same_refl) (.cons (RunAt.same2 (H := H3) hu hD3 same_refl) .nil)
      · rw [if_neg (show ¬ x + n < enR r from c1)]
        have ef : [r].filter (fun r => decide (enR r > x + n)) = [] := by rw [List.filter_cons, decide_eq_false c1]; rfl
        rw [ef, List.map_nil, List.append_nil]
        exact ⟨s3, hDD, hzs⟩
    rintro ⟨v0, rfl, s3, hB, hzs⟩
    rw [hnvl, List.take_length] at hzs
    have s13 := s12.trans s3
    have sH2 : Same H H2 := s13
    refine ⟨_, dx, _, s13 _ _ h1, T.cl_Stretches, T.na_Stretches_runs, _, stF_runs, a, rfl, _, SqL.of (s13 _ _ h2), fun q1 hq1 => ?_⟩
    rw [cutV_to]
    have s4 := same_upd (o := .lst (vs.take (pb rs (x - 1)))) same_refl hq1
    have hq1' : upd H2 q1 (.lst (vs.take (pb rs (x - 1)))) q1 = some (.lst (vs.take (pb rs (x - 1)))) := upd_same
    have hA4 := s4 _ _ (s3 _ _ hA)
    have hB4 := s4 _ _ hB
    have hb4 := s4 _ _ (s13 _ _ hb)
    have s14 := s13.trans s4
    generalize upd H2 q1 (.lst (vs.take (pb rs (x - 1)))) = H4 at *
    have ly : ys.length ≤ 100000 := by
      have h4 := Paired.length hys
      rw [List.length_map] at h4
      have := List.length_filter_le (fun r : Rn => decide (r.f < x)) near
      omega
    have lz : zs.length ≤ 100000 := by
      have h4 := Paired.length hzs
      rw [List.length_map] at h4
      have := List.length_filter_le (fun r : Rn => decide (enR r > x + n)) near
      omega
    have lw : ws.length ≤ 100000 := by rw [Paired.length hP]; exact hpl
    refine ⟨_, hA4, _, hb4, by omega, fun q2 hq2 => ?_⟩
    have s5 := same_upd (o := .lst (ys ++ ws)) same_refl hq2
    have hq2' : upd H4 q2 (.lst (ys ++ ws)) q2 = some (.lst (ys ++ ws)) := upd_same
    have hB5 := s5 _ _ hB4
    have hq15 := s5 _ _ hq1'
    have s15 := s14.trans s5
    generalize upd H4 q2 (.lst (ys ++ ws)) = H5 at *
    refine ⟨_, rfl, _, hB5, by rw [List.length_append]; omega, fun q3 hq3 => ?_⟩
    have s6 := same_upd (o := .lst (ys ++ ws ++ zs)) same_refl hq3
    have hq3' : upd H5 q3 (.lst (ys ++ ws ++ zs)) q3 = some (.lst (ys ++ ws ++ zs)) := upd_same
    have hq16 := s6 _ _ hq15
    have s16 := s15.trans s6
    have s26 : Same H2 (upd H5 q3 (.lst (ys ++ ws ++ zs))) := s4.trans (s5.trans s6)
    generalize upd H5 q3 (.lst (ys ++ ws ++ zs)) = H6 at *
    have hall : RunsAt H6 (ys ++ ws ++ zs) ((near.filter fun r => decide (r.f < x)).map (fun r => poR r r.f x) ++ parts ++ (near.filter fun r => decide (enR r > x + n)).map (fun r => poR r (x + n) (enR r))) :=
      prd_app (prd_app (RunsAt.same hys (s3.trans s26)) (RunsAt.same hP s16)) (RunsAt.same hzs s26)
    have hallL : ((near.filter fun r => decide (r.f < x)).map (fun r => poR r r.f x) ++ parts ++ (near.filter fun r => decide (enR r > x + n)).map (fun r => poR r (x + n) (enR r))).length ≤ 1000000 := by
      rw [← Paired.length hall, List.length_append, List.length_append]; omega
    refine ⟨_, SqL.of hq3', _, hall, hallL, fun t us H7 s7 ht0 ht hU => ?_⟩
    have s17 := s16.trans s7
    have hus : us.length ≤ 1000000 := by
      rw [Paired.length hU]
      have := jn_len ((near.filter fun r => decide (r.f < x)).map (fun r => poR r r.f x) ++ parts ++ (near.filter fun r => decide (enR r > x + n)).map (fun r => poR r (x + n) (enR r))) []
      unfold jn
      simp only [List.length_nil, Nat.zero_add] at this
      omega
    have lv : vs.length ≤ 100000 := by rw [Paired.length h3]; exact hlen
    refine ⟨_, s7 _ _ hq16, _, ht, by rw [List.length_take]; omega, fun q4 hq4 => ?_⟩
    have s8 := same_upd (o := .lst (vs.take (pb rs (x - 1)) ++ us)) same_refl hq4
    have hq4' : upd H7 q4 (.lst (vs.take (pb rs (x - 1)) ++ us)) q4 = some (.lst (vs.take (pb rs (x - 1)) ++ us)) := upd_same
    have s18 := s17.trans s8
    generalize upd H7 q4 (.lst (vs.take (pb rs (x - 1)) ++ us)) = H8 at *
    refine ⟨_, dx, _, s18 _ _ h1, T.cl_Stretches, T.na_Stretches_runs, _, stF_runs, a, rfl, _, SqL.of (s18 _ _ h2), fun q5 hq5 => ?_⟩
    have ecf : cutV vs (some (((pb rs (x + n) : Nat) : Int) + 1)) none = vs.drop (pb rs (x + n) + 1) := cutV_from (lo := pb rs (x + n) + 1)
    rw [ecf]
    have s9 := same_upd (o := .lst (vs.drop (pb rs (x + n) + 1))) same_refl hq5
    have hq5' : upd H8 q5 (.lst (vs.drop (pb rs (x + n) + 1))) q5 = some (.lst (vs.drop (pb rs (x + n) + 1))) := upd_same
    have hq49 := s9 _ _ hq4'
    have s19 := s18.trans s9
    have s79 := s8.trans s9
    generalize upd H8 q5 (.lst (vs.drop (pb rs (x + n) + 1))) = H9 at *
    refine ⟨_, hq49, _, rfl, by rw [List.length_append, List.length_take, List.length_drop]; omega, fun q6 hq6 => ?_⟩
    have s10 := same_upd (o := .lst (vs.take (pb rs (x - 1)) ++ us ++ vs.drop (pb rs (x + n) + 1))) same_refl hq6
    have hq6' : upd H9 q6 (.lst (vs.take (pb rs (x - 1)) ++ us ++ vs.drop (pb rs (x + n) + 1))) q6 = some (.lst (vs.take (pb rs (x - 1)) ++ us ++ vs.drop (pb rs (x + n) + 1))) := upd_same
    have s110 := s19.trans s10
    have s710 := s79.trans s10
    generalize upd H9 q6 (.lst (vs.take (pb rs (x - 1)) ++ us ++ vs.drop (pb rs (x + n) + 1))) = H10 at *
    have hpq : q6 ≠ p := ne_of hq6' (s110 _ _ h1) fun z => nomatch z
    refine ⟨_, dx, _, s110 _ _ h1, T.cl_Stretches, T.na_Stretches_runs, by show 1 < 1000; decide, ?_⟩
    have hrun : ∀ {v : V} {r : Rn} {o : HO}, RunAt H10 v r → RunAt (upd H10 p o) v r := fun {v r o} h => by
      obtain ⟨c, cv, e, hc, hcv⟩ := h
      refine ⟨c, cv, e, by rw [upd_ne (ne_of hc (s110 _ _ h1) fun z => nomatch z)]; exact hc, ?_⟩
      cases ht : r.t with
      | none => rw [ht] at hcv; exact hcv
      | some tt =>
        obtain ⟨b2, k2⟩ := tt
        rw [ht] at hcv
        obtain ⟨c2, e2, h2⟩ := hcv
        exact ⟨c2, e2, by rw [upd_ne (ne_of h2 (s110 _ _ h1) fun z => nomatch z)]; exact h2⟩
    refine q' q6 _ ⟨dx, _, upd_same, by rw [upd_ne hpq]; exact hq6', ?_⟩ fun c o hc hne => by rw [upd_ne hne]; exact s110 _ _ hc
    have hfin : RunsAt H10 (vs.take (pb rs (x - 1)) ++ us ++ vs.drop (pb rs (x + n) + 1)) (rs.take (pb rs (x - 1)) ++ jn ((near.filter fun r => decide (r.f < x)).map (fun r => poR r r.f x) ++ parts ++ (near.filter fun r => decide (enR r > x + n)).map (fun r => poR r (x + n) (enR r))) ++ rs.drop (pb rs (x + n) + 1)) :=
      prd_app (prd_app (RunsAt.same (prd_take _ h3) s110) (RunsAt.same hU s710)) (RunsAt.same (prd_drop _ h3) s110)
    exact Paired.mapP hfin fun _ _ h => hrun h
def sp_st_put (C BR TK : Addr) : Sp := fun vs H Q E => ∃ (p a : Addr) (rs : List Rn) (x n r : Int) (tv : V) (t : Option (Int × Int)), vs = [.ref p, .int x, .int n, .int r, tv] ∧ StAt C H p a rs ∧ OrdR rs ∧ rs.length ≤ 100000 ∧ TieAt H tv t ∧
  if 0 ≤ r ∧ r ≤ 3 then (if pam rs x n = [] then ∀ a' H', StAt C H' p a' (layR rs x n [⟨x, n, r, t⟩]) → Bu p H H' → Q .non H' else ∀ H', Same H H' → E (.ref TK) none H') else E (.ref BR) none H
theorem b_st_put (T : Txt K mg A) : Body P w K mg base "Stretches.put" s_Stretches_put ["self", "first", "many", "rights", "tie"] 5 (sp_st_put A.C_Stretches A.C_BadRights A.C_Taken) := by
  have H_check_rights := h_cr (P := P) (w := w) (base := base) T
  have H_Stretches_is_free := h_free (P := P) (w := w) (base := base) T
  have H_Stretches_lay_amid := h_lay (P := P) (w := w) (base := base) T
  · intro f cdv A' outer s H vs Q E hr z
    obtain ⟨p, a, rs, x, n, r, tv, t, rfl, hS, ho, hlen, hT, q⟩ := z
    obtain ⟨dx, vs, h1, h2, h3⟩ := id hS
    refine ⟨_, (pss_cons (ps_expr (pe_callE H_check_rights (hr.mono (by decide)) xw_def (pa_cons (pv 3) pa_nil)))
      (pss_cons (ps_if (pt_not (pt_val (pe_methE (pv 0) T.cl_Stretches H_Stretches_is_free (hr.mono (by decide)) xw_def (pa_cons (pv 1) (pa_cons (pv 2) pa_nil))))) (pss_one (ps_raise xr_def rfl T.x_Taken (pa_cons pe_str pa_nil))) pss_nil)
      (pss_one (ps_expr (pe_methE (pv 0) T.cl_Stretches H_Stretches_lay_amid (hr.mono (by decide)) xw_def (pa_cons (pv 1) (pa_cons (pv 2) (pa_cons (pe_lst (pa_cons (pe_tup (pa_cons (pv 1) (pa_cons (pv 2) (pa_cons (pv 3) (pa_cons (pv 4) pa_nil))))) pa_nil)) pa_nil)))))))), ?_⟩
    unfold sp_cr sp_free sp_lay
    walk_at "wp"
    simp only [h1]
    walk_at "wp"
    by_cases c : 0 ≤ r ∧ r ≤ 3
    · rw [if_pos c] at q
      rw [if_pos (by rw [within_int, decide_eq_true c.1, decide_eq_true c.2]; rfl)]
      refine ⟨stF_no (by decide +kernel), a, rs, hS, ho, by omega, fun H1 s1 => ?_⟩
      by_cases c2 : pam rs x n = []
      · rw [if_pos c2] at q
        rw [decide_eq_true c2]
        refine iteF ⟨dx, _, s1 _ _ h1, stF_no (by decide +kernel), fun tp htp lp hlp => ?_⟩
        have s2 := same_upd (o := .tup [V.int x, V.int n, V.int r, tv]) s1 htp
        have s3 := same_upd (o := .lst [V.ref tp]) s2 hlp
        have s23 := same_upd (o := .lst [V.ref tp]) same_refl hlp
        exact ⟨a, rs, hS.same s3, ho, hlen, [⟨x, n, r, t⟩], [.ref tp], rfl, .cons ⟨tp, tv, rfl, s23 _ _ upd_same, hT.same s3⟩ .nil, by show 1 ≤ 100000; decide, fun a' H' hS' hB => q a' H' hS' fun c o hc hne => hB c o (s3 c o hc) hne⟩
      · rw [if_neg c2] at q
        rw [decide_eq_false c2]
        exact iteT (q _ s1)
    · rw [if_neg c] at q
      rw [if_neg (by rw [within_int]; simpa using c)]
      exact q
theorem l_st_put {C BR TK : Addr} : ∀ vs H Q E, sp_st_put C BR TK vs H Q E → vs.length = 5 := fun vs H Q E z => by
  obtain ⟨p, a, rs, x, n, r, tv, t, rfl, _⟩ := z; rfl
theorem h_st_put (T : Txt K mg A) : HaveM P w K mg base A.C_Stretches "put" 6 ["self", "first", "many", "rights", "tie"] [] (sp_st_put A.C_Stretches A.C_BadRights A.C_Taken) := T.r_Stretches_put.have sc_Stretches_put l_st_put (b_st_put T)
def sp_cf (C NM : Addr) : Sp := fun vs H Q E => ∃ (p a : Addr) (rs : List Rn) (x n : Int), vs = [.ref p, .int x, .int n] ∧ StAt C H p a rs ∧ OrdR rs ∧ rs.length ≤ 1000000 ∧ ∀ H', Same H H' → if ((pam rs x n).map (·.m)).sum = n then Q .non H' else E (.ref NM) none H'
theorem h_cf (T : Txt K mg A) : HaveM P w K mg base A.C_Stretches "check_full" 6 ["self", "first", "many"] [] (sp_cf A.C_Stretches A.C_NotMapped) := by
  have H_Stretches_is_full := h_full (P := P) (w := w) (base := base) T
  refine T.r_Stretches_check_full.have sc_Stretches_check_full (fun vs H Q E z => ?_) ?_
  · obtain ⟨p, a, rs, x, n, rfl, _⟩ := z; rfl
  · intro f cdv A' outer s H vs Q E hr z
    obtain ⟨p, a, rs, x, n, rfl, hS, ho, hlen, q⟩ := z
    obtain ⟨dx, vs, h1, h2, h3⟩ := id hS
    refine ⟨_, (pss_one (ps_if (pt_not (pt_val (pe_methE (pv 0) T.cl_Stretches H_Stretches_is_full (hr.mono (by decide)) xw_def (pa_cons (pv 1) (pa_cons (pv 2) pa_nil))))) (pss_one (ps_raise xr_def rfl T.x_NotMapped (pa_cons pe_str pa_nil))) pss_nil)), ?_⟩
    unfold sp_full
    walk_at "wp"
    refine ⟨dx, _, h1, stF_no (by decide +kernel), a, rs, hS, ho, hlen, fun H1 s1 => ?_⟩
    have q1 := q _ s1
    by_cases c : ((pam rs x n).map (·.m)).sum = n
    · rw [if_pos c] at q1
      rw [decide_eq_true c]
      exact iteF q1
    · rw [if_neg c] at q1
      rw [decide_eq_false c]
      exact iteT q1

def sp_cut (C NM : Addr) : Sp := fun vs H Q E => ∃ (p a : Addr) (rs : List Rn) (x n : Int), vs = [.ref p, .int x, .int n] ∧ StAt C H p a rs ∧ OrdR rs ∧ rs.length ≤ 100000 ∧
  if ((pam rs x n).map (·.m)).sum = n then ∀ a' H', StAt C H' p a' (layR rs x n []) → Bu p H H' → Q .non H' else ∀ H', Same H H' → E (.ref NM) none H'
theorem h_cut (T : Txt K mg A) : HaveM P w K mg base A.C_Stretches "cut" 7 ["self", "first", "many"] [] (sp_cut A.C_Stretches A.C_NotMapped) := by
  have H_Stretches_check_full := h_cf (P := P) (w := w) (base := base) T
  have H_Stretches_lay_amid := h_lay (P := P) (w := w) (base := base) T
  refine T.r_Stretches_cut.have sc_Stretches_cut (fun vs H Q E z => ?_) ?_
  · obtain ⟨p, a, rs, x, n, rfl, _⟩ := z; rfl
  · intro f cdv A' outer s H vs Q E hr z
    obtain ⟨p, a, rs, x, n, rfl, hS, ho, hlen, q⟩ := z
    obtain ⟨dx, vs, h1, h2, h3⟩ := id hS
    refine ⟨_, (pss_cons (ps_expr (pe_methE (pv 0) T.cl_Stretches H_Stretches_check_full (hr.mono (by decide)) xw_def (pa_cons (pv 1) (pa_cons (pv 2) pa_nil))))
      (pss_one (ps_expr (pe_methE (pv 0) T.cl_Stretches H_Stretches_lay_amid (hr.mono (by decide)) xw_def (pa_cons (pv 1) (pa_cons (pv 2) (pa_cons (pe_lst pa_nil) pa_nil))))))), ?_⟩
    unfold sp_cf sp_lay
    walk_at "wp"
    refine ⟨dx, _, h1, stF_no (by decide +kernel), a, rs, hS, ho, by omega, fun H1 s1 => ?_⟩
    by_cases c : ((pam rs x n).map (·.m)).sum = n
    · rw [if_pos c] at q
      rw [if_pos c]
      refine ⟨dx, _, s1 _ _ h1, stF_no (by decide +kernel), fun lp hlp => ?_⟩
      have s2 := same_upd (o := .lst []) s1 hlp
      exact ⟨a, rs, hS.same s2, ho, hlen, [], [], rfl, .nil, by decide, fun a' H' hS' hB => q a' H' hS' fun c o hc hne => hB c o (s2 c o hc) hne⟩
    · rw [if_neg c] at q
      rw [if_neg c]
      exact q _ s1

def rRn (r : Int) (y : Rn) : Rn := ⟨y.f, y.m, r, y.t⟩
def sp_guard (C BR NM : Addr) : Sp := fun vs H Q E => ∃ (p a : Addr) (rs : List Rn) (x n r : Int), vs = [.ref p, .int x, .int n, .int r] ∧ StAt C H p a rs ∧ OrdR rs ∧ rs.length ≤ 100000 ∧
  if 0 ≤ r ∧ r ≤ 3 then (if ((pam rs x n).map (·.m)).sum = n then ∀ a' H', StAt C H' p a' (layR rs x n ((pam rs x n).map (rRn r))) → Bu p H H' → Q .non H' else ∀ H', Same H H' → E (.ref NM) none H') else E (.ref BR) none H
theorem pam_len {rs : List Rn} {x n : Int} : (pam rs x n).length ≤ rs.length := by
  unfold pam cutR
  rw [List.length_map]
  refine Nat.le_trans (List.length_filter_le _ _) ?_
  rw [List.length_drop, List.length_take]
  omega
theorem h_guard (T : Txt K mg A) : HaveM P w K mg base A.C_Stretches "guard" 7 ["self", "first", "many", "rights"] [] (sp_guard A.C_Stretches A.C_BadRights A.C_NotMapped) := by
  have H_check_rights := h_cr (P := P) (w := w) (base := base) T
  have H_Stretches_check_full := h_cf (P := P) (w := w) (base := base) T
  have H_Stretches_parts_amid := h_parts (P := P) (w := w) (base := base) T
  have H_Stretches_lay_amid := h_lay (P := P) (w := w) (base := base) T
  refine T.r_Stretches_guard.have sc_Stretches_guard (fun vs H Q E z => ?_) ?_
  · obtain ⟨p, a, rs, x, n, r, rfl, _⟩ := z; rfl
  · intro f cdv A' outer s H vs Q E hr z
    obtain ⟨p, a, rs, x, n, r, rfl, hS, ho, hlen, q⟩ := z
    obtain ⟨dx, vs, h1, h2, h3⟩ := id hS
    refine ⟨_, (pss_cons (ps_expr (pe_callE H_check_rights (hr.mono (by decide)) xw_def (pa_cons (pv 3) pa_nil)))
      (pss_cons (ps_expr (pe_methE (pv 0) T.cl_Stretches H_Stretches_check_full (hr.mono (by decide)) xw_def (pa_cons (pv 1) (pa_cons (pv 2) pa_nil))))
      (pss_cons (ps_setC (i := 4) sc_Stretches_guard.nd rfl rfl rfl (pi_list (pe_methE (pv 0) T.cl_Stretches H_Stretches_parts_amid (hr.mono (by decide)) xw_def (pa_cons (pv 1) (pa_cons (pv 2) pa_nil)))) (x := "part") (fs := ["rights"]) (ix := [3]) rfl rfl (fun _ _ _ _ _ _ => (pg_name (i := 0) (show (["part", "rights"] : List Str).Nodup by decide +kernel) rfl (Or.inl rfl))) (fun _ _ _ _ _ _ => pf_nil) (fun _ _ _ _ _ _ => (pe_tup (pa_cons (pe_ix (ix_tupC (K := K) rfl) (pv 0) pe_int (fun _ _ => rfl)) (pa_cons (pe_ix (ix_tupC (K := K) rfl) (pv 0) pe_int (fun _ _ => rfl)) (pa_cons (pv 1) (pa_cons (pe_ix (ix_tupC (K := K) rfl) (pv 0) pe_int (fun _ _ => rfl)) pa_nil)))))))
      (pss_one (ps_expr (pe_methE (pv 0) T.cl_Stretches H_Stretches_lay_amid (hr.mono (by decide)) xw_def (pa_cons (pv 1) (pa_cons (pv 2) (pa_cons (pv 4) pa_nil))))))))), ?_⟩
    unfold sp_cr sp_cf sp_parts sp_lay
    walk_at "wp"
    by_cases c : 0 ≤ r ∧ r ≤ 3
    · rw [if_pos c] at q
      rw [if_pos (by rw [within_int, decide_eq_true c.1, decide_eq_true c.2]; rfl)]
      refine ⟨dx, _, h1, stF_no (by decide +kernel), a, rs, hS, ho, by omega, fun H1 s1 => ?_⟩
      by_cases c2 : ((pam rs x n).map (·.m)).sum = n
      · rw [if_pos c2] at q
        rw [if_pos c2]
        refine ⟨dx, _, s1 _ _ h1, stF_no (by decide +kernel), a, rs, hS.same s1, ho, by omega, fun t us H2 s2 ht0 ht hU => ?_⟩
        have hul : us.length ≤ 100000 := by
          rw [Paired.length hU]
          exact Nat.le_trans pam_len hlen
        generalize hpm : pam rs x n = pt at *
        have hptl : us.length = pt.length := Paired.length hU
        refine ⟨⟨_, SqL.of ht⟩, fun D hD => ?_⟩
        refine comp_list (xs := us) (fun i ys σ H' => ∃ v, σ = [v, some (.int r)] ∧ Same H2 H' ∧ H' D = some (.lst ys) ∧ RunsAt H' ys ((pt.take i).map (rRn r))) ⟨_, rfl, same_upd same_refl hD, upd_same, .nil⟩ (fun i ys σ H' _ ⟨_, _, s3, _⟩ => SqL.of (s3 _ _ ht)) (fun i v ys σ H3 hi => ?_) (fun ys σ H3 => ?_)
        · rintro ⟨v0, rfl, s3, hDD, hys⟩
          obtain ⟨y, hy1, hy2⟩ := prd_get hU hi
          have hyx := hy2.same s3
          have htk : pt.take (i + 1) = pt.take i ++ [y] := by rw [List.take_add_one, hy1]; rfl
          have hyl : ys.length ≤ 100000 := by
            have h4 := Paired.length hys
            rw [List.length_map, List.length_take] at h4
            omega
          rw [htk, List.map_append]
          obtain ⟨c, cv, rfl, hc, hcv⟩ := id hyx
          walk_at "wp"
          refine ⟨_, SqT.of hc, _, rfl, _, SqT.of hc, _, rfl, _, SqT.of hc, _, rfl, fun tp htp => ?_⟩
          have s4 := same_upd (o := .tup [.int y.f, .int y.m, .int r, cv]) same_refl htp
          have hD2 := s4 _ _ hDD
          refine ⟨hD2, by omega, same_put (s3.trans s4) hD, ?_⟩
          refine prd_app (RunsAt.same2 (RunsAt.same hys s4) hD2 same_refl) (.cons (RunAt.same2 ⟨tp, cv, rfl, upd_same, hcv.same s4⟩ hD2 same_refl) .nil)
        · rintro ⟨v0, rfl, s3, hDD, hys⟩
          rw [hptl, List.take_length] at hys
          have s13 := s1.trans (s2.trans s3)
          refine ⟨dx, _, s13 _ _ h1, stF_no (by decide +kernel), a, rs, hS.same s13, ho, hlen, _, ys, hDD, hys, by rw [List.length_map]; omega, fun a' H4 hS4 hB4 => q _ _ hS4 fun c o hc hcp => hB4 c o (s13 _ _ hc) hcp⟩
      · rw [if_neg c2] at q
        rw [if_neg c2]
        exact q _ s1
    · rw [if_neg c] at q
      rw [if_neg (by rw [within_int]; simpa using c)]
      exact q

/-! ### lists of runs compared -/
def dvT : Option (Int × Int) → Dv
  | none => .leaf .non
  | some (b, k) => .seq true [.leaf (.int b), .leaf (.int k)]
def dvR (r : Rn) : Dv := .seq true [.leaf (.int r.f), .leaf (.int r.m), .leaf (.int r.r), dvT r.t]
theorem int_self {i : Int} : eqV (.int i) (.int i) = true := eqV_self rfl
theorem dvT_self (t : Option (Int × Int)) : alike (dvT t) (dvT t) = true ∧ eqDv (dvT t) (dvT t) = true ∧ deep (dvT t) ≤ 1 := by
  cases t with
  | none => exact ⟨by simp [dvT, alike], by simp [dvT, eqDv, eqV], by simp [dvT, deep]⟩
  | some t =>
    obtain ⟨b, k⟩ := t
    refine ⟨by simp [dvT, alike, alikeL], by simp [dvT, eqDv, eqDvL, int_self], by simp [dvT, deep, deepL]⟩
theorem dvR_self (r : Rn) : alike (dvR r) (dvR r) = true ∧ eqDv (dvR r) (dvR r) = true ∧ deep (dvR r) ≤ 2 := by
  obtain ⟨h1, h2, h3⟩ := dvT_self r.t
  refine ⟨by simp [dvR, alike, alikeL, h1], by simp [dvR, eqDv, eqDvL, int_self, h2], ?_⟩
  simp only [dvR, deep, deepL]
  omega
theorem dvRs_self : ∀ rs : List Rn, alikeL (rs.map dvR) (rs.map dvR) = true ∧ eqDvL (rs.map dvR) (rs.map dvR) = true ∧ deepL (rs.map dvR) ≤ 2
  | [] => ⟨by simp [alikeL], by simp [eqDvL], by simp [deepL]⟩
  | r :: rs => by
    obtain ⟨h1, h2, h3⟩ := dvR_self r
    obtain ⟨g1, g2, g3⟩ := dvRs_self rs
    refine ⟨by simp [alikeL, h1, g1], by simp [eqDvL, h2, g2], ?_⟩
    simp only [List.map_cons, deepL]
    omega
theorem sees_tie {H : Hp} {v : V} : ∀ {t : Option (Int × Int)}, TieAt H v t → Sees K H (dvT t) v
  | none, h => ⟨h, rfl⟩
  | some (b, k), ⟨a, e, h⟩ => ⟨a, _, e, SqT.of h, _, _, rfl, ⟨rfl, rfl⟩, _, _, rfl, ⟨rfl, rfl⟩, rfl⟩
theorem sees_run {H : Hp} {v : V} {r : Rn} (h : RunAt H v r) : Sees K H (dvR r) v := by
  obtain ⟨a, tv, e, h1, h2⟩ := h
  exact ⟨a, _, e, SqT.of h1, _, _, rfl, ⟨rfl, rfl⟩, _, _, rfl, ⟨rfl, rfl⟩, _, _, rfl, ⟨rfl, rfl⟩, _, _, rfl, sees_tie h2, rfl⟩
theorem sees_runs {H : Hp} : ∀ {vs : List V} {rs : List Rn}, RunsAt H vs rs → SeesL K H (rs.map dvR) vs
  | _, _, .nil => rfl
  | _, _, .cons r t => ⟨_, _, rfl, sees_run r, sees_runs t⟩
theorem eq_runs {H : Hp} {a b : Addr} {us vs : List V} {rs : List Rn} {Q : VK} (h1 : H a = some (.lst us)) (h2 : H b = some (.lst vs)) (r1 : RunsAt H us rs) (r2 : RunsAt H vs rs) (q : Q (.bl true) H) : rEqD K 4 (.ref a) (.ref b) H Q := by
  obtain ⟨g1, g2, g3⟩ := dvRs_self rs
  exact ⟨false, _, _, ⟨a, us, rfl, SqL.of h1, sees_runs r1⟩, ⟨b, vs, rfl, SqL.of h2, sees_runs r2⟩, g1, by omega, by rw [g2]; exact q⟩
theorem ne_runs {H : Hp} {a b : Addr} {us vs : List V} {rs : List Rn} {Q : VK} (h1 : H a = some (.lst us)) (h2 : H b = some (.lst vs)) (r1 : RunsAt H us rs) (r2 : RunsAt H vs rs) (q : Q (.bl false) H) : rNeD K 4 (.ref a) (.ref b) H Q := by
  obtain ⟨g1, g2, g3⟩ := dvRs_self rs
  exact ⟨false, _, _, ⟨a, us, rfl, SqL.of h1, sees_runs r1⟩, ⟨b, vs, rfl, SqL.of h2, sees_runs r2⟩, g1, by omega, by rw [g2]; exact q⟩

theorem lay_is {rs ss parts : List Rn} {a n : Int} (o : OrdR rs) (l : LstR rs) (hn : 0 < n) (op : OrdR parts) (hb : ∀ x ∈ parts, a ≤ x.f ∧ enR x ≤ a + n) (o' : OrdR ss) (l' : LstR ss) (h : ∀ p, pm ss p = if a ≤ p ∧ p < a + n then pm parts p else pm rs p) : layR rs a n parts = ss := by
  have L := lay_ok o l hn op hb
  exact least_one L.1 o' L.2.1 l' fun p => (L.2.2 p).trans (h p).symm
theorem pm_one {r : Rn} {p : Int} : pm [r] p = if r.f ≤ p ∧ p < r.f + r.m then some (r.r, tf r p) else none := rfl
theorem pm_cons {r : Rn} {rs : List Rn} {p : Int} : pm (r :: rs) p = if r.f ≤ p ∧ p < r.f + r.m then some (r.r, tf r p) else pm rs p := rfl
theorem o_nil : OrdR [] := ⟨List.Pairwise.nil, fun _ h => nomatch h⟩
theorem one_part {r : Rn} {a n : Int} (h1 : r.f = a) (h2 : r.m = n) : ∀ x ∈ [r], a ≤ x.f ∧ enR x ≤ a + n := fun x hx => by
  rw [List.mem_singleton.mp hx]
  unfold enR
  omega
theorem st_new {C : Addr} {H : Hp} {x dx a : Addr} (h1 : H x = none) (h2 : H dx = none) (h4 : upd (upd H dx (.own x)) x (.ins C dx []) a = none) :
    StAt C (upd (upd (upd (upd H dx (.own x)) x (.ins C dx [])) a (.lst [])) x (.ins C dx (stF a))) x a [] ∧ Same H (upd (upd (upd (upd H dx (.own x)) x (.ins C dx [])) a (.lst [])) x (.ins C dx (stF a))) := by
  have hax : a ≠ x := fun e => by subst e; rw [upd_same] at h4; cases h4
  refine ⟨⟨dx, [], upd_same, by rw [upd_ne hax, upd_same], .nil⟩, fun b o hb => ?_⟩
  have hbx : b ≠ x := ne_of_none hb h1
  have hbd : b ≠ dx := ne_of_none hb h2
  have hba : b ≠ a := fun e => by subst e; rw [upd_ne hbx, upd_ne hbd, hb] at h4; cases h4
  rw [upd_ne hbx, upd_ne hba, upd_ne hbx, upd_ne hbd]
  exact hb

/-! ### stretches with gaps between -/
def SepR (rs : List Rn) : Prop := rs.Pairwise (fun a b => enR a < b.f) ∧ ∀ r ∈ rs, 0 < r.m
theorem SepR.ord {rs : List Rn} (h : SepR rs) : OrdR rs := ⟨h.1.imp fun z => Int.le_of_lt z, h.2⟩
theorem SepR.tail {r : Rn} {rs : List Rn} (h : SepR (r :: rs)) : SepR rs := ⟨(List.pairwise_cons.mp h.1).2, fun x hx => h.2 x (List.mem_cons_of_mem _ hx)⟩
theorem SepR.lst : ∀ {rs : List Rn}, SepR rs → LstR rs
  | [], _ => trivial
  | [_], _ => trivial
  | a :: b :: r, h => by
    refine ⟨?_, SepR.lst h.tail⟩
    have e := (List.pairwise_cons.mp h.1).1 b (List.mem_cons_self ..)
    unfold go
    rw [decide_eq_false (by omega)]
    rfl
theorem sep_front {R : Rn} {rs : List Rn} (h : SepR (R :: rs)) : pam rs R.f R.m = [] ∧ layR rs R.f R.m [R] = R :: rs := by
  have hm := h.2 R (List.mem_cons_self ..)
  have hb := (List.pairwise_cons.mp h.1).1
  refine ⟨(free_iff h.tail.ord hm).mpr fun p h1 h2 => pm_below fun r hr => ?_, lay_is h.tail.ord h.tail.lst hm (ord_one hm) (one_part rfl rfl) h.ord h.lst fun p => ?_⟩
  · have := hb r hr; unfold enR at this; omega
  · rw [pm_cons, pm_one]
    by_cases c : R.f ≤ p ∧ p < R.f + R.m
    · simp only [if_pos c]
    · simp only [if_neg c]
theorem sep_app {rs : List Rn} {R : Rn} (h : SepR rs) (hm : 0 < R.m) (hb : ∀ r ∈ rs, enR r < R.f) : SepR (rs ++ [R]) :=
  ⟨List.pairwise_append.mpr ⟨h.1, List.pairwise_cons.mpr ⟨(fun _ z => nomatch z), List.Pairwise.nil⟩, fun a ha b hb' => by rw [List.mem_singleton.mp hb']; exact hb a ha⟩, fun r hr => by
    rcases List.mem_append.mp hr with z | z
    · exact h.2 r z
    · rw [List.mem_singleton.mp z]; exact hm⟩
theorem sep_end {rs : List Rn} {R : Rn} (h : SepR rs) (hm : 0 < R.m) (hb : ∀ r ∈ rs, enR r < R.f) : pam rs R.f R.m = [] ∧ layR rs R.f R.m [R] = rs ++ [R] := by
  have h' := sep_app h hm hb
  have hn : ∀ p, R.f ≤ p → pm rs p = none := fun p hp => pm_above fun r hr => by have := hb r hr; omega
  refine ⟨(free_iff h.ord hm).mpr fun p h1 h2 => hn p h1, lay_is h.ord h.lst hm (ord_one hm) (one_part rfl rfl) h'.ord h'.lst fun p => ?_⟩
  rw [pm_append, pm_one]
  by_cases c : R.f ≤ p ∧ p < R.f + R.m
  · simp only [if_pos c]; rw [hn p c.1]; rfl
  · simp only [if_neg c]; exact Option.or_none
theorem sep_cut {R : Rn} {rs : List Rn} (h : SepR (R :: rs)) : ((pam (R :: rs) R.f R.m).map (·.m)).sum = R.m ∧ layR (R :: rs) R.f R.m [] = rs := by
  have hm := h.2 R (List.mem_cons_self ..)
  have hb := (List.pairwise_cons.mp h.1).1
  refine ⟨(full_iff h.ord hm).mpr fun p h1 h2 => ?_, lay_is h.ord h.lst hm o_nil (fun _ z => nomatch z) h.tail.ord h.tail.lst fun p => ?_⟩
  · rw [pm_cons, if_pos ⟨h1, h2⟩]; exact Option.some_ne_none _
  · rw [pm_cons]
    by_cases c : R.f ≤ p ∧ p < R.f + R.m
    · rw [if_pos c]
      exact pm_below fun r hr => by have := hb r hr; unfold enR at this; omega
    · rw [if_neg c, if_neg c]
theorem sep_init {rs : List Rn} {R : Rn} (h : SepR (rs ++ [R])) : SepR rs := ⟨(List.pairwise_append.mp h.1).1, fun r hr => h.2 r (List.mem_append_left _ hr)⟩
theorem sep_last {rs : List Rn} {R : Rn} (h : SepR (rs ++ [R])) : ((pam (rs ++ [R]) R.f R.m).map (·.m)).sum = R.m ∧ layR (rs ++ [R]) R.f R.m [] = rs := by
  have hR : R ∈ rs ++ [R] := List.mem_append_right _ (List.mem_cons_self ..)
  have hm := h.2 R hR
  have hb : ∀ r ∈ rs, enR r < R.f := fun r hr => (List.pairwise_append.mp h.1).2.2 r hr R (List.mem_cons_self ..)
  have h' := sep_init h
  have hn : ∀ p, R.f ≤ p → pm rs p = none := fun p hp => pm_above fun r hr => by have := hb r hr; omega
  refine ⟨(full_iff h.ord hm).mpr fun p h1 h2 => ?_, lay_is h.ord h.lst hm o_nil (fun _ z => nomatch z) h'.ord h'.lst fun p => ?_⟩
  · rw [pm_mem h.ord hR h1 h2]; exact Option.some_ne_none _
  · rw [pm_append, pm_one]
    by_cases c : R.f ≤ p ∧ p < R.f + R.m
    · simp only [if_pos c]; exact hn p c.1
    · simp only [if_neg c]; exact Option.or_none.symm
theorem sep_rr {q : Int} {R : Rn} {rs : List Rn} (h : SepR (R :: rs)) : SepR (rRn q R :: rs) :=
  ⟨List.pairwise_cons.mpr (List.pairwise_cons.mp h.1), fun r hr => by
    rcases List.mem_cons.mp hr with z | z
    · rw [z]; exact h.2 R (List.mem_cons_self ..)
    · exact h.2 r (List.mem_cons_of_mem _ z)⟩
theorem sep_guard {q : Int} {R : Rn} {rs : List Rn} (h : SepR (R :: rs)) : layR (R :: rs) R.f R.m ((pam (R :: rs) R.f R.m).map (rRn q)) = rRn q R :: rs := by
  have hm := h.2 R (List.mem_cons_self ..)
  have h' := sep_rr (q := q) h
  have pk := pam_ok (a := R.f) (n := R.m) h.ord hm
  refine lay_is h.ord h.lst hm (ord_rights pk.1) (fun x hx => ?_) h'.ord h'.lst fun p => ?_
  · obtain ⟨y, hy, rfl⟩ := List.mem_map.mp hx
    exact pk.2.1 y hy
  · have ep : pm ((pam (R :: rs) R.f R.m).map (rRn q)) p = (if R.f ≤ p ∧ p < R.f + R.m then pm (R :: rs) p else none).map fun y => (q, y.2) := by
      refine Eq.trans (pm_rights (q := q)) ?_
      rw [pk.2.2]
    rw [ep, pm_cons, pm_cons]
    show (if R.f ≤ p ∧ p < R.f + R.m then some (q, tf R p) else pm rs p) = _
    by_cases c : R.f ≤ p ∧ p < R.f + R.m
    · simp only [if_pos c]; rfl
    · simp only [if_neg c]

def sp_copied (C : Addr) : Sp := fun vs H Q _ => ∃ (p a : Addr) (rs : List Rn), vs = [.ref p] ∧ StAt C H p a rs ∧ ∀ p' a' H', Same H H' → H p' = none → StAt C H' p' a' rs → Q (.ref p') H'
theorem h_copied (T : Txt K mg A) : HaveM P w K mg base A.C_Stretches "copied" 3 ["self"] [] (sp_copied A.C_Stretches) := by
  have H_Stretches_init := h_st_init (P := P) (w := w) (base := base) T
  refine T.r_Stretches_copied.have sc_Stretches_copied (fun vs H Q E z => ?_) ?_
  · obtain ⟨p, a, rs, rfl, _⟩ := z; rfl
  · intro f cdv A' outer s H vs Q E hr z
    obtain ⟨p, a, rs, rfl, hS, q⟩ := z
    obtain ⟨dx, vs, h1, h2, h3⟩ := id hS
    refine ⟨_, (pss_cons (ps_set (i := 1) sc_Stretches_copied.nd rfl (Or.inl rfl) (pe_makeE0 H_Stretches_init (hr.mono (by decide)) xw_def))
      (pss_cons (ps_fld (pv 1) (pe_callTy call_list_of rfl T.b_list PyProof.Rows.boot_list (pa_cons (pe_fld (pv 0) rfl) pa_nil)) rfl)
      (pss_one (ps_ret (pv 1))))), ?_⟩
    unfold sp_init
    walk_at "wp"
    intro x' dx' hx' hdx' hne' a' ha'
    obtain ⟨hS1, sm1⟩ := st_new hx' hdx' ha'
    generalize upd (upd (upd (upd H dx' (.own x')) x' (.ins A.C_Stretches dx' [])) a' (.lst [])) x' (.ins A.C_Stretches dx' (stF a')) = H1 at *
    refine ⟨_, dx, _, sm1 _ _ h1, T.cl_Stretches, T.na_Stretches_runs, _, stF_runs, a, rfl, _, .inl (SqL.of (sm1 _ _ h2)), fun l hl => ?_⟩
    obtain ⟨dy, vy, hy, _⟩ := id hS1
    have b1 := same_upd (o := .lst vs) (same_refl (H := H1)) hl
    refine ⟨_, dy, _, b1 _ _ hy, T.cl_Stretches, T.na_Stretches_runs, by show 1 < 1000; decide, ?_⟩
    have hlx : l ≠ x' := fun e => by rw [e, hy] at hl; cases hl
    have ep : putF "runs" (.ref l) (stF a') = stF l := rfl
    refine q _ l _ ?_ hx' ?_
    · exact same_put (sm1.trans b1) hx'
    · rw [ep]
      exact ⟨dy, vs, upd_same, by rw [upd_ne hlx, upd_same], RunsAt.same h3 (same_put (sm1.trans b1) hx')⟩

def sp_part : Sp := fun vs H Q _ => ∃ c pl m : Int, vs = [.int c, .int pl, .int m] ∧ 0 ≤ pl ∧ pl ≤ 3 ∧ 0 < m ∧ ∀ r H', Same H H' → 0 ≤ r → r < m → Q (.int r) H'
theorem h_part (T : Txt K mg A) : Have P w K mg base "_law_part" 1 ["_law_cell", "_law_place", "_law_many"] [] sp_part := by
  refine T.r_l_part.have sc_l_part (fun vs H Q E z => ?_) ?_
  · obtain ⟨c, pl, m, rfl, _⟩ := z; rfl
  · intro f cdv A' outer s H vs Q E hr z
    obtain ⟨c, pl, m, rfl, h0, h3, hm, q⟩ := z
    refine ⟨_, (pss_cons (ps_set (i := 3) sc_l_part.nd rfl (Or.inl rfl) (pe_ix ix_lst (pe_lst (pa_cons pe_int (pa_cons pe_int (pa_cons pe_int (pa_cons pe_int pa_nil))))) (pv 1) (fun _ _ => rfl)))
      (pss_one (ps_ret (pe_op op_mod (pe_op op_mod (pe_op op_mul (pe_op op_add (pe_op op_mod (pv 0) (pv 3)) pe_int) pe_int) (pv 3)) (pv 2))))), ?_⟩
    walk_at "wp"
    intro p hp
    obtain ⟨pr, e, h⟩ : ∃ pr : Int, atI [V.int 7919, V.int 6007, V.int 5003, V.int 9973] pl = some (V.int pr) ∧ 0 < pr := by
      rcases (by omega : pl = 0 ∨ pl = 1 ∨ pl = 2 ∨ pl = 3) with z | z | z | z <;> subst z
      · exact ⟨_, rfl, by decide⟩
      · exact ⟨_, rfl, by decide⟩
      · exact ⟨_, rfl, by decide⟩
      · exact ⟨_, rfl, by decide⟩
    exact ⟨_, e, _, rfl, h, _, rfl, h, hm, q _ _ (same_upd same_refl hp) (Int.emod_nonneg _ (by omega)) (Int.emod_lt_of_pos _ hm)⟩
def sp_num : Sp := fun vs H Q _ => ∃ c pl : Int, vs = [.int c, .int pl] ∧ 0 ≤ pl ∧ pl ≤ 3 ∧ ∀ r H', Same H H' → 0 ≤ r → Q (.int r) H'
theorem h_num (T : Txt K mg A) : Have P w K mg base "_law_number" 2 ["_law_cell", "_law_place"] [] sp_num := by
  have H_l_part := h_part (P := P) (w := w) (base := base) T
  refine T.r_l_number.have sc_l_number (fun vs H Q E z => ?_) ?_
  · obtain ⟨c, pl, rfl, _⟩ := z; rfl
  · intro f cdv A' outer s H vs Q E hr z
    obtain ⟨c, pl, rfl, h0, h3, q⟩ := z
    refine ⟨_, (pss_cons (ps_if (pt_cmpR op_eq (pe_callE H_l_part (hr.mono (by decide)) xw_def (pa_cons (pv 0) (pa_cons (pv 1) (pa_cons pe_int pa_nil)))) pe_int (nomark _)) (pss_one (ps_ret (pe_callE H_l_part (hr.mono (by decide)) xw_def (pa_cons (pv 0) (pa_cons (pv 1) (pa_cons pe_int pa_nil)))))) pss_nil)
      (pss_one (ps_ret (pe_op op_mod (pe_op op_fdiv (pv 0) (pe_op op_add pe_int (pv 1))) (pe_op op_pow pe_int pe_int))))), ?_⟩
    unfold sp_part
    walk_at "wp"
    exact ⟨h0, h3, fun r H1 s1 hr0 hr2 => ite2 (fun _ => ⟨h0, h3, fun r2 H2 s2 h20 h27 => q _ _ (s1.trans s2) h20⟩) (fun _ => ⟨by omega, by omega, q _ _ s1 (Int.emod_nonneg _ (by decide))⟩)⟩
def sp_lrows (K : PySem.W.Frag) : Sp := fun vs H Q _ => ∃ (a : Addr) (cs : List Int), vs = [.ref a] ∧ SqL K H a (cs.map V.int) ∧ cs.length ≤ 63 ∧ ∀ q us rs H', Same H H' → H' q = some (.lst us) → RunsAt H' us rs → SepR rs → (∀ r ∈ rs, 0 ≤ r.r ∧ r.r ≤ 3) → rs.length ≤ cs.length → Q (.ref q) H'
theorem h_lrows (T : Txt K mg A) : Have P w K mg base "_law_rows" 3 ["_law_cells"] [] (sp_lrows K) := by
  have H_l_number := h_num (P := P) (w := w) (base := base) T
  refine T.r_l_rows.have sc_l_rows (fun vs H Q E z => ?_) ?_
  · obtain ⟨a, cs, rfl, _⟩ := z; rfl
  · intro f cdv A' outer s H vs Q E hr z
    obtain ⟨a, cs, rfl, ha, hc, q⟩ := z
    refine ⟨_, (pss_cons (ps_set (i := 1) sc_l_rows.nd rfl (Or.inl rfl) (pe_lst pa_nil))
      (pss_cons (ps_set (i := 2) sc_l_rows.nd rfl (Or.inl rfl) pe_int)
      (pss_cons (ps_forE PassesOwn.leaving rfl (pi_list (pv 0)) (pg_name (i := 3) sc_l_rows.nd rfl (Or.inl rfl)) (pss_cons (ps_set (i := 2) sc_l_rows.nd rfl (Or.inl rfl) (pe_op op_add (pv 2) (pe_callE H_l_number (hr.mono (by decide)) xw_def (pa_cons (pv 3) (pa_cons pe_int pa_nil)))))
      (pss_cons (ps_set (i := 4) sc_l_rows.nd rfl (Or.inl rfl) (pe_op op_add pe_int (pe_callE H_l_number (hr.mono (by decide)) xw_def (pa_cons (pv 3) (pa_cons pe_int pa_nil)))))
      (pss_cons (ps_set (i := 5) sc_l_rows.nd rfl (Or.inl rfl) pe_non)
      (pss_cut (ps_if (pt_cmpR op_gt (pe_op op_mod (pv 3) pe_int) pe_int (nomark _)) (pss_one (ps_set (i := 5) sc_l_rows.nd rfl (Or.inl rfl) (pe_tup (pa_cons (pe_op op_mod (pv 3) (pe_op op_pow pe_int pe_int)) (pa_cons (pe_callE H_l_number (hr.mono (by decide)) xw_def (pa_cons (pv 3) (pa_cons pe_int pa_nil))) pa_nil))))) pss_nil)
      (pss_cons (ps_expr (pe_bm PySem.F.plainAttrs_list PySem.F.slot_list_append PySem.F.type_list_append mt_append (pv 1) (pa_cons (pe_tup (pa_cons (pv 2) (pa_cons (pv 4) (pa_cons (pe_op op_mod (pv 3) pe_int) (pa_cons (pv 5) pa_nil))))) pa_nil)))
      (pss_one (ps_set (i := 2) sc_l_rows.nd rfl (Or.inl rfl) (pe_op op_add (pe_op op_add (pv 2) (pv 4)) pe_int)))))))))
      (pss_one (ps_ret (pv 1)))))), ?_⟩
    walk_at "wp"
    intro d hd
    refine ⟨⟨_, (same_upd same_refl hd).seq ha⟩, loop_list (xs := cs.map V.int) (fun i σ H' => ∃ (pg : Int) (us : List V) (rs : List Rn) (v3 v4 v5 : Option V), σ = [some (.ref a), some (.ref d), some (.int pg), v3, v4, v5] ∧ Same H H' ∧ H' d = some (.lst us) ∧ RunsAt H' us rs ∧ SepR rs ∧ (∀ r ∈ rs, 0 ≤ r.r ∧ r.r ≤ 3) ∧ (∀ r ∈ rs, enR r < pg) ∧ rs.length ≤ i) ⟨0, [], [], _, _, _, rfl, same_upd same_refl hd, upd_same, .nil, ⟨List.Pairwise.nil, fun _ z => nomatch z⟩, (fun _ z => nomatch z), (fun _ z => nomatch z), Nat.le_refl _⟩ (fun i σ H' _ ⟨_, _, _, _, _, _, _, e, _⟩ => e.seq ha) (fun i x σ H' hi => ?_) (fun σ H' => ?_)⟩
    · rintro ⟨pg, us, rs, v3, v4, v5, rfl, s1, hd1, hU, hSp, hrt, hlt, hll⟩
      obtain ⟨z, rfl⟩ : ∃ z, x = V.int z := by
        obtain ⟨z, _, e⟩ := List.mem_map.mp (List.mem_of_getElem? hi)
        exact ⟨z, e.symm⟩
      unfold sp_num
      walk_at "wp"
      intro g H1 s2 hg m H2 s3 hm
      have s13 := s1.trans (s2.trans s3)
      have hd3 := (s2.trans s3) _ _ hd1
      have hU3 := RunsAt.same hU (s2.trans s3)
      refine ⟨fun σ H' => ∃ tv tt, σ = [some (.ref a), some (.ref d), some (.int (pg + g)), some (.int z), some (.int (1 + m)), some tv] ∧ Same H H' ∧ TieAt H' tv tt ∧ H' d = some (.lst us) ∧ RunsAt H' us rs, ?_, fun σ' H3 => ?_⟩
      · walk_at "wp"
        refine ite2 (fun _ k H4 s4 hk tp htp => ?_) (fun _ => ⟨s13, none, rfl, hd3, hU3⟩)
        have b1 := same_upd (o := .tup [V.int (z % 100000000000000000000000000000000000000000000000000), V.int k]) s4 htp
        exact ⟨s13.trans b1, some (_, _), ⟨tp, rfl, upd_same⟩, b1 _ _ hd3, RunsAt.same hU3 b1⟩
      rintro ⟨tv, tt, rfl, s4, hT4, hd4, hU4⟩
      walk_at "wp"
      refine ⟨.inl ⟨rfl, _, SqL.of hd4⟩, fun tp htp => ?_⟩
      have b1 := same_upd (o := .tup [V.int (pg + g), V.int (1 + m), V.int (z % 4), tv]) (same_refl (H := H3)) htp
      have hd5 := b1 _ _ hd4
      have hul := Paired.length hU4
      have hil : i < (cs.map V.int).length := (List.getElem?_eq_some_iff.mp hi).1
      rw [List.length_map] at hil
      obtain ⟨R, eR⟩ : ∃ R : Rn, R = ⟨pg + g, 1 + m, z % 4, tt⟩ := ⟨_, rfl⟩
      have hRb : ∀ r ∈ rs, enR r < R.f := fun r hr => by have := hlt r hr; rw [eR]; show enR r < pg + g; omega
      have hRm : 0 < R.m := by rw [eR]; show 0 < 1 + m; omega
      refine ⟨us, hd5, by omega, same_put (s4.trans b1) hd, us ++ [V.ref tp], rfl, rs ++ [R], ?_, sep_app hSp hRm hRb, ?_, ?_, ?_⟩
      · exact prd_app (RunsAt.same2 (RunsAt.same hU4 b1) hd5 same_refl) (.cons (RunAt.same2 (eR ▸ ⟨tp, tv, rfl, upd_same, hT4.same b1⟩) hd5 same_refl) .nil)
      · intro r hr'
        rcases List.mem_append.mp hr' with h | h
        · exact hrt r h
        · rw [List.mem_singleton.mp h, eR]
          exact ⟨Int.emod_nonneg _ (by decide), Int.le_of_lt_add_one (Int.emod_lt_of_pos z (by decide))⟩
      · intro r hr'
        rcases List.mem_append.mp hr' with h | h
        · have := hlt r h; omega
        · rw [List.mem_singleton.mp h, eR]; show pg + g + (1 + m) < pg + g + (1 + m) + 1; omega
      · rw [List.length_append]; exact Nat.add_le_add hll (Nat.le_refl _)
    · rintro ⟨pg, us, rs, v3, v4, v5, rfl, s1, hd1, hU, hSp, hrt, hlt, hll⟩
      rw [List.length_map] at hll
      walk_at "wp"
      exact q _ _ _ _ s1 hd1 hU hSp hrt hll
/-- a set of stretches and the rows that are due of it -/
def TrAt (C : Addr) (H : Hp) (p d : Addr) (rs : List Rn) : Prop := (∃ a, StAt C H p a rs) ∧ ∃ us, H d = some (.lst us) ∧ RunsAt H us rs
theorem TrAt.same {C : Addr} {H H' : Hp} {p d : Addr} {rs : List Rn} (h : TrAt C H p d rs) (s : Same H H') : TrAt C H' p d rs := let ⟨⟨a, h1⟩, us, h2, h3⟩ := h; ⟨⟨a, h1.same s⟩, us, s _ _ h2, RunsAt.same h3 s⟩
def Trs (C : Addr) (H : Hp) (ps ds : List Addr) (rss : List (List Rn)) (n : Nat) : Prop := ∀ i, i < 3 → ∃ p d rs, ps[i]? = some p ∧ ds[i]? = some d ∧ rss[i]? = some rs ∧ TrAt C H p d rs ∧ SepR rs ∧ rs.length ≤ n
theorem Trs.same {C : Addr} {H H' : Hp} {ps ds : List Addr} {rss : List (List Rn)} {n : Nat} (h : Trs C H ps ds rss n) (s : Same H H') : Trs C H' ps ds rss n := fun i hi => let ⟨p, d, rs, h1, h2, h3, h4, h5⟩ := h i hi; ⟨p, d, rs, h1, h2, h3, h4.same s, h5⟩
def sp_ltold (C : Addr) : Sp := fun vs H Q _ => ∃ (sq dq : Addr) (ps ds : List Addr) (rss : List (List Rn)) (n : Nat), vs = [.ref sq, .ref dq] ∧ H sq = some (.lst (ps.map V.ref)) ∧ H dq = some (.lst (ds.map V.ref)) ∧ ps.length = 3 ∧ Trs C H ps ds rss n ∧ ∀ H', Same H H' → Q (.bl true) H'
theorem h_ltold (T : Txt K mg A) : Have P w K mg base "_law_told_all" 3 ["_law_some", "_law_dues"] [] (sp_ltold A.C_Stretches) := by
  have H_Stretches_told := h_st_told (P := P) (w := w) (base := base) T
  refine T.r_l_told_all.have sc_l_told_all (fun vs H Q E z => ?_) ?_
  · obtain ⟨sq, dq, ps, ds, rss, n, rfl, _⟩ := z; rfl
  · intro f cdv A' outer s H vs Q E hr z
    obtain ⟨sq, dq, ps, ds, rss, n, rfl, hsq, hdq, hps, tr, q⟩ := z
    have hpl : (ps.map V.ref).length = 3 := by rw [List.length_map]; exact hps
    refine ⟨_, (pss_cons (ps_forE PassesOwn.leaving rfl (pi_range1 rfl T.b_range (pa_cons (pe_callB call_len rfl T.b_len PySem.boot_len (pa_cons (pv 0) pa_nil)) pa_nil)) (pg_name (i := 2) sc_l_told_all.nd rfl (Or.inl rfl)) (pss_cons (ps_set (i := 3) sc_l_told_all.nd rfl (Or.inl rfl) (pe_methE0 (pe_ix ix_list (pv 0) (pv 2) (fun _ _ => rfl)) T.cl_Stretches H_Stretches_told (hr.mono (by decide)) xw_def))
      (pss_one (ps_if (PW.pt (pw_or (pt_not (pt_val (pe_callB call_isi rfl T.b_isinstance PyProof.Rows.boot_isinstance (pa_cons (pv 3) (pa_cons (pe_bltnE (n := "list") rfl T.b_list PyProof.Rows.boot_list) pa_nil))))) (pw_or1 (pt_cmpR (op_neD (n := 4) (hu6 hr)) (pv 3) (pe_ix ix_list (pv 1) (pv 2) (fun _ _ => rfl)) (nomark _))))) (pss_one (ps_ret pe_bl)) pss_nil))))
      (pss_one (ps_ret pe_bl))), ?_⟩
    walk_at "wp"
    refine ⟨_, .inl ⟨_, SqL.of hsq, rfl⟩, (by rw [hpl]; decide), (by rw [hpl]; decide), loop_range (fun i σ H' => ∃ v2 v3, σ = [some (.ref sq), some (.ref dq), v2, v3] ∧ Same H H') ⟨_, _, rfl, same_refl⟩ (fun i σ H' hi => ?_) (fun σ H' => ?_)⟩
    · rintro ⟨v2, v3, rfl, s1⟩
      rw [Int.toNat_natCast, hpl] at hi
      obtain ⟨p, d, r, hp0, hd0, _, tr, _⟩ := tr i hi
      have hp : (ps.map V.ref)[i]? = some (V.ref p) := by rw [List.getElem?_map, hp0]; rfl
      have hd : (ds.map V.ref)[i]? = some (V.ref d) := by rw [List.getElem?_map, hd0]; rfl
      obtain ⟨⟨a, hS⟩, us, hd1, hU⟩ := tr.same s1
      obtain ⟨dx, vs, h1, _⟩ := id hS
      unfold sp_st_told
      walk_at "wp"
      refine ⟨_, SqL.of (s1 _ _ hsq), _, by rw [Int.zero_add]; exact atI_nat hp, p, rfl, dx, _, h1, stF_no (by decide +kernel), p, rfl, a, r, hS, fun t us' ht hU' => ⟨by decide, kn_lst upd_same, ?_⟩⟩
      have b1 := same_upd (o := .lst us') (same_refl (H := H')) ht
      rw [isTy_lst upd_same]
      exact iteF ⟨_, SqL.of (b1 _ _ (s1 _ _ hdq)), _, by rw [Int.zero_add]; exact atI_nat hd, ne_runs upd_same (b1 _ _ hd1) hU' (RunsAt.same hU b1) ⟨false, rfl, iteF (s1.trans b1)⟩⟩
    · rintro ⟨v2, v3, rfl, s1⟩
      walk_at "wp"
      exact q _ s1
theorem TieAt.bu {H H' : Hp} {p C dx : Addr} {fs : List (Str × V)} (hp : H p = some (.ins C dx fs)) (b : Bu p H H') {v : V} : ∀ {t : Option (Int × Int)}, TieAt H v t → TieAt H' v t
  | none, h => h
  | some (_, _), ⟨a, e, h⟩ => ⟨a, e, b _ _ h (fun z => by rw [z, hp] at h; cases h)⟩
theorem RunAt.bu {H H' : Hp} {p C dx : Addr} {fs : List (Str × V)} (hp : H p = some (.ins C dx fs)) (b : Bu p H H') {v : V} {r : Rn} (h : RunAt H v r) : RunAt H' v r :=
  let ⟨a, tv, e, h1, h2⟩ := h; ⟨a, tv, e, b _ _ h1 (fun z => by rw [z, hp] at h1; cases h1), h2.bu hp b⟩
theorem RunsAt.bu {H H' : Hp} {p C dx : Addr} {fs : List (Str × V)} (hp : H p = some (.ins C dx fs)) (b : Bu p H H') {vs : List V} {rs : List Rn} (h : RunsAt H vs rs) : RunsAt H' vs rs := Paired.mapP h fun _ _ q => q.bu hp b
theorem lst_bu {H H' : Hp} {p C dx d : Addr} {fs : List (Str × V)} {us : List V} (hp : H p = some (.ins C dx fs)) (b : Bu p H H') (h : H d = some (.lst us)) : H' d = some (.lst us) := b _ _ h (fun z => by rw [z, hp] at h; cases h)
theorem Bu.pre {p : Addr} {H H1 H2 : Hp} (s : Same H H1) (b : Bu p H1 H2) : Bu p H H2 := fun c o hc hp => b c o (s c o hc) hp
theorem Bu.post {p : Addr} {H H1 H2 : Hp} (b : Bu p H H1) (s : Same H1 H2) : Bu p H H2 := fun c o hc hp => s c o (b c o hc hp)
theorem cutV_init {xs : List V} {v : V} : cutV (xs ++ [v]) none (some (-1)) = xs := by
  unfold cutV
  have e1 : HT.sIx (xs ++ [v]).length (xs ++ [v]).length (some (-1)) = xs.length := by
    show (if (-1 : Int) < 0 then ((-1 : Int) + ((xs ++ [v]).length : Int)).toNat else min (-1 : Int).toNat (xs ++ [v]).length) = _
    rw [if_pos (by decide), List.length_append]
    show ((-1 : Int) + ((xs.length + 1 : Nat) : Int)).toNat = _
    omega
  have e2 : HT.sIx (xs ++ [v]).length 0 none = 0 := rfl
  rw [e1, e2, List.drop_zero, Nat.sub_zero]
  exact List.take_left' rfl
theorem atI_head {xs : List V} {v : V} : atI (v :: xs) 0 = some v := atI_nat (j := 0) (by simp)
theorem atI_last {xs : List V} {v : V} : atI (xs ++ [v]) (-1) = some v := by
  unfold atI
  have e : ixN (xs ++ [v]).length (-1) = some xs.length := by
    unfold ixN
    rw [if_neg (by decide), List.length_append, if_pos (by show -((xs.length + 1 : Nat) : Int) ≤ -1; omega)]
    show some ((-1 : Int) + ((xs.length + 1 : Nat) : Int)).toNat = _
    congr 1
    omega
  rw [e]
  show (xs ++ [v])[xs.length]? = some v
  simp
theorem dupX {c : Prop} [Decidable c] {X Y : Prop} (hX : X) (hY : X → Y) : if c then X else Y := ite2 (fun _ => hX) (fun _ => hY hX)
def sp_step (C : Addr) : Sp := fun vs H Q _ => ∃ (p a d : Addr) (rs : List Rn) (us : List V) (c : Int), vs = [.ref p, .ref d, .int c] ∧ StAt C H p a rs ∧ H d = some (.lst us) ∧ RunsAt H us rs ∧ SepR rs ∧ rs.length ≤ 1000 ∧ ∀ a' d' us' rs' H', StAt C H' p a' rs' → Bu p H H' → H' d' = some (.lst us') → RunsAt H' us' rs' → SepR rs' → rs'.length ≤ rs.length + 1 → Q (.ref d') H'
theorem h_step (T : Txt K mg A) : Have P w K mg base "_law_step" 8 ["_law_one", "_law_due", "_law_cell"] [] (sp_step A.C_Stretches) := by
  have H_l_part := h_part (P := P) (w := w) (base := base) T
  have H_Stretches_put := h_st_put (P := P) (w := w) (base := base) T
  have H_Stretches_cut := h_cut (P := P) (w := w) (base := base) T
  have H_Stretches_guard := h_guard (P := P) (w := w) (base := base) T
  refine T.r_l_step.have sc_l_step (fun vs H Q E z => ?_) ?_
  · obtain ⟨p, a, d, rs, us, c, rfl, _⟩ := z; rfl
  · intro f cdv A' outer s H vs Q E hr z
    obtain ⟨p, a, d, rs, us, c, rfl, hS, hd, hU, hSp, hl, q⟩ := z
    obtain ⟨dx, vs0, h1, _⟩ := id hS
    have hul := Paired.length hU
    refine ⟨_, (pss_cons (ps_set (i := 3) sc_l_step.nd rfl (Or.inl rfl) (pe_callE H_l_part (hr.mono (by decide)) xw_def (pa_cons (pv 2) (pa_cons pe_int (pa_cons pe_int pa_nil)))))
      (pss_cons (ps_if (PW.pt (pw_or (pt_cmpR op_eq (pv 3) pe_int (nomark _)) (pw_or1 (pt_cmpR op_eq (pe_callB call_len rfl T.b_len PySem.boot_len (pa_cons (pv 1) pa_nil)) pe_int (nomark _))))) (pss_cons (ps_set (i := 4) sc_l_step.nd rfl (Or.inl rfl) pe_int)
      (pss_cut (ps_if (pt_cmpR op_gt (pe_callB call_len rfl T.b_len PySem.boot_len (pa_cons (pv 1) pa_nil)) pe_int (nomark _)) (pss_one (ps_set (i := 4) sc_l_step.nd rfl (Or.inl rfl) (pe_op op_add (pe_op op_add (pe_op op_add (pe_ix ix_tup (pe_ix ix_list (pv 1) (pe_un op_neg pe_int) (fun _ _ => rfl)) pe_int (fun _ _ => rfl)) (pe_ix ix_tup (pe_ix ix_list (pv 1) (pe_un op_neg pe_int) (fun _ _ => rfl)) pe_int (fun _ _ => rfl))) pe_int) (pe_callE H_l_part (hr.mono (by decide)) xw_def (pa_cons (pv 2) (pa_cons pe_int (pa_cons pe_int pa_nil))))))) pss_nil)
      (pss_cons (ps_set (i := 5) sc_l_step.nd rfl (Or.inl rfl) (pe_tup (pa_cons (pv 4) (pa_cons (pe_op op_add pe_int (pe_op op_mod (pv 2) (pe_op op_pow pe_int pe_int))) (pa_cons (pe_callE H_l_part (hr.mono (by decide)) xw_def (pa_cons (pv 2) (pa_cons pe_int (pa_cons pe_int pa_nil)))) (pa_cons (pe_tup (pa_cons (pe_op op_mod (pv 2) pe_int) (pa_cons (pe_op op_mod (pv 2) (pe_op op_pow pe_int pe_int)) pa_nil))) pa_nil))))))
      (pss_cons (ps_expr (pe_methE (pv 0) T.cl_Stretches H_Stretches_put (hr.mono (by decide)) xw_def (pa_cons (pe_ix ix_tup (pv 5) pe_int (fun _ _ => rfl)) (pa_cons (pe_ix ix_tup (pv 5) pe_int (fun _ _ => rfl)) (pa_cons (pe_ix ix_tup (pv 5) pe_int (fun _ _ => rfl)) (pa_cons (pe_ix ix_tup (pv 5) pe_int (fun _ _ => rfl)) pa_nil))))))
      (pss_one (ps_ret (pe_op op_cat (pv 1) (pe_lst (pa_cons (pv 5) pa_nil))))))))) pss_nil)
      (pss_cons (ps_if (pt_cmpR op_eq (pv 3) pe_int (nomark _)) (pss_cons (ps_expr (pe_methE (pv 0) T.cl_Stretches H_Stretches_cut (hr.mono (by decide)) xw_def (pa_cons (pe_ix ix_tup (pe_ix ix_list (pv 1) pe_int (fun _ _ => rfl)) pe_int (fun _ _ => rfl)) (pa_cons (pe_ix ix_tup (pe_ix ix_list (pv 1) pe_int (fun _ _ => rfl)) pe_int (fun _ _ => rfl)) pa_nil))))
      (pss_one (ps_ret (pe_slice sl_list (pv 1) (po_some pe_int) po_none)))) pss_nil)
      (pss_cons (ps_if (pt_cmpR op_eq (pv 3) pe_int (nomark _)) (pss_cons (ps_expr (pe_methE (pv 0) T.cl_Stretches H_Stretches_cut (hr.mono (by decide)) xw_def (pa_cons (pe_ix ix_tup (pe_ix ix_list (pv 1) (pe_un op_neg pe_int) (fun _ _ => rfl)) pe_int (fun _ _ => rfl)) (pa_cons (pe_ix ix_tup (pe_ix ix_list (pv 1) (pe_un op_neg pe_int) (fun _ _ => rfl)) pe_int (fun _ _ => rfl)) pa_nil))))
      (pss_one (ps_ret (pe_slice sl_list (pv 1) po_none (po_some (pe_un op_neg pe_int)))))) pss_nil)
      (pss_cons (ps_set (i := 6) sc_l_step.nd rfl (Or.inl rfl) (pe_callE H_l_part (hr.mono (by decide)) xw_def (pa_cons (pv 2) (pa_cons pe_int (pa_cons pe_int pa_nil)))))
      (pss_cons (ps_expr (pe_methE (pv 0) T.cl_Stretches H_Stretches_guard (hr.mono (by decide)) xw_def (pa_cons (pe_ix ix_tup (pe_ix ix_list (pv 1) pe_int (fun _ _ => rfl)) pe_int (fun _ _ => rfl)) (pa_cons (pe_ix ix_tup (pe_ix ix_list (pv 1) pe_int (fun _ _ => rfl)) pe_int (fun _ _ => rfl)) (pa_cons (pv 6) pa_nil)))))
      (pss_one (ps_ret (pe_op op_cat (pe_lst (pa_cons (pe_tup (pa_cons (pe_ix ix_tup (pe_ix ix_list (pv 1) pe_int (fun _ _ => rfl)) pe_int (fun _ _ => rfl)) (pa_cons (pe_ix ix_tup (pe_ix ix_list (pv 1) pe_int (fun _ _ => rfl)) pe_int (fun _ _ => rfl)) (pa_cons (pv 6) (pa_cons (pe_ix ix_tup (pe_ix ix_list (pv 1) pe_int (fun _ _ => rfl)) pe_int (fun _ _ => rfl)) pa_nil))))) pa_nil)) (pe_slice sl_list (pv 1) (po_some pe_int) po_none)))))))))), ?_⟩
    unfold sp_part
    walk_at "wp"
    intro wy H1 s1 hw0 hw4
    have hS1 := hS.same s1
    have hd1 := s1 _ _ hd
    have hU1 := RunsAt.same hU s1
    refine dupX ?_ fun hX => ⟨_, .inl ⟨_, SqL.of hd1, rfl⟩, ite2 (fun _ => hX) (fun cn => ?_)⟩
    · refine ⟨fun σ H' => ∃ pg : Int, σ = [some (.ref p), some (.ref d), some (.int c), some (.int wy), some (.int pg), none, none] ∧ Same H1 H' ∧ ∀ r ∈ rs, enR r < pg, ?_, fun σ' H2 => ?_⟩
      · walk_at "wp"
        rcases List.eq_nil_or_concat rs with e | ⟨L, R, e⟩
        · subst e
          cases hU1
          exact ⟨_, .inl ⟨_, SqL.of hd1, rfl⟩, by rw [if_neg (by decide)]; exact ⟨same_refl, fun _ z => nomatch z⟩⟩
        · rw [List.concat_eq_append] at e
          subst e
          obtain ⟨zs, z, rfl, hz1, hz2⟩ := prd_snoc hU1
          obtain ⟨c0, w0, rfl, hc0, hw00⟩ := id hz2
          refine ⟨_, .inl ⟨_, SqL.of hd1, rfl⟩, ?_⟩
          rw [if_pos (by rw [List.length_append]; show (0 : Int) < ((zs.length + 1 : Nat) : Int); omega)]
          refine ⟨_, SqL.of hd1, _, atI_last, c0, rfl, _, SqT.of hc0, _, rfl, _, SqL.of hd1, _, atI_last, c0, rfl, _, SqT.of hc0, _, rfl, _, rfl, _, rfl, fun r9 H3 s3 h90 h99 => ⟨s3, fun r hr' => ?_⟩⟩
          have hRm := hSp.2 R (List.mem_append_right _ (List.mem_cons_self ..))
          rcases List.mem_append.mp hr' with h | h
          · have := (List.pairwise_append.mp hSp.1).2.2 r h R (List.mem_cons_self ..)
            omega
          · rw [List.mem_singleton.mp h]
            unfold enR
            omega
      rintro ⟨pg, rfl, s2, hpg⟩
      walk_at "wp"
      have hck := Int.emod_nonneg c (show (100000000000000000000000000000000000000000000000000 : Int) ≠ 0 by decide)
      generalize c % 100000000000000000000000000000000000000000000000000 = ck at *
      generalize c % 7 = c7 at *
      intro r2 H3 s3 h20 h24 t1 ht1 t2 ht2
      have b1 := same_upd (o := .tup [V.int c7, V.int ck]) (same_refl (H := H3)) ht1
      have ht1' : upd H3 t1 (.tup [V.int c7, V.int ck]) t1 = some (.tup [V.int c7, V.int ck]) := upd_same
      generalize upd H3 t1 (.tup [V.int c7, V.int ck]) = H4 at *
      have b2 := same_upd (o := .tup [V.int pg, V.int (1 + ck), V.int r2, V.ref t1]) (same_refl (H := H4)) ht2
      have ht2' : upd H4 t2 (.tup [V.int pg, V.int (1 + ck), V.int r2, V.ref t1]) t2 = some (.tup [V.int pg, V.int (1 + ck), V.int r2, V.ref t1]) := upd_same
      generalize upd H4 t2 (.tup [V.int pg, V.int (1 + ck), V.int r2, V.ref t1]) = H5 at *
      have s15 := s2.trans (s3.trans (b1.trans b2))
      have hp5 := s15 _ _ (s1 _ _ h1)
      obtain ⟨R, eR⟩ : ∃ R : Rn, R = ⟨pg, 1 + ck, r2, some (c7, ck)⟩ := ⟨_, rfl⟩
      have hRm : 0 < R.m := by rw [eR]; show 0 < 1 + ck; omega
      have hRf : ∀ r ∈ rs, enR r < R.f := by rw [eR]; exact hpg
      have hR5 : RunAt H5 (.ref t2) R := eR ▸ ⟨t2, .ref t1, rfl, ht2', t1, rfl, b2 _ _ ht1'⟩
      have se := sep_end hSp hRm hRf
      refine ⟨dx, _, hp5, stF_no (by decide +kernel), _, SqT.of ht2', _, rfl, _, SqT.of ht2', _, rfl, _, SqT.of ht2', _, rfl, _, SqT.of ht2', _, rfl, ?_⟩
      refine ⟨p, a, rs, pg, 1 + ck, r2, .ref t1, some (c7, ck), rfl, hS1.same s15, hSp.ord, by omega, ⟨t1, rfl, b2 _ _ ht1'⟩, ?_⟩
      rw [eR] at se
      rw [if_pos ⟨h20, by omega⟩, if_pos se.1]
      intro a6 H6 hS6 hB6
      rw [se.2, ← eR] at hS6
      intro l1 hl1
      have b6 := same_upd (o := .lst [V.ref t2]) (same_refl (H := H6)) hl1
      have hd6 := lst_bu hp5 hB6 (s15 _ _ hd1)
      refine ⟨us, b6 _ _ hd6, _, rfl, (by show us.length + 1 ≤ 16777216; omega), fun l2 hl2 => ?_⟩
      have b7 := same_upd (o := .lst (us ++ [V.ref t2])) b6 hl2
      refine q a6 l2 (us ++ [V.ref t2]) (rs ++ [R]) _ (hS6.same b7) (Bu.post (Bu.pre (s1.trans s15) hB6) b7) upd_same ?_ (sep_app hSp hRm hRf) (by rw [List.length_append]; exact Nat.le_refl _)
      exact prd_app (RunsAt.same (RunsAt.bu hp5 hB6 (RunsAt.same hU1 s15)) b7) (.cons ((RunAt.bu hp5 hB6 hR5).same b7) .nil)
    · clear hX
      have hp1 := s1 _ _ h1
      have hne : rs ≠ [] := fun e => by
        subst e
        cases hU1
        exact cn rfl
      refine ite2 (fun c1 => ?_) (fun c1 => ite2 (fun c2 => ?_) (fun c2 => ?_))
      · cases hU1 with
        | nil => exact absurd rfl hne
        | @cons u0 R zs rs1 hR0 hRs =>
          obtain ⟨c0, w0, rfl, hc0, hw00⟩ := id hR0
          refine ⟨dx, _, hp1, stF_no (by decide +kernel), _, SqL.of hd1, _, atI_head, c0, rfl, _, SqT.of hc0, _, rfl, _, SqL.of hd1, _, atI_head, c0, rfl, _, SqT.of hc0, _, rfl, ?_⟩
          refine ⟨p, a, R :: rs1, R.f, R.m, rfl, hS1, hSp.ord, by omega, ?_⟩
          rw [if_pos (sep_cut hSp).1]
          intro a2 H2 hS2 hB2
          rw [(sep_cut hSp).2] at hS2
          refine ⟨_, SqL.of (lst_bu hp1 hB2 hd1), fun l1 hl1 => ?_⟩
          have ecf : cutV (V.ref c0 :: zs) (some 1) none = zs := cutV_from (lo := 1)
          rw [ecf]
          have b1 := same_upd (o := .lst zs) (same_refl (H := H2)) hl1
          exact q a2 l1 zs rs1 _ (hS2.same b1) (Bu.post (Bu.pre s1 hB2) b1) upd_same (RunsAt.same (RunsAt.bu hp1 hB2 hRs) b1) hSp.tail (by rw [List.length_cons]; omega)
      · rcases List.eq_nil_or_concat rs with e | ⟨L, R, e⟩
        · exact absurd e hne
        · rw [List.concat_eq_append] at e
          subst e
          obtain ⟨zs, z, rfl, hz1, hz2⟩ := prd_snoc hU1
          obtain ⟨c0, w0, rfl, hc0, hw00⟩ := id hz2
          refine ⟨dx, _, hp1, stF_no (by decide +kernel), _, SqL.of hd1, _, atI_last, c0, rfl, _, SqT.of hc0, _, rfl, _, SqL.of hd1, _, atI_last, c0, rfl, _, SqT.of hc0, _, rfl, ?_⟩
          refine ⟨p, a, L ++ [R], R.f, R.m, rfl, hS1, hSp.ord, by omega, ?_⟩
          rw [if_pos (sep_last hSp).1]
          intro a2 H2 hS2 hB2
          rw [(sep_last hSp).2] at hS2
          refine ⟨_, SqL.of (lst_bu hp1 hB2 hd1), fun l1 hl1 => ?_⟩
          rw [cutV_init]
          have b1 := same_upd (o := .lst zs) (same_refl (H := H2)) hl1
          exact q a2 l1 zs L _ (hS2.same b1) (Bu.post (Bu.pre s1 hB2) b1) upd_same (RunsAt.same (RunsAt.bu hp1 hB2 hz1) b1) (sep_init hSp) (by rw [List.length_append]; omega)
      · intro rg H2 s2 h20 h24
        cases hU1 with
        | nil => exact absurd rfl hne
        | @cons u0 R zs rs1 hR0 hRs =>
          have hp2 := s2 _ _ hp1
          have hd2 := s2 _ _ hd1
          obtain ⟨c0, w0, rfl, hc0, hw00⟩ := hR0.same s2
          refine ⟨dx, _, hp2, stF_no (by decide +kernel), _, SqL.of hd2, _, atI_head, c0, rfl, _, SqT.of hc0, _, rfl, _, SqL.of hd2, _, atI_head, c0, rfl, _, SqT.of hc0, _, rfl, ?_⟩
          refine ⟨p, a, R :: rs1, R.f, R.m, rg, rfl, hS1.same s2, hSp.ord, by omega, ?_⟩
          rw [if_pos ⟨h20, by omega⟩, if_pos (sep_cut hSp).1]
          intro a3 H3 hS3 hB3
          rw [sep_guard hSp] at hS3
          have hd3 := lst_bu hp2 hB3 hd2
          have hc3 := hB3 _ _ hc0 (fun z => by rw [z, hp2] at hc0; cases hc0)
          have hw3 := TieAt.bu hp2 hB3 hw00
          refine ⟨_, SqL.of hd3, _, atI_head, c0, rfl, _, SqT.of hc3, _, rfl, _, SqL.of hd3, _, atI_head, c0, rfl, _, SqT.of hc3, _, rfl, _, SqL.of hd3, _, atI_head, c0, rfl, _, SqT.of hc3, _, rfl, fun t1 ht1 l1 hl1 => ?_⟩
          have b1 := same_upd (o := .tup [V.int R.f, V.int R.m, V.int rg, w0]) (same_refl (H := H3)) ht1
          have b2 := same_upd (o := .lst [V.ref t1]) (same_refl (H := upd H3 t1 (.tup [V.int R.f, V.int R.m, V.int rg, w0]))) hl1
          refine ⟨_, SqL.of (b2 _ _ (b1 _ _ hd3)), fun l2 hl2 => ?_⟩
          have ecf : cutV (V.ref c0 :: zs) (some 1) none = zs := cutV_from (lo := 1)
          rw [ecf] at *
          have b3 := same_upd (o := .lst zs) (same_refl (H := upd (upd H3 t1 (.tup [V.int R.f, V.int R.m, V.int rg, w0])) l1 (.lst [V.ref t1]))) hl2
          have hzl := Paired.length hRs
          rw [List.length_cons] at hl
          refine ⟨_, b3 _ _ upd_same, _, rfl, (by show 1 + zs.length ≤ 16777216; omega), fun l3 hl3 => ?_⟩
          have b4 := same_upd (o := .lst ([V.ref t1] ++ zs)) b3 hl3
          have bb := b1.trans (b2.trans b4)
          exact q a3 l3 ([V.ref t1] ++ zs) (rRn rg R :: rs1) _ (hS3.same bb) (Bu.post (Bu.pre (s1.trans s2) hB3) bb) upd_same (.cons ⟨t1, w0, rfl, (b2.trans b4) _ _ upd_same, hw3.same bb⟩ (RunsAt.same (RunsAt.bu hp2 hB3 (RunsAt.same hRs s2)) bb)) (sep_rr hSp) (by simp)
/-- what stays but for these four -/
def Kp (ex : List Addr) (H H' : Hp) : Prop := ∀ c o, H c = some o → c ∉ ex → H' c = some o
theorem sep_drop {rs : List Rn} (h : SepR rs) (k : Nat) : SepR (rs.drop k) := ⟨h.1.sublist (List.drop_sublist ..), fun r hr => h.2 r (List.mem_of_mem_drop hr)⟩
theorem drop_one {rs : List Rn} {k : Nat} {R : Rn} (h : rs[k]? = some R) : rs.drop k = R :: rs.drop (k + 1) := by
  obtain ⟨hk, e⟩ := List.getElem?_eq_some_iff.mp h
  rw [List.drop_eq_getElem_cons hk, e]
theorem ddist {p0 p1 p2 p : Addr} (n10 : p1 ≠ p0) (n20 : p2 ≠ p0) (n21 : p2 ≠ p1) {j k : Nat} (hj : j < 3) (hk : k < 3) (h1 : [p0, p1, p2][j]? = some p) (h2 : [p0, p1, p2][k]? = some p) : j = k := by
  rcases (by omega : j = 0 ∨ j = 1 ∨ j = 2) with z | z | z <;> subst z <;> rcases (by omega : k = 0 ∨ k = 1 ∨ k = 2) with z | z | z <;> subst z <;> simp at h1 h2 <;> first | rfl | (subst h1; first | exact absurd h2 n10 | exact absurd h2 n20 | exact absurd h2 n21 | exact absurd h2.symm n10 | exact absurd h2.symm n20 | exact absurd h2.symm n21)
theorem ne_dq {H : Hp} {dq : Addr} {ds : List Addr} (hdq : H dq = some (.lst (ds.map V.ref))) {d : Addr} (h0 : ds[0]? = some d) {u : List V} (hd : H d = some (.lst u)) {a : Addr} {vs : List V} {rs : List Rn} (ha : H a = some (.lst vs)) (hr : RunsAt H vs rs) : a ≠ dq := fun e => by
  rw [e, hdq] at ha
  cases ha
  cases ds with
  | nil => simp at h0
  | cons d' ds =>
    simp at h0
    subst h0
    cases hr with
    | cons r _ =>
      obtain ⟨c, tv, e, h1, _⟩ := r
      cases e
      rw [hd] at h1
      cases h1
theorem TrAt.bu {C p q dx d : Addr} {H H2 : Hp} {fs : List (Str × V)} {rs : List Rn} (hp : H p = some (.ins C dx fs)) (b : Bu p H H2) (n : q ≠ p) (h : TrAt C H q d rs) : TrAt C H2 q d rs := by
  obtain ⟨⟨a, dx', vs, h1, h2, h3⟩, us, h4, h5⟩ := h
  exact ⟨⟨a, dx', vs, b _ _ h1 n, lst_bu hp b h2, RunsAt.bu hp b h3⟩, us, lst_bu hp b h4, RunsAt.bu hp b h5⟩
theorem TrAt.dq {C q dq d d0 : Addr} {H : Hp} {ds : List Addr} {u ws : List V} {rs : List Rn} (hdq : H dq = some (.lst (ds.map V.ref))) (h0 : ds[0]? = some d0) (hd0 : H d0 = some (.lst u)) (h : TrAt C H q d rs) : TrAt C (upd H dq (.lst ws)) q d rs := by
  obtain ⟨⟨a, dx', vs, h1, h2, h3⟩, us, h4, h5⟩ := h
  have n1 : q ≠ dq := fun e => by rw [e, hdq] at h1; cases h1
  exact ⟨⟨a, dx', vs, by rw [upd_ne n1]; exact h1, by rw [upd_ne (ne_dq hdq h0 hd0 h2 h3)]; exact h2, RunsAt.same2 h3 hdq same_refl⟩, us, by rw [upd_ne (ne_dq hdq h0 hd0 h4 h5)]; exact h4, RunsAt.same2 h5 hdq same_refl⟩
theorem RunsAt.kp {ex : List Addr} {H H' : Hp} (k : Kp ex H H') (hx : ∀ c xs, H c = some (.tup xs) → c ∉ ex) {vs : List V} {rs : List Rn} (h : RunsAt H vs rs) : RunsAt H' vs rs := Paired.mapP h fun _ r ⟨a, tv, e, h1, h2⟩ => ⟨a, tv, e, k _ _ h1 (hx _ _ h1), by
  match ht : r.t, h2 with
  | none, h2 => exact h2
  | some (b, i), ⟨a', e', h'⟩ => exact ⟨a', e', k _ _ h' (hx _ _ h')⟩⟩
def spLaw (K : PySem.W.Frag) : Sp := fun vs H Q _ => ∃ (a : Addr) (ns : List Int), vs = [.ref a] ∧ SqL K H a (ns.map V.int) ∧ ns.length ≤ 63 ∧ ∀ H', Q (.bl true) H'
theorem body_law (T : Txt K mg A) : Body P w K mg base "law" s_law ["_law_script", "_law_rows_here", "_law_one", "_law_row", "_law_two", "_law_some", "_law_dues", "_law_early", "_law_cell", "_law_at", "_law_told"] 9 (spLaw K) := by
  intro f cdv A' outer s H vs Q E hr z
  obtain ⟨a0, ns, rfl, ha, hn, q⟩ := z
  have H_l_part := h_part (P := P) (w := w) (base := base) T
  have H_l_rows := h_lrows (P := P) (w := w) (base := base) T
  have H_l_told_all := h_ltold (P := P) (w := w) (base := base) T
  have H_l_step := h_step (P := P) (w := w) (base := base) T
  have H_Stretches_init := h_st_init (P := P) (w := w) (base := base) T
  have H_Stretches_put := h_st_put (P := P) (w := w) (base := base) T
  have H_Stretches_copied := h_copied (P := P) (w := w) (base := base) T
  have H_Stretches_is_tied := h_tied (P := P) (w := w) (base := base) T
  have H_Stretches_told := h_st_told (P := P) (w := w) (base := base) T
  refine ⟨_, (pss_cons (ps_set (i := 1) sc_law.nd rfl (Or.inl rfl) (pe_callE H_l_rows (hr.mono (by decide)) xw_def (pa_cons (pe_slice sl_list (pv 0) (po_some pe_int) (po_some pe_int)) pa_nil)))
      (pss_cons (ps_set (i := 2) sc_law.nd rfl (Or.inl rfl) (pe_makeE0 H_Stretches_init (hr.mono (by decide)) xw_def))
      (pss_cons (ps_forE PassesOwn.leaving rfl (pi_rev rfl T.b_reversed (pa_cons (pv 1) pa_nil)) (pg_name (i := 3) sc_law.nd rfl (Or.inl rfl)) (pss_one (ps_expr (pe_methE (pv 2) T.cl_Stretches H_Stretches_put (hr.mono (by decide)) xw_def (pa_cons (pe_ix ix_tup (pv 3) pe_int (fun _ _ => rfl)) (pa_cons (pe_ix ix_tup (pv 3) pe_int (fun _ _ => rfl)) (pa_cons (pe_ix ix_tup (pv 3) pe_int (fun _ _ => rfl)) (pa_cons (pe_ix ix_tup (pv 3) pe_int (fun _ _ => rfl)) pa_nil))))))))
      (pss_cons (ps_set (i := 4) sc_law.nd rfl (Or.inl rfl) (pe_methE0 (pv 2) T.cl_Stretches H_Stretches_copied (hr.mono (by decide)) xw_def))
      (pss_cons (ps_set (i := 5) sc_law.nd rfl (Or.inl rfl) (pe_lst (pa_cons (pv 2) (pa_cons (pv 4) (pa_cons (pe_methE0 (pv 4) T.cl_Stretches H_Stretches_copied (hr.mono (by decide)) xw_def) pa_nil)))))
      (pss_cons (ps_forE PassesOwn.leaving rfl (pi_list (pv 1)) (pg_name (i := 3) sc_law.nd rfl (Or.inl rfl)) (pss_one (ps_if (PW.pt (pw_and (pt_cmpR op_notN (pe_ix ix_tup (pv 3) pe_int (fun _ _ => rfl)) pe_non (nomark _)) (pw_and1 (pt_cmpR op_notB (pe_methE (pv 4) T.cl_Stretches H_Stretches_is_tied (hr.mono (by decide)) xw_def (pa_cons (pe_ix ix_tup (pe_ix ix_tup (pv 3) pe_int (fun _ _ => rfl)) pe_int (fun _ _ => rfl)) pa_nil)) pe_bl (nomark _))))) (pss_one (ps_ret pe_bl)) pss_nil)))
      (pss_cons (ps_set (i := 6) sc_law.nd rfl (Or.inl rfl) (pe_lst (pa_cons (pe_callTy call_list_of rfl T.b_list PyProof.Rows.boot_list (pa_cons (pv 1) pa_nil)) (pa_cons (pe_callTy call_list_of rfl T.b_list PyProof.Rows.boot_list (pa_cons (pv 1) pa_nil)) (pa_cons (pe_callTy call_list_of rfl T.b_list PyProof.Rows.boot_list (pa_cons (pv 1) pa_nil)) pa_nil)))))
      (pss_cons (ps_if (pt_not (pt_val (pe_callE H_l_told_all (hr.mono (by decide)) xw_def (pa_cons (pv 5) (pa_cons (pv 6) pa_nil))))) (pss_one (ps_ret pe_bl)) pss_nil)
      (pss_cons (ps_set (i := 7) sc_law.nd rfl (Or.inl rfl) (pe_lst (pa_cons (pe_methE0 (pv 2) T.cl_Stretches H_Stretches_told (hr.mono (by decide)) xw_def) (pa_cons (pe_methE0 (pv 4) T.cl_Stretches H_Stretches_told (hr.mono (by decide)) xw_def) pa_nil))))
      (pss_cons (ps_forE PassesOwn.leaving rfl (pi_list (pe_slice sl_list (pv 0) (po_some pe_int) (po_some pe_int))) (pg_name (i := 8) sc_law.nd rfl (Or.inl rfl)) (pss_cons (ps_set (i := 9) sc_law.nd rfl (Or.inl rfl) (pe_callE H_l_part (hr.mono (by decide)) xw_def (pa_cons (pv 8) (pa_cons pe_int (pa_cons pe_int pa_nil)))))
      (pss_cons (ps_asg (pe_callE H_l_step (hr.mono (by decide)) xw_def (pa_cons (pe_ix ix_list (pv 5) (pv 9) (fun _ _ => rfl)) (pa_cons (pe_ix ix_list (pv 6) (pv 9) (fun _ _ => rfl)) (pa_cons (pv 8) pa_nil)))) (pg_sub (pv 6) (pv 9) set_list))
      (pss_one (ps_if (pt_not (pt_val (pe_callE H_l_told_all (hr.mono (by decide)) xw_def (pa_cons (pv 5) (pa_cons (pv 6) pa_nil))))) (pss_one (ps_ret pe_bl)) pss_nil)))))
      (pss_cons (ps_if (PW.pt (pw_or (pt_cmpR (op_neD (n := 4) (hu6 hr)) (pe_ix ix_list (pv 7) pe_int (fun _ _ => rfl)) (pv 1) (nomark _)) (pw_or1 (pt_cmpR (op_neD (n := 4) (hu6 hr)) (pe_ix ix_list (pv 7) pe_int (fun _ _ => rfl)) (pv 1) (nomark _))))) (pss_one (ps_ret pe_bl)) pss_nil)
      (pss_cons (ps_forE PassesOwn.leaving rfl (pi_list (pv 5)) (pg_name (i := 2) sc_law.nd rfl (Or.inl rfl)) (pss_cons (ps_set (i := 10) sc_law.nd rfl (Or.inl rfl) (pe_methE0 (pv 2) T.cl_Stretches H_Stretches_told (hr.mono (by decide)) xw_def))
      (pss_cons (ps_expr (pe_bm0 PySem.F.plainAttrs_list PySem.F.slot_list_reverse PySem.F.type_list_reverse mt_reverse (pv 10)))
      (pss_one (ps_expr (pe_bm PySem.F.plainAttrs_list PySem.F.slot_list_append PySem.F.type_list_append mt_append (pv 10) (pa_cons (pe_tup (pa_cons pe_int (pa_cons pe_int (pa_cons pe_int (pa_cons pe_non pa_nil))))) pa_nil)))))))
      (pss_one (ps_ret (pe_callE H_l_told_all (hr.mono (by decide)) xw_def (pa_cons (pv 5) (pa_cons (pv 6) pa_nil))))))))))))))))), ?_⟩
  unfold sp_lrows sp_init
  walk_at "wp"
  refine ⟨_, ha, fun sl hsl => ?_⟩
  have e9 : cutV (ns.map V.int) (some 1) (some 9) = ((ns.take 9).drop 1).map V.int := by
    rw [show cutV (ns.map V.int) (some 1) (some 9) = ((ns.map V.int).take 9).drop 1 from cutV_nat (lo := 1) (hi := 9), List.map_drop, List.map_take]
  rw [e9] at *
  have s0 := same_upd (o := .lst (((ns.take 9).drop 1).map V.int)) (same_refl (H := H)) hsl
  have hml : ((ns.take 9).drop 1).length ≤ 8 := by rw [List.length_drop, List.length_take]; omega
  generalize (ns.take 9).drop 1 = ms at *
  refine ⟨ms, SqL.of upd_same, by omega, fun rq us rs H1 s1 hq1 hU1 hSp hrt hrl p0 dx0 hp0 hdx0 hne0 b0 hb0 => ?_⟩
  have s01 := s0.trans s1
  obtain ⟨hS2, sm2⟩ := st_new hp0 hdx0 hb0
  generalize upd (upd (upd (upd H1 dx0 (.own p0)) p0 (.ins A.C_Stretches dx0 [])) b0 (.lst [])) p0 (.ins A.C_Stretches dx0 (stF b0)) = H2 at *
  have hul := Paired.length hU1
  unfold iRev
  walk_at "wp"
  refine ⟨us, SqL.of (sm2 _ _ hq1), loop_rev (xs := us) (fun i σ H' => ∃ a' v3, σ = [some (.ref a0), some (.ref rq), some (.ref p0), v3, none, none, none, none, none, none, none] ∧ Same H1 H' ∧ StAt A.C_Stretches H' p0 a' (rs.drop (rs.length - i))) ⟨_, _, rfl, sm2, by rw [Nat.sub_zero, List.drop_length]; exact hS2⟩ (fun i σ H' _ ⟨_, _, _, e, _⟩ => SqL.of (e _ _ hq1)) (fun i x σ H' hx hi => ?_) (fun σ H3 => ?_)⟩
  · rintro ⟨a', v3, rfl, s3, hS3⟩
    rw [hul] at hx hi
    obtain ⟨R, hR1, hR2⟩ := prd_get hU1 hx
    have ed := drop_one hR1
    rw [show rs.length - 1 - i = rs.length - (i + 1) by omega, show rs.length - (i + 1) + 1 = rs.length - i by omega] at ed
    have hsd := sep_drop hSp (rs.length - (i + 1))
    rw [ed] at hsd
    have sf := sep_front hsd
    have rR := hrt R (List.mem_of_getElem? hR1)
    obtain ⟨c, cv, rfl, hc, hcv⟩ := hR2.same s3
    obtain ⟨dz, vz, hz3, _⟩ := id hS3
    walk_at "wp"
    refine ⟨dz, _, hz3, stF_no (by decide +kernel), _, SqT.of hc, _, rfl, _, SqT.of hc, _, rfl, _, SqT.of hc, _, rfl, _, SqT.of hc, _, rfl, ?_⟩
    refine ⟨p0, a', rs.drop (rs.length - i), R.f, R.m, R.r, cv, R.t, rfl, hS3, hsd.tail.ord, by rw [List.length_drop]; omega, hcv, ?_⟩
    rw [if_pos rR, if_pos sf.1]
    intro a2 H4 hS4 hB4
    rw [show ([⟨R.f, R.m, R.r, R.t⟩] : List Rn) = [R] from rfl, sf.2, ← ed] at hS4
    exact ⟨fun c o hc => hB4 c o (s3 c o hc) (ne_of_none hc hp0), a2, hS4⟩
  rintro ⟨a3, v3, rfl, s3, hS3⟩
  rw [hul, Nat.sub_self, List.drop_zero] at hS3
  unfold sp_copied
  walk_at "wp"
  obtain ⟨dx3, vs3, hp3, _⟩ := id hS3
  refine ⟨dx3, _, hp3, stF_no (by decide +kernel), a3, rs, hS3, fun p1 a1 H4 s4 hp1 hS4 => ?_⟩
  obtain ⟨dx4, vs4, hp4, _⟩ := id hS4
  refine ⟨dx4, _, hp4, stF_no (by decide +kernel), a1, rs, hS4, fun p2 a2 H5 s5 hp2 hS5 sq hsq => ?_⟩
  have b5 := same_upd (o := .lst [V.ref p0, V.ref p1, V.ref p2]) (same_refl (H := H5)) hsq
  have hsq' : upd H5 sq (.lst [V.ref p0, V.ref p1, V.ref p2]) sq = some (.lst [V.ref p0, V.ref p1, V.ref p2]) := upd_same
  generalize upd H5 sq (.lst [V.ref p0, V.ref p1, V.ref p2]) = H6 at *
  have n10 : p1 ≠ p0 := fun e => by rw [e, hp3] at hp1; cases hp1
  have n21 : p2 ≠ p1 := fun e => by rw [e, hp4] at hp2; cases hp2
  have n20 : p2 ≠ p0 := fun e => by rw [e, s4 _ _ hp3] at hp2; cases hp2
  have hS60 := hS3.same (s4.trans (s5.trans b5))
  have hS61 := hS4.same (s5.trans b5)
  have hS62 := hS5.same b5
  have s16 := s3.trans (s4.trans (s5.trans b5))
  have hq6 := s16 _ _ hq1
  have hU6 := RunsAt.same hU1 s16
  refine ⟨⟨_, SqL.of hq6⟩, loop_list (xs := us) (fun i σ H' => ∃ v3, σ = [some (.ref a0), some (.ref rq), some (.ref p0), v3, some (.ref p1), some (.ref sq), none, none, none, none, none] ∧ Same H6 H') ⟨_, rfl, same_refl⟩ (fun i σ H' _ ⟨_, _, e⟩ => SqL.of (e _ _ hq6)) (fun i x σ H' hi => ?_) (fun σ H7 => ?_)⟩
  · rintro ⟨v3', rfl, s7⟩
    obtain ⟨R, hR1, hR2⟩ := prd_get hU6 hi
    obtain ⟨c, cv, rfl, hc, hcv⟩ := hR2.same s7
    have hRm := List.mem_of_getElem? hR1
    unfold sp_tied
    walk_at "wp"
    refine ⟨_, SqT.of hc, _, rfl, ?_⟩
    cases ht : R.t with
    | none =>
      rw [ht] at hcv
      have hcv : cv = .non := hcv
      subst hcv
      exact iteF (iteF s7)
    | some bk =>
      obtain ⟨b, k⟩ := bk
      rw [ht] at hcv
      obtain ⟨c2, rfl, hc2⟩ := hcv
      obtain ⟨dw, vw, hw6, _⟩ := id hS61
      have hany : rs.any (tiedTo b) = true := List.any_eq_true.mpr ⟨R, hRm, by unfold tiedTo; rw [ht]; exact decide_eq_true rfl⟩
      refine iteT ⟨dw, _, s7 _ _ hw6, stF_no (by decide +kernel), _, SqT.of hc, _, rfl, c2, rfl, _, SqT.of hc2, _, rfl, a1, rs, _, rfl, hS61.same s7, by omega, fun H8 s8 => ?_⟩
      rw [hany]
      exact iteF (s7.trans s8)
  rintro ⟨v3', rfl, s7⟩
  walk_at "wp"
  have s17 := s16.trans s7
  have hq7 := s17 _ _ hq1
  refine ⟨us, .inl (SqL.of hq7), fun d0 hd0 => ?_⟩
  have c0 := same_upd (o := .lst us) (same_refl (H := H7)) hd0
  have hd0' : upd H7 d0 (.lst us) d0 = some (.lst us) := upd_same
  generalize upd H7 d0 (.lst us) = H8 at *
  refine ⟨us, .inl (SqL.of (c0 _ _ hq7)), fun d1 hd1 => ?_⟩
  have c1 := same_upd (o := .lst us) (same_refl (H := H8)) hd1
  have hd1' : upd H8 d1 (.lst us) d1 = some (.lst us) := upd_same
  generalize upd H8 d1 (.lst us) = H9 at *
  refine ⟨us, .inl (SqL.of ((c0.trans c1) _ _ hq7)), fun d2 hd2 => ?_⟩
  have c2 := same_upd (o := .lst us) (same_refl (H := H9)) hd2
  have hd2' : upd H9 d2 (.lst us) d2 = some (.lst us) := upd_same
  generalize upd H9 d2 (.lst us) = H10 at *
  intro dq hdq
  have c3 := same_upd (o := .lst [V.ref d0, V.ref d1, V.ref d2]) (same_refl (H := H10)) hdq
  have hdq' : upd H10 dq (.lst [V.ref d0, V.ref d1, V.ref d2]) dq = some (.lst [V.ref d0, V.ref d1, V.ref d2]) := upd_same
  generalize upd H10 dq (.lst [V.ref d0, V.ref d1, V.ref d2]) = H11 at *
  have s710 := c0.trans (c1.trans c2)
  have s711 := s710.trans c3
  have s611 := s7.trans s711
  have s111 := s16.trans s611
  have hU11 := RunsAt.same hU1 s111
  have hrs8 : rs.length ≤ 8 := by omega
  have tr11 : Trs A.C_Stretches H11 [p0, p1, p2] [d0, d1, d2] [rs, rs, rs] 8 := fun i hi => by
    rcases (by omega : i = 0 ∨ i = 1 ∨ i = 2) with z | z | z <;> subst z
    · exact ⟨p0, d0, rs, rfl, rfl, rfl, ⟨⟨a3, hS60.same s611⟩, us, (c1.trans (c2.trans c3)) _ _ hd0', hU11⟩, hSp, hrs8⟩
    · exact ⟨p1, d1, rs, rfl, rfl, rfl, ⟨⟨a1, hS61.same s611⟩, us, (c2.trans c3) _ _ hd1', hU11⟩, hSp, hrs8⟩
    · exact ⟨p2, d2, rs, rfl, rfl, rfl, ⟨⟨a2, hS62.same s611⟩, us, c3 _ _ hd2', hU11⟩, hSp, hrs8⟩
  refine ⟨sq, dq, [p0, p1, p2], [d0, d1, d2], [rs, rs, rs], 8, rfl, s611 _ _ hsq', hdq', rfl, tr11, fun H12 s12 => ⟨true, rfl, iteF ?_⟩⟩
  have s612 := s611.trans s12
  have hS120 := hS60.same s612
  have hS121 := hS61.same s612
  have hS122 := hS62.same s612
  obtain ⟨dxa, vsa, hpa, _⟩ := id hS120
  obtain ⟨dxb, vsb, hpb, _⟩ := id hS121
  obtain ⟨dxc, vsc, hpc, _⟩ := id hS122
  refine ⟨dxa, _, hpa, stF_no (by decide +kernel), p0, a3, rs, rfl, hS120, fun e0 ue0 he0 hUe0 => ?_⟩
  have g0 := same_upd (o := .lst ue0) (same_refl (H := H12)) he0
  have he0' : upd H12 e0 (.lst ue0) e0 = some (.lst ue0) := upd_same
  generalize upd H12 e0 (.lst ue0) = H13 at *
  refine ⟨dxb, _, g0 _ _ hpb, stF_no (by decide +kernel), p1, a1, rs, rfl, hS121.same g0, fun e1 ue1 he1 hUe1 => ?_⟩
  have g1 := same_upd (o := .lst ue1) (same_refl (H := H13)) he1
  have he1' : upd H13 e1 (.lst ue1) e1 = some (.lst ue1) := upd_same
  generalize upd H13 e1 (.lst ue1) = H14 at *
  intro eq heq
  have g2 := same_upd (o := .lst [V.ref e0, V.ref e1]) (same_refl (H := H14)) heq
  have heq' : upd H14 eq (.lst [V.ref e0, V.ref e1]) eq = some (.lst [V.ref e0, V.ref e1]) := upd_same
  generalize upd H14 eq (.lst [V.ref e0, V.ref e1]) = H15 at *
  have s1215 := g0.trans (g1.trans g2)
  have s115 := s111.trans (s12.trans s1215)
  refine ⟨_, (s01.trans s115).seq ha, fun sl2 hsl2 => ?_⟩
  have e29 : cutV (ns.map V.int) (some 5) (some 29) = ((ns.take 29).drop 5).map V.int := by
    rw [show cutV (ns.map V.int) (some 5) (some 29) = ((ns.map V.int).take 29).drop 5 from cutV_nat (lo := 5) (hi := 29), List.map_drop, List.map_take]
  rw [e29] at *
  have hml2 : ((ns.take 29).drop 5).length ≤ 24 := by rw [List.length_drop, List.length_take]; omega
  generalize (ns.take 29).drop 5 = ms2 at *
  have g3 := same_upd (o := .lst (ms2.map V.int)) (same_refl (H := H15)) hsl2
  have hsl2' : upd H15 sl2 (.lst (ms2.map V.int)) sl2 = some (.lst (ms2.map V.int)) := upd_same
  generalize upd H15 sl2 (.lst (ms2.map V.int)) = H16 at *
  have s1216 := s1215.trans g3
  have s1116 := s12.trans s1216
  have hdq16 := s1116 _ _ hdq'
  have ka : ∀ {c : Addr} {o : HO}, H16 c = some o → (∀ C dz fs, o ≠ .ins C dz fs) → c ≠ dq → c ∉ [p0, p1, p2, dq] := fun {c o} h hk hd z => by
    have hk' : ∀ {pp dz : Addr} {fs : List (Str × V)}, H16 pp = some (.ins A.C_Stretches dz fs) → c ≠ pp := fun h2 e => by
      rw [e, h2] at h
      exact hk _ _ _ (Option.some.inj h).symm
    rcases List.mem_cons.mp z with z | z
    · exact hk' (s1216 _ _ hpa) z
    rcases List.mem_cons.mp z with z | z
    · exact hk' (s1216 _ _ hpb) z
    rcases List.mem_cons.mp z with z | z
    · exact hk' (s1216 _ _ hpc) z
    · exact hd (List.mem_singleton.mp z)
  have nl : ∀ {xs : List V} C dz fs, HO.lst xs ≠ .ins C dz fs := fun _ _ _ z => nomatch z
  have hdq12 := s12 _ _ hdq'
  have ksl := ka hsl2' nl (fun e => by rw [e, (s1215 _ _ hdq12)] at hsl2; cases hsl2)
  have ksq := ka ((s611.trans s1116) _ _ hsq') nl (fun e => by rw [← e, (s7.trans s710) _ _ hsq'] at hdq; cases hdq)
  have krq := ka ((s111.trans s1116) _ _ hq1) nl (fun e => by rw [← e, (s17.trans s710) _ _ hq1] at hdq; cases hdq)
  have keq := ka (g3 _ _ heq') nl (fun e => by rw [e, ((g0.trans g1) _ _ hdq12)] at heq; cases heq)
  have ke0 := ka ((g1.trans (g2.trans g3)) _ _ he0') nl (fun e => by rw [e, hdq12] at he0; cases he0)
  have ke1 := ka ((g2.trans g3) _ _ he1') nl (fun e => by rw [e, (g0 _ _ hdq12)] at he1; cases he1)
  refine ⟨⟨_, SqL.of hsl2'⟩, loop_list (xs := ms2.map V.int) (fun i σ H' => ∃ (ds : List Addr) (rss : List (List Rn)) (v3 v8 v9 : Option V), σ = [some (.ref a0), some (.ref rq), some (.ref p0), v3, some (.ref p1), some (.ref sq), some (.ref dq), some (.ref eq), v8, v9, none] ∧ Kp [p0, p1, p2, dq] H16 H' ∧ H' dq = some (.lst (ds.map V.ref)) ∧ ds.length = 3 ∧ Trs A.C_Stretches H' [p0, p1, p2] ds rss (8 + i)) ⟨[d0, d1, d2], [rs, rs, rs], _, _, _, rfl, (fun _ _ h _ => h), hdq16, rfl, tr11.same s1116⟩ (fun i σ H' _ ⟨_, _, _, _, _, _, e, _⟩ => SqL.of (e _ _ hsl2' ksl)) (fun i x σ H' hi => ?_) (fun σ H17 => ?_)⟩
  · rintro ⟨ds, rss, v3', v8, v9, rfl, kp, hdqi, hdl, tr⟩
    obtain ⟨z, rfl⟩ : ∃ z, x = V.int z := by
      obtain ⟨z, _, e⟩ := List.mem_map.mp (List.mem_of_getElem? hi)
      exact ⟨z, e.symm⟩
    have hil : i < 24 := by
      have := (List.getElem?_eq_some_iff.mp hi).1
      rw [List.length_map] at this
      omega
    unfold sp_part sp_step
    walk_at "wp"
    intro at_ H1' sx hat0 hat3
    have trx := tr.same sx
    obtain ⟨p, d, rsk, hpk, hdk, hrk, ⟨⟨a, hSk⟩, usk, hduk, hUk⟩, hSpk, hlk⟩ := trx at_.toNat (by omega)
    obtain ⟨_, dd0, _, _, hdd0, _, ⟨_, ud0, hud0, _⟩, _⟩ := trx 0 (by decide)
    have eat : at_ = ((at_.toNat : Nat) : Int) := by omega
    generalize at_.toNat = k at *
    subst eat
    have hp2 : ([p0, p1, p2].map V.ref)[k]? = some (V.ref p) := by rw [List.getElem?_map, hpk]; rfl
    have hd2 : (ds.map V.ref)[k]? = some (V.ref d) := by rw [List.getElem?_map, hdk]; rfl
    have hsqi := kp _ _ ((s611.trans s1116) _ _ hsq') ksq
    obtain ⟨dxk, vsk, hpk1, _⟩ := id hSk
    refine ⟨_, SqL.of (sx _ _ hsqi), _, atI_nat hp2, _, SqL.of (sx _ _ hdqi), _, atI_nat hd2, p, rfl, a, d, rfl, rsk, hSk, usk, hduk, hUk, hSpk, by omega, fun a' d' us' rs' H2' hS2 hB2 hdd hU2 hSp2 hl2 => ?_⟩
    have hdq2 := lst_bu hpk1 hB2 (sx _ _ hdqi)
    have hud2 := lst_bu hpk1 hB2 hud0
    refine ⟨_, hdq2, k, by unfold ixN; rw [if_pos (by omega), List.length_map, hdl, if_pos (by omega)]; rfl, ?_⟩
    rw [show (ds.map V.ref).set k (V.ref d') = (ds.set k d').map V.ref from (List.map_set ..).symm]
    have hk3 : k < 3 := by omega
    have tr3 : Trs A.C_Stretches (upd H2' dq (.lst ((ds.set k d').map V.ref))) [p0, p1, p2] (ds.set k d') (rss.set k rs') (8 + (i + 1)) := fun j hj => by
      by_cases e : j = k
      · subst e
        exact ⟨p, d', rs', hpk, by rw [List.getElem?_set_self (by omega)], by rw [List.getElem?_set_self (List.getElem?_eq_some_iff.mp hrk).1], TrAt.dq hdq2 hdd0 hud2 ⟨⟨a', hS2⟩, us', hdd, hU2⟩, hSp2, by omega⟩
      · obtain ⟨pj, dj, rsj, h1, h2, h3, h4, h5, h6⟩ := trx j hj
        have hne : pj ≠ p := fun z => e (ddist n10 n20 n21 hj hk3 h1 (z ▸ hpk))
        exact ⟨pj, dj, rsj, h1, by rw [List.getElem?_set_ne (Ne.symm e)]; exact h2, by rw [List.getElem?_set_ne (Ne.symm e)]; exact h3, TrAt.dq hdq2 hdd0 hud2 (TrAt.bu hpk1 hB2 hne h4), h5, by omega⟩
    have hpx : p ∈ [p0, p1, p2, dq] := by
      have := List.mem_of_getElem? hpk
      simp at this ⊢
      rcases this with z | z | z <;> simp [z]
    have kp3 : Kp [p0, p1, p2, dq] H16 (upd H2' dq (.lst ((ds.set k d').map V.ref))) := fun c o hc hx => by
      rw [upd_ne (fun e => hx (by simp [e]))]
      exact hB2 _ _ (sx _ _ (kp c o hc hx)) (fun e => hx (e ▸ hpx))
    exact ⟨sq, dq, [p0, p1, p2], ds.set k d', rss.set k rs', _, rfl, kp3 _ _ ((s611.trans s1116) _ _ hsq') ksq, upd_same, rfl, tr3, fun H4 s4 => ⟨true, rfl, iteF ⟨fun c o hc hx => s4 _ _ (kp3 c o hc hx), ds.set k d', s4 _ _ upd_same, by rw [List.length_set]; exact hdl, rss.set k rs', tr3.same s4⟩⟩⟩
  rintro ⟨ds, rss, v3', v8, v9, rfl, kp, hdqi, hdl, tr⟩
  walk_at "wp"
  rw [List.length_map] at tr
  have hx16 : ∀ c xs, H16 c = some (.tup xs) → c ∉ [p0, p1, p2, dq] := fun c xs h => ka h (fun _ _ _ z => nomatch z) (fun e => by rw [e, hdq16] at h; cases h)
  have heq17 := kp _ _ (g3 _ _ heq') keq
  have he017 := kp _ _ ((g1.trans (g2.trans g3)) _ _ he0') ke0
  have he117 := kp _ _ ((g2.trans g3) _ _ he1') ke1
  have hq17 := kp _ _ ((s111.trans s1116) _ _ hq1) krq
  have hsq17 := kp _ _ ((s611.trans s1116) _ _ hsq') ksq
  have hUq := RunsAt.kp kp hx16 (RunsAt.same hU1 (s111.trans s1116))
  have hUe0' := RunsAt.kp kp hx16 (RunsAt.same hUe0 (g1.trans (g2.trans g3)))
  have hUe1' := RunsAt.kp kp hx16 (RunsAt.same hUe1 (g2.trans g3))
  refine ⟨_, SqL.of heq17, _, rfl, ne_runs he017 hq17 hUe0' hUq ⟨false, rfl, iteF ⟨_, SqL.of heq17, _, rfl, ne_runs he117 hq17 hUe1' hUq ⟨false, rfl, iteF ?_⟩⟩⟩⟩
  refine ⟨⟨_, SqL.of hsq17⟩, loop_list (xs := [p0, p1, p2].map V.ref) (fun i σ H' => ∃ v2 v10, σ = [some (.ref a0), some (.ref rq), v2, v3', some (.ref p1), some (.ref sq), some (.ref dq), some (.ref eq), v8, v9, v10] ∧ Same H17 H') ⟨_, _, rfl, same_refl⟩ (fun i σ H' _ ⟨_, _, _, e⟩ => SqL.of (e _ _ hsq17)) (fun i x σ H' hi => ?_) (fun σ H18 => ?_)⟩
  · rintro ⟨v2, v10, rfl, sx⟩
    have hi3 : i < 3 := by
      have := (List.getElem?_eq_some_iff.mp hi).1
      simpa using this
    obtain ⟨p, d, rsk, hpk, hdk, hrk, ⟨⟨a, hSk⟩, usk, hduk, hUk⟩, hSpk, hlk⟩ := tr.same sx i hi3
    obtain rfl : x = V.ref p := by
      rw [List.getElem?_map, hpk] at hi
      exact (Option.some.inj hi).symm
    obtain ⟨dxk, vsk, hpk1, _⟩ := id hSk
    unfold sp_st_told
    walk_at "wp"
    refine ⟨dxk, _, hpk1, stF_no (by decide +kernel), a, rsk, hSk, fun tl ul htl hUl => ⟨.inl ⟨rfl, _, SqL.of upd_same⟩, ul, rfl, .inl ⟨rfl, _, SqL.of upd_same⟩, fun tp htp => ?_⟩⟩
    have hll := Paired.length hUl
    have y1 := same_upd (o := .lst ul.reverse) (same_refl (H := H')) htl
    have y2 := same_upd (o := .tup [V.int 0, V.int 1, V.int 1, V.non]) (same_refl (H := upd H' tl (.lst ul.reverse))) htp
    exact ⟨ul.reverse, y2 _ _ upd_same, by rw [List.length_reverse]; omega, same_put (sx.trans (y1.trans y2)) (same_none sx htl)⟩
  rintro ⟨v2, v10, rfl, sx⟩
  walk_at "wp"
  exact ⟨sq, dq, [p0, p1, p2], ds, rss, _, rfl, sx _ _ hsq17, sx _ _ hdqi, rfl, tr.same sx, fun H19 _ => q _⟩
end

theorem walk {l : PySem.W.OpenLaw} {q : Program} {loose : List Str} {XP : (Str → Option Value) → Heap → Prop} {YP : World → Heap → Prop} {d : DefRec} {K : Params → PySem.W.Frag} (hn : l.most = some 63) (hdf : d.params.defaults = []) (hdn : d.name = "law")
    (hY : ∀ (w : World) (h : Heap), YP w h → (K w.params).In h)
    (F : ∀ (w : World) (mg : Str → Option Value) (h : Heap), (K w.params).In h → h.Ns mainGlobals mg → ∃ A : Adr, Txt (K w.params) mg A) :
    PySem.W.WalkO q loose XP YP l.row.toRowW d [] (fun f vs => PySem.call f vs) := by
  refine L2.walk_of (n := 63) (k := 9 + 1) (x := "_law_script") (CX := fun w => CXe l.prog w) (sp := fun w => spLaw (K w.params)) hn (by decide) hdf ⟨rfl, by decide, by decide⟩ hY ?_ (fun _ _ a ns hl _ hS => ⟨a, ns, rfl, hS, hl, fun _ => rfl⟩) fun _ _ _ _ _ ⟨_, _, _, _, _, _, _, _, _, _, z⟩ => z
  intro w mg fa h KX G hmg
  rw [hdn] at hmg
  obtain ⟨A, T⟩ := F w mg h KX G
  obtain ⟨f, fd, e, Fn, hb⟩ := T.r_law
  have e0 := hmg.symm.trans e
  cases e0
  exact ⟨fd, hb, fun base _ _ => Fn.okE sc_law (fun vs H Q E z => by obtain ⟨a, ns, rfl, _⟩ := z; rfl) (body_law (P := l.prog) (w := w) (base := base) T)⟩
end Pf
open PySem PySem.W PyProof.Rows
set_option maxRecDepth 100000 in
set_option maxHeartbeats 0 in
theorem PySem.Challenge.cw_frameland_k27_copies_apart_holds : PySem.Challenge.rw_frameland_k27_copies_apart.Holds := by
  w_on; o_law; k_head; (case hw => w_witness2)
  k_fill
  refine Pf.walk (l := PySem.Challenge.rw_frameland_k27_copies_apart) rfl rfl rfl (fun w h Y => PySem.W.kIn_of Y) ?F
  case F =>
    intro w mg h KX G
    refine' Pf.txt_mk KX G ?a_NotMapped ?a_Taken ?a_BadRights ?a_Stretches ?zb_any ?zb_bool ?zb_int ?zb_isinstance ?zb_len ?zb_list ?zb_max ?zb_min ?zb_range ?zb_reversed ?zb_sum ?zc_MOST_RIGHTS ?a_is_whole_ ?l_is_whole_ ?c_is_whole_ ?k_is_whole_ ?a_is_within_ ?l_is_within_ ?c_is_within_ ?k_is_within_ ?a_check_rights_ ?l_check_rights_ ?c_check_rights_ ?k_check_rights_ ?a_end_of_ ?l_end_of_ ?c_end_of_ ?k_end_of_ ?a_tie_from_ ?l_tie_from_ ?c_tie_from_ ?k_tie_from_ ?a_part_of_ ?l_part_of_ ?c_part_of_ ?k_part_of_ ?a_goes_on_ ?l_goes_on_ ?c_goes_on_ ?k_goes_on_ ?a_joined_ ?l_joined_ ?c_joined_ ?k_joined_ ?a_l_part_ ?l_l_part_ ?c_l_part_ ?k_l_part_ ?a_l_number_ ?l_l_number_ ?c_l_number_ ?k_l_number_ ?a_l_rows_ ?l_l_rows_ ?c_l_rows_ ?k_l_rows_ ?a_l_told_all_ ?l_l_told_all_ ?c_l_told_all_ ?k_l_told_all_ ?a_l_step_ ?l_l_step_ ?c_l_step_ ?k_l_step_ ?pg_Stretches ?hd_Stretches ?po_Stretches ?sa_Stretches ?zn_Stretches_runs ?mk_Stretches ?kc_Stretches ?a_Stretches_init_ ?i_Stretches_init_ ?l_Stretches_init_ ?c_Stretches_init_ ?k_Stretches_init_ ?a_Stretches_put_ ?i_Stretches_put_ ?l_Stretches_put_ ?u_Stretches_put_ ?c_Stretches_put_ ?k_Stretches_put_ ?a_Stretches_cut_ ?i_Stretches_cut_ ?l_Stretches_cut_ ?c_Stretches_cut_ ?k_Stretches_cut_ ?a_Stretches_guard_ ?i_Stretches_guard_ ?l_Stretches_guard_ ?c_Stretches_guard_ ?k_Stretches_guard_ ?a_Stretches_check_full_ ?i_Stretches_check_full_ ?l_Stretches_check_full_ ?c_Stretches_check_full_ ?k_Stretches_check_full_ ?a_Stretches_is_free_ ?i_Stretches_is_free_ ?l_Stretches_is_free_ ?c_Stretches_is_free_ ?k_Stretches_is_free_ ?a_Stretches_is_full_ ?i_Stretches_is_full_ ?l_Stretches_is_full_ ?c_Stretches_is_full_ ?k_Stretches_is_full_ ?a_Stretches_is_tied_ ?i_Stretches_is_tied_ ?l_Stretches_is_tied_ ?c_Stretches_is_tied_ ?k_Stretches_is_tied_ ?a_Stretches_told_ ?i_Stretches_told_ ?l_Stretches_told_ ?c_Stretches_told_ ?k_Stretches_told_ ?a_Stretches_copied_ ?i_Stretches_copied_ ?l_Stretches_copied_ ?c_Stretches_copied_ ?k_Stretches_copied_ ?a_Stretches_place_behind_ ?i_Stretches_place_behind_ ?l_Stretches_place_behind_ ?c_Stretches_place_behind_ ?k_Stretches_place_behind_ ?a_Stretches_parts_amid_ ?i_Stretches_parts_amid_ ?l_Stretches_parts_amid_ ?c_Stretches_parts_amid_ ?k_Stretches_parts_amid_ ?a_Stretches_lay_amid_ ?i_Stretches_lay_amid_ ?l_Stretches_lay_amid_ ?c_Stretches_lay_amid_ ?k_Stretches_lay_amid_ ?ze_BadRights ?ze_Taken ?ze_NotMapped ?a_law_ ?l_law_ ?c_law_ ?k_law_
    (case a_NotMapped => k_is); (case a_Taken => k_is); (case a_BadRights => k_is); (case a_Stretches => k_is); (case zb_any => k_is); (case zb_bool => k_is)
    (case zb_int => k_is); (case zb_isinstance => k_is); (case zb_len => k_is); (case zb_list => k_is); (case zb_max => k_is); (case zb_min => k_is)
    (case zb_range => k_is); (case zb_reversed => k_is); (case zb_sum => k_is); (case zc_MOST_RIGHTS => k_is); (case a_is_whole_ => k_is); (case l_is_whole_ => k_is)
    (case c_is_whole_ => k_is); (case k_is_whole_ => k_is); (case a_is_within_ => k_is); (case l_is_within_ => k_is); (case c_is_within_ => k_is); (case k_is_within_ => k_is)
    (case a_check_rights_ => k_is); (case l_check_rights_ => k_is); (case c_check_rights_ => k_is); (case k_check_rights_ => k_is); (case a_end_of_ => k_is); (case l_end_of_ => k_is)
    (case c_end_of_ => k_is); (case k_end_of_ => k_is); (case a_tie_from_ => k_is); (case l_tie_from_ => k_is); (case c_tie_from_ => k_is); (case k_tie_from_ => k_is)
    (case a_part_of_ => k_is); (case l_part_of_ => k_is); (case c_part_of_ => k_is); (case k_part_of_ => k_is); (case a_goes_on_ => k_is); (case l_goes_on_ => k_is)
    (case c_goes_on_ => k_is); (case k_goes_on_ => k_is); (case a_joined_ => k_is); (case l_joined_ => k_is); (case c_joined_ => k_is); (case k_joined_ => k_is)
    (case a_l_part_ => k_is); (case l_l_part_ => k_is); (case c_l_part_ => k_is); (case k_l_part_ => k_is); (case a_l_number_ => k_is); (case l_l_number_ => k_is)
    (case c_l_number_ => k_is); (case k_l_number_ => k_is); (case a_l_rows_ => k_is); (case l_l_rows_ => k_is); (case c_l_rows_ => k_is); (case k_l_rows_ => k_is)
    (case a_l_told_all_ => k_is); (case l_l_told_all_ => k_is); (case c_l_told_all_ => k_is); (case k_l_told_all_ => k_is); (case a_l_step_ => k_is); (case l_l_step_ => k_is)
    (case c_l_step_ => k_is); (case k_l_step_ => k_is); (case pg_Stretches => k_is); (case hd_Stretches => k_is); (case po_Stretches => k_is); (case sa_Stretches => k_is)
    (case zn_Stretches_runs => k_is); (case mk_Stretches => k_is); (case kc_Stretches => k_is); (case a_Stretches_init_ => k_is); (case i_Stretches_init_ => k_is); (case l_Stretches_init_ => k_is)
    (case c_Stretches_init_ => k_is); (case k_Stretches_init_ => k_is); (case a_Stretches_put_ => k_is); (case i_Stretches_put_ => k_is); (case l_Stretches_put_ => k_is); (case u_Stretches_put_ => k_is)
    (case c_Stretches_put_ => k_is); (case k_Stretches_put_ => k_is); (case a_Stretches_cut_ => k_is); (case i_Stretches_cut_ => k_is); (case l_Stretches_cut_ => k_is); (case c_Stretches_cut_ => k_is)
    (case k_Stretches_cut_ => k_is); (case a_Stretches_guard_ => k_is); (case i_Stretches_guard_ => k_is); (case l_Stretches_guard_ => k_is); (case c_Stretches_guard_ => k_is); (case k_Stretches_guard_ => k_is)
    (case a_Stretches_check_full_ => k_is); (case i_Stretches_check_full_ => k_is); (case l_Stretches_check_full_ => k_is); (case c_Stretches_check_full_ => k_is); (case k_Stretches_check_full_ => k_is); (case a_Stretches_is_free_ => k_is)
    (case i_Stretches_is_free_ => k_is); (case l_Stretches_is_free_ => k_is); (case c_Stretches_is_free_ => k_is); (case k_Stretches_is_free_ => k_is); (case a_Stretches_is_full_ => k_is); (case i_Stretches_is_full_ => k_is)
    (case l_Stretches_is_full_ => k_is); (case c_Stretches_is_full_ => k_is); (case k_Stretches_is_full_ => k_is); (case a_Stretches_is_tied_ => k_is); (case i_Stretches_is_tied_ => k_is); (case l_Stretches_is_tied_ => k_is)
    (case c_Stretches_is_tied_ => k_is); (case k_Stretches_is_tied_ => k_is); (case a_Stretches_told_ => k_is); (case i_Stretches_told_ => k_is); (case l_Stretches_told_ => k_is); (case c_Stretches_told_ => k_is)
    (case k_Stretches_told_ => k_is); (case a_Stretches_copied_ => k_is); (case i_Stretches_copied_ => k_is); (case l_Stretches_copied_ => k_is); (case c_Stretches_copied_ => k_is); (case k_Stretches_copied_ => k_is)
    (case a_Stretches_place_behind_ => k_is); (case i_Stretches_place_behind_ => k_is); (case l_Stretches_place_behind_ => k_is); (case c_Stretches_place_behind_ => k_is); (case k_Stretches_place_behind_ => k_is); (case a_Stretches_parts_amid_ => k_is)
    (case i_Stretches_parts_amid_ => k_is); (case l_Stretches_parts_amid_ => k_is); (case c_Stretches_parts_amid_ => k_is); (case k_Stretches_parts_amid_ => k_is); (case a_Stretches_lay_amid_ => k_is); (case i_Stretches_lay_amid_ => k_is)
    (case l_Stretches_lay_amid_ => k_is); (case c_Stretches_lay_amid_ => k_is); (case k_Stretches_lay_amid_ => k_is); (case ze_BadRights => k_exc); (case ze_Taken => k_exc); (case ze_NotMapped => k_exc)
    (case a_law_ => k_is); (case l_law_ => k_is); (case c_law_ => k_is); (case k_law_ => k_is)
