import PyProof.Rows.All
import Wide.All
import OpenK.AllK
import Wide.FinOn
import Lean
import PyProof.EqAt
import PyProof.EqKinds
import PyProof.TupleCall
import PyProof.NeKinds
import PyProof.EnumMake
import PyProof.EnumStmt
import PyProof.LayNew
import KE.KDictLaws
import KE.KDictSum
import KE.LcSums
import PyProof.Rows.SumAny
import PyProof.Rows.SortWalk
import PyProof.DictWalks
import PySem.Challenge.RW_frameland_k37_plain_book
set_option Elab.async false
set_option linter.all false
set_option maxRecDepth 100000
namespace L2
open PySem PySem.Spec PyProof.Rows
/-- a key: an int or a str -/
abbrev Key := Sum Int Str
def keyIs : Key → Value → Bool
  | .inl k, v => Value.isInt k v
  | .inr x, v => Value.isStrOf x v
def keyH (w : World) : Key → Int
  | .inl k => hashInt k
  | .inr x => hashStr w x
theorem keyIs_shape : ∀ {k : Key} {v : Value}, keyIs k v = true → (∃ i t, k = Sum.inl i ∧ v = Value.int i t) ∨ (∃ x t, k = Sum.inr x ∧ v = Value.str x t)
  | .inl i, v, h => by
    obtain ⟨t, e⟩ := Value.isInt_shape (k := i) (v := v) h
    exact .inl ⟨i, t, rfl, e⟩
  | .inr x, v, h => by
    obtain ⟨t, e⟩ := Value.isStrOf_shape (x := x) (v := v) h
    exact .inr ⟨x, t, rfl, e⟩
theorem keyIs_int (i : Int) (t : Tok) : keyIs (.inl i) (.int i t) = true := by simp [keyIs, Value.isInt]
theorem keyIs_str (x : Str) (t : Tok) : keyIs (.inr x) (.str x t) = true := by simp [keyIs, Value.isStrOf]
theorem key_ll (a b : Int) : decide ((Sum.inl a : Key) = Sum.inl b) = (a == b) := by
  by_cases e : a = b
  · subst e; simp
  · have h : ¬ (Sum.inl a : Key) = Sum.inl b := fun q => e (Sum.inl.inj q)
    rw [decide_eq_false h]
    exact (beq_eq_false_iff_ne.mpr e).symm
theorem key_rr (a b : Str) : decide ((Sum.inr a : Key) = Sum.inr b) = decide (a = b) := by
  by_cases e : a = b
  · subst e; simp
  · have h : ¬ (Sum.inr a : Key) = Sum.inr b := fun q => e (Sum.inr.inj q)
    rw [decide_eq_false h, decide_eq_false e]
theorem key_lr (a : Int) (b : Str) : decide ((Sum.inl a : Key) = Sum.inr b) = false := decide_eq_false (fun q => nomatch q)
theorem key_rl (a : Str) (b : Int) : decide ((Sum.inr a : Key) = Sum.inl b) = false := decide_eq_false (fun q => nomatch q)
def mixKind (prog : Program) (w : World) : PySem.KeyKind prog w Key where
  is := keyIs
  hash := keyH w
  inj := fun v a b ha hb => by
    rcases keyIs_shape ha with ⟨i, t, rfl, rfl⟩ | ⟨x, t, rfl, rfl⟩
    · rcases keyIs_shape hb with ⟨j, u, rfl, e⟩ | ⟨y, u, rfl, e⟩
      · injection e with e1 _; rw [e1]
      · exact nomatch e
    · rcases keyIs_shape hb with ⟨j, u, rfl, e⟩ | ⟨y, u, rfl, e⟩
      · exact nomatch e
      · injection e with e1 _; rw [e1]
  byValue := fun k v h => by
    rcases keyIs_shape h with ⟨i, t, rfl, rfl⟩ | ⟨x, t, rfl, rfl⟩ <;> rfl
  pyHash := fun hv h => by
    rcases keyIs_shape hv with ⟨i, t, rfl, rfl⟩ | ⟨x, t, rfl, rfl⟩
    · exact wpAny_pyHash_int h
    · exact wpAny_pyHash_str h
  eqBool := fun hu hv h => by
    rcases keyIs_shape hu with ⟨i, t, rfl, rfl⟩ | ⟨x, t, rfl, rfl⟩
    · rcases keyIs_shape hv with ⟨j, u, rfl, rfl⟩ | ⟨y, u, rfl, rfl⟩
      · rw [key_ll] at h; exact wpAny_eqBool_int h
      · rw [key_lr] at h; exact SeqAt.EqAt.int_str i t y u _ _ _ _ h
    · rcases keyIs_shape hv with ⟨j, u, rfl, rfl⟩ | ⟨y, u, rfl, rfl⟩
      · rw [key_rl] at h; exact SeqAt.EqAt.str_int x t j u _ _ _ _ h
      · rw [key_rr] at h; exact wpAny_eqBool_str h
  «strs» := fun k x t v h => by
    rcases keyIs_shape h with ⟨i, u, rfl, e⟩ | ⟨y, u, rfl, e⟩
    · exact nomatch e
    · injection e with e1 _
      subst e1
      cases v <;> rfl
theorem mixKind_int (prog : Program) (w : World) (i : Int) (t : Tok) : (mixKind prog w).is (.inl i) (.int i t) = true := keyIs_int i t
theorem mixKind_str (prog : Program) (w : World) (x : Str) (t : Tok) : (mixKind prog w).is (.inr x) (.str x t) = true := keyIs_str x t
end L2
namespace L2
open PySem PySem.Spec PyProof.Rows
/-- a value, without the heap -/
inductive V where
  | non | bl (b : Bool) | int (i : Int) | str (x : Str) | byt (b : Array UInt8) | flt (b : UInt64) | ref (a : Addr) | ty (n : String)
  deriving DecidableEq
def RelV : V → Value → Prop
  | .non, u => u = Value.none
  | .bl b, u => u = Value.bool b
  | .int i, u => ∃ t, u = Value.int i t
  | .str x, u => ∃ t, u = Value.str x t
  | .byt b, u => ∃ t, u = Value.bytes b t
  | .flt b, u => ∃ t, u = Value.float b t
  | .ref a, u => u = Value.ref a
  | .ty n, u => u = Value.type n
abbrev Vals : List V → List Value → Prop := Paired RelV
theorem Vals.length {xs : List V} {us : List Value} (r : Vals xs us) : xs.length = us.length := Paired.length r
theorem Vals.get : ∀ {xs : List V} {us : List Value} {i : Nat} {x : V}, Vals xs us → xs[i]? = some x → ∃ u, us[i]? = some u ∧ RelV x u
  | _, _, _, _, .nil, e => by simp at e
  | _, _, 0, _, .cons r _, e => by simp at e; subst e; exact ⟨_, rfl, r⟩
  | _, _, i + 1, x, .cons _ t, e => by
    obtain ⟨u, h1, h2⟩ := Vals.get (i := i) (x := x) t (by simpa using e)
    exact ⟨u, by simpa using h1, h2⟩
theorem Vals.set {x : V} {u : Value} (r : RelV x u) : ∀ {xs : List V} {us : List Value} (i : Nat), Vals xs us → Vals (xs.set i x) (us.set i u)
  | _, _, _, .nil => .nil
  | _, _, 0, .cons _ t => .cons r t
  | _, _, i + 1, .cons q t => .cons q (Vals.set r i t)
theorem Vals.append : ∀ {xs ys : List V} {us ws : List Value}, Vals xs us → Vals ys ws → Vals (xs ++ ys) (us ++ ws)
  | _, _, _, _, .nil, s => s
  | _, _, _, _, .cons r t, s => .cons r (Vals.append t s)
theorem Vals.take : ∀ {xs : List V} {us : List Value} (n : Nat), Vals xs us → Vals (xs.take n) (us.take n)
  | _, _, 0, _ => .nil
  | _, _, _ + 1, .nil => .nil
  | _, _, n + 1, .cons r t => .cons r (Vals.take n t)
theorem Vals.drop : ∀ {xs : List V} {us : List Value} (n : Nat), Vals xs us → Vals (xs.drop n) (us.drop n)
  | _, _, 0, r => r
  | _, _, _ + 1, .nil => .nil
  | _, _, n + 1, .cons _ t => Vals.drop n t
def RelO : Option V → Option Value → Prop
  | some v, some u => RelV v u
  | none, none => True
  | _, _ => False
def KV {κ : Type} : List (κ × V) → List (κ × Value) → Prop := Paired fun (p : κ × V) (q : κ × Value) => p.1 = q.1 ∧ RelV p.2 q.2
/-- a key of a dict (00_mix): an int or a text -/
def kV : Key → V
  | .inl i => .int i
  | .inr x => .str x
/-- what stands at a tracked address -/
inductive HO where
  /-- a list -/
  | lst (xs : List V)
  /-- a tuple (never changes) -/
  | tup (xs : List V)
  /-- a dict whose keys are ints and texts; one whose keys are tuples of ints and texts (the empty one is both) -/
  | dK (kvs : List (Key × V)) | dT (kvs : List (List Key × V))
  /-- a set of ints: its members, its size -/
  | set (S : Int → Bool) (n : Nat)
  /-- an instance of the class at C, its dict at dx, its attributes -/
  | ins (C dx : Addr) (fs : List (Str × V))
  /-- the dict of the instance at x -/
  | own (x : Addr)
  /-- the dict of an exception -/
  | xd (fs : List (Str × V))
  /-- a bound method, f of x -/
  | met (f x : Addr)
  /-- a range object lo, lo + 1, .. below hi -/
  | rng (lo hi : Int)
  /-- a thing that is known to the object (the script; a dict while a loop walks it): read, never written while it is so -/
  | frz (o : Obj) (u : HO)
  /-- a code object's table -/
  | tbl (ps : Array Value)
  /-- any other thing, by what is true of its one object (a def of one's own: SetO a S n := HO.ext fun h => ..) -/
  | ext (φ : Heap → Prop)
abbrev Hp := Addr → Option HO
def upd (H : Hp) (a : Addr) (o : HO) : Hp := fun b => if b = a then some o else H b
theorem upd_same {H : Hp} {a : Addr} {o : HO} : upd H a o a = some o := by unfold upd; rw [if_pos rfl]
theorem upd_ne {H : Hp} {a b : Addr} {o : HO} (h : b ≠ a) : upd H a o b = H b := by unfold upd; rw [if_neg h]
theorem upd_upd {H : Hp} {a : Addr} {o u : HO} : upd (upd H a o) a u = upd H a u := by
  funext b; unfold upd; split <;> rfl
/-- two objects of different content stand apart -/
theorem ne_of {H : Hp} {a b : Addr} {o u : HO} (h : H a = some o) (h' : H b = some u) (d : o ≠ u) : a ≠ b := by
  intro e; subst e; rw [h] at h'; exact d (Option.some.inj h')
theorem ne_of_none {H : Hp} {a b : Addr} {o : HO} (h : H a = some o) (h' : H b = none) : a ≠ b := by
  intro e; subst e; rw [h] at h'; cases h'
section
variable (P : Program) (w : World)
def ObjOk (H : Hp) (h : Heap) (a : Addr) : HO → Prop
  | .lst xs => xs.length ≤ sizeLine ∧ ∃ (its : List Value) (n : Nat), Vals xs its ∧ h.get? a = some { cls := .type "list", data := .seq its.toArray n }
  | .tup xs => xs.length ≤ sizeLine ∧ ∃ its : List Value, Vals xs its ∧ IsTup h a its.toArray
  | .dK kvs => kvs.length ≤ sizeLine ∧ (a == sysModules) = false ∧ ∃ vs, KV kvs vs ∧ h.DictOf (mixKind P w) a vs
  | .dT kvs => kvs.length ≤ sizeLine ∧ (a == sysModules) = false ∧ ∃ xs : List (List Key × Addr × Value),
      Paired (fun (p : List Key × V) (q : List Key × Addr × Value) => p.1 = q.1 ∧ H q.2.1 = some (.tup (p.1.map kV)) ∧ RelV p.2 q.2.2) kvs xs ∧
      ∃ o es ep, h.get? a = some o ∧ o.ExactDict ∧ o.data = .dict es ep ∧ es.toList = xs.map (entryOfKey (tupleKind (mixKind P w))) ∧ (xs.map (·.1)).Nodup
  | .set S n => h.SetOf (intKind P w) a S n
  | .ins C dx fs => H dx = some (.own a) ∧ fs.length ≤ 1000 ∧ dx ≠ a ∧ h.get? a = some (PySem.W.instObj C dx) ∧
      ∃ mA, h.Ns1 dx mA ∧ (∀ f, RelO (fs.lookup f) (mA f)) ∧ PySem.Within mA (fs.map (·.1))
  | .own _ => ∃ o, h.get? a = some o
  | .xd fs => ∃ mA, h.Ns1 a mA ∧ ∀ f, RelO (fs.lookup f) (mA f)
  | .rng lo hi => ∃ t u v, h.get? a = some { cls := .type "range", data := .fields #[.int lo t, .int hi u, .int 1 v] }
  | .frz o u => h.get? a = some o ∧ ObjOk H h a u
  | .tbl ps => h.get? a = some { cls := .none, data := .fields ps }
  | .met f x => h.get? a = some (PySem.W.methodObj (.ref f) (.ref x))
  | .ext φ => φ h ∧ (∃ o, h.get? a = some o) ∧ ∀ h1 h2 : Heap, φ h1 → (∀ o, h1.get? a = some o → h2.get? a = some o) → φ h2
/-- the abstract heap is held -/
def HOk (H : Hp) (h : Heap) : Prop := ∀ a o, H a = some o → ObjOk P w H h a o
end
section
variable {P : Program} {w : World} {H H' : Hp} {h h' : Heap} {a : Addr} {o : HO}
theorem ObjOk.lt (x : ObjOk P w H h a o) : a < h.objs.size := by
  cases o with
  | lst xs => obtain ⟨_, _, _, _, e⟩ := x; exact Heap.lt_size e
  | tup xs => obtain ⟨_, _, _, p⟩ := x; exact p.lt
  | dK kvs => obtain ⟨_, _, _, _, o, _, _, e, _⟩ := x; exact Heap.lt_size e
  | dT kvs => obtain ⟨_, _, _, _, o, _, _, e, _⟩ := x; exact Heap.lt_size e
  | set S n => obtain ⟨o, _, _, _, e, _⟩ := x; exact Heap.lt_size e
  | ins C dx fs => obtain ⟨_, _, _, e, _⟩ := x; exact Heap.lt_size e
  | own y => obtain ⟨_, e⟩ := x; exact Heap.lt_size e
  | xd fs => obtain ⟨_, ⟨_, _, _, e, _⟩, _⟩ := x; exact Heap.lt_size e
  | rng lo hi => obtain ⟨_, _, _, e⟩ := x; exact Heap.lt_size e
  | frz ob u => obtain ⟨e, _⟩ := x; exact Heap.lt_size e
  | tbl ps => exact Heap.lt_size (show h.get? a = some _ from x)
  | met f y => exact Heap.lt_size (show h.get? a = some _ from x)
  | ext φ => obtain ⟨_, ⟨_, e⟩, _⟩ := x; exact Heap.lt_size e
theorem Paired.mapP {α β : Type} {F G : α → β → Prop} : ∀ {l₁ : List α} {l₂ : List β}, Paired F l₁ l₂ → (∀ a b, F a b → G a b) → Paired G l₁ l₂
  | _, _, .nil, _ => .nil
  | _, _, .cons r t, f => .cons (f _ _ r) (Paired.mapP t f)
/-- what an object's description leans on: its own object, its own dict, the tuples -/
theorem ObjOk.stay (x : ObjOk P w H h a o) (k : ∀ b u, (b = a ∨ H b = some (.own a)) → h.get? b = some u → h'.get? b = some u)
    (ho : ∀ b, H b = some (.own a) → H' b = some (.own a)) (ht : ∀ b xs, H b = some (.tup xs) → H' b = some (.tup xs)) : ObjOk P w H' h' a o := by
  induction o with
  | lst xs => obtain ⟨z, its, n, r, e⟩ := x; exact ⟨z, its, n, r, k _ _ (.inl rfl) e⟩
  | tup xs => obtain ⟨z, its, r, ob, e, c⟩ := x; exact ⟨z, its, r, ob, k _ _ (.inl rfl) e, c⟩
  | dK kvs => obtain ⟨z, y, vs, r, ob, es, ep, e, c⟩ := x; exact ⟨z, y, vs, r, ob, es, ep, k _ _ (.inl rfl) e, c⟩
  | dT kvs =>
    obtain ⟨z, y, xs, r, ob, es, ep, e, c⟩ := x
    exact ⟨z, y, xs, Paired.mapP r fun p q z => ⟨z.1, ht _ _ z.2.1, z.2.2⟩, ob, es, ep, k _ _ (.inl rfl) e, c⟩
  | set S n => obtain ⟨ob, es, ep, t, e, c⟩ := x; exact ⟨ob, es, ep, t, k _ _ (.inl rfl) e, c⟩
  | ins C dx fs =>
    obtain ⟨d, z, ne, e, mA, ⟨od, es, ep, e2, c⟩, r⟩ := x
    exact ⟨ho _ d, z, ne, k _ _ (.inl rfl) e, mA, ⟨od, es, ep, k _ _ (.inr d) e2, c⟩, r⟩
  | own y => obtain ⟨ob, e⟩ := x; exact ⟨ob, k _ _ (.inl rfl) e⟩
  | xd fs => obtain ⟨mA, ⟨od, es, ep, e, c⟩, r⟩ := x; exact ⟨mA, ⟨od, es, ep, k _ _ (.inl rfl) e, c⟩, r⟩
  | rng lo hi => obtain ⟨t, u, v, e⟩ := x; exact ⟨t, u, v, k _ _ (.inl rfl) e⟩
  | frz ob u ih => obtain ⟨e, q⟩ := x; exact ⟨k _ _ (.inl rfl) e, ih q⟩
  | tbl ps =>
    have e : h.get? a = some { cls := .none, data := .fields ps } := x
    show h'.get? a = some { cls := .none, data := .fields ps }
    exact k a _ (.inl rfl) e
  | met f y =>
    have e : h.get? a = some (PySem.W.methodObj (.ref f) (.ref y)) := x
    show h'.get? a = some (PySem.W.methodObj (.ref f) (.ref y))
    exact k a _ (.inl rfl) e
  | ext φ => obtain ⟨p, ⟨o, e⟩, st⟩ := x; exact ⟨st _ _ p fun o q => k _ _ (.inl rfl) q, ⟨o, k _ _ (.inl rfl) e⟩, st⟩
theorem HOk.lt (x : HOk P w H h) (e : H a = some o) : a < h.objs.size := (x a o e).lt
theorem HOk.fresh (x : HOk P w H h) (e : h.objs.size ≤ a) : H a = none := by
  cases q : H a with
  | none => rfl
  | some u => exact absurd (Nat.lt_of_lt_of_le (x.lt q) e) (Nat.lt_irrefl _)
/-- every object of the heap is kept -/
theorem HOk.kept (x : HOk P w H h) (k : ∀ b u, h.get? b = some u → h'.get? b = some u) : HOk P w H h' := fun a o e =>
  (x a o e).stay (fun b u _ q => k b u q) (fun _ q => q) fun _ _ q => q
/-- a new object is laid and tracked -/
theorem HOk.laid (x : HOk P w H h) (k : ∀ b u, h.get? b = some u → h'.get? b = some u) (hp : h.objs.size ≤ a) (new : ObjOk P w (upd H a o) h' a o) : HOk P w (upd H a o) h' := fun b u e => by
  have hn := x.fresh hp
  by_cases hb : b = a
  · subst hb; rw [upd_same] at e; cases e; exact new
  · rw [upd_ne hb] at e
    exact (x b u e).stay (fun c v _ q => k c v q) (fun c q => by rw [upd_ne (ne_of_none q hn)]; exact q) fun c xs q => by rw [upd_ne (ne_of_none q hn)]; exact q
end
/-- what may be read as u: it is u, or a known u -/
def Rd (H : Hp) (a : Addr) (u : HO) : Prop := H a = some u ∨ ∃ o, H a = some (.frz o u)
theorem Rd.of {H : Hp} {a : Addr} {u : HO} (h : H a = some u) : Rd H a u := .inl h
theorem Rd.ok {P : Program} {w : World} {H : Hp} {h : Heap} {a : Addr} {u : HO} (r : Rd H a u) (x : HOk P w H h) : ObjOk P w H h a u := by
  rcases r with r | ⟨o, r⟩
  · exact x a u r
  · obtain ⟨_, q⟩ := x a _ r
    exact q
/-- what may be written -/
def Mut : Option HO → Prop
  | some (.lst _) => True
  | some (.dK _) => True
  | some (.dT _) => True
  | some (.set _ _) => True
  | some (.ins _ _ _) => True
  | some (.ext _) => True
  | _ => False
section
variable {P : Program} {w : World} {H : Hp} {h h' : Heap} {x e : Addr} {o' : HO}
/-- the object at e is changed: x itself, or the dict of the instance x -/
theorem HOk.write (ok : HOk P w H h) (mu : Mut (H x)) (he : e = x ∨ H e = some (.own x)) (k : ∀ b u, b ≠ e → h.get? b = some u → h'.get? b = some u) (heo : ∃ u, h'.get? e = some u)
    (new : ObjOk P w (upd H x o') h' x o') : HOk P w (upd H x o') h' := fun b u q => by
  have nown : ∀ c y, H c = some (.own y) → c ≠ x := fun c y r z => by subst z; rw [r] at mu; exact mu
  have ntup : ∀ c xs, H c = some (.tup xs) → c ≠ x := fun c xs r z => by subst z; rw [r] at mu; exact mu
  by_cases hb : b = x
  · subst hb; rw [upd_same] at q; cases q; exact new
  · rw [upd_ne hb] at q
    by_cases hbe : b = e
    · have q' : H b = some (.own x) := by
        rcases he with z | z
        · exact absurd (hbe.trans z) hb
        · rw [hbe]; exact z
      rw [q] at q'; cases q'
      obtain ⟨v, hv⟩ := heo
      exact ⟨v, by rw [hbe]; exact hv⟩
    · refine (ok b u q).stay (fun c v hc r => k c v ?_ r) (fun c r => by rw [upd_ne (nown c b r)]; exact r) fun c xs r => by rw [upd_ne (ntup c xs r)]; exact r
      rcases hc with rfl | hc
      · exact hbe
      · rintro rfl
        rcases he with z | z
        · exact nown c b hc z
        · rw [hc] at z; cases z; exact hb rfl
end
/-! ### kept unless tracked; of the frames at fs (the callers') the slots may change (an exception that passes writes there); of the records at ex (iterators) nothing is said -/
structure Un (fs ex : List Addr) (H H' : Hp) (h h' : Heap) : Prop where
  keep : ∀ b o, h.get? b = some o → H b = none → b ∉ fs → b ∉ ex → h'.get? b = some o
  slot : ∀ b o, h.get? b = some o → H b = none → b ∈ fs → b ∉ ex → ∃ sl, h'.get? b = some { o with slots := sl }
  free : ∀ b o, h.get? b = some o → H b = none → b ∉ ex → H' b = none
  there : ∀ b o, h.get? b = some o → b ∉ ex → ∃ o', h'.get? b = some o'
  tups : ∀ b xs, H b = some (.tup xs) → H' b = some (.tup xs)
  frzs : ∀ b o u, H b = some (.frz o u) → H' b = some (.frz o u)
  tbls : ∀ b ps, H b = some (.tbl ps) → ∃ more, H' b = some (.tbl (ps ++ more))
section
variable {fs fs' ex ex' : List Addr} {H H1 H2 : Hp} {h h1 h2 h' : Heap} {a x e : Addr} {o : HO}
theorem Un.any (u : Un fs ex H H1 h h1) {b : Addr} {ob : Obj} (q : h.get? b = some ob) (n : H b = none) (hx : b ∉ ex) : ∃ sl, h1.get? b = some { ob with slots := sl } := by
  by_cases hb : b ∈ fs
  · exact u.slot b ob q n hb hx
  · exact ⟨ob.slots, u.keep b ob q n hb hx⟩
theorem Un.trans (a : Un fs ex H H1 h h1) (b : Un fs ex H1 H2 h1 h2) : Un fs ex H H2 h h2 where
  keep := fun c ob q n hc hx => b.keep c ob (a.keep c ob q n hc hx) (a.free c ob q n hx) hc hx
  slot := fun c ob q n hc hx => by
    obtain ⟨sl, e1⟩ := a.slot c ob q n hc hx
    obtain ⟨sl', e2⟩ := b.slot c _ e1 (a.free c ob q n hx) hc hx
    exact ⟨sl', e2⟩
  free := fun c ob q n hx => by
    obtain ⟨o', e1⟩ := a.there c ob q hx
    exact b.free c o' e1 (a.free c ob q n hx) hx
  there := fun c ob q hx => by
    obtain ⟨o', e1⟩ := a.there c ob q hx
    exact b.there c o' e1 hx
  tups := fun c xs q => b.tups c xs (a.tups c xs q)
  frzs := fun c ob xs q => b.frzs c ob xs (a.frzs c ob xs q)
  tbls := fun c ps q => by
    obtain ⟨m1, e1⟩ := a.tbls c ps q
    obtain ⟨m2, e2⟩ := b.tbls c _ e1
    exact ⟨m1 ++ m2, by rw [e2, Array.append_assoc]⟩
theorem Un.kept (k : ∀ b u, h.get? b = some u → h'.get? b = some u) : Un fs ex H H h h' :=
  ⟨fun b ob q _ _ _ => k b ob q, fun b ob q _ _ _ => ⟨ob.slots, k b ob q⟩, fun _ _ _ n _ => n, fun b ob q _ => ⟨ob, k b ob q⟩, fun _ _ q => q, fun _ _ _ q => q, fun _ ps q => ⟨#[], by rw [q]; simp⟩⟩
theorem Un.refl : Un fs ex H H h h := Un.kept fun _ _ q => q
theorem Un.laid (k : ∀ b u, h.get? b = some u → h'.get? b = some u) (hp : h.objs.size ≤ a) (hn : H a = none) : Un fs ex H (upd H a o) h h' where
  keep := fun b u q _ _ _ => k b u q
  slot := fun b u q _ _ _ => ⟨u.slots, k b u q⟩
  free := fun b u q n _ => by rw [upd_ne (Nat.ne_of_lt (Nat.lt_of_lt_of_le (Heap.lt_size q) hp))]; exact n
  there := fun b u q _ => ⟨u, k b u q⟩
  tups := fun b xs q => by rw [upd_ne (ne_of_none q hn)]; exact q
  frzs := fun b u xs q => by rw [upd_ne (ne_of_none q hn)]; exact q
  tbls := fun b ps q => ⟨#[], by rw [upd_ne (ne_of_none q hn), q]; simp⟩
theorem Un.write (mu : Mut (H x)) (he : e = x ∨ H e = some (.own x)) (k : ∀ b u, b ≠ e → h.get? b = some u → h'.get? b = some u) (heo : ∃ u, h'.get? e = some u) : Un fs ex H (upd H x o) h h' := by
  have hx : ∀ b, H b = none → b ≠ x := fun b n z => by subst z; rw [n] at mu; exact mu
  have hb : ∀ b, H b = none → b ≠ e := fun b n z => by
    subst z
    rcases he with r | r
    · exact hx b n r
    · rw [n] at r; cases r
  have hm : ∀ b u, H b = some u → ¬ Mut (some u) → b ≠ x := fun b u q nm z => by subst z; rw [q] at mu; exact nm mu
  refine ⟨fun b u q n _ _ => k b u (hb b n) q, fun b u q n _ _ => ⟨u.slots, k b u (hb b n) q⟩, fun b u q n _ => by rw [upd_ne (hx b n)]; exact n, fun b u q _ => ?_,
    fun b xs q => by rw [upd_ne (hm b _ q fun z => z)]; exact q, fun b u xs q => by rw [upd_ne (hm b _ q fun z => z)]; exact q, fun b ps q => ⟨#[], by rw [upd_ne (hm b _ q fun z => z), q]; simp⟩⟩
  by_cases hbe : b = e
  · subst hbe; exact heo
  · exact ⟨u, k b u hbe q⟩
end
/-! ### the heap without what is tracked -/
def trk (h : Heap) (H : Hp) : List Addr := (List.range h.objs.size).filter fun a => (H a).isSome
def hidT (h : Heap) (H : Hp) : Heap := PySem.W.hideAll h (trk h H)
theorem hidT_size (h : Heap) (H : Hp) : (hidT h H).objs.size = h.objs.size := PySem.W.hideAll_size _ _
theorem hidT_get {h : Heap} {H : Hp} {b : Addr} {o : Obj} (e : h.get? b = some o) (n : H b = none) : (hidT h H).get? b = some o :=
  PySem.W.hideAll_get _ e fun hm => by
    have q : (H b).isSome = true := (List.mem_filter.mp hm).2
    rw [n] at q; simp at q
theorem of_hidT {h : Heap} {H : Hp} {b : Addr} {o : Obj} (e : (hidT h H).get? b = some o) : h.get? b = some o ∧ H b = none := by
  have e' : h.get? b = some o := PySem.W.of_hideAll (trk h H) e
  refine ⟨e', ?_⟩
  cases q : H b with
  | none => rfl
  | some x =>
    have hm : b ∈ trk h H := List.mem_filter.mpr ⟨List.mem_range.mpr (Heap.lt_size e'), by simp [q]⟩
    have z : (hidT h H).get? b = none := PySem.W.hideAll_none (trk h H) hm
    rw [z] at e; cases e
/-! ### OpenK's ledger, filled with every new object but one -/
def allNews (g h : Heap) (L : Addr) : List (Addr × Obj) := (List.range h.objs.size).filterMap fun a => if a = L ∨ (g.get? a).isSome = true then none else (h.get? a).map fun o => (a, o)
def rest (g h : Heap) (L d : Addr) : List (Addr × Obj) := (allNews g h L).filter fun p => decide (p.1 ≠ d)
end L2
namespace L2
open PySem PySem.Spec PyProof.Rows
/-- the module's facts, over the base: the heap at the law's entry without what is tracked there -/
structure Mod (K : PySem.W.Frag) (mg : Str → Option Value) (base : Heap) : Prop where
  kin : K.In base
  glob : base.Ns mainGlobals mg
  blt : ∃ mb, base.Ns builtinsNs mb ∧ ∀ x : Str, x ≠ "__name__" → mb x = bootBuiltins x
  nolimit : base.NoLimit
/-- the context: a def's body (or a comprehension's block) running. base: fixed through the whole law; s₀, H₀: the entry; outer: the frames whose slots others may change (a def's callers); stack: all frames that run;
   ex: iterators that were made ahead of the entry and are walked here (a comprehension's); fn: the names whose cells were made at the entry (a def: all; a comprehension's block: its own); calm: not within an except suite; pn: pins that every state bears; xe: what is wanted of an exception that leaves the code -/
structure Cx where
  prog : Program
  w : World
  K : PySem.W.Frag
  mg : Str → Option Value
  base : Heap
  A : Around
  N : List Str
  s₀ : Shared
  H₀ : Hp
  env : Env
  outer : List Env
  stack : List Env
  ex : List Addr
  fn : Str → Bool
  calm : Bool
  pn : List (Addr × Obj)
  xe : Value → Shared → Prop
/-- the callers' frames -/
def frs (l : List Env) : List Addr := l.filterMap (·.frame)
abbrev Cx.fs (X : Cx) : List Addr := frs X.outer
def Vis (sc : Scope) (x : Str) : Prop := sc.names.lookup x = some .local ∨ sc.names.lookup x = some .cell ∨ sc.names.lookup x = some .free
def Loc (sc : Scope) (x : Str) : Prop := sc.names.lookup x = some .local ∨ sc.names.lookup x = some .cell
def Look (env : Env) (h : Heap) (m : Str → Option Value) (x : Str) (u : Value) : Prop :=
  (env.kindOf x = some .local ∧ m x = some u) ∨ ((env.kindOf x = some .cell ∨ env.kindOf x = some .free) ∧ ∃ c, env.cells.lookup x = some c ∧ h.IsCell c (some u))
structure Cx.Ok (X : Cx) : Prop where
  mod : Mod X.K X.mg X.base
  kind : X.env.scope.kind = .function
  glob : X.env.globals = mainGlobals
  blt : X.env.builtins = builtinsNs
  above : X.s₀.heap.objs.size ≤ X.env.locals
  inj : ∀ x y c, X.env.cells.lookup x = some c → X.env.cells.lookup y = some c → x = y
  has : ∀ x, (X.env.kindOf x = some .cell ∨ X.env.kindOf x = some .free) → ∃ c, X.env.cells.lookup x = some c
  cab : ∀ x c, X.fn x = true → X.env.cells.lookup x = some c → X.s₀.heap.objs.size ≤ c
  hd : X.calm = true → X.A.handled = none
  frames : X.A.frames = some X.stack
  stk : X.stack = X.outer ∨ (X.stack = X.env :: X.outer ∧ X.env.frame = some X.env.locals)
  exf : ∀ b ∈ X.ex, b ≠ X.env.locals ∧ ∀ x c, X.env.cells.lookup x = some c → c ≠ b
  bs : ∀ b o, X.base.get? b = some o → X.s₀.heap.get? b = some o ∧ X.H₀ b = none
  bsz : X.base.objs.size ≤ X.s₀.heap.objs.size
  noex : ∀ b o, X.base.get? b = some o → b ∉ X.ex
  exfs : ∀ b ∈ X.ex, b ∉ X.fs
  funs : X.s₀.heap.FunFrames X.base X.outer
  frf : ∀ b ∈ X.fs, X.H₀ b = none
structure Inv (X : Cx) (pins : List (Addr × Obj)) (σ : List (Option V)) (H : Hp) (s : Shared) : Prop where
  ok : X.Ok
  os : s.os = X.s₀.os
  bare : AllBare s.gens
  base : Un X.fs X.ex X.H₀ H X.s₀.heap s.heap
  loc : ∃ m, s.heap.Ns X.env.locals m ∧ ∀ (i : Nat) (x : Str) (v : V), X.N[i]? = some x → σ[i]? = some (some v) → Vis X.env.scope x → ∃ u, RelV v u ∧ Look X.env s.heap m x u
  cell : ∀ x c, X.env.cells.lookup x = some c → ∃ v, s.heap.IsCell c v
  free : H X.env.locals = none
  freeC : ∀ x c, X.env.cells.lookup x = some c → H c = none
  pin : ∀ p ∈ X.pn ++ pins, s.heap.get? p.1 = some p.2 ∧ H p.1 = none ∧ p.1 ≠ X.env.locals ∧ p.1 ∉ X.fs ∧ ∀ v, p.2.data ≠ .cell v
  hok : HOk X.prog X.w H s.heap
  len : σ.length = X.N.length
section
variable {X : Cx} {pins : List (Addr × Obj)} {σ : List (Option V)} {H H' : Hp} {s : Shared} {h' : Heap}
theorem Cx.Ok.nofr (ok : X.Ok) {b : Addr} {o : Obj} (e : X.base.get? b = some o) : b ∉ X.fs := fun hb => by
  have := (ok.funs.mem hb).1
  rw [e] at this; cases this
theorem Inv.bs (I : Inv X pins σ H s) : ∀ b o, X.base.get? b = some o → s.heap.get? b = some o ∧ H b = none := fun b o e =>
  ⟨I.base.keep b o (I.ok.bs b o e).1 (I.ok.bs b o e).2 (I.ok.nofr e) (I.ok.noex b o e), I.base.free b o (I.ok.bs b o e).1 (I.ok.bs b o e).2 (I.ok.noex b o e)⟩
theorem Inv.bk (I : Inv X pins σ H s) : ∀ b o, X.base.get? b = some o → s.heap.get? b = some o := fun b o e => (I.bs b o e).1
theorem Inv.mod (I : Inv X pins σ H s) : Mod X.K X.mg X.base := I.ok.mod
theorem Inv.kIn (I : Inv X pins σ H s) : X.K.In s.heap := I.ok.mod.kin.keeps I.bk
theorem Inv.lt (I : Inv X pins σ H s) : X.env.locals < s.heap.objs.size := let ⟨_, hn, _⟩ := I.loc; hn.lt
theorem Inv.sz (I : Inv X pins σ H s) : X.s₀.heap.objs.size ≤ s.heap.objs.size := Nat.le_trans I.ok.above (Nat.le_of_lt I.lt)
theorem Inv.nofs (I : Inv X pins σ H s) {a : Addr} (h : s.heap.objs.size ≤ a) : a ∉ X.fs := fun hb => by
  obtain ⟨_, o, ho, _⟩ := I.ok.funs.mem hb
  exact absurd (Nat.lt_of_lt_of_le (Heap.lt_size ho) (Nat.le_trans I.sz h)) (Nat.lt_irrefl _)
theorem Inv.cne (I : Inv X pins σ H s) : ∀ x c, X.env.cells.lookup x = some c → c ≠ X.env.locals := fun x c e z => by
  obtain ⟨v, o, ho, hd⟩ := I.cell x c e
  obtain ⟨m, ⟨o', es, ep, ho', hd', _⟩, _⟩ := I.loc
  rw [z, ho'] at ho; cases ho; rw [hd'] at hd; cases hd
theorem Inv.funs (I : Inv X pins σ H s) : s.heap.FunFrames X.base X.outer := by
  have all : ∀ (l : List Env), (∀ b ∈ frs l, b ∈ X.fs) → X.s₀.heap.FunFrames X.base l → s.heap.FunFrames X.base l := by
    intro l
    induction l with
    | nil => intro _ _; trivial
    | cons env r ih =>
      intro hs hl
      obtain ⟨hk, ⟨L, o, hf, hn, ho, hd⟩, hr⟩ := hl
      have hL : L ∈ X.fs := hs L (by unfold frs; rw [List.filterMap_cons, hf]; exact List.mem_cons_self)
      obtain ⟨sl, e⟩ := I.base.slot L o ho (I.ok.frf L hL) hL fun z => I.ok.exfs L z hL
      exact ⟨hk, ⟨L, _, hf, hn, e, hd⟩, ih (fun b hb => hs b (by unfold frs; rw [List.filterMap_cons, hf]; exact List.mem_cons_of_mem _ hb)) hr⟩
  exact all X.outer (fun _ hb => hb) I.ok.funs
/-- the frames that run, for a call -/
theorem Inv.stack (I : Inv X pins σ H s) : s.heap.FunFrames X.base X.stack := by
  rcases I.ok.stk with e | ⟨e, hf⟩
  · rw [e]; exact I.funs
  · rw [e]
    obtain ⟨m, hn, _⟩ := I.loc
    refine .cons (by rw [I.ok.kind]; decide) hf hn ?_ I.funs
    exact Heap.get?_none_of_le (Nat.le_trans I.ok.bsz I.ok.above)
theorem Inv.stkSub (I : Inv X pins σ H s) : ∀ b ∈ frs X.stack, b ∈ X.env.locals :: X.fs := fun b hb => by
  rcases I.ok.stk with e | ⟨e, hf⟩
  · rw [e] at hb; exact List.mem_cons_of_mem _ hb
  · rw [e] at hb
    unfold frs at hb
    rw [List.filterMap_cons, hf] at hb
    exact hb
theorem Inv.stkFree (I : Inv X pins σ H s) : ∀ b ∈ frs X.stack, H b = none := fun b hb => by
  rcases List.mem_cons.mp (I.stkSub b hb) with e | hb
  · rw [e]; exact I.free
  · obtain ⟨_, o, ho, _⟩ := I.ok.funs.mem hb
    exact I.base.free b o ho (I.ok.frf b hb) fun z => I.ok.exfs b z hb
/-- THE STEP: the untracked objects but the frame and the records at ch are kept (the callers' frames up to slots), the frame's map is kept, the new abstract heap is held -/
theorem Inv.step {g' : Array GenState} {t' : Nat} {d' : Drawn} {ch : List Addr} (I : Inv X pins σ H s)
    (hch : ∀ b ∈ ch, (b ∈ X.ex ∨ X.s₀.heap.objs.size ≤ b) ∧ b ≠ X.env.locals ∧ (∀ x c, X.env.cells.lookup x = some c → c ≠ b) ∧ ∀ p ∈ X.pn ++ pins, p.1 ≠ b)
    (keep : ∀ b o, b ≠ X.env.locals → b ∉ X.fs → b ∉ ch → s.heap.get? b = some o → H b = none → h'.get? b = some o)
    (slot : ∀ b o, b ≠ X.env.locals → b ∈ X.fs → b ∉ ch → s.heap.get? b = some o → H b = none → ∃ sl, h'.get? b = some { o with slots := sl }) (free : ∀ b o, b ∉ ch → s.heap.get? b = some o → H b = none → H' b = none)
    (there : ∀ b o, b ∉ ch → s.heap.get? b = some o → ∃ o', h'.get? b = some o')
    (tups : ∀ b xs, H b = some (.tup xs) → H' b = some (.tup xs)) (frzs : ∀ b o u, H b = some (.frz o u) → H' b = some (.frz o u)) (tbls : ∀ b ps, H b = some (.tbl ps) → ∃ more, H' b = some (.tbl (ps ++ more)))
    (ns : ∀ m, s.heap.Ns X.env.locals m → h'.Ns X.env.locals m) (hok : HOk X.prog X.w H' h') (hg : AllBare g') :
    Inv X pins σ H' { s with heap := h', gens := g', drawn := d', toks := t' } := by
  have neL : ∀ b o, X.s₀.heap.get? b = some o → b ≠ X.env.locals := fun b o e => Nat.ne_of_lt (Nat.lt_of_lt_of_le (Heap.lt_size e) I.ok.above)
  have neC : ∀ b o, X.s₀.heap.get? b = some o → b ∉ X.ex → b ∉ ch := fun b o e hx hb => by
    rcases (hch b hb).1 with z | z
    · exact hx z
    · exact absurd (Nat.lt_of_lt_of_le (Heap.lt_size e) z) (Nat.lt_irrefl _)
  have cellK : ∀ x c, X.env.cells.lookup x = some c → ∀ v, s.heap.IsCell c v → h'.IsCell c v := fun x c e v ⟨o, ho, hd⟩ => by
    have nch : c ∉ ch := fun z => (hch c z).2.2.1 x c e rfl
    by_cases hc : c ∈ X.fs
    · obtain ⟨sl, q⟩ := slot c o (I.cne x c e) hc nch ho (I.freeC x c e)
      exact ⟨_, q, hd⟩
    · exact ⟨o, keep c o (I.cne x c e) hc nch ho (I.freeC x c e), hd⟩
  refine ⟨I.ok, I.os, hg, ⟨fun b o e n hb hx => ?_, fun b o e n hb hx => ?_, fun b o e n hx => ?_, fun b o e hx => ?_, fun b xs e => tups b xs (I.base.tups b xs e), fun b o xs e => frzs b o xs (I.base.frzs b o xs e), fun b ps e => ?_⟩, ?_, fun x c e => ?_, ?_, fun x c e => ?_, fun p hp => ?_, hok, I.len⟩
  · exact keep b o (neL b o e) hb (neC b o e hx) (I.base.keep b o e n hb hx) (I.base.free b o e n hx)
  · obtain ⟨sl, e1⟩ := I.base.slot b o e n hb hx
    obtain ⟨sl', e2⟩ := slot b _ (neL b o e) hb (neC b o e hx) e1 (I.base.free b o e n hx)
    exact ⟨sl', e2⟩
  · obtain ⟨o', e1⟩ := I.base.there b o e hx
    exact free b o' (neC b o e hx) e1 (I.base.free b o e n hx)
  · obtain ⟨o', e1⟩ := I.base.there b o e hx
    exact there b o' (neC b o e hx) e1
  · obtain ⟨m1, e1⟩ := I.base.tbls b ps e
    obtain ⟨m2, e2⟩ := tbls b _ e1
    exact ⟨m1 ++ m2, by rw [e2, Array.append_assoc]⟩
  · obtain ⟨m, hn, hl⟩ := I.loc
    refine ⟨m, ns m hn, fun i x v e1 e2 e3 => ?_⟩
    obtain ⟨u, r, l⟩ := hl i x v e1 e2 e3
    refine ⟨u, r, ?_⟩
    rcases l with l | ⟨k, c, e, z⟩
    · exact .inl l
    · exact .inr ⟨k, c, e, cellK x c e _ z⟩
  · obtain ⟨v, z⟩ := I.cell x c e
    exact ⟨v, cellK x c e v z⟩
  · obtain ⟨m, ⟨o, _, _, ho, _⟩, _⟩ := I.loc
    exact free _ o (fun z => (hch _ z).2.1 rfl) ho I.free
  · obtain ⟨v, o, ho, hd⟩ := I.cell x c e
    exact free c o (fun z => (hch c z).2.2.1 x c e rfl) ho (I.freeC x c e)
  · obtain ⟨e, n, ne, nf, d⟩ := I.pin p hp
    have nch : p.1 ∉ ch := fun z => (hch p.1 z).2.2.2 p hp rfl
    exact ⟨keep p.1 p.2 ne nf nch e n, free p.1 p.2 nch e n, ne, nf, d⟩
/-- .. where the frame's own object is kept too -/
theorem Inv.un {t' : Nat} (I : Inv X pins σ H s) (u : Un X.fs [] H H' s.heap h') (hok : HOk X.prog X.w H' h') : Inv X pins σ H' { s with heap := h', toks := t' } := by
  obtain ⟨m, ⟨o, es, ep, ho, r⟩, _⟩ := id I.loc
  obtain ⟨sl, hL⟩ := u.any ho I.free (by simp)
  exact I.step (g' := s.gens) (d' := s.drawn) (ch := []) (fun _ z => nomatch z) (fun b o _ hb _ e n => u.keep b o e n hb (by simp)) (fun b o _ hb _ e n => u.slot b o e n hb (by simp)) (fun b o _ e n => u.free b o e n (by simp)) (fun b o _ e => u.there b o e (by simp)) u.tups u.frzs u.tbls (fun m' hm => by
    obtain ⟨o', es', ep', ho', r'⟩ := hm
    rw [ho] at ho'; cases ho'
    exact ⟨_, es', ep', hL, r'⟩) hok I.bare
/-- behind a call (or a comprehension's block): the slots of this frame may have changed too, the records at ch may have turned -/
theorem Inv.call {g' : Array GenState} {t' : Nat} {d' : Drawn} {ch : List Addr} (I : Inv X pins σ H s) (u : Un (frs X.stack) ch H H' s.heap h') (hok : HOk X.prog X.w H' h') (hg : AllBare g')
    (hch : ∀ b ∈ ch, (b ∈ X.ex ∨ X.s₀.heap.objs.size ≤ b) ∧ b ≠ X.env.locals ∧ (∀ x c, X.env.cells.lookup x = some c → c ≠ b) ∧ ∀ p ∈ X.pn ++ pins, p.1 ≠ b) :
    Inv X pins σ H' { s with heap := h', gens := g', drawn := d', toks := t' } := by
  obtain ⟨m, ⟨o, es, ep, ho, r⟩, _⟩ := id I.loc
  obtain ⟨sl, hL⟩ := u.any ho I.free fun z => (hch _ z).2.1 rfl
  exact I.step (ch := ch) hch (fun b o hL hb hc e n => u.keep b o e n (fun z => (List.mem_cons.mp (I.stkSub b z)).elim hL hb) hc) (fun b o _ _ hc e n => u.any e n hc) (fun b o hc e n => u.free b o e n hc) (fun b o hc e => u.there b o e hc) u.tups u.frzs u.tbls (fun m' hm => by
    obtain ⟨o', es', ep', ho', r'⟩ := hm
    rw [ho] at ho'; cases ho'
    exact ⟨_, es', ep', hL, r'⟩) hok hg
/-- an untracked record of ours (an iterator) has turned -/
theorem Inv.turned {t' : Nat} {it : Addr} (I : Inv X pins σ H s) (k : ∀ b o, b ≠ it → s.heap.get? b = some o → h'.get? b = some o) (hn : H it = none) (hL : it ≠ X.env.locals)
    (h1 : it ∈ X.ex ∨ X.s₀.heap.objs.size ≤ it) (h2 : ∀ x c, X.env.cells.lookup x = some c → c ≠ it) (h3 : ∀ p ∈ X.pn ++ pins, p.1 ≠ it) : Inv X pins σ H { s with heap := h', toks := t' } := by
  have nit : ∀ b u, H b = some u → b ≠ it := fun b u e z => by rw [z, hn] at e; cases e
  refine I.step (g' := s.gens) (d' := s.drawn) (ch := [it]) (fun b hb => ?_) (fun b o _ _ hc e _ => k b o (fun z => hc (by simp [z])) e) (fun b o _ _ hc e _ => ⟨o.slots, k b o (fun z => hc (by simp [z])) e⟩) (fun _ _ _ _ n => n)
    (fun b o hc e => ⟨o, k b o (fun z => hc (by simp [z])) e⟩) (fun _ _ e => e) (fun _ _ _ e => e) (fun b ps e => ⟨#[], by rw [e]; simp⟩) (fun m hm => ?_) (fun b u e => ?_) I.bare
  · have e : b = it := by simpa using hb
    subst e
    exact ⟨h1, hL, h2, h3⟩
  · obtain ⟨o, es, ep, ho, r⟩ := hm
    exact ⟨o, es, ep, k _ o (Ne.symm hL) ho, r⟩
  · refine (I.hok b u e).stay (fun c v hc q => k c v ?_ q) (fun _ q => q) fun _ _ q => q
    rcases hc with z | z
    · rw [z]; exact nit b u e
    · exact nit c _ z
theorem Inv.tok (I : Inv X pins σ H s) (t : Nat) : Inv X pins σ H { s with toks := t } := I.un (h' := s.heap) (t' := t) Un.refl I.hok
/-- all objects kept -/
theorem Inv.kept {t' : Nat} (I : Inv X pins σ H s) (k : ∀ b u, s.heap.get? b = some u → h'.get? b = some u) : Inv X pins σ H { s with heap := h', toks := t' } := I.un (Un.kept k) (I.hok.kept k)
/-- a new object laid and tracked -/
theorem Inv.laid {a : Addr} {o : HO} {t' : Nat} (I : Inv X pins σ H s) (k : ∀ b u, s.heap.get? b = some u → h'.get? b = some u) (hp : s.heap.objs.size ≤ a) (new : ObjOk X.prog X.w (upd H a o) h' a o) :
    Inv X pins σ (upd H a o) { s with heap := h', toks := t' } := I.un (Un.laid k hp (I.hok.fresh hp)) (I.hok.laid k hp new)
/-- an object written -/
theorem Inv.write {x e : Addr} {o : HO} {t' : Nat} (I : Inv X pins σ H s) (mu : Mut (H x)) (he : e = x ∨ H e = some (.own x)) (k : ∀ b u, b ≠ e → s.heap.get? b = some u → h'.get? b = some u) (heo : ∃ u, h'.get? e = some u)
    (new : ObjOk X.prog X.w (upd H x o) h' x o) : Inv X pins σ (upd H x o) { s with heap := h', toks := t' } := I.un (Un.write mu he k heo) (I.hok.write mu he k heo new)
theorem Inv.pins_of {pins' : List (Addr × Obj)} (I : Inv X pins σ H s) (h : ∀ p ∈ pins', s.heap.get? p.1 = some p.2 ∧ H p.1 = none ∧ p.1 ≠ X.env.locals ∧ p.1 ∉ X.fs ∧ ∀ v, p.2.data ≠ .cell v) : Inv X pins' σ H s :=
  ⟨I.ok, I.os, I.bare, I.base, I.loc, I.cell, I.free, I.freeC, fun p hp => (List.mem_append.mp hp).elim (fun z => I.pin p (List.mem_append_left _ z)) (h p), I.hok, I.len⟩
theorem nodup_ix {N : List Str} (hN : N.Nodup) {i j : Nat} {x : Str} (a : N[i]? = some x) (b : N[j]? = some x) : i = j := by
  obtain ⟨h1, e1⟩ := List.getElem?_eq_some_iff.mp a
  obtain ⟨h2, e2⟩ := List.getElem?_eq_some_iff.mp b
  exact (List.getElem_inj hN).mp (e1.trans e2.symm)
/-- a name is stored; what changed -/
theorem store_ok2 {M : Model} {A : Around} {E : Value → Shared → Prop} {i : Nat} {x : Str} {v : V} {u : Value} {Q : Unit → Shared → Prop} (I : Inv X pins σ H s) (hN : X.N.Nodup) (hi : X.N[i]? = some x) (hx : Loc X.env.scope x) (r : RelV v u)
    (h : ∀ s', Inv X pins (σ.set i (some v)) H s' → (∃ a, Heap.SameBut a s.heap s'.heap ∧ (a = X.env.locals ∨ X.env.cells.lookup x = some a)) → Q () s') (hf : X.fn x = true ∨ X.env.scope.names.lookup x = some .local := by first | exact .inl rfl | exact .inr rfl | assumption) : wpAny M A (storeName X.env x u) Q E s := by
  obtain ⟨m, hn, hl⟩ := id I.loc
  have hcls : (X.env.scope.kind == .class || (X.env.scope.kind == .module && X.env.locals != X.env.globals)) = false := by rw [I.ok.kind]; rfl
  have hiσ : i < σ.length := by rw [I.len]; exact (List.getElem?_eq_some_iff.mp hi).1
  have cne := I.cne
  have tracked : ∀ {a : Addr} {h' : Heap}, (∃ o, s.heap.get? a = some o ∧ H a = none) → Heap.SameBut a s.heap h' → HOk X.prog X.w H h' := fun {a h'} ha hs b ob e => by
    obtain ⟨_, _, hfree⟩ := ha
    refine (I.hok b ob e).stay (fun c w' hc q => (hs.2 c ?_).trans q) (fun _ q => q) fun _ _ q => q
    rintro rfl
    rcases hc with rfl | hc
    · rw [hfree] at e; cases e
    · rw [hfree] at hc; cases hc
  rcases hx with hk | hk
  · refine wpAny_storeName_local hk hn (fun h' hn' hs => ?_) hcls
    obtain ⟨oL, _, _, hoL, _⟩ := id hn
    refine h _ ⟨I.ok, I.os, I.bare, ⟨fun b o e n hb hx => ?_, fun b o e n hb hx => ?_, I.base.free, fun b o e hx => ?_, I.base.tups, I.base.frzs, I.base.tbls⟩, ⟨_, hn', fun j y v' e1 e2 e3 => ?_⟩, fun y c e => ?_, I.free, I.freeC, fun p hp => ?_, tracked ⟨oL, hoL, I.free⟩ hs, by simpa using I.len⟩ ⟨_, hs, .inl rfl⟩
    · exact (hs.2 b (Nat.ne_of_lt (Nat.lt_of_lt_of_le (Heap.lt_size e) I.ok.above))).trans (I.base.keep b o e n hb hx)
    · obtain ⟨sl, e1⟩ := I.base.slot b o e n hb hx
      exact ⟨sl, (hs.2 b (Nat.ne_of_lt (Nat.lt_of_lt_of_le (Heap.lt_size e) I.ok.above))).trans e1⟩
    · obtain ⟨o', e1⟩ := I.base.there b o e hx
      exact ⟨o', (hs.2 b (Nat.ne_of_lt (Nat.lt_of_lt_of_le (Heap.lt_size e) I.ok.above))).trans e1⟩
    · by_cases hj : j = i
      · subst hj
        rw [hi] at e1; cases e1
        rw [List.getElem?_set_self hiσ] at e2
        cases e2
        exact ⟨u, r, .inl ⟨hk, by simp⟩⟩
      · rw [List.getElem?_set_ne (Ne.symm hj)] at e2
        obtain ⟨u', r', q⟩ := hl j y v' e1 e2 e3
        refine ⟨u', r', ?_⟩
        rcases q with ⟨k, e⟩ | ⟨k, c, e, z⟩
        · refine .inl ⟨k, ?_⟩
          have : y ≠ x := fun e => hj (nodup_ix hN e1 (e ▸ hi))
          simp [this, e]
        · exact .inr ⟨k, c, e, z.sameBut hs (cne y c e)⟩
    · obtain ⟨w', z⟩ := I.cell y c e
      exact ⟨w', z.sameBut hs (cne y c e)⟩
    · obtain ⟨e, n, ne, nf, d⟩ := I.pin p hp
      exact ⟨(hs.2 p.1 ne).trans e, n, ne, nf, d⟩
  · have hfn : X.fn x = true := by
      rcases hf with z | z
      · exact z
      · rw [z] at hk; cases hk
    obtain ⟨c, hc⟩ := I.ok.has x (.inl hk)
    obtain ⟨w', z⟩ := I.cell x c hc
    refine wpAny_storeName_cell I.ok.kind hk hc z (fun h' hc' hs => ?_)
    obtain ⟨oc, hoc, hocd⟩ := id z
    refine h { s with heap := h' } ⟨I.ok, I.os, I.bare, ⟨fun b o e n hb hx => ?_, fun b o e n hb hx => ?_, I.base.free, fun b o e hx => ?_, I.base.tups, I.base.frzs, I.base.tbls⟩, ⟨m, hn.sameBut hs (Ne.symm (cne x c hc)), fun j y v' e1 e2 e3 => ?_⟩, fun y c' e => ?_, I.free, I.freeC, fun p hp => ?_, tracked ⟨oc, hoc, I.freeC x c hc⟩ hs, by simpa using I.len⟩ ⟨c, hs, .inr hc⟩
    · exact (hs.2 b (Nat.ne_of_lt (Nat.lt_of_lt_of_le (Heap.lt_size e) (I.ok.cab x c hfn hc)))).trans (I.base.keep b o e n hb hx)
    · obtain ⟨sl, e1⟩ := I.base.slot b o e n hb hx
      exact ⟨sl, (hs.2 b (Nat.ne_of_lt (Nat.lt_of_lt_of_le (Heap.lt_size e) (I.ok.cab x c hfn hc)))).trans e1⟩
    · obtain ⟨o', e1⟩ := I.base.there b o e hx
      exact ⟨o', (hs.2 b (Nat.ne_of_lt (Nat.lt_of_lt_of_le (Heap.lt_size e) (I.ok.cab x c hfn hc)))).trans e1⟩
    · by_cases hj : j = i
      · subst hj
        rw [hi] at e1; cases e1
        rw [List.getElem?_set_self hiσ] at e2
        cases e2
        exact ⟨u, r, .inr ⟨.inl hk, c, hc, hc'⟩⟩
      · rw [List.getElem?_set_ne (Ne.symm hj)] at e2
        obtain ⟨u', r', q⟩ := hl j y v' e1 e2 e3
        refine ⟨u', r', ?_⟩
        rcases q with q | ⟨k, c', e, z'⟩
        · exact .inl q
        · refine .inr ⟨k, c', e, z'.sameBut hs ?_⟩
          rintro rfl
          exact hj (nodup_ix hN e1 (I.ok.inj _ _ _ e hc ▸ hi))
    · by_cases hcc : c' = c
      · subst hcc; exact ⟨_, hc'⟩
      · obtain ⟨w2, z2⟩ := I.cell y c' e
        exact ⟨w2, z2.sameBut hs hcc⟩
    · obtain ⟨e, n, ne, nf, d⟩ := I.pin p hp
      refine ⟨(hs.2 p.1 ?_).trans e, n, ne, nf, d⟩
      intro q
      rw [q, hoc] at e
      have q' : oc = p.2 := Option.some.inj e
      exact d w' (by rw [← q']; exact hocd)
theorem store_ok {M : Model} {A : Around} {E : Value → Shared → Prop} {i : Nat} {x : Str} {v : V} {u : Value} {Q : Unit → Shared → Prop} (I : Inv X pins σ H s) (hN : X.N.Nodup) (hi : X.N[i]? = some x) (hx : Loc X.env.scope x) (r : RelV v u)
    (h : ∀ s', Inv X pins (σ.set i (some v)) H s' → Q () s') (hf : X.fn x = true ∨ X.env.scope.names.lookup x = some .local := by first | exact .inl rfl | exact .inr rfl | assumption) : wpAny M A (storeName X.env x u) Q E s :=
  store_ok2 I hN hi hx r (fun s' I' _ => h s' I') hf
/-- behind a call or a block, the state as it is -/
theorem Inv.call' {s' : Shared} {ch : List Addr} (I : Inv X pins σ H s) (ho : s'.os = s.os) (u : Un (frs X.stack) ch H H' s.heap s'.heap) (hok : HOk X.prog X.w H' s'.heap) (hg : AllBare s'.gens)
    (hch : ∀ b ∈ ch, (b ∈ X.ex ∨ X.s₀.heap.objs.size ≤ b) ∧ b ≠ X.env.locals ∧ (∀ x c, X.env.cells.lookup x = some c → c ≠ b) ∧ ∀ p ∈ X.pn ++ pins, p.1 ≠ b) : Inv X pins σ H' s' := by
  obtain ⟨h', g', d', t', o'⟩ := s'
  have e : o' = s.os := ho
  subst e
  exact I.call (g' := g') (t' := t') (d' := d') u hok hg hch
end
/-! ### the judgements -/
/-- an exception: its class, its own dict's address (where it has one), the abstract heap behind it -/
abbrev XK := Value → Option Addr → Hp → Prop
abbrev St := List (Option V)
abbrev VK := V → Hp → Prop
/-- an expression's reading; a test's; an argument list's -/
abbrev TE := St → Hp → VK → Prop
abbrev TT := St → Hp → (Bool → Hp → Prop) → Prop
abbrev TA := St → Hp → (List V → Hp → Prop) → Prop
/-- what is wanted behind a statement -/
structure Ends where
  nx : St → Hp → Prop
  rt : VK
  bk : St → Hp → Prop := fun _ _ => False
  ct : St → Hp → Prop := fun _ _ => False
abbrev TS := Ends → St → Hp → Prop
def EP (X : Cx) (pins : List (Addr × Obj)) (σ : St) (Q : VK) (u : Value) (s' : Shared) : Prop := ∃ v H', Inv X pins σ H' s' ∧ RelV v u ∧ Q v H'
def TP (X : Cx) (pins : List (Addr × Obj)) (σ : St) (Q : Bool → Hp → Prop) (b : Bool) (s' : Shared) : Prop := ∃ H', Inv X pins σ H' s' ∧ Q b H'
def AP (X : Cx) (pins : List (Addr × Obj)) (σ : St) (Q : List V → Hp → Prop) (us : List Value) (s' : Shared) : Prop := ∃ vs H', Inv X pins σ H' s' ∧ Vals vs us ∧ Q vs H'
def SP (X : Cx) (pins : List (Addr × Obj)) (D : Ends) (f : Flow) (s' : Shared) : Prop :=
  match f with
  | .next => ∃ σ' H', Inv X pins σ' H' s' ∧ D.nx σ' H'
  | .brk => ∃ σ' H', Inv X pins σ' H' s' ∧ D.bk σ' H'
  | .cont => ∃ σ' H', Inv X pins σ' H' s' ∧ D.ct σ' H'
  | .ret u => ∃ v σ' H', Inv X pins σ' H' s' ∧ RelV v u ∧ D.rt v H'
def PE (X : Cx) (e : Expr) (t : TE) : Prop :=
  ∀ (pins : List (Addr × Obj)) (s : Shared) (σ : St) (H : Hp) (Q : VK), Inv X pins σ H s → t σ H Q → wpAny (model X.prog X.w) X.A (eval e X.env) (EP X pins σ Q) X.xe s
def PT (X : Cx) (e : Expr) (t : TT) : Prop :=
  ∀ (pins : List (Addr × Obj)) (s : Shared) (σ : St) (H : Hp) (Q : Bool → Hp → Prop), Inv X pins σ H s → t σ H Q → wpAny (model X.prog X.w) X.A (isTrue e X.env (eval e X.env)) (TP X pins σ Q) X.xe s
/-- a test whatever its 'whole' is (and, or) -/
def PW (X : Cx) (e : Expr) (t : TT) : Prop :=
  ∀ (whole : Sem Value) (pins : List (Addr × Obj)) (s : Shared) (σ : St) (H : Hp) (Q : Bool → Hp → Prop), Inv X pins σ H s → t σ H Q → wpAny (model X.prog X.w) X.A (isTrue e X.env whole) (TP X pins σ Q) X.xe s
theorem PW.pt {X : Cx} {e : Expr} {t : TT} (h : PW X e t) : PT X e t := h _
/-- an argument list (no star), from the left -/
def PA (X : Cx) (es : List Expr) (t : TA) : Prop :=
  ∀ (pos : Pos) (pins : List (Addr × Obj)) (s : Shared) (σ : St) (H : Hp) (Q : List V → Hp → Prop), Inv X pins σ H s → t σ H Q → wpAny (model X.prog X.w) X.A (spliced (backTo pos (starEach es X.env))) (AP X pins σ Q) X.xe s
def PS (X : Cx) (st : Stmt) (t : TS) : Prop :=
  ∀ (pins : List (Addr × Obj)) (s : Shared) (σ : St) (H : Hp) (D : Ends), Inv X pins σ H s → t D σ H → wpAny (model X.prog X.w) X.A (exec st X.env) (SP X pins D) X.xe s
def PSs (X : Cx) (st : List Stmt) (t : TS) : Prop :=
  ∀ (pins : List (Addr × Obj)) (s : Shared) (σ : St) (H : Hp) (D : Ends), Inv X pins σ H s → t D σ H → wpAny (model X.prog X.w) X.A (execs st X.env) (SP X pins D) X.xe s
/-- weaken the end -/
theorem thn {α : Type} {t : Sem α} {Q Q' : α → Shared → Prop} {M : Model} {A : Around} {E : Value → Shared → Prop} {s : Shared} (h : wpAny M A t Q E s) (hQ : ∀ a s, Q a s → Q' a s) : wpAny M A t Q' E s := wpAny_mono h hQ fun _ _ x => x
end L2
namespace L2
open PySem PySem.Spec PyProof.Rows
section
variable {X : Cx}
/-- two expressions in a row -/
theorem bin {a b : Expr} {ta tb : TE} (ha : PE X a ta) (hb : PE X b tb) {pins : List (Addr × Obj)} {s : Shared} {σ : St} {H : Hp} {R : V → V → Hp → Prop} (I : Inv X pins σ H s) (h : ta σ H fun x H1 => tb σ H1 fun y H2 => R x y H2)
    {α : Type} {Q : α → Shared → Prop} {f : Value → Value → Sem α}
    (hf : ∀ v u s2 x y H2, Inv X pins σ H2 s2 → RelV x v → RelV y u → R x y H2 → wpAny (model X.prog X.w) X.A (f v u) Q X.xe s2) :
    wpAny (model X.prog X.w) X.A (eval a X.env) (fun v s₁ => wpAny (model X.prog X.w) X.A (eval b X.env) (fun u s₂ => wpAny (model X.prog X.w) X.A (f v u) Q X.xe s₂) X.xe s₁) X.xe s := by
  refine thn (ha pins s σ H _ I h) fun v s1 ⟨x, H1, I1, r1, q1⟩ => ?_
  refine thn (hb pins s1 σ H1 _ I1 q1) fun u s2 ⟨y, H2, I2, r2, q2⟩ => ?_
  exact hf v u s2 x y H2 I2 r1 r2 q2
/-! ### names and constants -/
def tVar (i : Nat) : TE := fun σ H Q => ∃ v, σ[i]? = some (some v) ∧ Q v H
def tC (v : V) : TE := fun _ H Q => Q v H
theorem pe_var {i : Nat} {x : Str} {pos : Pos} (hN : X.N[i]? = some x) (hv : Vis X.env.scope x) (hd : (x == ("__debug__" : Str)) = false := by decide) (hcd : (x == ("__classdict__" : Str)) = false := by decide) : PE X (.Name x pos) (tVar i) := by
  intro pins s σ H Q I h
  obtain ⟨v, e, h⟩ := h
  obtain ⟨m, hn, hl⟩ := I.loc
  obtain ⟨u, r, l⟩ := hl i x v hN e hv
  have fin : EP X pins σ Q u s := ⟨v, H, I, r, h⟩
  rcases l with ⟨hk, hm⟩ | ⟨hk, c, hc, hcell⟩
  · exact wpAny_Name (wpAny_loadName_local I.ok.kind hk hn hm fin) hd
  · rcases hk with hk | hk
    · exact wpAny_Name (wpAny_loadName_cell I.ok.kind hk hc hcell fin) hd
    · exact wpAny_Name (wpAny_loadName_free I.ok.kind hk hc hcell fin hcd) hd
theorem pe_int {i j pos} : PE X (.Constant (.int i) j pos) (tC (.int i)) := fun _ _ _ H _ I h => wpAny_Constant_int ⟨.int i, H, I.tok _, ⟨_, rfl⟩, h⟩
theorem pe_bl {b j pos} : PE X (.Constant (.bool b) j pos) (tC (.bl b)) := fun _ _ _ H _ I h => Constant_bool ⟨.bl b, H, I, rfl, h⟩
theorem pe_non {j pos} : PE X (.Constant .none j pos) (tC .non) := fun _ _ _ H _ I h => Constant_none ⟨.non, H, I, rfl, h⟩
/-- a global name of the def -/
def Gl (X : Cx) (x : Str) : Prop := X.env.kindOf x = some .globalImplicit
theorem ld_glob {E : Value → Shared → Prop} {pins : List (Addr × Obj)} {s : Shared} {σ : St} {H : Hp} {x : Str} {u : Value} {pos : Pos} {Q : Value → Shared → Prop} (I : Inv X pins σ H s) (hg : Gl X x) (hm : X.mg x = some u) (h : Q u s)
    (hd : (x == ("__debug__" : Str)) = false := by decide) : wpAny (model X.prog X.w) X.A (eval (.Name x pos) X.env) Q E s :=
  Calls.Name_function_global I.ok.kind hg (Calls.loadGlobal_global (by rw [I.ok.glob]; exact I.mod.glob.keeps I.bk) hm h) hd
theorem ld_blt {E : Value → Shared → Prop} {pins : List (Addr × Obj)} {s : Shared} {σ : St} {H : Hp} {x : Str} {u : Value} {pos : Pos} {Q : Value → Shared → Prop} (I : Inv X pins σ H s) (hg : Gl X x) (hm : X.mg x = none) (hv : bootBuiltins x = some u) (h : Q u s)
    (hn : x ≠ "__name__" := by decide) (hd : (x == ("__debug__" : Str)) = false := by decide) : wpAny (model X.prog X.w) X.A (eval (.Name x pos) X.env) Q E s := by
  obtain ⟨mb, h1, h2⟩ := I.mod.blt
  exact Calls.Name_function_global I.ok.kind hg (Calls.loadGlobal_builtin (by rw [I.ok.glob]; exact I.mod.glob.keeps I.bk) hm (by rw [I.ok.blt]; exact h1.keeps I.bk) ((h2 x hn).trans hv) h) hd
theorem pe_bltn {x : Str} {v : V} {u : Value} {pos : Pos} (hg : Gl X x) (hm : X.mg x = none) (hv : bootBuiltins x = some u) (r : RelV v u) (hn : x ≠ "__name__" := by decide) (hd : (x == ("__debug__" : Str)) = false := by decide) : PE X (.Name x pos) (tC v) :=
  fun _ _ _ H _ I h => ld_blt I hg hm hv ⟨v, H, I, r, h⟩ hn hd
variable {a b : Expr} {ta tb : TE} {pos : Pos}
/-! ### comparisons -/
def PC (X : Cx) (op : CmpOp) (a b : Expr) (t : TE) : Prop :=
  ∀ (pins : List (Addr × Obj)) (s : Shared) (σ : St) (H : Hp) (Q : VK), Inv X pins σ H s → t σ H Q →
    wpAny (model X.prog X.w) X.A (eval a X.env) (fun v s₁ => wpAny (model X.prog X.w) X.A (eval b X.env) (fun u s₂ => wpAny (model X.prog X.w) X.A (compareOp op v u) (EP X pins σ Q) X.xe s₂) X.xe s₁) X.xe s
theorem nobehind (b : Expr) {op : CmpOp} (h : op ≠ .In) (h2 : op ≠ .NotIn) : behindInMarks op b = false := by
  have e1 : (op == CmpOp.In) = false := by cases op <;> first | rfl | exact absurd rfl h
  have e2 : (op == CmpOp.NotIn) = false := by cases op <;> first | rfl | exact absurd rfl h2
  cases b <;> simp [behindInMarks, e1, e2]
/-- a comparison as a value, as a test -/
def tB (t : TE) : TT := fun σ H Q => t σ H fun x H1 => ∃ c, x = .bl c ∧ Q c H1
theorem pt_cmp {op : CmpOp} {t : TE} (h : PC X op a b t) (h1 : behindInMarks op b = false := by first | exact nobehind _ (by decide) (by decide) | rfl) : PT X (.Compare a [op] [b] pos) (tB t) := by
  intro pins s σ H Q I hw
  refine wpAny_isTrue_Compare1 (thn (h pins s σ H _ I hw) fun v s1 h1 => thn h1 fun u s2 h2 => thn h2 fun c s3 ⟨x, H1, I1, r1, q1⟩ => ?_) h1
  obtain ⟨d, rfl, q⟩ := q1
  cases r1
  exact wpAny_truthy_bool ⟨H1, I1, q⟩
/-- an expression whose value is a bool, as a test -/
theorem pt_val {e : Expr} {t : TE} (h : PE X e t) (he : ∀ whole, isTrue e X.env whole = (do let v ← whole; standAt e.pos; holding [v] (truthy v)) := by intro _; rfl) : PT X e (tB t) := by
  intro pins s σ H Q I hw
  refine isTrue_plain (thn (h pins s σ H _ I hw) fun v s1 ⟨x, H1, I1, r1, q1⟩ => ?_) (he _)
  obtain ⟨d, rfl, q⟩ := q1
  cases r1
  exact wpAny_truthy_bool ⟨H1, I1, q⟩
/-! ### and, or, not -/
variable {tA tB' : TT} {rest : List Expr}
def tAnd (t u : TT) : TT := fun σ H Q => t σ H fun c H1 => if c = true then u σ H1 Q else Q false H1
def tOr (t u : TT) : TT := fun σ H Q => t σ H fun c H1 => if c = true then Q true H1 else u σ H1 Q
def tNot (t : TT) : TT := fun σ H Q => t σ H fun c H1 => Q (!c) H1
theorem pw_and1 (ha : PT X a tA) : PW X (.BoolOp .And [a] pos) tA := by
  intro wh pins s σ H Q I h
  refine isTrue_and (thn (ha pins s σ H Q I h) fun c s1 e => ?_)
  cases c with
  | true => exact isTrue_and_nil e
  | false => exact e
theorem pw_or1 (ha : PT X a tA) : PW X (.BoolOp .Or [a] pos) tA := by
  intro wh pins s σ H Q I h
  refine isTrue_or (thn (ha pins s σ H Q I h) fun c s1 e => ?_)
  cases c with
  | false => exact isTrue_or_nil e
  | true => exact e
theorem pw_and (ha : PT X a tA) (hb : PW X (.BoolOp .And (b :: rest) pos) tB') : PW X (.BoolOp .And (a :: b :: rest) pos) (tAnd tA tB') := by
  intro wh pins s σ H Q I h
  refine isTrue_and (thn (ha pins s σ H _ I h) fun c s1 ⟨H1, I1, q1⟩ => ?_)
  cases c with
  | true => exact hb wh pins s1 σ H1 Q I1 q1
  | false => exact ⟨H1, I1, q1⟩
theorem pw_or (ha : PT X a tA) (hb : PW X (.BoolOp .Or (b :: rest) pos) tB') : PW X (.BoolOp .Or (a :: b :: rest) pos) (tOr tA tB') := by
  intro wh pins s σ H Q I h
  refine isTrue_or (thn (ha pins s σ H _ I h) fun c s1 ⟨H1, I1, q1⟩ => ?_)
  cases c with
  | true => exact ⟨H1, I1, q1⟩
  | false => exact hb wh pins s1 σ H1 Q I1 q1
theorem pt_not (ha : PT X a tA) : PT X (.UnaryOp .Not a pos) (tNot tA) := by
  intro pins s σ H Q I h
  exact isTrue_not (ha pins s σ H (fun c H1 => Q (!c) H1) I h)
/-- .. as values (bools) -/
def tAndV (ta tb : TE) : TE := fun σ H Q => ta σ H fun x H1 => ∃ c, x = .bl c ∧ if c = true then tb σ H1 Q else Q (.bl false) H1
def tNotV (ta : TE) : TE := fun σ H Q => ta σ H fun x H1 => ∃ c, x = .bl c ∧ Q (.bl (!c)) H1
theorem pe_one {op} {t : TE} (h : PE X a t) : PE X (.BoolOp op [a] pos) t := fun pins s σ H Q I hw => BoolOp_one (h pins s σ H Q I hw)
theorem pe_and (ha : PE X a ta) (hb : PE X (.BoolOp .And (b :: rest) pos) tb) : PE X (.BoolOp .And (a :: b :: rest) pos) (tAndV ta tb) := by
  intro pins s σ H Q I h
  refine BoolOp_and (thn (ha pins s σ H _ I h) fun v s1 ⟨x, H1, I1, r1, q1⟩ => ?_)
  obtain ⟨c, rfl, q1⟩ := q1
  cases r1
  refine wpAny_truthy_bool ?_
  cases c with
  | true => exact hb pins s1 σ H1 Q I1 q1
  | false => exact ⟨.bl false, H1, I1, rfl, q1⟩
theorem pe_not (ha : PE X a ta) : PE X (.UnaryOp .Not a pos) (tNotV ta) := by
  intro pins s σ H Q I h
  refine UnaryOp_ (thn (ha pins s σ H _ I h) fun v s1 ⟨x, H1, I1, r1, q1⟩ => ?_)
  obtain ⟨c, rfl, q1⟩ := q1
  cases r1
  exact not_of (wpAny_truthy_bool ⟨.bl (!c), H1, I1, rfl, q1⟩)
/-- a if t else b -/
def tIf (t : TT) (ta tb : TE) : TE := fun σ H Q => t σ H fun c H1 => if c = true then ta σ H1 Q else tb σ H1 Q
theorem pe_ifExp {c : Expr} (hc : PT X c tA) (ha : PE X a ta) (hb : PE X b tb) : PE X (.IfExp c a b pos) (tIf tA ta tb) := by
  intro pins s σ H Q I h
  refine wpAny_IfExp (thn (hc pins s σ H _ I h) fun d s1 ⟨H1, I1, q1⟩ => ?_)
  cases d with
  | true => exact ha pins s1 σ H1 Q I1 q1
  | false => exact hb pins s1 σ H1 Q I1 q1
end
end L2
namespace L2
open PySem PySem.Spec PyProof.Rows
/-! ### a list, a tuple that is read: tracked, frozen, or an object of the module -/
def SqL (K : PySem.W.Frag) (H : Hp) (a : Addr) (xs : List V) : Prop :=
  Rd H a (.lst xs) ∨
    ∃ (o : Obj) (its : Array Value) (n : Nat), K.lookup a = some o ∧ o.cls = .type "list" ∧ o.dict = none ∧ o.data = .seq its n ∧ its.size ≤ sizeLine ∧ Vals xs its.toList
def SqT (K : PySem.W.Frag) (H : Hp) (a : Addr) (xs : List V) : Prop :=
  Rd H a (.tup xs) ∨
    ∃ (o : Obj) (its : Array Value) (n : Nat), K.lookup a = some o ∧ o.cls = .type "tuple" ∧ o.data = .seq its n ∧ its.size ≤ sizeLine ∧ Vals xs its.toList
def absV : Value → Option V
  | .none => some .non
  | .bool b => some (.bl b)
  | .int i _ => some (.int i)
  | .str x _ => some (.str x)
  | .bytes b _ => some (.byt b)
  | .float b _ => some (.flt b)
  | .ref a => some (.ref a)
  | .type n => some (.ty n)
  | _ => none
theorem RelV.abs {x : V} {u : Value} (r : RelV x u) : absV u = some x := by
  cases x with
  | non => cases r; rfl
  | bl _ => cases r; rfl
  | int _ => obtain ⟨t, rfl⟩ := r; rfl
  | str _ => obtain ⟨t, rfl⟩ := r; rfl
  | byt _ => obtain ⟨t, rfl⟩ := r; rfl
  | flt _ => obtain ⟨t, rfl⟩ := r; rfl
  | ref _ => cases r; rfl
  | ty _ => cases r; rfl
theorem RelV.inj {x y : V} {u : Value} (r : RelV x u) (q : RelV y u) : x = y := Option.some.inj (r.abs.symm.trans q.abs)
theorem Vals.inj : ∀ {xs ys : List V} {us : List Value}, Vals xs us → Vals ys us → xs = ys
  | _, _, _, .nil, .nil => rfl
  | _, _, _, .cons r t, .cons r' t' => by rw [r.inj r', Vals.inj t t']
section
variable {X : Cx} {pins : List (Addr × Obj)} {σ : St} {H : Hp} {s : Shared} {a : Addr} {xs ys : List V}
theorem SqL.of {K : PySem.W.Frag} (h : H a = some (.lst xs)) : SqL K H a xs := .inl (.inl h)
theorem SqT.of {K : PySem.W.Frag} (h : H a = some (.tup xs)) : SqT K H a xs := .inl (.inl h)
theorem Inv.list (I : Inv X pins σ H s) (h : SqL X.K H a xs) : ∃ its : List Value, Vals xs its ∧ PlainL s.heap a its.toArray ∧ xs.length ≤ sizeLine := by
  rcases h with h | ⟨o, its, n, hk, hc, hd, hs, hz, r⟩
  · obtain ⟨z, its, n, r, e⟩ := h.ok I.hok
    exact ⟨its, r, ⟨_, n, e, rfl, rfl, rfl⟩, z⟩
  · refine ⟨its.toList, r, ⟨o, n, I.kIn a o hk, hc, hd, by simpa using hs⟩, ?_⟩
    have e := r.length
    simp only [Array.length_toList] at e
    omega
theorem Inv.tuple (I : Inv X pins σ H s) (h : SqT X.K H a xs) : ∃ its : List Value, Vals xs its ∧ IsTup s.heap a its.toArray ∧ xs.length ≤ sizeLine := by
  rcases h with h | ⟨o, its, n, hk, hc, hs, hz, r⟩
  · obtain ⟨z, its, r, p⟩ := h.ok I.hok
    exact ⟨its, r, p, z⟩
  · refine ⟨its.toList, r, ⟨o, I.kIn a o hk, hc, n, by simpa using hs⟩, ?_⟩
    have e := r.length
    simp only [Array.length_toList] at e
    omega
theorem Inv.list_inj (I : Inv X pins σ H s) (h : SqL X.K H a xs) (h' : SqL X.K H a ys) : xs = ys := by
  obtain ⟨its, r, ⟨o, n, e, _, _, d⟩, _⟩ := I.list h
  obtain ⟨its', r', ⟨o', n', e', _, _, d'⟩, _⟩ := I.list h'
  rw [e] at e'; cases e'
  rw [d] at d'
  injection d' with d1 _
  have : its = its' := by simpa using congrArg Array.toList d1
  subst this
  exact r.inj r'
theorem Inv.tuple_inj (I : Inv X pins σ H s) (h : SqT X.K H a xs) (h' : SqT X.K H a ys) : xs = ys := by
  obtain ⟨its, r, ⟨o, e, _, n, d⟩, _⟩ := I.tuple h
  obtain ⟨its', r', ⟨o', e', _, n', d'⟩, _⟩ := I.tuple h'
  rw [e] at e'; cases e'
  rw [d] at d'
  injection d' with d1 _
  have : its = its' := by simpa using congrArg Array.toList d1
  subst this
  exact r.inj r'
end
/-! ### another wish about exceptions -/
abbrev Cx.wish (X : Cx) (E : Value → Shared → Prop) : Cx := { X with xe := E }
/-- no exception leaves -/
abbrev Cx.nox (X : Cx) : Cx := X.wish fun _ _ => False
theorem Cx.Ok.wish {X : Cx} (ok : X.Ok) (E : Value → Shared → Prop) : (X.wish E).Ok :=
  ⟨ok.mod, ok.kind, ok.glob, ok.blt, ok.above, ok.inj, ok.has, ok.cab, ok.hd, ok.frames, ok.stk, ok.exf, ok.bs, ok.bsz, ok.noex, ok.exfs, ok.funs, ok.frf⟩
theorem Cx.Ok.unwish {X : Cx} {E : Value → Shared → Prop} (ok : (X.wish E).Ok) : X.Ok :=
  ⟨ok.mod, ok.kind, ok.glob, ok.blt, ok.above, ok.inj, ok.has, ok.cab, ok.hd, ok.frames, ok.stk, ok.exf, ok.bs, ok.bsz, ok.noex, ok.exfs, ok.funs, ok.frf⟩
section
variable {X : Cx} {pins : List (Addr × Obj)} {σ : St} {H : Hp} {s : Shared} {E : Value → Shared → Prop}
theorem Inv.wish (I : Inv X pins σ H s) (E : Value → Shared → Prop) : Inv (X.wish E) pins σ H s := ⟨I.ok.wish E, I.os, I.bare, I.base, I.loc, I.cell, I.free, I.freeC, I.pin, I.hok, I.len⟩
theorem Inv.unwish (I : Inv (X.wish E) pins σ H s) : Inv X pins σ H s := ⟨I.ok.unwish, I.os, I.bare, I.base, I.loc, I.cell, I.free, I.freeC, I.pin, I.hok, I.len⟩
theorem SP.unwish {D : Ends} {f : Flow} {s' : Shared} (h : SP (X.wish E) pins D f s') : SP X pins D f s' := by
  cases f with
  | next => obtain ⟨σ', H', I, q⟩ := h; exact ⟨σ', H', I.unwish, q⟩
  | brk => obtain ⟨σ', H', I, q⟩ := h; exact ⟨σ', H', I.unwish, q⟩
  | cont => obtain ⟨σ', H', I, q⟩ := h; exact ⟨σ', H', I.unwish, q⟩
  | ret u => obtain ⟨v, σ', H', I, r, q⟩ := h; exact ⟨v, σ', H', I.unwish, r, q⟩
theorem PE.nox {e : Expr} {t : TE} (h : PE X.nox e t) : PE X e t := fun pins s σ H Q I hw =>
  wpAny_mono (h pins s σ H Q (I.wish _) hw) (fun _ _ ⟨v, H', I', r, q⟩ => ⟨v, H', I'.unwish, r, q⟩) fun _ _ z => False.elim z
theorem PT.nox {e : Expr} {t : TT} (h : PT X.nox e t) : PT X e t := fun pins s σ H Q I hw =>
  wpAny_mono (h pins s σ H Q (I.wish _) hw) (fun _ _ ⟨H', I', q⟩ => ⟨H', I'.unwish, q⟩) fun _ _ z => False.elim z
theorem PSs.nox {st : List Stmt} {t : TS} (h : PSs X.nox st t) : PSs X st t := fun pins s σ H D I hw =>
  wpAny_mono (h pins s σ H D (I.wish _) hw) (fun _ _ q => q.unwish) fun _ _ z => False.elim z
end
/-! ### blocks and small statements -/
section
variable {X : Cx} {st : Stmt} {rest : List Stmt} {t u : TS} {e : Expr} {te : TE} {pos : Pos}
def tNext : TS := fun D σ H => D.nx σ H
def tSeq (t u : TS) : TS := fun D σ H => t { D with nx := u D } σ H
theorem pss_nil : PSs X [] tNext := fun _ _ σ H _ I h => wpAny_execs_nil ⟨σ, H, I, h⟩
theorem pss_cons (h1 : PS X st t) (h2 : PSs X rest u) : PSs X (st :: rest) (tSeq t u) := by
  intro pins s σ H D I h
  refine wpAny_execs_cons (thn (h1 pins s σ H { D with nx := u D } I h) fun f s1 q => ?_)
  cases f with
  | next =>
    obtain ⟨σ', H', I', q⟩ := q
    exact h2 pins s1 σ' H' D I' q
  | ret v => exact q
  | brk => exact q
  | cont => exact q
theorem pss_one (h1 : PS X st t) : PSs X [st] t := by
  intro pins s σ H D I h
  refine wpAny_execs_cons (thn (h1 pins s σ H D I h) fun f s1 q => ?_)
  cases f with
  | next => exact wpAny_execs_nil q
  | ret v => exact q
  | brk => exact q
  | cont => exact q
/-- in a def's body nothing is shown -/
theorem Inv.quiet {pins : List (Addr × Obj)} {σ : St} {H : Hp} {s : Shared} (I : Inv X pins σ H s) : interactive X.env = false := by simp [interactive, I.ok.kind]
/-- an expression whose value is dropped -/
def tDrop (te : TE) : TS := fun D σ H => te σ H fun _ H1 => D.nx σ H1
theorem ps_expr (he : PE X e te) (hs : swapsWith e none pos.line X.env = pure false := by rfl) : PS X (.Expr e pos) (tDrop te) := by
  intro pins s σ H D I h
  exact wpAny_Expr_any (thn (he pins s σ H _ I h) fun v s1 ⟨x, H1, I1, r1, q1⟩ => ⟨σ, H1, I1, q1⟩) I.quiet hs
def tRet (te : TE) : TS := fun D σ H => te σ H D.rt
theorem ps_ret (he : PE X e te) : PS X (.Return (some e) pos) (tRet te) := by
  intro pins s σ H D I h
  exact wpAny_Return_some (thn (he pins s σ H _ I h) fun v s1 ⟨x, H1, I1, r1, q1⟩ => ⟨x, σ, H1, I1, r1, q1⟩)
def tRetN : TS := fun D _ H => D.rt .non H
theorem ps_retN : PS X (.Return none pos) tRetN := fun _ _ σ H _ I h => wpAny_Return_none ⟨.non, σ, H, I, rfl, h⟩
def tIfS (c : TT) (t u : TS) : TS := fun D σ H => c σ H fun b H1 => if b = true then t D σ H1 else u D σ H1
theorem ps_if {c : Expr} {a b : List Stmt} {tc : TT} (hc : PT X c tc) (ha : PSs X a t) (hb : PSs X b u) : PS X (.If c a b pos) (tIfS tc t u) := by
  intro pins s σ H D I h
  refine wpAny_If (thn (hc pins s σ H _ I h) fun d s1 ⟨H1, I1, q1⟩ => ?_)
  cases d with
  | true => exact ha pins s1 σ H1 D I1 q1
  | false => exact hb pins s1 σ H1 D I1 q1
end
/-! ### targets -/
abbrev TG := V → St → Hp → (St → Hp → Prop) → Prop
abbrev TGs := List V → St → Hp → (St → Hp → Prop) → Prop
def PG (X : Cx) (target : Expr) (t : TG) : Prop :=
  ∀ (pins : List (Addr × Obj)) (s : Shared) (σ : St) (H : Hp) (v : V) (u : Value) (Q : St → Hp → Prop), Inv X pins σ H s → RelV v u → t v σ H Q →
    wpAny (model X.prog X.w) X.A (assign target X.env u) (fun _ s' => ∃ σ' H', Inv X pins σ' H' s' ∧ Q σ' H') X.xe s
/-- several targets, one after another -/
def PGs (X : Cx) (ts : List Expr) (t : TGs) : Prop :=
  ∀ (pins : List (Addr × Obj)) (s : Shared) (σ : St) (H : Hp) (vs : List V) (us : List Value) (Q : St → Hp → Prop), Inv X pins σ H s → Vals vs us → t vs σ H Q →
    wpAny (model X.prog X.w) X.A (assignInOrder ((assignEach ts X.env).map (·.2)) us) (fun _ s' => ∃ σ' H', Inv X pins σ' H' s' ∧ Q σ' H') X.xe s
/-- o[i] = v, by values -/
abbrev TSet := V → V → V → Hp → (Hp → Prop) → Prop
def PSet (X : Cx) (t : TSet) : Prop :=
  ∀ (pins : List (Addr × Obj)) (s : Shared) (σ : St) (H : Hp) (o i v : V) (ov iv u : Value) (Q : Hp → Prop), Inv X pins σ H s → RelV o ov → RelV i iv → RelV v u → t o i v H Q →
    wpAny (model X.prog X.w) X.A (setItem ov iv u) (fun _ s' => ∃ H', Inv X pins σ H' s' ∧ Q H') X.xe s
section
variable {X : Cx} {pos : Pos}
def gName (i : Nat) : TG := fun v σ H Q => Q (σ.set i (some v)) H
theorem pg_name {i : Nat} {x : Str} (hN : X.N.Nodup) (hi : X.N[i]? = some x) (hx : Loc X.env.scope x) (hf : X.fn x = true ∨ X.env.scope.names.lookup x = some .local := by first | exact .inl rfl | exact .inr rfl | assumption) : PG X (.Name x pos) (gName i) := by
  intro pins s σ H v u Q I r h
  exact wpAny_assign_Name (store_ok I hN hi hx r (fun s' I' => ⟨_, H, I', h⟩) hf)
def gNil : TGs := fun vs σ H Q => vs = [] ∧ Q σ H
def gCons (t : TG) (u : TGs) : TGs := fun vs σ H Q => ∃ v r, vs = v :: r ∧ t v σ H fun σ' H' => u r σ' H' Q
theorem pgs_nil : PGs X [] gNil := by
  intro pins s σ H vs us Q I r h
  obtain ⟨e, h⟩ := h
  subst e
  cases r
  exact assignInOrder_nil ⟨σ, H, I, h⟩
theorem pgs_cons {e : Expr} {es : List Expr} {t : TG} {u : TGs} (h1 : PG X e t) (h2 : PGs X es u)
    (hs : (assignEach (e :: es) X.env).map (·.2) = assign e X.env :: (assignEach es X.env).map (·.2) := by rfl) : PGs X (e :: es) (gCons t u) := by
  intro pins s σ H vs us Q I r h
  obtain ⟨v, vr, e1, h⟩ := h
  subst e1
  cases r with
  | cons r rr =>
    rw [hs]
    refine assignInOrder_cons (thn (h1 pins s σ H _ _ _ I r h) fun _ s1 ⟨σ1, H1, I1, q1⟩ => ?_)
    exact h2 pins s1 σ1 H1 _ _ Q I1 rr q1
/-- (a, b, ..) = a tuple of that length -/
def gTup (K : PySem.W.Frag) (n : Nat) (t : TGs) : TG := fun v σ H Q => ∃ a xs, v = .ref a ∧ SqT K H a xs ∧ xs.length = n ∧ t xs σ H Q
theorem pg_tup {es : List Expr} {k : Nat} {t : TGs} {n : Nat} (hc : X.calm = true) (h : PGs X es t)
    (hn : (assignEach es X.env).length = n := by rfl) (hst : (assignEach es X.env).findIdx? (·.1) = none := by rfl) : PG X (.Tuple es k pos) (gTup X.K n t) := by
  intro pins s σ H v u Q I r hw
  obtain ⟨a, xs, e1, hq, hl, hw⟩ := hw
  subst e1
  cases r
  obtain ⟨its, rv, ht, hz⟩ := I.tuple hq
  refine assign_Tuple_tuple (I.ok.hd hc) ht (by simp [hn, ← hl, rv.length]) hst fun h' hx => ?_
  have I1 : Inv X pins σ H { s with heap := h' } := I.kept (t' := s.toks) fun b o e => hx b o (Nat.ne_of_lt (Heap.lt_size e)) e
  exact h pins _ σ H xs _ Q I1 (by simpa using rv) hw
/-- o[i] = .. -/
def gSub (to ti : TE) (t : TSet) : TG := fun v σ H Q => to σ H fun o H1 => ti σ H1 fun i H2 => t o i v H2 fun H3 => Q σ H3
theorem pg_sub {o i : Expr} {to ti : TE} {t : TSet} (ho : PE X o to) (hi : PE X i ti) (hs : PSet X t)
    (ha : ∀ v, assign (.Subscript o i pos) X.env v = (do
      let ov ← holding [v] (eval o X.env)
      let iv ← holding [v, ov] (eval i X.env)
      standAt pos
      holding [v, ov, iv] (setItem ov iv v)
      release [v, ov, iv] []) := by intro _; rfl) : PG X (.Subscript o i pos) (gSub to ti t) := by
  intro pins s σ H v u Q I r h
  rw [ha]
  refine wpAny_bind (wpAny_holding (thn (ho pins s σ H _ I h) fun ov s1 ⟨x, H1, I1, r1, q1⟩ => ?_))
  refine wpAny_bind (wpAny_holding (thn (hi pins s1 σ H1 _ I1 q1) fun iv s2 ⟨y, H2, I2, r2, q2⟩ => ?_))
  refine wpAny_bind (wpAny_standAt (wpAny_bind (wpAny_holding (thn (hs pins s2 σ H2 x y v ov iv u _ I2 r1 r2 r q2) fun _ s3 ⟨H3, I3, q3⟩ => ?_))))
  exact wpAny_release ⟨σ, H3, I3, q3⟩
/-- target = value -/
def tAsg (te : TE) (g : TG) : TS := fun D σ H => te σ H fun x H1 => g x σ H1 D.nx
theorem ps_asg {tg e : Expr} {te : TE} {g : TG} (he : PE X e te) (hg : PG X tg g) (hs : swapsWithSole [tg] e pos.line X.env = pure false := by rfl) (hw : swappedStores [tg] e X.env = pure none := by rfl)
    (h1 : (assignEach [tg] X.env).map (·.2) = [assign tg X.env] := by rfl) : PS X (.Assign [tg] e pos) (tAsg te g) := by
  intro pins s σ H D I h
  refine wpAny_Assign_stores (thn (he pins s σ H _ I h) fun v s1 ⟨x, H1, I1, r1, q1⟩ => ?_) hs hw
  rw [h1]
  exact thn (hg pins s1 σ H1 x v _ I1 r1 q1) fun _ s2 q => q
/-- name = value -/
theorem ps_set {i : Nat} {x : Str} {e : Expr} {te : TE} {pos' : Pos} (hN : X.N.Nodup) (hi : X.N[i]? = some x) (hx : Loc X.env.scope x) (he : PE X e te) (hs : swapsWith e (some (.Name x pos')) pos.line X.env = pure false := by rfl) (hf : X.fn x = true ∨ X.env.scope.names.lookup x = some .local := by first | exact .inl rfl | exact .inr rfl | assumption) :
    PS X (.Assign [.Name x pos'] e pos) (tAsg te (gName i)) := by
  intro pins s σ H D I h
  refine wpAny_Assign_Name (thn (he pins s σ H _ I h) fun v s1 ⟨y, H1, I1, r1, q1⟩ => ?_) hs
  exact store_ok I1 hN hi hx r1 (fun s2 I2 => ⟨_, H1, I2, q1⟩) hf
end
/-! ### while -/
section
variable {X : Cx} {pos : Pos}
/-- the invariant W with its measure -/
def tWhile (c : TT) (tb : TS) : TS := fun D σ H => ∃ W : Nat → St → Hp → Prop, (∃ m, W m σ H) ∧ ∀ m σ H, W m σ H →
  c σ H fun b H1 => if b = true then ∃ N : St → Hp → Prop, (∀ σ' H', N σ' H' → ∃ m', m' < m ∧ W m' σ' H') ∧ tb { D with nx := N, ct := N, bk := D.nx } σ H1 else D.nx σ H1
theorem ps_while {c : Expr} {body : List Stmt} {tc : TT} {tb : TS} (hp : PassesOwn (model X.prog X.w) X.A X.env X.xe) (hc : PT X c tc) (hb : PSs X body tb) : PS X (.While c body [] pos) (tWhile tc tb) := by
  intro pins s σ H D I h
  obtain ⟨W, ⟨m0, w0⟩, turn⟩ := h
  refine wpAny_While (codeAny_whileLoop (fun n s' => ∃ σ' H', Inv X pins σ' H' s' ∧ W n σ' H') ?_ m0 ⟨σ, H, I, w0⟩)
  rintro n s1 ⟨σ1, H1, I1, w1⟩
  refine wpAny_passesOwn hp (thn (hc pins s1 σ1 H1 _ I1 (turn n σ1 H1 w1)) fun b s2 ⟨H2, I2, q2⟩ => ?_)
  cases b with
  | true =>
    obtain ⟨N, hN, q2⟩ := q2
    rw [if_pos rfl]
    refine wpAny_passesOwn hp (thn (hb pins s2 σ1 H2 _ I2 q2) fun f s3 q3 => ?_)
    cases f with
    | next =>
      obtain ⟨σ3, H3, I3, n3⟩ := q3
      obtain ⟨m', hm, w3⟩ := hN σ3 H3 n3
      exact ⟨m', hm, σ3, H3, I3, w3⟩
    | cont =>
      obtain ⟨σ3, H3, I3, n3⟩ := q3
      obtain ⟨m', hm, w3⟩ := hN σ3 H3 n3
      exact ⟨m', hm, σ3, H3, I3, w3⟩
    | brk => exact q3
    | ret v => exact q3
  | false =>
    rw [if_neg Bool.false_ne_true]
    exact wpAny_execs_nil ⟨σ1, H2, I2, q2⟩
end
/-! ### what a loop or a comprehension walks -/
/-- at turn i: it yields x (the heap may grow), or it stops -/
structure It where
  go : Nat → Hp → Prop
  yld : Nat → Hp → V → Hp → Prop
  stop : Nat → Hp → Prop
/-- the iterator's own objects may turn: they are not the frame's, not pinned, younger than the entry (or a comprehension's own) -/
def FpOk (X : Cx) (pins : List (Addr × Obj)) (H : Hp) (b : Addr) : Prop :=
  H b = none ∧ b ≠ X.env.locals ∧ b ∉ X.fs ∧ (b ∈ X.ex ∨ X.s₀.heap.objs.size ≤ b) ∧ (∀ x c, X.env.cells.lookup x = some c → c ≠ b) ∧ ∀ p ∈ X.pn ++ pins, p.1 ≠ b
theorem Inv.fpOk {X : Cx} {pins : List (Addr × Obj)} {σ : St} {H H' : Hp} {s : Shared} {b : Addr} (I : Inv X pins σ H s) (hb : s.heap.objs.size ≤ b) (hn : H' b = none) : FpOk X pins H' b := by
  refine ⟨hn, Nat.ne_of_gt (Nat.lt_of_lt_of_le I.lt hb), I.nofs hb, .inr (Nat.le_trans I.sz hb), fun x c e z => ?_, fun p hp z => ?_⟩
  · obtain ⟨v, q⟩ := I.cell x c e
    exact absurd (Nat.lt_of_lt_of_le q.lt (by rw [z]; exact hb)) (Nat.lt_irrefl _)
  · exact absurd (Nat.lt_of_lt_of_le (Heap.lt_size (I.pin p hp).1) (by rw [z]; exact hb)) (Nat.lt_irrefl _)
structure Turn (P : Program) (w : World) (K : PySem.W.Frag) (tg : Expr) (J : It) (fp : List Addr) (it : Addr) (tn : Nat → Heap → Prop) : Prop where
  mem : it ∈ fp
  obj : ∀ i h, tn i h → ∀ b ∈ fp, ∃ o, h.get? b = some o ∧ ∀ v, o.data ≠ .cell v
  keep : ∀ i h h', tn i h → (∀ b ∈ fp, ∀ o, h.get? b = some o → h'.get? b = some o) → tn i h'
  item : ∀ (X : Cx), X.prog = P → X.w = w → X.K = K → X.calm = true → ∀ (i : Nat) (pins : List (Addr × Obj)) (s : Shared) (σ : St) (H : Hp) (E : Value → Shared → Prop), Inv X pins σ H s → (∀ b ∈ fp, FpOk X pins H b) → tn i s.heap → J.go i H →
    wpAny (model P w) X.A (pyNext (.ref it)) (fun r s1 => ∃ u, r = some u ∧
      wpAny (model P w) X.A (letOwnedTupleGo tg (.ref it) u) (fun _ s2 => ∃ x H', Inv X pins σ H' s2 ∧ RelV x u ∧ J.yld i H x H' ∧ tn (i + 1) s2.heap ∧ ∀ b ∈ fp, H' b = none) E s1) E s
  done : ∀ (X : Cx), X.prog = P → X.w = w → X.K = K → X.calm = true → ∀ (i : Nat) (pins : List (Addr × Obj)) (s : Shared) (σ : St) (H : Hp) (E : Value → Shared → Prop), Inv X pins σ H s → (∀ b ∈ fp, FpOk X pins H b) → tn i s.heap → J.stop i H →
    wpAny (model P w) X.A (pyNext (.ref it)) (fun r s1 => r = none ∧ Inv X pins σ H s1) E s
  self : ∀ (A : Around) (i : Nat) (s : Shared) (Q : Value → Shared → Prop) (E : Value → Shared → Prop), tn i s.heap → Q (.ref it) s → wpAny (model P w) A (pyIter (.ref it)) Q E s
abbrev TI := St → Hp → (It → Hp → Prop) → Prop
/-- an iterator has come -/
def PIE (X : Cx) (pins : List (Addr × Obj)) (σ : St) (tg : Expr) (R : It → Hp → Prop) (itv : Value) (s2 : Shared) : Prop :=
  ∃ (it : Addr) (fp : List Addr) (tn : Nat → Heap → Prop) (J : It) (H' : Hp), itv = .ref it ∧ Inv X pins σ H' s2 ∧ Turn X.prog X.w X.K tg J fp it tn ∧ tn 0 s2.heap ∧ (∀ b ∈ fp, FpOk X pins H' b) ∧ R J H'
def PI (X : Cx) (tg iter : Expr) (wi : TI) : Prop :=
  ∀ (pins : List (Addr × Obj)) (s : Shared) (σ : St) (H : Hp) (R : It → Hp → Prop), Inv X pins σ H s → wi σ H R →
    wpAny (model X.prog X.w) X.A (eval iter X.env) (fun v s1 => wpAny (model X.prog X.w) X.A (pyIter v) (PIE X pins σ tg R) X.xe s1) X.xe s
/-- the step ahead of the store is nothing for an iterator that keeps no tuple -/
theorem go_of {M : Model} {A : Around} {E : Value → Shared → Prop} {s : Shared} {tg : Expr} {it : Addr} {u : Value} {o : Obj} {n : String} {vs : Array Value} {Q : Unit → Shared → Prop} (ho : s.heap.get? it = some o) (hc : o.cls = .type n) (hd : o.data = .fields vs)
    (hn : ["enumerate", "zip", "dict_itemiterator", "dict_reverseitemiterator", "odict_iterator", "itertools.zip_longest", "itertools.pairwise"].contains n = false) (hQ : Q () s) : wpAny M A (letOwnedTupleGo tg (.ref it) u) Q E s := by
  unfold letOwnedTupleGo
  cases tg <;> first
    | exact wpAny_pure hQ
    | (cases u <;> first
        | exact wpAny_pure hQ
        | (refine wpAny_bind (wpAny_load ho ?_)
           rw [hc, hd]
           show wpAny M A (if (["enumerate", "zip", "dict_itemiterator", "dict_reverseitemiterator", "odict_iterator", "itertools.zip_longest", "itertools.pairwise"].contains n && vs[0]? == some (rawInt _)) = true then _ else _) Q E s
           rw [if_neg (by intro h; rw [hn, Bool.false_and] at h; cases h)]
           exact wpAny_pure hQ))
/-- the list at a, as it stands at each turn (a loop may append to it) -/
def Itl (K : PySem.W.Frag) (a : Addr) : It :=
  ⟨fun i H => ∃ xs x, SqL K H a xs ∧ xs[i]? = some x, fun i H x H' => H' = H ∧ ∀ xs, SqL K H a xs → xs[i]? = some x, fun i H => ∃ xs, SqL K H a xs ∧ xs.length ≤ i⟩
/-- lo, lo + 1, .. (n of them) -/
def Itr (lo : Int) (n : Nat) : It := ⟨fun i _ => i < n, fun i H x H' => H' = H ∧ x = .int (lo + i), fun i _ => n ≤ i⟩
theorem turn_list {P : Program} {w : World} {K : PySem.W.Frag} {tg : Expr} (a it : Addr) : Turn P w K tg (Itl K a) [it] it (fun i h => h.IsListIter it a i) where
  mem := by simp
  obj := fun i h st b hb => by
    have e : b = it := by simpa using hb
    subst e
    obtain ⟨o, e, c, d⟩ := st
    exact ⟨o, e, fun v z => by rw [d] at z; cases z⟩
  keep := fun i h h' st k => st.at fun o e => k it (by simp) o e
  item := by
    intro X hP hw hK hc i pins s σ H E I hf st hg
    subst hP hw hK
    obtain ⟨xs, x, hq, hx⟩ := hg
    obtain ⟨its, rv, p, hz⟩ := I.list hq
    obtain ⟨u, hu, ru⟩ := rv.get hx
    obtain ⟨f0, f1, f2, f3, f4, f5⟩ := hf it (by simp)
    refine wpAny_pyNext_list_item st p.isList (x := u) (by simpa using hu) fun h' st' sb => ?_
    have I1 : Inv X pins σ H { s with heap := h' } := I.turned (t' := s.toks) (fun b o hb e => (sb.2 b hb).trans e) f0 f1 f3 f4 f5
    obtain ⟨o, e, c, d⟩ := id st'
    exact ⟨u, rfl, go_of (s := { s with heap := h' }) e c d (by decide) ⟨x, H, I1, ru, ⟨rfl, fun ys hy => by rw [I.list_inj hy hq]; exact hx⟩, st', fun b hb => (hf b hb).1⟩⟩
  done := by
    intro X hP hw hK hc i pins s σ H E I hf st hg
    subst hP hw hK
    obtain ⟨xs, hq, hx⟩ := hg
    obtain ⟨its, rv, p, hz⟩ := I.list hq
    obtain ⟨f0, f1, f2, f3, f4, f5⟩ := hf it (by simp)
    have hl := rv.length
    exact wpAny_pyNext_list_end (I.ok.hd hc) st p.isList (by simp; omega) fun h' eb => ⟨rfl, I.turned (t' := s.toks) (fun b o hb e => eb b o hb e) f0 f1 f3 f4 f5⟩
  self := fun _ _ _ _ _ st h => wpAny_pyIter_listiter st h
theorem turn_range {P : Program} {w : World} {K : PySem.W.Frag} {tg : Expr} (it : Addr) (lo : Int) (n : Nat) : Turn P w K tg (Itr lo n) [it] it (fun i h => IsRangeIter h it (lo + (i : Nat) * 1) ((n : Int) - (i : Nat)) 1) where
  mem := by simp
  obj := fun i h st b hb => by
    have e : b = it := by simpa using hb
    subst e
    exact ⟨_, st, fun v z => by
      have z' : Data.fields _ = Data.cell v := z
      cases z'⟩
  keep := fun i h h' st k => k it (by simp) _ st
  item := by
    intro X hP hw hK hc i pins s σ H E I hf st hg
    subst hP hw hK
    obtain ⟨f0, f1, f2, f3, f4, f5⟩ := hf it (by simp)
    have W := Walks.range (prog := X.prog) (w := X.w) (I.ok.hd hc) it lo 1 n
    refine W.item i s _ _ hg st fun v h' tk hv st' kk => ?_
    obtain ⟨t, rfl⟩ := hv
    have I1 : Inv X pins σ H { s with heap := h', toks := tk } := I.turned (fun b o hb e => kk b o (by simpa using hb) e) f0 f1 f3 f4 f5
    refine ⟨_, rfl, go_of (s := { s with heap := h', toks := tk }) (n := "range_iterator") st' rfl rfl (by decide) ⟨.int (lo + i), H, I1, ⟨t, ?_⟩, ⟨rfl, rfl⟩, st', fun b hb => (hf b hb).1⟩⟩
    rw [Int.mul_one]
  done := by
    intro X hP hw hK hc i pins s σ H E I hf st hg
    subst hP hw hK
    obtain ⟨f0, f1, f2, f3, f4, f5⟩ := hf it (by simp)
    exact wpAny_pyNext_range_end (I.ok.hd hc) st (by have : n ≤ i := hg; omega) fun h' eb => ⟨rfl, I.turned (t' := s.toks) (fun b o hb e => eb b o hb e) f0 f1 f3 f4 f5⟩
  self := fun _ _ _ _ _ st h => wpAny_pyIter_rangeiter st h
end L2
namespace L2
open PySem PySem.Spec PyProof.Rows
section
variable {X : Cx} {tg : Expr}
def iList (K : PySem.W.Frag) (tl : TE) : TI := fun σ H R => tl σ H fun x H1 => ∃ a, x = .ref a ∧ (∃ xs, SqL K H1 a xs) ∧ R (Itl K a) H1
theorem pi_list {l : Expr} {tl : TE} (hl : PE X l tl) : PI X tg l (iList X.K tl) := by
  intro pins s σ H R I h
  refine thn (hl pins s σ H _ I h) fun v s1 ⟨x, H1, I1, r1, q1⟩ => ?_
  obtain ⟨a, e, ⟨xs, hq⟩, q⟩ := q1
  subst e
  cases r1
  obtain ⟨its, rv, p, hz⟩ := I1.list hq
  refine wpAny_pyIter_list p.isList ?_
  refine ⟨s1.heap.objs.size, [s1.heap.objs.size], _, _, H1, rfl, I1.kept (t' := s1.toks) fun b o e => Heap.get?_push_of_some _ e, turn_list a _, ⟨_, Heap.get?_push_size _ rfl, rfl, rfl⟩, fun b hb => ?_, q⟩
  have e : b = s1.heap.objs.size := by simpa using hb
  subst e
  exact I1.fpOk (Nat.le_refl _) (I1.hok.fresh (Nat.le_refl _))
/-- a range object just made, walked -/
theorem range_it {pins : List (Addr × Obj)} {σ : St} {H : Hp} {s : Shared} {R : It → Hp → Prop} {E : Value → Shared → Prop} {lo hi : Int} {t u v : Tok} {tk : Nat} (I : Inv X pins σ H s) (h1 : -(2 ^ 62) ≤ lo) (h2 : lo < 2 ^ 62) (h3 : -(2 ^ 62) ≤ hi) (h4 : hi < 2 ^ 62)
    (q : R (Itr lo (hi - lo).toNat) H) : wpAny (model X.prog X.w) X.A (pyIter (.ref s.heap.objs.size)) (PIE X pins σ tg R) E { s with heap := s.heap.push { cls := .type "range", data := .fields #[.int lo t, .int hi u, .int 1 v] }, toks := tk } := by
  refine wpAny_pyIter_range (IsRange.new ..) (small_one h1 h2 h3 h4) ?_
  have I1 : Inv X pins σ H { s with heap := s.heap.push { cls := .type "range", data := .fields #[.int lo t, .int hi u, .int 1 v] }, toks := tk } := I.kept fun b o e => Heap.get?_push_of_some _ e
  refine ⟨(s.heap.push { cls := .type "range", data := .fields #[.int lo t, .int hi u, .int 1 v] }).objs.size, [(s.heap.push { cls := .type "range", data := .fields #[.int lo t, .int hi u, .int 1 v] }).objs.size], _, _, H, rfl,
    I1.kept (t' := tk) fun b o e => Heap.get?_push_of_some _ e, turn_range _ lo (hi - lo).toNat, ?_, fun b hb => ?_, q⟩
  · have e1 : lo + ((0 : Nat) : Int) * 1 = lo := by simp
    have e2 : (((hi - lo).toNat : Nat) : Int) - ((0 : Nat) : Int) = Builtin.Range.rangeSize lo hi 1 := by rw [rangeSize_one]; split <;> omega
    show IsRangeIter _ _ (lo + ((0 : Nat) : Int) * 1) ((((hi - lo).toNat : Nat) : Int) - ((0 : Nat) : Int)) 1
    rw [e1, e2]
    exact Heap.get?_push_size _ rfl
  · have e : b = (s.heap.push { cls := .type "range", data := .fields #[.int lo t, .int hi u, .int 1 v] }).objs.size := by simpa using hb
    subst e
    exact I1.fpOk (Nat.le_refl _) (I1.hok.fresh (Nat.le_refl _))
def iRng1 (ta : TA) : TI := fun σ H R => ta σ H fun vs H1 => ∃ j : Int, vs = [.int j] ∧ -(2 ^ 62) ≤ j ∧ j < 2 ^ 62 ∧ R (Itr 0 j.toNat) H1
theorem pi_range1 {a : Expr} {ta : TA} {p pos : Pos} (hg : Gl X "range") (hm : X.mg "range" = none) (ha : PA X [a] ta) (hs : starEach [a] X.env = [(false, eval a X.env)] := by rfl) : PI X tg (.Call (.Name "range" p) [a] [] pos) (iRng1 ta) := by
  intro pins s σ H R I h
  refine Call_ (ld_blt I hg hm boot_range (PyProof.Rows.callWith_type1 (thn (ha pos pins s σ H _ I h) fun us s1 ⟨vs, H1, I1, r1, q1⟩ => ?_) hs rfl))
  obtain ⟨j, e, q1, q2, q⟩ := q1
  subst e
  cases r1 with
  | cons r rr =>
    cases rr
    obtain ⟨t, rfl⟩ := r
    exact call_range_1 (range_it I1 (by omega) (by omega) q1 q2 (by simpa using q))
/-! ### for -/
/-- W: the invariant by the turn and a measure; N: what the body is to reach -/
def tFor (wi : TI) (g : TG) (tb : TS) : TS := fun D σ H => wi σ H fun J H1 => ∃ W : Nat → Nat → St → Hp → Prop, (∃ m, W 0 m σ H1) ∧ ∀ i m σ H, W i m σ H →
  (J.stop i H ∧ D.nx σ H) ∨ (J.go i H ∧ ∃ N : St → Hp → Prop, (∀ σ' H', N σ' H' → ∃ m', m' < m ∧ W (i + 1) m' σ' H') ∧ ∀ x H', J.yld i H x H' → g x σ H' fun σ2 H2 => tb { D with nx := N, ct := N, bk := D.nx } σ2 H2)
/-- the records at fp as they stand -/
def pinsAt (fp : List Addr) (h : Heap) : List (Addr × Obj) := fp.filterMap fun b => (h.get? b).map fun o => (b, o)
theorem mem_pinsAt {fp : List Addr} {h : Heap} {b : Addr} {o : Obj} (hb : b ∈ fp) (e : h.get? b = some o) : (b, o) ∈ pinsAt fp h := List.mem_filterMap.mpr ⟨b, hb, by rw [e]; rfl⟩
theorem of_pinsAt {fp : List Addr} {h : Heap} {p : Addr × Obj} (hp : p ∈ pinsAt fp h) : p.1 ∈ fp ∧ h.get? p.1 = some p.2 := by
  obtain ⟨b, hb, e⟩ := List.mem_filterMap.mp hp
  cases q : h.get? b with
  | none => rw [q] at e; cases e
  | some o =>
    rw [q] at e
    have e' : (b, o) = p := Option.some.inj e
    subst e'
    exact ⟨hb, q⟩
theorem Inv.pinned {pins : List (Addr × Obj)} {σ : St} {H : Hp} {s : Shared} {fp : List Addr} (I : Inv X pins σ H s) (hf : ∀ b ∈ fp, FpOk X pins H b) (ho : ∀ b ∈ fp, ∃ o, s.heap.get? b = some o ∧ ∀ v, o.data ≠ .cell v) : Inv X (pins ++ pinsAt fp s.heap) σ H s :=
  I.pins_of fun p hp => (List.mem_append.mp hp).elim (fun z => I.pin p (List.mem_append_right _ z)) fun z => by
    obtain ⟨hb, e⟩ := of_pinsAt z
    obtain ⟨f0, f1, f2, _⟩ := hf p.1 hb
    obtain ⟨o, e', d⟩ := ho p.1 hb
    rw [e] at e'; cases e'
    exact ⟨e, f0, f1, f2, d⟩
theorem Inv.unpinned {pins pl : List (Addr × Obj)} {σ : St} {H : Hp} {s : Shared} (I : Inv X (pins ++ pl) σ H s) : Inv X pins σ H s := I.pins_of fun p hp => I.pin p (List.mem_append_right _ (List.mem_append_left _ hp))
theorem ps_for {iter : Expr} {body : List Stmt} {wi : TI} {g : TG} {tb : TS} {pos : Pos} (hp : PassesOwn (model X.prog X.w) X.A X.env X.xe) (hc : X.calm = true) (hi : PI X tg iter wi) (hg : PG X tg g) (hb : PSs X body tb)
    (hs : ∀ x, foldedSetIterable iter X.env x = pure x := by intro _; rfl) : PS X (.For tg iter body [] pos) (tFor wi g tb) := by
  intro pins s σ H D I h
  refine wpAny_For (thn (hi pins s σ H _ I h) fun v s1 h1 => thn h1 fun itv s2 h2 => ?_) hs
  obtain ⟨it, fp, tn, J, H2, e, I2, T, st2, f2, W, ⟨m0, w0⟩, turn⟩ := h2
  subst e
  -- what stays true of the iterator's objects through the loop
  have stat : ∀ {H' : Hp}, (∀ b ∈ fp, H' b = none) → ∀ b ∈ fp, FpOk X pins H' b := fun hn b hb => ⟨hn b hb, (f2 b hb).2⟩
  refine codeAny_forLoop_any (fun n s' => ∃ i σ' H', Inv X pins σ' H' s' ∧ tn i s'.heap ∧ (∀ b ∈ fp, H' b = none) ∧ W i n σ' H') ?_ m0 ⟨0, σ, H2, I2, st2, fun b hb => (f2 b hb).1, w0⟩
  rintro n s3 ⟨i, σ3, H3, I3, st3, fr3, w3⟩
  rcases turn i n σ3 H3 w3 with ⟨stop, qn⟩ | ⟨go, N, hN, step⟩
  · refine wpAny_passesOwn hp (thn (T.done X rfl rfl rfl hc i pins s3 σ3 H3 X.xe I3 (stat fr3) st3 stop) fun r s4 ⟨hr, I4⟩ => ?_)
    subst hr
    exact wpAny_execs_nil ⟨σ3, H3, I4, qn⟩
  · refine wpAny_passesOwn hp (thn (T.item X rfl rfl rfl hc i pins s3 σ3 H3 X.xe I3 (stat fr3) st3 go) fun r s4 ⟨u, hr, h4⟩ => ?_)
    subst hr
    refine wpAny_passesOwn hp (thn h4 fun _ s5 ⟨x, H5, I5, r5, y5, st5, fr5⟩ => ?_)
    have I5' := I5.pinned (stat fr5) (T.obj _ _ st5)
    refine wpAny_passesOwn hp (thn (hg _ s5 σ3 H5 x u _ I5' r5 (step x H5 y5)) fun _ s6 ⟨σ6, H6, I6, q6⟩ => ?_)
    refine wpAny_passesOwn hp (thn (hb _ s6 σ6 H6 _ I6 q6) fun f s7 q7 => ?_)
    have again : ∀ {σ7 : St} {H7 : Hp}, Inv X (pins ++ pinsAt fp s5.heap) σ7 H7 s7 → N σ7 H7 → ∃ m, m < n ∧ ∃ i σ' H', Inv X pins σ' H' s7 ∧ tn i s7.heap ∧ (∀ b ∈ fp, H' b = none) ∧ W i m σ' H' := fun {σ7 H7} I7 n7 => by
      obtain ⟨m', hm, w7⟩ := hN σ7 H7 n7
      refine ⟨m', hm, i + 1, σ7, H7, I7.unpinned, T.keep _ _ _ st5 fun b hb o e => (I7.pin (b, o) (List.mem_append_right _ (List.mem_append_right _ (mem_pinsAt hb e)))).1, fun b hb => ?_, w7⟩
      obtain ⟨o, e, d⟩ := T.obj _ _ st5 b hb
      exact (I7.pin (b, o) (List.mem_append_right _ (List.mem_append_right _ (mem_pinsAt hb e)))).2.1
    cases f with
    | next => obtain ⟨σ7, H7, I7, n7⟩ := q7; exact again I7 n7
    | cont => obtain ⟨σ7, H7, I7, n7⟩ := q7; exact again I7 n7
    | brk => obtain ⟨σ7, H7, I7, q7⟩ := q7; exact ⟨σ7, H7, I7.unpinned, q7⟩
    | ret v => obtain ⟨x7, σ7, H7, I7, r7, q7⟩ := q7; exact ⟨x7, σ7, H7, I7.unpinned, r7, q7⟩
end
/-! ### the forms one uses -/
/-- over a list that the body leaves as it is -/
theorem for_list {K : PySem.W.Frag} {a : Addr} {xs : List V} {g : TG} {tb : TS} {D : Ends} {σ : St} {H : Hp} (Pv : Nat → St → Hp → Prop) (h0 : Pv 0 σ H) (hl : ∀ i σ H, i ≤ xs.length → Pv i σ H → SqL K H a xs)
    (hs : ∀ i x σ H, xs[i]? = some x → Pv i σ H → g x σ H fun σ2 H2 => tb { D with nx := Pv (i + 1), ct := Pv (i + 1), bk := D.nx } σ2 H2) (hd : ∀ σ H, Pv xs.length σ H → D.nx σ H) :
    ∃ W : Nat → Nat → St → Hp → Prop, (∃ m, W 0 m σ H) ∧ ∀ i m σ H, W i m σ H →
      ((Itl K a).stop i H ∧ D.nx σ H) ∨ ((Itl K a).go i H ∧ ∃ N : St → Hp → Prop, (∀ σ' H', N σ' H' → ∃ m', m' < m ∧ W (i + 1) m' σ' H') ∧ ∀ x H', (Itl K a).yld i H x H' → g x σ H' fun σ2 H2 => tb { D with nx := N, ct := N, bk := D.nx } σ2 H2) := by
  refine ⟨fun i m σ H => m = xs.length - i ∧ i ≤ xs.length ∧ Pv i σ H, ⟨xs.length, by simp, Nat.zero_le _, h0⟩, ?_⟩
  rintro i m σ H ⟨rfl, hi, p⟩
  have q := hl i σ H hi p
  by_cases hlt : i < xs.length
  · refine .inr ⟨⟨xs, xs[i], q, by simp [hlt]⟩, Pv (i + 1), fun σ' H' p' => ⟨xs.length - (i + 1), by omega, rfl, hlt, p'⟩, fun x H' y => ?_⟩
    obtain ⟨e, y⟩ := y
    subst e
    exact hs i x σ _ (y xs q) p
  · have e : i = xs.length := by omega
    subst e
    exact .inl ⟨⟨xs, q, Nat.le_refl _⟩, hd σ H p⟩
theorem for_range {lo : Int} {n : Nat} {g : TG} {tb : TS} {D : Ends} {σ : St} {H : Hp} (Pv : Nat → St → Hp → Prop) (h0 : Pv 0 σ H)
    (hs : ∀ i σ H, i < n → Pv i σ H → g (.int (lo + i)) σ H fun σ2 H2 => tb { D with nx := Pv (i + 1), ct := Pv (i + 1), bk := D.nx } σ2 H2) (hd : ∀ σ H, Pv n σ H → D.nx σ H) :
    ∃ W : Nat → Nat → St → Hp → Prop, (∃ m, W 0 m σ H) ∧ ∀ i m σ H, W i m σ H →
      ((Itr lo n).stop i H ∧ D.nx σ H) ∨ ((Itr lo n).go i H ∧ ∃ N : St → Hp → Prop, (∀ σ' H', N σ' H' → ∃ m', m' < m ∧ W (i + 1) m' σ' H') ∧ ∀ x H', (Itr lo n).yld i H x H' → g x σ H' fun σ2 H2 => tb { D with nx := N, ct := N, bk := D.nx } σ2 H2) := by
  refine ⟨fun i m σ H => m = n - i ∧ i ≤ n ∧ Pv i σ H, ⟨n, by simp, Nat.zero_le _, h0⟩, ?_⟩
  rintro i m σ H ⟨rfl, hi, p⟩
  by_cases hlt : i < n
  · refine .inr ⟨hlt, Pv (i + 1), fun σ' H' p' => ⟨n - (i + 1), by omega, rfl, hlt, p'⟩, fun x H' y => ?_⟩
    obtain ⟨e, y⟩ := y
    subst e y
    exact hs i σ _ hlt p
  · have e : i = n := by omega
    subst e
    exact .inl ⟨Nat.le_refl _, hd σ H p⟩
end L2
namespace L2
open PySem PySem.Spec PyProof.Rows
abbrev R2 := V → V → Hp → VK → Prop
/-- a two-place operation on values: f is binaryOp op, inplaceOp op or compareOp op -/
def OpR (X : Cx) (f : Value → Value → Sem Value) (r : R2) : Prop :=
  ∀ (pins : List (Addr × Obj)) (s : Shared) (σ : St) (H : Hp) (x y : V) (v u : Value) (Q : VK), Inv X pins σ H s → RelV x v → RelV y u → r x y H Q →
    wpAny (model X.prog X.w) X.A (f v u) (EP X pins σ Q) X.xe s
/-- a one-place operation -/
def UnR (X : Cx) (f : Value → Sem Value) (r : V → Hp → VK → Prop) : Prop :=
  ∀ (pins : List (Addr × Obj)) (s : Shared) (σ : St) (H : Hp) (x : V) (v : Value) (Q : VK), Inv X pins σ H s → RelV x v → r x H Q →
    wpAny (model X.prog X.w) X.A (f v) (EP X pins σ Q) X.xe s
/-- a call of a value that is known (a builtin, a type) with values -/
def CallR (X : Cx) (f : Value) (r : List V → Hp → VK → Prop) : Prop :=
  ∀ (pins : List (Addr × Obj)) (s : Shared) (σ : St) (H : Hp) (xs : List V) (us : List Value) (Q : VK), Inv X pins σ H s → Vals xs us → r xs H Q →
    wpAny (model X.prog X.w) X.A (call f us) (EP X pins σ Q) X.xe s
/-- a value's truth -/
def TruR (X : Cx) (r : V → Hp → (Bool → Hp → Prop) → Prop) : Prop :=
  ∀ (pins : List (Addr × Obj)) (s : Shared) (σ : St) (H : Hp) (x : V) (v : Value) (Q : Bool → Hp → Prop), Inv X pins σ H s → RelV x v → r x H Q →
    wpAny (model X.prog X.w) X.A (truthy v) (TP X pins σ Q) X.xe s
def tOp (r : R2) (ta tb : TE) : TE := fun σ H Q => ta σ H fun x H1 => tb σ H1 fun y H2 => r x y H2 Q
def tUn (r : V → Hp → VK → Prop) (ta : TE) : TE := fun σ H Q => ta σ H fun x H1 => r x H1 Q
/-- ints in, under C, and a value out -/
def rI (C : Int → Int → Prop) (g : Int → Int → V) : R2 := fun x y H Q => ∃ i j, x = .int i ∧ y = .int j ∧ C i j ∧ Q (g i j) H
def rI0 (g : Int → Int → V) : R2 := fun x y H Q => ∃ i j, x = .int i ∧ y = .int j ∧ Q (g i j) H
def rU (g : Int → V) : V → Hp → VK → Prop := fun x H Q => ∃ i, x = .int i ∧ Q (g i) H
section
variable {X : Cx} {a b c : Expr} {ta tb tc : TE} {pos : Pos}
theorem binT (ha : PE X a ta) (hb : PE X b tb) {pins : List (Addr × Obj)} {s : Shared} {σ : St} {H : Hp} {R : V → V → Hp → Prop} (I : Inv X pins σ H s)
    (h : ta σ H fun x H1 => tb σ H1 fun y H2 => R x y H2) {Q : Value → Shared → Prop} {f : Value → Value → Sem Value}
    (hf : ∀ v u s2 x y H2, Inv X pins σ H2 s2 → RelV x v → RelV y u → R x y H2 → wpAny (model X.prog X.w) X.A (f v u) Q X.xe s2) :
    wpAny (model X.prog X.w) X.A (eval a X.env) (fun v s₁ => wpAny (model X.prog X.w) X.A (eval b X.env) (fun u s₂ => wpAny (model X.prog X.w) X.A (f v u) Q X.xe s₂) X.xe s₁) X.xe s := by
  refine thn (ha pins s σ H _ I h) fun v s1 ⟨x, H1, I1, r1, q1⟩ => ?_
  refine thn (hb pins s1 σ H1 _ I1 q1) fun u s2 ⟨y, H2, I2, r2, q2⟩ => ?_
  exact hf v u s2 x y H2 I2 r1 r2 q2
theorem pe_op {op : Operator} {r : R2} (ho : OpR X (binaryOp op) r) (ha : PE X a ta) (hb : PE X b tb) : PE X (.BinOp a op b pos) (tOp r ta tb) := by
  intro pins s σ H Q I h
  exact wpAny_BinOp (binT ha hb I h fun v u s2 x y H2 I2 rx ry q => ho pins s2 σ H2 x y v u Q I2 rx ry q)
theorem pe_un {op : UnaryOp} {r : V → Hp → VK → Prop} (ho : UnR X (unaryOp op) r) (ha : PE X a ta) : PE X (.UnaryOp op a pos) (tUn r ta) := by
  intro pins s σ H Q I h
  exact UnaryOp_ (thn (ha pins s σ H _ I h) fun v s1 ⟨x, H1, I1, r1, q1⟩ => ho pins s1 σ H1 x v Q I1 r1 q1)
/-! ### ints -/
theorem opI {f : Value → Value → Sem Value} {C : Int → Int → Prop} {g : Int → Int → Int}
    (rule : ∀ (i j : Int) (t u : Tok) (s : Shared) (Q : Value → Shared → Prop) (E : Value → Shared → Prop), C i j → Q (.int (g i j) s.toks) { s with toks := s.toks + 1 } → wpAny (model X.prog X.w) X.A (f (.int i t) (.int j u)) Q E s) :
    OpR X f (rI C fun i j => .int (g i j)) := by
  intro pins s σ H x y v u Q I rx ry h
  obtain ⟨i, j, rfl, rfl, hc, q⟩ := h
  obtain ⟨t, rfl⟩ := rx
  obtain ⟨t', rfl⟩ := ry
  exact rule i j t t' s _ _ hc ⟨.int (g i j), H, I.tok _, ⟨_, rfl⟩, q⟩
theorem opI0 {f : Value → Value → Sem Value} {g : Int → Int → Int}
    (rule : ∀ (i j : Int) (t u : Tok) (s : Shared) (Q : Value → Shared → Prop) (E : Value → Shared → Prop), Q (.int (g i j) s.toks) { s with toks := s.toks + 1 } → wpAny (model X.prog X.w) X.A (f (.int i t) (.int j u)) Q E s) :
    OpR X f (rI0 fun i j => .int (g i j)) := by
  intro pins s σ H x y v u Q I rx ry h
  obtain ⟨i, j, rfl, rfl, q⟩ := h
  obtain ⟨t, rfl⟩ := rx
  obtain ⟨t', rfl⟩ := ry
  exact rule i j t t' s _ _ ⟨.int (g i j), H, I.tok _, ⟨_, rfl⟩, q⟩
theorem opB0 {f : Value → Value → Sem Value} {g : Int → Int → Bool}
    (rule : ∀ (i j : Int) (t u : Tok) (s : Shared) (Q : Value → Shared → Prop) (E : Value → Shared → Prop), Q (.bool (g i j)) s → wpAny (model X.prog X.w) X.A (f (.int i t) (.int j u)) Q E s) :
    OpR X f (rI0 fun i j => .bl (g i j)) := by
  intro pins s σ H x y v u Q I rx ry h
  obtain ⟨i, j, rfl, rfl, q⟩ := h
  obtain ⟨t, rfl⟩ := rx
  obtain ⟨t', rfl⟩ := ry
  exact rule i j t t' s _ _ ⟨.bl (g i j), H, I, rfl, q⟩
def CDiv (i j : Int) : Prop := 0 < j ∧ j < 1073741824
def CPow (i j : Int) : Prop := 0 ≤ j ∧ j ≤ 1000000 ∧ i.natAbs < 2 ^ 64
def CMul (i j : Int) : Prop := (-(2 ^ 64) < i ∧ i < 2 ^ 64) ∨ (-(2 ^ 64) < j ∧ j < 2 ^ 64)
theorem CMul.ok {i j : Int} (h : CMul i j) : IntMulOk i j := by
  rcases h with ⟨h1, h2⟩ | ⟨h1, h2⟩
  · exact .of_left (intBits_le_64 h1 h2)
  · exact .of_right (intBits_le_64 h1 h2)
theorem op_add : OpR X (binaryOp .Add) (rI0 fun i j => .int (i + j)) := opI0 fun _ _ _ _ _ _ _ q => add_int q
theorem op_mul : OpR X (binaryOp .Mult) (rI CMul fun i j => .int (i * j)) := opI fun _ _ _ _ _ _ _ hc q => mul_int q hc.ok
/-- // by a positive divisor -/
theorem op_fdiv : OpR X (binaryOp .FloorDiv) (rI CDiv fun i j => .int (i / j)) := opI fun i j _ _ _ _ _ hc q => by
  have h1 : (0 : Int) < j := hc.1
  have h2 : j < 1073741824 := hc.2
  exact floordiv_int (by omega) (by rw [Int.fdiv_eq_ediv_of_nonneg i (by omega)]; exact q) (.inl (PyProof.noPylong_small (by omega)))
/-- % by a positive divisor of any size -/
theorem op_mod : OpR X (binaryOp .Mod) (rI (fun _ j => 0 < j) fun i j => .int (i % j)) := opI fun i j _ _ _ _ _ hc q => by
  have h1 : (0 : Int) < j := hc
  exact mod_int' (by omega) (by rw [Int.fmod_eq_emod_of_nonneg i (by omega)]; exact q)
theorem op_pow : OpR X (binaryOp .Pow) (rI CPow fun i j => .int (i ^ j.toNat)) := opI fun _ _ _ _ _ _ _ hc q => pow_int_small hc.1 hc.2.1 hc.2.2 q
end
/-! ### comparisons -/
/-- the scalars that == tells apart as data does -/
def scal : V → V → Bool
  | .non, .non => true | .non, .int _ => true | .int _, .non => true | .non, .bl _ => true | .bl _, .non => true | .non, .str _ => true | .str _, .non => true
  | .int _, .int _ => true | .bl _, .bl _ => true | .str _, .str _ => true | .byt _, .byt _ => true
  | .int _, .str _ => true | .str _, .int _ => true | .bl _, .str _ => true | .str _, .bl _ => true
  | _, _ => false
def rEq : R2 := fun x y H Q => scal x y = true ∧ Q (.bl (decide (x = y))) H
def rNe : R2 := fun x y H Q => scal x y = true ∧ Q (.bl (!decide (x = y))) H
theorem dec_int {i j : Int} : decide (V.int i = V.int j) = (i == j) := by
  rw [Bool.eq_iff_iff]
  simp
theorem dec_bl {i j : Bool} : decide (V.bl i = V.bl j) = (i == j) := by
  rw [Bool.eq_iff_iff]
  simp
theorem dec_str {i j : Str} : decide (V.str i = V.str j) = (i == j) := by
  rw [Bool.eq_iff_iff]
  simp
theorem dec_byt {i j : Array UInt8} : decide (V.byt i = V.byt j) = (i.toList == j.toList) := by
  rw [Bool.eq_iff_iff]
  cases i
  cases j
  simp
section
variable {X : Cx} {a b c : Expr} {ta tb tc : TE} {pos : Pos}
theorem fin_bl {pins : List (Addr × Obj)} {σ : St} {H : Hp} {s : Shared} {Q : VK} {k k' : Bool} (I : Inv X pins σ H s) (q : Q (.bl k) H) (e : k = k') : EP X pins σ Q (.bool k') s := by
  subst e
  exact ⟨.bl k, H, I, rfl, q⟩
theorem op_eq : OpR X (compareOp .Eq) rEq := by
  intro pins s σ H x y v u Q I rx ry h
  obtain ⟨hs, q⟩ := h
  cases x with
  | non =>
    cases rx
    cases y with
    | non => cases ry; exact PySem.EqNone.eq_none_none (fin_bl I q (by simp))
    | bl j => cases ry; exact PySem.EqNone.eq_none_bool (fin_bl I q (by simp))
    | int j => obtain ⟨t', rfl⟩ := ry; exact PySem.EqNone.eq_none_int (fin_bl I q (by simp))
    | str j => obtain ⟨t', rfl⟩ := ry; exact PySem.EqNone.eq_none_str (fin_bl I q (by simp))
    | _ => exact absurd (show false = true from hs) Bool.false_ne_true
  | bl i =>
    cases rx
    cases y with
    | non => cases ry; exact PySem.EqNone.eq_bool_none (fin_bl I q (by simp))
    | bl j => cases ry; exact eq_bool (fin_bl I q dec_bl)
    | str j => obtain ⟨t', rfl⟩ := ry; exact PySem.EqMixed.eq_bool_str (fin_bl I q (by simp))
    | _ => exact absurd (show false = true from hs) Bool.false_ne_true
  | int i =>
    obtain ⟨t, rfl⟩ := rx
    cases y with
    | non => cases ry; exact PySem.EqNone.eq_int_none (fin_bl I q (by simp))
    | int j => obtain ⟨t', rfl⟩ := ry; exact eq_int (fin_bl I q dec_int)
    | str j => obtain ⟨t', rfl⟩ := ry; exact PySem.EqMixed.eq_int_str (fin_bl I q (by simp))
    | _ => exact absurd (show false = true from hs) Bool.false_ne_true
  | str i =>
    obtain ⟨t, rfl⟩ := rx
    cases y with
    | non => cases ry; exact PySem.EqNone.eq_str_none (fin_bl I q (by simp))
    | bl j => cases ry; exact PySem.EqMixed.eq_str_bool (fin_bl I q (by simp))
    | int j => obtain ⟨t', rfl⟩ := ry; exact PySem.EqMixed.eq_str_int (fin_bl I q (by simp))
    | str j => obtain ⟨t', rfl⟩ := ry; exact eq_str (fin_bl I q dec_str)
    | _ => exact absurd (show false = true from hs) Bool.false_ne_true
  | byt i =>
    obtain ⟨t, rfl⟩ := rx
    cases y with
    | byt j => obtain ⟨t', rfl⟩ := ry; exact PySem.W.eq_bytes (fin_bl I q dec_byt)
    | _ => exact absurd (show false = true from hs) Bool.false_ne_true
  | _ => cases y <;> exact absurd (show false = true from hs) Bool.false_ne_true
theorem op_ne : OpR X (compareOp .NotEq) rNe := by
  intro pins s σ H x y v u Q I rx ry h
  obtain ⟨hs, q⟩ := h
  cases x with
  | non =>
    cases rx
    cases y with
    | non => cases ry; exact PySem.EqNone.ne_none_none (fin_bl I q (by simp))
    | bl j => cases ry; exact PySem.EqNone.ne_none_bool (fin_bl I q (by simp))
    | int j => obtain ⟨t', rfl⟩ := ry; exact PySem.EqNone.ne_none_int (fin_bl I q (by simp))
    | str j => obtain ⟨t', rfl⟩ := ry; exact PySem.EqNone.ne_none_str (fin_bl I q (by simp))
    | _ => exact absurd (show false = true from hs) Bool.false_ne_true
  | bl i =>
    cases rx
    cases y with
    | non => cases ry; exact PySem.EqNone.ne_bool_none (fin_bl I q (by simp))
    | bl j => cases ry; exact ne_bool (fin_bl I q (congrArg not dec_bl))
    | str j => obtain ⟨t', rfl⟩ := ry; exact PySem.EqMixed.ne_bool_str (fin_bl I q (by simp))
    | _ => exact absurd (show false = true from hs) Bool.false_ne_true
  | int i =>
    obtain ⟨t, rfl⟩ := rx
    cases y with
    | non => cases ry; exact PySem.EqNone.ne_int_none (fin_bl I q (by simp))
    | int j => obtain ⟨t', rfl⟩ := ry; exact ne_int (fin_bl I q (congrArg not dec_int))
    | str j => obtain ⟨t', rfl⟩ := ry; exact PySem.EqMixed.ne_int_str (fin_bl I q (by simp))
    | _ => exact absurd (show false = true from hs) Bool.false_ne_true
  | str i =>
    obtain ⟨t, rfl⟩ := rx
    cases y with
    | non => cases ry; exact PySem.EqNone.ne_str_none (fin_bl I q (by simp))
    | bl j => cases ry; exact PySem.EqMixed.ne_str_bool (fin_bl I q (by simp))
    | int j => obtain ⟨t', rfl⟩ := ry; exact PySem.EqMixed.ne_str_int (fin_bl I q (by simp))
    | str j => obtain ⟨t', rfl⟩ := ry; exact ne_str (fin_bl I q (congrArg not dec_str))
    | _ => exact absurd (show false = true from hs) Bool.false_ne_true
  | byt i =>
    obtain ⟨t, rfl⟩ := rx
    cases y with
    | byt j => obtain ⟨t', rfl⟩ := ry; exact PySem.W.ne_bytes (fin_bl I q (congrArg not dec_byt))
    | _ => exact absurd (show false = true from hs) Bool.false_ne_true
  | _ => cases y <;> exact absurd (show false = true from hs) Bool.false_ne_true
theorem op_lt : OpR X (compareOp .Lt) (rI0 fun i j => .bl (decide (i < j))) := opB0 fun _ _ _ _ _ _ _ q => lt_int q
theorem op_gt : OpR X (compareOp .Gt) (rI0 fun i j => .bl (decide (j < i))) := opB0 fun _ _ _ _ _ _ _ q => gt_int q
theorem op_ge : OpR X (compareOp .GtE) (rI0 fun i j => .bl (decide (j ≤ i))) := opB0 fun _ _ _ _ _ _ _ q => ge_int q
/-- is None, is not None: the right side a value none -/
theorem op_isN : OpR X (compareOp .Is) (fun x y H Q => y = .non ∧ Q (.bl (decide (x = .non))) H) := by
  intro pins s σ H x y v u Q I rx ry h
  obtain ⟨rfl, q⟩ := h
  cases ry
  refine is_none_gen (fin_bl I q ?_)
  cases x <;> first
    | (cases rx; rfl)
    | (obtain ⟨t, rfl⟩ := rx; rfl)
theorem op_notN : OpR X (compareOp .IsNot) (fun x y H Q => y = .non ∧ Q (.bl (!decide (x = .non))) H) := by
  intro pins s σ H x y v u Q I rx ry h
  obtain ⟨rfl, q⟩ := h
  cases ry
  refine isnot_none_gen (fin_bl I q ?_)
  cases x <;> first
    | (cases rx; rfl)
    | (obtain ⟨t, rfl⟩ := rx; rfl)
theorem nomark (b : Expr) {op : CmpOp} (h : op ≠ .In := by decide) (h2 : op ≠ .NotIn := by decide) : behindInMarks op b = false := by
  have e1 : (op == CmpOp.In) = false := by cases op <;> first | rfl | exact absurd rfl h
  have e2 : (op == CmpOp.NotIn) = false := by cases op <;> first | rfl | exact absurd rfl h2
  cases b <;> simp [behindInMarks, e1, e2]
/-- a comparison as a value; hm: nomark b, or (for in, not in) by with_unfolding_all rfl -/
theorem pe_cmpR {op : CmpOp} {r : R2} (ho : OpR X (compareOp op) r) (ha : PE X a ta) (hb : PE X b tb) (hm : behindInMarks op b = false) : PE X (.Compare a [op] [b] pos) (tOp r ta tb) := by
  intro pins s σ H Q I h
  exact wpAny_Compare1 (binT ha hb I h fun v u s2 x y H2 I2 rx ry q => ho pins s2 σ H2 x y v u Q I2 rx ry q) hm
/-- a reading of a value as a test -/
def tTest (t : TE) : TT := fun σ H Q => t σ H fun x H' => ∃ k, x = .bl k ∧ Q k H'
theorem pt_cmpR {op : CmpOp} {r : R2} (ho : OpR X (compareOp op) r) (ha : PE X a ta) (hb : PE X b tb) (hm : behindInMarks op b = false) : PT X (.Compare a [op] [b] pos) (tTest (tOp r ta tb)) := by
  intro pins s σ H Q I h
  refine wpAny_isTrue_Compare1 (thn (ha pins s σ H _ I h) fun v s1 ⟨x, H1, I1, r1, q1⟩ => thn (hb pins s1 σ H1 _ I1 q1) fun u s2 ⟨y, H2, I2, r2, q2⟩ =>
    thn (ho pins s2 σ H2 x y v u _ I2 r1 r2 q2) fun c s3 ⟨z, H3, I3, r3, k, e, q3⟩ => ?_) hm
  subst e
  cases r3
  exact wpAny_truthy_bool ⟨H3, I3, q3⟩
/-! ### truth -/
/-- a value's truth by the abstract heap -/
def TruV (K : PySem.W.Frag) (x : V) (H : Hp) (k : Bool) : Prop :=
  match x with
  | .non => k = false
  | .bl b => k = b
  | .int i => k = (i != 0)
  | .str y => y.length ≤ sizeLine ∧ k = ((y.length : Int) != 0)
  | .byt y => y.size ≤ sizeLine ∧ k = ((y.size : Int) != 0)
  | .ref p => (∃ xs, SqL K H p xs ∧ k = !xs.isEmpty) ∨ (∃ xs, SqT K H p xs ∧ k = !xs.isEmpty) ∨ ∃ kvs, H p = some (.dK kvs) ∧ k = !kvs.isEmpty
  | _ => False
theorem isEmpty_kv {κ : Type} {kvs : List (κ × V)} {vs : List (κ × Value)} (r : KV kvs vs) : (!vs.isEmpty) = !kvs.isEmpty := by
  cases r <;> rfl
theorem isEmpty_of {xs : List V} {its : List Value} (r : Vals xs its) : (!its.toArray.isEmpty) = !xs.isEmpty := by
  cases r <;> simp
theorem line63 : (sizeLine : Nat) < 2 ^ 63 := by rw [sizeLine_eq]; decide
theorem tru_ok : TruR X (fun x H Q => ∃ k, TruV X.K x H k ∧ Q k H) := by
  intro pins s σ H x v Q I rx h
  obtain ⟨k, e, q⟩ := h
  have hl := line63
  have hs : sizeLine = 16777216 := sizeLine_eq
  cases x with
  | non =>
    cases rx
    have e' : k = false := e
    subst e'
    exact truthy_none ⟨H, I, q⟩
  | bl b =>
    cases rx
    have e' : k = b := e
    subst e'
    exact wpAny_truthy_bool ⟨H, I, q⟩
  | int i =>
    obtain ⟨t, rfl⟩ := rx
    have e' : k = (i != 0) := e
    subst e'
    exact PySem.P.truthy_int ⟨H, I, q⟩
  | str y =>
    obtain ⟨t, rfl⟩ := rx
    obtain ⟨hy, e'⟩ : y.length ≤ sizeLine ∧ k = ((y.length : Int) != 0) := e
    subst e'
    exact PySem.P.truthy_str (by omega) ⟨H, I.tok _, q⟩
  | byt y =>
    obtain ⟨t, rfl⟩ := rx
    obtain ⟨hy, e'⟩ : y.size ≤ sizeLine ∧ k = ((y.size : Int) != 0) := e
    subst e'
    exact PySem.W.truthy_bytes (by omega) ⟨H, I.tok _, q⟩
  | ref p =>
    cases rx
    have e' : (∃ xs, SqL X.K H p xs ∧ k = !xs.isEmpty) ∨ (∃ xs, SqT X.K H p xs ∧ k = !xs.isEmpty) ∨ ∃ kvs, H p = some (.dK kvs) ∧ k = !kvs.isEmpty := e
    rcases e' with ⟨xs, hx, e'⟩ | ⟨xs, hx, e'⟩ | ⟨kvs, hx, e'⟩
    · subst e'
      obtain ⟨its, r, pl, hz⟩ := I.list hx
      have hlen := r.length
      exact wpAny_truthy_list pl.isList (by simp only [List.size_toArray]; omega) ⟨H, I.tok _, by rw [isEmpty_of r]; exact q⟩
    · subst e'
      obtain ⟨its, r, pl, hz⟩ := I.tuple hx
      have hlen := r.length
      exact truthy_tuple pl (by simp only [List.size_toArray]; omega) ⟨H, I.tok _, by rw [isEmpty_of r]; exact q⟩
    · subst e'
      obtain ⟨hz, hS, vs, r, m⟩ : kvs.length ≤ sizeLine ∧ (p == sysModules) = false ∧ ∃ vs, KV kvs vs ∧ s.heap.DictOf (mixKind X.prog X.w) p vs := I.hok p _ hx
      have hlen : kvs.length = vs.length := Paired.length r
      exact wpAny_truthy_dict hS m (by omega) ⟨H, I.tok _, by rw [isEmpty_kv r]; exact q⟩
  | _ => exact (show False from e).elim
/-! ### scalar builtins, by CallR -/
theorem vals1 {x : V} {us : List Value} (r : Vals [x] us) : ∃ u, us = [u] ∧ RelV x u := by
  cases r with
  | cons r1 r2 => cases r2; exact ⟨_, rfl, r1⟩
/-- len of a str, a bytes, a list, a tuple -/
def LenV (K : PySem.W.Frag) (x : V) (H : Hp) (n : Nat) : Prop :=
  match x with
  | .str y => y.length ≤ sizeLine ∧ n = y.length
  | .byt y => y.size ≤ sizeLine ∧ n = y.size
  | .ref p => (∃ xs, SqL K H p xs ∧ n = xs.length) ∨ ∃ xs, SqT K H p xs ∧ n = xs.length
  | _ => False
theorem call_len : CallR X (.builtin "len") (fun xs H Q => ∃ x n, xs = [x] ∧ LenV X.K x H n ∧ Q (.int n) H) := by
  intro pins s σ H xs us Q I r h
  obtain ⟨x, n, rfl, e, q⟩ := h
  obtain ⟨u, rfl, rx⟩ := vals1 r
  have hl := line63
  have hs : sizeLine = 16777216 := sizeLine_eq
  cases x with
  | str y =>
    obtain ⟨t, rfl⟩ := rx
    obtain ⟨hy, e'⟩ : y.length ≤ sizeLine ∧ n = y.length := e
    subst e'
    exact len_str (by omega) ⟨.int _, H, I.tok _, ⟨_, rfl⟩, q⟩
  | byt y =>
    obtain ⟨t, rfl⟩ := rx
    obtain ⟨hy, e'⟩ : y.size ≤ sizeLine ∧ n = y.size := e
    subst e'
    exact PySem.W.len_bytes (by omega) ⟨.int _, H, I.tok _, ⟨_, rfl⟩, q⟩
  | ref p =>
    cases rx
    have e' : (∃ xs, SqL X.K H p xs ∧ n = xs.length) ∨ ∃ xs, SqT X.K H p xs ∧ n = xs.length := e
    rcases e' with ⟨xs, hx, e'⟩ | ⟨xs, hx, e'⟩
    · subst e'
      obtain ⟨its, r', pl, hz⟩ := I.list hx
      have hlen := r'.length
      exact Calls.call_len_list pl.isList (by simp only [List.size_toArray]; omega) ⟨.int xs.length, H, I.tok _, ⟨_, by simp only [List.size_toArray]; rw [hlen]⟩, q⟩
    · subst e'
      obtain ⟨its, r', pl, hz⟩ := I.tuple hx
      have hlen := r'.length
      exact len_tuple pl (by simp only [List.size_toArray]; omega) ⟨.int xs.length, H, I.tok _, ⟨_, by simp only [List.size_toArray]; rw [hlen]⟩, q⟩
  | _ => exact (show False from e).elim
end
end L2
namespace L2
open PySem PySem.Spec PyProof.Rows
/-! ### an instance, its attributes a map -/
structure ObjM (h : Heap) (x dx C : Addr) (mA : Str → Option Value) : Prop where
  obj : h.get? x = some (PySem.W.instObj C dx)
  ns : h.Ns1 dx mA
  ne : dx ≠ x
theorem lookIn_ns {h : Heap} {dx : Addr} {mA : Str → Option Value} (n : h.Ns1 dx mA) : ∃ od, h.get? dx = some od ∧ ∀ name, PySem.W.lookIn name od = some (mA name) := by
  obtain ⟨o, es, ep, ho, hd, hk, _, hm⟩ := n
  refine ⟨o, ho, fun name => ?_⟩
  have e := hm name
  unfold nsFind findBy at e
  rw [← Array.find?_toList] at e
  unfold PySem.W.lookIn
  rw [hd]
  dsimp only
  split
  · rename_i y q
    rw [q] at e
    exact congrArg some e
  · rename_i q
    rw [q] at e
    have a : es.toList.any (·.refKey) = false := by
      rw [List.any_eq_false]
      intro y hy
      obtain ⟨z, t, hkey⟩ := hk y (Array.mem_toList_iff.mp hy)
      simp [DictEntry.refKey, hkey]
    have a' : ¬ es.toList.any (·.refKey) = true := by rw [a]; exact Bool.false_ne_true
    rw [if_neg a']
    exact congrArg some e
theorem ObjM.look {h : Heap} {x dx C : Addr} {mA : Str → Option Value} (I : ObjM h x dx C mA) : ∃ od, PySem.W.InstAt h x (PySem.W.instObj C dx) C (some od) ∧ ∀ name, PySem.W.lookIn name od = some (mA name) :=
  let ⟨od, ho, hl⟩ := lookIn_ns I.ns
  ⟨od, ⟨I.obj, rfl, rfl, ho⟩, hl⟩
section
variable {prog : Program} {w : World} {A : Around} {E : Value → Shared → Prop} {s : Shared} {K : PySem.W.Frag} {x dx C f : Addr} {mA : Str → Option Value} {name : Str} {v : Value}
theorem get_map {expr : Bool} {Q : Value → Shared → Prop} (X : K.In s.heap) (I : ObjM s.heap x dx C mA) (hg : PySem.W.plainGet K C name = true) (hh : PySem.W.hasDictIn K C = true)
    (ha : PySem.W.findIn K (.ref C) name = some none) (hv : mA name = some v) (hv' : PySem.W.handedIn v = true) (h : Q v { s with toks := s.toks + 1 }) :
    wpAny (model prog w) A (getAttr (.ref x) name expr) Q E s := by
  obtain ⟨od, J, hl⟩ := I.look
  exact PySem.W.get_value X J (PySem.W.plainGet_of hg).1 (PySem.W.findObj_own hh ha rfl (by rw [hl, hv])) hv' h
theorem get_meth {pl : Sem Bool} {Q : Value × List Value → Shared → Prop} (X : K.In s.heap) (I : ObjM s.heap x dx C mA) (hg : PySem.W.plainGet K C name = true)
    (hf : PySem.W.findIn K (.ref C) name = some (some (.ref f))) (ht : PySem.W.isFn K (.ref f) = true) (hv : mA name = none) (h : Q (.ref f, [.ref x]) s) :
    wpAny (model prog w) A (getMethod (.ref x) name pl) Q E s := by
  obtain ⟨od, J, hl⟩ := I.look
  exact PySem.W.method_fn X J (PySem.W.plainGet_of hg).1 (PySem.W.plainGet_of hg).2 hf (beq_iff_eq.mp ht) (by show (PySem.W.lookIn name od).map (·.isSome) = some false; rw [hl, hv]; rfl) h
theorem set_map {ns : List Str} {Q : Unit → Shared → Prop} (X : K.In s.heap) (I : ObjM s.heap x dx C mA)
    (hs : PySem.W.findIn K (.ref C) "__setattr__" = some (some (.builtin "object.__setattr__"))) (hp : PySem.W.plainOver K C = true) (ht : PySem.W.takerIn K C name = some none) (hh : PySem.W.hasDictIn K C = true)
    (hw : PySem.Within mA ns) (hsz : ns.length ≤ sizeLine)
    (h : ∀ h', ObjM h' x dx C (fun y => if y = name then some v else mA y) → Heap.SameBut dx s.heap h' → Q () { s with heap := h', toks := s.toks + 2 }) :
    wpAny (model prog w) A (setAttr (.ref x) name v) Q E s := by
  obtain ⟨od, J, hl⟩ := I.look
  refine PySem.W.set_plain X J hs (PySem.W.osa_open (s := { s with toks := s.toks + 1 }) (r := none) X J hp ht fun b => ?_)
  obtain ⟨cd, hc, hd'⟩ := PySem.W.any_some hh
  have hx : s.heap.get? x = some ⟨.ref C, some dx, .plain, #[]⟩ := I.obj
  refine wpAny_bind (wpAny_pure (wpAny_bind (wpAny_bind (wpAny_loadPart hx (wpAny_bind (PySem.W.Looks.here (s := { s with toks := s.toks + 1 }) (PySem.W.looks_clsIn X hc) ?_))))))
  rw [hd']
  refine wpAny_pure (a := some dx) (wpAny_bind (wpAny_pure (wpAny_bind ?_)))
  refine wpAny_nsSet1 (s := { s with toks := s.toks + 1 }) I.ns fun h' hn2 hs2 => ?_
  obtain ⟨oD, esD, epD, hoD, hdD, hcD⟩ := hn2.count (PySem.Within.cons name v hw)
  refine wpAny_bind (wpAny_lookBehind hoD (by rw [hdD]; exact pastItsLine_dict (Nat.le_trans hcD (by rw [List.length_cons]; omega))) ?_)
  exact wpAny_pure (h _ ⟨(hs2.2 _ (Ne.symm I.ne)).trans I.obj, hn2, I.ne⟩ hs2)
/-- C(..): the dict at the heap's end, the instance behind it; then its __init__ -/
theorem make_map {R : Result → Shared → Prop} {vs : List Value} {kw : List (Str × Value)} (X : K.In s.heap) (hm : PySem.W.makesIn K C = true)
    (hi : PySem.W.findIn K (.ref C) "__init__" = some (some (.ref f))) (hf : PySem.W.typeIn K (.ref f) = some (.type "function"))
    (h : codeAny (model prog w) (A.under (.builtin "type.__call__" ⟨.ref C :: vs, kw⟩)) (.call (.ref f) ⟨.ref (s.heap.objs.size + 1) :: vs, kw⟩) (PySem.W.InitBack (s.heap.objs.size + 1) R)
      { s with heap := (s.heap.push PySem.W.emptyDict).push (PySem.W.instObj C s.heap.objs.size) }) :
    codeAny (model prog w) A (.call (.ref C) ⟨vs, kw⟩) R s := by
  obtain ⟨hh, g, d, t, os⟩ := s
  exact PySem.W.make_core (PySem.W.makes_of X hm) (PySem.W.looks_findIn X hi) (fun self => PySem.W.bind_fn X self hf) (.inl rfl) h
end
/-! ### the attributes as a list of pairs -/
def putF (f : Str) (v : V) : List (Str × V) → List (Str × V)
  | [] => [(f, v)]
  | (g, x) :: r => if g = f then (g, v) :: r else (g, x) :: putF f v r
theorem lookup_putF (f g : Str) (v : V) : ∀ fs : List (Str × V), (putF f v fs).lookup g = if g = f then some v else fs.lookup g
  | [] => by
    show List.lookup g [(f, v)] = _
    by_cases h : g = f
    · have hb : (g == f) = true := beq_iff_eq.mpr h
      simp only [List.lookup, hb, if_pos h]
    · have hb : (g == f) = false := beq_eq_false_iff_ne.mpr h
      simp only [List.lookup, hb, if_neg h]
  | (k, x) :: r => by
    have ih := lookup_putF f g v r
    rw [show putF f v ((k, x) :: r) = (if k = f then (k, v) :: r else (k, x) :: putF f v r) from rfl]
    by_cases hk : k = f
    · rw [if_pos hk]
      by_cases h : g = k
      · have hb : (g == k) = true := beq_iff_eq.mpr h
        simp only [List.lookup, hb, if_pos (h.trans hk)]
      · have hb : (g == k) = false := beq_eq_false_iff_ne.mpr h
        simp only [List.lookup, hb, if_neg (fun e : g = f => h (e.trans hk.symm))]
    · rw [if_neg hk]
      by_cases h : g = k
      · have hb : (g == k) = true := beq_iff_eq.mpr h
        simp only [List.lookup, hb, if_neg (fun e : g = f => hk (h.symm.trans e))]
      · have hb : (g == k) = false := beq_eq_false_iff_ne.mpr h
        simp only [List.lookup, hb]
        exact ih
theorem keys_putF (f : Str) (v : V) : ∀ fs : List (Str × V), f ∈ (putF f v fs).map (·.1) ∧ ∀ g, g ∈ fs.map (·.1) → g ∈ (putF f v fs).map (·.1)
  | [] => ⟨by simp [putF], fun g h => by simp at h⟩
  | (k, x) :: r => by
    obtain ⟨i1, i2⟩ := keys_putF f v r
    rw [show putF f v ((k, x) :: r) = (if k = f then (k, v) :: r else (k, x) :: putF f v r) from rfl]
    by_cases hk : k = f
    · rw [if_pos hk]
      subst hk
      exact ⟨by simp, fun g h => by simpa using h⟩
    · rw [if_neg hk]
      refine ⟨?_, fun g h => ?_⟩
      · rw [List.map_cons]
        exact List.mem_cons_of_mem _ i1
      · rw [List.map_cons] at h ⊢
        rcases List.mem_cons.mp h with e | e
        · exact List.mem_cons.mpr (.inl e)
        · exact List.mem_cons_of_mem _ (i2 g e)
theorem length_putF (f : Str) (v : V) : ∀ fs : List (Str × V), (putF f v fs).length ≤ fs.length + 1
  | [] => by simp [putF]
  | (k, x) :: r => by
    have ih := length_putF f v r
    rw [show putF f v ((k, x) :: r) = (if k = f then (k, v) :: r else (k, x) :: putF f v r) from rfl]
    by_cases hk : k = f
    · rw [if_pos hk, List.length_cons, List.length_cons]; omega
    · rw [if_neg hk, List.length_cons, List.length_cons]; omega
theorem RelO.some_of {v : V} {o : Option Value} (r : RelO (some v) o) : ∃ u, o = some u ∧ RelV v u := by
  cases o with
  | none => exact (show False from r).elim
  | some u => exact ⟨u, rfl, r⟩
theorem RelO.none_of {o : Option Value} (r : RelO none o) : o = none := by
  cases o with
  | none => rfl
  | some u => exact (show False from r).elim
theorem handed_of {v : V} {u : Value} (r : RelV v u) : PySem.W.handedIn u = true := by
  cases v with
  | non => cases (show u = Value.none from r); rfl
  | bl b => cases (show u = Value.bool b from r); rfl
  | int i => obtain ⟨t, e⟩ := (show ∃ t, u = Value.int i t from r); cases e; rfl
  | str x => obtain ⟨t, e⟩ := (show ∃ t, u = Value.str x t from r); cases e; rfl
  | byt b => obtain ⟨t, e⟩ := (show ∃ t, u = Value.bytes b t from r); cases e; rfl
  | flt b => obtain ⟨t, e⟩ := (show ∃ t, u = Value.float b t from r); cases e; rfl
  | ref a => cases (show u = Value.ref a from r); rfl
  | ty n => cases (show u = Value.type n from r); rfl
section
variable {P : Program} {w : World} {H H' : Hp} {h h' : Heap} {a C dx : Addr} {fs fs' : List (Str × V)}
theorem ins_get (hok : HOk P w H h) (e : H a = some (.ins C dx fs)) : ∃ mA, ObjM h a dx C mA ∧ (∀ f, RelO (fs.lookup f) (mA f)) ∧ PySem.Within mA (fs.map (·.1)) ∧ fs.length ≤ 1000 ∧ H dx = some (.own a) := by
  obtain ⟨d, z, ne, ob, mA, n, r, q⟩ := (show ObjOk P w H h a (.ins C dx fs) from hok a _ e)
  exact ⟨mA, ⟨ob, n, ne⟩, r, q, z, d⟩
end
/-! ### what of the text a class must have -/
structure Cls (K : PySem.W.Frag) (C : Addr) : Prop where
  pg : PySem.W.plainGet K C Str.empty = true
  hd : PySem.W.hasDictIn K C = true
  po : PySem.W.plainOver K C = true
  sa : PySem.W.findIn K (.ref C) "__setattr__" = some (some (.builtin "object.__setattr__"))
theorem Cls.get {K : PySem.W.Frag} {C : Addr} (c : Cls K C) (f : Str) : PySem.W.plainGet K C f = true := c.pg
/-- no class of it has the name -/
def NoAttr (K : PySem.W.Frag) (C : Addr) (f : Str) : Prop := PySem.W.findIn K (.ref C) f = some none
theorem NoAttr.taker {K : PySem.W.Frag} {C : Addr} {f : Str} (n : NoAttr K C f) : PySem.W.takerIn K C f = some none := by
  unfold PySem.W.takerIn
  rw [show PySem.W.findIn K (.ref C) f = some none from n]
  rfl
/-- a method: a plain def of the class or of one above it -/
structure Meth (K : PySem.W.Frag) (C : Addr) (m : Str) (f : Addr) : Prop where
  at_ : PySem.W.findIn K (.ref C) m = some (some (.ref f))
  fn : PySem.W.isFn K (.ref f) = true
  kp : PySem.W.keepIn K (.ref f) = true
section
variable {X : Cx} {pins : List (Addr × Obj)} {σ : St} {H : Hp} {s : Shared} {a C dx : Addr} {fs : List (Str × V)} {f : Str} {v : V} {A : Around} {E : Value → Shared → Prop}
theorem getattr_ok {b : Bool} {Q : Value → Shared → Prop} (I : Inv X pins σ H s) (e : H a = some (.ins C dx fs)) (c : Cls X.K C) (n : NoAttr X.K C f) (l : fs.lookup f = some v)
    (h : ∀ u s', Inv X pins σ H s' → RelV v u → Q u s') : wpAny (model X.prog X.w) A (getAttr (.ref a) f b) Q E s := by
  obtain ⟨mA, O, r, _, _, _⟩ := ins_get I.hok e
  obtain ⟨u, hu, ru⟩ := RelO.some_of (v := v) (o := mA f) (by rw [← l]; exact r f)
  exact get_map I.kIn O (c.get f) c.hd n hu (handed_of ru) (h u _ (I.tok _) ru)
theorem getmeth_ok {m : Str} {g : Addr} {pl : Sem Bool} {Q : Value × List Value → Shared → Prop} (I : Inv X pins σ H s) (e : H a = some (.ins C dx fs)) (c : Cls X.K C) (k : Meth X.K C m g) (l : fs.lookup m = none)
    (h : Q (.ref g, [.ref a]) s) : wpAny (model X.prog X.w) A (getMethod (.ref a) m pl) Q E s := by
  obtain ⟨mA, O, r, _, _, _⟩ := ins_get I.hok e
  have hn : mA m = none := RelO.none_of (by rw [← l]; exact r m)
  exact get_meth I.kIn O (c.get m) k.at_ k.fn hn h
theorem setattr_ok {y : V} {u : Value} {Q : Unit → Shared → Prop} (I : Inv X pins σ H s) (e : H a = some (.ins C dx fs)) (c : Cls X.K C) (n : NoAttr X.K C f) (hl : fs.length < 1000) (ry : RelV y u)
    (h : ∀ s', Inv X pins σ (upd H a (.ins C dx (putF f y fs))) s' → Q () s') : wpAny (model X.prog X.w) A (setAttr (.ref a) f u) Q E s := by
  obtain ⟨mA, O, r, wi, _, ho⟩ := ins_get I.hok e
  have hz : (fs.map (·.1)).length ≤ sizeLine := by rw [List.length_map, sizeLine_eq]; omega
  refine set_map I.kIn O c.sa c.po n.taker c.hd wi hz fun h' O' sb => h _ ?_
  have hd : ∃ o, h'.get? dx = some o := let ⟨o, _, _, e', _⟩ := O'.ns; ⟨o, e'⟩
  refine I.write (x := a) (e := dx) (by rw [e]; exact True.intro) (.inr ho) (fun b q hb z => (sb.2 b hb).trans z) hd ?_
  refine ⟨by rw [upd_ne O.ne]; exact ho, ?_, O.ne, O'.obj, _, O'.ns, fun g => ?_, fun g hg => ?_⟩
  · have := length_putF f y fs; omega
  · show RelO ((putF f y fs).lookup g) (if g = f then some u else mA g)
    rw [lookup_putF]
    by_cases q : g = f
    · rw [if_pos q, if_pos q]; exact ry
    · rw [if_neg q, if_neg q]; exact r g
  · by_cases q : g = f
    · rw [q]; exact (keys_putF f y fs).1
    · refine (keys_putF f y fs).2 g (wi g fun z => hg ?_)
      show (if g = f then some u else mA g) = none
      rw [if_neg q]; exact z
/-- a new instance, tracked, without attributes -/
theorem Inv.made (I : Inv X pins σ H s) : Inv X pins σ (upd (upd H s.heap.objs.size (.own (s.heap.objs.size + 1))) (s.heap.objs.size + 1) (.ins C s.heap.objs.size []))
    { s with heap := (s.heap.push PySem.W.emptyDict).push (PySem.W.instObj C s.heap.objs.size) } := by
  have e1 : (s.heap.push PySem.W.emptyDict).get? s.heap.objs.size = some PySem.W.emptyDict := Heap.get?_push_size s.heap rfl
  have e2 : ((s.heap.push PySem.W.emptyDict).push (PySem.W.instObj C s.heap.objs.size)).get? (s.heap.objs.size + 1) = some (PySem.W.instObj C s.heap.objs.size) := by
    have := Heap.get?_push_size (s.heap.push PySem.W.emptyDict) (o := PySem.W.instObj C s.heap.objs.size) rfl
    rwa [Heap.size_push] at this
  have e3 : (s.heap.push PySem.W.emptyDict).Ns s.heap.objs.size (fun _ => none) := ⟨PySem.W.emptyDict, #[], _, e1, rfl, (fun e he => absurd he (by simp)), fun _ => rfl⟩
  have I1 := I.laid (a := s.heap.objs.size) (o := .own (s.heap.objs.size + 1)) (h' := s.heap.push PySem.W.emptyDict) (t' := s.toks) (fun b u q => Heap.get?_push_of_some _ q) (Nat.le_refl _) ⟨_, e1⟩
  refine I1.laid (a := s.heap.objs.size + 1) (o := .ins C s.heap.objs.size []) (t' := s.toks) (fun b u q => Heap.get?_push_of_some _ q) (Nat.le_of_eq (Heap.size_push _ _)) ?_
  have ne : s.heap.objs.size ≠ s.heap.objs.size + 1 := Nat.ne_of_lt (Nat.lt_succ_self _)
  refine ⟨by rw [upd_ne ne, upd_same], Nat.zero_le _, ne, e2, fun _ => none, (Heap.Ns1.of_empty e3).at fun o q => Heap.get?_push_of_some _ q, fun _ => True.intro, fun y hy => absurd rfl hy⟩
/-- e.f where nothing but the object is asked: through attributeBase (super) and the last hold -/
theorem attr_of {prog : Program} {w : World} {env : Env} {e : Expr} {f : Str} {pos : Pos} {s : Shared} {Q : Value → Shared → Prop} (hb : attributeBase e f env (eval e env) = eval e env)
    (h : wpAny (model prog w) A (eval e env) (fun o s₁ => wpAny (model prog w) A (getAttr o f true) Q E s₁) E s) : wpAny (model prog w) A (eval (.Attribute e f pos) env) Q E s :=
  Attribute_any_ h (by rw [arm_eval_Attribute, hb])
end
/-! ### readings and rules -/
/-- e.f, an attribute of the instance -/
def tFld (K : PySem.W.Frag) (ta : TE) (f : Str) : TE := fun σ H Q => ta σ H fun x H1 => ∃ a C dx fs v, x = .ref a ∧ H1 a = some (.ins C dx fs) ∧ Cls K C ∧ NoAttr K C f ∧ fs.lookup f = some v ∧ Q v H1
/-- e.f = value -/
def sFld (K : PySem.W.Frag) (ta tv : TE) (f : Str) : TS := fun D σ H => tv σ H fun y H1 => ta σ H1 fun x H2 => ∃ a C dx fs, x = .ref a ∧ H2 a = some (.ins C dx fs) ∧ Cls K C ∧ NoAttr K C f ∧ fs.length < 1000 ∧
  D.nx σ (upd H2 a (.ins C dx (putF f y fs)))
section
variable {X : Cx} {o e value : Expr} {f : Str} {pos pos' tpos : Pos} {ta tv : TE}
theorem pe_fld (he : PE X e ta) (hb : attributeBase e f X.env (eval e X.env) = eval e X.env) : PE X (.Attribute e f pos) (tFld X.K ta f) := by
  intro pins s σ H Q I h
  refine attr_of hb (thn (he pins s σ H _ I h) fun u s1 ⟨x, H1, I1, rx, a, C, dx, fs, v, ex, ea, c, n, l, q⟩ => ?_)
  subst ex
  obtain rfl : u = Value.ref a := rx
  exact getattr_ok I1 ea c n l fun u' s2 I2 ru => ⟨v, H1, I2, ru, q⟩
theorem ps_fld (ha : PE X o ta) (hv : PE X value tv) (hs : swapsWith value (some (.Attribute o f pos')) pos.line X.env = pure false) : PS X (.Assign [.Attribute o f pos'] value pos) (sFld X.K ta tv f) := by
  intro pins s σ H D I h
  refine plainObj_wpAny_Assign_Attribute (thn (hv pins s σ H _ I h) fun u s1 ⟨y, H1, I1, ry, q⟩ => thn (ha pins s1 σ H1 _ I1 q) fun ov s2 ⟨x, H2, I2, rx, a, C, dx, fs, ex, ea, c, n, l, q2⟩ => ?_) hs
  subst ex
  obtain rfl : ov = Value.ref a := rx
  exact setattr_ok I2 ea c n l ry fun s3 I3 => ⟨σ, _, I3, q2⟩
end
/-! ### isinstance -/
section
variable {X : Cx} {pins : List (Addr × Obj)} {σ : St} {H : Hp} {s : Shared} {A : Around} {E : Value → Shared → Prop} {Q : Value → Shared → Prop} {c : Value} {b : Bool}
/-- the type of a value, as the fragment's deciders take it; for an instance its class -/
inductive TyOf (K : PySem.W.Frag) (H : Hp) : V → Value → Prop where
  | non : TyOf K H .non (.type "NoneType")
  | bl (x : Bool) : TyOf K H (.bl x) (.type "bool")
  | int (i : Int) : TyOf K H (.int i) (.type "int")
  | str (x : Str) : TyOf K H (.str x) (.type "str")
  | flt (x : UInt64) : TyOf K H (.flt x) (.type "float")
  | lst {a : Addr} {xs : List V} (e : H a = some (.lst xs)) : TyOf K H (.ref a) (.type "list")
  | frz {a : Addr} {o : Obj} {xs : List V} (e : H a = some (.frz o (.lst xs))) : TyOf K H (.ref a) (.type "list")
  | tup {a : Addr} {xs : List V} (e : H a = some (.tup xs)) : TyOf K H (.ref a) (.type "tuple")
  | dK {a : Addr} {kvs : List (Key × V)} (e : H a = some (.dK kvs)) : TyOf K H (.ref a) (.type "dict")
  | dT {a : Addr} {kvs : List (List Key × V)} (e : H a = some (.dT kvs)) : TyOf K H (.ref a) (.type "dict")
  | ins {a C dx : Addr} {fs : List (Str × V)} (e : H a = some (.ins C dx fs)) (cl : Cls K C) (ha : PySem.W.findIn K (.ref C) "__class__" = some (some (.builtin "object.__class__")))
      (hn : PySem.W.specialIn K (.builtin "object.__class__") "__get__" = some (some (.builtin "getset_descriptor.__get__"))) (htk : PySem.W.takesIn K (.builtin "object.__class__") = some true)
      (hm : PySem.W.mroIn K C (.type "object") = some true) : TyOf K H (.ref a) (.ref C)
/-- isinstance(x, c) for one class c, a built-in or an own one: kitOne's answer -/
theorem isinst_ok {x : V} {u t : Value} (I : Inv X pins σ H s) (rx : RelV x u) (ty : TyOf X.K H x t) (e : PySem.W.kitOne X.K t c = some b) (h : ∀ tk, Q (.bool b) { s with toks := tk }) :
    wpAny (model X.prog X.w) A (call (.builtin "isinstance") [u, c]) Q E s := by
  cases ty with
  | non => cases (show u = Value.none from rx); exact PySem.W.kia_one PySem.W.kitx_none I.kIn True.intro e (fun z => nomatch z) h
  | bl y => cases (show u = Value.bool y from rx); exact PySem.W.kia_one PySem.W.kitx_bool I.kIn True.intro e (fun z => nomatch z) h
  | int i => obtain ⟨t, q⟩ := (show ∃ t, u = Value.int i t from rx); cases q; exact PySem.W.kia_one PySem.W.kitx_int I.kIn True.intro e (fun z => nomatch z) h
  | str y => obtain ⟨t, q⟩ := (show ∃ t, u = Value.str y t from rx); cases q; exact PySem.W.kia_one PySem.W.kitx_str I.kIn True.intro e (fun z => nomatch z) h
  | flt y => obtain ⟨t, q⟩ := (show ∃ t, u = Value.float y t from rx); cases q; exact PySem.W.kia_one PySem.W.kitx_float I.kIn True.intro e (fun z => nomatch z) h
  | @lst a xs ea =>
    cases (show u = Value.ref a from rx)
    obtain ⟨_, _, n, _, h1⟩ := (show ObjOk X.prog X.w H s.heap a (.lst xs) from I.hok a _ ea)
    exact PySem.W.kia_one PySem.W.kitx_list I.kIn ⟨_, h1, rfl⟩ e (fun z => nomatch z) h
  | @frz a ob xs ea =>
    cases (show u = Value.ref a from rx)
    obtain ⟨_, _, _, n, _, h1⟩ := (show ObjOk X.prog X.w H s.heap a (.frz ob (.lst xs)) from I.hok a _ ea)
    exact PySem.W.kia_one PySem.W.kitx_list I.kIn ⟨_, h1, rfl⟩ e (fun z => nomatch z) h
  | @tup a xs ea =>
    cases (show u = Value.ref a from rx)
    obtain ⟨_, _, _, p⟩ := (show ObjOk X.prog X.w H s.heap a (.tup xs) from I.hok a _ ea)
    obtain ⟨o, h1, h2, _⟩ := p
    exact PySem.W.kia_one PySem.W.kitx_tuple I.kIn ⟨o, h1, h2⟩ e (fun z => nomatch z) h
  | @dK a kvs ea =>
    cases (show u = Value.ref a from rx)
    obtain ⟨_, _, vs, _, p⟩ := (show ObjOk X.prog X.w H s.heap a (.dK kvs) from I.hok a _ ea)
    obtain ⟨o, es, ep, h1, h2, _⟩ := p
    exact PySem.W.kia_one PySem.W.kitx_dict I.kIn ⟨o, h1, h2.1⟩ e (fun z => nomatch z) h
  | @dT a kvs ea =>
    cases (show u = Value.ref a from rx)
    obtain ⟨_, _, xs, _, o, es, ep, h1, h2, _⟩ := (show ObjOk X.prog X.w H s.heap a (.dT kvs) from I.hok a _ ea)
    exact PySem.W.kia_one PySem.W.kitx_dict I.kIn ⟨o, h1, h2.1⟩ e (fun z => nomatch z) h
  | @ins a C dx fs ea cl ha hn htk hm =>
    cases (show u = Value.ref a from rx)
    obtain ⟨mA, O, _⟩ := ins_get I.hok ea
    obtain ⟨od, J, _⟩ := O.look
    exact PySem.W.kia_one (PySem.W.kitx_own (cl.get _) cl.hd ha hn htk hm) I.kIn J e (fun z => nomatch z) h
end
end L2
namespace L2
open PySem PySem.Spec PyProof.Rows
/-! ### room -/
structure Room (k : Nat) (A : Around) : Prop where
  hd : A.handled = none
  dp : A.depth + 3 * k + 5 < recursionLimit
  un : A.units + 16 * k + 200 < cLine
theorem Room.mono {j k : Nat} {A : Around} (r : Room k A) (h : j ≤ k) : Room j A := ⟨r.hd, by have := r.dp; omega, by have := r.un; omega⟩
theorem Room.deeper {k : Nat} {A : Around} (r : Room (k + 1) A) (env : Env) : Room k (A.deeper env) :=
  ⟨r.hd, by have := r.dp; show A.depth + 1 + 3 * k + 5 < _; omega, by have := r.un; show A.units + 3 + 16 * k + 200 < _; omega⟩
theorem make_depth {A : Around} {C : Addr} {us : List Value} {kw : List (Str × Value)} : (A.under (.builtin "type.__call__" ⟨.ref C :: us, kw⟩)).depth = A.depth + 1 := by
  first | rfl | simp [Around.under, Code.weight, Code.isCreation, Code.isGuard, Code.isCaller, Code.frames, Code.isFrame, guardIds]
theorem make_units {A : Around} {C : Addr} {us : List Value} {kw : List (Str × Value)} : (A.under (.builtin "type.__call__" ⟨.ref C :: us, kw⟩)).units = A.units + 1 := by
  first | rfl | simp [Around.under, Code.cUnits, Code.frames, Code.isFrame]
theorem Room.make {k : Nat} {A : Around} (r : Room (k + 1) A) (C : Addr) (us : List Value) (kw : List (Str × Value)) : Room k (A.under (.builtin "type.__call__" ⟨.ref C :: us, kw⟩)) :=
  ⟨r.hd, by have := r.dp; rw [make_depth]; omega, by have := r.un; rw [make_units]; omega⟩
theorem Room.depth {k : Nat} {A : Around} (r : Room k A) : A.depth < recursionLimit := by have := r.dp; omega
theorem Room.units {k : Nat} {A : Around} (r : Room k A) : A.units + 64 < cLine := by have := r.un; omega
/-! ### argument lists and displays -/
def tNil : TA := fun _ H Q => Q [] H
def tCons (ta : TE) (tr : TA) : TA := fun σ H Q => ta σ H fun x H1 => tr σ H1 fun xs H2 => Q (x :: xs) H2
section
variable {X : Cx} {e : Expr} {es : List Expr} {te : TE} {t : TA} {pos : Pos}
theorem pa_nil : PA X [] tNil := fun _ _ _ _ H Q I h => Calls.spliced_nil ⟨[], H, I, .nil, h⟩
theorem pa_cons (ha : PE X e te) (hr : PA X es t) (hs : starEach (e :: es) X.env = (false, eval e X.env) :: starEach es X.env := by rfl) : PA X (e :: es) (tCons te t) := by
  intro pos pins s σ H Q I h
  rw [hs]
  show wpAny _ _ (spliced ((false, eval e X.env) :: backTo pos (starEach es X.env))) _ _ s
  refine Calls.spliced_cons (thn (ha pins s σ H _ I h) fun u s1 ⟨x, H1, I1, r1, q1⟩ => ?_)
  exact thn (hr pos pins s1 σ H1 _ I1 q1) fun us s2 ⟨xs, H2, I2, r2, q2⟩ => ⟨x :: xs, H2, I2, .cons r1 r2, q2⟩
/-- a tuple, a list of written items -/
def tTup (t : TA) : TE := fun σ H Q => t σ H fun xs H1 => xs.length ≤ sizeLine ∧ ∀ p, H1 p = none → Q (.ref p) (upd H1 p (.tup xs))
def tLst (t : TA) : TE := fun σ H Q => t σ H fun xs H1 => xs.length ≤ sizeLine ∧ ∀ p, H1 p = none → Q (.ref p) (upd H1 p (.lst xs))
theorem pe_tup {x1} (h : PA X es t) : PE X (.Tuple es x1 pos) (tTup t) := by
  intro pins s σ H Q I hq
  refine wpAny_Tuple_spliced (thn (h pos pins s σ H _ I hq) fun us s1 ⟨xs, H1, I1, r, z, q⟩ => ⟨by rw [← r.length]; exact z, ?_⟩)
  have hf : H1 s1.heap.objs.size = none := I1.hok.fresh (Nat.le_refl _)
  refine ⟨.ref s1.heap.objs.size, upd H1 s1.heap.objs.size (.tup xs), I1.laid (t' := s1.toks) (fun b u e => Heap.get?_push_of_some _ e) (Nat.le_refl _) ?_, rfl, q _ hf⟩
  exact ⟨z, us, r, ⟨_, Heap.get?_push_size _ rfl, rfl, _, rfl⟩⟩
theorem pe_lst (h : PA X es t) : PE X (.List es pos) (tLst t) := by
  intro pins s σ H Q I hq
  refine wpAny_List_spliced (thn (h pos pins s σ H _ I hq) fun us s1 ⟨xs, H1, I1, r, z, q⟩ => ⟨by rw [← r.length]; exact z, ?_⟩)
  have hf : H1 s1.heap.objs.size = none := I1.hok.fresh (Nat.le_refl _)
  refine ⟨.ref s1.heap.objs.size, upd H1 s1.heap.objs.size (.lst xs), I1.laid (t' := s1.toks) (fun b u e => Heap.get?_push_of_some _ e) (Nat.le_refl _) ?_, rfl, q _ hf⟩
  exact ⟨z, us, 0, r, Heap.get?_push_size _ rfl⟩
end
/-! ### what a def promises -/
/-- a def's promise: the bound arguments in the parameters' order, the heap, the wanted end, the wanted exception -/
abbrev Sp := List V → Hp → VK → XK → Prop
/-- how an exception lies behind a call (file 08 gives it): the callers' frames, abstract heap and state ahead of the call, the wish, the exception, the state -/
abbrev CXT := List Env → Hp → Shared → XK → Value → Shared → Prop
/-- the state at a call -/
structure Env0 (P : Program) (w : World) (K : PySem.W.Frag) (mg : Str → Option Value) (base : Heap) (A : Around) (outer : List Env) (s : Shared) (H : Hp) : Prop where
  frames : A.frames = some outer
  mod : Mod K mg base
  bs : ∀ b o, base.get? b = some o → s.heap.get? b = some o ∧ H b = none
  bsz : base.objs.size ≤ s.heap.objs.size
  funs : s.heap.FunFrames base outer
  frf : ∀ b ∈ frs outer, H b = none
  hok : HOk P w H s.heap
  bare : AllBare s.gens
/-- a call's end -/
def CE (outer : List Env) (P : Program) (w : World) (H : Hp) (s : Shared) (Q : VK) (u : Value) (s' : Shared) : Prop :=
  ∃ v H', s'.os = s.os ∧ AllBare s'.gens ∧ Un (frs outer) [] H H' s.heap s'.heap ∧ HOk P w H' s'.heap ∧ RelV v u ∧ Q v H'
def CR (CX : CXT) (outer : List Env) (P : Program) (w : World) (H : Hp) (s : Shared) (Q : VK) (E : XK) (r : Result) (s' : Shared) : Prop :=
  match r with
  | .ok (.ret u) => CE outer P w H s Q u s'
  | .ok _ => False
  | .error e => CX outer H s E e s'
structure FnOk (P : Program) (w : World) (K : PySem.W.Frag) (mg : Str → Option Value) (base : Heap) (CX : CXT) (k : Nat) (f : Addr) (fd : FuncData) (ps : List Str) (sp : Sp) : Prop where
  len : ∀ vs H Q E, sp vs H Q E → vs.length = ps.length
  run : ∀ (A : Around) (outer : List Env) (s : Shared) (H : Hp) (args : Args) (us : List Value) (vs : List V) (Q : VK) (E : XK), Room k A → Env0 P w K mg base A outer s H → BindsTo s fd args (ps.zip us) → Vals vs us → sp vs H Q E →
    codeAny (model P w) A (.call (.ref f) args) (CR CX outer P w H s Q E) s
theorem Env0.make {P : Program} {w : World} {K : PySem.W.Frag} {mg : Str → Option Value} {base : Heap} {A : Around} {outer : List Env} {s : Shared} {H : Hp} (e : Env0 P w K mg base A outer s H) (C : Addr) (us : List Value) (kw : List (Str × Value)) :
    Env0 P w K mg base (A.under (.builtin "type.__call__" ⟨.ref C :: us, kw⟩)) outer s H := ⟨by first | exact e.frames | (simpa [Around.under, Code.envs, Code.isFrame, pushEnvs] using e.frames), e.mod, e.bs, e.bsz, e.funs, e.frf, e.hok, e.bare⟩
section
variable {X : Cx} {pins : List (Addr × Obj)} {σ : St} {H : Hp} {s s' : Shared}
/-- from a body: what a callee wants -/
theorem Inv.env0 (I : Inv X pins σ H s) : Env0 X.prog X.w X.K X.mg X.base X.A X.stack s H :=
  ⟨I.ok.frames, I.ok.mod, I.bs, Nat.le_trans I.ok.bsz I.sz, I.stack, I.stkFree, I.hok, I.bare⟩
/-- behind a call -/
theorem Inv.after {Q : VK} {u : Value} (I : Inv X pins σ H s) (h : CE X.stack X.prog X.w H s Q u s') : EP X pins σ Q u s' := by
  obtain ⟨v, H', os, bare, un, hok, r, q⟩ := h
  obtain ⟨hh, g, d, t, os'⟩ := s'
  obtain rfl : os' = s.os := os
  exact ⟨v, H', I.call (h' := hh) (g' := g) (d' := d) (t' := t) (ch := []) un hok bare (fun b z => absurd z (by simp)), r, q⟩
end
/-- how the parameters are bound: us the positional arguments, kw the keywords' values by name, ds the defaults that fill up -/
def Binds (K : PySem.W.Frag) (fd : FuncData) (ps : List Str) (ds : List Value) : Prop :=
  ∀ (s : Shared) (us : List Value), K.In s.heap → (us ++ ds).length = ps.length → BindsTo s fd ⟨us, []⟩ (ps.zip (us ++ ds))
/-- every parameter is given -/
theorem Binds.all {K : PySem.W.Frag} {fd : FuncData} {ps : List Str} (h : ∀ us : List Value, us.length = ps.length → bindArgs fd ⟨us, []⟩ = pure (ps.zip us)) : Binds K fd ps [] := fun s us _ hl => by
  rw [List.append_nil] at hl ⊢
  exact .of_eq (h us hl)
section
variable {X : Cx} {CX : CXT} {k : Nat} {f C : Addr} {fd : FuncData} {ps : List Str} {sp : Sp} {dvs : List V} {ds : List Value} {E : XK} {x m : Str} {p pos apos : Pos} {e o : Expr} {es : List Expr} {ta : TE} {t : TA}
/-- what a class must have to be made -/
structure Mk (K : PySem.W.Frag) (C f : Addr) : Prop where
  makes : PySem.W.makesIn K C = true
  init : PySem.W.findIn K (.ref C) "__init__" = some (some (.ref f))
  fn : PySem.W.isFn K (.ref f) = true
  kp : PySem.W.keepIn K (.ref C) = true
end
section
variable {X : Cx} {CX : CXT} {k : Nat} {f C : Addr} {fd : FuncData} {ps ks : List Str} {sp : Sp} {E : XK} {x m : Str} {p pos apos kpos : Pos} {e o : Expr} {es : List Expr} {kws : List Keyword} {te ta : TE} {t tk : TA} {nm : Option Str}
variable {g : List Value → List Value → List Value} {gV : List V → List V → List V}
end
/-! ### a def's body keeps its promise -/
/-- names: the parameters first -/
structure FnScope (N P : List Str) (sc : Scope) : Prop where
  kind : sc.kind = .function
  co : sc.isCoroutine = false
  gen : sc.isGenerator = false
  nd : N.Nodup
  pre : N.take P.length = P
  par : ∀ x ∈ P, sc.names.lookup x = some .local ∨ sc.names.lookup x = some .cell
  nofree : ∀ y ∈ sc.names, y.2 ≠ .free
theorem bindL_out {kindOf : Str → Option NameKind} {x : Str} : ∀ {binds : List (Str × Value)} {m : Str → Option Value}, (∀ v, (x, v) ∉ binds) → bindL kindOf binds m x = m x
  | [], _, _ => rfl
  | (n, v) :: r, m, h => by
    unfold bindL
    rw [bindL_out fun w hw => h w (List.mem_cons_of_mem _ hw)]
    split
    · have : x ≠ n := by rintro rfl; exact h v List.mem_cons_self
      simp [this]
    · rfl
theorem bindC_out {kindOf : Str → Option NameKind} {x : Str} : ∀ {binds : List (Str × Value)} {m : Str → Option Value}, (∀ v, (x, v) ∉ binds) → bindC kindOf binds m x = m x
  | [], _, _ => rfl
  | (n, v) :: r, m, h => by
    unfold bindC
    rw [bindC_out fun w hw => h w (List.mem_cons_of_mem _ hw)]
    split
    · rfl
    · have : x ≠ n := by rintro rfl; exact h v List.mem_cons_self
      simp [this]
theorem bindL_get {kindOf : Str → Option NameKind} {x : Str} {v : Value} : ∀ {P : List Str} {vs : List Value} {i : Nat} {m : Str → Option Value}, P.Nodup → P[i]? = some x → vs[i]? = some v → kindOf x = some .local →
    bindL kindOf (P.zip vs) m x = some v
  | [], _, _, _, _, h, _, _ => by simp at h
  | _ :: _, [], _, _, _, _, h, _ => by simp at h
  | p :: P, w :: vs, 0, m, nd, h1, h2, hk => by
    simp at h1 h2; subst h1; subst h2
    show bindL kindOf ((p, w) :: P.zip vs) m p = _
    unfold bindL
    rw [bindL_out fun v hv => (List.nodup_cons.mp nd).1 (List.of_mem_zip hv).1, if_pos hk]
    simp
  | p :: P, w :: vs, i + 1, m, nd, h1, h2, hk => by
    show bindL kindOf ((p, w) :: P.zip vs) m x = _
    unfold bindL
    exact bindL_get (i := i) (List.nodup_cons.mp nd).2 (by simpa using h1) (by simpa using h2) hk
theorem bindC_get {kindOf : Str → Option NameKind} {x : Str} {v : Value} : ∀ {P : List Str} {vs : List Value} {i : Nat} {m : Str → Option Value}, P.Nodup → P[i]? = some x → vs[i]? = some v → kindOf x ≠ some .local →
    bindC kindOf (P.zip vs) m x = some v
  | [], _, _, _, _, h, _, _ => by simp at h
  | _ :: _, [], _, _, _, _, h, _ => by simp at h
  | p :: P, w :: vs, 0, m, nd, h1, h2, hk => by
    simp at h1 h2; subst h1; subst h2
    show bindC kindOf ((p, w) :: P.zip vs) m p = _
    unfold bindC
    rw [bindC_out fun v hv => (List.nodup_cons.mp nd).1 (List.of_mem_zip hv).1, if_neg hk]
    simp
  | p :: P, w :: vs, i + 1, m, nd, h1, h2, hk => by
    show bindC kindOf ((p, w) :: P.zip vs) m x = _
    unfold bindC
    exact bindC_get (i := i) (List.nodup_cons.mp nd).2 (by simpa using h1) (by simpa using h2) hk
/-- the names' values at the entry -/
def start (N : List Str) (vs : List V) : St := vs.map some ++ List.replicate (N.length - vs.length) none
/-- the context of a def's body, at its entry; an exception leaves the frame, then lies as CX says -/
def cxOf (CX : CXT) (P : Program) (w : World) (K : PySem.W.Frag) (mg : Str → Option Value) (base : Heap) (N : List Str) (qual : Str) (scope : Scope) (f : Addr) (cd : Value) (A : Around) (outer : List Env) (s : Shared) (H : Hp) (E : XK) : Cx where
  prog := P
  w := w
  K := K
  mg := mg
  base := base
  A := A.deeper (envOfC qual scope s.heap.objs.size f cd)
  N := N
  s₀ := s
  H₀ := H
  env := envOfC qual scope s.heap.objs.size f cd
  outer := outer
  stack := envOfC qual scope s.heap.objs.size f cd :: outer
  ex := []
  calm := true
  fn := fun _ => true
  pn := []
  xe := fun e s' => wpAny (model P w) (A.deeper (envOfC qual scope s.heap.objs.size f cd)) (leaving (envOfC qual scope s.heap.objs.size f cd) e) (fun _ s'' => CX outer H s E e s'') (fun e' s'' => CX outer H s E e' s'') s'
theorem cell_has {sc : Scope} {n : Nat} {x : Str} (h : sc.names.lookup x = some .cell) : ∃ c, (cellsFrom n sc.names []).lookup x = some c := by
  have q := PySem.W.cellsFrom_some sc.names n [] (.inl h)
  exact Option.isSome_iff_exists.mp q
theorem inv_start {CX : CXT} {P : Program} {w : World} {K : PySem.W.Frag} {mg : Str → Option Value} {base : Heap} {N ps : List Str} {qual : Str} {scope : Scope} {f : Addr} {cd : Value} {A : Around} {outer : List Env} {s s1 : Shared} {H : Hp} {E : XK} {us : List Value} {vs : List V}
    (S : FnScope N ps scope) (hd : A.handled = none) (e0 : Env0 P w K mg base A outer s H) (hl : vs.length = ps.length) (r : Vals vs us)
    (x : InCallC s s.heap.objs.size (bindL (envOfC qual scope s.heap.objs.size f cd).kindOf (ps.zip us) fun _ => none) (cellsFrom (s.heap.objs.size + 1) scope.names []) (bindC (envOfC qual scope s.heap.objs.size f cd).kindOf (ps.zip us) fun _ => none) s1) :
    Inv (cxOf CX P w K mg base N qual scope f cd A outer s H E) [] (start N vs) H s1 := by
  have hpl : ps.length ≤ N.length := by have := congrArg List.length S.pre; rw [List.length_take] at this; omega
  obtain ⟨h1, tk, rfl, hk⟩ := x.done
  have noA : ∀ b : Addr, b ∉ (cxOf CX P w K mg base N qual scope f cd A outer s H E).ex := fun b z => absurd (show b ∈ ([] : List Addr) from z) (by simp)
  refine ⟨⟨e0.mod, S.kind, rfl, rfl, Nat.le_refl _, fun y z c h1 h2 => ?_, fun y hy => ?_, fun y c _ h => ?_, fun _ => hd, Around.frames_deeper e0.frames, .inr ⟨rfl, rfl⟩, fun b z => absurd z (noA b), e0.bs, e0.bsz, fun b _ _ => noA b, fun b z => absurd z (noA b), e0.funs, e0.frf⟩,
    rfl, e0.bare, Un.kept hk, ⟨_, x.toInCall.ns, fun i y v h1 h2 h3 => ?_⟩, fun y c h => ⟨_, x.cell y c h⟩, e0.hok.fresh (Nat.le_refl _), fun y c h => ?_, fun p hp => absurd (show p ∈ ([] : List (Addr × Obj)) from hp) (by simp), e0.hok.kept hk, ?_⟩
  · exact name_of_addr x.apart (PySem.mem_of_lookup h1) (PySem.mem_of_lookup h2)
  · have hy : scope.names.lookup y = some .cell ∨ scope.names.lookup y = some .free := hy
    rcases hy with hy | hy
    · exact cell_has hy
    · exact absurd rfl (S.nofree _ (PySem.mem_of_lookup hy))
  · exact Nat.le_of_lt (x.above y c (PySem.mem_of_lookup h))
  · have hi : i < vs.length := by
      unfold start at h2
      by_cases hi : i < vs.length
      · exact hi
      · rw [List.getElem?_append_right (by simpa using hi)] at h2
        rw [List.getElem?_replicate] at h2
        split at h2 <;> cases h2
    have ha : vs[i]? = some v := by
      unfold start at h2
      rw [List.getElem?_append_left (by simpa using hi), List.getElem?_map] at h2
      cases e : vs[i]? with
      | none => rw [e] at h2; cases h2
      | some a => rw [e] at h2; cases h2; rfl
    obtain ⟨u, hu, rv⟩ := r.get ha
    have hp : ps[i]? = some y := by
      rw [← S.pre, List.getElem?_take_of_lt (by omega)]; exact h1
    have ndP : ps.Nodup := by rw [← S.pre]; exact S.nd.sublist (List.take_sublist _ _)
    refine ⟨u, rv, ?_⟩
    rcases S.par y (List.mem_of_getElem? hp) with k | k
    · exact .inl ⟨k, bindL_get ndP hp hu k⟩
    · obtain ⟨c, e⟩ := cell_has (n := s.heap.objs.size + 1) k
      refine .inr ⟨.inl k, c, e, ?_⟩
      have q := x.cell y c e
      rw [bindC_get ndP hp hu (by show scope.names.lookup y ≠ _; rw [k]; decide)] at q
      exact q
  · exact e0.hok.fresh (Nat.le_of_lt (x.above y c (PySem.mem_of_lookup h)))
  · unfold start
    show _ = N.length
    rw [List.length_append, List.length_map, List.length_replicate]
    omega
/-- THE RULE: a def (or a method) of the text, by its body. The body's reading t is chosen for each entry; it is run at the parameters' values -/
theorem fn_of {CX : CXT} {P : Program} {w : World} {K : PySem.W.Frag} {mg : Str → Option Value} {base : Heap} {k : Nat} {f : Addr} {name qual : Str} {params : Arguments} {body : List Stmt} {scope : Scope} {dV kV doc pm cdv ct oc : Value} {an od : Option Addr}
    {osl : Array (Option Value)} {N ps : List Str} {sp : Sp} (lk : K.lookup f = some ⟨oc, od, .func (PySem.W.fnOf name qual params body scope dV kV doc pm an cdv ct), osl⟩) (hcd : PySem.W.codeIn K cdv qual = true) (S : FnScope N ps scope)
    (len : ∀ vs H Q E, sp vs H Q E → vs.length = ps.length)
    (hbody : ∀ (A : Around) (outer : List Env) (s : Shared) (H : Hp) (vs : List V) (Q : VK) (E : XK), Room k (A.deeper (envOfC qual scope s.heap.objs.size f cdv)) → sp vs H Q E →
      ∃ t, PSs (cxOf CX P w K mg base N qual scope f cdv A outer s H E) body t ∧ t { nx := fun _ H' => Q .non H', rt := Q } (start N vs) H) :
    FnOk P w K mg base CX (k + 1) f (PySem.W.fnOf name qual params body scope dV kV doc pm an cdv ct) ps sp := by
  refine ⟨len, fun A outer s H args us vs Q E hr e0 hb r hsp => ?_⟩
  have hl := len _ _ _ _ hsp
  have KX : K.In s.heap := e0.mod.kin.keeps fun b o e => (e0.bs b o e).1
  have lim : s.heap.NoLimit := e0.mod.nolimit.keeps fun b o e => (e0.bs b o e).1
  have hkind : ∀ y ∈ ps.zip us, scope.names.lookup y.1 = some .local ∨ (scope.names.lookup y.1 = some .cell ∧ ((cellsFrom (s.heap.objs.size + 1) scope.names []).lookup y.1).isSome = true) := fun ⟨n, v⟩ hy => by
    rcases S.par n (List.of_mem_zip hy).1 with q | q
    · exact .inl q
    · exact .inr ⟨q, PySem.W.cellsFrom_some _ _ _ (.inl q)⟩
  refine codeAny_call_function hr.depth (KX _ _ lk) rfl S.co S.gen rfl (PySem.W.codeRec_of KX hcd) (hb _ _ _ _ ?_)
  refine wpAny_newFunctionEnv_cells S.kind hkind fun env he s1 x => ?_
  subst he
  refine ⟨lim.keeps x.toInCall.keep, codeAny_func ?_⟩
  obtain ⟨t, ht, hq⟩ := hbody A outer s H vs Q E (hr.deeper _) hsp
  have I : Inv (cxOf CX P w K mg base N qual scope f cdv A outer s H E) [] (start N vs) H s1 := inv_start S hr.hd e0 hl r x
  refine wpAny_mono (ht [] s1 (start N vs) H _ I hq) (fun fl s' hs => ?_) fun e s' hs => hs
  have fin : ∀ {σ' : St} {H' : Hp} {v : V} {u : Value}, Inv (cxOf CX P w K mg base N qual scope f cdv A outer s H E) [] σ' H' s' → RelV v u → Q v H' → CE outer P w H s Q u s' :=
    fun {σ' H' v u} J rv q => ⟨v, H', J.os, J.bare, J.base, J.hok, rv, q⟩
  cases fl with
  | ret u =>
    obtain ⟨v, σ', H', J, rv, q⟩ := hs
    exact fin J rv q
  | next =>
    obtain ⟨σ', H', J, q⟩ := hs
    exact fin (v := V.non) (u := Value.none) J rfl q
  | brk =>
    obtain ⟨_, _, _, q⟩ := hs
    exact False.elim q
  | cont =>
    obtain ⟨_, _, _, q⟩ := hs
    exact False.elim q
end L2
namespace L2
open PySem PySem.Spec PyProof.Rows
section
variable {X : Cx} {x : Str} {p pos : Pos} {e : Expr} {es : List Expr} {t : TA} {id T : String} {r : List V → Hp → VK → Prop}
def tCB (r : List V → Hp → VK → Prop) (t : TA) : TE := fun σ H Q => t σ H fun vs H1 => r vs H1 Q
/-- f(e, ..), f a built-in function -/
theorem pe_callB (hc : CallR X (.builtin id) r) (hg : Gl X x) (hm : X.mg x = none) (hv : bootBuiltins x = some (.builtin id)) (ha : PA X (e :: es) t) (hn : x ≠ "__name__" := by decide) (hdb : (x == ("__debug__" : Str)) = false := by decide)
    (he : starEach (e :: es) X.env = (false, eval e X.env) :: starEach es X.env := by rfl) (hpl : (backTo pos (starEach es X.env)).any (·.1) = false := by rfl) : PE X (.Call (.Name x p) (e :: es) [] pos) (tCB r t) := by
  intro pins s σ H Q I h
  refine wpAny_Call_Name_kw (ld_blt I hg hm hv ?_ hn hdb)
  exact PyProof.Rows.callWith_builtin1 (thn (ha pos pins s σ H _ I h) fun us s1 ⟨vs, H1, I1, r1, q1⟩ => hc pins s1 σ H1 vs us Q I1 r1 q1) he hpl
/-- T(e, ..), T a built-in type -/
theorem pe_callTy (hc : CallR X (.type T) r) (hg : Gl X x) (hm : X.mg x = none) (hv : bootBuiltins x = some (.type T)) (ha : PA X (e :: es) t) (hn : x ≠ "__name__" := by decide) (hdb : (x == ("__debug__" : Str)) = false := by decide)
    (he : starEach (e :: es) X.env = (false, eval e X.env) :: starEach es X.env := by rfl) (hpl : (backTo pos (starEach es X.env)).any (·.1) = false := by rfl) : PE X (.Call (.Name x p) (e :: es) [] pos) (tCB r t) := by
  intro pins s σ H Q I h
  refine wpAny_Call_Name_kw (ld_blt I hg hm hv ?_ hn hdb)
  exact PyProof.Rows.callWith_type1 (thn (ha pos pins s σ H _ I h) fun us s1 ⟨vs, H1, I1, r1, q1⟩ => hc pins s1 σ H1 vs us Q I1 r1 q1) he hpl
end
end L2
namespace HT
open PySem PyProof.Rows
section
open PySem.SeqAt
open PySem.AutoSeq1 (wpAny_loadPart')
open PySem.MeetsSeq PySem.MeetsSeq2 PySem.MeetsSeq3
end
section
variable {prog : Program} {w : World} {A : Around} {E : Value → Shared → Prop} {s : Shared}
/-- t + u, t not empty -/
theorem cat_tup {t b : Addr} {vs ws : List Value} {Q : Value → Shared → Prop} (ht : IsTup s.heap t vs.toArray) (hb : IsTup s.heap b ws.toArray) (hv : vs ≠ [])
    (h1 : ws = [] → Q (.ref t) s) (h2 : ws ≠ [] → Q (.ref s.heap.objs.size) { s with heap := s.heap.push { cls := .type "tuple", data := .seq (vs ++ ws).toArray } })
    (hsz : vs.length + ws.length ≤ sizeLine) : wpAny (model prog w) A (binaryOp .Add (.ref t) (.ref b)) Q E s := by
  obtain ⟨⟨cls, dd, data, sl⟩, ho, hc, n, hd⟩ := id ht
  obtain ⟨⟨cls2, dd2, data2, sl2⟩, ho2, hc2, n2, hd2⟩ := id hb
  simp only at hc hd hc2 hd2
  subst hc hd hc2 hd2
  have e : vs.toArray ++ ws.toArray = (vs ++ ws).toArray := by simp
  by_cases hw : ws = []
  · exact concat_meets ⟨_, ho, rfl⟩ ⟨_, ho2, rfl⟩ noFill_tuple_add seq_tuple_add PySem.F.slot_tuple_add PySem.F.entry_tuple_add (PySem.F.args_tuple_add_2 _ _)
      (tuple_addW1 t b vs.toArray ws.toArray n n2 dd dd2 sl sl2 (by simpa using hv) (by simp [hw])) ⟨ho, ho2, h1 hw⟩
  · refine concat_meets ⟨_, ho, rfl⟩ ⟨_, ho2, rfl⟩ noFill_tuple_add seq_tuple_add PySem.F.slot_tuple_add PySem.F.entry_tuple_add (PySem.F.args_tuple_add_2 _ _)
      (tuple_addW2 t b vs.toArray ws.toArray n n2 dd dd2 sl sl2 (by simpa using hv) (by simpa using hw) (by rw [List.size_toArray, List.size_toArray]; exact hsz)) ⟨ho, ho2, ?_⟩
    rw [e]
    exact h2 hw
/-! ### t[a:b], not the whole -/
/-- a slice's bound as a place among n (d where it is left out) -/
def sIx (n d : Nat) : Option Int → Nat
  | none => d
  | some v => if v < 0 then (v + (n : Int)).toNat else min v.toNat n
theorem sIx_le (n d : Nat) (hd : d ≤ n) (o : Option Int) : sIx n d o ≤ n := by
  cases o with
  | none => exact hd
  | some v =>
    show (if v < 0 then (v + (n : Int)).toNat else min v.toNat n) ≤ n
    by_cases hv : v < 0
    · rw [if_pos hv]; omega
    · rw [if_neg hv]; exact Nat.min_le_right _ _
theorem clip_eq (v : Int) (n d : Nat) : (if v < 0 then max (v + (n : Int)) 0 else min v (n : Int)) = ((sIx n d (some v) : Nat) : Int) := by
  show (if v < 0 then max (v + (n : Int)) 0 else min v (n : Int)) = (((if v < 0 then (v + (n : Int)).toNat else min v.toNat n) : Nat) : Int)
  by_cases hv : v < 0
  · simp only [if_pos hv]; omega
  · simp only [if_neg hv]; omega
theorem adjust_gen (lo hi : Option Int) (n : Nat) : Builtin.Slice.sliceAdjust lo hi 1 (n : Int) = (((sIx n 0 lo : Nat) : Int), ((sIx n n hi : Nat) : Int)) := by
  have h1 : ¬ ((1 : Int) < 0) := by omega
  unfold Builtin.Slice.sliceAdjust
  simp only [h1, if_false]
  refine Prod.ext ?_ ?_
  · cases lo with
    | none => rfl
    | some v => exact clip_eq v n 0
  · cases hi with
    | none => rfl
    | some v => exact clip_eq v n n
theorem places_gen (i j : Nat) : Builtin.Slice.slicePlaces (i : Int) (j : Int) 1 = j - i := by
  unfold Builtin.Slice.slicePlaces
  have h1 : (1 : Int) > 0 := by omega
  simp only [h1, if_true, Int.ediv_one]
  split <;> omega
theorem slicePart_ {v : Value} {o : Option Int} {Q : Option Int → Shared → Prop} (p : IsPart v o) (h : Q o s) : wpAny (model prog w) A (Builtin.Slice.slicePartIndex v) Q E s := by
  cases p with
  | none => exact slicePart_none h
  | int i t => exact slicePart_int h
theorem sliceApplied_gen {sl : Addr} {vl vu : Value} {lo hi : Option Int} {n : Nat} {Q : Int × Int × Nat → Shared → Prop} (hs : s.heap.IsSliceOf sl vl vu .none) (pl : IsPart vl lo) (pu : IsPart vu hi)
    (h : Q (((sIx n 0 lo : Nat) : Int), 1, sIx n n hi - sIx n 0 lo) s) : wpAny (model prog w) A (Builtin.Slice.sliceApplied (.ref sl) (pure (n : Int))) Q E s := by
  obtain ⟨os, hos, hcs, hds⟩ := id hs
  unfold Builtin.Slice.sliceApplied Builtin.Slice.sliceFields
  refine wpAny_bind (wpAny_bind (wpAny_field hos hds (x := vl) rfl (wpAny_bind (wpAny_field hos hds (x := vu) rfl (wpAny_bind (wpAny_field hos hds (x := .none) rfl (wpAny_pure ?_)))))))
  refine wpAny_bind (slicePart_none ?_)
  show wpAny _ _ (if ((1 : Int) == 0) = true then _ else _) _ _ s
  rw [if_neg (by decide)]
  refine wpAny_bind (slicePart_ pl (wpAny_bind (slicePart_ pu (wpAny_bind (wpAny_pure ?_)))))
  show wpAny _ _ (match Builtin.Slice.sliceAdjust lo hi 1 (n : Int) with | (lo, hi) => pure (lo, (1 : Int), Builtin.Slice.slicePlaces lo hi 1)) _ _ s
  rw [adjust_gen lo hi n]
  show wpAny _ _ (pure (((sIx n 0 lo : Nat) : Int), (1 : Int), Builtin.Slice.slicePlaces ((sIx n 0 lo : Nat) : Int) ((sIx n n hi : Nat) : Int) 1)) _ _ s
  rw [places_gen]
  exact wpAny_pure h
theorem pick_gen (xs : Array Value) (i k : Nat) : ((List.range k).filterMap fun (m : Nat) => xs[((i : Int) + (m : Int) * 1).toNat]?).toArray = ((xs.toList.drop i).take k).toArray := by
  have e : (fun (m : Nat) => xs[((i : Int) + (m : Int) * 1).toNat]?) = fun m => xs[i + m]? := by
    funext m
    have : ((i : Int) + (m : Int) * 1).toNat = i + m := by omega
    rw [this]
  rw [e]
  have := pick_run xs i k
  rw [List.filterMap_map] at this
  have e2 : ((fun x => xs[x]?) ∘ fun x => i + x) = fun m => xs[i + m]? := rfl
  rw [e2] at this
  rw [this]
theorem getItem_tuple_cut {t sl : Addr} {items : Array Value} {vl vu : Value} {lo hi : Option Int} {Q : Value → Shared → Prop} (ht : IsTup s.heap t items) (hs : s.heap.IsSliceOf sl vl vu .none) (pl : IsPart vl lo) (pu : IsPart vu hi)
    (hw : ¬ (sIx items.size 0 lo = 0 ∧ sIx items.size items.size hi = items.size))
    (h : Q (.ref s.heap.objs.size) { s with heap := s.heap.push { cls := .type "tuple", data := .seq ((items.toList.drop (sIx items.size 0 lo)).take (sIx items.size items.size hi - sIx items.size 0 lo)).toArray } })
    (hsz : items.size ≤ sizeLine) : wpAny (model prog w) A (getItem (.ref t) (.ref sl)) Q E s := by
  have htake : sizeOk (.seq ((items.toList.drop (sIx items.size 0 lo)).take (sIx items.size items.size hi - sIx items.size 0 lo)).toArray) := by
    show ((items.toList.drop (sIx items.size 0 lo)).take (sIx items.size items.size hi - sIx items.size 0 lo)).toArray.size ≤ sizeLine
    rw [List.size_toArray, List.length_take, List.length_drop, Array.length_toList]
    omega
  have hj : sIx items.size items.size hi ≤ items.size := sIx_le _ _ (Nat.le_refl _) hi
  obtain ⟨os, hos, hcs, hds⟩ := id hs
  have hTs : s.TypeIs (.ref sl) "slice" := ⟨os, hos, hcs⟩
  unfold getItem
  try with_reducible refine wpAny_holding ?_
  first | refine wpAny_bind (wpAny_pure ?_) | skip
  refine wpAny_bind (wpAny_sequenceKey ht.typeIs (by decide) ?_)
  refine wpAny_bind (wpAny_callSpecial?_slot (name := Str.ofString "__getitem__") ht.typeIs PyProof.Rows.slot_tuple_getitem
    (wpAny_call_entry PyProof.Rows.slot_tuple_getitem ht.typeIs entry_tuple_getitem ?_ (args_tuple_getitem _ _)))
  show wpAny _ _ (Builtin.Tuple.tupleItemsOf (.ref t) >>= _) _ _ s
  refine wpAny_bind (tupleItemsOf_ ht ?_)
  refine wpAny_bind (wpAny_typeOf hTs ?_)
  rw [if_pos (by decide)]
  refine wpAny_bind (sliceApplied_gen hs pl pu ?_)
  have hno : ¬ ((((sIx items.size 0 lo : Nat) : Int) == 0 && (1 : Int) == 1 && (sIx items.size items.size hi - sIx items.size 0 lo) == items.size) = true) := by
    intro q
    rw [Bool.and_eq_true, Bool.and_eq_true] at q
    have q1 : ((sIx items.size 0 lo : Nat) : Int) = 0 := eq_of_beq q.1.1
    have q2 : sIx items.size items.size hi - sIx items.size 0 lo = items.size := eq_of_beq q.2
    exact hw ⟨by omega, by omega⟩
  show wpAny _ _ (if (((sIx items.size 0 lo : Nat) : Int) == 0 && (1 : Int) == 1 && (sIx items.size items.size hi - sIx items.size 0 lo) == items.size) = true then _ else _) _ _ s
  rw [if_neg hno, pick_gen]
  first
    | exact wpAny_bind (m := Builtin.Tuple.tupleExact _) (wpAny_newObj_type (wpAny_pure ⟨_, rfl, wpAny_pure h⟩) htake)
    | exact wpAny_bind (m := Builtin.Tuple.tupleExact _) (wpAny_newObj_type (wpAny_bind (wpAny_pure (wpAny_pure ⟨_, rfl, wpAny_pure h⟩))) htake)
    | exact wpAny_bind (wpAny_bind (m := Builtin.Tuple.tupleExact _) (wpAny_newObj_type (wpAny_pure (wpAny_pure ⟨_, rfl, wpAny_pure h⟩)) htake))
    | exact wpAny_bind (wpAny_bind (m := Builtin.Tuple.tupleExact _) (wpAny_newObj_type (wpAny_pure ⟨_, rfl, wpAny_pure h⟩) htake))
end
end HT
namespace L2
open PySem PySem.Spec PyProof.Rows
/-! ### the parts of a slice -/
abbrev TO := St → Hp → (Option Int → Hp → Prop) → Prop
/-- a slice's part (left out, or an int) -/
def PO (X : Cx) (e : Option Expr) (t : TO) : Prop :=
  ∀ (pins : List (Addr × Obj)) (s : Shared) (σ : St) (H : Hp) (Q : Option Int → Hp → Prop), Inv X pins σ H s → t σ H Q →
    wpAny (model X.prog X.w) X.A (evalPart e X.env) (fun u s' => ∃ o H', Inv X pins σ H' s' ∧ IsPart u o ∧ Q o H') X.xe s
def tNoPart : TO := fun _ H Q => Q none H
def tPart (t : TE) : TO := fun σ H Q => t σ H fun x H1 => ∃ i, x = .int i ∧ Q (some i) H1
section
variable {X : Cx} {e : Expr} {te : TE} {lo hi : Option Expr} {tl th : TO} {pos p2 : Pos}
theorem po_none : PO X none tNoPart := by
  intro pins s σ H Q I h
  rw [evalPart_none]
  exact wpAny_pure ⟨none, H, I, .none, h⟩
theorem po_some (h : PE X e te) : PO X (some e) (tPart te) := by
  intro pins s σ H Q I hw
  rw [evalPart_some]
  refine thn (h pins s σ H _ I hw) fun u s1 ⟨x, H1, I1, r1, q1⟩ => ?_
  obtain ⟨i, rfl, q⟩ := q1
  obtain ⟨t, rfl⟩ := r1
  exact ⟨some i, H1, I1, .int i t, q⟩
/-- what a slice of a value is, by values: the slice object stands at sl -/
def SlR (X : Cx) (r : V → Option Int → Option Int → Hp → VK → Prop) : Prop :=
  ∀ (pins : List (Addr × Obj)) (s : Shared) (σ : St) (H : Hp) (x : V) (v vl vu : Value) (lo hi : Option Int) (sl : Addr) (Q : VK), Inv X pins σ H s → RelV x v → s.heap.IsSliceOf sl vl vu .none → IsPart vl lo → IsPart vu hi → r x lo hi H Q →
    ∃ T id, typeLookup (.type T) "__getitem__" = pure (some (.builtin id)) ∧ s.TypeIs v T ∧ wpAny (model X.prog X.w) X.A (getItem v (.ref sl)) (EP X pins σ Q) X.xe s
def tSl (r : V → Option Int → Option Int → Hp → VK → Prop) (te : TE) (tl th : TO) : TE := fun σ H Q => te σ H fun x H1 => tl σ H1 fun l H2 => th σ H2 fun u H3 => r x l u H3 Q
/-- a[lo:hi], any a -/
theorem pe_slice {r : V → Option Int → Option Int → Hp → VK → Prop} (hr : SlR X r) (he : PE X e te) (hl : PO X lo tl) (hu : PO X hi th) : PE X (.Subscript e (.Slice lo hi none p2) pos) (tSl r te tl th) := by
  intro pins s σ H Q I h
  refine Subscript_ (thn (he pins s σ H _ I h) fun v s1 ⟨x, H1, I1, r1, q1⟩ => ?_)
  refine wpAny_Slice (thn (hl pins s1 σ H1 _ I1 q1) fun vl s2 ⟨l, H2, I2, pl, q2⟩ => thn (hu pins s2 σ H2 _ I2 q2) fun vu s3 ⟨u, H3, I3, pu, q3⟩ => ?_)
  rw [evalPart_none]
  refine wpAny_pure ?_
  have I4 : Inv X pins σ H3 { s3 with heap := s3.heap.push { cls := .type "slice", data := .fields #[vl, vu, .none] } } := I3.kept (t' := s3.toks) fun b ob q => Heap.get?_push_of_some _ q
  obtain ⟨T, id, hT, ht, hg⟩ := hr pins { s3 with heap := s3.heap.push { cls := .type "slice", data := .fields #[vl, vu, .none] } } σ H3 x v vl vu l u s3.heap.objs.size Q I4 r1 (Heap.IsSliceOf.new ..) pl pu q3
  show wpAny (model X.prog X.w) X.A (subscriptTail e (.Slice lo hi none p2) v (.ref s3.heap.objs.size)) (EP X pins σ Q) X.xe { s3 with heap := s3.heap.push { cls := .type "slice", data := .fields #[vl, vu, .none] } }
  exact tail_any (ops := [.ref s3.heap.objs.size, v]) ht hT hg (by with_unfolding_all rfl)
/-- the items of xs[lo:hi] -/
def cutV (xs : List V) (lo hi : Option Int) : List V := (xs.drop (HT.sIx xs.length 0 lo)).take (HT.sIx xs.length xs.length hi - HT.sIx xs.length 0 lo)
theorem cutV_length (xs : List V) (lo hi : Option Int) : (cutV xs lo hi).length ≤ xs.length := by
  unfold cutV
  rw [List.length_take, List.length_drop]
  omega
/-- t[lo:hi], not the whole of it (the whole would be t itself) -/
def rSlT (K : PySem.W.Frag) : V → Option Int → Option Int → Hp → VK → Prop := fun x lo hi H Q => ∃ a xs, x = .ref a ∧ SqT K H a xs ∧
  ¬ (HT.sIx xs.length 0 lo = 0 ∧ HT.sIx xs.length xs.length hi = xs.length) ∧ ∀ p, H p = none → Q (.ref p) (upd H p (.tup (cutV xs lo hi)))
theorem sl_tup : SlR X (rSlT X.K) := by
  intro pins s σ H x v vl vu lo hi sl Q I rx hs pl pu h
  obtain ⟨a, xs, rfl, hx, hw, q⟩ := h
  cases rx
  obtain ⟨its, r, ht, hz⟩ := I.tuple hx
  have hlen : its.toArray.size = xs.length := by rw [List.size_toArray]; exact r.length.symm
  refine ⟨"tuple", _, PyProof.Rows.slot_tuple_getitem.lookup, ht.typeIs, ?_⟩
  refine HT.getItem_tuple_cut ht hs pl pu (by rw [hlen]; exact hw) ?_ (by rw [hlen]; exact hz)
  rw [hlen]
  refine ⟨.ref s.heap.objs.size, _, I.laid (t' := s.toks) (o := .tup (cutV xs lo hi)) (fun b ob q => Heap.get?_push_of_some _ q) (Nat.le_refl _) ?_, rfl, q _ (I.hok.fresh (Nat.le_refl _))⟩
  exact ⟨Nat.le_trans (cutV_length xs lo hi) hz, _, (r.drop (HT.sIx xs.length 0 lo)).take (HT.sIx xs.length xs.length hi - HT.sIx xs.length 0 lo), IsTup.new _ _⟩
/-- t + u, t not empty: u empty gives t itself -/
def rCatT (K : PySem.W.Frag) : R2 := fun x y H Q => ∃ a b xs ys, x = .ref a ∧ y = .ref b ∧ SqT K H a xs ∧ SqT K H b ys ∧ xs ≠ [] ∧ xs.length + ys.length ≤ sizeLine ∧
  (ys = [] → Q (.ref a) H) ∧ (ys ≠ [] → ∀ p, H p = none → Q (.ref p) (upd H p (.tup (xs ++ ys))))
theorem Vals.nil_iff {xs : List V} {us : List Value} (r : Vals xs us) : us = [] ↔ xs = [] := by
  cases r with
  | nil => simp
  | cons _ _ => simp
theorem op_catT : OpR X (binaryOp .Add) (rCatT X.K) := by
  intro pins s σ H x y v u Q I rx ry h
  obtain ⟨a, b, xs, ys, rfl, rfl, ha, hb, hx, hz, q1, q2⟩ := h
  cases rx
  cases ry
  obtain ⟨its, r1, p1, _⟩ := I.tuple ha
  obtain ⟨its2, r2, p2, _⟩ := I.tuple hb
  refine HT.cat_tup p1 p2 (fun z => hx (r1.nil_iff.mp z)) (fun z => ⟨.ref a, H, I, rfl, q1 (r2.nil_iff.mp z)⟩) (fun z => ?_) (by rw [← r1.length, ← r2.length]; exact hz)
  refine ⟨.ref s.heap.objs.size, _, I.laid (t' := s.toks) (o := .tup (xs ++ ys)) (fun b ob q => Heap.get?_push_of_some _ q) (Nat.le_refl _) ?_, rfl, q2 (fun w => z (r2.nil_iff.mpr w)) _ (I.hok.fresh (Nat.le_refl _))⟩
  exact ⟨by rw [List.length_append]; exact hz, _, r1.append r2, IsTup.new _ _⟩
end
end L2
namespace L2
open PySem PySem.Spec PyProof.Rows
/-! ### places -/
/-- the place that an index of any sign means -/
def ixN (n : Nat) (i : Int) : Option Nat := if 0 ≤ i then (if i < n then some i.toNat else none) else if -(n : Int) ≤ i then some (i + n).toNat else none
def atI {α : Type} (xs : List α) (i : Int) : Option α := (ixN xs.length i).bind fun j => xs[j]?
theorem ixN_seq {n : Nat} {i : Int} {j : Nat} (h : ixN n i = some j) : seqIndex? i n = some j ∧ j < n ∧ -(n : Int) ≤ i ∧ i < n := by
  unfold ixN at h
  by_cases h0 : 0 ≤ i
  · rw [if_pos h0] at h
    by_cases h1 : i < n
    · rw [if_pos h1] at h
      have e : i.toNat = j := Option.some.inj h
      exact ⟨by rw [seqIndex_of h0 h1, e], by omega, by omega, h1⟩
    · rw [if_neg h1] at h; cases h
  · rw [if_neg h0] at h
    by_cases h1 : -(n : Int) ≤ i
    · rw [if_pos h1] at h
      have e : (i + n).toNat = j := Option.some.inj h
      exact ⟨by rw [seqIndex_neg (by omega) h1, e], by omega, h1, by omega⟩
    · rw [if_neg h1] at h; cases h
theorem atI_get {α : Type} {xs : List α} {i : Int} {v : α} (h : atI xs i = some v) : ∃ j, seqIndex? i xs.length = some j ∧ xs[j]? = some v ∧ j < xs.length ∧ -(xs.length : Int) ≤ i ∧ i < xs.length := by
  unfold atI at h
  cases e : ixN xs.length i with
  | none => rw [e] at h; cases h
  | some j =>
    rw [e] at h
    obtain ⟨h1, h2, h3, h4⟩ := ixN_seq e
    exact ⟨j, h1, h, h2, h3, h4⟩
theorem atI_nat {α : Type} {xs : List α} {j : Nat} {v : α} (h : xs[j]? = some v) : atI xs (j : Int) = some v := by
  have hj : j < xs.length := (List.getElem?_eq_some_iff.mp h).1
  have e : ixN xs.length (j : Int) = some j := by
    unfold ixN
    rw [if_pos (by omega), if_pos (by omega)]; simp
  unfold atI; rw [e]; exact h
/-! ### what may be subscripted -/
/-- what stands as an index of a plain subscript -/
def PlainIx (b : Expr) : Prop := ∀ o i, subscripted b false o i = operate [o, i] (getItem o i)
/-- a subscript by values -/
def IxR (X : Cx) (r : R2) : Prop :=
  ∀ (value slice : Expr) (pins : List (Addr × Obj)) (s : Shared) (σ : St) (H : Hp) (x y : V) (v u : Value) (Q : VK), Inv X pins σ H s → RelV x v → RelV y u → r x y H Q →
    subscripted slice false v u = operate [v, u] (getItem v u) → wpAny (model X.prog X.w) X.A (subscriptTail value slice v u) (EP X pins σ Q) X.xe s
/-- a call of a builtin's method by values: the receiver, the arguments -/
def MtR (X : Cx) (id : String) (r : V → List V → Hp → VK → Prop) : Prop :=
  ∀ (pins : List (Addr × Obj)) (s : Shared) (σ : St) (H : Hp) (x : V) (xs : List V) (v : Value) (us : List Value) (Q : VK), Inv X pins σ H s → RelV x v → Vals xs us → r x xs H Q →
    wpAny (model X.prog X.w) X.A (call (.builtin id) (v :: us)) (EP X pins σ Q) X.xe s
section
variable {X : Cx} {a b : Expr} {ta tb : TE} {pos : Pos}
/-- a[b] -/
theorem pe_ix {r : R2} (hr : IxR X r) (ha : PE X a ta) (hb : PE X b tb) (hs : PlainIx b) : PE X (.Subscript a b pos) (tOp r ta tb) := by
  intro pins s σ H Q I h
  exact Subscript_ (binT ha hb I h fun v u s2 x y H2 I2 rx ry q => hr a b pins s2 σ H2 x y v u Q I2 rx ry q (hs _ _))
def rIxL (K : PySem.W.Frag) : R2 := fun x y H Q => ∃ p xs i v, x = .ref p ∧ y = .int i ∧ SqL K H p xs ∧ atI xs i = some v ∧ Q v H
def rIxT (K : PySem.W.Frag) : R2 := fun x y H Q => ∃ p xs i v, x = .ref p ∧ y = .int i ∧ SqT K H p xs ∧ atI xs i = some v ∧ Q v H
theorem ix_list : IxR X (rIxL X.K) := by
  intro value slice pins s σ H x y v u Q I rx ry h hs
  obtain ⟨p, xs, i, z, rfl, rfl, hq, he, q⟩ := h
  cases rx
  obtain ⟨t, rfl⟩ := ry
  obtain ⟨its, r, pl, hz⟩ := I.list hq
  obtain ⟨j, h1, h2, h3, h4, h5⟩ := atI_get he
  obtain ⟨w, ew, rw'⟩ := r.get h2
  have hl := r.length
  have hn := line63
  have fin : EP X pins σ Q w s := ⟨z, H, I, rw', q⟩
  by_cases h0 : 0 ≤ i
  · have hj : i.toNat = j := by
      rw [seqIndex_of h0 h5] at h1
      exact Option.some.inj h1
    exact item_listR pl.isList h0 (by omega) (by rw [hj]; simpa using ew) fin hs
  · have hj : (i + (its.toArray.size : Int)).toNat = j := by
      rw [seqIndex_neg (by omega) h4] at h1
      rw [List.size_toArray, ← hl]
      exact Option.some.inj h1
    exact subscriptTail_builtinR (x := w) pl.isList.typeIs slot_list_getitem.lookup
      (wpAny_getItem_list_neg (Q := fun r s' => r = w ∧ EP X pins σ Q r s') pl.isList (by omega) (by rw [List.size_toArray] <;> omega) (by omega) (by rw [hj]; simpa using ew) ⟨rfl, fin⟩) hs
theorem ix_tup : IxR X (rIxT X.K) := by
  intro value slice pins s σ H x y v u Q I rx ry h hs
  obtain ⟨p, xs, i, z, rfl, rfl, hq, he, q⟩ := h
  cases rx
  obtain ⟨t, rfl⟩ := ry
  obtain ⟨its, r, pl, hz⟩ := I.tuple hq
  obtain ⟨j, h1, h2, h3, h4, h5⟩ := atI_get he
  obtain ⟨w, ew, rw'⟩ := r.get h2
  have hl := r.length
  have hn := line63
  have fin : EP X pins σ Q w s := ⟨z, H, I, rw', q⟩
  exact subscriptTail_builtinR (x := w) pl.typeIs slot_tuple_getitem.lookup
    (getItem_tuple (j := j) (Q := fun r s' => r = w ∧ EP X pins σ Q r s') pl (by omega) (by omega) (by rw [List.size_toArray, ← hl]; exact h1) (by simpa using ew) ⟨rfl, fin⟩) hs
/-! ### xs[i] = v, any sign -/
/-- the list's object behind a store -/
theorem mapSeq_set (its : List Value) (n j : Nat) (u : Value) : Obj.mapSeq (·.setIfInBounds j u) { cls := .type "list", data := .seq its.toArray n } = { cls := .type "list", data := .seq (its.set j u).toArray n } := by
  simp [Obj.mapSeq]
theorem Inv.lst {pins : List (Addr × Obj)} {σ : St} {H : Hp} {s : Shared} {p : Addr} {xs : List V} (I : Inv X pins σ H s) (h : H p = some (.lst xs)) :
    ∃ (its : List Value) (n : Nat), Vals xs its ∧ s.heap.get? p = some { cls := .type "list", data := .seq its.toArray n } ∧ xs.length ≤ sizeLine := by
  obtain ⟨z, its, n, r, e⟩ := I.hok p _ h
  exact ⟨its, n, r, e, z⟩
/-- the list at p is written by an update of its object -/
theorem Inv.lstUpd {pins : List (Addr × Obj)} {σ : St} {H : Hp} {s : Shared} {p : Addr} {xs ys : List V} {its its' : List Value} {n n' : Nat} {f : Obj → Obj} (I : Inv X pins σ H s) (h : H p = some (.lst xs))
    (ho : s.heap.get? p = some { cls := .type "list", data := .seq its.toArray n }) (hf : f { cls := .type "list", data := .seq its.toArray n } = { cls := .type "list", data := .seq its'.toArray n' }) (r : Vals ys its') (hz : ys.length ≤ sizeLine) (t : Nat) :
    Inv X pins σ (upd H p (.lst ys)) { s with heap := s.heap.update p f, toks := t } := by
  have e : (s.heap.update p f).get? p = some { cls := .type "list", data := .seq its'.toArray n' } := by
    rw [Heap.get?_update_self f ho (by rw [hf] <;> rfl), hf]
  refine I.write (x := p) (e := p) (by rw [h]; trivial) (.inl rfl) (fun b u hb q => (Heap.get?_update_other _ _ (Ne.symm hb)).trans q) ⟨_, e⟩ ?_
  exact ⟨hz, its', n', r, e⟩
def rSetL : V → V → V → Hp → (Hp → Prop) → Prop := fun o i v H Q => ∃ p xs k j, o = .ref p ∧ i = .int k ∧ H p = some (.lst xs) ∧ ixN xs.length k = some j ∧ Q (upd H p (.lst (xs.set j v)))
theorem set_list : PSet X rSetL := by
  intro pins s σ H o i v ov iv u Q I ro ri rv h
  obtain ⟨p, xs, k, j, rfl, rfl, hp, hj, q⟩ := h
  cases ro
  obtain ⟨t, rfl⟩ := ri
  obtain ⟨its, n, r, ho, hz⟩ := I.lst hp
  obtain ⟨h1, h2, h3, h4⟩ := ixN_seq hj
  have hl := r.length
  have hn := line63
  have I' : Inv X pins σ (upd H p (.lst (xs.set j v))) { s with heap := s.heap.update p (Obj.mapSeq (·.setIfInBounds j u)) } :=
    I.lstUpd hp ho (mapSeq_set its n j u) (r.set rv j) (by rw [List.length_set]; exact hz) s.toks
  by_cases h0 : 0 ≤ k
  · have hk : k.toNat = j := by
      rw [seqIndex_of h0 h4] at h1
      exact Option.some.inj h1
    exact PySem.W.ki_setAt ho h0 (by omega) (by rw [List.size_toArray, ← hl]; exact h4) (by rw [hk]; exact ⟨_, I', q⟩)
  · have hk : (k + (its.toArray.size : Int)).toNat = j := by
      rw [seqIndex_neg (by omega) h3] at h1
      rw [List.size_toArray, ← hl]
      exact Option.some.inj h1
    exact PySem.W.ki_setBack ho (by omega) (by rw [List.size_toArray, ← hl]; exact h3) (by omega) (by rw [hk]; exact ⟨_, I', q⟩)
/-! ### slices -/
theorem slice_bounds (lo hi : Option Int) (n : Nat) : (sliceBounds lo hi none n).1 = ((HT.sIx n 0 lo : Nat) : Int) ∧ (sliceBounds lo hi none n).2.1 = ((HT.sIx n n hi : Nat) : Int) ∧ (sliceBounds lo hi none n).2.2 = 1 := by
  refine ⟨?_, ?_, rfl⟩
  · cases lo with
    | none => simp [sliceBounds, HT.sIx]
    | some i =>
      simp only [sliceBounds, HT.sIx, Option.getD_none, show (1 : Int) > 0 by decide, if_true]
      by_cases h : i < 0
      · simp only [h, if_true] <;> omega
      · simp only [h, if_false] <;> omega
  · cases hi with
    | none => simp [sliceBounds, HT.sIx]
    | some i =>
      simp only [sliceBounds, HT.sIx, Option.getD_none, show (1 : Int) > 0 by decide, if_true]
      by_cases h : i < 0
      · simp only [h, if_true] <;> omega
      · simp only [h, if_false] <;> omega
theorem slicePick_cut (its : List Value) (lo hi : Option Int) : slicePick its.toArray lo hi none = ((its.drop (HT.sIx its.length 0 lo)).take (HT.sIx its.length its.length hi - HT.sIx its.length 0 lo)).toArray := by
  obtain ⟨h1, h2, h3⟩ := slice_bounds lo hi its.toArray.size
  unfold slicePick
  rw [h1, h2, h3]
  simp only [sliceRange_one, pick_run, List.size_toArray] <;> rfl
/-- xs[lo:hi] of a list: a new list -/
def rSlL (K : PySem.W.Frag) : V → Option Int → Option Int → Hp → VK → Prop := fun x lo hi H Q => ∃ a xs, x = .ref a ∧ SqL K H a xs ∧ ∀ p, H p = none → Q (.ref p) (upd H p (.lst (cutV xs lo hi)))
theorem sl_list : SlR X (rSlL X.K) := by
  intro pins s σ H x v vl vu lo hi sl Q I rx hs pl pu h
  obtain ⟨a, xs, rfl, hx, q⟩ := h
  cases rx
  obtain ⟨its, r, ht, hz⟩ := I.list hx
  have hlen := r.length
  refine ⟨"list", _, slot_list_getitem.lookup, ht.isList.typeIs, ?_⟩
  refine wpAny_getItem_list_slice ht.isList hs pl pu .none (by simp) ?_ (by rw [List.size_toArray] <;> omega)
  rw [slicePick_cut, ← hlen]
  refine ⟨.ref s.heap.objs.size, _, I.laid (t' := s.toks) (o := .lst (cutV xs lo hi)) (fun b ob q => Heap.get?_push_of_some _ q) (Nat.le_refl _) ?_, rfl, q _ (I.hok.fresh (Nat.le_refl _))⟩
  exact ⟨Nat.le_trans (cutV_length xs lo hi) hz, _, 0, (r.drop (HT.sIx xs.length 0 lo)).take (HT.sIx xs.length xs.length hi - HT.sIx xs.length 0 lo), Heap.get?_push_size _ rfl⟩
/-! ### in, not in: flat items -/
def flatV : V → Bool
  | .non => true
  | .bl _ => true
  | .int _ => true
  | .str _ => true
  | _ => false
/-- == of flat values -/
def eqV : V → V → Bool
  | .non, .non => true
  | .bl a, .bl b => a == b
  | .bl a, .int b => (if a then 1 else 0) == b
  | .int a, .bl b => a == (if b then 1 else 0)
  | .int a, .int b => a == b
  | .str a, .str b => a == b
  | _, _ => false
theorem eqAt_V {A : Around} {s : Shared} {y x : V} {u v : Value} (ry : RelV y u) (rx : RelV x v) (fy : flatV y = true) (fx : flatV x = true) : SeqAt.EqAt A s u v (eqV y x) := by
  cases y with
  | non =>
    cases ry
    cases x with
    | non => cases rx; exact SeqAt.EqAt.same _
    | bl b => cases rx; exact SeqAt.EqAt.none_bool b
    | int b => obtain ⟨t, rfl⟩ := rx; exact SeqAt.EqAt.none_int b t
    | str b => obtain ⟨t, rfl⟩ := rx; exact SeqAt.EqAt.none_str b t
    | _ => exact absurd (show false = true from fx) Bool.false_ne_true
  | bl a =>
    cases ry
    cases x with
    | non => cases rx; exact SeqAt.EqAt.bool_none a
    | bl b => cases rx; exact SeqAt.EqAt.bool_bool a b
    | int b => obtain ⟨t, rfl⟩ := rx; exact SeqAt.EqAt.bool_int a b t
    | str b => obtain ⟨t, rfl⟩ := rx; exact SeqAt.EqAt.bool_str a b t
    | _ => exact absurd (show false = true from fx) Bool.false_ne_true
  | int a =>
    obtain ⟨t', rfl⟩ := ry
    cases x with
    | non => cases rx; exact SeqAt.EqAt.int_none a t'
    | bl b => cases rx; exact SeqAt.EqAt.int_bool a t' b
    | int b => obtain ⟨t, rfl⟩ := rx; exact SeqAt.EqAt.int_int a t' b t
    | str b => obtain ⟨t, rfl⟩ := rx; exact SeqAt.EqAt.int_str a t' b t
    | _ => exact absurd (show false = true from fx) Bool.false_ne_true
  | str a =>
    obtain ⟨t', rfl⟩ := ry
    cases x with
    | non => cases rx; exact SeqAt.EqAt.str_none a t'
    | bl b => cases rx; exact SeqAt.EqAt.str_bool a t' b
    | int b => obtain ⟨t, rfl⟩ := rx; exact SeqAt.EqAt.str_int a t' b t
    | str b => obtain ⟨t, rfl⟩ := rx; exact SeqAt.EqAt.str_str a t' b t
    | _ => exact absurd (show false = true from fx) Bool.false_ne_true
  | _ => exact absurd (show false = true from fy) Bool.false_ne_true
/-- the items' answers, read off the values (a value's own answer does not lean on its token) -/
def eqU (x : V) (u : Value) : Bool := match u with
  | .none => eqV .non x
  | .bool b => eqV (.bl b) x
  | .int i _ => eqV (.int i) x
  | .str z _ => eqV (.str z) x
  | _ => false
theorem eqU_of {x y : V} {u : Value} (r : RelV y u) (f : flatV y = true) : eqU x u = eqV y x := by
  cases y with
  | non => cases r; rfl
  | bl b => cases r; rfl
  | int i => obtain ⟨t, rfl⟩ := r; rfl
  | str z => obtain ⟨t, rfl⟩ := r; rfl
  | _ => exact absurd (show false = true from f) Bool.false_ne_true
theorem any_eqU {x : V} : ∀ {xs : List V} {us : List Value}, Vals xs us → xs.all flatV = true → us.any (eqU x) = xs.any fun y => eqV y x
  | _, _, .nil, _ => rfl
  | y :: xs, u :: us, .cons r t, f => by
    rw [List.all_cons, Bool.and_eq_true] at f
    rw [List.any_cons, List.any_cons, eqU_of r f.1, any_eqU t f.2]
theorem mem_eqAt {A : Around} {s : Shared} {x : V} {v : Value} (rx : RelV x v) (fx : flatV x = true) : ∀ {xs : List V} {us : List Value}, Vals xs us → xs.all flatV = true → ∀ u ∈ us, SeqAt.EqAt A s u v (eqU x u)
  | _, _, .nil, _ => fun u hu => by cases hu
  | y :: xs, u :: us, .cons r t, f => fun u' hu => by
    rw [List.all_cons, Bool.and_eq_true] at f
    rcases List.mem_cons.mp hu with rfl | hu
    · rw [eqU_of r f.1]; exact eqAt_V r rx f.1 fx
    · exact mem_eqAt rx fx t f.2 u' hu
def inV (x : V) (xs : List V) : Bool := xs.any fun y => eqV y x
/-- x in a list or tuple of flat items -/
def rIn (K : PySem.W.Frag) (neg : Bool) : R2 := fun x y H Q => ∃ p xs, y = .ref p ∧ (SqL K H p xs ∨ SqT K H p xs) ∧ flatV x = true ∧ xs.all flatV = true ∧ Q (.bl (if neg then !inV x xs else inV x xs)) H
theorem op_in_seq : OpR X (compareOp .In) (rIn X.K false) := by
  intro pins s σ H x y v u Q I rx ry h
  obtain ⟨p, xs, rfl, hq, fx, fs, q⟩ := h
  cases ry
  rcases hq with hq | hq
  · obtain ⟨its, r, pl, hz⟩ := I.list hq
    refine SeqAt.in_listAt (eqU x) pl.isList (fun w hw => mem_eqAt rx fx r fs w (by simpa using hw)) ⟨.bl _, H, I, rfl, ?_⟩
    rw [show its.toArray.any (eqU x) = its.any (eqU x) by simp, any_eqU r fs]
    exact q
  · obtain ⟨its, r, pl, hz⟩ := I.tuple hq
    refine SeqAt.in_tupleAt (eqU x) pl (fun w hw => mem_eqAt rx fx r fs w (by simpa using hw)) ⟨.bl _, H, I, rfl, ?_⟩
    rw [show its.toArray.any (eqU x) = its.any (eqU x) by simp, any_eqU r fs]
    exact q
theorem call_list_of : CallR X (.type "list") (fun xs H Q => ∃ p ys, xs = [.ref p] ∧ (SqL X.K H p ys ∨ SqT X.K H p ys) ∧ ∀ l, H l = none → Q (.ref l) (upd H l (.lst ys))) := by
  intro pins s σ H xs us Q I r h
  obtain ⟨p, ys, rfl, hq, q⟩ := h
  obtain ⟨u, rfl, rx⟩ := vals1 r
  cases rx
  have fin : ∀ (its : List Value), Vals ys its → ys.length ≤ sizeLine → ∀ (h' : Heap) (c' : Nat), (∀ b o', s.heap.get? b = some o' → h'.get? b = some o') →
      h'.get? s.heap.objs.size = some { cls := .type "list", dict := none, data := .seq its.toArray c', slots := #[] } → EP X pins σ Q (.ref s.heap.objs.size) { s with heap := h' } := fun its r' hz h' c' kp e =>
    ⟨.ref s.heap.objs.size, _, I.laid (t' := s.toks) kp (Nat.le_refl _) (show ObjOk X.prog X.w _ h' _ (.lst ys) from ⟨hz, its, c', r', e⟩), rfl, q _ (I.hok.fresh (Nat.le_refl _))⟩
  rcases hq with hq | hq
  · obtain ⟨its, r', pl, hz⟩ := I.list hq
    have hlen := r'.length
    obtain ⟨o, ho, hc, n, hd⟩ := pl.isList
    exact call_list_seq p (.inl rfl) ho hc hd (fun h' c' kp e => fin its r' hz h' c' kp e) (by simp only [List.size_toArray] <;> omega)
  · obtain ⟨its, r', pl, hz⟩ := I.tuple hq
    have hlen := r'.length
    obtain ⟨o, ho, hc, n, hd⟩ := pl
    exact call_list_seq p (.inr rfl) ho hc hd (fun h' c' kp e => fin its r' hz h' c' kp e) (by simp only [List.size_toArray] <;> omega)
/-! ### the call of a builtin's method: o.m(..) -/
/-- the value is of that builtin type -/
def tyV (K : PySem.W.Frag) (T : String) (x : V) (H : Hp) : Prop := match x with
  | .str _ => T = "str"
  | .int _ => T = "int"
  | .ref p => (T = "list" ∧ ∃ xs, SqL K H p xs) ∨ (T = "tuple" ∧ ∃ o, K.lookup p = some o ∧ o.cls = .type "tuple" ∧ o.dict = none) ∨
      (T = "dict" ∧ ((∃ kvs, H p = some (.dK kvs)) ∨ ∃ kvs, H p = some (.dT kvs))) ∨ (T = "set" ∧ ∃ S n, H p = some (.set S n))
  | _ => False
theorem tyV_is {pins : List (Addr × Obj)} {σ : St} {H : Hp} {s : Shared} {T : String} {x : V} {v : Value} (I : Inv X pins σ H s) (r : RelV x v) (ty : tyV X.K T x H) :
    s.TypeIs v T ∧ ∀ a, v = .ref a → ∃ ob, s.heap.get? a = some ob ∧ ob.dict = none := by
  cases x with
  | str z =>
    obtain ⟨t, rfl⟩ := r
    cases (show T = "str" from ty)
    exact ⟨typeIs_str s z t, fun _ e => nomatch e⟩
  | int i =>
    obtain ⟨t, rfl⟩ := r
    cases (show T = "int" from ty)
    exact ⟨typeIs_int s i t, fun _ e => nomatch e⟩
  | ref p =>
    cases r
    rcases ty with ⟨rfl, xs, hq⟩ | ⟨rfl, o, hk, hc, hd⟩ | ⟨rfl, hk⟩ | ⟨rfl, S, n, hk⟩
    · obtain ⟨its, _, pl, _⟩ := I.list hq
      refine ⟨pl.isList.typeIs, fun a e => ?_⟩
      cases e
      obtain ⟨o, n, e, c, hd, _⟩ := pl
      exact ⟨o, e, hd⟩
    · refine ⟨⟨o, I.kIn p o hk, hc⟩, fun a e => ?_⟩
      cases e
      exact ⟨o, I.kIn _ o hk, hd⟩
    · have z : ∃ o, s.heap.get? p = some o ∧ o.ExactDict := by
        rcases hk with ⟨kvs, hk⟩ | ⟨kvs, hk⟩
        · obtain ⟨_, _, _, _, o, _, _, e, ex, _⟩ := I.hok p _ hk
          exact ⟨o, e, ex⟩
        · obtain ⟨_, _, _, _, o, _, _, e, ex, _⟩ := I.hok p _ hk
          exact ⟨o, e, ex⟩
      obtain ⟨o, e, ex⟩ := z
      refine ⟨⟨o, e, ex.1⟩, fun a e2 => ?_⟩
      cases e2
      exact ⟨o, e, ex.2.1⟩
    · obtain ⟨o, _, _, _, e, ex, _⟩ := I.hok p _ hk
      refine ⟨⟨o, e, ex.1⟩, fun a e2 => ?_⟩
      cases e2
      exact ⟨o, e, ex.2.1⟩
  | _ => exact False.elim ty
def tBM0 (K : PySem.W.Frag) (T : String) (r : V → List V → Hp → VK → Prop) (to : TE) : TE := fun σ H Q => to σ H fun x H1 => tyV K T x H1 ∧ r x [] H1 Q
def tBM (K : PySem.W.Frag) (T : String) (r : V → List V → Hp → VK → Prop) (to : TE) (t : TA) : TE := fun σ H Q => to σ H fun x H1 => tyV K T x H1 ∧ t σ H1 fun xs H2 => r x xs H2 Q
variable {o e : Expr} {es : List Expr} {to : TE} {t : TA} {name : Str} {apos cpos : Pos} {T id : String} {r : V → List V → Hp → VK → Prop}
theorem pe_bm0 (pa : PlainAttrs T) (slot : Slot T name id) (hty : typeOf (.builtin id) = pure (.type "method_descriptor")) (hm : MtR X id r) (ho : PE X o to)
    (hbase : attributeBase o name X.env (eval o X.env) = eval o X.env := by rfl) (hline : (apos.endLine == cpos.line) = true := by rfl) : PE X (.Call (.Attribute o name apos) [] [] cpos) (tBM0 X.K T r to) := by
  intro pins s σ H Q I h
  refine wpAny_Call_method0_late hbase hline (thn (ho pins s σ H _ I h) fun v s1 ⟨x, H1, I1, r1, ty, q1⟩ => ?_)
  obtain ⟨h1, h2⟩ := tyV_is I1 r1 ty
  exact ⟨T, id, pa, slot, hty, h1, h2, Calls.callWith_builtin rfl (PySem.evalArgs_none (hm pins s1 σ H1 x [] v [] Q I1 r1 .nil q1))⟩
theorem pe_bm (pa : PlainAttrs T) (slot : Slot T name id) (hty : typeOf (.builtin id) = pure (.type "method_descriptor")) (hm : MtR X id r) (ho : PE X o to) (ha : PA X (e :: es) t)
    (hbase : attributeBase o name X.env (eval o X.env) = eval o X.env := by rfl)
    (hfew : ((backTo cpos (starEach (e :: es) X.env)).all (fun x => !x.1) && (backToKw cpos (keywordEach [] X.env)).all (fun x => x.1.isSome)
      && decide ((e :: es).length + ([] : List Keyword).length + (if ([] : List Keyword).isEmpty then 0 else 1) < 30)) = true := by rfl)
    (hline : (apos.endLine == cpos.line) = true := by rfl) (hs : starEach (e :: es) X.env = (false, eval e X.env) :: starEach es X.env := by rfl) (hplain : (backTo cpos (starEach es X.env)).any (·.1) = false := by rfl) :
    PE X (.Call (.Attribute o name apos) (e :: es) [] cpos) (tBM X.K T r to t) := by
  intro pins s σ H Q I h
  refine wpAny_Call_method_late hbase hfew hline rfl (thn (ho pins s σ H _ I h) fun v s1 ⟨x, H1, I1, r1, ty, q1⟩ => ?_)
  obtain ⟨h1, h2⟩ := tyV_is I1 r1 ty
  refine ⟨T, id, pa, slot, hty, h1, h2, ?_⟩
  have hA := ha cpos pins s1 σ H1 _ I1 q1
  rw [hs] at hA ⊢
  refine Calls.callWith_builtin (by show (false || (backTo cpos (starEach es X.env)).any (·.1)) = false; rw [hplain] <;> rfl) (Calls.evalArgs_plain ?_)
  exact thn hA fun us s2 ⟨vs, H2, I2, r2, q2⟩ => hm pins s2 σ H2 x vs v us Q I2 r1 r2 q2
/- xs.append(e), list.index on a module's tuple .. are MtR facts of 06m -/
end
end L2
namespace L2
open PySem PySem.Spec PyProof.Rows
def MtM (X : Cx) (id : String) (r : V → List V → Hp → VK → Prop) : Prop :=
  ∀ (pins : List (Addr × Obj)) (s : Shared) (σ : St) (H : Hp) (x : V) (xs : List V) (v : Value) (us : List Value) (Q : VK), Inv X pins σ H s → RelV x v → Vals xs us → r x xs H Q →
    wpAny (model X.prog X.w) X.A (call (.builtin id) (v :: us)) (EP X pins σ Q) X.xe s
/-! ### lists of values -/
theorem Vals.one : ∀ {x : V} {us : List Value}, Vals [x] us → ∃ u, us = [u] ∧ RelV x u
  | _, _, .cons r .nil => ⟨_, rfl, r⟩
theorem Vals.zero : ∀ {us : List Value}, Vals [] us → us = []
  | _, .nil => rfl
theorem Vals.dropLast {xs : List V} {us : List Value} (h : Vals xs us) : Vals xs.dropLast us.dropLast := by
  induction h with
  | nil => exact .nil
  | cons r t ih =>
    cases t with
    | nil => exact .nil
    | cons q t' => exact .cons r ih
theorem Vals.eraseIdx : ∀ {xs : List V} {us : List Value} (i : Nat), Vals xs us → Vals (xs.eraseIdx i) (us.eraseIdx i)
  | _, _, _, .nil => .nil
  | _, _, 0, .cons _ t => t
  | _, _, i + 1, .cons r t => .cons r (Vals.eraseIdx i t)
theorem Vals.rep {xs : List V} {us : List Value} (h : Vals xs us) : ∀ k : Nat, Vals (List.replicate k xs).flatten (List.replicate k us).flatten
  | 0 => .nil
  | k + 1 => by
    rw [List.replicate_succ, List.replicate_succ, List.flatten_cons, List.flatten_cons]
    exact Vals.append h (Vals.rep h k)
theorem erase_last {α : Type} (l : List α) : l.eraseIdx (l.length - 1) = l.dropLast := by
  induction l with
  | nil => rfl
  | cons a r ih =>
    cases r with
    | nil => rfl
    | cons b r =>
      have e : (a :: b :: r).length - 1 = ((b :: r).length - 1) + 1 := by
        have h1 : (a :: b :: r).length = r.length + 2 := rfl
        have h2 : (b :: r).length = r.length + 1 := rfl
        omega
      rw [e, List.eraseIdx_cons_succ, ih]
      all_goals rfl
theorem foldl_rep (its : List Value) : ∀ (k : Nat) (acc : List Value),
    List.foldl (fun x1 x2 => x1 ++ x2) acc.toArray (List.replicate k its.toArray) = (acc ++ (List.replicate k its).flatten).toArray
  | 0, acc => by simp
  | k + 1, acc => by
    have e : acc.toArray ++ its.toArray = (acc ++ its).toArray := by simp
    have e2 : (acc ++ its) ++ (List.replicate k its).flatten = acc ++ (List.replicate (k + 1) its).flatten := by
      rw [List.replicate_succ, List.flatten_cons, List.append_assoc]
    rw [← e2, ← foldl_rep its k (acc ++ its), ← e, List.replicate_succ, List.foldl_cons]
section
variable {X : Cx} {pins : List (Addr × Obj)} {σ : St} {H : Hp} {s : Shared} {l b : Addr} {xs ys zs : List V}
/-! ### the two steps: a tracked list is rewritten, a new list is laid -/
theorem Inv.lset {its its' : List Value} {n : Nat} {f : Array Value → Array Value} {t' : Nat} (I : Inv X pins σ H s) (hH : H l = some (.lst xs))
    (e : s.heap.get? l = some { cls := .type "list", data := .seq its.toArray n }) (hf : f its.toArray = its'.toArray) (hv : Vals ys its') (hz : ys.length ≤ sizeLine) :
    Inv X pins σ (upd H l (.lst ys)) { s with heap := s.heap.update l (Obj.mapSeq f), toks := t' } := by
  have q := PySem.IsL.update e f
  rw [hf] at q
  refine I.write (x := l) (e := l) (by rw [hH]; exact trivial) (.inl rfl) (fun b' u hb hu => (Heap.get?_update_other s.heap (Obj.mapSeq f) (Ne.symm hb)).trans hu) ⟨_, q⟩ ?_
  exact ⟨hz, its', _, hv, q⟩
theorem Inv.lnew {its : List Value} {t' : Nat} (I : Inv X pins σ H s) (hv : Vals ys its) (hz : ys.length ≤ sizeLine) :
    Inv X pins σ (upd H s.heap.objs.size (.lst ys)) { s with heap := s.heap.push { cls := .type "list", data := .seq its.toArray }, toks := t' } :=
  I.laid (fun _ _ q => Heap.get?_push_of_some _ q) (Nat.le_refl _) ⟨hz, its, 0, hv, Heap.get?_push_size _ rfl⟩
theorem Inv.fresh (I : Inv X pins σ H s) : H s.heap.objs.size = none := I.hok.fresh (Nat.le_refl _)
theorem Inv.lstM (I : Inv X pins σ H s) (hH : H l = some (.lst xs)) : xs.length ≤ sizeLine ∧ ∃ (its : List Value) (n : Nat), Vals xs its ∧ xs.length = its.length ∧ s.heap.get? l = some { cls := .type "list", data := .seq its.toArray n } := by
  obtain ⟨z, its, n, r, e⟩ := I.hok l _ hH
  exact ⟨z, its, n, r, r.length, e⟩
theorem notLongL {n : Nat} (h : n ≤ sizeLine) : Builtin.List.listTooLong n = false := by
  unfold Builtin.List.listTooLong
  exact decide_eq_false (by omega)
end
section
variable {X : Cx}
/-! ### methods -/
def rAppend : V → List V → Hp → VK → Prop := fun x vs H Q => ∃ l xs y, x = .ref l ∧ vs = [y] ∧ H l = some (.lst xs) ∧ xs.length < sizeLine ∧ Q .non (upd H l (.lst (xs ++ [y])))
theorem mt_append : MtM X "list.append" rAppend := by
  intro pins s σ H x vs v us Q I rx rv h
  obtain ⟨l, xs, y, rfl, rfl, hH, hz, q⟩ := h
  cases rx
  obtain ⟨u, rfl, ru⟩ := rv.one
  obtain ⟨z, its, n, r, hl, e⟩ := I.lstM hH
  refine call_meets F.slot_list_append ⟨_, e, rfl⟩ F.entry_list_append (F.args_list_append_2 _ _) (PySem.list_append l its.toArray n u (by rw [List.size_toArray]; omega)) ⟨e, ?_⟩
  refine ⟨.non, _, I.lset (its' := its ++ [u]) hH e (by simp) (r.append (.cons ru .nil)) ?_, rfl, q⟩
  rw [List.length_append, List.length_singleton]
  omega
def rPop : V → List V → Hp → VK → Prop := fun x vs H Q => ∃ l xs y, x = .ref l ∧ vs = [] ∧ H l = some (.lst xs) ∧ xs[xs.length - 1]? = some y ∧ Q y (upd H l (.lst xs.dropLast))
theorem mt_pop : MtM X "list.pop" rPop := by
  intro pins s σ H x vs v us Q I rx rv h
  obtain ⟨l, xs, y, rfl, rfl, hH, hy, q⟩ := h
  cases rx
  have hus := rv.zero
  subst hus
  obtain ⟨z, its, n, r, hl, e⟩ := I.lstM hH
  obtain ⟨u, hu, ru⟩ := r.get hy
  have hy' : its.toArray[its.toArray.size - 1]? = some u := by
    show its.toArray[its.length - 1]? = some u
    rw [← Array.getElem?_toList, ← hl]
    exact hu
  refine call_meets F.slot_list_pop ⟨_, e, rfl⟩ F.entry_list_pop (F.args_list_pop_1 _) (MeetsSeq.list_pop_last l its.toArray n u hy' (by rw [List.size_toArray]; omega)) ⟨e, ?_⟩
  refine ⟨y, _, I.lset (its' := its.dropLast) hH e ?_ r.dropLast ?_, ru, q⟩
  · show its.toArray.eraseIdxIfInBounds (its.toArray.size - 1) = its.dropLast.toArray
    rw [List.size_toArray, List.eraseIdxIfInBounds_toArray, erase_last]
  · rw [List.length_dropLast]
    omega
def rClear : V → List V → Hp → VK → Prop := fun x vs H Q => ∃ l xs, x = .ref l ∧ vs = [] ∧ H l = some (.lst xs) ∧ Q .non (upd H l (.lst []))
theorem mt_clear : MtM X "list.clear" rClear := by
  intro pins s σ H x vs v us Q I rx rv h
  obtain ⟨l, xs, rfl, rfl, hH, q⟩ := h
  cases rx
  have hus := rv.zero
  subst hus
  obtain ⟨z, its, n, r, hl, e⟩ := I.lstM hH
  refine call_meets F.slot_list_clear ⟨_, e, rfl⟩ F.entry_list_clear (F.args_list_clear_1 _) (AutoSeq1.list_clear_list_0 l its.toArray n (by rw [List.size_toArray]; omega)) ⟨e, ?_⟩
  exact ⟨.non, _, I.lset (its' := []) (ys := []) hH e rfl .nil (Nat.zero_le _), rfl, q⟩
/-- a list times an int (a negative one is nothing) -/
def rRep : R2 := fun x y H Q => ∃ l k xs, x = .ref l ∧ y = .int k ∧ H l = some (.lst xs) ∧ -(2 ^ 63) ≤ k ∧ k < 2 ^ 63 ∧ xs.length * k.toNat ≤ sizeLine ∧
  ∀ p, H p = none → Q (.ref p) (upd H p (.lst (List.replicate k.toNat xs).flatten))
theorem len_rep {α : Type} (xs : List α) (k : Nat) : (List.replicate k xs).flatten.length = k * xs.length := by
  induction k with
  | zero => simp
  | succ k ih => rw [List.replicate_succ, List.flatten_cons, List.length_append, ih, Nat.succ_mul, Nat.add_comm]
theorem op_rep : OpR X (binaryOp .Mult) rRep := by
  intro pins s σ H x y v u Q I rx ry h
  obtain ⟨l, k, xs, rfl, rfl, hH, h1, h2, hz, q⟩ := h
  cases rx
  obtain ⟨t, rfl⟩ := ry
  obtain ⟨z, its, n, r, hl, e⟩ := I.lstM hH
  have hlen : its.toArray.size * k.toNat ≤ sizeLine := by rw [List.size_toArray, ← hl]; exact hz
  have hcap : ¬ its.toArray.size * k.toNat > (2 ^ 63 - 1) / 8 := by
    have : (sizeLine : Nat) ≤ (2 ^ 63 - 1) / 8 := by decide
    omega
  have hfit : ¬ (!Builtin.List.listFitsIndex k) = true := by
    rw [fitsIndex_both h1 h2]
    exact Bool.false_ne_true
  have hlong : ¬ Builtin.List.listTooLong (its.toArray.size * k.toNat) = true := by
    rw [notLongL hlen]
    exact Bool.false_ne_true
  have hnew : List.foldl (fun x1 x2 => x1 ++ x2) #[] (List.replicate (if its.toArray.isEmpty = true then 0 else k.toNat) its.toArray) = (List.replicate k.toNat its).flatten.toArray := by
    have f0 : ∀ m : Nat, List.foldl (fun x1 x2 => x1 ++ x2) #[] (List.replicate m its.toArray) = (List.replicate m its).flatten.toArray := fun m => by
      have := foldl_rep its m []
      rw [List.nil_append] at this
      exact this
    rw [f0]
    cases its with
    | nil => simp
    | cons a r' => rw [if_neg (by simp)]
  refine wpAny_binaryOp_repeat_ref (T := "list") (U := "int") (by decide) ⟨_, e, rfl⟩ (fun s' => typeIs_int s' k t) noFill_list_mul F.fills_int_mul F.slot_int_rmul repeat_list F.slot_int_index.lookup
    (call_meets F.slot_int_rmul (typeIs_int s k t) F.entry_int_rmul (F.args_int_rmul_2 _ _) (int___rmul___int_list k t l its.toArray n)
      ⟨e, rfl, ⟨_, e, rfl⟩, call_meets F.slot_list_mul ⟨_, e, rfl⟩ F.entry_list_mul (F.args_list_mul_2 _ _) (AutoListH.list___mul___list_int_3 l its.toArray n k t hfit hcap hlong) ⟨e, ?_⟩⟩)
  rw [hnew]
  exact ⟨.ref _, _, I.lnew (t' := s.toks) (r.rep k.toNat) (by rw [len_rep, Nat.mul_comm]; exact hz), rfl, q _ I.fresh⟩
end
/-! ### xs[a:b] = ys -/
section
variable {prog : Program} {w : World} {A : Around} {E : Value → Shared → Prop} {s : Shared}
end
section
variable {X : Cx}
end
end L2
namespace L2
open PySem PySem.Spec PyProof.Rows
/-! ### lists of pairs as tables -/
section
variable {κ : Type} [DecidableEq κ]
def valV (kvs : List (κ × V)) (k : κ) : Option V := (kvs.find? fun kv => decide (kv.1 = k)).map (·.2)
/-- in its place, or at the end -/
def putK (kvs : List (κ × V)) (k : κ) (v : V) : List (κ × V) :=
  if (kvs.any fun kv => decide (kv.1 = k)) = true then kvs.map (fun kv => if kv.1 = k then (kv.1, v) else kv) else kvs ++ [(k, v)]
def dropK (kvs : List (κ × V)) (k : κ) : List (κ × V) := kvs.filter fun kv => decide (kv.1 ≠ k)
theorem valV_pos {p : κ × V} {r : List (κ × V)} {k : κ} (e : p.1 = k) : valV (p :: r) k = some p.2 := by simp [valV, List.find?_cons, e]
theorem valV_neg {p : κ × V} {r : List (κ × V)} {k : κ} (e : ¬ p.1 = k) : valV (p :: r) k = valV r k := by simp [valV, List.find?_cons, e]
theorem valV_any (k : κ) : ∀ kvs : List (κ × V), (kvs.any fun kv => decide (kv.1 = k)) = (valV kvs k).isSome
  | [] => rfl
  | p :: r => by
    rw [List.any_cons]
    by_cases e : p.1 = k
    · simp only [valV_pos e, decide_eq_true e, Bool.true_or, Option.isSome_some]
    · rw [valV_neg e, decide_eq_false e, Bool.false_or]; exact valV_any k r
theorem valV_map (k j : κ) (y : V) : ∀ kvs : List (κ × V), valV (kvs.map fun kv => if kv.1 = k then (kv.1, y) else kv) j = (valV kvs j).map fun x => if j = k then y else x
  | [] => rfl
  | p :: r => by
    have ih := valV_map k j y r
    rw [List.map_cons]
    by_cases h : p.1 = k
    · rw [if_pos h]
      by_cases e : p.1 = j
      · rw [valV_pos (p := (p.1, y)) e, valV_pos e, Option.map_some, if_pos (e.symm.trans h)]
      · rw [valV_neg (p := (p.1, y)) e, valV_neg e, ih]
    · rw [if_neg h]
      by_cases e : p.1 = j
      · rw [valV_pos (p := p) e, valV_pos e, Option.map_some, if_neg (fun z => h (e.trans z))]
      · rw [valV_neg (p := p) e, valV_neg e, ih]
theorem valV_snoc (k j : κ) (y : V) : ∀ kvs : List (κ × V), valV kvs k = none → valV (kvs ++ [(k, y)]) j = if j = k then some y else valV kvs j
  | [], _ => by
    by_cases e : k = j
    · rw [if_pos e.symm]; exact valV_pos (p := (k, y)) e
    · rw [if_neg (fun z => e z.symm)]; exact valV_neg (p := (k, y)) e
  | p :: r, hn => by
    rw [List.cons_append]
    have hk : ¬ p.1 = k := fun z => by rw [valV_pos z] at hn; cases hn
    rw [valV_neg hk] at hn
    have ih := valV_snoc k j y r hn
    by_cases e : p.1 = j
    · rw [valV_pos e, valV_pos e, if_neg (fun z => hk (e.trans z))]
    · rw [valV_neg e, valV_neg e, ih]
theorem valV_put (kvs : List (κ × V)) (k j : κ) (y : V) : valV (putK kvs k y) j = if j = k then some y else valV kvs j := by
  unfold putK
  by_cases a : (kvs.any fun kv => decide (kv.1 = k)) = true
  · rw [if_pos a, valV_map]
    rw [valV_any] at a
    by_cases e : j = k
    · obtain ⟨x, hx⟩ := Option.isSome_iff_exists.mp a
      rw [if_pos e, e, hx, Option.map_some, if_pos rfl]
    · rw [if_neg e]
      cases valV kvs j with
      | none => rfl
      | some x => rw [Option.map_some, if_neg e]
  · rw [if_neg a]
    refine valV_snoc k j y kvs ?_
    rw [valV_any] at a
    cases q : valV kvs k with
    | none => rfl
    | some x => rw [q] at a; exact (a rfl).elim
theorem length_putK (kvs : List (κ × V)) (k : κ) (v : V) : (putK kvs k v).length ≤ kvs.length + 1 := by
  unfold putK
  split
  · rw [List.length_map]; omega
  · rw [List.length_append, List.length_cons, List.length_nil]; omega
theorem putK_new {kvs : List (κ × V)} {k : κ} (v : V) (h : valV kvs k = none) : putK kvs k v = kvs ++ [(k, v)] := by
  unfold putK
  rw [valV_any, h]
  exact if_neg (by decide)
theorem RelO.isSome_eq {o : Option V} {u : Option Value} (r : RelO o u) : o.isSome = u.isSome := by
  cases o with
  | none => cases u with
    | none => rfl
    | some _ => exact (show False from r).elim
  | some _ => cases u with
    | none => exact (show False from r).elim
    | some _ => rfl
theorem RelO.getD {o : Option V} {u : Option Value} {d : V} {d' : Value} (r : RelO o u) (rd : RelV d d') : RelV (o.getD d) (u.getD d') := by
  cases o with
  | none => cases u with
    | none => exact rd
    | some _ => exact (show False from r).elim
  | some _ => cases u with
    | none => exact (show False from r).elim
    | some _ => exact r
/-- raw tables of the same keys -/
theorem KV.val {kvs : List (κ × V)} {vs : List (κ × Value)} (r : KV kvs vs) (k : κ) : RelO (valV kvs k) (valueAt vs k) := by
  unfold KV at r
  induction r with
  | nil => exact True.intro
  | @cons p q ps qs h t ih =>
    obtain ⟨h1, h2⟩ := h
    by_cases e : p.1 = k
    · have e' : q.1 = k := h1.symm.trans e
      have b : valueAt (q :: qs) k = some q.2 := by simp [valueAt, List.find?_cons, e']
      rw [valV_pos e, b]; exact h2
    · have e' : ¬ q.1 = k := fun z => e (h1.trans z)
      have b : valueAt (q :: qs) k = valueAt qs k := by simp [valueAt, List.find?_cons, e']
      rw [valV_neg e, b]; exact ih
theorem KV.any {kvs : List (κ × V)} {vs : List (κ × Value)} (r : KV kvs vs) (k : κ) : (kvs.any fun kv => decide (kv.1 = k)) = vs.any fun kv => decide (kv.1 = k) := by
  unfold KV at r
  induction r with
  | nil => rfl
  | cons h t ih => rw [List.any_cons, List.any_cons, ih, h.1]
theorem KV.repl {kvs : List (κ × V)} {vs : List (κ × Value)} (r : KV kvs vs) (k : κ) {y : V} {u : Value} (ry : RelV y u) :
    KV (kvs.map fun kv => if kv.1 = k then (kv.1, y) else kv) (vs.map fun kv => if kv.1 = k then (kv.1, u) else kv) := by
  unfold KV at r ⊢
  induction r with
  | nil => exact .nil
  | @cons p q ps qs h t ih =>
    rw [List.map_cons, List.map_cons]
    refine .cons ?_ ih
    obtain ⟨h1, h2⟩ := h
    by_cases e : p.1 = k
    · rw [if_pos e, if_pos (h1.symm.trans e)]; exact ⟨h1, ry⟩
    · rw [if_neg e, if_neg (fun z => e (h1.trans z))]; exact ⟨h1, h2⟩
theorem KV.put {kvs : List (κ × V)} {vs : List (κ × Value)} (r : KV kvs vs) (k : κ) {y : V} {u : Value} (ry : RelV y u) : KV (putK kvs k y) (stored vs k u) := by
  unfold putK stored
  rw [r.any k]
  by_cases e : (vs.any fun kv => decide (kv.1 = k)) = true
  · rw [if_pos e, if_pos e]; exact r.repl k ry
  · rw [if_neg e, if_neg e]; exact Paired.snoc r ⟨rfl, ry⟩
theorem KV.drop {kvs : List (κ × V)} {vs : List (κ × Value)} (r : KV kvs vs) (k : κ) : KV (dropK kvs k) (without vs k) := by
  unfold KV at r ⊢
  unfold dropK without
  induction r with
  | nil => exact .nil
  | @cons p q ps qs h t ih =>
    obtain ⟨h1, h2⟩ := h
    rw [List.filter_cons, List.filter_cons]
    by_cases e : p.1 = k
    · have a : ¬ decide (p.1 ≠ k) = true := by simp [e]
      have b : ¬ decide (q.1 ≠ k) = true := by simp [h1.symm.trans e]
      rw [if_neg a, if_neg b]; exact ih
    · have e' : ¬ q.1 = k := fun z => e (h1.trans z)
      have a : decide (p.1 ≠ k) = true := by simp [e]
      have b : decide (q.1 ≠ k) = true := by simp [e']
      rw [if_pos a, if_pos b]; exact .cons ⟨h1, h2⟩ ih
theorem KV.length {kvs : List (κ × V)} {vs : List (κ × Value)} (r : KV kvs vs) : kvs.length = vs.length := Paired.length r
theorem dropK_le (kvs : List (κ × V)) (k : κ) : (dropK kvs k).length ≤ kvs.length := List.length_filter_le _ _
end
/-! ### a tracked dict, its keys ints and texts or tuples of these -/
theorem kV_is {P : Program} {w : World} {k : Key} {u : Value} (r : RelV (kV k) u) : (mixKind P w).is k u = true := by
  cases k with
  | inl i => obtain ⟨t, e⟩ := (show ∃ t, u = Value.int i t from r); subst e; exact mixKind_int P w i t
  | inr x => obtain ⟨t, e⟩ := (show ∃ t, u = Value.str x t from r); subst e; exact mixKind_str P w x t
theorem items_are {P : Program} {w : World} : ∀ {ks : List Key} {us : List Value}, Vals (ks.map kV) us → ItemsAre (mixKind P w) ks us
  | [], _, r => by rw [List.map_nil] at r; cases r; exact .nil
  | k :: ks, _, r => by
    rw [List.map_cons] at r
    cases r with
    | cons h t => exact .cons (kV_is h) (items_are t)
/-- raw entries of a dict with tuple keys -/
abbrev KT (H : Hp) : List (List Key × V) → List (List Key × Addr × Value) → Prop := Paired fun p q => p.1 = q.1 ∧ H q.2.1 = some (.tup (p.1.map kV)) ∧ RelV p.2 q.2.2
theorem KT.val {H : Hp} {kvs : List (List Key × V)} {xs : List (List Key × Addr × Value)} (r : KT H kvs xs) (k : List Key) : RelO (valV kvs k) ((atKey xs k).map (·.2)) := by
  induction r with
  | nil => exact True.intro
  | @cons p q ps qs h t ih =>
    obtain ⟨h1, _, h2⟩ := h
    by_cases e : p.1 = k
    · have e' : q.1 = k := h1.symm.trans e
      have b : atKey (q :: qs) k = some q.2 := by simp [atKey, List.find?_cons, e']
      rw [valV_pos e, b]; exact h2
    · have e' : ¬ q.1 = k := fun z => e (h1.trans z)
      have b : atKey (q :: qs) k = atKey qs k := by simp [atKey, List.find?_cons, e']
      rw [valV_neg e, b]; exact ih
theorem KT.repl {H : Hp} {kvs : List (List Key × V)} {xs : List (List Key × Addr × Value)} (r : KT H kvs xs) (k : List Key) {y : V} {u : Value} (ry : RelV y u) :
    KT H (kvs.map fun kv => if kv.1 = k then (kv.1, y) else kv) (xs.map (putAt k u)) := by
  induction r with
  | nil => exact .nil
  | @cons p q ps qs h t ih =>
    rw [List.map_cons, List.map_cons]
    refine .cons ?_ ih
    obtain ⟨h1, h2, h3⟩ := h
    unfold putAt
    by_cases e : p.1 = k
    · rw [if_pos e, if_pos (h1.symm.trans e)]; exact ⟨h1, h2, ry⟩
    · rw [if_neg e, if_neg (fun z => e (h1.trans z))]; exact ⟨h1, h2, h3⟩
theorem KT.put {H : Hp} {kvs : List (List Key × V)} {xs : List (List Key × Addr × Value)} (r : KT H kvs xs) (k : List Key) {b : Addr} {y : V} {u : Value} (hb : H b = some (.tup (k.map kV))) (ry : RelV y u) :
    KT H (putK kvs k y) (storedH xs k b u) := by
  have e : (kvs.any fun kv => decide (kv.1 = k)) = (atKey xs k).isSome := by
    rw [valV_any, (r.val k).isSome_eq, Option.isSome_map]
  unfold putK storedH
  rw [e]
  by_cases q : (atKey xs k).isSome = true
  · rw [if_pos q, if_pos q]; exact r.repl k ry
  · rw [if_neg q, if_neg q]; exact Paired.snoc r ⟨rfl, hb, ry⟩
theorem KT.keeps {H H' : Hp} {kvs : List (List Key × V)} {xs : List (List Key × Addr × Value)} (r : KT H kvs xs) (ht : ∀ b ys, H b = some (.tup ys) → H' b = some (.tup ys)) : KT H' kvs xs :=
  Paired.mapP r fun _ _ z => ⟨z.1, ht _ _ z.2.1, z.2.2⟩
section
variable {P : Program} {w : World} {H : Hp} {h : Heap} {a : Addr}
theorem rd_of {u : HO} (ok : HOk P w H h) (e : Rd H a u) : ObjOk P w H h a u := e.ok ok
theorem dk_rd {kvs : List (Key × V)} (ok : HOk P w H h) (e : Rd H a (.dK kvs)) : kvs.length ≤ sizeLine ∧ (a == sysModules) = false ∧ ∃ vs, KV kvs vs ∧ h.DictOf (mixKind P w) a vs :=
  show ObjOk P w H h a (.dK kvs) from rd_of ok e
theorem dk_of {kvs : List (Key × V)} (ok : HOk P w H h) (e : H a = some (.dK kvs)) : kvs.length ≤ sizeLine ∧ (a == sysModules) = false ∧ ∃ vs, KV kvs vs ∧ h.DictOf (mixKind P w) a vs := dk_rd ok (.inl e)
/-- a tracked tuple of ints and texts is a key -/
theorem key_of {ks : List Key} (ok : HOk P w H h) (e : H a = some (.tup (ks.map kV))) : (tupleKind (mixKind P w)).is h ks a := by
  obtain ⟨_, its, r, o, h1, h2, n, h3⟩ := (show ObjOk P w H h a (.tup (ks.map kV)) from ok a _ e)
  exact ⟨o, its.toArray, n, h1, h2, h3, by simpa using items_are r⟩
theorem dt_rd {kvs : List (List Key × V)} (ok : HOk P w H h) (e : Rd H a (.dT kvs)) : kvs.length ≤ sizeLine ∧ (a == sysModules) = false ∧
    ∃ xs, KT H kvs xs ∧ h.DictOfH (tupleKind (mixKind P w)) a xs := by
  obtain ⟨z, y, xs, r, o, es, ep, h1, h2, h3, h4, h5⟩ := (show ObjOk P w H h a (.dT kvs) from rd_of ok e)
  refine ⟨z, y, xs, r, o, es, ep, h1, h2, h3, h4, fun x hx => ?_, h5⟩
  have all : ∀ {l : List (List Key × V)} {m : List (List Key × Addr × Value)}, KT H l m → ∀ x ∈ m, (tupleKind (mixKind P w)).is h x.1 x.2.1 := by
    intro l m q
    induction q with
    | nil => intro x hx; exact nomatch hx
    | @cons p q ps qs hq t ih =>
      intro x hx
      rcases List.mem_cons.mp hx with e | hx
      · subst e
        exact key_of ok (by rw [← hq.1]; exact hq.2.1)
      · exact ih x hx
  exact all r x hx
theorem dt_of {kvs : List (List Key × V)} (ok : HOk P w H h) (e : H a = some (.dT kvs)) : kvs.length ≤ sizeLine ∧ (a == sysModules) = false ∧
    ∃ xs, KT H kvs xs ∧ h.DictOfH (tupleKind (mixKind P w)) a xs := dt_rd ok (.inl e)
end
/-- what the dict at a holds at the key y -/
def DGet (H : Hp) (a : Addr) (y : V) (r : Option V) : Prop :=
  (∃ kvs k, Rd H a (.dK kvs) ∧ y = kV k ∧ r = valV kvs k) ∨ ∃ kvs k b, Rd H a (.dT kvs) ∧ y = .ref b ∧ H b = some (.tup (k.map kV)) ∧ r = valV kvs k
/-- the heap behind a[y] = v -/
def DPut (H : Hp) (a : Addr) (y v : V) (H' : Hp) : Prop :=
  (∃ kvs k, H a = some (.dK kvs) ∧ y = kV k ∧ kvs.length < sizeLine ∧ H' = upd H a (.dK (putK kvs k v))) ∨
  ∃ kvs k b, H a = some (.dT kvs) ∧ y = .ref b ∧ H b = some (.tup (k.map kV)) ∧ kvs.length < sizeLine ∧ H' = upd H a (.dT (putK kvs k v))
theorem DGet.k {H : Hp} {a : Addr} {kvs : List (Key × V)} {k : Key} (e : H a = some (.dK kvs)) : DGet H a (kV k) (valV kvs k) := .inl ⟨kvs, k, .inl e, rfl, rfl⟩
theorem DGet.t {H : Hp} {a b : Addr} {kvs : List (List Key × V)} {k : List Key} (e : H a = some (.dT kvs)) (eb : H b = some (.tup (k.map kV))) : DGet H a (.ref b) (valV kvs k) := .inr ⟨kvs, k, b, .inl e, rfl, eb, rfl⟩
theorem DPut.k {H : Hp} {a : Addr} {kvs : List (Key × V)} {k : Key} {v : V} (e : H a = some (.dK kvs)) (hl : kvs.length < sizeLine) : DPut H a (kV k) v (upd H a (.dK (putK kvs k v))) := .inl ⟨kvs, k, e, rfl, hl, rfl⟩
theorem DPut.t {H : Hp} {a b : Addr} {kvs : List (List Key × V)} {k : List Key} {v : V} (e : H a = some (.dT kvs)) (eb : H b = some (.tup (k.map kV))) (hl : kvs.length < sizeLine) :
    DPut H a (.ref b) v (upd H a (.dT (putK kvs k v))) := .inr ⟨kvs, k, b, e, rfl, eb, hl, rfl⟩
section
variable {X : Cx} {pins : List (Addr × Obj)} {σ : St} {H : Hp} {s : Shared} {a : Addr} {y v : V} {u r : Value} {o : Option V} {A : Around} {E : Value → Shared → Prop}
theorem Inv.big (I : Inv X pins σ H s) : sysModules < s.heap.objs.size := by
  have h : mainGlobals < s.heap.objs.size := (I.mod.glob.keeps I.bk).lt
  exact Nat.lt_trans (by decide) h
/-- y in d -/
theorem d_in {Q : Value → Shared → Prop} (hu : A.units + 1 < cLine) (I : Inv X pins σ H s) (g : DGet H a y o) (ry : RelV y u) (h : ∀ s', Inv X pins σ H s' → Q (.bool o.isSome) s') :
    wpAny (model X.prog X.w) A (compareOp .In u (.ref a)) Q E s := by
  rcases g with ⟨kvs, k, e, ey, l⟩ | ⟨kvs, k, b, e, ey, eb, l⟩
  · subst ey
    obtain ⟨z, hd, vs, rel, dd⟩ := dk_rd I.hok e
    refine wpAny_in_of (kV_is ry) hd dd.mapOf ?_
    rw [← (rel.val k).isSome_eq, ← l]
    exact h _ (I.tok _)
  · subst ey
    cases (show u = Value.ref b from ry)
    obtain ⟨z, hd, xs, rel, dd⟩ := dt_rd I.hok e
    refine wpAny_in_heap (tupleKind_room_in1 hu) (key_of I.hok eb) hd dd ?_
    have q := (rel.val k).isSome_eq
    rw [Option.isSome_map] at q
    rw [← q, ← l]
    exact h _ (I.tok _)
/-- a dict's object is replaced -/
theorem d_write {h' : Heap} {t' : Nat} {ob : HO} (I : Inv X pins σ H s) (mu : Mut (H a)) (hs : Heap.SameBut a s.heap h') (he : ∃ q, h'.get? a = some q) (new : ObjOk X.prog X.w (upd H a ob) h' a ob) :
    Inv X pins σ (upd H a ob) { s with heap := h', toks := t' } :=
  I.write (x := a) (e := a) mu (.inl rfl) (fun b q hb z => (hs.2 b hb).trans z) he new
theorem dk_new {P : Program} {w : World} {H' : Hp} {h' : Heap} {kvs : List (Key × V)} {vs : List (Key × Value)} (z : kvs.length ≤ sizeLine) (hd : (a == sysModules) = false) (rel : KV kvs vs) (dd : h'.DictOf (mixKind P w) a vs) :
    ObjOk P w H' h' a (.dK kvs) := ⟨z, hd, vs, rel, dd⟩
/-- d[y] = v -/
theorem d_setItem {H' : Hp} {Q : Unit → Shared → Prop} (hu : A.units + 1 < cLine) (I : Inv X pins σ H s) (g : DPut H a y v H') (ry : RelV y u) (rv : RelV v r) (h : ∀ s', Inv X pins σ H' s' → Q () s') :
    wpAny (model X.prog X.w) A (setItem (.ref a) u r) Q E s := by
  rcases g with ⟨kvs, k, e, ey, l, eH⟩ | ⟨kvs, k, b, e, ey, eb, l, eH⟩
  · subst ey eH
    obtain ⟨z, hd, vs, rel, dd⟩ := dk_of I.hok e
    have hz : vs.length ≤ sizeLine := by rw [← rel.length]; exact z
    have hl : (putK kvs k v).length ≤ sizeLine := by have := length_putK kvs k v; omega
    refine wpAny_setItem_pairs (hsz := hz) (kV_is ry) dd fun h' dd' hs => h _ ?_
    have he : ∃ q, h'.get? a = some q := let ⟨q, _, _, hq, _⟩ := dd'; ⟨q, hq⟩
    exact d_write I (by rw [e]; exact True.intro) hs he (dk_new hl hd (rel.put k rv) dd')
  · subst ey eH
    cases (show u = Value.ref b from ry)
    obtain ⟨z, hd, xs, rel, dd⟩ := dt_of I.hok e
    have hz : xs.length ≤ sizeLine := by rw [← Paired.length rel]; exact z
    have hl : (putK kvs k v).length ≤ sizeLine := by have := length_putK kvs k v; omega
    refine wpAny_setItem_heap (hsz := hz) (tupleKind_room_in1 hu) (key_of I.hok eb) dd fun h' dd' hs => h _ ?_
    obtain ⟨q, es, ep, hq, h2, h3, h4, _, h5⟩ := dd'
    refine d_write I (by rw [e]; exact True.intro) hs ⟨q, hq⟩ ⟨hl, hd, _, (rel.put k eb rv).keeps fun c ys ec => ?_, q, es, ep, hq, h2, h3, h4, h5⟩
    rw [upd_ne (ne_of ec e (fun z => nomatch z))]
    exact ec
end
section
variable {X : Cx} {pins : List (Addr × Obj)} {σ : St} {H : Hp} {s : Shared} {a : Addr} {kvs : List (Key × V)} {k : Key} {u : Value} {A : Around} {E : Value → Shared → Prop}
end
/-- y in d, y not in d -/
def tDIn (ty td : TE) : TE := fun σ H Q => ty σ H fun y H1 => td σ H1 fun x H2 => ∃ a o, x = .ref a ∧ DGet H2 a y o ∧ Q (.bl o.isSome) H2
/-- d[y] = v -/
def sDPut (td ty tv : TE) : TS := fun D σ H => tv σ H fun v H1 => td σ H1 fun x H2 => ty σ H2 fun y H3 => ∃ a H4, x = .ref a ∧ DPut H3 a y v H4 ∧ D.nx σ H4
section
variable {X : Cx} {o i e value : Expr} {pos pos' tpos : Pos} {td ty tv : TE}
theorem pc_din (hu : X.A.units + 1 < cLine) (hi : PE X i ty) (ho : PE X o td) : PC X .In i o (tDIn ty td) := by
  intro pins s σ H Q I h
  refine thn (hi pins s σ H _ I h) fun iv s1 ⟨y, H1, I1, ry, q1⟩ => thn (ho pins s1 σ H1 _ I1 q1) fun u s2 ⟨x, H2, I2, rx, a, ov, ex, g, q2⟩ => ?_
  subst ex
  obtain rfl : u = Value.ref a := rx
  exact d_in hu I2 g ry fun s3 I3 => ⟨.bl ov.isSome, H2, I3, rfl, q2⟩
theorem ps_dput (hu : X.A.units + 1 < cLine) (ho : PE X o td) (hi : PE X i ty) (hv : PE X value tv) (hs : swapsWith value (some (.Subscript o i pos')) pos.line X.env = pure false) :
    PS X (.Assign [.Subscript o i pos'] value pos) (sDPut td ty tv) := by
  intro pins s σ H D I h
  refine wpAny_Assign_Subscript (thn (hv pins s σ H _ I h) fun r s1 ⟨v, H1, I1, rv, q1⟩ => thn (ho pins s1 σ H1 _ I1 q1) fun u s2 ⟨x, H2, I2, rx, q2⟩ => thn (hi pins s2 σ H2 _ I2 q2) fun iv s3 ⟨y, H3, I3, ry, a, H4, ex, g, q3⟩ => ?_) hs
  subst ex
  obtain rfl : u = Value.ref a := rx
  exact d_setItem hu I3 g ry rv fun s4 I4 => ⟨σ, H4, I4, q3⟩
end
theorem dt_empty {P : Program} {w : World} {H : Hp} (h : Heap) (hb : sysModules < h.objs.size) : ObjOk P w H (h.push { cls := .type "dict", data := .dict #[] }) h.objs.size (.dT []) :=
  ⟨Nat.zero_le _, beq_eq_false_iff_ne.mpr (Ne.symm (Nat.ne_of_lt hb)), [], .nil, _, #[], 0, Heap.get?_push_size _ rfl, ⟨rfl, rfl, rfl⟩, rfl, rfl, List.nodup_nil⟩
def tDNewT : TE := fun _ H Q => ∀ p, H p = none → Q (.ref p) (upd H p (.dT []))
section
variable {X : Cx} {pos : Pos}
theorem pe_dnewT : PE X (.Dict [] [] pos) tDNewT := fun pins s σ H Q I h =>
  wpAny_Dict_empty ⟨.ref s.heap.objs.size, _, I.laid (a := s.heap.objs.size) (o := .dT []) (t' := s.toks) (fun _ _ q => Heap.get?_push_of_some _ q) (Nat.le_refl _) (dt_empty s.heap I.big), rfl, h _ (I.hok.fresh (Nat.le_refl _))⟩
end
/-! ### methods -/
/-- a method call o.m(e) of a built-in, with one argument: what must be seen of the text -/
structure M1 (X : Cx) (o : Expr) (m : Str) (apos : Pos) (e : Expr) (cpos : Pos) : Prop where
  base : attributeBase o m X.env (eval o X.env) = eval o X.env
  few : ((backTo cpos (starEach [e] X.env)).all (fun x => !x.1) && (backToKw cpos (keywordEach [] X.env)).all (fun x => x.1.isSome)
    && decide (([e] : List Expr).length + ([] : List Keyword).length + (if ([] : List Keyword).isEmpty then 0 else 1) < 30)) = true
  line : (apos.endLine == cpos.line) = true
  trees : backTo cpos (starEach [e] X.env) = [(false, eval e X.env)]
/-- a is a dict, whatever its keys -/
def IsD (H : Hp) (a : Addr) : Prop := (∃ kvs, Rd H a (.dK kvs)) ∨ ∃ kvs, Rd H a (.dT kvs)
theorem isD_at {X : Cx} {pins : List (Addr × Obj)} {σ : St} {H : Hp} {s : Shared} {a : Addr} (I : Inv X pins σ H s) (d : IsD H a) :
    s.TypeIs (.ref a) "dict" ∧ (∀ b, Value.ref a = .ref b → ∃ ob, s.heap.get? b = some ob ∧ ob.dict = none) ∧ (a == sysModules) = false := by
  rcases d with ⟨kvs, e⟩ | ⟨kvs, e⟩
  · obtain ⟨_, hd, vs, _, dd⟩ := dk_rd I.hok e
    refine ⟨dd.typeIs, fun b q => ?_, hd⟩
    cases q
    obtain ⟨ob, _, _, h1, h2, _⟩ := dd
    exact ⟨ob, h1, h2.2.1⟩
  · obtain ⟨_, hd, xs, _, dd⟩ := dt_rd I.hok e
    refine ⟨dd.typeIs, fun b q => ?_, hd⟩
    cases q
    obtain ⟨ob, _, _, h1, h2, _⟩ := dd
    exact ⟨ob, h1, h2.2.1⟩
section
variable {X : Cx} {pins : List (Addr × Obj)} {σ : St} {H : Hp} {s : Shared} {a : Addr} {y d : V} {u r : Value} {o : Option V} {A : Around} {E : Value → Shared → Prop}
/-- d.get(y) -/
theorem d_get1 {Q : Value → Shared → Prop} (hu : A.units + 1 < cLine) (I : Inv X pins σ H s) (g : DGet H a y o) (ry : RelV y u) (h : ∀ w' s', Inv X pins σ H s' → RelV (o.getD .non) w' → Q w' s') :
    wpAny (model X.prog X.w) A (call (.builtin "dict.get") [.ref a, u]) Q E s := by
  rcases g with ⟨kvs, k, e, ey, l⟩ | ⟨kvs, k, b, e, ey, eb, l⟩
  · subst ey
    obtain ⟨z, hd, vs, rel, dd⟩ := dk_rd I.hok e
    refine call_meetsIn PySem.F.slot_dict_get dd.typeIs PySem.F.entry_dict_get (PySem.F.args_dict_get_2 _ _) (meets_dict_get (mixKind X.prog X.w) a (kV_is ry) hd) ⟨_, dd.mapOf, h _ _ (I.tok _) ?_⟩
    rw [l]
    exact (rel.val k).getD rfl
  · subst ey
    cases (show u = Value.ref b from ry)
    obtain ⟨z, hd, xs, rel, dd⟩ := dt_rd I.hok e
    refine call_meetsIn PySem.F.slot_dict_get dd.typeIs PySem.F.entry_dict_get (PySem.F.args_dict_get_2 _ _) (meetsH_dict_get (tupleKind (mixKind X.prog X.w)) a b hd) ⟨tupleKind_room_in1 hu, k, xs, key_of I.hok eb, dd, h _ _ (I.tok _) ?_⟩
    rw [l]
    exact (rel.val k).getD rfl
end
def tDGet1 (td ty : TE) : TE := fun σ H Q => td σ H fun x H1 => ∃ a, x = .ref a ∧ IsD H1 a ∧ ty σ H1 fun y H2 => ∃ o, DGet H2 a y o ∧ Q (o.getD .non) H2
section
variable {X : Cx} {o e f : Expr} {apos cpos : Pos} {td ty tx : TE}
theorem pe_dget1 (hu : X.A.units + 1 < cLine) (ho : PE X o td) (he : PE X e ty) (m : M1 X o "get" apos e cpos) : PE X (.Call (.Attribute o "get" apos) [e] [] cpos) (tDGet1 td ty) := by
  intro pins s σ H Q I h
  refine wpAny_Call_method m.base m.few m.line PySem.F.plainAttrs_dict PySem.F.slot_dict_get PySem.F.type_dict_get (thn (ho pins s σ H _ I h) fun u s1 ⟨x, H1, I1, rx, a, ex, d, q1⟩ => ?_)
  subst ex
  obtain rfl : u = Value.ref a := rx
  obtain ⟨t1, t2, _⟩ := isD_at I1 d
  refine ⟨t1, t2, ?_⟩
  rw [m.trees]
  refine Calls.callWith_builtin rfl (Calls.evalArgs_plain (Calls.spliced_cons (thn (he pins s1 σ H1 _ I1 q1) fun iv s2 ⟨y, H2, I2, ry, ov, g, q2⟩ => Calls.spliced_nil ?_)))
  exact d_get1 hu I2 g ry fun w' s3 I3 rw' => ⟨_, H2, I3, rw', q2⟩
end
/-! ### dict(d): a copy -/
section
variable {X : Cx} {pins : List (Addr × Obj)} {σ : St} {H : Hp} {s : Shared} {a : Addr} {kvs : List (Key × V)} {A : Around} {E : Value → Shared → Prop}
end
section
variable {X : Cx} {pins : List (Addr × Obj)} {σ : St} {H : Hp} {s : Shared} {a : Addr} {y : V} {u : Value} {A : Around} {E : Value → Shared → Prop}
end
end L2
namespace Att
open PySem PySem.W PySem.Calls PyProof.Rows
/-! ### the script -/
theorem ints_of_wellAll {P : Params} {h : Heap} : ∀ (ns : List Int) (vs : List Value), WellAll P h vs (ns.map WData.int) → IntsAre vs ns := by
  intro ns
  induction ns with
  | nil =>
    intro vs w
    rw [List.map_nil] at w
    cases w
    exact .nil
  | cons n ns ih =>
    intro vs w
    rw [List.map_cons] at w
    cases w with
    | cons a b =>
      cases a
      exact .cons _ _ (ih _ b)
theorem script_of {l : OpenLaw} {n : Nat} (hn : l.most = some n) {P : Params} {h : Heap} {args : List WData} {vals : List Value}
    (hpre : l.row.toRowW.claim.pre args = true) (hwl : WellAll P h vals args) :
    ∃ a vs ns, vals = [Value.ref a] ∧ args = [WData.list (ns.map WData.int)] ∧ h.get? a = some { cls := .type "list", data := .seq vs.toArray } ∧ IntsAre vs ns ∧ ns.length ≤ n := by
  have hsh : WShape.hasAll [] args [.list .int] = true := (pre_splitW hpre).1
  have hc : l.pre.holds [] { args := args } = true := (pre_splitW hpre).2
  obtain ⟨d, r, rfl, h1, h2⟩ := hasAllW_cons hsh
  obtain rfl := hasAllW_nil h2
  obtain ⟨xs, rfl, h3⟩ := hasW_list h1
  obtain ⟨ns, rfl⟩ := items_int h3
  have hlen : ns.length ≤ n := by
    unfold OpenLaw.pre at hc
    have h4 : (WTm.not (.lt (.lit (.int (n : Int))) (.len (.arg 0)))).holds [] { args := [.list (ns.map .int)] } = true := by
      have h4 := (holds_andW hc).1
      rw [hn] at h4
      exact h4
    have h5 := condW_of h4 (w_not (w_lt w_lit (w_len_list (w_arg rfl))))
    rw [List.length_map] at h5
    refine Nat.le_of_not_lt fun q => ?_
    have q' : (n : Int) < ((ns.length : Nat) : Int) := by omega
    first
      | (rw [decide_eq_true q'] at h5; exact absurd h5 (by decide))
      | (simp at h5; omega)
  cases hwl with
  | cons w1 w2 =>
    cases w2
    cases w1 with
    | list ho hall => exact ⟨_, _, ns, rfl, rfl, ho, ints_of_wellAll ns _ hall, hlen⟩
theorem post_true (l : OpenLaw) (args : List WData) : l.row.toRowW.claim.post args (.bool true) args = true :=
  postW_of (r := l.row.toRowW) (X := (true == true))
    (show WShape.has [] (.bool true) .bool = true by first | rfl | decide | simp [WShape.has, WShape.arms, WShape.armsAll])
    (show (WTm.eq .res (.lit (.bool true))).value [] { args := args, res := some (.bool true), after := args } = some (.bool (true == true)) from w_eq_bool (w_res rfl) w_lit) rfl
/-- the same from a codeAny of the CALL (for a layer whose function contracts speak of calls) -/
theorem attach_call {l : OpenLaw} {n : Nat} {q : Program} {loose : List Str} {XP : (Str → Option Value) → Heap → Prop} {YP : World → Heap → Prop} {d : DefRec}
    (hn : l.most = some n) (hdf : d.params.defaults = [])
    (call : ∀ (w : World) (s₀ s₁ : Shared) (mg mb : Str → Option Value) (fa : Addr) (o : Obj) (pm cd doc : Value) (a : Addr) (vs : List Value) (ns : List Int),
      Ground q loose [] XP w s₀ mg mb s₁.heap → YP w s₁.heap →
      s₁.heap.get? fa = some o → o.data = .func (docDef d.name d.params d.body d.scope pm cd doc) → s₁.heap.CodeRec cd d.name → mg d.name = some (.ref fa) →
      s₁.heap.get? a = some { cls := .type "list", data := .seq vs.toArray } → IntsAre vs ns → ns.length ≤ n → s₁.gens = #[] →
      codeAny (model l.prog w) callerA (.call (.ref fa) ⟨[.ref a], []⟩) (fun r s' => r = .ok (.ret (.bool true)) ∧ OldK s₁.heap s'.heap ∧ s'.os = s₁.os ∧ AllBare s'.gens) s₁) :
    WalkO q loose XP YP l.row.toRowW d [] (fun f vs => PySem.call f vs) := by
  intro w s₀ s₁ mg mb G Y fa o pm cd doc dV kV ho hd hcd hD hmg hg args vals as hpre hlay hrd hwl hlo
  obtain rfl : dV = .none := Dflts.none hD hdf
  obtain rfl : kV = .none := Dflts.noKw hD
  obtain ⟨a, vs, ns, rfl, rfl, hobj, hints, hlen⟩ := script_of hn hpre hwl
  refine enter_call (codeAny_mono (call w s₀ s₁ mg mb fa o pm cd doc a vs ns G Y ho (fd_plain hd) hcd hmg hobj hints hlen hg) fun r s' hq => ?_)
  obtain ⟨rfl, h2, h3, h4⟩ := hq
  exact ⟨.inl ⟨.bool true, .bool true, [], rfl, fun _ => rfl, .bool true, post_true l _, fun _ => ⟨List.Pairwise.nil, fun _ hm => (nomatch hm)⟩⟩, h2, h3, h4⟩
/-! ### rules over ANY heap (no ledger) from facts about the written part K: the library's own take a ledger (News) for what they write -/
section
variable {prog : Program} {w : World} {A : Around} {E : Value → Shared → Prop} {s : Shared} {K : Frag}
def ledger (h : Heap) (L d : Addr) : List (Addr × Obj) := (List.range h.objs.size).filterMap fun a => if a = L ∨ a = d then none else (h.get? a).map fun o => (a, o)
end
end Att
namespace L2
open PySem PySem.Spec PyProof.Rows
theorem vals_ints : ∀ {vs : List Value} {ns : List Int}, IntsAre vs ns → Vals (ns.map V.int) vs
  | _, _, .nil => .nil
  | _, _, .cons n t h => .cons ⟨t, rfl⟩ (vals_ints h)
/-- nothing is tracked but the script, known to the object (or it is an object of the module) -/
def Only (H : Hp) : Prop := ∀ b, H b = none ∨ ∃ o xs, H b = some (.frz o (.lst xs))
/-- THE HEAD: the law's promise, at the heap behind the top. F, the promise of the law's def, may use that base is part of the heap (so K.In base, base.Ns mainGlobals mg stand in Mod) -/
theorem law_call {P : Program} {w : World} {K : PySem.W.Frag} {mg mb : Str → Option Value} {CX : CXT} {k : Nat} {fa a : Addr} {fd : FuncData} {x : Str} {sp : Sp} {s₁ : Shared} {vs : List Value} {ns : List Int}
    (KX : K.In s₁.heap) (hns : s₁.heap.Ns mainGlobals mg) (hb : s₁.heap.Ns builtinsNs mb) (hbb : ∀ x : Str, x ≠ "__name__" → mb x = bootBuiltins x) (hlim : s₁.heap.NoLimit) (hg : s₁.gens = #[])
    (ha : s₁.heap.get? a = some { cls := .type "list", data := .seq vs.toArray }) (hi : IntsAre vs ns) (hl : ns.length ≤ sizeLine) (hr : Room k callerA)
    (F : ∀ base : Heap, K.In base → base.Ns mainGlobals mg → FnOk P w K mg base CX k fa fd [x] sp) (hbind : ∀ (s : Shared) (u : Value), BindsTo s fd ⟨[u], []⟩ [(x, u)])
    (hsp : ∀ H : Hp, Only H → SqL K H a (ns.map V.int) → sp [.ref a] H (fun v _ => v = .bl true) fun _ _ _ => False)
    (hCX : ∀ H e s', CX [] H s₁ (fun _ _ _ => False) e s' → False) :
    codeAny (model P w) callerA (.call (.ref fa) ⟨[.ref a], []⟩) (fun r s' => r = .ok (.ret (.bool true)) ∧ OldK s₁.heap s'.heap ∧ s'.os = s₁.os ∧ AllBare s'.gens) s₁ := by
  have rv := vals_ints hi
  have lenV := hi.length
  -- from an abstract heap in which nothing but the script may be tracked
  have core : ∀ H : Hp, Only H → SqL K H a (ns.map V.int) → HOk P w H s₁.heap → (∀ b, H b ≠ none → b = a) → (H a ≠ none → K.lookup a = none) →
      codeAny (model P w) callerA (.call (.ref fa) ⟨[.ref a], []⟩) (fun r s' => r = .ok (.ret (.bool true)) ∧ OldK s₁.heap s'.heap ∧ s'.os = s₁.os ∧ AllBare s'.gens) s₁ := by
    intro H hO hS hok hA hK
    have base_of : ∀ {b : Addr} {o : Obj}, s₁.heap.get? b = some o → H b = none → (hidT s₁.heap H).get? b = some o := fun e n => hidT_get e n
    have noA : ∀ {b : Addr} {o : Obj} {es : Array DictEntry} {ep : Nat}, s₁.heap.get? b = some o → o.data = .dict es ep → H b = none := fun {b o es ep} e d => by
      cases q : H b with
      | none => rfl
      | some u =>
        have e' : b = a := hA b (by rw [q]; simp)
        subst e'
        rw [ha] at e; cases e
        have d' : Data.seq vs.toArray _ = Data.dict es ep := d
        cases d'
    have nsK : ∀ {b : Addr} {m : Str → Option Value}, s₁.heap.Ns b m → (hidT s₁.heap H).Ns b m := fun {b m} ⟨o, es, ep, e, d, r⟩ => ⟨o, es, ep, base_of e (noA e d), d, r⟩
    have hKb : K.In (hidT s₁.heap H) := fun b o e => base_of (KX b o e) (by
      cases q : H b with
      | none => rfl
      | some u =>
        have e' : b = a := hA b (by rw [q]; simp)
        subst e'
        rw [hK (by rw [q]; simp)] at e; cases e)
    have hM : Mod K mg (hidT s₁.heap H) := ⟨hKb, nsK hns, ⟨mb, nsK hb, hbb⟩, let ⟨mc, h1, h2⟩ := hlim; ⟨mc, nsK h1, h2⟩⟩
    have e0 : Env0 P w K mg (hidT s₁.heap H) callerA [] s₁ H := ⟨rfl, hM, fun b o e => of_hidT e, Nat.le_of_eq (hidT_size _ _), trivial, fun b hb => absurd (show b ∈ ([] : List Addr) from hb) (by simp), hok, .of_eq hg⟩
    refine codeAny_mono ((F _ hKb (nsK hns)).run callerA [] s₁ H ⟨[.ref a], []⟩ [.ref a] [.ref a] _ _ hr e0 (hbind s₁ (.ref a)) (.cons rfl .nil) (hsp H hO hS)) fun r s' h => ?_
    cases r with
    | error e => exact (hCX H e s' h).elim
    | ok fl =>
      cases fl with
      | next => exact False.elim h
      | brk => exact False.elim h
      | cont => exact False.elim h
      | ret u =>
        obtain ⟨v, H', os, bare, un, hok', r', q⟩ := h
        have q' : v = .bl true := q
        subst q'
        obtain rfl : u = Value.bool true := r'
        refine ⟨rfl, OldK.of_keep fun b o e => ?_, os, bare⟩
        cases q : H b with
        | none => exact un.keep b o e q (by intro z; exact absurd (show b ∈ ([] : List Addr) from z) (by simp)) (by simp)
        | some u =>
          rcases hO b with z | ⟨ob, xs, z⟩
          · rw [q] at z; cases z
          · have z2 := un.frzs b ob _ z
            obtain ⟨e1, _⟩ := hok b _ z
            obtain ⟨e2, _⟩ := hok' b _ z2
            rw [e] at e1; cases e1
            exact e2
  cases hk : K.lookup a with
  | some o =>
    -- the script is one of the module's own objects
    have e := KX a o hk
    rw [ha] at e
    cases e
    refine core (fun _ => none) (fun _ => .inl rfl) (.inr ⟨_, vs.toArray, _, hk, rfl, rfl, rfl, by rw [List.size_toArray, lenV]; exact hl, by simpa using rv⟩) (fun b u z => by have z' : (none : Option HO) = some u := z; cases z') (fun b z => absurd rfl z) fun z => absurd rfl z
  | none =>
    refine core (fun b => if b = a then some (.frz { cls := .type "list", data := .seq vs.toArray } (.lst (ns.map V.int))) else none) (fun b => ?_) (.inl (.inr ⟨{ cls := .type "list", data := .seq vs.toArray }, if_pos rfl⟩)) (fun b u z => ?_) (fun b z => ?_) fun _ => hk
    · by_cases hb : b = a
      · exact .inr ⟨_, _, if_pos hb⟩
      · exact .inl (if_neg hb)
    · by_cases hb : b = a
      · have z' := (if_pos hb).symm.trans z
        cases z'
        subst hb
        exact ⟨ha, by rw [List.length_map]; exact hl, vs, _, rv, ha⟩
      · have z' := (if_neg hb).symm.trans z
        cases z'
    · by_cases hb : b = a
      · exact hb
      · exact absurd (if_neg hb) z
end L2
namespace L2
open PySem PySem.Spec PyProof.Rows
/-- the goal that k_head leaves (case hc), from the law's promise. F gives the function object fd (K's own) once, then the promise over every base -/
theorem walk_of {l : PySem.W.OpenLaw} {n k : Nat} {q : Program} {loose : List Str} {XP : (Str → Option Value) → Heap → Prop} {YP : World → Heap → Prop} {d : DefRec} {K : Params → PySem.W.Frag} {CX : World → CXT} {sp : World → Sp} {x : Str}
    (hn : l.most = some n) (hn2 : n ≤ sizeLine) (hdf : d.params.defaults = []) (hr : Room k callerA)
    (hY : ∀ (w : World) (h : Heap), YP w h → (K w.params).In h)
    (F : ∀ (w : World) (mg : Str → Option Value) (fa : Addr) (h : Heap), (K w.params).In h → h.Ns mainGlobals mg → mg d.name = some (.ref fa) →
      ∃ fd : FuncData, (∀ (s : Shared) (u : Value), BindsTo s fd ⟨[u], []⟩ [(x, u)]) ∧
        ∀ base : Heap, (K w.params).In base → base.Ns mainGlobals mg → FnOk l.prog w (K w.params) mg base (CX w) k fa fd [x] (sp w))
    (hsp : ∀ (w : World) (H : Hp) (a : Addr) (ns : List Int), ns.length ≤ n → Only H → SqL (K w.params) H a (ns.map V.int) → sp w [.ref a] H (fun v _ => v = .bl true) fun _ _ _ => False)
    (hCX : ∀ (w : World) (H : Hp) (s : Shared) (e : Value) (s' : Shared), CX w [] H s (fun _ _ _ => False) e s' → False) :
    PySem.W.WalkO q loose XP YP l.row.toRowW d [] (fun f vs => PySem.call f vs) := by
  refine Att.attach_call hn hdf fun w s₀ s₁ mg mb fa o pm cd doc a vs ns G Y ho hd hcd hmg hobj hints hlen hg => ?_
  have KX := hY w _ Y
  obtain ⟨fd, hb, hF⟩ := F w mg fa _ KX G.T.g hmg
  exact law_call KX G.T.g G.T.b G.T.builtins G.T.nolimit hg hobj hints (Nat.le_trans hlen hn2) hr hF hb (fun H hO hS => hsp w H a ns hlen hO hS) fun H e s' => hCX w H s₁ e s'
end L2
/-! SHORT WORDS over the layer: a def of the text, its body, what a loop and a test want. -/
namespace L2
open PySem PySem.Spec PyProof.Rows
/-! ### the text by places -/
/-- the j-th statement of a class's body -/
def inClass (s : Stmt) (j : Nat) : Stmt := match s with
  | .ClassDef _ _ _ body _ _ _ _ _ _ _ => body.getD j (.Pass ⟨0, 0, 0, 0⟩)
  | _ => .Pass ⟨0, 0, 0, 0⟩
def defArgs (s : Stmt) : Arguments := match s with
  | .FunctionDef _ a _ _ _ _ _ _ _ _ => a
  | _ => { posonlyargs := [], args := [], vararg := none, kwonlyargs := [], kw_defaults := [], kwarg := none, defaults := [] }
def defBody (s : Stmt) : List Stmt := match s with
  | .FunctionDef _ _ b _ _ _ _ _ _ _ => b
  | _ => []
def defScope (s : Stmt) : Scope := match s with
  | .FunctionDef _ _ _ _ _ _ sc _ _ _ => sc
  | _ => { kind := .function, names := [], isGenerator := false, isCoroutine := false }
/-! ### no exception leaves a def -/
abbrev CX0 : CXT := fun _ _ _ _ _ _ => False
/-! ### a def (or method) of the text as it stands behind the top -/
structure Fun (K : PySem.W.Frag) (x qual : Str) (st : Stmt) (f : Addr) (fd : FuncData) : Prop where
  ex : ∃ (oc : Value) (od : Option Addr) (kV doc pm : Value) (an : Option Addr) (cdv ct : Value) (osl : Array (Option Value)),
    fd = PySem.W.fnOf x qual (defArgs st) (defBody st) (defScope st) .none kV doc pm an cdv ct ∧ K.lookup f = some ⟨oc, od, .func fd, osl⟩ ∧ PySem.W.codeIn K cdv qual = true
  kp : PySem.W.keepIn K (.ref f) = true
section
variable {P : Program} {w : World} {K : PySem.W.Frag} {mg : Str → Option Value} {base : Heap}
/-- THE RULE for a def: its body as a term of rules, and the reading of that term -/
theorem Fun.ok {x qual : Str} {st : Stmt} {f : Addr} {fd : FuncData} {N ps : List Str} {k : Nat} {sp : Sp} (F : Fun K x qual st f fd) (S : FnScope N ps (defScope st)) (len : ∀ vs H Q E, sp vs H Q E → vs.length = ps.length)
    (hbody : ∀ (cdv : Value) (A : Around) (outer : List Env) (s : Shared) (H : Hp) (vs : List V) (Q : VK) (E : XK), Room k (A.deeper (envOfC qual (defScope st) s.heap.objs.size f cdv)) → sp vs H Q E →
      ∃ t, PSs (cxOf CX0 P w K mg base N qual (defScope st) f cdv A outer s H E).nox (defBody st) t ∧ t { nx := fun _ H' => Q .non H', rt := Q } (start N vs) H) : FnOk P w K mg base CX0 (k + 1) f fd ps sp := by
  obtain ⟨oc, od, kV, doc, pm, an, cdv, ct, osl, rfl, lk, hcd⟩ := F.ex
  refine fn_of lk hcd S len fun A outer s H vs Q E hr hsp => ?_
  obtain ⟨t, h, q⟩ := hbody cdv A outer s H vs Q E hr hsp
  exact ⟨t, h.nox, q⟩
/-- how its arguments bind (no defaults): h is «fun _ _ _ _ _ _ us hl => match us, hl with | [_, _], _ => rfl», one _ a parameter -/
theorem Fun.binds {x qual : Str} {st : Stmt} {f : Addr} {fd : FuncData} {ps : List Str} (F : Fun K x qual st f fd)
    (h : ∀ (kV doc pm : Value) (an : Option Addr) (cdv ct : Value) (us : List Value), us.length = ps.length → bindArgs (PySem.W.fnOf x qual (defArgs st) (defBody st) (defScope st) .none kV doc pm an cdv ct) ⟨us, []⟩ = pure (ps.zip us)) : Binds K fd ps [] := by
  obtain ⟨oc, od, kV, doc, pm, an, cdv, ct, osl, rfl, lk, hcd⟩ := F.ex
  exact .all (h kV doc pm an cdv ct)
theorem fun_mk {x qual : Str} {st : Stmt} {f : Addr} {oc : Value} {od an : Option Addr} {osl : Array (Option Value)} {kV doc pm cdv ct : Value} (l : K.lookup f = some ⟨oc, od, .func (PySem.W.fnOf x qual (defArgs st) (defBody st) (defScope st) .none kV doc pm an cdv ct), osl⟩)
    (c : PySem.W.codeIn K cdv qual = true) (k : PySem.W.keepIn K (.ref f) = true) : Fun K x qual st f (PySem.W.fnOf x qual (defArgs st) (defBody st) (defScope st) .none kV doc pm an cdv ct) := ⟨⟨oc, od, kV, doc, pm, an, cdv, ct, osl, rfl, l, c⟩, k⟩
end
theorem hu_of {A : Around} {k : Nat} (hr : Room k A) : A.units + 1 < cLine := Nat.lt_of_le_of_lt (Nat.add_le_add_left (by decide : 1 ≤ 64) _) hr.units
/-! ### expressions in short: the name that stands in the i-th slot -/
section
variable {X : Cx}
theorem pv (i : Nat) {x : Str} {pos : Pos} (hN : X.N[i]? = some x := by rfl) (hv : Vis X.env.scope x := by first | exact Or.inl rfl | exact Or.inr (Or.inl rfl) | exact Or.inr (Or.inr rfl)) (hd : (x == ("__debug__" : Str)) = false := by decide)
    (hcd : (x == ("__classdict__" : Str)) = false := by decide) : PE X (.Name x pos) (tVar i) := pe_var hN hv hd hcd
end
/-! ### tests -/
theorem iteF {A B : Prop} (h : B) : if false = true then A else B := by
  rw [if_neg Bool.false_ne_true]
  exact h
theorem iteT {A B : Prop} (h : A) : if true = true then A else B := by
  rw [if_pos rfl]
  exact h
theorem ite2 {c A B : Prop} [Decidable c] (h1 : c → A) (h2 : ¬ c → B) : if c then A else B := by
  by_cases h : c
  · rw [if_pos h]
    exact h1 h
  · rw [if_neg h]
    exact h2 h
/-! ### heaps -/
/-- all that was tracked is as it was -/
def Same (H H' : Hp) : Prop := ∀ b o, H b = some o → H' b = some o
theorem Same.trans {H H1 H2 : Hp} (a : Same H H1) (b : Same H1 H2) : Same H H2 := fun c o h => b c o (a c o h)
theorem Same.free {H H' : Hp} (e : Same H H') {l : Addr} (h : H' l = Option.none) : H l = Option.none := by
  cases q : H l with
  | none => rfl
  | some o =>
    rw [e l o q] at h
    cases h
theorem Same.seq {K : PySem.W.Frag} {H H' : Hp} {a : Addr} {xs : List V} (e : Same H H') (h : SqL K H a xs) : SqL K H' a xs := by
  rcases h with (h | ⟨o, h⟩) | h
  · exact .inl (.inl (e _ _ h))
  · exact .inl (.inr ⟨o, e _ _ h⟩)
  · exact .inr h
/-! ### a dict's pairs: keys that differ -/
section
variable {κ : Type} [DecidableEq κ]
end
end L2
set_option maxHeartbeats 4000000
/-! MY OWN LAYER over the hand layer: exceptions, packed promises -/
namespace L2
open PySem PySem.Spec PyProof.Rows

/-- an exception of class cls flies, its record at ea, over the frames l; B: all that stays whatever it passes -/
structure Fly (B : Heap) (l : List Env) (h : Heap) (H H' : Hp) (h' : Heap) (ea : Addr) (cls : Value) : Prop where
  fl : ∃ a0, Heap.FlyingW B l ea cls a0 h'
  trk : ∀ b u, H' b = some u → ∃ o, B.get? b = some o
  kept : ∀ b o, h.get? b = some o → H b = none → b ∉ frs l → B.get? b = some o
  alive : ∀ b o, h.get? b = some o → b ∉ frs l → ∃ o', B.get? b = some o'
/-- how an exception lies behind a call -/
def CXe (P : Program) (w : World) : CXT := fun outer H s E e s' => ∃ ea cls H' B, e = .ref ea ∧ s'.os = s.os ∧ AllBare s'.gens ∧ Un (frs outer) [] H H' s.heap s'.heap ∧ HOk P w H' s'.heap ∧ Fly B outer s.heap H H' s'.heap ea cls ∧ E cls none H'
/-- what a context wants of exceptions, in abstract words: class, frame, heap -/
abbrev XKs := Value → St → Hp → Prop
def XW (X : Cx) (K : XKs) : Prop := ∀ (pins : List (Addr × Obj)) (σ : St) (H : Hp) (s s' : Shared) (ea : Addr) (cls : Value) (H' : Hp) (B : Heap), Inv X pins σ H s → s'.os = s.os → AllBare s'.gens →
  Un (frs X.stack) [] H H' s.heap s'.heap → HOk X.prog X.w H' s'.heap → Fly B X.stack s.heap H H' s'.heap ea cls → K cls σ H' → X.xe (.ref ea) s'

theorem frs_cons {env : Env} {l : List Env} {L : Addr} (h : env.frame = some L) : frs (env :: l) = L :: frs l := by
  unfold frs; rw [List.filterMap_cons, h]

/-- tracked things stay where all that B holds stays -/
theorem HOk.flown {P : Program} {w : World} {H : Hp} {B h h' : Heap} (x : HOk P w H h) (t : ∀ b u, H b = some u → ∃ o, B.get? b = some o) (s : B.StaysIn h) (s' : B.StaysIn h') : HOk P w H h' := fun a o e =>
  (x a o e).stay (fun b u hb q => by
    have hB : ∃ o, B.get? b = some o := by
      rcases hb with rfl | hb
      · exact t _ _ e
      · exact t _ _ hb
    obtain ⟨o', ho⟩ := hB
    have e1 := s b o' ho
    rw [q] at e1; cases e1
    exact s' b _ ho) (fun _ q => q) fun _ _ q => q

/-- the wish of a def's body -/
theorem xw_def {P : Program} {w : World} {K : PySem.W.Frag} {mg : Str → Option Value} {base : Heap} {N : List Str} {qual : Str} {scope : Scope} {f : Addr} {cd : Value} {A : Around} {outer : List Env} {s0 : Shared} {H0 : Hp} {E : XK} :
    XW (cxOf (CXe P w) P w K mg base N qual scope f cd A outer s0 H0 E) (fun c _ H' => E c none H') := by
  intro pins σ H s s' ea cls H' B I os bare un hok fly hK
  have I' := I.call' (s' := s') (ch := []) os un hok bare (fun b z => absurd z (by simp))
  have hfr := I.ok.frames
  have hstk : (cxOf (CXe P w) P w K mg base N qual scope f cd A outer s0 H0 E).stack = envOfC qual scope s0.heap.objs.size f cd :: outer := rfl
  rw [hstk] at hfr
  obtain ⟨a0, hfl⟩ := fly.fl
  have hf : (envOfC qual scope s0.heap.objs.size f cd).frame = some s0.heap.objs.size := rfl
  show wpAny _ _ (leaving (envOfC qual scope s0.heap.objs.size f cd) (.ref ea)) _ _ s'
  refine wpAny_leaves_onW hfr hf hfl fun h' fl' up => ?_
  have hfs : frs (envOfC qual scope s0.heap.objs.size f cd :: outer) = s0.heap.objs.size :: frs outer := frs_cons hf
  have nf : ∀ b o, s0.heap.get? b = some o → b ∉ frs outer → b ∉ frs (envOfC qual scope s0.heap.objs.size f cd :: outer) := fun b o e n z => by
    rw [hfs] at z
    rcases List.mem_cons.mp z with z | z
    · exact absurd (Heap.lt_size e) (by rw [z]; exact Nat.lt_irrefl _)
    · exact n z
  have stay : ∀ b o, s0.heap.get? b = some o → H0 b = none → b ∉ frs outer → B.get? b = some o := fun b o e n hb =>
    fly.kept b o (I.base.keep b o e n hb (by intro z; exact absurd z (by simp [cxOf]))) (I.base.free b o e n (by intro z; exact absurd z (by simp [cxOf]))) (nf b o e hb)
  have live : ∀ b o, s0.heap.get? b = some o → b ∉ frs outer → ∃ o', B.get? b = some o' := fun b o e hb => by
    obtain ⟨o1, e1⟩ := I.base.there b o e (by intro z; exact absurd z (by simp [cxOf]))
    exact fly.alive b o1 e1 (nf b o e hb)
  refine ⟨ea, cls, H', B, rfl, I'.os, bare, ?_, hok.flown fly.trk hfl.1 fl'.1, ⟨⟨a0, fl'⟩, fly.trk, stay, live⟩, hK⟩
  have noA : ∀ b : Addr, b ∉ (cxOf (CXe P w) P w K mg base N qual scope f cd A outer s0 H0 E).ex := fun b z => absurd z (by simp [cxOf])
  have slotOf : ∀ b, b ∈ frs outer → ∀ o, s'.heap.get? b = some o → ∃ sl, h'.get? b = some { o with slots := sl } := fun b hb o e => by
    have hm : b ∈ frs (envOfC qual scope s0.heap.objs.size f cd :: outer) := by rw [hfs]; exact List.mem_cons_of_mem _ hb
    obtain ⟨_, o', ho', hd⟩ := hfl.2.2.1.mem hm
    rw [e] at ho'; cases ho'
    exact up b o e hd
  refine ⟨fun b o e n hb _ => fl'.1 b o (stay b o e n hb), fun b o e n hb _ => ?_, fun b o e n _ => I'.base.free b o e n (noA b), fun b o e _ => ?_, I'.base.tups, I'.base.frzs, I'.base.tbls⟩
  · obtain ⟨sl, e1⟩ := I'.base.slot b o e n hb (noA b)
    obtain ⟨sl', e2⟩ := slotOf b hb _ e1
    exact ⟨sl', e2⟩
  · by_cases hb : b ∈ frs outer
    · obtain ⟨o1, e1⟩ := I'.base.there b o e (noA b)
      obtain ⟨sl, e2⟩ := slotOf b hb _ e1
      exact ⟨_, e2⟩
    · obtain ⟨o1, e1⟩ := live b o e hb
      exact ⟨o1, fl'.1 b o1 e1⟩

/-! ### packed promises -/
/-- a def of the module: bound to x, its promise -/
def Have (P : Program) (w : World) (K : PySem.W.Frag) (mg : Str → Option Value) (base : Heap) (x : Str) (k : Nat) (ps : List Str) (dvs : List V) (sp : Sp) : Prop :=
  ∃ f fd ds, mg x = some (.ref f) ∧ PySem.W.keepIn K (.ref f) = true ∧ Binds K fd ps ds ∧ Vals dvs ds ∧ FnOk P w K mg base (CXe P w) k f fd ps sp
/-- a method -/
def HaveM (P : Program) (w : World) (K : PySem.W.Frag) (mg : Str → Option Value) (base : Heap) (C : Addr) (m : Str) (k : Nat) (ps : List Str) (dvs : List V) (sp : Sp) : Prop :=
  ∃ f fd ds, Meth K C m f ∧ Binds K fd ps ds ∧ Vals dvs ds ∧ FnOk P w K mg base (CXe P w) k f fd ps sp
/-- __init__ of the class at C, bound to x -/
def HaveI (P : Program) (w : World) (K : PySem.W.Frag) (mg : Str → Option Value) (base : Heap) (x : Str) (C : Addr) (k : Nat) (ps : List Str) (dvs : List V) (sp : Sp) : Prop :=
  ∃ f fd ds, mg x = some (.ref C) ∧ Mk K C f ∧ Binds K fd ps ds ∧ Vals dvs ds ∧ FnOk P w K mg base (CXe P w) k f fd ps sp
def tCallE (Kx : XKs) (sp : Sp) (dvs : List V) (t : TA) : TE := fun σ H Q => t σ H fun vs H1 => sp (vs ++ dvs) H1 Q (fun c _ H' => Kx c σ H')
def tMethE (Kx : XKs) (C : Addr) (m : Str) (sp : Sp) (dvs : List V) (ta : TE) (t : TA) : TE := fun σ H Q => ta σ H fun x H1 => ∃ a dx fs, x = .ref a ∧ H1 a = some (.ins C dx fs) ∧ fs.lookup m = none ∧
  t σ H1 fun vs H2 => sp (x :: (vs ++ dvs)) H2 Q (fun c _ H' => Kx c σ H')
def tMakeE (Kx : XKs) (C : Addr) (sp : Sp) (dvs : List V) (t : TA) : TE := fun σ H Q => t σ H fun vs H1 => ∀ x dx, H1 x = none → H1 dx = none → dx ≠ x →
  sp (.ref x :: (vs ++ dvs)) (upd (upd H1 dx (.own x)) x (.ins C dx [])) (fun v H2 => v = .non ∧ Q (.ref x) H2) (fun c _ H' => Kx c σ H')
section
variable {X : Cx} {Kx : XKs} {k : Nat} {f C : Addr} {fd : FuncData} {ps : List Str} {sp : Sp} {dvs : List V} {ds : List Value} {x m : Str} {p pos apos : Pos} {e o : Expr} {es : List Expr} {ta : TE} {t : TA}
theorem run_fnE {pins : List (Addr × Obj)} {σ : St} {H : Hp} {s : Shared} {Q : VK} {us : List Value} {vs : List V} (F : FnOk X.prog X.w X.K X.mg X.base (CXe X.prog X.w) k f fd ps sp) (hr : Room k X.A) (hb : Binds X.K fd ps ds) (hd : Vals dvs ds) (hx : XW X Kx)
    (I : Inv X pins σ H s) (r : Vals vs us) (h : sp (vs ++ dvs) H Q (fun c _ H' => Kx c σ H')) : wpAny (model X.prog X.w) X.A (call (.ref f) us) (EP X pins σ Q) X.xe s := by
  have r2 : Vals (vs ++ dvs) (us ++ ds) := r.append hd
  have hl : (us ++ ds).length = ps.length := by rw [← r2.length]; exact F.len _ _ _ _ h
  refine wpAny_call (codeAny_mono (F.run X.A X.stack s H ⟨us, []⟩ (us ++ ds) (vs ++ dvs) Q _ hr I.env0 (hb s us I.kIn hl) r2 h) fun r s' hq => ?_)
  cases r with
  | error e =>
    obtain ⟨ea, cls, H', B, rfl, os, bare, un, hok, fly, hK⟩ := hq
    exact hx pins σ H s s' ea cls H' B I os bare un hok fly hK
  | ok fl =>
    cases fl with
    | ret u => exact I.after hq
    | next => exact False.elim hq
    | brk => exact False.elim hq
    | cont => exact False.elim hq
theorem pe_callE (F : Have X.prog X.w X.K X.mg X.base x k ps dvs sp) (hr : Room k X.A) (hx : XW X Kx) (ha : PA X (e :: es) t) (hg : Gl X x := by rfl) (hdb : (x == ("__debug__" : Str)) = false := by decide)
    (he : starEach (e :: es) X.env = (false, eval e X.env) :: starEach es X.env := by rfl) (hpl : (backTo pos (starEach es X.env)).any (·.1) = false := by rfl) :
    PE X (.Call (.Name x p) (e :: es) [] pos) (tCallE Kx sp dvs t) := by
  obtain ⟨f, fd, ds, hm, hk, hb, hd, F⟩ := F
  intro pins s σ H Q I h
  refine wpAny_Call_Name_kw (ld_glob I hg hm ?_ hdb)
  refine PySem.W.callWith_K (h₀ := X.base) I.ok.mod.kin hk (thn (ha pos pins s σ H _ I h) fun us s1 ⟨vs, H1, I1, r, q⟩ => ⟨I1.kIn, ?_⟩) he hpl
  exact run_fnE F hr hb hd hx I1 r q
theorem pe_methE {pl : Sem Bool} (ho : PE X o ta) (c : Cls X.K C) (F : HaveM X.prog X.w X.K X.mg X.base C m k ps dvs sp) (hr : Room k X.A) (hx : XW X Kx) (ha : PA X (e :: es) t)
    (hst : starEach (e :: es) X.env = (false, eval e X.env) :: starEach es X.env := by rfl) (hpl : (backTo pos (starEach es X.env)).any (·.1) = false := by rfl)
    (ht : eval (.Call (.Attribute o m apos) (e :: es) [] pos) X.env = (do
      let ov ← eval o X.env
      standAt apos.atName
      let (f, first) ← holding [ov] (getMethod ov m pl)
      callWith pos f first (backTo pos (starEach (e :: es) X.env)) (backToKw pos (keywordEach [] X.env))) := by rfl) :
    PE X (.Call (.Attribute o m apos) (e :: es) [] pos) (tMethE Kx C m sp dvs ta t) := by
  obtain ⟨f, fd, ds, hm, hb, hd, F⟩ := F
  intro pins s σ H Q I h
  refine PySem.W.methodCall_KW (pl := pl) (thn (ho pins s σ H _ I h) fun u s1 ⟨x, H1, I1, rx, a, dx, fs, ex, ea, l, q⟩ => ?_) ht
  subst ex
  obtain rfl : u = Value.ref a := rx
  refine getmeth_ok I1 ea c hm l ?_
  refine PySem.W.callWith_K (first := [.ref a]) (h₀ := X.base) I.ok.mod.kin hm.kp (thn (ha pos pins s1 σ H1 _ I1 q) fun us s2 ⟨vs, H2, I2, r, q2⟩ => ⟨I2.kIn, ?_⟩) hst hpl
  exact run_fnE (us := .ref a :: us) (vs := .ref a :: vs) F hr hb hd hx I2 (.cons rfl r) q2
theorem pe_methE0 {pl : Sem Bool} (ho : PE X o ta) (c : Cls X.K C) (F : HaveM X.prog X.w X.K X.mg X.base C m k ps dvs sp) (hr : Room k X.A) (hx : XW X Kx)
    (ht : eval (.Call (.Attribute o m apos) [] [] pos) X.env = (do
      let ov ← eval o X.env
      standAt apos.atName
      let (f, first) ← holding [ov] (getMethod ov m pl)
      callWith pos f first (backTo pos (starEach [] X.env)) (backToKw pos (keywordEach [] X.env))) := by rfl) :
    PE X (.Call (.Attribute o m apos) [] [] pos) (tMethE Kx C m sp dvs ta tNil) := by
  obtain ⟨f, fd, ds, hm, hb, hd, F⟩ := F
  intro pins s σ H Q I h
  refine PySem.W.methodCall_KW (pl := pl) (thn (ho pins s σ H _ I h) fun u s1 ⟨x, H1, I1, rx, a, dx, fs, ex, ea, l, q⟩ => ?_) ht
  subst ex
  obtain rfl : u = Value.ref a := rx
  refine getmeth_ok I1 ea c hm l ?_
  exact PySem.W.callWith_K0 (first := [.ref a]) I1.kIn hm.kp (run_fnE (us := [.ref a]) (vs := [.ref a]) F hr hb hd hx I1 (.cons rfl .nil) q)
theorem run_makeE {pins : List (Addr × Obj)} {σ : St} {H : Hp} {s : Shared} {Q : VK} {us : List Value} {vs : List V} (M : Mk X.K C f) (F : FnOk X.prog X.w X.K X.mg X.base (CXe X.prog X.w) k f fd ps sp) (hr : Room (k + 1) X.A) (hb : Binds X.K fd ps ds) (hd : Vals dvs ds)
    (hx : XW X Kx) (I : Inv X pins σ H s) (r : Vals vs us)
    (h : ∀ x dx, H x = none → H dx = none → dx ≠ x → sp (.ref x :: (vs ++ dvs)) (upd (upd H dx (.own x)) x (.ins C dx [])) (fun v H2 => v = .non ∧ Q (.ref x) H2) (fun c _ H' => Kx c σ H')) :
    wpAny (model X.prog X.w) X.A (call (.ref C) us) (EP X pins σ Q) X.xe s := by
  have hq := h (s.heap.objs.size + 1) s.heap.objs.size (I.hok.fresh (Nat.le_succ _)) (I.hok.fresh (Nat.le_refl _)) (Nat.ne_of_lt (Nat.lt_succ_self _))
  have I2 := Inv.made (C := C) I
  have r2 : Vals (V.ref (s.heap.objs.size + 1) :: (vs ++ dvs)) (Value.ref (s.heap.objs.size + 1) :: (us ++ ds)) := .cons rfl (r.append hd)
  have hl : (Value.ref (s.heap.objs.size + 1) :: us ++ ds).length = ps.length := by
    have e := r2.length
    rw [F.len _ _ _ _ hq] at e
    exact e.symm
  refine wpAny_call (make_map (f := f) I.kIn M.makes M.init (beq_iff_eq.mp M.fn) (codeAny_mono (F.run _ X.stack _ _ ⟨Value.ref (s.heap.objs.size + 1) :: us, []⟩ (Value.ref (s.heap.objs.size + 1) :: (us ++ ds)) _ _ _ (hr.make C us [])
    (I2.env0.make C us []) (hb _ (Value.ref (s.heap.objs.size + 1) :: us) I2.kIn hl) r2 hq) fun r s' hq' => ?_))
  cases r with
  | error e =>
    obtain ⟨ea, cls, H', B, rfl, os, bare, un, hok, fly, hK⟩ := hq'
    exact hx pins σ _ _ s' ea cls H' B I2 os bare un hok fly hK
  | ok fl =>
    cases fl with
    | ret u =>
      obtain ⟨v, H', I3, rv, ev, q3⟩ := I2.after hq'
      subst ev
      exact ⟨rv, ⟨V.ref (s.heap.objs.size + 1), H', I3, rfl, q3⟩⟩
    | next => exact False.elim hq'
    | brk => exact False.elim hq'
    | cont => exact False.elim hq'
theorem pe_makeE (F : HaveI X.prog X.w X.K X.mg X.base x C k ps dvs sp) (hr : Room (k + 1) X.A) (hx : XW X Kx) (ha : PA X (e :: es) t) (hg : Gl X x := by rfl) (hdb : (x == ("__debug__" : Str)) = false := by decide)
    (he : starEach (e :: es) X.env = (false, eval e X.env) :: starEach es X.env := by rfl) (hpl : (backTo pos (starEach es X.env)).any (·.1) = false := by rfl) :
    PE X (.Call (.Name x p) (e :: es) [] pos) (tMakeE Kx C sp dvs t) := by
  obtain ⟨f, fd, ds, hm, M, hb, hd, F⟩ := F
  intro pins s σ H Q I h
  refine wpAny_Call_Name_kw (ld_glob I hg hm ?_ hdb)
  refine PySem.W.callWith_K (h₀ := X.base) I.ok.mod.kin M.kp (thn (ha pos pins s σ H _ I h) fun us s1 ⟨vs, H1, I1, r, q⟩ => ⟨I1.kIn, ?_⟩) he hpl
  exact run_makeE M F hr hb hd hx I1 r q
theorem pe_bltnE {n : String} (hg : Gl X x) (hm : X.mg x = none) (hv : bootBuiltins x = some (.type n)) (hn : x ≠ "__name__" := by decide) (hd : (x == ("__debug__" : Str)) = false := by decide) : PE X (.Name x pos) (tC (.ty n)) := pe_bltn hg hm hv rfl hn hd
end
/-! ### a def by its body -/
/-- a def (or method) of the text -/
def Raw (K : PySem.W.Frag) (mg : Str → Option Value) (x qual : Str) (st : Stmt) (ps : List Str) (dvs : List V) : Prop := ∃ f fd ds, mg x = some (.ref f) ∧ Fun K x qual st f fd ∧ Binds K fd ps ds ∧ Vals dvs ds
def RawM (K : PySem.W.Frag) (C : Addr) (m qual : Str) (st : Stmt) (ps : List Str) (dvs : List V) : Prop := ∃ f fd ds, Meth K C m f ∧ Fun K m qual st f fd ∧ Binds K fd ps ds ∧ Vals dvs ds
def RawI (K : PySem.W.Frag) (mg : Str → Option Value) (x : Str) (C : Addr) (qual : Str) (st : Stmt) (ps : List Str) (dvs : List V) : Prop := ∃ f fd ds, mg x = some (.ref C) ∧ Mk K C f ∧ Fun K "__init__" qual st f fd ∧ Binds K fd ps ds ∧ Vals dvs ds
section
variable {P : Program} {w : World} {K : PySem.W.Frag} {mg : Str → Option Value} {base : Heap}
/-- the body's duty -/
def Body (P : Program) (w : World) (K : PySem.W.Frag) (mg : Str → Option Value) (base : Heap) (qual : Str) (st : Stmt) (N : List Str) (k : Nat) (sp : Sp) : Prop :=
  ∀ (f : Addr) (cdv : Value) (A : Around) (outer : List Env) (s : Shared) (H : Hp) (vs : List V) (Q : VK) (E : XK), Room k (A.deeper (envOfC qual (defScope st) s.heap.objs.size f cdv)) → sp vs H Q E →
    ∃ t, PSs (cxOf (CXe P w) P w K mg base N qual (defScope st) f cdv A outer s H E) (defBody st) t ∧ t { nx := fun _ H' => Q .non H', rt := Q } (start N vs) H
theorem Fun.okE {x qual : Str} {st : Stmt} {f : Addr} {fd : FuncData} {N ps : List Str} {k : Nat} {sp : Sp} (F : Fun K x qual st f fd) (S : FnScope N ps (defScope st)) (len : ∀ vs H Q E, sp vs H Q E → vs.length = ps.length)
    (hbody : Body P w K mg base qual st N k sp) : FnOk P w K mg base (CXe P w) (k + 1) f fd ps sp := by
  obtain ⟨oc, od, kV, doc, pm, an, cdv, ct, osl, rfl, lk, hcd⟩ := F.ex
  exact fn_of lk hcd S len fun A outer s H vs Q E hr hsp => hbody f cdv A outer s H vs Q E hr hsp
theorem Raw.have {x qual : Str} {st : Stmt} {N ps : List Str} {dvs : List V} {k : Nat} {sp : Sp} (R : Raw K mg x qual st ps dvs) (S : FnScope N ps (defScope st)) (len : ∀ vs H Q E, sp vs H Q E → vs.length = ps.length)
    (hbody : Body P w K mg base qual st N k sp) : Have P w K mg base x (k + 1) ps dvs sp :=
  let ⟨f, fd, ds, hm, F, hb, hd⟩ := R
  ⟨f, fd, ds, hm, F.kp, hb, hd, F.okE S len hbody⟩
theorem RawM.have {C : Addr} {m qual : Str} {st : Stmt} {N ps : List Str} {dvs : List V} {k : Nat} {sp : Sp} (R : RawM K C m qual st ps dvs) (S : FnScope N ps (defScope st)) (len : ∀ vs H Q E, sp vs H Q E → vs.length = ps.length)
    (hbody : Body P w K mg base qual st N k sp) : HaveM P w K mg base C m (k + 1) ps dvs sp :=
  let ⟨f, fd, ds, hm, F, hb, hd⟩ := R
  ⟨f, fd, ds, hm, hb, hd, F.okE S len hbody⟩
theorem RawI.have {C : Addr} {x qual : Str} {st : Stmt} {N ps : List Str} {dvs : List V} {k : Nat} {sp : Sp} (R : RawI K mg x C qual st ps dvs) (S : FnScope N ps (defScope st)) (len : ∀ vs H Q E, sp vs H Q E → vs.length = ps.length)
    (hbody : Body P w K mg base qual st N k sp) : HaveI P w K mg base x C (k + 1) ps dvs sp :=
  let ⟨f, fd, ds, hm, M, F, hb, hd⟩ := R
  ⟨f, fd, ds, hm, M, hb, hd, F.okE S len hbody⟩
end
end L2
/-! ### exceptions: raised, caught -/
namespace L2
open PySem PySem.Spec PyProof.Rows

end L2
/-! ### kinds of values: isinstance with a built-in class; is True; == at any depth -/
namespace L2
open PySem PySem.Spec PyProof.Rows
/-- the kind of a value, by name ("" where it is not known) -/
def kdO : Option HO → String
  | some (.lst _) => "list"
  | some (.frz _ (.lst _)) => "list"
  | some (.tup _) => "tuple"
  | some (.dK _) => "dict"
  | some (.dT _) => "dict"
  | _ => ""
def kd (H : Hp) : V → String
  | .non => "NoneType"
  | .bl _ => "bool"
  | .int _ => "int"
  | .str _ => "str"
  | .ref a => kdO (H a)
  | _ => ""
def Kn (H : Hp) (x : V) : Prop := kd H x ≠ ""
def isTy (n : String) (H : Hp) (x : V) : Bool := kd H x == n || (kd H x == "bool" && n == "int")
theorem kd_ty {K : PySem.W.Frag} {H : Hp} {x : V} (h : Kn H x) : TyOf K H x (.type (kd H x)) := by
  cases x with
  | non => exact .non
  | bl b => exact .bl b
  | int i => exact .int i
  | str s => exact .str s
  | ref a =>
    have h : kdO (H a) ≠ "" := h
    show TyOf K H (.ref a) (.type (kdO (H a)))
    cases e : H a with
    | none => rw [e] at h; exact absurd rfl h
    | some o =>
      rw [e] at h
      cases o with
      | lst xs => exact .lst e
      | tup xs => exact .tup e
      | dK k => exact .dK e
      | dT k => exact .dT e
      | frz ob u =>
        cases u with
        | lst xs => exact .frz e
        | _ => exact absurd rfl h
      | _ => exact absurd rfl h
  | _ => exact absurd rfl h
theorem kdO_cases (o : Option HO) : kdO o = "" ∨ kdO o = "list" ∨ kdO o = "tuple" ∨ kdO o = "dict" := by
  unfold kdO
  split <;> simp
theorem Kn.cases {H : Hp} {x : V} (h : Kn H x) : kd H x = "NoneType" ∨ kd H x = "bool" ∨ kd H x = "int" ∨ kd H x = "str" ∨ kd H x = "list" ∨ kd H x = "tuple" ∨ kd H x = "dict" := by
  cases x with
  | ref a =>
    have h : kdO (H a) ≠ "" := h
    show kdO (H a) = _ ∨ kdO (H a) = _ ∨ kdO (H a) = _ ∨ kdO (H a) = _ ∨ kdO (H a) = _ ∨ kdO (H a) = _ ∨ kdO (H a) = _
    rcases kdO_cases (H a) with e | e | e | e
    · exact absurd e h
    · exact .inr (.inr (.inr (.inr (.inl e))))
    · exact .inr (.inr (.inr (.inr (.inr (.inl e)))))
    · exact .inr (.inr (.inr (.inr (.inr (.inr e)))))
  | non => exact .inl rfl
  | bl b => exact .inr (.inl rfl)
  | int i => exact .inr (.inr (.inl rfl))
  | str z => exact .inr (.inr (.inr (.inl rfl)))
  | _ => exact absurd rfl h
theorem kit_scal (K : PySem.W.Frag) : ∀ k ∈ ["NoneType", "bool", "int", "str", "list", "tuple", "dict"], ∀ n ∈ ["bool", "int", "str", "list", "tuple", "dict"], PySem.W.kitOne K (.type k) (.type n) = some (k == n || (k == "bool" && n == "int")) := by
  have e : ∀ k ∈ ["NoneType", "bool", "int", "str", "list", "tuple", "dict"], ∀ n ∈ ["bool", "int", "str", "list", "tuple", "dict"], (if (Value.type k == Value.type n) = true then some true else if PySem.W.kitMeta n = true then (fastBuiltinMro k).map (·.contains (.type n)) else none) = some (k == n || (k == "bool" && n == "int")) := by decide +kernel
  exact fun k hk n hn => e k hk n hn
theorem call_isi {X : Cx} : CallR X (.builtin "isinstance") (fun xs H Q => ∃ x n, xs = [x, .ty n] ∧ n ∈ ["bool", "int", "str", "list", "tuple", "dict"] ∧ Kn H x ∧ Q (.bl (isTy n H x)) H) := by
  intro pins s σ H xs us Q I r h
  obtain ⟨x, n, rfl, hn, hk, q⟩ := h
  cases r with
  | cons r1 rr =>
    cases rr with
    | cons r2 rr =>
      cases rr
      cases r2
      refine isinst_ok I r1 (kd_ty hk) (kit_scal X.K _ ?_ n hn) fun tk => ⟨.bl _, H, I.tok tk, rfl, q⟩
      rcases hk.cases with e | e | e | e | e | e | e <;> rw [e] <;> simp
/-- -x -/
theorem op_neg {X : Cx} : UnR X (unaryOp .USub) (rU fun i => .int (-i)) := by
  intro pins s σ H x v Q I rx h
  obtain ⟨i, rfl, q⟩ := h
  obtain ⟨t, rfl⟩ := rx
  exact neg_int ⟨.int _, H, I.tok _, ⟨_, rfl⟩, q⟩
end L2
namespace L2
open PySem PySem.Spec PyProof.Rows
theorem kn_int {H : Hp} {i : Int} : Kn H (.int i) ↔ True := ⟨fun _ => trivial, fun _ => (by decide : "int" ≠ "")⟩
theorem kn_bl {H : Hp} {i : Bool} : Kn H (.bl i) ↔ True := ⟨fun _ => trivial, fun _ => (by decide : "bool" ≠ "")⟩
theorem kn_lst {H : Hp} {a : Addr} {xs : List V} (h : H a = some (.lst xs)) : Kn H (.ref a) := fun z => by
  have z : kdO (H a) = "" := z
  rw [h] at z; exact absurd z (show "list" ≠ "" by decide)
theorem kn_tup {H : Hp} {a : Addr} {xs : List V} (h : H a = some (.tup xs)) : Kn H (.ref a) := fun z => by
  have z : kdO (H a) = "" := z
  rw [h] at z; exact absurd z (show "tuple" ≠ "" by decide)
theorem cxOf_K {CX : CXT} {P : Program} {w : World} {K : PySem.W.Frag} {mg : Str → Option Value} {base : Heap} {N : List Str} {qual : Str} {scope : Scope} {f : Addr} {cd : Value} {A : Around} {outer : List Env} {s : Shared} {H : Hp} {E : XK} :
    (cxOf CX P w K mg base N qual scope f cd A outer s H E).K = K := rfl
/-- whether a value is a whole number and no truth -/
def whole : V → Bool
  | .int _ => true
  | _ => false
def within (x : V) (l h : Int) : Bool := match x with
  | .int i => decide (l ≤ i) && decide (i ≤ h)
  | _ => false
end L2
namespace L2
open PySem PySem.Spec PyProof.Rows
/-! ### a word between two statements; lists that are tracked -/
/-- a mark whose kind names both parts: so they stand still while what is ahead of them is read -/
inductive Hid (t u : TS) : Type where
  | mk : Hid t u
def tCut (t u : TS) (_ : Hid t u) : TS := fun D σ H => ∃ M : St → Hp → Prop, t { D with nx := M } σ H ∧ ∀ σ' H', M σ' H' → u D σ' H'
theorem pss_cut {X : Cx} {st : Stmt} {rest : List Stmt} {t u : TS} (h1 : PS X st t) (h2 : PSs X rest u) : PSs X (st :: rest) (tCut t u .mk) := by
  intro pins s σ H D I h
  obtain ⟨M, h, hM⟩ := h
  refine wpAny_execs_cons (thn (h1 pins s σ H { D with nx := M } I h) fun f s1 q => ?_)
  cases f with
  | next =>
    obtain ⟨σ', H', I', q⟩ := q
    exact h2 pins s1 σ' H' D I' (hM σ' H' q)
  | ret v => exact q
  | brk => exact q
  | cont => exact q
def lstO : Option HO → Option (List V)
  | some (.lst xs) => some xs
  | some (.frz _ (.lst xs)) => some xs
  | _ => none
def tupO : Option HO → Option (List V)
  | some (.tup xs) => some xs
  | some (.frz _ (.tup xs)) => some xs
  | _ => none
theorem lstO_lst {xs : List V} : lstO (some (.lst xs)) = some xs := rfl
theorem tupO_tup {xs : List V} : tupO (some (.tup xs)) = some xs := rfl
theorem scal_ii {i j : Int} : scal (.int i) (.int j) = true := rfl
theorem scal_bb {i j : Bool} : scal (.bl i) (.bl j) = true := rfl
theorem scal_ss {i j : Str} : scal (.str i) (.str j) = true := rfl
theorem na10 : Int.natAbs 10 = 10 := rfl
theorem same_refl {H : Hp} : Same H H := fun _ _ h => h
theorem same_upd {H H' : Hp} {p : Addr} {o : HO} (s : Same H H') (h : H' p = none) : Same H (upd H' p o) := fun b u e => by
  have q := s b u e
  rw [upd_ne (ne_of_none q h)]
  exact q
end L2
namespace L2
open PySem PySem.Spec PyProof.Rows
end L2
namespace L2
open PySem PySem.Spec PyProof.Rows
/-! ### loops, their bodies standing still until a word is said -/
inductive HidF (g : TG) (tb : TS) : Type where
  | mk : HidF g tb
def Loop (g : TG) (tb : TS) (_ : HidF g tb) (J : It) : TS := fun D σ H => ∃ W : Nat → Nat → St → Hp → Prop, (∃ m, W 0 m σ H) ∧ ∀ i m σ H, W i m σ H →
  (J.stop i H ∧ D.nx σ H) ∨ (J.go i H ∧ ∃ N : St → Hp → Prop, (∀ σ' H', N σ' H' → ∃ m', m' < m ∧ W (i + 1) m' σ' H') ∧ ∀ x H', J.yld i H x H' → g x σ H' fun σ2 H2 => tb { D with nx := N, ct := N, bk := D.nx } σ2 H2)
def tForE (wi : TI) (g : TG) (tb : TS) (h : HidF g tb) : TS := fun D σ H => wi σ H fun J H1 => Loop g tb h J D σ H1
theorem ps_forE {X : Cx} {tg iter : Expr} {body : List Stmt} {wi : TI} {g : TG} {tb : TS} {pos : Pos} (hp : PassesOwn (model X.prog X.w) X.A X.env X.xe) (hc : X.calm = true) (hi : PI X tg iter wi) (hg : PG X tg g) (hb : PSs X body tb)
    (hs : ∀ x, foldedSetIterable iter X.env x = pure x := by intro _; rfl) : PS X (.For tg iter body [] pos) (tForE wi g tb .mk) := ps_for hp hc hi hg hb hs
theorem loop_range {lo : Int} {n : Nat} {g : TG} {tb : TS} {h : HidF g tb} {D : Ends} {σ : St} {H : Hp} (Pv : Nat → St → Hp → Prop) (h0 : Pv 0 σ H)
    (hs : ∀ i σ H, i < n → Pv i σ H → g (.int (lo + i)) σ H fun σ2 H2 => tb { D with nx := Pv (i + 1), ct := Pv (i + 1), bk := D.nx } σ2 H2) (hd : ∀ σ H, Pv n σ H → D.nx σ H) : Loop g tb h (Itr lo n) D σ H := for_range Pv h0 hs hd
theorem loop_list {K : PySem.W.Frag} {a : Addr} {xs : List V} {g : TG} {tb : TS} {h : HidF g tb} {D : Ends} {σ : St} {H : Hp} (Pv : Nat → St → Hp → Prop) (h0 : Pv 0 σ H) (hl : ∀ i σ H, i ≤ xs.length → Pv i σ H → SqL K H a xs)
    (hs : ∀ i x σ H, xs[i]? = some x → Pv i σ H → g x σ H fun σ2 H2 => tb { D with nx := Pv (i + 1), ct := Pv (i + 1), bk := D.nx } σ2 H2) (hd : ∀ σ H, Pv xs.length σ H → D.nx σ H) : Loop g tb h (Itl K a) D σ H := for_list Pv h0 hl hs hd
end L2
namespace L2
open PySem PySem.Spec PyProof.Rows
end L2
namespace L2
open PySem PySem.Spec PyProof.Rows
end L2
namespace L2
open PySem PySem.Spec PyProof.Rows
end L2
namespace L2
open PySem PySem.Spec PyProof.Rows
theorem at0 {α : Type} {a : α} {r : List α} : atI (a :: r) 0 = some a := atI_nat (j := 0) rfl
end L2
namespace L2
open PySem PySem.Spec PyProof.Rows
theorem isTy_tup {H : Hp} {a : Addr} {xs : List V} (h : H a = some (.tup xs)) : isTy "tuple" H (.ref a) = true := by
  unfold isTy
  rw [show kd H (.ref a) = kdO (H a) from rfl, h]; rfl
theorem isTy_lst {H : Hp} {a : Addr} {xs : List V} (h : H a = some (.lst xs)) : isTy "list" H (.ref a) = true := by
  unfold isTy
  rw [show kd H (.ref a) = kdO (H a) from rfl, h]; rfl
end L2
namespace L2
open PySem PySem.Spec PyProof.Rows
/-! ### try: .. except X as n: .. -/
section
variable {X : Cx} {pins pins2 : List (Addr × Obj)} {σ : St} {H : Hp} {s : Shared} {E' : Value → Shared → Prop}
end
end L2
/-! ### isinstance of an exception that was caught -/
namespace PySem.W
open PySem PySem.Spec PySem.Calls PyProof.Rows
open Builtin Builtin.ObjectAttr Builtin.Getset_descriptor
/-- a record of this class stands at e -/
def ExcAt (e C : Addr) (h : Heap) : Prop := ∃ o, h.get? e = some o ∧ o.cls = .ref C
section
variable {K : Frag} {e C : Addr}
theorem ExcAt.ty {M : Model} {h : Heap} (p : ExcAt e C h) : Looks M h (typeOf (.ref e)) (.ref C) := by
  obtain ⟨o, h1, h2⟩ := p
  exact h2 ▸ (Looks.ld h1).andThen .now
variable {prog : Program} {w : World} {A : Around} {E : Value → Shared → Prop} {s : Shared}
end
end PySem.W
namespace L2
open PySem PySem.Spec PyProof.Rows
def clsV : V → Value
  | .ref a => .ref a
  | .ty n => .type n
  | _ => .none
theorem clsV_ref {a : Addr} : clsV (.ref a) = .ref a := rfl
theorem clsV_ty {n : String} : clsV (.ty n) = .type n := rfl
end L2
namespace L2
open PySem PySem.Spec PyProof.Rows
/-! ### data seen through the heap; == at any depth -/
/-- data: a flat value, a list (false) or a tuple (true) of data -/
inductive Dv where
  | leaf (v : V)
  | seq (t : Bool) (ds : List Dv)
mutual
def Sees (K : PySem.W.Frag) (H : Hp) : Dv → V → Prop
  | .leaf v, x => x = v ∧ flatV v = true
  | .seq t ds, x => ∃ a xs, x = .ref a ∧ (if t = true then SqT K H a xs else SqL K H a xs) ∧ SeesL K H ds xs
def SeesL (K : PySem.W.Frag) (H : Hp) : List Dv → List V → Prop
  | [], xs => xs = []
  | d :: ds, xs => ∃ x r, xs = x :: r ∧ Sees K H d x ∧ SeesL K H ds r
end
mutual
/-- two data of the same make -/
def alike : Dv → Dv → Bool
  | .leaf _, .leaf _ => true
  | .seq t ds, .seq u es => t == u && alikeL ds es
  | _, _ => false
def alikeL : List Dv → List Dv → Bool
  | d :: ds, e :: es => alike d e && alikeL ds es
  | _, _ => true
end
mutual
def eqDv : Dv → Dv → Bool
  | .leaf v, .leaf w => eqV v w
  | .seq _ ds, .seq _ es => eqDvL ds es
  | _, _ => false
def eqDvL : List Dv → List Dv → Bool
  | [], [] => true
  | d :: ds, e :: es => eqDv d e && eqDvL ds es
  | _, _ => false
end
mutual
def deep : Dv → Nat
  | .leaf _ => 0
  | .seq _ ds => deepL ds + 1
def deepL : List Dv → Nat
  | [] => 0
  | d :: ds => max (deep d) (deepL ds)
end
theorem SeesL.length {K : PySem.W.Frag} {H : Hp} : ∀ {ds : List Dv} {xs : List V}, SeesL K H ds xs → ds.length = xs.length
  | [], xs, h => by unfold SeesL at h; subst h; rfl
  | d :: ds, xs, h => by
    unfold SeesL at h
    obtain ⟨x, r, rfl, _, h⟩ := h
    simp [h.length]
theorem all_range_succ (n : Nat) (f : Nat → Bool) : (List.range (n + 1)).all f = (f 0 && (List.range n).all fun j => f (j + 1)) := by
  rw [List.range_succ_eq_map, List.all_cons, List.all_map]; rfl
theorem eqDvL_eq : ∀ (ds es : List Dv), eqDvL ds es = (decide (ds.length = es.length) && (List.range (min ds.length es.length)).all fun j => eqDv (ds.getD j (.leaf .non)) (es.getD j (.leaf .non)))
  | [], [] => by simp [eqDvL]
  | [], e :: es => by simp [eqDvL]
  | d :: ds, [] => by simp [eqDvL]
  | d :: ds, e :: es => by
    have ih := eqDvL_eq ds es
    rw [eqDvL, ih]
    have hm : min (d :: ds).length (e :: es).length = min ds.length es.length + 1 := by simp [Nat.succ_min_succ]
    rw [hm, all_range_succ]
    simp only [List.length_cons, Nat.add_right_cancel_iff, List.getD_cons_zero, List.getD_cons_succ]
    cases eqDv d e <;> cases decide (ds.length = es.length) <;> simp
theorem eqV_self {v : V} (h : flatV v = true) : eqV v v = true := by
  cases v <;> first | rfl | (simp [eqV]; done) | exact absurd h (by simp [flatV])
mutual
theorem sees_same {X : Cx} {pins : List (Addr × Obj)} {σ : St} {H : Hp} {s : Shared} (I : Inv X pins σ H s) : ∀ (d e : Dv) (x : V), alike d e = true → Sees X.K H d x → Sees X.K H e x → eqDv d e = true
  | .leaf a, .leaf b, x, _, hx, hy => by
    unfold Sees at hx hy
    obtain ⟨rfl, fx⟩ := hx
    obtain ⟨rfl, fy⟩ := hy
    rw [eqDv]
    exact eqV_self fx
  | .leaf a, .seq t es, _, h, _, _ => by simp [alike] at h
  | .seq t ds, .leaf b, _, h, _, _ => by simp [alike] at h
  | .seq t ds, .seq t' es, x, h, hx, hy => by
    rw [alike, Bool.and_eq_true] at h
    have ht := beq_iff_eq.mp h.1
    subst ht
    unfold Sees at hx hy
    obtain ⟨a, xs, rfl, hsx, hL⟩ := hx
    obtain ⟨b, ys, e, hsy, hM⟩ := hy
    cases e
    rw [eqDv]
    have exy : xs = ys := by
      cases t with
      | true => exact I.tuple_inj (by simpa using hsx) (by simpa using hsy)
      | false => exact I.list_inj (by simpa using hsx) (by simpa using hsy)
    subst exy
    exact sees_sameL I ds es xs h.2 hL hM
theorem sees_sameL {X : Cx} {pins : List (Addr × Obj)} {σ : St} {H : Hp} {s : Shared} (I : Inv X pins σ H s) : ∀ (ds es : List Dv) (xs : List V), alikeL ds es = true → SeesL X.K H ds xs → SeesL X.K H es xs → eqDvL ds es = true
  | [], [], _, _, _, _ => by rw [eqDvL]
  | [], e :: es, xs, _, hx, hy => by
    unfold SeesL at hx hy
    obtain ⟨x, r, e1, _⟩ := hy
    rw [hx] at e1; cases e1
  | d :: ds, [], xs, _, hx, hy => by
    unfold SeesL at hx hy
    obtain ⟨x, r, e1, _⟩ := hx
    rw [hy] at e1; cases e1
  | d :: ds, e :: es, xs, h, hx, hy => by
    rw [alikeL, Bool.and_eq_true] at h
    unfold SeesL at hx hy
    obtain ⟨x, r, rfl, hx, hxr⟩ := hx
    obtain ⟨y, r', e1, hy, hyr⟩ := hy
    cases e1
    rw [eqDvL, sees_same I d e x h.1 hx hy, sees_sameL I ds es r h.2 hxr hyr]
    rfl
end
theorem rc_deep {X : Cx} {pins : List (Addr × Obj)} {σ : St} {H : Hp} {s : Shared} (I : Inv X pins σ H s) {A : Around} {t : Bool} {ds es : List Dv} {a b : Addr} {xs ys : List V} (hu : A.units < cLine)
    (hsx : if t = true then SqT X.K H a xs else SqL X.K H a xs) (hsy : if t = true then SqT X.K H b ys else SqL X.K H b ys) (l1 : ds.length = xs.length) (l2 : es.length = ys.length)
    (ih : ∀ (j : Nat) (u v : Value) (us vs : List Value), Vals xs us → Vals ys vs → us[j]? = some u → vs[j]? = some v → SeqAt.EqAt A.in1 s u v (eqDv (ds.getD j (.leaf .non)) (es.getD j (.leaf .non)))) :
    SeqAt.RcAt A s (.ref a) (.ref b) (eqDvL ds es) := by
  rw [eqDvL_eq]
  cases t with
  | false =>
    obtain ⟨its, rv, pl, _⟩ := I.list (show SqL X.K H a xs by simpa using hsx)
    obtain ⟨its2, rv2, pl2, _⟩ := I.list (show SqL X.K H b ys by simpa using hsy)
    have n1 := rv.length
    have n2 := rv2.length
    by_cases hl : ds.length = es.length
    · have q := SeqAt.RcAt.lists (e := fun j => eqDv (ds.getD j (.leaf .non)) (es.getD j (.leaf .non))) pl.isList pl2.isList (by simp; omega) (by omega : A.units < cLine) (fun j h1 h2 => by
        have h1 : j < its.length := by simpa using h1
        have h2 : j < its2.length := by simpa using h2
        have e := ih j (its[j]) (its2[j]) its its2 rv rv2 (by simp [h1]) (by simp [h2])
        simpa using e)
      rw [decide_eq_true hl, Bool.true_and]
      have em : min ds.length es.length = its.toArray.size := by simp; omega
      rw [em]
      exact q
    · have q := SeqAt.RcAt.lists_lengths (A := A) pl.isList pl2.isList (by simp; omega) (by omega : A.units < cLine)
      rw [decide_eq_false hl, Bool.false_and]
      exact q
  | true =>
    obtain ⟨its, rv, pl, _⟩ := I.tuple (show SqT X.K H a xs by simpa using hsx)
    obtain ⟨its2, rv2, pl2, _⟩ := I.tuple (show SqT X.K H b ys by simpa using hsy)
    have n1 := rv.length
    have n2 := rv2.length
    have q := SeqAt.RcAt.tuples (e := fun j => eqDv (ds.getD j (.leaf .non)) (es.getD j (.leaf .non))) (show s.heap.IsTuple a its.toArray from pl) (show s.heap.IsTuple b its2.toArray from pl2) (by omega : A.units < cLine) (fun j h1 h2 => by
        have h1 : j < its.length := by simpa using h1
        have h2 : j < its2.length := by simpa using h2
        have e := ih j (its[j]) (its2[j]) its its2 rv rv2 (by simp [h1]) (by simp [h2])
        simpa using e)
    have em : min its.toArray.size its2.toArray.size = min ds.length es.length := by simp; omega
    have eb : (its.toArray.size == its2.toArray.size) = decide (ds.length = es.length) := by
      rw [Bool.eq_iff_iff]; simp; omega
    rw [em, eb, Bool.and_comm] at q
    exact q
mutual
theorem eqAt_deep {X : Cx} {pins : List (Addr × Obj)} {σ : St} {H : Hp} {s : Shared} (I : Inv X pins σ H s) : ∀ (d e : Dv) (A : Around) (x y : V) (u v : Value), A.units + deep d < cLine → alike d e = true → Sees X.K H d x → Sees X.K H e y → RelV x u → RelV y v → SeqAt.EqAt A s u v (eqDv d e)
  | .leaf a, .leaf b, A, x, y, u, v, _, _, hx, hy, rx, ry => by
    unfold Sees at hx hy
    obtain ⟨rfl, fx⟩ := hx
    obtain ⟨rfl, fy⟩ := hy
    rw [eqDv]
    exact eqAt_V rx ry fx fy
  | .leaf a, .seq t es, A, x, y, u, v, _, h, _, _, _, _ => by simp [alike] at h
  | .seq t ds, .leaf b, A, x, y, u, v, _, h, _, _, _, _ => by simp [alike] at h
  | .seq t ds, .seq t' es, A, x, y, u, v, hu, h, hx, hy, rx, ry => by
    have h0 := h
    rw [alike, Bool.and_eq_true] at h
    have ht := beq_iff_eq.mp h.1
    subst ht
    have hx0 := hx
    have hy0 := hy
    unfold Sees at hx hy
    obtain ⟨a, xs, rfl, hsx, hL⟩ := hx
    obtain ⟨b, ys, rfl, hsy, hM⟩ := hy
    cases rx
    cases ry
    by_cases hab : a = b
    · subst hab
      rw [sees_same I _ _ _ h0 hx0 hy0]
      exact SeqAt.EqAt.same _
    · rw [deep] at hu
      have hu1 : A.in1.units + deepL ds < cLine := by show A.units + 1 + deepL ds < cLine; omega
      have ih := eqAt_deepL I ds es A.in1 xs ys hu1 h.2 hL hM
      rw [eqDv]
      exact SeqAt.EqAt.of_refs hab (rc_deep I (by omega) hsx hsy hL.length hM.length ih)
theorem eqAt_deepL {X : Cx} {pins : List (Addr × Obj)} {σ : St} {H : Hp} {s : Shared} (I : Inv X pins σ H s) : ∀ (ds es : List Dv) (A : Around) (xs ys : List V), A.units + deepL ds < cLine → alikeL ds es = true → SeesL X.K H ds xs → SeesL X.K H es ys →
    ∀ (j : Nat) (u v : Value) (us vs : List Value), Vals xs us → Vals ys vs → us[j]? = some u → vs[j]? = some v → SeqAt.EqAt A s u v (eqDv (ds.getD j (.leaf .non)) (es.getD j (.leaf .non)))
  | [], es, A, xs, ys, _, _, hx, hy, j, u, v, us, vs, rx, ry, e1, e2 => by
    unfold SeesL at hx
    subst hx
    cases rx
    simp at e1
  | d :: ds, [], A, xs, ys, _, _, hx, hy, j, u, v, us, vs, rx, ry, e1, e2 => by
    unfold SeesL at hy
    subst hy
    cases ry
    simp at e2
  | d :: ds, e :: es, A, xs, ys, hu, h, hx, hy, j, u, v, us, vs, rx, ry, e1, e2 => by
    rw [alikeL, Bool.and_eq_true] at h
    rw [deepL] at hu
    unfold SeesL at hx hy
    obtain ⟨x, r, rfl, hx, hxr⟩ := hx
    obtain ⟨y, r', rfl, hy, hyr⟩ := hy
    cases rx with
    | cons p1 p2 =>
      cases ry with
      | cons q1 q2 =>
        cases j with
        | zero =>
          simp at e1 e2
          subst e1 e2
          exact eqAt_deep I d e A x y _ _ (by omega) h.1 hx hy p1 q1
        | succ k =>
          have z := eqAt_deepL I ds es A r r' (by omega) h.2 hxr hyr k u v _ _ p2 q2 (by simpa using e1) (by simpa using e2)
          simpa using z
end
theorem hu6 {A : Around} {k : Nat} (hr : Room k A) : A.units + 4 + 2 < cLine := by have := hr.units; omega
def rNeD (K : PySem.W.Frag) (n : Nat) : R2 := fun x y H Q => ∃ t ds es, Sees K H (.seq t ds) x ∧ Sees K H (.seq t es) y ∧ alikeL ds es = true ∧ deepL ds ≤ n ∧ Q (.bl (!eqDvL ds es)) H
theorem rcNe_deep {X : Cx} {pins : List (Addr × Obj)} {σ : St} {H : Hp} {s : Shared} (I : Inv X pins σ H s) {A : Around} {t : Bool} {ds es : List Dv} {a b : Addr} {xs ys : List V} (hu : A.units < cLine)
    (hsx : if t = true then SqT X.K H a xs else SqL X.K H a xs) (hsy : if t = true then SqT X.K H b ys else SqL X.K H b ys) (l1 : ds.length = xs.length) (l2 : es.length = ys.length)
    (ih : ∀ (j : Nat) (u v : Value) (us vs : List Value), Vals xs us → Vals ys vs → us[j]? = some u → vs[j]? = some v → SeqAt.EqAt A.in1 s u v (eqDv (ds.getD j (.leaf .non)) (es.getD j (.leaf .non)))) :
    SeqAt.RcNeAt A s (.ref a) (.ref b) (!eqDvL ds es) := by
  rw [eqDvL_eq]
  cases t with
  | false =>
    obtain ⟨its, rv, pl, _⟩ := I.list (show SqL X.K H a xs by simpa using hsx)
    obtain ⟨its2, rv2, pl2, _⟩ := I.list (show SqL X.K H b ys by simpa using hsy)
    have n1 := rv.length
    have n2 := rv2.length
    by_cases hl : ds.length = es.length
    · have q := SeqAt.RcNeAt.lists (e := fun j => eqDv (ds.getD j (.leaf .non)) (es.getD j (.leaf .non))) pl.isList pl2.isList (by simp; omega) (by omega : A.units < cLine) (fun j h1 h2 => by
        have h1 : j < its.length := by simpa using h1
        have h2 : j < its2.length := by simpa using h2
        have e := ih j (its[j]) (its2[j]) its its2 rv rv2 (by simp [h1]) (by simp [h2])
        simpa using e)
      rw [decide_eq_true hl, Bool.true_and]
      have em : min ds.length es.length = its.toArray.size := by simp; omega
      rw [em]
      exact q
    · have q := SeqAt.RcNeAt.lists_lengths (A := A) pl.isList pl2.isList (by simp; omega) (by omega : A.units < cLine)
      rw [decide_eq_false hl, Bool.false_and]
      exact q
  | true =>
    obtain ⟨its, rv, pl, _⟩ := I.tuple (show SqT X.K H a xs by simpa using hsx)
    obtain ⟨its2, rv2, pl2, _⟩ := I.tuple (show SqT X.K H b ys by simpa using hsy)
    have n1 := rv.length
    have n2 := rv2.length
    have q := SeqAt.RcNeAt.tuples (e := fun j => eqDv (ds.getD j (.leaf .non)) (es.getD j (.leaf .non))) (show s.heap.IsTuple a its.toArray from pl) (show s.heap.IsTuple b its2.toArray from pl2) (by omega : A.units < cLine) (fun j h1 h2 => by
        have h1 : j < its.length := by simpa using h1
        have h2 : j < its2.length := by simpa using h2
        have e := ih j (its[j]) (its2[j]) its its2 rv rv2 (by simp [h1]) (by simp [h2])
        simpa using e)
    have em : min its.toArray.size its2.toArray.size = min ds.length es.length := by simp; omega
    have eb : (its.toArray.size == its2.toArray.size) = decide (ds.length = es.length) := by
      rw [Bool.eq_iff_iff]; simp; omega
    rw [em, eb, Bool.and_comm] at q
    exact q
theorem op_neD {X : Cx} {n : Nat} (hu : X.A.units + n + 2 < cLine) : OpR X (compareOp .NotEq) (rNeD X.K n) := by
  intro pins s σ H x y v u Q I rx ry h
  obtain ⟨t, ds, es, hx, hy, ha, hd, q⟩ := h
  unfold Sees at hx hy
  obtain ⟨a, xs, rfl, hsx, hL⟩ := hx
  obtain ⟨b, ys, rfl, hsy, hM⟩ := hy
  cases rx
  cases ry
  exact rcNe_deep I (by omega) hsx hsy hL.length hM.length (eqAt_deepL I ds es X.A.in1 xs ys (by show X.A.units + 1 + deepL ds < cLine; omega) ha hL hM) X.prog X.w X.xe _ ⟨.bl _, H, I, rfl, q⟩
end L2
namespace L2
open PySem PySem.Spec PyProof.Rows
/-! ### list comprehensions -/
/-- what a comprehension's scope must be, over the env that it stands in; x: its name, fs: the names that it takes from around -/
def compChk (sc : Scope) (env : Env) (x : Str) (fs : List Str) : Bool :=
  sc.kind == .function && sc.names.all (fun y => y.2 != .cell && (y.2 != .local || sc.names.lookup y.1 == some .local) && (y.2 != .free || env.kindOf y.1 == some .cell || env.kindOf y.1 == some .free)) &&
    sc.names.lookup x == some .local && fs.all (fun f => sc.names.lookup f == some .free)
structure CompSc (sc : Scope) (env : Env) (x : Str) (fs : List Str) : Prop where
  kind : sc.kind = .function
  nocell : ∀ y ∈ sc.names, y.2 ≠ .cell
  own : ∀ y ∈ sc.names, y.2 = .local → sc.names.lookup y.1 = some .local
  fr : ∀ y ∈ sc.names, y.2 = .free → env.kindOf y.1 = some .cell ∨ env.kindOf y.1 = some .free
  x : sc.names.lookup x = some .local
  fs : ∀ f ∈ fs, sc.names.lookup f = some .free
theorem CompSc.of {sc : Scope} {env : Env} {x : Str} {fs : List Str} (h : compChk sc env x fs = true) : CompSc sc env x fs := by
  unfold compChk at h
  simp only [Bool.and_eq_true, beq_iff_eq, List.all_eq_true, Bool.or_eq_true, bne_iff_ne, ne_eq] at h
  obtain ⟨⟨⟨h1, h2⟩, h3⟩, h4⟩ := h
  refine ⟨h1, fun y hy => (h2 y hy).1.1, fun y hy e => ?_, fun y hy e => ?_, h3, h4⟩
  · rcases (h2 y hy).1.2 with z | z
    · exact absurd e z
    · exact z
  · rcases (h2 y hy).2 with (z | z) | z
    · exact absurd e z
    · exact .inl z
    · exact .inr z
theorem closure_ex {env : Env} : ∀ (names : List (Str × NameKind)) (acc : List (Str × Addr)), (∀ n, (n, NameKind.free) ∈ names → ∃ c, env.cells.lookup n = some c) →
    ∃ cl, (forIn names acc fun y r => (do if (y.2 == NameKind.free) = true then do let c ← cellOf env y.1; pure (ForInStep.yield ((y.1, c) :: r)) else pure (ForInStep.yield r) : Sem (ForInStep (List (Str × Addr))))) = pure cl ∧
      (∀ n c, cl.lookup n = some c → acc.lookup n = some c ∨ env.cells.lookup n = some c) ∧ ∀ n, (∃ c, acc.lookup n = some c) ∨ (n, NameKind.free) ∈ names → ∃ c, cl.lookup n = some c
  | [], acc, _ => ⟨acc, rfl, fun _ _ e => .inl e, fun n h => h.elim id fun z => nomatch z⟩
  | (n, k) :: r, acc, h => by
    have hr : ∀ m, (m, NameKind.free) ∈ r → ∃ c, env.cells.lookup m = some c := fun m hm => h m (List.mem_cons_of_mem _ hm)
    by_cases hk : k = .free
    · subst hk
      obtain ⟨c, hc⟩ := h n List.mem_cons_self
      obtain ⟨cl, e, h1, h2⟩ := closure_ex r ((n, c) :: acc) hr
      refine ⟨cl, ?_, fun m c' hm => ?_, fun m hm => h2 m ?_⟩
      · rw [List.forIn_cons]
        simp only [beq_self_eq_true, if_true, cellOf, hc, pure_bind]
        exact e
      · rcases h1 m c' hm with z | z
        · rw [List.lookup_cons] at z
          cases q : m == n with
          | true =>
            rw [q] at z
            cases z
            rw [beq_iff_eq.mp q]
            exact .inr hc
          | false => rw [q] at z; exact .inl z
        · exact .inr z
      · rw [List.lookup_cons]
        rcases hm with ⟨c', z⟩ | hm
        · cases q : m == n with
          | true => exact .inl ⟨c, rfl⟩
          | false => exact .inl ⟨c', z⟩
        · rcases List.mem_cons.mp hm with z | z
          · cases z
            rw [beq_self_eq_true]
            exact .inl ⟨c, rfl⟩
          · exact .inr z
    · obtain ⟨cl, e, h1, h2⟩ := closure_ex r acc hr
      refine ⟨cl, ?_, h1, fun m hm => h2 m ?_⟩
      · rw [List.forIn_cons]
        have hb : (k == NameKind.free) = false := by simpa using hk
        simp only [hb, Bool.false_eq_true, if_false, pure_bind]
        exact e
      · rcases hm with z | hm
        · exact .inl z
        · rcases List.mem_cons.mp hm with z | z
          · cases z; exact absurd rfl hk
          · exact .inr z
theorem closure_of {env : Env} {sc : Scope} (h : ∀ n, (n, NameKind.free) ∈ sc.names → ∃ c, env.cells.lookup n = some c) :
    ∃ cl, closureFor sc env = pure cl ∧ (∀ n c, cl.lookup n = some c → env.cells.lookup n = some c) ∧ ∀ n, (n, NameKind.free) ∈ sc.names → ∃ c, cl.lookup n = some c := by
  obtain ⟨cl, e, h1, h2⟩ := closure_ex sc.names [] h
  refine ⟨cl, ?_, fun n c z => (h1 n c z).elim (fun q => nomatch q) id, fun n hn => h2 n (.inr hn)⟩
  unfold closureFor
  simp only [bind_pure]
  exact e
theorem relabel_kind {env : Env} : ∀ {names : List (Str × NameKind)} {x : Str} {k : NameKind}, (names.map fun (n, k) => if (k == NameKind.free && env.scope.kind == .function && env.kindOf n == some .cell) then (n, NameKind.cell) else (n, k)).lookup x = some k →
    k = .cell ∨ k = .free → names.lookup x = some .free ∨ names.lookup x = some .cell
  | [], _, _, h, _ => by simp at h
  | (n, k0) :: r, x, k, h, hk => by
    have ih := @relabel_kind env r x k
    have h : List.lookup x ((if (k0 == NameKind.free && env.scope.kind == .function && env.kindOf n == some .cell) = true then (n, NameKind.cell) else (n, k0)) :: (r.map fun (n, k) => if (k == NameKind.free && env.scope.kind == .function && env.kindOf n == some .cell) then (n, NameKind.cell) else (n, k))) = some k := h
    by_cases hc : (k0 == NameKind.free && env.scope.kind == .function && env.kindOf n == some .cell) = true
    · rw [if_pos hc] at h
      simp only [List.lookup_cons] at h ⊢
      cases hx : x == n with
      | true =>
        simp only [Bool.and_eq_true, beq_iff_eq] at hc
        rw [hc.1.1]
        exact .inl rfl
      | false => rw [hx] at h; exact ih h hk
    · rw [if_neg hc] at h
      simp only [List.lookup_cons] at h ⊢
      cases hx : x == n with
      | true =>
        rw [hx] at h
        cases h
        rcases hk with rfl | rfl
        · exact .inr rfl
        · exact .inl rfl
      | false => rw [hx] at h; exact ih h hk
theorem relabel_free {env : Env} : ∀ {names : List (Str × NameKind)} {x : Str}, names.lookup x = some .free →
    (names.map fun (n, k) => if (k == NameKind.free && env.scope.kind == .function && env.kindOf n == some .cell) then (n, NameKind.cell) else (n, k)).lookup x = some .cell ∨ (names.map fun (n, k) => if (k == NameKind.free && env.scope.kind == .function && env.kindOf n == some .cell) then (n, NameKind.cell) else (n, k)).lookup x = some .free
  | [], _, h => by simp at h
  | (n, k0) :: r, x, h => by
    have ih := @relabel_free env r x
    show List.lookup x ((if (k0 == NameKind.free && env.scope.kind == .function && env.kindOf n == some .cell) = true then (n, NameKind.cell) else (n, k0)) :: _) = _ ∨ List.lookup x ((if (k0 == NameKind.free && env.scope.kind == .function && env.kindOf n == some .cell) = true then (n, NameKind.cell) else (n, k0)) :: _) = _
    simp only [List.lookup_cons] at h
    by_cases hc : (k0 == NameKind.free && env.scope.kind == .function && env.kindOf n == some .cell) = true
    · rw [if_pos hc]
      simp only [List.lookup_cons]
      cases hx : x == n with
      | true => exact .inl rfl
      | false => rw [hx] at h; exact ih h
    · rw [if_neg hc]
      simp only [List.lookup_cons]
      cases hx : x == n with
      | true => rw [hx] at h; exact .inr h
      | false => rw [hx] at h; exact ih h
/-- the block's context -/
def cxComp (X : Cx) (scope : Scope) (cl : List (Str × Addr)) (C : Addr) (N : List Str) (s₀ : Shared) (H₀ : Hp) (fp : List Addr) (xe : Value → Shared → Prop) : Cx :=
  { X with N := N, s₀ := s₀, H₀ := H₀, env := compEnvC scope cl C X.env, outer := X.stack, stack := X.stack, ex := fp, fn := fun _ => false, pn := [], xe := xe }
inductive HidC (g : TG) (tt : TT) (te : TE) : Type where
  | mk : HidC g tt te
/-- the tests of a clause: none, or one -/
def PF (X : Cx) (ifs : List Expr) (tt : TT) : Prop :=
  ∀ (pins : List (Addr × Obj)) (s : Shared) (σ : St) (H : Hp) (Q : Bool → Hp → Prop), Inv X pins σ H s → tt σ H Q →
    wpAny (model X.prog X.w) X.A (forIn ifs true fun c r => if r = true then do let ok ← isTrue c X.env (eval c X.env); pure (ForInStep.yield ok) else pure (ForInStep.yield r)) (TP X pins σ Q) X.xe s
def tYes : TT := fun _ H Q => Q true H
theorem pf_nil {X : Cx} : PF X [] tYes := fun _ _ _ H _ I h => by
  simp only [List.forIn_nil]
  exact wpAny_pure ⟨H, I, h⟩
/-- the reading of the block: D is the new list -/
def Comp (g : TG) (tt : TT) (te : TE) (_ : HidC g tt te) (J : It) (σ0 : St) (D : Addr) (Q : Hp → Prop) (H : Hp) : Prop :=
  ∃ W : Nat → Nat → List V → St → Hp → Prop, (∃ m, W 0 m [] σ0 (upd H D (.lst []))) ∧ ∀ i m ys σ H, W i m ys σ H →
    (J.stop i H ∧ Q H) ∨ (J.go i H ∧ ∃ N : List V → St → Hp → Prop, (∀ ys σ H, N ys σ H → ∃ m', m' < m ∧ W (i + 1) m' ys σ H) ∧
      ∀ y H', J.yld i H y H' → g y σ H' fun σ2 H2 => tt σ2 H2 fun b H2' => if b = true then te σ2 H2' fun v H3 => H3 D = some (.lst ys) ∧ ys.length < sizeLine ∧ N (ys ++ [v]) σ2 (upd H3 D (.lst (ys ++ [v]))) else N ys σ2 H2')
def tComp (wi : TI) (ix : List Nat) (g : TG) (tt : TT) (te : TE) (h : HidC g tt te) : TE := fun σ H Q => wi σ H fun J H1 => ∀ D, H1 D = none → Comp g tt te h J (none :: ix.map fun i => (σ[i]?).join) D (fun H' => Q (.ref D) H') H1
theorem comp_range {lo : Int} {n : Nat} {g : TG} {tt : TT} {te : TE} {h : HidC g tt te} {σ0 : St} {D : Addr} {Q : Hp → Prop} {H : Hp} (Pv : Nat → List V → St → Hp → Prop) (h0 : Pv 0 [] σ0 (upd H D (.lst [])))
    (hs : ∀ i ys σ H, i < n → Pv i ys σ H → g (.int (lo + i)) σ H fun σ2 H2 => tt σ2 H2 fun b H2' => if b = true then te σ2 H2' fun v H3 => H3 D = some (.lst ys) ∧ ys.length < sizeLine ∧ Pv (i + 1) (ys ++ [v]) σ2 (upd H3 D (.lst (ys ++ [v]))) else Pv (i + 1) ys σ2 H2') (hd : ∀ ys σ H, Pv n ys σ H → Q H) :
    Comp g tt te h (Itr lo n) σ0 D Q H := by
  refine ⟨fun i m ys σ H => i + m = n ∧ Pv i ys σ H, ⟨n, Nat.zero_add n, h0⟩, fun i m ys σ H ⟨e, p⟩ => ?_⟩
  by_cases hi : i < n
  · refine .inr ⟨hi, Pv (i + 1), fun ys σ H q => ⟨m - 1, by omega, by omega, q⟩, ?_⟩
    rintro y H' ⟨rfl, rfl⟩
    exact hs i ys σ H' hi p
  · have e' : i = n := by omega
    subst e'
    exact .inl ⟨Nat.le_refl _, hd ys σ H p⟩
theorem comp_list {K : PySem.W.Frag} {a : Addr} {xs : List V} {g : TG} {tt : TT} {te : TE} {h : HidC g tt te} {σ0 : St} {D : Addr} {Q : Hp → Prop} {H : Hp} (Pv : Nat → List V → St → Hp → Prop) (h0 : Pv 0 [] σ0 (upd H D (.lst []))) (hl : ∀ i ys σ H, i ≤ xs.length → Pv i ys σ H → SqL K H a xs)
    (hs : ∀ i x ys σ H, xs[i]? = some x → Pv i ys σ H → g x σ H fun σ2 H2 => tt σ2 H2 fun b H2' => if b = true then te σ2 H2' fun v H3 => H3 D = some (.lst ys) ∧ ys.length < sizeLine ∧ Pv (i + 1) (ys ++ [v]) σ2 (upd H3 D (.lst (ys ++ [v]))) else Pv (i + 1) ys σ2 H2') (hd : ∀ ys σ H, Pv xs.length ys σ H → Q H) :
    Comp g tt te h (Itl K a) σ0 D Q H := by
  refine ⟨fun i m ys σ H => i + m = xs.length ∧ Pv i ys σ H, ⟨xs.length, Nat.zero_add _, h0⟩, fun i m ys σ H ⟨e, p⟩ => ?_⟩
  have hq := hl i ys σ H (by omega) p
  by_cases hi : i < xs.length
  · have ex : xs[i]? = some xs[i] := List.getElem?_eq_getElem hi
    refine .inr ⟨⟨xs, _, hq, ex⟩, Pv (i + 1), fun ys σ H q => ⟨m - 1, by omega, by omega, q⟩, ?_⟩
    rintro y H' ⟨rfl, hy⟩
    exact hs i y ys σ H' (hy xs hq) p
  · have e' : i = xs.length := by omega
    subst e'
    exact .inl ⟨⟨xs, hq, Nat.le_refl _⟩, hd ys σ H p⟩
/-- one turn of the block, whatever the target is -/
theorem compLoop_turn {prog : Program} {w : World} {A : Around} {R : Result → Shared → Prop} {s : Shared} {elt target iter : Expr} {ifs : List Expr} {scope : Scope} {pos : Pos} {it acc : Value} {env : Env} (I : Nat → Shared → Prop)
    (turn : ∀ n s, I n s → wpAny (model prog w) A (pyNext it) (fun r s₁ => match r with
      | none => R (.ok .next) s₁
      | some v => wpAny (model prog w) A (letOwnedTupleGo target it v) (fun _ s₁' => wpAny (model prog w) A (assign target env v) (fun _ s₂ =>
          wpAny (model prog w) A (forIn ifs true fun c r => if r = true then do let ok ← isTrue c env (eval c env); pure (ForInStep.yield ok) else pure (ForInStep.yield r)) (fun ok s₃ =>
            if ok = true then wpAny (model prog w) A (eval elt env) (fun x s₄ =>
              wpAny (model prog w) A (call (.builtin "list.append") [acc, x]) (fun _ s₅ => ∃ m, m < n ∧ I m s₅) (notedBy (model prog w) A env fun e s' => R (.error e) s') s₄) (notedBy (model prog w) A env fun e s' => R (.error e) s') s₃
            else ∃ m, m < n ∧ I m s₃) (notedBy (model prog w) A env fun e s' => R (.error e) s') s₂) (notedBy (model prog w) A env fun e s' => R (.error e) s') s₁') (notedBy (model prog w) A env fun e s' => R (.error e) s') s₁) (notedBy (model prog w) A env fun e s' => R (.error e) s') s)
    (n : Nat) (h : I n s) : codeAny (model prog w) A (.compLoop (.ListComp elt [⟨target, iter, ifs, 0⟩] scope pos) 0 it acc env) R s := by
  refine codeAny_loop rfl I (fun n s hI => ?_) n h
  show wpAny _ _ ((compTurn (.ListComp elt [⟨target, iter, ifs, 0⟩] scope pos) 0 it acc env).onRaise (fun x => do noteFrame x env; theTreesLotGoes x)) _ _ s
  refine wpAny_noted ?_
  rw [compTurn_list]
  refine wpAny_bind (wpAny_standAt (wpAny_bind (wpAny_mono (turn n s hI) (fun r s₁ h₁ => ?_) fun _ _ h' => h')))
  cases r with
  | none => exact wpAny_pure h₁
  | some v =>
    refine wpAny_bind (wpAny_mono h₁ (fun _ s₁' h₁' => ?_) fun _ _ h' => h')
    refine wpAny_bind (wpAny_mono h₁' (fun _ s₂ h₂ => wpAny_bind (wpAny_mono h₂ (fun ok s₃ h₃ => ?_) fun _ _ h' => h')) fun _ _ h' => h')
    cases ok with
    | false => exact wpAny_pure ⟨rfl, h₃⟩
    | true =>
      exact wpAny_bind (wpAny_bind (wpAny_mono h₃ (fun x s₄ h₄ => wpAny_bind (wpAny_mono h₄ (fun _ s₅ h₅ => wpAny_pure (wpAny_pure ⟨rfl, h₅⟩)) fun _ _ h' => h')) fun _ _ h' => h'))
section
variable {X : Cx}
theorem comp_block {pins : List (Addr × Obj)} {σ : St} {H2 : Hp} {s2 : Shared} {it : Addr} {fp : List Addr} {tn : Nat → Heap → Prop} {J : It} {tg iter elt : Expr} {ifs : List Expr} {scope : Scope} {cl : List (Str × Addr)} {pos : Pos} {x : Str} {fs : List Str} {ix : List Nat} {g : TG} {tt : TT} {te : TE}
    {Qf : Addr → Hp → Prop} {E : Value → Shared → Prop} {RR : Value → Addr → Result → Shared → Prop}
    (I2 : Inv X pins σ H2 s2) (T : Turn X.prog X.w X.K tg J fp it tn) (st2 : tn 0 s2.heap) (f2 : ∀ b ∈ fp, FpOk X pins H2 b) (hc : X.calm = true) (S : CompSc scope X.env x fs)
    (c1 : ∀ n c, cl.lookup n = some c → X.env.cells.lookup n = some c) (c2 : ∀ n, (n, NameKind.free) ∈ scope.names → ∃ c, cl.lookup n = some c) (hix : ix.map (X.N[·]?) = fs.map some)
    (hg : ∀ C s₀ H₀ xe, PG (cxComp X scope cl C (x :: fs) s₀ H₀ fp xe) tg g) (hf : ∀ C s₀ H₀ xe, PF (cxComp X scope cl C (x :: fs) s₀ H₀ fp xe) ifs tt) (he : ∀ C s₀ H₀ xe, PE (cxComp X scope cl C (x :: fs) s₀ H₀ fp xe) elt te)
    (h : ∀ D, H2 D = none → Comp g tt te .mk J (none :: ix.map fun i => (σ[i]?).join) D (Qf D) H2)
    (fin : ∀ D C H' s', Inv X pins σ H' s' → Qf D H' → (∃ m, s'.heap.Ns C m) → FpOk X pins H' C → RR (.ref D) C (.ok .next) s') :
    wpAny (model X.prog X.w) X.A (newList []) (fun acc s₃ => wpAny (model X.prog X.w) X.A (newFunctionEnv scope X.env.globals cl [] X.env.qual none .none (some X.env)) (fun cenv s₄ =>
      codeAny (model X.prog X.w) X.A (.compStart (.ListComp elt [⟨tg, iter, ifs, 0⟩] scope pos) 0 (.ref it) acc { cenv with scope := relabel scope X.env }) (RR acc cenv.locals) s₄) E s₃) E s2 := by
  have hD : H2 s2.heap.objs.size = none := I2.hok.fresh (Nat.le_refl _)
  obtain ⟨W, ⟨m0, w0⟩, turn⟩ := h _ hD
  refine wpAny_newObj_type (wpAny_newFunctionEnv S.nocell (by intro y hy; simp at hy) (fun h₁ hns₁ hsb₁ => ?_) S.kind)
  have I3 : Inv X pins σ (upd H2 s2.heap.objs.size (.lst [])) { s2 with heap := s2.heap.push { cls := .type "list", dict := none, data := .seq ([] : List Value).toArray } } :=
    I2.laid (t' := s2.toks) (fun b u e => Heap.get?_push_of_some _ e) (Nat.le_refl _) ⟨by decide, [], 0, .nil, Heap.get?_push_size _ rfl⟩
  obtain ⟨e3, he3⟩ : ∃ s3 : Shared, s3 = { s2 with heap := s2.heap.push { cls := .type "list", dict := none, data := .seq ([] : List Value).toArray } } := ⟨_, rfl⟩
  rw [← he3] at I3
  have hh3 : s2.heap.push { cls := .type "list", dict := none, data := .seq ([] : List Value).toArray } = e3.heap := by rw [he3]
  have sz3 : e3.heap.objs.size = s2.heap.objs.size + 1 := by rw [← hh3, Heap.size_push]
  dsimp only at hns₁ hsb₁ ⊢
  rw [hh3] at hns₁ hsb₁ ⊢
  generalize hH3 : upd H2 s2.heap.objs.size (.lst []) = H3 at *
  -- the iterator's objects: older than the list
  have live : ∀ b ∈ fp, b < s2.heap.objs.size := fun b hb => let ⟨_, e, _⟩ := T.obj _ _ st2 b hb; Heap.lt_size e
  have f3 : ∀ b ∈ fp, FpOk X pins H3 b := fun b hb => by
    refine ⟨?_, (f2 b hb).2⟩
    rw [← hH3, upd_ne (Nat.ne_of_lt (live b hb))]
    exact (f2 b hb).1
  have C0 : FpOk X pins H3 e3.heap.objs.size := I3.fpOk (Nat.le_refl _) (I3.hok.fresh (Nat.le_refl _))
  have old3 : ∀ b o, e3.heap.get? b = some o → h₁.get? b = some o := fun b o e => hsb₁.extBut b o (Nat.ne_of_lt (Heap.lt_size e)) (Heap.get?_push_of_some _ e)
  have nofs : ∀ b ∈ fp, b ∉ frs X.stack := fun b hb z => (List.mem_cons.mp (I3.stkSub b z)).elim (f3 b hb).2.1 (f3 b hb).2.2.1
  have hst1 : tn 0 h₁ := T.keep _ _ _ st2 fun b _ o e => old3 b o (by rw [← hh3]; exact Heap.get?_push_of_some _ e)
  have e0 := I3.env0
  have ok : ∀ xe, (cxComp X scope cl e3.heap.objs.size (x :: fs) e3 H3 fp xe).Ok := fun xe => by
    refine ⟨I3.ok.mod, S.kind, I3.ok.glob, I3.ok.blt, Nat.le_refl _, fun y z c h1 h2 => I3.ok.inj y z c (c1 _ _ h1) (c1 _ _ h2), fun y hy => ?_, fun y c z => ?_, I3.ok.hd, I3.ok.frames, .inl rfl, fun b hb => ⟨?_, fun y c e => (f3 b hb).2.2.2.2.1 y c (c1 _ _ e)⟩, e0.bs, e0.bsz, fun b o e hb => ?_, nofs, e0.funs, e0.frf⟩
    · have q : scope.names.lookup y = some .free ∨ scope.names.lookup y = some .cell := by
        rcases hy with hy | hy
        · exact relabel_kind hy (.inl rfl)
        · exact relabel_kind hy (.inr rfl)
      rcases q with q | q
      · exact c2 y (PySem.mem_of_lookup q)
      · exact absurd rfl (S.nocell _ (PySem.mem_of_lookup q))
    · cases z
    · exact Nat.ne_of_lt (Nat.lt_of_lt_of_le (live b hb) (by rw [sz3]; exact Nat.le_succ _))
    · rcases (f3 b hb).2.2.2.1 with z | z
      · exact I3.ok.noex b o e z
      · exact absurd (Nat.lt_of_lt_of_le (Heap.lt_size e) (Nat.le_trans I3.ok.bsz z)) (Nat.lt_irrefl _)
  have cellUp : ∀ c v, e3.heap.IsCell c v → h₁.IsCell c v := fun c v ⟨o, ho, hd⟩ => ⟨o, old3 _ _ ho, hd⟩
  have J0 : ∀ xe, Inv (cxComp X scope cl e3.heap.objs.size (x :: fs) e3 H3 fp xe) [] (none :: ix.map fun i => (σ[i]?).join) H3 { e3 with heap := h₁, toks := e3.toks + ([] : List (Str × Value)).length } := fun xe => by
    have hk : ∀ b o, e3.heap.get? b = some o → h₁.get? b = some o := old3
    refine ⟨ok xe, rfl, I3.bare, Un.kept hk, ⟨_, hns₁, fun i y v h1 h2 h3 => ?_⟩, fun y c e => ?_, I3.hok.fresh (Nat.le_refl _), fun y c e => I3.freeC y c (c1 _ _ e), fun p hp => absurd (show p ∈ ([] : List (Addr × Obj)) from hp) (by simp), I3.hok.kept hk, ?_⟩
    · cases i with
      | zero => cases h2
      | succ i =>
        have h1 : fs[i]? = some y := h1
        have h2 : (ix.map fun i => (σ[i]?).join)[i]? = some (some v) := h2
        have hy := S.fs y (List.mem_of_getElem? h1)
        rw [List.getElem?_map] at h2
        cases ej : ix[i]? with
        | none => rw [ej] at h2; cases h2
        | some j =>
          rw [ej] at h2
          have h2 : (σ[j]?).join = some v := Option.some.inj h2
          have hσ : σ[j]? = some (some v) := by
            cases q : σ[j]? with
            | none => rw [q] at h2; cases h2
            | some o => rw [q] at h2; cases o with
              | none => cases h2
              | some o => cases h2; rfl
          have hN : X.N[j]? = some y := by
            have z := congrArg (·[i]?) hix
            simp only [List.getElem?_map, ej, h1, Option.map_some] at z
            exact Option.some.inj z
          have kf := S.fr _ (PySem.mem_of_lookup hy) rfl
          obtain ⟨m, hn, hl⟩ := I3.loc
          obtain ⟨u, r, l⟩ := hl j y v hN hσ (by rcases kf with k | k; exact .inr (.inl k); exact .inr (.inr k))
          refine ⟨u, r, .inr ⟨relabel_free hy, ?_⟩⟩
          rcases l with ⟨l, _⟩ | ⟨_, c, e, z⟩
          · rcases kf with k | k <;> (rw [l] at k; cases k)
          · obtain ⟨c', e'⟩ := c2 y (PySem.mem_of_lookup hy)
            have q := c1 _ _ e'
            rw [e] at q; cases q
            exact ⟨c, e', cellUp _ _ z⟩
    · obtain ⟨v, z⟩ := I3.cell y c (c1 _ _ e)
      exact ⟨v, cellUp _ _ z⟩
    · have z := congrArg List.length hix
      simp only [List.length_map] at z
      show (none :: _ : St).length = (x :: fs).length
      simp only [List.length_cons, List.length_map, z]
  have back : ∀ {xe σ' H' s'}, Inv (cxComp X scope cl e3.heap.objs.size (x :: fs) e3 H3 fp xe) [] σ' H' s' → Inv X pins σ H' s' := fun {xe σ' H' s'} J =>
    I3.call' (s' := s') (ch := fp) J.os J.base J.hok J.bare fun b hb => ⟨(f3 b hb).2.2.2.1, (f3 b hb).2.1, (f3 b hb).2.2.2.2.1, (f3 b hb).2.2.2.2.2⟩
  have stat : ∀ {xe} {H' : Hp}, (∀ b ∈ fp, H' b = none) → ∀ b ∈ fp, FpOk (cxComp X scope cl e3.heap.objs.size (x :: fs) e3 H3 fp xe) [] H' b := fun {xe H'} hn b hb =>
    ⟨hn b hb, Nat.ne_of_lt (Nat.lt_of_lt_of_le (live b hb) (by rw [sz3]; exact Nat.le_succ _)), nofs b hb, .inl hb, fun y c e => (f3 b hb).2.2.2.2.1 y c (c1 _ _ e), fun p hp => absurd (show p ∈ ([] : List (Addr × Obj)) from hp) (by simp)⟩
  have loop : ∀ s4 : Shared, s4 = { e3 with heap := h₁, toks := e3.toks + ([] : List (Str × Value)).length } →
      codeAny (model X.prog X.w) X.A (.compLoop (.ListComp elt [⟨tg, iter, ifs, 0⟩] scope pos) 0 (.ref it) (.ref s2.heap.objs.size) (compEnvC scope cl e3.heap.objs.size X.env)) (RR (.ref s2.heap.objs.size) e3.heap.objs.size) s4 := by
    rintro s4 rfl
    let xe := notedBy (model X.prog X.w) X.A (compEnvC scope cl e3.heap.objs.size X.env) fun e s' => RR (.ref s2.heap.objs.size) e3.heap.objs.size (.error e) s'
    refine compLoop_turn (fun n s' => ∃ i ys σ' H', Inv (cxComp X scope cl e3.heap.objs.size (x :: fs) e3 H3 fp xe) [] σ' H' s' ∧ tn i s'.heap ∧ (∀ b ∈ fp, H' b = none) ∧ W i n ys σ' H') ?_ m0 ⟨0, [], _, _, J0 xe, hst1, fun b hb => (f3 b hb).1, w0⟩
    rintro n s5 ⟨i, ys, σ5, H5, J5, st5, fr5, w5⟩
    rcases turn i n ys σ5 H5 w5 with ⟨stop, qn⟩ | ⟨go, N, hN, step⟩
    · refine thn (T.done (cxComp X scope cl e3.heap.objs.size (x :: fs) e3 H3 fp xe) rfl rfl rfl hc i [] s5 σ5 H5 xe J5 (stat fr5) st5 stop) fun r s6 ⟨hr, J6⟩ => ?_
      subst hr
      obtain ⟨m, hn, _⟩ := J6.loc
      exact fin _ _ H5 s6 (back J6) qn ⟨m, hn⟩ ⟨J6.free, C0.2⟩
    · refine thn (T.item (cxComp X scope cl e3.heap.objs.size (x :: fs) e3 H3 fp xe) rfl rfl rfl hc i [] s5 σ5 H5 xe J5 (stat fr5) st5 go) fun r s6 ⟨u, hr, h6⟩ => ?_
      subst hr
      refine thn h6 fun _ s7 ⟨y, H7, J7, r7, y7, st7, fr7⟩ => ?_
      have J7' := J7.pinned (stat fr7) (T.obj _ _ st7)
      refine thn (hg _ _ _ xe _ s7 σ5 H7 y u _ J7' r7 (step y H7 y7)) fun _ s8 ⟨σ8, H8, J8, q8⟩ => ?_
      refine thn (hf _ _ _ xe _ s8 σ8 H8 _ J8 q8) fun ok s8' ⟨H8', J8', q8'⟩ => ?_
      cases ok with
      | false =>
        obtain ⟨m', hm', w9⟩ := hN _ _ _ (by simpa using q8')
        refine ⟨m', hm', i + 1, ys, σ8, _, J8'.unpinned, T.keep _ _ _ st7 fun b hb o e => (J8'.pin (b, o) (List.mem_append_right _ (List.mem_append_right _ (mem_pinsAt hb e)))).1, fun b hb => ?_, w9⟩
        obtain ⟨o, e, d⟩ := T.obj _ _ st7 b hb
        exact (J8'.pin (b, o) (List.mem_append_right _ (List.mem_append_right _ (mem_pinsAt hb e)))).2.1
      | true =>
      rw [if_pos rfl] at q8' ⊢
      refine thn (he _ _ _ xe _ s8' σ8 H8' _ J8' q8') fun uv s9 ⟨v, H9, J9, r9, hD9, hl9, n9⟩ => ?_
      obtain ⟨m', hm', w9⟩ := hN _ _ _ n9
      refine thn (mt_append (X := cxComp X scope cl e3.heap.objs.size (x :: fs) e3 H3 fp xe) _ s9 σ8 H9 (.ref s2.heap.objs.size) [v] _ [uv] (fun _ H' => H' = upd H9 s2.heap.objs.size (.lst (ys ++ [v]))) J9 rfl (.cons r9 .nil) ⟨_, ys, v, rfl, rfl, hD9, hl9, rfl⟩) fun _ s10 ⟨_, H10, J10, _, eH⟩ => ?_
      subst eH
      refine ⟨m', hm', i + 1, ys ++ [v], σ8, _, J10.unpinned, T.keep _ _ _ st7 fun b hb o e => (J10.pin (b, o) (List.mem_append_right _ (List.mem_append_right _ (mem_pinsAt hb e)))).1, fun b hb => ?_, w9⟩
      obtain ⟨o, e, d⟩ := T.obj _ _ st7 b hb
      exact (J10.pin (b, o) (List.mem_append_right _ (List.mem_append_right _ (mem_pinsAt hb e)))).2.1
  subst he3
  exact codeAny_compStart_list (loop _ rfl) (T.self X.A 0 _ _ _ hst1 (loop _ rfl))
theorem CompSc.clos {pins : List (Addr × Obj)} {σ : St} {H : Hp} {s : Shared} {scope : Scope} {x : Str} {fs : List Str} (S : CompSc scope X.env x fs) (I : Inv X pins σ H s) :
    ∃ cl, closureFor scope X.env = pure cl ∧ (∀ n c, cl.lookup n = some c → X.env.cells.lookup n = some c) ∧ ∀ n, (n, NameKind.free) ∈ scope.names → ∃ c, cl.lookup n = some c :=
  closure_of fun n hn => I.ok.has n (S.fr _ hn rfl)
/-- [elt for tg in iter], its value kept -/
theorem pe_comp {tg iter elt : Expr} {ifs : List Expr} {scope : Scope} {pos : Pos} {x : Str} {fs : List Str} {ix : List Nat} {wi : TI} {g : TG} {tt : TT} {te : TE} (hc : X.calm = true) (hi : PI X tg iter wi) (hk : compChk scope X.env x fs = true) (hix : ix.map (X.N[·]?) = fs.map some)
    (hg : ∀ cl C s₀ H₀ fp xe, PG (cxComp X scope cl C (x :: fs) s₀ H₀ fp xe) tg g) (hf : ∀ cl C s₀ H₀ fp xe, PF (cxComp X scope cl C (x :: fs) s₀ H₀ fp xe) ifs tt) (he : ∀ cl C s₀ H₀ fp xe, PE (cxComp X scope cl C (x :: fs) s₀ H₀ fp xe) elt te) (hs : ∀ x, foldedSetIterable iter X.env x = pure x := by intro _; rfl) :
    PE X (.ListComp elt [⟨tg, iter, ifs, 0⟩] scope pos) (tComp wi ix g tt te .mk) := by
  intro pins s σ H Q I h
  have S := CompSc.of hk
  obtain ⟨cl, hcl, c1, c2⟩ := S.clos I
  rw [eval_ListComp]
  refine wpAny_comprehension_free (use := none) rfl hs hcl S.kind S.own (thn (hi pins s σ H _ I h) fun v s1 h1 => thn h1 fun itv s2 h2 => ?_)
  obtain ⟨it, fp, tn, J, H2, e, I2, T, st2, f2, q⟩ := h2
  subst e
  refine comp_block (RR := fun acc C => compPost (model X.prog X.w) X.A X.xe none (EP X pins σ Q) acc C) I2 T st2 f2 hc S c1 c2 hix (fun C s₀ H₀ xe => hg cl C s₀ H₀ fp xe) (fun C s₀ H₀ xe => hf cl C s₀ H₀ fp xe) (fun C s₀ H₀ xe => he cl C s₀ H₀ fp xe) q fun D C H' s' I' q' ⟨m, hn⟩ ⟨f0, f1, _, f3, f4, f5⟩ => ?_
  exact ⟨m, hn, fun h' hs' => ⟨.ref D, H', I'.turned (t' := s'.toks) (fun b o hb e => (hs'.2 b hb).trans e) f0 f1 f3 f4 f5, rfl, q'⟩⟩
end
end L2
namespace L2
open PySem PySem.Spec PyProof.Rows
/-! ### for i, x in enumerate(list) -/
section
variable {X : Cx} {pins : List (Addr × Obj)} {σ : List (Option V)} {H H' : Hp} {s : Shared} {h' : Heap}
/-- untracked records of ours have turned -/
theorem Inv.turnedL {t' : Nat} {ch : List Addr} (I : Inv X pins σ H s) (k : ∀ b o, b ∉ ch → s.heap.get? b = some o → h'.get? b = some o) (hf : ∀ b ∈ ch, FpOk X pins H b) : Inv X pins σ H { s with heap := h', toks := t' } := by
  have nit : ∀ b u, H b = some u → b ∉ ch := fun b u e z => by rw [(hf b z).1] at e; cases e
  refine I.step (g' := s.gens) (d' := s.drawn) (ch := ch) (fun b hb => ⟨(hf b hb).2.2.2.1, (hf b hb).2.1, (hf b hb).2.2.2.2.1, (hf b hb).2.2.2.2.2⟩) (fun b o _ _ hc e _ => k b o hc e) (fun b o _ _ hc e _ => ⟨o.slots, k b o hc e⟩) (fun _ _ _ _ n => n)
    (fun b o hc e => ⟨o, k b o hc e⟩) (fun _ _ e => e) (fun _ _ _ e => e) (fun b ps e => ⟨#[], by rw [e]; simp⟩) (fun m hm => ?_) (fun b u e => ?_) I.bare
  · obtain ⟨o, es, ep, ho, r⟩ := hm
    exact ⟨o, es, ep, k _ o (fun z => (hf _ z).2.1 rfl) ho, r⟩
  · refine (I.hok b u e).stay (fun c v hc q => k c v ?_ q) (fun _ q => q) fun _ _ q => q
    rcases hc with z | z
    · rw [z]; exact nit b u e
    · exact nit c _ z
end
def Ite (K : PySem.W.Frag) (a : Addr) : It :=
  ⟨fun i H => ∃ xs x, SqL K H a xs ∧ xs[i]? = some x, fun i H v H' => ∃ t x, v = .ref t ∧ H t = none ∧ H' = upd H t (.tup [.int i, x]) ∧ ∀ xs, SqL K H a xs → xs[i]? = some x, fun i H => ∃ xs, SqL K H a xs ∧ xs.length ≤ i⟩
theorem turn_enum {P : Program} {w : World} {K : PySem.W.Frag} {elts : List Expr} {x1} {pos : Pos} (a e it : Addr) (hne : e ≠ it) :
    Turn P w K (.Tuple elts x1 pos) (Ite K a) [e, it] e (fun i h => (∃ old, IsEnum h e it i old) ∧ h.IsListIter it a i) where
  mem := by simp
  obj := fun i h st b hb => by
    obtain ⟨⟨old, he⟩, o, ho, c, d⟩ := st
    have hb : b = e ∨ b = it := by simpa using hb
    rcases hb with rfl | rfl
    · exact ⟨_, he, fun v z => by
        have z' : Data.fields _ = Data.cell v := z
        cases z'⟩
    · exact ⟨o, ho, fun v z => by rw [d] at z; cases z⟩
  keep := fun i h h' st k => ⟨let ⟨old, he⟩ := st.1; ⟨old, k e (by simp) _ he⟩, st.2.at fun o q => k it (by simp) o q⟩
  item := by
    intro X hP hw hK hc i pins s σ H E I hf st hg
    subst hP hw hK
    obtain ⟨xs, x, hq, hx⟩ := hg
    obtain ⟨its, rv, p, hz⟩ := I.list hq
    obtain ⟨u, hu, ru⟩ := rv.get hx
    obtain ⟨⟨old, he⟩, hit⟩ := st
    refine wpAny_pyNext_enum_item he hit p.isList (x := u) (by simpa using hu) hne fun h1 eo hit1 ht hsz kk => ?_
    refine ⟨_, rfl, wpAny_letOwnedTupleGo_enum eo fun h2 en sb => ?_⟩
    have hT : H s.heap.objs.size = none := I.hok.fresh (Nat.le_refl _)
    have hef : e ≠ s.heap.objs.size := Nat.ne_of_lt (Heap.lt_size he)
    have hif : it ≠ s.heap.objs.size := Nat.ne_of_lt (let ⟨_, ho, _⟩ := hit; Heap.lt_size ho)
    have ht2 : h2.get? s.heap.objs.size = some { cls := .type "tuple", data := .seq #[.int i s.toks, u] } := (sb.2 _ (Ne.symm hef)).trans ht
    have I1 : Inv X pins σ (upd H s.heap.objs.size (.tup [.int i, x])) { s with heap := s.heap.push { cls := .type "tuple", data := .seq #[.int i s.toks, u] } } :=
      I.laid (t' := s.toks) (fun b o q => Heap.get?_push_of_some _ q) (Nat.le_refl _) ⟨by show 2 ≤ sizeLine; decide, [.int i s.toks, u], .cons ⟨_, rfl⟩ (.cons ru .nil), ⟨_, Heap.get?_push_size _ rfl, rfl, _, rfl⟩⟩
    have hf1 : ∀ b ∈ [e, it], FpOk X pins (upd H s.heap.objs.size (.tup [.int i, x])) b := fun b hb => by
      refine ⟨?_, (hf b hb).2⟩
      have hb' : b = e ∨ b = it := by simpa using hb
      rw [upd_ne (by rcases hb' with rfl | rfl; exact hef; exact hif)]
      exact (hf b hb).1
    have I2 : Inv X pins σ (upd H s.heap.objs.size (.tup [.int i, x])) { s with heap := h2, toks := s.toks + 1 } := by
      have J := Inv.turnedL (t' := s.toks + 1) (h' := h2) (ch := [e, it]) I1 ?k hf1
      · exact J
      intro b o hb q
      dsimp only at q
      have hb1 : b ≠ e := fun z => hb (by simp [z])
      have hb2 : b ≠ it := fun z => hb (by simp [z])
      rcases PySem.Heap.get?_push_cases q with ⟨rfl, rfl⟩ | q
      · exact ht2
      · exact (sb.2 b hb1).trans (kk b o hb1 hb2 q)
    refine ⟨.ref s.heap.objs.size, _, I2, rfl, ⟨_, x, rfl, hT, rfl, fun ys hy => by rw [I.list_inj hy hq]; exact hx⟩, ⟨⟨_, en⟩, hit1.extBut sb.extBut (Ne.symm hne)⟩, fun b hb => (hf1 b hb).1⟩
  done := by
    intro X hP hw hK hc i pins s σ H E I hf st hg
    subst hP hw hK
    obtain ⟨xs, hq, hx⟩ := hg
    obtain ⟨its, rv, p, hz⟩ := I.list hq
    obtain ⟨⟨old, he⟩, hit⟩ := st
    obtain ⟨f0, f1, f2, f3, f4, f5⟩ := hf it (by simp)
    have hl := rv.length
    exact wpAny_pyNext_enum_end (I.ok.hd hc) he hit p.isList (by simp; omega) fun h' eb => ⟨rfl, I.turned (t' := s.toks) (fun b o hb e => eb b o hb e) f0 f1 f3 f4 f5⟩
  self := fun _ _ _ _ _ st h => let ⟨_, he⟩ := st.1; wpAny_pyIter_enum he h
section
variable {X : Cx}
def iEnum (K : PySem.W.Frag) (ta : TA) : TI := fun σ H R => ta σ H fun vs H1 => ∃ a, vs = [.ref a] ∧ (∃ xs, SqL K H1 a xs) ∧ R (Ite K a) H1
theorem boot_enum : bootBuiltins "enumerate" = some (.type "enumerate") := by decide +kernel
theorem pi_enum {e : Expr} {ta : TA} {p pos tpos : Pos} {elts : List Expr} {x1} (hg : Gl X "enumerate") (hm : X.mg "enumerate" = none) (ha : PA X [e] ta) (hs : starEach [e] X.env = [(false, eval e X.env)] := by rfl) :
    PI X (.Tuple elts x1 tpos) (.Call (.Name "enumerate" p) [e] [] pos) (iEnum X.K ta) := by
  intro pins s σ H R I h
  refine Call_ (ld_blt I hg hm boot_enum (PyProof.Rows.callWith_type1 (thn (ha pos pins s σ H _ I h) fun us s1 ⟨vs, H1, I1, r1, q1⟩ => ?_) hs rfl))
  obtain ⟨a, ev, ⟨xs, hq⟩, q⟩ := q1
  subst ev
  cases r1 with
  | cons r rr =>
    cases rr
    cases r
    obtain ⟨its, rv, pl, hz⟩ := I1.list hq
    refine call_enumerate_list pl.isList fun h' he hit hsz kk => wpAny_pyIter_enum he ?_
    have I2 : Inv X pins σ H1 { s1 with heap := h' } := I1.kept (t' := s1.toks) kk
    refine ⟨s1.heap.objs.size + 1, [s1.heap.objs.size + 1, s1.heap.objs.size], _, _, H1, rfl, I2, turn_enum a _ _ (Nat.ne_of_gt (Nat.lt_succ_self _)), ⟨⟨_, he⟩, hit⟩, fun b hb => ?_, q⟩
    have hb : b = s1.heap.objs.size + 1 ∨ b = s1.heap.objs.size := by simpa using hb
    have hle : s1.heap.objs.size ≤ b := by rcases hb with rfl | rfl; exact Nat.le_succ _; exact Nat.le_refl _
    exact I1.fpOk hle (I1.hok.fresh hle)
end
theorem loop_enum {K : PySem.W.Frag} {a : Addr} {xs : List V} {g : TG} {tb : TS} {h : HidF g tb} {D : Ends} {σ : St} {H : Hp} (Pv : Nat → St → Hp → Prop) (h0 : Pv 0 σ H) (hl : ∀ i σ H, i ≤ xs.length → Pv i σ H → SqL K H a xs)
    (hs : ∀ i x t σ H, xs[i]? = some x → Pv i σ H → H t = none → g (.ref t) σ (upd H t (.tup [.int i, x])) fun σ2 H2 => tb { D with nx := Pv (i + 1), ct := Pv (i + 1), bk := D.nx } σ2 H2) (hd : ∀ σ H, Pv xs.length σ H → D.nx σ H) : Loop g tb h (Ite K a) D σ H := by
  refine ⟨fun i m σ H => i + m = xs.length ∧ Pv i σ H, ⟨xs.length, Nat.zero_add _, h0⟩, fun i m σ H ⟨e, p⟩ => ?_⟩
  have hq := hl i σ H (by omega) p
  by_cases hi : i < xs.length
  · have ex : xs[i]? = some xs[i] := List.getElem?_eq_getElem hi
    refine .inr ⟨⟨xs, _, hq, ex⟩, Pv (i + 1), fun σ H q => ⟨m - 1, by omega, by omega, q⟩, ?_⟩
    rintro y H' ⟨t, x, rfl, ht, rfl, hy⟩
    exact hs i x t σ H (hy xs hq) p ht
  · have e' : i = xs.length := by omega
    subst e'
    exact .inl ⟨⟨xs, hq, Nat.le_refl _⟩, hd σ H p⟩
end L2
namespace L2
open PySem PySem.Spec PyProof.Rows
/-! ### d.setdefault(k, x) -/
section
variable {X : Cx} {pins : List (Addr × Obj)} {σ : St} {H : Hp} {s : Shared} {a : Addr} {kvs : List (Key × V)} {k : Key} {u r : Value} {z : V} {A : Around} {E : Value → Shared → Prop}
end
section
variable {X : Cx} {o e f : Expr} {apos cpos : Pos} {td ty tx : TE}
end
/-! ### while -/
inductive HidW (c : TT) (tb : TS) : Type where
  | mk : HidW c tb
inductive HidB (tb : TS) : Type where
  | mk : HidB tb
def LoopW (c : TT) (tb : TS) (_ : HidW c tb) : TS := tWhile c tb
def TurnW (tb : TS) (_ : HidB tb) (Pv : Nat → St → Hp → Prop) (m : Nat) (D : Ends) (σ : St) (H : Hp) : Prop :=
  ∃ N : St → Hp → Prop, (∀ σ' H', N σ' H' → ∃ m', m' < m ∧ Pv m' σ' H') ∧ tb { D with nx := N, ct := N, bk := D.nx } σ H
theorem ps_whileE {X : Cx} {c : Expr} {body : List Stmt} {tc : TT} {tb : TS} {pos : Pos} (hp : PassesOwn (model X.prog X.w) X.A X.env X.xe) (hc : PT X c tc) (hb : PSs X body tb) : PS X (.While c body [] pos) (LoopW tc tb .mk) := ps_while hp hc hb
theorem loop_while {c : TT} {tb : TS} {h : HidW c tb} {D : Ends} {σ : St} {H : Hp} (Pv : Nat → St → Hp → Prop) (m0 : Nat) (h0 : Pv m0 σ H)
    (hs : ∀ m σ H, Pv m σ H → c σ H fun b H1 => if b = true then TurnW tb .mk Pv m D σ H1 else D.nx σ H1) : LoopW c tb h D σ H := ⟨Pv, ⟨m0, h0⟩, hs⟩
theorem turnW {tb : TS} {h : HidB tb} {Pv : Nat → St → Hp → Prop} {m : Nat} {D : Ends} {σ : St} {H : Hp}
    (q : tb { D with nx := fun σ' H' => ∃ m', m' < m ∧ Pv m' σ' H', ct := fun σ' H' => ∃ m', m' < m ∧ Pv m' σ' H', bk := D.nx } σ H) : TurnW tb h Pv m D σ H := ⟨_, fun _ _ h => h, q⟩
end L2
namespace L2
open PySem PySem.Spec PyProof.Rows
/-! ### a dict walked: it stands still meanwhile, and is thawed behind -/
section
variable {X : Cx} {pins : List (Addr × Obj)} {σ : List (Option V)} {H : Hp} {s : Shared} {a : Addr}
end
end L2
namespace L2
open PySem PySem.Spec PyProof.Rows
end L2
namespace L2
open PySem PySem.Spec PyProof.Rows
end L2
namespace L2
open PySem PySem.Spec PyProof.Rows
end L2
namespace L2
open PySem PySem.Spec PyProof.Rows
/-! ### within a comprehension: the module's part by its name -/
theorem ix_tupC {X : Cx} {K : PySem.W.Frag} (h : X.K = K) : IxR X (rIxT K) := h ▸ ix_tup
end L2
/-! MY LAYER, l: defs whose last parameters have defaults -/
namespace L2
open PySem PySem.Spec PyProof.Rows
structure FunD (K : PySem.W.Frag) (x qual : Str) (st : Stmt) (f : Addr) (fd : FuncData) : Prop where
  ex : ∃ (oc : Value) (od : Option Addr) (dV kV doc pm : Value) (an : Option Addr) (cdv ct : Value) (osl : Array (Option Value)),
    fd = PySem.W.fnOf x qual (defArgs st) (defBody st) (defScope st) dV kV doc pm an cdv ct ∧ K.lookup f = some ⟨oc, od, .func fd, osl⟩ ∧ PySem.W.codeIn K cdv qual = true
  kp : PySem.W.keepIn K (.ref f) = true
section
variable {P : Program} {w : World} {K : PySem.W.Frag} {mg : Str → Option Value} {base : Heap}
theorem FunD.okE {x qual : Str} {st : Stmt} {f : Addr} {fd : FuncData} {N ps : List Str} {k : Nat} {sp : Sp} (F : FunD K x qual st f fd) (S : FnScope N ps (defScope st)) (len : ∀ vs H Q E, sp vs H Q E → vs.length = ps.length)
    (hbody : Body P w K mg base qual st N k sp) : FnOk P w K mg base (CXe P w) (k + 1) f fd ps sp := by
  obtain ⟨oc, od, dV, kV, doc, pm, an, cdv, ct, osl, rfl, lk, hcd⟩ := F.ex
  exact fn_of lk hcd S len fun A outer s H vs Q E hr hsp => hbody f cdv A outer s H vs Q E hr hsp
def RawMD (K : PySem.W.Frag) (C : Addr) (m qual : Str) (st : Stmt) (ps : List Str) (dvs : List V) : Prop := ∃ f fd ds, Meth K C m f ∧ FunD K m qual st f fd ∧ Binds K fd ps ds ∧ Vals dvs ds
def RawID (K : PySem.W.Frag) (mg : Str → Option Value) (x : Str) (C : Addr) (qual : Str) (st : Stmt) (ps : List Str) (dvs : List V) : Prop := ∃ f fd ds, mg x = some (.ref C) ∧ Mk K C f ∧ FunD K "__init__" qual st f fd ∧ Binds K fd ps ds ∧ Vals dvs ds
theorem RawMD.have {C : Addr} {m qual : Str} {st : Stmt} {N ps : List Str} {dvs : List V} {k : Nat} {sp : Sp} (R : RawMD K C m qual st ps dvs) (S : FnScope N ps (defScope st)) (len : ∀ vs H Q E, sp vs H Q E → vs.length = ps.length)
    (hbody : Body P w K mg base qual st N k sp) : HaveM P w K mg base C m (k + 1) ps dvs sp :=
  let ⟨f, fd, ds, hm, F, hb, hd⟩ := R
  ⟨f, fd, ds, hm, hb, hd, F.okE S len hbody⟩
theorem RawID.have {C : Addr} {x qual : Str} {st : Stmt} {N ps : List Str} {dvs : List V} {k : Nat} {sp : Sp} (R : RawID K mg x C qual st ps dvs) (S : FnScope N ps (defScope st)) (len : ∀ vs H Q E, sp vs H Q E → vs.length = ps.length)
    (hbody : Body P w K mg base qual st N k sp) : HaveI P w K mg base x C (k + 1) ps dvs sp :=
  let ⟨f, fd, ds, hm, M, F, hb, hd⟩ := R
  ⟨f, fd, ds, hm, M, hb, hd, F.okE S len hbody⟩
end
end L2
namespace L2
open PySem PySem.Spec PyProof.Rows
end L2
namespace L2
open PySem PySem.Spec PyProof.Rows
end L2
namespace L2
open PySem PySem.Spec PyProof.Rows
section
variable {X : Cx}
end
theorem Vals.at {xs : List V} {us : List Value} (r : Vals xs us) (m : Nat) (h1 : m < xs.length) (h2 : m < us.length) : RelV xs[m] us[m] := by
  obtain ⟨u, hu, ru⟩ := r.get (List.getElem?_eq_getElem h1)
  rw [List.getElem?_eq_getElem h2] at hu
  cases hu
  exact ru
end L2
namespace L2
open PySem PySem.Spec PyProof.Rows
/-! ### None in a list of None and tuples; its place -/
def isN : V → Bool
  | .non => true
  | _ => false
def NTup (K : PySem.W.Frag) (H : Hp) (x : V) : Prop := x = .non ∨ ∃ a xs, x = .ref a ∧ SqT K H a xs
def nU : Value → Bool
  | .none => true
  | _ => false
theorem nU_of {K : PySem.W.Frag} {H : Hp} {x : V} {u : Value} (h : NTup K H x) (r : RelV x u) : nU u = isN x := by
  rcases h with rfl | ⟨a, xs, rfl, _⟩
  · cases r; rfl
  · cases r; rfl
theorem nU_any {K : PySem.W.Frag} {H : Hp} : ∀ {xs : List V} {us : List Value}, Vals xs us → (∀ x ∈ xs, NTup K H x) → us.any nU = xs.any isN
  | _, _, .nil, _ => rfl
  | x :: xs, u :: us, .cons r t, h => by
    rw [List.any_cons, List.any_cons, nU_of (h x (List.mem_cons_self ..)) r, nU_any t fun z hz => h z (List.mem_cons_of_mem _ hz)]
theorem nU_eqAt {X : Cx} {pins : List (Addr × Obj)} {σ : St} {H : Hp} {s : Shared} (I : Inv X pins σ H s) {A : Around} (hu : A.units < cLine) : ∀ {xs : List V} {us : List Value}, Vals xs us → (∀ x ∈ xs, NTup X.K H x) → ∀ u ∈ us, SeqAt.EqAt A s u .none (nU u)
  | _, _, .nil, _ => fun u hu => by cases hu
  | x :: xs, u :: us, .cons r t, h => fun u' hu' => by
    rcases List.mem_cons.mp hu' with rfl | hu'
    · rcases h x (List.mem_cons_self ..) with rfl | ⟨a, ys, rfl, hs⟩
      · cases r
        exact SeqAt.EqAt.same _
      · cases r
        obtain ⟨its, r, p, hz⟩ := I.tuple hs
        intro prog w E Q hq
        unfold eqBool
        refine wpAny_holding ?_
        refine wpAny_ite_split (fun hab => absurd (eq_of_beq hab) (fun z => nomatch z)) (fun _ => ?_)
        exact wpAny_bind (SeqAt.RcAt.tuple_none (A := A) (s := s) (show s.heap.IsTuple a its.toArray from p) hu prog w E _ (wpAny_truthy_bool hq))
    · exact nU_eqAt I hu t (fun z hz => h z (List.mem_cons_of_mem _ hz)) u' hu'
def rInN (K : PySem.W.Frag) : R2 := fun x y H Q => ∃ p xs, x = .non ∧ y = .ref p ∧ SqL K H p xs ∧ (∀ z ∈ xs, NTup K H z) ∧ Q (.bl (xs.any isN)) H
theorem op_inN {X : Cx} (hu : X.A.units + 4 + 2 < cLine) : OpR X (compareOp .In) (rInN X.K) := by
  intro pins s σ H x y v u Q I rx ry h
  obtain ⟨p, xs, rfl, rfl, hq, hn, q⟩ := h
  cases rx
  cases ry
  obtain ⟨its, r, pl, hz⟩ := I.list hq
  refine SeqAt.in_listAt nU pl.isList (fun w hw => nU_eqAt I (by show X.A.units + 1 < cLine; omega) r hn w (by simpa using hw)) ⟨.bl _, H, I, rfl, ?_⟩
  rw [show its.toArray.any nU = its.any nU by simp, nU_any r hn]
  exact q
def rIndexN (K : PySem.W.Frag) : V → List V → Hp → VK → Prop := fun x vs H Q => ∃ l xs j, x = .ref l ∧ vs = [.non] ∧ SqL K H l xs ∧ (∀ z ∈ xs, NTup K H z) ∧ xs.findIdx? isN = some j ∧ Q (.int j) H
theorem mt_indexN {X : Cx} (hu : X.A.units + 4 + 2 < cLine) : MtR X "list.index" (rIndexN X.K) := by
  intro pins s σ H x vs v us Q I rx rv h
  obtain ⟨l, xs, j, rfl, rfl, hq, hn, hj, q⟩ := h
  cases rx
  obtain ⟨u, rfl, ru⟩ := rv.one
  cases ru
  obtain ⟨its, r, pl, hz⟩ := I.list hq
  obtain ⟨⟨cls, dd, data, sl⟩, ho, hc, n, hd⟩ := pl.isList
  simp only at hc hd
  subst hc hd
  obtain ⟨hjl, hit, hno⟩ := List.findIdx?_eq_some_iff_getElem.mp hj
  have hl := r.length
  have eqx : ∀ m (h1 : m < xs.length) (h2 : m < its.length), nU its[m] = isN xs[m] := fun m h1 h2 => nU_of (hn _ (List.getElem_mem h1)) (r.at m h1 h2)
  refine call_meets F.slot_list_index ⟨_, ho, rfl⟩ F.entry_list_index (F.args_list_index_2 _ _) (SeqAt.list_indexAt l its.toArray n dd sl .none nU j (by simp; omega) (by have := line63; omega) ?_ ?_) ⟨ho, fun w hw => nU_eqAt I ?_ r hn w (by simpa using hw), ⟨.int j, H, I.tok _, ⟨_, rfl⟩, q⟩⟩
  · simp only [List.getElem_toArray]
    rw [eqx j hjl (by omega)]
    exact hit
  · intro m hm hmj
    simp only [List.size_toArray] at hm
    simp only [List.getElem_toArray]
    rw [eqx m (by omega) hm]
    simpa using hno m hmj
  · show X.A.units + 1 < cLine
    omega
end L2
namespace L2
open PySem PySem.Spec PyProof.Rows
/-! ### d.pop(k) of a dict whose keys are tuples -/
theorem map_erase {α β : Type} {f : α → β} : ∀ {l : List α} {j : Nat}, (l.map f).eraseIdx j = (l.eraseIdx j).map f
  | [], _ => rfl
  | _ :: _, 0 => rfl
  | x :: l, j + 1 => congrArg (f x :: ·) (map_erase (l := l) (j := j))
section
variable {prog : Program} {w : World} {K : Type} [DecidableEq K] {knd : HeapKind prog w K} {A : Around} {E : Value → Shared → Prop} {s : Shared}
theorem takeOut_heap {d a : Addr} {xs : List (K × Addr × Value)} {k : K} {j : Nat} {p : Addr × Value} {Q : Option DictEntry → Shared → Prop} (hu : knd.room A) (hkey : knd.is s.heap k a) (hm : s.heap.DictOfH knd d xs) (hj : xs[j]? = some (k, p)) (hsz : xs.length ≤ sizeLine)
    (hQ : ∀ e h', e.val = p.2 → h'.DictOfH knd d (xs.eraseIdx j) → Heap.SameBut d s.heap h' → Q (some e) { s with heap := h', toks := s.toks + knd.draws k }) : wpAny (model prog w) A (Builtin.Dict.takeOut d (.ref a)) Q E s := by
  obtain ⟨o, es, ep, ho, hc, hd, he, his, hn⟩ := hm
  have hes := size_of_entries he
  unfold Builtin.Dict.takeOut
  try with_reducible refine wpAny_holding ?_
  refine wpAny_bind (knd.pyHash hu hkey ?_)
  refine wpAny_bind (wpAny_dictFind_heap (s := { s with toks := s.toks + knd.draws k }) hu hkey ho hd he his hn (fun hno => absurd hj (hno j p)) fun j' p' hj' => ?_)
  have ej : j' = j := idxH_unique hn hj' hj
  subst ej
  refine wpAny_bind (wpAny_dictEntries (s := { s with toks := s.toks + knd.draws k }) ho hd ?_)
  have ee : es[j']? = some (entryOfKey knd (k, p)) := by rw [entry_at he, hj]; rfl
  rw [ee]
  refine wpAny_bind (wpAny_updateDictKeys (hz := by omega) (s := { s with toks := s.toks + knd.draws k }) ho hd (wpAny_pure (hQ (entryOfKey knd (k, p)) _ rfl ⟨_, _, ep + 1, Heap.get?_update_self _ ho (Obj.isFreed_of_dict (Obj.data_mapDictKeys hd _)), hc.mapDictKeys _, Obj.data_mapDictKeys hd _, ?_, ?_, ?_⟩ (Heap.SameBut.update ..))))
  · have hlt : j' < es.size := by rw [hes]; exact (List.getElem?_eq_some_iff.mp hj).1
    simp [Array.eraseIdxIfInBounds, hlt, he, map_erase]
  · intro x hx
    exact knd.keeps (his x ((List.eraseIdx_sublist ..).subset hx)) ho hd (Heap.SameBut.update ..)
  · exact hn.sublist ((List.eraseIdx_sublist ..).map _)
theorem meets_popH {d a : Addr} : MeetsIn prog w (Builtin.«dict.pop» ⟨[.ref d, .ref a], []⟩) (fun A R s => knd.room A.in1 ∧ ∃ k xs j p, knd.is s.heap k a ∧ s.heap.DictOfH knd d xs ∧ xs.length ≤ sizeLine ∧ xs[j]? = some (k, p) ∧
      ∀ h', h'.DictOfH knd d (xs.eraseIdx j) → Heap.SameBut d s.heap h' → R (.ok (.ret p.2)) { s with heap := h', toks := s.toks + knd.draws k }) :=
  .of_wp fun A R s ⟨hu, k, xs, j, p, hkey, hm, hsz, hj, h⟩ => by
    unfold Builtin.«dict.pop»
    refine wpAny_bind ?_
    unfold Builtin.Dict.keyAndDefault
    refine wpAny_bind (wpAny_notOrdered_dict hm.typeIs ?_)
    show wpAny _ _ (pure (d, Value.ref a, none)) _ _ s
    refine wpAny_pure ?_
    obtain ⟨o, es, ep, ho, hc, hd, he, his, hn⟩ := id hm
    have hes := size_of_entries he
    have hne : es.isEmpty = false := by
      have hlt := (List.getElem?_eq_some_iff.mp hj).1
      cases hE : es.isEmpty with
      | false => rfl
      | true =>
        rw [Array.isEmpty_iff.mp hE] at hes
        have h0 : xs.length = 0 := by simpa using hes.symm
        omega
    have hk : (keyPart (.ref a)).isSome = false := rfl
    simp only [hk, Bool.false_eq_true, if_false]
    refine wpAny_bind (wpAny_dictEntries ho hd ?_)
    refine wpAny_bind (wpAny_pure ?_)
    rw [hne]
    simp only [Bool.false_eq_true, if_false]
    refine wpAny_bind (takeOut_heap hu hkey hm hj hsz fun e h' ev hm' hs' => ?_)
    simp only [Option.isNone_some, Bool.false_eq_true, if_false]
    exact wpAny_bind (wpAny_letGo (wpAny_pure ⟨e.val, rfl, by rw [ev]; exact h h' hm' hs'⟩))
end
theorem KT.erase {H : Hp} : ∀ {kvs : List (List Key × V)} {xs : List (List Key × Addr × Value)} (j : Nat), KT H kvs xs → KT H (kvs.eraseIdx j) (xs.eraseIdx j)
  | _, _, _, .nil => .nil
  | _, _, 0, .cons _ t => t
  | _, _, j + 1, .cons r t => .cons r (KT.erase j t)
theorem KT.find {H : Hp} {k : List Key} {v : V} : ∀ {kvs : List (List Key × V)} {xs : List (List Key × Addr × Value)}, KT H kvs xs → (xs.map (·.1)).Nodup → valV kvs k = some v → ∃ (j : Nat) (p : Addr × Value), xs[j]? = some (k, p) ∧ RelV v p.2 ∧ dropK kvs k = kvs.eraseIdx j
  | _, _, .nil, _, h => by cases h
  | kv :: kvs, x :: xs, .cons r t, hn, h => by
    obtain ⟨h1, h2⟩ := List.nodup_cons.mp hn
    by_cases c : kv.1 = k
    · rw [valV_pos c] at h
      refine ⟨0, x.2, ?_, ?_, ?_⟩
      · show some x = some (k, x.2)
        rw [← c, r.1]
      · cases h; exact r.2.2
      · have hk : ∀ y ∈ kvs, y.1 ≠ k := fun y hy e => by
          have hx : k ∈ xs.map (·.1) := by
            have : xs.map (·.1) = kvs.map (·.1) := by
              have aux : ∀ {a : List (List Key × V)} {b : List (List Key × Addr × Value)}, KT H a b → b.map (·.1) = a.map (·.1) := fun q => by
                induction q with
                | nil => rfl
                | cons r _ ih => rw [List.map_cons, List.map_cons, ih, r.1]
              exact aux t
            rw [this]
            exact List.mem_map.mpr ⟨y, hy, e⟩
          exact h1 (by show x.1 ∈ _; rw [← r.1, c]; exact hx)
        show (kv :: kvs).filter _ = kvs
        rw [List.filter_cons, if_neg (by simp [c]), List.filter_eq_self.mpr fun y hy => by simpa using hk y hy]
    · rw [valV_neg c] at h
      obtain ⟨j, p, e1, e2, e3⟩ := KT.find t h2 h
      refine ⟨j + 1, p, by simpa using e1, e2, ?_⟩
      show (kv :: kvs).filter _ = kv :: kvs.eraseIdx j
      rw [List.filter_cons, if_pos (by simp [c]), ← e3]
      rfl
theorem d_popT {X : Cx} {pins : List (Addr × Obj)} {σ : St} {H : Hp} {s : Shared} {a b : Addr} {kvs : List (List Key × V)} {k : List Key} {A : Around} {E : Value → Shared → Prop} {v : V} {Q : Value → Shared → Prop} (hu : A.units + 1 < cLine) (I : Inv X pins σ H s) (e : H a = some (.dT kvs)) (eb : H b = some (.tup (k.map kV))) (l : valV kvs k = some v)
    (h : ∀ w' s', Inv X pins σ (upd H a (.dT (dropK kvs k))) s' → RelV v w' → Q w' s') : wpAny (model X.prog X.w) A (call (.builtin "dict.pop") [.ref a, .ref b]) Q E s := by
  obtain ⟨z, hd, xs, rel, dd⟩ := dt_of I.hok e
  have hz : xs.length ≤ sizeLine := by rw [← Paired.length rel]; exact z
  have hn : (xs.map (·.1)).Nodup := let ⟨_, _, _, _, _, _, _, _, q⟩ := dd; q
  obtain ⟨j, p, hj, rv, ed⟩ := KT.find rel hn l
  refine call_meetsIn PySem.F.slot_dict_pop dd.typeIs PySem.F.entry_dict_pop (PySem.F.args_dict_pop_2 _ _) (meets_popH (knd := tupleKind (mixKind X.prog X.w))) ⟨tupleKind_room_in1 hu, k, xs, j, p, key_of I.hok eb, dd, hz, hj, fun h' dd' hs => h _ _ ?_ rv⟩
  obtain ⟨q, es, ep, hq, h2, h3, h4, _, h5⟩ := dd'
  refine d_write I (by rw [e]; exact True.intro) hs ⟨q, hq⟩ ⟨?_, hd, _, KT.keeps (ed ▸ KT.erase j rel) fun c ys ec => ?_, q, es, ep, hq, h2, h3, h4, h5⟩
  · exact Nat.le_trans (dropK_le kvs k) z
  · rw [upd_ne (ne_of ec e (fun z => nomatch z))]
    exact ec
def tDPopT (td ty : TE) : TE := fun σ H Q => td σ H fun x H1 => ∃ a, x = .ref a ∧ IsD H1 a ∧ ty σ H1 fun y H2 => ∃ kvs k v b, H2 a = some (.dT kvs) ∧ y = .ref b ∧ H2 b = some (.tup (k.map kV)) ∧ valV kvs k = some v ∧ Q v (upd H2 a (.dT (dropK kvs k)))
theorem pe_dpopT {X : Cx} {o e : Expr} {apos cpos : Pos} {td ty : TE} (hu : X.A.units + 1 < cLine) (ho : PE X o td) (he : PE X e ty) (m : M1 X o "pop" apos e cpos) : PE X (.Call (.Attribute o "pop" apos) [e] [] cpos) (tDPopT td ty) := by
  intro pins s σ H Q I h
  refine wpAny_Call_method m.base m.few m.line PySem.F.plainAttrs_dict PySem.F.slot_dict_pop PySem.F.type_dict_pop (thn (ho pins s σ H _ I h) fun u s1 ⟨x, H1, I1, rx, a, ex, d, q1⟩ => ?_)
  subst ex
  obtain rfl : u = Value.ref a := rx
  obtain ⟨t1, t2, _⟩ := isD_at I1 d
  refine ⟨t1, t2, ?_⟩
  rw [m.trees]
  refine Calls.callWith_builtin rfl (Calls.evalArgs_plain (Calls.spliced_cons (thn (he pins s1 σ H1 _ I1 q1) fun iv s2 ⟨y, H2, I2, ry, kvs, k, v, b, ea, ey, eb, l, q2⟩ => Calls.spliced_nil ?_)))
  subst ey
  cases ry
  exact d_popT hu I2 ea eb l fun w' s3 I3 rw' => ⟨v, _, I3, rw', q2⟩
end L2
namespace L2
open PySem PySem.Spec PyProof.Rows
/-! ### list(d) of a dict whose keys are tuples -/
def RawD (h : Heap) (d : Addr) (es : Array DictEntry) (ep : Nat) : Prop := ∃ o, h.get? d = some o ∧ o.ExactDict ∧ o.data = .dict es ep
theorem RawD.ty {s : Shared} {d : Addr} {es : Array DictEntry} {ep : Nat} (r : RawD s.heap d es ep) : s.TypeIs (.ref d) "dict" := let ⟨o, ho, hc, _⟩ := r; ⟨o, ho, hc.1⟩
theorem RawD.lt {h : Heap} {d : Addr} {es : Array DictEntry} {ep : Nat} (r : RawD h d es ep) : d < h.objs.size := let ⟨_, ho, _⟩ := r; Heap.lt_size ho
theorem RawD.kept {h h' : Heap} {d : Addr} {es : Array DictEntry} {ep : Nat} (r : RawD h d es ep) (k : ∀ o, h.get? d = some o → h'.get? d = some o) : RawD h' d es ep := let ⟨o, ho, q⟩ := r; ⟨o, k _ ho, q⟩
section
variable {prog : Program} {w : World} {A : Around} {E : Value → Shared → Prop} {s : Shared} {d it : Addr} {es : Array DictEntry} {ep i : Nat}
theorem raw_iter {Q : Value → Shared → Prop} (nd : (d == sysModules) = false) (r : RawD s.heap d es ep)
    (q : Q (.ref s.heap.objs.size) { s with heap := s.heap.push { cls := .type "dict_keyiterator", data := .fields #[.ref d, .int 0 0, .int es.size 0, .int ep 0] } }) : wpAny (model prog w) A (pyIter (.ref d)) Q E s := by
  obtain ⟨o, e0, ec, ed⟩ := id r
  refine wpAny_pyIter_slot r.ty PySem.F.slot_dict_iter (wpAny_call_entry PySem.F.slot_dict_iter r.ty PySem.F.entry_dict_iter ?_ (PySem.F.args_dict_iter_1 _))
  unfold Builtin.«dict.__iter__» Builtin.Dict.dictSlotNone Builtin.Dict.showsAll
  refine wpAny_bind (wpAny_bind (wpAny_notOrdered_dict r.ty (wpAny_pure ?_)))
  refine wpAny_bind (m := if d == sysModules then _ else _) ?_
  rw [if_neg (by rw [nd]; exact Bool.false_ne_true)]
  refine wpAny_pure (wpAny_bind (wpAny_dictEntries e0 ed (wpAny_bind (wpAny_dictEpoch e0 ed ?_))))
  exact wpAny_bind (wpAny_newObj_type (wpAny_pure ⟨_, rfl, "dict_keyiterator", _, ⟨_, Heap.get?_push_size _ rfl, rfl⟩, PySem.F.slot_dict_keyiterator_next.lookup, by simpa [rawInt] using q⟩))
theorem raw_next {Q : Option Value → Shared → Prop} (t : s.heap.IsKeyIter it d i es.size ep) (r : RawD s.heap d es ep) (hi : i < es.size)
    (q : ∀ h', h'.IsKeyIter it d (i + 1) es.size ep → Heap.SameBut it s.heap h' → Q (some es[i].key) { s with heap := h' }) : wpAny (model prog w) A (pyNext (.ref it)) Q E s := by
  obtain ⟨b, b0, bc, bd⟩ := id t
  obtain ⟨o, e0, ec, ed⟩ := id r
  unfold pyNext
  refine wpAny_bind (wpAny_attempt (wpAny_callSpecial?_slot (name := Str.ofString "__next__") t.typeIs PySem.F.slot_dict_keyiterator_next (wpAny_call_entry PySem.F.slot_dict_keyiterator_next t.typeIs PySem.F.entry_dict_keyiterator_next ?_ (PySem.F.args_dict_keyiterator_next_1 _))))
  refine wpAny_bind (wpAny_pure (wpAny_bind (wpAny_bind (wpAny_bind (wpAny_typeNameOfWhole_keyiter t.typeIs (wpAny_pure (wpAny_bind (wpAny_fieldsOf b0 bd ?_))))))))
  simp only [show Builtin.Dict_items.ownsTuple "dict_keyiterator" = false by decide, Bool.false_eq_true, if_false]
  show wpAny _ _ (if (Value.ref d == Value.none) = true then _ else _) _ _ s
  rw [if_neg (show ¬ ((Value.ref d == Value.none) = true) from Bool.false_ne_true)]
  refine wpAny_bind (wpAny_pure (wpAny_bind (wpAny_dictEntries e0 ed ?_)))
  rw [if_neg (by simp)]
  refine wpAny_bind (wpAny_pure (wpAny_bind (wpAny_dictEpoch e0 ed ?_)))
  rw [if_neg (by simp)]
  refine wpAny_pure ?_
  simp only [show ¬ ((i : Int) < 0) from by omega, if_false, Int.toNat_natCast, Array.getElem?_eq_getElem hi]
  refine wpAny_bind (wpAny_bind (wpAny_typeNameOfWhole_keyiter t.typeIs (wpAny_pure (wpAny_bind (wpAny_isOneOf_keyiter t.typeIs ?_)))))
  show wpAny _ _ (setField (.ref it) 1 (rawInt ((i : Int) + 1)) >>= _) _ _ s
  refine wpAny_bind (wpAny_setField b0 bd (by simp) ?_)
  have t2 : (s.heap.update it (Obj.mapFields (·.setIfInBounds 1 (rawInt ((i : Int) + 1))))).IsKeyIter it d (i + 1) es.size ep := ⟨_, Heap.get?_update_self _ b0 (Obj.isFreed_of_fields (Obj.data_mapFields bd _)), (Obj.cls_mapFields ..).trans bc, by rw [Obj.data_mapFields bd]; simp [rawInt]⟩
  refine wpAny_bind (wpAny_holding (wpAny_bind (wpAny_isOneOf_keyiter (s := { s with heap := s.heap.update it (Obj.mapFields (·.setIfInBounds 1 (rawInt ((i : Int) + 1)))) }) t2.typeIs ?_)))
  show wpAny _ _ (pure es[i].key) _ _ _
  exact wpAny_pure (wpAny_pure ⟨_, rfl, wpAny_pure (q _ t2 (Heap.SameBut.update ..))⟩)
theorem raw_end {Q : Option Value → Shared → Prop} (hh : A.handled = none) (t : s.heap.IsKeyIter it d es.size es.size ep) (r : RawD s.heap d es ep)
    (q : ∀ h', Heap.ExtBut it s.heap h' → Q none { s with heap := h' }) : wpAny (model prog w) A (pyNext (.ref it)) Q E s := by
  obtain ⟨b, b0, bc, bd⟩ := id t
  obtain ⟨o, e0, ec, ed⟩ := id r
  unfold pyNext
  refine wpAny_bind (wpAny_attempt (wpAny_callSpecial?_slot (name := Str.ofString "__next__") t.typeIs PySem.F.slot_dict_keyiterator_next (wpAny_call_entry PySem.F.slot_dict_keyiterator_next t.typeIs PySem.F.entry_dict_keyiterator_next ?_ (PySem.F.args_dict_keyiterator_next_1 _))))
  refine wpAny_bind (wpAny_pure (wpAny_bind (wpAny_bind (wpAny_bind (wpAny_typeNameOfWhole_keyiter t.typeIs (wpAny_pure (wpAny_bind (wpAny_fieldsOf b0 bd ?_))))))))
  simp only [show Builtin.Dict_items.ownsTuple "dict_keyiterator" = false by decide, Bool.false_eq_true, if_false]
  show wpAny _ _ (if (Value.ref d == Value.none) = true then _ else _) _ _ s
  rw [if_neg (show ¬ ((Value.ref d == Value.none) = true) from Bool.false_ne_true)]
  refine wpAny_bind (wpAny_pure (wpAny_bind (wpAny_dictEntries e0 ed ?_)))
  rw [if_neg (by simp)]
  refine wpAny_bind (wpAny_pure (wpAny_bind (wpAny_dictEpoch e0 ed ?_)))
  rw [if_neg (by simp)]
  refine wpAny_pure ?_
  simp only [show ¬ ((es.size : Int) < 0) from by omega, if_false, Int.toNat_natCast, Array.getElem?_eq_none (Nat.le_refl es.size)]
  refine wpAny_bind (wpAny_bind (wpAny_typeNameOfWhole_keyiter t.typeIs (wpAny_pure ?_)))
  show wpAny _ _ (setField (.ref it) 0 .none >>= _) _ _ s
  refine wpAny_bind (wpAny_setField b0 bd (by simp) ?_)
  show wpAny _ _ (newExc (.type "StopIteration") [] >>= _) _ _ _
  refine wpAny_bind ?_
  simp only [newExc, newTuple]
  refine wpAny_bind (wpAny_newObj_type (wpAny_bind (m := firstArgMember _ _) (wpAny_of_eq (a := Value.none) (by first | rfl | (simp only [firstArgMember]; rfl)) (wpAny_newObj_type ?_ (by size_fits)))) (by size_fits))
  simp only [raiseNew]
  refine wpAny_bind (wpAny_handled ?_)
  rw [show A.in1.handled = none from hh]
  refine wpAny_bind (wpAny_pure (wpAny_throw ?_))
  refine wpAny_bind (m := isInstance _ _) (wpAny_isInstance (b := true) (T := "StopIteration") ⟨_, Heap.get?_push_size _ rfl, rfl⟩ isSubtype_stop ?_)
  exact wpAny_pure (q _ (((Heap.SameBut.update ..).extBut.push _).push _))
theorem raw_walks (hh : A.handled = none) (I : Addr) (ne : d ≠ I) : Walks prog w A I [I, d] [I] es.size (fun i v => ∃ h : i < es.size, v = es[i].key) (fun i h => h.IsKeyIter I d i es.size ep ∧ RawD h d es ep) where
  sub := fun b hb => List.mem_cons.mpr (.inl (List.mem_singleton.mp hb))
  frame := fun _ _ _ x k => ⟨x.1.at fun o e => k I (List.mem_cons_self ..) o e, x.2.kept fun o e => k d (List.mem_cons_of_mem _ (List.mem_cons_self ..)) o e⟩
  item := fun i s Q E hi x q => raw_next x.1 x.2 hi fun h' t2 sb => q _ h' s.toks ⟨hi, rfl⟩ ⟨t2, x.2.kept fun o e => (sb.2 d ne).trans e⟩ fun b o hb e => (sb.2 b fun z => hb (List.mem_singleton.mpr z)).trans e
  done := fun s Q E x q => raw_end hh x.1 x.2 fun h' eb => q h' s.toks fun b o hb e => eb b o (fun z => hb (List.mem_singleton.mpr z)) e
  self := fun _ _ _ _ x q => wpAny_pyIter_keyiter x.1 q
theorem raw_src (nd : (d == sysModules) = false) : PySem.W.KdlSrc prog w "dict" d d es.size (fun i v => ∃ h : i < es.size, v = es[i].key) (fun h => RawD h d es ep) where
  type := fun _ r => r.ty
  there := fun _ r => ⟨r.lt, r.lt⟩
  keep := fun _ _ r k => r.kept fun o e => k d (.inl rfl) o e
  notList := by decide
  notTuple := by decide
  hint := fun _ _ _ _ r q => PySem.W.kdl_hint_dict r.ty q
  iter := fun _ _ hh r => ⟨_, _, (fun _ _ q => raw_iter nd r q), raw_walks hh _ (Nat.ne_of_lt r.lt), ⟨⟨_, Heap.get?_push_size _ rfl, rfl, rfl⟩, r.kept fun o e => Heap.get?_push_of_some _ e⟩⟩
end
def KysAt (H : Hp) (ks : List (List Key)) (vs : List V) : Prop := Paired (fun k v => ∃ a, v = V.ref a ∧ H a = some (.tup (k.map kV))) ks vs
theorem kys_of {H : Hp} {kvs : List (List Key × V)} {ys : List (List Key × Addr × Value)} (r : KT H kvs ys) : Vals (ys.map fun y => V.ref y.2.1) (ys.map fun y => Value.ref y.2.1) ∧ KysAt H (kvs.map (·.1)) (ys.map fun y => V.ref y.2.1) := by
  induction r with
  | nil => exact ⟨.nil, .nil⟩
  | cons r t ih => exact ⟨.cons rfl ih.1, .cons ⟨_, rfl, r.2.1⟩ ih.2⟩
theorem call_listDT {X : Cx} (hc : X.calm = true) : CallR X (.type "list") (fun xs H Q => ∃ p kvs, xs = [.ref p] ∧ H p = some (.dT kvs) ∧ ∀ l vs, H l = none → KysAt H (kvs.map (·.1)) vs → Q (.ref l) (upd H l (.lst vs))) := by
  intro pins s σ H xs us Q I r h
  obtain ⟨p, kvs, rfl, hp, q⟩ := h
  obtain ⟨u, rfl, ru⟩ := vals1 r
  cases ru
  obtain ⟨z, nd, ys, rel, o, es, ep, e0, ec, ed, he, _⟩ := dt_of I.hok hp
  have hsz := size_of_entries he
  have hlen := Paired.length rel
  refine PySem.W.kdl_call (raw_src (es := es) (ep := ep) nd) (I.ok.hd hc) ⟨o, e0, ec, ed⟩ (by omega) fun h' tk acc c kp hl it => ?_
  have hv : ∃ vs, Vals vs acc.toList ∧ KysAt H (kvs.map (·.1)) vs := by
    have hacc : acc.toList = ys.map fun y => Value.ref y.2.1 := by
      refine List.ext_getElem? fun j => ?_
      rw [List.getElem?_map]
      by_cases c : j < es.size
      · have hj : j < acc.toList.length := by rw [Array.length_toList, it.1]; exact c
        obtain ⟨_, e⟩ := it.2 j _ (by rw [← Array.getElem?_toList]; exact List.getElem?_eq_getElem hj)
        rw [List.getElem?_eq_getElem hj, e]
        have e3 := entry_at he j
        rw [Array.getElem?_eq_getElem c, List.getElem?_eq_getElem (by omega)] at e3
        have e3 := Option.some.inj e3
        rw [e3, List.getElem?_eq_getElem (by omega)]
        rfl
      · rw [List.getElem?_eq_none (by rw [Array.length_toList, it.1]; omega), List.getElem?_eq_none (by omega)]
        rfl
    rw [hacc]
    exact ⟨_, kys_of rel⟩
  obtain ⟨vs, rv, hk⟩ := hv
  have hvl := rv.length
  have I2 := I.laid (t' := tk) kp (Nat.le_refl _) (show ObjOk X.prog X.w _ h' _ (.lst vs) from ⟨by rw [hvl, Array.length_toList, it.1]; omega, acc.toList, c, rv, hl⟩)
  exact ⟨.ref s.heap.objs.size, _, I2, rfl, q _ _ (I.hok.fresh (Nat.le_refl _)) hk⟩
end L2
set_option hygiene false in
local macro_rules | `(tactic| walk_at "wp") => `(tactic| simp only [L2.tSeq, L2.tNext, L2.tAsg, L2.gName, L2.tRet, L2.tRetN, L2.tDrop, L2.tIfS, L2.tIf, L2.tTest, L2.tB, L2.tOp, L2.tUn, L2.tVar, L2.tC, L2.rI, L2.rI0, L2.rU, L2.tAnd, L2.tOr, L2.tNot, L2.tAndV, L2.tNotV, L2.tCallE, L2.tMethE, L2.tMakeE, L2.tCB, L2.tCons, L2.tNil, L2.tLst, L2.tTup, L2.rIxL, L2.rIxT, L2.rSlT, L2.rCatT, L2.rIn, L2.tFld, L2.sFld, L2.rEq, L2.rNe, L2.start, L2.CDiv, L2.CPow, L2.CMul, L2.kn_int, L2.kn_bl, L2.cxOf_K, L2.scal_ii, L2.scal_bb, L2.scal_ss, L2.lstO_lst, L2.tupO_tup, L2.upd_same, L2.upd_upd, L2.HO.ins.injEq, L2.rSlL, L2.tSl, L2.tPart, L2.tNoPart, L2.clsV_ref, L2.clsV_ty, L2.tForE, L2.iRng1, L2.iList, L2.iEnum, L2.gTup, L2.gNil, L2.gCons, L2.tBM, L2.tBM0, L2.rAppend, L2.gSub, L2.rSetL, L2.tComp, L2.tYes, Option.join_some, Option.join_none, PySem.sizeLine_eq, Nat.reduceLeDiff, eq_self, decide_eq_true_eq, 
  List.map_cons, List.map_nil, List.length_cons, List.length_nil, List.cons_append, List.nil_append, List.append_nil, List.replicate, Nat.reduceSub, Nat.reduceAdd, List.getElem?_cons_zero, List.getElem?_cons_succ, List.set_cons_zero, List.set_cons_succ,
  Option.some.injEq, List.cons.injEq, L2.V.int.injEq, L2.V.bl.injEq, L2.V.ref.injEq, L2.V.ty.injEq, L2.V.str.injEq, exists_eq_left, exists_eq_left', exists_and_left, exists_eq', exists_const, and_assoc, and_true, true_and, ↓reduceIte, Int.reduceLE, Int.reduceLT, Nat.reducePow, Int.reducePow, Int.reduceNeg, L2.na10, Nat.reduceLT, Int.reduceToNat, Int.reduceAdd, Int.reduceMul, Int.reduceSub, true_or, or_true, decide_true, decide_false])
namespace Pf
open PySem L2
def top (i : Nat) : Stmt := PySem.Challenge.pw_frameland_k37_plain_book.main.body.getD i (.Pass ⟨0, 0, 0, 0⟩)
abbrev s_swept : Stmt := top 1
theorem sc_swept : FnScope ["marks", "hand", "passed", "place"] ["marks", "hand"] (defScope s_swept) := ⟨rfl, rfl, rfl, by decide +kernel, rfl, by decide +kernel, by decide +kernel⟩
abbrev s_Book_init : Stmt := inClass (top 3) 0
theorem sc_Book_init : FnScope ["self", "many"] ["self", "many"] (defScope s_Book_init) := ⟨rfl, rfl, rfl, by decide +kernel, rfl, by decide +kernel, by decide +kernel⟩
abbrev s_Book_look : Stmt := inClass (top 3) 1
theorem sc_Book_look : FnScope ["self", "task", "page", "place"] ["self", "task", "page"] (defScope s_Book_look) := ⟨rfl, rfl, rfl, by decide +kernel, rfl, by decide +kernel, by decide +kernel⟩
abbrev s_Book_use : Stmt := inClass (top 3) 2
theorem sc_Book_use : FnScope ["self", "task", "page", "place"] ["self", "task", "page"] (defScope s_Book_use) := ⟨rfl, rfl, rfl, by decide +kernel, rfl, by decide +kernel, by decide +kernel⟩
abbrev s_Book_keep : Stmt := inClass (top 3) 3
theorem sc_Book_keep : FnScope ["self", "task", "page", "entry", "place"] ["self", "task", "page", "entry"] (defScope s_Book_keep) := ⟨rfl, rfl, rfl, by decide +kernel, rfl, by decide +kernel, by decide +kernel⟩
abbrev s_Book_strike : Stmt := inClass (top 3) 4
theorem sc_Book_strike : FnScope ["self", "task", "page", "place"] ["self", "task", "page"] (defScope s_Book_strike) := ⟨rfl, rfl, rfl, by decide +kernel, rfl, by decide +kernel, by decide +kernel⟩
abbrev s_Book_strike_task : Stmt := inClass (top 3) 5
theorem sc_Book_strike_task : FnScope ["self", "task", "key"] ["self", "task"] (defScope s_Book_strike_task) := ⟨rfl, rfl, rfl, by decide +kernel, rfl, by decide +kernel, by decide +kernel⟩
abbrev s_Book_told : Stmt := inClass (top 3) 6
theorem sc_Book_told : FnScope ["self"] ["self"] (defScope s_Book_told) := ⟨rfl, rfl, rfl, by decide +kernel, rfl, by decide +kernel, by decide +kernel⟩
abbrev s_Book_place_for_new : Stmt := inClass (top 3) 7
theorem sc_Book_place_for_new : FnScope ["self", "choice", "place", "row", "gone"] ["self"] (defScope s_Book_place_for_new) := ⟨rfl, rfl, rfl, by decide +kernel, rfl, by decide +kernel, by decide +kernel⟩
abbrev s_l_cell : Stmt := top 5
theorem sc_l_cell : FnScope ["_law_script", "_law_k"] ["_law_script", "_law_k"] (defScope s_l_cell) := ⟨rfl, rfl, rfl, by decide +kernel, rfl, by decide +kernel, by decide +kernel⟩
abbrev s_l_number : Stmt := top 6
theorem sc_l_number : FnScope ["_law_digits", "_law_cell_here", "_law_k", "_law_one"] ["_law_digits", "_law_cell_here", "_law_k"] (defScope s_l_number) := ⟨rfl, rfl, rfl, by decide +kernel, rfl, by decide +kernel, by decide +kernel⟩
abbrev s_l_whole : Stmt := top 7
theorem sc_l_whole : FnScope ["_law_found"] ["_law_found"] (defScope s_l_whole) := ⟨rfl, rfl, rfl, by decide +kernel, rfl, by decide +kernel, by decide +kernel⟩
abbrev s_l_at : Stmt := top 8
theorem sc_l_at : FnScope ["_law_rows", "_law_task", "_law_page", "_law_k", "_law_row"] ["_law_rows", "_law_task", "_law_page"] (defScope s_l_at) := ⟨rfl, rfl, rfl, by decide +kernel, rfl, by decide +kernel, by decide +kernel⟩
abbrev s_l_free : Stmt := top 9
theorem sc_l_free : FnScope ["_law_plain", "_law_rows", "_law_k", "_law_row", "_law_at_here", "_law_gone"] ["_law_plain"] (defScope s_l_free) := ⟨rfl, rfl, rfl, by decide +kernel, rfl, by decide +kernel, by decide +kernel⟩
abbrev s_l_deed : Stmt := top 10
theorem sc_l_deed : FnScope ["_law_book", "_law_plain", "_law_way", "_law_row", "_law_rows", "_law_at_here", "_law_k"] ["_law_book", "_law_plain", "_law_way", "_law_row"] (defScope s_l_deed) := ⟨rfl, rfl, rfl, by decide +kernel, rfl, by decide +kernel, by decide +kernel⟩
abbrev s_l_seen : Stmt := top 11
theorem sc_l_seen : FnScope ["_law_book", "_law_plain", "_law_row", "_law_found", "_law_at_here"] ["_law_book", "_law_plain", "_law_row"] (defScope s_l_seen) := ⟨rfl, rfl, rfl, by decide +kernel, rfl, by decide +kernel, by decide +kernel⟩
abbrev s_l_same : Stmt := top 12
theorem sc_l_same : FnScope ["_law_found", "_law_rows", "_law_k", "_law_row"] ["_law_found", "_law_rows"] (defScope s_l_same) := ⟨rfl, rfl, rfl, by decide +kernel, rfl, by decide +kernel, by decide +kernel⟩
abbrev s_l_size : Stmt := top 13
theorem sc_l_size : FnScope ["_law_cell_here"] ["_law_cell_here"] (defScope s_l_size) := ⟨rfl, rfl, rfl, by decide +kernel, rfl, by decide +kernel, by decide +kernel⟩
abbrev s_l_filled : Stmt := top 14
theorem sc_l_filled : FnScope ["_law_size_here", "_law_base", "_law_book", "_law_plain", "_law_k"] ["_law_size_here", "_law_base"] (defScope s_l_filled) := ⟨rfl, rfl, rfl, by decide +kernel, rfl, by decide +kernel, by decide +kernel⟩
abbrev s_law : Stmt := top 15
theorem sc_law : FnScope ["_law_script", "_law_base", "_law_both", "_law_k", "_law_size_here", "_law_wide", "_law_held", "_law_due", "_law_cell_here", "_law_number_here", "_law_row", "_law_book", "_law_plain"] ["_law_script"] (defScope s_law) := ⟨rfl, rfl, rfl, by decide +kernel, rfl, by decide +kernel, by decide +kernel⟩
structure Adr where
  C_Book : Addr
/-- what the top has made -/
structure Txt (K : PySem.W.Frag) (mg : Str → Option Value) (A : Adr) : Prop where
  b_bool : mg "bool" = none
  b_enumerate : mg "enumerate" = none
  b_int : mg "int" = none
  b_isinstance : mg "isinstance" = none
  b_len : mg "len" = none
  b_list : mg "list" = none
  b_range : mg "range" = none
  b_tuple : mg "tuple" = none
  r_swept : Raw K mg "swept" "swept" s_swept ["marks", "hand"] []
  r_l_cell : Raw K mg "_law_cell" "_law_cell" s_l_cell ["_law_script", "_law_k"] []
  r_l_number : Raw K mg "_law_number" "_law_number" s_l_number ["_law_digits", "_law_cell_here", "_law_k"] []
  r_l_whole : Raw K mg "_law_whole" "_law_whole" s_l_whole ["_law_found"] []
  r_l_at : Raw K mg "_law_at" "_law_at" s_l_at ["_law_rows", "_law_task", "_law_page"] []
  r_l_free : Raw K mg "_law_free" "_law_free" s_l_free ["_law_plain"] []
  r_l_deed : Raw K mg "_law_deed" "_law_deed" s_l_deed ["_law_book", "_law_plain", "_law_way", "_law_row"] []
  r_l_seen : Raw K mg "_law_seen" "_law_seen" s_l_seen ["_law_book", "_law_plain", "_law_row"] []
  r_l_same : Raw K mg "_law_same" "_law_same" s_l_same ["_law_found", "_law_rows"] []
  r_l_size : Raw K mg "_law_size" "_law_size" s_l_size ["_law_cell_here"] []
  r_l_filled : Raw K mg "_law_filled" "_law_filled" s_l_filled ["_law_size_here", "_law_base"] []
  cl_Book : Cls K A.C_Book
  na_Book_rows : NoAttr K A.C_Book "rows"
  na_Book_found : NoAttr K A.C_Book "found"
  na_Book_hand : NoAttr K A.C_Book "hand"
  r_Book_init : RawI K mg "Book" A.C_Book "Book.__init__" s_Book_init ["self", "many"] []
  r_Book_look : RawM K A.C_Book "look" "Book.look" s_Book_look ["self", "task", "page"] []
  r_Book_use : RawM K A.C_Book "use" "Book.use" s_Book_use ["self", "task", "page"] []
  r_Book_keep : RawM K A.C_Book "keep" "Book.keep" s_Book_keep ["self", "task", "page", "entry"] []
  r_Book_strike : RawM K A.C_Book "strike" "Book.strike" s_Book_strike ["self", "task", "page"] []
  r_Book_strike_task : RawM K A.C_Book "strike_task" "Book.strike_task" s_Book_strike_task ["self", "task"] []
  r_Book_told : RawM K A.C_Book "told" "Book.told" s_Book_told ["self"] []
  r_Book_place_for_new : RawM K A.C_Book "place_for_new" "Book.place_for_new" s_Book_place_for_new ["self"] []
  r_law : ∃ f fd, mg "law" = some (.ref f) ∧ Fun K "law" "law" s_law f fd ∧ ∀ (s : Shared) (u : Value), BindsTo s fd ⟨[u], []⟩ [("_law_script", u)]
theorem el1 {P : List Value → Prop} (h : ∀ a0, P [a0]) : ∀ us : List Value, us.length = 1 → P us
  | [a0], _ => h a0
theorem el2 {P : List Value → Prop} (h : ∀ a0 a1, P [a0, a1]) : ∀ us : List Value, us.length = 2 → P us
  | [a0, a1], _ => h a0 a1
theorem el3 {P : List Value → Prop} (h : ∀ a0 a1 a2, P [a0, a1, a2]) : ∀ us : List Value, us.length = 3 → P us
  | [a0, a1, a2], _ => h a0 a1 a2
theorem el4 {P : List Value → Prop} (h : ∀ a0 a1 a2 a3, P [a0, a1, a2, a3]) : ∀ us : List Value, us.length = 4 → P us
  | [a0, a1, a2, a3], _ => h a0 a1 a2 a3
theorem txt_mk {K : PySem.W.Frag} {h : Heap} {mg : Str → Option Value} (X : K.In h) (G : h.Ns mainGlobals mg)
    {C_Book : Addr}
    {f_swept : Addr} {od_swept an_swept : Option Addr} {sl_swept : Array (Option Value)} {oc_swept kV_swept dc_swept pm_swept cd_swept ct_swept : Value}
    {f_l_cell : Addr} {od_l_cell an_l_cell : Option Addr} {sl_l_cell : Array (Option Value)} {oc_l_cell kV_l_cell dc_l_cell pm_l_cell cd_l_cell ct_l_cell : Value}
    {f_l_number : Addr} {od_l_number an_l_number : Option Addr} {sl_l_number : Array (Option Value)} {oc_l_number kV_l_number dc_l_number pm_l_number cd_l_number ct_l_number : Value}
    {f_l_whole : Addr} {od_l_whole an_l_whole : Option Addr} {sl_l_whole : Array (Option Value)} {oc_l_whole kV_l_whole dc_l_whole pm_l_whole cd_l_whole ct_l_whole : Value}
    {f_l_at : Addr} {od_l_at an_l_at : Option Addr} {sl_l_at : Array (Option Value)} {oc_l_at kV_l_at dc_l_at pm_l_at cd_l_at ct_l_at : Value}
    {f_l_free : Addr} {od_l_free an_l_free : Option Addr} {sl_l_free : Array (Option Value)} {oc_l_free kV_l_free dc_l_free pm_l_free cd_l_free ct_l_free : Value}
    {f_l_deed : Addr} {od_l_deed an_l_deed : Option Addr} {sl_l_deed : Array (Option Value)} {oc_l_deed kV_l_deed dc_l_deed pm_l_deed cd_l_deed ct_l_deed : Value}
    {f_l_seen : Addr} {od_l_seen an_l_seen : Option Addr} {sl_l_seen : Array (Option Value)} {oc_l_seen kV_l_seen dc_l_seen pm_l_seen cd_l_seen ct_l_seen : Value}
    {f_l_same : Addr} {od_l_same an_l_same : Option Addr} {sl_l_same : Array (Option Value)} {oc_l_same kV_l_same dc_l_same pm_l_same cd_l_same ct_l_same : Value}
    {f_l_size : Addr} {od_l_size an_l_size : Option Addr} {sl_l_size : Array (Option Value)} {oc_l_size kV_l_size dc_l_size pm_l_size cd_l_size ct_l_size : Value}
    {f_l_filled : Addr} {od_l_filled an_l_filled : Option Addr} {sl_l_filled : Array (Option Value)} {oc_l_filled kV_l_filled dc_l_filled pm_l_filled cd_l_filled ct_l_filled : Value}
    {f_Book_init : Addr} {od_Book_init an_Book_init : Option Addr} {sl_Book_init : Array (Option Value)} {oc_Book_init kV_Book_init dc_Book_init pm_Book_init cd_Book_init ct_Book_init : Value}
    {f_Book_look : Addr} {od_Book_look an_Book_look : Option Addr} {sl_Book_look : Array (Option Value)} {oc_Book_look kV_Book_look dc_Book_look pm_Book_look cd_Book_look ct_Book_look : Value}
    {f_Book_use : Addr} {od_Book_use an_Book_use : Option Addr} {sl_Book_use : Array (Option Value)} {oc_Book_use kV_Book_use dc_Book_use pm_Book_use cd_Book_use ct_Book_use : Value}
    {f_Book_keep : Addr} {od_Book_keep an_Book_keep : Option Addr} {sl_Book_keep : Array (Option Value)} {oc_Book_keep kV_Book_keep dc_Book_keep pm_Book_keep cd_Book_keep ct_Book_keep : Value}
    {f_Book_strike : Addr} {od_Book_strike an_Book_strike : Option Addr} {sl_Book_strike : Array (Option Value)} {oc_Book_strike kV_Book_strike dc_Book_strike pm_Book_strike cd_Book_strike ct_Book_strike : Value}
    {f_Book_strike_task : Addr} {od_Book_strike_task an_Book_strike_task : Option Addr} {sl_Book_strike_task : Array (Option Value)} {oc_Book_strike_task kV_Book_strike_task dc_Book_strike_task pm_Book_strike_task cd_Book_strike_task ct_Book_strike_task : Value}
    {f_Book_told : Addr} {od_Book_told an_Book_told : Option Addr} {sl_Book_told : Array (Option Value)} {oc_Book_told kV_Book_told dc_Book_told pm_Book_told cd_Book_told ct_Book_told : Value}
    {f_Book_place_for_new : Addr} {od_Book_place_for_new an_Book_place_for_new : Option Addr} {sl_Book_place_for_new : Array (Option Value)} {oc_Book_place_for_new kV_Book_place_for_new dc_Book_place_for_new pm_Book_place_for_new cd_Book_place_for_new ct_Book_place_for_new : Value}
    {f_law : Addr} {od_law an_law : Option Addr} {sl_law : Array (Option Value)} {oc_law kV_law dc_law pm_law cd_law ct_law : Value}
    (a_Book : PySem.W.nsIn K mainGlobals "Book" = some (some (.ref C_Book)))
    (zb_bool : PySem.W.nsIn K mainGlobals "bool" = some none)
    (zb_enumerate : PySem.W.nsIn K mainGlobals "enumerate" = some none)
    (zb_int : PySem.W.nsIn K mainGlobals "int" = some none)
    (zb_isinstance : PySem.W.nsIn K mainGlobals "isinstance" = some none)
    (zb_len : PySem.W.nsIn K mainGlobals "len" = some none)
    (zb_list : PySem.W.nsIn K mainGlobals "list" = some none)
    (zb_range : PySem.W.nsIn K mainGlobals "range" = some none)
    (zb_tuple : PySem.W.nsIn K mainGlobals "tuple" = some none)
    (a_swept_ : PySem.W.nsIn K mainGlobals "swept" = some (some (.ref f_swept)))
    (l_swept_ : K.lookup f_swept = some ⟨oc_swept, od_swept, .func (PySem.W.fnOf "swept" "swept" (defArgs s_swept) (defBody s_swept) (defScope s_swept) .none kV_swept dc_swept pm_swept an_swept cd_swept ct_swept), sl_swept⟩)
    (c_swept_ : PySem.W.codeIn K cd_swept "swept" = true)
    (k_swept_ : PySem.W.keepIn K (.ref f_swept) = true)
    (a_l_cell_ : PySem.W.nsIn K mainGlobals "_law_cell" = some (some (.ref f_l_cell)))
    (l_l_cell_ : K.lookup f_l_cell = some ⟨oc_l_cell, od_l_cell, .func (PySem.W.fnOf "_law_cell" "_law_cell" (defArgs s_l_cell) (defBody s_l_cell) (defScope s_l_cell) .none kV_l_cell dc_l_cell pm_l_cell an_l_cell cd_l_cell ct_l_cell), sl_l_cell⟩)
    (c_l_cell_ : PySem.W.codeIn K cd_l_cell "_law_cell" = true)
    (k_l_cell_ : PySem.W.keepIn K (.ref f_l_cell) = true)
    (a_l_number_ : PySem.W.nsIn K mainGlobals "_law_number" = some (some (.ref f_l_number)))
    (l_l_number_ : K.lookup f_l_number = some ⟨oc_l_number, od_l_number, .func (PySem.W.fnOf "_law_number" "_law_number" (defArgs s_l_number) (defBody s_l_number) (defScope s_l_number) .none kV_l_number dc_l_number pm_l_number an_l_number cd_l_number ct_l_number), sl_l_number⟩)
    (c_l_number_ : PySem.W.codeIn K cd_l_number "_law_number" = true)
    (k_l_number_ : PySem.W.keepIn K (.ref f_l_number) = true)
    (a_l_whole_ : PySem.W.nsIn K mainGlobals "_law_whole" = some (some (.ref f_l_whole)))
    (l_l_whole_ : K.lookup f_l_whole = some ⟨oc_l_whole, od_l_whole, .func (PySem.W.fnOf "_law_whole" "_law_whole" (defArgs s_l_whole) (defBody s_l_whole) (defScope s_l_whole) .none kV_l_whole dc_l_whole pm_l_whole an_l_whole cd_l_whole ct_l_whole), sl_l_whole⟩)
    (c_l_whole_ : PySem.W.codeIn K cd_l_whole "_law_whole" = true)
    (k_l_whole_ : PySem.W.keepIn K (.ref f_l_whole) = true)
    (a_l_at_ : PySem.W.nsIn K mainGlobals "_law_at" = some (some (.ref f_l_at)))
    (l_l_at_ : K.lookup f_l_at = some ⟨oc_l_at, od_l_at, .func (PySem.W.fnOf "_law_at" "_law_at" (defArgs s_l_at) (defBody s_l_at) (defScope s_l_at) .none kV_l_at dc_l_at pm_l_at an_l_at cd_l_at ct_l_at), sl_l_at⟩)
    (c_l_at_ : PySem.W.codeIn K cd_l_at "_law_at" = true)
    (k_l_at_ : PySem.W.keepIn K (.ref f_l_at) = true)
    (a_l_free_ : PySem.W.nsIn K mainGlobals "_law_free" = some (some (.ref f_l_free)))
    (l_l_free_ : K.lookup f_l_free = some ⟨oc_l_free, od_l_free, .func (PySem.W.fnOf "_law_free" "_law_free" (defArgs s_l_free) (defBody s_l_free) (defScope s_l_free) .none kV_l_free dc_l_free pm_l_free an_l_free cd_l_free ct_l_free), sl_l_free⟩)
    (c_l_free_ : PySem.W.codeIn K cd_l_free "_law_free" = true)
    (k_l_free_ : PySem.W.keepIn K (.ref f_l_free) = true)
    (a_l_deed_ : PySem.W.nsIn K mainGlobals "_law_deed" = some (some (.ref f_l_deed)))
    (l_l_deed_ : K.lookup f_l_deed = some ⟨oc_l_deed, od_l_deed, .func (PySem.W.fnOf "_law_deed" "_law_deed" (defArgs s_l_deed) (defBody s_l_deed) (defScope s_l_deed) .none kV_l_deed dc_l_deed pm_l_deed an_l_deed cd_l_deed ct_l_deed), sl_l_deed⟩)
    (c_l_deed_ : PySem.W.codeIn K cd_l_deed "_law_deed" = true)
    (k_l_deed_ : PySem.W.keepIn K (.ref f_l_deed) = true)
    (a_l_seen_ : PySem.W.nsIn K mainGlobals "_law_seen" = some (some (.ref f_l_seen)))
    (l_l_seen_ : K.lookup f_l_seen = some ⟨oc_l_seen, od_l_seen, .func (PySem.W.fnOf "_law_seen" "_law_seen" (defArgs s_l_seen) (defBody s_l_seen) (defScope s_l_seen) .none kV_l_seen dc_l_seen pm_l_seen an_l_seen cd_l_seen ct_l_seen), sl_l_seen⟩)
    (c_l_seen_ : PySem.W.codeIn K cd_l_seen "_law_seen" = true)
    (k_l_seen_ : PySem.W.keepIn K (.ref f_l_seen) = true)
    (a_l_same_ : PySem.W.nsIn K mainGlobals "_law_same" = some (some (.ref f_l_same)))
    (l_l_same_ : K.lookup f_l_same = some ⟨oc_l_same, od_l_same, .func (PySem.W.fnOf "_law_same" "_law_same" (defArgs s_l_same) (defBody s_l_same) (defScope s_l_same) .none kV_l_same dc_l_same pm_l_same an_l_same cd_l_same ct_l_same), sl_l_same⟩)
    (c_l_same_ : PySem.W.codeIn K cd_l_same "_law_same" = true)
    (k_l_same_ : PySem.W.keepIn K (.ref f_l_same) = true)
    (a_l_size_ : PySem.W.nsIn K mainGlobals "_law_size" = some (some (.ref f_l_size)))
    (l_l_size_ : K.lookup f_l_size = some ⟨oc_l_size, od_l_size, .func (PySem.W.fnOf "_law_size" "_law_size" (defArgs s_l_size) (defBody s_l_size) (defScope s_l_size) .none kV_l_size dc_l_size pm_l_size an_l_size cd_l_size ct_l_size), sl_l_size⟩)
    (c_l_size_ : PySem.W.codeIn K cd_l_size "_law_size" = true)
    (k_l_size_ : PySem.W.keepIn K (.ref f_l_size) = true)
    (a_l_filled_ : PySem.W.nsIn K mainGlobals "_law_filled" = some (some (.ref f_l_filled)))
    (l_l_filled_ : K.lookup f_l_filled = some ⟨oc_l_filled, od_l_filled, .func (PySem.W.fnOf "_law_filled" "_law_filled" (defArgs s_l_filled) (defBody s_l_filled) (defScope s_l_filled) .none kV_l_filled dc_l_filled pm_l_filled an_l_filled cd_l_filled ct_l_filled), sl_l_filled⟩)
    (c_l_filled_ : PySem.W.codeIn K cd_l_filled "_law_filled" = true)
    (k_l_filled_ : PySem.W.keepIn K (.ref f_l_filled) = true)
    (pg_Book : PySem.W.plainGet K C_Book Str.empty = true)
    (hd_Book : PySem.W.hasDictIn K C_Book = true)
    (po_Book : PySem.W.plainOver K C_Book = true)
    (sa_Book : PySem.W.findIn K (.ref C_Book) "__setattr__" = some (some (.builtin "object.__setattr__")))
    (zn_Book_rows : PySem.W.findIn K (.ref C_Book) "rows" = some none)
    (zn_Book_found : PySem.W.findIn K (.ref C_Book) "found" = some none)
    (zn_Book_hand : PySem.W.findIn K (.ref C_Book) "hand" = some none)
    (mk_Book : PySem.W.makesIn K C_Book = true)
    (kc_Book : PySem.W.keepIn K (.ref C_Book) = true)
    (a_Book_init_ : PySem.W.findIn K (.ref C_Book) "__init__" = some (some (.ref f_Book_init)))
    (i_Book_init_ : PySem.W.isFn K (.ref f_Book_init) = true)
    (l_Book_init_ : K.lookup f_Book_init = some ⟨oc_Book_init, od_Book_init, .func (PySem.W.fnOf "__init__" "Book.__init__" (defArgs s_Book_init) (defBody s_Book_init) (defScope s_Book_init) .none kV_Book_init dc_Book_init pm_Book_init an_Book_init cd_Book_init ct_Book_init), sl_Book_init⟩)
    (c_Book_init_ : PySem.W.codeIn K cd_Book_init "Book.__init__" = true)
    (k_Book_init_ : PySem.W.keepIn K (.ref f_Book_init) = true)
    (a_Book_look_ : PySem.W.findIn K (.ref C_Book) "look" = some (some (.ref f_Book_look)))
    (i_Book_look_ : PySem.W.isFn K (.ref f_Book_look) = true)
    (l_Book_look_ : K.lookup f_Book_look = some ⟨oc_Book_look, od_Book_look, .func (PySem.W.fnOf "look" "Book.look" (defArgs s_Book_look) (defBody s_Book_look) (defScope s_Book_look) .none kV_Book_look dc_Book_look pm_Book_look an_Book_look cd_Book_look ct_Book_look), sl_Book_look⟩)
    (c_Book_look_ : PySem.W.codeIn K cd_Book_look "Book.look" = true)
    (k_Book_look_ : PySem.W.keepIn K (.ref f_Book_look) = true)
    (a_Book_use_ : PySem.W.findIn K (.ref C_Book) "use" = some (some (.ref f_Book_use)))
    (i_Book_use_ : PySem.W.isFn K (.ref f_Book_use) = true)
    (l_Book_use_ : K.lookup f_Book_use = some ⟨oc_Book_use, od_Book_use, .func (PySem.W.fnOf "use" "Book.use" (defArgs s_Book_use) (defBody s_Book_use) (defScope s_Book_use) .none kV_Book_use dc_Book_use pm_Book_use an_Book_use cd_Book_use ct_Book_use), sl_Book_use⟩)
    (c_Book_use_ : PySem.W.codeIn K cd_Book_use "Book.use" = true)
    (k_Book_use_ : PySem.W.keepIn K (.ref f_Book_use) = true)
    (a_Book_keep_ : PySem.W.findIn K (.ref C_Book) "keep" = some (some (.ref f_Book_keep)))
    (i_Book_keep_ : PySem.W.isFn K (.ref f_Book_keep) = true)
    (l_Book_keep_ : K.lookup f_Book_keep = some ⟨oc_Book_keep, od_Book_keep, .func (PySem.W.fnOf "keep" "Book.keep" (defArgs s_Book_keep) (defBody s_Book_keep) (defScope s_Book_keep) .none kV_Book_keep dc_Book_keep pm_Book_keep an_Book_keep cd_Book_keep ct_Book_keep), sl_Book_keep⟩)
    (c_Book_keep_ : PySem.W.codeIn K cd_Book_keep "Book.keep" = true)
    (k_Book_keep_ : PySem.W.keepIn K (.ref f_Book_keep) = true)
    (a_Book_strike_ : PySem.W.findIn K (.ref C_Book) "strike" = some (some (.ref f_Book_strike)))
    (i_Book_strike_ : PySem.W.isFn K (.ref f_Book_strike) = true)
    (l_Book_strike_ : K.lookup f_Book_strike = some ⟨oc_Book_strike, od_Book_strike, .func (PySem.W.fnOf "strike" "Book.strike" (defArgs s_Book_strike) (defBody s_Book_strike) (defScope s_Book_strike) .none kV_Book_strike dc_Book_strike pm_Book_strike an_Book_strike cd_Book_strike ct_Book_strike), sl_Book_strike⟩)
    (c_Book_strike_ : PySem.W.codeIn K cd_Book_strike "Book.strike" = true)
    (k_Book_strike_ : PySem.W.keepIn K (.ref f_Book_strike) = true)
    (a_Book_strike_task_ : PySem.W.findIn K (.ref C_Book) "strike_task" = some (some (.ref f_Book_strike_task)))
    (i_Book_strike_task_ : PySem.W.isFn K (.ref f_Book_strike_task) = true)
    (l_Book_strike_task_ : K.lookup f_Book_strike_task = some ⟨oc_Book_strike_task, od_Book_strike_task, .func (PySem.W.fnOf "strike_task" "Book.strike_task" (defArgs s_Book_strike_task) (defBody s_Book_strike_task) (defScope s_Book_strike_task) .none kV_Book_strike_task dc_Book_strike_task pm_Book_strike_task an_Book_strike_task cd_Book_strike_task ct_Book_strike_task), sl_Book_strike_task⟩)
    (c_Book_strike_task_ : PySem.W.codeIn K cd_Book_strike_task "Book.strike_task" = true)
    (k_Book_strike_task_ : PySem.W.keepIn K (.ref f_Book_strike_task) = true)
    (a_Book_told_ : PySem.W.findIn K (.ref C_Book) "told" = some (some (.ref f_Book_told)))
    (i_Book_told_ : PySem.W.isFn K (.ref f_Book_told) = true)
    (l_Book_told_ : K.lookup f_Book_told = some ⟨oc_Book_told, od_Book_told, .func (PySem.W.fnOf "told" "Book.told" (defArgs s_Book_told) (defBody s_Book_told) (defScope s_Book_told) .none kV_Book_told dc_Book_told pm_Book_told an_Book_told cd_Book_told ct_Book_told), sl_Book_told⟩)
    (c_Book_told_ : PySem.W.codeIn K cd_Book_told "Book.told" = true)
    (k_Book_told_ : PySem.W.keepIn K (.ref f_Book_told) = true)
    (a_Book_place_for_new_ : PySem.W.findIn K (.ref C_Book) "place_for_new" = some (some (.ref f_Book_place_for_new)))
    (i_Book_place_for_new_ : PySem.W.isFn K (.ref f_Book_place_for_new) = true)
    (l_Book_place_for_new_ : K.lookup f_Book_place_for_new = some ⟨oc_Book_place_for_new, od_Book_place_for_new, .func (PySem.W.fnOf "place_for_new" "Book.place_for_new" (defArgs s_Book_place_for_new) (defBody s_Book_place_for_new) (defScope s_Book_place_for_new) .none kV_Book_place_for_new dc_Book_place_for_new pm_Book_place_for_new an_Book_place_for_new cd_Book_place_for_new ct_Book_place_for_new), sl_Book_place_for_new⟩)
    (c_Book_place_for_new_ : PySem.W.codeIn K cd_Book_place_for_new "Book.place_for_new" = true)
    (k_Book_place_for_new_ : PySem.W.keepIn K (.ref f_Book_place_for_new) = true)
    (a_law_ : PySem.W.nsIn K mainGlobals "law" = some (some (.ref f_law)))
    (l_law_ : K.lookup f_law = some ⟨oc_law, od_law, .func (PySem.W.fnOf "law" "law" (defArgs s_law) (defBody s_law) (defScope s_law) .none kV_law dc_law pm_law an_law cd_law ct_law), sl_law⟩)
    (c_law_ : PySem.W.codeIn K cd_law "law" = true)
    (k_law_ : PySem.W.keepIn K (.ref f_law) = true)
    : ∃ A : Adr, Txt K mg A := ⟨⟨C_Book⟩, {
      b_bool := PySem.W.mg_none_of X G zb_bool
      b_enumerate := PySem.W.mg_none_of X G zb_enumerate
      b_int := PySem.W.mg_none_of X G zb_int
      b_isinstance := PySem.W.mg_none_of X G zb_isinstance
      b_len := PySem.W.mg_none_of X G zb_len
      b_list := PySem.W.mg_none_of X G zb_list
      b_range := PySem.W.mg_none_of X G zb_range
      b_tuple := PySem.W.mg_none_of X G zb_tuple
      r_swept := ⟨_, _, _, PySem.W.mg_of X G a_swept_, fun_mk (st := s_swept) l_swept_ c_swept_ k_swept_, (fun_mk (st := s_swept) l_swept_ c_swept_ k_swept_).binds (ps := ["marks", "hand"]) fun _ _ _ _ _ _ => el2 (fun _ _ => rfl), .nil⟩
      r_l_cell := ⟨_, _, _, PySem.W.mg_of X G a_l_cell_, fun_mk (st := s_l_cell) l_l_cell_ c_l_cell_ k_l_cell_, (fun_mk (st := s_l_cell) l_l_cell_ c_l_cell_ k_l_cell_).binds (ps := ["_law_script", "_law_k"]) fun _ _ _ _ _ _ => el2 (fun _ _ => rfl), .nil⟩
      r_l_number := ⟨_, _, _, PySem.W.mg_of X G a_l_number_, fun_mk (st := s_l_number) l_l_number_ c_l_number_ k_l_number_, (fun_mk (st := s_l_number) l_l_number_ c_l_number_ k_l_number_).binds (ps := ["_law_digits", "_law_cell_here", "_law_k"]) fun _ _ _ _ _ _ => el3 (fun _ _ _ => rfl), .nil⟩
      r_l_whole := ⟨_, _, _, PySem.W.mg_of X G a_l_whole_, fun_mk (st := s_l_whole) l_l_whole_ c_l_whole_ k_l_whole_, (fun_mk (st := s_l_whole) l_l_whole_ c_l_whole_ k_l_whole_).binds (ps := ["_law_found"]) fun _ _ _ _ _ _ => el1 (fun _ => rfl), .nil⟩
      r_l_at := ⟨_, _, _, PySem.W.mg_of X G a_l_at_, fun_mk (st := s_l_at) l_l_at_ c_l_at_ k_l_at_, (fun_mk (st := s_l_at) l_l_at_ c_l_at_ k_l_at_).binds (ps := ["_law_rows", "_law_task", "_law_page"]) fun _ _ _ _ _ _ => el3 (fun _ _ _ => rfl), .nil⟩
      r_l_free := ⟨_, _, _, PySem.W.mg_of X G a_l_free_, fun_mk (st := s_l_free) l_l_free_ c_l_free_ k_l_free_, (fun_mk (st := s_l_free) l_l_free_ c_l_free_ k_l_free_).binds (ps := ["_law_plain"]) fun _ _ _ _ _ _ => el1 (fun _ => rfl), .nil⟩
      r_l_deed := ⟨_, _, _, PySem.W.mg_of X G a_l_deed_, fun_mk (st := s_l_deed) l_l_deed_ c_l_deed_ k_l_deed_, (fun_mk (st := s_l_deed) l_l_deed_ c_l_deed_ k_l_deed_).binds (ps := ["_law_book", "_law_plain", "_law_way", "_law_row"]) fun _ _ _ _ _ _ => el4 (fun _ _ _ _ => rfl), .nil⟩
      r_l_seen := ⟨_, _, _, PySem.W.mg_of X G a_l_seen_, fun_mk (st := s_l_seen) l_l_seen_ c_l_seen_ k_l_seen_, (fun_mk (st := s_l_seen) l_l_seen_ c_l_seen_ k_l_seen_).binds (ps := ["_law_book", "_law_plain", "_law_row"]) fun _ _ _ _ _ _ => el3 (fun _ _ _ => rfl), .nil⟩
      r_l_same := ⟨_, _, _, PySem.W.mg_of X G a_l_same_, fun_mk (st := s_l_same) l_l_same_ c_l_same_ k_l_same_, (fun_mk (st := s_l_same) l_l_same_ c_l_same_ k_l_same_).binds (ps := ["_law_found", "_law_rows"]) fun _ _ _ _ _ _ => el2 (fun _ _ => rfl), .nil⟩
      r_l_size := ⟨_, _, _, PySem.W.mg_of X G a_l_size_, fun_mk (st := s_l_size) l_l_size_ c_l_size_ k_l_size_, (fun_mk (st := s_l_size) l_l_size_ c_l_size_ k_l_size_).binds (ps := ["_law_cell_here"]) fun _ _ _ _ _ _ => el1 (fun _ => rfl), .nil⟩
      r_l_filled := ⟨_, _, _, PySem.W.mg_of X G a_l_filled_, fun_mk (st := s_l_filled) l_l_filled_ c_l_filled_ k_l_filled_, (fun_mk (st := s_l_filled) l_l_filled_ c_l_filled_ k_l_filled_).binds (ps := ["_law_size_here", "_law_base"]) fun _ _ _ _ _ _ => el2 (fun _ _ => rfl), .nil⟩
      cl_Book := ⟨pg_Book, hd_Book, po_Book, sa_Book⟩
      na_Book_rows := zn_Book_rows
      na_Book_found := zn_Book_found
      na_Book_hand := zn_Book_hand
      r_Book_init := ⟨_, _, _, PySem.W.mg_of X G a_Book, ⟨mk_Book, a_Book_init_, i_Book_init_, kc_Book⟩, fun_mk (st := s_Book_init) l_Book_init_ c_Book_init_ k_Book_init_, (fun_mk (st := s_Book_init) l_Book_init_ c_Book_init_ k_Book_init_).binds (ps := ["self", "many"]) fun _ _ _ _ _ _ => el2 (fun _ _ => rfl), .nil⟩
      r_Book_look := ⟨_, _, _, ⟨a_Book_look_, i_Book_look_, k_Book_look_⟩, fun_mk (st := s_Book_look) l_Book_look_ c_Book_look_ k_Book_look_, (fun_mk (st := s_Book_look) l_Book_look_ c_Book_look_ k_Book_look_).binds (ps := ["self", "task", "page"]) fun _ _ _ _ _ _ => el3 (fun _ _ _ => rfl), .nil⟩
      r_Book_use := ⟨_, _, _, ⟨a_Book_use_, i_Book_use_, k_Book_use_⟩, fun_mk (st := s_Book_use) l_Book_use_ c_Book_use_ k_Book_use_, (fun_mk (st := s_Book_use) l_Book_use_ c_Book_use_ k_Book_use_).binds (ps := ["self", "task", "page"]) fun _ _ _ _ _ _ => el3 (fun _ _ _ => rfl), .nil⟩
      r_Book_keep := ⟨_, _, _, ⟨a_Book_keep_, i_Book_keep_, k_Book_keep_⟩, fun_mk (st := s_Book_keep) l_Book_keep_ c_Book_keep_ k_Book_keep_, (fun_mk (st := s_Book_keep) l_Book_keep_ c_Book_keep_ k_Book_keep_).binds (ps := ["self", "task", "page", "entry"]) fun _ _ _ _ _ _ => el4 (fun _ _ _ _ => rfl), .nil⟩
      r_Book_strike := ⟨_, _, _, ⟨a_Book_strike_, i_Book_strike_, k_Book_strike_⟩, fun_mk (st := s_Book_strike) l_Book_strike_ c_Book_strike_ k_Book_strike_, (fun_mk (st := s_Book_strike) l_Book_strike_ c_Book_strike_ k_Book_strike_).binds (ps := ["self", "task", "page"]) fun _ _ _ _ _ _ => el3 (fun _ _ _ => rfl), .nil⟩
      r_Book_strike_task := ⟨_, _, _, ⟨a_Book_strike_task_, i_Book_strike_task_, k_Book_strike_task_⟩, fun_mk (st := s_Book_strike_task) l_Book_strike_task_ c_Book_strike_task_ k_Book_strike_task_, (fun_mk (st := s_Book_strike_task) l_Book_strike_task_ c_Book_strike_task_ k_Book_strike_task_).binds (ps := ["self", "task"]) fun _ _ _ _ _ _ => el2 (fun _ _ => rfl), .nil⟩
      r_Book_told := ⟨_, _, _, ⟨a_Book_told_, i_Book_told_, k_Book_told_⟩, fun_mk (st := s_Book_told) l_Book_told_ c_Book_told_ k_Book_told_, (fun_mk (st := s_Book_told) l_Book_told_ c_Book_told_ k_Book_told_).binds (ps := ["self"]) fun _ _ _ _ _ _ => el1 (fun _ => rfl), .nil⟩
      r_Book_place_for_new := ⟨_, _, _, ⟨a_Book_place_for_new_, i_Book_place_for_new_, k_Book_place_for_new_⟩, fun_mk (st := s_Book_place_for_new) l_Book_place_for_new_ c_Book_place_for_new_ k_Book_place_for_new_, (fun_mk (st := s_Book_place_for_new) l_Book_place_for_new_ c_Book_place_for_new_ k_Book_place_for_new_).binds (ps := ["self"]) fun _ _ _ _ _ _ => el1 (fun _ => rfl), .nil⟩
      r_law := ⟨_, _, PySem.W.mg_of X G a_law_, fun_mk (st := s_law) l_law_ c_law_ k_law_, fun _ _ => .of_eq rfl⟩
    }⟩

section
variable {P : Program} {w : World} {K : PySem.W.Frag} {mg : Str → Option Value} {base : Heap} {A : Adr}
theorem same_put {H H' : Hp} {t : Addr} {o : HO} (s : Same H H') (h : H t = none) : Same H (upd H' t o) := fun b u e => by
  rw [upd_ne (ne_of_none e h)]; exact s b u e

theorem same_none {H H' : Hp} {p : Addr} (s : Same H H') (h : H' p = none) : H p = none := by
  cases e : H p with
  | none => rfl
  | some o => rw [s p o e] at h; cases h

def sp_cell (K : PySem.W.Frag) (a : Addr) (ns : List Int) : Sp := fun vs H Q _ => ∃ (k : Int), vs = [.ref a, .int k] ∧ SqL K H a (ns.map V.int) ∧ 0 ≤ k ∧ Q (.int (ns.getD k.toNat 0)) H
theorem h_cell (T : Txt K mg A) (a : Addr) (ns : List Int) : Have P w K mg base "_law_cell" 1 ["_law_script", "_law_k"] [] (sp_cell K a ns) := by
  refine T.r_l_cell.have sc_l_cell (fun vs H Q E z => ?_) ?_
  · obtain ⟨k, rfl, _⟩ := z; rfl
  · intro f cdv A' outer s H vs Q E hr z
    obtain ⟨k, rfl, hs, hk, q⟩ := z
    refine ⟨_, (pss_cons (ps_if (pt_cmpR op_lt (pv 1) (pe_callB call_len rfl T.b_len PySem.boot_len (pa_cons (pv 0) pa_nil)) (nomark _)) (pss_one (ps_ret (pe_ix ix_list (pv 0) (pv 1) (fun _ _ => rfl)))) pss_nil)
      (pss_one (ps_ret pe_int))), ?_⟩
    walk_at "wp"
    refine ⟨ns.length, .inl ⟨_, hs, by simp⟩, ?_⟩
    by_cases c : k < (ns.length : Int)
    · rw [if_pos c]
      refine ⟨_, hs, .int (ns.getD k.toNat 0), ?_, q⟩
      have hlt : k.toNat < ns.length := by omega
      have e : atI (ns.map V.int) ((k.toNat : Nat) : Int) = some (.int (ns.getD k.toNat 0)) := atI_nat (by simp [hlt])
      rw [show ((k.toNat : Nat) : Int) = k by omega] at e
      exact e
    · rw [if_neg c]
      have hge : ns.length ≤ k.toNat := by omega
      rw [show ns.getD k.toNat 0 = 0 by simp [List.getD, hge]] at q
      exact q

structure Rw where
  t : Int
  g : Int
  e : Int
  u : Bool
def RowAt (H : Hp) (v : V) : Option Rw → Prop
  | none => v = .non
  | some r => ∃ a, v = .ref a ∧ H a = some (.tup [.int r.t, .int r.g, .int r.e, .bl r.u])
abbrev RsAt (H : Hp) : List V → List (Option Rw) → Prop := Paired (RowAt H)
theorem RowAt.same {H H' : Hp} (s : Same H H') {v : V} : ∀ {r : Option Rw}, RowAt H v r → RowAt H' v r
  | none, h => h
  | some _, ⟨a, e, h⟩ => ⟨a, e, s _ _ h⟩
theorem RsAt.same {H H' : Hp} (s : Same H H') {vs : List V} {rs : List (Option Rw)} (h : RsAt H vs rs) : RsAt H' vs rs := Paired.mapP h fun _ _ q => q.same s
def isK (t g : Int) : Option Rw → Bool
  | none => false
  | some r => decide (r.t = t) && decide (r.g = g)
def fnd (rows : List (Option Rw)) (t g : Int) : Option Nat := rows.findIdx? (isK t g)
def ky (t g : Int) : List Key := [.inl t, .inl g]
def Lnk (rows : List (Option Rw)) (kvs : List (List Key × V)) : Prop := (∀ t g, valV kvs (ky t g) = (fnd rows t g).map fun (j : Nat) => V.int (j : Int)) ∧ ∀ x ∈ kvs, ∃ t g, x.1 = ky t g
def bkF (ra fa : Addr) (hd : Int) : List (Str × V) := putF "hand" (.int hd) (putF "found" (.ref fa) (putF "rows" (.ref ra) []))
theorem bkF_rows {ra fa : Addr} {hd : Int} : (bkF ra fa hd).lookup ("rows" : Str) = some (.ref ra) := by rfl
theorem bkF_found {ra fa : Addr} {hd : Int} : (bkF ra fa hd).lookup ("found" : Str) = some (.ref fa) := by rfl
theorem bkF_no {ra fa : Addr} {hd : Int} {m : Str} (h : ¬ m ∈ (["rows", "found", "hand"] : List Str)) : (bkF ra fa hd).lookup m = none := by
  simp only [List.mem_cons, List.not_mem_nil, or_false, not_or] at h
  unfold bkF
  simp only [lookup_putF, h.1, h.2.1, h.2.2, if_false]
  rfl
def BkAt (C : Addr) (H : Hp) (p ra fa : Addr) (rows : List (Option Rw)) (n : Nat) (hd : Int) : Prop := ∃ dx vs kvs, H p = some (.ins C dx (bkF ra fa hd)) ∧ H ra = some (.lst vs) ∧ RsAt H vs rows ∧ H fa = some (.dT kvs) ∧ Lnk rows kvs ∧ kvs.length ≤ n
theorem BkAt.same {C : Addr} {H H' : Hp} {p ra fa : Addr} {rows : List (Option Rw)} {n : Nat} {hd : Int} (h : BkAt C H p ra fa rows n hd) (s : Same H H') : BkAt C H' p ra fa rows n hd := let ⟨dx, vs, kvs, h1, h2, h3, h4, h5, h6⟩ := h; ⟨dx, vs, kvs, s _ _ h1, s _ _ h2, h3.same s, s _ _ h4, h5, h6⟩
def Kp (ex : List Addr) (H H' : Hp) : Prop := ∀ c o, H c = some o → c ∉ ex → H' c = some o
theorem prd_get {α β : Type} {F : α → β → Prop} : ∀ {xs : List α} {ys : List β} {i : Nat} {x : α}, Paired F xs ys → xs[i]? = some x → ∃ y, ys[i]? = some y ∧ F x y
  | _, _, _, _, .nil, e => by simp at e
  | _, _, 0, _, .cons r _, e => by simp at e; subst e; exact ⟨_, rfl, r⟩
  | _, _, i + 1, x, .cons _ t, e => by
    obtain ⟨u, h1, h2⟩ := prd_get (i := i) (x := x) t (by simpa using e)
    exact ⟨u, by simpa using h1, h2⟩
theorem prd_get2 {α β : Type} {F : α → β → Prop} : ∀ {xs : List α} {ys : List β} {i : Nat} {y : β}, Paired F xs ys → ys[i]? = some y → ∃ x, xs[i]? = some x ∧ F x y
  | _, _, _, _, .nil, e => by simp at e
  | _, _, 0, _, .cons r _, e => by simp at e; subst e; exact ⟨_, rfl, r⟩
  | _, _, i + 1, y, .cons _ t, e => by
    obtain ⟨u, h1, h2⟩ := prd_get2 (i := i) (y := y) t (by simpa using e)
    exact ⟨u, by simpa using h1, h2⟩
theorem prd_set {α β : Type} {F : α → β → Prop} {x : α} {y : β} (hxy : F x y) : ∀ {xs : List α} {ys : List β} (i : Nat), Paired F xs ys → Paired F (xs.set i x) (ys.set i y)
  | _, _, _, .nil => .nil
  | _, _, 0, .cons _ t => .cons hxy t
  | _, _, i + 1, .cons r t => .cons r (prd_set hxy i t)
theorem fnd_some {rows : List (Option Rw)} {t g : Int} {j : Nat} (h : fnd rows t g = some j) : ∃ r : Rw, rows[j]? = some (some r) ∧ r.t = t ∧ r.g = g := by
  obtain ⟨hj, h1, _⟩ := List.findIdx?_eq_some_iff_getElem.mp h
  cases e : rows[j] with
  | none => rw [e] at h1; cases h1
  | some r =>
    rw [e] at h1
    have h1 : (decide (r.t = t) && decide (r.g = g)) = true := h1
    rw [Bool.and_eq_true] at h1
    exact ⟨r, by rw [List.getElem?_eq_getElem hj, e], of_decide_eq_true h1.1, of_decide_eq_true h1.2⟩
theorem RowAt.same2 {H : Hp} {a : Addr} {xs : List V} {o : HO} (hx : H a = some (.lst xs)) {v : V} : ∀ {r : Option Rw}, RowAt H v r → RowAt (upd H a o) v r
  | none, h => h
  | some _, ⟨b, e, h⟩ => ⟨b, e, by rw [upd_ne (fun z => by rw [z, hx] at h; cases h)]; exact h⟩
theorem RsAt.same2 {H : Hp} {a : Addr} {xs : List V} {o : HO} (hx : H a = some (.lst xs)) {vs : List V} {rs : List (Option Rw)} (h : RsAt H vs rs) : RsAt (upd H a o) vs rs := Paired.mapP h fun _ _ q => q.same2 hx
theorem RowAt.sameD {H : Hp} {a : Addr} {xs : List (List Key × V)} {o : HO} (hx : H a = some (.dT xs)) {v : V} : ∀ {r : Option Rw}, RowAt H v r → RowAt (upd H a o) v r
  | none, h => h
  | some _, ⟨b, e, h⟩ => ⟨b, e, by rw [upd_ne (fun z => by rw [z, hx] at h; cases h)]; exact h⟩
theorem RsAt.sameD {H : Hp} {a : Addr} {xs : List (List Key × V)} {o : HO} (hx : H a = some (.dT xs)) {vs : List V} {rs : List (Option Rw)} (h : RsAt H vs rs) : RsAt (upd H a o) vs rs := Paired.mapP h fun _ _ q => q.sameD hx
theorem fi_set {α : Type} {p : α → Bool} {x y : α} (e : p y = p x) : ∀ {l : List α} {j : Nat}, l[j]? = some x → (l.set j y).findIdx? p = l.findIdx? p
  | [], _, h => by simp at h
  | z :: l, 0, h => by
    simp at h
    subst h
    rw [List.set_cons_zero, List.findIdx?_cons, List.findIdx?_cons, e]
  | z :: l, j + 1, h => by
    rw [List.set_cons_succ, List.findIdx?_cons, List.findIdx?_cons, fi_set e (by simpa using h)]
theorem fi_new {α : Type} {p : α → Bool} {y : α} (e : p y = true) : ∀ {l : List α} {j : Nat}, l.findIdx? p = none → j < l.length → (l.set j y).findIdx? p = some j
  | [], _, _, h => by simp at h
  | z :: l, 0, _, _ => by rw [List.set_cons_zero, List.findIdx?_cons, e]; rfl
  | z :: l, j + 1, hn, h => by
    rw [List.findIdx?_cons] at hn
    cases hz : p z with
    | true => rw [hz] at hn; cases hn
    | false =>
      rw [hz] at hn
      have hn : (l.findIdx? p).map (· + 1) = none := by simpa using hn
      rw [List.set_cons_succ, List.findIdx?_cons, hz, fi_new e (Option.map_eq_none_iff.mp hn) (by simpa using h)]
      rfl
theorem lnk_set {rows : List (Option Rw)} {kvs : List (List Key × V)} {j : Nat} {r r' : Rw} (h : Lnk rows kvs) (hj : rows[j]? = some (some r)) (ht : r'.t = r.t) (hg : r'.g = r.g) : Lnk (rows.set j (some r')) kvs := ⟨fun t g => by
  rw [h.1 t g]
  unfold fnd
  rw [fi_set (x := some r) (by show (decide (r'.t = t) && decide (r'.g = g)) = (decide (r.t = t) && decide (r.g = g)); rw [ht, hg]) hj], h.2⟩
theorem lnk_new {rows : List (Option Rw)} {kvs : List (List Key × V)} {j : Nat} {r : Rw} (h : Lnk rows kvs) (hj : rows[j]? = some none) (hn : fnd rows r.t r.g = none) : Lnk (rows.set j (some r)) (putK kvs (ky r.t r.g) (.int (j : Int))) := by
  refine ⟨fun t g => ?_, fun x hx => ?_⟩
  rotate_left
  · have hval : valV kvs (ky r.t r.g) = none := by rw [h.1, hn]; rfl
    rw [putK_new _ hval] at hx
    rcases List.mem_append.mp hx with hx | hx
    · exact h.2 x hx
    · rw [List.mem_singleton.mp hx]; exact ⟨_, _, rfl⟩
  rw [valV_put, h.1 t g]
  by_cases c : ky t g = ky r.t r.g
  · rw [if_pos c]
    have c1 : t = r.t := by injection c with a b; injection a
    have c2 : g = r.g := by injection c with a b; injection b with b _; injection b
    subst c1 c2
    unfold fnd
    rw [fi_new (by show (decide (r.t = r.t) && decide (r.g = r.g)) = true; simp) hn (List.getElem?_eq_some_iff.mp hj).1]
    rfl
  · rw [if_neg c]
    unfold fnd
    rw [fi_set (x := none) (by
      show (decide (r.t = t) && decide (r.g = g)) = false
      rw [Bool.and_eq_false_iff]
      by_cases d : r.t = t
      · refine .inr (decide_eq_false fun d2 => c ?_)
        rw [← d, ← d2]
      · exact .inl (decide_eq_false d)) hj]
def useR (rows : List (Option Rw)) (t g : Int) : List (Option Rw) := match fnd rows t g with
  | none => rows
  | some j => match rows[j]? with
    | some (some r) => rows.set j (some ⟨t, g, r.e, true⟩)
    | _ => rows
def lookE (rows : List (Option Rw)) (t g : Int) : V := match fnd rows t g with
  | none => .non
  | some j => match rows[j]? with
    | some (some r) => .int r.e
    | _ => .non

def sp_no : Sp := fun _ _ _ _ => False
def sp_look (C : Addr) : Sp := fun vs H Q _ => ∃ (p ra fa : Addr) (rows : List (Option Rw)) (n : Nat) (hd : Int) (t g : Int), vs = [.ref p, .int t, .int g] ∧ BkAt C H p ra fa rows n hd ∧ ∀ H', Same H H' → Q (lookE rows t g) H'
theorem h_look (T : Txt K mg A) : HaveM P w K mg base A.C_Book "look" 1 ["self", "task", "page"] [] (sp_look A.C_Book) := by
  refine T.r_Book_look.have sc_Book_look (fun vs H Q E z => ?_) ?_
  · obtain ⟨p, ra, fa, rows, n, hd, t, g, rfl, _⟩ := z; rfl
  · intro f cdv A' outer s H vs Q E hr z
    obtain ⟨p, ra, fa, rows, n, hd, t, g, rfl, hB, q⟩ := z
    obtain ⟨dx, vs, kvs, h1, h2, h3, h4, h5, h6⟩ := id hB
    refine ⟨_, (pss_cons (ps_set (i := 3) sc_Book_look.nd rfl (Or.inl rfl) (pe_dget1 (hu_of hr) (pe_fld (pv 0) rfl) (pe_tup (pa_cons (pv 1) (pa_cons (pv 2) pa_nil))) ⟨rfl, rfl, rfl, rfl⟩))
      (pss_one (ps_ret (pe_ifExp (pt_cmpR op_isN (pv 3) pe_non (nomark _)) pe_non (pe_ix ix_tup (pe_ix ix_list (pe_fld (pv 0) rfl) (pv 3) (fun _ _ => rfl)) pe_int (fun _ _ => rfl)))))), ?_⟩
    unfold tDGet1
    walk_at "wp"
    simp only [h1]
    walk_at "wp"
    refine ⟨T.cl_Book, T.na_Book_found, _, bkF_found, fa, rfl, .inr ⟨kvs, .inl h4⟩, fun kp hkp => ?_⟩
    have b1 := same_upd (o := .tup [V.int t, V.int g]) (same_refl (H := H)) hkp
    refine ⟨_, DGet.t (k := ky t g) (b1 _ _ h4) upd_same, ?_⟩
    have q := q _ b1
    unfold lookE at q
    rw [h5.1 t g]
    cases e : fnd rows t g with
    | none =>
      rw [e] at q
      show if V.non = V.non then _ else _
      rw [if_pos rfl]
      exact q
    | some j =>
      obtain ⟨r, hr1, rt, rg⟩ := fnd_some e
      obtain ⟨x, hx, c, rfl, hc⟩ := prd_get2 h3 hr1
      rw [e] at q
      simp only [hr1] at q
      rw [if_neg (fun z => nomatch z)]
      exact ⟨_, dx, _, b1 _ _ h1, T.cl_Book, T.na_Book_rows, _, bkF_rows, ra, rfl, vs, _, rfl, SqL.of (b1 _ _ h2), _, atI_nat hx, c, rfl, _, SqT.of (b1 _ _ hc), _, rfl, q⟩
def sp_use (C : Addr) : Sp := fun vs H Q _ => ∃ (p ra fa : Addr) (rows : List (Option Rw)) (n : Nat) (hd : Int) (t g : Int), vs = [.ref p, .int t, .int g] ∧ BkAt C H p ra fa rows n hd ∧ ∀ H', BkAt C H' p ra fa (useR rows t g) n hd → Kp [ra] H H' → Q .non H'
theorem h_use (T : Txt K mg A) : HaveM P w K mg base A.C_Book "use" 1 ["self", "task", "page"] [] (sp_use A.C_Book) := by
  refine T.r_Book_use.have sc_Book_use (fun vs H Q E z => ?_) ?_
  · obtain ⟨p, ra, fa, rows, n, hd, t, g, rfl, _⟩ := z; rfl
  · intro f cdv A' outer s H vs Q E hr z
    obtain ⟨p, ra, fa, rows, n, hd, t, g, rfl, hB, q⟩ := z
    obtain ⟨dx, vs, kvs, h1, h2, h3, h4, h5, h6⟩ := id hB
    refine ⟨_, (pss_cons (ps_set (i := 3) sc_Book_use.nd rfl (Or.inl rfl) (pe_dget1 (hu_of hr) (pe_fld (pv 0) rfl) (pe_tup (pa_cons (pv 1) (pa_cons (pv 2) pa_nil))) ⟨rfl, rfl, rfl, rfl⟩))
      (pss_one (ps_if (pt_cmpR op_notN (pv 3) pe_non (nomark _)) (pss_one (ps_asg (pe_tup (pa_cons (pv 1) (pa_cons (pv 2) (pa_cons (pe_ix ix_tup (pe_ix ix_list (pe_fld (pv 0) rfl) (pv 3) (fun _ _ => rfl)) pe_int (fun _ _ => rfl)) (pa_cons pe_bl pa_nil))))) (pg_sub (pe_fld (pv 0) rfl) (pv 3) set_list))) pss_nil))), ?_⟩
    unfold tDGet1
    walk_at "wp"
    simp only [h1]
    walk_at "wp"
    refine ⟨T.cl_Book, T.na_Book_found, _, bkF_found, fa, rfl, .inr ⟨kvs, .inl h4⟩, fun kp hkp => ?_⟩
    have b1 := same_upd (o := .tup [V.int t, V.int g]) (same_refl (H := H)) hkp
    refine ⟨_, DGet.t (k := ky t g) (b1 _ _ h4) upd_same, ?_⟩
    unfold useR at q
    rw [h5.1 t g]
    cases e : fnd rows t g with
    | none =>
      simp only [e] at q
      rw [if_neg (by decide)]
      exact q _ (hB.same b1) fun c o hc _ => b1 _ _ hc
    | some j =>
      obtain ⟨r, hr1, rt, rg⟩ := fnd_some e
      obtain ⟨x, hx, c, rfl, hc⟩ := prd_get2 h3 hr1
      simp only [e, hr1] at q
      refine iteT ⟨_, dx, _, b1 _ _ h1, T.cl_Book, T.na_Book_rows, _, bkF_rows, ra, rfl, vs, _, rfl, SqL.of (b1 _ _ h2), _, atI_nat hx, c, rfl, _, SqT.of (b1 _ _ hc), _, rfl, fun np hnp => ?_⟩
      have b2 := same_upd (o := .tup [V.int t, V.int g, V.int r.e, V.bl true]) b1 hnp
      have b2' := same_upd (o := .tup [V.int t, V.int g, V.int r.e, V.bl true]) (same_refl (H := upd H kp (.tup [V.int t, V.int g]))) hnp
      have hr2 := b2 _ _ h2
      have npr : np ≠ ra := fun z => by rw [z, b1 _ _ h2] at hnp; cases hnp
      have hvl : j < vs.length := (List.getElem?_eq_some_iff.mp hx).1
      refine ⟨_, dx, _, b2 _ _ h1, T.cl_Book, T.na_Book_rows, _, bkF_rows, ra, rfl, vs, _, rfl, hr2, j, by unfold ixN; rw [if_pos (by omega), if_pos (by omega)]; rfl, ?_⟩
      refine q _ ⟨dx, vs.set j (.ref np), kvs, ?_, upd_same, ?_, ?_, lnk_set h5 hr1 rt.symm rg.symm, h6⟩ ?_
      · rw [upd_ne (fun z => by rw [z, h2] at h1; cases h1)]; exact b2 _ _ h1
      · exact prd_set (F := RowAt _) (show RowAt _ (V.ref np) (some _) from ⟨np, rfl, by rw [upd_ne npr, upd_same]⟩) j (RsAt.same2 hr2 (h3.same b2))
      · rw [upd_ne (fun z => by rw [z, h2] at h4; cases h4)]; exact b2 _ _ h4
      · intro c o hc hx
        rw [upd_ne (fun z => hx (by simp [z]))]
        exact b2 _ _ hc
theorem h_strike (T : Txt K mg A) : HaveM P w K mg base A.C_Book "strike" 1 ["self", "task", "page"] [] sp_no := T.r_Book_strike.have sc_Book_strike (fun vs H Q E z => False.elim z) (fun _ _ _ _ _ _ _ _ _ _ z => False.elim z)
theorem h_swept (T : Txt K mg A) : Have P w K mg base "swept" 1 ["marks", "hand"] [] sp_no := T.r_swept.have sc_swept (fun vs H Q E z => False.elim z) (fun _ _ _ _ _ _ _ _ _ _ z => False.elim z)
def sp_new (C : Addr) : Sp := fun vs H Q _ => ∃ (p ra fa : Addr) (rows : List (Option Rw)) (n j : Nat) (hd : Int), vs = [.ref p] ∧ BkAt C H p ra fa rows n hd ∧ rows.findIdx? Option.isNone = some j ∧ Q (.int j) H
theorem h_new (T : Txt K mg A) : HaveM P w K mg base A.C_Book "place_for_new" 2 ["self"] [] (sp_new A.C_Book) := by
  have H_swept := h_swept (P := P) (w := w) (base := base) T
  have H_Book_strike := h_strike (P := P) (w := w) (base := base) T
  refine T.r_Book_place_for_new.have sc_Book_place_for_new (fun vs H Q E z => ?_) ?_
  · obtain ⟨p, ra, fa, rows, n, j, hd, rfl, _⟩ := z; rfl
  · intro f cdv A' outer s H vs Q E hr z
    obtain ⟨p, ra, fa, rows, n, j, hd, rfl, hB, hj, q⟩ := z
    obtain ⟨dx, vs, kvs, h1, h2, h3, h4, h5, h6⟩ := id hB
    refine ⟨_, (pss_cons (ps_if (pt_cmpR (op_inN (hu6 hr)) pe_non (pe_fld (pv 0) rfl) (by with_unfolding_all rfl)) (pss_one (ps_ret (pe_bm PySem.F.plainAttrs_list PySem.F.slot_list_index PySem.F.type_list_index (mt_indexN (hu6 hr)) (pe_fld (pv 0) rfl) (pa_cons pe_non pa_nil)))) pss_nil)
      (pss_cons (ps_set (i := 1) sc_Book_place_for_new.nd rfl (Or.inl rfl) (pe_callE H_swept (hr.mono (by decide)) xw_def (pa_cons (pe_comp rfl (pi_list (pe_fld (pv 0) rfl)) (x := "row") (fs := []) (ix := []) rfl rfl (fun _ _ _ _ _ _ => (pg_name (i := 0) (show (["row"] : List Str).Nodup by decide +kernel) rfl (Or.inl rfl))) (fun _ _ _ _ _ _ => pf_nil) (fun _ _ _ _ _ _ => (pe_ix (ix_tupC (K := K) rfl) (pv 0) pe_int (fun _ _ => rfl)))) (pa_cons (pe_fld (pv 0) rfl) pa_nil))))
      (pss_cons (ps_forE PassesOwn.leaving rfl (pi_list (pe_ix ix_tup (pv 1) pe_int (fun _ _ => rfl))) (pg_name (i := 2) sc_Book_place_for_new.nd rfl (Or.inl rfl)) (pss_cons (ps_set (i := 3) sc_Book_place_for_new.nd rfl (Or.inl rfl) (pe_ix ix_list (pe_fld (pv 0) rfl) (pv 2) (fun _ _ => rfl)))
      (pss_one (ps_asg (pe_tup (pa_cons (pe_ix ix_tup (pv 3) pe_int (fun _ _ => rfl)) (pa_cons (pe_ix ix_tup (pv 3) pe_int (fun _ _ => rfl)) (pa_cons (pe_ix ix_tup (pv 3) pe_int (fun _ _ => rfl)) (pa_cons pe_bl pa_nil))))) (pg_sub (pe_fld (pv 0) rfl) (pv 2) set_list)))))
      (pss_cons (ps_set (i := 4) sc_Book_place_for_new.nd rfl (Or.inl rfl) (pe_ix ix_list (pe_fld (pv 0) rfl) (pe_ix ix_tup (pv 1) pe_int (fun _ _ => rfl)) (fun _ _ => rfl)))
      (pss_cons (ps_expr (pe_methE (pv 0) T.cl_Book H_Book_strike (hr.mono (by decide)) xw_def (pa_cons (pe_ix ix_tup (pv 4) pe_int (fun _ _ => rfl)) (pa_cons (pe_ix ix_tup (pv 4) pe_int (fun _ _ => rfl)) pa_nil))))
      (pss_cons (ps_fld (pv 0) (pe_op op_mod (pe_op op_add (pe_ix ix_tup (pv 1) pe_int (fun _ _ => rfl)) pe_int) (pe_callB call_len rfl T.b_len PySem.boot_len (pa_cons (pe_fld (pv 0) rfl) pa_nil))) rfl)
      (pss_one (ps_ret (pe_ix ix_tup (pv 1) pe_int (fun _ _ => rfl)))))))))), ?_⟩
    unfold sp_no
    walk_at "wp"
    simp only [h1]
    walk_at "wp"
    have hn : ∀ z ∈ vs, NTup K H z := fun z hz => by
      obtain ⟨i, hi⟩ := List.mem_iff_getElem?.mp hz
      obtain ⟨y, _, hy⟩ := prd_get h3 hi
      cases y with
      | none => exact .inl hy
      | some r => obtain ⟨a, e, h⟩ := hy; exact .inr ⟨a, _, e, SqT.of h⟩
    have e1 : ∀ {vs : List V} {rows : List (Option Rw)}, RsAt H vs rows → vs.findIdx? isN = rows.findIdx? Option.isNone := fun h => by
      induction h with
      | nil => rfl
      | cons r t ih =>
        rename_i x y xs ys
        rw [List.findIdx?_cons, List.findIdx?_cons, ih]
        have : isN x = y.isNone := by
          cases y with
          | none => have r : x = .non := r; rw [r]; rfl
          | some y => obtain ⟨a, e, _⟩ := r; rw [e]; rfl
        rw [this]
    have ej : vs.findIdx? isN = some j := (e1 h3).trans hj
    have ha : vs.any isN = true := by
      obtain ⟨hl, h1, _⟩ := List.findIdx?_eq_some_iff_getElem.mp ej
      exact List.any_eq_true.mpr ⟨_, List.getElem_mem hl, h1⟩
    refine ⟨T.cl_Book, T.na_Book_rows, _, bkF_rows, ra, vs, rfl, rfl, SqL.of h2, hn, true, by rw [ha], ?_⟩
    exact iteT ⟨_, dx, _, h1, T.cl_Book, T.na_Book_rows, _, bkF_rows, .inl ⟨rfl, _, SqL.of h2⟩, ra, vs, j, rfl, rfl, SqL.of h2, hn, ej, q⟩
def keepR (rows : List (Option Rw)) (t g e : Int) (j0 : Nat) : List (Option Rw) := match fnd rows t g with
  | none => rows.set j0 (some ⟨t, g, e, false⟩)
  | some j => match rows[j]? with
    | some (some r) => rows.set j (some ⟨t, g, e, r.u⟩)
    | _ => rows
def sp_keep (C : Addr) : Sp := fun vs H Q _ => ∃ (p ra fa : Addr) (rows : List (Option Rw)) (n j0 : Nat) (hd : Int) (t g e : Int), vs = [.ref p, .int t, .int g, .int e] ∧ BkAt C H p ra fa rows n hd ∧ n < 1000000 ∧ 0 < rows.length ∧ (fnd rows t g = none → rows.findIdx? Option.isNone = some j0) ∧ ∀ H', BkAt C H' p ra fa (keepR rows t g e j0) (n + 1) hd → Kp [ra, fa] H H' → Q .non H'
theorem b_keep (T : Txt K mg A) : Body P w K mg base "Book.keep" s_Book_keep ["self", "task", "page", "entry", "place"] 2 (sp_keep A.C_Book) := by
  have H_Book_place_for_new := h_new (P := P) (w := w) (base := base) T
  · intro f cdv A' outer s H vs Q E hr z
    obtain ⟨p, ra, fa, rows, n, j0, hd, t, g, e, rfl, hB, hn, h0, hj0, q⟩ := z
    obtain ⟨dx, vs, kvs, h1, h2, h3, h4, h5, h6⟩ := id hB
    have hvl := Paired.length h3
    refine ⟨_, (pss_cons (ps_if (pt_cmpR op_eq (pe_callB call_len rfl T.b_len PySem.boot_len (pa_cons (pe_fld (pv 0) rfl) pa_nil)) pe_int (nomark _)) (pss_one ps_retN) pss_nil)
      (pss_cons (ps_set (i := 4) sc_Book_keep.nd rfl (Or.inl rfl) (pe_dget1 (hu_of hr) (pe_fld (pv 0) rfl) (pe_tup (pa_cons (pv 1) (pa_cons (pv 2) pa_nil))) ⟨rfl, rfl, rfl, rfl⟩))
      (pss_cons (ps_if (pt_cmpR op_notN (pv 4) pe_non (nomark _)) (pss_cons (ps_asg (pe_tup (pa_cons (pv 1) (pa_cons (pv 2) (pa_cons (pv 3) (pa_cons (pe_ix ix_tup (pe_ix ix_list (pe_fld (pv 0) rfl) (pv 4) (fun _ _ => rfl)) pe_int (fun _ _ => rfl)) pa_nil))))) (pg_sub (pe_fld (pv 0) rfl) (pv 4) set_list))
      (pss_one ps_retN)) pss_nil)
      (pss_cons (ps_set (i := 4) sc_Book_keep.nd rfl (Or.inl rfl) (pe_methE0 (pv 0) T.cl_Book H_Book_place_for_new (hr.mono (by decide)) xw_def))
      (pss_cons (ps_asg (pe_tup (pa_cons (pv 1) (pa_cons (pv 2) (pa_cons (pv 3) (pa_cons pe_bl pa_nil))))) (pg_sub (pe_fld (pv 0) rfl) (pv 4) set_list))
      (pss_one (ps_dput (hu_of hr) (pe_fld (pv 0) rfl) (pe_tup (pa_cons (pv 1) (pa_cons (pv 2) pa_nil))) (pv 4) rfl))))))), ?_⟩
    unfold tDGet1 sp_new sDPut
    walk_at "wp"
    simp only [h1]
    walk_at "wp"
    refine ⟨T.cl_Book, T.na_Book_rows, _, bkF_rows, _, .inl ⟨_, SqL.of h2, rfl⟩, ?_⟩
    rw [if_neg (by omega)]
    refine ⟨T.cl_Book, T.na_Book_found, _, bkF_found, fa, rfl, .inr ⟨kvs, .inl h4⟩, fun kp hkp => ?_⟩
    have b1 := same_upd (o := .tup [V.int t, V.int g]) (same_refl (H := H)) hkp
    have hkp' : upd H kp (.tup [V.int t, V.int g]) kp = some (.tup [V.int t, V.int g]) := upd_same
    generalize upd H kp (.tup [V.int t, V.int g]) = H1 at *
    refine ⟨_, DGet.t (k := ky t g) (b1 _ _ h4) hkp', ?_⟩
    unfold keepR at q
    rw [h5.1 t g]
    cases e2 : fnd rows t g with
    | some j =>
      obtain ⟨r, hr1, rt, rg⟩ := fnd_some e2
      obtain ⟨x, hx, c, rfl, hc⟩ := prd_get2 h3 hr1
      simp only [e2, hr1] at q
      refine iteT ⟨_, dx, _, b1 _ _ h1, T.cl_Book, T.na_Book_rows, _, bkF_rows, ra, rfl, vs, _, rfl, SqL.of (b1 _ _ h2), _, atI_nat hx, c, rfl, _, SqT.of (b1 _ _ hc), _, rfl, fun np hnp => ?_⟩
      have b2 := same_upd (o := .tup [V.int t, V.int g, V.int e, V.bl r.u]) b1 hnp
      have hr2 := b2 _ _ h2
      have npr : np ≠ ra := fun z => by rw [z, b1 _ _ h2] at hnp; cases hnp
      have hvl : j < vs.length := (List.getElem?_eq_some_iff.mp hx).1
      refine ⟨_, dx, _, b2 _ _ h1, T.cl_Book, T.na_Book_rows, _, bkF_rows, ra, rfl, vs, _, rfl, hr2, j, by unfold ixN; rw [if_pos (by omega), if_pos (by omega)]; rfl, ?_⟩
      refine q _ ⟨dx, vs.set j (.ref np), kvs, ?_, upd_same, ?_, ?_, lnk_set h5 hr1 rt.symm rg.symm, by omega⟩ ?_
      · rw [upd_ne (fun z => by rw [z, h2] at h1; cases h1)]; exact b2 _ _ h1
      · exact prd_set (F := RowAt _) (show RowAt _ (V.ref np) (some _) from ⟨np, rfl, by rw [upd_ne npr, upd_same]⟩) j (RsAt.same2 hr2 (h3.same b2))
      · rw [upd_ne (fun z => by rw [z, h2] at h4; cases h4)]; exact b2 _ _ h4
      · intro c o hc hx
        rw [upd_ne (fun z => hx (by simp [z]))]
        exact b2 _ _ hc
    | none =>
      simp only [e2] at q
      have hj := hj0 e2
      obtain ⟨hjl, hjn, _⟩ := List.findIdx?_eq_some_iff_getElem.mp hj
      rw [if_neg (by decide)]
      refine ⟨dx, _, b1 _ _ h1, bkF_no (by decide +kernel), ra, fa, rows, n, j0, hd, hB.same b1, hj, fun np hnp => ?_⟩
      have hrn : rows[j0]? = some none := by
        rw [List.getElem?_eq_getElem hjl]
        cases ec : rows[j0] with
        | none => rfl
        | some r => rw [ec] at hjn; cases hjn
      have b2 := same_upd (o := .tup [V.int t, V.int g, V.int e, V.bl false]) b1 hnp
      have hnp' : upd H1 np (.tup [V.int t, V.int g, V.int e, V.bl false]) np = some (.tup [V.int t, V.int g, V.int e, V.bl false]) := upd_same
      have npr : np ≠ ra := fun z => by rw [z, b1 _ _ h2] at hnp; cases hnp
      generalize upd H1 np (.tup [V.int t, V.int g, V.int e, V.bl false]) = H2 at *
      have hr2 := b2 _ _ h2
      have hpr : p ≠ ra := fun z => by rw [z, h2] at h1; cases h1
      have hfr : fa ≠ ra := fun z => by rw [z, h2] at h4; cases h4
      have hpf : p ≠ fa := fun z => by rw [z, h4] at h1; cases h1
      refine ⟨_, dx, _, b2 _ _ h1, T.cl_Book, T.na_Book_rows, _, bkF_rows, ra, rfl, vs, hr2, j0, by unfold ixN; rw [if_pos (by omega), if_pos (by omega)]; rfl, ?_⟩
      have k1 : upd H2 ra (.lst (vs.set j0 (V.ref np))) p = some (.ins A.C_Book dx (bkF ra fa hd)) := by rw [upd_ne hpr]; exact b2 _ _ h1
      have k2 : upd H2 ra (.lst (vs.set j0 (V.ref np))) ra = some (.lst (vs.set j0 (V.ref np))) := upd_same
      have k3 : RsAt (upd H2 ra (.lst (vs.set j0 (V.ref np)))) (vs.set j0 (V.ref np)) (rows.set j0 (some ⟨t, g, e, false⟩)) := prd_set (F := RowAt _) (show RowAt _ (V.ref np) (some _) from ⟨np, rfl, by rw [upd_ne npr]; exact hnp'⟩) j0 (RsAt.same2 hr2 (h3.same b2))
      have k4 : upd H2 ra (.lst (vs.set j0 (V.ref np))) fa = some (.dT kvs) := by rw [upd_ne hfr]; exact b2 _ _ h4
      have kf : Kp [ra, fa] H (upd H2 ra (.lst (vs.set j0 (V.ref np)))) := fun c o hc hx => by
        rw [upd_ne (fun z => hx (by simp [z]))]
        exact b2 _ _ hc
      generalize upd H2 ra (.lst (vs.set j0 (V.ref np))) = H3 at *
      refine ⟨_, dx, _, k1, T.cl_Book, T.na_Book_found, _, bkF_found, fun kk hkk => ?_⟩
      have b4 := same_upd (o := .tup [V.int t, V.int g]) (same_refl (H := H3)) hkk
      have hval : valV kvs (ky t g) = none := by rw [h5.1 t g, e2]; rfl
      refine ⟨fa, rfl, _, DPut.t (k := ky t g) (b4 _ _ k4) upd_same (by have : sizeLine = 16777216 := PySem.sizeLine_eq; omega), ?_⟩
      refine q _ ⟨dx, vs.set j0 (V.ref np), _, ?_, ?_, ?_, upd_same, lnk_new (r := ⟨t, g, e, false⟩) h5 hrn e2, ?_⟩ ?_
      · rw [upd_ne hpf]; exact b4 _ _ k1
      · rw [upd_ne (fun z => hfr z.symm)]; exact b4 _ _ k2
      · exact RsAt.sameD (b4 _ _ k4) (k3.same b4)
      · rw [show ky (⟨t, g, e, false⟩ : Rw).t (⟨t, g, e, false⟩ : Rw).g = ky t g from rfl, putK_new _ hval, List.length_append]
        exact Nat.add_le_add h6 (Nat.le_refl _)
      · intro c o hc hx
        rw [upd_ne (fun z => hx (by simp [z]))]
        exact b4 _ _ (kf c o hc hx)
def sp_told (C : Addr) : Sp := fun vs H Q _ => ∃ (p ra fa : Addr) (rows : List (Option Rw)) (n : Nat) (hd : Int), vs = [.ref p] ∧ BkAt C H p ra fa rows n hd ∧ ∀ t us, H t = none → RsAt (upd H t (.lst us)) us rows → Q (.ref t) (upd H t (.lst us))
theorem h_told (T : Txt K mg A) : HaveM P w K mg base A.C_Book "told" 1 ["self"] [] (sp_told A.C_Book) := by
  refine T.r_Book_told.have sc_Book_told (fun vs H Q E z => ?_) ?_
  · obtain ⟨p, ra, fa, rows, n, hd, rfl, _⟩ := z; rfl
  · intro f cdv A' outer s H vs Q E hr z
    obtain ⟨p, ra, fa, rows, n, hd, rfl, hB, q⟩ := z
    obtain ⟨dx, vs, kvs, h1, h2, h3, h4, h5, h6⟩ := id hB
    refine ⟨_, (pss_one (ps_ret (pe_callTy call_list_of rfl T.b_list PyProof.Rows.boot_list (pa_cons (pe_fld (pv 0) rfl) pa_nil)))), ?_⟩
    walk_at "wp"
    simp only [h1]
    walk_at "wp"
    exact ⟨T.cl_Book, T.na_Book_rows, _, bkF_rows, ra, rfl, _, .inl (SqL.of h2), fun l hl => q _ _ hl (h3.same (same_upd same_refl hl))⟩
def sp_binit (C : Addr) : Sp := fun vs H Q _ => ∃ (p dx : Addr) (m : Int), vs = [.ref p, .int m] ∧ 0 ≤ m ∧ m ≤ 1000000 ∧ H p = some (.ins C dx []) ∧ ∀ H' ra fa, Kp [p] H H' → BkAt C H' p ra fa (List.replicate m.toNat none) 0 0 → H ra = none → H fa = none → Q .non H'
theorem h_binit (T : Txt K mg A) : HaveI P w K mg base "Book" A.C_Book 1 ["self", "many"] [] (sp_binit A.C_Book) := by
  refine T.r_Book_init.have sc_Book_init (fun vs H Q E z => ?_) ?_
  · obtain ⟨p, dx, m, rfl, _⟩ := z; rfl
  · intro f cdv A' outer s H vs Q E hr z
    obtain ⟨p, dx, m, rfl, h0, hm, hp, q⟩ := z
    refine ⟨_, (pss_cons (ps_fld (pv 0) (pe_op op_rep (pe_lst (pa_cons pe_non pa_nil)) (pv 1)) rfl)
      (pss_cons (ps_fld (pv 0) pe_dnewT rfl)
      (pss_one (ps_fld (pv 0) pe_int rfl)))), ?_⟩
    unfold tDNewT rRep
    walk_at "wp"
    intro l1 hl1
    have b1 := same_upd (o := .lst [V.non]) (same_refl (H := H)) hl1
    refine ⟨[.non], rfl, by omega, by omega, by show 1 * m.toNat ≤ 16777216; omega, fun ra hra => ?_⟩
    have hra0 : H ra = none := same_none b1 hra
    have b2 := same_upd (o := .lst (List.replicate m.toNat [V.non]).flatten) b1 hra
    have npr : p ≠ ra := fun z => by rw [← z, b1 _ _ hp] at hra; cases hra
    refine ⟨A.C_Book, dx, [], b2 _ _ hp, T.cl_Book, T.na_Book_rows, by decide, fun fa hfa => ?_⟩
    have npf : fa ≠ p := fun z => by rw [z, upd_same] at hfa; cases hfa
    have nfr : fa ≠ ra := fun z => by rw [z, upd_ne npr.symm, upd_same] at hfa; cases hfa
    have hfa0 : H fa = none := by
      rw [upd_ne npf] at hfa
      exact same_none b2 hfa
    refine ⟨A.C_Book, dx, putF "rows" (.ref ra) [], by rw [upd_ne npf.symm, upd_same], T.cl_Book, T.na_Book_found, by show 1 < 1000; decide, T.cl_Book, T.na_Book_hand, by show 2 < 1000; decide, ?_⟩
    refine q _ ra fa ?_ ⟨dx, (List.replicate m.toNat [V.non]).flatten, [], upd_same, ?_, ?_, ?_, ⟨fun t g => ?_, fun _ z => nomatch z⟩, Nat.le_refl _⟩ hra0 hfa0
    · intro c o hc hx
      have ncp : c ≠ p := fun z => hx (by simp [z])
      rw [upd_ne ncp, upd_ne (ne_of_none hc hfa0), upd_ne ncp]
      exact b2 _ _ hc
    · rw [upd_ne npr.symm, upd_ne nfr.symm, upd_ne npr.symm, upd_same]
    · have e : ∀ k : Nat, (List.replicate k [V.non]).flatten = List.replicate k V.non := fun k => by
        induction k with
        | zero => rfl
        | succ k ih => rw [List.replicate_succ, List.flatten_cons, ih]; rfl
      rw [e]
      have e2 : ∀ k : Nat, ∀ HH : Hp, RsAt HH (List.replicate k V.non) (List.replicate k none) := fun k HH => by
        induction k with
        | zero => exact .nil
        | succ k ih => exact .cons rfl ih
      exact e2 _ _
    · rw [upd_ne npf, upd_same]
    · have e : fnd (List.replicate m.toNat none) t g = none := by
        unfold fnd
        rw [List.findIdx?_eq_none_iff]
        intro x hx
        rw [List.eq_of_mem_replicate hx]
        rfl
      rw [e]
      rfl

def Uq (rows : List (Option Rw)) : Prop := ∀ (i j : Nat) (r s : Rw), rows[i]? = some (some r) → rows[j]? = some (some s) → r.t = s.t → r.g = s.g → i = j
theorem valV_drop {kvs : List (List Key × V)} {k j : List Key} : valV (dropK kvs k) j = if j = k then none else valV kvs j := by
  induction kvs with
  | nil => split <;> rfl
  | cons p r ih =>
    unfold dropK at ih ⊢
    rw [List.filter_cons]
    by_cases c : p.1 = k
    · rw [if_neg (by simp [c]), ih]
      by_cases d : j = k
      · rw [if_pos d, if_pos d]
      · rw [if_neg d, if_neg d, valV_neg (fun e => d (e.symm.trans c))]
    · rw [if_pos (by simp [c])]
      by_cases d : p.1 = j
      · rw [valV_pos d, valV_pos d, if_neg (fun e => c (d.trans e))]
      · rw [valV_neg d, valV_neg d, ih]
def strikeR (rows : List (Option Rw)) (t g : Int) : List (Option Rw) := match fnd rows t g with
  | none => rows
  | some j => rows.set j none
theorem lnk_strike {rows : List (Option Rw)} {kvs : List (List Key × V)} {j : Nat} {t g : Int} (h : Lnk rows kvs) (hu : Uq rows) (hj : fnd rows t g = some j) : Lnk (rows.set j none) (dropK kvs (ky t g)) := by
  refine ⟨fun t' g' => ?_, fun x hx => h.2 x (List.mem_filter.mp hx).1⟩
  obtain ⟨r, hr, rt, rg⟩ := fnd_some hj
  rw [valV_drop, h.1 t' g']
  by_cases c : ky t' g' = ky t g
  · rw [if_pos c]
    have c1 : t' = t := by injection c with a b; injection a
    have c2 : g' = g := by injection c with a b; injection b with b _; injection b
    subst c1 c2
    have e : fnd (rows.set j none) t' g' = none := by
      unfold fnd
      rw [List.findIdx?_eq_none_iff]
      intro x hx
      obtain ⟨i, hi⟩ := List.mem_iff_getElem?.mp hx
      rw [List.getElem?_set] at hi
      by_cases e : j = i
      · rw [if_pos e] at hi
        split at hi
        · cases hi; rfl
        · cases hi
      · rw [if_neg e] at hi
        cases x with
        | none => rfl
        | some s =>
          show (decide (s.t = t') && decide (s.g = g')) = false
          rw [Bool.and_eq_false_iff]
          by_cases d1 : s.t = t'
          · by_cases d2 : s.g = g'
            · exact absurd (hu j i r s hr hi (rt.trans d1.symm) (rg.trans d2.symm)) e
            · exact .inr (decide_eq_false d2)
          · exact .inl (decide_eq_false d1)
    rw [e]
    rfl
  · rw [if_neg c]
    unfold fnd
    rw [fi_set (x := some r) (by
      show false = (decide (r.t = t') && decide (r.g = g'))
      symm
      rw [Bool.and_eq_false_iff]
      by_cases d : r.t = t'
      · refine .inr (decide_eq_false fun d2 => c ?_)
        rw [← d, ← d2, rt, rg]
      · exact .inl (decide_eq_false d)) hr]
def sp_strk (C : Addr) : Sp := fun vs H Q _ => ∃ (p ra fa : Addr) (rows : List (Option Rw)) (n : Nat) (hd : Int) (t g : Int), vs = [.ref p, .int t, .int g] ∧ BkAt C H p ra fa rows n hd ∧ Uq rows ∧ ∀ H', BkAt C H' p ra fa (strikeR rows t g) n hd → Kp [ra, fa] H H' → Q .non H'
theorem h_strk (T : Txt K mg A) : HaveM P w K mg base A.C_Book "strike" 1 ["self", "task", "page"] [] (sp_strk A.C_Book) := by
  refine T.r_Book_strike.have sc_Book_strike (fun vs H Q E z => ?_) ?_
  · obtain ⟨p, ra, fa, rows, n, hd, t, g, rfl, _⟩ := z; rfl
  · intro f cdv A' outer s H vs Q E hr z
    obtain ⟨p, ra, fa, rows, n, hd, t, g, rfl, hB, hu, q⟩ := z
    obtain ⟨dx, vs, kvs, h1, h2, h3, h4, h5, h6⟩ := id hB
    refine ⟨_, (pss_one (ps_if (pt_cmp (pc_din (hu_of hr) (pe_tup (pa_cons (pv 1) (pa_cons (pv 2) pa_nil))) (pe_fld (pv 0) rfl))) (pss_cons (ps_set (i := 3) sc_Book_strike.nd rfl (Or.inl rfl) (pe_dpopT (hu_of hr) (pe_fld (pv 0) rfl) (pe_tup (pa_cons (pv 1) (pa_cons (pv 2) pa_nil))) ⟨rfl, rfl, rfl, rfl⟩))
      (pss_one (ps_asg pe_non (pg_sub (pe_fld (pv 0) rfl) (pv 3) set_list)))) pss_nil)), ?_⟩
    unfold tDIn tDPopT
    walk_at "wp"
    intro kp hkp
    have b1 := same_upd (o := .tup [V.int t, V.int g]) (same_refl (H := H)) hkp
    have hkp' : upd H kp (.tup [V.int t, V.int g]) kp = some (.tup [V.int t, V.int g]) := upd_same
    generalize upd H kp (.tup [V.int t, V.int g]) = H1 at *
    refine ⟨_, dx, _, b1 _ _ h1, T.cl_Book, T.na_Book_found, _, bkF_found, fa, rfl, _, DGet.t (k := ky t g) (b1 _ _ h4) hkp', ?_⟩
    unfold strikeR at q
    rw [h5.1 t g]
    cases e : fnd rows t g with
    | none =>
      simp only [e] at q
      rw [if_neg (by simp)]
      exact q _ (hB.same b1) fun c o hc _ => b1 _ _ hc
    | some j =>
      obtain ⟨r, hr1, rt, rg⟩ := fnd_some e
      simp only [e] at q
      rw [if_pos (by simp)]
      refine ⟨_, dx, _, b1 _ _ h1, T.cl_Book, T.na_Book_found, _, bkF_found, fa, rfl, .inr ⟨kvs, .inl (b1 _ _ h4)⟩, fun kk hkk => ?_⟩
      have b2 := same_upd (o := .tup [V.int t, V.int g]) b1 hkk
      refine ⟨kvs, b2 _ _ h4, ky t g, rfl, V.int (j : Int), by rw [h5.1 t g, e]; rfl, ?_⟩
      have hpf : p ≠ fa := fun z => by rw [z, h4] at h1; cases h1
      have hrf : ra ≠ fa := fun z => by rw [z, h4] at h2; cases h2
      have hpr : p ≠ ra := fun z => by rw [z, h2] at h1; cases h1
      generalize upd H1 kk (.tup [V.int t, V.int g]) = H2 at *
      have k1 : upd H2 fa (.dT (dropK kvs (ky t g))) p = some (.ins A.C_Book dx (bkF ra fa hd)) := by rw [upd_ne hpf]; exact b2 _ _ h1
      have k2 : upd H2 fa (.dT (dropK kvs (ky t g))) ra = some (.lst vs) := by rw [upd_ne hrf]; exact b2 _ _ h2
      have k3 := RsAt.sameD (o := .dT (dropK kvs (ky t g))) (b2 _ _ h4) (h3.same b2)
      have k4 : upd H2 fa (.dT (dropK kvs (ky t g))) fa = some (.dT (dropK kvs (ky t g))) := upd_same
      have kf : Kp [ra, fa] H (upd H2 fa (.dT (dropK kvs (ky t g)))) := fun c o hc hx => by
        rw [upd_ne (fun z => hx (by simp [z]))]
        exact b2 _ _ hc
      generalize upd H2 fa (.dT (dropK kvs (ky t g))) = H3 at *
      have hjl : j < vs.length := by rw [Paired.length h3]; exact (List.getElem?_eq_some_iff.mp hr1).1
      refine ⟨_, dx, _, k1, T.cl_Book, T.na_Book_rows, _, bkF_rows, ra, rfl, vs, _, rfl, k2, j, by unfold ixN; rw [if_pos (by omega), if_pos (by omega)]; rfl, ?_⟩
      refine q _ ⟨dx, vs.set j .non, dropK kvs (ky t g), ?_, upd_same, ?_, ?_, lnk_strike h5 hu e, Nat.le_trans (dropK_le ..) h6⟩ ?_
      · rw [upd_ne hpr]; exact k1
      · exact prd_set (F := RowAt _) (show RowAt _ V.non none from rfl) j (RsAt.same2 k2 k3)
      · rw [upd_ne (fun z => hrf z.symm)]; exact k4
      · intro c o hc hx
        rw [upd_ne (fun z => hx (by simp [z]))]
        exact kf c o hc hx
def rg (n : Nat) (h : Int) (j : Nat) : List Int := (List.range j).map fun (i : Nat) => (h + (i : Int)) % (n : Int)
theorem rg_len {n j : Nat} {h : Int} : (rg n h j).length = j := by unfold rg; rw [List.length_map, List.length_range]
theorem rg_succ {n j : Nat} {h : Int} : rg n h (j + 1) = rg n h j ++ [(h + j) % (n : Int)] := by unfold rg; rw [List.range_succ, List.map_append]; rfl
def sp_sw (K : PySem.W.Frag) : Sp := fun vs H Q _ => ∃ (m : Addr) (h : Int) (bs : List Bool), vs = [.ref m, .int h] ∧ SqL K H m (bs.map V.bl) ∧ 0 ≤ h ∧ h < bs.length ∧ bs.length ≤ 1000 ∧
  ∀ (t u : Addr) (j : Nat) H', Same H H' → H t = none → H u = none → j ≤ bs.length → (∀ i < j, bs.getD ((h + i) % (bs.length : Int)).toNat false = true) → (j = bs.length ∨ bs.getD ((h + j) % (bs.length : Int)).toNat false = false) →
    H' t = some (.tup [.int ((h + j) % (bs.length : Int)), .ref u]) → H' u = some (.lst ((rg bs.length h j).map V.int)) → Q (.ref t) H'
theorem h_sw (T : Txt K mg A) : Have P w K mg base "swept" 1 ["marks", "hand"] [] (sp_sw K) := by
  refine T.r_swept.have sc_swept (fun vs H Q E z => ?_) ?_
  · obtain ⟨m, h, bs, rfl, _⟩ := z; rfl
  · intro f cdv A' outer s H vs Q E hr z
    obtain ⟨m, h, bs, rfl, hm, h0, h1, h2, q⟩ := z
    refine ⟨_, (pss_cons (ps_set (i := 2) sc_swept.nd rfl (Or.inl rfl) (pe_lst pa_nil))
      (pss_cons (ps_set (i := 3) sc_swept.nd rfl (Or.inl rfl) (pv 1))
      (pss_cons (ps_whileE PassesOwn.leaving (PW.pt (pw_and (pt_cmpR op_lt (pe_callB call_len rfl T.b_len PySem.boot_len (pa_cons (pv 2) pa_nil)) (pe_callB call_len rfl T.b_len PySem.boot_len (pa_cons (pv 0) pa_nil)) (nomark _)) (pw_and1 (pt_val (pe_ix ix_list (pv 0) (pv 3) (fun _ _ => rfl)))))) (pss_cons (ps_expr (pe_bm PySem.F.plainAttrs_list PySem.F.slot_list_append PySem.F.type_list_append mt_append (pv 2) (pa_cons (pv 3) pa_nil)))
      (pss_one (ps_set (i := 3) sc_swept.nd rfl (Or.inl rfl) (pe_op op_mod (pe_op op_add (pv 3) pe_int) (pe_callB call_len rfl T.b_len PySem.boot_len (pa_cons (pv 0) pa_nil)))))))
      (pss_one (ps_ret (pe_tup (pa_cons (pv 3) (pa_cons (pv 2) pa_nil)))))))), ?_⟩
    walk_at "wp"
    intro u hu
    refine loop_while (fun mm σ H' => ∃ j : Nat, mm = bs.length - j ∧ j ≤ bs.length ∧ σ = [some (.ref m), some (.int h), some (.ref u), some (.int ((h + j) % (bs.length : Int)))] ∧ Same H H' ∧ H' u = some (.lst ((rg bs.length h j).map V.int)) ∧ (∀ i < j, bs.getD ((h + i) % (bs.length : Int)).toNat false = true)) bs.length ⟨0, rfl, Nat.zero_le _, ?_, same_upd same_refl hu, upd_same, fun i hi => absurd hi (Nat.not_lt_zero _)⟩ (fun mm σ H' => ?_)
    · rw [show (h + ((0 : Nat) : Int)) % (bs.length : Int) = h by rw [Int.emod_eq_of_lt] <;> omega]
    · rintro ⟨j, rfl, hj, rfl, sm, hu', hall⟩
      walk_at "wp"
      refine ⟨j, .inl ⟨_, SqL.of hu', by rw [List.length_map, rg_len]⟩, bs.length, .inl ⟨_, sm.seq hm, by simp⟩, ?_⟩
      have hpos : (0 : Int) < bs.length := by omega
      have hp0 := Int.emod_nonneg (h + j) (show (bs.length : Int) ≠ 0 by omega)
      have hp1 := Int.emod_lt_of_pos (h + j) hpos
      have hat : atI (bs.map V.bl) ((h + j) % (bs.length : Int)) = some (.bl (bs.getD ((h + j) % (bs.length : Int)).toNat false)) := by
        generalize (h + j) % (bs.length : Int) = p at *
        have e := atI_nat (xs := bs.map V.bl) (j := p.toNat) (v := .bl (bs.getD p.toNat false)) (by
          have : p.toNat < bs.length := by omega
          simp [this])
        rw [show ((p.toNat : Nat) : Int) = p by omega] at e
        exact e
      by_cases c : (j : Int) < bs.length
      · rw [if_pos c]
        refine ⟨_, sm.seq hm, _, hat, _, rfl, ?_⟩
        cases hb : bs.getD ((h + j) % (bs.length : Int)).toNat false with
        | true =>
          refine iteT (turnW ?_)
          walk_at "wp"
          refine ⟨.inl ⟨rfl, _, SqL.of hu'⟩, _, hu', by rw [List.length_map, rg_len]; omega, bs.length, .inl ⟨_, (same_put sm hu).seq hm, by simp⟩, hpos, bs.length - (j + 1), by omega, j + 1, rfl, by omega, ?_, same_put sm hu, ?_, fun i hi => ?_⟩
          · rw [Int.emod_add_emod]
            congr 1
            omega
          · rw [rg_succ, List.map_append]; rfl
          · rcases (by omega : i < j ∨ i = j) with hi | rfl
            · exact hall i hi
            · exact hb
        | false =>
          refine iteF fun t ht => ?_
          exact q t u j _ (same_upd sm ht) (same_none sm ht) hu hj hall (.inr hb) upd_same (by rw [upd_ne (ne_of_none hu' ht)]; exact hu')
      · rw [if_neg c]
        refine iteF fun t ht => ?_
        exact q t u j _ (same_upd sm ht) (same_none sm ht) hu hj hall (.inl (by omega)) upd_same (by rw [upd_ne (ne_of_none hu' ht)]; exact hu')

def off (r : Rw) : Rw := ⟨r.t, r.g, r.e, false⟩
def clr (L : List Rw) (is : List Int) : List Rw := is.foldl (fun L i => L.modify i.toNat off) L
theorem clr_len {is : List Int} : ∀ {L : List Rw}, (clr L is).length = L.length := by
  induction is with
  | nil => intro L; rfl
  | cons i is ih => intro L; show (clr (L.modify i.toNat off) is).length = _; rw [ih, List.length_modify]
theorem clr_snoc {L : List Rw} {is : List Int} {i : Int} : clr L (is ++ [i]) = (clr L is).modify i.toNat off := by unfold clr; rw [List.foldl_append]; rfl
theorem mod_set {L : List Rw} {k : Nat} {r : Rw} (h : L[k]? = some r) : L.modify k off = L.set k (off r) := by
  apply List.ext_getElem?
  intro i
  rw [List.getElem?_modify, List.getElem?_set]
  by_cases e : k = i
  · subst e
    rw [if_pos rfl, if_pos (List.getElem?_eq_some_iff.mp h).1, h]
    show some (if k = k then off r else r) = some (off r)
    rw [if_pos rfl]
  · rw [if_neg e]
    cases L[i]? with
    | none => rfl
    | some x =>
      show some (if k = i then off x else x) = some x
      rw [if_neg e]
theorem keys_off {L : List Rw} {k i : Nat} {s : Rw} (h : (L.modify k off)[i]? = some s) : ∃ r, L[i]? = some r ∧ s.t = r.t ∧ s.g = r.g := by
  rw [List.getElem?_modify] at h
  cases e : L[i]? with
  | none => rw [e] at h; cases h
  | some r =>
    rw [e] at h
    refine ⟨r, rfl, ?_⟩
    have h : (if k = i then off r else r) = s := by simpa using h
    subst h
    split <;> exact ⟨rfl, rfl⟩
theorem uq_mod {L : List Rw} {k : Nat} (h : Uq (L.map some)) : Uq ((L.modify k off).map some) := by
  intro i j r s hi hj et eg
  have gt : ∀ {M : List Rw} {i : Nat} {x : Rw}, (M.map some)[i]? = some (some x) → M[i]? = some x := fun {M i x} q => by
    rw [List.getElem?_map] at q
    cases e : M[i]? with
    | none => rw [e] at q; cases q
    | some y => rw [e] at q; cases q; rfl
  obtain ⟨r', hr', e1, e2⟩ := keys_off (gt hi)
  obtain ⟨s', hs', e3, e4⟩ := keys_off (gt hj)
  exact h i j r' s' (by rw [List.getElem?_map, hr']; rfl) (by rw [List.getElem?_map, hs']; rfl) (by rw [← e1, ← e3]; exact et) (by rw [← e2, ← e4]; exact eg)
theorem uq_clr {is : List Int} : ∀ {L : List Rw}, Uq (L.map some) → Uq ((clr L is).map some) := by
  induction is with
  | nil => intro L h; exact h
  | cons i is ih => intro L h; exact ih (uq_mod h)
theorem bkF_hand {ra fa : Addr} {hd : Int} : (bkF ra fa hd).lookup ("hand" : Str) = some (.int hd) := by rfl
theorem bkF_put {ra fa : Addr} {hd hd' : Int} : putF "hand" (.int hd') (bkF ra fa hd) = bkF ra fa hd' := by rfl
theorem RowAt.sameI {H : Hp} {a C dx : Addr} {fs : List (Str × V)} {o : HO} (hx : H a = some (.ins C dx fs)) {v : V} : ∀ {r : Option Rw}, RowAt H v r → RowAt (upd H a o) v r
  | none, h => h
  | some _, ⟨b, e, h⟩ => ⟨b, e, by rw [upd_ne (fun z => by rw [z, hx] at h; cases h)]; exact h⟩
def sp_newF (C : Addr) : Sp := fun vs H Q _ => ∃ (p ra fa : Addr) (L : List Rw) (n : Nat) (hd : Int), vs = [.ref p] ∧ BkAt C H p ra fa (L.map some) n hd ∧ Uq (L.map some) ∧ L.length ≤ 1000 ∧ 0 ≤ hd ∧ hd < L.length ∧
  ∀ (j : Nat) H', j ≤ L.length → (∀ i < j, (L.map (·.u)).getD ((hd + i) % (L.length : Int)).toNat false = true) → (j = L.length ∨ (L.map (·.u)).getD ((hd + j) % (L.length : Int)).toNat false = false) →
    BkAt C H' p ra fa (((clr L (rg L.length hd j)).map some).set ((hd + j) % (L.length : Int)).toNat none) n (((hd + j) % (L.length : Int) + 1) % (L.length : Int)) → Kp [p, ra, fa] H H' → Q (.int ((hd + j) % (L.length : Int))) H'
theorem h_newF (T : Txt K mg A) : HaveM P w K mg base A.C_Book "place_for_new" 2 ["self"] [] (sp_newF A.C_Book) := by
  have H_swept := h_sw (P := P) (w := w) (base := base) T
  have H_Book_strike := h_strk (P := P) (w := w) (base := base) T
  refine T.r_Book_place_for_new.have sc_Book_place_for_new (fun vs H Q E z => ?_) ?_
  · obtain ⟨p, ra, fa, L, n, hd, rfl, _⟩ := z; rfl
  · intro f cdv A' outer s H vs Q E hr z
    obtain ⟨p, ra, fa, L, n, hd, rfl, hB, hu, hL, h0, hlt, q⟩ := z
    obtain ⟨dx, vs, kvs, h1, h2, h3, h4, h5, h6⟩ := id hB
    have hvl := Paired.length h3
    rw [List.length_map] at hvl
    refine ⟨_, (pss_cons (ps_if (pt_cmpR (op_inN (hu6 hr)) pe_non (pe_fld (pv 0) rfl) (by with_unfolding_all rfl)) (pss_one (ps_ret (pe_bm PySem.F.plainAttrs_list PySem.F.slot_list_index PySem.F.type_list_index (mt_indexN (hu6 hr)) (pe_fld (pv 0) rfl) (pa_cons pe_non pa_nil)))) pss_nil)
      (pss_cons (ps_set (i := 1) sc_Book_place_for_new.nd rfl (Or.inl rfl) (pe_callE H_swept (hr.mono (by decide)) xw_def (pa_cons (pe_comp rfl (pi_list (pe_fld (pv 0) rfl)) (x := "row") (fs := []) (ix := []) rfl rfl (fun _ _ _ _ _ _ => (pg_name (i := 0) (show (["row"] : List Str).Nodup by decide +kernel) rfl (Or.inl rfl))) (fun _ _ _ _ _ _ => pf_nil) (fun _ _ _ _ _ _ => (pe_ix (ix_tupC (K := K) rfl) (pv 0) pe_int (fun _ _ => rfl)))) (pa_cons (pe_fld (pv 0) rfl) pa_nil))))
      (pss_cons (ps_forE PassesOwn.leaving rfl (pi_list (pe_ix ix_tup (pv 1) pe_int (fun _ _ => rfl))) (pg_name (i := 2) sc_Book_place_for_new.nd rfl (Or.inl rfl)) (pss_cons (ps_set (i := 3) sc_Book_place_for_new.nd rfl (Or.inl rfl) (pe_ix ix_list (pe_fld (pv 0) rfl) (pv 2) (fun _ _ => rfl)))
      (pss_one (ps_asg (pe_tup (pa_cons (pe_ix ix_tup (pv 3) pe_int (fun _ _ => rfl)) (pa_cons (pe_ix ix_tup (pv 3) pe_int (fun _ _ => rfl)) (pa_cons (pe_ix ix_tup (pv 3) pe_int (fun _ _ => rfl)) (pa_cons pe_bl pa_nil))))) (pg_sub (pe_fld (pv 0) rfl) (pv 2) set_list)))))
      (pss_cons (ps_set (i := 4) sc_Book_place_for_new.nd rfl (Or.inl rfl) (pe_ix ix_list (pe_fld (pv 0) rfl) (pe_ix ix_tup (pv 1) pe_int (fun _ _ => rfl)) (fun _ _ => rfl)))
      (pss_cons (ps_expr (pe_methE (pv 0) T.cl_Book H_Book_strike (hr.mono (by decide)) xw_def (pa_cons (pe_ix ix_tup (pv 4) pe_int (fun _ _ => rfl)) (pa_cons (pe_ix ix_tup (pv 4) pe_int (fun _ _ => rfl)) pa_nil))))
      (pss_cons (ps_fld (pv 0) (pe_op op_mod (pe_op op_add (pe_ix ix_tup (pv 1) pe_int (fun _ _ => rfl)) pe_int) (pe_callB call_len rfl T.b_len PySem.boot_len (pa_cons (pe_fld (pv 0) rfl) pa_nil))) rfl)
      (pss_one (ps_ret (pe_ix ix_tup (pv 1) pe_int (fun _ _ => rfl)))))))))), ?_⟩
    walk_at "wp"
    simp only [h1]
    walk_at "wp"
    have hn : ∀ z ∈ vs, NTup K H z := fun z hz => by
      obtain ⟨i, hi⟩ := List.mem_iff_getElem?.mp hz
      obtain ⟨y, _, hy⟩ := prd_get h3 hi
      cases y with
      | none => exact .inl hy
      | some r => obtain ⟨a, e, h⟩ := hy; exact .inr ⟨a, _, e, SqT.of h⟩
    have ha : vs.any isN = false := by
      rw [List.any_eq_false]
      intro z hz
      obtain ⟨i, hi⟩ := List.mem_iff_getElem?.mp hz
      obtain ⟨y, hy1, hy⟩ := prd_get h3 hi
      obtain ⟨r, _, rfl⟩ := List.mem_map.mp (List.mem_of_getElem? hy1)
      obtain ⟨a, rfl, _⟩ := hy
      exact Bool.false_ne_true
    refine ⟨T.cl_Book, T.na_Book_rows, _, bkF_rows, ra, vs, rfl, rfl, SqL.of h2, hn, false, by rw [ha], iteF ?_⟩
    refine ⟨_, dx, _, h1, T.cl_Book, T.na_Book_rows, _, bkF_rows, ra, rfl, ⟨_, SqL.of h2⟩, fun D hD => ?_⟩
    refine comp_list (xs := vs) (fun i ys σ H' => ∃ v, σ = [v] ∧ Same H H' ∧ H' D = some (.lst ys) ∧ ys = ((L.take i).map (·.u)).map V.bl) ⟨_, rfl, same_upd same_refl hD, upd_same, rfl⟩ (fun i ys σ H' _ ⟨_, _, s2, _⟩ => SqL.of (s2 _ _ h2)) (fun i v ys σ H' hi => ?_) (fun ys σ H2 => ?_)
    · rintro ⟨v0, rfl, s2, hDD, rfl⟩
      obtain ⟨y, hy1, hy2⟩ := prd_get h3 hi
      rw [List.getElem?_map] at hy1
      cases hr : L[i]? with
      | none => rw [hr] at hy1; cases hy1
      | some r =>
        rw [hr] at hy1
        cases hy1
        obtain ⟨c, rfl, hc⟩ := hy2
        have hil := (List.getElem?_eq_some_iff.mp hr).1
        walk_at "wp"
        refine ⟨_, SqT.of (s2 _ _ hc), _, rfl, hDD, by rw [List.length_map, List.length_map, List.length_take]; omega, same_put s2 hD, ?_⟩
        rw [List.take_add_one, hr, List.map_append, List.map_append]
        rfl
    rintro ⟨v0, rfl, s2, hDD, rfl⟩
    rw [hvl, List.take_length] at hDD
    unfold sp_sw
    walk_at "wp"
    refine ⟨_, dx, _, s2 _ _ h1, T.cl_Book, T.na_Book_hand, _, bkF_hand, ?_⟩
    refine ⟨hd, rfl, L.map (·.u), SqL.of hDD, h0, by rw [List.length_map]; exact hlt, by rw [List.length_map]; exact hL, fun t u j H3 s3 ht0 hu0 hj hall hor hT hU => ?_⟩
    simp only [List.length_map] at hj hall hor hT hU
    have s03 := s2.trans s3
    have nur : u ∉ [ra] := fun z => by rw [List.mem_singleton.mp z, s2 _ _ h2] at hu0; cases hu0
    have ntr : t ∉ [ra] := fun z => by rw [List.mem_singleton.mp z, s2 _ _ h2] at ht0; cases ht0
    have lp : (0 : Int) < (L.length : Int) := by omega
    refine ⟨_, SqT.of hT, _, rfl, u, rfl, ⟨_, SqL.of hU⟩, loop_list (xs := (rg L.length hd j).map V.int) (fun i σ H' => ∃ v2 v3, σ = [some (.ref p), some (.ref t), v2, v3, none] ∧ BkAt A.C_Book H' p ra fa ((clr L ((rg L.length hd j).take i)).map some) n hd ∧ Kp [ra] H3 H') ⟨_, _, rfl, hB.same s03, (fun _ _ h _ => h)⟩ (fun i σ H' _ ⟨_, _, _, _, e⟩ => SqL.of (e _ _ hU nur)) (fun i x σ H' hi => ?_) (fun σ H4 => ?_)⟩
    · rintro ⟨v2, v3, rfl, hB', kp'⟩
      obtain ⟨dx', vs', kvs', k1, k2, k3, k4, k5, k6⟩ := id hB'
      have hvl' := Paired.length k3
      rw [List.length_map, clr_len] at hvl'
      rw [List.getElem?_map] at hi
      cases hz : (rg L.length hd j)[i]? with
      | none => rw [hz] at hi; cases hi
      | some z =>
        rw [hz] at hi
        cases hi
        have hz2 : 0 ≤ z ∧ z < L.length := by
          have hm := List.mem_of_getElem? hz
          unfold rg at hm
          obtain ⟨a, _, rfl⟩ := List.mem_map.mp hm
          exact ⟨Int.emod_nonneg _ (by omega), Int.emod_lt_of_pos _ lp⟩
        have htk : (rg L.length hd j).take (i + 1) = (rg L.length hd j).take i ++ [z] := by rw [List.take_add_one, hz]; rfl
        obtain ⟨r, hr⟩ : ∃ r, (clr L ((rg L.length hd j).take i))[z.toNat]? = some r := ⟨_, List.getElem?_eq_getElem (by rw [clr_len]; omega)⟩
        have hr' : ((clr L ((rg L.length hd j).take i)).map some)[z.toNat]? = some (some r) := by rw [List.getElem?_map, hr]; rfl
        obtain ⟨x, hx, c, rfl, hc⟩ := prd_get2 k3 hr'
        have hxz : atI vs' z = some (V.ref c) := by
          have := atI_nat hx
          rwa [show ((z.toNat : Nat) : Int) = z by omega] at this
        walk_at "wp"
        refine ⟨_, dx', _, k1, T.cl_Book, T.na_Book_rows, _, bkF_rows, ra, rfl, vs', SqL.of k2, _, hxz, ?_⟩
        refine ⟨c, rfl, _, SqT.of hc, _, rfl, c, rfl, _, SqT.of hc, _, rfl, c, rfl, _, SqT.of hc, _, rfl, fun np hnp => ?_⟩
        have b := same_upd (o := .tup [.int r.t, .int r.g, .int r.e, .bl false]) (same_refl (H := H')) hnp
        have npr : np ≠ ra := fun z => by rw [z, k2] at hnp; cases hnp
        refine ⟨_, dx', _, b _ _ k1, T.cl_Book, T.na_Book_rows, _, bkF_rows, ra, rfl, vs', b _ _ k2, z.toNat, by unfold ixN; rw [if_pos hz2.1, if_pos (by omega)], ⟨dx', vs'.set z.toNat (.ref np), kvs', ?_, upd_same, ?_, ?_, ?_, k6⟩, ?_⟩
        · rw [upd_ne (fun z => by rw [z, k2] at k1; cases k1)]; exact b _ _ k1
        · rw [htk, clr_snoc, mod_set hr, List.map_set]
          exact prd_set (F := RowAt _) (show RowAt _ (V.ref np) (some _) from ⟨np, rfl, by rw [upd_ne npr]; exact upd_same⟩) z.toNat (RsAt.same2 (b _ _ k2) (k3.same b))
        · rw [upd_ne (fun z => by rw [z, k2] at k4; cases k4)]; exact b _ _ k4
        · rw [htk, clr_snoc, mod_set hr, List.map_set]
          exact lnk_set k5 hr' rfl rfl
        · intro c o hc hx
          rw [upd_ne (fun z => hx (by simp [z]))]
          exact b _ _ (kp' c o hc hx)
    rintro ⟨v2, v3, rfl, hB4, kp4⟩
    rw [List.length_map, List.take_length] at hB4
    have hpl : 0 ≤ (hd + j) % (L.length : Int) ∧ (hd + j) % (L.length : Int) < L.length := ⟨Int.emod_nonneg _ (by omega), Int.emod_lt_of_pos _ lp⟩
    have hT4 := kp4 _ _ hT ntr
    have q := q j
    generalize (hd + j) % (L.length : Int) = pl at *
    have u4 := uq_clr (is := rg L.length hd j) hu
    have l4 : (clr L (rg L.length hd j)).length = L.length := clr_len
    generalize clr L (rg L.length hd j) = L4 at *
    obtain ⟨dx4, vs4, kvs4, k1, k2, k3, k4, k5, k6⟩ := id hB4
    have hvl4 := Paired.length k3
    rw [List.length_map] at hvl4
    obtain ⟨r, hr⟩ : ∃ r, L4[pl.toNat]? = some r := ⟨_, List.getElem?_eq_getElem (by omega)⟩
    have hr' : (L4.map some)[pl.toNat]? = some (some r) := by rw [List.getElem?_map, hr]; rfl
    obtain ⟨x, hx, c, rfl, hc⟩ := prd_get2 k3 hr'
    have hxz : atI vs4 pl = some (V.ref c) := by
      have := atI_nat hx
      rwa [show ((pl.toNat : Nat) : Int) = pl by omega] at this
    have hf : strikeR (L4.map some) r.t r.g = (L4.map some).set pl.toNat none := by
      unfold strikeR
      cases e : fnd (L4.map some) r.t r.g with
      | none =>
        have := List.findIdx?_eq_none_iff.mp e (some r) (List.mem_of_getElem? hr')
        have this : (decide (r.t = r.t) && decide (r.g = r.g)) = false := this
        simp at this
      | some j' =>
        obtain ⟨r', h1', e1, e2⟩ := fnd_some e
        show (L4.map some).set j' none = _
        rw [u4 j' pl.toNat r' r h1' hr' e1 e2]
    walk_at "wp"
    refine ⟨_, dx4, _, k1, T.cl_Book, T.na_Book_rows, _, bkF_rows, _, SqT.of hT4, _, rfl, ra, rfl, vs4, pl, rfl, SqL.of k2, _, hxz, dx4, _, k1, bkF_no (by decide +kernel), c, rfl, _, SqT.of hc, _, rfl, c, rfl, _, SqT.of hc, _, rfl, ?_⟩
    refine ⟨p, ra, fa, _, n, hd, r.t, r.g, rfl, hB4, u4, fun H5 hB5 kp5 => ?_⟩
    rw [hf] at hB5
    have hT5 := kp5 _ _ hT4 (fun z => by
      rcases List.mem_cons.mp z with z | z
      · rw [z, k2] at hT4; cases hT4
      · rw [List.mem_singleton.mp z, k4] at hT4; cases hT4)
    obtain ⟨dx5, vs5, kvs5, m1, m2, m3, m4, m5, m6⟩ := id hB5
    have hvl5 := Paired.length m3
    rw [List.length_set, List.length_map, l4] at hvl5
    have ntp : t ≠ p := fun z => by rw [z, m1] at hT5; cases hT5
    refine ⟨_, SqT.of hT5, _, rfl, pl, rfl, _, dx5, _, m1, T.cl_Book, T.na_Book_rows, _, bkF_rows, _, .inl ⟨_, SqL.of m2, rfl⟩, by omega, _, dx5, _, m1, T.cl_Book, T.na_Book_hand, by show 3 < 1000; decide, _, SqT.of (by rw [upd_ne ntp]; exact hT5), _, rfl, ?_⟩
    rw [bkF_put, hvl5]
    refine q _ hj hall hor ⟨dx5, vs5, kvs5, upd_same, ?_, Paired.mapP m3 fun _ _ z => z.sameI m1, ?_, m5, m6⟩ ?_
    · rw [upd_ne (fun z => by rw [z, m1] at m2; cases m2)]; exact m2
    · rw [upd_ne (fun z => by rw [z, m1] at m4; cases m4)]; exact m4
    · intro c o hc hx
      rw [upd_ne (fun z => hx (by simp [z]))]
      refine kp5 _ _ (kp4 _ _ (s03 _ _ hc) (fun z => hx ?_)) (fun z => hx ?_)
      · rw [List.mem_singleton.mp z]; simp
      · rcases List.mem_cons.mp z with z | z
        · simp [z]
        · rw [List.mem_singleton.mp z]; simp

theorem clr_keys {is : List Int} : ∀ {L : List Rw} {i : Nat} {s : Rw}, (clr L is)[i]? = some s → ∃ r, L[i]? = some r ∧ s.t = r.t ∧ s.g = r.g := by
  induction is with
  | nil => intro L i s h; exact ⟨s, h, rfl, rfl⟩
  | cons k is ih =>
    intro L i s h
    obtain ⟨r, h1, e1, e2⟩ := ih (L := L.modify k.toNat off) h
    obtain ⟨r', h2, e3, e4⟩ := keys_off h1
    exact ⟨r', h2, e1.trans e3, e2.trans e4⟩
theorem fnd_clr {L : List Rw} {is : List Int} {k : Nat} {t g : Int} (h : fnd (L.map some) t g = none) : fnd (((clr L is).map some).set k none) t g = none := by
  unfold fnd
  rw [List.findIdx?_eq_none_iff]
  intro x hx
  rcases List.mem_or_eq_of_mem_set hx with hx | rfl
  · obtain ⟨s, hs, rfl⟩ := List.mem_map.mp hx
    obtain ⟨i, hi⟩ := List.mem_iff_getElem?.mp hs
    obtain ⟨r, hr, e1, e2⟩ := clr_keys hi
    have := List.findIdx?_eq_none_iff.mp h (some r) (List.mem_map.mpr ⟨r, List.mem_of_getElem? hr, rfl⟩)
    have this : (decide (r.t = t) && decide (r.g = g)) = false := this
    show (decide (s.t = t) && decide (s.g = g)) = false
    rw [e1, e2]
    exact this
  · rfl
def sp_keepF (C : Addr) : Sp := fun vs H Q _ => ∃ (p ra fa : Addr) (L : List Rw) (n : Nat) (hd t g e : Int), vs = [.ref p, .int t, .int g, .int e] ∧ BkAt C H p ra fa (L.map some) n hd ∧ Uq (L.map some) ∧ L.length ≤ 1000 ∧ 0 ≤ hd ∧ hd < L.length ∧ n < 1000000 ∧
  (∀ (j : Nat) r, fnd (L.map some) t g = some j → L[j]? = some r → ∀ H', BkAt C H' p ra fa ((L.set j ⟨t, g, e, r.u⟩).map some) n hd → Kp [ra, fa] H H' → Q .non H') ∧
  (fnd (L.map some) t g = none → ∀ (j : Nat) H', j ≤ L.length → (∀ i < j, (L.map (·.u)).getD ((hd + i) % (L.length : Int)).toNat false = true) → (j = L.length ∨ (L.map (·.u)).getD ((hd + j) % (L.length : Int)).toNat false = false) →
    BkAt C H' p ra fa (((clr L (rg L.length hd j)).set ((hd + j) % (L.length : Int)).toNat ⟨t, g, e, false⟩).map some) (n + 1) (((hd + j) % (L.length : Int) + 1) % (L.length : Int)) → Kp [p, ra, fa] H H' → Q .non H')
theorem b_keepF (T : Txt K mg A) : Body P w K mg base "Book.keep" s_Book_keep ["self", "task", "page", "entry", "place"] 2 (sp_keepF A.C_Book) := by
  have H_Book_place_for_new := h_newF (P := P) (w := w) (base := base) T
  · intro f cdv A' outer s H vs Q E hr z
    obtain ⟨p, ra, fa, L, n, hd, t, g, e, rfl, hB, hu, hL, h0, hlt, hn, qs, qn⟩ := z
    obtain ⟨dx, vs, kvs, h1, h2, h3, h4, h5, h6⟩ := id hB
    have hvl := Paired.length h3
    rw [List.length_map] at hvl
    refine ⟨_, (pss_cons (ps_if (pt_cmpR op_eq (pe_callB call_len rfl T.b_len PySem.boot_len (pa_cons (pe_fld (pv 0) rfl) pa_nil)) pe_int (nomark _)) (pss_one ps_retN) pss_nil)
      (pss_cons (ps_set (i := 4) sc_Book_keep.nd rfl (Or.inl rfl) (pe_dget1 (hu_of hr) (pe_fld (pv 0) rfl) (pe_tup (pa_cons (pv 1) (pa_cons (pv 2) pa_nil))) ⟨rfl, rfl, rfl, rfl⟩))
      (pss_cons (ps_if (pt_cmpR op_notN (pv 4) pe_non (nomark _)) (pss_cons (ps_asg (pe_tup (pa_cons (pv 1) (pa_cons (pv 2) (pa_cons (pv 3) (pa_cons (pe_ix ix_tup (pe_ix ix_list (pe_fld (pv 0) rfl) (pv 4) (fun _ _ => rfl)) pe_int (fun _ _ => rfl)) pa_nil))))) (pg_sub (pe_fld (pv 0) rfl) (pv 4) set_list))
      (pss_one ps_retN)) pss_nil)
      (pss_cons (ps_set (i := 4) sc_Book_keep.nd rfl (Or.inl rfl) (pe_methE0 (pv 0) T.cl_Book H_Book_place_for_new (hr.mono (by decide)) xw_def))
      (pss_cons (ps_asg (pe_tup (pa_cons (pv 1) (pa_cons (pv 2) (pa_cons (pv 3) (pa_cons pe_bl pa_nil))))) (pg_sub (pe_fld (pv 0) rfl) (pv 4) set_list))
      (pss_one (ps_dput (hu_of hr) (pe_fld (pv 0) rfl) (pe_tup (pa_cons (pv 1) (pa_cons (pv 2) pa_nil))) (pv 4) rfl))))))), ?_⟩
    unfold tDGet1 sp_newF sDPut
    walk_at "wp"
    simp only [h1]
    walk_at "wp"
    refine ⟨T.cl_Book, T.na_Book_rows, _, bkF_rows, _, .inl ⟨_, SqL.of h2, rfl⟩, ?_⟩
    rw [if_neg (by omega)]
    refine ⟨T.cl_Book, T.na_Book_found, _, bkF_found, fa, rfl, .inr ⟨kvs, .inl h4⟩, fun kp hkp => ?_⟩
    have b1 := same_upd (o := .tup [V.int t, V.int g]) (same_refl (H := H)) hkp
    have hkp' : upd H kp (.tup [V.int t, V.int g]) kp = some (.tup [V.int t, V.int g]) := upd_same
    generalize upd H kp (.tup [V.int t, V.int g]) = H1 at *
    refine ⟨_, DGet.t (k := ky t g) (b1 _ _ h4) hkp', ?_⟩
    rw [h5.1 t g]
    cases e2 : fnd (L.map some) t g with
    | some j =>
      obtain ⟨r, hr1, rt, rg'⟩ := fnd_some e2
      obtain ⟨x, hx, c, rfl, hc⟩ := prd_get2 h3 hr1
      have hrL : L[j]? = some r := by
        rw [List.getElem?_map] at hr1
        cases eL : L[j]? with
        | none => rw [eL] at hr1; cases hr1
        | some y => rw [eL] at hr1; cases hr1; rfl
      have q := qs j r e2 hrL
      refine iteT ⟨_, dx, _, b1 _ _ h1, T.cl_Book, T.na_Book_rows, _, bkF_rows, ra, rfl, vs, _, rfl, SqL.of (b1 _ _ h2), _, atI_nat hx, c, rfl, _, SqT.of (b1 _ _ hc), _, rfl, fun np hnp => ?_⟩
      have b2 := same_upd (o := .tup [V.int t, V.int g, V.int e, V.bl r.u]) b1 hnp
      have hr2 := b2 _ _ h2
      have npr : np ≠ ra := fun z => by rw [z, b1 _ _ h2] at hnp; cases hnp
      have hvl : j < vs.length := (List.getElem?_eq_some_iff.mp hx).1
      refine ⟨_, dx, _, b2 _ _ h1, T.cl_Book, T.na_Book_rows, _, bkF_rows, ra, rfl, vs, _, rfl, hr2, j, by unfold ixN; rw [if_pos (by omega), if_pos (by omega)]; rfl, ?_⟩
      refine q _ ⟨dx, vs.set j (.ref np), kvs, ?_, upd_same, ?_, ?_, ?_, h6⟩ ?_
      · rw [upd_ne (fun z => by rw [z, h2] at h1; cases h1)]; exact b2 _ _ h1
      · rw [List.map_set]
        exact prd_set (F := RowAt _) (show RowAt _ (V.ref np) (some _) from ⟨np, rfl, by rw [upd_ne npr, upd_same]⟩) j (RsAt.same2 hr2 (h3.same b2))
      · rw [upd_ne (fun z => by rw [z, h2] at h4; cases h4)]; exact b2 _ _ h4
      · rw [List.map_set]; exact lnk_set h5 hr1 rt.symm rg'.symm
      · intro c o hc hx
        rw [upd_ne (fun z => hx (by simp [z]))]
        exact b2 _ _ hc
    | none =>
      have q := qn e2
      rw [if_neg (by decide)]
      refine ⟨dx, _, b1 _ _ h1, bkF_no (by decide +kernel), ra, fa, L, n, hd, hB.same b1, hu, hL, h0, hlt, fun j H2 hj hall hor hB2 kp2 np hnp => ?_⟩
      have q := q j
      have hpl : 0 ≤ (hd + j) % (L.length : Int) ∧ (hd + j) % (L.length : Int) < L.length := ⟨Int.emod_nonneg _ (by omega), Int.emod_lt_of_pos _ (by omega)⟩
      have hfc := fnd_clr (is := rg L.length hd j) (k := ((hd + j) % (L.length : Int)).toNat) e2
      have l4 : (clr L (rg L.length hd j)).length = L.length := clr_len
      generalize (((hd + j) % (L.length : Int) + 1) % (L.length : Int)) = hd2 at *
      generalize (hd + j) % (L.length : Int) = pl at *
      generalize clr L (rg L.length hd j) = L4 at *
      obtain ⟨dx2, vs2, kvs2, m1, m2, m3, m4, m5, m6⟩ := id hB2
      have hvl2 := Paired.length m3
      rw [List.length_set, List.length_map, l4] at hvl2
      have hrn : ((L4.map some).set pl.toNat none)[pl.toNat]? = some none := by rw [List.getElem?_set_self (by rw [List.length_map]; omega)]
      have b2 := same_upd (o := .tup [V.int t, V.int g, V.int e, V.bl false]) (same_refl (H := H2)) hnp
      have hnp' : upd H2 np (.tup [V.int t, V.int g, V.int e, V.bl false]) np = some (.tup [V.int t, V.int g, V.int e, V.bl false]) := upd_same
      have npr : np ≠ ra := fun z => by rw [z, m2] at hnp; cases hnp
      generalize upd H2 np (.tup [V.int t, V.int g, V.int e, V.bl false]) = H3 at *
      have hr2 := b2 _ _ m2
      have hpr : p ≠ ra := fun z => by rw [z, m2] at m1; cases m1
      have hfr : fa ≠ ra := fun z => by rw [z, m2] at m4; cases m4
      have hpf : p ≠ fa := fun z => by rw [z, m4] at m1; cases m1
      refine ⟨_, dx2, _, b2 _ _ m1, T.cl_Book, T.na_Book_rows, _, bkF_rows, ra, rfl, vs2, hr2, pl.toNat, by unfold ixN; rw [if_pos hpl.1, if_pos (by omega)], ?_⟩
      have k1 : upd H3 ra (.lst (vs2.set pl.toNat (V.ref np))) p = some (.ins A.C_Book dx2 (bkF ra fa hd2)) := by rw [upd_ne hpr]; exact b2 _ _ m1
      have k2 : upd H3 ra (.lst (vs2.set pl.toNat (V.ref np))) ra = some (.lst (vs2.set pl.toNat (V.ref np))) := upd_same
      have k3 : RsAt (upd H3 ra (.lst (vs2.set pl.toNat (V.ref np)))) (vs2.set pl.toNat (V.ref np)) (((L4.map some).set pl.toNat none).set pl.toNat (some ⟨t, g, e, false⟩)) := prd_set (F := RowAt _) (show RowAt _ (V.ref np) (some _) from ⟨np, rfl, by rw [upd_ne npr]; exact hnp'⟩) pl.toNat (RsAt.same2 hr2 (m3.same b2))
      have k4 : upd H3 ra (.lst (vs2.set pl.toNat (V.ref np))) fa = some (.dT kvs2) := by rw [upd_ne hfr]; exact b2 _ _ m4
      have kf : Kp [p, ra, fa] H (upd H3 ra (.lst (vs2.set pl.toNat (V.ref np)))) := fun c o hc hx => by
        rw [upd_ne (fun z => hx (by simp [z]))]
        exact b2 _ _ (kp2 c o (b1 _ _ hc) hx)
      generalize upd H3 ra (.lst (vs2.set pl.toNat (V.ref np))) = H4 at *
      refine ⟨_, dx2, _, k1, T.cl_Book, T.na_Book_found, _, bkF_found, fun kk hkk => ?_⟩
      have b4 := same_upd (o := .tup [V.int t, V.int g]) (same_refl (H := H4)) hkk
      have hval : valV kvs2 (ky t g) = none := by rw [m5.1 t g, hfc]; rfl
      refine ⟨fa, rfl, _, DPut.t (k := ky t g) (b4 _ _ k4) upd_same (by have : sizeLine = 16777216 := PySem.sizeLine_eq; omega), ?_⟩
      have el : ((L4.map some).set pl.toNat none).set pl.toNat (some ⟨t, g, e, false⟩) = (L4.set pl.toNat ⟨t, g, e, false⟩).map some := by rw [List.set_set, List.map_set]
      have hlk := lnk_new (r := ⟨t, g, e, false⟩) m5 hrn hfc
      rw [el] at k3 hlk
      rw [show ((pl.toNat : Nat) : Int) = pl by omega] at hlk
      refine q _ hj hall hor ⟨dx2, vs2.set pl.toNat (V.ref np), _, ?_, ?_, ?_, upd_same, hlk, ?_⟩ ?_
      · rw [upd_ne hpf]; exact b4 _ _ k1
      · rw [upd_ne (fun z => hfr z.symm)]; exact b4 _ _ k2
      · exact RsAt.sameD (b4 _ _ k4) (k3.same b4)
      · rw [show ky (⟨t, g, e, false⟩ : Rw).t (⟨t, g, e, false⟩ : Rw).g = ky t g from rfl, putK_new _ hval, List.length_append]
        exact Nat.add_le_add m6 (Nat.le_refl _)
      · intro c o hc hx
        rw [upd_ne (fun z => hx (by simp [z]))]
        exact b4 _ _ (kf c o hc hx)
def sp_keep0 (C : Addr) : Sp := fun vs H Q _ => ∃ (p ra fa : Addr) (n : Nat) (hd t g e : Int), vs = [.ref p, .int t, .int g, .int e] ∧ BkAt C H p ra fa [] n hd ∧ Q .non H
theorem b_keep0 (T : Txt K mg A) : Body P w K mg base "Book.keep" s_Book_keep ["self", "task", "page", "entry", "place"] 2 (sp_keep0 A.C_Book) := by
  have H_Book_place_for_new := h_new (P := P) (w := w) (base := base) T
  intro f cdv A' outer s H vs Q E hr z
  obtain ⟨p, ra, fa, n, hd, t, g, e, rfl, hB, q⟩ := z
  obtain ⟨dx, vs, kvs, h1, h2, h3, h4, h5, h6⟩ := id hB
  have hvl := Paired.length h3
  refine ⟨_, (pss_cons (ps_if (pt_cmpR op_eq (pe_callB call_len rfl T.b_len PySem.boot_len (pa_cons (pe_fld (pv 0) rfl) pa_nil)) pe_int (nomark _)) (pss_one ps_retN) pss_nil)
      (pss_cons (ps_set (i := 4) sc_Book_keep.nd rfl (Or.inl rfl) (pe_dget1 (hu_of hr) (pe_fld (pv 0) rfl) (pe_tup (pa_cons (pv 1) (pa_cons (pv 2) pa_nil))) ⟨rfl, rfl, rfl, rfl⟩))
      (pss_cons (ps_if (pt_cmpR op_notN (pv 4) pe_non (nomark _)) (pss_cons (ps_asg (pe_tup (pa_cons (pv 1) (pa_cons (pv 2) (pa_cons (pv 3) (pa_cons (pe_ix ix_tup (pe_ix ix_list (pe_fld (pv 0) rfl) (pv 4) (fun _ _ => rfl)) pe_int (fun _ _ => rfl)) pa_nil))))) (pg_sub (pe_fld (pv 0) rfl) (pv 4) set_list))
      (pss_one ps_retN)) pss_nil)
      (pss_cons (ps_set (i := 4) sc_Book_keep.nd rfl (Or.inl rfl) (pe_methE0 (pv 0) T.cl_Book H_Book_place_for_new (hr.mono (by decide)) xw_def))
      (pss_cons (ps_asg (pe_tup (pa_cons (pv 1) (pa_cons (pv 2) (pa_cons (pv 3) (pa_cons pe_bl pa_nil))))) (pg_sub (pe_fld (pv 0) rfl) (pv 4) set_list))
      (pss_one (ps_dput (hu_of hr) (pe_fld (pv 0) rfl) (pe_tup (pa_cons (pv 1) (pa_cons (pv 2) pa_nil))) (pv 4) rfl))))))), ?_⟩
  unfold tDGet1 sp_new sDPut
  walk_at "wp"
  simp only [h1]
  walk_at "wp"
  refine ⟨T.cl_Book, T.na_Book_rows, _, bkF_rows, _, .inl ⟨_, SqL.of h2, rfl⟩, ?_⟩
  rw [if_pos (by rw [hvl]; rfl)]
  exact q
def sp_keepZ (C : Addr) : Sp := fun vs H Q E => sp_keep0 C vs H Q E ∨ sp_keep C vs H Q E ∨ sp_keepF C vs H Q E
theorem h_keepZ (T : Txt K mg A) : HaveM P w K mg base A.C_Book "keep" 3 ["self", "task", "page", "entry"] [] (sp_keepZ A.C_Book) := T.r_Book_keep.have sc_Book_keep (fun vs H Q E z => by
    rcases z with ⟨p, ra, fa, n, hd, t, g, e, rfl, _⟩ | ⟨p, ra, fa, rows, n, j0, hd, t, g, e, rfl, _⟩ | ⟨p, ra, fa, L, n, hd, t, g, e, rfl, _⟩ <;> rfl) (fun f cdv A' outer s H vs Q E hr z => z.elim (b_keep0 T f cdv A' outer s H vs Q E hr) fun z => z.elim (b_keep T f cdv A' outer s H vs Q E hr) (b_keepF T f cdv A' outer s H vs Q E hr))

def offR (t : Int) : Option Rw → Option Rw
  | none => none
  | some r => if r.t = t then none else some r
def offT (t : Int) (rows : List (Option Rw)) : List (Option Rw) := rows.map (offR t)
def Cut (t : Int) (rows rows' : List (Option Rw)) : Prop := rows'.length = rows.length ∧ ∀ j : Nat, rows'[j]? = rows[j]? ∨ (rows'[j]? = some none ∧ ∃ r, rows[j]? = some (some r) ∧ r.t = t)
theorem cut_uq {t : Int} {rows rows' : List (Option Rw)} (h : Cut t rows rows') (hu : Uq rows) : Uq rows' := fun i j r s hi hj e1 e2 => by
  have o : ∀ (i : Nat) (r : Rw), rows'[i]? = some (some r) → rows[i]? = some (some r) := fun i r hi => by
    rcases h.2 i with q | ⟨q, _⟩
    · rw [← q]; exact hi
    · rw [q] at hi; cases hi
  exact hu i j r s (o i r hi) (o j s hj) e1 e2
theorem cut_strike {t g : Int} {rows rows' : List (Option Rw)} (h : Cut t rows rows') : Cut t rows (strikeR rows' t g) := by
  unfold strikeR
  cases e : fnd rows' t g with
  | none => exact h
  | some j =>
    obtain ⟨r, hr, e1, e2⟩ := fnd_some e
    refine ⟨by rw [← h.1]; exact List.length_set, fun i => ?_⟩
    show (rows'.set j none)[i]? = _ ∨ _
    rw [List.getElem?_set]
    by_cases c : j = i
    · subst c
      rw [if_pos rfl, if_pos (List.getElem?_eq_some_iff.mp hr).1]
      refine .inr ⟨rfl, r, ?_, e1⟩
      rcases h.2 j with q | ⟨q, _⟩
      · rw [← q]; exact hr
      · rw [q] at hr; cases hr
    · rw [if_neg c]; exact h.2 i
theorem fnd_cut {rows : List (Option Rw)} {j : Nat} {t g : Int} (h : fnd rows t g = none) : fnd (rows.set j none) t g = none := by
  unfold fnd at *
  rw [List.findIdx?_eq_none_iff] at *
  intro x hx
  rcases List.mem_or_eq_of_mem_set hx with hx | rfl
  · exact h x hx
  · rfl
theorem fnd_off {rows : List (Option Rw)} {t g : Int} (hu : Uq rows) : fnd (strikeR rows t g) t g = none := by
  unfold strikeR
  cases e : fnd rows t g with
  | none => exact e
  | some j =>
    obtain ⟨r, hr, e1, e2⟩ := fnd_some e
    show fnd (rows.set j none) t g = none
    cases e3 : fnd (rows.set j none) t g with
    | none => rfl
    | some i =>
      obtain ⟨s, hs, e4, e5⟩ := fnd_some e3
      rw [List.getElem?_set] at hs
      by_cases c : j = i
      · rw [if_pos c] at hs
        split at hs <;> cases hs
      · rw [if_neg c] at hs
        exact absurd (hu j i r s hr hs (e1.trans e4.symm) (e2.trans e5.symm)) c
theorem cut_all {t : Int} {rows rows' : List (Option Rw)} (h : Cut t rows rows') (hn : ∀ g, fnd rows' t g = none) : rows' = offT t rows := by
  refine List.ext_getElem? fun j => ?_
  unfold offT
  rw [List.getElem?_map]
  rcases h.2 j with q | ⟨q, r, hr, e⟩
  · cases hj : rows[j]? with
    | none => rw [q, hj]; rfl
    | some o =>
      rw [hj] at q
      rw [q]
      cases o with
      | none => rfl
      | some r =>
        show some (some r) = some (if r.t = t then none else some r)
        by_cases c : r.t = t
        · have := List.findIdx?_eq_none_iff.mp (hn r.g) (some r) (List.mem_of_getElem? q)
          have this : (decide (r.t = t) && decide (r.g = r.g)) = false := this
          rw [decide_eq_true c, decide_eq_true rfl] at this
          cases this
        · rw [if_neg c]
  · rw [q, hr]
    show some none = some (if r.t = t then none else some r)
    rw [if_pos e]
theorem fnd_kept {t g t' g' : Int} {rows : List (Option Rw)} (h : fnd rows t' g' = none) : fnd (strikeR rows t g) t' g' = none := by
  unfold strikeR
  cases fnd rows t g with
  | none => exact h
  | some j => exact fnd_cut h
theorem val_mem {kvs : List (List Key × V)} {k : List Key} {v : V} (h : valV kvs k = some v) : k ∈ kvs.map (·.1) := by
  induction kvs with
  | nil => cases h
  | cons x r ih =>
    by_cases c : x.1 = k
    · rw [List.map_cons, c]; exact List.mem_cons_self ..
    · rw [valV_neg c] at h
      exact List.mem_cons_of_mem _ (ih h)
def sp_stask (C : Addr) : Sp := fun vs H Q _ => ∃ (p ra fa : Addr) (rows : List (Option Rw)) (n : Nat) (hd : Int) (t : Int), vs = [.ref p, .int t] ∧ BkAt C H p ra fa rows n hd ∧ Uq rows ∧ n < 1000000 ∧ ∀ H', BkAt C H' p ra fa (offT t rows) n hd → Kp [ra, fa] H H' → Q .non H'
theorem h_stask (T : Txt K mg A) : HaveM P w K mg base A.C_Book "strike_task" 2 ["self", "task"] [] (sp_stask A.C_Book) := by
  have H_Book_strike := h_strk (P := P) (w := w) (base := base) T
  refine T.r_Book_strike_task.have sc_Book_strike_task (fun vs H Q E z => ?_) ?_
  · obtain ⟨p, ra, fa, rows, n, hd, t, rfl, _⟩ := z; rfl
  · intro f cdv A' outer s H vs Q E hr z
    obtain ⟨p, ra, fa, rows, n, hd, t, rfl, hB, hu, hn, q⟩ := z
    obtain ⟨dx, vs, kvs, h1, h2, h3, h4, h5, h6⟩ := id hB
    refine ⟨_, (pss_one (ps_forE PassesOwn.leaving rfl (pi_list (pe_callTy (call_listDT rfl) rfl T.b_list PyProof.Rows.boot_list (pa_cons (pe_fld (pv 0) rfl) pa_nil))) (pg_name (i := 2) sc_Book_strike_task.nd rfl (Or.inl rfl)) (pss_one (ps_if (pt_cmpR op_eq (pe_ix ix_tup (pv 2) pe_int (fun _ _ => rfl)) (pv 1) (nomark _)) (pss_one (ps_expr (pe_methE (pv 0) T.cl_Book H_Book_strike (hr.mono (by decide)) xw_def (pa_cons (pe_ix ix_tup (pv 2) pe_int (fun _ _ => rfl)) (pa_cons (pe_ix ix_tup (pv 2) pe_int (fun _ _ => rfl)) pa_nil))))) pss_nil)))), ?_⟩
    walk_at "wp"
    simp only [h1]
    walk_at "wp"
    refine ⟨T.cl_Book, T.na_Book_found, _, bkF_found, fa, rfl, kvs, h4, fun l us hl hk => ?_⟩
    have b1 := same_upd (o := .lst us) (same_refl (H := H)) hl
    have hl' : upd H l (.lst us) l = some (.lst us) := upd_same
    have hk : KysAt (upd H l (.lst us)) (kvs.map (·.1)) us := Paired.mapP hk fun _ _ ⟨a, e, h⟩ => ⟨a, e, b1 _ _ h⟩
    have hB := hB.same b1
    have hlx : l ∉ [ra, fa] := fun z => by
      rcases List.mem_cons.mp z with z | z
      · rw [z, h2] at hl; cases hl
      · rw [List.mem_singleton.mp z, h4] at hl; cases hl
    have tx : ∀ c xs, upd H l (.lst us) c = some (.tup xs) → c ∉ [ra, fa] := fun c xs hc z => by
      rcases List.mem_cons.mp z with z | z
      · rw [z, b1 _ _ h2] at hc; cases hc
      · rw [List.mem_singleton.mp z, b1 _ _ h4] at hc; cases hc
    have q2 : ∀ H', BkAt A.C_Book H' p ra fa (offT t rows) n hd → Kp [ra, fa] (upd H l (.lst us)) H' → Q .non H' := fun H' hB' kp => q H' hB' fun c o hc hx => kp c o (b1 _ _ hc) hx
    generalize upd H l (.lst us) = H1 at *
    refine ⟨⟨_, SqL.of hl'⟩, loop_list (xs := us) (fun i σ H' => ∃ v2 rows', σ = [some (.ref p), some (.int t), v2] ∧ BkAt A.C_Book H' p ra fa rows' n hd ∧ Cut t rows rows' ∧ (∀ k < i, ∀ g, (kvs.map (·.1))[k]? = some (ky t g) → fnd rows' t g = none) ∧ Kp [ra, fa] H1 H') ⟨_, _, rfl, hB, ⟨rfl, fun _ => .inl rfl⟩, (fun k h => absurd h (Nat.not_lt_zero _)), fun _ _ h _ => h⟩ (fun i σ H' _ ⟨_, _, _, _, _, _, e⟩ => SqL.of (e _ _ hl' hlx)) (fun i x σ H' hi => ?_) (fun σ H' => ?_)⟩
    · rintro ⟨v2, rows', rfl, hB', hcut, hno, kp⟩
      obtain ⟨k, hk1, a, rfl, ha⟩ := prd_get2 hk hi
      obtain ⟨y, hy, rfl⟩ := List.mem_map.mp (List.mem_of_getElem? hk1)
      obtain ⟨kt, kg, ek⟩ := h5.2 y hy
      rw [ek] at ha hk1
      have ha' := kp _ _ ha (tx _ _ ha)
      have ha' : H' a = some (.tup [V.int kt, V.int kg]) := ha'
      obtain ⟨dx', vs', kvs', k1, _⟩ := id hB'
      unfold sp_strk
      walk_at "wp"
      refine ⟨_, SqT.of ha', _, rfl, rfl, ?_⟩
      by_cases c : kt = t
      · subst c
        rw [if_pos rfl]
        refine ⟨dx', _, k1, bkF_no (by decide +kernel), _, SqT.of ha', _, rfl, _, SqT.of ha', _, rfl, ?_⟩
        refine ⟨ra, fa, rows', n, hd, kt, rfl, kg, rfl, hB', cut_uq hcut hu, fun H2 hB2 kp2 => ⟨_, hB2, cut_strike hcut, fun k hk g hg => ?_, fun c o hc hx => kp2 c o (kp c o hc hx) hx⟩⟩
        rcases (by omega : k < i ∨ k = i) with h | rfl
        · exact fnd_kept (hno k h g hg)
        · rw [hk1] at hg
          have e : kg = g := by injection hg with hg; injection hg with _ b; injection b with b _; injection b
          rw [← e]
          exact fnd_off (cut_uq hcut hu)
      · rw [if_neg (fun z => c (V.int.inj z))]
        refine ⟨_, hB', hcut, fun k hk g hg => ?_, kp⟩
        rcases (by omega : k < i ∨ k = i) with h | rfl
        · exact hno k h g hg
        · rw [hk1] at hg
          have e : kt = t := by injection hg with hg; injection hg with a b; injection a
          exact absurd e c
    · rintro ⟨v2, rows', rfl, hB', hcut, hno, kp⟩
      walk_at "wp"
      have e : rows' = offT t rows := cut_all hcut fun g => by
        cases e : fnd rows' t g with
        | none => rfl
        | some j =>
          obtain ⟨r, hr, e1, e2⟩ := fnd_some e
          have hr0 : rows[j]? = some (some r) := by
            rcases hcut.2 j with z | ⟨z, _⟩
            · rw [← z]; exact hr
            · rw [z] at hr; cases hr
          have hv := h5.1 t g
          cases e3 : fnd rows t g with
          | none =>
            have := List.findIdx?_eq_none_iff.mp e3 (some r) (List.mem_of_getElem? hr0)
            have this : (decide (r.t = t) && decide (r.g = g)) = false := this
            rw [decide_eq_true e1, decide_eq_true e2] at this
            cases this
          | some j' =>
            rw [e3] at hv
            obtain ⟨k, hk2⟩ := List.mem_iff_getElem?.mp (val_mem hv)
            have := hno k (by rw [← Paired.length hk]; exact (List.getElem?_eq_some_iff.mp hk2).1) g hk2
            rw [e] at this
            cases this
      rw [e] at hB'
      exact q2 _ hB' kp

theorem md_ne {n : Nat} {h : Int} {a i : Nat} (h1 : a < i) (h2 : i < n) : (h + a) % (n : Int) ≠ (h + i) % (n : Int) := fun e => by
  have e2 := Int.emod_eq_emod_iff_emod_sub_eq_zero.mp e
  have e3 : (n : Int) ∣ (h + a) - (h + i) := Int.dvd_of_emod_eq_zero e2
  obtain ⟨c, hc⟩ := e3
  have e4 : (n : Int) * (-c) = (i : Int) - a := by rw [Int.mul_neg, ← hc]; omega
  have : 0 < -c := by
    rcases Int.lt_or_le 0 (-c) with q | q
    · exact q
    · have := Int.mul_nonpos_of_nonneg_of_nonpos (show (0 : Int) ≤ n by omega) q
      omega
  have q1 : (n : Int) * 1 ≤ (n : Int) * (-c) := Int.mul_le_mul_of_nonneg_left (by omega) (by omega)
  omega
theorem clr_at {is : List Int} {k : Nat} : ∀ {L : List Rw}, (∀ i ∈ is, i.toNat ≠ k) → (clr L is)[k]? = L[k]? := by
  induction is with
  | nil => intro L _; rfl
  | cons i is ih =>
    intro L h
    have e : (clr (L.modify i.toNat off) is)[k]? = (L.modify i.toNat off)[k]? := ih fun x hx => h x (List.mem_cons_of_mem _ hx)
    show (clr (L.modify i.toNat off) is)[k]? = _
    rw [e, List.getElem?_modify]
    have hne := h i (List.mem_cons_self ..)
    cases L[k]? with
    | none => rfl
    | some r =>
      show some (if i.toNat = k then off r else r) = some r
      rw [if_neg hne]
theorem rg_at {L : List Rw} {hd : Int} {i : Nat} (hi : i < L.length) : (clr L (rg L.length hd i))[((hd + i) % (L.length : Int)).toNat]? = L[((hd + i) % (L.length : Int)).toNat]? := clr_at fun x hx e => by
  unfold rg at hx
  obtain ⟨a, ha, rfl⟩ := List.mem_map.mp hx
  have h1 := Int.emod_nonneg (hd + a) (show (L.length : Int) ≠ 0 by omega)
  have h2 := Int.emod_nonneg (hd + i) (show (L.length : Int) ≠ 0 by omega)
  exact md_ne (h := hd) (List.mem_range.mp ha) hi (by omega)
theorem j_uq {L : List Rw} {hd : Int} {j k : Nat} (h1 : j ≤ L.length) (a1 : ∀ i < j, (L.map (·.u)).getD ((hd + i) % (L.length : Int)).toNat false = true) (o1 : j = L.length ∨ (L.map (·.u)).getD ((hd + j) % (L.length : Int)).toNat false = false)
    (h2 : k ≤ L.length) (a2 : ∀ i < k, (L.map (·.u)).getD ((hd + i) % (L.length : Int)).toNat false = true) (o2 : k = L.length ∨ (L.map (·.u)).getD ((hd + k) % (L.length : Int)).toNat false = false) : j = k := by
  rcases Nat.lt_trichotomy j k with c | c | c
  · have := a2 j c
    rcases o1 with e | e
    · omega
    · rw [this] at e; cases e
  · exact c
  · have := a1 k c
    rcases o2 with e | e
    · omega
    · rw [this] at e; cases e
theorem cutV_nat {xs : List V} {lo hi : Nat} : cutV xs (some (lo : Int)) (some (hi : Int)) = (xs.take hi).drop lo := by
  unfold cutV
  show (xs.drop (if (lo : Int) < 0 then ((lo : Int) + (xs.length : Int)).toNat else min (lo : Int).toNat xs.length)).take ((if (hi : Int) < 0 then ((hi : Int) + (xs.length : Int)).toNat else min (hi : Int).toNat xs.length) - (if (lo : Int) < 0 then ((lo : Int) + (xs.length : Int)).toNat else min (lo : Int).toNat xs.length)) = _
  rw [if_neg (by omega), if_neg (by omega), Int.toNat_natCast, Int.toNat_natCast, List.drop_take]
  refine List.ext_getElem? fun k => ?_
  rw [List.getElem?_take, List.getElem?_take, List.getElem?_drop, List.getElem?_drop]
  by_cases h1 : k < hi - lo
  · rw [if_pos h1]
    by_cases h2 : k < min hi xs.length - min lo xs.length
    · rw [if_pos h2, Nat.min_eq_left (by omega)]
    · rw [if_neg h2, List.getElem?_eq_none_iff.mpr (by omega)]
  · rw [if_neg h1]
    by_cases h2 : k < min hi xs.length - min lo xs.length
    · rw [if_pos h2, List.getElem?_eq_none_iff.mpr (by omega)]
    · rw [if_neg h2]
theorem cutV_to {xs : List V} {hi : Nat} : cutV xs none (some (hi : Int)) = xs.take hi := by
  unfold cutV
  show (xs.drop 0).take ((if (hi : Int) < 0 then ((hi : Int) + (xs.length : Int)).toNat else min (hi : Int).toNat xs.length) - 0) = _
  rw [if_neg (by omega), Int.toNat_natCast, List.drop_zero, Nat.sub_zero]
  rcases Nat.le_total hi xs.length with h | h
  · rw [Nat.min_eq_left h]
  · rw [Nat.min_eq_right h, List.take_length, List.take_of_length_le h]
def sp_whole : Sp := fun vs H Q _ => ∃ i : Int, vs = [.int i] ∧ Q (.bl true) H
theorem h_whole (T : Txt K mg A) : Have P w K mg base "_law_whole" 1 ["_law_found"] [] sp_whole := by
  refine T.r_l_whole.have sc_l_whole (fun vs H Q E z => ?_) ?_
  · obtain ⟨i, rfl, _⟩ := z; rfl
  · intro f cdv A' outer s H vs Q E hr z
    obtain ⟨i, rfl, q⟩ := z
    refine ⟨_, (pss_one (ps_ret (pe_and (pe_callB call_isi rfl T.b_isinstance PyProof.Rows.boot_isinstance (pa_cons (pv 0) (pa_cons (pe_bltnE (n := "int") rfl T.b_int PyProof.Rows.boot_int) pa_nil))) (pe_one (pe_not (pe_callB call_isi rfl T.b_isinstance PyProof.Rows.boot_isinstance (pa_cons (pv 0) (pa_cons (pe_bltnE (n := "bool") rfl T.b_bool PyProof.Rows.boot_bool) pa_nil)))))))), ?_⟩
    walk_at "wp"
    exact ⟨by decide, iteT ⟨by decide, q⟩⟩
theorem Kp.more {ex ey : List Addr} {H H1 H2 : Hp} (k1 : Kp ey H H1) (k2 : Kp ex H1 H2) (h : ∀ x ∈ ex, x ∈ ey) : Kp ey H H2 := fun c o hc hx => k2 _ _ (k1 c o hc hx) (fun z => hx (h _ z))
theorem Kp.post {ex : List Addr} {H H1 H2 : Hp} (k : Kp ex H H1) (s : Same H1 H2) : Kp ex H H2 := fun c o hc hx => s _ _ (k c o hc hx)
theorem BkAt.lst {C p ra fa rq : Addr} {H : Hp} {rows : List (Option Rw)} {n : Nat} {hd : Int} {xs : List V} {o : HO} (hx : H rq = some (.lst xs)) (nr : ra ≠ rq) (h : BkAt C H p ra fa rows n hd) : BkAt C (upd H rq o) p ra fa rows n hd := by
  obtain ⟨dx, vs, kvs, h1, h2, h3, h4, h5, h6⟩ := h
  exact ⟨dx, vs, kvs, by rw [upd_ne (fun z => by rw [z, hx] at h1; cases h1)]; exact h1, by rw [upd_ne nr]; exact h2, RsAt.same2 hx h3, by rw [upd_ne (fun z => by rw [z, hx] at h4; cases h4)]; exact h4, h5, h6⟩
theorem RsAt.kp {ex : List Addr} {H H' : Hp} (k : Kp ex H H') (hx : ∀ c xs, H c = some (.tup xs) → c ∉ ex) {vs : List V} {rs : List (Option Rw)} (h : RsAt H vs rs) : RsAt H' vs rs := Paired.mapP h fun _ y q => by
  match y, q with
  | none, q => exact q
  | some _, ⟨a, e, h⟩ => exact ⟨a, e, k _ _ h (hx _ _ h)⟩
theorem BkAt.tup {C p ra fa : Addr} {H : Hp} {rows : List (Option Rw)} {n : Nat} {hd : Int} (h : BkAt C H p ra fa rows n hd) : ∀ c xs, H c = some (.tup xs) → c ∉ [ra, fa] := fun c xs hc z => by
  obtain ⟨dx, vs, kvs, h1, h2, h3, h4, h5, h6⟩ := h
  rcases List.mem_cons.mp z with z | z
  · rw [z, h2] at hc; cases hc
  · rw [List.mem_singleton.mp z, h4] at hc; cases hc
theorem BkAt.kp {C p ra fa : Addr} {ex : List Addr} {H H' : Hp} {rows : List (Option Rw)} {n : Nat} {hd : Int} (h : BkAt C H p ra fa rows n hd) (k : Kp ex H H') (hp : p ∉ ex) (hr : ra ∉ ex) (hf : fa ∉ ex) (ht : ∀ c xs, H c = some (.tup xs) → c ∉ ex) : BkAt C H' p ra fa rows n hd := by
  obtain ⟨dx, vs, kvs, h1, h2, h3, h4, h5, h6⟩ := h
  exact ⟨dx, vs, kvs, k _ _ h1 hp, k _ _ h2 hr, RsAt.kp k ht h3, k _ _ h4 hf, h5, h6⟩
theorem clr_none {L : List Rw} {is : List Int} {t g : Int} (h : fnd (L.map some) t g = none) : fnd ((clr L is).map some) t g = none := by
  unfold fnd
  rw [List.findIdx?_eq_none_iff]
  intro x hx
  obtain ⟨s, hs, rfl⟩ := List.mem_map.mp hx
  obtain ⟨i, hi⟩ := List.mem_iff_getElem?.mp hs
  obtain ⟨r, hr, e1, e2⟩ := clr_keys hi
  have := List.findIdx?_eq_none_iff.mp h (some r) (List.mem_map.mpr ⟨r, List.mem_of_getElem? hr, rfl⟩)
  have this : (decide (r.t = t) && decide (r.g = g)) = false := this
  show (decide (s.t = t) && decide (s.g = g)) = false
  rw [e1, e2]
  exact this
theorem fnd_in {L : List Rw} {k : Nat} {r : Rw} (h : L[k]? = some r) {t g : Int} (hn : fnd (L.map some) t g = none) : ¬ (r.t = t ∧ r.g = g) := fun ⟨e1, e2⟩ => by
  have := List.findIdx?_eq_none_iff.mp hn (some r) (List.mem_map.mpr ⟨r, List.mem_of_getElem? h, rfl⟩)
  have this : (decide (r.t = t) && decide (r.g = g)) = false := this
  rw [decide_eq_true e1, decide_eq_true e2] at this
  cases this
theorem uq_put {L : List Rw} {k : Nat} {s : Rw} (hu : Uq (L.map some)) (hn : fnd (L.map some) s.t s.g = none) : Uq ((L.set k s).map some) := fun i j r y hi hj e1 e2 => by
  have gt : ∀ {M : List Rw} {i : Nat} {x : Rw}, (M.map some)[i]? = some (some x) → M[i]? = some x := fun {M i x} q => by
    rw [List.getElem?_map] at q
    cases e : M[i]? with
    | none => rw [e] at q; cases q
    | some y => rw [e] at q; cases q; rfl
  have ri := gt hi
  have rj := gt hj
  rw [List.getElem?_set] at ri rj
  by_cases a : k = i
  · by_cases b : k = j
    · exact a.symm.trans b
    · rw [if_neg b] at rj
      rw [if_pos a] at ri
      split at ri
      · cases ri
        exact absurd ⟨e1.symm, e2.symm⟩ (fnd_in rj hn)
      · cases ri
  · rw [if_neg a] at ri
    by_cases b : k = j
    · rw [if_pos b] at rj
      split at rj
      · cases rj
        exact absurd ⟨e1, e2⟩ (fnd_in ri hn)
      · cases rj
    · rw [if_neg b] at rj
      exact hu i j r y (by rw [List.getElem?_map, ri]; rfl) (by rw [List.getElem?_map, rj]; rfl) e1 e2
theorem ixN_nat {n j : Nat} (h : j < n) : ixN n (j : Int) = some j := by
  unfold ixN
  rw [if_pos (by omega), if_pos (by omega)]
  rfl

theorem clr_in {is : List Int} {k : Nat} : ∀ {L : List Rw}, (∃ i ∈ is, i.toNat = k) → ∀ r, (clr L is)[k]? = some r → r.u = false := by
  induction is with
  | nil => intro L h; obtain ⟨_, h, _⟩ := h; cases h
  | cons i is ih =>
    intro L h r hr
    have hr : (clr (L.modify i.toNat off) is)[k]? = some r := hr
    by_cases c : ∃ i ∈ is, i.toNat = k
    · exact ih c r hr
    · have hik : i.toNat = k := by
        obtain ⟨j, hj, e⟩ := h
        rcases List.mem_cons.mp hj with rfl | hj
        · exact e
        · exact absurd ⟨j, hj, e⟩ c
      rw [clr_at (fun x hx e => c ⟨x, hx, e⟩), List.getElem?_modify] at hr
      cases e : L[k]? with
      | none => rw [e] at hr; cases hr
      | some s =>
        rw [e] at hr
        have hr : some (if i.toNat = k then off s else s) = some r := hr
        rw [if_pos hik] at hr
        cases hr
        rfl
def sp_number : Sp := fun vs H Q _ => ∃ (b : Bool) (c k : Int), vs = [.bl b, .int c, .int k] ∧ 0 ≤ k ∧ k < 1000 ∧ ∀ z : Int, Q (.int z) H
theorem h_number (T : Txt K mg A) : Have P w K mg base "_law_number" 1 ["_law_digits", "_law_cell_here", "_law_k"] [] sp_number := by
  refine T.r_l_number.have sc_l_number (fun vs H Q E z => ?_) ?_
  · obtain ⟨b, c, k, rfl, _⟩ := z; rfl
  · intro f cdv A' outer s H vs Q E hr z
    obtain ⟨b, c, k, rfl, k0, k1, q⟩ := z
    refine ⟨_, (pss_cons (ps_if (pt_val (pv 0)) (pss_one (ps_ret (pe_op op_mod (pv 1) (pe_op op_pow pe_int pe_int)))) pss_nil)
      (pss_cons (ps_set (i := 3) sc_l_number.nd rfl (Or.inl rfl) (pe_op op_mod (pe_op op_add (pe_op op_add (pe_op op_mul (pv 1) pe_int) (pe_op op_mul (pe_op op_mul (pv 2) (pv 2)) pe_int)) (pv 2)) pe_int))
      (pss_one (ps_ret (pe_op op_add (pe_op op_mul (pv 3) pe_int) (pe_op op_mod (pe_op op_add (pe_op op_add (pe_op op_mul (pv 3) pe_int) (pe_op op_mul (pv 1) pe_int)) (pe_op op_mul (pe_op op_mul (pv 2) (pv 2)) (pv 2))) pe_int)))))), ?_⟩
    walk_at "wp"
    cases b with
    | true => exact iteT (q _)
    | false => exact iteF ⟨.inl ⟨by omega, by omega⟩, .inl ⟨by omega, by omega⟩, .inr ⟨by omega, by omega⟩, q _⟩
def sp_size : Sp := fun vs H Q _ => ∃ (c : Int), vs = [.int c] ∧ ∀ z : Nat, z ≤ 64 → Q (.int z) H
theorem h_size (T : Txt K mg A) : Have P w K mg base "_law_size" 1 ["_law_cell_here"] [] sp_size := by
  refine T.r_l_size.have sc_l_size (fun vs H Q E z => ?_) ?_
  · obtain ⟨c, rfl, _⟩ := z; rfl
  · intro f cdv A' outer s H vs Q E hr z
    obtain ⟨c, rfl, q⟩ := z
    refine ⟨_, (pss_cons (ps_if (pt_cmpR op_eq (pe_op op_mod (pe_op op_fdiv (pv 0) pe_int) pe_int) pe_int (nomark _)) (pss_one (ps_ret (pe_op op_mod (pe_op op_fdiv (pv 0) pe_int) pe_int))) pss_nil)
      (pss_one (ps_ret (pe_op op_mod (pv 0) pe_int)))), ?_⟩
    walk_at "wp"
    have fin : ∀ z : Int, 0 ≤ z → z ≤ 64 → Q (.int z) H := fun z h0 h1 => by
      have := q z.toNat (by omega)
      rwa [show ((z.toNat : Nat) : Int) = z by omega] at this
    refine ite2 (fun _ => fin _ (Int.emod_nonneg _ (by decide)) ?_) (fun _ => fin _ (Int.emod_nonneg _ (by decide)) ?_)
    · have := Int.emod_lt_of_pos (c / 24) (show (0 : Int) < 65 by decide)
      omega
    · have := Int.emod_lt_of_pos c (show (0 : Int) < 6 by decide)
      omega
def plcO (rows : List (Option Rw)) (t g : Int) : Int := match fnd rows t g with
  | none => -1
  | some j => j
def sp_at (K : PySem.W.Frag) : Sp := fun vs H Q _ => ∃ (l : Addr) (us : List V) (rows : List (Option Rw)) (t g : Int), vs = [.ref l, .int t, .int g] ∧ H l = some (.lst us) ∧ RsAt H us rows ∧ ∀ H', Same H H' → Q (.int (plcO rows t g)) H'
theorem h_at (T : Txt K mg A) : Have P w K mg base "_law_at" 1 ["_law_rows", "_law_task", "_law_page"] [] (sp_at K) := by
  refine T.r_l_at.have sc_l_at (fun vs H Q E z => ?_) ?_
  · obtain ⟨l, us, rows, t, g, rfl, _⟩ := z; rfl
  · intro f cdv A' outer s H vs Q E hr z
    obtain ⟨l, us, rows, t, g, rfl, hl, hU, q⟩ := z
    refine ⟨_, (pss_cons (ps_forE PassesOwn.leaving rfl (pi_enum rfl T.b_enumerate (pa_cons (pv 0) pa_nil)) (pg_tup rfl (pgs_cons (pg_name (i := 3) sc_l_at.nd rfl (Or.inl rfl)) (pgs_cons (pg_name (i := 4) sc_l_at.nd rfl (Or.inl rfl)) pgs_nil))) (pss_one (ps_if (PW.pt (pw_and (pt_cmpR op_notN (pv 4) pe_non (nomark _)) (pw_and (pt_cmpR op_eq (pe_ix ix_tup (pv 4) pe_int (fun _ _ => rfl)) (pv 1) (nomark _)) (pw_and1 (pt_cmpR op_eq (pe_ix ix_tup (pv 4) pe_int (fun _ _ => rfl)) (pv 2) (nomark _)))))) (pss_one (ps_ret (pv 3))) pss_nil)))
      (pss_one (ps_ret (pe_un op_neg pe_int)))), ?_⟩
    walk_at "wp"
    have hul := Paired.length hU
    refine ⟨⟨_, SqL.of hl⟩, loop_enum (xs := us) (fun i σ H' => ∃ v3 v4, σ = [some (.ref l), some (.int t), some (.int g), v3, v4] ∧ Same H H' ∧ ∀ (j : Nat) y, j < i → rows[j]? = some y → isK t g y = false) ⟨_, _, rfl, same_refl, fun j r h => absurd h (Nat.not_lt_zero _)⟩ (fun i σ H' _ ⟨_, _, _, e, _⟩ => SqL.of (e _ _ hl)) (fun i x tt σ H' hi => ?_) (fun σ H' => ?_)⟩
    · rintro ⟨v3, v4, rfl, s1, hno⟩ ht
      obtain ⟨y, hy1, hy2⟩ := prd_get hU hi
      have b1 := same_upd (o := .tup [V.int i, x]) s1 ht
      have hstep : isK t g y = false → Same H (upd H' tt (.tup [V.int i, x])) ∧ ∀ (j : Nat) (r : Option Rw), j < i + 1 → rows[j]? = some r → isK t g r = false := fun hk => ⟨b1, fun j r' hj hr' => by
        by_cases e : j = i
        · subst e
          rw [hy1] at hr'
          cases hr'
          exact hk
        · exact hno j r' (by omega) hr'⟩
      cases y with
      | none =>
        obtain rfl : x = .non := hy2
        walk_at "wp"
        exact ⟨_, SqT.of upd_same, rfl, _, _, rfl, _, _, rfl, rfl, iteF (iteF (hstep rfl))⟩
      | some r =>
        obtain ⟨c, rfl, hc⟩ := hy2
        have hc1 := b1 _ _ hc
        walk_at "wp"
        refine ⟨_, SqT.of upd_same, rfl, _, _, rfl, _, _, rfl, rfl, ?_⟩
        rw [if_pos (by simp)]
        refine ⟨c, rfl, _, SqT.of hc1, _, rfl, rfl, ite2 (fun c1 => ⟨c, rfl, _, SqT.of hc1, _, rfl, rfl, ite2 (fun c2 => ?_) (fun c2 => hstep ?_)⟩) (fun c1 => iteF (hstep ?_))⟩
        · have c1 := V.int.inj c1
          have c2 := V.int.inj c2
          have e : plcO rows t g = i := by
            have e : fnd rows t g = some i := by
              unfold fnd
              rw [List.findIdx?_eq_some_iff_getElem]
              have hil := (List.getElem?_eq_some_iff.mp hy1).1
              refine ⟨hil, ?_, fun j hj => ?_⟩
              · rw [(List.getElem?_eq_some_iff.mp hy1).2]
                show (decide (r.t = t) && decide (r.g = g)) = true
                rw [decide_eq_true c1, decide_eq_true c2]; rfl
              · rw [hno j _ hj (List.getElem?_eq_getElem (by omega))]
                decide
            unfold plcO
            rw [e]
          have hq := q _ b1
          rw [e] at hq
          exact hq
        · show (decide (r.t = t) && decide (r.g = g)) = false
          rw [decide_eq_false (p := r.g = g) (fun e => c2 (by rw [e])), Bool.and_false]
        · show (decide (r.t = t) && decide (r.g = g)) = false
          rw [decide_eq_false (p := r.t = t) (fun e => c1 (by rw [e])), Bool.false_and]
    · rintro ⟨v3, v4, rfl, s1, hno⟩
      walk_at "wp"
      have e : plcO rows t g = -1 := by
        have e : fnd rows t g = none := by
          unfold fnd
          rw [List.findIdx?_eq_none_iff]
          intro x hx
          obtain ⟨j, hj⟩ := List.mem_iff_getElem?.mp hx
          exact hno j x (by rw [hul]; exact (List.getElem?_eq_some_iff.mp hj).1) hj
        unfold plcO
        rw [e]
      rw [← e]
      exact q _ s1
def sp_free (K : PySem.W.Frag) : Sp := fun vs H Q _ => ∃ (pl rq : Addr) (us : List V) (rows : List (Option Rw)) (hd : Int), vs = [.ref pl] ∧ H pl = some (.lst [.ref rq, .int hd]) ∧ H rq = some (.lst us) ∧ pl ≠ rq ∧ RsAt H us rows ∧ rows.length ≤ 64 ∧ 0 ≤ hd ∧ hd < rows.length ∧
  (∀ (j0 : Nat) H', rows.findIdx? Option.isNone = some j0 → Same H H' → Q (.int j0) H') ∧
  (∀ (L : List Rw) (j : Nat) us' H', rows = L.map some → j ≤ L.length → (∀ i < j, (L.map (·.u)).getD ((hd + i) % (L.length : Int)).toNat false = true) → (j = L.length ∨ (L.map (·.u)).getD ((hd + j) % (L.length : Int)).toNat false = false) →
    H' pl = some (.lst [.ref rq, .int (((hd + j) % (L.length : Int) + 1) % (L.length : Int))]) → H' rq = some (.lst us') → RsAt H' us' ((clr L (rg L.length hd j)).map some) → Kp [pl, rq] H H' → Q (.int ((hd + j) % (L.length : Int))) H')
theorem all_some {rows : List (Option Rw)} (h : rows.findIdx? Option.isNone = none) : ∃ L : List Rw, rows = L.map some := by
  induction rows with
  | nil => exact ⟨[], rfl⟩
  | cons x r ih =>
    have hx := List.findIdx?_eq_none_iff.mp h x (List.mem_cons_self ..)
    obtain ⟨L, rfl⟩ := ih (List.findIdx?_eq_none_iff.mpr fun y hy => List.findIdx?_eq_none_iff.mp h y (List.mem_cons_of_mem _ hy))
    cases x with
    | none => cases hx
    | some y => exact ⟨y :: L, rfl⟩
theorem h_free (T : Txt K mg A) : Have P w K mg base "_law_free" 1 ["_law_plain"] [] (sp_free K) := by
  refine T.r_l_free.have sc_l_free (fun vs H Q E z => ?_) ?_
  · obtain ⟨pl, rq, us, rows, hd, rfl, _⟩ := z; rfl
  · intro f cdv A' outer s H vs Q E hr z
    obtain ⟨pl, rq, us, rows, hd, rfl, hp, hq, npq, hU, hL, h0, h1, q1, q2⟩ := z
    refine ⟨_, (pss_cons (ps_set (i := 1) sc_l_free.nd rfl (Or.inl rfl) (pe_ix ix_list (pv 0) pe_int (fun _ _ => rfl)))
      (pss_cons (ps_forE PassesOwn.leaving rfl (pi_enum rfl T.b_enumerate (pa_cons (pv 1) pa_nil)) (pg_tup rfl (pgs_cons (pg_name (i := 2) sc_l_free.nd rfl (Or.inl rfl)) (pgs_cons (pg_name (i := 3) sc_l_free.nd rfl (Or.inl rfl)) pgs_nil))) (pss_one (ps_if (pt_cmpR op_isN (pv 3) pe_non (nomark _)) (pss_one (ps_ret (pv 2))) pss_nil)))
      (pss_cons (ps_set (i := 4) sc_l_free.nd rfl (Or.inl rfl) (pe_ix ix_list (pv 0) pe_int (fun _ _ => rfl)))
      (pss_cons (ps_set (i := 5) sc_l_free.nd rfl (Or.inl rfl) pe_int)
      (pss_cons (ps_whileE PassesOwn.leaving (PW.pt (pw_and (pt_val (pe_ix ix_tup (pe_ix ix_list (pv 1) (pv 4) (fun _ _ => rfl)) pe_int (fun _ _ => rfl))) (pw_and1 (pt_cmpR op_lt (pv 5) (pe_callB call_len rfl T.b_len PySem.boot_len (pa_cons (pv 1) pa_nil)) (nomark _))))) (pss_cons (ps_asg (pe_op op_catT (pe_slice sl_tup (pe_ix ix_list (pv 1) (pv 4) (fun _ _ => rfl)) po_none (po_some pe_int)) (pe_tup (pa_cons pe_bl pa_nil))) (pg_sub (pv 1) (pv 4) set_list))
      (pss_cons (ps_set (i := 4) sc_l_free.nd rfl (Or.inl rfl) (pe_op op_mod (pe_op op_add (pv 4) pe_int) (pe_callB call_len rfl T.b_len PySem.boot_len (pa_cons (pv 1) pa_nil))))
      (pss_one (ps_set (i := 5) sc_l_free.nd rfl (Or.inl rfl) (pe_op op_add (pv 5) pe_int))))))
      (pss_cons (ps_asg (pe_op op_mod (pe_op op_add (pv 4) pe_int) (pe_callB call_len rfl T.b_len PySem.boot_len (pa_cons (pv 1) pa_nil))) (pg_sub (pv 0) pe_int set_list))
      (pss_one (ps_ret (pv 4))))))))), ?_⟩
    walk_at "wp"
    have hul := Paired.length hU
    refine ⟨_, SqL.of hp, _, rfl, rq, rfl, ⟨_, SqL.of hq⟩, loop_enum (xs := us) (fun i σ H' => ∃ v2 v3, σ = [some (.ref pl), some (.ref rq), v2, v3, none, none] ∧ Same H H' ∧ ∀ (j : Nat) y, j < i → rows[j]? = some y → y.isNone = false) ⟨_, _, rfl, same_refl, fun j r h => absurd h (Nat.not_lt_zero _)⟩ (fun i σ H' _ ⟨_, _, _, e, _⟩ => SqL.of (e _ _ hq)) (fun i x tt σ H' hi => ?_) (fun σ H1 => ?_)⟩
    · rintro ⟨v2, v3, rfl, s1, hno⟩ ht
      obtain ⟨y, hy1, hy2⟩ := prd_get hU hi
      have b1 := same_upd (o := .tup [V.int i, x]) s1 ht
      cases y with
      | none =>
        obtain rfl : x = .non := hy2
        walk_at "wp"
        refine ⟨_, SqT.of upd_same, rfl, _, _, rfl, _, _, rfl, rfl, ?_⟩
        rw [if_pos rfl]
        refine q1 i _ (List.findIdx?_eq_some_iff_getElem.mpr ?_) b1
        have hil := (List.getElem?_eq_some_iff.mp hy1).1
        refine ⟨hil, ?_, fun j hj => ?_⟩
        · rw [(List.getElem?_eq_some_iff.mp hy1).2]; rfl
        · rw [hno j _ hj (List.getElem?_eq_getElem (by omega))]
          decide
      | some r =>
        obtain ⟨c, rfl, hc⟩ := hy2
        walk_at "wp"
        refine ⟨_, SqT.of upd_same, rfl, _, _, rfl, _, _, rfl, rfl, ?_⟩
        rw [if_neg (fun z => nomatch z)]
        refine ⟨b1, fun j y hj hy => ?_⟩
        rcases (by omega : j < i ∨ j = i) with h | rfl
        · exact hno j y h hy
        · rw [hy1] at hy
          cases hy
          rfl
    rintro ⟨v2, v3, rfl, s1, hno⟩
    have hnn : rows.findIdx? Option.isNone = none := List.findIdx?_eq_none_iff.mpr fun y hy => by
      obtain ⟨j, hj⟩ := List.mem_iff_getElem?.mp hy
      exact hno j y (by rw [hul]; exact (List.getElem?_eq_some_iff.mp hj).1) hj
    obtain ⟨L, rfl⟩ := all_some hnn
    have q2 := q2 L
    rw [List.length_map] at *
    have lp : (0 : Int) < (L.length : Int) := by omega
    walk_at "wp"
    refine ⟨_, SqL.of (s1 _ _ hp), _, rfl, ?_⟩
    refine loop_while (fun mm σ H' => ∃ (j : Nat) (us' : List V), mm = L.length - j ∧ j ≤ L.length ∧ σ = [some (.ref pl), some (.ref rq), v2, v3, some (.int ((hd + j) % (L.length : Int))), some (.int j)] ∧ Kp [rq] H1 H' ∧ H' rq = some (.lst us') ∧ RsAt H' us' ((clr L (rg L.length hd j)).map some) ∧ (∀ i < j, (L.map (·.u)).getD ((hd + i) % (L.length : Int)).toNat false = true)) L.length ⟨0, us, rfl, Nat.zero_le _, ?_, (fun _ _ h _ => h), s1 _ _ hq, hU.same s1, fun i hi => absurd hi (Nat.not_lt_zero _)⟩ (fun mm σ H' => ?_)
    · rw [show (hd + ((0 : Nat) : Int)) % (L.length : Int) = hd by rw [Int.emod_eq_of_lt] <;> omega]
      rfl
    rintro ⟨j, us', rfl, hj, rfl, kp, hq', hU', hall⟩
    have hul' := Paired.length hU'
    rw [List.length_map, clr_len] at hul'
    have hp0 := Int.emod_nonneg (hd + j) (show (L.length : Int) ≠ 0 by omega)
    have hp1 := Int.emod_lt_of_pos (hd + j) lp
    have q2 := q2 j us'
    have hnx : rg L.length hd (j + 1) = rg L.length hd j ++ [(hd + j) % (L.length : Int)] := rg_succ
    have hmd : ((hd + j) % (L.length : Int) + 1) % (L.length : Int) = (hd + ((j + 1 : Nat) : Int)) % (L.length : Int) := by
      rw [Int.emod_add_emod]
      congr 1
      omega
    have hlj : j = L.length → ∀ r, (clr L (rg L.length hd j))[((hd + j) % (L.length : Int)).toNat]? = some r → r.u = false := fun e => clr_in ⟨(hd + ((0 : Nat) : Int)) % (L.length : Int), by unfold rg; exact List.mem_map.mpr ⟨0, List.mem_range.mpr (by omega), rfl⟩, by rw [e, Int.add_emod_right]; simp⟩
    have hrj : j < L.length → (clr L (rg L.length hd j))[((hd + j) % (L.length : Int)).toNat]? = L[((hd + j) % (L.length : Int)).toNat]? := fun h => rg_at h
    have hall' : (L.map (·.u)).getD ((hd + j) % (L.length : Int)).toNat false = true → ∀ k < j + 1, (L.map (·.u)).getD ((hd + k) % (L.length : Int)).toNat false = true := fun hb k hk => by
      rcases (by omega : k < j ∨ k = j) with h | rfl
      · exact hall k h
      · exact hb
    generalize hpl : (hd + j) % (L.length : Int) = at0 at *
    generalize hL4 : clr L (rg L.length hd j) = L4 at *
    have l4 : L4.length = L.length := by rw [← hL4]; exact clr_len
    obtain ⟨r, hr4⟩ : ∃ r, L4[at0.toNat]? = some r := ⟨_, List.getElem?_eq_getElem (by omega)⟩
    have hr' : (L4.map some)[at0.toNat]? = some (some r) := by rw [List.getElem?_map, hr4]; rfl
    obtain ⟨x, hx, c, rfl, hc⟩ := prd_get2 hU' hr'
    have hxz : atI us' at0 = some (V.ref c) := by
      have := atI_nat hx
      rwa [show ((at0.toNat : Nat) : Int) = at0 by omega] at this
    have hgu : j < L.length → (L.map (·.u)).getD at0.toNat false = r.u := fun h => by
      rw [List.getD_eq_getElem?_getD, List.getElem?_map, ← hrj h, hr4]
      rfl
    have hp' := kp _ _ (s1 _ _ hp) (fun z => npq (List.mem_singleton.mp z))
    have out : (j = L.length ∨ (L.map (·.u)).getD at0.toNat false = false) → Q (.int at0) (upd H' pl (.lst [V.ref rq, V.int ((at0 + 1) % (us'.length : Int))])) := fun hor => by
      rw [hul']
      refine q2 _ rfl hj hall hor upd_same (by rw [upd_ne (Ne.symm npq)]; exact hq') (RsAt.same2 hp' hU') fun a o ha hx => ?_
      rw [upd_ne (fun z => hx (by simp [z]))]
      exact kp _ _ (s1 _ _ ha) (fun z => hx (by simp [List.mem_singleton.mp z]))
    walk_at "wp"
    refine ⟨_, SqL.of hq', _, hxz, c, rfl, _, SqT.of hc, _, rfl, r.u, rfl, ?_⟩
    cases hb : r.u with
    | false =>
      refine iteF (iteF ⟨_, .inl ⟨_, SqL.of hq', rfl⟩, by omega, _, hp', 1, rfl, out ?_⟩)
      by_cases e : j = L.length
      · exact .inl e
      · exact .inr ((hgu (by omega)).trans hb)
    | true =>
      have hjl : j < L.length := by
        rcases Nat.lt_or_ge j L.length with h | h
        · exact h
        · have := hlj (by omega) r hr4
          rw [hb] at this
          cases this
      refine iteT ⟨_, .inl ⟨_, SqL.of hq', rfl⟩, ?_⟩
      rw [if_pos (by omega)]
      refine turnW ?_
      rw [hb] at hc
      walk_at "wp"
      refine ⟨_, SqL.of hq', _, hxz, c, rfl, _, SqT.of hc, (fun z => absurd z.2 (by show ¬ HT.sIx 4 4 (some 3) = 4; decide)), fun g1 hg1 => ?_⟩
      have ecut : cutV [V.int r.t, V.int r.g, V.int r.e, V.bl true] none (some 3) = [V.int r.t, V.int r.g, V.int r.e] := cutV_to (hi := 3)
      rw [ecut]
      intro g2 hg2
      have b1 := same_upd (o := .tup [V.int r.t, V.int r.g, V.int r.e]) (same_refl (H := H')) hg1
      have b2 := same_upd (o := .tup [V.bl false]) (same_refl (H := upd H' g1 (.tup [V.int r.t, V.int r.g, V.int r.e]))) hg2
      refine ⟨_, SqT.of (b2 _ _ upd_same), _, SqT.of upd_same, (fun z => nomatch z), (by show 3 + 1 ≤ 16777216; decide), (fun z => nomatch z), fun _ g3 hg3 => ?_⟩
      have b3 := same_upd (o := .tup [V.int r.t, V.int r.g, V.int r.e, V.bl false]) (b1.trans b2) hg3
      have hq3 := b3 _ _ hq'
      have npl : g3 ≠ rq := fun z => by rw [z, (b1.trans b2) _ _ hq'] at hg3; cases hg3
      refine ⟨us', hq3, at0.toNat, by unfold ixN; rw [if_pos hp0, if_pos (by omega)], ?_⟩
      refine ⟨_, .inl ⟨_, SqL.of upd_same, rfl⟩, by rw [List.length_set]; omega, L.length - (j + 1), by omega, j + 1, rfl, by omega, by rw [List.length_set, hul']; exact hmd, by omega, fun a o ha hx => ?_, _, rfl, ?_, hall' ((hgu hjl).trans hb)⟩
      · rw [upd_ne (fun z => hx (by simp [z]))]
        exact b3 _ _ (kp a o ha hx)
      · rw [hnx, clr_snoc, hL4, mod_set hr4, List.map_set]
        exact prd_set (F := RowAt _) (show RowAt _ (V.ref g3) (some _) from ⟨g3, rfl, by rw [upd_ne npl]; exact upd_same⟩) at0.toNat (RsAt.same2 hq3 (hU'.same b3))
structure Bk where
  p : Addr
  ra : Addr
  fa : Addr
  pl : Addr
  rq : Addr
def Bk.ex (b : Bk) : List Addr := [b.p, b.ra, b.fa, b.pl, b.rq]
def PbAt (C : Addr) (H : Hp) (b : Bk) (rows : List (Option Rw)) (n : Nat) (hd : Int) : Prop := BkAt C H b.p b.ra b.fa rows n hd ∧ H b.pl = some (.lst [.ref b.rq, .int hd]) ∧ (∃ us, H b.rq = some (.lst us) ∧ RsAt H us rows) ∧ Uq rows ∧ 0 ≤ hd ∧ (0 < rows.length → hd < rows.length) ∧ b.pl ≠ b.ra ∧ b.rq ≠ b.ra ∧ b.pl ≠ b.rq ∧ rows.length ≤ 64
theorem BkAt.up {C p ra fa : Addr} {H : Hp} {rows : List (Option Rw)} {n n' : Nat} {hd : Int} (h : BkAt C H p ra fa rows n hd) (hn : n ≤ n') : BkAt C H p ra fa rows n' hd := let ⟨dx, vs, kvs, h1, h2, h3, h4, h5, h6⟩ := h; ⟨dx, vs, kvs, h1, h2, h3, h4, h5, Nat.le_trans h6 hn⟩
theorem PbAt.up {C : Addr} {H : Hp} {b : Bk} {rows : List (Option Rw)} {n n' : Nat} {hd : Int} (h : PbAt C H b rows n hd) (hn : n ≤ n') : PbAt C H b rows n' hd := let ⟨h1, h2⟩ := h; ⟨h1.up hn, h2⟩
theorem PbAt.same {C : Addr} {H H' : Hp} {b : Bk} {rows : List (Option Rw)} {n : Nat} {hd : Int} (h : PbAt C H b rows n hd) (s : Same H H') : PbAt C H' b rows n hd := let ⟨h1, h2, ⟨us, h3, h4⟩, h5⟩ := h; ⟨h1.same s, s _ _ h2, ⟨us, s _ _ h3, h4.same s⟩, h5⟩
theorem PbAt.tup {C : Addr} {H : Hp} {b : Bk} {rows : List (Option Rw)} {n : Nat} {hd : Int} (h : PbAt C H b rows n hd) : ∀ c xs, H c = some (.tup xs) → c ∉ b.ex := fun c xs hc z => by
  obtain ⟨⟨dx, vs, kvs, h1, h2, h3, h4, h5, h6⟩, h7, ⟨us, h8, _⟩, _⟩ := h
  unfold Bk.ex at z
  simp only [List.mem_cons, List.not_mem_nil, or_false] at z
  rcases z with rfl | rfl | rfl | rfl | rfl
  · rw [h1] at hc; cases hc
  · rw [h2] at hc; cases hc
  · rw [h4] at hc; cases hc
  · rw [h7] at hc; cases hc
  · rw [h8] at hc; cases hc
/-- the rows of the plain one are written -/
theorem PbAt.write {C : Addr} {H : Hp} {b : Bk} {rows' : List (Option Rw)} {us us' : List V} {n : Nat} {hd : Int} (hB : BkAt C H b.p b.ra b.fa rows' n hd) (hp : H b.pl = some (.lst [.ref b.rq, .int hd])) (hq : H b.rq = some (.lst us)) (hU : RsAt (upd H b.rq (.lst us')) us' rows') (hu : Uq rows') (h0 : 0 ≤ hd) (h1 : 0 < rows'.length → hd < rows'.length) (n1 : b.pl ≠ b.ra) (n2 : b.rq ≠ b.ra) (n3 : b.pl ≠ b.rq) (hl : rows'.length ≤ 64) : PbAt C (upd H b.rq (.lst us')) b rows' n hd :=
  ⟨BkAt.lst hq (Ne.symm n2) hB, by rw [upd_ne n3]; exact hp, ⟨us', upd_same, hU⟩, hu, h0, h1, n1, n2, n3, hl⟩
theorem Kp.wide {ex ey : List Addr} {H H' : Hp} (k : Kp ex H H') (h : ∀ x ∈ ex, x ∈ ey) : Kp ey H H' := fun c o hc hx => k c o hc (fun z => hx (h _ z))
theorem PbAt.pq {C : Addr} {H H' : Hp} {b : Bk} {rows : List (Option Rw)} {n : Nat} {hd : Int} (h : PbAt C H b rows n hd) (k : Kp [b.p, b.ra, b.fa] H H') : H' b.pl = some (.lst [.ref b.rq, .int hd]) ∧ ∃ us, H' b.rq = some (.lst us) ∧ RsAt H' us rows := by
  obtain ⟨⟨dx, vs, kvs, h1, h2, h3, h4, h5, h6⟩, h7, ⟨us, h8, h9⟩, _, _, _, n1, n2, n3, _⟩ := id h
  refine ⟨k _ _ h7 fun z => ?_, us, k _ _ h8 fun z => ?_, RsAt.kp k (fun c xs hc z => h.tup c xs hc ?_) h9⟩
  · simp only [List.mem_cons, List.not_mem_nil, or_false] at z
    rcases z with z | z | z
    · rw [z, h1] at h7; cases h7
    · exact n1 z
    · rw [z, h4] at h7; cases h7
  · simp only [List.mem_cons, List.not_mem_nil, or_false] at z
    rcases z with z | z | z
    · rw [z, h1] at h8; cases h8
    · exact n2 z
    · rw [z, h4] at h8; cases h8
  · simp only [List.mem_cons, List.not_mem_nil, or_false] at z
    unfold Bk.ex
    simp only [List.mem_cons, List.not_mem_nil, or_false]
    rcases z with z | z | z <;> simp [z]
theorem uq_at {rows : List (Option Rw)} {j : Nat} {o : Option Rw} (hu : Uq rows) (h : ∀ r, o = some r → ∀ (i : Nat) (s : Rw), i ≠ j → rows[i]? = some (some s) → ¬ (s.t = r.t ∧ s.g = r.g)) : Uq (rows.set j o) := fun i k r s hi hk e1 e2 => by
  rw [List.getElem?_set] at hi hk
  by_cases a : j = i
  · by_cases b : j = k
    · exact a.symm.trans b
    · rw [if_neg b] at hk
      rw [if_pos a] at hi
      split at hi
      · exact absurd ⟨e1.symm, e2.symm⟩ (h r (Option.some.inj hi) k s (fun z => b z.symm) hk)
      · cases hi
  · rw [if_neg a] at hi
    by_cases b : j = k
    · rw [if_pos b] at hk
      split at hk
      · exact absurd ⟨e1, e2⟩ (h s (Option.some.inj hk) i r (fun z => a z.symm) hi)
      · cases hk
    · rw [if_neg b] at hk
      exact hu i k r s hi hk e1 e2
theorem uq_old {rows : List (Option Rw)} {j : Nat} {r r' : Rw} (hu : Uq rows) (hj : rows[j]? = some (some r)) (h1 : r'.t = r.t) (h2 : r'.g = r.g) : Uq (rows.set j (some r')) := uq_at hu fun x hx i s hi hs z => by
  cases hx
  exact hi (hu i j s r hs hj (z.1.trans h1) (z.2.trans h2))
theorem fnd_key {rows : List (Option Rw)} {j : Nat} {s : Rw} {t g : Int} (h : fnd rows t g = none) (hs : rows[j]? = some (some s)) : ¬ (s.t = t ∧ s.g = g) := fun z => by
  have := List.findIdx?_eq_none_iff.mp h (some s) (List.mem_of_getElem? hs)
  have this : (decide (s.t = t) && decide (s.g = g)) = false := this
  rw [decide_eq_true z.1, decide_eq_true z.2] at this
  cases this
theorem uq_fresh {rows : List (Option Rw)} {j : Nat} {r' : Rw} (hu : Uq rows) (h : fnd rows r'.t r'.g = none) : Uq (rows.set j (some r')) := uq_at hu fun x hx i s hi hs z => by
  cases hx
  exact fnd_key h hs z
theorem plc_old {rows : List (Option Rw)} {j : Nat} {r r' : Rw} {t g : Int} (h : fnd rows t g = some j) (hj : rows[j]? = some (some r)) (h1 : r'.t = r.t) (h2 : r'.g = r.g) : plcO (rows.set j (some r')) t g = j := by
  have e : fnd (rows.set j (some r')) t g = some j := by
    unfold fnd at h ⊢
    rw [fi_set (x := some r) (by show (decide (r'.t = t) && decide (r'.g = g)) = (decide (r.t = t) && decide (r.g = g)); rw [h1, h2]) hj]
    exact h
  unfold plcO
  rw [e]
theorem plc_new {rows : List (Option Rw)} {j : Nat} {r : Rw} (h : fnd rows r.t r.g = none) (hj : j < rows.length) : plcO (rows.set j (some r)) r.t r.g = j := by
  have e : fnd (rows.set j (some r)) r.t r.g = some j := fi_new (by show (decide (r.t = r.t) && decide (r.g = r.g)) = true; simp) h hj
  unfold plcO
  rw [e]
theorem some_inj : ∀ {L M : List Rw}, L.map some = M.map some → L = M
  | [], [], _ => rfl
  | [], _ :: _, h => nomatch h
  | _ :: _, [], h => nomatch h
  | x :: L, y :: M, h => by
    rw [List.map_cons, List.map_cons] at h
    injection h with h1 h2
    rw [Option.some.inj h1, some_inj h2]
def Pst (C : Addr) (H : Hp) (b : Bk) (n m : Nat) (H' : Hp) (rows : List (Option Rw)) (hd : Int) : Prop := PbAt C H' b rows n hd ∧ rows.length = m ∧ Kp b.ex H H'
theorem Pst.on {C : Addr} {H0 H H1 H' : Hp} {b : Bk} {n m : Nat} {rows : List (Option Rw)} {hd : Int} (p : Pst C H1 b n m H' rows hd) (k : Kp b.ex H0 H) (s : Same H H1) : Pst C H0 b n m H' rows hd := ⟨p.1, p.2.1, (k.post s).more p.2.2 (fun _ h => h)⟩
def sp_deed (C : Addr) : Sp := fun vs H Q _ => ∃ (b : Bk) (row : Addr) (rows : List (Option Rw)) (n m : Nat) (hd t g e way : Int), vs = [.ref b.p, .ref b.pl, .int way, .ref row] ∧ PbAt C H b rows n hd ∧ rows.length = m ∧ n < 1000 ∧ H row = some (.tup [.int t, .int g, .int e, .bl false]) ∧ ∀ rows' hd' H', Pst C H b (n + 1) m H' rows' hd' → Q .non H'
theorem h_deed (T : Txt K mg A) : Have P w K mg base "_law_deed" 4 ["_law_book", "_law_plain", "_law_way", "_law_row"] [] (sp_deed A.C_Book) := by
  have H_l_at := h_at (P := P) (w := w) (base := base) T
  have H_l_free := h_free (P := P) (w := w) (base := base) T
  have H_Book_keep := h_keepZ (P := P) (w := w) (base := base) T
  have H_Book_use := h_use (P := P) (w := w) (base := base) T
  have H_Book_strike := h_strk (P := P) (w := w) (base := base) T
  have H_Book_strike_task := h_stask (P := P) (w := w) (base := base) T
  refine T.r_l_deed.have sc_l_deed (fun vs H Q E z => ?_) ?_
  · obtain ⟨b, row, rows, n, m, hd, t, g, e, way, rfl, _⟩ := z; rfl
  · intro f cdv A' outer s H vs Q E hr z
    obtain ⟨b, row, rows, n, m, hd, t, g, e, way, rfl, hP, hm, hn, hrow, q⟩ := z
    have htx := hP.tup
    refine ⟨_, (pss_cons (ps_set (i := 4) sc_l_deed.nd rfl (Or.inl rfl) (pe_ix ix_list (pv 1) pe_int (fun _ _ => rfl)))
      (pss_cons (ps_set (i := 5) sc_l_deed.nd rfl (Or.inl rfl) (pe_callE H_l_at (hr.mono (by decide)) xw_def (pa_cons (pv 4) (pa_cons (pe_ix ix_tup (pv 3) pe_int (fun _ _ => rfl)) (pa_cons (pe_ix ix_tup (pv 3) pe_int (fun _ _ => rfl)) pa_nil)))))
      (pss_cut (ps_if (pt_cmpR op_lt (pv 2) pe_int (nomark _)) (pss_cons (ps_expr (pe_methE (pv 0) T.cl_Book H_Book_keep (hr.mono (by decide)) xw_def (pa_cons (pe_ix ix_tup (pv 3) pe_int (fun _ _ => rfl)) (pa_cons (pe_ix ix_tup (pv 3) pe_int (fun _ _ => rfl)) (pa_cons (pe_ix ix_tup (pv 3) pe_int (fun _ _ => rfl)) pa_nil)))))
      (pss_one (ps_if (pt_cmpR op_ge (pv 5) pe_int (nomark _)) (pss_one (ps_asg (pe_op op_catT (pe_slice sl_tup (pv 3) po_none (po_some pe_int)) (pe_tup (pa_cons (pe_ix ix_tup (pe_ix ix_list (pv 4) (pv 5) (fun _ _ => rfl)) pe_int (fun _ _ => rfl)) pa_nil))) (pg_sub (pv 4) (pv 5) set_list))) (pss_one (ps_if (pt_cmpR op_gt (pe_callB call_len rfl T.b_len PySem.boot_len (pa_cons (pv 4) pa_nil)) pe_int (nomark _)) (pss_cons (ps_set (i := 5) sc_l_deed.nd rfl (Or.inl rfl) (pe_callE H_l_free (hr.mono (by decide)) xw_def (pa_cons (pv 1) pa_nil)))
      (pss_one (ps_asg (pv 3) (pg_sub (pv 4) (pv 5) set_list)))) pss_nil))))) pss_nil)
      (pss_cut (ps_if (pt_cmpR op_in_seq (pv 2) (pe_tup (pa_cons pe_int (pa_cons pe_int (pa_cons pe_int (pa_cons pe_int pa_nil))))) (by with_unfolding_all rfl)) (pss_cons (ps_expr (pe_methE (pv 0) T.cl_Book H_Book_use (hr.mono (by decide)) xw_def (pa_cons (pe_ix ix_tup (pv 3) pe_int (fun _ _ => rfl)) (pa_cons (pe_ix ix_tup (pv 3) pe_int (fun _ _ => rfl)) pa_nil))))
      (pss_one (ps_if (pt_cmpR op_ge (pv 5) pe_int (nomark _)) (pss_one (ps_asg (pe_op op_catT (pe_slice sl_tup (pe_ix ix_list (pv 4) (pv 5) (fun _ _ => rfl)) po_none (po_some pe_int)) (pe_tup (pa_cons pe_bl pa_nil))) (pg_sub (pv 4) (pv 5) set_list))) pss_nil))) pss_nil)
      (pss_cut (ps_if (pt_cmpR op_eq (pv 2) pe_int (nomark _)) (pss_cons (ps_expr (pe_methE (pv 0) T.cl_Book H_Book_strike (hr.mono (by decide)) xw_def (pa_cons (pe_ix ix_tup (pv 3) pe_int (fun _ _ => rfl)) (pa_cons (pe_ix ix_tup (pv 3) pe_int (fun _ _ => rfl)) pa_nil))))
      (pss_one (ps_if (pt_cmpR op_ge (pv 5) pe_int (nomark _)) (pss_one (ps_asg pe_non (pg_sub (pv 4) (pv 5) set_list))) pss_nil))) pss_nil)
      (pss_one (ps_if (pt_cmpR op_eq (pv 2) pe_int (nomark _)) (pss_cons (ps_expr (pe_methE (pv 0) T.cl_Book H_Book_strike_task (hr.mono (by decide)) xw_def (pa_cons (pe_ix ix_tup (pv 3) pe_int (fun _ _ => rfl)) pa_nil)))
      (pss_one (ps_forE PassesOwn.leaving rfl (pi_range1 rfl T.b_range (pa_cons (pe_callB call_len rfl T.b_len PySem.boot_len (pa_cons (pv 4) pa_nil)) pa_nil)) (pg_name (i := 6) sc_l_deed.nd rfl (Or.inl rfl)) (pss_one (ps_if (PW.pt (pw_and (pt_cmpR op_notN (pe_ix ix_list (pv 4) (pv 6) (fun _ _ => rfl)) pe_non (nomark _)) (pw_and1 (pt_cmpR op_eq (pe_ix ix_tup (pe_ix ix_list (pv 4) (pv 6) (fun _ _ => rfl)) pe_int (fun _ _ => rfl)) (pe_ix ix_tup (pv 3) pe_int (fun _ _ => rfl)) (nomark _))))) (pss_one (ps_asg pe_non (pg_sub (pv 4) (pv 6) set_list))) pss_nil))))) pss_nil))))))), ?_⟩
    unfold sp_at
    walk_at "wp"
    obtain ⟨hB, hp, ⟨us, hq, hU⟩, hu, h0, h1, n1, n2, n3, hl⟩ := id hP
    refine ⟨_, SqL.of hp, _, rfl, _, SqT.of hrow, _, rfl, _, SqT.of hrow, _, rfl, b.rq, rfl, us, rows, t, rfl, g, rfl, hq, hU, fun H1 s1 => ?_⟩
    refine ⟨fun σ H' => ∃ rows' hd', σ = [some (.ref b.p), some (.ref b.pl), some (.int way), some (.ref row), some (.ref b.rq), some (.int (plcO rows' t g)), none] ∧ Pst A.C_Book H b (n + 1) m H' rows' hd', ?_, fun σ' H2 => ?_⟩
    · unfold sp_keepZ
      walk_at "wp"
      have hP1 := hP.same s1
      have kp1 : Kp b.ex H H1 := fun c o hc _ => s1 _ _ hc
      have hB1 := hB.same s1
      have hrow1 := s1 _ _ hrow
      refine ite2 (fun _ => ?_) (fun _ => ⟨rows, rfl, hd, hP1.up (by omega), hm, kp1⟩)
      obtain ⟨dx, vs, kv, m1, m2, m3, m4, _⟩ := id hB1
      have htx1 := hP1.tup
      refine ⟨dx, _, m1, bkF_no (by decide +kernel), _, SqT.of hrow1, _, rfl, _, SqT.of hrow1, _, rfl, _, SqT.of hrow1, _, rfl, ?_⟩
      cases ef : fnd rows t g with
      | some j =>
        obtain ⟨r, hr1, rt, rg'⟩ := fnd_some ef
        have hjl := (List.getElem?_eq_some_iff.mp hr1).1
        have hpc : plcO rows t g = j := by unfold plcO; rw [ef]
        refine .inr (.inl ⟨b.p, b.ra, b.fa, rows, n, 0, hd, t, g, e, rfl, hB1, by omega, by omega, (fun z => by rw [ef] at z; cases z), fun H2 hB2 kp2 => ?_⟩)
        rw [show keepR rows t g e 0 = rows.set j (some ⟨t, g, e, r.u⟩) by unfold keepR; rw [ef]; simp only [hr1]] at hB2
        rw [hpc, if_pos (by omega)]
        have kp2x : Kp b.ex H1 H2 := kp2.wide (by simp [Bk.ex])
        obtain ⟨hp2, us2, hq2, hU2⟩ := hP1.pq (kp2.wide (by simp))
        have hrow2 := kp2x _ _ hrow1 (htx1 _ _ hrow1)
        obtain ⟨x, hx, c, rfl, hc⟩ := prd_get2 hU2 hr1
        have hul2 := Paired.length hU2
        refine ⟨_, SqT.of hrow2, (fun z => absurd z.2 (by show ¬ HT.sIx 4 4 (some 3) = 4; decide)), fun g1 hg1 => ?_⟩
        have ecut : cutV [V.int t, V.int g, V.int e, V.bl false] none (some 3) = [V.int t, V.int g, V.int e] := cutV_to (hi := 3)
        rw [ecut]
        have b1 := same_upd (o := .tup [V.int t, V.int g, V.int e]) (same_refl (H := H2)) hg1
        refine ⟨_, SqL.of (b1 _ _ hq2), _, atI_nat hx, c, rfl, _, SqT.of (b1 _ _ hc), _, rfl, fun g2 hg2 => ?_⟩
        have b2 := same_upd (o := .tup [V.bl r.u]) (same_refl (H := upd H2 g1 (.tup [V.int t, V.int g, V.int e]))) hg2
        refine ⟨_, SqT.of (b2 _ _ upd_same), _, SqT.of upd_same, (fun z => nomatch z), (by show 3 + 1 ≤ 16777216; decide), (fun z => nomatch z), fun _ g3 hg3 => ?_⟩
        have b3 := same_upd (o := .tup [V.int t, V.int g, V.int e, V.bl r.u]) (b1.trans b2) hg3
        have hq3 := b3 _ _ hq2
        have npr : g3 ≠ b.rq := fun z => by rw [z, (b1.trans b2) _ _ hq2] at hg3; cases hg3
        refine ⟨us2, hq3, j, ixN_nat (by omega), rows.set j (some ⟨t, g, e, r.u⟩), (plc_old ef hr1 rt.symm rg'.symm).symm, hd, ?_, by rw [List.length_set]; exact hm, fun a o ha hx => ?_⟩
        · refine PbAt.write (hB2.same b3) (b3 _ _ hp2) hq3 ?_ (uq_old hu hr1 rt.symm rg'.symm) h0 (by rw [List.length_set]; exact h1) n1 n2 n3 (by rw [List.length_set]; exact hl)
          exact prd_set (F := RowAt _) (show RowAt _ (V.ref g3) (some _) from ⟨g3, rfl, by rw [upd_ne npr]; exact upd_same⟩) j (RsAt.same2 hq3 (hU2.same b3))
        · rw [upd_ne (fun z => hx (by simp [z, Bk.ex]))]
          exact b3 _ _ (kp2x _ _ (s1 _ _ ha) hx)
      | none =>
        have hpc : plcO rows t g = -1 := by unfold plcO; rw [ef]
        rw [hpc]
        by_cases hz : rows.length = 0
        · have hr0 : rows = [] := List.eq_nil_of_length_eq_zero hz
          refine .inl ⟨b.p, b.ra, b.fa, n, hd, t, g, e, rfl, by rw [← hr0]; exact hB1, ?_⟩
          obtain ⟨_, _, ⟨us1, hq1, hU1⟩, _⟩ := id hP1
          have hul1 := Paired.length hU1
          rw [if_neg (by omega)]
          refine ⟨_, .inl ⟨_, SqL.of hq1, rfl⟩, ?_⟩
          rw [if_neg (by omega)]
          exact ⟨rows, hpc.symm, hd, hP1.up (by omega), hm, kp1⟩
        · cases ej : rows.findIdx? Option.isNone with
          | some j0 =>
            obtain ⟨hj0, _, _⟩ := List.findIdx?_eq_some_iff_getElem.mp ej
            refine .inr (.inl ⟨b.p, b.ra, b.fa, rows, n, j0, hd, t, g, e, rfl, hB1, by omega, by omega, (fun _ => ej), fun H2 hB2 kp2 => ?_⟩)
            rw [show keepR rows t g e j0 = rows.set j0 (some ⟨t, g, e, false⟩) by unfold keepR; rw [ef]] at hB2
            rw [if_neg (by omega)]
            have kp2x : Kp b.ex H1 H2 := kp2.wide (by simp [Bk.ex])
            obtain ⟨hp2, us2, hq2, hU2⟩ := hP1.pq (kp2.wide (by simp))
            have hrow2 := kp2x _ _ hrow1 (htx1 _ _ hrow1)
            have hul2 := Paired.length hU2
            refine ⟨_, .inl ⟨_, SqL.of hq2, rfl⟩, ?_⟩
            rw [if_pos (by omega)]
            refine ⟨b.pl, b.rq, us2, rows, hd, rfl, hp2, hq2, n3, hU2, hl, h0, h1 (by omega), fun j' H3 hj' s3 => ?_, fun L' j' us' H3 hL' => ?_⟩
            · rw [ej] at hj'
              cases hj'
              have hq3 := s3 _ _ hq2
              refine ⟨us2, j0, rfl, hq3, j0, ixN_nat (by omega), rows.set j0 (some ⟨t, g, e, false⟩), by rw [plc_new (r := ⟨t, g, e, false⟩) ef hj0], hd, ?_, by rw [List.length_set]; exact hm, fun a o ha hx => ?_⟩
              · refine PbAt.write (hB2.same s3) (s3 _ _ hp2) hq3 ?_ (uq_fresh hu ef) h0 (by rw [List.length_set]; exact h1) n1 n2 n3 (by rw [List.length_set]; exact hl)
                exact prd_set (F := RowAt _) (show RowAt _ (V.ref row) (some ⟨t, g, e, false⟩) from ⟨row, rfl, by rw [upd_ne (fun z => by rw [z, hq2] at hrow2; cases hrow2)]; exact s3 _ _ hrow2⟩) j0 (RsAt.same2 hq3 (hU2.same s3))
              · rw [upd_ne (fun z => hx (by simp [z, Bk.ex]))]
                exact s3 _ _ (kp2x _ _ (s1 _ _ ha) hx)
            · rw [hL'] at ej
              obtain ⟨_, hh, _⟩ := List.findIdx?_eq_some_iff_getElem.mp ej
              rw [List.getElem_map] at hh
              cases hh
          | none =>
            obtain ⟨L, rfl⟩ := all_some ej
            rw [List.length_map] at *
            refine .inr (.inr ⟨b.p, b.ra, b.fa, L, n, hd, t, g, e, rfl, hB1, hu, by omega, h0, h1 (by omega), by omega, (fun j r hf => by rw [ef] at hf; cases hf), fun _ j H2 hj hall hor hB2 kp2 => ?_⟩)
            refine ite2 (fun z => absurd z (by decide)) (fun _ => ?_)
            have kp2x : Kp b.ex H1 H2 := kp2.wide (by simp [Bk.ex])
            obtain ⟨hp2, us2, hq2, hU2⟩ := hP1.pq kp2
            have hrow2 := kp2x _ _ hrow1 (htx1 _ _ hrow1)
            have hul2 := Paired.length hU2
            rw [List.length_map] at hul2
            refine ⟨_, .inl ⟨_, SqL.of hq2, rfl⟩, ?_⟩
            rw [if_pos (by omega)]
            refine ⟨b.pl, b.rq, us2, L.map some, hd, rfl, hp2, hq2, n3, hU2, by rw [List.length_map]; exact hl, h0, by rw [List.length_map]; exact h1 (by omega), fun j' H3 hj' s3 => ?_, fun L' j' us' H3 hL' hj' hall' hor' hp3 hq3 hU3 kp3 => ?_⟩
            · rw [ej] at hj'; cases hj'
            · obtain rfl := some_inj hL'
              obtain rfl : j = j' := j_uq hj hall hor hj' hall' hor'
              have lp : (0 : Int) < (L.length : Int) := by omega
              have hp0 := Int.emod_nonneg (hd + j) (show (L.length : Int) ≠ 0 by omega)
              have hp1 := Int.emod_lt_of_pos (hd + j) lp
              have hh0 := Int.emod_nonneg ((hd + j) % (L.length : Int) + 1) (show (L.length : Int) ≠ 0 by omega)
              have hh1 := Int.emod_lt_of_pos ((hd + j) % (L.length : Int) + 1) lp
              have u4 := uq_clr (is := rg L.length hd j) hu
              have l4 : (clr L (rg L.length hd j)).length = L.length := clr_len
              have n4 := clr_none (is := rg L.length hd j) ef
              have hul3 := Paired.length hU3
              rw [List.length_map, l4] at hul3
              generalize ((hd + j) % (L.length : Int) + 1) % (L.length : Int) = hd2 at *
              generalize (hd + j) % (L.length : Int) = at0 at *
              generalize clr L (rg L.length hd j) = L4 at *
              have hB3 : BkAt A.C_Book H3 b.p b.ra b.fa ((L4.set at0.toNat ⟨t, g, e, false⟩).map some) (n + 1) hd2 := by
                obtain ⟨d2, v2, k2, z1, z2, z3, z4, _⟩ := id hB2
                refine hB2.kp kp3 (fun z => ?_) (fun z => ?_) (fun z => ?_) (fun c xs hc z => ?_)
                · rcases List.mem_cons.mp z with z | z
                  · rw [z, hp2] at z1; cases z1
                  · rw [List.mem_singleton.mp z, hq2] at z1; cases z1
                · rcases List.mem_cons.mp z with z | z
                  · exact n1 z.symm
                  · exact n2 (List.mem_singleton.mp z).symm
                · rcases List.mem_cons.mp z with z | z
                  · rw [z, hp2] at z4; cases z4
                  · rw [List.mem_singleton.mp z, hq2] at z4; cases z4
                · rcases List.mem_cons.mp z with z | z
                  · rw [z, hp2] at hc; cases hc
                  · rw [List.mem_singleton.mp z, hq2] at hc; cases hc
              have hrow3 := kp3 _ _ hrow2 (fun z => by
                rcases List.mem_cons.mp z with z | z
                · rw [z, hp2] at hrow2; cases hrow2
                · rw [List.mem_singleton.mp z, hq2] at hrow2; cases hrow2)
              have hpl : plcO ((L4.set at0.toNat ⟨t, g, e, false⟩).map some) t g = at0 := by
                rw [List.map_set, plc_new (r := ⟨t, g, e, false⟩) n4 (by rw [List.length_map]; omega)]
                omega
              refine ⟨us', at0, rfl, hq3, at0.toNat, by unfold ixN; rw [if_pos hp0, if_pos (by omega)], (L4.set at0.toNat ⟨t, g, e, false⟩).map some, by rw [hpl], hd2, ?_, by rw [List.length_map, List.length_set]; omega, fun a o ha hx => ?_⟩
              · refine PbAt.write hB3 hp3 hq3 ?_ (uq_put u4 n4) hh0 (fun _ => by rw [List.length_map, List.length_set]; omega) n1 n2 n3 (by rw [List.length_map, List.length_set]; omega)
                rw [List.map_set]
                exact prd_set (F := RowAt _) (show RowAt _ (V.ref row) (some ⟨t, g, e, false⟩) from ⟨row, rfl, by rw [upd_ne (fun z => by rw [z, hq3] at hrow3; cases hrow3)]; exact hrow3⟩) at0.toNat (RsAt.same2 hq3 hU3)
              · rw [upd_ne (fun z => hx (by simp [z, Bk.ex]))]
                exact (kp3.wide (ey := b.ex) (by simp [Bk.ex])) _ _ (kp2x _ _ (s1 _ _ ha) hx) hx
    rintro ⟨rows2, hd2, rfl, hP2, hm2, kp2⟩
    refine ⟨fun σ H' => ∃ rows' hd', σ = [some (.ref b.p), some (.ref b.pl), some (.int way), some (.ref row), some (.ref b.rq), some (.int (plcO rows' t g)), none] ∧ Pst A.C_Book H b (n + 1) m H' rows' hd', ?_, fun σ' H3 => ?_⟩
    · unfold sp_use
      walk_at "wp"
      intro tp htp
      have bt := same_upd (o := .tup [V.int 2, V.int 3, V.int 4, V.int 5]) (same_refl (H := H2)) htp
      refine ⟨_, .inr (SqT.of upd_same), rfl, rfl, ?_⟩
      have hrow2 := kp2 _ _ hrow (htx _ _ hrow)
      have hPt := hP2.same bt
      have hrowt := bt _ _ hrow2
      generalize upd H2 tp (.tup [V.int 2, V.int 3, V.int 4, V.int 5]) = H3 at *
      have kp3 : Kp b.ex H H3 := kp2.post bt
      refine ite2 (fun _ => ?_) (fun _ => ⟨rows2, rfl, hd2, hPt, hm2, kp3⟩)
      obtain ⟨hBt, hpt, _, hut, h0t, h1t, _, _, _, hlt⟩ := id hPt
      obtain ⟨dx, vs, kv, m1, m2, m3, m4, _⟩ := id hBt
      have htx3 := hPt.tup
      refine ⟨dx, _, m1, bkF_no (by decide +kernel), _, SqT.of hrowt, _, rfl, _, SqT.of hrowt, _, rfl, b.ra, b.fa, rows2, n + 1, hd2, t, rfl, g, rfl, hBt, fun H4 hB4 kp4 => ?_⟩
      have kp4x : Kp b.ex H3 H4 := kp4.wide (by simp [Bk.ex])
      obtain ⟨hp4, us4, hq4, hU4⟩ := hPt.pq (kp4.wide (by simp))
      have kp04 : Kp b.ex H H4 := kp3.more kp4x (fun _ h => h)
      cases ef : fnd rows2 t g with
      | none =>
        have hpc : plcO rows2 t g = -1 := by unfold plcO; rw [ef]
        rw [if_neg (by omega)]
        rw [show useR rows2 t g = rows2 by unfold useR; rw [ef]] at hB4
        exact ⟨rows2, rfl, hd2, ⟨hB4, hp4, ⟨us4, hq4, hU4⟩, hut, h0t, h1t, n1, n2, n3, hlt⟩, hm2, kp04⟩
      | some j =>
        obtain ⟨r, hr1, rt, rg'⟩ := fnd_some ef
        have hjl := (List.getElem?_eq_some_iff.mp hr1).1
        have hpc : plcO rows2 t g = j := by unfold plcO; rw [ef]
        rw [show useR rows2 t g = rows2.set j (some ⟨t, g, r.e, true⟩) by unfold useR; rw [ef]; simp only [hr1]] at hB4
        rw [hpc, if_pos (by omega)]
        obtain ⟨x, hx, c, rfl, hc⟩ := prd_get2 hU4 hr1
        have hul4 := Paired.length hU4
        refine ⟨_, SqL.of hq4, _, atI_nat hx, c, rfl, _, SqT.of hc, (fun z => absurd z.2 (by show ¬ HT.sIx 4 4 (some 3) = 4; decide)), fun g1 hg1 => ?_⟩
        have ecut : cutV [V.int r.t, V.int r.g, V.int r.e, V.bl r.u] none (some 3) = [V.int r.t, V.int r.g, V.int r.e] := cutV_to (hi := 3)
        rw [ecut, rt, rg']
        intro g2 hg2
        have b1 := same_upd (o := .tup [V.int t, V.int g, V.int r.e]) (same_refl (H := H4)) hg1
        have b2 := same_upd (o := .tup [V.bl true]) (same_refl (H := upd H4 g1 (.tup [V.int t, V.int g, V.int r.e]))) hg2
        refine ⟨_, SqT.of (b2 _ _ upd_same), _, SqT.of upd_same, (fun z => nomatch z), (by show 3 + 1 ≤ 16777216; decide), (fun z => nomatch z), fun _ g3 hg3 => ?_⟩
        have b3 := same_upd (o := .tup [V.int t, V.int g, V.int r.e, V.bl true]) (b1.trans b2) hg3
        have hq5 := b3 _ _ hq4
        have npr : g3 ≠ b.rq := fun z => by rw [z, (b1.trans b2) _ _ hq4] at hg3; cases hg3
        refine ⟨us4, hq5, j, ixN_nat (by omega), rows2.set j (some ⟨t, g, r.e, true⟩), (plc_old ef hr1 rt.symm rg'.symm).symm, hd2, ?_, by rw [List.length_set]; exact hm2, fun a o ha hx => ?_⟩
        · refine PbAt.write (hB4.same b3) (b3 _ _ hp4) hq5 ?_ (uq_old hut hr1 rt.symm rg'.symm) h0t (by rw [List.length_set]; exact h1t) n1 n2 n3 (by rw [List.length_set]; exact hlt)
          exact prd_set (F := RowAt _) (show RowAt _ (V.ref g3) (some _) from ⟨g3, rfl, by rw [upd_ne npr]; exact upd_same⟩) j (RsAt.same2 hq5 (hU4.same b3))
        · rw [upd_ne (fun z => hx (by simp [z, Bk.ex]))]
          exact b3 _ _ (kp04 _ _ ha hx)
    rintro ⟨rows3, hd3, rfl, hP3, hm3, kp3⟩
    refine ⟨fun σ H' => ∃ (rows' : List (Option Rw)) (hd' : Int) (v5 : Option V), σ = [some (.ref b.p), some (.ref b.pl), some (.int way), some (.ref row), some (.ref b.rq), v5, none] ∧ Pst A.C_Book H b (n + 1) m H' rows' hd', ?_, fun σ' H4 => ?_⟩
    · unfold sp_strk
      walk_at "wp"
      refine ite2 (fun _ => ?_) (fun _ => ⟨rows3, hd3, hP3, hm3, kp3⟩)
      have hrow3 := kp3 _ _ hrow (htx _ _ hrow)
      obtain ⟨hBt, hpt, _, hut, h0t, h1t, _, _, _, hlt⟩ := id hP3
      obtain ⟨dx, vs, kv, m1, m2, m3, m4, _⟩ := id hBt
      refine ⟨dx, _, m1, bkF_no (by decide +kernel), _, SqT.of hrow3, _, rfl, _, SqT.of hrow3, _, rfl, b.ra, b.fa, rows3, n + 1, hd3, t, rfl, g, rfl, hBt, hut, fun H4 hB4 kp4 => ?_⟩
      have kp4x : Kp b.ex H3 H4 := kp4.wide (by simp [Bk.ex])
      obtain ⟨hp4, us4, hq4, hU4⟩ := hP3.pq (kp4.wide (by simp))
      have kp04 : Kp b.ex H H4 := kp3.more kp4x (fun _ h => h)
      cases ef : fnd rows3 t g with
      | none =>
        have hpc : plcO rows3 t g = -1 := by unfold plcO; rw [ef]
        rw [if_neg (by omega)]
        rw [show strikeR rows3 t g = rows3 by unfold strikeR; rw [ef]] at hB4
        exact ⟨rows3, hd3, ⟨hB4, hp4, ⟨us4, hq4, hU4⟩, hut, h0t, h1t, n1, n2, n3, hlt⟩, hm3, kp04⟩
      | some j =>
        obtain ⟨r, hr1, rt, rg'⟩ := fnd_some ef
        have hjl := (List.getElem?_eq_some_iff.mp hr1).1
        have hpc : plcO rows3 t g = j := by unfold plcO; rw [ef]
        rw [show strikeR rows3 t g = rows3.set j none by unfold strikeR; rw [ef]] at hB4
        rw [hpc, if_pos (by omega)]
        have hul4 := Paired.length hU4
        refine ⟨us4, hq4, j, ixN_nat (by omega), rows3.set j none, hd3, ?_, by rw [List.length_set]; exact hm3, fun a o ha hx => ?_⟩
        · refine PbAt.write hB4 hp4 hq4 ?_ (uq_at hut fun r h => nomatch h) h0t (by rw [List.length_set]; exact h1t) n1 n2 n3 (by rw [List.length_set]; exact hlt)
          exact prd_set (F := RowAt _) (show RowAt _ V.non none from rfl) j (RsAt.same2 hq4 hU4)
        · rw [upd_ne (fun z => hx (by simp [z, Bk.ex]))]
          exact kp04 _ _ ha hx
    rintro ⟨rows4, hd4, v5, rfl, hP4, hm4, kp4⟩
    unfold sp_stask
    walk_at "wp"
    refine ite2 (fun _ => ?_) (fun _ => q _ _ _ ⟨hP4, hm4, kp4⟩)
    have hrow4 := kp4 _ _ hrow (htx _ _ hrow)
    obtain ⟨hBt, hpt, _, hut, h0t, h1t, _, _, _, hlt⟩ := id hP4
    obtain ⟨dx, vs, kv, m1, m2, m3, m4, _⟩ := id hBt
    refine ⟨dx, _, m1, bkF_no (by decide +kernel), _, SqT.of hrow4, _, rfl, b.ra, b.fa, rows4, n + 1, hd4, t, rfl, hBt, hut, by omega, fun H5 hB5 kp5 => ?_⟩
    have kp5x : Kp b.ex H4 H5 := kp5.wide (by simp [Bk.ex])
    obtain ⟨hp5, us5, hq5, hU5⟩ := hP4.pq (kp5.wide (by simp))
    have hul5 := Paired.length hU5
    have hrow5 := kp5x _ _ hrow4 (hP4.tup _ _ hrow4)
    have hlo : (offT t rows4).length = rows4.length := by unfold offT; exact List.length_map ..
    refine ⟨_, .inl ⟨_, SqL.of hq5, rfl⟩, by omega, by omega, ?_⟩
    have hR5 : b.rq ∉ [b.p, b.ra, b.fa] := fun z => by
      obtain ⟨_, _, _, z1, z2, _, z4, _⟩ := id hB5
      simp only [List.mem_cons, List.not_mem_nil, or_false] at z
      rcases z with z | z | z
      · rw [← z, hq5] at z1; cases z1
      · exact n2 z
      · rw [← z, hq5] at z4; cases z4
    refine loop_range (fun i σ H' => ∃ (us' : List V) (v6 : Option V), σ = [some (.ref b.p), some (.ref b.pl), some (.int way), some (.ref row), some (.ref b.rq), v5, v6] ∧ Kp [b.rq] H5 H' ∧ H' b.rq = some (.lst us') ∧ RsAt H' us' ((rows4.take i).map (offR t) ++ rows4.drop i)) ⟨us5, _, rfl, (fun _ _ h _ => h), hq5, by simpa using hU5⟩ (fun i σ H' hi => ?_) (fun σ H' => ?_)
    · rintro ⟨us', v6, rfl, kp, hq', hU'⟩
      have hiL : i < rows4.length := by omega
      have hul' := Paired.length hU'
      rw [List.length_append, List.length_map, List.length_take, List.length_drop] at hul'
      have hrow' := kp _ _ hrow5 (fun z => by rw [List.mem_singleton.mp z, hq5] at hrow5; cases hrow5)
      have htl : ((rows4.take i).map (offR t)).length = i := by rw [List.length_map, List.length_take]; omega
      have hget : ((rows4.take i).map (offR t) ++ rows4.drop i)[i]? = some rows4[i] := by
        rw [List.getElem?_append_right (by omega), htl, Nat.sub_self, List.getElem?_drop, Nat.add_zero, List.getElem?_eq_getElem hiL]
      have hnext : ((rows4.take i).map (offR t) ++ rows4.drop i).set i (offR t rows4[i]) = (rows4.take (i + 1)).map (offR t) ++ rows4.drop (i + 1) := by
        rw [List.set_append_right _ _ (by omega), htl, Nat.sub_self, List.drop_eq_getElem_cons hiL, List.set_cons_zero, List.take_add_one, List.getElem?_eq_getElem hiL, List.map_append, List.append_assoc]
        rfl
      have hkeep : offR t rows4[i] = rows4[i] → (rows4.take (i + 1)).map (offR t) ++ rows4.drop (i + 1) = (rows4.take i).map (offR t) ++ rows4.drop i := fun h => by
        rw [← hnext, h]
        refine List.ext_getElem? fun k => ?_
        rw [List.getElem?_set]
        by_cases c : i = k
        · subst c
          rw [if_pos rfl, hget, if_pos (by rw [List.length_append, htl, List.length_drop]; omega)]
        · rw [if_neg c]
      obtain ⟨x, hx, hy⟩ := prd_get2 hU' hget
      walk_at "wp"
      rw [Int.zero_add]
      refine ⟨_, SqL.of hq', _, atI_nat hx, ?_⟩
      cases hr : rows4[i] with
      | none =>
        rw [hr] at hy hkeep
        obtain rfl : x = .non := hy
        refine iteF (iteF ⟨kp, us', hq', ?_⟩)
        rw [hkeep rfl]
        exact hU'
      | some r =>
        rw [hr] at hy hkeep hnext
        obtain ⟨c, rfl, hc⟩ := hy
        rw [if_pos (by simp)]
        refine ⟨_, SqL.of hq', _, atI_nat hx, c, rfl, _, SqT.of hc, _, rfl, _, SqT.of hrow', _, rfl, rfl, ?_⟩
        by_cases c1 : r.t = t
        · rw [if_pos (by rw [c1])]
          refine ⟨us', hq', i, ixN_nat (by omega), fun a o ha hx => ?_, _, rfl, ?_⟩
          · rw [upd_ne (fun z => hx (by simp [z]))]
            exact kp _ _ ha hx
          · rw [← hnext, show offR t (some r) = none by show (if r.t = t then none else some r) = none; rw [if_pos c1]]
            exact prd_set (F := RowAt _) (show RowAt _ V.non none from rfl) i (RsAt.same2 hq' hU')
        · rw [if_neg (fun z => c1 (V.int.inj z))]
          refine ⟨kp, us', hq', ?_⟩
          rw [hkeep (by show (if r.t = t then none else some r) = some r; rw [if_neg c1])]
          exact hU'
    · rintro ⟨us', v6, rfl, kp, hq', hU'⟩
      rw [List.take_of_length_le (by omega), List.drop_eq_nil_of_le (by omega), List.append_nil] at hU'
      have hpf := kp _ _ hp5 (fun z => n3 (List.mem_singleton.mp z))
      obtain ⟨_, _, _, z1, z2, _, z4, _⟩ := id hB5
      have hBf := hB5.kp kp (fun z => hR5 (by simp [← List.mem_singleton.mp z])) (fun z => hR5 (by simp [← List.mem_singleton.mp z])) (fun z => hR5 (by simp [← List.mem_singleton.mp z])) (fun c xs hc z => by rw [List.mem_singleton.mp z, hq5] at hc; cases hc)
      refine q _ _ _ ⟨⟨hBf, hpf, ⟨us', hq', hU'⟩, cut_uq (t := t) ?_ hut, h0t, by rw [hlo]; exact h1t, n1, n2, n3, by rw [hlo]; exact hlt⟩, hlo.trans hm4, kp4.more (kp5x.more (kp.wide (by simp [Bk.ex])) (fun _ h => h)) (fun _ h => h)⟩
      refine ⟨hlo, fun j => ?_⟩
      unfold offT
      rw [List.getElem?_map]
      cases e : rows4[j]? with
      | none => exact .inl rfl
      | some o =>
        cases o with
        | none => exact .inl rfl
        | some r =>
          by_cases c : r.t = t
          · exact .inr ⟨by show some (if r.t = t then none else some r) = _; rw [if_pos c], r, rfl, c⟩
          · exact .inl (by show some (if r.t = t then none else some r) = _; rw [if_neg c])
def sp_seen (C : Addr) : Sp := fun vs H Q _ => ∃ (b : Bk) (row : Addr) (rows : List (Option Rw)) (n : Nat) (hd t g e : Int), vs = [.ref b.p, .ref b.pl, .ref row] ∧ PbAt C H b rows n hd ∧ H row = some (.tup [.int t, .int g, .int e, .bl false]) ∧ ∀ H', Same H H' → Q (.bl true) H'
theorem h_seen (T : Txt K mg A) : Have P w K mg base "_law_seen" 2 ["_law_book", "_law_plain", "_law_row"] [] (sp_seen A.C_Book) := by
  have H_l_at := h_at (P := P) (w := w) (base := base) T
  have H_l_whole := h_whole (P := P) (w := w) (base := base) T
  have H_Book_look := h_look (P := P) (w := w) (base := base) T
  refine T.r_l_seen.have sc_l_seen (fun vs H Q E z => ?_) ?_
  · obtain ⟨b, row, rows, n, hd, t, g, e, rfl, _⟩ := z; rfl
  · intro f cdv A' outer s H vs Q E hr z
    obtain ⟨b, row, rows, n, hd, t, g, e, rfl, hP, hrow, q⟩ := z
    obtain ⟨hB, hp, ⟨us, hq, hU⟩, hu, h0, h1, n1, n2, n3, hl⟩ := id hP
    obtain ⟨dx, vs, kv, m1, m2, m3, m4, _⟩ := id hB
    refine ⟨_, (pss_cons (ps_set (i := 3) sc_l_seen.nd rfl (Or.inl rfl) (pe_methE (pv 0) T.cl_Book H_Book_look (hr.mono (by decide)) xw_def (pa_cons (pe_ix ix_tup (pv 2) pe_int (fun _ _ => rfl)) (pa_cons (pe_ix ix_tup (pv 2) pe_int (fun _ _ => rfl)) pa_nil))))
      (pss_cons (ps_set (i := 4) sc_l_seen.nd rfl (Or.inl rfl) (pe_callE H_l_at (hr.mono (by decide)) xw_def (pa_cons (pe_ix ix_list (pv 1) pe_int (fun _ _ => rfl)) (pa_cons (pe_ix ix_tup (pv 2) pe_int (fun _ _ => rfl)) (pa_cons (pe_ix ix_tup (pv 2) pe_int (fun _ _ => rfl)) pa_nil)))))
      (pss_cons (ps_if (pt_cmpR op_eq (pv 4) (pe_un op_neg pe_int) (nomark _)) (pss_one (ps_ret (pe_cmpR op_isN (pv 3) pe_non (nomark _)))) pss_nil)
      (pss_one (ps_ret (pe_and (pe_callE H_l_whole (hr.mono (by decide)) xw_def (pa_cons (pv 3) pa_nil)) (pe_one (pe_cmpR op_eq (pv 3) (pe_ix ix_tup (pe_ix ix_list (pe_ix ix_list (pv 1) pe_int (fun _ _ => rfl)) (pv 4) (fun _ _ => rfl)) pe_int (fun _ _ => rfl)) (nomark _))))))))), ?_⟩
    unfold sp_at sp_look sp_whole
    walk_at "wp"
    refine ⟨dx, _, m1, bkF_no (by decide +kernel), _, SqT.of hrow, _, rfl, _, SqT.of hrow, _, rfl, b.ra, b.fa, rows, n, hd, t, rfl, g, rfl, hB, fun H1 s1 => ?_⟩
    have hrow1 := s1 _ _ hrow
    refine ⟨_, SqL.of (s1 _ _ hp), _, rfl, _, SqT.of hrow1, _, rfl, _, SqT.of hrow1, _, rfl, b.rq, rfl, us, rows, t, rfl, g, rfl, s1 _ _ hq, hU.same s1, fun H2 s2 => ?_⟩
    have s12 := s1.trans s2
    have q := q _ s12
    unfold plcO lookE
    cases ef : fnd rows t g with
    | none =>
      refine ite2 (fun _ => ?_) (fun z => absurd rfl z)
      exact q
    | some j =>
      obtain ⟨r, hr1, rt, rg'⟩ := fnd_some ef
      obtain ⟨x, hx, c, rfl, hc⟩ := prd_get2 (hU.same s12) hr1
      simp only [hr1]
      refine ite2 (fun z => by omega) (fun _ => ?_)
      refine ⟨_, rfl, _, SqL.of (s12 _ _ hp), _, rfl, b.rq, rfl, _, SqL.of (s12 _ _ hq), _, atI_nat hx, c, rfl, _, SqT.of hc, _, rfl, rfl, ?_⟩
      rw [decide_eq_true rfl]
      exact q
def sp_same (K : PySem.W.Frag) : Sp := fun vs H Q _ => ∃ (f l : Addr) (fs us : List V) (rows : List (Option Rw)), vs = [.ref f, .ref l] ∧ H f = some (.lst fs) ∧ RsAt H fs rows ∧ H l = some (.lst us) ∧ RsAt H us rows ∧ rows.length ≤ 1000 ∧ ∀ H', Same H H' → Q (.bl true) H'
theorem h_same (T : Txt K mg A) : Have P w K mg base "_law_same" 2 ["_law_found", "_law_rows"] [] (sp_same K) := by
  have H_l_whole := h_whole (P := P) (w := w) (base := base) T
  refine T.r_l_same.have sc_l_same (fun vs H Q E z => ?_) ?_
  · obtain ⟨f, l, fs, us, rows, rfl, _⟩ := z; rfl
  · intro f' cdv A' outer s H vs Q E hr z
    obtain ⟨f, l, fs, us, rows, rfl, hf, hF, hl, hU, hL, q⟩ := z
    refine ⟨_, (pss_cons (ps_if (PW.pt (pw_or (pt_not (pt_val (pe_callB call_isi rfl T.b_isinstance PyProof.Rows.boot_isinstance (pa_cons (pv 0) (pa_cons (pe_bltnE (n := "list") rfl T.b_list PyProof.Rows.boot_list) pa_nil))))) (pw_or1 (pt_cmpR op_ne (pe_callB call_len rfl T.b_len PySem.boot_len (pa_cons (pv 0) pa_nil)) (pe_callB call_len rfl T.b_len PySem.boot_len (pa_cons (pv 1) pa_nil)) (nomark _))))) (pss_one (ps_ret pe_bl)) pss_nil)
      (pss_cons (ps_forE PassesOwn.leaving rfl (pi_enum rfl T.b_enumerate (pa_cons (pv 1) pa_nil)) (pg_tup rfl (pgs_cons (pg_name (i := 2) sc_l_same.nd rfl (Or.inl rfl)) (pgs_cons (pg_name (i := 3) sc_l_same.nd rfl (Or.inl rfl)) pgs_nil))) (pss_cut (ps_if (PW.pt (pw_and (pt_cmpR op_isN (pv 3) pe_non (nomark _)) (pw_and1 (pt_cmpR op_notN (pe_ix ix_list (pv 0) (pv 2) (fun _ _ => rfl)) pe_non (nomark _))))) (pss_one (ps_ret pe_bl)) pss_nil)
      (pss_one (ps_if (pt_cmpR op_notN (pv 3) pe_non (nomark _)) (pss_cons (ps_if (PW.pt (pw_or (pt_not (pt_val (pe_callB call_isi rfl T.b_isinstance PyProof.Rows.boot_isinstance (pa_cons (pe_ix ix_list (pv 0) (pv 2) (fun _ _ => rfl)) (pa_cons (pe_bltnE (n := "tuple") rfl T.b_tuple PyProof.Rows.boot_tuple) pa_nil))))) (pw_or (pt_cmpR (op_neD (n := 4) (hu6 hr)) (pe_ix ix_list (pv 0) (pv 2) (fun _ _ => rfl)) (pv 3) (nomark _)) (pw_or1 (pt_not (pt_val (pe_callB call_isi rfl T.b_isinstance PyProof.Rows.boot_isinstance (pa_cons (pe_ix ix_tup (pe_ix ix_list (pv 0) (pv 2) (fun _ _ => rfl)) pe_int (fun _ _ => rfl)) (pa_cons (pe_bltnE (n := "bool") rfl T.b_bool PyProof.Rows.boot_bool) pa_nil))))))))) (pss_one (ps_ret pe_bl)) pss_nil)
      (pss_one (ps_if (PW.pt (pw_or (pt_not (pt_val (pe_callE H_l_whole (hr.mono (by decide)) xw_def (pa_cons (pe_ix ix_tup (pe_ix ix_list (pv 0) (pv 2) (fun _ _ => rfl)) pe_int (fun _ _ => rfl)) pa_nil)))) (pw_or (pt_not (pt_val (pe_callE H_l_whole (hr.mono (by decide)) xw_def (pa_cons (pe_ix ix_tup (pe_ix ix_list (pv 0) (pv 2) (fun _ _ => rfl)) pe_int (fun _ _ => rfl)) pa_nil)))) (pw_or1 (pt_not (pt_val (pe_callE H_l_whole (hr.mono (by decide)) xw_def (pa_cons (pe_ix ix_tup (pe_ix ix_list (pv 0) (pv 2) (fun _ _ => rfl)) pe_int (fun _ _ => rfl)) pa_nil)))))))) (pss_one (ps_ret pe_bl)) pss_nil))) pss_nil))))
      (pss_one (ps_ret pe_bl)))), ?_⟩
    walk_at "wp"
    have hfl := Paired.length hF
    have hul := Paired.length hU
    refine ⟨by decide, kn_lst hf, ?_⟩
    rw [isTy_lst hf]
    refine iteF ⟨_, .inl ⟨_, SqL.of hf, rfl⟩, _, .inl ⟨_, SqL.of hl, rfl⟩, ?_⟩
    rw [hfl, hul, decide_eq_true rfl]
    refine iteF ⟨⟨_, SqL.of hl⟩, loop_enum (xs := us) (fun i σ H' => ∃ v3 v4, σ = [some (.ref f), some (.ref l), v3, v4] ∧ Same H H') ⟨_, _, rfl, same_refl⟩ (fun i σ H' _ ⟨_, _, _, e⟩ => SqL.of (e _ _ hl)) (fun i x tt σ H' hi => ?_) (fun σ H' => ?_)⟩
    · rintro ⟨v3, v4, rfl, s2⟩ htt
      obtain ⟨y, hy1, hy2⟩ := prd_get (hU.same s2) hi
      obtain ⟨x2, hx2, hy3⟩ := prd_get2 (hF.same s2) hy1
      have b3 := same_upd (o := .tup [V.int i, x]) (same_refl (H := H')) htt
      have htt' : upd H' tt (.tup [V.int i, x]) tt = some (.tup [V.int i, x]) := upd_same
      walk_at "wp"
      have hy2 := hy2.same b3
      have hy3 := hy3.same b3
      generalize upd H' tt (.tup [V.int i, x]) = H4 at *
      have d4 := s2.trans b3
      refine ⟨_, SqT.of htt', rfl, _, _, rfl, _, _, rfl, rfl, ?_⟩
      refine ⟨fun σ H5 => σ = [some (.ref f), some (.ref l), some (.int i), some x] ∧ H5 = H4, ?_, fun σ' H5 => ?_⟩
      · walk_at "wp"
        refine ite2 (fun c => ⟨_, SqL.of (d4 _ _ hf), x2, atI_nat hx2, ?_⟩) (fun _ => iteF trivial)
        cases y with
        | some r => obtain ⟨a, e, _⟩ := hy2; rw [e] at c; cases c
        | none =>
          obtain rfl : x2 = .non := hy3
          exact iteF trivial
      rintro ⟨rfl, rfl⟩
      unfold sp_whole
      cases y with
      | none =>
        obtain rfl : x = .non := hy2
        walk_at "wp"
        exact iteF d4
      | some r =>
      obtain ⟨b, rfl, hb⟩ := hy2
      obtain ⟨a, rfl, ha⟩ := hy3
      have hF5 := d4 _ _ hf
      have hat := atI_nat hx2
      have hl : ∀ i : Int, eqV (.int i) (.int i) = true := fun i => eqV_self rfl
      have hb' : eqV (.bl r.u) (.bl r.u) = true := eqV_self rfl
      walk_at "wp"
      rw [if_pos (by simp)]
      refine ⟨_, SqL.of hF5, _, hat, by decide, kn_tup ha, ?_⟩
      rw [isTy_tup ha]
      refine iteF ⟨_, SqL.of hF5, _, hat, ?_⟩
      refine ⟨true, [.leaf (.int r.t), .leaf (.int r.g), .leaf (.int r.e), .leaf (.bl r.u)], [.leaf (.int r.t), .leaf (.int r.g), .leaf (.int r.e), .leaf (.bl r.u)], ⟨a, _, rfl, SqT.of ha, ?_⟩, ⟨b, _, rfl, SqT.of hb, ?_⟩, by simp [alikeL, alike], by simp [deepL, deep], ?_⟩
      · exact ⟨_, _, rfl, ⟨rfl, rfl⟩, _, _, rfl, ⟨rfl, rfl⟩, _, _, rfl, ⟨rfl, rfl⟩, _, _, rfl, ⟨rfl, rfl⟩, rfl⟩
      · exact ⟨_, _, rfl, ⟨rfl, rfl⟩, _, _, rfl, ⟨rfl, rfl⟩, _, _, rfl, ⟨rfl, rfl⟩, _, _, rfl, ⟨rfl, rfl⟩, rfl⟩
      rw [show eqDvL [Dv.leaf (.int r.t), .leaf (.int r.g), .leaf (.int r.e), .leaf (.bl r.u)] [.leaf (.int r.t), .leaf (.int r.g), .leaf (.int r.e), .leaf (.bl r.u)] = true by simp [eqDvL, eqDv, hl, hb']]
      refine ⟨false, rfl, iteF ⟨_, SqL.of hF5, _, hat, a, rfl, _, SqT.of ha, _, rfl, by decide, kn_bl.mpr trivial, iteF ?_⟩⟩
      exact ⟨_, SqL.of hF5, _, hat, a, rfl, _, SqT.of ha, _, rfl, _, rfl, iteF ⟨_, SqL.of hF5, _, hat, a, rfl, _, SqT.of ha, _, rfl, _, rfl, iteF ⟨_, SqL.of hF5, _, hat, a, rfl, _, SqT.of ha, _, rfl, _, rfl, iteF d4⟩⟩⟩
    · rintro ⟨v3, v4, rfl, s2⟩
      walk_at "wp"
      exact q _ s2
theorem pb_new {C p ra fa D pl : Addr} {H4 H5 : Hp} {z : Nat} (hB : BkAt C H4 p ra fa (List.replicate z none) 0 0) (s : Same H4 H5) (hD4 : H4 D = none) (hD : H5 D = some (.lst (List.replicate z V.non))) (hpl : H5 pl = none) (hz : z ≤ 64) : PbAt C (upd H5 pl (.lst [.ref D, .int 0])) ⟨p, ra, fa, pl, D⟩ (List.replicate z none) 0 0 := by
  obtain ⟨dx, vs, kvs, h1, h2, _⟩ := id hB
  have b := same_upd (o := .lst [.ref D, .int 0]) s hpl
  have ndp : D ≠ pl := fun e => by rw [e, hpl] at hD; cases hD
  refine ⟨hB.same b, upd_same, ⟨List.replicate z .non, by show upd H5 pl _ D = _; rw [upd_ne ndp]; exact hD, ?_⟩, fun i j r s hi => ?_, by decide, ?_, ?_, ?_, Ne.symm ndp, by rw [List.length_replicate]; exact hz⟩
  · have e2 : ∀ k : Nat, ∀ HH : Hp, RsAt HH (List.replicate k V.non) (List.replicate k none) := fun k HH => by
      induction k with
      | zero => exact .nil
      | succ k ih => exact .cons rfl ih
    exact e2 _ _
  · have := List.eq_of_mem_replicate (List.mem_of_getElem? hi)
    cases this
  · intro h
    omega
  · show pl ≠ ra
    intro e
    rw [e, s _ _ h2] at hpl; cases hpl
  · show D ≠ ra
    intro e
    rw [e, h2] at hD4; cases hD4
def sp_fil (C : Addr) : Sp := fun vs H Q _ => ∃ (z : Nat) (bs : Int), vs = [.int z, .int bs] ∧ z ≤ 64 ∧ ∀ (b : Bk) (tp : Addr) (rows : List (Option Rw)) (hd : Int) (H' : Hp), Same H H' → (∀ c ∈ b.ex, H c = none) → H' tp = some (.tup [.ref b.p, .ref b.pl]) → PbAt C H' b rows 66 hd → Q (.ref tp) H'
theorem h_fil (T : Txt K mg A) : Have P w K mg base "_law_filled" 5 ["_law_size_here", "_law_base"] [] (sp_fil A.C_Book) := by
  have H_l_deed := h_deed (P := P) (w := w) (base := base) T
  have H_Book_init := h_binit (P := P) (w := w) (base := base) T
  refine T.r_l_filled.have sc_l_filled (fun vs H Q E z => ?_) ?_
  · obtain ⟨z, bs, rfl, _⟩ := z; rfl
  · intro f' cdv A' outer s H vs Q E hr z
    obtain ⟨z, bs, rfl, hz, q⟩ := z
    refine ⟨_, (pss_cons (ps_set (i := 2) sc_l_filled.nd rfl (Or.inl rfl) (pe_makeE H_Book_init (hr.mono (by decide)) xw_def (pa_cons (pv 0) pa_nil)))
      (pss_cons (ps_set (i := 3) sc_l_filled.nd rfl (Or.inl rfl) (pe_lst (pa_cons (pe_comp rfl (pi_range1 rfl T.b_range (pa_cons (pv 0) pa_nil)) (x := "_law_k") (fs := []) (ix := []) rfl rfl (fun _ _ _ _ _ _ => (pg_name (i := 0) (show (["_law_k"] : List Str).Nodup by decide +kernel) rfl (Or.inl rfl))) (fun _ _ _ _ _ _ => pf_nil) (fun _ _ _ _ _ _ => pe_non)) (pa_cons pe_int pa_nil))))
      (pss_cons (ps_forE PassesOwn.leaving rfl (pi_range1 rfl T.b_range (pa_cons (pv 0) pa_nil)) (pg_name (i := 4) sc_l_filled.nd rfl (Or.inl rfl)) (pss_one (ps_expr (pe_callE H_l_deed (hr.mono (by decide)) xw_def (pa_cons (pv 2) (pa_cons (pv 3) (pa_cons (pe_op op_mul (pe_op op_mod (pv 4) pe_int) pe_int) (pa_cons (pe_tup (pa_cons (pe_op op_add (pv 1) (pe_op op_mod (pv 4) pe_int)) (pa_cons (pe_op op_add (pv 1) (pe_op op_fdiv (pv 4) pe_int)) (pa_cons (pv 4) (pa_cons pe_bl pa_nil))))) pa_nil))))))))
      (pss_cons (ps_expr (pe_callE H_l_deed (hr.mono (by decide)) xw_def (pa_cons (pv 2) (pa_cons (pv 3) (pa_cons pe_int (pa_cons (pe_tup (pa_cons (pv 1) (pa_cons (pv 1) (pa_cons pe_int (pa_cons pe_bl pa_nil))))) pa_nil))))))
      (pss_cons (ps_expr (pe_callE H_l_deed (hr.mono (by decide)) xw_def (pa_cons (pv 2) (pa_cons (pv 3) (pa_cons pe_int (pa_cons (pe_tup (pa_cons (pe_op op_add (pv 1) pe_int) (pa_cons (pe_op op_add (pv 1) pe_int) (pa_cons pe_int (pa_cons pe_bl pa_nil))))) pa_nil))))))
      (pss_one (ps_ret (pe_tup (pa_cons (pv 2) (pa_cons (pv 3) pa_nil)))))))))), ?_⟩
    unfold sp_binit
    walk_at "wp"
    refine fun p dx hp hdx hne => ⟨by omega, by omega, fun H4 ra fa kp4 hB4 hra hfa => ⟨by omega, by omega, fun D hD => ?_⟩⟩
    rw [Int.toNat_natCast] at hB4 ⊢
    have s14 : Same H H4 := fun c o hc => kp4 c o (by rw [upd_ne (ne_of_none hc hp), upd_ne (ne_of_none hc hdx)]; exact hc) (fun z => ne_of_none hc hp (List.mem_singleton.mp z))
    have fresh : ∀ {x : Addr}, upd (upd H dx (.own p)) p (.ins A.C_Book dx []) x = none → H x = none := fun {x} h => by
      have n1 : x ≠ p := fun e => by rw [e, upd_same] at h; cases h
      have n2 : x ≠ dx := fun e => by rw [e, upd_ne hne, upd_same] at h; cases h
      rwa [upd_ne n1, upd_ne n2] at h
    have hra3 := fresh hra
    have hfa3 := fresh hfa
    refine comp_range (fun i ys σ H' => ∃ v, σ = [v] ∧ Same H4 H' ∧ H' D = some (.lst ys) ∧ ys = List.replicate i V.non) ⟨_, rfl, same_upd same_refl hD, upd_same, rfl⟩ (fun i ys σ H' hi => ?_) (fun ys σ H5 => ?_)
    · rintro ⟨v, rfl, s1, h1, rfl⟩
      walk_at "wp"
      refine ⟨h1, by rw [List.length_replicate]; have : sizeLine = 16777216 := PySem.sizeLine_eq; omega, same_put s1 hD, ?_⟩
      rw [← List.replicate_succ']
      rfl
    rintro ⟨v, rfl, s45, hD5, rfl⟩ pl hpl
    refine ⟨by omega, by omega, ?_⟩
    have hP0 := pb_new hB4 s45 hD hD5 hpl hz
    have s56 := same_upd (o := .lst [V.ref D, V.int 0]) (same_refl (H := H5)) hpl
    have hex : ∀ c ∈ Bk.ex ⟨p, ra, fa, pl, D⟩, H c = none := fun c hc => by
      unfold Bk.ex at hc
      simp only [List.mem_cons, List.not_mem_nil, or_false] at hc
      rcases hc with rfl | rfl | rfl | rfl | rfl
      · exact hp
      · exact hra3
      · exact hfa3
      · exact same_none (s14.trans s45) hpl
      · exact same_none s14 hD
    have s16 := (s14.trans s45).trans s56
    generalize upd H5 pl (.lst [V.ref D, V.int 0]) = H6 at *
    obtain ⟨b, hb⟩ : ∃ b : Bk, b = ⟨p, ra, fa, pl, D⟩ := ⟨_, rfl⟩
    rw [← hb] at hP0 hex
    have e1 : p = b.p := by rw [hb]
    have e2 : pl = b.pl := by rw [hb]
    rw [e1, e2]
    have hsame : ∀ {H'}, Kp b.ex H6 H' → Same H H' := fun {H'} k c o hc => k _ _ (s16 _ _ hc) (fun z => by rw [hex c z] at hc; cases hc)
    refine loop_range (fun i σ H' => ∃ (rows : List (Option Rw)) (hd : Int) (v4 : Option V), σ = [some (.int z), some (.int bs), some (.ref b.p), some (.ref b.pl), v4] ∧ Pst A.C_Book H6 b i z H' rows hd) ⟨_, _, _, rfl, hP0, List.length_replicate .., fun _ _ h _ => h⟩ (fun i σ H' hi => ?_) (fun σ H' => ?_)
    · rintro ⟨rows, hd, v4, rfl, hP, hm, kp⟩
      unfold sp_deed
      walk_at "wp"
      intro rw' hrw
      have bt := same_upd (o := .tup [V.int (bs + (0 + (i : Int)) % 5), V.int (bs + (0 + (i : Int)) / 5), V.int (0 + (i : Int)), V.bl false]) (same_refl (H := H')) hrw
      exact ⟨b, rfl, rfl, rows, i, z, hd, hP.same bt, hm, by omega, _, _, _, rfl, fun rows' hd' H2 hp => ⟨rows', hd', hp.on kp bt⟩⟩
    rintro ⟨rows, hd, v4, rfl, hP, hm, kp⟩
    unfold sp_deed
    walk_at "wp"
    intro rw' hrw
    have bt := same_upd (o := .tup [V.int bs, V.int bs, V.int 0, V.bl false]) (same_refl (H := H')) hrw
    refine ⟨b, rfl, rfl, rows, z, z, hd, hP.same bt, hm, by omega, _, _, _, rfl, fun rows2 hd2 H2 hp2 rw2 hrw2 => ?_⟩
    have hp2 := hp2.on kp bt
    have bt2 := same_upd (o := .tup [V.int (bs + 4), V.int (bs + 40), V.int 7, V.bl false]) (same_refl (H := H2)) hrw2
    refine ⟨b, rfl, rfl, rows2, z + 1, z, hd2, hp2.1.same bt2, hp2.2.1, by omega, _, _, _, rfl, fun rows3 hd3 H3 hp3 tp htp => ?_⟩
    have hp3 := hp3.on hp2.2.2 bt2
    have bt3 := same_upd (o := .tup [V.ref b.p, V.ref b.pl]) (same_refl (H := H3)) htp
    exact q b tp rows3 hd3 _ ((hsame hp3.2.2).trans bt3) hex upd_same ((hp3.1.same bt3).up (by omega))
theorem PbAt.kp {C : Addr} {H H' : Hp} {b : Bk} {rows : List (Option Rw)} {n : Nat} {hd : Int} {ex : List Addr} (h : PbAt C H b rows n hd) (k : Kp ex H H') (hx : ∀ c ∈ b.ex, c ∉ ex) (ht : ∀ c xs, H c = some (.tup xs) → c ∉ ex) : PbAt C H' b rows n hd := by
  obtain ⟨h1, h2, ⟨us, h3, h4⟩, h5⟩ := h
  exact ⟨h1.kp k (hx _ (by simp [Bk.ex])) (hx _ (by simp [Bk.ex])) (hx _ (by simp [Bk.ex])) ht, k _ _ h2 (hx _ (by simp [Bk.ex])), ⟨us, k _ _ h3 (hx _ (by simp [Bk.ex])), RsAt.kp k ht h4⟩, h5⟩
theorem PbAt.live {C : Addr} {H : Hp} {b : Bk} {rows : List (Option Rw)} {n : Nat} {hd : Int} (h : PbAt C H b rows n hd) : ∀ c ∈ b.ex, ∃ o, H c = some o := fun c z => by
  obtain ⟨⟨dx, vs, kvs, h1, h2, h3, h4, h5, h6⟩, h7, ⟨us, h8, _⟩, _⟩ := h
  unfold Bk.ex at z
  simp only [List.mem_cons, List.not_mem_nil, or_false] at z
  rcases z with rfl | rfl | rfl | rfl | rfl
  · exact ⟨_, h1⟩
  · exact ⟨_, h2⟩
  · exact ⟨_, h4⟩
  · exact ⟨_, h7⟩
  · exact ⟨_, h8⟩
abbrev Bt := Bk × Addr
def Pr (C : Addr) (H : Hp) (n : Nat) (x : Bt) : Prop := H x.2 = some (.tup [.ref x.1.p, .ref x.1.pl]) ∧ ∃ rows hd, PbAt C H x.1 rows n hd
def Dj (x y : Bt) : Prop := ∀ c ∈ x.1.ex, c ∉ y.1.ex
theorem Dj.symm {x y : Bt} (h : Dj x y) : Dj y x := fun c h1 h2 => h c h2 h1
theorem Pr.same {C : Addr} {H H' : Hp} {n : Nat} {x : Bt} (h : Pr C H n x) (s : Same H H') : Pr C H' n x := let ⟨h1, r, d, h2⟩ := h; ⟨s _ _ h1, r, d, h2.same s⟩
theorem Pr.up {C : Addr} {H : Hp} {n n' : Nat} {x : Bt} (h : Pr C H n x) (hn : n ≤ n') : Pr C H n' x := let ⟨h1, r, d, h2⟩ := h; ⟨h1, r, d, h2.up hn⟩
theorem Pr.kp {C : Addr} {H H' : Hp} {n : Nat} {x : Bt} {ex : List Addr} (h : Pr C H n x) (k : Kp ex H H') (hx : ∀ c ∈ x.1.ex, c ∉ ex) (ht : ∀ c xs, H c = some (.tup xs) → c ∉ ex) : Pr C H' n x := let ⟨h1, r, d, h2⟩ := h; ⟨k _ _ h1 (ht _ _ h1), r, d, h2.kp k hx ht⟩
def Iv0 (C bo : Addr) (H0 H' : Hp) (i : Nat) (bs : List Bt) : Prop := H' bo = some (.lst (bs.map fun x => V.ref x.2)) ∧ bs.length = i ∧ Kp [bo] H0 H' ∧ (∀ x ∈ bs, Pr C H' 66 x ∧ bo ∉ x.1.ex ∧ ∀ c ∈ x.1.ex, H0 c = none) ∧ bs.Pairwise Dj
theorem Iv0.add {C bo : Addr} {H0 H H' : Hp} {i : Nat} {bs : List Bt} (h : Iv0 C bo H0 H i bs) (h0 : ∃ o, H0 bo = some o) (s : Same H H') {b : Bk} {tp : Addr} {rows : List (Option Rw)} {n : Nat} {hd : Int} (hn : n ≤ 66) (hx : ∀ c ∈ b.ex, H c = none) (ht : H' tp = some (.tup [.ref b.p, .ref b.pl])) (hP : PbAt C H' b rows n hd) : Iv0 C bo H0 (upd H' bo (.lst (bs.map (fun x => V.ref x.2) ++ [V.ref tp]))) (i + 1) (bs ++ [(b, tp)]) := by
  obtain ⟨h1, h2, h3, h4, h5⟩ := h
  have hb' := s _ _ h1
  have k : Kp [bo] H' (upd H' bo (.lst (bs.map (fun x => V.ref x.2) ++ [V.ref tp]))) := fun c o hc hx => by
    rw [upd_ne (fun z => hx (by simp [z]))]; exact hc
  have tx : ∀ c xs, H' c = some (.tup xs) → c ∉ [bo] := fun c xs hc z => by rw [List.mem_singleton.mp z, hb'] at hc; cases hc
  have nbo : bo ∉ b.ex := fun z => by rw [hx _ z] at h1; cases h1
  have hob : ∀ c ∈ b.ex, c ∉ [bo] := fun c hc z => nbo (by rw [← List.mem_singleton.mp z]; exact hc)
  refine ⟨by rw [List.map_append]; exact upd_same, by rw [List.length_append, h2]; rfl, fun c o hc hx => k _ _ (s _ _ (h3 _ _ hc hx)) hx, fun x hx' => ?_, ?_⟩
  · rcases List.mem_append.mp hx' with hx' | hx'
    · obtain ⟨q1, q2, q3⟩ := h4 x hx'
      exact ⟨(q1.same s).kp k (fun c hc z => q2 (by rw [← List.mem_singleton.mp z]; exact hc)) tx, q2, q3⟩
    · rw [List.mem_singleton.mp hx']
      refine ⟨⟨k _ _ ht (tx _ _ ht), rows, hd, (hP.up hn).kp k hob tx⟩, nbo, fun c hc => ?_⟩
      cases e : H0 c with
      | none => rfl
      | some o =>
        have := h3 _ _ e (hob c hc)
        rw [hx c hc] at this
        cases this
  · rw [List.pairwise_append]
    refine ⟨h5, List.pairwise_singleton _ _, fun x hx' y hy => ?_⟩
    rw [List.mem_singleton.mp hy]
    intro c hc hc2
    obtain ⟨⟨_, r, d, hPx⟩, _⟩ := h4 x hx'
    obtain ⟨o, ho⟩ := hPx.live c hc
    rw [hx c hc2] at ho
    cases ho
def Iv2 (C : Addr) (X Y : Bt) (H7 H' : Hp) (n : Nat) (held due : Addr) : Prop := Pr C H' n X ∧ Pr C H' n Y ∧ Dj X Y ∧ Kp (X.1.ex ++ Y.1.ex) H7 H' ∧ (∃ hs ds hr, H' held = some (.lst hs) ∧ H' due = some (.lst ds) ∧ RsAt H' hs hr ∧ RsAt H' ds hr ∧ hr.length ≤ 64) ∧ (held ∉ X.1.ex ∧ held ∉ Y.1.ex) ∧ (due ∉ X.1.ex ∧ due ∉ Y.1.ex)
theorem Iv2.symm {C : Addr} {X Y : Bt} {H7 H' : Hp} {n : Nat} {held due : Addr} (h : Iv2 C X Y H7 H' n held due) : Iv2 C Y X H7 H' n held due := by
  obtain ⟨h1, h2, h3, h4, h5, h6, h7⟩ := h
  exact ⟨h2, h1, h3.symm, h4.wide (fun x hx => by rcases List.mem_append.mp hx with h | h <;> simp [h]), h5, ⟨h6.2, h6.1⟩, ⟨h7.2, h7.1⟩⟩
theorem Iv2.same {C : Addr} {X Y : Bt} {H7 H' H1 : Hp} {n : Nat} {held due : Addr} (h : Iv2 C X Y H7 H' n held due) (s : Same H' H1) : Iv2 C X Y H7 H1 n held due := by
  obtain ⟨h1, h2, h3, h4, ⟨hs, ds, hr, a1, a2, a3, a4, a5⟩, h6, h7⟩ := h
  exact ⟨h1.same s, h2.same s, h3, h4.post s, ⟨hs, ds, hr, s _ _ a1, s _ _ a2, a3.same s, a4.same s, a5⟩, h6, h7⟩
theorem Iv2.deed {C : Addr} {X Y : Bt} {H7 H' H2 : Hp} {n m : Nat} {held due : Addr} {rows : List (Option Rw)} {hd : Int} (h : Iv2 C X Y H7 H' n held due) (p : Pst C H' X.1 (n + 1) m H2 rows hd) : Iv2 C X Y H7 H2 (n + 1) held due := by
  obtain ⟨h1, h2, h3, h4, ⟨hs, ds, hr, a1, a2, a3, a4, a5⟩, h6, h7⟩ := h
  obtain ⟨x1, r, d, x2⟩ := h1
  obtain ⟨p1, _, k⟩ := p
  have tx := x2.tup
  exact ⟨⟨k _ _ x1 (tx _ _ x1), rows, hd, p1⟩, (h2.up (by omega)).kp k (fun c hc hc2 => h3 c hc2 hc) tx, h3, h4.more k (fun x hx => List.mem_append.mpr (.inl hx)), ⟨hs, ds, hr, k _ _ a1 h6.1, k _ _ a2 h7.1, RsAt.kp k tx a3, RsAt.kp k tx a4, a5⟩, h6, h7⟩
theorem Pr.out {C : Addr} {H : Hp} {n : Nat} {x : Bt} (h : Pr C H n x) {c : Addr} (hc : H c = none) : c ∉ x.1.ex := fun z => by
  obtain ⟨_, _, _, hp⟩ := h
  obtain ⟨o, ho⟩ := hp.live c z
  rw [hc] at ho; cases ho
def spLaw (K : PySem.W.Frag) : Sp := fun vs H Q _ => ∃ (a : Addr) (ns : List Int), vs = [.ref a] ∧ SqL K H a (ns.map V.int) ∧ ns.length ≤ 63 ∧ ∀ H', Q (.bl true) H'
theorem body_law (T : Txt K mg A) : Body P w K mg base "law" s_law ["_law_script", "_law_base", "_law_both", "_law_k", "_law_size_here", "_law_wide", "_law_held", "_law_due", "_law_cell_here", "_law_number_here", "_law_row", "_law_book", "_law_plain"] 7 (spLaw K) := by
  intro f cdv A' outer s H vs Q E hr z
  obtain ⟨a0, ns, rfl, ha, hn, q⟩ := z
  have H_l_cell := h_cell (P := P) (w := w) (base := base) T a0 ns
  have H_l_size := h_size (P := P) (w := w) (base := base) T
  have H_l_filled := h_fil (P := P) (w := w) (base := base) T
  have H_l_number := h_number (P := P) (w := w) (base := base) T
  have H_l_deed := h_deed (P := P) (w := w) (base := base) T
  have H_l_seen := h_seen (P := P) (w := w) (base := base) T
  have H_l_same := h_same (P := P) (w := w) (base := base) T
  have H_Book_init := h_binit (P := P) (w := w) (base := base) T
  have H_Book_told := h_told (P := P) (w := w) (base := base) T
  refine ⟨_, (pss_cons (ps_set (i := 1) sc_law.nd rfl (Or.inl rfl) (pe_op op_mod (pe_op op_fdiv (pe_callE H_l_cell (hr.mono (by decide)) xw_def (pa_cons (pv 0) (pa_cons pe_int pa_nil))) pe_int) (pe_op op_pow pe_int pe_int)))
      (pss_cons (ps_set (i := 2) sc_law.nd rfl (Or.inl rfl) (pe_lst pa_nil))
      (pss_cons (ps_forE PassesOwn.leaving rfl (pi_range1 rfl T.b_range (pa_cons pe_int pa_nil)) (pg_name (i := 3) sc_law.nd rfl (Or.inl rfl)) (pss_cons (ps_set (i := 4) sc_law.nd rfl (Or.inl rfl) (pe_callE H_l_size (hr.mono (by decide)) xw_def (pa_cons (pe_callE H_l_cell (hr.mono (by decide)) xw_def (pa_cons (pv 0) (pa_cons (pv 3) pa_nil))) pa_nil)))
      (pss_one (ps_if (pt_cmpR op_eq (pe_op op_mod (pe_op op_fdiv (pe_callE H_l_cell (hr.mono (by decide)) xw_def (pa_cons (pv 0) (pa_cons pe_int pa_nil))) pe_int) pe_int) pe_int (nomark _)) (pss_one (ps_expr (pe_bm PySem.F.plainAttrs_list PySem.F.slot_list_append PySem.F.type_list_append mt_append (pv 2) (pa_cons (pe_callE H_l_filled (hr.mono (by decide)) xw_def (pa_cons (pv 4) (pa_cons (pv 1) pa_nil))) pa_nil)))) (pss_one (ps_expr (pe_bm PySem.F.plainAttrs_list PySem.F.slot_list_append PySem.F.type_list_append mt_append (pv 2) (pa_cons (pe_tup (pa_cons (pe_makeE H_Book_init (hr.mono (by decide)) xw_def (pa_cons (pv 4) pa_nil)) (pa_cons (pe_lst (pa_cons (pe_comp rfl (pi_range1 rfl T.b_range (pa_cons (pv 4) pa_nil)) (x := "_law_j") (fs := []) (ix := []) rfl rfl (fun _ _ _ _ _ _ => (pg_name (i := 0) (show (["_law_j"] : List Str).Nodup by decide +kernel) rfl (Or.inl rfl))) (fun _ _ _ _ _ _ => pf_nil) (fun _ _ _ _ _ _ => pe_non)) (pa_cons pe_int pa_nil))) pa_nil))) pa_nil))))))))
      (pss_cons (ps_set (i := 5) sc_law.nd rfl (Or.inl rfl) pe_int)
      (pss_cut (ps_if (pt_cmpR op_eq (pe_op op_mod (pe_op op_fdiv (pe_callE H_l_cell (hr.mono (by decide)) xw_def (pa_cons (pv 0) (pa_cons pe_int pa_nil))) pe_int) pe_int) pe_int (nomark _)) (pss_one (ps_set (i := 5) sc_law.nd rfl (Or.inl rfl) pe_int)) pss_nil)
      (pss_cons (ps_set (i := 6) sc_law.nd rfl (Or.inl rfl) (pe_methE0 (pe_ix ix_tup (pe_ix ix_list (pv 2) pe_int (fun _ _ => rfl)) pe_int (fun _ _ => rfl)) T.cl_Book H_Book_told (hr.mono (by decide)) xw_def))
      (pss_cons (ps_set (i := 7) sc_law.nd rfl (Or.inl rfl) (pe_callTy call_list_of rfl T.b_list PyProof.Rows.boot_list (pa_cons (pe_ix ix_list (pe_ix ix_tup (pe_ix ix_list (pv 2) pe_int (fun _ _ => rfl)) pe_int (fun _ _ => rfl)) pe_int (fun _ _ => rfl)) pa_nil)))
      (pss_cons (ps_forE PassesOwn.leaving rfl (pi_enum rfl T.b_enumerate (pa_cons (pe_slice sl_list (pv 0) (po_some pe_int) (po_some pe_int)) pa_nil)) (pg_tup rfl (pgs_cons (pg_name (i := 3) sc_law.nd rfl (Or.inl rfl)) (pgs_cons (pg_name (i := 8) sc_law.nd rfl (Or.inl rfl)) pgs_nil))) (pss_cons (ps_set (i := 9) sc_law.nd rfl (Or.inl rfl) (pe_callE H_l_number (hr.mono (by decide)) xw_def (pa_cons (pe_cmpR op_eq (pe_op op_mod (pe_op op_fdiv (pe_callE H_l_cell (hr.mono (by decide)) xw_def (pa_cons (pv 0) (pa_cons pe_int pa_nil))) pe_int) pe_int) pe_int (nomark _)) (pa_cons (pv 8) (pa_cons (pv 3) pa_nil)))))
      (pss_cons (ps_set (i := 10) sc_law.nd rfl (Or.inl rfl) (pe_tup (pa_cons (pe_op op_add (pv 1) (pe_op op_mod (pe_op op_fdiv (pv 9) pe_int) pe_int)) (pa_cons (pe_op op_add (pv 1) (pe_op op_mod (pe_op op_fdiv (pv 9) pe_int) (pv 5))) (pa_cons (pe_op op_mod (pe_op op_fdiv (pv 9) pe_int) (pe_op op_pow pe_int pe_int)) (pa_cons pe_bl pa_nil))))))
      (pss_cons (ps_expr (pe_callE H_l_deed (hr.mono (by decide)) xw_def (pa_cons (pe_ix ix_tup (pe_ix ix_list (pv 2) (pe_op op_mod (pv 9) pe_int) (fun _ _ => rfl)) pe_int (fun _ _ => rfl)) (pa_cons (pe_ix ix_tup (pe_ix ix_list (pv 2) (pe_op op_mod (pv 9) pe_int) (fun _ _ => rfl)) pe_int (fun _ _ => rfl)) (pa_cons (pe_op op_mod (pe_op op_fdiv (pv 9) pe_int) pe_int) (pa_cons (pv 10) pa_nil))))))
      (pss_cons (ps_forE PassesOwn.leaving rfl (pi_list (pv 2)) (pg_tup rfl (pgs_cons (pg_name (i := 11) sc_law.nd rfl (Or.inl rfl)) (pgs_cons (pg_name (i := 12) sc_law.nd rfl (Or.inl rfl)) pgs_nil))) (pss_one (ps_if (pt_not (pt_val (pe_callE H_l_seen (hr.mono (by decide)) xw_def (pa_cons (pv 11) (pa_cons (pv 12) (pa_cons (pv 10) pa_nil)))))) (pss_one (ps_ret pe_bl)) pss_nil)))
      (pss_one (ps_if (pt_cmpR op_eq (pe_op op_mod (pe_op op_fdiv (pv 9) pe_int) pe_int) pe_int (nomark _)) (pss_cons (ps_if (pt_not (pt_val (pe_callE H_l_same (hr.mono (by decide)) xw_def (pa_cons (pv 6) (pa_cons (pv 7) pa_nil))))) (pss_one (ps_ret pe_bl)) pss_nil)
      (pss_cons (ps_set (i := 6) sc_law.nd rfl (Or.inl rfl) (pe_methE0 (pe_ix ix_tup (pe_ix ix_list (pv 2) (pe_op op_mod (pv 9) pe_int) (fun _ _ => rfl)) pe_int (fun _ _ => rfl)) T.cl_Book H_Book_told (hr.mono (by decide)) xw_def))
      (pss_cons (ps_set (i := 7) sc_law.nd rfl (Or.inl rfl) (pe_callTy call_list_of rfl T.b_list PyProof.Rows.boot_list (pa_cons (pe_ix ix_list (pe_ix ix_tup (pe_ix ix_list (pv 2) (pe_op op_mod (pv 9) pe_int) (fun _ _ => rfl)) pe_int (fun _ _ => rfl)) pe_int (fun _ _ => rfl)) pa_nil)))
      (pss_one (ps_expr (pe_bm0 PySem.F.plainAttrs_list PySem.F.slot_list_clear PySem.F.type_list_clear mt_clear (pe_methE0 (pe_ix ix_tup (pe_ix ix_list (pv 2) (pe_op op_mod (pv 9) pe_int) (fun _ _ => rfl)) pe_int (fun _ _ => rfl)) T.cl_Book H_Book_told (hr.mono (by decide)) xw_def))))))) pss_nil)))))))
      (pss_cons (ps_if (pt_not (pt_val (pe_callE H_l_same (hr.mono (by decide)) xw_def (pa_cons (pv 6) (pa_cons (pv 7) pa_nil))))) (pss_one (ps_ret pe_bl)) pss_nil)
      (pss_one (ps_ret (pe_and (pe_callE H_l_same (hr.mono (by decide)) xw_def (pa_cons (pe_methE0 (pe_ix ix_tup (pe_ix ix_list (pv 2) pe_int (fun _ _ => rfl)) pe_int (fun _ _ => rfl)) T.cl_Book H_Book_told (hr.mono (by decide)) xw_def) (pa_cons (pe_ix ix_list (pe_ix ix_tup (pe_ix ix_list (pv 2) pe_int (fun _ _ => rfl)) pe_int (fun _ _ => rfl)) pe_int (fun _ _ => rfl)) pa_nil))) (pe_one (pe_callE H_l_same (hr.mono (by decide)) xw_def (pa_cons (pe_methE0 (pe_ix ix_tup (pe_ix ix_list (pv 2) pe_int (fun _ _ => rfl)) pe_int (fun _ _ => rfl)) T.cl_Book H_Book_told (hr.mono (by decide)) xw_def) (pa_cons (pe_ix ix_list (pe_ix ix_tup (pe_ix ix_list (pv 2) pe_int (fun _ _ => rfl)) pe_int (fun _ _ => rfl)) pe_int (fun _ _ => rfl)) pa_nil)))))))))))))))), ?_⟩
  unfold sp_cell sp_size
  walk_at "wp"
  refine ⟨ha, fun bo hbo => ?_⟩
  have b1 := same_upd (o := .lst []) (same_refl (H := H)) hbo
  have hbo1 : upd H bo (.lst []) bo = some (.lst []) := upd_same
  generalize upd H bo (.lst []) = H1 at *
  generalize ns.getD 0 0 / 100 % 100000000000000000000 = bs0 at *
  have hsq : ∀ {ex : List Addr} {H' : Hp}, Kp ex H1 H' → (∀ c ∈ ex, H c = none) → SqL K H' a0 (ns.map V.int) := fun {ex H'} kp hx => by
    have nx : ∀ {o}, H a0 = some o → a0 ∉ ex := fun {o} h z => by rw [hx _ z] at h; cases h
    rcases ha with (h | ⟨o, h⟩) | h
    · exact .inl (.inl (kp _ _ (b1 _ _ h) (nx h)))
    · exact .inl (.inr ⟨o, kp _ _ (b1 _ _ h) (nx h)⟩)
    · exact .inr h
  refine loop_range (fun i σ H' => ∃ (bs : List Bt) (v3 v4 : Option V), σ = [some (.ref a0), some (.int bs0), some (.ref bo), v3, v4, none, none, none, none, none, none, none, none] ∧ Iv0 A.C_Book bo H1 H' i bs) ⟨[], _, _, rfl, hbo1, rfl, (fun _ _ h _ => h), (fun _ h => nomatch h), .nil⟩ (fun i σ H' hi => ?_) (fun σ H2 => ?_)
  · rintro ⟨bs, v3, v4, rfl, iv⟩
    have hsq' := hsq iv.2.2.1 (fun c hc => by rw [List.mem_singleton.mp hc]; exact hbo)
    unfold sp_fil sp_binit
    walk_at "wp"
    have hib := iv.1
    have hbl : (bs.map fun x => V.ref x.2).length < 16777216 := by rw [List.length_map, iv.2.1]; omega
    refine ⟨hsq', by omega, fun z hz => ⟨hsq', ite2 (fun _ => ⟨.inl ⟨rfl, _, SqL.of hib⟩, z, rfl, hz, fun b tp rows hd H2 s2 hx ht hP => ⟨_, s2 _ _ hib, hbl, _, iv.add ⟨_, hbo1⟩ s2 (Nat.le_refl _) hx ht hP⟩⟩) (fun _ => ⟨.inl ⟨rfl, _, SqL.of hib⟩, ?_⟩)⟩⟩
    refine fun p dx hp hdx hne => ⟨by omega, by omega, fun H4 ra fa kp4 hB4 hra hfa => ⟨by omega, by omega, fun D hD => ?_⟩⟩
    rw [Int.toNat_natCast] at hB4 ⊢
    have s14 : Same H' H4 := fun c o hc => kp4 c o (by rw [upd_ne (ne_of_none hc hp), upd_ne (ne_of_none hc hdx)]; exact hc) (fun z => ne_of_none hc hp (List.mem_singleton.mp z))
    have fresh : ∀ {x : Addr}, upd (upd H' dx (.own p)) p (.ins A.C_Book dx []) x = none → H' x = none := fun {x} h => by
      have n1 : x ≠ p := fun e => by rw [e, upd_same] at h; cases h
      have n2 : x ≠ dx := fun e => by rw [e, upd_ne hne, upd_same] at h; cases h
      rwa [upd_ne n1, upd_ne n2] at h
    refine comp_range (fun i ys σ H' => ∃ v, σ = [v] ∧ Same H4 H' ∧ H' D = some (.lst ys) ∧ ys = List.replicate i V.non) ⟨_, rfl, same_upd same_refl hD, upd_same, rfl⟩ (fun i ys σ H' hi => ?_) (fun ys σ H5 => ?_)
    · rintro ⟨v, rfl, s1, h1, rfl⟩
      walk_at "wp"
      refine ⟨h1, by rw [List.length_replicate]; have : sizeLine = 16777216 := PySem.sizeLine_eq; omega, same_put s1 hD, ?_⟩
      rw [← List.replicate_succ']
      rfl
    rintro ⟨v, rfl, s45, hD5, rfl⟩ pl hpl tp htp
    have hP0 := pb_new hB4 s45 hD hD5 hpl hz
    have s56 := same_upd (o := .lst [V.ref D, V.int 0]) (same_refl (H := H5)) hpl
    have s67 := same_upd (o := .tup [V.ref p, V.ref pl]) (same_refl (H := upd H5 pl (.lst [V.ref D, V.int 0]))) htp
    have s17 := ((s14.trans s45).trans s56).trans s67
    refine ⟨_, s17 _ _ hib, hbl, _, iv.add (b := ⟨p, ra, fa, pl, D⟩) ⟨_, hbo1⟩ s17 (Nat.zero_le 66) (fun c hc => ?_) upd_same (hP0.same s67)⟩
    unfold Bk.ex at hc
    simp only [List.mem_cons, List.not_mem_nil, or_false] at hc
    rcases hc with rfl | rfl | rfl | rfl | rfl
    · exact hp
    · exact fresh hra
    · exact fresh hfa
    · exact same_none (s14.trans s45) hpl
    · exact same_none s14 hD
  rintro ⟨bs, v3, v4, rfl, iv⟩
  obtain ⟨hb2, hl2, kp2, hx2, hd2⟩ := iv
  obtain ⟨X, Y, rfl⟩ : ∃ X Y, bs = [X, Y] := by
    match bs, hl2 with
    | [X, Y], _ => exact ⟨X, Y, rfl⟩
  have hb2 : H2 bo = some (.lst [V.ref X.2, V.ref Y.2]) := hb2
  obtain ⟨hX, hbX, hnX⟩ := hx2 X (by simp)
  obtain ⟨hY, hbY, hnY⟩ := hx2 Y (by simp)
  have hXY : Dj X Y := by
    have := (List.pairwise_cons.mp hd2).1
    exact this Y (by simp)
  have hsq2 := hsq kp2 (fun c hc => by rw [List.mem_singleton.mp hc]; exact hbo)
  clear hx2 hd2 hl2
  walk_at "wp"
  refine ⟨fun σ H' => ∃ wd : Int, σ = [some (.ref a0), some (.int bs0), some (.ref bo), v3, v4, some (.int wd), none, none, none, none, none, none, none] ∧ H' = H2 ∧ 0 < wd, ?_, fun σ' H3 => ?_⟩
  · walk_at "wp"
    exact ⟨hsq2, ite2 (fun _ => by decide) (fun _ => by decide)⟩
  rintro ⟨wd, rfl, rfl, hwd⟩
  unfold sp_told
  walk_at "wp"
  obtain ⟨hX2, rX, hdX, hPX⟩ := id hX
  obtain ⟨hBX, hpX, ⟨uX, hqX, hUX⟩, _, _, _, nX1, nX2, nX3, hlX⟩ := id hPX
  obtain ⟨dxX, _, _, mX1, _⟩ := id hBX
  refine ⟨_, SqL.of hb2, _, rfl, X.2, rfl, _, SqT.of hX2, _, rfl, X.1.p, rfl, dxX, _, mX1, bkF_no (by decide +kernel), X.1.p, rfl, X.1.ra, X.1.fa, rX, 66, hdX, hBX, fun he hes hhe hHes => ?_⟩
  have b4 := same_upd (o := .lst hes) (same_refl (H := H3)) hhe
  have hhe4 : upd H3 he (.lst hes) he = some (.lst hes) := upd_same
  generalize upd H3 he (.lst hes) = H4 at *
  refine ⟨_, SqL.of (b4 _ _ hb2), _, rfl, X.2, rfl, _, SqT.of (b4 _ _ hX2), _, rfl, X.1.pl, rfl, _, SqL.of (b4 _ _ hpX), _, rfl, ?_⟩
  refine ⟨X.1.rq, rfl, uX, .inl (SqL.of (b4 _ _ hqX)), fun du hdu => ?_⟩
  have b5 := same_upd (o := .lst uX) (same_refl (H := H4)) hdu
  have hdu5 : upd H4 du (.lst uX) du = some (.lst uX) := upd_same
  generalize upd H4 du (.lst uX) = H5 at *
  have s35 := b4.trans b5
  refine ⟨_, s35.seq hsq2, fun sl hsl => ?_⟩
  have e72 : cutV (ns.map V.int) (some 2) (some 72) = ((ns.take 72).drop 2).map V.int := by
    rw [show cutV (ns.map V.int) (some 2) (some 72) = ((ns.map V.int).take 72).drop 2 from cutV_nat (lo := 2) (hi := 72), List.map_drop, List.map_take]
  rw [e72]
  have hml : ((ns.take 72).drop 2).length ≤ 63 := by rw [List.length_drop, List.length_take]; omega
  generalize (ns.take 72).drop 2 = ms at *
  have b6 := same_upd (o := .lst (ms.map V.int)) (same_refl (H := H5)) hsl
  have hsl6 : upd H5 sl (.lst (ms.map V.int)) sl = some (.lst (ms.map V.int)) := upd_same
  generalize upd H5 sl (.lst (ms.map V.int)) = H6 at *
  have s36 := s35.trans b6
  have iv0 : Iv2 A.C_Book X Y H6 H6 66 he du := ⟨hX.same s36, hY.same s36, hXY, fun _ _ h _ => h, ⟨hes, uX, rX, b6 _ _ (b5 _ _ hhe4), b6 _ _ hdu5, (hHes.same b5).same b6, hUX.same s36, hlX⟩, ⟨hX.out hhe, hY.out hhe⟩, ⟨(hX.same b4).out hdu, (hY.same b4).out hdu⟩⟩
  have hslx : sl ∉ X.1.ex ++ Y.1.ex := fun z => (List.mem_append.mp z).elim ((hX.same s35).out hsl) ((hY.same s35).out hsl)
  have hbox : bo ∉ X.1.ex ++ Y.1.ex := fun z => (List.mem_append.mp z).elim hbX hbY
  have hbo6 := s36 _ _ hb2
  have hsqx : ∀ {H'}, Kp (X.1.ex ++ Y.1.ex) H6 H' → SqL K H' a0 (ns.map V.int) := fun {H'} kp => hsq (ex := bo :: (X.1.ex ++ Y.1.ex)) (fun c o hc hx => kp _ _ (s36 _ _ (kp2 _ _ hc (fun z => hx (by rw [List.mem_singleton.mp z]; exact List.mem_cons_self ..)))) (fun z => hx (List.mem_cons_of_mem _ z))) (fun c hc => by
    rcases List.mem_cons.mp hc with rfl | hc
    · exact hbo
    · exact same_none b1 ((List.mem_append.mp hc).elim (hnX c) (hnY c)))
  refine ⟨⟨_, SqL.of hsl6⟩, loop_enum (xs := ms.map V.int) (fun i σ H' => ∃ (he du : Addr) (v3 v8 v9 v10 v11 v12 : Option V), σ = [some (.ref a0), some (.int bs0), some (.ref bo), v3, v4, some (.int wd), some (.ref he), some (.ref du), v8, v9, v10, v11, v12] ∧ Iv2 A.C_Book X Y H6 H' (66 + i) he du) ⟨_, _, _, _, _, _, _, _, rfl, iv0⟩ (fun i σ H' _ ⟨_, _, _, _, _, _, _, _, _, e⟩ => SqL.of (e.2.2.2.1 _ _ hsl6 hslx)) (fun i x tt σ H' hi => ?_) (fun σ H' => ?_)⟩
  · rintro ⟨he', du', v3', v8, v9, v10, v11, v12, rfl, iv⟩ htt
    obtain ⟨z0, rfl⟩ : ∃ z, x = V.int z := by
      obtain ⟨z, _, e⟩ := List.mem_map.mp (List.mem_of_getElem? hi)
      exact ⟨z, e.symm⟩
    have hil : i < 63 := by
      have := (List.getElem?_eq_some_iff.mp hi).1
      rw [List.length_map] at this
      omega
    have b7 := same_upd (o := .tup [V.int i, V.int z0]) (same_refl (H := H')) htt
    have htt7 : upd H' tt (.tup [V.int i, V.int z0]) tt = some (.tup [V.int i, V.int z0]) := upd_same
    have iv := iv.same b7
    unfold sp_number sp_deed
    walk_at "wp"
    generalize upd H' tt (.tup [V.int i, V.int z0]) = H7 at *
    refine ⟨_, SqT.of htt7, rfl, _, _, rfl, _, _, rfl, rfl, hsqx iv.2.2.2.1, ?_⟩
    refine ⟨_, rfl, _, rfl, by omega, by omega, fun z => ⟨hwd, fun rw' hrw => ?_⟩⟩
    generalize bs0 + z / 16 % 5 = t0 at *
    generalize bs0 + z / 80 % wd = g0 at *
    generalize z / 46080 % 1000000000000000000000000000000 = e0 at *
    have b8 := same_upd (o := .tup [V.int t0, V.int g0, V.int e0, V.bl false]) (same_refl (H := H7)) hrw
    have hrw8 : upd H7 rw' (.tup [V.int t0, V.int g0, V.int e0, V.bl false]) rw' = some (.tup [V.int t0, V.int g0, V.int e0, V.bl false]) := upd_same
    generalize upd H7 rw' (.tup [V.int t0, V.int g0, V.int e0, V.bl false]) = H8 at *
    have iv8 := iv.same b8
    obtain ⟨Z, W, hat, hin, hout⟩ : ∃ Z W : Bt, atI [V.ref X.2, V.ref Y.2] (z % 2) = some (V.ref Z.2) ∧ (∀ {H'' n he du}, Iv2 A.C_Book X Y H6 H'' n he du → Iv2 A.C_Book Z W H6 H'' n he du) ∧ (∀ {H'' n he du}, Iv2 A.C_Book Z W H6 H'' n he du → Iv2 A.C_Book X Y H6 H'' n he du) := by
      rcases (by omega : z % 2 = 0 ∨ z % 2 = 1) with h | h
      · exact ⟨X, Y, by rw [h]; rfl, id, id⟩
      · exact ⟨Y, X, by rw [h]; rfl, Iv2.symm, Iv2.symm⟩
    have ivZ := hin iv8
    obtain ⟨⟨hZ2, rZ, hdZ, hPZ⟩, _⟩ := id ivZ
    have hbo8 := iv8.2.2.2.1 _ _ hbo6 hbox
    refine ⟨_, SqL.of hbo8, _, hat, Z.2, rfl, _, SqT.of hZ2, _, rfl, _, SqL.of hbo8, _, hat, Z.2, rfl, _, SqT.of hZ2, _, rfl, Z.1, rfl, rfl, rZ, 66 + i, rZ.length, hdZ, hPZ, rfl, by omega, _, _, _, rfl, fun rows' hd' H9 hp => ?_⟩
    have iv9 := hout (ivZ.deed hp)
    have hrw9 := hp.2.2 _ _ hrw8 (hPZ.tup _ _ hrw8)
    have hbo9 := iv9.2.2.2.1 _ _ hbo6 hbox
    clear hPZ hp ivZ hZ2
    refine ⟨⟨_, SqL.of hbo9⟩, loop_list (xs := [V.ref X.2, V.ref Y.2]) (fun j σ H' => ∃ (v11 v12 : Option V), σ = [some (.ref a0), some (.int bs0), some (.ref bo), some (.int i), v4, some (.int wd), some (.ref he'), some (.ref du'), some (.int z0), some (.int z), some (.ref rw'), v11, v12] ∧ Same H9 H') ⟨_, _, rfl, same_refl⟩ (fun j σ H' _ ⟨_, _, _, e⟩ => SqL.of (e _ _ hbo9)) (fun j x σ H' hj => ?_) (fun σ H10 => ?_)⟩
    · rintro ⟨v11', v12', rfl, s9⟩
      obtain ⟨V0, rfl, hV⟩ : ∃ V0 : Bt, x = V.ref V0.2 ∧ Pr A.C_Book H9 (66 + i + 1) V0 := by
        match j, hj with
        | 0, h => cases h; exact ⟨X, rfl, iv9.1⟩
        | 1, h => cases h; exact ⟨Y, rfl, iv9.2.1⟩
      obtain ⟨hV2, rV, hdV, hPV⟩ := hV.same s9
      unfold sp_seen
      walk_at "wp"
      exact ⟨_, SqT.of hV2, rfl, _, _, rfl, _, _, rfl, rfl, V0.1, rfl, rfl, rV, _, hdV, hPV, _, _, _, s9 _ _ hrw9, fun H11 s11 => iteF (s9.trans s11)⟩
    rintro ⟨v11', v12', rfl, s9⟩
    have iv10 := iv9.same s9
    obtain ⟨_, _, _, kp10, ⟨hs, ds, hr0, a1, a2, a3, a4, a5⟩, _, _⟩ := id iv10
    have hbo10 := kp10 _ _ hbo6 hbox
    unfold sp_same
    walk_at "wp"
    refine ite2 (fun _ => ⟨hs, a1, ds, hr0, a3, a2, a4, by omega, fun H11 s11 => iteF ?_⟩) (fun _ => iv10)
    have iv11 := iv10.same s11
    have hbo11 := s11 _ _ hbo10
    obtain ⟨⟨hZ2, rZ, hdZ, hPZ⟩, _⟩ := hin iv11
    obtain ⟨hBZ, hpZ, ⟨uZ, hqZ, hUZ⟩, _, _, _, _, _, _, hlZ⟩ := id hPZ
    obtain ⟨dxZ, _, _, mZ1, _⟩ := id hBZ
    refine ⟨_, SqL.of hbo11, _, hat, Z.2, rfl, _, SqT.of hZ2, _, rfl, Z.1.p, rfl, dxZ, _, mZ1, bkF_no (by decide +kernel), Z.1.p, rfl, Z.1.ra, Z.1.fa, rZ, _, hdZ, hBZ, fun he2 hes2 hhe2 hHes2 => ?_⟩
    have b12 := same_upd (o := .lst hes2) (same_refl (H := H11)) hhe2
    have hhe12 : upd H11 he2 (.lst hes2) he2 = some (.lst hes2) := upd_same
    generalize upd H11 he2 (.lst hes2) = H12 at *
    refine ⟨_, SqL.of (b12 _ _ hbo11), _, hat, Z.2, rfl, _, SqT.of (b12 _ _ hZ2), _, rfl, Z.1.pl, rfl, _, SqL.of (b12 _ _ hpZ), _, rfl, Z.1.rq, rfl, uZ, .inl (SqL.of (b12 _ _ hqZ)), fun du2 hdu2 => ?_⟩
    have b13 := same_upd (o := .lst uZ) (same_refl (H := H12)) hdu2
    have hdu13 : upd H12 du2 (.lst uZ) du2 = some (.lst uZ) := upd_same
    generalize upd H12 du2 (.lst uZ) = H13 at *
    have s13 := b12.trans b13
    have iv13 := iv11.same s13
    refine ⟨_, SqL.of (s13 _ _ hbo11), _, hat, Z.2, rfl, _, SqT.of (s13 _ _ hZ2), _, rfl, Z.1.p, rfl, dxZ, _, s13 _ _ mZ1, bkF_no (by decide +kernel), Z.1.p, rfl, Z.1.ra, Z.1.fa, rZ, _, hdZ, hBZ.same s13, fun t3 us3 ht3 hT3 => ?_⟩
    have ivn : Iv2 A.C_Book X Y H6 H13 (66 + i + 1) he2 du2 := ⟨iv13.1, iv13.2.1, iv13.2.2.1, iv13.2.2.2.1, ⟨hes2, uZ, rZ, b13 _ _ hhe12, hdu13, hHes2.same b13, hUZ.same s13, hlZ⟩, ⟨iv11.1.out hhe2, iv11.2.1.out hhe2⟩, ⟨(iv11.1.same b12).out hdu2, (iv11.2.1.same b12).out hdu2⟩⟩
    exact ⟨.inl ⟨rfl, _, SqL.of upd_same⟩, t3, us3, rfl, rfl, upd_same, ivn.same (same_put (same_upd same_refl ht3) ht3)⟩
  rintro ⟨he', du', v3', v8, v9, v10, v11, v12, rfl, iv⟩
  obtain ⟨⟨hX2, rX, hdX, hPX⟩, ⟨hY2, rY, hdY, hPY⟩, _, kpf, ⟨hs, ds, hr0, a1, a2, a3, a4, a5⟩, _, _⟩ := id iv
  have hbof := kpf _ _ hbo6 hbox
  obtain ⟨hBX, hpX, ⟨uX, hqX, hUX⟩, _, _, _, _, _, _, hlX⟩ := id hPX
  obtain ⟨dxX, _, _, mX1, _⟩ := id hBX
  obtain ⟨hBY, hpY, ⟨uY, hqY, hUY⟩, _, _, _, _, _, _, hlY⟩ := id hPY
  obtain ⟨dxY, _, _, mY1, _⟩ := id hBY
  unfold sp_same
  walk_at "wp"
  refine ⟨hs, a1, ds, hr0, a3, a2, a4, by omega, fun H11 s11 => iteF ?_⟩
  refine ⟨_, SqL.of (s11 _ _ hbof), _, rfl, X.2, rfl, _, SqT.of (s11 _ _ hX2), _, rfl, X.1.p, rfl, dxX, _, s11 _ _ mX1, bkF_no (by decide +kernel), X.1.p, rfl, X.1.ra, X.1.fa, rX, _, hdX, hBX.same s11, fun t1 u1 ht1 hT1 => ?_⟩
  have c12 := same_upd (o := .lst u1) (same_refl (H := H11)) ht1
  have ht1' : upd H11 t1 (.lst u1) t1 = some (.lst u1) := upd_same
  generalize upd H11 t1 (.lst u1) = H12 at *
  have s12 := s11.trans c12
  refine ⟨_, SqL.of (s12 _ _ hbof), _, rfl, X.2, rfl, _, SqT.of (s12 _ _ hX2), _, rfl, X.1.pl, rfl, _, SqL.of (s12 _ _ hpX), _, rfl, ?_⟩
  refine ⟨X.1.rq, rfl, u1, rfl, uX, rX, hT1, s12 _ _ hqX, hUX.same s12, by omega, fun H13 s13 => ?_⟩
  have s13 := s12.trans s13
  refine ⟨_, SqL.of (s13 _ _ hbof), _, rfl, Y.2, rfl, _, SqT.of (s13 _ _ hY2), _, rfl, Y.1.p, rfl, dxY, _, s13 _ _ mY1, bkF_no (by decide +kernel), Y.1.p, rfl, Y.1.ra, Y.1.fa, rY, _, hdY, hBY.same s13, fun t2 u2 ht2 hT2 => ?_⟩
  have c14 := same_upd (o := .lst u2) (same_refl (H := H13)) ht2
  have ht2' : upd H13 t2 (.lst u2) t2 = some (.lst u2) := upd_same
  generalize upd H13 t2 (.lst u2) = H14 at *
  have s14 := s13.trans c14
  exact ⟨_, SqL.of (s14 _ _ hbof), _, rfl, Y.2, rfl, _, SqT.of (s14 _ _ hY2), _, rfl, Y.1.pl, rfl, _, SqL.of (s14 _ _ hpY), _, rfl, Y.1.rq, rfl, u2, rfl, uY, rY, hT2, s14 _ _ hqY, hUY.same s14, by omega, fun H15 _ => q _⟩
end

theorem walk {l : PySem.W.OpenLaw} {q : Program} {loose : List Str} {XP : (Str → Option Value) → Heap → Prop} {YP : World → Heap → Prop} {d : DefRec} {K : Params → PySem.W.Frag} (hn : l.most = some 63) (hdf : d.params.defaults = []) (hdn : d.name = "law")
    (hY : ∀ (w : World) (h : Heap), YP w h → (K w.params).In h)
    (F : ∀ (w : World) (mg : Str → Option Value) (h : Heap), (K w.params).In h → h.Ns mainGlobals mg → ∃ A : Adr, Txt (K w.params) mg A) :
    PySem.W.WalkO q loose XP YP l.row.toRowW d [] (fun f vs => PySem.call f vs) := by
  refine L2.walk_of (n := 63) (k := 7 + 1) (x := "_law_script") (CX := fun w => CXe l.prog w) (sp := fun w => spLaw (K w.params)) hn (by decide) hdf ⟨rfl, by decide, by decide⟩ hY ?_ (fun _ _ a ns hl _ hS => ⟨a, ns, rfl, hS, hl, fun _ => rfl⟩) fun _ _ _ _ _ ⟨_, _, _, _, _, _, _, _, _, _, z⟩ => z
  intro w mg fa h KX G hmg
  rw [hdn] at hmg
  obtain ⟨A, T⟩ := F w mg h KX G
  obtain ⟨f, fd, e, Fn, hb⟩ := T.r_law
  have e0 := hmg.symm.trans e
  cases e0
  exact ⟨fd, hb, fun base _ _ => Fn.okE sc_law (fun vs H Q E z => by obtain ⟨a, ns, rfl, _⟩ := z; rfl) (body_law (P := l.prog) (w := w) (base := base) T)⟩
end Pf
open PySem PySem.W PyProof.Rows
set_option maxRecDepth 100000 in
set_option maxHeartbeats 0 in
theorem PySem.Challenge.cw_frameland_k37_plain_book_holds : PySem.Challenge.rw_frameland_k37_plain_book.Holds := by
  w_on; o_law; k_head; (case hw => w_witness2)
  k_fill
  refine Pf.walk (l := PySem.Challenge.rw_frameland_k37_plain_book) rfl rfl rfl (fun w h Y => PySem.W.kIn_of Y) ?F
  case F =>
    intro w mg h KX G
    refine' Pf.txt_mk KX G ?a_Book ?zb_bool ?zb_enumerate ?zb_int ?zb_isinstance ?zb_len ?zb_list ?zb_range ?zb_tuple ?a_swept_ ?l_swept_ ?c_swept_ ?k_swept_ ?a_l_cell_ ?l_l_cell_ ?c_l_cell_ ?k_l_cell_ ?a_l_number_ ?l_l_number_ ?c_l_number_ ?k_l_number_ ?a_l_whole_ ?l_l_whole_ ?c_l_whole_ ?k_l_whole_ ?a_l_at_ ?l_l_at_ ?c_l_at_ ?k_l_at_ ?a_l_free_ ?l_l_free_ ?c_l_free_ ?k_l_free_ ?a_l_deed_ ?l_l_deed_ ?c_l_deed_ ?k_l_deed_ ?a_l_seen_ ?l_l_seen_ ?c_l_seen_ ?k_l_seen_ ?a_l_same_ ?l_l_same_ ?c_l_same_ ?k_l_same_ ?a_l_size_ ?l_l_size_ ?c_l_size_ ?k_l_size_ ?a_l_filled_ ?l_l_filled_ ?c_l_filled_ ?k_l_filled_ ?pg_Book ?hd_Book ?po_Book ?sa_Book ?zn_Book_rows ?zn_Book_found ?zn_Book_hand ?mk_Book ?kc_Book ?a_Book_init_ ?i_Book_init_ ?l_Book_init_ ?c_Book_init_ ?k_Book_init_ ?a_Book_look_ ?i_Book_look_ ?l_Book_look_ ?c_Book_look_ ?k_Book_look_ ?a_Book_use_ ?i_Book_use_ ?l_Book_use_ ?c_Book_use_ ?k_Book_use_ ?a_Book_keep_ ?i_Book_keep_ ?l_Book_keep_ ?c_Book_keep_ ?k_Book_keep_ ?a_Book_strike_ ?i_Book_strike_ ?l_Book_strike_ ?c_Book_strike_ ?k_Book_strike_ ?a_Book_strike_task_ ?i_Book_strike_task_ ?l_Book_strike_task_ ?c_Book_strike_task_ ?k_Book_strike_task_ ?a_Book_told_ ?i_Book_told_ ?l_Book_told_ ?c_Book_told_ ?k_Book_told_ ?a_Book_place_for_new_ ?i_Book_place_for_new_ ?l_Book_place_for_new_ ?c_Book_place_for_new_ ?k_Book_place_for_new_ ?a_law_ ?l_law_ ?c_law_ ?k_law_
    (case a_Book => k_is); (case zb_bool => k_is); (case zb_enumerate => k_is); (case zb_int => k_is); (case zb_isinstance => k_is); (case zb_len => k_is)
    (case zb_list => k_is); (case zb_range => k_is); (case zb_tuple => k_is); (case a_swept_ => k_is); (case l_swept_ => k_is); (case c_swept_ => k_is)
    (case k_swept_ => k_is); (case a_l_cell_ => k_is); (case l_l_cell_ => k_is); (case c_l_cell_ => k_is); (case k_l_cell_ => k_is); (case a_l_number_ => k_is)
    (case l_l_number_ => k_is); (case c_l_number_ => k_is); (case k_l_number_ => k_is); (case a_l_whole_ => k_is); (case l_l_whole_ => k_is); (case c_l_whole_ => k_is)
    (case k_l_whole_ => k_is); (case a_l_at_ => k_is); (case l_l_at_ => k_is); (case c_l_at_ => k_is); (case k_l_at_ => k_is); (case a_l_free_ => k_is)
    (case l_l_free_ => k_is); (case c_l_free_ => k_is); (case k_l_free_ => k_is); (case a_l_deed_ => k_is); (case l_l_deed_ => k_is); (case c_l_deed_ => k_is)
    (case k_l_deed_ => k_is); (case a_l_seen_ => k_is); (case l_l_seen_ => k_is); (case c_l_seen_ => k_is); (case k_l_seen_ => k_is); (case a_l_same_ => k_is)
    (case l_l_same_ => k_is); (case c_l_same_ => k_is); (case k_l_same_ => k_is); (case a_l_size_ => k_is); (case l_l_size_ => k_is); (case c_l_size_ => k_is)
    (case k_l_size_ => k_is); (case a_l_filled_ => k_is); (case l_l_filled_ => k_is); (case c_l_filled_ => k_is); (case k_l_filled_ => k_is); (case pg_Book => k_is)
    (case hd_Book => k_is); (case po_Book => k_is); (case sa_Book => k_is); (case zn_Book_rows => k_is); (case zn_Book_found => k_is); (case zn_Book_hand => k_is)
    (case mk_Book => k_is); (case kc_Book => k_is); (case a_Book_init_ => k_is); (case i_Book_init_ => k_is); (case l_Book_init_ => k_is); (case c_Book_init_ => k_is)
    (case k_Book_init_ => k_is); (case a_Book_look_ => k_is); (case i_Book_look_ => k_is); (case l_Book_look_ => k_is); (case c_Book_look_ => k_is); (case k_Book_look_ => k_is)
    (case a_Book_use_ => k_is); (case i_Book_use_ => k_is); (case l_Book_use_ => k_is); (case c_Book_use_ => k_is); (case k_Book_use_ => k_is); (case a_Book_keep_ => k_is)
    (case i_Book_keep_ => k_is); (case l_Book_keep_ => k_is); (case c_Book_keep_ => k_is); (case k_Book_keep_ => k_is); (case a_Book_strike_ => k_is); (case i_Book_strike_ => k_is)
    (case l_Book_strike_ => k_is); (case c_Book_strike_ => k_is); (case k_Book_strike_ => k_is); (case a_Book_strike_task_ => k_is); (case i_Book_strike_task_ => k_is); (case l_Book_strike_task_ => k_is)
    (case c_Book_strike_task_ => k_is); (case k_Book_strike_task_ => k_is); (case a_Book_told_ => k_is); (case i_Book_told_ => k_is); (case l_Book_told_ => k_is); (case c_Book_told_ => k_is)
    (case k_Book_told_ => k_is); (case a_Book_place_for_new_ => k_is); (case i_Book_place_for_new_ => k_is); (case l_Book_place_for_new_ => k_is); (case c_Book_place_for_new_ => k_is); (case k_Book_place_for_new_ => k_is)
    (case a_law_ => k_is); (case l_law_ => k_is); (case c_law_ => k_is); (case k_law_ => k_is)
