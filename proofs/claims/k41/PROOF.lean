import PyProof.Rows.All
import Wide.All
import OpenK.AllK
import Wide.FinOn
import Lean
import PyProof.EqAt
import PyProof.EqKinds
import PyProof.TupleCall
import PyProof.NeKinds
import PyProof.EnumMake
import PyProof.EnumStmt
import PyProof.LayNew
import KE.KDictLaws
import KE.KDictSum
import KE.LcSums
import PyProof.Rows.SumAny
import PyProof.Rows.SortWalk
import PyProof.DictWalks
import PyProof.Rows.SortRev
import KE.KRevIter
import KE.KIntText
import PyProof.CallStr
import PyProof.StrCalls2
import PyProof.Rows.StrJoin2
import PyProof.StrWalks
import PySem.Challenge.RW_frameland_k41_numbers_given
set_option Elab.async false
set_option linter.all false
set_option maxRecDepth 100000
namespace L2
open PySem PySem.Spec PyProof.Rows
/-- a key: an int or a str -/
abbrev Key := Sum Int Str
def keyIs : Key → Value → Bool
  | .inl k, v => Value.isInt k v
  | .inr x, v => Value.isStrOf x v
def keyH (w : World) : Key → Int
  | .inl k => hashInt k
  | .inr x => hashStr w x
theorem keyIs_shape : ∀ {k : Key} {v : Value}, keyIs k v = true → (∃ i t, k = Sum.inl i ∧ v = Value.int i t) ∨ (∃ x t, k = Sum.inr x ∧ v = Value.str x t)
  | .inl i, v, h => by
    obtain ⟨t, e⟩ := Value.isInt_shape (k := i) (v := v) h
    exact .inl ⟨i, t, rfl, e⟩
  | .inr x, v, h => by
    obtain ⟨t, e⟩ := Value.isStrOf_shape (x := x) (v := v) h
    exact .inr ⟨x, t, rfl, e⟩
theorem keyIs_int (i : Int) (t : Tok) : keyIs (.inl i) (.int i t) = true := by simp [keyIs, Value.isInt]
theorem keyIs_str (x : Str) (t : Tok) : keyIs (.inr x) (.str x t) = true := by simp [keyIs, Value.isStrOf]
theorem key_ll (a b : Int) : decide ((Sum.inl a : Key) = Sum.inl b) = (a == b) := by
  by_cases e : a = b
  · subst e; simp
  · have h : ¬ (Sum.inl a : Key) = Sum.inl b := fun q => e (Sum.inl.inj q)
    rw [decide_eq_false h]
    exact (beq_eq_false_iff_ne.mpr e).symm
theorem key_rr (a b : Str) : decide ((Sum.inr a : Key) = Sum.inr b) = decide (a = b) := by
  by_cases e : a = b
  · subst e; simp
  · have h : ¬ (Sum.inr a : Key) = Sum.inr b := fun q => e (Sum.inr.inj q)
    rw [decide_eq_false h, decide_eq_false e]
theorem key_lr (a : Int) (b : Str) : decide ((Sum.inl a : Key) = Sum.inr b) = false := decide_eq_false (fun q => nomatch q)
theorem key_rl (a : Str) (b : Int) : decide ((Sum.inr a : Key) = Sum.inl b) = false := decide_eq_false (fun q => nomatch q)
def mixKind (prog : Program) (w : World) : PySem.KeyKind prog w Key where
  is := keyIs
  hash := keyH w
  inj := fun v a b ha hb => by
    rcases keyIs_shape ha with ⟨i, t, rfl, rfl⟩ | ⟨x, t, rfl, rfl⟩
    · rcases keyIs_shape hb with ⟨j, u, rfl, e⟩ | ⟨y, u, rfl, e⟩
      · injection e with e1 _; rw [e1]
      · exact nomatch e
    · rcases keyIs_shape hb with ⟨j, u, rfl, e⟩ | ⟨y, u, rfl, e⟩
      · exact nomatch e
      · injection e with e1 _; rw [e1]
  byValue := fun k v h => by
    rcases keyIs_shape h with ⟨i, t, rfl, rfl⟩ | ⟨x, t, rfl, rfl⟩ <;> rfl
  pyHash := fun hv h => by
    rcases keyIs_shape hv with ⟨i, t, rfl, rfl⟩ | ⟨x, t, rfl, rfl⟩
    · exact wpAny_pyHash_int h
    · exact wpAny_pyHash_str h
  eqBool := fun hu hv h => by
    rcases keyIs_shape hu with ⟨i, t, rfl, rfl⟩ | ⟨x, t, rfl, rfl⟩
    · rcases keyIs_shape hv with ⟨j, u, rfl, rfl⟩ | ⟨y, u, rfl, rfl⟩
      · rw [key_ll] at h; exact wpAny_eqBool_int h
      · rw [key_lr] at h; exact SeqAt.EqAt.int_str i t y u _ _ _ _ h
    · rcases keyIs_shape hv with ⟨j, u, rfl, rfl⟩ | ⟨y, u, rfl, rfl⟩
      · rw [key_rl] at h; exact SeqAt.EqAt.str_int x t j u _ _ _ _ h
      · rw [key_rr] at h; exact wpAny_eqBool_str h
  «strs» := fun k x t v h => by
    rcases keyIs_shape h with ⟨i, u, rfl, e⟩ | ⟨y, u, rfl, e⟩
    · exact nomatch e
    · injection e with e1 _
      subst e1
      cases v <;> rfl
theorem mixKind_int (prog : Program) (w : World) (i : Int) (t : Tok) : (mixKind prog w).is (.inl i) (.int i t) = true := keyIs_int i t
theorem mixKind_str (prog : Program) (w : World) (x : Str) (t : Tok) : (mixKind prog w).is (.inr x) (.str x t) = true := keyIs_str x t
end L2
namespace L2
open PySem PySem.Spec PyProof.Rows
/-- a value, without the heap -/
inductive V where
  | non | bl (b : Bool) | int (i : Int) | str (x : Str) | byt (b : Array UInt8) | flt (b : UInt64) | ref (a : Addr) | ty (n : String)
  deriving DecidableEq
def RelV : V → Value → Prop
  | .non, u => u = Value.none
  | .bl b, u => u = Value.bool b
  | .int i, u => ∃ t, u = Value.int i t
  | .str x, u => ∃ t, u = Value.str x t
  | .byt b, u => ∃ t, u = Value.bytes b t
  | .flt b, u => ∃ t, u = Value.float b t
  | .ref a, u => u = Value.ref a
  | .ty n, u => u = Value.type n
abbrev Vals : List V → List Value → Prop := Paired RelV
theorem Vals.length {xs : List V} {us : List Value} (r : Vals xs us) : xs.length = us.length := Paired.length r
theorem Vals.get : ∀ {xs : List V} {us : List Value} {i : Nat} {x : V}, Vals xs us → xs[i]? = some x → ∃ u, us[i]? = some u ∧ RelV x u
  | _, _, _, _, .nil, e => by simp at e
  | _, _, 0, _, .cons r _, e => by simp at e; subst e; exact ⟨_, rfl, r⟩
  | _, _, i + 1, x, .cons _ t, e => by
    obtain ⟨u, h1, h2⟩ := Vals.get (i := i) (x := x) t (by simpa using e)
    exact ⟨u, by simpa using h1, h2⟩
theorem Vals.set {x : V} {u : Value} (r : RelV x u) : ∀ {xs : List V} {us : List Value} (i : Nat), Vals xs us → Vals (xs.set i x) (us.set i u)
  | _, _, _, .nil => .nil
  | _, _, 0, .cons _ t => .cons r t
  | _, _, i + 1, .cons q t => .cons q (Vals.set r i t)
theorem Vals.append : ∀ {xs ys : List V} {us ws : List Value}, Vals xs us → Vals ys ws → Vals (xs ++ ys) (us ++ ws)
  | _, _, _, _, .nil, s => s
  | _, _, _, _, .cons r t, s => .cons r (Vals.append t s)
theorem Vals.take : ∀ {xs : List V} {us : List Value} (n : Nat), Vals xs us → Vals (xs.take n) (us.take n)
  | _, _, 0, _ => .nil
  | _, _, _ + 1, .nil => .nil
  | _, _, n + 1, .cons r t => .cons r (Vals.take n t)
theorem Vals.drop : ∀ {xs : List V} {us : List Value} (n : Nat), Vals xs us → Vals (xs.drop n) (us.drop n)
  | _, _, 0, r => r
  | _, _, _ + 1, .nil => .nil
  | _, _, n + 1, .cons _ t => Vals.drop n t
def RelO : Option V → Option Value → Prop
  | some v, some u => RelV v u
  | none, none => True
  | _, _ => False
def KV {κ : Type} : List (κ × V) → List (κ × Value) → Prop := Paired fun (p : κ × V) (q : κ × Value) => p.1 = q.1 ∧ RelV p.2 q.2
/-- a key of a dict (00_mix): an int or a text -/
def kV : Key → V
  | .inl i => .int i
  | .inr x => .str x
/-- what stands at a tracked address -/
inductive HO where
  /-- a list -/
  | lst (xs : List V)
  /-- a tuple (never changes) -/
  | tup (xs : List V)
  /-- a dict whose keys are ints and texts; one whose keys are tuples of ints and texts (the empty one is both) -/
  | dK (kvs : List (Key × V)) | dT (kvs : List (List Key × V))
  /-- a set of ints: its members, its size -/
  | set (S : Int → Bool) (n : Nat)
  /-- an instance of the class at C, its dict at dx, its attributes -/
  | ins (C dx : Addr) (fs : List (Str × V))
  /-- the dict of the instance at x -/
  | own (x : Addr)
  /-- the dict of an exception -/
  | xd (fs : List (Str × V))
  /-- a bound method, f of x -/
  | met (f x : Addr)
  /-- a range object lo, lo + 1, .. below hi -/
  | rng (lo hi : Int)
  /-- a thing that is known to the object (the script; a dict while a loop walks it): read, never written while it is so -/
  | frz (o : Obj) (u : HO)
  /-- a code object's table -/
  | tbl (ps : Array Value)
  /-- any other thing, by what is true of its one object (a def of one's own: SetO a S n := HO.ext fun h => ..) -/
  | ext (φ : Heap → Prop)
abbrev Hp := Addr → Option HO
def upd (H : Hp) (a : Addr) (o : HO) : Hp := fun b => if b = a then some o else H b
theorem upd_same {H : Hp} {a : Addr} {o : HO} : upd H a o a = some o := by unfold upd; rw [if_pos rfl]
theorem upd_ne {H : Hp} {a b : Addr} {o : HO} (h : b ≠ a) : upd H a o b = H b := by unfold upd; rw [if_neg h]
theorem upd_upd {H : Hp} {a : Addr} {o u : HO} : upd (upd H a o) a u = upd H a u := by
  funext b; unfold upd; split <;> rfl
/-- two objects of different content stand apart -/
theorem ne_of {H : Hp} {a b : Addr} {o u : HO} (h : H a = some o) (h' : H b = some u) (d : o ≠ u) : a ≠ b := by
  intro e; subst e; rw [h] at h'; exact d (Option.some.inj h')
theorem ne_of_none {H : Hp} {a b : Addr} {o : HO} (h : H a = some o) (h' : H b = none) : a ≠ b := by
  intro e; subst e; rw [h] at h'; cases h'
section
variable (P : Program) (w : World)
def ObjOk (H : Hp) (h : Heap) (a : Addr) : HO → Prop
  | .lst xs => xs.length ≤ sizeLine ∧ ∃ (its : List Value) (n : Nat), Vals xs its ∧ h.get? a = some { cls := .type "list", data := .seq its.toArray n }
  | .tup xs => xs.length ≤ sizeLine ∧ ∃ its : List Value, Vals xs its ∧ IsTup h a its.toArray
  | .dK kvs => kvs.length ≤ sizeLine ∧ (a == sysModules) = false ∧ ∃ vs, KV kvs vs ∧ h.DictOf (mixKind P w) a vs
  | .dT kvs => kvs.length ≤ sizeLine ∧ (a == sysModules) = false ∧ ∃ xs : List (List Key × Addr × Value),
      Paired (fun (p : List Key × V) (q : List Key × Addr × Value) => p.1 = q.1 ∧ H q.2.1 = some (.tup (p.1.map kV)) ∧ RelV p.2 q.2.2) kvs xs ∧
      ∃ o es ep, h.get? a = some o ∧ o.ExactDict ∧ o.data = .dict es ep ∧ es.toList = xs.map (entryOfKey (tupleKind (mixKind P w))) ∧ (xs.map (·.1)).Nodup
  | .set S n => h.SetOf (intKind P w) a S n
  | .ins C dx fs => H dx = some (.own a) ∧ fs.length ≤ 1000 ∧ dx ≠ a ∧ h.get? a = some (PySem.W.instObj C dx) ∧
      ∃ mA, h.Ns1 dx mA ∧ (∀ f, RelO (fs.lookup f) (mA f)) ∧ PySem.Within mA (fs.map (·.1))
  | .own _ => ∃ o, h.get? a = some o
  | .xd fs => ∃ mA, h.Ns1 a mA ∧ ∀ f, RelO (fs.lookup f) (mA f)
  | .rng lo hi => ∃ t u v, h.get? a = some { cls := .type "range", data := .fields #[.int lo t, .int hi u, .int 1 v] }
  | .frz o u => h.get? a = some o ∧ ObjOk H h a u
  | .tbl ps => h.get? a = some { cls := .none, data := .fields ps }
  | .met f x => h.get? a = some (PySem.W.methodObj (.ref f) (.ref x))
  | .ext φ => φ h ∧ (∃ o, h.get? a = some o) ∧ ∀ h1 h2 : Heap, φ h1 → (∀ o, h1.get? a = some o → h2.get? a = some o) → φ h2
/-- the abstract heap is held -/
def HOk (H : Hp) (h : Heap) : Prop := ∀ a o, H a = some o → ObjOk P w H h a o
end
section
variable {P : Program} {w : World} {H H' : Hp} {h h' : Heap} {a : Addr} {o : HO}
theorem ObjOk.lt (x : ObjOk P w H h a o) : a < h.objs.size := by
  cases o with
  | lst xs => obtain ⟨_, _, _, _, e⟩ := x; exact Heap.lt_size e
  | tup xs => obtain ⟨_, _, _, p⟩ := x; exact p.lt
  | dK kvs => obtain ⟨_, _, _, _, o, _, _, e, _⟩ := x; exact Heap.lt_size e
  | dT kvs => obtain ⟨_, _, _, _, o, _, _, e, _⟩ := x; exact Heap.lt_size e
  | set S n => obtain ⟨o, _, _, _, e, _⟩ := x; exact Heap.lt_size e
  | ins C dx fs => obtain ⟨_, _, _, e, _⟩ := x; exact Heap.lt_size e
  | own y => obtain ⟨_, e⟩ := x; exact Heap.lt_size e
  | xd fs => obtain ⟨_, ⟨_, _, _, e, _⟩, _⟩ := x; exact Heap.lt_size e
  | rng lo hi => obtain ⟨_, _, _, e⟩ := x; exact Heap.lt_size e
  | frz ob u => obtain ⟨e, _⟩ := x; exact Heap.lt_size e
  | tbl ps => exact Heap.lt_size (show h.get? a = some _ from x)
  | met f y => exact Heap.lt_size (show h.get? a = some _ from x)
  | ext φ => obtain ⟨_, ⟨_, e⟩, _⟩ := x; exact Heap.lt_size e
theorem Paired.mapP {α β : Type} {F G : α → β → Prop} : ∀ {l₁ : List α} {l₂ : List β}, Paired F l₁ l₂ → (∀ a b, F a b → G a b) → Paired G l₁ l₂
  | _, _, .nil, _ => .nil
  | _, _, .cons r t, f => .cons (f _ _ r) (Paired.mapP t f)
/-- what an object's description leans on: its own object, its own dict, the tuples -/
theorem ObjOk.stay (x : ObjOk P w H h a o) (k : ∀ b u, (b = a ∨ H b = some (.own a)) → h.get? b = some u → h'.get? b = some u)
    (ho : ∀ b, H b = some (.own a) → H' b = some (.own a)) (ht : ∀ b xs, H b = some (.tup xs) → H' b = some (.tup xs)) : ObjOk P w H' h' a o := by
  induction o with
  | lst xs => obtain ⟨z, its, n, r, e⟩ := x; exact ⟨z, its, n, r, k _ _ (.inl rfl) e⟩
  | tup xs => obtain ⟨z, its, r, ob, e, c⟩ := x; exact ⟨z, its, r, ob, k _ _ (.inl rfl) e, c⟩
  | dK kvs => obtain ⟨z, y, vs, r, ob, es, ep, e, c⟩ := x; exact ⟨z, y, vs, r, ob, es, ep, k _ _ (.inl rfl) e, c⟩
  | dT kvs =>
    obtain ⟨z, y, xs, r, ob, es, ep, e, c⟩ := x
    exact ⟨z, y, xs, Paired.mapP r fun p q z => ⟨z.1, ht _ _ z.2.1, z.2.2⟩, ob, es, ep, k _ _ (.inl rfl) e, c⟩
  | set S n => obtain ⟨ob, es, ep, t, e, c⟩ := x; exact ⟨ob, es, ep, t, k _ _ (.inl rfl) e, c⟩
  | ins C dx fs =>
    obtain ⟨d, z, ne, e, mA, ⟨od, es, ep, e2, c⟩, r⟩ := x
    exact ⟨ho _ d, z, ne, k _ _ (.inl rfl) e, mA, ⟨od, es, ep, k _ _ (.inr d) e2, c⟩, r⟩
  | own y => obtain ⟨ob, e⟩ := x; exact ⟨ob, k _ _ (.inl rfl) e⟩
  | xd fs => obtain ⟨mA, ⟨od, es, ep, e, c⟩, r⟩ := x; exact ⟨mA, ⟨od, es, ep, k _ _ (.inl rfl) e, c⟩, r⟩
  | rng lo hi => obtain ⟨t, u, v, e⟩ := x; exact ⟨t, u, v, k _ _ (.inl rfl) e⟩
  | frz ob u ih => obtain ⟨e, q⟩ := x; exact ⟨k _ _ (.inl rfl) e, ih q⟩
  | tbl ps =>
    have e : h.get? a = some { cls := .none, data := .fields ps } := x
    show h'.get? a = some { cls := .none, data := .fields ps }
    exact k a _ (.inl rfl) e
  | met f y =>
    have e : h.get? a = some (PySem.W.methodObj (.ref f) (.ref y)) := x
    show h'.get? a = some (PySem.W.methodObj (.ref f) (.ref y))
    exact k a _ (.inl rfl) e
  | ext φ => obtain ⟨p, ⟨o, e⟩, st⟩ := x; exact ⟨st _ _ p fun o q => k _ _ (.inl rfl) q, ⟨o, k _ _ (.inl rfl) e⟩, st⟩
theorem HOk.lt (x : HOk P w H h) (e : H a = some o) : a < h.objs.size := (x a o e).lt
theorem HOk.fresh (x : HOk P w H h) (e : h.objs.size ≤ a) : H a = none := by
  cases q : H a with
  | none => rfl
  | some u => exact absurd (Nat.lt_of_lt_of_le (x.lt q) e) (Nat.lt_irrefl _)
/-- every object of the heap is kept -/
theorem HOk.kept (x : HOk P w H h) (k : ∀ b u, h.get? b = some u → h'.get? b = some u) : HOk P w H h' := fun a o e =>
  (x a o e).stay (fun b u _ q => k b u q) (fun _ q => q) fun _ _ q => q
/-- a new object is laid and tracked -/
theorem HOk.laid (x : HOk P w H h) (k : ∀ b u, h.get? b = some u → h'.get? b = some u) (hp : h.objs.size ≤ a) (new : ObjOk P w (upd H a o) h' a o) : HOk P w (upd H a o) h' := fun b u e => by
  have hn := x.fresh hp
  by_cases hb : b = a
  · subst hb; rw [upd_same] at e; cases e; exact new
  · rw [upd_ne hb] at e
    exact (x b u e).stay (fun c v _ q => k c v q) (fun c q => by rw [upd_ne (ne_of_none q hn)]; exact q) fun c xs q => by rw [upd_ne (ne_of_none q hn)]; exact q
end
/-- what may be read as u: it is u, or a known u -/
def Rd (H : Hp) (a : Addr) (u : HO) : Prop := H a = some u ∨ ∃ o, H a = some (.frz o u)
theorem Rd.of {H : Hp} {a : Addr} {u : HO} (h : H a = some u) : Rd H a u := .inl h
theorem Rd.ok {P : Program} {w : World} {H : Hp} {h : Heap} {a : Addr} {u : HO} (r : Rd H a u) (x : HOk P w H h) : ObjOk P w H h a u := by
  rcases r with r | ⟨o, r⟩
  · exact x a u r
  · obtain ⟨_, q⟩ := x a _ r
    exact q
/-- what may be written -/
def Mut : Option HO → Prop
  | some (.lst _) => True
  | some (.dK _) => True
  | some (.dT _) => True
  | some (.set _ _) => True
  | some (.ins _ _ _) => True
  | some (.ext _) => True
  | _ => False
section
variable {P : Program} {w : World} {H : Hp} {h h' : Heap} {x e : Addr} {o' : HO}
/-- the object at e is changed: x itself, or the dict of the instance x -/
theorem HOk.write (ok : HOk P w H h) (mu : Mut (H x)) (he : e = x ∨ H e = some (.own x)) (k : ∀ b u, b ≠ e → h.get? b = some u → h'.get? b = some u) (heo : ∃ u, h'.get? e = some u)
    (new : ObjOk P w (upd H x o') h' x o') : HOk P w (upd H x o') h' := fun b u q => by
  have nown : ∀ c y, H c = some (.own y) → c ≠ x := fun c y r z => by subst z; rw [r] at mu; exact mu
  have ntup : ∀ c xs, H c = some (.tup xs) → c ≠ x := fun c xs r z => by subst z; rw [r] at mu; exact mu
  by_cases hb : b = x
  · subst hb; rw [upd_same] at q; cases q; exact new
  · rw [upd_ne hb] at q
    by_cases hbe : b = e
    · have q' : H b = some (.own x) := by
        rcases he with z | z
        · exact absurd (hbe.trans z) hb
        · rw [hbe]; exact z
      rw [q] at q'; cases q'
      obtain ⟨v, hv⟩ := heo
      exact ⟨v, by rw [hbe]; exact hv⟩
    · refine (ok b u q).stay (fun c v hc r => k c v ?_ r) (fun c r => by rw [upd_ne (nown c b r)]; exact r) fun c xs r => by rw [upd_ne (ntup c xs r)]; exact r
      rcases hc with rfl | hc
      · exact hbe
      · rintro rfl
        rcases he with z | z
        · exact nown c b hc z
        · rw [hc] at z; cases z; exact hb rfl
end
/-! ### kept unless tracked; of the frames at fs (the callers') the slots may change (an exception that passes writes there); of the records at ex (iterators) nothing is said -/
structure Un (fs ex : List Addr) (H H' : Hp) (h h' : Heap) : Prop where
  keep : ∀ b o, h.get? b = some o → H b = none → b ∉ fs → b ∉ ex → h'.get? b = some o
  slot : ∀ b o, h.get? b = some o → H b = none → b ∈ fs → b ∉ ex → ∃ sl, h'.get? b = some { o with slots := sl }
  free : ∀ b o, h.get? b = some o → H b = none → b ∉ ex → H' b = none
  there : ∀ b o, h.get? b = some o → b ∉ ex → ∃ o', h'.get? b = some o'
  tups : ∀ b xs, H b = some (.tup xs) → H' b = some (.tup xs)
  frzs : ∀ b o u, H b = some (.frz o u) → H' b = some (.frz o u)
  tbls : ∀ b ps, H b = some (.tbl ps) → ∃ more, H' b = some (.tbl (ps ++ more))
section
variable {fs fs' ex ex' : List Addr} {H H1 H2 : Hp} {h h1 h2 h' : Heap} {a x e : Addr} {o : HO}
theorem Un.any (u : Un fs ex H H1 h h1) {b : Addr} {ob : Obj} (q : h.get? b = some ob) (n : H b = none) (hx : b ∉ ex) : ∃ sl, h1.get? b = some { ob with slots := sl } := by
  by_cases hb : b ∈ fs
  · exact u.slot b ob q n hb hx
  · exact ⟨ob.slots, u.keep b ob q n hb hx⟩
theorem Un.kept (k : ∀ b u, h.get? b = some u → h'.get? b = some u) : Un fs ex H H h h' :=
  ⟨fun b ob q _ _ _ => k b ob q, fun b ob q _ _ _ => ⟨ob.slots, k b ob q⟩, fun _ _ _ n _ => n, fun b ob q _ => ⟨ob, k b ob q⟩, fun _ _ q => q, fun _ _ _ q => q, fun _ ps q => ⟨#[], by rw [q]; simp⟩⟩
theorem Un.refl : Un fs ex H H h h := Un.kept fun _ _ q => q
theorem Un.laid (k : ∀ b u, h.get? b = some u → h'.get? b = some u) (hp : h.objs.size ≤ a) (hn : H a = none) : Un fs ex H (upd H a o) h h' where
  keep := fun b u q _ _ _ => k b u q
  slot := fun b u q _ _ _ => ⟨u.slots, k b u q⟩
  free := fun b u q n _ => by rw [upd_ne (Nat.ne_of_lt (Nat.lt_of_lt_of_le (Heap.lt_size q) hp))]; exact n
  there := fun b u q _ => ⟨u, k b u q⟩
  tups := fun b xs q => by rw [upd_ne (ne_of_none q hn)]; exact q
  frzs := fun b u xs q => by rw [upd_ne (ne_of_none q hn)]; exact q
  tbls := fun b ps q => ⟨#[], by rw [upd_ne (ne_of_none q hn), q]; simp⟩
theorem Un.write (mu : Mut (H x)) (he : e = x ∨ H e = some (.own x)) (k : ∀ b u, b ≠ e → h.get? b = some u → h'.get? b = some u) (heo : ∃ u, h'.get? e = some u) : Un fs ex H (upd H x o) h h' := by
  have hx : ∀ b, H b = none → b ≠ x := fun b n z => by subst z; rw [n] at mu; exact mu
  have hb : ∀ b, H b = none → b ≠ e := fun b n z => by
    subst z
    rcases he with r | r
    · exact hx b n r
    · rw [n] at r; cases r
  have hm : ∀ b u, H b = some u → ¬ Mut (some u) → b ≠ x := fun b u q nm z => by subst z; rw [q] at mu; exact nm mu
  refine ⟨fun b u q n _ _ => k b u (hb b n) q, fun b u q n _ _ => ⟨u.slots, k b u (hb b n) q⟩, fun b u q n _ => by rw [upd_ne (hx b n)]; exact n, fun b u q _ => ?_,
    fun b xs q => by rw [upd_ne (hm b _ q fun z => z)]; exact q, fun b u xs q => by rw [upd_ne (hm b _ q fun z => z)]; exact q, fun b ps q => ⟨#[], by rw [upd_ne (hm b _ q fun z => z), q]; simp⟩⟩
  by_cases hbe : b = e
  · subst hbe; exact heo
  · exact ⟨u, k b u hbe q⟩
end
/-! ### the heap without what is tracked -/
def trk (h : Heap) (H : Hp) : List Addr := (List.range h.objs.size).filter fun a => (H a).isSome
def hidT (h : Heap) (H : Hp) : Heap := PySem.W.hideAll h (trk h H)
theorem hidT_size (h : Heap) (H : Hp) : (hidT h H).objs.size = h.objs.size := PySem.W.hideAll_size _ _
theorem hidT_get {h : Heap} {H : Hp} {b : Addr} {o : Obj} (e : h.get? b = some o) (n : H b = none) : (hidT h H).get? b = some o :=
  PySem.W.hideAll_get _ e fun hm => by
    have q : (H b).isSome = true := (List.mem_filter.mp hm).2
    rw [n] at q; simp at q
theorem of_hidT {h : Heap} {H : Hp} {b : Addr} {o : Obj} (e : (hidT h H).get? b = some o) : h.get? b = some o ∧ H b = none := by
  have e' : h.get? b = some o := PySem.W.of_hideAll (trk h H) e
  refine ⟨e', ?_⟩
  cases q : H b with
  | none => rfl
  | some x =>
    have hm : b ∈ trk h H := List.mem_filter.mpr ⟨List.mem_range.mpr (Heap.lt_size e'), by simp [q]⟩
    have z : (hidT h H).get? b = none := PySem.W.hideAll_none (trk h H) hm
    rw [z] at e; cases e
/-! ### OpenK's ledger, filled with every new object but one -/
def allNews (g h : Heap) (L : Addr) : List (Addr × Obj) := (List.range h.objs.size).filterMap fun a => if a = L ∨ (g.get? a).isSome = true then none else (h.get? a).map fun o => (a, o)
def rest (g h : Heap) (L d : Addr) : List (Addr × Obj) := (allNews g h L).filter fun p => decide (p.1 ≠ d)
end L2
namespace L2
open PySem PySem.Spec PyProof.Rows
/-- the module's facts, over the base: the heap at the law's entry without what is tracked there -/
structure Mod (K : PySem.W.Frag) (mg : Str → Option Value) (base : Heap) : Prop where
  kin : K.In base
  glob : base.Ns mainGlobals mg
  blt : ∃ mb, base.Ns builtinsNs mb ∧ ∀ x : Str, x ≠ "__name__" → mb x = bootBuiltins x
  nolimit : base.NoLimit
/-- the context: a def's body (or a comprehension's block) running. base: fixed through the whole law; s₀, H₀: the entry; outer: the frames whose slots others may change (a def's callers); stack: all frames that run;
   ex: iterators that were made ahead of the entry and are walked here (a comprehension's); fn: the names whose cells were made at the entry (a def: all; a comprehension's block: its own); calm: not within an except suite; pn: pins that every state bears; xe: what is wanted of an exception that leaves the code -/
structure Cx where
  prog : Program
  w : World
  K : PySem.W.Frag
  mg : Str → Option Value
  base : Heap
  A : Around
  N : List Str
  s₀ : Shared
  H₀ : Hp
  env : Env
  outer : List Env
  stack : List Env
  ex : List Addr
  fn : Str → Bool
  calm : Bool
  pn : List (Addr × Obj)
  xe : Value → Shared → Prop
/-- the callers' frames -/
def frs (l : List Env) : List Addr := l.filterMap (·.frame)
abbrev Cx.fs (X : Cx) : List Addr := frs X.outer
def Vis (sc : Scope) (x : Str) : Prop := sc.names.lookup x = some .local ∨ sc.names.lookup x = some .cell ∨ sc.names.lookup x = some .free
def Loc (sc : Scope) (x : Str) : Prop := sc.names.lookup x = some .local ∨ sc.names.lookup x = some .cell
def Look (env : Env) (h : Heap) (m : Str → Option Value) (x : Str) (u : Value) : Prop :=
  (env.kindOf x = some .local ∧ m x = some u) ∨ ((env.kindOf x = some .cell ∨ env.kindOf x = some .free) ∧ ∃ c, env.cells.lookup x = some c ∧ h.IsCell c (some u))
structure Cx.Ok (X : Cx) : Prop where
  mod : Mod X.K X.mg X.base
  kind : X.env.scope.kind = .function
  glob : X.env.globals = mainGlobals
  blt : X.env.builtins = builtinsNs
  above : X.s₀.heap.objs.size ≤ X.env.locals
  inj : ∀ x y c, X.env.cells.lookup x = some c → X.env.cells.lookup y = some c → x = y
  has : ∀ x, (X.env.kindOf x = some .cell ∨ X.env.kindOf x = some .free) → ∃ c, X.env.cells.lookup x = some c
  cab : ∀ x c, X.fn x = true → X.env.cells.lookup x = some c → X.s₀.heap.objs.size ≤ c
  hd : X.calm = true → X.A.handled = none
  frames : X.A.frames = some X.stack
  stk : X.stack = X.outer ∨ (X.stack = X.env :: X.outer ∧ X.env.frame = some X.env.locals)
  exf : ∀ b ∈ X.ex, b ≠ X.env.locals ∧ ∀ x c, X.env.cells.lookup x = some c → c ≠ b
  bs : ∀ b o, X.base.get? b = some o → X.s₀.heap.get? b = some o ∧ X.H₀ b = none
  bsz : X.base.objs.size ≤ X.s₀.heap.objs.size
  noex : ∀ b o, X.base.get? b = some o → b ∉ X.ex
  exfs : ∀ b ∈ X.ex, b ∉ X.fs
  funs : X.s₀.heap.FunFrames X.base X.outer
  frf : ∀ b ∈ X.fs, X.H₀ b = none
structure Inv (X : Cx) (pins : List (Addr × Obj)) (σ : List (Option V)) (H : Hp) (s : Shared) : Prop where
  ok : X.Ok
  os : s.os = X.s₀.os
  bare : AllBare s.gens
  base : Un X.fs X.ex X.H₀ H X.s₀.heap s.heap
  loc : ∃ m, s.heap.Ns X.env.locals m ∧ ∀ (i : Nat) (x : Str) (v : V), X.N[i]? = some x → σ[i]? = some (some v) → Vis X.env.scope x → ∃ u, RelV v u ∧ Look X.env s.heap m x u
  cell : ∀ x c, X.env.cells.lookup x = some c → ∃ v, s.heap.IsCell c v
  free : H X.env.locals = none
  freeC : ∀ x c, X.env.cells.lookup x = some c → H c = none
  pin : ∀ p ∈ X.pn ++ pins, s.heap.get? p.1 = some p.2 ∧ H p.1 = none ∧ p.1 ≠ X.env.locals ∧ p.1 ∉ X.fs ∧ ∀ v, p.2.data ≠ .cell v
  hok : HOk X.prog X.w H s.heap
  len : σ.length = X.N.length
section
variable {X : Cx} {pins : List (Addr × Obj)} {σ : List (Option V)} {H H' : Hp} {s : Shared} {h' : Heap}
theorem Cx.Ok.nofr (ok : X.Ok) {b : Addr} {o : Obj} (e : X.base.get? b = some o) : b ∉ X.fs := fun hb => by
  have := (ok.funs.mem hb).1
  rw [e] at this; cases this
theorem Inv.bs (I : Inv X pins σ H s) : ∀ b o, X.base.get? b = some o → s.heap.get? b = some o ∧ H b = none := fun b o e =>
  ⟨I.base.keep b o (I.ok.bs b o e).1 (I.ok.bs b o e).2 (I.ok.nofr e) (I.ok.noex b o e), I.base.free b o (I.ok.bs b o e).1 (I.ok.bs b o e).2 (I.ok.noex b o e)⟩
theorem Inv.bk (I : Inv X pins σ H s) : ∀ b o, X.base.get? b = some o → s.heap.get? b = some o := fun b o e => (I.bs b o e).1
theorem Inv.mod (I : Inv X pins σ H s) : Mod X.K X.mg X.base := I.ok.mod
theorem Inv.kIn (I : Inv X pins σ H s) : X.K.In s.heap := I.ok.mod.kin.keeps I.bk
theorem Inv.lt (I : Inv X pins σ H s) : X.env.locals < s.heap.objs.size := let ⟨_, hn, _⟩ := I.loc; hn.lt
theorem Inv.sz (I : Inv X pins σ H s) : X.s₀.heap.objs.size ≤ s.heap.objs.size := Nat.le_trans I.ok.above (Nat.le_of_lt I.lt)
theorem Inv.nofs (I : Inv X pins σ H s) {a : Addr} (h : s.heap.objs.size ≤ a) : a ∉ X.fs := fun hb => by
  obtain ⟨_, o, ho, _⟩ := I.ok.funs.mem hb
  exact absurd (Nat.lt_of_lt_of_le (Heap.lt_size ho) (Nat.le_trans I.sz h)) (Nat.lt_irrefl _)
theorem Inv.cne (I : Inv X pins σ H s) : ∀ x c, X.env.cells.lookup x = some c → c ≠ X.env.locals := fun x c e z => by
  obtain ⟨v, o, ho, hd⟩ := I.cell x c e
  obtain ⟨m, ⟨o', es, ep, ho', hd', _⟩, _⟩ := I.loc
  rw [z, ho'] at ho; cases ho; rw [hd'] at hd; cases hd
theorem Inv.funs (I : Inv X pins σ H s) : s.heap.FunFrames X.base X.outer := by
  have all : ∀ (l : List Env), (∀ b ∈ frs l, b ∈ X.fs) → X.s₀.heap.FunFrames X.base l → s.heap.FunFrames X.base l := by
    intro l
    induction l with
    | nil => intro _ _; trivial
    | cons env r ih =>
      intro hs hl
      obtain ⟨hk, ⟨L, o, hf, hn, ho, hd⟩, hr⟩ := hl
      have hL : L ∈ X.fs := hs L (by unfold frs; rw [List.filterMap_cons, hf]; exact List.mem_cons_self)
      obtain ⟨sl, e⟩ := I.base.slot L o ho (I.ok.frf L hL) hL fun z => I.ok.exfs L z hL
      exact ⟨hk, ⟨L, _, hf, hn, e, hd⟩, ih (fun b hb => hs b (by unfold frs; rw [List.filterMap_cons, hf]; exact List.mem_cons_of_mem _ hb)) hr⟩
  exact all X.outer (fun _ hb => hb) I.ok.funs
/-- the frames that run, for a call -/
theorem Inv.stack (I : Inv X pins σ H s) : s.heap.FunFrames X.base X.stack := by
  rcases I.ok.stk with e | ⟨e, hf⟩
  · rw [e]; exact I.funs
  · rw [e]
    obtain ⟨m, hn, _⟩ := I.loc
    refine .cons (by rw [I.ok.kind]; decide) hf hn ?_ I.funs
    exact Heap.get?_none_of_le (Nat.le_trans I.ok.bsz I.ok.above)
theorem Inv.stkSub (I : Inv X pins σ H s) : ∀ b ∈ frs X.stack, b ∈ X.env.locals :: X.fs := fun b hb => by
  rcases I.ok.stk with e | ⟨e, hf⟩
  · rw [e] at hb; exact List.mem_cons_of_mem _ hb
  · rw [e] at hb
    unfold frs at hb
    rw [List.filterMap_cons, hf] at hb
    exact hb
theorem Inv.stkFree (I : Inv X pins σ H s) : ∀ b ∈ frs X.stack, H b = none := fun b hb => by
  rcases List.mem_cons.mp (I.stkSub b hb) with e | hb
  · rw [e]; exact I.free
  · obtain ⟨_, o, ho, _⟩ := I.ok.funs.mem hb
    exact I.base.free b o ho (I.ok.frf b hb) fun z => I.ok.exfs b z hb
/-- THE STEP: the untracked objects but the frame and the records at ch are kept (the callers' frames up to slots), the frame's map is kept, the new abstract heap is held -/
theorem Inv.step {g' : Array GenState} {t' : Nat} {d' : Drawn} {ch : List Addr} (I : Inv X pins σ H s)
    (hch : ∀ b ∈ ch, (b ∈ X.ex ∨ X.s₀.heap.objs.size ≤ b) ∧ b ≠ X.env.locals ∧ (∀ x c, X.env.cells.lookup x = some c → c ≠ b) ∧ ∀ p ∈ X.pn ++ pins, p.1 ≠ b)
    (keep : ∀ b o, b ≠ X.env.locals → b ∉ X.fs → b ∉ ch → s.heap.get? b = some o → H b = none → h'.get? b = some o)
    (slot : ∀ b o, b ≠ X.env.locals → b ∈ X.fs → b ∉ ch → s.heap.get? b = some o → H b = none → ∃ sl, h'.get? b = some { o with slots := sl }) (free : ∀ b o, b ∉ ch → s.heap.get? b = some o → H b = none → H' b = none)
    (there : ∀ b o, b ∉ ch → s.heap.get? b = some o → ∃ o', h'.get? b = some o')
    (tups : ∀ b xs, H b = some (.tup xs) → H' b = some (.tup xs)) (frzs : ∀ b o u, H b = some (.frz o u) → H' b = some (.frz o u)) (tbls : ∀ b ps, H b = some (.tbl ps) → ∃ more, H' b = some (.tbl (ps ++ more)))
    (ns : ∀ m, s.heap.Ns X.env.locals m → h'.Ns X.env.locals m) (hok : HOk X.prog X.w H' h') (hg : AllBare g') :
    Inv X pins σ H' { s with heap := h', gens := g', drawn := d', toks := t' } := by
  have neL : ∀ b o, X.s₀.heap.get? b = some o → b ≠ X.env.locals := fun b o e => Nat.ne_of_lt (Nat.lt_of_lt_of_le (Heap.lt_size e) I.ok.above)
  have neC : ∀ b o, X.s₀.heap.get? b = some o → b ∉ X.ex → b ∉ ch := fun b o e hx hb => by
    rcases (hch b hb).1 with z | z
    · exact hx z
    · exact absurd (Nat.lt_of_lt_of_le (Heap.lt_size e) z) (Nat.lt_irrefl _)
  have cellK : ∀ x c, X.env.cells.lookup x = some c → ∀ v, s.heap.IsCell c v → h'.IsCell c v := fun x c e v ⟨o, ho, hd⟩ => by
    have nch : c ∉ ch := fun z => (hch c z).2.2.1 x c e rfl
    by_cases hc : c ∈ X.fs
    · obtain ⟨sl, q⟩ := slot c o (I.cne x c e) hc nch ho (I.freeC x c e)
      exact ⟨_, q, hd⟩
    · exact ⟨o, keep c o (I.cne x c e) hc nch ho (I.freeC x c e), hd⟩
  refine ⟨I.ok, I.os, hg, ⟨fun b o e n hb hx => ?_, fun b o e n hb hx => ?_, fun b o e n hx => ?_, fun b o e hx => ?_, fun b xs e => tups b xs (I.base.tups b xs e), fun b o xs e => frzs b o xs (I.base.frzs b o xs e), fun b ps e => ?_⟩, ?_, fun x c e => ?_, ?_, fun x c e => ?_, fun p hp => ?_, hok, I.len⟩
  · exact keep b o (neL b o e) hb (neC b o e hx) (I.base.keep b o e n hb hx) (I.base.free b o e n hx)
  · obtain ⟨sl, e1⟩ := I.base.slot b o e n hb hx
    obtain ⟨sl', e2⟩ := slot b _ (neL b o e) hb (neC b o e hx) e1 (I.base.free b o e n hx)
    exact ⟨sl', e2⟩
  · obtain ⟨o', e1⟩ := I.base.there b o e hx
    exact free b o' (neC b o e hx) e1 (I.base.free b o e n hx)
  · obtain ⟨o', e1⟩ := I.base.there b o e hx
    exact there b o' (neC b o e hx) e1
  · obtain ⟨m1, e1⟩ := I.base.tbls b ps e
    obtain ⟨m2, e2⟩ := tbls b _ e1
    exact ⟨m1 ++ m2, by rw [e2, Array.append_assoc]⟩
  · obtain ⟨m, hn, hl⟩ := I.loc
    refine ⟨m, ns m hn, fun i x v e1 e2 e3 => ?_⟩
    obtain ⟨u, r, l⟩ := hl i x v e1 e2 e3
    refine ⟨u, r, ?_⟩
    rcases l with l | ⟨k, c, e, z⟩
    · exact .inl l
    · exact .inr ⟨k, c, e, cellK x c e _ z⟩
  · obtain ⟨v, z⟩ := I.cell x c e
    exact ⟨v, cellK x c e v z⟩
  · obtain ⟨m, ⟨o, _, _, ho, _⟩, _⟩ := I.loc
    exact free _ o (fun z => (hch _ z).2.1 rfl) ho I.free
  · obtain ⟨v, o, ho, hd⟩ := I.cell x c e
    exact free c o (fun z => (hch c z).2.2.1 x c e rfl) ho (I.freeC x c e)
  · obtain ⟨e, n, ne, nf, d⟩ := I.pin p hp
    have nch : p.1 ∉ ch := fun z => (hch p.1 z).2.2.2 p hp rfl
    exact ⟨keep p.1 p.2 ne nf nch e n, free p.1 p.2 nch e n, ne, nf, d⟩
/-- .. where the frame's own object is kept too -/
theorem Inv.un {t' : Nat} (I : Inv X pins σ H s) (u : Un X.fs [] H H' s.heap h') (hok : HOk X.prog X.w H' h') : Inv X pins σ H' { s with heap := h', toks := t' } := by
  obtain ⟨m, ⟨o, es, ep, ho, r⟩, _⟩ := id I.loc
  obtain ⟨sl, hL⟩ := u.any ho I.free (by simp)
  exact I.step (g' := s.gens) (d' := s.drawn) (ch := []) (fun _ z => nomatch z) (fun b o _ hb _ e n => u.keep b o e n hb (by simp)) (fun b o _ hb _ e n => u.slot b o e n hb (by simp)) (fun b o _ e n => u.free b o e n (by simp)) (fun b o _ e => u.there b o e (by simp)) u.tups u.frzs u.tbls (fun m' hm => by
    obtain ⟨o', es', ep', ho', r'⟩ := hm
    rw [ho] at ho'; cases ho'
    exact ⟨_, es', ep', hL, r'⟩) hok I.bare
/-- behind a call (or a comprehension's block): the slots of this frame may have changed too, the records at ch may have turned -/
theorem Inv.call {g' : Array GenState} {t' : Nat} {d' : Drawn} {ch : List Addr} (I : Inv X pins σ H s) (u : Un (frs X.stack) ch H H' s.heap h') (hok : HOk X.prog X.w H' h') (hg : AllBare g')
    (hch : ∀ b ∈ ch, (b ∈ X.ex ∨ X.s₀.heap.objs.size ≤ b) ∧ b ≠ X.env.locals ∧ (∀ x c, X.env.cells.lookup x = some c → c ≠ b) ∧ ∀ p ∈ X.pn ++ pins, p.1 ≠ b) :
    Inv X pins σ H' { s with heap := h', gens := g', drawn := d', toks := t' } := by
  obtain ⟨m, ⟨o, es, ep, ho, r⟩, _⟩ := id I.loc
  obtain ⟨sl, hL⟩ := u.any ho I.free fun z => (hch _ z).2.1 rfl
  exact I.step (ch := ch) hch (fun b o hL hb hc e n => u.keep b o e n (fun z => (List.mem_cons.mp (I.stkSub b z)).elim hL hb) hc) (fun b o _ _ hc e n => u.any e n hc) (fun b o hc e n => u.free b o e n hc) (fun b o hc e => u.there b o e hc) u.tups u.frzs u.tbls (fun m' hm => by
    obtain ⟨o', es', ep', ho', r'⟩ := hm
    rw [ho] at ho'; cases ho'
    exact ⟨_, es', ep', hL, r'⟩) hok hg
/-- an untracked record of ours (an iterator) has turned -/
theorem Inv.turned {t' : Nat} {it : Addr} (I : Inv X pins σ H s) (k : ∀ b o, b ≠ it → s.heap.get? b = some o → h'.get? b = some o) (hn : H it = none) (hL : it ≠ X.env.locals)
    (h1 : it ∈ X.ex ∨ X.s₀.heap.objs.size ≤ it) (h2 : ∀ x c, X.env.cells.lookup x = some c → c ≠ it) (h3 : ∀ p ∈ X.pn ++ pins, p.1 ≠ it) : Inv X pins σ H { s with heap := h', toks := t' } := by
  have nit : ∀ b u, H b = some u → b ≠ it := fun b u e z => by rw [z, hn] at e; cases e
  refine I.step (g' := s.gens) (d' := s.drawn) (ch := [it]) (fun b hb => ?_) (fun b o _ _ hc e _ => k b o (fun z => hc (by simp [z])) e) (fun b o _ _ hc e _ => ⟨o.slots, k b o (fun z => hc (by simp [z])) e⟩) (fun _ _ _ _ n => n)
    (fun b o hc e => ⟨o, k b o (fun z => hc (by simp [z])) e⟩) (fun _ _ e => e) (fun _ _ _ e => e) (fun b ps e => ⟨#[], by rw [e]; simp⟩) (fun m hm => ?_) (fun b u e => ?_) I.bare
  · have e : b = it := by simpa using hb
    subst e
    exact ⟨h1, hL, h2, h3⟩
  · obtain ⟨o, es, ep, ho, r⟩ := hm
    exact ⟨o, es, ep, k _ o (Ne.symm hL) ho, r⟩
  · refine (I.hok b u e).stay (fun c v hc q => k c v ?_ q) (fun _ q => q) fun _ _ q => q
    rcases hc with z | z
    · rw [z]; exact nit b u e
    · exact nit c _ z
theorem Inv.tok (I : Inv X pins σ H s) (t : Nat) : Inv X pins σ H { s with toks := t } := I.un (h' := s.heap) (t' := t) Un.refl I.hok
/-- all objects kept -/
theorem Inv.kept {t' : Nat} (I : Inv X pins σ H s) (k : ∀ b u, s.heap.get? b = some u → h'.get? b = some u) : Inv X pins σ H { s with heap := h', toks := t' } := I.un (Un.kept k) (I.hok.kept k)
/-- a new object laid and tracked -/
theorem Inv.laid {a : Addr} {o : HO} {t' : Nat} (I : Inv X pins σ H s) (k : ∀ b u, s.heap.get? b = some u → h'.get? b = some u) (hp : s.heap.objs.size ≤ a) (new : ObjOk X.prog X.w (upd H a o) h' a o) :
    Inv X pins σ (upd H a o) { s with heap := h', toks := t' } := I.un (Un.laid k hp (I.hok.fresh hp)) (I.hok.laid k hp new)
/-- an object written -/
theorem Inv.write {x e : Addr} {o : HO} {t' : Nat} (I : Inv X pins σ H s) (mu : Mut (H x)) (he : e = x ∨ H e = some (.own x)) (k : ∀ b u, b ≠ e → s.heap.get? b = some u → h'.get? b = some u) (heo : ∃ u, h'.get? e = some u)
    (new : ObjOk X.prog X.w (upd H x o) h' x o) : Inv X pins σ (upd H x o) { s with heap := h', toks := t' } := I.un (Un.write mu he k heo) (I.hok.write mu he k heo new)
theorem Inv.pins_of {pins' : List (Addr × Obj)} (I : Inv X pins σ H s) (h : ∀ p ∈ pins', s.heap.get? p.1 = some p.2 ∧ H p.1 = none ∧ p.1 ≠ X.env.locals ∧ p.1 ∉ X.fs ∧ ∀ v, p.2.data ≠ .cell v) : Inv X pins' σ H s :=
  ⟨I.ok, I.os, I.bare, I.base, I.loc, I.cell, I.free, I.freeC, fun p hp => (List.mem_append.mp hp).elim (fun z => I.pin p (List.mem_append_left _ z)) (h p), I.hok, I.len⟩
theorem nodup_ix {N : List Str} (hN : N.Nodup) {i j : Nat} {x : Str} (a : N[i]? = some x) (b : N[j]? = some x) : i = j := by
  obtain ⟨h1, e1⟩ := List.getElem?_eq_some_iff.mp a
  obtain ⟨h2, e2⟩ := List.getElem?_eq_some_iff.mp b
  exact (List.getElem_inj hN).mp (e1.trans e2.symm)
/-- a name is stored; what changed -/
theorem store_ok2 {M : Model} {A : Around} {E : Value → Shared → Prop} {i : Nat} {x : Str} {v : V} {u : Value} {Q : Unit → Shared → Prop} (I : Inv X pins σ H s) (hN : X.N.Nodup) (hi : X.N[i]? = some x) (hx : Loc X.env.scope x) (r : RelV v u)
    (h : ∀ s', Inv X pins (σ.set i (some v)) H s' → (∃ a, Heap.SameBut a s.heap s'.heap ∧ (a = X.env.locals ∨ X.env.cells.lookup x = some a)) → Q () s') (hf : X.fn x = true ∨ X.env.scope.names.lookup x = some .local := by first | exact .inl rfl | exact .inr rfl | assumption) : wpAny M A (storeName X.env x u) Q E s := by
  obtain ⟨m, hn, hl⟩ := id I.loc
  have hcls : (X.env.scope.kind == .class || (X.env.scope.kind == .module && X.env.locals != X.env.globals)) = false := by rw [I.ok.kind]; rfl
  have hiσ : i < σ.length := by rw [I.len]; exact (List.getElem?_eq_some_iff.mp hi).1
  have cne := I.cne
  have tracked : ∀ {a : Addr} {h' : Heap}, (∃ o, s.heap.get? a = some o ∧ H a = none) → Heap.SameBut a s.heap h' → HOk X.prog X.w H h' := fun {a h'} ha hs b ob e => by
    obtain ⟨_, _, hfree⟩ := ha
    refine (I.hok b ob e).stay (fun c w' hc q => (hs.2 c ?_).trans q) (fun _ q => q) fun _ _ q => q
    rintro rfl
    rcases hc with rfl | hc
    · rw [hfree] at e; cases e
    · rw [hfree] at hc; cases hc
  rcases hx with hk | hk
  · refine wpAny_storeName_local hk hn (fun h' hn' hs => ?_) hcls
    obtain ⟨oL, _, _, hoL, _⟩ := id hn
    refine h _ ⟨I.ok, I.os, I.bare, ⟨fun b o e n hb hx => ?_, fun b o e n hb hx => ?_, I.base.free, fun b o e hx => ?_, I.base.tups, I.base.frzs, I.base.tbls⟩, ⟨_, hn', fun j y v' e1 e2 e3 => ?_⟩, fun y c e => ?_, I.free, I.freeC, fun p hp => ?_, tracked ⟨oL, hoL, I.free⟩ hs, by simpa using I.len⟩ ⟨_, hs, .inl rfl⟩
    · exact (hs.2 b (Nat.ne_of_lt (Nat.lt_of_lt_of_le (Heap.lt_size e) I.ok.above))).trans (I.base.keep b o e n hb hx)
    · obtain ⟨sl, e1⟩ := I.base.slot b o e n hb hx
      exact ⟨sl, (hs.2 b (Nat.ne_of_lt (Nat.lt_of_lt_of_le (Heap.lt_size e) I.ok.above))).trans e1⟩
    · obtain ⟨o', e1⟩ := I.base.there b o e hx
      exact ⟨o', (hs.2 b (Nat.ne_of_lt (Nat.lt_of_lt_of_le (Heap.lt_size e) I.ok.above))).trans e1⟩
    · by_cases hj : j = i
      · subst hj
        rw [hi] at e1; cases e1
        rw [List.getElem?_set_self hiσ] at e2
        cases e2
        exact ⟨u, r, .inl ⟨hk, by simp⟩⟩
      · rw [List.getElem?_set_ne (Ne.symm hj)] at e2
        obtain ⟨u', r', q⟩ := hl j y v' e1 e2 e3
        refine ⟨u', r', ?_⟩
        rcases q with ⟨k, e⟩ | ⟨k, c, e, z⟩
        · refine .inl ⟨k, ?_⟩
          have : y ≠ x := fun e => hj (nodup_ix hN e1 (e ▸ hi))
          simp [this, e]
        · exact .inr ⟨k, c, e, z.sameBut hs (cne y c e)⟩
    · obtain ⟨w', z⟩ := I.cell y c e
      exact ⟨w', z.sameBut hs (cne y c e)⟩
    · obtain ⟨e, n, ne, nf, d⟩ := I.pin p hp
      exact ⟨(hs.2 p.1 ne).trans e, n, ne, nf, d⟩
  · have hfn : X.fn x = true := by
      rcases hf with z | z
      · exact z
      · rw [z] at hk; cases hk
    obtain ⟨c, hc⟩ := I.ok.has x (.inl hk)
    obtain ⟨w', z⟩ := I.cell x c hc
    refine wpAny_storeName_cell I.ok.kind hk hc z (fun h' hc' hs => ?_)
    obtain ⟨oc, hoc, hocd⟩ := id z
    refine h { s with heap := h' } ⟨I.ok, I.os, I.bare, ⟨fun b o e n hb hx => ?_, fun b o e n hb hx => ?_, I.base.free, fun b o e hx => ?_, I.base.tups, I.base.frzs, I.base.tbls⟩, ⟨m, hn.sameBut hs (Ne.symm (cne x c hc)), fun j y v' e1 e2 e3 => ?_⟩, fun y c' e => ?_, I.free, I.freeC, fun p hp => ?_, tracked ⟨oc, hoc, I.freeC x c hc⟩ hs, by simpa using I.len⟩ ⟨c, hs, .inr hc⟩
    · exact (hs.2 b (Nat.ne_of_lt (Nat.lt_of_lt_of_le (Heap.lt_size e) (I.ok.cab x c hfn hc)))).trans (I.base.keep b o e n hb hx)
    · obtain ⟨sl, e1⟩ := I.base.slot b o e n hb hx
      exact ⟨sl, (hs.2 b (Nat.ne_of_lt (Nat.lt_of_lt_of_le (Heap.lt_size e) (I.ok.cab x c hfn hc)))).trans e1⟩
    · obtain ⟨o', e1⟩ := I.base.there b o e hx
      exact ⟨o', (hs.2 b (Nat.ne_of_lt (Nat.lt_of_lt_of_le (Heap.lt_size e) (I.ok.cab x c hfn hc)))).trans e1⟩
    · by_cases hj : j = i
      · subst hj
        rw [hi] at e1; cases e1
        rw [List.getElem?_set_self hiσ] at e2
        cases e2
        exact ⟨u, r, .inr ⟨.inl hk, c, hc, hc'⟩⟩
      · rw [List.getElem?_set_ne (Ne.symm hj)] at e2
        obtain ⟨u', r', q⟩ := hl j y v' e1 e2 e3
        refine ⟨u', r', ?_⟩
        rcases q with q | ⟨k, c', e, z'⟩
        · exact .inl q
        · refine .inr ⟨k, c', e, z'.sameBut hs ?_⟩
          rintro rfl
          exact hj (nodup_ix hN e1 (I.ok.inj _ _ _ e hc ▸ hi))
    · by_cases hcc : c' = c
      · subst hcc; exact ⟨_, hc'⟩
      · obtain ⟨w2, z2⟩ := I.cell y c' e
        exact ⟨w2, z2.sameBut hs hcc⟩
    · obtain ⟨e, n, ne, nf, d⟩ := I.pin p hp
      refine ⟨(hs.2 p.1 ?_).trans e, n, ne, nf, d⟩
      intro q
      rw [q, hoc] at e
      have q' : oc = p.2 := Option.some.inj e
      exact d w' (by rw [← q']; exact hocd)
theorem store_ok {M : Model} {A : Around} {E : Value → Shared → Prop} {i : Nat} {x : Str} {v : V} {u : Value} {Q : Unit → Shared → Prop} (I : Inv X pins σ H s) (hN : X.N.Nodup) (hi : X.N[i]? = some x) (hx : Loc X.env.scope x) (r : RelV v u)
    (h : ∀ s', Inv X pins (σ.set i (some v)) H s' → Q () s') (hf : X.fn x = true ∨ X.env.scope.names.lookup x = some .local := by first | exact .inl rfl | exact .inr rfl | assumption) : wpAny M A (storeName X.env x u) Q E s :=
  store_ok2 I hN hi hx r (fun s' I' _ => h s' I') hf
/-- behind a call or a block, the state as it is -/
theorem Inv.call' {s' : Shared} {ch : List Addr} (I : Inv X pins σ H s) (ho : s'.os = s.os) (u : Un (frs X.stack) ch H H' s.heap s'.heap) (hok : HOk X.prog X.w H' s'.heap) (hg : AllBare s'.gens)
    (hch : ∀ b ∈ ch, (b ∈ X.ex ∨ X.s₀.heap.objs.size ≤ b) ∧ b ≠ X.env.locals ∧ (∀ x c, X.env.cells.lookup x = some c → c ≠ b) ∧ ∀ p ∈ X.pn ++ pins, p.1 ≠ b) : Inv X pins σ H' s' := by
  obtain ⟨h', g', d', t', o'⟩ := s'
  have e : o' = s.os := ho
  subst e
  exact I.call (g' := g') (t' := t') (d' := d') u hok hg hch
end
/-! ### the judgements -/
/-- an exception: its class, its own dict's address (where it has one), the abstract heap behind it -/
abbrev XK := Value → Option Addr → Hp → Prop
abbrev St := List (Option V)
abbrev VK := V → Hp → Prop
/-- an expression's reading; a test's; an argument list's -/
abbrev TE := St → Hp → VK → Prop
abbrev TT := St → Hp → (Bool → Hp → Prop) → Prop
abbrev TA := St → Hp → (List V → Hp → Prop) → Prop
/-- what is wanted behind a statement -/
structure Ends where
  nx : St → Hp → Prop
  rt : VK
  bk : St → Hp → Prop := fun _ _ => False
  ct : St → Hp → Prop := fun _ _ => False
abbrev TS := Ends → St → Hp → Prop
def EP (X : Cx) (pins : List (Addr × Obj)) (σ : St) (Q : VK) (u : Value) (s' : Shared) : Prop := ∃ v H', Inv X pins σ H' s' ∧ RelV v u ∧ Q v H'
def TP (X : Cx) (pins : List (Addr × Obj)) (σ : St) (Q : Bool → Hp → Prop) (b : Bool) (s' : Shared) : Prop := ∃ H', Inv X pins σ H' s' ∧ Q b H'
def AP (X : Cx) (pins : List (Addr × Obj)) (σ : St) (Q : List V → Hp → Prop) (us : List Value) (s' : Shared) : Prop := ∃ vs H', Inv X pins σ H' s' ∧ Vals vs us ∧ Q vs H'
def SP (X : Cx) (pins : List (Addr × Obj)) (D : Ends) (f : Flow) (s' : Shared) : Prop :=
  match f with
  | .next => ∃ σ' H', Inv X pins σ' H' s' ∧ D.nx σ' H'
  | .brk => ∃ σ' H', Inv X pins σ' H' s' ∧ D.bk σ' H'
  | .cont => ∃ σ' H', Inv X pins σ' H' s' ∧ D.ct σ' H'
  | .ret u => ∃ v σ' H', Inv X pins σ' H' s' ∧ RelV v u ∧ D.rt v H'
def PE (X : Cx) (e : Expr) (t : TE) : Prop :=
  ∀ (pins : List (Addr × Obj)) (s : Shared) (σ : St) (H : Hp) (Q : VK), Inv X pins σ H s → t σ H Q → wpAny (model X.prog X.w) X.A (eval e X.env) (EP X pins σ Q) X.xe s
def PT (X : Cx) (e : Expr) (t : TT) : Prop :=
  ∀ (pins : List (Addr × Obj)) (s : Shared) (σ : St) (H : Hp) (Q : Bool → Hp → Prop), Inv X pins σ H s → t σ H Q → wpAny (model X.prog X.w) X.A (isTrue e X.env (eval e X.env)) (TP X pins σ Q) X.xe s
/-- a test whatever its 'whole' is (and, or) -/
def PW (X : Cx) (e : Expr) (t : TT) : Prop :=
  ∀ (whole : Sem Value) (pins : List (Addr × Obj)) (s : Shared) (σ : St) (H : Hp) (Q : Bool → Hp → Prop), Inv X pins σ H s → t σ H Q → wpAny (model X.prog X.w) X.A (isTrue e X.env whole) (TP X pins σ Q) X.xe s
theorem PW.pt {X : Cx} {e : Expr} {t : TT} (h : PW X e t) : PT X e t := h _
/-- an argument list (no star), from the left -/
def PA (X : Cx) (es : List Expr) (t : TA) : Prop :=
  ∀ (pos : Pos) (pins : List (Addr × Obj)) (s : Shared) (σ : St) (H : Hp) (Q : List V → Hp → Prop), Inv X pins σ H s → t σ H Q → wpAny (model X.prog X.w) X.A (spliced (backTo pos (starEach es X.env))) (AP X pins σ Q) X.xe s
def PS (X : Cx) (st : Stmt) (t : TS) : Prop :=
  ∀ (pins : List (Addr × Obj)) (s : Shared) (σ : St) (H : Hp) (D : Ends), Inv X pins σ H s → t D σ H → wpAny (model X.prog X.w) X.A (exec st X.env) (SP X pins D) X.xe s
def PSs (X : Cx) (st : List Stmt) (t : TS) : Prop :=
  ∀ (pins : List (Addr × Obj)) (s : Shared) (σ : St) (H : Hp) (D : Ends), Inv X pins σ H s → t D σ H → wpAny (model X.prog X.w) X.A (execs st X.env) (SP X pins D) X.xe s
/-- weaken the end -/
theorem thn {α : Type} {t : Sem α} {Q Q' : α → Shared → Prop} {M : Model} {A : Around} {E : Value → Shared → Prop} {s : Shared} (h : wpAny M A t Q E s) (hQ : ∀ a s, Q a s → Q' a s) : wpAny M A t Q' E s := wpAny_mono h hQ fun _ _ x => x
end L2
namespace L2
open PySem PySem.Spec PyProof.Rows
section
variable {X : Cx}
/-- two expressions in a row -/
theorem bin {a b : Expr} {ta tb : TE} (ha : PE X a ta) (hb : PE X b tb) {pins : List (Addr × Obj)} {s : Shared} {σ : St} {H : Hp} {R : V → V → Hp → Prop} (I : Inv X pins σ H s) (h : ta σ H fun x H1 => tb σ H1 fun y H2 => R x y H2)
    {α : Type} {Q : α → Shared → Prop} {f : Value → Value → Sem α}
    (hf : ∀ v u s2 x y H2, Inv X pins σ H2 s2 → RelV x v → RelV y u → R x y H2 → wpAny (model X.prog X.w) X.A (f v u) Q X.xe s2) :
    wpAny (model X.prog X.w) X.A (eval a X.env) (fun v s₁ => wpAny (model X.prog X.w) X.A (eval b X.env) (fun u s₂ => wpAny (model X.prog X.w) X.A (f v u) Q X.xe s₂) X.xe s₁) X.xe s := by
  refine thn (ha pins s σ H _ I h) fun v s1 ⟨x, H1, I1, r1, q1⟩ => ?_
  refine thn (hb pins s1 σ H1 _ I1 q1) fun u s2 ⟨y, H2, I2, r2, q2⟩ => ?_
  exact hf v u s2 x y H2 I2 r1 r2 q2
/-! ### names and constants -/
def tVar (i : Nat) : TE := fun σ H Q => ∃ v, σ[i]? = some (some v) ∧ Q v H
def tC (v : V) : TE := fun _ H Q => Q v H
theorem pe_var {i : Nat} {x : Str} {pos : Pos} (hN : X.N[i]? = some x) (hv : Vis X.env.scope x) (hd : (x == ("__debug__" : Str)) = false := by decide) (hcd : (x == ("__classdict__" : Str)) = false := by decide) : PE X (.Name x pos) (tVar i) := by
  intro pins s σ H Q I h
  obtain ⟨v, e, h⟩ := h
  obtain ⟨m, hn, hl⟩ := I.loc
  obtain ⟨u, r, l⟩ := hl i x v hN e hv
  have fin : EP X pins σ Q u s := ⟨v, H, I, r, h⟩
  rcases l with ⟨hk, hm⟩ | ⟨hk, c, hc, hcell⟩
  · exact wpAny_Name (wpAny_loadName_local I.ok.kind hk hn hm fin) hd
  · rcases hk with hk | hk
    · exact wpAny_Name (wpAny_loadName_cell I.ok.kind hk hc hcell fin) hd
    · exact wpAny_Name (wpAny_loadName_free I.ok.kind hk hc hcell fin hcd) hd
theorem pe_int {i j pos} : PE X (.Constant (.int i) j pos) (tC (.int i)) := fun _ _ _ H _ I h => wpAny_Constant_int ⟨.int i, H, I.tok _, ⟨_, rfl⟩, h⟩
theorem pe_bl {b j pos} : PE X (.Constant (.bool b) j pos) (tC (.bl b)) := fun _ _ _ H _ I h => Constant_bool ⟨.bl b, H, I, rfl, h⟩
theorem pe_non {j pos} : PE X (.Constant .none j pos) (tC .non) := fun _ _ _ H _ I h => Constant_none ⟨.non, H, I, rfl, h⟩
theorem pe_str {x j pos} : PE X (.Constant (.str x) j pos) (tC (.str x)) := fun _ _ _ H _ I h => Calls.Constant_str ⟨.str x, H, I.tok _, ⟨_, rfl⟩, h⟩
/-- a global name of the def -/
def Gl (X : Cx) (x : Str) : Prop := X.env.kindOf x = some .globalImplicit
theorem ld_glob {E : Value → Shared → Prop} {pins : List (Addr × Obj)} {s : Shared} {σ : St} {H : Hp} {x : Str} {u : Value} {pos : Pos} {Q : Value → Shared → Prop} (I : Inv X pins σ H s) (hg : Gl X x) (hm : X.mg x = some u) (h : Q u s)
    (hd : (x == ("__debug__" : Str)) = false := by decide) : wpAny (model X.prog X.w) X.A (eval (.Name x pos) X.env) Q E s :=
  Calls.Name_function_global I.ok.kind hg (Calls.loadGlobal_global (by rw [I.ok.glob]; exact I.mod.glob.keeps I.bk) hm h) hd
theorem ld_blt {E : Value → Shared → Prop} {pins : List (Addr × Obj)} {s : Shared} {σ : St} {H : Hp} {x : Str} {u : Value} {pos : Pos} {Q : Value → Shared → Prop} (I : Inv X pins σ H s) (hg : Gl X x) (hm : X.mg x = none) (hv : bootBuiltins x = some u) (h : Q u s)
    (hn : x ≠ "__name__" := by decide) (hd : (x == ("__debug__" : Str)) = false := by decide) : wpAny (model X.prog X.w) X.A (eval (.Name x pos) X.env) Q E s := by
  obtain ⟨mb, h1, h2⟩ := I.mod.blt
  exact Calls.Name_function_global I.ok.kind hg (Calls.loadGlobal_builtin (by rw [I.ok.glob]; exact I.mod.glob.keeps I.bk) hm (by rw [I.ok.blt]; exact h1.keeps I.bk) ((h2 x hn).trans hv) h) hd
/-- a module's constant, a class, a function, as a value -/
theorem pe_glob {x : Str} {v : V} {u : Value} {pos : Pos} (hg : Gl X x) (hm : X.mg x = some u) (r : RelV v u) (hd : (x == ("__debug__" : Str)) = false := by decide) : PE X (.Name x pos) (tC v) :=
  fun _ _ _ H _ I h => ld_glob I hg hm ⟨v, H, I, r, h⟩ hd
theorem pe_bltn {x : Str} {v : V} {u : Value} {pos : Pos} (hg : Gl X x) (hm : X.mg x = none) (hv : bootBuiltins x = some u) (r : RelV v u) (hn : x ≠ "__name__" := by decide) (hd : (x == ("__debug__" : Str)) = false := by decide) : PE X (.Name x pos) (tC v) :=
  fun _ _ _ H _ I h => ld_blt I hg hm hv ⟨v, H, I, r, h⟩ hn hd
variable {a b : Expr} {ta tb : TE} {pos : Pos}
/-! ### comparisons -/
def PC (X : Cx) (op : CmpOp) (a b : Expr) (t : TE) : Prop :=
  ∀ (pins : List (Addr × Obj)) (s : Shared) (σ : St) (H : Hp) (Q : VK), Inv X pins σ H s → t σ H Q →
    wpAny (model X.prog X.w) X.A (eval a X.env) (fun v s₁ => wpAny (model X.prog X.w) X.A (eval b X.env) (fun u s₂ => wpAny (model X.prog X.w) X.A (compareOp op v u) (EP X pins σ Q) X.xe s₂) X.xe s₁) X.xe s
theorem nobehind (b : Expr) {op : CmpOp} (h : op ≠ .In) (h2 : op ≠ .NotIn) : behindInMarks op b = false := by
  have e1 : (op == CmpOp.In) = false := by cases op <;> first | rfl | exact absurd rfl h
  have e2 : (op == CmpOp.NotIn) = false := by cases op <;> first | rfl | exact absurd rfl h2
  cases b <;> simp [behindInMarks, e1, e2]
/-- a comparison as a value, as a test -/
def tB (t : TE) : TT := fun σ H Q => t σ H fun x H1 => ∃ c, x = .bl c ∧ Q c H1
theorem pt_cmp {op : CmpOp} {t : TE} (h : PC X op a b t) (h1 : behindInMarks op b = false := by first | exact nobehind _ (by decide) (by decide) | rfl) : PT X (.Compare a [op] [b] pos) (tB t) := by
  intro pins s σ H Q I hw
  refine wpAny_isTrue_Compare1 (thn (h pins s σ H _ I hw) fun v s1 h1 => thn h1 fun u s2 h2 => thn h2 fun c s3 ⟨x, H1, I1, r1, q1⟩ => ?_) h1
  obtain ⟨d, rfl, q⟩ := q1
  cases r1
  exact wpAny_truthy_bool ⟨H1, I1, q⟩
/-- an expression whose value is a bool, as a test -/
theorem pt_val {e : Expr} {t : TE} (h : PE X e t) (he : ∀ whole, isTrue e X.env whole = (do let v ← whole; standAt e.pos; holding [v] (truthy v)) := by intro _; rfl) : PT X e (tB t) := by
  intro pins s σ H Q I hw
  refine isTrue_plain (thn (h pins s σ H _ I hw) fun v s1 ⟨x, H1, I1, r1, q1⟩ => ?_) (he _)
  obtain ⟨d, rfl, q⟩ := q1
  cases r1
  exact wpAny_truthy_bool ⟨H1, I1, q⟩
/-! ### and, or, not -/
variable {tA tB' : TT} {rest : List Expr}
def tAnd (t u : TT) : TT := fun σ H Q => t σ H fun c H1 => if c = true then u σ H1 Q else Q false H1
def tOr (t u : TT) : TT := fun σ H Q => t σ H fun c H1 => if c = true then Q true H1 else u σ H1 Q
def tNot (t : TT) : TT := fun σ H Q => t σ H fun c H1 => Q (!c) H1
theorem pw_and1 (ha : PT X a tA) : PW X (.BoolOp .And [a] pos) tA := by
  intro wh pins s σ H Q I h
  refine isTrue_and (thn (ha pins s σ H Q I h) fun c s1 e => ?_)
  cases c with
  | true => exact isTrue_and_nil e
  | false => exact e
theorem pw_or1 (ha : PT X a tA) : PW X (.BoolOp .Or [a] pos) tA := by
  intro wh pins s σ H Q I h
  refine isTrue_or (thn (ha pins s σ H Q I h) fun c s1 e => ?_)
  cases c with
  | false => exact isTrue_or_nil e
  | true => exact e
theorem pw_and (ha : PT X a tA) (hb : PW X (.BoolOp .And (b :: rest) pos) tB') : PW X (.BoolOp .And (a :: b :: rest) pos) (tAnd tA tB') := by
  intro wh pins s σ H Q I h
  refine isTrue_and (thn (ha pins s σ H _ I h) fun c s1 ⟨H1, I1, q1⟩ => ?_)
  cases c with
  | true => exact hb wh pins s1 σ H1 Q I1 q1
  | false => exact ⟨H1, I1, q1⟩
theorem pw_or (ha : PT X a tA) (hb : PW X (.BoolOp .Or (b :: rest) pos) tB') : PW X (.BoolOp .Or (a :: b :: rest) pos) (tOr tA tB') := by
  intro wh pins s σ H Q I h
  refine isTrue_or (thn (ha pins s σ H _ I h) fun c s1 ⟨H1, I1, q1⟩ => ?_)
  cases c with
  | true => exact ⟨H1, I1, q1⟩
  | false => exact hb wh pins s1 σ H1 Q I1 q1
theorem pt_not (ha : PT X a tA) : PT X (.UnaryOp .Not a pos) (tNot tA) := by
  intro pins s σ H Q I h
  exact isTrue_not (ha pins s σ H (fun c H1 => Q (!c) H1) I h)
/-- .. as values (bools) -/
def tAndV (ta tb : TE) : TE := fun σ H Q => ta σ H fun x H1 => ∃ c, x = .bl c ∧ if c = true then tb σ H1 Q else Q (.bl false) H1
def tNotV (ta : TE) : TE := fun σ H Q => ta σ H fun x H1 => ∃ c, x = .bl c ∧ Q (.bl (!c)) H1
theorem pe_one {op} {t : TE} (h : PE X a t) : PE X (.BoolOp op [a] pos) t := fun pins s σ H Q I hw => BoolOp_one (h pins s σ H Q I hw)
theorem pe_and (ha : PE X a ta) (hb : PE X (.BoolOp .And (b :: rest) pos) tb) : PE X (.BoolOp .And (a :: b :: rest) pos) (tAndV ta tb) := by
  intro pins s σ H Q I h
  refine BoolOp_and (thn (ha pins s σ H _ I h) fun v s1 ⟨x, H1, I1, r1, q1⟩ => ?_)
  obtain ⟨c, rfl, q1⟩ := q1
  cases r1
  refine wpAny_truthy_bool ?_
  cases c with
  | true => exact hb pins s1 σ H1 Q I1 q1
  | false => exact ⟨.bl false, H1, I1, rfl, q1⟩
theorem pe_not (ha : PE X a ta) : PE X (.UnaryOp .Not a pos) (tNotV ta) := by
  intro pins s σ H Q I h
  refine UnaryOp_ (thn (ha pins s σ H _ I h) fun v s1 ⟨x, H1, I1, r1, q1⟩ => ?_)
  obtain ⟨c, rfl, q1⟩ := q1
  cases r1
  exact not_of (wpAny_truthy_bool ⟨.bl (!c), H1, I1, rfl, q1⟩)
end
end L2
namespace L2
open PySem PySem.Spec PyProof.Rows
/-! ### a list, a tuple that is read: tracked, frozen, or an object of the module -/
def SqL (K : PySem.W.Frag) (H : Hp) (a : Addr) (xs : List V) : Prop :=
  Rd H a (.lst xs) ∨
    ∃ (o : Obj) (its : Array Value) (n : Nat), K.lookup a = some o ∧ o.cls = .type "list" ∧ o.dict = none ∧ o.data = .seq its n ∧ its.size ≤ sizeLine ∧ Vals xs its.toList
def SqT (K : PySem.W.Frag) (H : Hp) (a : Addr) (xs : List V) : Prop :=
  Rd H a (.tup xs) ∨
    ∃ (o : Obj) (its : Array Value) (n : Nat), K.lookup a = some o ∧ o.cls = .type "tuple" ∧ o.data = .seq its n ∧ its.size ≤ sizeLine ∧ Vals xs its.toList
def absV : Value → Option V
  | .none => some .non
  | .bool b => some (.bl b)
  | .int i _ => some (.int i)
  | .str x _ => some (.str x)
  | .bytes b _ => some (.byt b)
  | .float b _ => some (.flt b)
  | .ref a => some (.ref a)
  | .type n => some (.ty n)
  | _ => none
theorem RelV.abs {x : V} {u : Value} (r : RelV x u) : absV u = some x := by
  cases x with
  | non => cases r; rfl
  | bl _ => cases r; rfl
  | int _ => obtain ⟨t, rfl⟩ := r; rfl
  | str _ => obtain ⟨t, rfl⟩ := r; rfl
  | byt _ => obtain ⟨t, rfl⟩ := r; rfl
  | flt _ => obtain ⟨t, rfl⟩ := r; rfl
  | ref _ => cases r; rfl
  | ty _ => cases r; rfl
theorem RelV.inj {x y : V} {u : Value} (r : RelV x u) (q : RelV y u) : x = y := Option.some.inj (r.abs.symm.trans q.abs)
theorem Vals.inj : ∀ {xs ys : List V} {us : List Value}, Vals xs us → Vals ys us → xs = ys
  | _, _, _, .nil, .nil => rfl
  | _, _, _, .cons r t, .cons r' t' => by rw [r.inj r', Vals.inj t t']
section
variable {X : Cx} {pins : List (Addr × Obj)} {σ : St} {H : Hp} {s : Shared} {a : Addr} {xs ys : List V}
theorem SqL.of {K : PySem.W.Frag} (h : H a = some (.lst xs)) : SqL K H a xs := .inl (.inl h)
theorem SqT.of {K : PySem.W.Frag} (h : H a = some (.tup xs)) : SqT K H a xs := .inl (.inl h)
theorem Inv.list (I : Inv X pins σ H s) (h : SqL X.K H a xs) : ∃ its : List Value, Vals xs its ∧ PlainL s.heap a its.toArray ∧ xs.length ≤ sizeLine := by
  rcases h with h | ⟨o, its, n, hk, hc, hd, hs, hz, r⟩
  · obtain ⟨z, its, n, r, e⟩ := h.ok I.hok
    exact ⟨its, r, ⟨_, n, e, rfl, rfl, rfl⟩, z⟩
  · refine ⟨its.toList, r, ⟨o, n, I.kIn a o hk, hc, hd, by simpa using hs⟩, ?_⟩
    have e := r.length
    simp only [Array.length_toList] at e
    omega
theorem Inv.tuple (I : Inv X pins σ H s) (h : SqT X.K H a xs) : ∃ its : List Value, Vals xs its ∧ IsTup s.heap a its.toArray ∧ xs.length ≤ sizeLine := by
  rcases h with h | ⟨o, its, n, hk, hc, hs, hz, r⟩
  · obtain ⟨z, its, r, p⟩ := h.ok I.hok
    exact ⟨its, r, p, z⟩
  · refine ⟨its.toList, r, ⟨o, I.kIn a o hk, hc, n, by simpa using hs⟩, ?_⟩
    have e := r.length
    simp only [Array.length_toList] at e
    omega
theorem Inv.list_inj (I : Inv X pins σ H s) (h : SqL X.K H a xs) (h' : SqL X.K H a ys) : xs = ys := by
  obtain ⟨its, r, ⟨o, n, e, _, _, d⟩, _⟩ := I.list h
  obtain ⟨its', r', ⟨o', n', e', _, _, d'⟩, _⟩ := I.list h'
  rw [e] at e'; cases e'
  rw [d] at d'
  injection d' with d1 _
  have : its = its' := by simpa using congrArg Array.toList d1
  subst this
  exact r.inj r'
theorem Inv.tuple_inj (I : Inv X pins σ H s) (h : SqT X.K H a xs) (h' : SqT X.K H a ys) : xs = ys := by
  obtain ⟨its, r, ⟨o, e, _, n, d⟩, _⟩ := I.tuple h
  obtain ⟨its', r', ⟨o', e', _, n', d'⟩, _⟩ := I.tuple h'
  rw [e] at e'; cases e'
  rw [d] at d'
  injection d' with d1 _
  have : its = its' := by simpa using congrArg Array.toList d1
  subst this
  exact r.inj r'
end
/-! ### another wish about exceptions -/
abbrev Cx.wish (X : Cx) (E : Value → Shared → Prop) : Cx := { X with xe := E }
/-- no exception leaves -/
abbrev Cx.nox (X : Cx) : Cx := X.wish fun _ _ => False
theorem Cx.Ok.wish {X : Cx} (ok : X.Ok) (E : Value → Shared → Prop) : (X.wish E).Ok :=
  ⟨ok.mod, ok.kind, ok.glob, ok.blt, ok.above, ok.inj, ok.has, ok.cab, ok.hd, ok.frames, ok.stk, ok.exf, ok.bs, ok.bsz, ok.noex, ok.exfs, ok.funs, ok.frf⟩
theorem Cx.Ok.unwish {X : Cx} {E : Value → Shared → Prop} (ok : (X.wish E).Ok) : X.Ok :=
  ⟨ok.mod, ok.kind, ok.glob, ok.blt, ok.above, ok.inj, ok.has, ok.cab, ok.hd, ok.frames, ok.stk, ok.exf, ok.bs, ok.bsz, ok.noex, ok.exfs, ok.funs, ok.frf⟩
section
variable {X : Cx} {pins : List (Addr × Obj)} {σ : St} {H : Hp} {s : Shared} {E : Value → Shared → Prop}
theorem Inv.wish (I : Inv X pins σ H s) (E : Value → Shared → Prop) : Inv (X.wish E) pins σ H s := ⟨I.ok.wish E, I.os, I.bare, I.base, I.loc, I.cell, I.free, I.freeC, I.pin, I.hok, I.len⟩
theorem Inv.unwish (I : Inv (X.wish E) pins σ H s) : Inv X pins σ H s := ⟨I.ok.unwish, I.os, I.bare, I.base, I.loc, I.cell, I.free, I.freeC, I.pin, I.hok, I.len⟩
theorem SP.unwish {D : Ends} {f : Flow} {s' : Shared} (h : SP (X.wish E) pins D f s') : SP X pins D f s' := by
  cases f with
  | next => obtain ⟨σ', H', I, q⟩ := h; exact ⟨σ', H', I.unwish, q⟩
  | brk => obtain ⟨σ', H', I, q⟩ := h; exact ⟨σ', H', I.unwish, q⟩
  | cont => obtain ⟨σ', H', I, q⟩ := h; exact ⟨σ', H', I.unwish, q⟩
  | ret u => obtain ⟨v, σ', H', I, r, q⟩ := h; exact ⟨v, σ', H', I.unwish, r, q⟩
theorem PE.nox {e : Expr} {t : TE} (h : PE X.nox e t) : PE X e t := fun pins s σ H Q I hw =>
  wpAny_mono (h pins s σ H Q (I.wish _) hw) (fun _ _ ⟨v, H', I', r, q⟩ => ⟨v, H', I'.unwish, r, q⟩) fun _ _ z => False.elim z
theorem PT.nox {e : Expr} {t : TT} (h : PT X.nox e t) : PT X e t := fun pins s σ H Q I hw =>
  wpAny_mono (h pins s σ H Q (I.wish _) hw) (fun _ _ ⟨H', I', q⟩ => ⟨H', I'.unwish, q⟩) fun _ _ z => False.elim z
theorem PSs.nox {st : List Stmt} {t : TS} (h : PSs X.nox st t) : PSs X st t := fun pins s σ H D I hw =>
  wpAny_mono (h pins s σ H D (I.wish _) hw) (fun _ _ q => q.unwish) fun _ _ z => False.elim z
end
/-! ### blocks and small statements -/
section
variable {X : Cx} {st : Stmt} {rest : List Stmt} {t u : TS} {e : Expr} {te : TE} {pos : Pos}
def tNext : TS := fun D σ H => D.nx σ H
def tSeq (t u : TS) : TS := fun D σ H => t { D with nx := u D } σ H
theorem pss_nil : PSs X [] tNext := fun _ _ σ H _ I h => wpAny_execs_nil ⟨σ, H, I, h⟩
theorem pss_cons (h1 : PS X st t) (h2 : PSs X rest u) : PSs X (st :: rest) (tSeq t u) := by
  intro pins s σ H D I h
  refine wpAny_execs_cons (thn (h1 pins s σ H { D with nx := u D } I h) fun f s1 q => ?_)
  cases f with
  | next =>
    obtain ⟨σ', H', I', q⟩ := q
    exact h2 pins s1 σ' H' D I' q
  | ret v => exact q
  | brk => exact q
  | cont => exact q
theorem pss_one (h1 : PS X st t) : PSs X [st] t := by
  intro pins s σ H D I h
  refine wpAny_execs_cons (thn (h1 pins s σ H D I h) fun f s1 q => ?_)
  cases f with
  | next => exact wpAny_execs_nil q
  | ret v => exact q
  | brk => exact q
  | cont => exact q
/-- in a def's body nothing is shown -/
theorem Inv.quiet {pins : List (Addr × Obj)} {σ : St} {H : Hp} {s : Shared} (I : Inv X pins σ H s) : interactive X.env = false := by simp [interactive, I.ok.kind]
/-- an expression whose value is dropped -/
def tDrop (te : TE) : TS := fun D σ H => te σ H fun _ H1 => D.nx σ H1
theorem ps_expr (he : PE X e te) (hs : swapsWith e none pos.line X.env = pure false := by rfl) : PS X (.Expr e pos) (tDrop te) := by
  intro pins s σ H D I h
  exact wpAny_Expr_any (thn (he pins s σ H _ I h) fun v s1 ⟨x, H1, I1, r1, q1⟩ => ⟨σ, H1, I1, q1⟩) I.quiet hs
def tRet (te : TE) : TS := fun D σ H => te σ H D.rt
theorem ps_ret (he : PE X e te) : PS X (.Return (some e) pos) (tRet te) := by
  intro pins s σ H D I h
  exact wpAny_Return_some (thn (he pins s σ H _ I h) fun v s1 ⟨x, H1, I1, r1, q1⟩ => ⟨x, σ, H1, I1, r1, q1⟩)
def tIfS (c : TT) (t u : TS) : TS := fun D σ H => c σ H fun b H1 => if b = true then t D σ H1 else u D σ H1
theorem ps_if {c : Expr} {a b : List Stmt} {tc : TT} (hc : PT X c tc) (ha : PSs X a t) (hb : PSs X b u) : PS X (.If c a b pos) (tIfS tc t u) := by
  intro pins s σ H D I h
  refine wpAny_If (thn (hc pins s σ H _ I h) fun d s1 ⟨H1, I1, q1⟩ => ?_)
  cases d with
  | true => exact ha pins s1 σ H1 D I1 q1
  | false => exact hb pins s1 σ H1 D I1 q1
end
/-! ### targets -/
abbrev TG := V → St → Hp → (St → Hp → Prop) → Prop
def PG (X : Cx) (target : Expr) (t : TG) : Prop :=
  ∀ (pins : List (Addr × Obj)) (s : Shared) (σ : St) (H : Hp) (v : V) (u : Value) (Q : St → Hp → Prop), Inv X pins σ H s → RelV v u → t v σ H Q →
    wpAny (model X.prog X.w) X.A (assign target X.env u) (fun _ s' => ∃ σ' H', Inv X pins σ' H' s' ∧ Q σ' H') X.xe s
section
variable {X : Cx} {pos : Pos}
def gName (i : Nat) : TG := fun v σ H Q => Q (σ.set i (some v)) H
theorem pg_name {i : Nat} {x : Str} (hN : X.N.Nodup) (hi : X.N[i]? = some x) (hx : Loc X.env.scope x) (hf : X.fn x = true ∨ X.env.scope.names.lookup x = some .local := by first | exact .inl rfl | exact .inr rfl | assumption) : PG X (.Name x pos) (gName i) := by
  intro pins s σ H v u Q I r h
  exact wpAny_assign_Name (store_ok I hN hi hx r (fun s' I' => ⟨_, H, I', h⟩) hf)
/-- target = value -/
def tAsg (te : TE) (g : TG) : TS := fun D σ H => te σ H fun x H1 => g x σ H1 D.nx
/-- name = value -/
theorem ps_set {i : Nat} {x : Str} {e : Expr} {te : TE} {pos' : Pos} (hN : X.N.Nodup) (hi : X.N[i]? = some x) (hx : Loc X.env.scope x) (he : PE X e te) (hs : swapsWith e (some (.Name x pos')) pos.line X.env = pure false := by rfl) (hf : X.fn x = true ∨ X.env.scope.names.lookup x = some .local := by first | exact .inl rfl | exact .inr rfl | assumption) :
    PS X (.Assign [.Name x pos'] e pos) (tAsg te (gName i)) := by
  intro pins s σ H D I h
  refine wpAny_Assign_Name (thn (he pins s σ H _ I h) fun v s1 ⟨y, H1, I1, r1, q1⟩ => ?_) hs
  exact store_ok I1 hN hi hx r1 (fun s2 I2 => ⟨_, H1, I2, q1⟩) hf
end
/-! ### while -/
section
variable {X : Cx} {pos : Pos}
/-- the invariant W with its measure -/
def tWhile (c : TT) (tb : TS) : TS := fun D σ H => ∃ W : Nat → St → Hp → Prop, (∃ m, W m σ H) ∧ ∀ m σ H, W m σ H →
  c σ H fun b H1 => if b = true then ∃ N : St → Hp → Prop, (∀ σ' H', N σ' H' → ∃ m', m' < m ∧ W m' σ' H') ∧ tb { D with nx := N, ct := N, bk := D.nx } σ H1 else D.nx σ H1
theorem ps_while {c : Expr} {body : List Stmt} {tc : TT} {tb : TS} (hp : PassesOwn (model X.prog X.w) X.A X.env X.xe) (hc : PT X c tc) (hb : PSs X body tb) : PS X (.While c body [] pos) (tWhile tc tb) := by
  intro pins s σ H D I h
  obtain ⟨W, ⟨m0, w0⟩, turn⟩ := h
  refine wpAny_While (codeAny_whileLoop (fun n s' => ∃ σ' H', Inv X pins σ' H' s' ∧ W n σ' H') ?_ m0 ⟨σ, H, I, w0⟩)
  rintro n s1 ⟨σ1, H1, I1, w1⟩
  refine wpAny_passesOwn hp (thn (hc pins s1 σ1 H1 _ I1 (turn n σ1 H1 w1)) fun b s2 ⟨H2, I2, q2⟩ => ?_)
  cases b with
  | true =>
    obtain ⟨N, hN, q2⟩ := q2
    rw [if_pos rfl]
    refine wpAny_passesOwn hp (thn (hb pins s2 σ1 H2 _ I2 q2) fun f s3 q3 => ?_)
    cases f with
    | next =>
      obtain ⟨σ3, H3, I3, n3⟩ := q3
      obtain ⟨m', hm, w3⟩ := hN σ3 H3 n3
      exact ⟨m', hm, σ3, H3, I3, w3⟩
    | cont =>
      obtain ⟨σ3, H3, I3, n3⟩ := q3
      obtain ⟨m', hm, w3⟩ := hN σ3 H3 n3
      exact ⟨m', hm, σ3, H3, I3, w3⟩
    | brk => exact q3
    | ret v => exact q3
  | false =>
    rw [if_neg Bool.false_ne_true]
    exact wpAny_execs_nil ⟨σ1, H2, I2, q2⟩
end
/-! ### what a loop or a comprehension walks -/
/-- at turn i: it yields x (the heap may grow), or it stops -/
structure It where
  go : Nat → Hp → Prop
  yld : Nat → Hp → V → Hp → Prop
  stop : Nat → Hp → Prop
/-- the iterator's own objects may turn: they are not the frame's, not pinned, younger than the entry (or a comprehension's own) -/
def FpOk (X : Cx) (pins : List (Addr × Obj)) (H : Hp) (b : Addr) : Prop :=
  H b = none ∧ b ≠ X.env.locals ∧ b ∉ X.fs ∧ (b ∈ X.ex ∨ X.s₀.heap.objs.size ≤ b) ∧ (∀ x c, X.env.cells.lookup x = some c → c ≠ b) ∧ ∀ p ∈ X.pn ++ pins, p.1 ≠ b
theorem Inv.fpOk {X : Cx} {pins : List (Addr × Obj)} {σ : St} {H H' : Hp} {s : Shared} {b : Addr} (I : Inv X pins σ H s) (hb : s.heap.objs.size ≤ b) (hn : H' b = none) : FpOk X pins H' b := by
  refine ⟨hn, Nat.ne_of_gt (Nat.lt_of_lt_of_le I.lt hb), I.nofs hb, .inr (Nat.le_trans I.sz hb), fun x c e z => ?_, fun p hp z => ?_⟩
  · obtain ⟨v, q⟩ := I.cell x c e
    exact absurd (Nat.lt_of_lt_of_le q.lt (by rw [z]; exact hb)) (Nat.lt_irrefl _)
  · exact absurd (Nat.lt_of_lt_of_le (Heap.lt_size (I.pin p hp).1) (by rw [z]; exact hb)) (Nat.lt_irrefl _)
structure Turn (P : Program) (w : World) (K : PySem.W.Frag) (tg : Expr) (J : It) (fp : List Addr) (it : Addr) (tn : Nat → Heap → Prop) : Prop where
  mem : it ∈ fp
  obj : ∀ i h, tn i h → ∀ b ∈ fp, ∃ o, h.get? b = some o ∧ ∀ v, o.data ≠ .cell v
  keep : ∀ i h h', tn i h → (∀ b ∈ fp, ∀ o, h.get? b = some o → h'.get? b = some o) → tn i h'
  item : ∀ (X : Cx), X.prog = P → X.w = w → X.K = K → X.calm = true → ∀ (i : Nat) (pins : List (Addr × Obj)) (s : Shared) (σ : St) (H : Hp) (E : Value → Shared → Prop), Inv X pins σ H s → (∀ b ∈ fp, FpOk X pins H b) → tn i s.heap → J.go i H →
    wpAny (model P w) X.A (pyNext (.ref it)) (fun r s1 => ∃ u, r = some u ∧
      wpAny (model P w) X.A (letOwnedTupleGo tg (.ref it) u) (fun _ s2 => ∃ x H', Inv X pins σ H' s2 ∧ RelV x u ∧ J.yld i H x H' ∧ tn (i + 1) s2.heap ∧ ∀ b ∈ fp, H' b = none) E s1) E s
  done : ∀ (X : Cx), X.prog = P → X.w = w → X.K = K → X.calm = true → ∀ (i : Nat) (pins : List (Addr × Obj)) (s : Shared) (σ : St) (H : Hp) (E : Value → Shared → Prop), Inv X pins σ H s → (∀ b ∈ fp, FpOk X pins H b) → tn i s.heap → J.stop i H →
    wpAny (model P w) X.A (pyNext (.ref it)) (fun r s1 => r = none ∧ Inv X pins σ H s1) E s
  self : ∀ (A : Around) (i : Nat) (s : Shared) (Q : Value → Shared → Prop) (E : Value → Shared → Prop), tn i s.heap → Q (.ref it) s → wpAny (model P w) A (pyIter (.ref it)) Q E s
abbrev TI := St → Hp → (It → Hp → Prop) → Prop
/-- an iterator has come -/
def PIE (X : Cx) (pins : List (Addr × Obj)) (σ : St) (tg : Expr) (R : It → Hp → Prop) (itv : Value) (s2 : Shared) : Prop :=
  ∃ (it : Addr) (fp : List Addr) (tn : Nat → Heap → Prop) (J : It) (H' : Hp), itv = .ref it ∧ Inv X pins σ H' s2 ∧ Turn X.prog X.w X.K tg J fp it tn ∧ tn 0 s2.heap ∧ (∀ b ∈ fp, FpOk X pins H' b) ∧ R J H'
def PI (X : Cx) (tg iter : Expr) (wi : TI) : Prop :=
  ∀ (pins : List (Addr × Obj)) (s : Shared) (σ : St) (H : Hp) (R : It → Hp → Prop), Inv X pins σ H s → wi σ H R →
    wpAny (model X.prog X.w) X.A (eval iter X.env) (fun v s1 => wpAny (model X.prog X.w) X.A (pyIter v) (PIE X pins σ tg R) X.xe s1) X.xe s
/-- the step ahead of the store is nothing for an iterator that keeps no tuple -/
theorem go_of {M : Model} {A : Around} {E : Value → Shared → Prop} {s : Shared} {tg : Expr} {it : Addr} {u : Value} {o : Obj} {n : String} {vs : Array Value} {Q : Unit → Shared → Prop} (ho : s.heap.get? it = some o) (hc : o.cls = .type n) (hd : o.data = .fields vs)
    (hn : ["enumerate", "zip", "dict_itemiterator", "dict_reverseitemiterator", "odict_iterator", "itertools.zip_longest", "itertools.pairwise"].contains n = false) (hQ : Q () s) : wpAny M A (letOwnedTupleGo tg (.ref it) u) Q E s := by
  unfold letOwnedTupleGo
  cases tg <;> first
    | exact wpAny_pure hQ
    | (cases u <;> first
        | exact wpAny_pure hQ
        | (refine wpAny_bind (wpAny_load ho ?_)
           rw [hc, hd]
           show wpAny M A (if (["enumerate", "zip", "dict_itemiterator", "dict_reverseitemiterator", "odict_iterator", "itertools.zip_longest", "itertools.pairwise"].contains n && vs[0]? == some (rawInt _)) = true then _ else _) Q E s
           rw [if_neg (by intro h; rw [hn, Bool.false_and] at h; cases h)]
           exact wpAny_pure hQ))
/-- the list at a, as it stands at each turn (a loop may append to it) -/
def Itl (K : PySem.W.Frag) (a : Addr) : It :=
  ⟨fun i H => ∃ xs x, SqL K H a xs ∧ xs[i]? = some x, fun i H x H' => H' = H ∧ ∀ xs, SqL K H a xs → xs[i]? = some x, fun i H => ∃ xs, SqL K H a xs ∧ xs.length ≤ i⟩
/-- lo, lo + 1, .. (n of them) -/
def Itr (lo : Int) (n : Nat) : It := ⟨fun i _ => i < n, fun i H x H' => H' = H ∧ x = .int (lo + i), fun i _ => n ≤ i⟩
theorem turn_list {P : Program} {w : World} {K : PySem.W.Frag} {tg : Expr} (a it : Addr) : Turn P w K tg (Itl K a) [it] it (fun i h => h.IsListIter it a i) where
  mem := by simp
  obj := fun i h st b hb => by
    have e : b = it := by simpa using hb
    subst e
    obtain ⟨o, e, c, d⟩ := st
    exact ⟨o, e, fun v z => by rw [d] at z; cases z⟩
  keep := fun i h h' st k => st.at fun o e => k it (by simp) o e
  item := by
    intro X hP hw hK hc i pins s σ H E I hf st hg
    subst hP hw hK
    obtain ⟨xs, x, hq, hx⟩ := hg
    obtain ⟨its, rv, p, hz⟩ := I.list hq
    obtain ⟨u, hu, ru⟩ := rv.get hx
    obtain ⟨f0, f1, f2, f3, f4, f5⟩ := hf it (by simp)
    refine wpAny_pyNext_list_item st p.isList (x := u) (by simpa using hu) fun h' st' sb => ?_
    have I1 : Inv X pins σ H { s with heap := h' } := I.turned (t' := s.toks) (fun b o hb e => (sb.2 b hb).trans e) f0 f1 f3 f4 f5
    obtain ⟨o, e, c, d⟩ := id st'
    exact ⟨u, rfl, go_of (s := { s with heap := h' }) e c d (by decide) ⟨x, H, I1, ru, ⟨rfl, fun ys hy => by rw [I.list_inj hy hq]; exact hx⟩, st', fun b hb => (hf b hb).1⟩⟩
  done := by
    intro X hP hw hK hc i pins s σ H E I hf st hg
    subst hP hw hK
    obtain ⟨xs, hq, hx⟩ := hg
    obtain ⟨its, rv, p, hz⟩ := I.list hq
    obtain ⟨f0, f1, f2, f3, f4, f5⟩ := hf it (by simp)
    have hl := rv.length
    exact wpAny_pyNext_list_end (I.ok.hd hc) st p.isList (by simp; omega) fun h' eb => ⟨rfl, I.turned (t' := s.toks) (fun b o hb e => eb b o hb e) f0 f1 f3 f4 f5⟩
  self := fun _ _ _ _ _ st h => wpAny_pyIter_listiter st h
theorem turn_range {P : Program} {w : World} {K : PySem.W.Frag} {tg : Expr} (it : Addr) (lo : Int) (n : Nat) : Turn P w K tg (Itr lo n) [it] it (fun i h => IsRangeIter h it (lo + (i : Nat) * 1) ((n : Int) - (i : Nat)) 1) where
  mem := by simp
  obj := fun i h st b hb => by
    have e : b = it := by simpa using hb
    subst e
    exact ⟨_, st, fun v z => by
      have z' : Data.fields _ = Data.cell v := z
      cases z'⟩
  keep := fun i h h' st k => k it (by simp) _ st
  item := by
    intro X hP hw hK hc i pins s σ H E I hf st hg
    subst hP hw hK
    obtain ⟨f0, f1, f2, f3, f4, f5⟩ := hf it (by simp)
    have W := Walks.range (prog := X.prog) (w := X.w) (I.ok.hd hc) it lo 1 n
    refine W.item i s _ _ hg st fun v h' tk hv st' kk => ?_
    obtain ⟨t, rfl⟩ := hv
    have I1 : Inv X pins σ H { s with heap := h', toks := tk } := I.turned (fun b o hb e => kk b o (by simpa using hb) e) f0 f1 f3 f4 f5
    refine ⟨_, rfl, go_of (s := { s with heap := h', toks := tk }) (n := "range_iterator") st' rfl rfl (by decide) ⟨.int (lo + i), H, I1, ⟨t, ?_⟩, ⟨rfl, rfl⟩, st', fun b hb => (hf b hb).1⟩⟩
    rw [Int.mul_one]
  done := by
    intro X hP hw hK hc i pins s σ H E I hf st hg
    subst hP hw hK
    obtain ⟨f0, f1, f2, f3, f4, f5⟩ := hf it (by simp)
    exact wpAny_pyNext_range_end (I.ok.hd hc) st (by have : n ≤ i := hg; omega) fun h' eb => ⟨rfl, I.turned (t' := s.toks) (fun b o hb e => eb b o hb e) f0 f1 f3 f4 f5⟩
  self := fun _ _ _ _ _ st h => wpAny_pyIter_rangeiter st h
end L2
namespace L2
open PySem PySem.Spec PyProof.Rows
section
variable {X : Cx} {tg : Expr}
def iList (K : PySem.W.Frag) (tl : TE) : TI := fun σ H R => tl σ H fun x H1 => ∃ a, x = .ref a ∧ (∃ xs, SqL K H1 a xs) ∧ R (Itl K a) H1
theorem pi_list {l : Expr} {tl : TE} (hl : PE X l tl) : PI X tg l (iList X.K tl) := by
  intro pins s σ H R I h
  refine thn (hl pins s σ H _ I h) fun v s1 ⟨x, H1, I1, r1, q1⟩ => ?_
  obtain ⟨a, e, ⟨xs, hq⟩, q⟩ := q1
  subst e
  cases r1
  obtain ⟨its, rv, p, hz⟩ := I1.list hq
  refine wpAny_pyIter_list p.isList ?_
  refine ⟨s1.heap.objs.size, [s1.heap.objs.size], _, _, H1, rfl, I1.kept (t' := s1.toks) fun b o e => Heap.get?_push_of_some _ e, turn_list a _, ⟨_, Heap.get?_push_size _ rfl, rfl, rfl⟩, fun b hb => ?_, q⟩
  have e : b = s1.heap.objs.size := by simpa using hb
  subst e
  exact I1.fpOk (Nat.le_refl _) (I1.hok.fresh (Nat.le_refl _))
/-- a range object just made, walked -/
theorem range_it {pins : List (Addr × Obj)} {σ : St} {H : Hp} {s : Shared} {R : It → Hp → Prop} {E : Value → Shared → Prop} {lo hi : Int} {t u v : Tok} {tk : Nat} (I : Inv X pins σ H s) (h1 : -(2 ^ 62) ≤ lo) (h2 : lo < 2 ^ 62) (h3 : -(2 ^ 62) ≤ hi) (h4 : hi < 2 ^ 62)
    (q : R (Itr lo (hi - lo).toNat) H) : wpAny (model X.prog X.w) X.A (pyIter (.ref s.heap.objs.size)) (PIE X pins σ tg R) E { s with heap := s.heap.push { cls := .type "range", data := .fields #[.int lo t, .int hi u, .int 1 v] }, toks := tk } := by
  refine wpAny_pyIter_range (IsRange.new ..) (small_one h1 h2 h3 h4) ?_
  have I1 : Inv X pins σ H { s with heap := s.heap.push { cls := .type "range", data := .fields #[.int lo t, .int hi u, .int 1 v] }, toks := tk } := I.kept fun b o e => Heap.get?_push_of_some _ e
  refine ⟨(s.heap.push { cls := .type "range", data := .fields #[.int lo t, .int hi u, .int 1 v] }).objs.size, [(s.heap.push { cls := .type "range", data := .fields #[.int lo t, .int hi u, .int 1 v] }).objs.size], _, _, H, rfl,
    I1.kept (t' := tk) fun b o e => Heap.get?_push_of_some _ e, turn_range _ lo (hi - lo).toNat, ?_, fun b hb => ?_, q⟩
  · have e1 : lo + ((0 : Nat) : Int) * 1 = lo := by simp
    have e2 : (((hi - lo).toNat : Nat) : Int) - ((0 : Nat) : Int) = Builtin.Range.rangeSize lo hi 1 := by rw [rangeSize_one]; split <;> omega
    show IsRangeIter _ _ (lo + ((0 : Nat) : Int) * 1) ((((hi - lo).toNat : Nat) : Int) - ((0 : Nat) : Int)) 1
    rw [e1, e2]
    exact Heap.get?_push_size _ rfl
  · have e : b = (s.heap.push { cls := .type "range", data := .fields #[.int lo t, .int hi u, .int 1 v] }).objs.size := by simpa using hb
    subst e
    exact I1.fpOk (Nat.le_refl _) (I1.hok.fresh (Nat.le_refl _))
def iRng1 (ta : TA) : TI := fun σ H R => ta σ H fun vs H1 => ∃ j : Int, vs = [.int j] ∧ -(2 ^ 62) ≤ j ∧ j < 2 ^ 62 ∧ R (Itr 0 j.toNat) H1
theorem pi_range1 {a : Expr} {ta : TA} {p pos : Pos} (hg : Gl X "range") (hm : X.mg "range" = none) (ha : PA X [a] ta) (hs : starEach [a] X.env = [(false, eval a X.env)] := by rfl) : PI X tg (.Call (.Name "range" p) [a] [] pos) (iRng1 ta) := by
  intro pins s σ H R I h
  refine Call_ (ld_blt I hg hm boot_range (PyProof.Rows.callWith_type1 (thn (ha pos pins s σ H _ I h) fun us s1 ⟨vs, H1, I1, r1, q1⟩ => ?_) hs rfl))
  obtain ⟨j, e, q1, q2, q⟩ := q1
  subst e
  cases r1 with
  | cons r rr =>
    cases rr
    obtain ⟨t, rfl⟩ := r
    exact call_range_1 (range_it I1 (by omega) (by omega) q1 q2 (by simpa using q))
/-! ### for -/
/-- W: the invariant by the turn and a measure; N: what the body is to reach -/
def tFor (wi : TI) (g : TG) (tb : TS) : TS := fun D σ H => wi σ H fun J H1 => ∃ W : Nat → Nat → St → Hp → Prop, (∃ m, W 0 m σ H1) ∧ ∀ i m σ H, W i m σ H →
  (J.stop i H ∧ D.nx σ H) ∨ (J.go i H ∧ ∃ N : St → Hp → Prop, (∀ σ' H', N σ' H' → ∃ m', m' < m ∧ W (i + 1) m' σ' H') ∧ ∀ x H', J.yld i H x H' → g x σ H' fun σ2 H2 => tb { D with nx := N, ct := N, bk := D.nx } σ2 H2)
/-- the records at fp as they stand -/
def pinsAt (fp : List Addr) (h : Heap) : List (Addr × Obj) := fp.filterMap fun b => (h.get? b).map fun o => (b, o)
theorem mem_pinsAt {fp : List Addr} {h : Heap} {b : Addr} {o : Obj} (hb : b ∈ fp) (e : h.get? b = some o) : (b, o) ∈ pinsAt fp h := List.mem_filterMap.mpr ⟨b, hb, by rw [e]; rfl⟩
theorem of_pinsAt {fp : List Addr} {h : Heap} {p : Addr × Obj} (hp : p ∈ pinsAt fp h) : p.1 ∈ fp ∧ h.get? p.1 = some p.2 := by
  obtain ⟨b, hb, e⟩ := List.mem_filterMap.mp hp
  cases q : h.get? b with
  | none => rw [q] at e; cases e
  | some o =>
    rw [q] at e
    have e' : (b, o) = p := Option.some.inj e
    subst e'
    exact ⟨hb, q⟩
theorem Inv.pinned {pins : List (Addr × Obj)} {σ : St} {H : Hp} {s : Shared} {fp : List Addr} (I : Inv X pins σ H s) (hf : ∀ b ∈ fp, FpOk X pins H b) (ho : ∀ b ∈ fp, ∃ o, s.heap.get? b = some o ∧ ∀ v, o.data ≠ .cell v) : Inv X (pins ++ pinsAt fp s.heap) σ H s :=
  I.pins_of fun p hp => (List.mem_append.mp hp).elim (fun z => I.pin p (List.mem_append_right _ z)) fun z => by
    obtain ⟨hb, e⟩ := of_pinsAt z
    obtain ⟨f0, f1, f2, _⟩ := hf p.1 hb
    obtain ⟨o, e', d⟩ := ho p.1 hb
    rw [e] at e'; cases e'
    exact ⟨e, f0, f1, f2, d⟩
theorem Inv.unpinned {pins pl : List (Addr × Obj)} {σ : St} {H : Hp} {s : Shared} (I : Inv X (pins ++ pl) σ H s) : Inv X pins σ H s := I.pins_of fun p hp => I.pin p (List.mem_append_right _ (List.mem_append_left _ hp))
theorem ps_for {iter : Expr} {body : List Stmt} {wi : TI} {g : TG} {tb : TS} {pos : Pos} (hp : PassesOwn (model X.prog X.w) X.A X.env X.xe) (hc : X.calm = true) (hi : PI X tg iter wi) (hg : PG X tg g) (hb : PSs X body tb)
    (hs : ∀ x, foldedSetIterable iter X.env x = pure x := by intro _; rfl) : PS X (.For tg iter body [] pos) (tFor wi g tb) := by
  intro pins s σ H D I h
  refine wpAny_For (thn (hi pins s σ H _ I h) fun v s1 h1 => thn h1 fun itv s2 h2 => ?_) hs
  obtain ⟨it, fp, tn, J, H2, e, I2, T, st2, f2, W, ⟨m0, w0⟩, turn⟩ := h2
  subst e
  -- what stays true of the iterator's objects through the loop
  have stat : ∀ {H' : Hp}, (∀ b ∈ fp, H' b = none) → ∀ b ∈ fp, FpOk X pins H' b := fun hn b hb => ⟨hn b hb, (f2 b hb).2⟩
  refine codeAny_forLoop_any (fun n s' => ∃ i σ' H', Inv X pins σ' H' s' ∧ tn i s'.heap ∧ (∀ b ∈ fp, H' b = none) ∧ W i n σ' H') ?_ m0 ⟨0, σ, H2, I2, st2, fun b hb => (f2 b hb).1, w0⟩
  rintro n s3 ⟨i, σ3, H3, I3, st3, fr3, w3⟩
  rcases turn i n σ3 H3 w3 with ⟨stop, qn⟩ | ⟨go, N, hN, step⟩
  · refine wpAny_passesOwn hp (thn (T.done X rfl rfl rfl hc i pins s3 σ3 H3 X.xe I3 (stat fr3) st3 stop) fun r s4 ⟨hr, I4⟩ => ?_)
    subst hr
    exact wpAny_execs_nil ⟨σ3, H3, I4, qn⟩
  · refine wpAny_passesOwn hp (thn (T.item X rfl rfl rfl hc i pins s3 σ3 H3 X.xe I3 (stat fr3) st3 go) fun r s4 ⟨u, hr, h4⟩ => ?_)
    subst hr
    refine wpAny_passesOwn hp (thn h4 fun _ s5 ⟨x, H5, I5, r5, y5, st5, fr5⟩ => ?_)
    have I5' := I5.pinned (stat fr5) (T.obj _ _ st5)
    refine wpAny_passesOwn hp (thn (hg _ s5 σ3 H5 x u _ I5' r5 (step x H5 y5)) fun _ s6 ⟨σ6, H6, I6, q6⟩ => ?_)
    refine wpAny_passesOwn hp (thn (hb _ s6 σ6 H6 _ I6 q6) fun f s7 q7 => ?_)
    have again : ∀ {σ7 : St} {H7 : Hp}, Inv X (pins ++ pinsAt fp s5.heap) σ7 H7 s7 → N σ7 H7 → ∃ m, m < n ∧ ∃ i σ' H', Inv X pins σ' H' s7 ∧ tn i s7.heap ∧ (∀ b ∈ fp, H' b = none) ∧ W i m σ' H' := fun {σ7 H7} I7 n7 => by
      obtain ⟨m', hm, w7⟩ := hN σ7 H7 n7
      refine ⟨m', hm, i + 1, σ7, H7, I7.unpinned, T.keep _ _ _ st5 fun b hb o e => (I7.pin (b, o) (List.mem_append_right _ (List.mem_append_right _ (mem_pinsAt hb e)))).1, fun b hb => ?_, w7⟩
      obtain ⟨o, e, d⟩ := T.obj _ _ st5 b hb
      exact (I7.pin (b, o) (List.mem_append_right _ (List.mem_append_right _ (mem_pinsAt hb e)))).2.1
    cases f with
    | next => obtain ⟨σ7, H7, I7, n7⟩ := q7; exact again I7 n7
    | cont => obtain ⟨σ7, H7, I7, n7⟩ := q7; exact again I7 n7
    | brk => obtain ⟨σ7, H7, I7, q7⟩ := q7; exact ⟨σ7, H7, I7.unpinned, q7⟩
    | ret v => obtain ⟨x7, σ7, H7, I7, r7, q7⟩ := q7; exact ⟨x7, σ7, H7, I7.unpinned, r7, q7⟩
end
/-! ### the forms one uses -/
/-- over a list that the body leaves as it is -/
theorem for_list {K : PySem.W.Frag} {a : Addr} {xs : List V} {g : TG} {tb : TS} {D : Ends} {σ : St} {H : Hp} (Pv : Nat → St → Hp → Prop) (h0 : Pv 0 σ H) (hl : ∀ i σ H, i ≤ xs.length → Pv i σ H → SqL K H a xs)
    (hs : ∀ i x σ H, xs[i]? = some x → Pv i σ H → g x σ H fun σ2 H2 => tb { D with nx := Pv (i + 1), ct := Pv (i + 1), bk := D.nx } σ2 H2) (hd : ∀ σ H, Pv xs.length σ H → D.nx σ H) :
    ∃ W : Nat → Nat → St → Hp → Prop, (∃ m, W 0 m σ H) ∧ ∀ i m σ H, W i m σ H →
      ((Itl K a).stop i H ∧ D.nx σ H) ∨ ((Itl K a).go i H ∧ ∃ N : St → Hp → Prop, (∀ σ' H', N σ' H' → ∃ m', m' < m ∧ W (i + 1) m' σ' H') ∧ ∀ x H', (Itl K a).yld i H x H' → g x σ H' fun σ2 H2 => tb { D with nx := N, ct := N, bk := D.nx } σ2 H2) := by
  refine ⟨fun i m σ H => m = xs.length - i ∧ i ≤ xs.length ∧ Pv i σ H, ⟨xs.length, by simp, Nat.zero_le _, h0⟩, ?_⟩
  rintro i m σ H ⟨rfl, hi, p⟩
  have q := hl i σ H hi p
  by_cases hlt : i < xs.length
  · refine .inr ⟨⟨xs, xs[i], q, by simp [hlt]⟩, Pv (i + 1), fun σ' H' p' => ⟨xs.length - (i + 1), by omega, rfl, hlt, p'⟩, fun x H' y => ?_⟩
    obtain ⟨e, y⟩ := y
    subst e
    exact hs i x σ _ (y xs q) p
  · have e : i = xs.length := by omega
    subst e
    exact .inl ⟨⟨xs, q, Nat.le_refl _⟩, hd σ H p⟩
theorem for_range {lo : Int} {n : Nat} {g : TG} {tb : TS} {D : Ends} {σ : St} {H : Hp} (Pv : Nat → St → Hp → Prop) (h0 : Pv 0 σ H)
    (hs : ∀ i σ H, i < n → Pv i σ H → g (.int (lo + i)) σ H fun σ2 H2 => tb { D with nx := Pv (i + 1), ct := Pv (i + 1), bk := D.nx } σ2 H2) (hd : ∀ σ H, Pv n σ H → D.nx σ H) :
    ∃ W : Nat → Nat → St → Hp → Prop, (∃ m, W 0 m σ H) ∧ ∀ i m σ H, W i m σ H →
      ((Itr lo n).stop i H ∧ D.nx σ H) ∨ ((Itr lo n).go i H ∧ ∃ N : St → Hp → Prop, (∀ σ' H', N σ' H' → ∃ m', m' < m ∧ W (i + 1) m' σ' H') ∧ ∀ x H', (Itr lo n).yld i H x H' → g x σ H' fun σ2 H2 => tb { D with nx := N, ct := N, bk := D.nx } σ2 H2) := by
  refine ⟨fun i m σ H => m = n - i ∧ i ≤ n ∧ Pv i σ H, ⟨n, by simp, Nat.zero_le _, h0⟩, ?_⟩
  rintro i m σ H ⟨rfl, hi, p⟩
  by_cases hlt : i < n
  · refine .inr ⟨hlt, Pv (i + 1), fun σ' H' p' => ⟨n - (i + 1), by omega, rfl, hlt, p'⟩, fun x H' y => ?_⟩
    obtain ⟨e, y⟩ := y
    subst e y
    exact hs i σ _ hlt p
  · have e : i = n := by omega
    subst e
    exact .inl ⟨Nat.le_refl _, hd σ H p⟩
end L2
namespace L2
open PySem PySem.Spec PyProof.Rows
abbrev R2 := V → V → Hp → VK → Prop
/-- a two-place operation on values: f is binaryOp op, inplaceOp op or compareOp op -/
def OpR (X : Cx) (f : Value → Value → Sem Value) (r : R2) : Prop :=
  ∀ (pins : List (Addr × Obj)) (s : Shared) (σ : St) (H : Hp) (x y : V) (v u : Value) (Q : VK), Inv X pins σ H s → RelV x v → RelV y u → r x y H Q →
    wpAny (model X.prog X.w) X.A (f v u) (EP X pins σ Q) X.xe s
/-- a one-place operation -/
def UnR (X : Cx) (f : Value → Sem Value) (r : V → Hp → VK → Prop) : Prop :=
  ∀ (pins : List (Addr × Obj)) (s : Shared) (σ : St) (H : Hp) (x : V) (v : Value) (Q : VK), Inv X pins σ H s → RelV x v → r x H Q →
    wpAny (model X.prog X.w) X.A (f v) (EP X pins σ Q) X.xe s
/-- a call of a value that is known (a builtin, a type) with values -/
def CallR (X : Cx) (f : Value) (r : List V → Hp → VK → Prop) : Prop :=
  ∀ (pins : List (Addr × Obj)) (s : Shared) (σ : St) (H : Hp) (xs : List V) (us : List Value) (Q : VK), Inv X pins σ H s → Vals xs us → r xs H Q →
    wpAny (model X.prog X.w) X.A (call f us) (EP X pins σ Q) X.xe s
/-- a value's truth -/
def TruR (X : Cx) (r : V → Hp → (Bool → Hp → Prop) → Prop) : Prop :=
  ∀ (pins : List (Addr × Obj)) (s : Shared) (σ : St) (H : Hp) (x : V) (v : Value) (Q : Bool → Hp → Prop), Inv X pins σ H s → RelV x v → r x H Q →
    wpAny (model X.prog X.w) X.A (truthy v) (TP X pins σ Q) X.xe s
def tOp (r : R2) (ta tb : TE) : TE := fun σ H Q => ta σ H fun x H1 => tb σ H1 fun y H2 => r x y H2 Q
def tUn (r : V → Hp → VK → Prop) (ta : TE) : TE := fun σ H Q => ta σ H fun x H1 => r x H1 Q
/-- ints in, under C, and a value out -/
def rI (C : Int → Int → Prop) (g : Int → Int → V) : R2 := fun x y H Q => ∃ i j, x = .int i ∧ y = .int j ∧ C i j ∧ Q (g i j) H
def rI0 (g : Int → Int → V) : R2 := fun x y H Q => ∃ i j, x = .int i ∧ y = .int j ∧ Q (g i j) H
def rU (g : Int → V) : V → Hp → VK → Prop := fun x H Q => ∃ i, x = .int i ∧ Q (g i) H
section
variable {X : Cx} {a b c : Expr} {ta tb tc : TE} {pos : Pos}
theorem binT (ha : PE X a ta) (hb : PE X b tb) {pins : List (Addr × Obj)} {s : Shared} {σ : St} {H : Hp} {R : V → V → Hp → Prop} (I : Inv X pins σ H s)
    (h : ta σ H fun x H1 => tb σ H1 fun y H2 => R x y H2) {Q : Value → Shared → Prop} {f : Value → Value → Sem Value}
    (hf : ∀ v u s2 x y H2, Inv X pins σ H2 s2 → RelV x v → RelV y u → R x y H2 → wpAny (model X.prog X.w) X.A (f v u) Q X.xe s2) :
    wpAny (model X.prog X.w) X.A (eval a X.env) (fun v s₁ => wpAny (model X.prog X.w) X.A (eval b X.env) (fun u s₂ => wpAny (model X.prog X.w) X.A (f v u) Q X.xe s₂) X.xe s₁) X.xe s := by
  refine thn (ha pins s σ H _ I h) fun v s1 ⟨x, H1, I1, r1, q1⟩ => ?_
  refine thn (hb pins s1 σ H1 _ I1 q1) fun u s2 ⟨y, H2, I2, r2, q2⟩ => ?_
  exact hf v u s2 x y H2 I2 r1 r2 q2
theorem pe_op {op : Operator} {r : R2} (ho : OpR X (binaryOp op) r) (ha : PE X a ta) (hb : PE X b tb) : PE X (.BinOp a op b pos) (tOp r ta tb) := by
  intro pins s σ H Q I h
  exact wpAny_BinOp (binT ha hb I h fun v u s2 x y H2 I2 rx ry q => ho pins s2 σ H2 x y v u Q I2 rx ry q)
theorem pe_un {op : UnaryOp} {r : V → Hp → VK → Prop} (ho : UnR X (unaryOp op) r) (ha : PE X a ta) : PE X (.UnaryOp op a pos) (tUn r ta) := by
  intro pins s σ H Q I h
  exact UnaryOp_ (thn (ha pins s σ H _ I h) fun v s1 ⟨x, H1, I1, r1, q1⟩ => ho pins s1 σ H1 x v Q I1 r1 q1)
/-! ### ints -/
theorem opI {f : Value → Value → Sem Value} {C : Int → Int → Prop} {g : Int → Int → Int}
    (rule : ∀ (i j : Int) (t u : Tok) (s : Shared) (Q : Value → Shared → Prop) (E : Value → Shared → Prop), C i j → Q (.int (g i j) s.toks) { s with toks := s.toks + 1 } → wpAny (model X.prog X.w) X.A (f (.int i t) (.int j u)) Q E s) :
    OpR X f (rI C fun i j => .int (g i j)) := by
  intro pins s σ H x y v u Q I rx ry h
  obtain ⟨i, j, rfl, rfl, hc, q⟩ := h
  obtain ⟨t, rfl⟩ := rx
  obtain ⟨t', rfl⟩ := ry
  exact rule i j t t' s _ _ hc ⟨.int (g i j), H, I.tok _, ⟨_, rfl⟩, q⟩
theorem opI0 {f : Value → Value → Sem Value} {g : Int → Int → Int}
    (rule : ∀ (i j : Int) (t u : Tok) (s : Shared) (Q : Value → Shared → Prop) (E : Value → Shared → Prop), Q (.int (g i j) s.toks) { s with toks := s.toks + 1 } → wpAny (model X.prog X.w) X.A (f (.int i t) (.int j u)) Q E s) :
    OpR X f (rI0 fun i j => .int (g i j)) := by
  intro pins s σ H x y v u Q I rx ry h
  obtain ⟨i, j, rfl, rfl, q⟩ := h
  obtain ⟨t, rfl⟩ := rx
  obtain ⟨t', rfl⟩ := ry
  exact rule i j t t' s _ _ ⟨.int (g i j), H, I.tok _, ⟨_, rfl⟩, q⟩
theorem opB0 {f : Value → Value → Sem Value} {g : Int → Int → Bool}
    (rule : ∀ (i j : Int) (t u : Tok) (s : Shared) (Q : Value → Shared → Prop) (E : Value → Shared → Prop), Q (.bool (g i j)) s → wpAny (model X.prog X.w) X.A (f (.int i t) (.int j u)) Q E s) :
    OpR X f (rI0 fun i j => .bl (g i j)) := by
  intro pins s σ H x y v u Q I rx ry h
  obtain ⟨i, j, rfl, rfl, q⟩ := h
  obtain ⟨t, rfl⟩ := rx
  obtain ⟨t', rfl⟩ := ry
  exact rule i j t t' s _ _ ⟨.bl (g i j), H, I, rfl, q⟩
def CDiv (i j : Int) : Prop := 0 < j ∧ j < 1073741824
def CPow (i j : Int) : Prop := 0 ≤ j ∧ j ≤ 1000000 ∧ i.natAbs < 2 ^ 64
def CMul (i j : Int) : Prop := (-(2 ^ 64) < i ∧ i < 2 ^ 64) ∨ (-(2 ^ 64) < j ∧ j < 2 ^ 64)
theorem CMul.ok {i j : Int} (h : CMul i j) : IntMulOk i j := by
  rcases h with ⟨h1, h2⟩ | ⟨h1, h2⟩
  · exact .of_left (intBits_le_64 h1 h2)
  · exact .of_right (intBits_le_64 h1 h2)
theorem op_add : OpR X (binaryOp .Add) (rI0 fun i j => .int (i + j)) := opI0 fun _ _ _ _ _ _ _ q => add_int q
theorem op_sub : OpR X (binaryOp .Sub) (rI0 fun i j => .int (i - j)) := opI0 fun _ _ _ _ _ _ _ q => sub_int q
theorem op_mul : OpR X (binaryOp .Mult) (rI CMul fun i j => .int (i * j)) := opI fun _ _ _ _ _ _ _ hc q => mul_int q hc.ok
/-- // by a positive divisor -/
theorem op_fdiv : OpR X (binaryOp .FloorDiv) (rI CDiv fun i j => .int (i / j)) := opI fun i j _ _ _ _ _ hc q => by
  have h1 : (0 : Int) < j := hc.1
  have h2 : j < 1073741824 := hc.2
  exact floordiv_int (by omega) (by rw [Int.fdiv_eq_ediv_of_nonneg i (by omega)]; exact q) (.inl (PyProof.noPylong_small (by omega)))
/-- % by a positive divisor of any size -/
theorem op_mod : OpR X (binaryOp .Mod) (rI (fun _ j => 0 < j) fun i j => .int (i % j)) := opI fun i j _ _ _ _ _ hc q => by
  have h1 : (0 : Int) < j := hc
  exact mod_int' (by omega) (by rw [Int.fmod_eq_emod_of_nonneg i (by omega)]; exact q)
theorem op_pow : OpR X (binaryOp .Pow) (rI CPow fun i j => .int (i ^ j.toNat)) := opI fun _ _ _ _ _ _ _ hc q => pow_int_small hc.1 hc.2.1 hc.2.2 q
end
/-! ### comparisons -/
/-- the scalars that == tells apart as data does -/
def scal : V → V → Bool
  | .non, .non => true | .non, .int _ => true | .int _, .non => true | .non, .bl _ => true | .bl _, .non => true | .non, .str _ => true | .str _, .non => true
  | .int _, .int _ => true | .bl _, .bl _ => true | .str _, .str _ => true | .byt _, .byt _ => true
  | .int _, .str _ => true | .str _, .int _ => true | .bl _, .str _ => true | .str _, .bl _ => true
  | _, _ => false
def rEq : R2 := fun x y H Q => scal x y = true ∧ Q (.bl (decide (x = y))) H
def rNe : R2 := fun x y H Q => scal x y = true ∧ Q (.bl (!decide (x = y))) H
theorem dec_int {i j : Int} : decide (V.int i = V.int j) = (i == j) := by
  rw [Bool.eq_iff_iff]
  simp
theorem dec_bl {i j : Bool} : decide (V.bl i = V.bl j) = (i == j) := by
  rw [Bool.eq_iff_iff]
  simp
theorem dec_str {i j : Str} : decide (V.str i = V.str j) = (i == j) := by
  rw [Bool.eq_iff_iff]
  simp
theorem dec_byt {i j : Array UInt8} : decide (V.byt i = V.byt j) = (i.toList == j.toList) := by
  rw [Bool.eq_iff_iff]
  cases i
  cases j
  simp
section
variable {X : Cx} {a b c : Expr} {ta tb tc : TE} {pos : Pos}
theorem fin_bl {pins : List (Addr × Obj)} {σ : St} {H : Hp} {s : Shared} {Q : VK} {k k' : Bool} (I : Inv X pins σ H s) (q : Q (.bl k) H) (e : k = k') : EP X pins σ Q (.bool k') s := by
  subst e
  exact ⟨.bl k, H, I, rfl, q⟩
theorem op_eq : OpR X (compareOp .Eq) rEq := by
  intro pins s σ H x y v u Q I rx ry h
  obtain ⟨hs, q⟩ := h
  cases x with
  | non =>
    cases rx
    cases y with
    | non => cases ry; exact PySem.EqNone.eq_none_none (fin_bl I q (by simp))
    | bl j => cases ry; exact PySem.EqNone.eq_none_bool (fin_bl I q (by simp))
    | int j => obtain ⟨t', rfl⟩ := ry; exact PySem.EqNone.eq_none_int (fin_bl I q (by simp))
    | str j => obtain ⟨t', rfl⟩ := ry; exact PySem.EqNone.eq_none_str (fin_bl I q (by simp))
    | _ => exact absurd (show false = true from hs) Bool.false_ne_true
  | bl i =>
    cases rx
    cases y with
    | non => cases ry; exact PySem.EqNone.eq_bool_none (fin_bl I q (by simp))
    | bl j => cases ry; exact eq_bool (fin_bl I q dec_bl)
    | str j => obtain ⟨t', rfl⟩ := ry; exact PySem.EqMixed.eq_bool_str (fin_bl I q (by simp))
    | _ => exact absurd (show false = true from hs) Bool.false_ne_true
  | int i =>
    obtain ⟨t, rfl⟩ := rx
    cases y with
    | non => cases ry; exact PySem.EqNone.eq_int_none (fin_bl I q (by simp))
    | int j => obtain ⟨t', rfl⟩ := ry; exact eq_int (fin_bl I q dec_int)
    | str j => obtain ⟨t', rfl⟩ := ry; exact PySem.EqMixed.eq_int_str (fin_bl I q (by simp))
    | _ => exact absurd (show false = true from hs) Bool.false_ne_true
  | str i =>
    obtain ⟨t, rfl⟩ := rx
    cases y with
    | non => cases ry; exact PySem.EqNone.eq_str_none (fin_bl I q (by simp))
    | bl j => cases ry; exact PySem.EqMixed.eq_str_bool (fin_bl I q (by simp))
    | int j => obtain ⟨t', rfl⟩ := ry; exact PySem.EqMixed.eq_str_int (fin_bl I q (by simp))
    | str j => obtain ⟨t', rfl⟩ := ry; exact eq_str (fin_bl I q dec_str)
    | _ => exact absurd (show false = true from hs) Bool.false_ne_true
  | byt i =>
    obtain ⟨t, rfl⟩ := rx
    cases y with
    | byt j => obtain ⟨t', rfl⟩ := ry; exact PySem.W.eq_bytes (fin_bl I q dec_byt)
    | _ => exact absurd (show false = true from hs) Bool.false_ne_true
  | _ => cases y <;> exact absurd (show false = true from hs) Bool.false_ne_true
theorem op_ne : OpR X (compareOp .NotEq) rNe := by
  intro pins s σ H x y v u Q I rx ry h
  obtain ⟨hs, q⟩ := h
  cases x with
  | non =>
    cases rx
    cases y with
    | non => cases ry; exact PySem.EqNone.ne_none_none (fin_bl I q (by simp))
    | bl j => cases ry; exact PySem.EqNone.ne_none_bool (fin_bl I q (by simp))
    | int j => obtain ⟨t', rfl⟩ := ry; exact PySem.EqNone.ne_none_int (fin_bl I q (by simp))
    | str j => obtain ⟨t', rfl⟩ := ry; exact PySem.EqNone.ne_none_str (fin_bl I q (by simp))
    | _ => exact absurd (show false = true from hs) Bool.false_ne_true
  | bl i =>
    cases rx
    cases y with
    | non => cases ry; exact PySem.EqNone.ne_bool_none (fin_bl I q (by simp))
    | bl j => cases ry; exact ne_bool (fin_bl I q (congrArg not dec_bl))
    | str j => obtain ⟨t', rfl⟩ := ry; exact PySem.EqMixed.ne_bool_str (fin_bl I q (by simp))
    | _ => exact absurd (show false = true from hs) Bool.false_ne_true
  | int i =>
    obtain ⟨t, rfl⟩ := rx
    cases y with
    | non => cases ry; exact PySem.EqNone.ne_int_none (fin_bl I q (by simp))
    | int j => obtain ⟨t', rfl⟩ := ry; exact ne_int (fin_bl I q (congrArg not dec_int))
    | str j => obtain ⟨t', rfl⟩ := ry; exact PySem.EqMixed.ne_int_str (fin_bl I q (by simp))
    | _ => exact absurd (show false = true from hs) Bool.false_ne_true
  | str i =>
    obtain ⟨t, rfl⟩ := rx
    cases y with
    | non => cases ry; exact PySem.EqNone.ne_str_none (fin_bl I q (by simp))
    | bl j => cases ry; exact PySem.EqMixed.ne_str_bool (fin_bl I q (by simp))
    | int j => obtain ⟨t', rfl⟩ := ry; exact PySem.EqMixed.ne_str_int (fin_bl I q (by simp))
    | str j => obtain ⟨t', rfl⟩ := ry; exact ne_str (fin_bl I q (congrArg not dec_str))
    | _ => exact absurd (show false = true from hs) Bool.false_ne_true
  | byt i =>
    obtain ⟨t, rfl⟩ := rx
    cases y with
    | byt j => obtain ⟨t', rfl⟩ := ry; exact PySem.W.ne_bytes (fin_bl I q (congrArg not dec_byt))
    | _ => exact absurd (show false = true from hs) Bool.false_ne_true
  | _ => cases y <;> exact absurd (show false = true from hs) Bool.false_ne_true
theorem op_lt : OpR X (compareOp .Lt) (rI0 fun i j => .bl (decide (i < j))) := opB0 fun _ _ _ _ _ _ _ q => lt_int q
theorem op_le : OpR X (compareOp .LtE) (rI0 fun i j => .bl (decide (i ≤ j))) := opB0 fun _ _ _ _ _ _ _ q => le_int q
theorem op_gt : OpR X (compareOp .Gt) (rI0 fun i j => .bl (decide (j < i))) := opB0 fun _ _ _ _ _ _ _ q => gt_int q
/-- is None, is not None: the right side a value none -/
theorem op_isN : OpR X (compareOp .Is) (fun x y H Q => y = .non ∧ Q (.bl (decide (x = .non))) H) := by
  intro pins s σ H x y v u Q I rx ry h
  obtain ⟨rfl, q⟩ := h
  cases ry
  refine is_none_gen (fin_bl I q ?_)
  cases x <;> first
    | (cases rx; rfl)
    | (obtain ⟨t, rfl⟩ := rx; rfl)
theorem op_notN : OpR X (compareOp .IsNot) (fun x y H Q => y = .non ∧ Q (.bl (!decide (x = .non))) H) := by
  intro pins s σ H x y v u Q I rx ry h
  obtain ⟨rfl, q⟩ := h
  cases ry
  refine isnot_none_gen (fin_bl I q ?_)
  cases x <;> first
    | (cases rx; rfl)
    | (obtain ⟨t, rfl⟩ := rx; rfl)
theorem nomark (b : Expr) {op : CmpOp} (h : op ≠ .In := by decide) (h2 : op ≠ .NotIn := by decide) : behindInMarks op b = false := by
  have e1 : (op == CmpOp.In) = false := by cases op <;> first | rfl | exact absurd rfl h
  have e2 : (op == CmpOp.NotIn) = false := by cases op <;> first | rfl | exact absurd rfl h2
  cases b <;> simp [behindInMarks, e1, e2]
/-- a comparison as a value; hm: nomark b, or (for in, not in) by with_unfolding_all rfl -/
theorem pe_cmpR {op : CmpOp} {r : R2} (ho : OpR X (compareOp op) r) (ha : PE X a ta) (hb : PE X b tb) (hm : behindInMarks op b = false) : PE X (.Compare a [op] [b] pos) (tOp r ta tb) := by
  intro pins s σ H Q I h
  exact wpAny_Compare1 (binT ha hb I h fun v u s2 x y H2 I2 rx ry q => ho pins s2 σ H2 x y v u Q I2 rx ry q) hm
/-- a reading of a value as a test -/
def tTest (t : TE) : TT := fun σ H Q => t σ H fun x H' => ∃ k, x = .bl k ∧ Q k H'
theorem pt_cmpR {op : CmpOp} {r : R2} (ho : OpR X (compareOp op) r) (ha : PE X a ta) (hb : PE X b tb) (hm : behindInMarks op b = false) : PT X (.Compare a [op] [b] pos) (tTest (tOp r ta tb)) := by
  intro pins s σ H Q I h
  refine wpAny_isTrue_Compare1 (thn (ha pins s σ H _ I h) fun v s1 ⟨x, H1, I1, r1, q1⟩ => thn (hb pins s1 σ H1 _ I1 q1) fun u s2 ⟨y, H2, I2, r2, q2⟩ =>
    thn (ho pins s2 σ H2 x y v u _ I2 r1 r2 q2) fun c s3 ⟨z, H3, I3, r3, k, e, q3⟩ => ?_) hm
  subst e
  cases r3
  exact wpAny_truthy_bool ⟨H3, I3, q3⟩
/-- a op1 b op2 c -/
def tChain (r r' : R2) (ta tb tc : TE) : TE := fun σ H Q => ta σ H fun x H1 => tb σ H1 fun y H2 => r x y H2 fun z H3 => ∃ k, z = .bl k ∧
  (if k = true then tc σ H3 fun w' H4 => r' y w' H4 Q else Q (.bl false) H3)
theorem pe_chain {op op' : CmpOp} {r r' : R2} (ho : OpR X (compareOp op) r) (ho' : OpR X (compareOp op') r') (ha : PE X a ta) (hb : PE X b tb) (hc : PE X c tc)
    (hm : lastMarks [op, op'] [b, c] = false := by with_unfolding_all rfl) : PE X (.Compare a [op, op'] [b, c] pos) (tChain r r' ta tb tc) := by
  intro pins s σ H Q I h
  refine Compare_chain (thn (ha pins s σ H _ I h) fun v s1 ⟨x, H1, I1, r1, q1⟩ => chain_link (thn (hb pins s1 σ H1 _ I1 q1) fun u s2 ⟨y, H2, I2, r2, q2⟩ =>
    thn (ho pins s2 σ H2 x y v u _ I2 r1 r2 q2) fun d s3 ⟨z, H3, I3, r3, k, e, q3⟩ => ?_)) hm
  subst e
  cases r3
  refine wpAny_truthy_bool ?_
  cases k with
  | false => exact ite_ff ⟨.bl false, H3, I3, rfl, q3⟩
  | true => exact ite_tt (chain_last (thn (hc pins s3 σ H3 _ I3 q3) fun w' s4 ⟨z', H4, I4, r4, q4⟩ => ho' pins s4 σ H4 y z' u w' Q I4 r2 r4 q4))
/-! ### truth -/
/-- a value's truth by the abstract heap -/
def TruV (K : PySem.W.Frag) (x : V) (H : Hp) (k : Bool) : Prop :=
  match x with
  | .non => k = false
  | .bl b => k = b
  | .int i => k = (i != 0)
  | .str y => y.length ≤ sizeLine ∧ k = ((y.length : Int) != 0)
  | .byt y => y.size ≤ sizeLine ∧ k = ((y.size : Int) != 0)
  | .ref p => (∃ xs, SqL K H p xs ∧ k = !xs.isEmpty) ∨ (∃ xs, SqT K H p xs ∧ k = !xs.isEmpty) ∨ ∃ kvs, H p = some (.dK kvs) ∧ k = !kvs.isEmpty
  | _ => False
theorem isEmpty_kv {κ : Type} {kvs : List (κ × V)} {vs : List (κ × Value)} (r : KV kvs vs) : (!vs.isEmpty) = !kvs.isEmpty := by
  cases r <;> rfl
theorem isEmpty_of {xs : List V} {its : List Value} (r : Vals xs its) : (!its.toArray.isEmpty) = !xs.isEmpty := by
  cases r <;> simp
theorem line63 : (sizeLine : Nat) < 2 ^ 63 := by rw [sizeLine_eq]; decide
theorem tru_ok : TruR X (fun x H Q => ∃ k, TruV X.K x H k ∧ Q k H) := by
  intro pins s σ H x v Q I rx h
  obtain ⟨k, e, q⟩ := h
  have hl := line63
  have hs : sizeLine = 16777216 := sizeLine_eq
  cases x with
  | non =>
    cases rx
    have e' : k = false := e
    subst e'
    exact truthy_none ⟨H, I, q⟩
  | bl b =>
    cases rx
    have e' : k = b := e
    subst e'
    exact wpAny_truthy_bool ⟨H, I, q⟩
  | int i =>
    obtain ⟨t, rfl⟩ := rx
    have e' : k = (i != 0) := e
    subst e'
    exact PySem.P.truthy_int ⟨H, I, q⟩
  | str y =>
    obtain ⟨t, rfl⟩ := rx
    obtain ⟨hy, e'⟩ : y.length ≤ sizeLine ∧ k = ((y.length : Int) != 0) := e
    subst e'
    exact PySem.P.truthy_str (by omega) ⟨H, I.tok _, q⟩
  | byt y =>
    obtain ⟨t, rfl⟩ := rx
    obtain ⟨hy, e'⟩ : y.size ≤ sizeLine ∧ k = ((y.size : Int) != 0) := e
    subst e'
    exact PySem.W.truthy_bytes (by omega) ⟨H, I.tok _, q⟩
  | ref p =>
    cases rx
    have e' : (∃ xs, SqL X.K H p xs ∧ k = !xs.isEmpty) ∨ (∃ xs, SqT X.K H p xs ∧ k = !xs.isEmpty) ∨ ∃ kvs, H p = some (.dK kvs) ∧ k = !kvs.isEmpty := e
    rcases e' with ⟨xs, hx, e'⟩ | ⟨xs, hx, e'⟩ | ⟨kvs, hx, e'⟩
    · subst e'
      obtain ⟨its, r, pl, hz⟩ := I.list hx
      have hlen := r.length
      exact wpAny_truthy_list pl.isList (by simp only [List.size_toArray]; omega) ⟨H, I.tok _, by rw [isEmpty_of r]; exact q⟩
    · subst e'
      obtain ⟨its, r, pl, hz⟩ := I.tuple hx
      have hlen := r.length
      exact truthy_tuple pl (by simp only [List.size_toArray]; omega) ⟨H, I.tok _, by rw [isEmpty_of r]; exact q⟩
    · subst e'
      obtain ⟨hz, hS, vs, r, m⟩ : kvs.length ≤ sizeLine ∧ (p == sysModules) = false ∧ ∃ vs, KV kvs vs ∧ s.heap.DictOf (mixKind X.prog X.w) p vs := I.hok p _ hx
      have hlen : kvs.length = vs.length := Paired.length r
      exact wpAny_truthy_dict hS m (by omega) ⟨H, I.tok _, by rw [isEmpty_kv r]; exact q⟩
  | _ => exact (show False from e).elim
/-! ### scalar builtins, by CallR -/
theorem vals1 {x : V} {us : List Value} (r : Vals [x] us) : ∃ u, us = [u] ∧ RelV x u := by
  cases r with
  | cons r1 r2 => cases r2; exact ⟨_, rfl, r1⟩
/-- len of a str, a bytes, a list, a tuple -/
def LenV (K : PySem.W.Frag) (x : V) (H : Hp) (n : Nat) : Prop :=
  match x with
  | .str y => y.length ≤ sizeLine ∧ n = y.length
  | .byt y => y.size ≤ sizeLine ∧ n = y.size
  | .ref p => (∃ xs, SqL K H p xs ∧ n = xs.length) ∨ ∃ xs, SqT K H p xs ∧ n = xs.length
  | _ => False
theorem call_len : CallR X (.builtin "len") (fun xs H Q => ∃ x n, xs = [x] ∧ LenV X.K x H n ∧ Q (.int n) H) := by
  intro pins s σ H xs us Q I r h
  obtain ⟨x, n, rfl, e, q⟩ := h
  obtain ⟨u, rfl, rx⟩ := vals1 r
  have hl := line63
  have hs : sizeLine = 16777216 := sizeLine_eq
  cases x with
  | str y =>
    obtain ⟨t, rfl⟩ := rx
    obtain ⟨hy, e'⟩ : y.length ≤ sizeLine ∧ n = y.length := e
    subst e'
    exact len_str (by omega) ⟨.int _, H, I.tok _, ⟨_, rfl⟩, q⟩
  | byt y =>
    obtain ⟨t, rfl⟩ := rx
    obtain ⟨hy, e'⟩ : y.size ≤ sizeLine ∧ n = y.size := e
    subst e'
    exact PySem.W.len_bytes (by omega) ⟨.int _, H, I.tok _, ⟨_, rfl⟩, q⟩
  | ref p =>
    cases rx
    have e' : (∃ xs, SqL X.K H p xs ∧ n = xs.length) ∨ ∃ xs, SqT X.K H p xs ∧ n = xs.length := e
    rcases e' with ⟨xs, hx, e'⟩ | ⟨xs, hx, e'⟩
    · subst e'
      obtain ⟨its, r', pl, hz⟩ := I.list hx
      have hlen := r'.length
      exact Calls.call_len_list pl.isList (by simp only [List.size_toArray]; omega) ⟨.int xs.length, H, I.tok _, ⟨_, by simp only [List.size_toArray]; rw [hlen]⟩, q⟩
    · subst e'
      obtain ⟨its, r', pl, hz⟩ := I.tuple hx
      have hlen := r'.length
      exact len_tuple pl (by simp only [List.size_toArray]; omega) ⟨.int xs.length, H, I.tok _, ⟨_, by simp only [List.size_toArray]; rw [hlen]⟩, q⟩
  | _ => exact (show False from e).elim
end
end L2
namespace L2
open PySem PySem.Spec PyProof.Rows
/-! ### an instance, its attributes a map -/
structure ObjM (h : Heap) (x dx C : Addr) (mA : Str → Option Value) : Prop where
  obj : h.get? x = some (PySem.W.instObj C dx)
  ns : h.Ns1 dx mA
  ne : dx ≠ x
theorem lookIn_ns {h : Heap} {dx : Addr} {mA : Str → Option Value} (n : h.Ns1 dx mA) : ∃ od, h.get? dx = some od ∧ ∀ name, PySem.W.lookIn name od = some (mA name) := by
  obtain ⟨o, es, ep, ho, hd, hk, _, hm⟩ := n
  refine ⟨o, ho, fun name => ?_⟩
  have e := hm name
  unfold nsFind findBy at e
  rw [← Array.find?_toList] at e
  unfold PySem.W.lookIn
  rw [hd]
  dsimp only
  split
  · rename_i y q
    rw [q] at e
    exact congrArg some e
  · rename_i q
    rw [q] at e
    have a : es.toList.any (·.refKey) = false := by
      rw [List.any_eq_false]
      intro y hy
      obtain ⟨z, t, hkey⟩ := hk y (Array.mem_toList_iff.mp hy)
      simp [DictEntry.refKey, hkey]
    have a' : ¬ es.toList.any (·.refKey) = true := by rw [a]; exact Bool.false_ne_true
    rw [if_neg a']
    exact congrArg some e
theorem ObjM.look {h : Heap} {x dx C : Addr} {mA : Str → Option Value} (I : ObjM h x dx C mA) : ∃ od, PySem.W.InstAt h x (PySem.W.instObj C dx) C (some od) ∧ ∀ name, PySem.W.lookIn name od = some (mA name) :=
  let ⟨od, ho, hl⟩ := lookIn_ns I.ns
  ⟨od, ⟨I.obj, rfl, rfl, ho⟩, hl⟩
section
variable {prog : Program} {w : World} {A : Around} {E : Value → Shared → Prop} {s : Shared} {K : PySem.W.Frag} {x dx C f : Addr} {mA : Str → Option Value} {name : Str} {v : Value}
theorem get_map {expr : Bool} {Q : Value → Shared → Prop} (X : K.In s.heap) (I : ObjM s.heap x dx C mA) (hg : PySem.W.plainGet K C name = true) (hh : PySem.W.hasDictIn K C = true)
    (ha : PySem.W.findIn K (.ref C) name = some none) (hv : mA name = some v) (hv' : PySem.W.handedIn v = true) (h : Q v { s with toks := s.toks + 1 }) :
    wpAny (model prog w) A (getAttr (.ref x) name expr) Q E s := by
  obtain ⟨od, J, hl⟩ := I.look
  exact PySem.W.get_value X J (PySem.W.plainGet_of hg).1 (PySem.W.findObj_own hh ha rfl (by rw [hl, hv])) hv' h
theorem get_meth {pl : Sem Bool} {Q : Value × List Value → Shared → Prop} (X : K.In s.heap) (I : ObjM s.heap x dx C mA) (hg : PySem.W.plainGet K C name = true)
    (hf : PySem.W.findIn K (.ref C) name = some (some (.ref f))) (ht : PySem.W.isFn K (.ref f) = true) (hv : mA name = none) (h : Q (.ref f, [.ref x]) s) :
    wpAny (model prog w) A (getMethod (.ref x) name pl) Q E s := by
  obtain ⟨od, J, hl⟩ := I.look
  exact PySem.W.method_fn X J (PySem.W.plainGet_of hg).1 (PySem.W.plainGet_of hg).2 hf (beq_iff_eq.mp ht) (by show (PySem.W.lookIn name od).map (·.isSome) = some false; rw [hl, hv]; rfl) h
theorem set_map {ns : List Str} {Q : Unit → Shared → Prop} (X : K.In s.heap) (I : ObjM s.heap x dx C mA)
    (hs : PySem.W.findIn K (.ref C) "__setattr__" = some (some (.builtin "object.__setattr__"))) (hp : PySem.W.plainOver K C = true) (ht : PySem.W.takerIn K C name = some none) (hh : PySem.W.hasDictIn K C = true)
    (hw : PySem.Within mA ns) (hsz : ns.length ≤ sizeLine)
    (h : ∀ h', ObjM h' x dx C (fun y => if y = name then some v else mA y) → Heap.SameBut dx s.heap h' → Q () { s with heap := h', toks := s.toks + 2 }) :
    wpAny (model prog w) A (setAttr (.ref x) name v) Q E s := by
  obtain ⟨od, J, hl⟩ := I.look
  refine PySem.W.set_plain X J hs (PySem.W.osa_open (s := { s with toks := s.toks + 1 }) (r := none) X J hp ht fun b => ?_)
  obtain ⟨cd, hc, hd'⟩ := PySem.W.any_some hh
  have hx : s.heap.get? x = some ⟨.ref C, some dx, .plain, #[]⟩ := I.obj
  refine wpAny_bind (wpAny_pure (wpAny_bind (wpAny_bind (wpAny_loadPart hx (wpAny_bind (PySem.W.Looks.here (s := { s with toks := s.toks + 1 }) (PySem.W.looks_clsIn X hc) ?_))))))
  rw [hd']
  refine wpAny_pure (a := some dx) (wpAny_bind (wpAny_pure (wpAny_bind ?_)))
  refine wpAny_nsSet1 (s := { s with toks := s.toks + 1 }) I.ns fun h' hn2 hs2 => ?_
  obtain ⟨oD, esD, epD, hoD, hdD, hcD⟩ := hn2.count (PySem.Within.cons name v hw)
  refine wpAny_bind (wpAny_lookBehind hoD (by rw [hdD]; exact pastItsLine_dict (Nat.le_trans hcD (by rw [List.length_cons]; omega))) ?_)
  exact wpAny_pure (h _ ⟨(hs2.2 _ (Ne.symm I.ne)).trans I.obj, hn2, I.ne⟩ hs2)
/-- C(..): the dict at the heap's end, the instance behind it; then its __init__ -/
theorem make_map {R : Result → Shared → Prop} {vs : List Value} {kw : List (Str × Value)} (X : K.In s.heap) (hm : PySem.W.makesIn K C = true)
    (hi : PySem.W.findIn K (.ref C) "__init__" = some (some (.ref f))) (hf : PySem.W.typeIn K (.ref f) = some (.type "function"))
    (h : codeAny (model prog w) (A.under (.builtin "type.__call__" ⟨.ref C :: vs, kw⟩)) (.call (.ref f) ⟨.ref (s.heap.objs.size + 1) :: vs, kw⟩) (PySem.W.InitBack (s.heap.objs.size + 1) R)
      { s with heap := (s.heap.push PySem.W.emptyDict).push (PySem.W.instObj C s.heap.objs.size) }) :
    codeAny (model prog w) A (.call (.ref C) ⟨vs, kw⟩) R s := by
  obtain ⟨hh, g, d, t, os⟩ := s
  exact PySem.W.make_core (PySem.W.makes_of X hm) (PySem.W.looks_findIn X hi) (fun self => PySem.W.bind_fn X self hf) (.inl rfl) h
end
/-! ### the attributes as a list of pairs -/
def putF (f : Str) (v : V) : List (Str × V) → List (Str × V)
  | [] => [(f, v)]
  | (g, x) :: r => if g = f then (g, v) :: r else (g, x) :: putF f v r
theorem lookup_putF (f g : Str) (v : V) : ∀ fs : List (Str × V), (putF f v fs).lookup g = if g = f then some v else fs.lookup g
  | [] => by
    show List.lookup g [(f, v)] = _
    by_cases h : g = f
    · have hb : (g == f) = true := beq_iff_eq.mpr h
      simp only [List.lookup, hb, if_pos h]
    · have hb : (g == f) = false := beq_eq_false_iff_ne.mpr h
      simp only [List.lookup, hb, if_neg h]
  | (k, x) :: r => by
    have ih := lookup_putF f g v r
    rw [show putF f v ((k, x) :: r) = (if k = f then (k, v) :: r else (k, x) :: putF f v r) from rfl]
    by_cases hk : k = f
    · rw [if_pos hk]
      by_cases h : g = k
      · have hb : (g == k) = true := beq_iff_eq.mpr h
        simp only [List.lookup, hb, if_pos (h.trans hk)]
      · have hb : (g == k) = false := beq_eq_false_iff_ne.mpr h
        simp only [List.lookup, hb, if_neg (fun e : g = f => h (e.trans hk.symm))]
    · rw [if_neg hk]
      by_cases h : g = k
      · have hb : (g == k) = true := beq_iff_eq.mpr h
        simp only [List.lookup, hb, if_neg (fun e : g = f => hk (h.symm.trans e))]
      · have hb : (g == k) = false := beq_eq_false_iff_ne.mpr h
        simp only [List.lookup, hb]
        exact ih
theorem keys_putF (f : Str) (v : V) : ∀ fs : List (Str × V), f ∈ (putF f v fs).map (·.1) ∧ ∀ g, g ∈ fs.map (·.1) → g ∈ (putF f v fs).map (·.1)
  | [] => ⟨by simp [putF], fun g h => by simp at h⟩
  | (k, x) :: r => by
    obtain ⟨i1, i2⟩ := keys_putF f v r
    rw [show putF f v ((k, x) :: r) = (if k = f then (k, v) :: r else (k, x) :: putF f v r) from rfl]
    by_cases hk : k = f
    · rw [if_pos hk]
      subst hk
      exact ⟨by simp, fun g h => by simpa using h⟩
    · rw [if_neg hk]
      refine ⟨?_, fun g h => ?_⟩
      · rw [List.map_cons]
        exact List.mem_cons_of_mem _ i1
      · rw [List.map_cons] at h ⊢
        rcases List.mem_cons.mp h with e | e
        · exact List.mem_cons.mpr (.inl e)
        · exact List.mem_cons_of_mem _ (i2 g e)
theorem length_putF (f : Str) (v : V) : ∀ fs : List (Str × V), (putF f v fs).length ≤ fs.length + 1
  | [] => by simp [putF]
  | (k, x) :: r => by
    have ih := length_putF f v r
    rw [show putF f v ((k, x) :: r) = (if k = f then (k, v) :: r else (k, x) :: putF f v r) from rfl]
    by_cases hk : k = f
    · rw [if_pos hk, List.length_cons, List.length_cons]; omega
    · rw [if_neg hk, List.length_cons, List.length_cons]; omega
theorem RelO.some_of {v : V} {o : Option Value} (r : RelO (some v) o) : ∃ u, o = some u ∧ RelV v u := by
  cases o with
  | none => exact (show False from r).elim
  | some u => exact ⟨u, rfl, r⟩
theorem RelO.none_of {o : Option Value} (r : RelO none o) : o = none := by
  cases o with
  | none => rfl
  | some u => exact (show False from r).elim
theorem handed_of {v : V} {u : Value} (r : RelV v u) : PySem.W.handedIn u = true := by
  cases v with
  | non => cases (show u = Value.none from r); rfl
  | bl b => cases (show u = Value.bool b from r); rfl
  | int i => obtain ⟨t, e⟩ := (show ∃ t, u = Value.int i t from r); cases e; rfl
  | str x => obtain ⟨t, e⟩ := (show ∃ t, u = Value.str x t from r); cases e; rfl
  | byt b => obtain ⟨t, e⟩ := (show ∃ t, u = Value.bytes b t from r); cases e; rfl
  | flt b => obtain ⟨t, e⟩ := (show ∃ t, u = Value.float b t from r); cases e; rfl
  | ref a => cases (show u = Value.ref a from r); rfl
  | ty n => cases (show u = Value.type n from r); rfl
section
variable {P : Program} {w : World} {H H' : Hp} {h h' : Heap} {a C dx : Addr} {fs fs' : List (Str × V)}
theorem ins_get (hok : HOk P w H h) (e : H a = some (.ins C dx fs)) : ∃ mA, ObjM h a dx C mA ∧ (∀ f, RelO (fs.lookup f) (mA f)) ∧ PySem.Within mA (fs.map (·.1)) ∧ fs.length ≤ 1000 ∧ H dx = some (.own a) := by
  obtain ⟨d, z, ne, ob, mA, n, r, q⟩ := (show ObjOk P w H h a (.ins C dx fs) from hok a _ e)
  exact ⟨mA, ⟨ob, n, ne⟩, r, q, z, d⟩
end
/-! ### what of the text a class must have -/
structure Cls (K : PySem.W.Frag) (C : Addr) : Prop where
  pg : PySem.W.plainGet K C Str.empty = true
  hd : PySem.W.hasDictIn K C = true
  po : PySem.W.plainOver K C = true
  sa : PySem.W.findIn K (.ref C) "__setattr__" = some (some (.builtin "object.__setattr__"))
theorem Cls.get {K : PySem.W.Frag} {C : Addr} (c : Cls K C) (f : Str) : PySem.W.plainGet K C f = true := c.pg
/-- no class of it has the name -/
def NoAttr (K : PySem.W.Frag) (C : Addr) (f : Str) : Prop := PySem.W.findIn K (.ref C) f = some none
theorem NoAttr.taker {K : PySem.W.Frag} {C : Addr} {f : Str} (n : NoAttr K C f) : PySem.W.takerIn K C f = some none := by
  unfold PySem.W.takerIn
  rw [show PySem.W.findIn K (.ref C) f = some none from n]
  rfl
/-- a method: a plain def of the class or of one above it -/
structure Meth (K : PySem.W.Frag) (C : Addr) (m : Str) (f : Addr) : Prop where
  at_ : PySem.W.findIn K (.ref C) m = some (some (.ref f))
  fn : PySem.W.isFn K (.ref f) = true
  kp : PySem.W.keepIn K (.ref f) = true
section
variable {X : Cx} {pins : List (Addr × Obj)} {σ : St} {H : Hp} {s : Shared} {a C dx : Addr} {fs : List (Str × V)} {f : Str} {v : V} {A : Around} {E : Value → Shared → Prop}
theorem getattr_ok {b : Bool} {Q : Value → Shared → Prop} (I : Inv X pins σ H s) (e : H a = some (.ins C dx fs)) (c : Cls X.K C) (n : NoAttr X.K C f) (l : fs.lookup f = some v)
    (h : ∀ u s', Inv X pins σ H s' → RelV v u → Q u s') : wpAny (model X.prog X.w) A (getAttr (.ref a) f b) Q E s := by
  obtain ⟨mA, O, r, _, _, _⟩ := ins_get I.hok e
  obtain ⟨u, hu, ru⟩ := RelO.some_of (v := v) (o := mA f) (by rw [← l]; exact r f)
  exact get_map I.kIn O (c.get f) c.hd n hu (handed_of ru) (h u _ (I.tok _) ru)
theorem getmeth_ok {m : Str} {g : Addr} {pl : Sem Bool} {Q : Value × List Value → Shared → Prop} (I : Inv X pins σ H s) (e : H a = some (.ins C dx fs)) (c : Cls X.K C) (k : Meth X.K C m g) (l : fs.lookup m = none)
    (h : Q (.ref g, [.ref a]) s) : wpAny (model X.prog X.w) A (getMethod (.ref a) m pl) Q E s := by
  obtain ⟨mA, O, r, _, _, _⟩ := ins_get I.hok e
  have hn : mA m = none := RelO.none_of (by rw [← l]; exact r m)
  exact get_meth I.kIn O (c.get m) k.at_ k.fn hn h
theorem setattr_ok {y : V} {u : Value} {Q : Unit → Shared → Prop} (I : Inv X pins σ H s) (e : H a = some (.ins C dx fs)) (c : Cls X.K C) (n : NoAttr X.K C f) (hl : fs.length < 1000) (ry : RelV y u)
    (h : ∀ s', Inv X pins σ (upd H a (.ins C dx (putF f y fs))) s' → Q () s') : wpAny (model X.prog X.w) A (setAttr (.ref a) f u) Q E s := by
  obtain ⟨mA, O, r, wi, _, ho⟩ := ins_get I.hok e
  have hz : (fs.map (·.1)).length ≤ sizeLine := by rw [List.length_map, sizeLine_eq]; omega
  refine set_map I.kIn O c.sa c.po n.taker c.hd wi hz fun h' O' sb => h _ ?_
  have hd : ∃ o, h'.get? dx = some o := let ⟨o, _, _, e', _⟩ := O'.ns; ⟨o, e'⟩
  refine I.write (x := a) (e := dx) (by rw [e]; exact True.intro) (.inr ho) (fun b q hb z => (sb.2 b hb).trans z) hd ?_
  refine ⟨by rw [upd_ne O.ne]; exact ho, ?_, O.ne, O'.obj, _, O'.ns, fun g => ?_, fun g hg => ?_⟩
  · have := length_putF f y fs; omega
  · show RelO ((putF f y fs).lookup g) (if g = f then some u else mA g)
    rw [lookup_putF]
    by_cases q : g = f
    · rw [if_pos q, if_pos q]; exact ry
    · rw [if_neg q, if_neg q]; exact r g
  · by_cases q : g = f
    · rw [q]; exact (keys_putF f y fs).1
    · refine (keys_putF f y fs).2 g (wi g fun z => hg ?_)
      show (if g = f then some u else mA g) = none
      rw [if_neg q]; exact z
/-- a new instance, tracked, without attributes -/
theorem Inv.made (I : Inv X pins σ H s) : Inv X pins σ (upd (upd H s.heap.objs.size (.own (s.heap.objs.size + 1))) (s.heap.objs.size + 1) (.ins C s.heap.objs.size []))
    { s with heap := (s.heap.push PySem.W.emptyDict).push (PySem.W.instObj C s.heap.objs.size) } := by
  have e1 : (s.heap.push PySem.W.emptyDict).get? s.heap.objs.size = some PySem.W.emptyDict := Heap.get?_push_size s.heap rfl
  have e2 : ((s.heap.push PySem.W.emptyDict).push (PySem.W.instObj C s.heap.objs.size)).get? (s.heap.objs.size + 1) = some (PySem.W.instObj C s.heap.objs.size) := by
    have := Heap.get?_push_size (s.heap.push PySem.W.emptyDict) (o := PySem.W.instObj C s.heap.objs.size) rfl
    rwa [Heap.size_push] at this
  have e3 : (s.heap.push PySem.W.emptyDict).Ns s.heap.objs.size (fun _ => none) := ⟨PySem.W.emptyDict, #[], _, e1, rfl, (fun e he => absurd he (by simp)), fun _ => rfl⟩
  have I1 := I.laid (a := s.heap.objs.size) (o := .own (s.heap.objs.size + 1)) (h' := s.heap.push PySem.W.emptyDict) (t' := s.toks) (fun b u q => Heap.get?_push_of_some _ q) (Nat.le_refl _) ⟨_, e1⟩
  refine I1.laid (a := s.heap.objs.size + 1) (o := .ins C s.heap.objs.size []) (t' := s.toks) (fun b u q => Heap.get?_push_of_some _ q) (Nat.le_of_eq (Heap.size_push _ _)) ?_
  have ne : s.heap.objs.size ≠ s.heap.objs.size + 1 := Nat.ne_of_lt (Nat.lt_succ_self _)
  refine ⟨by rw [upd_ne ne, upd_same], Nat.zero_le _, ne, e2, fun _ => none, (Heap.Ns1.of_empty e3).at fun o q => Heap.get?_push_of_some _ q, fun _ => True.intro, fun y hy => absurd rfl hy⟩
/-- e.f where nothing but the object is asked: through attributeBase (super) and the last hold -/
theorem attr_of {prog : Program} {w : World} {env : Env} {e : Expr} {f : Str} {pos : Pos} {s : Shared} {Q : Value → Shared → Prop} (hb : attributeBase e f env (eval e env) = eval e env)
    (h : wpAny (model prog w) A (eval e env) (fun o s₁ => wpAny (model prog w) A (getAttr o f true) Q E s₁) E s) : wpAny (model prog w) A (eval (.Attribute e f pos) env) Q E s :=
  Attribute_any_ h (by rw [arm_eval_Attribute, hb])
end
/-! ### readings and rules -/
/-- e.f, an attribute of the instance -/
def tFld (K : PySem.W.Frag) (ta : TE) (f : Str) : TE := fun σ H Q => ta σ H fun x H1 => ∃ a C dx fs v, x = .ref a ∧ H1 a = some (.ins C dx fs) ∧ Cls K C ∧ NoAttr K C f ∧ fs.lookup f = some v ∧ Q v H1
/-- e.f = value -/
def sFld (K : PySem.W.Frag) (ta tv : TE) (f : Str) : TS := fun D σ H => tv σ H fun y H1 => ta σ H1 fun x H2 => ∃ a C dx fs, x = .ref a ∧ H2 a = some (.ins C dx fs) ∧ Cls K C ∧ NoAttr K C f ∧ fs.length < 1000 ∧
  D.nx σ (upd H2 a (.ins C dx (putF f y fs)))
section
variable {X : Cx} {o e value : Expr} {f : Str} {pos pos' tpos : Pos} {ta tv : TE}
theorem pe_fld (he : PE X e ta) (hb : attributeBase e f X.env (eval e X.env) = eval e X.env) : PE X (.Attribute e f pos) (tFld X.K ta f) := by
  intro pins s σ H Q I h
  refine attr_of hb (thn (he pins s σ H _ I h) fun u s1 ⟨x, H1, I1, rx, a, C, dx, fs, v, ex, ea, c, n, l, q⟩ => ?_)
  subst ex
  obtain rfl : u = Value.ref a := rx
  exact getattr_ok I1 ea c n l fun u' s2 I2 ru => ⟨v, H1, I2, ru, q⟩
theorem ps_fld (ha : PE X o ta) (hv : PE X value tv) (hs : swapsWith value (some (.Attribute o f pos')) pos.line X.env = pure false) : PS X (.Assign [.Attribute o f pos'] value pos) (sFld X.K ta tv f) := by
  intro pins s σ H D I h
  refine plainObj_wpAny_Assign_Attribute (thn (hv pins s σ H _ I h) fun u s1 ⟨y, H1, I1, ry, q⟩ => thn (ha pins s1 σ H1 _ I1 q) fun ov s2 ⟨x, H2, I2, rx, a, C, dx, fs, ex, ea, c, n, l, q2⟩ => ?_) hs
  subst ex
  obtain rfl : ov = Value.ref a := rx
  exact setattr_ok I2 ea c n l ry fun s3 I3 => ⟨σ, _, I3, q2⟩
end
/-! ### isinstance -/
section
variable {X : Cx} {pins : List (Addr × Obj)} {σ : St} {H : Hp} {s : Shared} {A : Around} {E : Value → Shared → Prop} {Q : Value → Shared → Prop} {c : Value} {b : Bool}
/-- the type of a value, as the fragment's deciders take it; for an instance its class -/
inductive TyOf (K : PySem.W.Frag) (H : Hp) : V → Value → Prop where
  | non : TyOf K H .non (.type "NoneType")
  | bl (x : Bool) : TyOf K H (.bl x) (.type "bool")
  | int (i : Int) : TyOf K H (.int i) (.type "int")
  | str (x : Str) : TyOf K H (.str x) (.type "str")
  | flt (x : UInt64) : TyOf K H (.flt x) (.type "float")
  | lst {a : Addr} {xs : List V} (e : H a = some (.lst xs)) : TyOf K H (.ref a) (.type "list")
  | frz {a : Addr} {o : Obj} {xs : List V} (e : H a = some (.frz o (.lst xs))) : TyOf K H (.ref a) (.type "list")
  | tup {a : Addr} {xs : List V} (e : H a = some (.tup xs)) : TyOf K H (.ref a) (.type "tuple")
  | dK {a : Addr} {kvs : List (Key × V)} (e : H a = some (.dK kvs)) : TyOf K H (.ref a) (.type "dict")
  | dT {a : Addr} {kvs : List (List Key × V)} (e : H a = some (.dT kvs)) : TyOf K H (.ref a) (.type "dict")
  | ins {a C dx : Addr} {fs : List (Str × V)} (e : H a = some (.ins C dx fs)) (cl : Cls K C) (ha : PySem.W.findIn K (.ref C) "__class__" = some (some (.builtin "object.__class__")))
      (hn : PySem.W.specialIn K (.builtin "object.__class__") "__get__" = some (some (.builtin "getset_descriptor.__get__"))) (htk : PySem.W.takesIn K (.builtin "object.__class__") = some true)
      (hm : PySem.W.mroIn K C (.type "object") = some true) : TyOf K H (.ref a) (.ref C)
/-- isinstance(x, c) for one class c, a built-in or an own one: kitOne's answer -/
theorem isinst_ok {x : V} {u t : Value} (I : Inv X pins σ H s) (rx : RelV x u) (ty : TyOf X.K H x t) (e : PySem.W.kitOne X.K t c = some b) (h : ∀ tk, Q (.bool b) { s with toks := tk }) :
    wpAny (model X.prog X.w) A (call (.builtin "isinstance") [u, c]) Q E s := by
  cases ty with
  | non => cases (show u = Value.none from rx); exact PySem.W.kia_one PySem.W.kitx_none I.kIn True.intro e (fun z => nomatch z) h
  | bl y => cases (show u = Value.bool y from rx); exact PySem.W.kia_one PySem.W.kitx_bool I.kIn True.intro e (fun z => nomatch z) h
  | int i => obtain ⟨t, q⟩ := (show ∃ t, u = Value.int i t from rx); cases q; exact PySem.W.kia_one PySem.W.kitx_int I.kIn True.intro e (fun z => nomatch z) h
  | str y => obtain ⟨t, q⟩ := (show ∃ t, u = Value.str y t from rx); cases q; exact PySem.W.kia_one PySem.W.kitx_str I.kIn True.intro e (fun z => nomatch z) h
  | flt y => obtain ⟨t, q⟩ := (show ∃ t, u = Value.float y t from rx); cases q; exact PySem.W.kia_one PySem.W.kitx_float I.kIn True.intro e (fun z => nomatch z) h
  | @lst a xs ea =>
    cases (show u = Value.ref a from rx)
    obtain ⟨_, _, n, _, h1⟩ := (show ObjOk X.prog X.w H s.heap a (.lst xs) from I.hok a _ ea)
    exact PySem.W.kia_one PySem.W.kitx_list I.kIn ⟨_, h1, rfl⟩ e (fun z => nomatch z) h
  | @frz a ob xs ea =>
    cases (show u = Value.ref a from rx)
    obtain ⟨_, _, _, n, _, h1⟩ := (show ObjOk X.prog X.w H s.heap a (.frz ob (.lst xs)) from I.hok a _ ea)
    exact PySem.W.kia_one PySem.W.kitx_list I.kIn ⟨_, h1, rfl⟩ e (fun z => nomatch z) h
  | @tup a xs ea =>
    cases (show u = Value.ref a from rx)
    obtain ⟨_, _, _, p⟩ := (show ObjOk X.prog X.w H s.heap a (.tup xs) from I.hok a _ ea)
    obtain ⟨o, h1, h2, _⟩ := p
    exact PySem.W.kia_one PySem.W.kitx_tuple I.kIn ⟨o, h1, h2⟩ e (fun z => nomatch z) h
  | @dK a kvs ea =>
    cases (show u = Value.ref a from rx)
    obtain ⟨_, _, vs, _, p⟩ := (show ObjOk X.prog X.w H s.heap a (.dK kvs) from I.hok a _ ea)
    obtain ⟨o, es, ep, h1, h2, _⟩ := p
    exact PySem.W.kia_one PySem.W.kitx_dict I.kIn ⟨o, h1, h2.1⟩ e (fun z => nomatch z) h
  | @dT a kvs ea =>
    cases (show u = Value.ref a from rx)
    obtain ⟨_, _, xs, _, o, es, ep, h1, h2, _⟩ := (show ObjOk X.prog X.w H s.heap a (.dT kvs) from I.hok a _ ea)
    exact PySem.W.kia_one PySem.W.kitx_dict I.kIn ⟨o, h1, h2.1⟩ e (fun z => nomatch z) h
  | @ins a C dx fs ea cl ha hn htk hm =>
    cases (show u = Value.ref a from rx)
    obtain ⟨mA, O, _⟩ := ins_get I.hok ea
    obtain ⟨od, J, _⟩ := O.look
    exact PySem.W.kia_one (PySem.W.kitx_own (cl.get _) cl.hd ha hn htk hm) I.kIn J e (fun z => nomatch z) h
end
end L2
namespace L2
open PySem PySem.Spec PyProof.Rows
/-! ### room -/
structure Room (k : Nat) (A : Around) : Prop where
  hd : A.handled = none
  dp : A.depth + 3 * k + 5 < recursionLimit
  un : A.units + 16 * k + 200 < cLine
theorem Room.mono {j k : Nat} {A : Around} (r : Room k A) (h : j ≤ k) : Room j A := ⟨r.hd, by have := r.dp; omega, by have := r.un; omega⟩
theorem Room.deeper {k : Nat} {A : Around} (r : Room (k + 1) A) (env : Env) : Room k (A.deeper env) :=
  ⟨r.hd, by have := r.dp; show A.depth + 1 + 3 * k + 5 < _; omega, by have := r.un; show A.units + 3 + 16 * k + 200 < _; omega⟩
theorem make_depth {A : Around} {C : Addr} {us : List Value} {kw : List (Str × Value)} : (A.under (.builtin "type.__call__" ⟨.ref C :: us, kw⟩)).depth = A.depth + 1 := by
  first | rfl | simp [Around.under, Code.weight, Code.isCreation, Code.isGuard, Code.isCaller, Code.frames, Code.isFrame, guardIds]
theorem make_units {A : Around} {C : Addr} {us : List Value} {kw : List (Str × Value)} : (A.under (.builtin "type.__call__" ⟨.ref C :: us, kw⟩)).units = A.units + 1 := by
  first | rfl | simp [Around.under, Code.cUnits, Code.frames, Code.isFrame]
theorem Room.make {k : Nat} {A : Around} (r : Room (k + 1) A) (C : Addr) (us : List Value) (kw : List (Str × Value)) : Room k (A.under (.builtin "type.__call__" ⟨.ref C :: us, kw⟩)) :=
  ⟨r.hd, by have := r.dp; rw [make_depth]; omega, by have := r.un; rw [make_units]; omega⟩
theorem Room.depth {k : Nat} {A : Around} (r : Room k A) : A.depth < recursionLimit := by have := r.dp; omega
theorem Room.units {k : Nat} {A : Around} (r : Room k A) : A.units + 64 < cLine := by have := r.un; omega
/-! ### argument lists and displays -/
def tNil : TA := fun _ H Q => Q [] H
def tCons (ta : TE) (tr : TA) : TA := fun σ H Q => ta σ H fun x H1 => tr σ H1 fun xs H2 => Q (x :: xs) H2
section
variable {X : Cx} {e : Expr} {es : List Expr} {te : TE} {t : TA} {pos : Pos}
theorem pa_nil : PA X [] tNil := fun _ _ _ _ H Q I h => Calls.spliced_nil ⟨[], H, I, .nil, h⟩
theorem pa_cons (ha : PE X e te) (hr : PA X es t) (hs : starEach (e :: es) X.env = (false, eval e X.env) :: starEach es X.env := by rfl) : PA X (e :: es) (tCons te t) := by
  intro pos pins s σ H Q I h
  rw [hs]
  show wpAny _ _ (spliced ((false, eval e X.env) :: backTo pos (starEach es X.env))) _ _ s
  refine Calls.spliced_cons (thn (ha pins s σ H _ I h) fun u s1 ⟨x, H1, I1, r1, q1⟩ => ?_)
  exact thn (hr pos pins s1 σ H1 _ I1 q1) fun us s2 ⟨xs, H2, I2, r2, q2⟩ => ⟨x :: xs, H2, I2, .cons r1 r2, q2⟩
/-- a tuple, a list of written items -/
def tTup (t : TA) : TE := fun σ H Q => t σ H fun xs H1 => xs.length ≤ sizeLine ∧ ∀ p, H1 p = none → Q (.ref p) (upd H1 p (.tup xs))
def tLst (t : TA) : TE := fun σ H Q => t σ H fun xs H1 => xs.length ≤ sizeLine ∧ ∀ p, H1 p = none → Q (.ref p) (upd H1 p (.lst xs))
theorem pe_tup {x1} (h : PA X es t) : PE X (.Tuple es x1 pos) (tTup t) := by
  intro pins s σ H Q I hq
  refine wpAny_Tuple_spliced (thn (h pos pins s σ H _ I hq) fun us s1 ⟨xs, H1, I1, r, z, q⟩ => ⟨by rw [← r.length]; exact z, ?_⟩)
  have hf : H1 s1.heap.objs.size = none := I1.hok.fresh (Nat.le_refl _)
  refine ⟨.ref s1.heap.objs.size, upd H1 s1.heap.objs.size (.tup xs), I1.laid (t' := s1.toks) (fun b u e => Heap.get?_push_of_some _ e) (Nat.le_refl _) ?_, rfl, q _ hf⟩
  exact ⟨z, us, r, ⟨_, Heap.get?_push_size _ rfl, rfl, _, rfl⟩⟩
theorem pe_lst (h : PA X es t) : PE X (.List es pos) (tLst t) := by
  intro pins s σ H Q I hq
  refine wpAny_List_spliced (thn (h pos pins s σ H _ I hq) fun us s1 ⟨xs, H1, I1, r, z, q⟩ => ⟨by rw [← r.length]; exact z, ?_⟩)
  have hf : H1 s1.heap.objs.size = none := I1.hok.fresh (Nat.le_refl _)
  refine ⟨.ref s1.heap.objs.size, upd H1 s1.heap.objs.size (.lst xs), I1.laid (t' := s1.toks) (fun b u e => Heap.get?_push_of_some _ e) (Nat.le_refl _) ?_, rfl, q _ hf⟩
  exact ⟨z, us, 0, r, Heap.get?_push_size _ rfl⟩
end
/-! ### what a def promises -/
/-- a def's promise: the bound arguments in the parameters' order, the heap, the wanted end, the wanted exception -/
abbrev Sp := List V → Hp → VK → XK → Prop
/-- how an exception lies behind a call (file 08 gives it): the callers' frames, abstract heap and state ahead of the call, the wish, the exception, the state -/
abbrev CXT := List Env → Hp → Shared → XK → Value → Shared → Prop
/-- the state at a call -/
structure Env0 (P : Program) (w : World) (K : PySem.W.Frag) (mg : Str → Option Value) (base : Heap) (A : Around) (outer : List Env) (s : Shared) (H : Hp) : Prop where
  frames : A.frames = some outer
  mod : Mod K mg base
  bs : ∀ b o, base.get? b = some o → s.heap.get? b = some o ∧ H b = none
  bsz : base.objs.size ≤ s.heap.objs.size
  funs : s.heap.FunFrames base outer
  frf : ∀ b ∈ frs outer, H b = none
  hok : HOk P w H s.heap
  bare : AllBare s.gens
/-- a call's end -/
def CE (outer : List Env) (P : Program) (w : World) (H : Hp) (s : Shared) (Q : VK) (u : Value) (s' : Shared) : Prop :=
  ∃ v H', s'.os = s.os ∧ AllBare s'.gens ∧ Un (frs outer) [] H H' s.heap s'.heap ∧ HOk P w H' s'.heap ∧ RelV v u ∧ Q v H'
def CR (CX : CXT) (outer : List Env) (P : Program) (w : World) (H : Hp) (s : Shared) (Q : VK) (E : XK) (r : Result) (s' : Shared) : Prop :=
  match r with
  | .ok (.ret u) => CE outer P w H s Q u s'
  | .ok _ => False
  | .error e => CX outer H s E e s'
structure FnOk (P : Program) (w : World) (K : PySem.W.Frag) (mg : Str → Option Value) (base : Heap) (CX : CXT) (k : Nat) (f : Addr) (fd : FuncData) (ps : List Str) (sp : Sp) : Prop where
  len : ∀ vs H Q E, sp vs H Q E → vs.length = ps.length
  run : ∀ (A : Around) (outer : List Env) (s : Shared) (H : Hp) (args : Args) (us : List Value) (vs : List V) (Q : VK) (E : XK), Room k A → Env0 P w K mg base A outer s H → BindsTo s fd args (ps.zip us) → Vals vs us → sp vs H Q E →
    codeAny (model P w) A (.call (.ref f) args) (CR CX outer P w H s Q E) s
theorem Env0.make {P : Program} {w : World} {K : PySem.W.Frag} {mg : Str → Option Value} {base : Heap} {A : Around} {outer : List Env} {s : Shared} {H : Hp} (e : Env0 P w K mg base A outer s H) (C : Addr) (us : List Value) (kw : List (Str × Value)) :
    Env0 P w K mg base (A.under (.builtin "type.__call__" ⟨.ref C :: us, kw⟩)) outer s H := ⟨by first | exact e.frames | (simpa [Around.under, Code.envs, Code.isFrame, pushEnvs] using e.frames), e.mod, e.bs, e.bsz, e.funs, e.frf, e.hok, e.bare⟩
section
variable {X : Cx} {pins : List (Addr × Obj)} {σ : St} {H : Hp} {s s' : Shared}
/-- from a body: what a callee wants -/
theorem Inv.env0 (I : Inv X pins σ H s) : Env0 X.prog X.w X.K X.mg X.base X.A X.stack s H :=
  ⟨I.ok.frames, I.ok.mod, I.bs, Nat.le_trans I.ok.bsz I.sz, I.stack, I.stkFree, I.hok, I.bare⟩
/-- behind a call -/
theorem Inv.after {Q : VK} {u : Value} (I : Inv X pins σ H s) (h : CE X.stack X.prog X.w H s Q u s') : EP X pins σ Q u s' := by
  obtain ⟨v, H', os, bare, un, hok, r, q⟩ := h
  obtain ⟨hh, g, d, t, os'⟩ := s'
  obtain rfl : os' = s.os := os
  exact ⟨v, H', I.call (h' := hh) (g' := g) (d' := d) (t' := t) (ch := []) un hok bare (fun b z => absurd z (by simp)), r, q⟩
end
/-- how the parameters are bound: us the positional arguments, kw the keywords' values by name, ds the defaults that fill up -/
def Binds (K : PySem.W.Frag) (fd : FuncData) (ps : List Str) (ds : List Value) : Prop :=
  ∀ (s : Shared) (us : List Value), K.In s.heap → (us ++ ds).length = ps.length → BindsTo s fd ⟨us, []⟩ (ps.zip (us ++ ds))
/-- every parameter is given -/
theorem Binds.all {K : PySem.W.Frag} {fd : FuncData} {ps : List Str} (h : ∀ us : List Value, us.length = ps.length → bindArgs fd ⟨us, []⟩ = pure (ps.zip us)) : Binds K fd ps [] := fun s us _ hl => by
  rw [List.append_nil] at hl ⊢
  exact .of_eq (h us hl)
section
variable {X : Cx} {CX : CXT} {k : Nat} {f C : Addr} {fd : FuncData} {ps : List Str} {sp : Sp} {dvs : List V} {ds : List Value} {E : XK} {x m : Str} {p pos apos : Pos} {e o : Expr} {es : List Expr} {ta : TE} {t : TA}
/-- what a class must have to be made -/
structure Mk (K : PySem.W.Frag) (C f : Addr) : Prop where
  makes : PySem.W.makesIn K C = true
  init : PySem.W.findIn K (.ref C) "__init__" = some (some (.ref f))
  fn : PySem.W.isFn K (.ref f) = true
  kp : PySem.W.keepIn K (.ref C) = true
end
section
variable {X : Cx} {CX : CXT} {k : Nat} {f C : Addr} {fd : FuncData} {ps ks : List Str} {sp : Sp} {E : XK} {x m : Str} {p pos apos kpos : Pos} {e o : Expr} {es : List Expr} {kws : List Keyword} {te ta : TE} {t tk : TA} {nm : Option Str}
variable {g : List Value → List Value → List Value} {gV : List V → List V → List V}
end
/-! ### a def's body keeps its promise -/
/-- names: the parameters first -/
structure FnScope (N P : List Str) (sc : Scope) : Prop where
  kind : sc.kind = .function
  co : sc.isCoroutine = false
  gen : sc.isGenerator = false
  nd : N.Nodup
  pre : N.take P.length = P
  par : ∀ x ∈ P, sc.names.lookup x = some .local ∨ sc.names.lookup x = some .cell
  nofree : ∀ y ∈ sc.names, y.2 ≠ .free
theorem bindL_out {kindOf : Str → Option NameKind} {x : Str} : ∀ {binds : List (Str × Value)} {m : Str → Option Value}, (∀ v, (x, v) ∉ binds) → bindL kindOf binds m x = m x
  | [], _, _ => rfl
  | (n, v) :: r, m, h => by
    unfold bindL
    rw [bindL_out fun w hw => h w (List.mem_cons_of_mem _ hw)]
    split
    · have : x ≠ n := by rintro rfl; exact h v List.mem_cons_self
      simp [this]
    · rfl
theorem bindC_out {kindOf : Str → Option NameKind} {x : Str} : ∀ {binds : List (Str × Value)} {m : Str → Option Value}, (∀ v, (x, v) ∉ binds) → bindC kindOf binds m x = m x
  | [], _, _ => rfl
  | (n, v) :: r, m, h => by
    unfold bindC
    rw [bindC_out fun w hw => h w (List.mem_cons_of_mem _ hw)]
    split
    · rfl
    · have : x ≠ n := by rintro rfl; exact h v List.mem_cons_self
      simp [this]
theorem bindL_get {kindOf : Str → Option NameKind} {x : Str} {v : Value} : ∀ {P : List Str} {vs : List Value} {i : Nat} {m : Str → Option Value}, P.Nodup → P[i]? = some x → vs[i]? = some v → kindOf x = some .local →
    bindL kindOf (P.zip vs) m x = some v
  | [], _, _, _, _, h, _, _ => by simp at h
  | _ :: _, [], _, _, _, _, h, _ => by simp at h
  | p :: P, w :: vs, 0, m, nd, h1, h2, hk => by
    simp at h1 h2; subst h1; subst h2
    show bindL kindOf ((p, w) :: P.zip vs) m p = _
    unfold bindL
    rw [bindL_out fun v hv => (List.nodup_cons.mp nd).1 (List.of_mem_zip hv).1, if_pos hk]
    simp
  | p :: P, w :: vs, i + 1, m, nd, h1, h2, hk => by
    show bindL kindOf ((p, w) :: P.zip vs) m x = _
    unfold bindL
    exact bindL_get (i := i) (List.nodup_cons.mp nd).2 (by simpa using h1) (by simpa using h2) hk
theorem bindC_get {kindOf : Str → Option NameKind} {x : Str} {v : Value} : ∀ {P : List Str} {vs : List Value} {i : Nat} {m : Str → Option Value}, P.Nodup → P[i]? = some x → vs[i]? = some v → kindOf x ≠ some .local →
    bindC kindOf (P.zip vs) m x = some v
  | [], _, _, _, _, h, _, _ => by simp at h
  | _ :: _, [], _, _, _, _, h, _ => by simp at h
  | p :: P, w :: vs, 0, m, nd, h1, h2, hk => by
    simp at h1 h2; subst h1; subst h2
    show bindC kindOf ((p, w) :: P.zip vs) m p = _
    unfold bindC
    rw [bindC_out fun v hv => (List.nodup_cons.mp nd).1 (List.of_mem_zip hv).1, if_neg hk]
    simp
  | p :: P, w :: vs, i + 1, m, nd, h1, h2, hk => by
    show bindC kindOf ((p, w) :: P.zip vs) m x = _
    unfold bindC
    exact bindC_get (i := i) (List.nodup_cons.mp nd).2 (by simpa using h1) (by simpa using h2) hk
/-- the names' values at the entry -/
def start (N : List Str) (vs : List V) : St := vs.map some ++ List.replicate (N.length - vs.length) none
/-- the context of a def's body, at its entry; an exception leaves the frame, then lies as CX says -/
def cxOf (CX : CXT) (P : Program) (w : World) (K : PySem.W.Frag) (mg : Str → Option Value) (base : Heap) (N : List Str) (qual : Str) (scope : Scope) (f : Addr) (cd : Value) (A : Around) (outer : List Env) (s : Shared) (H : Hp) (E : XK) : Cx where
  prog := P
  w := w
  K := K
  mg := mg
  base := base
  A := A.deeper (envOfC qual scope s.heap.objs.size f cd)
  N := N
  s₀ := s
  H₀ := H
  env := envOfC qual scope s.heap.objs.size f cd
  outer := outer
  stack := envOfC qual scope s.heap.objs.size f cd :: outer
  ex := []
  calm := true
  fn := fun _ => true
  pn := []
  xe := fun e s' => wpAny (model P w) (A.deeper (envOfC qual scope s.heap.objs.size f cd)) (leaving (envOfC qual scope s.heap.objs.size f cd) e) (fun _ s'' => CX outer H s E e s'') (fun e' s'' => CX outer H s E e' s'') s'
theorem cell_has {sc : Scope} {n : Nat} {x : Str} (h : sc.names.lookup x = some .cell) : ∃ c, (cellsFrom n sc.names []).lookup x = some c := by
  have q := PySem.W.cellsFrom_some sc.names n [] (.inl h)
  exact Option.isSome_iff_exists.mp q
theorem inv_start {CX : CXT} {P : Program} {w : World} {K : PySem.W.Frag} {mg : Str → Option Value} {base : Heap} {N ps : List Str} {qual : Str} {scope : Scope} {f : Addr} {cd : Value} {A : Around} {outer : List Env} {s s1 : Shared} {H : Hp} {E : XK} {us : List Value} {vs : List V}
    (S : FnScope N ps scope) (hd : A.handled = none) (e0 : Env0 P w K mg base A outer s H) (hl : vs.length = ps.length) (r : Vals vs us)
    (x : InCallC s s.heap.objs.size (bindL (envOfC qual scope s.heap.objs.size f cd).kindOf (ps.zip us) fun _ => none) (cellsFrom (s.heap.objs.size + 1) scope.names []) (bindC (envOfC qual scope s.heap.objs.size f cd).kindOf (ps.zip us) fun _ => none) s1) :
    Inv (cxOf CX P w K mg base N qual scope f cd A outer s H E) [] (start N vs) H s1 := by
  have hpl : ps.length ≤ N.length := by have := congrArg List.length S.pre; rw [List.length_take] at this; omega
  obtain ⟨h1, tk, rfl, hk⟩ := x.done
  have noA : ∀ b : Addr, b ∉ (cxOf CX P w K mg base N qual scope f cd A outer s H E).ex := fun b z => absurd (show b ∈ ([] : List Addr) from z) (by simp)
  refine ⟨⟨e0.mod, S.kind, rfl, rfl, Nat.le_refl _, fun y z c h1 h2 => ?_, fun y hy => ?_, fun y c _ h => ?_, fun _ => hd, Around.frames_deeper e0.frames, .inr ⟨rfl, rfl⟩, fun b z => absurd z (noA b), e0.bs, e0.bsz, fun b _ _ => noA b, fun b z => absurd z (noA b), e0.funs, e0.frf⟩,
    rfl, e0.bare, Un.kept hk, ⟨_, x.toInCall.ns, fun i y v h1 h2 h3 => ?_⟩, fun y c h => ⟨_, x.cell y c h⟩, e0.hok.fresh (Nat.le_refl _), fun y c h => ?_, fun p hp => absurd (show p ∈ ([] : List (Addr × Obj)) from hp) (by simp), e0.hok.kept hk, ?_⟩
  · exact name_of_addr x.apart (PySem.mem_of_lookup h1) (PySem.mem_of_lookup h2)
  · have hy : scope.names.lookup y = some .cell ∨ scope.names.lookup y = some .free := hy
    rcases hy with hy | hy
    · exact cell_has hy
    · exact absurd rfl (S.nofree _ (PySem.mem_of_lookup hy))
  · exact Nat.le_of_lt (x.above y c (PySem.mem_of_lookup h))
  · have hi : i < vs.length := by
      unfold start at h2
      by_cases hi : i < vs.length
      · exact hi
      · rw [List.getElem?_append_right (by simpa using hi)] at h2
        rw [List.getElem?_replicate] at h2
        split at h2 <;> cases h2
    have ha : vs[i]? = some v := by
      unfold start at h2
      rw [List.getElem?_append_left (by simpa using hi), List.getElem?_map] at h2
      cases e : vs[i]? with
      | none => rw [e] at h2; cases h2
      | some a => rw [e] at h2; cases h2; rfl
    obtain ⟨u, hu, rv⟩ := r.get ha
    have hp : ps[i]? = some y := by
      rw [← S.pre, List.getElem?_take_of_lt (by omega)]; exact h1
    have ndP : ps.Nodup := by rw [← S.pre]; exact S.nd.sublist (List.take_sublist _ _)
    refine ⟨u, rv, ?_⟩
    rcases S.par y (List.mem_of_getElem? hp) with k | k
    · exact .inl ⟨k, bindL_get ndP hp hu k⟩
    · obtain ⟨c, e⟩ := cell_has (n := s.heap.objs.size + 1) k
      refine .inr ⟨.inl k, c, e, ?_⟩
      have q := x.cell y c e
      rw [bindC_get ndP hp hu (by show scope.names.lookup y ≠ _; rw [k]; decide)] at q
      exact q
  · exact e0.hok.fresh (Nat.le_of_lt (x.above y c (PySem.mem_of_lookup h)))
  · unfold start
    show _ = N.length
    rw [List.length_append, List.length_map, List.length_replicate]
    omega
/-- THE RULE: a def (or a method) of the text, by its body. The body's reading t is chosen for each entry; it is run at the parameters' values -/
theorem fn_of {CX : CXT} {P : Program} {w : World} {K : PySem.W.Frag} {mg : Str → Option Value} {base : Heap} {k : Nat} {f : Addr} {name qual : Str} {params : Arguments} {body : List Stmt} {scope : Scope} {dV kV doc pm cdv ct oc : Value} {an od : Option Addr}
    {osl : Array (Option Value)} {N ps : List Str} {sp : Sp} (lk : K.lookup f = some ⟨oc, od, .func (PySem.W.fnOf name qual params body scope dV kV doc pm an cdv ct), osl⟩) (hcd : PySem.W.codeIn K cdv qual = true) (S : FnScope N ps scope)
    (len : ∀ vs H Q E, sp vs H Q E → vs.length = ps.length)
    (hbody : ∀ (A : Around) (outer : List Env) (s : Shared) (H : Hp) (vs : List V) (Q : VK) (E : XK), Room k (A.deeper (envOfC qual scope s.heap.objs.size f cdv)) → sp vs H Q E →
      ∃ t, PSs (cxOf CX P w K mg base N qual scope f cdv A outer s H E) body t ∧ t { nx := fun _ H' => Q .non H', rt := Q } (start N vs) H) :
    FnOk P w K mg base CX (k + 1) f (PySem.W.fnOf name qual params body scope dV kV doc pm an cdv ct) ps sp := by
  refine ⟨len, fun A outer s H args us vs Q E hr e0 hb r hsp => ?_⟩
  have hl := len _ _ _ _ hsp
  have KX : K.In s.heap := e0.mod.kin.keeps fun b o e => (e0.bs b o e).1
  have lim : s.heap.NoLimit := e0.mod.nolimit.keeps fun b o e => (e0.bs b o e).1
  have hkind : ∀ y ∈ ps.zip us, scope.names.lookup y.1 = some .local ∨ (scope.names.lookup y.1 = some .cell ∧ ((cellsFrom (s.heap.objs.size + 1) scope.names []).lookup y.1).isSome = true) := fun ⟨n, v⟩ hy => by
    rcases S.par n (List.of_mem_zip hy).1 with q | q
    · exact .inl q
    · exact .inr ⟨q, PySem.W.cellsFrom_some _ _ _ (.inl q)⟩
  refine codeAny_call_function hr.depth (KX _ _ lk) rfl S.co S.gen rfl (PySem.W.codeRec_of KX hcd) (hb _ _ _ _ ?_)
  refine wpAny_newFunctionEnv_cells S.kind hkind fun env he s1 x => ?_
  subst he
  refine ⟨lim.keeps x.toInCall.keep, codeAny_func ?_⟩
  obtain ⟨t, ht, hq⟩ := hbody A outer s H vs Q E (hr.deeper _) hsp
  have I : Inv (cxOf CX P w K mg base N qual scope f cdv A outer s H E) [] (start N vs) H s1 := inv_start S hr.hd e0 hl r x
  refine wpAny_mono (ht [] s1 (start N vs) H _ I hq) (fun fl s' hs => ?_) fun e s' hs => hs
  have fin : ∀ {σ' : St} {H' : Hp} {v : V} {u : Value}, Inv (cxOf CX P w K mg base N qual scope f cdv A outer s H E) [] σ' H' s' → RelV v u → Q v H' → CE outer P w H s Q u s' :=
    fun {σ' H' v u} J rv q => ⟨v, H', J.os, J.bare, J.base, J.hok, rv, q⟩
  cases fl with
  | ret u =>
    obtain ⟨v, σ', H', J, rv, q⟩ := hs
    exact fin J rv q
  | next =>
    obtain ⟨σ', H', J, q⟩ := hs
    exact fin (v := V.non) (u := Value.none) J rfl q
  | brk =>
    obtain ⟨_, _, _, q⟩ := hs
    exact False.elim q
  | cont =>
    obtain ⟨_, _, _, q⟩ := hs
    exact False.elim q
end L2
namespace L2
open PySem PySem.Spec PyProof.Rows
section
variable {X : Cx} {x : Str} {p pos : Pos} {e : Expr} {es : List Expr} {t : TA} {id T : String} {r : List V → Hp → VK → Prop}
def tCB (r : List V → Hp → VK → Prop) (t : TA) : TE := fun σ H Q => t σ H fun vs H1 => r vs H1 Q
/-- f(e, ..), f a built-in function -/
theorem pe_callB (hc : CallR X (.builtin id) r) (hg : Gl X x) (hm : X.mg x = none) (hv : bootBuiltins x = some (.builtin id)) (ha : PA X (e :: es) t) (hn : x ≠ "__name__" := by decide) (hdb : (x == ("__debug__" : Str)) = false := by decide)
    (he : starEach (e :: es) X.env = (false, eval e X.env) :: starEach es X.env := by rfl) (hpl : (backTo pos (starEach es X.env)).any (·.1) = false := by rfl) : PE X (.Call (.Name x p) (e :: es) [] pos) (tCB r t) := by
  intro pins s σ H Q I h
  refine wpAny_Call_Name_kw (ld_blt I hg hm hv ?_ hn hdb)
  exact PyProof.Rows.callWith_builtin1 (thn (ha pos pins s σ H _ I h) fun us s1 ⟨vs, H1, I1, r1, q1⟩ => hc pins s1 σ H1 vs us Q I1 r1 q1) he hpl
/-- T(e, ..), T a built-in type -/
theorem pe_callTy (hc : CallR X (.type T) r) (hg : Gl X x) (hm : X.mg x = none) (hv : bootBuiltins x = some (.type T)) (ha : PA X (e :: es) t) (hn : x ≠ "__name__" := by decide) (hdb : (x == ("__debug__" : Str)) = false := by decide)
    (he : starEach (e :: es) X.env = (false, eval e X.env) :: starEach es X.env := by rfl) (hpl : (backTo pos (starEach es X.env)).any (·.1) = false := by rfl) : PE X (.Call (.Name x p) (e :: es) [] pos) (tCB r t) := by
  intro pins s σ H Q I h
  refine wpAny_Call_Name_kw (ld_blt I hg hm hv ?_ hn hdb)
  exact PyProof.Rows.callWith_type1 (thn (ha pos pins s σ H _ I h) fun us s1 ⟨vs, H1, I1, r1, q1⟩ => hc pins s1 σ H1 vs us Q I1 r1 q1) he hpl
end
end L2
namespace HT
open PySem PyProof.Rows
section
open PySem.SeqAt
open PySem.AutoSeq1 (wpAny_loadPart')
open PySem.MeetsSeq PySem.MeetsSeq2 PySem.MeetsSeq3
end
section
variable {prog : Program} {w : World} {A : Around} {E : Value → Shared → Prop} {s : Shared}
/-! ### t[a:b], not the whole -/
/-- a slice's bound as a place among n (d where it is left out) -/
def sIx (n d : Nat) : Option Int → Nat
  | none => d
  | some v => if v < 0 then (v + (n : Int)).toNat else min v.toNat n
end
end HT
namespace L2
open PySem PySem.Spec PyProof.Rows
/-! ### the parts of a slice -/
abbrev TO := St → Hp → (Option Int → Hp → Prop) → Prop
/-- a slice's part (left out, or an int) -/
def PO (X : Cx) (e : Option Expr) (t : TO) : Prop :=
  ∀ (pins : List (Addr × Obj)) (s : Shared) (σ : St) (H : Hp) (Q : Option Int → Hp → Prop), Inv X pins σ H s → t σ H Q →
    wpAny (model X.prog X.w) X.A (evalPart e X.env) (fun u s' => ∃ o H', Inv X pins σ H' s' ∧ IsPart u o ∧ Q o H') X.xe s
def tNoPart : TO := fun _ H Q => Q none H
def tPart (t : TE) : TO := fun σ H Q => t σ H fun x H1 => ∃ i, x = .int i ∧ Q (some i) H1
section
variable {X : Cx} {e : Expr} {te : TE} {lo hi : Option Expr} {tl th : TO} {pos p2 : Pos}
theorem po_none : PO X none tNoPart := by
  intro pins s σ H Q I h
  rw [evalPart_none]
  exact wpAny_pure ⟨none, H, I, .none, h⟩
theorem po_some (h : PE X e te) : PO X (some e) (tPart te) := by
  intro pins s σ H Q I hw
  rw [evalPart_some]
  refine thn (h pins s σ H _ I hw) fun u s1 ⟨x, H1, I1, r1, q1⟩ => ?_
  obtain ⟨i, rfl, q⟩ := q1
  obtain ⟨t, rfl⟩ := r1
  exact ⟨some i, H1, I1, .int i t, q⟩
/-- what a slice of a value is, by values: the slice object stands at sl -/
def SlR (X : Cx) (r : V → Option Int → Option Int → Hp → VK → Prop) : Prop :=
  ∀ (pins : List (Addr × Obj)) (s : Shared) (σ : St) (H : Hp) (x : V) (v vl vu : Value) (lo hi : Option Int) (sl : Addr) (Q : VK), Inv X pins σ H s → RelV x v → s.heap.IsSliceOf sl vl vu .none → IsPart vl lo → IsPart vu hi → r x lo hi H Q →
    ∃ T id, typeLookup (.type T) "__getitem__" = pure (some (.builtin id)) ∧ s.TypeIs v T ∧ wpAny (model X.prog X.w) X.A (getItem v (.ref sl)) (EP X pins σ Q) X.xe s
def tSl (r : V → Option Int → Option Int → Hp → VK → Prop) (te : TE) (tl th : TO) : TE := fun σ H Q => te σ H fun x H1 => tl σ H1 fun l H2 => th σ H2 fun u H3 => r x l u H3 Q
/-- a[lo:hi], any a -/
theorem pe_slice {r : V → Option Int → Option Int → Hp → VK → Prop} (hr : SlR X r) (he : PE X e te) (hl : PO X lo tl) (hu : PO X hi th) : PE X (.Subscript e (.Slice lo hi none p2) pos) (tSl r te tl th) := by
  intro pins s σ H Q I h
  refine Subscript_ (thn (he pins s σ H _ I h) fun v s1 ⟨x, H1, I1, r1, q1⟩ => ?_)
  refine wpAny_Slice (thn (hl pins s1 σ H1 _ I1 q1) fun vl s2 ⟨l, H2, I2, pl, q2⟩ => thn (hu pins s2 σ H2 _ I2 q2) fun vu s3 ⟨u, H3, I3, pu, q3⟩ => ?_)
  rw [evalPart_none]
  refine wpAny_pure ?_
  have I4 : Inv X pins σ H3 { s3 with heap := s3.heap.push { cls := .type "slice", data := .fields #[vl, vu, .none] } } := I3.kept (t' := s3.toks) fun b ob q => Heap.get?_push_of_some _ q
  obtain ⟨T, id, hT, ht, hg⟩ := hr pins { s3 with heap := s3.heap.push { cls := .type "slice", data := .fields #[vl, vu, .none] } } σ H3 x v vl vu l u s3.heap.objs.size Q I4 r1 (Heap.IsSliceOf.new ..) pl pu q3
  show wpAny (model X.prog X.w) X.A (subscriptTail e (.Slice lo hi none p2) v (.ref s3.heap.objs.size)) (EP X pins σ Q) X.xe { s3 with heap := s3.heap.push { cls := .type "slice", data := .fields #[vl, vu, .none] } }
  exact tail_any (ops := [.ref s3.heap.objs.size, v]) ht hT hg (by with_unfolding_all rfl)
/-- the items of xs[lo:hi] -/
def cutV (xs : List V) (lo hi : Option Int) : List V := (xs.drop (HT.sIx xs.length 0 lo)).take (HT.sIx xs.length xs.length hi - HT.sIx xs.length 0 lo)
theorem cutV_length (xs : List V) (lo hi : Option Int) : (cutV xs lo hi).length ≤ xs.length := by
  unfold cutV
  rw [List.length_take, List.length_drop]
  omega
end
end L2
namespace L2
open PySem PySem.Spec PyProof.Rows
/-! ### places -/
/-- the place that an index of any sign means -/
def ixN (n : Nat) (i : Int) : Option Nat := if 0 ≤ i then (if i < n then some i.toNat else none) else if -(n : Int) ≤ i then some (i + n).toNat else none
def atI {α : Type} (xs : List α) (i : Int) : Option α := (ixN xs.length i).bind fun j => xs[j]?
theorem ixN_seq {n : Nat} {i : Int} {j : Nat} (h : ixN n i = some j) : seqIndex? i n = some j ∧ j < n ∧ -(n : Int) ≤ i ∧ i < n := by
  unfold ixN at h
  by_cases h0 : 0 ≤ i
  · rw [if_pos h0] at h
    by_cases h1 : i < n
    · rw [if_pos h1] at h
      have e : i.toNat = j := Option.some.inj h
      exact ⟨by rw [seqIndex_of h0 h1, e], by omega, by omega, h1⟩
    · rw [if_neg h1] at h; cases h
  · rw [if_neg h0] at h
    by_cases h1 : -(n : Int) ≤ i
    · rw [if_pos h1] at h
      have e : (i + n).toNat = j := Option.some.inj h
      exact ⟨by rw [seqIndex_neg (by omega) h1, e], by omega, h1, by omega⟩
    · rw [if_neg h1] at h; cases h
theorem atI_get {α : Type} {xs : List α} {i : Int} {v : α} (h : atI xs i = some v) : ∃ j, seqIndex? i xs.length = some j ∧ xs[j]? = some v ∧ j < xs.length ∧ -(xs.length : Int) ≤ i ∧ i < xs.length := by
  unfold atI at h
  cases e : ixN xs.length i with
  | none => rw [e] at h; cases h
  | some j =>
    rw [e] at h
    obtain ⟨h1, h2, h3, h4⟩ := ixN_seq e
    exact ⟨j, h1, h, h2, h3, h4⟩
theorem atI_nat {α : Type} {xs : List α} {j : Nat} {v : α} (h : xs[j]? = some v) : atI xs (j : Int) = some v := by
  have hj : j < xs.length := (List.getElem?_eq_some_iff.mp h).1
  have e : ixN xs.length (j : Int) = some j := by
    unfold ixN
    rw [if_pos (by omega), if_pos (by omega)]; simp
  unfold atI; rw [e]; exact h
/-! ### what may be subscripted -/
/-- what stands as an index of a plain subscript -/
def PlainIx (b : Expr) : Prop := ∀ o i, subscripted b false o i = operate [o, i] (getItem o i)
/-- a subscript by values -/
def IxR (X : Cx) (r : R2) : Prop :=
  ∀ (value slice : Expr) (pins : List (Addr × Obj)) (s : Shared) (σ : St) (H : Hp) (x y : V) (v u : Value) (Q : VK), Inv X pins σ H s → RelV x v → RelV y u → r x y H Q →
    subscripted slice false v u = operate [v, u] (getItem v u) → wpAny (model X.prog X.w) X.A (subscriptTail value slice v u) (EP X pins σ Q) X.xe s
/-- a call of a builtin's method by values: the receiver, the arguments -/
def MtR (X : Cx) (id : String) (r : V → List V → Hp → VK → Prop) : Prop :=
  ∀ (pins : List (Addr × Obj)) (s : Shared) (σ : St) (H : Hp) (x : V) (xs : List V) (v : Value) (us : List Value) (Q : VK), Inv X pins σ H s → RelV x v → Vals xs us → r x xs H Q →
    wpAny (model X.prog X.w) X.A (call (.builtin id) (v :: us)) (EP X pins σ Q) X.xe s
section
variable {X : Cx} {a b : Expr} {ta tb : TE} {pos : Pos}
theorem IxR.or {r r' : R2} (h : IxR X r) (h' : IxR X r') : IxR X (fun x y H Q => r x y H Q ∨ r' x y H Q) := by
  intro value slice pins s σ H x y v u Q I rx ry q hs
  rcases q with q | q
  · exact h value slice pins s σ H x y v u Q I rx ry q hs
  · exact h' value slice pins s σ H x y v u Q I rx ry q hs
/-- a[b] -/
theorem pe_ix {r : R2} (hr : IxR X r) (ha : PE X a ta) (hb : PE X b tb) (hs : PlainIx b) : PE X (.Subscript a b pos) (tOp r ta tb) := by
  intro pins s σ H Q I h
  exact Subscript_ (binT ha hb I h fun v u s2 x y H2 I2 rx ry q => hr a b pins s2 σ H2 x y v u Q I2 rx ry q (hs _ _))
def rIxL (K : PySem.W.Frag) : R2 := fun x y H Q => ∃ p xs i v, x = .ref p ∧ y = .int i ∧ SqL K H p xs ∧ atI xs i = some v ∧ Q v H
def rIxT (K : PySem.W.Frag) : R2 := fun x y H Q => ∃ p xs i v, x = .ref p ∧ y = .int i ∧ SqT K H p xs ∧ atI xs i = some v ∧ Q v H
theorem ix_list : IxR X (rIxL X.K) := by
  intro value slice pins s σ H x y v u Q I rx ry h hs
  obtain ⟨p, xs, i, z, rfl, rfl, hq, he, q⟩ := h
  cases rx
  obtain ⟨t, rfl⟩ := ry
  obtain ⟨its, r, pl, hz⟩ := I.list hq
  obtain ⟨j, h1, h2, h3, h4, h5⟩ := atI_get he
  obtain ⟨w, ew, rw'⟩ := r.get h2
  have hl := r.length
  have hn := line63
  have fin : EP X pins σ Q w s := ⟨z, H, I, rw', q⟩
  by_cases h0 : 0 ≤ i
  · have hj : i.toNat = j := by
      rw [seqIndex_of h0 h5] at h1
      exact Option.some.inj h1
    exact item_listR pl.isList h0 (by omega) (by rw [hj]; simpa using ew) fin hs
  · have hj : (i + (its.toArray.size : Int)).toNat = j := by
      rw [seqIndex_neg (by omega) h4] at h1
      rw [List.size_toArray, ← hl]
      exact Option.some.inj h1
    exact subscriptTail_builtinR (x := w) pl.isList.typeIs slot_list_getitem.lookup
      (wpAny_getItem_list_neg (Q := fun r s' => r = w ∧ EP X pins σ Q r s') pl.isList (by omega) (by rw [List.size_toArray] <;> omega) (by omega) (by rw [hj]; simpa using ew) ⟨rfl, fin⟩) hs
theorem ix_tup : IxR X (rIxT X.K) := by
  intro value slice pins s σ H x y v u Q I rx ry h hs
  obtain ⟨p, xs, i, z, rfl, rfl, hq, he, q⟩ := h
  cases rx
  obtain ⟨t, rfl⟩ := ry
  obtain ⟨its, r, pl, hz⟩ := I.tuple hq
  obtain ⟨j, h1, h2, h3, h4, h5⟩ := atI_get he
  obtain ⟨w, ew, rw'⟩ := r.get h2
  have hl := r.length
  have hn := line63
  have fin : EP X pins σ Q w s := ⟨z, H, I, rw', q⟩
  exact subscriptTail_builtinR (x := w) pl.typeIs slot_tuple_getitem.lookup
    (getItem_tuple (j := j) (Q := fun r s' => r = w ∧ EP X pins σ Q r s') pl (by omega) (by omega) (by rw [List.size_toArray, ← hl]; exact h1) (by simpa using ew) ⟨rfl, fin⟩) hs
theorem Inv.lst {pins : List (Addr × Obj)} {σ : St} {H : Hp} {s : Shared} {p : Addr} {xs : List V} (I : Inv X pins σ H s) (h : H p = some (.lst xs)) :
    ∃ (its : List Value) (n : Nat), Vals xs its ∧ s.heap.get? p = some { cls := .type "list", data := .seq its.toArray n } ∧ xs.length ≤ sizeLine := by
  obtain ⟨z, its, n, r, e⟩ := I.hok p _ h
  exact ⟨its, n, r, e, z⟩
/-! ### slices -/
theorem slice_bounds (lo hi : Option Int) (n : Nat) : (sliceBounds lo hi none n).1 = ((HT.sIx n 0 lo : Nat) : Int) ∧ (sliceBounds lo hi none n).2.1 = ((HT.sIx n n hi : Nat) : Int) ∧ (sliceBounds lo hi none n).2.2 = 1 := by
  refine ⟨?_, ?_, rfl⟩
  · cases lo with
    | none => simp [sliceBounds, HT.sIx]
    | some i =>
      simp only [sliceBounds, HT.sIx, Option.getD_none, show (1 : Int) > 0 by decide, if_true]
      by_cases h : i < 0
      · simp only [h, if_true] <;> omega
      · simp only [h, if_false] <;> omega
  · cases hi with
    | none => simp [sliceBounds, HT.sIx]
    | some i =>
      simp only [sliceBounds, HT.sIx, Option.getD_none, show (1 : Int) > 0 by decide, if_true]
      by_cases h : i < 0
      · simp only [h, if_true] <;> omega
      · simp only [h, if_false] <;> omega
theorem slicePick_cut (its : List Value) (lo hi : Option Int) : slicePick its.toArray lo hi none = ((its.drop (HT.sIx its.length 0 lo)).take (HT.sIx its.length its.length hi - HT.sIx its.length 0 lo)).toArray := by
  obtain ⟨h1, h2, h3⟩ := slice_bounds lo hi its.toArray.size
  unfold slicePick
  rw [h1, h2, h3]
  simp only [sliceRange_one, pick_run, List.size_toArray] <;> rfl
/-- xs[lo:hi] of a list: a new list -/
def rSlL (K : PySem.W.Frag) : V → Option Int → Option Int → Hp → VK → Prop := fun x lo hi H Q => ∃ a xs, x = .ref a ∧ SqL K H a xs ∧ ∀ p, H p = none → Q (.ref p) (upd H p (.lst (cutV xs lo hi)))
theorem sl_list : SlR X (rSlL X.K) := by
  intro pins s σ H x v vl vu lo hi sl Q I rx hs pl pu h
  obtain ⟨a, xs, rfl, hx, q⟩ := h
  cases rx
  obtain ⟨its, r, ht, hz⟩ := I.list hx
  have hlen := r.length
  refine ⟨"list", _, slot_list_getitem.lookup, ht.isList.typeIs, ?_⟩
  refine wpAny_getItem_list_slice ht.isList hs pl pu .none (by simp) ?_ (by rw [List.size_toArray] <;> omega)
  rw [slicePick_cut, ← hlen]
  refine ⟨.ref s.heap.objs.size, _, I.laid (t' := s.toks) (o := .lst (cutV xs lo hi)) (fun b ob q => Heap.get?_push_of_some _ q) (Nat.le_refl _) ?_, rfl, q _ (I.hok.fresh (Nat.le_refl _))⟩
  exact ⟨Nat.le_trans (cutV_length xs lo hi) hz, _, 0, (r.drop (HT.sIx xs.length 0 lo)).take (HT.sIx xs.length xs.length hi - HT.sIx xs.length 0 lo), Heap.get?_push_size _ rfl⟩
/-! ### in, not in: flat items -/
def flatV : V → Bool
  | .non => true
  | .bl _ => true
  | .int _ => true
  | .str _ => true
  | _ => false
/-- == of flat values -/
def eqV : V → V → Bool
  | .non, .non => true
  | .bl a, .bl b => a == b
  | .bl a, .int b => (if a then 1 else 0) == b
  | .int a, .bl b => a == (if b then 1 else 0)
  | .int a, .int b => a == b
  | .str a, .str b => a == b
  | _, _ => false
theorem eqAt_V {A : Around} {s : Shared} {y x : V} {u v : Value} (ry : RelV y u) (rx : RelV x v) (fy : flatV y = true) (fx : flatV x = true) : SeqAt.EqAt A s u v (eqV y x) := by
  cases y with
  | non =>
    cases ry
    cases x with
    | non => cases rx; exact SeqAt.EqAt.same _
    | bl b => cases rx; exact SeqAt.EqAt.none_bool b
    | int b => obtain ⟨t, rfl⟩ := rx; exact SeqAt.EqAt.none_int b t
    | str b => obtain ⟨t, rfl⟩ := rx; exact SeqAt.EqAt.none_str b t
    | _ => exact absurd (show false = true from fx) Bool.false_ne_true
  | bl a =>
    cases ry
    cases x with
    | non => cases rx; exact SeqAt.EqAt.bool_none a
    | bl b => cases rx; exact SeqAt.EqAt.bool_bool a b
    | int b => obtain ⟨t, rfl⟩ := rx; exact SeqAt.EqAt.bool_int a b t
    | str b => obtain ⟨t, rfl⟩ := rx; exact SeqAt.EqAt.bool_str a b t
    | _ => exact absurd (show false = true from fx) Bool.false_ne_true
  | int a =>
    obtain ⟨t', rfl⟩ := ry
    cases x with
    | non => cases rx; exact SeqAt.EqAt.int_none a t'
    | bl b => cases rx; exact SeqAt.EqAt.int_bool a t' b
    | int b => obtain ⟨t, rfl⟩ := rx; exact SeqAt.EqAt.int_int a t' b t
    | str b => obtain ⟨t, rfl⟩ := rx; exact SeqAt.EqAt.int_str a t' b t
    | _ => exact absurd (show false = true from fx) Bool.false_ne_true
  | str a =>
    obtain ⟨t', rfl⟩ := ry
    cases x with
    | non => cases rx; exact SeqAt.EqAt.str_none a t'
    | bl b => cases rx; exact SeqAt.EqAt.str_bool a t' b
    | int b => obtain ⟨t, rfl⟩ := rx; exact SeqAt.EqAt.str_int a t' b t
    | str b => obtain ⟨t, rfl⟩ := rx; exact SeqAt.EqAt.str_str a t' b t
    | _ => exact absurd (show false = true from fx) Bool.false_ne_true
  | _ => exact absurd (show false = true from fy) Bool.false_ne_true
theorem call_list_of : CallR X (.type "list") (fun xs H Q => ∃ p ys, xs = [.ref p] ∧ (SqL X.K H p ys ∨ SqT X.K H p ys) ∧ ∀ l, H l = none → Q (.ref l) (upd H l (.lst ys))) := by
  intro pins s σ H xs us Q I r h
  obtain ⟨p, ys, rfl, hq, q⟩ := h
  obtain ⟨u, rfl, rx⟩ := vals1 r
  cases rx
  have fin : ∀ (its : List Value), Vals ys its → ys.length ≤ sizeLine → ∀ (h' : Heap) (c' : Nat), (∀ b o', s.heap.get? b = some o' → h'.get? b = some o') →
      h'.get? s.heap.objs.size = some { cls := .type "list", dict := none, data := .seq its.toArray c', slots := #[] } → EP X pins σ Q (.ref s.heap.objs.size) { s with heap := h' } := fun its r' hz h' c' kp e =>
    ⟨.ref s.heap.objs.size, _, I.laid (t' := s.toks) kp (Nat.le_refl _) (show ObjOk X.prog X.w _ h' _ (.lst ys) from ⟨hz, its, c', r', e⟩), rfl, q _ (I.hok.fresh (Nat.le_refl _))⟩
  rcases hq with hq | hq
  · obtain ⟨its, r', pl, hz⟩ := I.list hq
    have hlen := r'.length
    obtain ⟨o, ho, hc, n, hd⟩ := pl.isList
    exact call_list_seq p (.inl rfl) ho hc hd (fun h' c' kp e => fin its r' hz h' c' kp e) (by simp only [List.size_toArray] <;> omega)
  · obtain ⟨its, r', pl, hz⟩ := I.tuple hq
    have hlen := r'.length
    obtain ⟨o, ho, hc, n, hd⟩ := pl
    exact call_list_seq p (.inr rfl) ho hc hd (fun h' c' kp e => fin its r' hz h' c' kp e) (by simp only [List.size_toArray] <;> omega)
/-! ### the call of a builtin's method: o.m(..) -/
/-- the value is of that builtin type -/
def tyV (K : PySem.W.Frag) (T : String) (x : V) (H : Hp) : Prop := match x with
  | .str _ => T = "str"
  | .int _ => T = "int"
  | .ref p => (T = "list" ∧ ∃ xs, SqL K H p xs) ∨ (T = "tuple" ∧ ∃ o, K.lookup p = some o ∧ o.cls = .type "tuple" ∧ o.dict = none) ∨
      (T = "dict" ∧ ((∃ kvs, H p = some (.dK kvs)) ∨ ∃ kvs, H p = some (.dT kvs))) ∨ (T = "set" ∧ ∃ S n, H p = some (.set S n))
  | _ => False
theorem tyV_is {pins : List (Addr × Obj)} {σ : St} {H : Hp} {s : Shared} {T : String} {x : V} {v : Value} (I : Inv X pins σ H s) (r : RelV x v) (ty : tyV X.K T x H) :
    s.TypeIs v T ∧ ∀ a, v = .ref a → ∃ ob, s.heap.get? a = some ob ∧ ob.dict = none := by
  cases x with
  | str z =>
    obtain ⟨t, rfl⟩ := r
    cases (show T = "str" from ty)
    exact ⟨typeIs_str s z t, fun _ e => nomatch e⟩
  | int i =>
    obtain ⟨t, rfl⟩ := r
    cases (show T = "int" from ty)
    exact ⟨typeIs_int s i t, fun _ e => nomatch e⟩
  | ref p =>
    cases r
    rcases ty with ⟨rfl, xs, hq⟩ | ⟨rfl, o, hk, hc, hd⟩ | ⟨rfl, hk⟩ | ⟨rfl, S, n, hk⟩
    · obtain ⟨its, _, pl, _⟩ := I.list hq
      refine ⟨pl.isList.typeIs, fun a e => ?_⟩
      cases e
      obtain ⟨o, n, e, c, hd, _⟩ := pl
      exact ⟨o, e, hd⟩
    · refine ⟨⟨o, I.kIn p o hk, hc⟩, fun a e => ?_⟩
      cases e
      exact ⟨o, I.kIn _ o hk, hd⟩
    · have z : ∃ o, s.heap.get? p = some o ∧ o.ExactDict := by
        rcases hk with ⟨kvs, hk⟩ | ⟨kvs, hk⟩
        · obtain ⟨_, _, _, _, o, _, _, e, ex, _⟩ := I.hok p _ hk
          exact ⟨o, e, ex⟩
        · obtain ⟨_, _, _, _, o, _, _, e, ex, _⟩ := I.hok p _ hk
          exact ⟨o, e, ex⟩
      obtain ⟨o, e, ex⟩ := z
      refine ⟨⟨o, e, ex.1⟩, fun a e2 => ?_⟩
      cases e2
      exact ⟨o, e, ex.2.1⟩
    · obtain ⟨o, _, _, _, e, ex, _⟩ := I.hok p _ hk
      refine ⟨⟨o, e, ex.1⟩, fun a e2 => ?_⟩
      cases e2
      exact ⟨o, e, ex.2.1⟩
  | _ => exact False.elim ty
def tBM0 (K : PySem.W.Frag) (T : String) (r : V → List V → Hp → VK → Prop) (to : TE) : TE := fun σ H Q => to σ H fun x H1 => tyV K T x H1 ∧ r x [] H1 Q
def tBM (K : PySem.W.Frag) (T : String) (r : V → List V → Hp → VK → Prop) (to : TE) (t : TA) : TE := fun σ H Q => to σ H fun x H1 => tyV K T x H1 ∧ t σ H1 fun xs H2 => r x xs H2 Q
variable {o e : Expr} {es : List Expr} {to : TE} {t : TA} {name : Str} {apos cpos : Pos} {T id : String} {r : V → List V → Hp → VK → Prop}
theorem pe_bm0 (pa : PlainAttrs T) (slot : Slot T name id) (hty : typeOf (.builtin id) = pure (.type "method_descriptor")) (hm : MtR X id r) (ho : PE X o to)
    (hbase : attributeBase o name X.env (eval o X.env) = eval o X.env := by rfl) (hline : (apos.endLine == cpos.line) = true := by rfl) : PE X (.Call (.Attribute o name apos) [] [] cpos) (tBM0 X.K T r to) := by
  intro pins s σ H Q I h
  refine wpAny_Call_method0_late hbase hline (thn (ho pins s σ H _ I h) fun v s1 ⟨x, H1, I1, r1, ty, q1⟩ => ?_)
  obtain ⟨h1, h2⟩ := tyV_is I1 r1 ty
  exact ⟨T, id, pa, slot, hty, h1, h2, Calls.callWith_builtin rfl (PySem.evalArgs_none (hm pins s1 σ H1 x [] v [] Q I1 r1 .nil q1))⟩
theorem pe_bm (pa : PlainAttrs T) (slot : Slot T name id) (hty : typeOf (.builtin id) = pure (.type "method_descriptor")) (hm : MtR X id r) (ho : PE X o to) (ha : PA X (e :: es) t)
    (hbase : attributeBase o name X.env (eval o X.env) = eval o X.env := by rfl)
    (hfew : ((backTo cpos (starEach (e :: es) X.env)).all (fun x => !x.1) && (backToKw cpos (keywordEach [] X.env)).all (fun x => x.1.isSome)
      && decide ((e :: es).length + ([] : List Keyword).length + (if ([] : List Keyword).isEmpty then 0 else 1) < 30)) = true := by rfl)
    (hline : (apos.endLine == cpos.line) = true := by rfl) (hs : starEach (e :: es) X.env = (false, eval e X.env) :: starEach es X.env := by rfl) (hplain : (backTo cpos (starEach es X.env)).any (·.1) = false := by rfl) :
    PE X (.Call (.Attribute o name apos) (e :: es) [] cpos) (tBM X.K T r to t) := by
  intro pins s σ H Q I h
  refine wpAny_Call_method_late hbase hfew hline rfl (thn (ho pins s σ H _ I h) fun v s1 ⟨x, H1, I1, r1, ty, q1⟩ => ?_)
  obtain ⟨h1, h2⟩ := tyV_is I1 r1 ty
  refine ⟨T, id, pa, slot, hty, h1, h2, ?_⟩
  have hA := ha cpos pins s1 σ H1 _ I1 q1
  rw [hs] at hA ⊢
  refine Calls.callWith_builtin (by show (false || (backTo cpos (starEach es X.env)).any (·.1)) = false; rw [hplain] <;> rfl) (Calls.evalArgs_plain ?_)
  exact thn hA fun us s2 ⟨vs, H2, I2, r2, q2⟩ => hm pins s2 σ H2 x vs v us Q I2 r1 r2 q2
/- xs.append(e), list.index on a module's tuple .. are MtR facts of 06m -/
end
end L2
namespace L2
open PySem PySem.Spec PyProof.Rows
def MtM (X : Cx) (id : String) (r : V → List V → Hp → VK → Prop) : Prop :=
  ∀ (pins : List (Addr × Obj)) (s : Shared) (σ : St) (H : Hp) (x : V) (xs : List V) (v : Value) (us : List Value) (Q : VK), Inv X pins σ H s → RelV x v → Vals xs us → r x xs H Q →
    wpAny (model X.prog X.w) X.A (call (.builtin id) (v :: us)) (EP X pins σ Q) X.xe s
/-! ### lists of values -/
theorem Vals.one : ∀ {x : V} {us : List Value}, Vals [x] us → ∃ u, us = [u] ∧ RelV x u
  | _, _, .cons r .nil => ⟨_, rfl, r⟩
theorem Vals.zero : ∀ {us : List Value}, Vals [] us → us = []
  | _, .nil => rfl
theorem Vals.dropLast {xs : List V} {us : List Value} (h : Vals xs us) : Vals xs.dropLast us.dropLast := by
  induction h with
  | nil => exact .nil
  | cons r t ih =>
    cases t with
    | nil => exact .nil
    | cons q t' => exact .cons r ih
theorem Vals.eraseIdx : ∀ {xs : List V} {us : List Value} (i : Nat), Vals xs us → Vals (xs.eraseIdx i) (us.eraseIdx i)
  | _, _, _, .nil => .nil
  | _, _, 0, .cons _ t => t
  | _, _, i + 1, .cons r t => .cons r (Vals.eraseIdx i t)
theorem erase_last {α : Type} (l : List α) : l.eraseIdx (l.length - 1) = l.dropLast := by
  induction l with
  | nil => rfl
  | cons a r ih =>
    cases r with
    | nil => rfl
    | cons b r =>
      have e : (a :: b :: r).length - 1 = ((b :: r).length - 1) + 1 := by
        have h1 : (a :: b :: r).length = r.length + 2 := rfl
        have h2 : (b :: r).length = r.length + 1 := rfl
        omega
      rw [e, List.eraseIdx_cons_succ, ih]
      all_goals rfl
section
variable {X : Cx} {pins : List (Addr × Obj)} {σ : St} {H : Hp} {s : Shared} {l b : Addr} {xs ys zs : List V}
/-! ### the two steps: a tracked list is rewritten, a new list is laid -/
theorem Inv.lset {its its' : List Value} {n : Nat} {f : Array Value → Array Value} {t' : Nat} (I : Inv X pins σ H s) (hH : H l = some (.lst xs))
    (e : s.heap.get? l = some { cls := .type "list", data := .seq its.toArray n }) (hf : f its.toArray = its'.toArray) (hv : Vals ys its') (hz : ys.length ≤ sizeLine) :
    Inv X pins σ (upd H l (.lst ys)) { s with heap := s.heap.update l (Obj.mapSeq f), toks := t' } := by
  have q := PySem.IsL.update e f
  rw [hf] at q
  refine I.write (x := l) (e := l) (by rw [hH]; exact trivial) (.inl rfl) (fun b' u hb hu => (Heap.get?_update_other s.heap (Obj.mapSeq f) (Ne.symm hb)).trans hu) ⟨_, q⟩ ?_
  exact ⟨hz, its', _, hv, q⟩
theorem Inv.lstM (I : Inv X pins σ H s) (hH : H l = some (.lst xs)) : xs.length ≤ sizeLine ∧ ∃ (its : List Value) (n : Nat), Vals xs its ∧ xs.length = its.length ∧ s.heap.get? l = some { cls := .type "list", data := .seq its.toArray n } := by
  obtain ⟨z, its, n, r, e⟩ := I.hok l _ hH
  exact ⟨z, its, n, r, r.length, e⟩
end
section
variable {X : Cx}
/-! ### methods -/
def rAppend : V → List V → Hp → VK → Prop := fun x vs H Q => ∃ l xs y, x = .ref l ∧ vs = [y] ∧ H l = some (.lst xs) ∧ xs.length < sizeLine ∧ Q .non (upd H l (.lst (xs ++ [y])))
theorem mt_append : MtM X "list.append" rAppend := by
  intro pins s σ H x vs v us Q I rx rv h
  obtain ⟨l, xs, y, rfl, rfl, hH, hz, q⟩ := h
  cases rx
  obtain ⟨u, rfl, ru⟩ := rv.one
  obtain ⟨z, its, n, r, hl, e⟩ := I.lstM hH
  refine call_meets F.slot_list_append ⟨_, e, rfl⟩ F.entry_list_append (F.args_list_append_2 _ _) (PySem.list_append l its.toArray n u (by rw [List.size_toArray]; omega)) ⟨e, ?_⟩
  refine ⟨.non, _, I.lset (its' := its ++ [u]) hH e (by simp) (r.append (.cons ru .nil)) ?_, rfl, q⟩
  rw [List.length_append, List.length_singleton]
  omega
def rPop : V → List V → Hp → VK → Prop := fun x vs H Q => ∃ l xs y, x = .ref l ∧ vs = [] ∧ H l = some (.lst xs) ∧ xs[xs.length - 1]? = some y ∧ Q y (upd H l (.lst xs.dropLast))
theorem mt_pop : MtM X "list.pop" rPop := by
  intro pins s σ H x vs v us Q I rx rv h
  obtain ⟨l, xs, y, rfl, rfl, hH, hy, q⟩ := h
  cases rx
  have hus := rv.zero
  subst hus
  obtain ⟨z, its, n, r, hl, e⟩ := I.lstM hH
  obtain ⟨u, hu, ru⟩ := r.get hy
  have hy' : its.toArray[its.toArray.size - 1]? = some u := by
    show its.toArray[its.length - 1]? = some u
    rw [← Array.getElem?_toList, ← hl]
    exact hu
  refine call_meets F.slot_list_pop ⟨_, e, rfl⟩ F.entry_list_pop (F.args_list_pop_1 _) (MeetsSeq.list_pop_last l its.toArray n u hy' (by rw [List.size_toArray]; omega)) ⟨e, ?_⟩
  refine ⟨y, _, I.lset (its' := its.dropLast) hH e ?_ r.dropLast ?_, ru, q⟩
  · show its.toArray.eraseIdxIfInBounds (its.toArray.size - 1) = its.dropLast.toArray
    rw [List.size_toArray, List.eraseIdxIfInBounds_toArray, erase_last]
  · rw [List.length_dropLast]
    omega
def rClear : V → List V → Hp → VK → Prop := fun x vs H Q => ∃ l xs, x = .ref l ∧ vs = [] ∧ H l = some (.lst xs) ∧ Q .non (upd H l (.lst []))
theorem mt_clear : MtM X "list.clear" rClear := by
  intro pins s σ H x vs v us Q I rx rv h
  obtain ⟨l, xs, rfl, rfl, hH, q⟩ := h
  cases rx
  have hus := rv.zero
  subst hus
  obtain ⟨z, its, n, r, hl, e⟩ := I.lstM hH
  refine call_meets F.slot_list_clear ⟨_, e, rfl⟩ F.entry_list_clear (F.args_list_clear_1 _) (AutoSeq1.list_clear_list_0 l its.toArray n (by rw [List.size_toArray]; omega)) ⟨e, ?_⟩
  exact ⟨.non, _, I.lset (its' := []) (ys := []) hH e rfl .nil (Nat.zero_le _), rfl, q⟩
end
/-! ### xs[a:b] = ys -/
section
variable {prog : Program} {w : World} {A : Around} {E : Value → Shared → Prop} {s : Shared}
end
section
variable {X : Cx}
end
end L2
namespace L2
open PySem PySem.Spec PyProof.Rows
/-! ### lists of pairs as tables -/
section
variable {κ : Type} [DecidableEq κ]
def valV (kvs : List (κ × V)) (k : κ) : Option V := (kvs.find? fun kv => decide (kv.1 = k)).map (·.2)
/-- in its place, or at the end -/
def putK (kvs : List (κ × V)) (k : κ) (v : V) : List (κ × V) :=
  if (kvs.any fun kv => decide (kv.1 = k)) = true then kvs.map (fun kv => if kv.1 = k then (kv.1, v) else kv) else kvs ++ [(k, v)]
def dropK (kvs : List (κ × V)) (k : κ) : List (κ × V) := kvs.filter fun kv => decide (kv.1 ≠ k)
theorem valV_pos {p : κ × V} {r : List (κ × V)} {k : κ} (e : p.1 = k) : valV (p :: r) k = some p.2 := by simp [valV, List.find?_cons, e]
theorem valV_neg {p : κ × V} {r : List (κ × V)} {k : κ} (e : ¬ p.1 = k) : valV (p :: r) k = valV r k := by simp [valV, List.find?_cons, e]
theorem valV_any (k : κ) : ∀ kvs : List (κ × V), (kvs.any fun kv => decide (kv.1 = k)) = (valV kvs k).isSome
  | [] => rfl
  | p :: r => by
    rw [List.any_cons]
    by_cases e : p.1 = k
    · simp only [valV_pos e, decide_eq_true e, Bool.true_or, Option.isSome_some]
    · rw [valV_neg e, decide_eq_false e, Bool.false_or]; exact valV_any k r
theorem length_putK (kvs : List (κ × V)) (k : κ) (v : V) : (putK kvs k v).length ≤ kvs.length + 1 := by
  unfold putK
  split
  · rw [List.length_map]; omega
  · rw [List.length_append, List.length_cons, List.length_nil]; omega
theorem putK_new {kvs : List (κ × V)} {k : κ} (v : V) (h : valV kvs k = none) : putK kvs k v = kvs ++ [(k, v)] := by
  unfold putK
  rw [valV_any, h]
  exact if_neg (by decide)
theorem RelO.isSome_eq {o : Option V} {u : Option Value} (r : RelO o u) : o.isSome = u.isSome := by
  cases o with
  | none => cases u with
    | none => rfl
    | some _ => exact (show False from r).elim
  | some _ => cases u with
    | none => exact (show False from r).elim
    | some _ => rfl
/-- raw tables of the same keys -/
theorem KV.val {kvs : List (κ × V)} {vs : List (κ × Value)} (r : KV kvs vs) (k : κ) : RelO (valV kvs k) (valueAt vs k) := by
  unfold KV at r
  induction r with
  | nil => exact True.intro
  | @cons p q ps qs h t ih =>
    obtain ⟨h1, h2⟩ := h
    by_cases e : p.1 = k
    · have e' : q.1 = k := h1.symm.trans e
      have b : valueAt (q :: qs) k = some q.2 := by simp [valueAt, List.find?_cons, e']
      rw [valV_pos e, b]; exact h2
    · have e' : ¬ q.1 = k := fun z => e (h1.trans z)
      have b : valueAt (q :: qs) k = valueAt qs k := by simp [valueAt, List.find?_cons, e']
      rw [valV_neg e, b]; exact ih
theorem KV.any {kvs : List (κ × V)} {vs : List (κ × Value)} (r : KV kvs vs) (k : κ) : (kvs.any fun kv => decide (kv.1 = k)) = vs.any fun kv => decide (kv.1 = k) := by
  unfold KV at r
  induction r with
  | nil => rfl
  | cons h t ih => rw [List.any_cons, List.any_cons, ih, h.1]
theorem KV.repl {kvs : List (κ × V)} {vs : List (κ × Value)} (r : KV kvs vs) (k : κ) {y : V} {u : Value} (ry : RelV y u) :
    KV (kvs.map fun kv => if kv.1 = k then (kv.1, y) else kv) (vs.map fun kv => if kv.1 = k then (kv.1, u) else kv) := by
  unfold KV at r ⊢
  induction r with
  | nil => exact .nil
  | @cons p q ps qs h t ih =>
    rw [List.map_cons, List.map_cons]
    refine .cons ?_ ih
    obtain ⟨h1, h2⟩ := h
    by_cases e : p.1 = k
    · rw [if_pos e, if_pos (h1.symm.trans e)]; exact ⟨h1, ry⟩
    · rw [if_neg e, if_neg (fun z => e (h1.trans z))]; exact ⟨h1, h2⟩
theorem KV.put {kvs : List (κ × V)} {vs : List (κ × Value)} (r : KV kvs vs) (k : κ) {y : V} {u : Value} (ry : RelV y u) : KV (putK kvs k y) (stored vs k u) := by
  unfold putK stored
  rw [r.any k]
  by_cases e : (vs.any fun kv => decide (kv.1 = k)) = true
  · rw [if_pos e, if_pos e]; exact r.repl k ry
  · rw [if_neg e, if_neg e]; exact Paired.snoc r ⟨rfl, ry⟩
theorem KV.drop {kvs : List (κ × V)} {vs : List (κ × Value)} (r : KV kvs vs) (k : κ) : KV (dropK kvs k) (without vs k) := by
  unfold KV at r ⊢
  unfold dropK without
  induction r with
  | nil => exact .nil
  | @cons p q ps qs h t ih =>
    obtain ⟨h1, h2⟩ := h
    rw [List.filter_cons, List.filter_cons]
    by_cases e : p.1 = k
    · have a : ¬ decide (p.1 ≠ k) = true := by simp [e]
      have b : ¬ decide (q.1 ≠ k) = true := by simp [h1.symm.trans e]
      rw [if_neg a, if_neg b]; exact ih
    · have e' : ¬ q.1 = k := fun z => e (h1.trans z)
      have a : decide (p.1 ≠ k) = true := by simp [e]
      have b : decide (q.1 ≠ k) = true := by simp [e']
      rw [if_pos a, if_pos b]; exact .cons ⟨h1, h2⟩ ih
theorem KV.keys {kvs : List (κ × V)} {vs : List (κ × Value)} (r : KV kvs vs) : kvs.map (·.1) = vs.map (·.1) := by
  unfold KV at r
  induction r with
  | nil => rfl
  | cons h t ih => rw [List.map_cons, List.map_cons, ih, h.1]
theorem KV.length {kvs : List (κ × V)} {vs : List (κ × Value)} (r : KV kvs vs) : kvs.length = vs.length := Paired.length r
theorem dropK_le (kvs : List (κ × V)) (k : κ) : (dropK kvs k).length ≤ kvs.length := List.length_filter_le _ _
end
/-! ### a tracked dict, its keys ints and texts or tuples of these -/
theorem kV_is {P : Program} {w : World} {k : Key} {u : Value} (r : RelV (kV k) u) : (mixKind P w).is k u = true := by
  cases k with
  | inl i => obtain ⟨t, e⟩ := (show ∃ t, u = Value.int i t from r); subst e; exact mixKind_int P w i t
  | inr x => obtain ⟨t, e⟩ := (show ∃ t, u = Value.str x t from r); subst e; exact mixKind_str P w x t
theorem items_are {P : Program} {w : World} : ∀ {ks : List Key} {us : List Value}, Vals (ks.map kV) us → ItemsAre (mixKind P w) ks us
  | [], _, r => by rw [List.map_nil] at r; cases r; exact .nil
  | k :: ks, _, r => by
    rw [List.map_cons] at r
    cases r with
    | cons h t => exact .cons (kV_is h) (items_are t)
/-- raw entries of a dict with tuple keys -/
abbrev KT (H : Hp) : List (List Key × V) → List (List Key × Addr × Value) → Prop := Paired fun p q => p.1 = q.1 ∧ H q.2.1 = some (.tup (p.1.map kV)) ∧ RelV p.2 q.2.2
theorem KT.val {H : Hp} {kvs : List (List Key × V)} {xs : List (List Key × Addr × Value)} (r : KT H kvs xs) (k : List Key) : RelO (valV kvs k) ((atKey xs k).map (·.2)) := by
  induction r with
  | nil => exact True.intro
  | @cons p q ps qs h t ih =>
    obtain ⟨h1, _, h2⟩ := h
    by_cases e : p.1 = k
    · have e' : q.1 = k := h1.symm.trans e
      have b : atKey (q :: qs) k = some q.2 := by simp [atKey, List.find?_cons, e']
      rw [valV_pos e, b]; exact h2
    · have e' : ¬ q.1 = k := fun z => e (h1.trans z)
      have b : atKey (q :: qs) k = atKey qs k := by simp [atKey, List.find?_cons, e']
      rw [valV_neg e, b]; exact ih
theorem KT.repl {H : Hp} {kvs : List (List Key × V)} {xs : List (List Key × Addr × Value)} (r : KT H kvs xs) (k : List Key) {y : V} {u : Value} (ry : RelV y u) :
    KT H (kvs.map fun kv => if kv.1 = k then (kv.1, y) else kv) (xs.map (putAt k u)) := by
  induction r with
  | nil => exact .nil
  | @cons p q ps qs h t ih =>
    rw [List.map_cons, List.map_cons]
    refine .cons ?_ ih
    obtain ⟨h1, h2, h3⟩ := h
    unfold putAt
    by_cases e : p.1 = k
    · rw [if_pos e, if_pos (h1.symm.trans e)]; exact ⟨h1, h2, ry⟩
    · rw [if_neg e, if_neg (fun z => e (h1.trans z))]; exact ⟨h1, h2, h3⟩
theorem KT.put {H : Hp} {kvs : List (List Key × V)} {xs : List (List Key × Addr × Value)} (r : KT H kvs xs) (k : List Key) {b : Addr} {y : V} {u : Value} (hb : H b = some (.tup (k.map kV))) (ry : RelV y u) :
    KT H (putK kvs k y) (storedH xs k b u) := by
  have e : (kvs.any fun kv => decide (kv.1 = k)) = (atKey xs k).isSome := by
    rw [valV_any, (r.val k).isSome_eq, Option.isSome_map]
  unfold putK storedH
  rw [e]
  by_cases q : (atKey xs k).isSome = true
  · rw [if_pos q, if_pos q]; exact r.repl k ry
  · rw [if_neg q, if_neg q]; exact Paired.snoc r ⟨rfl, hb, ry⟩
theorem KT.keeps {H H' : Hp} {kvs : List (List Key × V)} {xs : List (List Key × Addr × Value)} (r : KT H kvs xs) (ht : ∀ b ys, H b = some (.tup ys) → H' b = some (.tup ys)) : KT H' kvs xs :=
  Paired.mapP r fun _ _ z => ⟨z.1, ht _ _ z.2.1, z.2.2⟩
section
variable {P : Program} {w : World} {H : Hp} {h : Heap} {a : Addr}
theorem rd_of {u : HO} (ok : HOk P w H h) (e : Rd H a u) : ObjOk P w H h a u := e.ok ok
theorem dk_rd {kvs : List (Key × V)} (ok : HOk P w H h) (e : Rd H a (.dK kvs)) : kvs.length ≤ sizeLine ∧ (a == sysModules) = false ∧ ∃ vs, KV kvs vs ∧ h.DictOf (mixKind P w) a vs :=
  show ObjOk P w H h a (.dK kvs) from rd_of ok e
theorem dk_of {kvs : List (Key × V)} (ok : HOk P w H h) (e : H a = some (.dK kvs)) : kvs.length ≤ sizeLine ∧ (a == sysModules) = false ∧ ∃ vs, KV kvs vs ∧ h.DictOf (mixKind P w) a vs := dk_rd ok (.inl e)
/-- a tracked tuple of ints and texts is a key -/
theorem key_of {ks : List Key} (ok : HOk P w H h) (e : H a = some (.tup (ks.map kV))) : (tupleKind (mixKind P w)).is h ks a := by
  obtain ⟨_, its, r, o, h1, h2, n, h3⟩ := (show ObjOk P w H h a (.tup (ks.map kV)) from ok a _ e)
  exact ⟨o, its.toArray, n, h1, h2, h3, by simpa using items_are r⟩
theorem dt_rd {kvs : List (List Key × V)} (ok : HOk P w H h) (e : Rd H a (.dT kvs)) : kvs.length ≤ sizeLine ∧ (a == sysModules) = false ∧
    ∃ xs, KT H kvs xs ∧ h.DictOfH (tupleKind (mixKind P w)) a xs := by
  obtain ⟨z, y, xs, r, o, es, ep, h1, h2, h3, h4, h5⟩ := (show ObjOk P w H h a (.dT kvs) from rd_of ok e)
  refine ⟨z, y, xs, r, o, es, ep, h1, h2, h3, h4, fun x hx => ?_, h5⟩
  have all : ∀ {l : List (List Key × V)} {m : List (List Key × Addr × Value)}, KT H l m → ∀ x ∈ m, (tupleKind (mixKind P w)).is h x.1 x.2.1 := by
    intro l m q
    induction q with
    | nil => intro x hx; exact nomatch hx
    | @cons p q ps qs hq t ih =>
      intro x hx
      rcases List.mem_cons.mp hx with e | hx
      · subst e
        exact key_of ok (by rw [← hq.1]; exact hq.2.1)
      · exact ih x hx
  exact all r x hx
theorem dt_of {kvs : List (List Key × V)} (ok : HOk P w H h) (e : H a = some (.dT kvs)) : kvs.length ≤ sizeLine ∧ (a == sysModules) = false ∧
    ∃ xs, KT H kvs xs ∧ h.DictOfH (tupleKind (mixKind P w)) a xs := dt_rd ok (.inl e)
end
/-- what the dict at a holds at the key y -/
def DGet (H : Hp) (a : Addr) (y : V) (r : Option V) : Prop :=
  (∃ kvs k, Rd H a (.dK kvs) ∧ y = kV k ∧ r = valV kvs k) ∨ ∃ kvs k b, Rd H a (.dT kvs) ∧ y = .ref b ∧ H b = some (.tup (k.map kV)) ∧ r = valV kvs k
/-- the heap behind a[y] = v -/
def DPut (H : Hp) (a : Addr) (y v : V) (H' : Hp) : Prop :=
  (∃ kvs k, H a = some (.dK kvs) ∧ y = kV k ∧ kvs.length < sizeLine ∧ H' = upd H a (.dK (putK kvs k v))) ∨
  ∃ kvs k b, H a = some (.dT kvs) ∧ y = .ref b ∧ H b = some (.tup (k.map kV)) ∧ kvs.length < sizeLine ∧ H' = upd H a (.dT (putK kvs k v))
theorem DGet.k {H : Hp} {a : Addr} {kvs : List (Key × V)} {k : Key} (e : H a = some (.dK kvs)) : DGet H a (kV k) (valV kvs k) := .inl ⟨kvs, k, .inl e, rfl, rfl⟩
theorem DGet.t {H : Hp} {a b : Addr} {kvs : List (List Key × V)} {k : List Key} (e : H a = some (.dT kvs)) (eb : H b = some (.tup (k.map kV))) : DGet H a (.ref b) (valV kvs k) := .inr ⟨kvs, k, b, .inl e, rfl, eb, rfl⟩
theorem DPut.k {H : Hp} {a : Addr} {kvs : List (Key × V)} {k : Key} {v : V} (e : H a = some (.dK kvs)) (hl : kvs.length < sizeLine) : DPut H a (kV k) v (upd H a (.dK (putK kvs k v))) := .inl ⟨kvs, k, e, rfl, hl, rfl⟩
theorem DPut.t {H : Hp} {a b : Addr} {kvs : List (List Key × V)} {k : List Key} {v : V} (e : H a = some (.dT kvs)) (eb : H b = some (.tup (k.map kV))) (hl : kvs.length < sizeLine) :
    DPut H a (.ref b) v (upd H a (.dT (putK kvs k v))) := .inr ⟨kvs, k, b, e, rfl, eb, hl, rfl⟩
section
variable {X : Cx} {pins : List (Addr × Obj)} {σ : St} {H : Hp} {s : Shared} {a : Addr} {y v : V} {u r : Value} {o : Option V} {A : Around} {E : Value → Shared → Prop}
theorem Inv.big (I : Inv X pins σ H s) : sysModules < s.heap.objs.size := by
  have h : mainGlobals < s.heap.objs.size := (I.mod.glob.keeps I.bk).lt
  exact Nat.lt_trans (by decide) h
/-- d[y], there -/
theorem d_getItem {Q : Value → Shared → Prop} (hu : A.units + 1 < cLine) (I : Inv X pins σ H s) (g : DGet H a y (some v)) (ry : RelV y u) (h : ∀ w' s', Inv X pins σ H s' → RelV v w' → Q w' s') :
    wpAny (model X.prog X.w) A (getItem (.ref a) u) Q E s := by
  rcases g with ⟨kvs, k, e, ey, l⟩ | ⟨kvs, k, b, e, ey, eb, l⟩
  · subst ey
    obtain ⟨z, hd, vs, rel, dd⟩ := dk_rd I.hok e
    obtain ⟨w', hw, rw'⟩ := RelO.some_of (v := v) (o := valueAt vs k) (by rw [l]; exact rel.val k)
    exact wpAny_getItem_of (kV_is ry) dd.mapOf hw (h w' _ (I.tok _) rw')
  · subst ey
    cases (show u = Value.ref b from ry)
    obtain ⟨z, hd, xs, rel, dd⟩ := dt_rd I.hok e
    obtain ⟨w', hw, rw'⟩ := RelO.some_of (v := v) (o := (atKey xs k).map (·.2)) (by rw [l]; exact rel.val k)
    obtain ⟨p, hp, hp2⟩ := Option.map_eq_some_iff.mp hw
    refine wpAny_getItem_heap (tupleKind_room_in1 hu) (key_of I.hok eb) dd hp ?_
    rw [hp2]
    exact h w' _ (I.tok _) rw'
/-- y in d -/
theorem d_in {Q : Value → Shared → Prop} (hu : A.units + 1 < cLine) (I : Inv X pins σ H s) (g : DGet H a y o) (ry : RelV y u) (h : ∀ s', Inv X pins σ H s' → Q (.bool o.isSome) s') :
    wpAny (model X.prog X.w) A (compareOp .In u (.ref a)) Q E s := by
  rcases g with ⟨kvs, k, e, ey, l⟩ | ⟨kvs, k, b, e, ey, eb, l⟩
  · subst ey
    obtain ⟨z, hd, vs, rel, dd⟩ := dk_rd I.hok e
    refine wpAny_in_of (kV_is ry) hd dd.mapOf ?_
    rw [← (rel.val k).isSome_eq, ← l]
    exact h _ (I.tok _)
  · subst ey
    cases (show u = Value.ref b from ry)
    obtain ⟨z, hd, xs, rel, dd⟩ := dt_rd I.hok e
    refine wpAny_in_heap (tupleKind_room_in1 hu) (key_of I.hok eb) hd dd ?_
    have q := (rel.val k).isSome_eq
    rw [Option.isSome_map] at q
    rw [← q, ← l]
    exact h _ (I.tok _)
theorem d_notIn {Q : Value → Shared → Prop} (hu : A.units + 1 < cLine) (I : Inv X pins σ H s) (g : DGet H a y o) (ry : RelV y u) (h : ∀ s', Inv X pins σ H s' → Q (.bool (!o.isSome)) s') :
    wpAny (model X.prog X.w) A (compareOp .NotIn u (.ref a)) Q E s := by
  rcases g with ⟨kvs, k, e, ey, l⟩ | ⟨kvs, k, b, e, ey, eb, l⟩
  · subst ey
    obtain ⟨z, hd, vs, rel, dd⟩ := dk_rd I.hok e
    refine wpAny_notIn_of (kV_is ry) hd dd.mapOf ?_
    rw [← (rel.val k).isSome_eq, ← l]
    exact h _ (I.tok _)
  · subst ey
    cases (show u = Value.ref b from ry)
    obtain ⟨z, hd, xs, rel, dd⟩ := dt_rd I.hok e
    refine wpAny_notIn_heap (tupleKind_room_in1 hu) (key_of I.hok eb) hd dd ?_
    have q := (rel.val k).isSome_eq
    rw [Option.isSome_map] at q
    rw [← q, ← l]
    exact h _ (I.tok _)
/-- a dict's object is replaced -/
theorem d_write {h' : Heap} {t' : Nat} {ob : HO} (I : Inv X pins σ H s) (mu : Mut (H a)) (hs : Heap.SameBut a s.heap h') (he : ∃ q, h'.get? a = some q) (new : ObjOk X.prog X.w (upd H a ob) h' a ob) :
    Inv X pins σ (upd H a ob) { s with heap := h', toks := t' } :=
  I.write (x := a) (e := a) mu (.inl rfl) (fun b q hb z => (hs.2 b hb).trans z) he new
theorem dk_new {P : Program} {w : World} {H' : Hp} {h' : Heap} {kvs : List (Key × V)} {vs : List (Key × Value)} (z : kvs.length ≤ sizeLine) (hd : (a == sysModules) = false) (rel : KV kvs vs) (dd : h'.DictOf (mixKind P w) a vs) :
    ObjOk P w H' h' a (.dK kvs) := ⟨z, hd, vs, rel, dd⟩
/-- d[y] = v -/
theorem d_setItem {H' : Hp} {Q : Unit → Shared → Prop} (hu : A.units + 1 < cLine) (I : Inv X pins σ H s) (g : DPut H a y v H') (ry : RelV y u) (rv : RelV v r) (h : ∀ s', Inv X pins σ H' s' → Q () s') :
    wpAny (model X.prog X.w) A (setItem (.ref a) u r) Q E s := by
  rcases g with ⟨kvs, k, e, ey, l, eH⟩ | ⟨kvs, k, b, e, ey, eb, l, eH⟩
  · subst ey eH
    obtain ⟨z, hd, vs, rel, dd⟩ := dk_of I.hok e
    have hz : vs.length ≤ sizeLine := by rw [← rel.length]; exact z
    have hl : (putK kvs k v).length ≤ sizeLine := by have := length_putK kvs k v; omega
    refine wpAny_setItem_pairs (hsz := hz) (kV_is ry) dd fun h' dd' hs => h _ ?_
    have he : ∃ q, h'.get? a = some q := let ⟨q, _, _, hq, _⟩ := dd'; ⟨q, hq⟩
    exact d_write I (by rw [e]; exact True.intro) hs he (dk_new hl hd (rel.put k rv) dd')
  · subst ey eH
    cases (show u = Value.ref b from ry)
    obtain ⟨z, hd, xs, rel, dd⟩ := dt_of I.hok e
    have hz : xs.length ≤ sizeLine := by rw [← Paired.length rel]; exact z
    have hl : (putK kvs k v).length ≤ sizeLine := by have := length_putK kvs k v; omega
    refine wpAny_setItem_heap (hsz := hz) (tupleKind_room_in1 hu) (key_of I.hok eb) dd fun h' dd' hs => h _ ?_
    obtain ⟨q, es, ep, hq, h2, h3, h4, _, h5⟩ := dd'
    refine d_write I (by rw [e]; exact True.intro) hs ⟨q, hq⟩ ⟨hl, hd, _, (rel.put k eb rv).keeps fun c ys ec => ?_, q, es, ep, hq, h2, h3, h4, h5⟩
    rw [upd_ne (ne_of ec e (fun z => nomatch z))]
    exact ec
end
section
variable {X : Cx} {pins : List (Addr × Obj)} {σ : St} {H : Hp} {s : Shared} {a : Addr} {kvs : List (Key × V)} {k : Key} {u : Value} {A : Around} {E : Value → Shared → Prop}
/-- del d[k] -/
theorem d_delItem {Q : Unit → Shared → Prop} (I : Inv X pins σ H s) (e : H a = some (.dK kvs)) (ry : RelV (kV k) u) (l : (valV kvs k).isSome = true) (h : ∀ s', Inv X pins σ (upd H a (.dK (dropK kvs k))) s' → Q () s') :
    wpAny (model X.prog X.w) A (delItem (.ref a) u) Q E s := by
  obtain ⟨z, hd, vs, rel, dd⟩ := dk_of I.hok e
  refine wpAny_delItem_slot dd.typeIs (by decide) PySem.F.slot_dict_delitem
    (call_meetsIn PySem.F.slot_dict_delitem dd.typeIs PySem.F.entry_dict_delitem (PySem.F.args_dict_delitem_2 _ _) (meets_dict_delitem_pairs (mixKind X.prog X.w) a (kV_is ry)) ⟨vs, dd, by rw [← rel.length]; exact z, by rw [← (rel.val k).isSome_eq]; exact l, fun h' dd' hs => h _ ?_⟩)
  have he : ∃ q, h'.get? a = some q := let ⟨q, _, _, hq, _⟩ := dd'; ⟨q, hq⟩
  exact d_write I (by rw [e]; exact True.intro) hs he (dk_new (Nat.le_trans (dropK_le kvs k) z) hd (rel.drop k) dd')
/-- d.pop(k[, x]), there -/
theorem d_pop {v : V} {more : List Value} {Q : Value → Shared → Prop} (I : Inv X pins σ H s) (e : H a = some (.dK kvs)) (ry : RelV (kV k) u) (l : valV kvs k = some v) (hm : more = [] ∨ ∃ x, more = [x])
    (h : ∀ w' s', Inv X pins σ (upd H a (.dK (dropK kvs k))) s' → RelV v w' → Q w' s') : wpAny (model X.prog X.w) A (call (.builtin "dict.pop") (.ref a :: u :: more)) Q E s := by
  obtain ⟨z, hd, vs, rel, dd⟩ := dk_of I.hok e
  obtain ⟨w', hw, rw'⟩ := RelO.some_of (v := v) (o := valueAt vs k) (by rw [← l]; exact rel.val k)
  have hp : (keyPart u).isSome = true := by
    cases k with
    | inl i => obtain ⟨t, q⟩ := (show ∃ t, u = Value.int i t from ry); subst q; rfl
    | inr x => obtain ⟨t, q⟩ := (show ∃ t, u = Value.str x t from ry); subst q; rfl
  have ha : argsOk "dict.pop" ⟨.ref a :: u :: more, []⟩ := by
    rcases hm with q | ⟨x, q⟩
    · subst q; exact PySem.F.args_dict_pop_2 _ _
    · subst q; exact PySem.F.args_dict_pop_3 _ _ _
  refine call_meetsIn PySem.F.slot_dict_pop dd.typeIs PySem.F.entry_dict_pop ha (meets_dict_pop_there (mixKind X.prog X.w) a (kV_is ry) more hm hp)
    ⟨vs, w', dd, by rw [← rel.length]; exact z, hw, fun h' dd' hs => h w' _ ?_ rw'⟩
  have he : ∃ q, h'.get? a = some q := let ⟨q, _, _, hq, _⟩ := dd'; ⟨q, hq⟩
  exact d_write I (by rw [e]; exact True.intro) hs he (dk_new (Nat.le_trans (dropK_le kvs k) z) hd (rel.drop k) dd')
/-- len(d) -/
theorem d_len {Q : Value → Shared → Prop} (I : Inv X pins σ H s) (e : Rd H a (.dK kvs)) (h : ∀ t s', Inv X pins σ H s' → Q (.int kvs.length t) s') : wpAny (model X.prog X.w) A (call (.builtin "len") [.ref a]) Q E s := by
  obtain ⟨z, hd, vs, rel, dd⟩ := dk_rd I.hok e
  refine call_len_dict hd dd (by rw [← rel.length]; rw [sizeLine_eq] at z; omega) ?_
  rw [← rel.length]
  exact h _ _ (I.tok _)
end
/-! ### readings and rules -/
/-- the element of a subscription, not a slice -/
def NoSl (i : Expr) : Prop := ∀ ov iv, subscripted i false ov iv = operate [ov, iv] (getItem ov iv)
theorem subD_of {prog : Program} {w : World} {A : Around} {E : Value → Shared → Prop} {s : Shared} {env : Env} {value slice : Expr} {pos : Pos} {T id : String} {Q : Value → Shared → Prop}
    (hl : typeLookup (.type T) "__getitem__" = pure (some (.builtin id))) (hs : NoSl slice)
    (h : wpAny (model prog w) A (eval value env) (fun o s₁ => wpAny (model prog w) A (eval slice env) (fun i s₂ => s₂.TypeIs o T ∧ wpAny (model prog w) A (getItem o i) Q E s₂) E s₁) E s) :
    wpAny (model prog w) A (eval (.Subscript value slice pos) env) Q E s := by
  refine Subscript_ (wpAny_mono h (fun o s₁ h₁ => wpAny_mono h₁ (fun i s₂ h₂ => ?_) fun _ _ x => x) fun _ _ x => x)
  obtain ⟨hT, h₂⟩ := h₂
  unfold subscriptTail
  refine wpAny_bind ?_
  rw [getitemInPython_of_ne hT.not_modules]
  refine wpAny_bind (wpAny_specialOf hT hl ?_)
  have fin : wpAny (model prog w) A (subscripted slice false o i) (fun r s₃ => wpAny (model prog w) A (letTemporaryGo value o r >>= fun _ => pure r) Q E s₃) E s₂ := by
    rw [hs o i]
    exact wpAny_operating (wpAny_mono h₂ (fun r s₃ h₃ => wpAny_bind (wpAny_letTemporaryGo (wpAny_pure h₃))) fun _ _ x => x)
  first
    | exact wpAny_pure (wpAny_bind fin)
    | exact wpAny_bind (wpAny_pure (wpAny_bind fin))
    | exact wpAny_bind fin
theorem dict_typeIs {X : Cx} {pins : List (Addr × Obj)} {σ : St} {H : Hp} {s : Shared} {a : Addr} {y : V} {o : Option V} (I : Inv X pins σ H s) (g : DGet H a y o) : s.TypeIs (.ref a) "dict" := by
  rcases g with ⟨kvs, k, e, _, _⟩ | ⟨kvs, k, b, e, _, _, _⟩
  · obtain ⟨_, _, vs, _, dd⟩ := dk_rd I.hok e
    exact dd.typeIs
  · obtain ⟨_, _, xs, _, dd⟩ := dt_rd I.hok e
    exact dd.typeIs
/-- d[y] -/
def tDGet (td ty : TE) : TE := fun σ H Q => td σ H fun x H1 => ty σ H1 fun y H2 => ∃ a v, x = .ref a ∧ DGet H2 a y (some v) ∧ Q v H2
/-- y in d, y not in d -/
def tDIn (ty td : TE) : TE := fun σ H Q => ty σ H fun y H1 => td σ H1 fun x H2 => ∃ a o, x = .ref a ∧ DGet H2 a y o ∧ Q (.bl o.isSome) H2
def tDNotIn (ty td : TE) : TE := fun σ H Q => ty σ H fun y H1 => td σ H1 fun x H2 => ∃ a o, x = .ref a ∧ DGet H2 a y o ∧ Q (.bl (!o.isSome)) H2
/-- d[y] = v -/
def sDPut (td ty tv : TE) : TS := fun D σ H => tv σ H fun v H1 => td σ H1 fun x H2 => ty σ H2 fun y H3 => ∃ a H4, x = .ref a ∧ DPut H3 a y v H4 ∧ D.nx σ H4
section
variable {X : Cx} {o i e value : Expr} {pos pos' tpos : Pos} {td ty tv : TE}
theorem pe_dget (hu : X.A.units + 1 < cLine) (ho : PE X o td) (hi : PE X i ty) (hs : NoSl i) : PE X (.Subscript o i pos) (tDGet td ty) := by
  intro pins s σ H Q I h
  refine subD_of PySem.F.slot_dict_getitem.lookup hs (thn (ho pins s σ H _ I h) fun u s1 ⟨x, H1, I1, rx, q1⟩ => thn (hi pins s1 σ H1 _ I1 q1) fun iv s2 ⟨y, H2, I2, ry, a, v, ex, g, q2⟩ => ?_)
  subst ex
  obtain rfl : u = Value.ref a := rx
  exact ⟨dict_typeIs I2 g, d_getItem hu I2 g ry fun w' s3 I3 rw' => ⟨v, H2, I3, rw', q2⟩⟩
theorem pc_din (hu : X.A.units + 1 < cLine) (hi : PE X i ty) (ho : PE X o td) : PC X .In i o (tDIn ty td) := by
  intro pins s σ H Q I h
  refine thn (hi pins s σ H _ I h) fun iv s1 ⟨y, H1, I1, ry, q1⟩ => thn (ho pins s1 σ H1 _ I1 q1) fun u s2 ⟨x, H2, I2, rx, a, ov, ex, g, q2⟩ => ?_
  subst ex
  obtain rfl : u = Value.ref a := rx
  exact d_in hu I2 g ry fun s3 I3 => ⟨.bl ov.isSome, H2, I3, rfl, q2⟩
theorem pc_dnotin (hu : X.A.units + 1 < cLine) (hi : PE X i ty) (ho : PE X o td) : PC X .NotIn i o (tDNotIn ty td) := by
  intro pins s σ H Q I h
  refine thn (hi pins s σ H _ I h) fun iv s1 ⟨y, H1, I1, ry, q1⟩ => thn (ho pins s1 σ H1 _ I1 q1) fun u s2 ⟨x, H2, I2, rx, a, ov, ex, g, q2⟩ => ?_
  subst ex
  obtain rfl : u = Value.ref a := rx
  exact d_notIn hu I2 g ry fun s3 I3 => ⟨.bl (!ov.isSome), H2, I3, rfl, q2⟩
theorem ps_dput (hu : X.A.units + 1 < cLine) (ho : PE X o td) (hi : PE X i ty) (hv : PE X value tv) (hs : swapsWith value (some (.Subscript o i pos')) pos.line X.env = pure false) :
    PS X (.Assign [.Subscript o i pos'] value pos) (sDPut td ty tv) := by
  intro pins s σ H D I h
  refine wpAny_Assign_Subscript (thn (hv pins s σ H _ I h) fun r s1 ⟨v, H1, I1, rv, q1⟩ => thn (ho pins s1 σ H1 _ I1 q1) fun u s2 ⟨x, H2, I2, rx, q2⟩ => thn (hi pins s2 σ H2 _ I2 q2) fun iv s3 ⟨y, H3, I3, ry, a, H4, ex, g, q3⟩ => ?_) hs
  subst ex
  obtain rfl : u = Value.ref a := rx
  exact d_setItem hu I3 g ry rv fun s4 I4 => ⟨σ, H4, I4, q3⟩
end
/-! ### displays -/
theorem dk_empty {P : Program} {w : World} {H : Hp} (h : Heap) (hb : sysModules < h.objs.size) : ObjOk P w H (h.push { cls := .type "dict", data := .dict #[] }) h.objs.size (.dK []) :=
  ⟨Nat.zero_le _, beq_eq_false_iff_ne.mpr (Ne.symm (Nat.ne_of_lt hb)), [], .nil, Heap.DictOf.new h⟩
/-- {}, to be a dict of the kind that is wanted -/
def tDNewK : TE := fun _ H Q => ∀ p, H p = none → Q (.ref p) (upd H p (.dK []))
section
variable {X : Cx} {pos : Pos}
theorem pe_dnewK : PE X (.Dict [] [] pos) tDNewK := fun pins s σ H Q I h =>
  wpAny_Dict_empty ⟨.ref s.heap.objs.size, _, I.laid (a := s.heap.objs.size) (o := .dK []) (t' := s.toks) (fun _ _ q => Heap.get?_push_of_some _ q) (Nat.le_refl _) (dk_empty s.heap I.big), rfl, h _ (I.hok.fresh (Nat.le_refl _))⟩
end
/-! ### methods -/
/-- a method call o.m(e) of a built-in, with one argument: what must be seen of the text -/
structure M1 (X : Cx) (o : Expr) (m : Str) (apos : Pos) (e : Expr) (cpos : Pos) : Prop where
  base : attributeBase o m X.env (eval o X.env) = eval o X.env
  few : ((backTo cpos (starEach [e] X.env)).all (fun x => !x.1) && (backToKw cpos (keywordEach [] X.env)).all (fun x => x.1.isSome)
    && decide (([e] : List Expr).length + ([] : List Keyword).length + (if ([] : List Keyword).isEmpty then 0 else 1) < 30)) = true
  line : (apos.endLine == cpos.line) = true
  trees : backTo cpos (starEach [e] X.env) = [(false, eval e X.env)]
/-- a is a dict, whatever its keys -/
def IsD (H : Hp) (a : Addr) : Prop := (∃ kvs, Rd H a (.dK kvs)) ∨ ∃ kvs, Rd H a (.dT kvs)
theorem isD_at {X : Cx} {pins : List (Addr × Obj)} {σ : St} {H : Hp} {s : Shared} {a : Addr} (I : Inv X pins σ H s) (d : IsD H a) :
    s.TypeIs (.ref a) "dict" ∧ (∀ b, Value.ref a = .ref b → ∃ ob, s.heap.get? b = some ob ∧ ob.dict = none) ∧ (a == sysModules) = false := by
  rcases d with ⟨kvs, e⟩ | ⟨kvs, e⟩
  · obtain ⟨_, hd, vs, _, dd⟩ := dk_rd I.hok e
    refine ⟨dd.typeIs, fun b q => ?_, hd⟩
    cases q
    obtain ⟨ob, _, _, h1, h2, _⟩ := dd
    exact ⟨ob, h1, h2.2.1⟩
  · obtain ⟨_, hd, xs, _, dd⟩ := dt_rd I.hok e
    refine ⟨dd.typeIs, fun b q => ?_, hd⟩
    cases q
    obtain ⟨ob, _, _, h1, h2, _⟩ := dd
    exact ⟨ob, h1, h2.2.1⟩
section
variable {X : Cx} {pins : List (Addr × Obj)} {σ : St} {H : Hp} {s : Shared} {a : Addr} {y d : V} {u r : Value} {o : Option V} {A : Around} {E : Value → Shared → Prop}
end
/-- d.pop(k): there; d.pop(k, x): there or not -/
def tDPop1 (td ty : TE) : TE := fun σ H Q => td σ H fun x H1 => ∃ a, x = .ref a ∧ IsD H1 a ∧ ty σ H1 fun y H2 => ∃ kvs k v, H2 a = some (.dK kvs) ∧ y = kV k ∧ valV kvs k = some v ∧ Q v (upd H2 a (.dK (dropK kvs k)))
section
variable {X : Cx} {o e f : Expr} {apos cpos : Pos} {td ty tx : TE}
theorem pe_dpop1 (ho : PE X o td) (he : PE X e ty) (m : M1 X o "pop" apos e cpos) : PE X (.Call (.Attribute o "pop" apos) [e] [] cpos) (tDPop1 td ty) := by
  intro pins s σ H Q I h
  refine wpAny_Call_method m.base m.few m.line PySem.F.plainAttrs_dict PySem.F.slot_dict_pop PySem.F.type_dict_pop (thn (ho pins s σ H _ I h) fun u s1 ⟨x, H1, I1, rx, a, ex, d, q1⟩ => ?_)
  subst ex
  obtain rfl : u = Value.ref a := rx
  obtain ⟨t1, t2, _⟩ := isD_at I1 d
  refine ⟨t1, t2, ?_⟩
  rw [m.trees]
  refine Calls.callWith_builtin rfl (Calls.evalArgs_plain (Calls.spliced_cons (thn (he pins s1 σ H1 _ I1 q1) fun iv s2 ⟨y, H2, I2, ry, kvs, k, v, ea, ey, l, q2⟩ => Calls.spliced_nil ?_)))
  subst ey
  exact d_pop I2 ea ry l (.inl rfl) fun w' s3 I3 rw' => ⟨v, _, I3, rw', q2⟩
end
/-! ### dict(d): a copy -/
section
variable {X : Cx} {pins : List (Addr × Obj)} {σ : St} {H : Hp} {s : Shared} {a : Addr} {kvs : List (Key × V)} {A : Around} {E : Value → Shared → Prop}
end
section
variable {X : Cx} {pins : List (Addr × Obj)} {σ : St} {H : Hp} {s : Shared} {a : Addr} {y : V} {u : Value} {A : Around} {E : Value → Shared → Prop}
end
end L2
namespace Att
open PySem PySem.W PySem.Calls PyProof.Rows
/-! ### the script -/
theorem ints_of_wellAll {P : Params} {h : Heap} : ∀ (ns : List Int) (vs : List Value), WellAll P h vs (ns.map WData.int) → IntsAre vs ns := by
  intro ns
  induction ns with
  | nil =>
    intro vs w
    rw [List.map_nil] at w
    cases w
    exact .nil
  | cons n ns ih =>
    intro vs w
    rw [List.map_cons] at w
    cases w with
    | cons a b =>
      cases a
      exact .cons _ _ (ih _ b)
theorem script_of {l : OpenLaw} {n : Nat} (hn : l.most = some n) {P : Params} {h : Heap} {args : List WData} {vals : List Value}
    (hpre : l.row.toRowW.claim.pre args = true) (hwl : WellAll P h vals args) :
    ∃ a vs ns, vals = [Value.ref a] ∧ args = [WData.list (ns.map WData.int)] ∧ h.get? a = some { cls := .type "list", data := .seq vs.toArray } ∧ IntsAre vs ns ∧ ns.length ≤ n := by
  have hsh : WShape.hasAll [] args [.list .int] = true := (pre_splitW hpre).1
  have hc : l.pre.holds [] { args := args } = true := (pre_splitW hpre).2
  obtain ⟨d, r, rfl, h1, h2⟩ := hasAllW_cons hsh
  obtain rfl := hasAllW_nil h2
  obtain ⟨xs, rfl, h3⟩ := hasW_list h1
  obtain ⟨ns, rfl⟩ := items_int h3
  have hlen : ns.length ≤ n := by
    unfold OpenLaw.pre at hc
    have h4 : (WTm.not (.lt (.lit (.int (n : Int))) (.len (.arg 0)))).holds [] { args := [.list (ns.map .int)] } = true := by
      have h4 := (holds_andW hc).1
      rw [hn] at h4
      exact h4
    have h5 := condW_of h4 (w_not (w_lt w_lit (w_len_list (w_arg rfl))))
    rw [List.length_map] at h5
    refine Nat.le_of_not_lt fun q => ?_
    have q' : (n : Int) < ((ns.length : Nat) : Int) := by omega
    first
      | (rw [decide_eq_true q'] at h5; exact absurd h5 (by decide))
      | (simp at h5; omega)
  cases hwl with
  | cons w1 w2 =>
    cases w2
    cases w1 with
    | list ho hall => exact ⟨_, _, ns, rfl, rfl, ho, ints_of_wellAll ns _ hall, hlen⟩
theorem post_true (l : OpenLaw) (args : List WData) : l.row.toRowW.claim.post args (.bool true) args = true :=
  postW_of (r := l.row.toRowW) (X := (true == true))
    (show WShape.has [] (.bool true) .bool = true by first | rfl | decide | simp [WShape.has, WShape.arms, WShape.armsAll])
    (show (WTm.eq .res (.lit (.bool true))).value [] { args := args, res := some (.bool true), after := args } = some (.bool (true == true)) from w_eq_bool (w_res rfl) w_lit) rfl
/-- the same from a codeAny of the CALL (for a layer whose function contracts speak of calls) -/
theorem attach_call {l : OpenLaw} {n : Nat} {q : Program} {loose : List Str} {XP : (Str → Option Value) → Heap → Prop} {YP : World → Heap → Prop} {d : DefRec}
    (hn : l.most = some n) (hdf : d.params.defaults = [])
    (call : ∀ (w : World) (s₀ s₁ : Shared) (mg mb : Str → Option Value) (fa : Addr) (o : Obj) (pm cd doc : Value) (a : Addr) (vs : List Value) (ns : List Int),
      Ground q loose [] XP w s₀ mg mb s₁.heap → YP w s₁.heap →
      s₁.heap.get? fa = some o → o.data = .func (docDef d.name d.params d.body d.scope pm cd doc) → s₁.heap.CodeRec cd d.name → mg d.name = some (.ref fa) →
      s₁.heap.get? a = some { cls := .type "list", data := .seq vs.toArray } → IntsAre vs ns → ns.length ≤ n → s₁.gens = #[] →
      codeAny (model l.prog w) callerA (.call (.ref fa) ⟨[.ref a], []⟩) (fun r s' => r = .ok (.ret (.bool true)) ∧ OldK s₁.heap s'.heap ∧ s'.os = s₁.os ∧ AllBare s'.gens) s₁) :
    WalkO q loose XP YP l.row.toRowW d [] (fun f vs => PySem.call f vs) := by
  intro w s₀ s₁ mg mb G Y fa o pm cd doc dV kV ho hd hcd hD hmg hg args vals as hpre hlay hrd hwl hlo
  obtain rfl : dV = .none := Dflts.none hD hdf
  obtain rfl : kV = .none := Dflts.noKw hD
  obtain ⟨a, vs, ns, rfl, rfl, hobj, hints, hlen⟩ := script_of hn hpre hwl
  refine enter_call (codeAny_mono (call w s₀ s₁ mg mb fa o pm cd doc a vs ns G Y ho (fd_plain hd) hcd hmg hobj hints hlen hg) fun r s' hq => ?_)
  obtain ⟨rfl, h2, h3, h4⟩ := hq
  exact ⟨.inl ⟨.bool true, .bool true, [], rfl, fun _ => rfl, .bool true, post_true l _, fun _ => ⟨List.Pairwise.nil, fun _ hm => (nomatch hm)⟩⟩, h2, h3, h4⟩
/-! ### rules over ANY heap (no ledger) from facts about the written part K: the library's own take a ledger (News) for what they write -/
section
variable {prog : Program} {w : World} {A : Around} {E : Value → Shared → Prop} {s : Shared} {K : Frag}
def ledger (h : Heap) (L d : Addr) : List (Addr × Obj) := (List.range h.objs.size).filterMap fun a => if a = L ∨ a = d then none else (h.get? a).map fun o => (a, o)
end
end Att
namespace L2
open PySem PySem.Spec PyProof.Rows
theorem vals_ints : ∀ {vs : List Value} {ns : List Int}, IntsAre vs ns → Vals (ns.map V.int) vs
  | _, _, .nil => .nil
  | _, _, .cons n t h => .cons ⟨t, rfl⟩ (vals_ints h)
/-- nothing is tracked but the script, known to the object (or it is an object of the module) -/
def Only (H : Hp) : Prop := ∀ b, H b = none ∨ ∃ o xs, H b = some (.frz o (.lst xs))
/-- THE HEAD: the law's promise, at the heap behind the top. F, the promise of the law's def, may use that base is part of the heap (so K.In base, base.Ns mainGlobals mg stand in Mod) -/
theorem law_call {P : Program} {w : World} {K : PySem.W.Frag} {mg mb : Str → Option Value} {CX : CXT} {k : Nat} {fa a : Addr} {fd : FuncData} {x : Str} {sp : Sp} {s₁ : Shared} {vs : List Value} {ns : List Int}
    (KX : K.In s₁.heap) (hns : s₁.heap.Ns mainGlobals mg) (hb : s₁.heap.Ns builtinsNs mb) (hbb : ∀ x : Str, x ≠ "__name__" → mb x = bootBuiltins x) (hlim : s₁.heap.NoLimit) (hg : s₁.gens = #[])
    (ha : s₁.heap.get? a = some { cls := .type "list", data := .seq vs.toArray }) (hi : IntsAre vs ns) (hl : ns.length ≤ sizeLine) (hr : Room k callerA)
    (F : ∀ base : Heap, K.In base → base.Ns mainGlobals mg → FnOk P w K mg base CX k fa fd [x] sp) (hbind : ∀ (s : Shared) (u : Value), BindsTo s fd ⟨[u], []⟩ [(x, u)])
    (hsp : ∀ H : Hp, Only H → SqL K H a (ns.map V.int) → sp [.ref a] H (fun v _ => v = .bl true) fun _ _ _ => False)
    (hCX : ∀ H e s', CX [] H s₁ (fun _ _ _ => False) e s' → False) :
    codeAny (model P w) callerA (.call (.ref fa) ⟨[.ref a], []⟩) (fun r s' => r = .ok (.ret (.bool true)) ∧ OldK s₁.heap s'.heap ∧ s'.os = s₁.os ∧ AllBare s'.gens) s₁ := by
  have rv := vals_ints hi
  have lenV := hi.length
  -- from an abstract heap in which nothing but the script may be tracked
  have core : ∀ H : Hp, Only H → SqL K H a (ns.map V.int) → HOk P w H s₁.heap → (∀ b, H b ≠ none → b = a) → (H a ≠ none → K.lookup a = none) →
      codeAny (model P w) callerA (.call (.ref fa) ⟨[.ref a], []⟩) (fun r s' => r = .ok (.ret (.bool true)) ∧ OldK s₁.heap s'.heap ∧ s'.os = s₁.os ∧ AllBare s'.gens) s₁ := by
    intro H hO hS hok hA hK
    have base_of : ∀ {b : Addr} {o : Obj}, s₁.heap.get? b = some o → H b = none → (hidT s₁.heap H).get? b = some o := fun e n => hidT_get e n
    have noA : ∀ {b : Addr} {o : Obj} {es : Array DictEntry} {ep : Nat}, s₁.heap.get? b = some o → o.data = .dict es ep → H b = none := fun {b o es ep} e d => by
      cases q : H b with
      | none => rfl
      | some u =>
        have e' : b = a := hA b (by rw [q]; simp)
        subst e'
        rw [ha] at e; cases e
        have d' : Data.seq vs.toArray _ = Data.dict es ep := d
        cases d'
    have nsK : ∀ {b : Addr} {m : Str → Option Value}, s₁.heap.Ns b m → (hidT s₁.heap H).Ns b m := fun {b m} ⟨o, es, ep, e, d, r⟩ => ⟨o, es, ep, base_of e (noA e d), d, r⟩
    have hKb : K.In (hidT s₁.heap H) := fun b o e => base_of (KX b o e) (by
      cases q : H b with
      | none => rfl
      | some u =>
        have e' : b = a := hA b (by rw [q]; simp)
        subst e'
        rw [hK (by rw [q]; simp)] at e; cases e)
    have hM : Mod K mg (hidT s₁.heap H) := ⟨hKb, nsK hns, ⟨mb, nsK hb, hbb⟩, let ⟨mc, h1, h2⟩ := hlim; ⟨mc, nsK h1, h2⟩⟩
    have e0 : Env0 P w K mg (hidT s₁.heap H) callerA [] s₁ H := ⟨rfl, hM, fun b o e => of_hidT e, Nat.le_of_eq (hidT_size _ _), trivial, fun b hb => absurd (show b ∈ ([] : List Addr) from hb) (by simp), hok, .of_eq hg⟩
    refine codeAny_mono ((F _ hKb (nsK hns)).run callerA [] s₁ H ⟨[.ref a], []⟩ [.ref a] [.ref a] _ _ hr e0 (hbind s₁ (.ref a)) (.cons rfl .nil) (hsp H hO hS)) fun r s' h => ?_
    cases r with
    | error e => exact (hCX H e s' h).elim
    | ok fl =>
      cases fl with
      | next => exact False.elim h
      | brk => exact False.elim h
      | cont => exact False.elim h
      | ret u =>
        obtain ⟨v, H', os, bare, un, hok', r', q⟩ := h
        have q' : v = .bl true := q
        subst q'
        obtain rfl : u = Value.bool true := r'
        refine ⟨rfl, OldK.of_keep fun b o e => ?_, os, bare⟩
        cases q : H b with
        | none => exact un.keep b o e q (by intro z; exact absurd (show b ∈ ([] : List Addr) from z) (by simp)) (by simp)
        | some u =>
          rcases hO b with z | ⟨ob, xs, z⟩
          · rw [q] at z; cases z
          · have z2 := un.frzs b ob _ z
            obtain ⟨e1, _⟩ := hok b _ z
            obtain ⟨e2, _⟩ := hok' b _ z2
            rw [e] at e1; cases e1
            exact e2
  cases hk : K.lookup a with
  | some o =>
    -- the script is one of the module's own objects
    have e := KX a o hk
    rw [ha] at e
    cases e
    refine core (fun _ => none) (fun _ => .inl rfl) (.inr ⟨_, vs.toArray, _, hk, rfl, rfl, rfl, by rw [List.size_toArray, lenV]; exact hl, by simpa using rv⟩) (fun b u z => by have z' : (none : Option HO) = some u := z; cases z') (fun b z => absurd rfl z) fun z => absurd rfl z
  | none =>
    refine core (fun b => if b = a then some (.frz { cls := .type "list", data := .seq vs.toArray } (.lst (ns.map V.int))) else none) (fun b => ?_) (.inl (.inr ⟨{ cls := .type "list", data := .seq vs.toArray }, if_pos rfl⟩)) (fun b u z => ?_) (fun b z => ?_) fun _ => hk
    · by_cases hb : b = a
      · exact .inr ⟨_, _, if_pos hb⟩
      · exact .inl (if_neg hb)
    · by_cases hb : b = a
      · have z' := (if_pos hb).symm.trans z
        cases z'
        subst hb
        exact ⟨ha, by rw [List.length_map]; exact hl, vs, _, rv, ha⟩
      · have z' := (if_neg hb).symm.trans z
        cases z'
    · by_cases hb : b = a
      · exact hb
      · exact absurd (if_neg hb) z
end L2
namespace L2
open PySem PySem.Spec PyProof.Rows
/-- the goal that k_head leaves (case hc), from the law's promise. F gives the function object fd (K's own) once, then the promise over every base -/
theorem walk_of {l : PySem.W.OpenLaw} {n k : Nat} {q : Program} {loose : List Str} {XP : (Str → Option Value) → Heap → Prop} {YP : World → Heap → Prop} {d : DefRec} {K : Params → PySem.W.Frag} {CX : World → CXT} {sp : World → Sp} {x : Str}
    (hn : l.most = some n) (hn2 : n ≤ sizeLine) (hdf : d.params.defaults = []) (hr : Room k callerA)
    (hY : ∀ (w : World) (h : Heap), YP w h → (K w.params).In h)
    (F : ∀ (w : World) (mg : Str → Option Value) (fa : Addr) (h : Heap), (K w.params).In h → h.Ns mainGlobals mg → mg d.name = some (.ref fa) →
      ∃ fd : FuncData, (∀ (s : Shared) (u : Value), BindsTo s fd ⟨[u], []⟩ [(x, u)]) ∧
        ∀ base : Heap, (K w.params).In base → base.Ns mainGlobals mg → FnOk l.prog w (K w.params) mg base (CX w) k fa fd [x] (sp w))
    (hsp : ∀ (w : World) (H : Hp) (a : Addr) (ns : List Int), ns.length ≤ n → Only H → SqL (K w.params) H a (ns.map V.int) → sp w [.ref a] H (fun v _ => v = .bl true) fun _ _ _ => False)
    (hCX : ∀ (w : World) (H : Hp) (s : Shared) (e : Value) (s' : Shared), CX w [] H s (fun _ _ _ => False) e s' → False) :
    PySem.W.WalkO q loose XP YP l.row.toRowW d [] (fun f vs => PySem.call f vs) := by
  refine Att.attach_call hn hdf fun w s₀ s₁ mg mb fa o pm cd doc a vs ns G Y ho hd hcd hmg hobj hints hlen hg => ?_
  have KX := hY w _ Y
  obtain ⟨fd, hb, hF⟩ := F w mg fa _ KX G.T.g hmg
  exact law_call KX G.T.g G.T.b G.T.builtins G.T.nolimit hg hobj hints (Nat.le_trans hlen hn2) hr hF hb (fun H hO hS => hsp w H a ns hlen hO hS) fun H e s' => hCX w H s₁ e s'
end L2
/-! SHORT WORDS over the layer: a def of the text, its body, what a loop and a test want. -/
namespace L2
open PySem PySem.Spec PyProof.Rows
/-! ### the text by places -/
/-- the j-th statement of a class's body -/
def inClass (s : Stmt) (j : Nat) : Stmt := match s with
  | .ClassDef _ _ _ body _ _ _ _ _ _ _ => body.getD j (.Pass ⟨0, 0, 0, 0⟩)
  | _ => .Pass ⟨0, 0, 0, 0⟩
def defArgs (s : Stmt) : Arguments := match s with
  | .FunctionDef _ a _ _ _ _ _ _ _ _ => a
  | _ => { posonlyargs := [], args := [], vararg := none, kwonlyargs := [], kw_defaults := [], kwarg := none, defaults := [] }
def defBody (s : Stmt) : List Stmt := match s with
  | .FunctionDef _ _ b _ _ _ _ _ _ _ => b
  | _ => []
def defScope (s : Stmt) : Scope := match s with
  | .FunctionDef _ _ _ _ _ _ sc _ _ _ => sc
  | _ => { kind := .function, names := [], isGenerator := false, isCoroutine := false }
/-! ### no exception leaves a def -/
abbrev CX0 : CXT := fun _ _ _ _ _ _ => False
/-! ### a def (or method) of the text as it stands behind the top -/
structure Fun (K : PySem.W.Frag) (x qual : Str) (st : Stmt) (f : Addr) (fd : FuncData) : Prop where
  ex : ∃ (oc : Value) (od : Option Addr) (kV doc pm : Value) (an : Option Addr) (cdv ct : Value) (osl : Array (Option Value)),
    fd = PySem.W.fnOf x qual (defArgs st) (defBody st) (defScope st) .none kV doc pm an cdv ct ∧ K.lookup f = some ⟨oc, od, .func fd, osl⟩ ∧ PySem.W.codeIn K cdv qual = true
  kp : PySem.W.keepIn K (.ref f) = true
section
variable {P : Program} {w : World} {K : PySem.W.Frag} {mg : Str → Option Value} {base : Heap}
/-- THE RULE for a def: its body as a term of rules, and the reading of that term -/
theorem Fun.ok {x qual : Str} {st : Stmt} {f : Addr} {fd : FuncData} {N ps : List Str} {k : Nat} {sp : Sp} (F : Fun K x qual st f fd) (S : FnScope N ps (defScope st)) (len : ∀ vs H Q E, sp vs H Q E → vs.length = ps.length)
    (hbody : ∀ (cdv : Value) (A : Around) (outer : List Env) (s : Shared) (H : Hp) (vs : List V) (Q : VK) (E : XK), Room k (A.deeper (envOfC qual (defScope st) s.heap.objs.size f cdv)) → sp vs H Q E →
      ∃ t, PSs (cxOf CX0 P w K mg base N qual (defScope st) f cdv A outer s H E).nox (defBody st) t ∧ t { nx := fun _ H' => Q .non H', rt := Q } (start N vs) H) : FnOk P w K mg base CX0 (k + 1) f fd ps sp := by
  obtain ⟨oc, od, kV, doc, pm, an, cdv, ct, osl, rfl, lk, hcd⟩ := F.ex
  refine fn_of lk hcd S len fun A outer s H vs Q E hr hsp => ?_
  obtain ⟨t, h, q⟩ := hbody cdv A outer s H vs Q E hr hsp
  exact ⟨t, h.nox, q⟩
/-- how its arguments bind (no defaults): h is «fun _ _ _ _ _ _ us hl => match us, hl with | [_, _], _ => rfl», one _ a parameter -/
theorem Fun.binds {x qual : Str} {st : Stmt} {f : Addr} {fd : FuncData} {ps : List Str} (F : Fun K x qual st f fd)
    (h : ∀ (kV doc pm : Value) (an : Option Addr) (cdv ct : Value) (us : List Value), us.length = ps.length → bindArgs (PySem.W.fnOf x qual (defArgs st) (defBody st) (defScope st) .none kV doc pm an cdv ct) ⟨us, []⟩ = pure (ps.zip us)) : Binds K fd ps [] := by
  obtain ⟨oc, od, kV, doc, pm, an, cdv, ct, osl, rfl, lk, hcd⟩ := F.ex
  exact .all (h kV doc pm an cdv ct)
theorem fun_mk {x qual : Str} {st : Stmt} {f : Addr} {oc : Value} {od an : Option Addr} {osl : Array (Option Value)} {kV doc pm cdv ct : Value} (l : K.lookup f = some ⟨oc, od, .func (PySem.W.fnOf x qual (defArgs st) (defBody st) (defScope st) .none kV doc pm an cdv ct), osl⟩)
    (c : PySem.W.codeIn K cdv qual = true) (k : PySem.W.keepIn K (.ref f) = true) : Fun K x qual st f (PySem.W.fnOf x qual (defArgs st) (defBody st) (defScope st) .none kV doc pm an cdv ct) := ⟨⟨oc, od, kV, doc, pm, an, cdv, ct, osl, rfl, l, c⟩, k⟩
end
theorem hu_of {A : Around} {k : Nat} (hr : Room k A) : A.units + 1 < cLine := Nat.lt_of_le_of_lt (Nat.add_le_add_left (by decide : 1 ≤ 64) _) hr.units
/-! ### expressions in short: the name that stands in the i-th slot -/
section
variable {X : Cx}
/-- len of a dict -/
theorem call_lenD : CallR X (.builtin "len") (fun xs H Q => ∃ a kvs, xs = [V.ref a] ∧ H a = some (.dK kvs) ∧ Q (.int kvs.length) H) := by
  intro pins s σ H xs us Q I r h
  obtain ⟨a, kvs, rfl, ha, q⟩ := h
  obtain ⟨u, rfl, ru⟩ := vals1 r
  cases ru
  exact d_len I (.inl ha) fun t s' I' => ⟨.int kvs.length, H, I', ⟨t, rfl⟩, q⟩
end
/-! ### tests -/
theorem iteF {A B : Prop} (h : B) : if false = true then A else B := by
  rw [if_neg Bool.false_ne_true]
  exact h
theorem iteT {A B : Prop} (h : A) : if true = true then A else B := by
  rw [if_pos rfl]
  exact h
theorem ite2 {c A B : Prop} [Decidable c] (h1 : c → A) (h2 : ¬ c → B) : if c then A else B := by
  by_cases h : c
  · rw [if_pos h]
    exact h1 h
  · rw [if_neg h]
    exact h2 h
/-! ### heaps -/
/-- all that was tracked is as it was -/
def Same (H H' : Hp) : Prop := ∀ b o, H b = some o → H' b = some o
theorem Same.trans {H H1 H2 : Hp} (a : Same H H1) (b : Same H1 H2) : Same H H2 := fun c o h => b c o (a c o h)
theorem Same.free {H H' : Hp} (e : Same H H') {l : Addr} (h : H' l = Option.none) : H l = Option.none := by
  cases q : H l with
  | none => rfl
  | some o =>
    rw [e l o q] at h
    cases h
theorem Same.seq {K : PySem.W.Frag} {H H' : Hp} {a : Addr} {xs : List V} (e : Same H H') (h : SqL K H a xs) : SqL K H' a xs := by
  rcases h with (h | ⟨o, h⟩) | h
  · exact .inl (.inl (e _ _ h))
  · exact .inl (.inr ⟨o, e _ _ h⟩)
  · exact .inr h
/-! ### a dict's pairs: keys that differ -/
section
variable {κ : Type} [DecidableEq κ]
theorem valV_not {kvs : List (κ × V)} {k : κ} (h : valV kvs k = none) : ¬ k ∈ kvs.map (·.1) := by
  intro m
  obtain ⟨p, hp, e⟩ := List.mem_map.mp m
  have q : (kvs.any fun kv => decide (kv.1 = k)) = true := List.any_eq_true.mpr ⟨p, hp, decide_eq_true e⟩
  rw [valV_any, h] at q
  exact absurd q (by simp)
theorem valV_in {kvs : List (κ × V)} {k : κ} {v : V} (h : valV kvs k = some v) : k ∈ kvs.map (·.1) := by
  have q : (kvs.any fun kv => decide (kv.1 = k)) = true := by
    rw [valV_any, h]
    all_goals rfl
  obtain ⟨p, hp, e⟩ := List.any_eq_true.mp q
  exact List.mem_map.mpr ⟨p, hp, of_decide_eq_true e⟩
theorem dropK_mem {kvs : List (κ × V)} {k : κ} {p : κ × V} (h : p ∈ dropK kvs k) : p ∈ kvs := (List.mem_filter.mp h).1
end
end L2
set_option maxHeartbeats 4000000
/-! MY OWN LAYER over the hand layer: exceptions, packed promises -/
namespace L2
open PySem PySem.Spec PyProof.Rows

/-- an exception of class cls flies, its record at ea, over the frames l; B: all that stays whatever it passes -/
structure Fly (B : Heap) (l : List Env) (h : Heap) (H H' : Hp) (h' : Heap) (ea : Addr) (cls : Value) : Prop where
  fl : ∃ a0, Heap.FlyingW B l ea cls a0 h'
  trk : ∀ b u, H' b = some u → ∃ o, B.get? b = some o
  kept : ∀ b o, h.get? b = some o → H b = none → b ∉ frs l → B.get? b = some o
  alive : ∀ b o, h.get? b = some o → b ∉ frs l → ∃ o', B.get? b = some o'
/-- how an exception lies behind a call -/
def CXe (P : Program) (w : World) : CXT := fun outer H s E e s' => ∃ ea cls H' B, e = .ref ea ∧ s'.os = s.os ∧ AllBare s'.gens ∧ Un (frs outer) [] H H' s.heap s'.heap ∧ HOk P w H' s'.heap ∧ Fly B outer s.heap H H' s'.heap ea cls ∧ E cls none H'
/-- what a context wants of exceptions, in abstract words: class, frame, heap -/
abbrev XKs := Value → St → Hp → Prop
def XW (X : Cx) (K : XKs) : Prop := ∀ (pins : List (Addr × Obj)) (σ : St) (H : Hp) (s s' : Shared) (ea : Addr) (cls : Value) (H' : Hp) (B : Heap), Inv X pins σ H s → s'.os = s.os → AllBare s'.gens →
  Un (frs X.stack) [] H H' s.heap s'.heap → HOk X.prog X.w H' s'.heap → Fly B X.stack s.heap H H' s'.heap ea cls → K cls σ H' → X.xe (.ref ea) s'

theorem frs_cons {env : Env} {l : List Env} {L : Addr} (h : env.frame = some L) : frs (env :: l) = L :: frs l := by
  unfold frs; rw [List.filterMap_cons, h]

/-- tracked things stay where all that B holds stays -/
theorem HOk.flown {P : Program} {w : World} {H : Hp} {B h h' : Heap} (x : HOk P w H h) (t : ∀ b u, H b = some u → ∃ o, B.get? b = some o) (s : B.StaysIn h) (s' : B.StaysIn h') : HOk P w H h' := fun a o e =>
  (x a o e).stay (fun b u hb q => by
    have hB : ∃ o, B.get? b = some o := by
      rcases hb with rfl | hb
      · exact t _ _ e
      · exact t _ _ hb
    obtain ⟨o', ho⟩ := hB
    have e1 := s b o' ho
    rw [q] at e1; cases e1
    exact s' b _ ho) (fun _ q => q) fun _ _ q => q

/-- the wish of a def's body -/
theorem xw_def {P : Program} {w : World} {K : PySem.W.Frag} {mg : Str → Option Value} {base : Heap} {N : List Str} {qual : Str} {scope : Scope} {f : Addr} {cd : Value} {A : Around} {outer : List Env} {s0 : Shared} {H0 : Hp} {E : XK} :
    XW (cxOf (CXe P w) P w K mg base N qual scope f cd A outer s0 H0 E) (fun c _ H' => E c none H') := by
  intro pins σ H s s' ea cls H' B I os bare un hok fly hK
  have I' := I.call' (s' := s') (ch := []) os un hok bare (fun b z => absurd z (by simp))
  have hfr := I.ok.frames
  have hstk : (cxOf (CXe P w) P w K mg base N qual scope f cd A outer s0 H0 E).stack = envOfC qual scope s0.heap.objs.size f cd :: outer := rfl
  rw [hstk] at hfr
  obtain ⟨a0, hfl⟩ := fly.fl
  have hf : (envOfC qual scope s0.heap.objs.size f cd).frame = some s0.heap.objs.size := rfl
  show wpAny _ _ (leaving (envOfC qual scope s0.heap.objs.size f cd) (.ref ea)) _ _ s'
  refine wpAny_leaves_onW hfr hf hfl fun h' fl' up => ?_
  have hfs : frs (envOfC qual scope s0.heap.objs.size f cd :: outer) = s0.heap.objs.size :: frs outer := frs_cons hf
  have nf : ∀ b o, s0.heap.get? b = some o → b ∉ frs outer → b ∉ frs (envOfC qual scope s0.heap.objs.size f cd :: outer) := fun b o e n z => by
    rw [hfs] at z
    rcases List.mem_cons.mp z with z | z
    · exact absurd (Heap.lt_size e) (by rw [z]; exact Nat.lt_irrefl _)
    · exact n z
  have stay : ∀ b o, s0.heap.get? b = some o → H0 b = none → b ∉ frs outer → B.get? b = some o := fun b o e n hb =>
    fly.kept b o (I.base.keep b o e n hb (by intro z; exact absurd z (by simp [cxOf]))) (I.base.free b o e n (by intro z; exact absurd z (by simp [cxOf]))) (nf b o e hb)
  have live : ∀ b o, s0.heap.get? b = some o → b ∉ frs outer → ∃ o', B.get? b = some o' := fun b o e hb => by
    obtain ⟨o1, e1⟩ := I.base.there b o e (by intro z; exact absurd z (by simp [cxOf]))
    exact fly.alive b o1 e1 (nf b o e hb)
  refine ⟨ea, cls, H', B, rfl, I'.os, bare, ?_, hok.flown fly.trk hfl.1 fl'.1, ⟨⟨a0, fl'⟩, fly.trk, stay, live⟩, hK⟩
  have noA : ∀ b : Addr, b ∉ (cxOf (CXe P w) P w K mg base N qual scope f cd A outer s0 H0 E).ex := fun b z => absurd z (by simp [cxOf])
  have slotOf : ∀ b, b ∈ frs outer → ∀ o, s'.heap.get? b = some o → ∃ sl, h'.get? b = some { o with slots := sl } := fun b hb o e => by
    have hm : b ∈ frs (envOfC qual scope s0.heap.objs.size f cd :: outer) := by rw [hfs]; exact List.mem_cons_of_mem _ hb
    obtain ⟨_, o', ho', hd⟩ := hfl.2.2.1.mem hm
    rw [e] at ho'; cases ho'
    exact up b o e hd
  refine ⟨fun b o e n hb _ => fl'.1 b o (stay b o e n hb), fun b o e n hb _ => ?_, fun b o e n _ => I'.base.free b o e n (noA b), fun b o e _ => ?_, I'.base.tups, I'.base.frzs, I'.base.tbls⟩
  · obtain ⟨sl, e1⟩ := I'.base.slot b o e n hb (noA b)
    obtain ⟨sl', e2⟩ := slotOf b hb _ e1
    exact ⟨sl', e2⟩
  · by_cases hb : b ∈ frs outer
    · obtain ⟨o1, e1⟩ := I'.base.there b o e (noA b)
      obtain ⟨sl, e2⟩ := slotOf b hb _ e1
      exact ⟨_, e2⟩
    · obtain ⟨o1, e1⟩ := live b o e hb
      exact ⟨o1, fl'.1 b o1 e1⟩

/-! ### packed promises -/
/-- a def of the module: bound to x, its promise -/
def Have (P : Program) (w : World) (K : PySem.W.Frag) (mg : Str → Option Value) (base : Heap) (x : Str) (k : Nat) (ps : List Str) (dvs : List V) (sp : Sp) : Prop :=
  ∃ f fd ds, mg x = some (.ref f) ∧ PySem.W.keepIn K (.ref f) = true ∧ Binds K fd ps ds ∧ Vals dvs ds ∧ FnOk P w K mg base (CXe P w) k f fd ps sp
/-- a method -/
def HaveM (P : Program) (w : World) (K : PySem.W.Frag) (mg : Str → Option Value) (base : Heap) (C : Addr) (m : Str) (k : Nat) (ps : List Str) (dvs : List V) (sp : Sp) : Prop :=
  ∃ f fd ds, Meth K C m f ∧ Binds K fd ps ds ∧ Vals dvs ds ∧ FnOk P w K mg base (CXe P w) k f fd ps sp
/-- __init__ of the class at C, bound to x -/
def HaveI (P : Program) (w : World) (K : PySem.W.Frag) (mg : Str → Option Value) (base : Heap) (x : Str) (C : Addr) (k : Nat) (ps : List Str) (dvs : List V) (sp : Sp) : Prop :=
  ∃ f fd ds, mg x = some (.ref C) ∧ Mk K C f ∧ Binds K fd ps ds ∧ Vals dvs ds ∧ FnOk P w K mg base (CXe P w) k f fd ps sp
def tCallE (Kx : XKs) (sp : Sp) (dvs : List V) (t : TA) : TE := fun σ H Q => t σ H fun vs H1 => sp (vs ++ dvs) H1 Q (fun c _ H' => Kx c σ H')
def tMethE (Kx : XKs) (C : Addr) (m : Str) (sp : Sp) (dvs : List V) (ta : TE) (t : TA) : TE := fun σ H Q => ta σ H fun x H1 => ∃ a dx fs, x = .ref a ∧ H1 a = some (.ins C dx fs) ∧ fs.lookup m = none ∧
  t σ H1 fun vs H2 => sp (x :: (vs ++ dvs)) H2 Q (fun c _ H' => Kx c σ H')
def tMakeE (Kx : XKs) (C : Addr) (sp : Sp) (dvs : List V) (t : TA) : TE := fun σ H Q => t σ H fun vs H1 => ∀ x dx, H1 x = none → H1 dx = none → dx ≠ x →
  sp (.ref x :: (vs ++ dvs)) (upd (upd H1 dx (.own x)) x (.ins C dx [])) (fun v H2 => v = .non ∧ Q (.ref x) H2) (fun c _ H' => Kx c σ H')
section
variable {X : Cx} {Kx : XKs} {k : Nat} {f C : Addr} {fd : FuncData} {ps : List Str} {sp : Sp} {dvs : List V} {ds : List Value} {x m : Str} {p pos apos : Pos} {e o : Expr} {es : List Expr} {ta : TE} {t : TA}
theorem run_fnE {pins : List (Addr × Obj)} {σ : St} {H : Hp} {s : Shared} {Q : VK} {us : List Value} {vs : List V} (F : FnOk X.prog X.w X.K X.mg X.base (CXe X.prog X.w) k f fd ps sp) (hr : Room k X.A) (hb : Binds X.K fd ps ds) (hd : Vals dvs ds) (hx : XW X Kx)
    (I : Inv X pins σ H s) (r : Vals vs us) (h : sp (vs ++ dvs) H Q (fun c _ H' => Kx c σ H')) : wpAny (model X.prog X.w) X.A (call (.ref f) us) (EP X pins σ Q) X.xe s := by
  have r2 : Vals (vs ++ dvs) (us ++ ds) := r.append hd
  have hl : (us ++ ds).length = ps.length := by rw [← r2.length]; exact F.len _ _ _ _ h
  refine wpAny_call (codeAny_mono (F.run X.A X.stack s H ⟨us, []⟩ (us ++ ds) (vs ++ dvs) Q _ hr I.env0 (hb s us I.kIn hl) r2 h) fun r s' hq => ?_)
  cases r with
  | error e =>
    obtain ⟨ea, cls, H', B, rfl, os, bare, un, hok, fly, hK⟩ := hq
    exact hx pins σ H s s' ea cls H' B I os bare un hok fly hK
  | ok fl =>
    cases fl with
    | ret u => exact I.after hq
    | next => exact False.elim hq
    | brk => exact False.elim hq
    | cont => exact False.elim hq
theorem pe_callE (F : Have X.prog X.w X.K X.mg X.base x k ps dvs sp) (hr : Room k X.A) (hx : XW X Kx) (ha : PA X (e :: es) t) (hg : Gl X x := by rfl) (hdb : (x == ("__debug__" : Str)) = false := by decide)
    (he : starEach (e :: es) X.env = (false, eval e X.env) :: starEach es X.env := by rfl) (hpl : (backTo pos (starEach es X.env)).any (·.1) = false := by rfl) :
    PE X (.Call (.Name x p) (e :: es) [] pos) (tCallE Kx sp dvs t) := by
  obtain ⟨f, fd, ds, hm, hk, hb, hd, F⟩ := F
  intro pins s σ H Q I h
  refine wpAny_Call_Name_kw (ld_glob I hg hm ?_ hdb)
  refine PySem.W.callWith_K (h₀ := X.base) I.ok.mod.kin hk (thn (ha pos pins s σ H _ I h) fun us s1 ⟨vs, H1, I1, r, q⟩ => ⟨I1.kIn, ?_⟩) he hpl
  exact run_fnE F hr hb hd hx I1 r q
theorem pe_methE {pl : Sem Bool} (ho : PE X o ta) (c : Cls X.K C) (F : HaveM X.prog X.w X.K X.mg X.base C m k ps dvs sp) (hr : Room k X.A) (hx : XW X Kx) (ha : PA X (e :: es) t)
    (hst : starEach (e :: es) X.env = (false, eval e X.env) :: starEach es X.env := by rfl) (hpl : (backTo pos (starEach es X.env)).any (·.1) = false := by rfl)
    (ht : eval (.Call (.Attribute o m apos) (e :: es) [] pos) X.env = (do
      let ov ← eval o X.env
      standAt apos.atName
      let (f, first) ← holding [ov] (getMethod ov m pl)
      callWith pos f first (backTo pos (starEach (e :: es) X.env)) (backToKw pos (keywordEach [] X.env))) := by rfl) :
    PE X (.Call (.Attribute o m apos) (e :: es) [] pos) (tMethE Kx C m sp dvs ta t) := by
  obtain ⟨f, fd, ds, hm, hb, hd, F⟩ := F
  intro pins s σ H Q I h
  refine PySem.W.methodCall_KW (pl := pl) (thn (ho pins s σ H _ I h) fun u s1 ⟨x, H1, I1, rx, a, dx, fs, ex, ea, l, q⟩ => ?_) ht
  subst ex
  obtain rfl : u = Value.ref a := rx
  refine getmeth_ok I1 ea c hm l ?_
  refine PySem.W.callWith_K (first := [.ref a]) (h₀ := X.base) I.ok.mod.kin hm.kp (thn (ha pos pins s1 σ H1 _ I1 q) fun us s2 ⟨vs, H2, I2, r, q2⟩ => ⟨I2.kIn, ?_⟩) hst hpl
  exact run_fnE (us := .ref a :: us) (vs := .ref a :: vs) F hr hb hd hx I2 (.cons rfl r) q2
theorem pe_methE0 {pl : Sem Bool} (ho : PE X o ta) (c : Cls X.K C) (F : HaveM X.prog X.w X.K X.mg X.base C m k ps dvs sp) (hr : Room k X.A) (hx : XW X Kx)
    (ht : eval (.Call (.Attribute o m apos) [] [] pos) X.env = (do
      let ov ← eval o X.env
      standAt apos.atName
      let (f, first) ← holding [ov] (getMethod ov m pl)
      callWith pos f first (backTo pos (starEach [] X.env)) (backToKw pos (keywordEach [] X.env))) := by rfl) :
    PE X (.Call (.Attribute o m apos) [] [] pos) (tMethE Kx C m sp dvs ta tNil) := by
  obtain ⟨f, fd, ds, hm, hb, hd, F⟩ := F
  intro pins s σ H Q I h
  refine PySem.W.methodCall_KW (pl := pl) (thn (ho pins s σ H _ I h) fun u s1 ⟨x, H1, I1, rx, a, dx, fs, ex, ea, l, q⟩ => ?_) ht
  subst ex
  obtain rfl : u = Value.ref a := rx
  refine getmeth_ok I1 ea c hm l ?_
  exact PySem.W.callWith_K0 (first := [.ref a]) I1.kIn hm.kp (run_fnE (us := [.ref a]) (vs := [.ref a]) F hr hb hd hx I1 (.cons rfl .nil) q)
theorem run_makeE {pins : List (Addr × Obj)} {σ : St} {H : Hp} {s : Shared} {Q : VK} {us : List Value} {vs : List V} (M : Mk X.K C f) (F : FnOk X.prog X.w X.K X.mg X.base (CXe X.prog X.w) k f fd ps sp) (hr : Room (k + 1) X.A) (hb : Binds X.K fd ps ds) (hd : Vals dvs ds)
    (hx : XW X Kx) (I : Inv X pins σ H s) (r : Vals vs us)
    (h : ∀ x dx, H x = none → H dx = none → dx ≠ x → sp (.ref x :: (vs ++ dvs)) (upd (upd H dx (.own x)) x (.ins C dx [])) (fun v H2 => v = .non ∧ Q (.ref x) H2) (fun c _ H' => Kx c σ H')) :
    wpAny (model X.prog X.w) X.A (call (.ref C) us) (EP X pins σ Q) X.xe s := by
  have hq := h (s.heap.objs.size + 1) s.heap.objs.size (I.hok.fresh (Nat.le_succ _)) (I.hok.fresh (Nat.le_refl _)) (Nat.ne_of_lt (Nat.lt_succ_self _))
  have I2 := Inv.made (C := C) I
  have r2 : Vals (V.ref (s.heap.objs.size + 1) :: (vs ++ dvs)) (Value.ref (s.heap.objs.size + 1) :: (us ++ ds)) := .cons rfl (r.append hd)
  have hl : (Value.ref (s.heap.objs.size + 1) :: us ++ ds).length = ps.length := by
    have e := r2.length
    rw [F.len _ _ _ _ hq] at e
    exact e.symm
  refine wpAny_call (make_map (f := f) I.kIn M.makes M.init (beq_iff_eq.mp M.fn) (codeAny_mono (F.run _ X.stack _ _ ⟨Value.ref (s.heap.objs.size + 1) :: us, []⟩ (Value.ref (s.heap.objs.size + 1) :: (us ++ ds)) _ _ _ (hr.make C us [])
    (I2.env0.make C us []) (hb _ (Value.ref (s.heap.objs.size + 1) :: us) I2.kIn hl) r2 hq) fun r s' hq' => ?_))
  cases r with
  | error e =>
    obtain ⟨ea, cls, H', B, rfl, os, bare, un, hok, fly, hK⟩ := hq'
    exact hx pins σ _ _ s' ea cls H' B I2 os bare un hok fly hK
  | ok fl =>
    cases fl with
    | ret u =>
      obtain ⟨v, H', I3, rv, ev, q3⟩ := I2.after hq'
      subst ev
      exact ⟨rv, ⟨V.ref (s.heap.objs.size + 1), H', I3, rfl, q3⟩⟩
    | next => exact False.elim hq'
    | brk => exact False.elim hq'
    | cont => exact False.elim hq'
theorem pe_makeE (F : HaveI X.prog X.w X.K X.mg X.base x C k ps dvs sp) (hr : Room (k + 1) X.A) (hx : XW X Kx) (ha : PA X (e :: es) t) (hg : Gl X x := by rfl) (hdb : (x == ("__debug__" : Str)) = false := by decide)
    (he : starEach (e :: es) X.env = (false, eval e X.env) :: starEach es X.env := by rfl) (hpl : (backTo pos (starEach es X.env)).any (·.1) = false := by rfl) :
    PE X (.Call (.Name x p) (e :: es) [] pos) (tMakeE Kx C sp dvs t) := by
  obtain ⟨f, fd, ds, hm, M, hb, hd, F⟩ := F
  intro pins s σ H Q I h
  refine wpAny_Call_Name_kw (ld_glob I hg hm ?_ hdb)
  refine PySem.W.callWith_K (h₀ := X.base) I.ok.mod.kin M.kp (thn (ha pos pins s σ H _ I h) fun us s1 ⟨vs, H1, I1, r, q⟩ => ⟨I1.kIn, ?_⟩) he hpl
  exact run_makeE M F hr hb hd hx I1 r q
theorem pe_makeE0 (F : HaveI X.prog X.w X.K X.mg X.base x C k ps dvs sp) (hr : Room (k + 1) X.A) (hx : XW X Kx) (hg : Gl X x := by rfl) (hdb : (x == ("__debug__" : Str)) = false := by decide) :
    PE X (.Call (.Name x p) [] [] pos) (tMakeE Kx C sp dvs tNil) := by
  obtain ⟨f, fd, ds, hm, M, hb, hd, F⟩ := F
  intro pins s σ H Q I h
  refine wpAny_Call_Name_kw (ld_glob I hg hm ?_ hdb)
  exact PySem.W.callWith_K0 I.kIn M.kp (run_makeE (us := []) M F hr hb hd hx I .nil h)
/-- a name of the module, a built-in's name, as a value -/
theorem pe_globE {v : V} (hg : Gl X x) (hm : ∃ u, X.mg x = some u ∧ RelV v u) (hd : (x == ("__debug__" : Str)) = false := by decide) : PE X (.Name x pos) (tC v) := by
  obtain ⟨u, hm, r⟩ := hm
  exact pe_glob hg hm r hd
theorem pe_bltnE {n : String} (hg : Gl X x) (hm : X.mg x = none) (hv : bootBuiltins x = some (.type n)) (hn : x ≠ "__name__" := by decide) (hd : (x == ("__debug__" : Str)) = false := by decide) : PE X (.Name x pos) (tC (.ty n)) := pe_bltn hg hm hv rfl hn hd
end
/-! ### a def by its body -/
/-- a def (or method) of the text -/
def Raw (K : PySem.W.Frag) (mg : Str → Option Value) (x qual : Str) (st : Stmt) (ps : List Str) (dvs : List V) : Prop := ∃ f fd ds, mg x = some (.ref f) ∧ Fun K x qual st f fd ∧ Binds K fd ps ds ∧ Vals dvs ds
def RawM (K : PySem.W.Frag) (C : Addr) (m qual : Str) (st : Stmt) (ps : List Str) (dvs : List V) : Prop := ∃ f fd ds, Meth K C m f ∧ Fun K m qual st f fd ∧ Binds K fd ps ds ∧ Vals dvs ds
def RawI (K : PySem.W.Frag) (mg : Str → Option Value) (x : Str) (C : Addr) (qual : Str) (st : Stmt) (ps : List Str) (dvs : List V) : Prop := ∃ f fd ds, mg x = some (.ref C) ∧ Mk K C f ∧ Fun K "__init__" qual st f fd ∧ Binds K fd ps ds ∧ Vals dvs ds
section
variable {P : Program} {w : World} {K : PySem.W.Frag} {mg : Str → Option Value} {base : Heap}
/-- the body's duty -/
def Body (P : Program) (w : World) (K : PySem.W.Frag) (mg : Str → Option Value) (base : Heap) (qual : Str) (st : Stmt) (N : List Str) (k : Nat) (sp : Sp) : Prop :=
  ∀ (f : Addr) (cdv : Value) (A : Around) (outer : List Env) (s : Shared) (H : Hp) (vs : List V) (Q : VK) (E : XK), Room k (A.deeper (envOfC qual (defScope st) s.heap.objs.size f cdv)) → sp vs H Q E →
    ∃ t, PSs (cxOf (CXe P w) P w K mg base N qual (defScope st) f cdv A outer s H E) (defBody st) t ∧ t { nx := fun _ H' => Q .non H', rt := Q } (start N vs) H
theorem Fun.okE {x qual : Str} {st : Stmt} {f : Addr} {fd : FuncData} {N ps : List Str} {k : Nat} {sp : Sp} (F : Fun K x qual st f fd) (S : FnScope N ps (defScope st)) (len : ∀ vs H Q E, sp vs H Q E → vs.length = ps.length)
    (hbody : Body P w K mg base qual st N k sp) : FnOk P w K mg base (CXe P w) (k + 1) f fd ps sp := by
  obtain ⟨oc, od, kV, doc, pm, an, cdv, ct, osl, rfl, lk, hcd⟩ := F.ex
  exact fn_of lk hcd S len fun A outer s H vs Q E hr hsp => hbody f cdv A outer s H vs Q E hr hsp
theorem Raw.have {x qual : Str} {st : Stmt} {N ps : List Str} {dvs : List V} {k : Nat} {sp : Sp} (R : Raw K mg x qual st ps dvs) (S : FnScope N ps (defScope st)) (len : ∀ vs H Q E, sp vs H Q E → vs.length = ps.length)
    (hbody : Body P w K mg base qual st N k sp) : Have P w K mg base x (k + 1) ps dvs sp :=
  let ⟨f, fd, ds, hm, F, hb, hd⟩ := R
  ⟨f, fd, ds, hm, F.kp, hb, hd, F.okE S len hbody⟩
theorem RawM.have {C : Addr} {m qual : Str} {st : Stmt} {N ps : List Str} {dvs : List V} {k : Nat} {sp : Sp} (R : RawM K C m qual st ps dvs) (S : FnScope N ps (defScope st)) (len : ∀ vs H Q E, sp vs H Q E → vs.length = ps.length)
    (hbody : Body P w K mg base qual st N k sp) : HaveM P w K mg base C m (k + 1) ps dvs sp :=
  let ⟨f, fd, ds, hm, F, hb, hd⟩ := R
  ⟨f, fd, ds, hm, hb, hd, F.okE S len hbody⟩
theorem RawI.have {C : Addr} {x qual : Str} {st : Stmt} {N ps : List Str} {dvs : List V} {k : Nat} {sp : Sp} (R : RawI K mg x C qual st ps dvs) (S : FnScope N ps (defScope st)) (len : ∀ vs H Q E, sp vs H Q E → vs.length = ps.length)
    (hbody : Body P w K mg base qual st N k sp) : HaveI P w K mg base x C (k + 1) ps dvs sp :=
  let ⟨f, fd, ds, hm, M, F, hb, hd⟩ := R
  ⟨f, fd, ds, hm, M, hb, hd, F.okE S len hbody⟩
end
end L2
/-! ### exceptions: raised, caught -/
namespace L2
open PySem PySem.Spec PyProof.Rows

/-- the wish at a raise -/
def XR (X : Cx) (K : XKs) : Prop := ∀ (pins : List (Addr × Obj)) (σ : St) (H : Hp) (s : Shared) (h' : Heap) (e : Addr) (cls : Value) (args : List Value), Inv X pins σ H s → Heap.MadeExcOf s.heap h' e cls args → K cls σ H → X.xe (.ref e) { s with heap := h' }

theorem HOk.alive {P : Program} {w : World} {H : Hp} {h : Heap} (x : HOk P w H h) {b : Addr} {u : HO} (e : H b = some u) : ∃ o, h.get? b = some o := by
  have q := x b u e
  cases u with
  | lst xs => obtain ⟨_, _, _, _, e⟩ := q; exact ⟨_, e⟩
  | tup xs => obtain ⟨_, _, _, ⟨o, e, _⟩⟩ := q; exact ⟨_, e⟩
  | dK kvs => obtain ⟨_, _, _, _, o, _, _, e, _⟩ := q; exact ⟨_, e⟩
  | dT kvs => obtain ⟨_, _, _, _, o, _, _, e, _⟩ := q; exact ⟨_, e⟩
  | set S n => obtain ⟨o, _, _, _, e, _⟩ := q; exact ⟨_, e⟩
  | ins C dx fs => obtain ⟨_, _, _, e, _⟩ := q; exact ⟨_, e⟩
  | own y => exact q
  | xd fs => obtain ⟨_, ⟨_, _, _, e, _⟩, _⟩ := q; exact ⟨_, e⟩
  | rng lo hi => obtain ⟨_, _, _, e⟩ := q; exact ⟨_, e⟩
  | frz ob u => obtain ⟨e, _⟩ := q; exact ⟨_, e⟩
  | tbl ps => exact ⟨_, q⟩
  | met f y => exact ⟨_, q⟩
  | ext φ => obtain ⟨_, e, _⟩ := q; exact e

theorem xr_def {P : Program} {w : World} {K : PySem.W.Frag} {mg : Str → Option Value} {base : Heap} {N : List Str} {qual : Str} {scope : Scope} {f : Addr} {cd : Value} {A : Around} {outer : List Env} {s0 : Shared} {H0 : Hp} {E : XK} :
    XR (cxOf (CXe P w) P w K mg base N qual scope f cd A outer s0 H0 E) (fun c _ H' => E c none H') := by
  intro pins σ H s h1 ea cls args I mk hK
  have hfr := I.ok.frames
  have hstk : (cxOf (CXe P w) P w K mg base N qual scope f cd A outer s0 H0 E).stack = envOfC qual scope s0.heap.objs.size f cd :: outer := rfl
  have hfun := I.stack
  have hfree := I.stkFree
  rw [hstk] at hfr hfun hfree
  have hf : (envOfC qual scope s0.heap.objs.size f cd).frame = some s0.heap.objs.size := rfl
  have hfs : frs (envOfC qual scope s0.heap.objs.size f cd :: outer) = s0.heap.objs.size :: frs outer := frs_cons hf
  have noA : ∀ b : Addr, b ∉ (cxOf (CXe P w) P w K mg base N qual scope f cd A outer s0 H0 E).ex := fun b z => absurd z (by simp [cxOf])
  have nf : ∀ b o, s0.heap.get? b = some o → b ∉ frs outer → b ∉ frs (envOfC qual scope s0.heap.objs.size f cd :: outer) := fun b o e n z => by
    rw [hfs] at z
    rcases List.mem_cons.mp z with z | z
    · exact absurd (Heap.lt_size e) (by rw [z]; exact Nat.lt_irrefl _)
    · exact n z
  show wpAny _ _ (leaving (envOfC qual scope s0.heap.objs.size f cd) (.ref ea)) _ _ _
  refine wpAny_leaves_madeW (base := PySem.W.hideAll s.heap (frs (envOfC qual scope s0.heap.objs.size f cd :: outer))) (h := s.heap) hfr hf (fun b o q => PySem.W.of_hideAll _ q)
    (PySem.W.funFrames_hide hfun fun env he b hb => List.mem_filterMap.mpr ⟨env, he, hb⟩) mk fun h' t fl' _ _ up => ?_
  have inB : ∀ b o, s.heap.get? b = some o → b ∉ frs (envOfC qual scope s0.heap.objs.size f cd :: outer) → (PySem.W.hideAll s.heap (frs (envOfC qual scope s0.heap.objs.size f cd :: outer))).get? b = some o := fun b o e n => PySem.W.hideAll_get _ e n
  have stay : ∀ b o, s0.heap.get? b = some o → H0 b = none → b ∉ frs outer → (PySem.W.hideAll s.heap (frs (envOfC qual scope s0.heap.objs.size f cd :: outer))).get? b = some o := fun b o e n hb =>
    inB b o (I.base.keep b o e n hb (noA b)) (nf b o e hb)
  have live : ∀ b o, s0.heap.get? b = some o → b ∉ frs outer → ∃ o', (PySem.W.hideAll s.heap (frs (envOfC qual scope s0.heap.objs.size f cd :: outer))).get? b = some o' := fun b o e hb => by
    obtain ⟨o1, e1⟩ := I.base.there b o e (noA b)
    exact ⟨o1, inB b o1 e1 (nf b o e hb)⟩
  have trk : ∀ b u, H b = some u → ∃ o, (PySem.W.hideAll s.heap (frs (envOfC qual scope s0.heap.objs.size f cd :: outer))).get? b = some o := fun b u e => by
    obtain ⟨o, ho⟩ := I.hok.alive e
    exact ⟨o, inB b o ho fun z => by rw [hfree b z] at e; cases e⟩
  have slotOf : ∀ b, b ∈ frs outer → ∀ o, s.heap.get? b = some o → ∃ sl, h'.get? b = some { o with slots := sl } := fun b hb o e => by
    have hm : b ∈ frs (envOfC qual scope s0.heap.objs.size f cd :: outer) := by rw [hfs]; exact List.mem_cons_of_mem _ hb
    obtain ⟨_, o', ho', hd⟩ := hfun.mem hm
    rw [e] at ho'; cases ho'
    exact up b o (mk.keeps b o e) hd
  refine ⟨ea, cls, H, _, rfl, I.os, I.bare, ?_, I.hok.flown trk (fun b o q => PySem.W.of_hideAll _ q) fl'.1, ⟨⟨_, fl'⟩, trk, stay, live⟩, hK⟩
  refine ⟨fun b o e n hb _ => fl'.1 b o (stay b o e n hb), fun b o e n hb _ => ?_, fun b o e n _ => I.base.free b o e n (noA b), fun b o e _ => ?_, I.base.tups, I.base.frzs, I.base.tbls⟩
  · obtain ⟨sl, e1⟩ := I.base.slot b o e n hb (noA b)
    obtain ⟨sl', e2⟩ := slotOf b hb _ e1
    exact ⟨sl', e2⟩
  · by_cases hb : b ∈ frs outer
    · obtain ⟨o1, e1⟩ := I.base.there b o e (noA b)
      obtain ⟨sl, e2⟩ := slotOf b hb _ e1
      exact ⟨_, e2⟩
    · obtain ⟨o1, e1⟩ := live b o e hb
      exact ⟨o1, fl'.1 b o1 e1⟩

abbrev mroVE : List Value := [.type "ValueError", .type "Exception", .type "BaseException", .type "object"]
/-- an own error class under ValueError, bound to x -/
structure XC (K : PySem.W.Frag) (mg : Str → Option Value) (x : Str) (C : Addr) : Prop where
  m : mg x = some (.ref C)
  ex : PySem.W.excIn K C mroVE "ValueError.__new__" = true
theorem exc_obj {K : PySem.W.Frag} {h : Heap} {C : Addr} {l : List Value} {id : String} (hin : K.In h) (q : PySem.W.excIn K C l id = true) :
    ∃ bm N nm qn bs hdct sn sub ab col dd k0 k1 k2 k3 k5 mN, h.get? C = some (excClassObj nm qn C N bs bm hdct sn sub ab col dd k0 k1 k2 k3 k5 id) ∧ h.Ns N mN ∧ mN "__init__" = none ∧ OwnTail h l bm := by
  unfold PySem.W.excIn at q
  split at q
  case h_2 => cases q
  case h_1 dd cd sl ho =>
    split at q
    case h_2 => cases q
    case h_1 C' bm k0 k1 k2 k3 n k5 hm hs =>
      rw [Bool.and_eq_true, Bool.and_eq_true, Bool.and_eq_true, Bool.and_eq_true, Bool.and_eq_true] at q
      obtain ⟨⟨⟨⟨⟨q1, q2⟩, q3⟩, q4⟩, q5⟩, q6⟩ := q
      have e1 := beq_iff_eq.mp q1
      have e2 := beq_iff_eq.mp q2
      have e6 := beq_iff_eq.mp q6
      subst e1 e2
      obtain ⟨nm, bs, mro, ns, qn, hd, sn, sub, ab, col, del⟩ := cd
      have e3 : del = false := by
        cases del with
        | false => rfl
        | true => cases q3
      have hm' : mro = .ref C' :: bm := hm
      subst e3 hm'
      obtain ⟨l'⟩ := sl
      have hs' : l' = [k0, k1, k2, k3, some (.builtin n), k5] := hs
      subst hs'
      exact ⟨bm, ns, nm, qn, bs, hd, sn, sub, ab, col, dd, k0, k1, k2, k3, k5, _, hin _ _ ho, .of_isNs (PySem.W.isNs_of_in hin q5), PySem.W.nsMap_none_of_in hin q5 e6, PySem.W.tail_of_in hin q4⟩
def tRaise (Kx : XKs) (C : Addr) (t : TA) : TS := fun _ σ H => t σ H fun vs H1 => vs.length ≤ sizeLine ∧ Kx (.ref C) σ H1
theorem ps_raise {X : Cx} {Kx : XKs} {C : Addr} {x : Str} {np cpos pos : Pos} {e : Expr} {es : List Expr} {t : TA} (hx : XR X Kx) (hc : X.calm = true) (c : XC X.K X.mg x C) (ha : PA X (e :: es) t) (hg : Gl X x := by rfl) (hd : (x == ("__debug__" : Str)) = false := by decide)
    (he : starEach (e :: es) X.env = (false, eval e X.env) :: starEach es X.env := by rfl) (hpl : (backTo cpos (starEach es X.env)).any (·.1) = false := by rfl) :
    PS X (.Raise (some (.Call (.Name x np) (e :: es) [] cpos)) none pos) (tRaise Kx C t) := by
  intro pins s σ H D I h
  obtain ⟨bm, N, nm, qn, bs, hdct, sn, sub, ab, col, dd, k0, k1, k2, k3, k5, mN, hC, hN, hni, T⟩ := exc_obj I.mod.kin c.ex
  refine wpAny_Raise_call_subT (C := C) (nm := nm) (q := qn) (N := N) (bs := bs) (bm := bm) (hdct := hdct) (sn := sn) (sub := sub) (ab := ab) (col := col) (dd := dd) (k0 := k0) (k1 := k1) (k2 := k2) (k3 := k3) (k5 := k5) (mN := mN) PySem.F.excBase_ValueError (T.hasType PySem.F.excBase_ValueError.hasBase) (I.ok.hd hc) (by rw [he]; show (false || (backTo cpos (starEach es X.env)).any (·.1)) = false; rw [hpl]; rfl) hni
    (ld_glob I hg c.m ⟨rfl, ?_⟩ hd)
  have q := ha cpos pins s σ H _ I h
  rw [he] at q ⊢
  refine Calls.evalArgs_plain (wpAny_mono q (fun us s2 hq => ?_) fun _ _ y => y)
  obtain ⟨vs, H1, I1, r, hl, hk⟩ := hq
  exact ⟨rfl, by rw [← r.length]; exact hl, I1.bk _ _ hC, hN.keeps I1.bk, T.keeps I1.bk, fun h' ea mk => hx pins σ H1 s2 h' ea (.ref C) us I1 mk hk⟩

/-! ### behind a flight -/
theorem Inv.flown {X : Cx} {pins : List (Addr × Obj)} {σ : St} {H H' : Hp} {s s' : Shared} {B h5 : Heap} {ea : Addr} {cls : Value} (I : Inv X pins σ H s) (I' : Inv X pins σ H' s') (fly : Fly B X.stack s.heap H H' s'.heap ea cls)
    (st : B.StaysIn h5) (up : s'.heap.UpToSlots h5) : Inv X pins σ H' { s' with heap := h5 } := by
  obtain ⟨a0, hfl⟩ := fly.fl
  have nf : ∀ b, b ∉ X.fs → b ≠ X.env.locals → b ∉ frs X.stack := fun b h1 h2 z => by
    rcases List.mem_cons.mp (I.stkSub b z) with q | q
    · exact h2 q
    · exact h1 q
  have lt0 : ∀ b o, X.s₀.heap.get? b = some o → b ≠ X.env.locals := fun b o e => Nat.ne_of_lt (Nat.lt_of_lt_of_le (Heap.lt_size e) I.ok.above)
  have cellK : ∀ {c : Addr} {v : Option Value}, s'.heap.IsCell c v → h5.IsCell c v := fun {c v} ⟨o, ho, hd⟩ => by
    obtain ⟨sl, e⟩ := up c o ho fun vs z => by rw [hd] at z; cases z
    exact ⟨_, e, hd⟩
  have slotOf : ∀ b, b ∈ X.fs → ∀ o, s'.heap.get? b = some o → ∃ sl, h5.get? b = some { o with slots := sl } := fun b hb o e => by
    obtain ⟨_, o', ho', hd⟩ := I'.funs.mem hb
    rw [e] at ho'; cases ho'
    exact up b o e hd
  refine ⟨I'.ok, I'.os, I'.bare, ⟨fun b o e n hb hx => ?_, fun b o e n hb hx => ?_, I'.base.free, fun b o e hx => ?_, I'.base.tups, I'.base.frzs, I'.base.tbls⟩, ?_, fun x c e => ?_, I'.free, I'.freeC, fun p hp => ?_, I'.hok.flown fly.trk hfl.1 st, I'.len⟩
  · exact st b o (fly.kept b o (I.base.keep b o e n hb hx) (I.base.free b o e n hx) (nf b hb (lt0 b o e)))
  · obtain ⟨sl, e1⟩ := I'.base.slot b o e n hb hx
    obtain ⟨sl', e2⟩ := slotOf b hb _ e1
    exact ⟨sl', e2⟩
  · by_cases hb : b ∈ X.fs
    · obtain ⟨o1, e1⟩ := I'.base.there b o e hx
      obtain ⟨sl, e2⟩ := slotOf b hb _ e1
      exact ⟨_, e2⟩
    · obtain ⟨o1, e1⟩ := I.base.there b o e hx
      obtain ⟨o2, e2⟩ := fly.alive b o1 e1 (nf b hb (lt0 b o e))
      exact ⟨o2, st b o2 e2⟩
  · obtain ⟨m, hn, hl⟩ := I'.loc
    refine ⟨m, up.ns hn, fun i x v e1 e2 e3 => ?_⟩
    obtain ⟨u, r, l⟩ := hl i x v e1 e2 e3
    refine ⟨u, r, ?_⟩
    rcases l with l | ⟨k, c, e, z⟩
    · exact .inl l
    · exact .inr ⟨k, c, e, cellK z⟩
  · obtain ⟨v, z⟩ := I'.cell x c e
    exact ⟨v, cellK z⟩
  · obtain ⟨e, n, ne, nfs, d⟩ := I.pin p hp
    obtain ⟨_, n', _, _, _⟩ := I'.pin p hp
    exact ⟨st _ _ (fly.kept p.1 p.2 e n (nf p.1 nfs ne)), n', ne, nfs, d⟩

/-- an exception's record, known by its class -/
def excO (a : Addr) (C : Addr) : HO := .ext fun h => ∃ o vs, h.get? a = some o ∧ o.cls = .ref C ∧ o.data = .fields vs
/-- an untracked object comes to be tracked -/
theorem Inv.track {X : Cx} {pins : List (Addr × Obj)} {σ : St} {H : Hp} {s : Shared} {a : Addr} {u : HO} (I : Inv X pins σ H s) (hn : H a = none) (hL : a ≠ X.env.locals) (h0 : ∀ o, X.s₀.heap.get? a = some o → a ∈ X.ex)
    (hc : ∀ x c, X.env.cells.lookup x = some c → c ≠ a) (hp : ∀ p ∈ X.pn ++ pins, p.1 ≠ a) (ok : ∀ H', ObjOk X.prog X.w H' s.heap a u) : Inv X pins σ (upd H a u) s := by
  refine ⟨I.ok, I.os, I.bare, ⟨I.base.keep, I.base.slot, fun b o e n hx => ?_, I.base.there, fun b xs e => ?_, fun b o xs e => ?_, fun b ps e => ?_⟩, I.loc, I.cell, ?_, fun x c e => ?_, fun p hq => ?_, fun b o e => ?_, I.len⟩
  · have hb : b ≠ a := fun z => hx (by rw [z] at e ⊢; exact h0 o e)
    rw [upd_ne hb]
    exact I.base.free b o e n hx
  · have q := I.base.tups b xs e
    rw [upd_ne (ne_of_none q hn)]
    exact q
  · have q := I.base.frzs b o xs e
    rw [upd_ne (ne_of_none q hn)]
    exact q
  · obtain ⟨more, q⟩ := I.base.tbls b ps e
    exact ⟨more, by rw [upd_ne (ne_of_none q hn)]; exact q⟩
  · rw [upd_ne (Ne.symm hL)]
    exact I.free
  · rw [upd_ne (hc x c e)]
    exact I.freeC x c e
  · obtain ⟨e, n, r⟩ := I.pin p hq
    exact ⟨e, by rw [upd_ne (hp p hq)]; exact n, r⟩
  · by_cases hb : b = a
    · subst hb; rw [upd_same] at e; cases e; exact ok _
    · rw [upd_ne hb] at e
      exact (I.hok b o e).stay (fun c v _ q => q) (fun c q => by rw [upd_ne (ne_of_none q hn)]; exact q) fun c xs q => by rw [upd_ne (ne_of_none q hn)]; exact q
/-- a name goes -/
theorem Inv.nameGone {X : Cx} {pins : List (Addr × Obj)} {σ : St} {H : Hp} {s : Shared} {i : Nat} {n : Str} {pos : Pos} {M : Model} {A : Around} {E : Value → Shared → Prop} {Q : Unit → Shared → Prop} (I : Inv X pins σ H s) (hN : X.N.Nodup) (hi : X.N[i]? = some n)
    (hl : X.env.kindOf n = some .local) (h : ∀ s', Inv X pins (σ.set i none) H s' → Q () s') : wpAny M A (do bindName X.env n .none; unbindBehindTheSuite X.env n pos) Q E s := by
  obtain ⟨m, hn, hv⟩ := id I.loc
  have hcls : (X.env.scope.kind == .class || (X.env.scope.kind == .module && X.env.locals != X.env.globals)) = false := by rw [I.ok.kind]; rfl
  have cne := I.cne
  have hiσ : i < σ.length := by rw [I.len]; exact (List.getElem?_eq_some_iff.mp hi).1
  refine wpAny_nameGoes_keeps hl hn hcls fun h' v hn' hs => ?_
  obtain ⟨oL, _, _, hoL, _⟩ := id hn
  refine h _ ⟨I.ok, I.os, I.bare, ⟨fun b o e n hb hx => ?_, fun b o e n hb hx => ?_, I.base.free, fun b o e hx => ?_, I.base.tups, I.base.frzs, I.base.tbls⟩, ⟨_, hn', fun j y v' e1 e2 e3 => ?_⟩, fun y c e => ?_, I.free, I.freeC, fun p hp => ?_, fun b ob e => ?_, by simpa using I.len⟩
  · exact (hs.2 b (Nat.ne_of_lt (Nat.lt_of_lt_of_le (Heap.lt_size e) I.ok.above))).trans (I.base.keep b o e n hb hx)
  · obtain ⟨sl, e1⟩ := I.base.slot b o e n hb hx
    exact ⟨sl, (hs.2 b (Nat.ne_of_lt (Nat.lt_of_lt_of_le (Heap.lt_size e) I.ok.above))).trans e1⟩
  · obtain ⟨o', e1⟩ := I.base.there b o e hx
    exact ⟨o', (hs.2 b (Nat.ne_of_lt (Nat.lt_of_lt_of_le (Heap.lt_size e) I.ok.above))).trans e1⟩
  · by_cases hj : j = i
    · subst hj
      rw [List.getElem?_set_self hiσ] at e2
      cases e2
    · rw [List.getElem?_set_ne (Ne.symm hj)] at e2
      obtain ⟨u', r', q⟩ := hv j y v' e1 e2 e3
      refine ⟨u', r', ?_⟩
      rcases q with ⟨k, e⟩ | ⟨k, c, e, z⟩
      · refine .inl ⟨k, ?_⟩
        have : y ≠ n := fun e => hj (nodup_ix hN e1 (e ▸ hi))
        simp [this, e]
      · exact .inr ⟨k, c, e, z.sameBut hs (cne y c e)⟩
  · obtain ⟨w', z⟩ := I.cell y c e
    exact ⟨w', z.sameBut hs (cne y c e)⟩
  · obtain ⟨e, n, ne, nf, d⟩ := I.pin p hp
    exact ⟨(hs.2 p.1 ne).trans e, n, ne, nf, d⟩
  · refine (I.hok b ob e).stay (fun c w' hc q => (hs.2 c ?_).trans q) (fun _ q => q) fun _ _ q => q
    rintro rfl
    rcases hc with rfl | hc
    · rw [I.free] at e; cases e
    · rw [I.free] at hc; cases hc

/-- an error class as a handler's: bound to x; C stands under D -/
structure XH (K : PySem.W.Frag) (mg : Str → Option Value) (x : Str) (D : Addr) : Prop where
  m : mg x = some (.ref D)
  ty : PySem.W.typeIn K (.ref D) = some (.type "type")
  cl : ∃ cd, PySem.W.clsIn K D = some cd
  be : PySem.W.mroIn K D (.type "BaseException") = some true
def XSub (K : PySem.W.Frag) (C D : Addr) : Prop := PySem.W.mroIn K C (.ref D) = some true
theorem exc_match {K : PySem.W.Frag} {M : Model} {A : Around} {E : Value → Shared → Prop} {Q : Bool → Shared → Prop} {s : Shared} {mg : Str → Option Value} {x : Str} {ea C D : Addr} {o : Obj} (hin : K.In s.heap) (c : XH K mg x D) (sub : XSub K C D)
    (ho : s.heap.get? ea = some o) (hcl : o.cls = .ref C) (q : Q true s) : wpAny M A (excMatches (.ref ea) (.ref D)) Q E s := by
  obtain ⟨cd, hcd⟩ := c.cl
  have L1 := PySem.W.looks_typeIn (M := M) hin c.ty
  have L2' := PySem.W.looks_mroIn (M := M) hin c.be
  have L3 := PySem.W.looks_mroIn (M := M) hin sub
  have L4 : PySem.W.Looks M s.heap (typeOf (.ref ea)) (.ref C) := hcl ▸ (PySem.W.Looks.ld ho).andThen .now
  have L5 : PySem.W.Looks M s.heap (isType (.ref D)) true := by
    unfold PySem.W.clsIn at hcd
    split at hcd
    · rename_i ho'
      intro A' Q' E' s' k q'
      unfold isType loadHead
      exact wpAny_bind (wpAny_loadPart (k _ _ (hin _ _ ho')) (wpAny_pure q'))
    · cases hcd
  have L6 : PySem.W.Looks M s.heap (isExcClass (.ref D)) true := L5.andThen L2'
  obtain ⟨h, g, d, t, os⟩ := s
  have f := tc_notTuple
  unfold excMatches isInstance
  refine wpAny_bind (wpAny_bind (L1.at ?_))
  rw [f]
  refine wpAny_pure ?_
  simp only [Bool.false_eq_true, if_false]
  refine wpAny_bind (wpAny_pure ?_)
  rw [List.forIn_cons]
  refine wpAny_bind (wpAny_bind (wpAny_bind (L6.at ?_)))
  simp only [Bool.not_true, Bool.false_eq_true, if_false]
  refine wpAny_pure ?_
  dsimp only
  rw [List.forIn_nil]
  refine wpAny_pure ?_
  refine wpAny_bind (L4.at ?_)
  rw [List.forIn_cons]
  refine wpAny_bind (wpAny_bind (wpAny_bind (L3.at ?_)))
  simp only [if_true]
  refine wpAny_pure ?_
  dsimp only
  refine wpAny_pure ?_
  exact wpAny_pure q
end L2
/-! ### kinds of values: isinstance with a built-in class; is True; == at any depth -/
namespace L2
open PySem PySem.Spec PyProof.Rows
/-- the kind of a value, by name ("" where it is not known) -/
def kdO : Option HO → String
  | some (.lst _) => "list"
  | some (.frz _ (.lst _)) => "list"
  | some (.tup _) => "tuple"
  | some (.dK _) => "dict"
  | some (.dT _) => "dict"
  | _ => ""
def kd (H : Hp) : V → String
  | .non => "NoneType"
  | .bl _ => "bool"
  | .int _ => "int"
  | .str _ => "str"
  | .ref a => kdO (H a)
  | _ => ""
def Kn (H : Hp) (x : V) : Prop := kd H x ≠ ""
def isTy (n : String) (H : Hp) (x : V) : Bool := kd H x == n || (kd H x == "bool" && n == "int")
theorem kd_ty {K : PySem.W.Frag} {H : Hp} {x : V} (h : Kn H x) : TyOf K H x (.type (kd H x)) := by
  cases x with
  | non => exact .non
  | bl b => exact .bl b
  | int i => exact .int i
  | str s => exact .str s
  | ref a =>
    have h : kdO (H a) ≠ "" := h
    show TyOf K H (.ref a) (.type (kdO (H a)))
    cases e : H a with
    | none => rw [e] at h; exact absurd rfl h
    | some o =>
      rw [e] at h
      cases o with
      | lst xs => exact .lst e
      | tup xs => exact .tup e
      | dK k => exact .dK e
      | dT k => exact .dT e
      | frz ob u =>
        cases u with
        | lst xs => exact .frz e
        | _ => exact absurd rfl h
      | _ => exact absurd rfl h
  | _ => exact absurd rfl h
theorem kdO_cases (o : Option HO) : kdO o = "" ∨ kdO o = "list" ∨ kdO o = "tuple" ∨ kdO o = "dict" := by
  unfold kdO
  split <;> simp
theorem Kn.cases {H : Hp} {x : V} (h : Kn H x) : kd H x = "NoneType" ∨ kd H x = "bool" ∨ kd H x = "int" ∨ kd H x = "str" ∨ kd H x = "list" ∨ kd H x = "tuple" ∨ kd H x = "dict" := by
  cases x with
  | ref a =>
    have h : kdO (H a) ≠ "" := h
    show kdO (H a) = _ ∨ kdO (H a) = _ ∨ kdO (H a) = _ ∨ kdO (H a) = _ ∨ kdO (H a) = _ ∨ kdO (H a) = _ ∨ kdO (H a) = _
    rcases kdO_cases (H a) with e | e | e | e
    · exact absurd e h
    · exact .inr (.inr (.inr (.inr (.inl e))))
    · exact .inr (.inr (.inr (.inr (.inr (.inl e)))))
    · exact .inr (.inr (.inr (.inr (.inr (.inr e)))))
  | non => exact .inl rfl
  | bl b => exact .inr (.inl rfl)
  | int i => exact .inr (.inr (.inl rfl))
  | str z => exact .inr (.inr (.inr (.inl rfl)))
  | _ => exact absurd rfl h
theorem kit_scal (K : PySem.W.Frag) : ∀ k ∈ ["NoneType", "bool", "int", "str", "list", "tuple", "dict"], ∀ n ∈ ["bool", "int", "str", "list", "tuple", "dict"], PySem.W.kitOne K (.type k) (.type n) = some (k == n || (k == "bool" && n == "int")) := by
  have e : ∀ k ∈ ["NoneType", "bool", "int", "str", "list", "tuple", "dict"], ∀ n ∈ ["bool", "int", "str", "list", "tuple", "dict"], (if (Value.type k == Value.type n) = true then some true else if PySem.W.kitMeta n = true then (fastBuiltinMro k).map (·.contains (.type n)) else none) = some (k == n || (k == "bool" && n == "int")) := by decide +kernel
  exact fun k hk n hn => e k hk n hn
theorem call_isi {X : Cx} : CallR X (.builtin "isinstance") (fun xs H Q => ∃ x n, xs = [x, .ty n] ∧ n ∈ ["bool", "int", "str", "list", "tuple", "dict"] ∧ Kn H x ∧ Q (.bl (isTy n H x)) H) := by
  intro pins s σ H xs us Q I r h
  obtain ⟨x, n, rfl, hn, hk, q⟩ := h
  cases r with
  | cons r1 rr =>
    cases rr with
    | cons r2 rr =>
      cases rr
      cases r2
      refine isinst_ok I r1 (kd_ty hk) (kit_scal X.K _ ?_ n hn) fun tk => ⟨.bl _, H, I.tok tk, rfl, q⟩
      rcases hk.cases with e | e | e | e | e | e | e <;> rw [e] <;> simp
/-- -x -/
theorem op_neg {X : Cx} : UnR X (unaryOp .USub) (rU fun i => .int (-i)) := by
  intro pins s σ H x v Q I rx h
  obtain ⟨i, rfl, q⟩ := h
  obtain ⟨t, rfl⟩ := rx
  exact neg_int ⟨.int _, H, I.tok _, ⟨_, rfl⟩, q⟩
end L2
namespace L2
open PySem PySem.Spec PyProof.Rows
theorem kn_int {H : Hp} {i : Int} : Kn H (.int i) ↔ True := ⟨fun _ => trivial, fun _ => (by decide : "int" ≠ "")⟩
theorem kn_bl {H : Hp} {i : Bool} : Kn H (.bl i) ↔ True := ⟨fun _ => trivial, fun _ => (by decide : "bool" ≠ "")⟩
theorem kn_str {H : Hp} {i : Str} : Kn H (.str i) ↔ True := ⟨fun _ => trivial, fun _ => (by decide : "str" ≠ "")⟩
theorem kn_lst {H : Hp} {a : Addr} {xs : List V} (h : H a = some (.lst xs)) : Kn H (.ref a) := fun z => by
  have z : kdO (H a) = "" := z
  rw [h] at z; exact absurd z (show "list" ≠ "" by decide)
theorem kn_tup {H : Hp} {a : Addr} {xs : List V} (h : H a = some (.tup xs)) : Kn H (.ref a) := fun z => by
  have z : kdO (H a) = "" := z
  rw [h] at z; exact absurd z (show "tuple" ≠ "" by decide)
theorem cxOf_K {CX : CXT} {P : Program} {w : World} {K : PySem.W.Frag} {mg : Str → Option Value} {base : Heap} {N : List Str} {qual : Str} {scope : Scope} {f : Addr} {cd : Value} {A : Around} {outer : List Env} {s : Shared} {H : Hp} {E : XK} :
    (cxOf CX P w K mg base N qual scope f cd A outer s H E).K = K := rfl
/-- whether a value is a whole number and no truth -/
def whole : V → Bool
  | .int _ => true
  | _ => false
def within (x : V) (l h : Int) : Bool := match x with
  | .int i => decide (l ≤ i) && decide (i ≤ h)
  | _ => false
theorem within_int {i l h : Int} : within (.int i) l h = (decide (l ≤ i) && decide (i ≤ h)) := rfl
theorem isTy_whole {H : Hp} {x : V} (h : Kn H x) : (isTy "int" H x && !isTy "bool" H x) = whole x := by
  cases x with
  | ref a =>
    have h : kdO (H a) ≠ "" := h
    have e : kd H (.ref a) = kdO (H a) := rfl
    unfold isTy
    rw [e]
    rcases kdO_cases (H a) with e | e | e | e <;> rw [e] <;> first | rfl | exact absurd e h
  | _ => first | rfl | exact absurd rfl h
end L2
namespace L2
open PySem PySem.Spec PyProof.Rows
/-! ### a word between two statements; lists that are tracked -/
/-- a mark whose kind names both parts: so they stand still while what is ahead of them is read -/
inductive Hid (t u : TS) : Type where
  | mk : Hid t u
def tCut (t u : TS) (_ : Hid t u) : TS := fun D σ H => ∃ M : St → Hp → Prop, t { D with nx := M } σ H ∧ ∀ σ' H', M σ' H' → u D σ' H'
theorem pss_cut {X : Cx} {st : Stmt} {rest : List Stmt} {t u : TS} (h1 : PS X st t) (h2 : PSs X rest u) : PSs X (st :: rest) (tCut t u .mk) := by
  intro pins s σ H D I h
  obtain ⟨M, h, hM⟩ := h
  refine wpAny_execs_cons (thn (h1 pins s σ H { D with nx := M } I h) fun f s1 q => ?_)
  cases f with
  | next =>
    obtain ⟨σ', H', I', q⟩ := q
    exact h2 pins s1 σ' H' D I' (hM σ' H' q)
  | ret v => exact q
  | brk => exact q
  | cont => exact q
def lstO : Option HO → Option (List V)
  | some (.lst xs) => some xs
  | some (.frz _ (.lst xs)) => some xs
  | _ => none
def tupO : Option HO → Option (List V)
  | some (.tup xs) => some xs
  | some (.frz _ (.tup xs)) => some xs
  | _ => none
theorem lstO_lst {xs : List V} : lstO (some (.lst xs)) = some xs := rfl
theorem tupO_tup {xs : List V} : tupO (some (.tup xs)) = some xs := rfl
theorem sq_lstO {K : PySem.W.Frag} {H : Hp} {a : Addr} {xs : List V} (h : lstO (H a) = some xs) : SqL K H a xs := by
  unfold lstO at h
  split at h
  · rename_i e; cases h; exact .inl (.inl e)
  · rename_i e; cases h; exact .inl (.inr ⟨_, e⟩)
  · cases h
def rIxH : R2 := fun x y H Q => ∃ p xs i v, x = .ref p ∧ y = .int i ∧ lstO (H p) = some xs ∧ atI xs i = some v ∧ Q v H
theorem ix_lst {X : Cx} : IxR X rIxH := by
  intro value slice pins s σ H x y v u Q I rx ry h hs
  obtain ⟨p, xs, i, w', e1, e2, e3, e4, q⟩ := h
  exact ix_list value slice pins s σ H x y v u Q I rx ry ⟨p, xs, i, w', e1, e2, sq_lstO e3, e4, q⟩ hs
/-- an item at an open place in bounds: whatever holds of all items holds of it -/
theorem pick {xs : List V} {i : Int} {P : V → Prop} (h0 : 0 ≤ i) (h1 : i < xs.length) (h : ∀ v ∈ xs, P v) : ∃ v, atI xs i = some v ∧ P v := by
  have hlt : i.toNat < xs.length := by omega
  refine ⟨xs[i.toNat], ?_, h _ (List.getElem_mem hlt)⟩
  have e : atI xs ((i.toNat : Nat) : Int) = some xs[i.toNat] := atI_nat (by simp [hlt])
  rw [show ((i.toNat : Nat) : Int) = i by omega] at e
  exact e
theorem scal_ii {i j : Int} : scal (.int i) (.int j) = true := rfl
theorem scal_bb {i j : Bool} : scal (.bl i) (.bl j) = true := rfl
theorem scal_ss {i j : Str} : scal (.str i) (.str j) = true := rfl
theorem na10 : Int.natAbs 10 = 10 := rfl
theorem same_refl {H : Hp} : Same H H := fun _ _ h => h
theorem same_upd {H H' : Hp} {p : Addr} {o : HO} (s : Same H H') (h : H' p = none) : Same H (upd H' p o) := fun b u e => by
  have q := s b u e
  rw [upd_ne (ne_of_none q h)]
  exact q
end L2
namespace L2
open PySem PySem.Spec PyProof.Rows
end L2
namespace L2
open PySem PySem.Spec PyProof.Rows
/-! ### loops, their bodies standing still until a word is said -/
inductive HidF (g : TG) (tb : TS) : Type where
  | mk : HidF g tb
def Loop (g : TG) (tb : TS) (_ : HidF g tb) (J : It) : TS := fun D σ H => ∃ W : Nat → Nat → St → Hp → Prop, (∃ m, W 0 m σ H) ∧ ∀ i m σ H, W i m σ H →
  (J.stop i H ∧ D.nx σ H) ∨ (J.go i H ∧ ∃ N : St → Hp → Prop, (∀ σ' H', N σ' H' → ∃ m', m' < m ∧ W (i + 1) m' σ' H') ∧ ∀ x H', J.yld i H x H' → g x σ H' fun σ2 H2 => tb { D with nx := N, ct := N, bk := D.nx } σ2 H2)
def tForE (wi : TI) (g : TG) (tb : TS) (h : HidF g tb) : TS := fun D σ H => wi σ H fun J H1 => Loop g tb h J D σ H1
theorem ps_forE {X : Cx} {tg iter : Expr} {body : List Stmt} {wi : TI} {g : TG} {tb : TS} {pos : Pos} (hp : PassesOwn (model X.prog X.w) X.A X.env X.xe) (hc : X.calm = true) (hi : PI X tg iter wi) (hg : PG X tg g) (hb : PSs X body tb)
    (hs : ∀ x, foldedSetIterable iter X.env x = pure x := by intro _; rfl) : PS X (.For tg iter body [] pos) (tForE wi g tb .mk) := ps_for hp hc hi hg hb hs
theorem loop_range {lo : Int} {n : Nat} {g : TG} {tb : TS} {h : HidF g tb} {D : Ends} {σ : St} {H : Hp} (Pv : Nat → St → Hp → Prop) (h0 : Pv 0 σ H)
    (hs : ∀ i σ H, i < n → Pv i σ H → g (.int (lo + i)) σ H fun σ2 H2 => tb { D with nx := Pv (i + 1), ct := Pv (i + 1), bk := D.nx } σ2 H2) (hd : ∀ σ H, Pv n σ H → D.nx σ H) : Loop g tb h (Itr lo n) D σ H := for_range Pv h0 hs hd
theorem loop_list {K : PySem.W.Frag} {a : Addr} {xs : List V} {g : TG} {tb : TS} {h : HidF g tb} {D : Ends} {σ : St} {H : Hp} (Pv : Nat → St → Hp → Prop) (h0 : Pv 0 σ H) (hl : ∀ i σ H, i ≤ xs.length → Pv i σ H → SqL K H a xs)
    (hs : ∀ i x σ H, xs[i]? = some x → Pv i σ H → g x σ H fun σ2 H2 => tb { D with nx := Pv (i + 1), ct := Pv (i + 1), bk := D.nx } σ2 H2) (hd : ∀ σ H, Pv xs.length σ H → D.nx σ H) : Loop g tb h (Itl K a) D σ H := for_list Pv h0 hl hs hd
/-- powers of two -/
def pw (n : Int) : Int := 2 ^ n.toNat
theorem pw_nat (n : Nat) : pw (n : Int) = 2 ^ n := by unfold pw; rw [Int.toNat_natCast]
theorem pw_succ (n : Nat) : pw ((n + 1 : Nat) : Int) = pw (n : Int) * 2 := by rw [pw_nat, pw_nat, Int.pow_succ]
theorem pw_pos (n : Int) : 1 ≤ pw n := by
  unfold pw
  generalize n.toNat = k
  induction k with
  | zero => decide
  | succ k ih => rw [Int.pow_succ]; omega
theorem pwN_le {n m : Nat} (h : n ≤ m) : pw (n : Int) ≤ pw (m : Int) := by
  induction m with
  | zero => have : n = 0 := by omega
            subst this; exact Int.le_refl _
  | succ k ih =>
    rcases (by omega : n ≤ k ∨ n = k + 1) with e | e
    · have := ih e; have := pw_pos k; rw [pw_succ]; omega
    · subst e; exact Int.le_refl _
theorem mul_24 {x y : Int} (h1 : 2 ≤ x) (h2 : x ≤ 3) (h3 : 1 ≤ y) (h4 : y ≤ 8) : 2 ≤ x * y ∧ x * y ≤ 24 := by
  rcases (by omega : x = 2 ∨ x = 3) with e | e <;> subst e <;> omega
end L2
namespace L2
open PySem PySem.Spec PyProof.Rows
theorem lt_putF {f : Str} {v : V} {n : Nat} : ∀ {fs : List (Str × V)}, fs.length < n → (putF f v fs).length < n + 1
  | [], _ => by show 1 < n + 1; rename_i h; simp at h; omega
  | (g, x) :: r, h => by
    unfold putF
    split
    · exact Nat.lt_succ_of_lt h
    · cases n with
      | zero => exact absurd h (Nat.not_lt_zero _)
      | succ m => exact Nat.succ_lt_succ (lt_putF (Nat.lt_of_succ_lt_succ h))
end L2
namespace L2
open PySem PySem.Spec PyProof.Rows
end L2
namespace L2
open PySem PySem.Spec PyProof.Rows
end L2
namespace L2
open PySem PySem.Spec PyProof.Rows
end L2
namespace L2
open PySem PySem.Spec PyProof.Rows
theorem isTy_tup {H : Hp} {a : Addr} {xs : List V} (h : H a = some (.tup xs)) : isTy "tuple" H (.ref a) = true := by
  unfold isTy
  rw [show kd H (.ref a) = kdO (H a) from rfl, h]; rfl
theorem isTy_lst {H : Hp} {a : Addr} {xs : List V} (h : H a = some (.lst xs)) : isTy "list" H (.ref a) = true := by
  unfold isTy
  rw [show kd H (.ref a) = kdO (H a) from rfl, h]; rfl
end L2
namespace L2
open PySem PySem.Spec PyProof.Rows
/-! ### try: .. except X as n: .. -/
section
variable {X : Cx} {pins pins2 : List (Addr × Obj)} {σ : St} {H : Hp} {s : Shared} {E' : Value → Shared → Prop}
theorem Cx.Ok.re {pn : List (Addr × Obj)} (ok : X.Ok) : ({ X with xe := E', pn := pn } : Cx).Ok :=
  ⟨ok.mod, ok.kind, ok.glob, ok.blt, ok.above, ok.inj, ok.has, ok.cab, ok.hd, ok.frames, ok.stk, ok.exf, ok.bs, ok.bsz, ok.noex, ok.exfs, ok.funs, ok.frf⟩
theorem Inv.re (I : Inv X pins σ H s) : Inv { X with xe := E', pn := X.pn ++ pins } [] σ H s :=
  ⟨I.ok.re, I.os, I.bare, I.base, I.loc, I.cell, I.free, I.freeC, fun p hp => I.pin p (by rw [List.append_nil] at hp; exact hp), I.hok, I.len⟩
theorem Inv.unre (ok : X.Ok) (I : Inv { X with xe := E', pn := X.pn ++ pins } pins2 σ H s) : Inv X pins σ H s :=
  ⟨ok, I.os, I.bare, I.base, I.loc, I.cell, I.free, I.freeC, fun p hp => I.pin p (List.mem_append_left _ hp), I.hok, I.len⟩
theorem Inv.marked {v : Option Value} (I : Inv X pins σ H s) : Inv { X with A := X.A.mark v, calm := false, xe := E' } pins σ H s :=
  ⟨⟨I.ok.mod, I.ok.kind, I.ok.glob, I.ok.blt, I.ok.above, I.ok.inj, I.ok.has, I.ok.cab, fun z => Bool.noConfusion z, I.ok.frames, I.ok.stk, I.ok.exf, I.ok.bs, I.ok.bsz, I.ok.noex, I.ok.exfs, I.ok.funs, I.ok.frf⟩,
    I.os, I.bare, I.base, I.loc, I.cell, I.free, I.freeC, I.pin, I.hok, I.len⟩
theorem Inv.unmarked {v : Option Value} (ok : X.Ok) (I : Inv { X with A := X.A.mark v, calm := false, xe := E' } pins σ H s) : Inv X pins σ H s :=
  ⟨ok, I.os, I.bare, I.base, I.loc, I.cell, I.free, I.freeC, I.pin, I.hok, I.len⟩
end
def tTryAs (K : PySem.W.Frag) (D : Addr) (i : Nat) (tb : XKs → TS) (to th : TS) : TS := fun Dn σ H =>
  tb (fun cls σ' H' => ∃ C, cls = .ref C ∧ XSub K C D ∧ ∀ ea, H' ea = none → th { nx := fun σ2 H2 => Dn.nx (σ2.set i none) H2, rt := Dn.rt, bk := fun σ2 H2 => Dn.bk (σ2.set i none) H2, ct := fun σ2 H2 => Dn.ct (σ2.set i none) H2 }
    (σ'.set i (some (.ref ea))) (upd H' ea (excO ea C))) { Dn with nx := to Dn } σ H
theorem ps_try_as {X : Cx} {i : Nat} {n x : Str} {D : Addr} {body orelse : List Stmt} {b₀ : Stmt} {suite : List Stmt} {np hpos pos : Pos} {tb : XKs → TS} {to th : TS}
    (hN : X.N.Nodup) (hi : X.N[i]? = some n) (hlo : X.env.kindOf n = some .local) (c : XH X.K X.mg x D)
    (hb : ∀ (E' : Value → Shared → Prop) (pn : List (Addr × Obj)) (Kx : XKs), PassesOwn (model X.prog X.w) X.A X.env E' → XW { X with xe := E', pn := pn } Kx → PSs { X with xe := E', pn := pn } body (tb Kx))
    (ho : PSs X orelse to) (hh : ∀ ea : Addr, PSs { X with A := X.A.mark (some (.ref ea)), calm := false, xe := fun _ _ => False } (b₀ :: suite) th)
    (hg : Gl X x := by rfl) (hst : X.stack = X.env :: X.outer := by rfl) (hfm : X.env.frame = some X.env.locals := by rfl) (hd : (x == ("__debug__" : Str)) = false := by decide) :
    PS X (.Try body [.ExceptHandler (some (.Name x np)) (some n) (b₀ :: suite) hpos] orelse [] pos) (tTryAs X.K D i tb to th) := by
  intro pins s σ H Dn I h
  refine wpAny_Try_except ?_
  have xw : XW { X with xe := (fun e s₁ => wpAny (model X.prog X.w) X.A (noteFrame e X.env) (fun _ s₂ => wpAny (model X.prog X.w) X.A (setFlight e none) (fun _ s₃ =>
      wpAny (model X.prog X.w) X.A (handleBy e X.env [.ExceptHandler (some (.Name x np)) (some n) (b₀ :: suite) hpos]) (SP X pins Dn) X.xe s₃) X.xe s₂) X.xe s₁), pn := X.pn ++ pins }
      (fun cls σ' H' => ∃ C, cls = .ref C ∧ XSub X.K C D ∧ ∀ ea, H' ea = none → th { nx := fun σ2 H2 => Dn.nx (σ2.set i none) H2, rt := Dn.rt, bk := fun σ2 H2 => Dn.bk (σ2.set i none) H2, ct := fun σ2 H2 => Dn.ct (σ2.set i none) H2 }
        (σ'.set i (some (.ref ea))) (upd H' ea (excO ea C))) := by
    intro pins2 σ2 H2 s2 s' ea cls H' B I2 os bare un hok fly hK
    obtain ⟨C, rfl, hsub, hK⟩ := hK
    have J2 : Inv X pins σ2 H2 s2 := I2.unre I.ok
    have J' : Inv X pins σ2 H' s' := J2.call' (s' := s') (ch := []) os un hok bare (fun b z => absurd z (by simp))
    have fly : Fly B X.stack s2.heap H2 H' s'.heap ea (.ref C) := fly
    obtain ⟨a0, hfl⟩ := id fly.fl
    have hfr := I.ok.frames
    rw [hst] at hfr hfl
    show wpAny (model X.prog X.w) X.A (noteFrame (.ref ea) X.env) _ X.xe s'
    refine wpAny_looks_onW hfr hfm hfl fun h4 held4 up4 => ?_
    refine wpAny_landsW held4 fun h5 fl5 up5 => ?_
    have J5 : Inv X pins σ2 H' { s' with heap := h5 } := Inv.flown J2 J' fly fl5.1 (up4.trans up5)
    obtain ⟨oe, vs5, hoe, hoc, hod, _⟩ := fl5.first
    refine wpAny_handleBy_cons (codeAny_handlers_test (ld_glob (X := { X with A := X.A.mark (some (.ref ea)), calm := false, xe := fun _ _ => False }) (J5.marked (v := some (.ref ea))) hg c.m ?_ hd)) (by intro q; cases q)
    refine exc_match (x := x) (mg := X.mg) J5.kIn c hsub hoe hoc ?_
    refine codeAny_handlers_suite_as ?_
    refine lands_againW fl5 fun h6 fl6 up6 => ?_
    have J6 : Inv X pins σ2 H' { s' with heap := h6 } := Inv.flown J2 J' fly fl6.1 ((up4.trans up5).trans up6)
    obtain ⟨o6, vs6, ho6, hc6, hd6, _⟩ := fl6.first
    have hne : H' ea = none := by
      cases z : H' ea with
      | none => rfl
      | some u =>
        obtain ⟨o, e⟩ := fly.trk ea u z
        rw [fl6.2.1] at e; cases e
    have nB : ∀ b o, B.get? b = some o → b ≠ ea := fun b o e z => by rw [z, fl6.2.1] at e; cases e
    have J7 : Inv X pins σ2 (upd H' ea (excO ea C)) { s' with heap := h6 } := by
      refine J6.track hne ?_ ?_ ?_ ?_ ?_
      · intro z
        obtain ⟨m, ⟨oL, es, ep, hoL, hdL, _⟩, _⟩ := J6.loc
        rw [← z] at hoL
        have e := ho6.symm.trans hoL
        cases e
        rw [hd6] at hdL; cases hdL
      · intro o e
        by_cases hx : ea ∈ X.ex
        · exact hx
        · exfalso
          by_cases hf : ea ∈ X.fs
          · obtain ⟨_, o', ho', hnf⟩ := J6.funs.mem hf
            have e := ho6.symm.trans ho'
            cases e
            exact hnf _ hd6
          · obtain ⟨o1, e1⟩ := J2.base.there ea o e hx
            have hl : ea ≠ X.env.locals := Nat.ne_of_lt (Nat.lt_of_lt_of_le (Heap.lt_size e) I.ok.above)
            obtain ⟨o2, e2⟩ := fly.alive ea o1 e1 fun z => by
              rcases List.mem_cons.mp (J2.stkSub ea z) with q | q
              · exact hl q
              · exact hf q
            exact nB ea o2 e2 rfl
      · intro x' c' e z
        obtain ⟨v, o, ho, hdc⟩ := J6.cell x' c' e
        rw [z] at ho
        have e := ho6.symm.trans ho
        cases e
        rw [hd6] at hdc; cases hdc
      · intro p hp
        obtain ⟨e, nn, ne, nfs, _⟩ := J2.pin p hp
        exact nB p.1 p.2 (fly.kept p.1 p.2 e nn fun z => by
          rcases List.mem_cons.mp (J2.stkSub p.1 z) with q | q
          · exact ne q
          · exact nfs q)
      · intro H0
        exact ⟨⟨o6, vs6, ho6, hc6, hd6⟩, ⟨o6, ho6⟩, fun h1 h2 ⟨o, vs, a1, a2, a3⟩ k => ⟨o, vs, k o a1, a2, a3⟩⟩
    refine store_ok J7 hN hi (Or.inl hlo) (v := .ref ea) rfl (fun s7 J8 => ?_) (.inr hlo)
    refine wpAny_mono (hh ea pins s7 _ _ _ (J8.marked (v := some (.ref ea))) (hK ea hne)) (fun f s8 hq => ?_) (fun _ _ z => z.elim)
    show wpAny (model X.prog X.w) X.A (do bindName X.env n .none; unbindBehindTheSuite X.env n hpos) (fun _ s₃ => SP X pins Dn f s₃) X.xe s8
    cases f with
    | next =>
      obtain ⟨σ', H2', I3, q⟩ := hq
      exact (I3.unmarked I.ok).nameGone hN hi hlo fun s9 I9 => ⟨_, H2', I9, q⟩
    | brk =>
      obtain ⟨σ', H2', I3, q⟩ := hq
      exact (I3.unmarked I.ok).nameGone hN hi hlo fun s9 I9 => ⟨_, H2', I9, q⟩
    | cont =>
      obtain ⟨σ', H2', I3, q⟩ := hq
      exact (I3.unmarked I.ok).nameGone hN hi hlo fun s9 I9 => ⟨_, H2', I9, q⟩
    | ret u =>
      obtain ⟨v, σ', H2', I3, r, q⟩ := hq
      exact (I3.unmarked I.ok).nameGone hN hi hlo fun s9 I9 => ⟨v, _, H2', I9, r, q⟩
  have q := hb _ (X.pn ++ pins) _ PassesOwn.looking xw [] s σ H { Dn with nx := to Dn } I.re h
  refine wpAny_mono q (fun f s1 hq => ?_) (fun e s1 hq => hq)
  cases f with
  | next =>
    obtain ⟨σ', H', I1, q1⟩ := hq
    exact ho pins s1 σ' H' Dn (I1.unre I.ok) q1
  | brk => obtain ⟨σ', H', I1, q1⟩ := hq; exact ⟨σ', H', I1.unre I.ok, q1⟩
  | cont => obtain ⟨σ', H', I1, q1⟩ := hq; exact ⟨σ', H', I1.unre I.ok, q1⟩
  | ret u => obtain ⟨v, σ', H', I1, r, q1⟩ := hq; exact ⟨v, σ', H', I1.unre I.ok, r, q1⟩
end L2
/-! ### isinstance of an exception that was caught -/
namespace PySem.W
open PySem PySem.Spec PySem.Calls PyProof.Rows
open Builtin Builtin.ObjectAttr Builtin.Getset_descriptor
/-- what is asked of an error class -/
structure XIs (K : Frag) (C : Addr) : Prop where
  g : findIn K (.ref C) "__getattribute__" = some (some (.builtin "BaseException.__getattribute__"))
  h : findIn K (.ref C) "__getattr__" = some none
  b : mroIn K C (.type "BaseException") = some true
  d : hasDictIn K C = true
  a : findIn K (.ref C) "__class__" = some (some (.builtin "object.__class__"))
  n : specialIn K (.builtin "object.__class__") "__get__" = some (some (.builtin "getset_descriptor.__get__"))
  t : takesIn K (.builtin "object.__class__") = some true
  m : mroIn K C (.type "object") = some true
/-- a record of this class stands at e -/
def ExcAt (e C : Addr) (h : Heap) : Prop := ∃ o, h.get? e = some o ∧ o.cls = .ref C
section
variable {K : Frag} {e C : Addr}
theorem ExcAt.ty {M : Model} {h : Heap} (p : ExcAt e C h) : Looks M h (typeOf (.ref e)) (.ref C) := by
  obtain ⟨o, h1, h2⟩ := p
  exact h2 ▸ (Looks.ld h1).andThen .now
theorem xcl {M : Model} {h : Heap} (hin : K.In h) (x : XIs K C) : Looks M h (isType (.ref C)) true := by
  obtain ⟨cd, hcd, _⟩ := any_some x.d
  unfold clsIn at hcd
  split at hcd
  · rename_i ho'
    intro A' Q' E' s' k q'
    unfold isType loadHead
    exact wpAny_bind (wpAny_loadPart (k _ _ (hin _ _ ho')) (wpAny_pure q'))
  · cases hcd
theorem xfind {M : Model} {h : Heap} (hin : K.In h) (x : XIs K C) : Looks M h (find (.ref e) (.ref C) "__class__") (.bind (.builtin "getset_descriptor.__get__") (.builtin "object.__class__")) := by
  have A1 := looks_findIn (M := M) hin x.a
  have A2 : Looks M h (getOf (some (.builtin "object.__class__"))) (some (.builtin "getset_descriptor.__get__")) := looks_specialIn hin x.n
  have A3 := looks_takesIn (M := M) hin x.t
  exact A1.andThen (A2.andThen ((show Looks M h (dataDescriptor? (some (.builtin "object.__class__")) (some (.builtin "getset_descriptor.__get__"))) (some _) from A3.andThen .now).andThen (Looks.tag .now)))
variable {prog : Program} {w : World} {A : Around} {E : Value → Shared → Prop} {s : Shared}
theorem xget {R : Result → Shared → Prop} {tp : Value} (hin : K.In s.heap) (p : ExcAt e C s.heap) (x : XIs K C) (h : R (.ok (.ret (.ref C))) s) :
    codeAny (model prog w) A (.call (.builtin "getset_descriptor.__get__") ⟨[.builtin "object.__class__", .ref e, tp], []⟩) R s := by
  obtain ⟨hh, g, dr, t, os⟩ := s
  have B0 := p.ty (M := model prog w)
  have B1 := looks_mroIn (M := model prog w) hin x.m
  refine codeAny_call_builtin KF.slot_gs.plain KF.entry_gs (KF.slot_gs.check _ _ _ _ _ _ _ _ KF.type_class (KF.args_gs _ _ _) ?_)
  unfold Builtin.«getset_descriptor.__get__» descrGet
  rw [dga_obj]
  refine wpAny_bind (wpAny_pure ?_)
  unfold descrGetter descrCheckInstance descrNameAndClass isInstance
  simp only [KF.owner_class]
  repeat lk
  refine ⟨Code.quiet_builtin _ (by decide +kernel), codeAny_builtin KF.entry_class ?_⟩
  unfold Builtin.«object.__class__» shownTypeOf
  repeat lk
  exact h
theorem xcheck {M : Model} {nameV : Value} {Q : Unit → Shared → Prop} (hin : K.In s.heap) (p : ExcAt e C s.heap) (x : XIs K C) (hq : Q () s) : wpAny M A (checkBuiltinCall "BaseException.__getattribute__" ⟨[.ref e, nameV], []⟩) Q E s := by
  have c1 : builtinKind "BaseException.__getattribute__" = some .slot := by decide +kernel
  have c2 : splitId "BaseException.__getattribute__" = some ("BaseException", "__getattribute__") := by decide +kernel
  have c3 := F.args_bexc_ga (.ref e) nameV
  obtain ⟨hh, g, d, t, os⟩ := s
  have B0 := p.ty (M := M)
  have B1 := looks_mroIn (M := M) hin x.b
  have B2 : Looks M hh (isInstance (.ref e) (.type "BaseException")) true := B0.andThen B1
  simp only [checkBuiltinCall, c1, c2]
  refine wpAny_bind (B2.at ?_)
  simp only [Bool.not_true, Bool.false_eq_true, if_false]
  exact wpAny_of_eq c3 hq
theorem xentry {tk : Tok} {Q : Fin → Shared → Prop} (hin : K.In s.heap) (p : ExcAt e C s.heap) (x : XIs K C) (hq : Q (.done (.ret (.ref C))) s) : wpAny (model prog w) A (Builtin.«object.__getattribute__» ⟨[.ref e, .str "__class__" tk], []⟩) Q E s := by
  obtain ⟨hh, g, d, t, os⟩ := s
  have B0 := p.ty (M := model prog w)
  have B2 := xfind (M := model prog w) (e := e) hin x
  unfold Builtin.«object.__getattribute__»
  refine wpAny_bind (wpAny_pure (a := (Value.ref e, [Value.str "__class__" tk])) ?_)
  refine wpAny_bind (wpAny_pure (a := ("__class__" : Str)) ?_)
  refine wpAny_bind (B0.at (wpAny_bind (B2.at ?_)))
  show wpAny _ _ (bindTo (Value.builtin "getset_descriptor.__get__") (Value.builtin "object.__class__") (Value.ref e) (Value.ref C)) _ _ _
  unfold bindTo
  dsimp only
  refine wpAny_bind (wpAny_holding (wpAny_call (xget (s := ⟨hh, g, d, t, os⟩) hin p x ?_)))
  exact wpAny_pure hq
theorem xca {Q : Option Value → Shared → Prop} (hin : K.In s.heap) (p : ExcAt e C s.heap) (x : XIs K C) (h : Q (some (.ref C)) { s with toks := s.toks + 1 }) : wpAny (model prog w) A (getAttr? (.ref e) "__class__") Q E s := by
  obtain ⟨hh, g, d, t, os⟩ := s
  have B0 := p.ty (M := model prog w)
  have B1 := looks_findIn (M := model prog w) hin x.g
  have B3 := looks_findIn (M := model prog w) hin x.h
  unfold getAttr? getAttrBy? getAttrBy
  refine wpAny_bind (wpAny_mkText (wpAny_bind (wpAny_attempt (wpAny_holding (wpAny_bind (B0.at (wpAny_bind (B1.at ?_))))))))
  have c2 : (Value.builtin "BaseException.__getattribute__" == Value.builtin "object.__getattribute__") = false := by decide +kernel
  simp only [c2, Bool.and_false, Bool.false_eq_true, if_false]
  unfold getAttrByItsOwn hookBefore
  rw [if_pos (show onTheHeap (Value.ref C) = true from rfl)]
  refine wpAny_bind (B3.at (wpAny_bind (wpAny_attempt (wpAny_holding ?_))))
  unfold callGetattribute boundAndCalled
  simp only [Bool.false_and, Bool.false_eq_true, if_false]
  refine wpAny_bind (wpAny_of_eq (PySem.F.attr_ValueError.ga.bind (.ref e)) ?_)
  refine wpAny_call (codeAny_call_builtin PySem.F.attr_ValueError.ga.plain F.entry_bexc_ga (xcheck (s := ⟨hh, g, d, t + 1, os⟩) hin p x (xentry (s := ⟨hh, g, d, t + 1, os⟩) hin p x ?_)))
  exact handed_on rfl (wpAny_pure h)
theorem kitx_exc (x : XIs K C) : KitX K (.ref e) (.ref C) (ExcAt e C) where
  ty := fun _ _ _ p => p.ty
  it := fun _ _ hin _ => xcl hin x
  ne := fun h tp dd its n sl hin htp => by
    refine Bool.eq_false_iff.mpr fun q => ?_
    obtain ⟨cd, hcd, _⟩ := any_some x.d
    have e1 : C = tp := Value.ref.inj (beq_iff_eq.mp q)
    rw [← e1] at htp
    unfold clsIn at hcd
    split at hcd
    · rename_i ho'
      have z := (hin _ _ ho').symm.trans htp
      cases z
    · cases hcd
  ca := fun hin p k => xca hin p x k
end
end PySem.W
namespace L2
open PySem PySem.Spec PyProof.Rows
abbrev XI (K : PySem.W.Frag) (C : Addr) : Prop := PySem.W.XIs K C
theorem heap_sized : ∀ n : Nat, ∃ h : Heap, h.objs.size = n
  | 0 => ⟨{ ({} : Heap) with objs := #[] }, rfl⟩
  | n + 1 => by
    obtain ⟨h, e⟩ := heap_sized n
    exact ⟨h.push { cls := .none, data := .fields #[] }, by rw [Heap.size_push, e]⟩
theorem excO_inj {a C C' : Addr} : excO a C = excO a C' ↔ C = C' := by
  constructor
  · intro z
    unfold excO at z
    have f := HO.ext.inj z
    obtain ⟨h, e⟩ := heap_sized a
    have g := congrFun f (h.push { cls := .ref C, data := .fields #[] })
    have k : (h.push { cls := .ref C, data := .fields #[] }).get? a = some { cls := .ref C, data := .fields #[] } := by
      rw [← e]; exact Heap.get?_push_size h rfl
    have g2 := g.mp ⟨_, _, k, rfl, rfl⟩
    obtain ⟨o, vs, k', c, _⟩ := g2
    rw [k] at k'; cases k'
    cases c; rfl
  · intro z; rw [z]
def clsV : V → Value
  | .ref a => .ref a
  | .ty n => .type n
  | _ => .none
theorem clsV_ref {a : Addr} : clsV (.ref a) = .ref a := rfl
theorem clsV_ty {n : String} : clsV (.ty n) = .type n := rfl
theorem excAt {X : Cx} {pins : List (Addr × Obj)} {σ : St} {H : Hp} {s : Shared} {a C : Addr} (I : Inv X pins σ H s) (e : H a = some (excO a C)) : PySem.W.ExcAt a C s.heap := by
  obtain ⟨⟨o, vs, h1, h2, _⟩, _⟩ := (show ObjOk X.prog X.w H s.heap a (excO a C) from I.hok a _ e)
  exact ⟨o, h1, h2⟩
/-- isinstance of an exception that was caught: with a class, with a tuple of classes -/
theorem call_isxC {X : Cx} {K : PySem.W.Frag} (hK : X.K = K := by rfl) : CallR X (.builtin "isinstance") (fun xs H Q => ∃ a y C b, xs = [.ref a, y] ∧ H a = some (excO a C) ∧ XI K C ∧ PySem.W.kitOne K (.ref C) (clsV y) = some b ∧ Q (.bl b) H) := by
  subst hK
  intro pins s σ H xs us Q I r h
  obtain ⟨a, y, C, b, rfl, e, x, k, q⟩ := h
  cases r with
  | cons r1 rr =>
    cases rr with
    | cons r2 rr =>
      cases rr
      cases r1
      have c2 : ∀ u, RelV y u → PySem.W.kitOne X.K (.ref C) (clsV y) = some b → PySem.W.kitOne X.K (.ref C) u = some b := fun u ru k => by
        cases y with
        | ref a => cases ru; exact k
        | ty n => cases ru; exact k
        | _ => exact absurd k (by unfold clsV PySem.W.kitOne PySem.W.kitCls; simp)
      exact PySem.W.kia_one (PySem.W.kitx_exc x) I.kIn (excAt I e) (c2 _ r2 k) (fun z => nomatch z) fun tk => ⟨.bl b, H, I.tok tk, rfl, q⟩
end L2
namespace L2
open PySem PySem.Spec PyProof.Rows
/-! ### data seen through the heap; == at any depth -/
/-- data: a flat value, a list (false) or a tuple (true) of data -/
inductive Dv where
  | leaf (v : V)
  | seq (t : Bool) (ds : List Dv)
mutual
def Sees (K : PySem.W.Frag) (H : Hp) : Dv → V → Prop
  | .leaf v, x => x = v ∧ flatV v = true
  | .seq t ds, x => ∃ a xs, x = .ref a ∧ (if t = true then SqT K H a xs else SqL K H a xs) ∧ SeesL K H ds xs
def SeesL (K : PySem.W.Frag) (H : Hp) : List Dv → List V → Prop
  | [], xs => xs = []
  | d :: ds, xs => ∃ x r, xs = x :: r ∧ Sees K H d x ∧ SeesL K H ds r
end
mutual
/-- two data of the same make -/
def alike : Dv → Dv → Bool
  | .leaf _, .leaf _ => true
  | .seq t ds, .seq u es => t == u && alikeL ds es
  | _, _ => false
def alikeL : List Dv → List Dv → Bool
  | d :: ds, e :: es => alike d e && alikeL ds es
  | _, _ => true
end
mutual
def eqDv : Dv → Dv → Bool
  | .leaf v, .leaf w => eqV v w
  | .seq _ ds, .seq _ es => eqDvL ds es
  | _, _ => false
def eqDvL : List Dv → List Dv → Bool
  | [], [] => true
  | d :: ds, e :: es => eqDv d e && eqDvL ds es
  | _, _ => false
end
mutual
def deep : Dv → Nat
  | .leaf _ => 0
  | .seq _ ds => deepL ds + 1
def deepL : List Dv → Nat
  | [] => 0
  | d :: ds => max (deep d) (deepL ds)
end
theorem SeesL.length {K : PySem.W.Frag} {H : Hp} : ∀ {ds : List Dv} {xs : List V}, SeesL K H ds xs → ds.length = xs.length
  | [], xs, h => by unfold SeesL at h; subst h; rfl
  | d :: ds, xs, h => by
    unfold SeesL at h
    obtain ⟨x, r, rfl, _, h⟩ := h
    simp [h.length]
theorem SeesL.get {K : PySem.W.Frag} {H : Hp} : ∀ {ds : List Dv} {xs : List V} {j : Nat} {d : Dv}, SeesL K H ds xs → ds[j]? = some d → ∃ x, xs[j]? = some x ∧ Sees K H d x
  | [], xs, j, d, h, e => by simp at e
  | d' :: ds, xs, 0, d, h, e => by
    unfold SeesL at h
    obtain ⟨x, r, rfl, hx, h⟩ := h
    simp at e; subst e
    exact ⟨x, rfl, hx⟩
  | d' :: ds, xs, j + 1, d, h, e => by
    unfold SeesL at h
    obtain ⟨x, r, rfl, hx, h⟩ := h
    obtain ⟨y, e1, e2⟩ := SeesL.get (j := j) h (by simpa using e)
    exact ⟨y, by simpa using e1, e2⟩
theorem all_range_succ (n : Nat) (f : Nat → Bool) : (List.range (n + 1)).all f = (f 0 && (List.range n).all fun j => f (j + 1)) := by
  rw [List.range_succ_eq_map, List.all_cons, List.all_map]; rfl
theorem eqDvL_eq : ∀ (ds es : List Dv), eqDvL ds es = (decide (ds.length = es.length) && (List.range (min ds.length es.length)).all fun j => eqDv (ds.getD j (.leaf .non)) (es.getD j (.leaf .non)))
  | [], [] => by simp [eqDvL]
  | [], e :: es => by simp [eqDvL]
  | d :: ds, [] => by simp [eqDvL]
  | d :: ds, e :: es => by
    have ih := eqDvL_eq ds es
    rw [eqDvL, ih]
    have hm : min (d :: ds).length (e :: es).length = min ds.length es.length + 1 := by simp [Nat.succ_min_succ]
    rw [hm, all_range_succ]
    simp only [List.length_cons, Nat.add_right_cancel_iff, List.getD_cons_zero, List.getD_cons_succ]
    cases eqDv d e <;> cases decide (ds.length = es.length) <;> simp
theorem eqV_self {v : V} (h : flatV v = true) : eqV v v = true := by
  cases v <;> first | rfl | (simp [eqV]; done) | exact absurd h (by simp [flatV])
mutual
theorem sees_same {X : Cx} {pins : List (Addr × Obj)} {σ : St} {H : Hp} {s : Shared} (I : Inv X pins σ H s) : ∀ (d e : Dv) (x : V), alike d e = true → Sees X.K H d x → Sees X.K H e x → eqDv d e = true
  | .leaf a, .leaf b, x, _, hx, hy => by
    unfold Sees at hx hy
    obtain ⟨rfl, fx⟩ := hx
    obtain ⟨rfl, fy⟩ := hy
    rw [eqDv]
    exact eqV_self fx
  | .leaf a, .seq t es, _, h, _, _ => by simp [alike] at h
  | .seq t ds, .leaf b, _, h, _, _ => by simp [alike] at h
  | .seq t ds, .seq t' es, x, h, hx, hy => by
    rw [alike, Bool.and_eq_true] at h
    have ht := beq_iff_eq.mp h.1
    subst ht
    unfold Sees at hx hy
    obtain ⟨a, xs, rfl, hsx, hL⟩ := hx
    obtain ⟨b, ys, e, hsy, hM⟩ := hy
    cases e
    rw [eqDv]
    have exy : xs = ys := by
      cases t with
      | true => exact I.tuple_inj (by simpa using hsx) (by simpa using hsy)
      | false => exact I.list_inj (by simpa using hsx) (by simpa using hsy)
    subst exy
    exact sees_sameL I ds es xs h.2 hL hM
theorem sees_sameL {X : Cx} {pins : List (Addr × Obj)} {σ : St} {H : Hp} {s : Shared} (I : Inv X pins σ H s) : ∀ (ds es : List Dv) (xs : List V), alikeL ds es = true → SeesL X.K H ds xs → SeesL X.K H es xs → eqDvL ds es = true
  | [], [], _, _, _, _ => by rw [eqDvL]
  | [], e :: es, xs, _, hx, hy => by
    unfold SeesL at hx hy
    obtain ⟨x, r, e1, _⟩ := hy
    rw [hx] at e1; cases e1
  | d :: ds, [], xs, _, hx, hy => by
    unfold SeesL at hx hy
    obtain ⟨x, r, e1, _⟩ := hx
    rw [hy] at e1; cases e1
  | d :: ds, e :: es, xs, h, hx, hy => by
    rw [alikeL, Bool.and_eq_true] at h
    unfold SeesL at hx hy
    obtain ⟨x, r, rfl, hx, hxr⟩ := hx
    obtain ⟨y, r', e1, hy, hyr⟩ := hy
    cases e1
    rw [eqDvL, sees_same I d e x h.1 hx hy, sees_sameL I ds es r h.2 hxr hyr]
    rfl
end
theorem rc_deep {X : Cx} {pins : List (Addr × Obj)} {σ : St} {H : Hp} {s : Shared} (I : Inv X pins σ H s) {A : Around} {t : Bool} {ds es : List Dv} {a b : Addr} {xs ys : List V} (hu : A.units < cLine)
    (hsx : if t = true then SqT X.K H a xs else SqL X.K H a xs) (hsy : if t = true then SqT X.K H b ys else SqL X.K H b ys) (l1 : ds.length = xs.length) (l2 : es.length = ys.length)
    (ih : ∀ (j : Nat) (u v : Value) (us vs : List Value), Vals xs us → Vals ys vs → us[j]? = some u → vs[j]? = some v → SeqAt.EqAt A.in1 s u v (eqDv (ds.getD j (.leaf .non)) (es.getD j (.leaf .non)))) :
    SeqAt.RcAt A s (.ref a) (.ref b) (eqDvL ds es) := by
  rw [eqDvL_eq]
  cases t with
  | false =>
    obtain ⟨its, rv, pl, _⟩ := I.list (show SqL X.K H a xs by simpa using hsx)
    obtain ⟨its2, rv2, pl2, _⟩ := I.list (show SqL X.K H b ys by simpa using hsy)
    have n1 := rv.length
    have n2 := rv2.length
    by_cases hl : ds.length = es.length
    · have q := SeqAt.RcAt.lists (e := fun j => eqDv (ds.getD j (.leaf .non)) (es.getD j (.leaf .non))) pl.isList pl2.isList (by simp; omega) (by omega : A.units < cLine) (fun j h1 h2 => by
        have h1 : j < its.length := by simpa using h1
        have h2 : j < its2.length := by simpa using h2
        have e := ih j (its[j]) (its2[j]) its its2 rv rv2 (by simp [h1]) (by simp [h2])
        simpa using e)
      rw [decide_eq_true hl, Bool.true_and]
      have em : min ds.length es.length = its.toArray.size := by simp; omega
      rw [em]
      exact q
    · have q := SeqAt.RcAt.lists_lengths (A := A) pl.isList pl2.isList (by simp; omega) (by omega : A.units < cLine)
      rw [decide_eq_false hl, Bool.false_and]
      exact q
  | true =>
    obtain ⟨its, rv, pl, _⟩ := I.tuple (show SqT X.K H a xs by simpa using hsx)
    obtain ⟨its2, rv2, pl2, _⟩ := I.tuple (show SqT X.K H b ys by simpa using hsy)
    have n1 := rv.length
    have n2 := rv2.length
    have q := SeqAt.RcAt.tuples (e := fun j => eqDv (ds.getD j (.leaf .non)) (es.getD j (.leaf .non))) (show s.heap.IsTuple a its.toArray from pl) (show s.heap.IsTuple b its2.toArray from pl2) (by omega : A.units < cLine) (fun j h1 h2 => by
        have h1 : j < its.length := by simpa using h1
        have h2 : j < its2.length := by simpa using h2
        have e := ih j (its[j]) (its2[j]) its its2 rv rv2 (by simp [h1]) (by simp [h2])
        simpa using e)
    have em : min its.toArray.size its2.toArray.size = min ds.length es.length := by simp; omega
    have eb : (its.toArray.size == its2.toArray.size) = decide (ds.length = es.length) := by
      rw [Bool.eq_iff_iff]; simp; omega
    rw [em, eb, Bool.and_comm] at q
    exact q
mutual
theorem eqAt_deep {X : Cx} {pins : List (Addr × Obj)} {σ : St} {H : Hp} {s : Shared} (I : Inv X pins σ H s) : ∀ (d e : Dv) (A : Around) (x y : V) (u v : Value), A.units + deep d < cLine → alike d e = true → Sees X.K H d x → Sees X.K H e y → RelV x u → RelV y v → SeqAt.EqAt A s u v (eqDv d e)
  | .leaf a, .leaf b, A, x, y, u, v, _, _, hx, hy, rx, ry => by
    unfold Sees at hx hy
    obtain ⟨rfl, fx⟩ := hx
    obtain ⟨rfl, fy⟩ := hy
    rw [eqDv]
    exact eqAt_V rx ry fx fy
  | .leaf a, .seq t es, A, x, y, u, v, _, h, _, _, _, _ => by simp [alike] at h
  | .seq t ds, .leaf b, A, x, y, u, v, _, h, _, _, _, _ => by simp [alike] at h
  | .seq t ds, .seq t' es, A, x, y, u, v, hu, h, hx, hy, rx, ry => by
    have h0 := h
    rw [alike, Bool.and_eq_true] at h
    have ht := beq_iff_eq.mp h.1
    subst ht
    have hx0 := hx
    have hy0 := hy
    unfold Sees at hx hy
    obtain ⟨a, xs, rfl, hsx, hL⟩ := hx
    obtain ⟨b, ys, rfl, hsy, hM⟩ := hy
    cases rx
    cases ry
    by_cases hab : a = b
    · subst hab
      rw [sees_same I _ _ _ h0 hx0 hy0]
      exact SeqAt.EqAt.same _
    · rw [deep] at hu
      have hu1 : A.in1.units + deepL ds < cLine := by show A.units + 1 + deepL ds < cLine; omega
      have ih := eqAt_deepL I ds es A.in1 xs ys hu1 h.2 hL hM
      rw [eqDv]
      exact SeqAt.EqAt.of_refs hab (rc_deep I (by omega) hsx hsy hL.length hM.length ih)
theorem eqAt_deepL {X : Cx} {pins : List (Addr × Obj)} {σ : St} {H : Hp} {s : Shared} (I : Inv X pins σ H s) : ∀ (ds es : List Dv) (A : Around) (xs ys : List V), A.units + deepL ds < cLine → alikeL ds es = true → SeesL X.K H ds xs → SeesL X.K H es ys →
    ∀ (j : Nat) (u v : Value) (us vs : List Value), Vals xs us → Vals ys vs → us[j]? = some u → vs[j]? = some v → SeqAt.EqAt A s u v (eqDv (ds.getD j (.leaf .non)) (es.getD j (.leaf .non)))
  | [], es, A, xs, ys, _, _, hx, hy, j, u, v, us, vs, rx, ry, e1, e2 => by
    unfold SeesL at hx
    subst hx
    cases rx
    simp at e1
  | d :: ds, [], A, xs, ys, _, _, hx, hy, j, u, v, us, vs, rx, ry, e1, e2 => by
    unfold SeesL at hy
    subst hy
    cases ry
    simp at e2
  | d :: ds, e :: es, A, xs, ys, hu, h, hx, hy, j, u, v, us, vs, rx, ry, e1, e2 => by
    rw [alikeL, Bool.and_eq_true] at h
    rw [deepL] at hu
    unfold SeesL at hx hy
    obtain ⟨x, r, rfl, hx, hxr⟩ := hx
    obtain ⟨y, r', rfl, hy, hyr⟩ := hy
    cases rx with
    | cons p1 p2 =>
      cases ry with
      | cons q1 q2 =>
        cases j with
        | zero =>
          simp at e1 e2
          subst e1 e2
          exact eqAt_deep I d e A x y _ _ (by omega) h.1 hx hy p1 q1
        | succ k =>
          have z := eqAt_deepL I ds es A r r' (by omega) h.2 hxr hyr k u v _ _ p2 q2 (by simpa using e1) (by simpa using e2)
          simpa using z
end
theorem hu6 {A : Around} {k : Nat} (hr : Room k A) : A.units + 4 + 2 < cLine := by have := hr.units; omega
def rEqD (K : PySem.W.Frag) (n : Nat) : R2 := fun x y H Q => ∃ t ds es, Sees K H (.seq t ds) x ∧ Sees K H (.seq t es) y ∧ alikeL ds es = true ∧ deepL ds ≤ n ∧ Q (.bl (eqDvL ds es)) H
theorem rc_of {X : Cx} {pins : List (Addr × Obj)} {σ : St} {H : Hp} {s : Shared} (I : Inv X pins σ H s) {A : Around} {n : Nat} (hu : A.units + n + 2 < cLine) {t : Bool} {ds es : List Dv} {x y : V} {u v : Value} (hx : Sees X.K H (.seq t ds) x) (hy : Sees X.K H (.seq t es) y) (ha : alikeL ds es = true) (hd : deepL ds ≤ n)
    (rx : RelV x u) (ry : RelV y v) : SeqAt.RcAt A s u v (eqDvL ds es) := by
  unfold Sees at hx hy
  obtain ⟨a, xs, rfl, hsx, hL⟩ := hx
  obtain ⟨b, ys, rfl, hsy, hM⟩ := hy
  cases rx
  cases ry
  exact rc_deep I (by omega) hsx hsy hL.length hM.length (eqAt_deepL I ds es A.in1 xs ys (by show A.units + 1 + deepL ds < cLine; omega) ha hL hM)
theorem op_eqD {X : Cx} {n : Nat} (hu : X.A.units + n + 2 < cLine) : OpR X (compareOp .Eq) (rEqD X.K n) := by
  intro pins s σ H x y v u Q I rx ry h
  obtain ⟨t, ds, es, hx, hy, ha, hd, q⟩ := h
  exact rc_of I hu hx hy ha hd rx ry X.prog X.w X.xe _ ⟨.bl _, H, I, rfl, q⟩
end L2
namespace L2
open PySem PySem.Spec PyProof.Rows
/-! ### list comprehensions -/
/-- what a comprehension's scope must be, over the env that it stands in; x: its name, fs: the names that it takes from around -/
def compChk (sc : Scope) (env : Env) (x : Str) (fs : List Str) : Bool :=
  sc.kind == .function && sc.names.all (fun y => y.2 != .cell && (y.2 != .local || sc.names.lookup y.1 == some .local) && (y.2 != .free || env.kindOf y.1 == some .cell || env.kindOf y.1 == some .free)) &&
    sc.names.lookup x == some .local && fs.all (fun f => sc.names.lookup f == some .free)
structure CompSc (sc : Scope) (env : Env) (x : Str) (fs : List Str) : Prop where
  kind : sc.kind = .function
  nocell : ∀ y ∈ sc.names, y.2 ≠ .cell
  own : ∀ y ∈ sc.names, y.2 = .local → sc.names.lookup y.1 = some .local
  fr : ∀ y ∈ sc.names, y.2 = .free → env.kindOf y.1 = some .cell ∨ env.kindOf y.1 = some .free
  x : sc.names.lookup x = some .local
  fs : ∀ f ∈ fs, sc.names.lookup f = some .free
theorem CompSc.of {sc : Scope} {env : Env} {x : Str} {fs : List Str} (h : compChk sc env x fs = true) : CompSc sc env x fs := by
  unfold compChk at h
  simp only [Bool.and_eq_true, beq_iff_eq, List.all_eq_true, Bool.or_eq_true, bne_iff_ne, ne_eq] at h
  obtain ⟨⟨⟨h1, h2⟩, h3⟩, h4⟩ := h
  refine ⟨h1, fun y hy => (h2 y hy).1.1, fun y hy e => ?_, fun y hy e => ?_, h3, h4⟩
  · rcases (h2 y hy).1.2 with z | z
    · exact absurd e z
    · exact z
  · rcases (h2 y hy).2 with (z | z) | z
    · exact absurd e z
    · exact .inl z
    · exact .inr z
theorem closure_ex {env : Env} : ∀ (names : List (Str × NameKind)) (acc : List (Str × Addr)), (∀ n, (n, NameKind.free) ∈ names → ∃ c, env.cells.lookup n = some c) →
    ∃ cl, (forIn names acc fun y r => (do if (y.2 == NameKind.free) = true then do let c ← cellOf env y.1; pure (ForInStep.yield ((y.1, c) :: r)) else pure (ForInStep.yield r) : Sem (ForInStep (List (Str × Addr))))) = pure cl ∧
      (∀ n c, cl.lookup n = some c → acc.lookup n = some c ∨ env.cells.lookup n = some c) ∧ ∀ n, (∃ c, acc.lookup n = some c) ∨ (n, NameKind.free) ∈ names → ∃ c, cl.lookup n = some c
  | [], acc, _ => ⟨acc, rfl, fun _ _ e => .inl e, fun n h => h.elim id fun z => nomatch z⟩
  | (n, k) :: r, acc, h => by
    have hr : ∀ m, (m, NameKind.free) ∈ r → ∃ c, env.cells.lookup m = some c := fun m hm => h m (List.mem_cons_of_mem _ hm)
    by_cases hk : k = .free
    · subst hk
      obtain ⟨c, hc⟩ := h n List.mem_cons_self
      obtain ⟨cl, e, h1, h2⟩ := closure_ex r ((n, c) :: acc) hr
      refine ⟨cl, ?_, fun m c' hm => ?_, fun m hm => h2 m ?_⟩
      · rw [List.forIn_cons]
        simp only [beq_self_eq_true, if_true, cellOf, hc, pure_bind]
        exact e
      · rcases h1 m c' hm with z | z
        · rw [List.lookup_cons] at z
          cases q : m == n with
          | true =>
            rw [q] at z
            cases z
            rw [beq_iff_eq.mp q]
            exact .inr hc
          | false => rw [q] at z; exact .inl z
        · exact .inr z
      · rw [List.lookup_cons]
        rcases hm with ⟨c', z⟩ | hm
        · cases q : m == n with
          | true => exact .inl ⟨c, rfl⟩
          | false => exact .inl ⟨c', z⟩
        · rcases List.mem_cons.mp hm with z | z
          · cases z
            rw [beq_self_eq_true]
            exact .inl ⟨c, rfl⟩
          · exact .inr z
    · obtain ⟨cl, e, h1, h2⟩ := closure_ex r acc hr
      refine ⟨cl, ?_, h1, fun m hm => h2 m ?_⟩
      · rw [List.forIn_cons]
        have hb : (k == NameKind.free) = false := by simpa using hk
        simp only [hb, Bool.false_eq_true, if_false, pure_bind]
        exact e
      · rcases hm with z | hm
        · exact .inl z
        · rcases List.mem_cons.mp hm with z | z
          · cases z; exact absurd rfl hk
          · exact .inr z
theorem closure_of {env : Env} {sc : Scope} (h : ∀ n, (n, NameKind.free) ∈ sc.names → ∃ c, env.cells.lookup n = some c) :
    ∃ cl, closureFor sc env = pure cl ∧ (∀ n c, cl.lookup n = some c → env.cells.lookup n = some c) ∧ ∀ n, (n, NameKind.free) ∈ sc.names → ∃ c, cl.lookup n = some c := by
  obtain ⟨cl, e, h1, h2⟩ := closure_ex sc.names [] h
  refine ⟨cl, ?_, fun n c z => (h1 n c z).elim (fun q => nomatch q) id, fun n hn => h2 n (.inr hn)⟩
  unfold closureFor
  simp only [bind_pure]
  exact e
theorem relabel_kind {env : Env} : ∀ {names : List (Str × NameKind)} {x : Str} {k : NameKind}, (names.map fun (n, k) => if (k == NameKind.free && env.scope.kind == .function && env.kindOf n == some .cell) then (n, NameKind.cell) else (n, k)).lookup x = some k →
    k = .cell ∨ k = .free → names.lookup x = some .free ∨ names.lookup x = some .cell
  | [], _, _, h, _ => by simp at h
  | (n, k0) :: r, x, k, h, hk => by
    have ih := @relabel_kind env r x k
    have h : List.lookup x ((if (k0 == NameKind.free && env.scope.kind == .function && env.kindOf n == some .cell) = true then (n, NameKind.cell) else (n, k0)) :: (r.map fun (n, k) => if (k == NameKind.free && env.scope.kind == .function && env.kindOf n == some .cell) then (n, NameKind.cell) else (n, k))) = some k := h
    by_cases hc : (k0 == NameKind.free && env.scope.kind == .function && env.kindOf n == some .cell) = true
    · rw [if_pos hc] at h
      simp only [List.lookup_cons] at h ⊢
      cases hx : x == n with
      | true =>
        simp only [Bool.and_eq_true, beq_iff_eq] at hc
        rw [hc.1.1]
        exact .inl rfl
      | false => rw [hx] at h; exact ih h hk
    · rw [if_neg hc] at h
      simp only [List.lookup_cons] at h ⊢
      cases hx : x == n with
      | true =>
        rw [hx] at h
        cases h
        rcases hk with rfl | rfl
        · exact .inr rfl
        · exact .inl rfl
      | false => rw [hx] at h; exact ih h hk
theorem relabel_free {env : Env} : ∀ {names : List (Str × NameKind)} {x : Str}, names.lookup x = some .free →
    (names.map fun (n, k) => if (k == NameKind.free && env.scope.kind == .function && env.kindOf n == some .cell) then (n, NameKind.cell) else (n, k)).lookup x = some .cell ∨ (names.map fun (n, k) => if (k == NameKind.free && env.scope.kind == .function && env.kindOf n == some .cell) then (n, NameKind.cell) else (n, k)).lookup x = some .free
  | [], _, h => by simp at h
  | (n, k0) :: r, x, h => by
    have ih := @relabel_free env r x
    show List.lookup x ((if (k0 == NameKind.free && env.scope.kind == .function && env.kindOf n == some .cell) = true then (n, NameKind.cell) else (n, k0)) :: _) = _ ∨ List.lookup x ((if (k0 == NameKind.free && env.scope.kind == .function && env.kindOf n == some .cell) = true then (n, NameKind.cell) else (n, k0)) :: _) = _
    simp only [List.lookup_cons] at h
    by_cases hc : (k0 == NameKind.free && env.scope.kind == .function && env.kindOf n == some .cell) = true
    · rw [if_pos hc]
      simp only [List.lookup_cons]
      cases hx : x == n with
      | true => exact .inl rfl
      | false => rw [hx] at h; exact ih h
    · rw [if_neg hc]
      simp only [List.lookup_cons]
      cases hx : x == n with
      | true => rw [hx] at h; exact .inr h
      | false => rw [hx] at h; exact ih h
/-- the block's context -/
def cxComp (X : Cx) (scope : Scope) (cl : List (Str × Addr)) (C : Addr) (N : List Str) (s₀ : Shared) (H₀ : Hp) (fp : List Addr) (xe : Value → Shared → Prop) : Cx :=
  { X with N := N, s₀ := s₀, H₀ := H₀, env := compEnvC scope cl C X.env, outer := X.stack, stack := X.stack, ex := fp, fn := fun _ => false, pn := [], xe := xe }
theorem xw_no {X : Cx} : XW X (fun _ _ _ => False) := fun _ _ _ _ _ _ _ _ _ _ _ _ _ _ _ h => h.elim
inductive HidC (g : TG) (tt : TT) (te : TE) : Type where
  | mk : HidC g tt te
/-- the tests of a clause: none, or one -/
def PF (X : Cx) (ifs : List Expr) (tt : TT) : Prop :=
  ∀ (pins : List (Addr × Obj)) (s : Shared) (σ : St) (H : Hp) (Q : Bool → Hp → Prop), Inv X pins σ H s → tt σ H Q →
    wpAny (model X.prog X.w) X.A (forIn ifs true fun c r => if r = true then do let ok ← isTrue c X.env (eval c X.env); pure (ForInStep.yield ok) else pure (ForInStep.yield r)) (TP X pins σ Q) X.xe s
def tYes : TT := fun _ H Q => Q true H
theorem pf_nil {X : Cx} : PF X [] tYes := fun _ _ _ H _ I h => by
  simp only [List.forIn_nil]
  exact wpAny_pure ⟨H, I, h⟩
/-- the reading of the block: D is the new list -/
def Comp (g : TG) (tt : TT) (te : TE) (_ : HidC g tt te) (J : It) (σ0 : St) (D : Addr) (Q : Hp → Prop) (H : Hp) : Prop :=
  ∃ W : Nat → Nat → List V → St → Hp → Prop, (∃ m, W 0 m [] σ0 (upd H D (.lst []))) ∧ ∀ i m ys σ H, W i m ys σ H →
    (J.stop i H ∧ Q H) ∨ (J.go i H ∧ ∃ N : List V → St → Hp → Prop, (∀ ys σ H, N ys σ H → ∃ m', m' < m ∧ W (i + 1) m' ys σ H) ∧
      ∀ y H', J.yld i H y H' → g y σ H' fun σ2 H2 => tt σ2 H2 fun b H2' => if b = true then te σ2 H2' fun v H3 => H3 D = some (.lst ys) ∧ ys.length < sizeLine ∧ N (ys ++ [v]) σ2 (upd H3 D (.lst (ys ++ [v]))) else N ys σ2 H2')
def tComp (wi : TI) (ix : List Nat) (g : TG) (tt : TT) (te : TE) (h : HidC g tt te) : TE := fun σ H Q => wi σ H fun J H1 => ∀ D, H1 D = none → Comp g tt te h J (none :: ix.map fun i => (σ[i]?).join) D (fun H' => Q (.ref D) H') H1
theorem comp_list {K : PySem.W.Frag} {a : Addr} {xs : List V} {g : TG} {tt : TT} {te : TE} {h : HidC g tt te} {σ0 : St} {D : Addr} {Q : Hp → Prop} {H : Hp} (Pv : Nat → List V → St → Hp → Prop) (h0 : Pv 0 [] σ0 (upd H D (.lst []))) (hl : ∀ i ys σ H, i ≤ xs.length → Pv i ys σ H → SqL K H a xs)
    (hs : ∀ i x ys σ H, xs[i]? = some x → Pv i ys σ H → g x σ H fun σ2 H2 => tt σ2 H2 fun b H2' => if b = true then te σ2 H2' fun v H3 => H3 D = some (.lst ys) ∧ ys.length < sizeLine ∧ Pv (i + 1) (ys ++ [v]) σ2 (upd H3 D (.lst (ys ++ [v]))) else Pv (i + 1) ys σ2 H2') (hd : ∀ ys σ H, Pv xs.length ys σ H → Q H) :
    Comp g tt te h (Itl K a) σ0 D Q H := by
  refine ⟨fun i m ys σ H => i + m = xs.length ∧ Pv i ys σ H, ⟨xs.length, Nat.zero_add _, h0⟩, fun i m ys σ H ⟨e, p⟩ => ?_⟩
  have hq := hl i ys σ H (by omega) p
  by_cases hi : i < xs.length
  · have ex : xs[i]? = some xs[i] := List.getElem?_eq_getElem hi
    refine .inr ⟨⟨xs, _, hq, ex⟩, Pv (i + 1), fun ys σ H q => ⟨m - 1, by omega, by omega, q⟩, ?_⟩
    rintro y H' ⟨rfl, hy⟩
    exact hs i y ys σ H' (hy xs hq) p
  · have e' : i = xs.length := by omega
    subst e'
    exact .inl ⟨⟨xs, hq, Nat.le_refl _⟩, hd ys σ H p⟩
/-- one turn of the block, whatever the target is -/
theorem compLoop_turn {prog : Program} {w : World} {A : Around} {R : Result → Shared → Prop} {s : Shared} {elt target iter : Expr} {ifs : List Expr} {scope : Scope} {pos : Pos} {it acc : Value} {env : Env} (I : Nat → Shared → Prop)
    (turn : ∀ n s, I n s → wpAny (model prog w) A (pyNext it) (fun r s₁ => match r with
      | none => R (.ok .next) s₁
      | some v => wpAny (model prog w) A (letOwnedTupleGo target it v) (fun _ s₁' => wpAny (model prog w) A (assign target env v) (fun _ s₂ =>
          wpAny (model prog w) A (forIn ifs true fun c r => if r = true then do let ok ← isTrue c env (eval c env); pure (ForInStep.yield ok) else pure (ForInStep.yield r)) (fun ok s₃ =>
            if ok = true then wpAny (model prog w) A (eval elt env) (fun x s₄ =>
              wpAny (model prog w) A (call (.builtin "list.append") [acc, x]) (fun _ s₅ => ∃ m, m < n ∧ I m s₅) (notedBy (model prog w) A env fun e s' => R (.error e) s') s₄) (notedBy (model prog w) A env fun e s' => R (.error e) s') s₃
            else ∃ m, m < n ∧ I m s₃) (notedBy (model prog w) A env fun e s' => R (.error e) s') s₂) (notedBy (model prog w) A env fun e s' => R (.error e) s') s₁') (notedBy (model prog w) A env fun e s' => R (.error e) s') s₁) (notedBy (model prog w) A env fun e s' => R (.error e) s') s)
    (n : Nat) (h : I n s) : codeAny (model prog w) A (.compLoop (.ListComp elt [⟨target, iter, ifs, 0⟩] scope pos) 0 it acc env) R s := by
  refine codeAny_loop rfl I (fun n s hI => ?_) n h
  show wpAny _ _ ((compTurn (.ListComp elt [⟨target, iter, ifs, 0⟩] scope pos) 0 it acc env).onRaise (fun x => do noteFrame x env; theTreesLotGoes x)) _ _ s
  refine wpAny_noted ?_
  rw [compTurn_list]
  refine wpAny_bind (wpAny_standAt (wpAny_bind (wpAny_mono (turn n s hI) (fun r s₁ h₁ => ?_) fun _ _ h' => h')))
  cases r with
  | none => exact wpAny_pure h₁
  | some v =>
    refine wpAny_bind (wpAny_mono h₁ (fun _ s₁' h₁' => ?_) fun _ _ h' => h')
    refine wpAny_bind (wpAny_mono h₁' (fun _ s₂ h₂ => wpAny_bind (wpAny_mono h₂ (fun ok s₃ h₃ => ?_) fun _ _ h' => h')) fun _ _ h' => h')
    cases ok with
    | false => exact wpAny_pure ⟨rfl, h₃⟩
    | true =>
      exact wpAny_bind (wpAny_bind (wpAny_mono h₃ (fun x s₄ h₄ => wpAny_bind (wpAny_mono h₄ (fun _ s₅ h₅ => wpAny_pure (wpAny_pure ⟨rfl, h₅⟩)) fun _ _ h' => h')) fun _ _ h' => h'))
section
variable {X : Cx}
theorem comp_block {pins : List (Addr × Obj)} {σ : St} {H2 : Hp} {s2 : Shared} {it : Addr} {fp : List Addr} {tn : Nat → Heap → Prop} {J : It} {tg iter elt : Expr} {ifs : List Expr} {scope : Scope} {cl : List (Str × Addr)} {pos : Pos} {x : Str} {fs : List Str} {ix : List Nat} {g : TG} {tt : TT} {te : TE}
    {Qf : Addr → Hp → Prop} {E : Value → Shared → Prop} {RR : Value → Addr → Result → Shared → Prop}
    (I2 : Inv X pins σ H2 s2) (T : Turn X.prog X.w X.K tg J fp it tn) (st2 : tn 0 s2.heap) (f2 : ∀ b ∈ fp, FpOk X pins H2 b) (hc : X.calm = true) (S : CompSc scope X.env x fs)
    (c1 : ∀ n c, cl.lookup n = some c → X.env.cells.lookup n = some c) (c2 : ∀ n, (n, NameKind.free) ∈ scope.names → ∃ c, cl.lookup n = some c) (hix : ix.map (X.N[·]?) = fs.map some)
    (hg : ∀ C s₀ H₀ xe, PG (cxComp X scope cl C (x :: fs) s₀ H₀ fp xe) tg g) (hf : ∀ C s₀ H₀ xe, PF (cxComp X scope cl C (x :: fs) s₀ H₀ fp xe) ifs tt) (he : ∀ C s₀ H₀ xe, PE (cxComp X scope cl C (x :: fs) s₀ H₀ fp xe) elt te)
    (h : ∀ D, H2 D = none → Comp g tt te .mk J (none :: ix.map fun i => (σ[i]?).join) D (Qf D) H2)
    (fin : ∀ D C H' s', Inv X pins σ H' s' → Qf D H' → (∃ m, s'.heap.Ns C m) → FpOk X pins H' C → RR (.ref D) C (.ok .next) s') :
    wpAny (model X.prog X.w) X.A (newList []) (fun acc s₃ => wpAny (model X.prog X.w) X.A (newFunctionEnv scope X.env.globals cl [] X.env.qual none .none (some X.env)) (fun cenv s₄ =>
      codeAny (model X.prog X.w) X.A (.compStart (.ListComp elt [⟨tg, iter, ifs, 0⟩] scope pos) 0 (.ref it) acc { cenv with scope := relabel scope X.env }) (RR acc cenv.locals) s₄) E s₃) E s2 := by
  have hD : H2 s2.heap.objs.size = none := I2.hok.fresh (Nat.le_refl _)
  obtain ⟨W, ⟨m0, w0⟩, turn⟩ := h _ hD
  refine wpAny_newObj_type (wpAny_newFunctionEnv S.nocell (by intro y hy; simp at hy) (fun h₁ hns₁ hsb₁ => ?_) S.kind)
  have I3 : Inv X pins σ (upd H2 s2.heap.objs.size (.lst [])) { s2 with heap := s2.heap.push { cls := .type "list", dict := none, data := .seq ([] : List Value).toArray } } :=
    I2.laid (t' := s2.toks) (fun b u e => Heap.get?_push_of_some _ e) (Nat.le_refl _) ⟨by decide, [], 0, .nil, Heap.get?_push_size _ rfl⟩
  obtain ⟨e3, he3⟩ : ∃ s3 : Shared, s3 = { s2 with heap := s2.heap.push { cls := .type "list", dict := none, data := .seq ([] : List Value).toArray } } := ⟨_, rfl⟩
  rw [← he3] at I3
  have hh3 : s2.heap.push { cls := .type "list", dict := none, data := .seq ([] : List Value).toArray } = e3.heap := by rw [he3]
  have sz3 : e3.heap.objs.size = s2.heap.objs.size + 1 := by rw [← hh3, Heap.size_push]
  dsimp only at hns₁ hsb₁ ⊢
  rw [hh3] at hns₁ hsb₁ ⊢
  generalize hH3 : upd H2 s2.heap.objs.size (.lst []) = H3 at *
  -- the iterator's objects: older than the list
  have live : ∀ b ∈ fp, b < s2.heap.objs.size := fun b hb => let ⟨_, e, _⟩ := T.obj _ _ st2 b hb; Heap.lt_size e
  have f3 : ∀ b ∈ fp, FpOk X pins H3 b := fun b hb => by
    refine ⟨?_, (f2 b hb).2⟩
    rw [← hH3, upd_ne (Nat.ne_of_lt (live b hb))]
    exact (f2 b hb).1
  have C0 : FpOk X pins H3 e3.heap.objs.size := I3.fpOk (Nat.le_refl _) (I3.hok.fresh (Nat.le_refl _))
  have old3 : ∀ b o, e3.heap.get? b = some o → h₁.get? b = some o := fun b o e => hsb₁.extBut b o (Nat.ne_of_lt (Heap.lt_size e)) (Heap.get?_push_of_some _ e)
  have nofs : ∀ b ∈ fp, b ∉ frs X.stack := fun b hb z => (List.mem_cons.mp (I3.stkSub b z)).elim (f3 b hb).2.1 (f3 b hb).2.2.1
  have hst1 : tn 0 h₁ := T.keep _ _ _ st2 fun b _ o e => old3 b o (by rw [← hh3]; exact Heap.get?_push_of_some _ e)
  have e0 := I3.env0
  have ok : ∀ xe, (cxComp X scope cl e3.heap.objs.size (x :: fs) e3 H3 fp xe).Ok := fun xe => by
    refine ⟨I3.ok.mod, S.kind, I3.ok.glob, I3.ok.blt, Nat.le_refl _, fun y z c h1 h2 => I3.ok.inj y z c (c1 _ _ h1) (c1 _ _ h2), fun y hy => ?_, fun y c z => ?_, I3.ok.hd, I3.ok.frames, .inl rfl, fun b hb => ⟨?_, fun y c e => (f3 b hb).2.2.2.2.1 y c (c1 _ _ e)⟩, e0.bs, e0.bsz, fun b o e hb => ?_, nofs, e0.funs, e0.frf⟩
    · have q : scope.names.lookup y = some .free ∨ scope.names.lookup y = some .cell := by
        rcases hy with hy | hy
        · exact relabel_kind hy (.inl rfl)
        · exact relabel_kind hy (.inr rfl)
      rcases q with q | q
      · exact c2 y (PySem.mem_of_lookup q)
      · exact absurd rfl (S.nocell _ (PySem.mem_of_lookup q))
    · cases z
    · exact Nat.ne_of_lt (Nat.lt_of_lt_of_le (live b hb) (by rw [sz3]; exact Nat.le_succ _))
    · rcases (f3 b hb).2.2.2.1 with z | z
      · exact I3.ok.noex b o e z
      · exact absurd (Nat.lt_of_lt_of_le (Heap.lt_size e) (Nat.le_trans I3.ok.bsz z)) (Nat.lt_irrefl _)
  have cellUp : ∀ c v, e3.heap.IsCell c v → h₁.IsCell c v := fun c v ⟨o, ho, hd⟩ => ⟨o, old3 _ _ ho, hd⟩
  have J0 : ∀ xe, Inv (cxComp X scope cl e3.heap.objs.size (x :: fs) e3 H3 fp xe) [] (none :: ix.map fun i => (σ[i]?).join) H3 { e3 with heap := h₁, toks := e3.toks + ([] : List (Str × Value)).length } := fun xe => by
    have hk : ∀ b o, e3.heap.get? b = some o → h₁.get? b = some o := old3
    refine ⟨ok xe, rfl, I3.bare, Un.kept hk, ⟨_, hns₁, fun i y v h1 h2 h3 => ?_⟩, fun y c e => ?_, I3.hok.fresh (Nat.le_refl _), fun y c e => I3.freeC y c (c1 _ _ e), fun p hp => absurd (show p ∈ ([] : List (Addr × Obj)) from hp) (by simp), I3.hok.kept hk, ?_⟩
    · cases i with
      | zero => cases h2
      | succ i =>
        have h1 : fs[i]? = some y := h1
        have h2 : (ix.map fun i => (σ[i]?).join)[i]? = some (some v) := h2
        have hy := S.fs y (List.mem_of_getElem? h1)
        rw [List.getElem?_map] at h2
        cases ej : ix[i]? with
        | none => rw [ej] at h2; cases h2
        | some j =>
          rw [ej] at h2
          have h2 : (σ[j]?).join = some v := Option.some.inj h2
          have hσ : σ[j]? = some (some v) := by
            cases q : σ[j]? with
            | none => rw [q] at h2; cases h2
            | some o => rw [q] at h2; cases o with
              | none => cases h2
              | some o => cases h2; rfl
          have hN : X.N[j]? = some y := by
            have z := congrArg (·[i]?) hix
            simp only [List.getElem?_map, ej, h1, Option.map_some] at z
            exact Option.some.inj z
          have kf := S.fr _ (PySem.mem_of_lookup hy) rfl
          obtain ⟨m, hn, hl⟩ := I3.loc
          obtain ⟨u, r, l⟩ := hl j y v hN hσ (by rcases kf with k | k; exact .inr (.inl k); exact .inr (.inr k))
          refine ⟨u, r, .inr ⟨relabel_free hy, ?_⟩⟩
          rcases l with ⟨l, _⟩ | ⟨_, c, e, z⟩
          · rcases kf with k | k <;> (rw [l] at k; cases k)
          · obtain ⟨c', e'⟩ := c2 y (PySem.mem_of_lookup hy)
            have q := c1 _ _ e'
            rw [e] at q; cases q
            exact ⟨c, e', cellUp _ _ z⟩
    · obtain ⟨v, z⟩ := I3.cell y c (c1 _ _ e)
      exact ⟨v, cellUp _ _ z⟩
    · have z := congrArg List.length hix
      simp only [List.length_map] at z
      show (none :: _ : St).length = (x :: fs).length
      simp only [List.length_cons, List.length_map, z]
  have back : ∀ {xe σ' H' s'}, Inv (cxComp X scope cl e3.heap.objs.size (x :: fs) e3 H3 fp xe) [] σ' H' s' → Inv X pins σ H' s' := fun {xe σ' H' s'} J =>
    I3.call' (s' := s') (ch := fp) J.os J.base J.hok J.bare fun b hb => ⟨(f3 b hb).2.2.2.1, (f3 b hb).2.1, (f3 b hb).2.2.2.2.1, (f3 b hb).2.2.2.2.2⟩
  have stat : ∀ {xe} {H' : Hp}, (∀ b ∈ fp, H' b = none) → ∀ b ∈ fp, FpOk (cxComp X scope cl e3.heap.objs.size (x :: fs) e3 H3 fp xe) [] H' b := fun {xe H'} hn b hb =>
    ⟨hn b hb, Nat.ne_of_lt (Nat.lt_of_lt_of_le (live b hb) (by rw [sz3]; exact Nat.le_succ _)), nofs b hb, .inl hb, fun y c e => (f3 b hb).2.2.2.2.1 y c (c1 _ _ e), fun p hp => absurd (show p ∈ ([] : List (Addr × Obj)) from hp) (by simp)⟩
  have loop : ∀ s4 : Shared, s4 = { e3 with heap := h₁, toks := e3.toks + ([] : List (Str × Value)).length } →
      codeAny (model X.prog X.w) X.A (.compLoop (.ListComp elt [⟨tg, iter, ifs, 0⟩] scope pos) 0 (.ref it) (.ref s2.heap.objs.size) (compEnvC scope cl e3.heap.objs.size X.env)) (RR (.ref s2.heap.objs.size) e3.heap.objs.size) s4 := by
    rintro s4 rfl
    let xe := notedBy (model X.prog X.w) X.A (compEnvC scope cl e3.heap.objs.size X.env) fun e s' => RR (.ref s2.heap.objs.size) e3.heap.objs.size (.error e) s'
    refine compLoop_turn (fun n s' => ∃ i ys σ' H', Inv (cxComp X scope cl e3.heap.objs.size (x :: fs) e3 H3 fp xe) [] σ' H' s' ∧ tn i s'.heap ∧ (∀ b ∈ fp, H' b = none) ∧ W i n ys σ' H') ?_ m0 ⟨0, [], _, _, J0 xe, hst1, fun b hb => (f3 b hb).1, w0⟩
    rintro n s5 ⟨i, ys, σ5, H5, J5, st5, fr5, w5⟩
    rcases turn i n ys σ5 H5 w5 with ⟨stop, qn⟩ | ⟨go, N, hN, step⟩
    · refine thn (T.done (cxComp X scope cl e3.heap.objs.size (x :: fs) e3 H3 fp xe) rfl rfl rfl hc i [] s5 σ5 H5 xe J5 (stat fr5) st5 stop) fun r s6 ⟨hr, J6⟩ => ?_
      subst hr
      obtain ⟨m, hn, _⟩ := J6.loc
      exact fin _ _ H5 s6 (back J6) qn ⟨m, hn⟩ ⟨J6.free, C0.2⟩
    · refine thn (T.item (cxComp X scope cl e3.heap.objs.size (x :: fs) e3 H3 fp xe) rfl rfl rfl hc i [] s5 σ5 H5 xe J5 (stat fr5) st5 go) fun r s6 ⟨u, hr, h6⟩ => ?_
      subst hr
      refine thn h6 fun _ s7 ⟨y, H7, J7, r7, y7, st7, fr7⟩ => ?_
      have J7' := J7.pinned (stat fr7) (T.obj _ _ st7)
      refine thn (hg _ _ _ xe _ s7 σ5 H7 y u _ J7' r7 (step y H7 y7)) fun _ s8 ⟨σ8, H8, J8, q8⟩ => ?_
      refine thn (hf _ _ _ xe _ s8 σ8 H8 _ J8 q8) fun ok s8' ⟨H8', J8', q8'⟩ => ?_
      cases ok with
      | false =>
        obtain ⟨m', hm', w9⟩ := hN _ _ _ (by simpa using q8')
        refine ⟨m', hm', i + 1, ys, σ8, _, J8'.unpinned, T.keep _ _ _ st7 fun b hb o e => (J8'.pin (b, o) (List.mem_append_right _ (List.mem_append_right _ (mem_pinsAt hb e)))).1, fun b hb => ?_, w9⟩
        obtain ⟨o, e, d⟩ := T.obj _ _ st7 b hb
        exact (J8'.pin (b, o) (List.mem_append_right _ (List.mem_append_right _ (mem_pinsAt hb e)))).2.1
      | true =>
      rw [if_pos rfl] at q8' ⊢
      refine thn (he _ _ _ xe _ s8' σ8 H8' _ J8' q8') fun uv s9 ⟨v, H9, J9, r9, hD9, hl9, n9⟩ => ?_
      obtain ⟨m', hm', w9⟩ := hN _ _ _ n9
      refine thn (mt_append (X := cxComp X scope cl e3.heap.objs.size (x :: fs) e3 H3 fp xe) _ s9 σ8 H9 (.ref s2.heap.objs.size) [v] _ [uv] (fun _ H' => H' = upd H9 s2.heap.objs.size (.lst (ys ++ [v]))) J9 rfl (.cons r9 .nil) ⟨_, ys, v, rfl, rfl, hD9, hl9, rfl⟩) fun _ s10 ⟨_, H10, J10, _, eH⟩ => ?_
      subst eH
      refine ⟨m', hm', i + 1, ys ++ [v], σ8, _, J10.unpinned, T.keep _ _ _ st7 fun b hb o e => (J10.pin (b, o) (List.mem_append_right _ (List.mem_append_right _ (mem_pinsAt hb e)))).1, fun b hb => ?_, w9⟩
      obtain ⟨o, e, d⟩ := T.obj _ _ st7 b hb
      exact (J10.pin (b, o) (List.mem_append_right _ (List.mem_append_right _ (mem_pinsAt hb e)))).2.1
  subst he3
  exact codeAny_compStart_list (loop _ rfl) (T.self X.A 0 _ _ _ hst1 (loop _ rfl))
theorem CompSc.clos {pins : List (Addr × Obj)} {σ : St} {H : Hp} {s : Shared} {scope : Scope} {x : Str} {fs : List Str} (S : CompSc scope X.env x fs) (I : Inv X pins σ H s) :
    ∃ cl, closureFor scope X.env = pure cl ∧ (∀ n c, cl.lookup n = some c → X.env.cells.lookup n = some c) ∧ ∀ n, (n, NameKind.free) ∈ scope.names → ∃ c, cl.lookup n = some c :=
  closure_of fun n hn => I.ok.has n (S.fr _ hn rfl)
/-- [elt for tg in iter], its value kept -/
theorem pe_comp {tg iter elt : Expr} {ifs : List Expr} {scope : Scope} {pos : Pos} {x : Str} {fs : List Str} {ix : List Nat} {wi : TI} {g : TG} {tt : TT} {te : TE} (hc : X.calm = true) (hi : PI X tg iter wi) (hk : compChk scope X.env x fs = true) (hix : ix.map (X.N[·]?) = fs.map some)
    (hg : ∀ cl C s₀ H₀ fp xe, PG (cxComp X scope cl C (x :: fs) s₀ H₀ fp xe) tg g) (hf : ∀ cl C s₀ H₀ fp xe, PF (cxComp X scope cl C (x :: fs) s₀ H₀ fp xe) ifs tt) (he : ∀ cl C s₀ H₀ fp xe, PE (cxComp X scope cl C (x :: fs) s₀ H₀ fp xe) elt te) (hs : ∀ x, foldedSetIterable iter X.env x = pure x := by intro _; rfl) :
    PE X (.ListComp elt [⟨tg, iter, ifs, 0⟩] scope pos) (tComp wi ix g tt te .mk) := by
  intro pins s σ H Q I h
  have S := CompSc.of hk
  obtain ⟨cl, hcl, c1, c2⟩ := S.clos I
  rw [eval_ListComp]
  refine wpAny_comprehension_free (use := none) rfl hs hcl S.kind S.own (thn (hi pins s σ H _ I h) fun v s1 h1 => thn h1 fun itv s2 h2 => ?_)
  obtain ⟨it, fp, tn, J, H2, e, I2, T, st2, f2, q⟩ := h2
  subst e
  refine comp_block (RR := fun acc C => compPost (model X.prog X.w) X.A X.xe none (EP X pins σ Q) acc C) I2 T st2 f2 hc S c1 c2 hix (fun C s₀ H₀ xe => hg cl C s₀ H₀ fp xe) (fun C s₀ H₀ xe => hf cl C s₀ H₀ fp xe) (fun C s₀ H₀ xe => he cl C s₀ H₀ fp xe) q fun D C H' s' I' q' ⟨m, hn⟩ ⟨f0, f1, _, f3, f4, f5⟩ => ?_
  exact ⟨m, hn, fun h' hs' => ⟨.ref D, H', I'.turned (t' := s'.toks) (fun b o hb e => (hs'.2 b hb).trans e) f0 f1 f3 f4 f5, rfl, q'⟩⟩
end
end L2
namespace L2
open PySem PySem.Spec PyProof.Rows
/-! ### for i, x in enumerate(list) -/
section
variable {X : Cx} {pins : List (Addr × Obj)} {σ : List (Option V)} {H H' : Hp} {s : Shared} {h' : Heap}
end
section
variable {X : Cx}
end
theorem of_ints : ∀ {ns : List Int} {us : List Value}, IntsAre us ns → Vals (ns.map V.int) us
  | [], [], _ => .nil
  | _ :: _, _ :: _, .cons _ t h => .cons ⟨t, rfl⟩ (of_ints h)
end L2
namespace L2
open PySem PySem.Spec PyProof.Rows
/-! ### d.setdefault(k, x) -/
section
variable {X : Cx} {pins : List (Addr × Obj)} {σ : St} {H : Hp} {s : Shared} {a : Addr} {kvs : List (Key × V)} {k : Key} {u r : Value} {z : V} {A : Around} {E : Value → Shared → Prop}
end
section
variable {X : Cx} {o e f : Expr} {apos cpos : Pos} {td ty tx : TE}
end
theorem bools_of : ∀ {bs : List Bool} {us : List Value}, Vals (bs.map V.bl) us → LSm.BoolsAre us bs
  | [], _, h => by cases h; exact .nil
  | b :: bs, _, h => by
    cases h with
    | cons r rr =>
      cases r
      exact .cons _ (bools_of rr)
theorem call_any {X : Cx} (hc : X.calm = true) : CallR X (.builtin "any") (fun xs H Q => ∃ (p : Addr) (bs : List Bool), xs = [.ref p] ∧ SqL X.K H p (bs.map V.bl) ∧ Q (.bl (bs.any id)) H) := by
  intro pins s σ H xs us Q I r h
  obtain ⟨p, bs, rfl, hq, q⟩ := h
  obtain ⟨u, rfl, rx⟩ := vals1 r
  cases rx
  obtain ⟨its, r', pl, hz⟩ := I.list hq
  have hb := bools_of r'
  have hl := pl.isList
  have hlt : p < s.heap.objs.size := by obtain ⟨_, e, _⟩ := id hl; exact Heap.lt_size e
  refine call_any_walk (wpAny_pyIter_list hl ?_)
  refine ⟨s.heap.objs.size, [s.heap.objs.size, p], [s.heap.objs.size], its.toArray.size, _, _, fun i => (bs[i]?).getD false, rfl, Walks.list (A := X.A.in1) (I.ok.hd hc) _ p (Nat.ne_of_lt hlt) its.toArray,
    ⟨⟨_, Heap.get?_push_size _ rfl, rfl, rfl⟩, hl.push _⟩, fun i v s' Q' E' hP hQ => ?_, fun h' tk hk => ?_⟩
  · obtain ⟨b, e, rfl⟩ := hb.get i v (by simpa using hP)
    simp only [e, Option.getD_some] at hQ
    exact wpAny_truthy_bool hQ
  · have e : ((List.range its.toArray.size).any fun i => (bs[i]?).getD false) = bs.any id := by
      rw [List.size_toArray, hb.length]; exact LSm.range_any bs
    rw [e]
    exact ⟨.bl (bs.any id), H, I.kept (t' := tk) (LSm.kept_iter hk), rfl, q⟩
/-! ### sorted(dict of ints) -/
theorem ints_at : ∀ {ns : List Int} {us : List Value}, us.length = ns.length → (∀ (j : Nat) v, us[j]? = some v → ∃ t i, ns[j]? = some i ∧ v = Value.int i t) → IntsAre us ns
  | [], [], _, _ => .nil
  | _ :: _, [], h, _ => by cases h
  | [], _ :: _, h, _ => by cases h
  | n :: ns, u :: us, hl, h => by
    obtain ⟨t, i, e1, e2⟩ := h 0 u rfl
    have e1 : n = i := by simpa using e1
    subst e1 e2
    exact .cons _ _ (ints_at (by simpa using hl) fun j v e => by simpa using h (j + 1) v (by simpa using e))
theorem sorted_src {prog : Program} {w : World} {A : Around} {E : Value → Shared → Prop} {s : Shared} {T : String} {r d : Addr} {n : Nat} {P : Nat → Value → Prop} {OK : Heap → Prop} {Q : Value → Shared → Prop}
    (K : PySem.W.KdlSrc prog w T r d n P OK) (hh : A.handled = none) (hok : OK s.heap) (ns : List Int) (hn : n = ns.length) (h64 : ns.length < 64)
    (hP : ∀ j v, P j v → ∃ t i, ns[j]? = some i ∧ v = Value.int i t)
    (h : ∀ (h1 h' : Heap) (l : Addr) (tk : Nat) (out : Array Value) (e : Nat) (ms : List Int), (∀ b o, s.heap.get? b = some o → h1.get? b = some o) → (∀ b o, h1.get? b = some o → h'.get? b = some o) → h1.objs.size ≤ l → h'.get? l = some (seqObj "list" out e) →
      IntsAre out.toList ms → ms.Perm ns → ms.Pairwise (· ≤ ·) → Q (.ref l) { s with heap := h', toks := tk }) :
    wpAny (model prog w) A (call (.builtin "sorted") [.ref r]) Q E s := by
  have hsz : n ≤ sizeLine := by rw [sizeLine_eq]; omega
  refine Calls.call_function_entry kind_sorted plain_sorted entry_sorted (args_sorted1 _) ?_
  unfold Builtin.«sorted»
  refine wpAny_bind (m := checkCount "sorted" 1 1 _) (wpAny_pure ?_)
  refine wpAny_bind (PySem.W.kdu_collect (A := A.in1) K hh hok hsz fun h' tk acc hk hacc => ?_)
  have hl : acc.toList.length = n := by rw [Array.length_toList]; exact hacc.1
  have hI : IntsAre acc.toList ns := ints_at (by rw [hl, hn]) fun j v e => hP j v (hacc.2 j v (by rw [← Array.getElem?_toList]; exact e))
  refine wpAny_bind (wpAny_newList ?_ (by rw [hl]; exact hsz))
  have hoL : (h'.push (seqObj "list" acc.toList.toArray 0)).get? h'.objs.size = some (seqObj "list" acc.toList.toArray 0) := Heap.get?_push_size _ rfl
  refine wpAny_bind (wpAny_holding (wpAny_call_entry slot_list_sort ⟨_, hoL, rfl⟩ entry_list_sort (list_sort_tree hoL hI (by rw [hl, hn]; exact h64) fun out ns' a1 a2 a3 => ⟨_, rfl, ?_⟩) (args_list_sort _)))
  obtain ⟨e, he⟩ := sortedHeap_at (out := out) hoL
  refine wpAny_pure ⟨_, rfl, h h' _ _ _ out e ns' hk (fun b o hb => ?_) (Nat.le_refl _) he a1 a2 a3⟩
  have hlt := Heap.lt_size hb
  rw [sortedHeap_old (Nat.ne_of_lt hlt) (by rw [size_push']; exact Nat.lt_succ_of_lt hlt)]
  exact Heap.get?_push_of_some _ hb
theorem kv_at {κ : Type} {kvs : List (κ × V)} {vs : List (κ × Value)} (r : KV kvs vs) : ∀ (j : Nat) (k : κ) (x : Value), vs[j]? = some (k, x) → ∃ v, kvs[j]? = some (k, v) ∧ RelV v x := by
  unfold KV at r
  induction r with
  | nil => intro j k x e; simp at e
  | cons q _ ih =>
    intro j k x e
    cases j with
    | zero =>
      simp at e
      subst e
      exact ⟨_, by simp; exact Prod.ext q.1 rfl, q.2⟩
    | succ j => simpa using ih j k x (by simpa using e)
theorem call_sortedD {X : Cx} (hc : X.calm = true) : CallR X (.builtin "sorted") (fun xs H Q => ∃ (p : Addr) (kvs : List (Key × V)) (ns : List Int), xs = [.ref p] ∧ Rd H p (.dK kvs) ∧ kvs.map (·.1) = ns.map Sum.inl ∧ ns.length < 64 ∧
    ∀ l ms, H l = none → List.Perm ms ns → ms.Pairwise (· ≤ ·) → Q (.ref l) (upd H l (.lst (ms.map V.int)))) := by
  intro pins s σ H xs us Q I r h
  obtain ⟨p, kvs, ns, rfl, hq, hk, h64, q⟩ := h
  obtain ⟨u, rfl, rx⟩ := vals1 r
  cases rx
  obtain ⟨z, hd, vs, rel, dd⟩ := dk_rd I.hok hq
  obtain ⟨ep, hat⟩ := dd.dictAt
  have hlen : vs.length = ns.length := by
    have := congrArg List.length hk
    rw [List.length_map, List.length_map] at this
    rw [← rel.length, this]
  refine sorted_src (PySem.W.kdl_dict (knd := mixKind X.prog X.w) (kvs := vs) (ep := ep) hd) (I.ok.hd hc) hat ns hlen h64 (fun j v hv => ?_) fun h1 h' l tk out e ms k0 k1 k2 k3 a1 a2 a3 => ?_
  · obtain ⟨k, x, hx, hk2⟩ := hv
    obtain ⟨v2, hv2, _⟩ := kv_at rel j k x hx
    have e1 : (kvs.map (·.1))[j]? = some k := by rw [List.getElem?_map, hv2]; rfl
    rw [hk, List.getElem?_map] at e1
    cases e2 : ns[j]? with
    | none => rw [e2] at e1; cases e1
    | some i =>
      rw [e2] at e1
      cases e1
      obtain ⟨t, ev⟩ := Value.isInt_shape (k := i) (v := v) hk2
      exact ⟨t, i, rfl, ev⟩
  · have hl := a2.length_eq
    have I1 : Inv X pins σ H { s with heap := h1, toks := tk } := I.kept (t' := tk) k0
    exact ⟨.ref l, _, I1.laid (t' := tk) k1 k2 (show ObjOk X.prog X.w _ _ _ (.lst (ms.map V.int)) from ⟨by rw [List.length_map, hl, sizeLine_eq]; omega, out.toList, e, of_ints a1, k3⟩), rfl, q _ _ (I1.hok.fresh k2) a2 a3⟩
/-! ### while -/
inductive HidW (c : TT) (tb : TS) : Type where
  | mk : HidW c tb
inductive HidB (tb : TS) : Type where
  | mk : HidB tb
def LoopW (c : TT) (tb : TS) (_ : HidW c tb) : TS := tWhile c tb
def TurnW (tb : TS) (_ : HidB tb) (Pv : Nat → St → Hp → Prop) (m : Nat) (D : Ends) (σ : St) (H : Hp) : Prop :=
  ∃ N : St → Hp → Prop, (∀ σ' H', N σ' H' → ∃ m', m' < m ∧ Pv m' σ' H') ∧ tb { D with nx := N, ct := N, bk := D.nx } σ H
theorem ps_whileE {X : Cx} {c : Expr} {body : List Stmt} {tc : TT} {tb : TS} {pos : Pos} (hp : PassesOwn (model X.prog X.w) X.A X.env X.xe) (hc : PT X c tc) (hb : PSs X body tb) : PS X (.While c body [] pos) (LoopW tc tb .mk) := ps_while hp hc hb
theorem loop_while {c : TT} {tb : TS} {h : HidW c tb} {D : Ends} {σ : St} {H : Hp} (Pv : Nat → St → Hp → Prop) (m0 : Nat) (h0 : Pv m0 σ H)
    (hs : ∀ m σ H, Pv m σ H → c σ H fun b H1 => if b = true then TurnW tb .mk Pv m D σ H1 else D.nx σ H1) : LoopW c tb h D σ H := ⟨Pv, ⟨m0, h0⟩, hs⟩
theorem turnW {tb : TS} {h : HidB tb} {Pv : Nat → St → Hp → Prop} {m : Nat} {D : Ends} {σ : St} {H : Hp}
    (q : tb { D with nx := fun σ' H' => ∃ m', m' < m ∧ Pv m' σ' H', ct := fun σ' H' => ∃ m', m' < m ∧ Pv m' σ' H', bk := D.nx } σ H) : TurnW tb h Pv m D σ H := ⟨_, fun _ _ h => h, q⟩
end L2
namespace L2
open PySem PySem.Spec PyProof.Rows
/-! ### a dict walked: it stands still meanwhile, and is thawed behind -/
section
variable {X : Cx} {pins : List (Addr × Obj)} {σ : List (Option V)} {H : Hp} {s : Shared} {a : Addr}
theorem Inv.rewrite {u v : HO} (I : Inv X pins σ H s) (e : H a = some u) (hn : ∀ b, u ≠ .own b) (ht : ∀ xs, u ≠ .tup xs) (h0 : ∀ w, X.H₀ a = some w → (∃ o z, w = .frz o z) ∨ (∃ xs, w = .tup xs) ∨ (∃ ps, w = .tbl ps) → False) (new : ObjOk X.prog X.w (upd H a v) s.heap a v) :
    Inv X pins σ (upd H a v) s where
  ok := I.ok
  os := I.os
  bare := I.bare
  base := ⟨I.base.keep, I.base.slot, fun b o q n hx => by
      have := I.base.free b o q n hx
      rw [upd_ne (fun z => by rw [z, e] at this; cases this)]; exact this, I.base.there,
    fun b xs q => by
      have hb : b ≠ a := fun z => h0 _ (z ▸ q) (.inr (.inl ⟨_, rfl⟩))
      rw [upd_ne hb]; exact I.base.tups b xs q,
    fun b o z q => by
      have hb : b ≠ a := fun z => h0 _ (z ▸ q) (.inl ⟨_, _, rfl⟩)
      rw [upd_ne hb]; exact I.base.frzs b o z q,
    fun b ps q => by
      have hb : b ≠ a := fun z => h0 _ (z ▸ q) (.inr (.inr ⟨_, rfl⟩))
      rw [upd_ne hb]; exact I.base.tbls b ps q⟩
  loc := I.loc
  cell := I.cell
  free := by rw [upd_ne (Ne.symm (ne_of_none e I.free))]; exact I.free
  freeC := fun x c q => by
    have := I.freeC x c q
    rw [upd_ne (Ne.symm (ne_of_none e this))]; exact this
  pin := fun p hp => by
    obtain ⟨p1, p2, p3⟩ := I.pin p hp
    exact ⟨p1, by rw [upd_ne (Ne.symm (ne_of_none e p2))]; exact p2, p3⟩
  hok := fun b w q => by
    by_cases hb : b = a
    · subst hb; rw [upd_same] at q; cases q; exact new
    · rw [upd_ne hb] at q
      refine (I.hok b w q).stay (fun _ _ _ q => q) (fun c q => ?_) fun c xs q => ?_
      · rw [upd_ne (fun z => by rw [z, e] at q; exact hn _ (Option.some.inj q))]; exact q
      · rw [upd_ne (fun z => by rw [z, e] at q; exact ht _ (Option.some.inj q))]; exact q
  len := I.len
/-- what stood at the entry and does not change stands still -/
theorem Inv.still {w : HO} (I : Inv X pins σ H s) (h : X.H₀ a = some w) (hw : (∃ o z, w = .frz o z) ∨ (∃ xs, w = .tup xs) ∨ (∃ ps, w = .tbl ps)) : (∃ o z, H a = some (.frz o z)) ∨ (∃ xs, H a = some (.tup xs)) ∨ (∃ ps, H a = some (.tbl ps)) := by
  rcases hw with ⟨o, z, rfl⟩ | ⟨xs, rfl⟩ | ⟨ps, rfl⟩
  · exact .inl ⟨o, z, I.base.frzs a o z h⟩
  · exact .inr (.inl ⟨xs, I.base.tups a xs h⟩)
  · obtain ⟨m, e⟩ := I.base.tbls a ps h
    exact .inr (.inr ⟨_, e⟩)
theorem Inv.freeze {kvs : List (Key × V)} (I : Inv X pins σ H s) (e : H a = some (.dK kvs)) : ∃ o, s.heap.get? a = some o ∧ Inv X pins σ (upd H a (.frz o (.dK kvs))) s := by
  obtain ⟨z, hd, vs, rel, o, es, ep, ho, r⟩ := I.hok a _ e
  refine ⟨o, ho, I.rewrite e (fun _ z => by cases z) (fun _ z => by cases z) (fun w hw h => ?_) ⟨ho, z, hd, vs, rel, o, es, ep, ho, r⟩⟩
  rcases I.still hw h with ⟨_, _, q⟩ | ⟨_, q⟩ | ⟨_, q⟩ <;> (rw [e] at q; cases q)
theorem Inv.thaw {kvs : List (Key × V)} {o : Obj} (I : Inv X pins σ H s) (e : H a = some (.frz o (.dK kvs))) (h0 : ∀ o u, X.H₀ a ≠ some (.frz o u)) : Inv X pins σ (upd H a (.dK kvs)) s := by
  obtain ⟨ho, z, hd, vs, rel, dd⟩ := I.hok a _ e
  refine I.rewrite e (fun _ z => by cases z) (fun _ z => by cases z) (fun w hw h => ?_) ⟨z, hd, vs, rel, dd⟩
  rcases h with ⟨_, _, rfl⟩ | h
  · exact h0 _ _ hw
  · rcases I.still hw (.inr h) with ⟨o', z', q⟩ | ⟨_, q⟩ | ⟨_, q⟩
    · rcases h with ⟨xs, rfl⟩ | ⟨ps, rfl⟩
      · have := I.base.tups a xs hw; rw [e] at this; cases this
      · obtain ⟨m, this⟩ := I.base.tbls a ps hw; rw [e] at this; cases this
    · rw [e] at q; cases q
    · rw [e] at q; cases q
end
def thawH (a : Addr) (H : Hp) : Hp := match H a with
  | some (.frz _ (.dK kvs)) => upd H a (.dK kvs)
  | _ => H
theorem thawH_of {a : Addr} {H : Hp} {o : Obj} {kvs : List (Key × V)} (h : H a = some (.frz o (.dK kvs))) : thawH a H = upd H a (.dK kvs) := by unfold thawH; rw [h]
theorem Inv.thawed {X : Cx} {pins : List (Addr × Obj)} {σ : List (Option V)} {H : Hp} {s : Shared} {a : Addr} (I : Inv X pins σ H s) (h0 : ∀ o u, X.H₀ a ≠ some (.frz o u)) : Inv X pins σ (thawH a H) s := by
  unfold thawH
  split
  · rename_i h; exact I.thaw h h0
  · exact I
def thawD (a : Addr) (D : Ends) : Ends := { D with nx := fun σ H => D.nx σ (thawH a H), bk := fun σ H => D.bk σ (thawH a H), ct := fun σ H => D.ct σ (thawH a H), rt := fun v H => D.rt v (thawH a H) }
def tThaw (X : Cx) (t : TS) : TS := fun D σ H => ∃ a, (∀ o u, X.H₀ a ≠ some (.frz o u)) ∧ t (thawD a D) σ H
theorem ps_thaw {X : Cx} {st : Stmt} {t : TS} (h : PS X st t) : PS X st (tThaw X t) := by
  intro pins s σ H D I hh
  obtain ⟨a, h0, hh⟩ := hh
  refine wpAny_mono (h pins s σ H (thawD a D) I hh) (fun f s' q => ?_) fun _ _ e => e
  unfold SP at q ⊢
  cases f with
  | next => obtain ⟨σ', H', I', q⟩ := q; exact ⟨σ', _, I'.thawed h0, q⟩
  | brk => obtain ⟨σ', H', I', q⟩ := q; exact ⟨σ', _, I'.thawed h0, q⟩
  | cont => obtain ⟨σ', H', I', q⟩ := q; exact ⟨σ', _, I'.thawed h0, q⟩
  | ret u => obtain ⟨v, σ', H', I', r, q⟩ := q; exact ⟨v, σ', _, I'.thawed h0, r, q⟩
theorem frz_at {X : Cx} {pins : List (Addr × Obj)} {σ : List (Option V)} {H : Hp} {s : Shared} {a : Addr} {o : Obj} {kvs : List (Key × V)} {ep : Nat} {es} (I : Inv X pins σ H s) (e : H a = some (.frz o (.dK kvs))) (he : o.data = .dict es ep) :
    ∃ vs, KV kvs vs ∧ s.heap.DictAt (mixKind X.prog X.w) a vs ep ∧ (a == sysModules) = false := by
  obtain ⟨ho, z, hd, vs, rel, o', es', ep', ho', c, d, r⟩ := I.hok a _ e
  rw [ho] at ho'
  cases ho'
  rw [he] at d
  cases d
  exact ⟨vs, rel, ⟨o, es, ho, c, he, r⟩, hd⟩
end L2
namespace L2
open PySem PySem.Spec PyProof.Rows
end L2
namespace L2
open PySem PySem.Spec PyProof.Rows
/-! ### lists of flat values -/
def dFl (xs : List V) : List Dv := xs.map .leaf
theorem seesL_fl {K : PySem.W.Frag} {H : Hp} : ∀ (xs : List V), xs.all flatV = true → SeesL K H (dFl xs) xs
  | [], _ => by unfold dFl SeesL; rfl
  | x :: xs, h => by
    rw [List.all_cons, Bool.and_eq_true] at h
    show SeesL K H (.leaf x :: dFl xs) (x :: xs)
    unfold SeesL
    exact ⟨_, _, rfl, by unfold Sees; exact ⟨rfl, h.1⟩, seesL_fl xs h.2⟩
theorem sees_flT {K : PySem.W.Frag} {H : Hp} {a : Addr} {xs : List V} (h : SqT K H a xs) (hf : xs.all flatV = true) : Sees K H (.seq true (dFl xs)) (.ref a) := by
  unfold Sees
  exact ⟨a, _, rfl, by simpa using h, seesL_fl xs hf⟩
theorem alike_fl : ∀ (xs ys : List V), alikeL (dFl xs) (dFl ys) = true
  | [], _ => by unfold dFl; simp [alikeL]
  | _ :: _, [] => by unfold dFl; simp [alikeL]
  | x :: xs, y :: ys => by
    show alikeL (.leaf x :: dFl xs) (.leaf y :: dFl ys) = true
    rw [alikeL, alike, alike_fl xs ys]; rfl
theorem deep_fl : ∀ (xs : List V), deepL (dFl xs) = 0
  | [] => by unfold dFl; simp [deepL]
  | x :: xs => by
    show deepL (.leaf x :: dFl xs) = 0
    rw [deepL, deep, deep_fl xs]; rfl
theorem eq_fl : ∀ (xs : List V), xs.all flatV = true → eqDvL (dFl xs) (dFl xs) = true
  | [], _ => by unfold dFl; simp [eqDvL]
  | x :: xs, h => by
    rw [List.all_cons, Bool.and_eq_true] at h
    show eqDvL (.leaf x :: dFl xs) (.leaf x :: dFl xs) = true
    rw [eqDvL, eqDv, eq_fl xs h.2, eqV_self h.1]; rfl
end L2
namespace L2
open PySem PySem.Spec PyProof.Rows
end L2
namespace L2
open PySem PySem.Spec PyProof.Rows
theorem ix_listC {X : Cx} {K : PySem.W.Frag} (h : X.K = K) : IxR X (rIxL K) := h ▸ ix_list
end L2
/-! MY LAYER, l: defs whose last parameters have defaults -/
namespace L2
open PySem PySem.Spec PyProof.Rows
structure FunD (K : PySem.W.Frag) (x qual : Str) (st : Stmt) (f : Addr) (fd : FuncData) : Prop where
  ex : ∃ (oc : Value) (od : Option Addr) (dV kV doc pm : Value) (an : Option Addr) (cdv ct : Value) (osl : Array (Option Value)),
    fd = PySem.W.fnOf x qual (defArgs st) (defBody st) (defScope st) dV kV doc pm an cdv ct ∧ K.lookup f = some ⟨oc, od, .func fd, osl⟩ ∧ PySem.W.codeIn K cdv qual = true
  kp : PySem.W.keepIn K (.ref f) = true
section
variable {P : Program} {w : World} {K : PySem.W.Frag} {mg : Str → Option Value} {base : Heap}
theorem FunD.okE {x qual : Str} {st : Stmt} {f : Addr} {fd : FuncData} {N ps : List Str} {k : Nat} {sp : Sp} (F : FunD K x qual st f fd) (S : FnScope N ps (defScope st)) (len : ∀ vs H Q E, sp vs H Q E → vs.length = ps.length)
    (hbody : Body P w K mg base qual st N k sp) : FnOk P w K mg base (CXe P w) (k + 1) f fd ps sp := by
  obtain ⟨oc, od, dV, kV, doc, pm, an, cdv, ct, osl, rfl, lk, hcd⟩ := F.ex
  exact fn_of lk hcd S len fun A outer s H vs Q E hr hsp => hbody f cdv A outer s H vs Q E hr hsp
def RawMD (K : PySem.W.Frag) (C : Addr) (m qual : Str) (st : Stmt) (ps : List Str) (dvs : List V) : Prop := ∃ f fd ds, Meth K C m f ∧ FunD K m qual st f fd ∧ Binds K fd ps ds ∧ Vals dvs ds
def RawID (K : PySem.W.Frag) (mg : Str → Option Value) (x : Str) (C : Addr) (qual : Str) (st : Stmt) (ps : List Str) (dvs : List V) : Prop := ∃ f fd ds, mg x = some (.ref C) ∧ Mk K C f ∧ FunD K "__init__" qual st f fd ∧ Binds K fd ps ds ∧ Vals dvs ds
theorem RawMD.have {C : Addr} {m qual : Str} {st : Stmt} {N ps : List Str} {dvs : List V} {k : Nat} {sp : Sp} (R : RawMD K C m qual st ps dvs) (S : FnScope N ps (defScope st)) (len : ∀ vs H Q E, sp vs H Q E → vs.length = ps.length)
    (hbody : Body P w K mg base qual st N k sp) : HaveM P w K mg base C m (k + 1) ps dvs sp :=
  let ⟨f, fd, ds, hm, F, hb, hd⟩ := R
  ⟨f, fd, ds, hm, hb, hd, F.okE S len hbody⟩
theorem RawID.have {C : Addr} {x qual : Str} {st : Stmt} {N ps : List Str} {dvs : List V} {k : Nat} {sp : Sp} (R : RawID K mg x C qual st ps dvs) (S : FnScope N ps (defScope st)) (len : ∀ vs H Q E, sp vs H Q E → vs.length = ps.length)
    (hbody : Body P w K mg base qual st N k sp) : HaveI P w K mg base x C (k + 1) ps dvs sp :=
  let ⟨f, fd, ds, hm, M, F, hb, hd⟩ := R
  ⟨f, fd, ds, hm, M, hb, hd, F.okE S len hbody⟩
end
end L2
namespace L2
open PySem PySem.Spec PyProof.Rows
end L2
namespace L2
open PySem PySem.Spec PyProof.Rows
end L2
namespace L2
open PySem PySem.Spec PyProof.Rows
/-! ### a list or a tuple read at a place, within a comprehension -/
def rIx2 (K : PySem.W.Frag) : R2 := fun x y H Q => rIxL K x y H Q ∨ rIxT K x y H Q
theorem ix_two {X : Cx} : IxR X (rIx2 X.K) := ix_list.or ix_tup
section
variable {X : Cx}
end
theorem Vals.at {xs : List V} {us : List Value} (r : Vals xs us) (m : Nat) (h1 : m < xs.length) (h2 : m < us.length) : RelV xs[m] us[m] := by
  obtain ⟨u, hu, ru⟩ := r.get (List.getElem?_eq_getElem h1)
  rw [List.getElem?_eq_getElem h2] at hu
  cases hu
  exact ru
end L2
namespace L2
open PySem PySem.Spec PyProof.Rows
end L2
namespace L2
open PySem PySem.Spec PyProof.Rows
section
variable {prog : Program} {w : World} {K : Type} [DecidableEq K] {knd : HeapKind prog w K} {A : Around} {E : Value → Shared → Prop} {s : Shared}
end
end L2
namespace L2
open PySem PySem.Spec PyProof.Rows
/-! ### list(d) of a dict whose keys are tuples -/
def RawD (h : Heap) (d : Addr) (es : Array DictEntry) (ep : Nat) : Prop := ∃ o, h.get? d = some o ∧ o.ExactDict ∧ o.data = .dict es ep
theorem RawD.ty {s : Shared} {d : Addr} {es : Array DictEntry} {ep : Nat} (r : RawD s.heap d es ep) : s.TypeIs (.ref d) "dict" := let ⟨o, ho, hc, _⟩ := r; ⟨o, ho, hc.1⟩
section
variable {prog : Program} {w : World} {A : Around} {E : Value → Shared → Prop} {s : Shared} {d it : Addr} {es : Array DictEntry} {ep i : Nat}
end
end L2
namespace L2
open PySem PySem.Spec PyProof.Rows
section
variable {X : Cx}
end
end L2
namespace L2
open PySem PySem.Spec PyProof.Rows
/-! ### d.values(), walked -/
def valsO (v d : Addr) : HO := .ext fun h => h.IsValuesView v d
def tVals (td : TE) : TE := fun σ H Q => td σ H fun x H1 => ∃ a kvs, x = .ref a ∧ H1 a = some (.dK kvs) ∧ ∀ v, H1 v = none → Q (.ref v) (upd H1 v (valsO v a))
theorem pe_dvals {X : Cx} {o : Expr} {td : TE} {apos cpos : Pos} (ho : PE X o td) (hbase : attributeBase o "values" X.env (eval o X.env) = eval o X.env := by rfl) (hline : (apos.endLine == cpos.line) = true := by rfl) : PE X (.Call (.Attribute o "values" apos) [] [] cpos) (tVals td) := by
  intro pins s σ H Q I h
  refine wpAny_Call_method0_late hbase hline (thn (ho pins s σ H _ I h) fun u s1 ⟨x, H1, I1, rx, a, kvs, ex, hd, q⟩ => ?_)
  subst ex
  obtain rfl : u = Value.ref a := rx
  obtain ⟨t1, t2, _⟩ := isD_at I1 (.inl ⟨kvs, .inl hd⟩)
  obtain ⟨_, nd, vs, _, dd⟩ := dk_rd I1.hok (.inl hd)
  refine ⟨"dict", "dict.values", PySem.F.plainAttrs_dict, PySem.F.slot_dict_values, PySem.F.type_dict_values, t1, t2, Calls.callWith_builtin rfl (PySem.evalArgs_none ?_)⟩
  refine call_meetsIn PySem.F.slot_dict_values dd.typeIs PySem.F.entry_dict_values (PySem.F.args_dict_values_1 _) (meets_dict_values (mixKind X.prog X.w) a nd) ⟨⟨vs, dd⟩, ?_⟩
  refine ⟨.ref s1.heap.objs.size, _, I1.laid (t' := s1.toks) (fun b u e => Heap.get?_push_of_some _ e) (Nat.le_refl _) (o := valsO s1.heap.objs.size a) ⟨⟨_, Heap.get?_push_size _ rfl, rfl, rfl⟩, ⟨_, Heap.get?_push_size _ rfl⟩, fun h1 h2 ⟨o, e, c, d⟩ k => ⟨o, k o e, c, d⟩⟩, rfl, q _ (I1.hok.fresh (Nat.le_refl _))⟩
def Itw (a : Addr) (o : Obj) (kvs : List (Key × V)) : It :=
  ⟨fun i H => H a = some (.frz o (.dK kvs)) ∧ i < kvs.length, fun i H x H' => H' = H ∧ ∃ k, kvs[i]? = some (k, x), fun i H => H a = some (.frz o (.dK kvs)) ∧ kvs.length ≤ i⟩
theorem turn_vals {P : Program} {w : World} {K : PySem.W.Frag} {tg : Expr} (a it : Addr) (o : Obj) (kvs : List (Key × V)) (ep : Nat) {es} (he : o.data = .dict es ep) : Turn P w K tg (Itw a o kvs) [it] it (fun i h => h.IsValIter it a i kvs.length ep) where
  mem := by simp
  obj := fun i h st b hb => by
    have e : b = it := by simpa using hb
    subst e
    obtain ⟨o, e, c, d⟩ := st
    exact ⟨o, e, fun v z => by rw [d] at z; cases z⟩
  keep := fun i h h' st k => st.at fun o e => k it (by simp) o e
  item := by
    intro X hP hw hK hc i pins s σ H E I hf st hg
    subst hP hw hK
    obtain ⟨hg, hi⟩ := hg
    obtain ⟨vs, rel, dat, _⟩ := frz_at I hg he
    obtain ⟨f0, f1, f2, f3, f4, f5⟩ := hf it (by simp)
    have hl := rel.length
    have hi2 : i < vs.length := by rw [← hl]; exact hi
    obtain ⟨⟨k, x⟩, hx⟩ : ∃ p, vs[i]? = some p := ⟨_, List.getElem?_eq_getElem hi2⟩
    obtain ⟨v, hv, rv⟩ := kv_at rel i k x hx
    rw [hl] at st
    refine wpAny_pyNext_values_item st dat hx fun h' st' sb => ?_
    have I1 : Inv X pins σ H { s with heap := h' } := I.turned (t' := s.toks) (fun b o hb e => (sb.2 b hb).trans e) f0 f1 f3 f4 f5
    obtain ⟨ob, e, c, d⟩ := id st'
    rw [← hl] at st'
    exact ⟨x, rfl, go_of (s := { s with heap := h' }) e c d (by decide) ⟨v, H, I1, rv, ⟨rfl, k, hv⟩, st', fun b hb => (hf b hb).1⟩⟩
  done := by
    intro X hP hw hK hc i pins s σ H E I hf st hg
    subst hP hw hK
    obtain ⟨hg, hi⟩ := hg
    obtain ⟨vs, rel, dat, _⟩ := frz_at I hg he
    obtain ⟨f0, f1, f2, f3, f4, f5⟩ := hf it (by simp)
    have hl := rel.length
    rw [hl] at st
    exact wpAny_pyNext_values_end (I.ok.hd hc) st dat (List.getElem?_eq_none_iff.mpr (by rw [← hl]; exact hi)) fun h' eb => ⟨rfl, I.turned (t' := s.toks) (fun b o hb e => eb b o hb e) f0 f1 f3 f4 f5⟩
  self := fun _ _ _ _ _ st h => wpAny_pyIter_valiter st h
def iVals (tl : TE) : TI := fun σ H R => tl σ H fun x H1 => ∃ v a kvs, x = .ref v ∧ H1 v = some (valsO v a) ∧ H1 a = some (.dK kvs) ∧ ∀ o, R (Itw a o kvs) (upd H1 a (.frz o (.dK kvs)))
theorem pi_vals {X : Cx} {tg l : Expr} {tl : TE} (hl : PE X l tl) : PI X tg l (iVals tl) := by
  intro pins s σ H R I h
  refine thn (hl pins s σ H _ I h) fun v s1 ⟨x, H1, I1, r1, q1⟩ => ?_
  obtain ⟨vw, a, kvs, e, hv, hq, q⟩ := q1
  subst e
  cases r1
  obtain ⟨o, ho, I2⟩ := I1.freeze hq
  obtain ⟨_, _, vs, rel, o', es, ep, ho', c, d, r⟩ := I1.hok a _ hq
  rw [ho] at ho'
  cases ho'
  obtain ⟨vs, rel, dat, hd⟩ := frz_at I2 upd_same d
  have hvw : s1.heap.IsValuesView vw a := (I1.hok vw _ hv).1
  refine wpAny_pyIter_values hvw dat ?_
  have hlen : kvs.length = vs.length := rel.length
  have hfr : upd H1 a (.frz o (.dK kvs)) s1.heap.objs.size = none := I2.hok.fresh (Nat.le_refl _)
  refine ⟨s1.heap.objs.size, [s1.heap.objs.size], _, _, upd H1 a (.frz o (.dK kvs)), rfl, I2.kept (t' := s1.toks) fun b o e => Heap.get?_push_of_some _ e, turn_vals a _ o kvs ep d, ⟨_, Heap.get?_push_size _ rfl, rfl, by rw [hlen]; rfl⟩, fun b hb => ?_, q o⟩
  have e : b = s1.heap.objs.size := by simpa using hb
  subst e
  exact I2.fpOk (Nat.le_refl _) hfr
theorem comp_vals {a : Addr} {o : Obj} {kvs : List (Key × V)} {g : TG} {tt : TT} {te : TE} {h : HidC g tt te} {σ0 : St} {D : Addr} {Q : Hp → Prop} {H : Hp} (Pv : Nat → List V → St → Hp → Prop) (h0 : Pv 0 [] σ0 (upd H D (.lst []))) (hl : ∀ i ys σ H, i ≤ kvs.length → Pv i ys σ H → H a = some (.frz o (.dK kvs)))
    (hs : ∀ i k x ys σ H, kvs[i]? = some (k, x) → Pv i ys σ H → g x σ H fun σ2 H2 => tt σ2 H2 fun b H2' => if b = true then te σ2 H2' fun v H3 => H3 D = some (.lst ys) ∧ ys.length < sizeLine ∧ Pv (i + 1) (ys ++ [v]) σ2 (upd H3 D (.lst (ys ++ [v]))) else Pv (i + 1) ys σ2 H2') (hd : ∀ ys σ H, Pv kvs.length ys σ H → Q H) :
    Comp g tt te h (Itw a o kvs) σ0 D Q H := by
  refine ⟨fun i m ys σ H => i + m = kvs.length ∧ Pv i ys σ H, ⟨kvs.length, Nat.zero_add _, h0⟩, fun i m ys σ H ⟨e, p⟩ => ?_⟩
  have hq := hl i ys σ H (by omega) p
  by_cases hi : i < kvs.length
  · refine .inr ⟨⟨hq, hi⟩, Pv (i + 1), fun ys σ H q => ⟨m - 1, by omega, by omega, q⟩, ?_⟩
    rintro y H' ⟨rfl, k, hy⟩
    exact hs i k y ys σ _ hy p
  · have e' : i = kvs.length := by omega
    subst e'
    exact .inl ⟨⟨hq, Nat.le_refl _⟩, hd ys σ H p⟩
end L2
namespace L2
open PySem PySem.Spec PyProof.Rows
end L2
namespace L2
open PySem PySem.Spec PyProof.Rows
/-! ### sorted(d), one key, a tuple -/
section
variable {prog : Program} {w : World} {A : Around} {E : Value → Shared → Prop} {s : Shared}
end
end L2
namespace L2
open PySem PySem.Spec PyProof.Rows
/-! ### a name read: by a match, that reduces without a trace in the proof -/
def tVarM (i : Nat) : TE := fun σ H Q => match σ[i]? with
  | some (some v) => Q v H
  | _ => False
theorem tVarM_le {i : Nat} {σ : St} {H : Hp} {Q : VK} (h : tVarM i σ H Q) : tVar i σ H Q := by
  unfold tVarM at h
  split at h
  · rename_i v e; exact ⟨v, e, h⟩
  · exact h.elim
theorem pvM {X : Cx} (i : Nat) {x : Str} {pos : Pos} (hN : X.N[i]? = some x := by rfl) (hv : Vis X.env.scope x := by first | exact Or.inl rfl | exact Or.inr (Or.inl rfl) | exact Or.inr (Or.inr rfl)) (hd : (x == ("__debug__" : Str)) = false := by decide)
    (hcd : (x == ("__classdict__" : Str)) = false := by decide) : PE X (.Name x pos) (tVarM i) := fun pins s σ H Q I h => pe_var hN hv hd hcd pins s σ H Q I (tVarM_le h)
theorem rI0_ii {g : Int → Int → V} {i j : Int} {H : Hp} {Q : VK} : rI0 g (.int i) (.int j) H Q = Q (g i j) H := propext ⟨fun ⟨_, _, e1, e2, h⟩ => by cases e1; cases e2; exact h, fun h => ⟨_, _, rfl, rfl, h⟩⟩
theorem rI_ii {C : Int → Int → Prop} {g : Int → Int → V} {i j : Int} {H : Hp} {Q : VK} : rI C g (.int i) (.int j) H Q = (C i j ∧ Q (g i j) H) := propext ⟨fun ⟨_, _, e1, e2, h⟩ => by cases e1; cases e2; exact h, fun h => ⟨_, _, rfl, rfl, h⟩⟩
theorem ex_int {c : Int} {P : Int → Prop} : (∃ i, V.int c = V.int i ∧ P i) = P c := propext ⟨fun ⟨_, e, h⟩ => by cases e; exact h, fun h => ⟨_, rfl, h⟩⟩
theorem ex_bl {c : Bool} {P : Bool → Prop} : (∃ i, V.bl c = V.bl i ∧ P i) = P c := propext ⟨fun ⟨_, e, h⟩ => by cases e; exact h, fun h => ⟨_, rfl, h⟩⟩
theorem ex_ref {c : Addr} {P : Addr → Prop} : (∃ i, V.ref c = V.ref i ∧ P i) = P c := propext ⟨fun ⟨_, e, h⟩ => by cases e; exact h, fun h => ⟨_, rfl, h⟩⟩
end L2
namespace L2
open PySem PySem.Spec PyProof.Rows
section
open PySem.Builtin PySem.Builtin.Str
end
end L2
namespace Hd
open PySem PySem.W PySem.Calls PyProof.Rows
/-- the top's run over a heap that is a tree -/
def runT (tb : String → Option Builtin) (p : Program) (w : World) (n0 : Nat) (ann : Option Value) : Nat → SharedT → Thread → Option SharedT
  | 0, _, _ => none
  | n + 1, s, t => match through t with
    | true => some s
    | false => match stepOk n0 ann t with
      | false => none
      | true => match stepT (denote tb) p w s t with
        | some (s', t') => runT tb p w n0 ann n s' t'
        | none => none
theorem runT_of {tb : String → Option Builtin} {p : Program} {w : World} {n0 : Nat} {ann : Option Value} : ∀ {n : Nat} {s r : SharedT} {t : Thread}, runT tb p w n0 ann n s t = some r → topRun tb p w n0 ann n s.abs t = some r.abs
  | 0, _, _, _, h => by cases h
  | n + 1, s, r, t, h => by
    unfold runT at h
    unfold topRun
    cases he : through t with
    | true => rw [he] at h; cases h; rfl
    | false =>
      rw [he] at h
      cases hk : stepOk n0 ann t with
      | false => rw [hk] at h; cases h
      | true =>
        rw [hk] at h
        cases hs : stepT (denote tb) p w s t with
        | none => rw [hs] at h; cases h
        | some x => obtain ⟨s2, t2⟩ := x; rw [hs] at h; rw [stepT_spec hs]; exact runT_of h
def grow : List Obj → Nat → BT → BT
  | [], _, t => t
  | o :: l, n, t => grow l (n + 1) (t.ins n o)
noncomputable def bootT (P : Params) : BT := grow (boot_heap P).objs.toList 0 .nil
noncomputable def bootS (w : World) (os : OsState) : SharedT := ⟨bootT w.params, (boot_heap w.params).objs.size, (boot_heap w.params).life, #[], boot_drawn, boot_toks, os⟩
theorem boot_abs (w : World) (os : OsState) : (bootS w os).abs = ⟨boot_heap w.params, #[], boot_drawn, boot_toks, os⟩ := by kernel_rfl
theorem boot_size (w : World) : ((boot_heap w.params).isNs mainGlobals && (#[] : Array GenState).size == 0) = true := by kernel_rfl
noncomputable abbrev ann0 (w : World) : Option Value := (boot_heap w.params).nsMap mainGlobals "__annotations__"
def look {α : Type} (p : Program) (Yf : Shared → α) (H0 : Heap) (s : Shared) : Bool × α :=
  (staticsOk (importedModules p.main.body) H0 s.heap && namesBound p s.heap && gensDone s && laidKept H0 s.heap, Yf s)
noncomputable def ran (p : Program) (N : Nat) (w : World) (os : OsState) : Option SharedT := runT treeTable p w (boot_heap w.params).objs.size (ann0 w) N (bootS w os) (topStub p)
noncomputable def once {α : Type} (p : Program) (Yf : Shared → α) (N : Nat) (w : World) (os : OsState) := (ran p N w os).map fun s => look p Yf (boot_heap w.params) s.abs
noncomputable def seen (p q : Program) (loose : List Str) (Xt : Shared → Bool) (N : Nat) (w : World) (os : OsState) := (ran p N w os).map fun s => openSeen q loose (importedModules p.main.body) Xt true s.abs
theorem left_once {p q : Program} {loose : List Str} {Xt : Shared → Bool} {α : Type} {Yf : Shared → α} {Ya : World → α} {N : Nat}
    (e : opening p = plainProg p.main.scope.names) (hN : Nat.ble 600 N = true) (f : ∀ s, fenceModules? p s = some s)
    (one : ∀ (w : World) (os : OsState), once p Yf N w os = some (true, Ya w)) (two : ∀ (w : World) (os : OsState), seen p q loose Xt N w os = some (openGood q loose)) : LeftO p q loose Xt Yf Ya N := fun w => by
  obtain ⟨⟨h, gs, d, k, os⟩, e1, e2⟩ := Option.map_eq_some_iff.mp (boot_open e hN f w)
  obtain ⟨rfl, rfl, rfl, rfl⟩ : h = boot_heap w.params ∧ gs = #[] ∧ d = boot_drawn ∧ k = boot_toks := by simpa using e2
  obtain ⟨sT, r, l⟩ := Option.map_eq_some_iff.mp (one w os)
  obtain ⟨sT', r', l2⟩ := Option.map_eq_some_iff.mp (two w os)
  obtain rfl : sT = sT' := Option.some.inj (r.symm.trans r')
  have r := runT_of r
  rw [boot_abs] at r
  obtain ⟨l1, l3⟩ : _ ∧ _ := by simpa only [look, Prod.mk.injEq] using l
  have t : topFrom treeTable p w N ⟨boot_heap w.params, #[], boot_drawn, boot_toks, os⟩ = some sT.abs := by
    unfold topFrom
    dsimp only
    rw [boot_size w, r]
    show (match staticsOk (importedModules p.main.body) (boot_heap w.params) sT.abs.heap && namesBound p sT.abs.heap && gensDone sT.abs && laidKept (boot_heap w.params) sT.abs.heap with | true => _ | false => _) = _
    rw [l1]
  unfold openEnds
  rw [e1]
  show (topFrom treeTable p w N _).map _ = _
  rw [t]
  exact congrArg some (Prod.ext l2 l3)
end Hd
namespace Hd
open PySem PySem.W
/-- a text by one number: its signs as digits of 256, each one more -/
def dig : Nat → Nat → List Nat
  | 0, _ => []
  | k + 1, n => match Nat.beq n 0 with
    | true => []
    | false => Nat.sub (n % 256) 1 :: dig k (n / 256)
def S (n : Nat) : Str := ⟨⟨dig 200 n⟩⟩
def ent (P : Params) (x : Str) (t : Nat) (v : Value) : DictEntry := ⟨PyData.keyHash P x, .str x t, v⟩
def dO (n : Nat) (l : List DictEntry) : Obj := ⟨.type "dict", none, .dict ⟨l⟩ n, #[]⟩
def tO (l : List Value) : Obj := ⟨.type "tuple", none, .seq ⟨l⟩ 0, #[]⟩
def cO (l : List Value) : Obj := ⟨.type "code", none, .fields ⟨l⟩, #[]⟩
end Hd
namespace L2
open PySem PySem.Spec PyProof.Rows
/-! ### a def called while an exception is handled -/
structure RoomH (k : Nat) (A : Around) : Prop where
  dp : A.depth + 3 * k + 5 < recursionLimit
  un : A.units + 16 * k + 200 < cLine
theorem Room.h {k : Nat} {A : Around} (r : Room k A) : RoomH k A := ⟨r.dp, r.un⟩
theorem RoomH.mono {j k : Nat} {A : Around} (r : RoomH k A) (h : j ≤ k) : RoomH j A := ⟨by have := r.dp; omega, by have := r.un; omega⟩
theorem RoomH.mark {k : Nat} {A : Around} (r : RoomH k A) {v : Option Value} : RoomH k (A.mark v) := ⟨r.dp, r.un⟩
theorem RoomH.deeper {k : Nat} {A : Around} (r : RoomH (k + 1) A) (env : Env) : RoomH k (A.deeper env) :=
  ⟨by have := r.dp; show A.depth + 1 + 3 * k + 5 < _; omega, by have := r.un; show A.units + 3 + 16 * k + 200 < _; omega⟩
structure FnOkH (P : Program) (w : World) (K : PySem.W.Frag) (mg : Str → Option Value) (base : Heap) (k : Nat) (f : Addr) (fd : FuncData) (ps : List Str) (sp : Sp) : Prop where
  len : ∀ vs H Q E, sp vs H Q E → vs.length = ps.length
  run : ∀ (A : Around) (outer : List Env) (s : Shared) (H : Hp) (args : Args) (us : List Value) (vs : List V) (Q : VK) (E : XK), RoomH k A → Env0 P w K mg base A outer s H → BindsTo s fd args (ps.zip us) → Vals vs us → sp vs H Q E →
    codeAny (model P w) A (.call (.ref f) args) (CR (CXe P w) outer P w H s Q E) s
def cxOfH (P : Program) (w : World) (K : PySem.W.Frag) (mg : Str → Option Value) (base : Heap) (N : List Str) (qual : Str) (scope : Scope) (f : Addr) (cd : Value) (A : Around) (outer : List Env) (s : Shared) (H : Hp) (E : XK) : Cx :=
  { cxOf (CXe P w) P w K mg base N qual scope f cd A outer s H E with calm := false }
theorem inv_startH {P : Program} {w : World} {K : PySem.W.Frag} {mg : Str → Option Value} {base : Heap} {N ps : List Str} {qual : Str} {scope : Scope} {f : Addr} {cd : Value} {A : Around} {outer : List Env} {s s1 : Shared} {H : Hp} {E : XK} {us : List Value} {vs : List V}
    (S : FnScope N ps scope) (e0 : Env0 P w K mg base A outer s H) (hl : vs.length = ps.length) (r : Vals vs us)
    (x : InCallC s s.heap.objs.size (bindL (envOfC qual scope s.heap.objs.size f cd).kindOf (ps.zip us) fun _ => none) (cellsFrom (s.heap.objs.size + 1) scope.names []) (bindC (envOfC qual scope s.heap.objs.size f cd).kindOf (ps.zip us) fun _ => none) s1) :
    Inv (cxOfH P w K mg base N qual scope f cd A outer s H E) [] (start N vs) H s1 := by
  have I := inv_start (CX := CXe P w) (E := E) (A := { A with handled := none }) S rfl ⟨e0.frames, e0.mod, e0.bs, e0.bsz, e0.funs, e0.frf, e0.hok, e0.bare⟩ hl r x
  exact ⟨⟨I.ok.mod, I.ok.kind, I.ok.glob, I.ok.blt, I.ok.above, I.ok.inj, I.ok.has, I.ok.cab, fun z => Bool.noConfusion z, Around.frames_deeper e0.frames, I.ok.stk, I.ok.exf, I.ok.bs, I.ok.bsz, I.ok.noex, I.ok.exfs, I.ok.funs, I.ok.frf⟩,
    I.os, I.bare, I.base, I.loc, I.cell, I.free, I.freeC, I.pin, I.hok, I.len⟩
def BodyH (P : Program) (w : World) (K : PySem.W.Frag) (mg : Str → Option Value) (base : Heap) (qual : Str) (st : Stmt) (N : List Str) (k : Nat) (sp : Sp) : Prop :=
  ∀ (f : Addr) (cdv : Value) (A : Around) (outer : List Env) (s : Shared) (H : Hp) (vs : List V) (Q : VK) (E : XK), RoomH k (A.deeper (envOfC qual (defScope st) s.heap.objs.size f cdv)) → sp vs H Q E →
    ∃ t, PSs (cxOfH P w K mg base N qual (defScope st) f cdv A outer s H E) (defBody st) t ∧ t { nx := fun _ H' => Q .non H', rt := Q } (start N vs) H
theorem Fun.okH {P : Program} {w : World} {K : PySem.W.Frag} {mg : Str → Option Value} {base : Heap} {x qual : Str} {st : Stmt} {f : Addr} {fd : FuncData} {N ps : List Str} {k : Nat} {sp : Sp} (F : Fun K x qual st f fd) (S : FnScope N ps (defScope st)) (len : ∀ vs H Q E, sp vs H Q E → vs.length = ps.length)
    (hbody : BodyH P w K mg base qual st N k sp) : FnOkH P w K mg base (k + 1) f fd ps sp := by
  obtain ⟨oc, od, kV, doc, pm, an, cdv, ct, osl, rfl, lk, hcd⟩ := F.ex
  refine ⟨len, fun A outer s H args us vs Q E hr e0 hb r hsp => ?_⟩
  have hl := len _ _ _ _ hsp
  have KX : K.In s.heap := e0.mod.kin.keeps fun b o e => (e0.bs b o e).1
  have lim : s.heap.NoLimit := e0.mod.nolimit.keeps fun b o e => (e0.bs b o e).1
  have hkind : ∀ y ∈ ps.zip us, (defScope st).names.lookup y.1 = some .local ∨ ((defScope st).names.lookup y.1 = some .cell ∧ ((cellsFrom (s.heap.objs.size + 1) (defScope st).names []).lookup y.1).isSome = true) := fun ⟨n, v⟩ hy => by
    rcases S.par n (List.of_mem_zip hy).1 with q | q
    · exact .inl q
    · exact .inr ⟨q, PySem.W.cellsFrom_some _ _ _ (.inl q)⟩
  refine codeAny_call_function (by have := hr.dp; omega) (KX _ _ lk) rfl S.co S.gen rfl (PySem.W.codeRec_of KX hcd) (hb _ _ _ _ ?_)
  refine wpAny_newFunctionEnv_cells S.kind hkind fun env he s1 x => ?_
  subst he
  refine ⟨lim.keeps x.toInCall.keep, codeAny_func ?_⟩
  obtain ⟨t, ht, hq⟩ := hbody f cdv A outer s H vs Q E (hr.deeper _) hsp
  have I : Inv (cxOfH P w K mg base N qual (defScope st) f cdv A outer s H E) [] (start N vs) H s1 := inv_startH S e0 hl r x
  refine wpAny_mono (ht [] s1 (start N vs) H _ I hq) (fun fl s' hs => ?_) fun e s' hs => hs
  have fin : ∀ {σ' : St} {H' : Hp} {v : V} {u : Value}, Inv (cxOfH P w K mg base N qual (defScope st) f cdv A outer s H E) [] σ' H' s' → RelV v u → Q v H' → CE outer P w H s Q u s' :=
    fun {σ' H' v u} J rv q => ⟨v, H', J.os, J.bare, J.base, J.hok, rv, q⟩
  cases fl with
  | ret u =>
    obtain ⟨v, σ', H', J, rv, q⟩ := hs
    exact fin J rv q
  | next =>
    obtain ⟨σ', H', J, q⟩ := hs
    exact fin (v := V.non) (u := Value.none) J rfl q
  | brk =>
    obtain ⟨_, _, _, q⟩ := hs
    exact False.elim q
  | cont =>
    obtain ⟨_, _, _, q⟩ := hs
    exact False.elim q
def HaveH (P : Program) (w : World) (K : PySem.W.Frag) (mg : Str → Option Value) (base : Heap) (x : Str) (k : Nat) (ps : List Str) (sp : Sp) : Prop :=
  ∃ f fd, mg x = some (.ref f) ∧ PySem.W.keepIn K (.ref f) = true ∧ Binds K fd ps [] ∧ FnOkH P w K mg base k f fd ps sp
theorem Raw.haveH {P : Program} {w : World} {K : PySem.W.Frag} {mg : Str → Option Value} {base : Heap} {x qual : Str} {st : Stmt} {N ps : List Str} {k : Nat} {sp : Sp} (R : Raw K mg x qual st ps []) (S : FnScope N ps (defScope st)) (len : ∀ vs H Q E, sp vs H Q E → vs.length = ps.length)
    (hbody : BodyH P w K mg base qual st N k sp) : HaveH P w K mg base x (k + 1) ps sp := by
  obtain ⟨f, fd, ds, hm, F, hb, hd⟩ := R
  cases hd
  exact ⟨f, fd, hm, F.kp, hb, F.okH S len hbody⟩
theorem pe_callH {X : Cx} {k : Nat} {ps : List Str} {sp : Sp} {x : Str} {p pos : Pos} {e : Expr} {es : List Expr} {t : TA} (F : HaveH X.prog X.w X.K X.mg X.base x k ps sp) (hr : RoomH k X.A) (ha : PA X (e :: es) t) (hg : Gl X x := by rfl) (hdb : (x == ("__debug__" : Str)) = false := by decide)
    (he : starEach (e :: es) X.env = (false, eval e X.env) :: starEach es X.env := by rfl) (hpl : (backTo pos (starEach es X.env)).any (·.1) = false := by rfl) :
    PE X (.Call (.Name x p) (e :: es) [] pos) (tCallE (fun _ _ _ => False) sp [] t) := by
  obtain ⟨f, fd, hm, hk, hb, F⟩ := F
  intro pins s σ H Q I h
  refine wpAny_Call_Name_kw (ld_glob I hg hm ?_ hdb)
  refine PySem.W.callWith_K (h₀ := X.base) I.ok.mod.kin hk (thn (ha pos pins s σ H _ I h) fun us s1 ⟨vs, H1, I1, r, q⟩ => ⟨I1.kIn, ?_⟩) he hpl
  have r2 : Vals (vs ++ []) (us ++ []) := r.append .nil
  have hl : (us ++ []).length = ps.length := by rw [← r2.length]; exact F.len _ _ _ _ q
  refine wpAny_call (codeAny_mono (F.run X.A X.stack s1 H1 ⟨us, []⟩ (us ++ []) (vs ++ []) Q _ hr I1.env0 (hb s1 us I1.kIn hl) r2 q) fun r s' hq => ?_)
  cases r with
  | error e =>
    obtain ⟨ea, cls, H', B, rfl, os, bare, un, hok, fly, hK⟩ := hq
    exact hK.elim
  | ok fl =>
    cases fl with
    | ret u => exact I1.after hq
    | next => exact False.elim hq
    | brk => exact False.elim hq
    | cont => exact False.elim hq
/-- a text and a text -/
def rCatS : R2 := fun x y H Q => ∃ a b, x = .str a ∧ y = .str b ∧ a.length + b.length ≤ 16777216 ∧ Q (.str (a ++ b)) H
theorem op_catS {X : Cx} : OpR X (binaryOp .Add) rCatS := by
  intro pins s σ H x y v u Q I rx ry h
  obtain ⟨a, b, rfl, rfl, hz, q⟩ := h
  obtain ⟨t, rfl⟩ := rx
  obtain ⟨t2, rfl⟩ := ry
  exact add_str (fun t' tk => ⟨.str (a ++ b), H, I.tok _, ⟨_, rfl⟩, q⟩) (by rw [sizeLine_eq]; omega)
theorem cxOfH_K {P : Program} {w : World} {K : PySem.W.Frag} {mg : Str → Option Value} {base : Heap} {N : List Str} {qual : Str} {scope : Scope} {f : Addr} {cd : Value} {A : Around} {outer : List Env} {s : Shared} {H : Hp} {E : XK} : (cxOfH P w K mg base N qual scope f cd A outer s H E).K = K := rfl
end L2
set_option hygiene false in
local macro_rules | `(tactic| walk_at "wp") => `(tactic| simp only [↓L2.rI0_ii, ↓L2.rI_ii, ↓L2.ex_int, ↓L2.ex_bl, ↓L2.ex_ref, L2.tSeq, L2.tNext, L2.tAsg, L2.gName, L2.tRet, L2.tDrop, L2.tIfS, L2.tTest, L2.tB, L2.tOp, L2.tUn, L2.tVar, L2.tVarM, L2.tC, L2.rI, L2.rI0, L2.rU, L2.tAnd, L2.tOr, L2.tNot, L2.tAndV, L2.tNotV, L2.tCallE, L2.tMethE, L2.tMakeE, L2.tCB, L2.tCons, L2.tNil, L2.tChain, L2.tLst, L2.tTup, L2.rIxL, L2.rIxT, L2.rIx2, L2.tFld, L2.sFld, L2.tRaise, L2.rEq, L2.rNe, L2.start, L2.CDiv, L2.CPow, L2.CMul, L2.kn_int, L2.kn_bl, L2.kn_str, L2.cxOf_K, L2.cxOfH_K, L2.rCatS, L2.scal_ii, L2.scal_bb, L2.scal_ss, L2.rIxH, L2.lstO_lst, L2.tupO_tup, L2.upd_same, L2.upd_upd, L2.HO.ins.injEq, L2.tTryAs, L2.rSlL, L2.tSl, L2.tPart, L2.tNoPart, L2.excO_inj, L2.clsV_ref, L2.clsV_ty, L2.tForE, L2.iRng1, L2.iList, L2.tDNewK, L2.tBM, L2.tBM0, L2.rAppend, L2.tComp, L2.tVals, L2.iVals, L2.tYes, Option.join_some, Option.join_none, PySem.sizeLine_eq, Nat.reduceLeDiff, eq_self, decide_eq_true_eq, 
  List.map_cons, List.map_nil, List.length_cons, List.length_nil, List.cons_append, List.nil_append, List.append_nil, List.replicate, Nat.reduceSub, Nat.reduceAdd, List.getElem?_cons_zero, List.getElem?_cons_succ, List.set_cons_zero, List.set_cons_succ,
  Option.some.injEq, List.cons.injEq, L2.V.int.injEq, L2.V.bl.injEq, L2.V.ref.injEq, L2.V.ty.injEq, L2.V.str.injEq, exists_eq_left, exists_eq_left', exists_and_left, exists_eq', exists_const, and_assoc, and_true, true_and, ↓reduceIte, Int.reduceLE, Int.reduceLT, Nat.reducePow, Int.reducePow, Int.reduceNeg, L2.na10, Nat.reduceLT, Int.reduceToNat, Int.reduceAdd, Int.reduceMul, Int.reduceSub, true_or, or_true, decide_true, decide_false])
namespace Pf
open PySem L2
def top (i : Nat) : Stmt := PySem.Challenge.pw_frameland_k41_numbers_given.main.body.getD i (.Pass ⟨0, 0, 0, 0⟩)
abbrev s_is_whole : Stmt := top 9
theorem sc_is_whole : FnScope ["thing"] ["thing"] (defScope s_is_whole) := ⟨rfl, rfl, rfl, by decide +kernel, rfl, by decide +kernel, by decide +kernel⟩
abbrev s_is_within : Stmt := top 10
theorem sc_is_within : FnScope ["thing", "low", "high"] ["thing", "low", "high"] (defScope s_is_within) := ⟨rfl, rfl, rfl, by decide +kernel, rfl, by decide +kernel, by decide +kernel⟩
abbrev s_power_of_two : Stmt := top 18
theorem sc_power_of_two : FnScope ["exponent", "power", "doubling"] ["exponent"] (defScope s_power_of_two) := ⟨rfl, rfl, rfl, by decide +kernel, rfl, by decide +kernel, by decide +kernel⟩
abbrev s_check_measures : Stmt := top 19
theorem sc_check_measures : FnScope ["levels", "fan", "grain"] ["levels", "fan", "grain"] (defScope s_check_measures) := ⟨rfl, rfl, rfl, by decide +kernel, rfl, by decide +kernel, by decide +kernel⟩
abbrev s_Shape_init : Stmt := inClass (top 20) 0
theorem sc_Shape_init : FnScope ["self", "levels", "fan", "grain"] ["self", "levels", "fan", "grain"] (defScope s_Shape_init) := ⟨rfl, rfl, rfl, by decide +kernel, rfl, by decide +kernel, by decide +kernel⟩
abbrev s_Stretches_init : Stmt := inClass (top 12) 0
theorem sc_Stretches_init : FnScope ["self"] ["self"] (defScope s_Stretches_init) := ⟨rfl, rfl, rfl, by decide +kernel, rfl, by decide +kernel, by decide +kernel⟩
abbrev s_Stretches_is_tied : Stmt := inClass (top 12) 9
theorem sc_Stretches_is_tied : FnScope ["self", "bank"] ["self", "bank"] (defScope s_Stretches_is_tied) := ⟨rfl, rfl, rfl, by decide +kernel, rfl, by decide +kernel, by decide +kernel⟩
abbrev s_Stretches_told : Stmt := inClass (top 12) 10
theorem sc_Stretches_told : FnScope ["self"] ["self"] (defScope s_Stretches_told) := ⟨rfl, rfl, rfl, by decide +kernel, rfl, by decide +kernel, by decide +kernel⟩
abbrev s_Stretches_copied : Stmt := inClass (top 12) 11
theorem sc_Stretches_copied : FnScope ["self", "other"] ["self"] (defScope s_Stretches_copied) := ⟨rfl, rfl, rfl, by decide +kernel, rfl, by decide +kernel, by decide +kernel⟩
abbrev s_least_free : Stmt := top 15
theorem sc_least_free : FnScope ["numbers", "number"] ["numbers"] (defScope s_least_free) := ⟨rfl, rfl, rfl, by decide +kernel, rfl, by decide +kernel, by decide +kernel⟩
abbrev s_House_init : Stmt := inClass (top 16) 0
theorem sc_House_init : FnScope ["self", "shape"] ["self", "shape"] (defScope s_House_init) := ⟨rfl, rfl, rfl, by decide +kernel, rfl, by decide +kernel, by decide +kernel⟩
abbrev s_House_new_task : Stmt := inClass (top 16) 1
theorem sc_House_new_task : FnScope ["self", "task"] ["self"] (defScope s_House_new_task) := ⟨rfl, rfl, rfl, by decide +kernel, rfl, by decide +kernel, by decide +kernel⟩
abbrev s_House_fork : Stmt := inClass (top 16) 2
theorem sc_House_fork : FnScope ["self", "task", "other"] ["self", "task"] (defScope s_House_fork) := ⟨rfl, rfl, rfl, by decide +kernel, rfl, by decide +kernel, by decide +kernel⟩
abbrev s_House_end_task : Stmt := inClass (top 16) 3
theorem sc_House_end_task : FnScope ["self", "task"] ["self", "task"] (defScope s_House_end_task) := ⟨rfl, rfl, rfl, by decide +kernel, rfl, by decide +kernel, by decide +kernel⟩
abbrev s_House_new_bank : Stmt := inClass (top 16) 4
theorem sc_House_new_bank : FnScope ["self", "many", "bank"] ["self", "many"] (defScope s_House_new_bank) := ⟨rfl, rfl, rfl, by decide +kernel, rfl, by decide +kernel, by decide +kernel⟩
abbrev s_House_drop_bank : Stmt := inClass (top 16) 5
theorem sc_House_drop_bank : FnScope ["self", "bank"] ["self", "bank"] (defScope s_House_drop_bank) := ⟨rfl, rfl, rfl, by decide +kernel, rfl, by decide +kernel, by decide +kernel⟩
abbrev s_House_task_list : Stmt := inClass (top 16) 10
theorem sc_House_task_list : FnScope ["self"] ["self"] (defScope s_House_task_list) := ⟨rfl, rfl, rfl, by decide +kernel, rfl, by decide +kernel, by decide +kernel⟩
abbrev s_House_bank_list : Stmt := inClass (top 16) 11
theorem sc_House_bank_list : FnScope ["self"] ["self"] (defScope s_House_bank_list) := ⟨rfl, rfl, rfl, by decide +kernel, rfl, by decide +kernel, by decide +kernel⟩
abbrev s_House_bank_size : Stmt := inClass (top 16) 12
theorem sc_House_bank_size : FnScope ["self", "bank"] ["self", "bank"] (defScope s_House_bank_size) := ⟨rfl, rfl, rfl, by decide +kernel, rfl, by decide +kernel, by decide +kernel⟩
abbrev s_House_stretches_of : Stmt := inClass (top 16) 13
theorem sc_House_stretches_of : FnScope ["self", "task"] ["self", "task"] (defScope s_House_stretches_of) := ⟨rfl, rfl, rfl, by decide +kernel, rfl, by decide +kernel, by decide +kernel⟩
abbrev s_House_check_task : Stmt := inClass (top 16) 17
theorem sc_House_check_task : FnScope ["self", "task"] ["self", "task"] (defScope s_House_check_task) := ⟨rfl, rfl, rfl, by decide +kernel, rfl, by decide +kernel, by decide +kernel⟩
abbrev s_House_check_bank : Stmt := inClass (top 16) 18
theorem sc_House_check_bank : FnScope ["self", "bank"] ["self", "bank"] (defScope s_House_check_bank) := ⟨rfl, rfl, rfl, by decide +kernel, rfl, by decide +kernel, by decide +kernel⟩
abbrev s_l_cell_at : Stmt := top 22
theorem sc_l_cell_at : FnScope ["_law_script", "_law_k"] ["_law_script", "_law_k"] (defScope s_l_cell_at) := ⟨rfl, rfl, rfl, by decide +kernel, rfl, by decide +kernel, by decide +kernel⟩
abbrev s_l_like : Stmt := top 23
theorem sc_l_like : FnScope ["_law_found", "_law_due_here", "_law_k"] ["_law_found", "_law_due_here"] (defScope s_l_like) := ⟨rfl, rfl, rfl, by decide +kernel, rfl, by decide +kernel, by decide +kernel⟩
abbrev s_l_least : Stmt := top 24
theorem sc_l_least : FnScope ["_law_numbers", "_law_number_here"] ["_law_numbers"] (defScope s_l_least) := ⟨rfl, rfl, rfl, by decide +kernel, rfl, by decide +kernel, by decide +kernel⟩
abbrev s_l_word : Stmt := top 25
theorem sc_l_word : FnScope ["_law_e", "_law_word_here"] ["_law_e"] (defScope s_l_word) := ⟨rfl, rfl, rfl, by decide +kernel, rfl, by decide +kernel, by decide +kernel⟩
abbrev s_l_say : Stmt := top 26
theorem sc_l_say : FnScope ["_law_house", "_law_kind", "_law_number_here"] ["_law_house", "_law_kind", "_law_number_here"] (defScope s_l_say) := ⟨rfl, rfl, rfl, by decide +kernel, rfl, by decide +kernel, by decide +kernel⟩
abbrev s_l_answer : Stmt := top 27
theorem sc_l_answer : FnScope ["_law_house", "_law_kind", "_law_number_here", "_law_found", "_law_e"] ["_law_house", "_law_kind", "_law_number_here"] (defScope s_l_answer) := ⟨rfl, rfl, rfl, by decide +kernel, rfl, by decide +kernel, by decide +kernel⟩
abbrev s_l_number : Stmt := top 28
theorem sc_l_number : FnScope ["_law_numbers", "_law_cell", "_law_more"] ["_law_numbers", "_law_cell"] (defScope s_l_number) := ⟨rfl, rfl, rfl, by decide +kernel, rfl, by decide +kernel, by decide +kernel⟩
abbrev s_l_size : Stmt := top 29
theorem sc_l_size : FnScope ["_law_cell", "_law_more"] ["_law_cell"] (defScope s_l_size) := ⟨rfl, rfl, rfl, by decide +kernel, rfl, by decide +kernel, by decide +kernel⟩
abbrev s_l_due : Stmt := top 30
theorem sc_l_due : FnScope ["_law_tasks", "_law_banks", "_law_kind", "_law_number_here", "_law_task", "_law_bank"] ["_law_tasks", "_law_banks", "_law_kind", "_law_number_here"] (defScope s_l_due) := ⟨rfl, rfl, rfl, by decide +kernel, rfl, by decide +kernel, by decide +kernel⟩
abbrev s_l_asked_one : Stmt := top 31
theorem sc_l_asked_one : FnScope ["_law_house", "_law_tasks", "_law_banks", "_law_kind", "_law_number_here", "_law_found", "_law_e"] ["_law_house", "_law_tasks", "_law_banks", "_law_kind", "_law_number_here"] (defScope s_l_asked_one) := ⟨rfl, rfl, rfl, by decide +kernel, rfl, by decide +kernel, by decide +kernel⟩
abbrev s_law : Stmt := top 32
theorem sc_law : FnScope ["_law_script", "_law_house", "_law_beside", "_law_tasks", "_law_banks", "_law_cell", "_law_kind", "_law_more", "_law_number_here", "_law_k", "_law_some"] ["_law_script"] (defScope s_law) := ⟨rfl, rfl, rfl, by decide +kernel, rfl, by decide +kernel, by decide +kernel⟩
structure Adr where
  C_Stretches : Addr
  C_House : Addr
  C_Shape : Addr
  C_FrameError : Addr
  C_NoShape : Addr
  C_Busy : Addr
  C_NoTask : Addr
  C_NoBank : Addr
  C_OutOfBank : Addr
/-- what the top has made -/
structure Txt (K : PySem.W.Frag) (mg : Str → Option Value) (A : Adr) : Prop where
  b_any : mg "any" = none
  b_bool : mg "bool" = none
  b_int : mg "int" = none
  b_isinstance : mg "isinstance" = none
  b_len : mg "len" = none
  b_list : mg "list" = none
  b_range : mg "range" = none
  b_sorted : mg "sorted" = none
  b_str : mg "str" = none
  b_tuple : mg "tuple" = none
  c_MOST_IN_BANK : ∃ u, mg "MOST_IN_BANK" = some u ∧ RelV (.int 64) u
  r_is_whole : Raw K mg "is_whole" "is_whole" s_is_whole ["thing"] []
  r_is_within : Raw K mg "is_within" "is_within" s_is_within ["thing", "low", "high"] []
  r_power_of_two : Raw K mg "power_of_two" "power_of_two" s_power_of_two ["exponent"] []
  r_check_measures : Raw K mg "check_measures" "check_measures" s_check_measures ["levels", "fan", "grain"] []
  r_least_free : Raw K mg "least_free" "least_free" s_least_free ["numbers"] []
  r_l_cell_at : Raw K mg "_law_cell_at" "_law_cell_at" s_l_cell_at ["_law_script", "_law_k"] []
  r_l_like : Raw K mg "_law_like" "_law_like" s_l_like ["_law_found", "_law_due_here"] []
  r_l_least : Raw K mg "_law_least" "_law_least" s_l_least ["_law_numbers"] []
  r_l_word : Raw K mg "_law_word" "_law_word" s_l_word ["_law_e"] []
  r_l_say : Raw K mg "_law_say" "_law_say" s_l_say ["_law_house", "_law_kind", "_law_number_here"] []
  r_l_answer : Raw K mg "_law_answer" "_law_answer" s_l_answer ["_law_house", "_law_kind", "_law_number_here"] []
  r_l_number : Raw K mg "_law_number" "_law_number" s_l_number ["_law_numbers", "_law_cell"] []
  r_l_size : Raw K mg "_law_size" "_law_size" s_l_size ["_law_cell"] []
  r_l_due : Raw K mg "_law_due" "_law_due" s_l_due ["_law_tasks", "_law_banks", "_law_kind", "_law_number_here"] []
  r_l_asked_one : Raw K mg "_law_asked_one" "_law_asked_one" s_l_asked_one ["_law_house", "_law_tasks", "_law_banks", "_law_kind", "_law_number_here"] []
  cl_Stretches : Cls K A.C_Stretches
  na_Stretches_runs : NoAttr K A.C_Stretches "runs"
  r_Stretches_init : RawI K mg "Stretches" A.C_Stretches "Stretches.__init__" s_Stretches_init ["self"] []
  r_Stretches_is_tied : RawM K A.C_Stretches "is_tied" "Stretches.is_tied" s_Stretches_is_tied ["self", "bank"] []
  r_Stretches_told : RawM K A.C_Stretches "told" "Stretches.told" s_Stretches_told ["self"] []
  r_Stretches_copied : RawM K A.C_Stretches "copied" "Stretches.copied" s_Stretches_copied ["self"] []
  cl_House : Cls K A.C_House
  na_House_shape : NoAttr K A.C_House "shape"
  na_House_tasks : NoAttr K A.C_House "tasks"
  na_House_banks : NoAttr K A.C_House "banks"
  r_House_init : RawI K mg "House" A.C_House "House.__init__" s_House_init ["self", "shape"] []
  r_House_new_task : RawM K A.C_House "new_task" "House.new_task" s_House_new_task ["self"] []
  r_House_fork : RawM K A.C_House "fork" "House.fork" s_House_fork ["self", "task"] []
  r_House_end_task : RawM K A.C_House "end_task" "House.end_task" s_House_end_task ["self", "task"] []
  r_House_new_bank : RawM K A.C_House "new_bank" "House.new_bank" s_House_new_bank ["self", "many"] []
  r_House_drop_bank : RawM K A.C_House "drop_bank" "House.drop_bank" s_House_drop_bank ["self", "bank"] []
  r_House_task_list : RawM K A.C_House "task_list" "House.task_list" s_House_task_list ["self"] []
  r_House_bank_list : RawM K A.C_House "bank_list" "House.bank_list" s_House_bank_list ["self"] []
  r_House_bank_size : RawM K A.C_House "bank_size" "House.bank_size" s_House_bank_size ["self", "bank"] []
  r_House_stretches_of : RawM K A.C_House "stretches_of" "House.stretches_of" s_House_stretches_of ["self", "task"] []
  r_House_check_task : RawM K A.C_House "check_task" "House.check_task" s_House_check_task ["self", "task"] []
  r_House_check_bank : RawM K A.C_House "check_bank" "House.check_bank" s_House_check_bank ["self", "bank"] []
  cl_Shape : Cls K A.C_Shape
  na_Shape_levels : NoAttr K A.C_Shape "levels"
  na_Shape_fan : NoAttr K A.C_Shape "fan"
  na_Shape_grain : NoAttr K A.C_Shape "grain"
  na_Shape_ways : NoAttr K A.C_Shape "ways"
  na_Shape_boxes : NoAttr K A.C_Shape "boxes"
  na_Shape_pages : NoAttr K A.C_Shape "pages"
  r_Shape_init : RawI K mg "Shape" A.C_Shape "Shape.__init__" s_Shape_init ["self", "levels", "fan", "grain"] []
  m_FrameError : ∃ u, mg "FrameError" = some u ∧ RelV (.ref A.C_FrameError) u
  h_FrameError : XH K mg "FrameError" A.C_FrameError
  m_NoShape : ∃ u, mg "NoShape" = some u ∧ RelV (.ref A.C_NoShape) u
  x_NoShape : XC K mg "NoShape" A.C_NoShape
  m_Busy : ∃ u, mg "Busy" = some u ∧ RelV (.ref A.C_Busy) u
  x_Busy : XC K mg "Busy" A.C_Busy
  m_NoTask : ∃ u, mg "NoTask" = some u ∧ RelV (.ref A.C_NoTask) u
  x_NoTask : XC K mg "NoTask" A.C_NoTask
  xi_NoTask : XI K A.C_NoTask
  m_NoBank : ∃ u, mg "NoBank" = some u ∧ RelV (.ref A.C_NoBank) u
  x_NoBank : XC K mg "NoBank" A.C_NoBank
  xi_NoBank : XI K A.C_NoBank
  m_OutOfBank : ∃ u, mg "OutOfBank" = some u ∧ RelV (.ref A.C_OutOfBank) u
  x_OutOfBank : XC K mg "OutOfBank" A.C_OutOfBank
  xi_OutOfBank : XI K A.C_OutOfBank
  sub_NoTask_FrameError : XSub K A.C_NoTask A.C_FrameError
  sub_NoBank_FrameError : XSub K A.C_NoBank A.C_FrameError
  sub_OutOfBank_FrameError : XSub K A.C_OutOfBank A.C_FrameError
  kit_NoTask_NoTask : PySem.W.kitOne K (.ref A.C_NoTask) (.ref A.C_NoTask) = some true
  kit_NoTask_NoBank : PySem.W.kitOne K (.ref A.C_NoTask) (.ref A.C_NoBank) = some false
  kit_NoTask_OutOfBank : PySem.W.kitOne K (.ref A.C_NoTask) (.ref A.C_OutOfBank) = some false
  kit_NoBank_NoTask : PySem.W.kitOne K (.ref A.C_NoBank) (.ref A.C_NoTask) = some false
  kit_NoBank_NoBank : PySem.W.kitOne K (.ref A.C_NoBank) (.ref A.C_NoBank) = some true
  kit_NoBank_OutOfBank : PySem.W.kitOne K (.ref A.C_NoBank) (.ref A.C_OutOfBank) = some false
  kit_OutOfBank_NoTask : PySem.W.kitOne K (.ref A.C_OutOfBank) (.ref A.C_NoTask) = some false
  kit_OutOfBank_NoBank : PySem.W.kitOne K (.ref A.C_OutOfBank) (.ref A.C_NoBank) = some false
  kit_OutOfBank_OutOfBank : PySem.W.kitOne K (.ref A.C_OutOfBank) (.ref A.C_OutOfBank) = some true
  r_law : ∃ f fd, mg "law" = some (.ref f) ∧ Fun K "law" "law" s_law f fd ∧ ∀ (s : Shared) (u : Value), BindsTo s fd ⟨[u], []⟩ [("_law_script", u)]
theorem el1 {P : List Value → Prop} (h : ∀ a0, P [a0]) : ∀ us : List Value, us.length = 1 → P us
  | [a0], _ => h a0
theorem el2 {P : List Value → Prop} (h : ∀ a0 a1, P [a0, a1]) : ∀ us : List Value, us.length = 2 → P us
  | [a0, a1], _ => h a0 a1
theorem el3 {P : List Value → Prop} (h : ∀ a0 a1 a2, P [a0, a1, a2]) : ∀ us : List Value, us.length = 3 → P us
  | [a0, a1, a2], _ => h a0 a1 a2
theorem el4 {P : List Value → Prop} (h : ∀ a0 a1 a2 a3, P [a0, a1, a2, a3]) : ∀ us : List Value, us.length = 4 → P us
  | [a0, a1, a2, a3], _ => h a0 a1 a2 a3
theorem el5 {P : List Value → Prop} (h : ∀ a0 a1 a2 a3 a4, P [a0, a1, a2, a3, a4]) : ∀ us : List Value, us.length = 5 → P us
  | [a0, a1, a2, a3, a4], _ => h a0 a1 a2 a3 a4
theorem txt_mk {K : PySem.W.Frag} {h : Heap} {mg : Str → Option Value} (X : K.In h) (G : h.Ns mainGlobals mg)
    {C_OutOfBank : Addr}
    {C_NoBank : Addr}
    {C_NoTask : Addr}
    {C_Busy : Addr}
    {C_NoShape : Addr}
    {C_FrameError : Addr}
    {C_Shape : Addr}
    {C_House : Addr}
    {C_Stretches : Addr}
    {t_MOST_IN_BANK : Tok}
    {f_is_whole : Addr} {od_is_whole an_is_whole : Option Addr} {sl_is_whole : Array (Option Value)} {oc_is_whole kV_is_whole dc_is_whole pm_is_whole cd_is_whole ct_is_whole : Value}
    {f_is_within : Addr} {od_is_within an_is_within : Option Addr} {sl_is_within : Array (Option Value)} {oc_is_within kV_is_within dc_is_within pm_is_within cd_is_within ct_is_within : Value}
    {f_power_of_two : Addr} {od_power_of_two an_power_of_two : Option Addr} {sl_power_of_two : Array (Option Value)} {oc_power_of_two kV_power_of_two dc_power_of_two pm_power_of_two cd_power_of_two ct_power_of_two : Value}
    {f_check_measures : Addr} {od_check_measures an_check_measures : Option Addr} {sl_check_measures : Array (Option Value)} {oc_check_measures kV_check_measures dc_check_measures pm_check_measures cd_check_measures ct_check_measures : Value}
    {f_least_free : Addr} {od_least_free an_least_free : Option Addr} {sl_least_free : Array (Option Value)} {oc_least_free kV_least_free dc_least_free pm_least_free cd_least_free ct_least_free : Value}
    {f_l_cell_at : Addr} {od_l_cell_at an_l_cell_at : Option Addr} {sl_l_cell_at : Array (Option Value)} {oc_l_cell_at kV_l_cell_at dc_l_cell_at pm_l_cell_at cd_l_cell_at ct_l_cell_at : Value}
    {f_l_like : Addr} {od_l_like an_l_like : Option Addr} {sl_l_like : Array (Option Value)} {oc_l_like kV_l_like dc_l_like pm_l_like cd_l_like ct_l_like : Value}
    {f_l_least : Addr} {od_l_least an_l_least : Option Addr} {sl_l_least : Array (Option Value)} {oc_l_least kV_l_least dc_l_least pm_l_least cd_l_least ct_l_least : Value}
    {f_l_word : Addr} {od_l_word an_l_word : Option Addr} {sl_l_word : Array (Option Value)} {oc_l_word kV_l_word dc_l_word pm_l_word cd_l_word ct_l_word : Value}
    {f_l_say : Addr} {od_l_say an_l_say : Option Addr} {sl_l_say : Array (Option Value)} {oc_l_say kV_l_say dc_l_say pm_l_say cd_l_say ct_l_say : Value}
    {f_l_answer : Addr} {od_l_answer an_l_answer : Option Addr} {sl_l_answer : Array (Option Value)} {oc_l_answer kV_l_answer dc_l_answer pm_l_answer cd_l_answer ct_l_answer : Value}
    {f_l_number : Addr} {od_l_number an_l_number : Option Addr} {sl_l_number : Array (Option Value)} {oc_l_number kV_l_number dc_l_number pm_l_number cd_l_number ct_l_number : Value}
    {f_l_size : Addr} {od_l_size an_l_size : Option Addr} {sl_l_size : Array (Option Value)} {oc_l_size kV_l_size dc_l_size pm_l_size cd_l_size ct_l_size : Value}
    {f_l_due : Addr} {od_l_due an_l_due : Option Addr} {sl_l_due : Array (Option Value)} {oc_l_due kV_l_due dc_l_due pm_l_due cd_l_due ct_l_due : Value}
    {f_l_asked_one : Addr} {od_l_asked_one an_l_asked_one : Option Addr} {sl_l_asked_one : Array (Option Value)} {oc_l_asked_one kV_l_asked_one dc_l_asked_one pm_l_asked_one cd_l_asked_one ct_l_asked_one : Value}
    {f_Stretches_init : Addr} {od_Stretches_init an_Stretches_init : Option Addr} {sl_Stretches_init : Array (Option Value)} {oc_Stretches_init kV_Stretches_init dc_Stretches_init pm_Stretches_init cd_Stretches_init ct_Stretches_init : Value}
    {f_Stretches_is_tied : Addr} {od_Stretches_is_tied an_Stretches_is_tied : Option Addr} {sl_Stretches_is_tied : Array (Option Value)} {oc_Stretches_is_tied kV_Stretches_is_tied dc_Stretches_is_tied pm_Stretches_is_tied cd_Stretches_is_tied ct_Stretches_is_tied : Value}
    {f_Stretches_told : Addr} {od_Stretches_told an_Stretches_told : Option Addr} {sl_Stretches_told : Array (Option Value)} {oc_Stretches_told kV_Stretches_told dc_Stretches_told pm_Stretches_told cd_Stretches_told ct_Stretches_told : Value}
    {f_Stretches_copied : Addr} {od_Stretches_copied an_Stretches_copied : Option Addr} {sl_Stretches_copied : Array (Option Value)} {oc_Stretches_copied kV_Stretches_copied dc_Stretches_copied pm_Stretches_copied cd_Stretches_copied ct_Stretches_copied : Value}
    {f_House_init : Addr} {od_House_init an_House_init : Option Addr} {sl_House_init : Array (Option Value)} {oc_House_init kV_House_init dc_House_init pm_House_init cd_House_init ct_House_init : Value}
    {f_House_new_task : Addr} {od_House_new_task an_House_new_task : Option Addr} {sl_House_new_task : Array (Option Value)} {oc_House_new_task kV_House_new_task dc_House_new_task pm_House_new_task cd_House_new_task ct_House_new_task : Value}
    {f_House_fork : Addr} {od_House_fork an_House_fork : Option Addr} {sl_House_fork : Array (Option Value)} {oc_House_fork kV_House_fork dc_House_fork pm_House_fork cd_House_fork ct_House_fork : Value}
    {f_House_end_task : Addr} {od_House_end_task an_House_end_task : Option Addr} {sl_House_end_task : Array (Option Value)} {oc_House_end_task kV_House_end_task dc_House_end_task pm_House_end_task cd_House_end_task ct_House_end_task : Value}
    {f_House_new_bank : Addr} {od_House_new_bank an_House_new_bank : Option Addr} {sl_House_new_bank : Array (Option Value)} {oc_House_new_bank kV_House_new_bank dc_House_new_bank pm_House_new_bank cd_House_new_bank ct_House_new_bank : Value}
    {f_House_drop_bank : Addr} {od_House_drop_bank an_House_drop_bank : Option Addr} {sl_House_drop_bank : Array (Option Value)} {oc_House_drop_bank kV_House_drop_bank dc_House_drop_bank pm_House_drop_bank cd_House_drop_bank ct_House_drop_bank : Value}
    {f_House_task_list : Addr} {od_House_task_list an_House_task_list : Option Addr} {sl_House_task_list : Array (Option Value)} {oc_House_task_list kV_House_task_list dc_House_task_list pm_House_task_list cd_House_task_list ct_House_task_list : Value}
    {f_House_bank_list : Addr} {od_House_bank_list an_House_bank_list : Option Addr} {sl_House_bank_list : Array (Option Value)} {oc_House_bank_list kV_House_bank_list dc_House_bank_list pm_House_bank_list cd_House_bank_list ct_House_bank_list : Value}
    {f_House_bank_size : Addr} {od_House_bank_size an_House_bank_size : Option Addr} {sl_House_bank_size : Array (Option Value)} {oc_House_bank_size kV_House_bank_size dc_House_bank_size pm_House_bank_size cd_House_bank_size ct_House_bank_size : Value}
    {f_House_stretches_of : Addr} {od_House_stretches_of an_House_stretches_of : Option Addr} {sl_House_stretches_of : Array (Option Value)} {oc_House_stretches_of kV_House_stretches_of dc_House_stretches_of pm_House_stretches_of cd_House_stretches_of ct_House_stretches_of : Value}
    {f_House_check_task : Addr} {od_House_check_task an_House_check_task : Option Addr} {sl_House_check_task : Array (Option Value)} {oc_House_check_task kV_House_check_task dc_House_check_task pm_House_check_task cd_House_check_task ct_House_check_task : Value}
    {f_House_check_bank : Addr} {od_House_check_bank an_House_check_bank : Option Addr} {sl_House_check_bank : Array (Option Value)} {oc_House_check_bank kV_House_check_bank dc_House_check_bank pm_House_check_bank cd_House_check_bank ct_House_check_bank : Value}
    {f_Shape_init : Addr} {od_Shape_init an_Shape_init : Option Addr} {sl_Shape_init : Array (Option Value)} {oc_Shape_init kV_Shape_init dc_Shape_init pm_Shape_init cd_Shape_init ct_Shape_init : Value}
    {cd_FrameError : ClassData}
    {f_law : Addr} {od_law an_law : Option Addr} {sl_law : Array (Option Value)} {oc_law kV_law dc_law pm_law cd_law ct_law : Value}
    (a_OutOfBank : PySem.W.nsIn K mainGlobals "OutOfBank" = some (some (.ref C_OutOfBank)))
    (a_NoBank : PySem.W.nsIn K mainGlobals "NoBank" = some (some (.ref C_NoBank)))
    (a_NoTask : PySem.W.nsIn K mainGlobals "NoTask" = some (some (.ref C_NoTask)))
    (a_Busy : PySem.W.nsIn K mainGlobals "Busy" = some (some (.ref C_Busy)))
    (a_NoShape : PySem.W.nsIn K mainGlobals "NoShape" = some (some (.ref C_NoShape)))
    (a_FrameError : PySem.W.nsIn K mainGlobals "FrameError" = some (some (.ref C_FrameError)))
    (a_Shape : PySem.W.nsIn K mainGlobals "Shape" = some (some (.ref C_Shape)))
    (a_House : PySem.W.nsIn K mainGlobals "House" = some (some (.ref C_House)))
    (a_Stretches : PySem.W.nsIn K mainGlobals "Stretches" = some (some (.ref C_Stretches)))
    (zb_any : PySem.W.nsIn K mainGlobals "any" = some none)
    (zb_bool : PySem.W.nsIn K mainGlobals "bool" = some none)
    (zb_int : PySem.W.nsIn K mainGlobals "int" = some none)
    (zb_isinstance : PySem.W.nsIn K mainGlobals "isinstance" = some none)
    (zb_len : PySem.W.nsIn K mainGlobals "len" = some none)
    (zb_list : PySem.W.nsIn K mainGlobals "list" = some none)
    (zb_range : PySem.W.nsIn K mainGlobals "range" = some none)
    (zb_sorted : PySem.W.nsIn K mainGlobals "sorted" = some none)
    (zb_str : PySem.W.nsIn K mainGlobals "str" = some none)
    (zb_tuple : PySem.W.nsIn K mainGlobals "tuple" = some none)
    (zc_MOST_IN_BANK : PySem.W.nsIn K mainGlobals "MOST_IN_BANK" = some (some (.int 64 t_MOST_IN_BANK)))
    (a_is_whole_ : PySem.W.nsIn K mainGlobals "is_whole" = some (some (.ref f_is_whole)))
    (l_is_whole_ : K.lookup f_is_whole = some ⟨oc_is_whole, od_is_whole, .func (PySem.W.fnOf "is_whole" "is_whole" (defArgs s_is_whole) (defBody s_is_whole) (defScope s_is_whole) .none kV_is_whole dc_is_whole pm_is_whole an_is_whole cd_is_whole ct_is_whole), sl_is_whole⟩)
    (c_is_whole_ : PySem.W.codeIn K cd_is_whole "is_whole" = true)
    (k_is_whole_ : PySem.W.keepIn K (.ref f_is_whole) = true)
    (a_is_within_ : PySem.W.nsIn K mainGlobals "is_within" = some (some (.ref f_is_within)))
    (l_is_within_ : K.lookup f_is_within = some ⟨oc_is_within, od_is_within, .func (PySem.W.fnOf "is_within" "is_within" (defArgs s_is_within) (defBody s_is_within) (defScope s_is_within) .none kV_is_within dc_is_within pm_is_within an_is_within cd_is_within ct_is_within), sl_is_within⟩)
    (c_is_within_ : PySem.W.codeIn K cd_is_within "is_within" = true)
    (k_is_within_ : PySem.W.keepIn K (.ref f_is_within) = true)
    (a_power_of_two_ : PySem.W.nsIn K mainGlobals "power_of_two" = some (some (.ref f_power_of_two)))
    (l_power_of_two_ : K.lookup f_power_of_two = some ⟨oc_power_of_two, od_power_of_two, .func (PySem.W.fnOf "power_of_two" "power_of_two" (defArgs s_power_of_two) (defBody s_power_of_two) (defScope s_power_of_two) .none kV_power_of_two dc_power_of_two pm_power_of_two an_power_of_two cd_power_of_two ct_power_of_two), sl_power_of_two⟩)
    (c_power_of_two_ : PySem.W.codeIn K cd_power_of_two "power_of_two" = true)
    (k_power_of_two_ : PySem.W.keepIn K (.ref f_power_of_two) = true)
    (a_check_measures_ : PySem.W.nsIn K mainGlobals "check_measures" = some (some (.ref f_check_measures)))
    (l_check_measures_ : K.lookup f_check_measures = some ⟨oc_check_measures, od_check_measures, .func (PySem.W.fnOf "check_measures" "check_measures" (defArgs s_check_measures) (defBody s_check_measures) (defScope s_check_measures) .none kV_check_measures dc_check_measures pm_check_measures an_check_measures cd_check_measures ct_check_measures), sl_check_measures⟩)
    (c_check_measures_ : PySem.W.codeIn K cd_check_measures "check_measures" = true)
    (k_check_measures_ : PySem.W.keepIn K (.ref f_check_measures) = true)
    (a_least_free_ : PySem.W.nsIn K mainGlobals "least_free" = some (some (.ref f_least_free)))
    (l_least_free_ : K.lookup f_least_free = some ⟨oc_least_free, od_least_free, .func (PySem.W.fnOf "least_free" "least_free" (defArgs s_least_free) (defBody s_least_free) (defScope s_least_free) .none kV_least_free dc_least_free pm_least_free an_least_free cd_least_free ct_least_free), sl_least_free⟩)
    (c_least_free_ : PySem.W.codeIn K cd_least_free "least_free" = true)
    (k_least_free_ : PySem.W.keepIn K (.ref f_least_free) = true)
    (a_l_cell_at_ : PySem.W.nsIn K mainGlobals "_law_cell_at" = some (some (.ref f_l_cell_at)))
    (l_l_cell_at_ : K.lookup f_l_cell_at = some ⟨oc_l_cell_at, od_l_cell_at, .func (PySem.W.fnOf "_law_cell_at" "_law_cell_at" (defArgs s_l_cell_at) (defBody s_l_cell_at) (defScope s_l_cell_at) .none kV_l_cell_at dc_l_cell_at pm_l_cell_at an_l_cell_at cd_l_cell_at ct_l_cell_at), sl_l_cell_at⟩)
    (c_l_cell_at_ : PySem.W.codeIn K cd_l_cell_at "_law_cell_at" = true)
    (k_l_cell_at_ : PySem.W.keepIn K (.ref f_l_cell_at) = true)
    (a_l_like_ : PySem.W.nsIn K mainGlobals "_law_like" = some (some (.ref f_l_like)))
    (l_l_like_ : K.lookup f_l_like = some ⟨oc_l_like, od_l_like, .func (PySem.W.fnOf "_law_like" "_law_like" (defArgs s_l_like) (defBody s_l_like) (defScope s_l_like) .none kV_l_like dc_l_like pm_l_like an_l_like cd_l_like ct_l_like), sl_l_like⟩)
    (c_l_like_ : PySem.W.codeIn K cd_l_like "_law_like" = true)
    (k_l_like_ : PySem.W.keepIn K (.ref f_l_like) = true)
    (a_l_least_ : PySem.W.nsIn K mainGlobals "_law_least" = some (some (.ref f_l_least)))
    (l_l_least_ : K.lookup f_l_least = some ⟨oc_l_least, od_l_least, .func (PySem.W.fnOf "_law_least" "_law_least" (defArgs s_l_least) (defBody s_l_least) (defScope s_l_least) .none kV_l_least dc_l_least pm_l_least an_l_least cd_l_least ct_l_least), sl_l_least⟩)
    (c_l_least_ : PySem.W.codeIn K cd_l_least "_law_least" = true)
    (k_l_least_ : PySem.W.keepIn K (.ref f_l_least) = true)
    (a_l_word_ : PySem.W.nsIn K mainGlobals "_law_word" = some (some (.ref f_l_word)))
    (l_l_word_ : K.lookup f_l_word = some ⟨oc_l_word, od_l_word, .func (PySem.W.fnOf "_law_word" "_law_word" (defArgs s_l_word) (defBody s_l_word) (defScope s_l_word) .none kV_l_word dc_l_word pm_l_word an_l_word cd_l_word ct_l_word), sl_l_word⟩)
    (c_l_word_ : PySem.W.codeIn K cd_l_word "_law_word" = true)
    (k_l_word_ : PySem.W.keepIn K (.ref f_l_word) = true)
    (a_l_say_ : PySem.W.nsIn K mainGlobals "_law_say" = some (some (.ref f_l_say)))
    (l_l_say_ : K.lookup f_l_say = some ⟨oc_l_say, od_l_say, .func (PySem.W.fnOf "_law_say" "_law_say" (defArgs s_l_say) (defBody s_l_say) (defScope s_l_say) .none kV_l_say dc_l_say pm_l_say an_l_say cd_l_say ct_l_say), sl_l_say⟩)
    (c_l_say_ : PySem.W.codeIn K cd_l_say "_law_say" = true)
    (k_l_say_ : PySem.W.keepIn K (.ref f_l_say) = true)
    (a_l_answer_ : PySem.W.nsIn K mainGlobals "_law_answer" = some (some (.ref f_l_answer)))
    (l_l_answer_ : K.lookup f_l_answer = some ⟨oc_l_answer, od_l_answer, .func (PySem.W.fnOf "_law_answer" "_law_answer" (defArgs s_l_answer) (defBody s_l_answer) (defScope s_l_answer) .none kV_l_answer dc_l_answer pm_l_answer an_l_answer cd_l_answer ct_l_answer), sl_l_answer⟩)
    (c_l_answer_ : PySem.W.codeIn K cd_l_answer "_law_answer" = true)
    (k_l_answer_ : PySem.W.keepIn K (.ref f_l_answer) = true)
    (a_l_number_ : PySem.W.nsIn K mainGlobals "_law_number" = some (some (.ref f_l_number)))
    (l_l_number_ : K.lookup f_l_number = some ⟨oc_l_number, od_l_number, .func (PySem.W.fnOf "_law_number" "_law_number" (defArgs s_l_number) (defBody s_l_number) (defScope s_l_number) .none kV_l_number dc_l_number pm_l_number an_l_number cd_l_number ct_l_number), sl_l_number⟩)
    (c_l_number_ : PySem.W.codeIn K cd_l_number "_law_number" = true)
    (k_l_number_ : PySem.W.keepIn K (.ref f_l_number) = true)
    (a_l_size_ : PySem.W.nsIn K mainGlobals "_law_size" = some (some (.ref f_l_size)))
    (l_l_size_ : K.lookup f_l_size = some ⟨oc_l_size, od_l_size, .func (PySem.W.fnOf "_law_size" "_law_size" (defArgs s_l_size) (defBody s_l_size) (defScope s_l_size) .none kV_l_size dc_l_size pm_l_size an_l_size cd_l_size ct_l_size), sl_l_size⟩)
    (c_l_size_ : PySem.W.codeIn K cd_l_size "_law_size" = true)
    (k_l_size_ : PySem.W.keepIn K (.ref f_l_size) = true)
    (a_l_due_ : PySem.W.nsIn K mainGlobals "_law_due" = some (some (.ref f_l_due)))
    (l_l_due_ : K.lookup f_l_due = some ⟨oc_l_due, od_l_due, .func (PySem.W.fnOf "_law_due" "_law_due" (defArgs s_l_due) (defBody s_l_due) (defScope s_l_due) .none kV_l_due dc_l_due pm_l_due an_l_due cd_l_due ct_l_due), sl_l_due⟩)
    (c_l_due_ : PySem.W.codeIn K cd_l_due "_law_due" = true)
    (k_l_due_ : PySem.W.keepIn K (.ref f_l_due) = true)
    (a_l_asked_one_ : PySem.W.nsIn K mainGlobals "_law_asked_one" = some (some (.ref f_l_asked_one)))
    (l_l_asked_one_ : K.lookup f_l_asked_one = some ⟨oc_l_asked_one, od_l_asked_one, .func (PySem.W.fnOf "_law_asked_one" "_law_asked_one" (defArgs s_l_asked_one) (defBody s_l_asked_one) (defScope s_l_asked_one) .none kV_l_asked_one dc_l_asked_one pm_l_asked_one an_l_asked_one cd_l_asked_one ct_l_asked_one), sl_l_asked_one⟩)
    (c_l_asked_one_ : PySem.W.codeIn K cd_l_asked_one "_law_asked_one" = true)
    (k_l_asked_one_ : PySem.W.keepIn K (.ref f_l_asked_one) = true)
    (pg_Stretches : PySem.W.plainGet K C_Stretches Str.empty = true)
    (hd_Stretches : PySem.W.hasDictIn K C_Stretches = true)
    (po_Stretches : PySem.W.plainOver K C_Stretches = true)
    (sa_Stretches : PySem.W.findIn K (.ref C_Stretches) "__setattr__" = some (some (.builtin "object.__setattr__")))
    (zn_Stretches_runs : PySem.W.findIn K (.ref C_Stretches) "runs" = some none)
    (mk_Stretches : PySem.W.makesIn K C_Stretches = true)
    (kc_Stretches : PySem.W.keepIn K (.ref C_Stretches) = true)
    (a_Stretches_init_ : PySem.W.findIn K (.ref C_Stretches) "__init__" = some (some (.ref f_Stretches_init)))
    (i_Stretches_init_ : PySem.W.isFn K (.ref f_Stretches_init) = true)
    (l_Stretches_init_ : K.lookup f_Stretches_init = some ⟨oc_Stretches_init, od_Stretches_init, .func (PySem.W.fnOf "__init__" "Stretches.__init__" (defArgs s_Stretches_init) (defBody s_Stretches_init) (defScope s_Stretches_init) .none kV_Stretches_init dc_Stretches_init pm_Stretches_init an_Stretches_init cd_Stretches_init ct_Stretches_init), sl_Stretches_init⟩)
    (c_Stretches_init_ : PySem.W.codeIn K cd_Stretches_init "Stretches.__init__" = true)
    (k_Stretches_init_ : PySem.W.keepIn K (.ref f_Stretches_init) = true)
    (a_Stretches_is_tied_ : PySem.W.findIn K (.ref C_Stretches) "is_tied" = some (some (.ref f_Stretches_is_tied)))
    (i_Stretches_is_tied_ : PySem.W.isFn K (.ref f_Stretches_is_tied) = true)
    (l_Stretches_is_tied_ : K.lookup f_Stretches_is_tied = some ⟨oc_Stretches_is_tied, od_Stretches_is_tied, .func (PySem.W.fnOf "is_tied" "Stretches.is_tied" (defArgs s_Stretches_is_tied) (defBody s_Stretches_is_tied) (defScope s_Stretches_is_tied) .none kV_Stretches_is_tied dc_Stretches_is_tied pm_Stretches_is_tied an_Stretches_is_tied cd_Stretches_is_tied ct_Stretches_is_tied), sl_Stretches_is_tied⟩)
    (c_Stretches_is_tied_ : PySem.W.codeIn K cd_Stretches_is_tied "Stretches.is_tied" = true)
    (k_Stretches_is_tied_ : PySem.W.keepIn K (.ref f_Stretches_is_tied) = true)
    (a_Stretches_told_ : PySem.W.findIn K (.ref C_Stretches) "told" = some (some (.ref f_Stretches_told)))
    (i_Stretches_told_ : PySem.W.isFn K (.ref f_Stretches_told) = true)
    (l_Stretches_told_ : K.lookup f_Stretches_told = some ⟨oc_Stretches_told, od_Stretches_told, .func (PySem.W.fnOf "told" "Stretches.told" (defArgs s_Stretches_told) (defBody s_Stretches_told) (defScope s_Stretches_told) .none kV_Stretches_told dc_Stretches_told pm_Stretches_told an_Stretches_told cd_Stretches_told ct_Stretches_told), sl_Stretches_told⟩)
    (c_Stretches_told_ : PySem.W.codeIn K cd_Stretches_told "Stretches.told" = true)
    (k_Stretches_told_ : PySem.W.keepIn K (.ref f_Stretches_told) = true)
    (a_Stretches_copied_ : PySem.W.findIn K (.ref C_Stretches) "copied" = some (some (.ref f_Stretches_copied)))
    (i_Stretches_copied_ : PySem.W.isFn K (.ref f_Stretches_copied) = true)
    (l_Stretches_copied_ : K.lookup f_Stretches_copied = some ⟨oc_Stretches_copied, od_Stretches_copied, .func (PySem.W.fnOf "copied" "Stretches.copied" (defArgs s_Stretches_copied) (defBody s_Stretches_copied) (defScope s_Stretches_copied) .none kV_Stretches_copied dc_Stretches_copied pm_Stretches_copied an_Stretches_copied cd_Stretches_copied ct_Stretches_copied), sl_Stretches_copied⟩)
    (c_Stretches_copied_ : PySem.W.codeIn K cd_Stretches_copied "Stretches.copied" = true)
    (k_Stretches_copied_ : PySem.W.keepIn K (.ref f_Stretches_copied) = true)
    (pg_House : PySem.W.plainGet K C_House Str.empty = true)
    (hd_House : PySem.W.hasDictIn K C_House = true)
    (po_House : PySem.W.plainOver K C_House = true)
    (sa_House : PySem.W.findIn K (.ref C_House) "__setattr__" = some (some (.builtin "object.__setattr__")))
    (zn_House_shape : PySem.W.findIn K (.ref C_House) "shape" = some none)
    (zn_House_tasks : PySem.W.findIn K (.ref C_House) "tasks" = some none)
    (zn_House_banks : PySem.W.findIn K (.ref C_House) "banks" = some none)
    (mk_House : PySem.W.makesIn K C_House = true)
    (kc_House : PySem.W.keepIn K (.ref C_House) = true)
    (a_House_init_ : PySem.W.findIn K (.ref C_House) "__init__" = some (some (.ref f_House_init)))
    (i_House_init_ : PySem.W.isFn K (.ref f_House_init) = true)
    (l_House_init_ : K.lookup f_House_init = some ⟨oc_House_init, od_House_init, .func (PySem.W.fnOf "__init__" "House.__init__" (defArgs s_House_init) (defBody s_House_init) (defScope s_House_init) .none kV_House_init dc_House_init pm_House_init an_House_init cd_House_init ct_House_init), sl_House_init⟩)
    (c_House_init_ : PySem.W.codeIn K cd_House_init "House.__init__" = true)
    (k_House_init_ : PySem.W.keepIn K (.ref f_House_init) = true)
    (a_House_new_task_ : PySem.W.findIn K (.ref C_House) "new_task" = some (some (.ref f_House_new_task)))
    (i_House_new_task_ : PySem.W.isFn K (.ref f_House_new_task) = true)
    (l_House_new_task_ : K.lookup f_House_new_task = some ⟨oc_House_new_task, od_House_new_task, .func (PySem.W.fnOf "new_task" "House.new_task" (defArgs s_House_new_task) (defBody s_House_new_task) (defScope s_House_new_task) .none kV_House_new_task dc_House_new_task pm_House_new_task an_House_new_task cd_House_new_task ct_House_new_task), sl_House_new_task⟩)
    (c_House_new_task_ : PySem.W.codeIn K cd_House_new_task "House.new_task" = true)
    (k_House_new_task_ : PySem.W.keepIn K (.ref f_House_new_task) = true)
    (a_House_fork_ : PySem.W.findIn K (.ref C_House) "fork" = some (some (.ref f_House_fork)))
    (i_House_fork_ : PySem.W.isFn K (.ref f_House_fork) = true)
    (l_House_fork_ : K.lookup f_House_fork = some ⟨oc_House_fork, od_House_fork, .func (PySem.W.fnOf "fork" "House.fork" (defArgs s_House_fork) (defBody s_House_fork) (defScope s_House_fork) .none kV_House_fork dc_House_fork pm_House_fork an_House_fork cd_House_fork ct_House_fork), sl_House_fork⟩)
    (c_House_fork_ : PySem.W.codeIn K cd_House_fork "House.fork" = true)
    (k_House_fork_ : PySem.W.keepIn K (.ref f_House_fork) = true)
    (a_House_end_task_ : PySem.W.findIn K (.ref C_House) "end_task" = some (some (.ref f_House_end_task)))
    (i_House_end_task_ : PySem.W.isFn K (.ref f_House_end_task) = true)
    (l_House_end_task_ : K.lookup f_House_end_task = some ⟨oc_House_end_task, od_House_end_task, .func (PySem.W.fnOf "end_task" "House.end_task" (defArgs s_House_end_task) (defBody s_House_end_task) (defScope s_House_end_task) .none kV_House_end_task dc_House_end_task pm_House_end_task an_House_end_task cd_House_end_task ct_House_end_task), sl_House_end_task⟩)
    (c_House_end_task_ : PySem.W.codeIn K cd_House_end_task "House.end_task" = true)
    (k_House_end_task_ : PySem.W.keepIn K (.ref f_House_end_task) = true)
    (a_House_new_bank_ : PySem.W.findIn K (.ref C_House) "new_bank" = some (some (.ref f_House_new_bank)))
    (i_House_new_bank_ : PySem.W.isFn K (.ref f_House_new_bank) = true)
    (l_House_new_bank_ : K.lookup f_House_new_bank = some ⟨oc_House_new_bank, od_House_new_bank, .func (PySem.W.fnOf "new_bank" "House.new_bank" (defArgs s_House_new_bank) (defBody s_House_new_bank) (defScope s_House_new_bank) .none kV_House_new_bank dc_House_new_bank pm_House_new_bank an_House_new_bank cd_House_new_bank ct_House_new_bank), sl_House_new_bank⟩)
    (c_House_new_bank_ : PySem.W.codeIn K cd_House_new_bank "House.new_bank" = true)
    (k_House_new_bank_ : PySem.W.keepIn K (.ref f_House_new_bank) = true)
    (a_House_drop_bank_ : PySem.W.findIn K (.ref C_House) "drop_bank" = some (some (.ref f_House_drop_bank)))
    (i_House_drop_bank_ : PySem.W.isFn K (.ref f_House_drop_bank) = true)
    (l_House_drop_bank_ : K.lookup f_House_drop_bank = some ⟨oc_House_drop_bank, od_House_drop_bank, .func (PySem.W.fnOf "drop_bank" "House.drop_bank" (defArgs s_House_drop_bank) (defBody s_House_drop_bank) (defScope s_House_drop_bank) .none kV_House_drop_bank dc_House_drop_bank pm_House_drop_bank an_House_drop_bank cd_House_drop_bank ct_House_drop_bank), sl_House_drop_bank⟩)
    (c_House_drop_bank_ : PySem.W.codeIn K cd_House_drop_bank "House.drop_bank" = true)
    (k_House_drop_bank_ : PySem.W.keepIn K (.ref f_House_drop_bank) = true)
    (a_House_task_list_ : PySem.W.findIn K (.ref C_House) "task_list" = some (some (.ref f_House_task_list)))
    (i_House_task_list_ : PySem.W.isFn K (.ref f_House_task_list) = true)
    (l_House_task_list_ : K.lookup f_House_task_list = some ⟨oc_House_task_list, od_House_task_list, .func (PySem.W.fnOf "task_list" "House.task_list" (defArgs s_House_task_list) (defBody s_House_task_list) (defScope s_House_task_list) .none kV_House_task_list dc_House_task_list pm_House_task_list an_House_task_list cd_House_task_list ct_House_task_list), sl_House_task_list⟩)
    (c_House_task_list_ : PySem.W.codeIn K cd_House_task_list "House.task_list" = true)
    (k_House_task_list_ : PySem.W.keepIn K (.ref f_House_task_list) = true)
    (a_House_bank_list_ : PySem.W.findIn K (.ref C_House) "bank_list" = some (some (.ref f_House_bank_list)))
    (i_House_bank_list_ : PySem.W.isFn K (.ref f_House_bank_list) = true)
    (l_House_bank_list_ : K.lookup f_House_bank_list = some ⟨oc_House_bank_list, od_House_bank_list, .func (PySem.W.fnOf "bank_list" "House.bank_list" (defArgs s_House_bank_list) (defBody s_House_bank_list) (defScope s_House_bank_list) .none kV_House_bank_list dc_House_bank_list pm_House_bank_list an_House_bank_list cd_House_bank_list ct_House_bank_list), sl_House_bank_list⟩)
    (c_House_bank_list_ : PySem.W.codeIn K cd_House_bank_list "House.bank_list" = true)
    (k_House_bank_list_ : PySem.W.keepIn K (.ref f_House_bank_list) = true)
    (a_House_bank_size_ : PySem.W.findIn K (.ref C_House) "bank_size" = some (some (.ref f_House_bank_size)))
    (i_House_bank_size_ : PySem.W.isFn K (.ref f_House_bank_size) = true)
    (l_House_bank_size_ : K.lookup f_House_bank_size = some ⟨oc_House_bank_size, od_House_bank_size, .func (PySem.W.fnOf "bank_size" "House.bank_size" (defArgs s_House_bank_size) (defBody s_House_bank_size) (defScope s_House_bank_size) .none kV_House_bank_size dc_House_bank_size pm_House_bank_size an_House_bank_size cd_House_bank_size ct_House_bank_size), sl_House_bank_size⟩)
    (c_House_bank_size_ : PySem.W.codeIn K cd_House_bank_size "House.bank_size" = true)
    (k_House_bank_size_ : PySem.W.keepIn K (.ref f_House_bank_size) = true)
    (a_House_stretches_of_ : PySem.W.findIn K (.ref C_House) "stretches_of" = some (some (.ref f_House_stretches_of)))
    (i_House_stretches_of_ : PySem.W.isFn K (.ref f_House_stretches_of) = true)
    (l_House_stretches_of_ : K.lookup f_House_stretches_of = some ⟨oc_House_stretches_of, od_House_stretches_of, .func (PySem.W.fnOf "stretches_of" "House.stretches_of" (defArgs s_House_stretches_of) (defBody s_House_stretches_of) (defScope s_House_stretches_of) .none kV_House_stretches_of dc_House_stretches_of pm_House_stretches_of an_House_stretches_of cd_House_stretches_of ct_House_stretches_of), sl_House_stretches_of⟩)
    (c_House_stretches_of_ : PySem.W.codeIn K cd_House_stretches_of "House.stretches_of" = true)
    (k_House_stretches_of_ : PySem.W.keepIn K (.ref f_House_stretches_of) = true)
    (a_House_check_task_ : PySem.W.findIn K (.ref C_House) "check_task" = some (some (.ref f_House_check_task)))
    (i_House_check_task_ : PySem.W.isFn K (.ref f_House_check_task) = true)
    (l_House_check_task_ : K.lookup f_House_check_task = some ⟨oc_House_check_task, od_House_check_task, .func (PySem.W.fnOf "check_task" "House.check_task" (defArgs s_House_check_task) (defBody s_House_check_task) (defScope s_House_check_task) .none kV_House_check_task dc_House_check_task pm_House_check_task an_House_check_task cd_House_check_task ct_House_check_task), sl_House_check_task⟩)
    (c_House_check_task_ : PySem.W.codeIn K cd_House_check_task "House.check_task" = true)
    (k_House_check_task_ : PySem.W.keepIn K (.ref f_House_check_task) = true)
    (a_House_check_bank_ : PySem.W.findIn K (.ref C_House) "check_bank" = some (some (.ref f_House_check_bank)))
    (i_House_check_bank_ : PySem.W.isFn K (.ref f_House_check_bank) = true)
    (l_House_check_bank_ : K.lookup f_House_check_bank = some ⟨oc_House_check_bank, od_House_check_bank, .func (PySem.W.fnOf "check_bank" "House.check_bank" (defArgs s_House_check_bank) (defBody s_House_check_bank) (defScope s_House_check_bank) .none kV_House_check_bank dc_House_check_bank pm_House_check_bank an_House_check_bank cd_House_check_bank ct_House_check_bank), sl_House_check_bank⟩)
    (c_House_check_bank_ : PySem.W.codeIn K cd_House_check_bank "House.check_bank" = true)
    (k_House_check_bank_ : PySem.W.keepIn K (.ref f_House_check_bank) = true)
    (pg_Shape : PySem.W.plainGet K C_Shape Str.empty = true)
    (hd_Shape : PySem.W.hasDictIn K C_Shape = true)
    (po_Shape : PySem.W.plainOver K C_Shape = true)
    (sa_Shape : PySem.W.findIn K (.ref C_Shape) "__setattr__" = some (some (.builtin "object.__setattr__")))
    (zn_Shape_levels : PySem.W.findIn K (.ref C_Shape) "levels" = some none)
    (zn_Shape_fan : PySem.W.findIn K (.ref C_Shape) "fan" = some none)
    (zn_Shape_grain : PySem.W.findIn K (.ref C_Shape) "grain" = some none)
    (zn_Shape_ways : PySem.W.findIn K (.ref C_Shape) "ways" = some none)
    (zn_Shape_boxes : PySem.W.findIn K (.ref C_Shape) "boxes" = some none)
    (zn_Shape_pages : PySem.W.findIn K (.ref C_Shape) "pages" = some none)
    (mk_Shape : PySem.W.makesIn K C_Shape = true)
    (kc_Shape : PySem.W.keepIn K (.ref C_Shape) = true)
    (a_Shape_init_ : PySem.W.findIn K (.ref C_Shape) "__init__" = some (some (.ref f_Shape_init)))
    (i_Shape_init_ : PySem.W.isFn K (.ref f_Shape_init) = true)
    (l_Shape_init_ : K.lookup f_Shape_init = some ⟨oc_Shape_init, od_Shape_init, .func (PySem.W.fnOf "__init__" "Shape.__init__" (defArgs s_Shape_init) (defBody s_Shape_init) (defScope s_Shape_init) .none kV_Shape_init dc_Shape_init pm_Shape_init an_Shape_init cd_Shape_init ct_Shape_init), sl_Shape_init⟩)
    (c_Shape_init_ : PySem.W.codeIn K cd_Shape_init "Shape.__init__" = true)
    (k_Shape_init_ : PySem.W.keepIn K (.ref f_Shape_init) = true)
    (zt_FrameError : PySem.W.typeIn K (.ref C_FrameError) = some (.type "type"))
    (zl_FrameError : PySem.W.clsIn K C_FrameError = some cd_FrameError)
    (zm_FrameError : PySem.W.mroIn K C_FrameError (.type "BaseException") = some true)
    (ze_NoShape : PySem.W.excIn K C_NoShape mroVE "ValueError.__new__" = true)
    (ze_Busy : PySem.W.excIn K C_Busy mroVE "ValueError.__new__" = true)
    (ze_NoTask : PySem.W.excIn K C_NoTask mroVE "ValueError.__new__" = true)
    (xg_NoTask : PySem.W.findIn K (.ref C_NoTask) "__getattribute__" = some (some (.builtin "BaseException.__getattribute__")))
    (xq_NoTask : PySem.W.findIn K (.ref C_NoTask) "__getattr__" = some none)
    (xb_NoTask : PySem.W.mroIn K C_NoTask (.type "BaseException") = some true)
    (xh_NoTask : PySem.W.hasDictIn K C_NoTask = true)
    (xa_NoTask : PySem.W.findIn K (.ref C_NoTask) "__class__" = some (some (.builtin "object.__class__")))
    (xn_NoTask : PySem.W.specialIn K (.builtin "object.__class__") "__get__" = some (some (.builtin "getset_descriptor.__get__")))
    (xt_NoTask : PySem.W.takesIn K (.builtin "object.__class__") = some true)
    (xm_NoTask : PySem.W.mroIn K C_NoTask (.type "object") = some true)
    (ze_NoBank : PySem.W.excIn K C_NoBank mroVE "ValueError.__new__" = true)
    (xg_NoBank : PySem.W.findIn K (.ref C_NoBank) "__getattribute__" = some (some (.builtin "BaseException.__getattribute__")))
    (xq_NoBank : PySem.W.findIn K (.ref C_NoBank) "__getattr__" = some none)
    (xb_NoBank : PySem.W.mroIn K C_NoBank (.type "BaseException") = some true)
    (xh_NoBank : PySem.W.hasDictIn K C_NoBank = true)
    (xa_NoBank : PySem.W.findIn K (.ref C_NoBank) "__class__" = some (some (.builtin "object.__class__")))
    (xn_NoBank : PySem.W.specialIn K (.builtin "object.__class__") "__get__" = some (some (.builtin "getset_descriptor.__get__")))
    (xt_NoBank : PySem.W.takesIn K (.builtin "object.__class__") = some true)
    (xm_NoBank : PySem.W.mroIn K C_NoBank (.type "object") = some true)
    (ze_OutOfBank : PySem.W.excIn K C_OutOfBank mroVE "ValueError.__new__" = true)
    (xg_OutOfBank : PySem.W.findIn K (.ref C_OutOfBank) "__getattribute__" = some (some (.builtin "BaseException.__getattribute__")))
    (xq_OutOfBank : PySem.W.findIn K (.ref C_OutOfBank) "__getattr__" = some none)
    (xb_OutOfBank : PySem.W.mroIn K C_OutOfBank (.type "BaseException") = some true)
    (xh_OutOfBank : PySem.W.hasDictIn K C_OutOfBank = true)
    (xa_OutOfBank : PySem.W.findIn K (.ref C_OutOfBank) "__class__" = some (some (.builtin "object.__class__")))
    (xn_OutOfBank : PySem.W.specialIn K (.builtin "object.__class__") "__get__" = some (some (.builtin "getset_descriptor.__get__")))
    (xt_OutOfBank : PySem.W.takesIn K (.builtin "object.__class__") = some true)
    (xm_OutOfBank : PySem.W.mroIn K C_OutOfBank (.type "object") = some true)
    (zs_NoTask_FrameError : PySem.W.mroIn K C_NoTask (.ref C_FrameError) = some true)
    (zs_NoBank_FrameError : PySem.W.mroIn K C_NoBank (.ref C_FrameError) = some true)
    (zs_OutOfBank_FrameError : PySem.W.mroIn K C_OutOfBank (.ref C_FrameError) = some true)
    (zk_NoTask_NoTask : PySem.W.kitOne K (.ref C_NoTask) (.ref C_NoTask) = some true)
    (zk_NoTask_NoBank : PySem.W.kitOne K (.ref C_NoTask) (.ref C_NoBank) = some false)
    (zk_NoTask_OutOfBank : PySem.W.kitOne K (.ref C_NoTask) (.ref C_OutOfBank) = some false)
    (zk_NoBank_NoTask : PySem.W.kitOne K (.ref C_NoBank) (.ref C_NoTask) = some false)
    (zk_NoBank_NoBank : PySem.W.kitOne K (.ref C_NoBank) (.ref C_NoBank) = some true)
    (zk_NoBank_OutOfBank : PySem.W.kitOne K (.ref C_NoBank) (.ref C_OutOfBank) = some false)
    (zk_OutOfBank_NoTask : PySem.W.kitOne K (.ref C_OutOfBank) (.ref C_NoTask) = some false)
    (zk_OutOfBank_NoBank : PySem.W.kitOne K (.ref C_OutOfBank) (.ref C_NoBank) = some false)
    (zk_OutOfBank_OutOfBank : PySem.W.kitOne K (.ref C_OutOfBank) (.ref C_OutOfBank) = some true)
    (a_law_ : PySem.W.nsIn K mainGlobals "law" = some (some (.ref f_law)))
    (l_law_ : K.lookup f_law = some ⟨oc_law, od_law, .func (PySem.W.fnOf "law" "law" (defArgs s_law) (defBody s_law) (defScope s_law) .none kV_law dc_law pm_law an_law cd_law ct_law), sl_law⟩)
    (c_law_ : PySem.W.codeIn K cd_law "law" = true)
    (k_law_ : PySem.W.keepIn K (.ref f_law) = true)
    : ∃ A : Adr, Txt K mg A := ⟨⟨C_Stretches, C_House, C_Shape, C_FrameError, C_NoShape, C_Busy, C_NoTask, C_NoBank, C_OutOfBank⟩, {
      b_any := PySem.W.mg_none_of X G zb_any
      b_bool := PySem.W.mg_none_of X G zb_bool
      b_int := PySem.W.mg_none_of X G zb_int
      b_isinstance := PySem.W.mg_none_of X G zb_isinstance
      b_len := PySem.W.mg_none_of X G zb_len
      b_list := PySem.W.mg_none_of X G zb_list
      b_range := PySem.W.mg_none_of X G zb_range
      b_sorted := PySem.W.mg_none_of X G zb_sorted
      b_str := PySem.W.mg_none_of X G zb_str
      b_tuple := PySem.W.mg_none_of X G zb_tuple
      c_MOST_IN_BANK := ⟨_, PySem.W.mg_of X G zc_MOST_IN_BANK, ⟨_, rfl⟩⟩
      r_is_whole := ⟨_, _, _, PySem.W.mg_of X G a_is_whole_, fun_mk (st := s_is_whole) l_is_whole_ c_is_whole_ k_is_whole_, (fun_mk (st := s_is_whole) l_is_whole_ c_is_whole_ k_is_whole_).binds (ps := ["thing"]) fun _ _ _ _ _ _ => el1 (fun _ => rfl), .nil⟩
      r_is_within := ⟨_, _, _, PySem.W.mg_of X G a_is_within_, fun_mk (st := s_is_within) l_is_within_ c_is_within_ k_is_within_, (fun_mk (st := s_is_within) l_is_within_ c_is_within_ k_is_within_).binds (ps := ["thing", "low", "high"]) fun _ _ _ _ _ _ => el3 (fun _ _ _ => rfl), .nil⟩
      r_power_of_two := ⟨_, _, _, PySem.W.mg_of X G a_power_of_two_, fun_mk (st := s_power_of_two) l_power_of_two_ c_power_of_two_ k_power_of_two_, (fun_mk (st := s_power_of_two) l_power_of_two_ c_power_of_two_ k_power_of_two_).binds (ps := ["exponent"]) fun _ _ _ _ _ _ => el1 (fun _ => rfl), .nil⟩
      r_check_measures := ⟨_, _, _, PySem.W.mg_of X G a_check_measures_, fun_mk (st := s_check_measures) l_check_measures_ c_check_measures_ k_check_measures_, (fun_mk (st := s_check_measures) l_check_measures_ c_check_measures_ k_check_measures_).binds (ps := ["levels", "fan", "grain"]) fun _ _ _ _ _ _ => el3 (fun _ _ _ => rfl), .nil⟩
      r_least_free := ⟨_, _, _, PySem.W.mg_of X G a_least_free_, fun_mk (st := s_least_free) l_least_free_ c_least_free_ k_least_free_, (fun_mk (st := s_least_free) l_least_free_ c_least_free_ k_least_free_).binds (ps := ["numbers"]) fun _ _ _ _ _ _ => el1 (fun _ => rfl), .nil⟩
      r_l_cell_at := ⟨_, _, _, PySem.W.mg_of X G a_l_cell_at_, fun_mk (st := s_l_cell_at) l_l_cell_at_ c_l_cell_at_ k_l_cell_at_, (fun_mk (st := s_l_cell_at) l_l_cell_at_ c_l_cell_at_ k_l_cell_at_).binds (ps := ["_law_script", "_law_k"]) fun _ _ _ _ _ _ => el2 (fun _ _ => rfl), .nil⟩
      r_l_like := ⟨_, _, _, PySem.W.mg_of X G a_l_like_, fun_mk (st := s_l_like) l_l_like_ c_l_like_ k_l_like_, (fun_mk (st := s_l_like) l_l_like_ c_l_like_ k_l_like_).binds (ps := ["_law_found", "_law_due_here"]) fun _ _ _ _ _ _ => el2 (fun _ _ => rfl), .nil⟩
      r_l_least := ⟨_, _, _, PySem.W.mg_of X G a_l_least_, fun_mk (st := s_l_least) l_l_least_ c_l_least_ k_l_least_, (fun_mk (st := s_l_least) l_l_least_ c_l_least_ k_l_least_).binds (ps := ["_law_numbers"]) fun _ _ _ _ _ _ => el1 (fun _ => rfl), .nil⟩
      r_l_word := ⟨_, _, _, PySem.W.mg_of X G a_l_word_, fun_mk (st := s_l_word) l_l_word_ c_l_word_ k_l_word_, (fun_mk (st := s_l_word) l_l_word_ c_l_word_ k_l_word_).binds (ps := ["_law_e"]) fun _ _ _ _ _ _ => el1 (fun _ => rfl), .nil⟩
      r_l_say := ⟨_, _, _, PySem.W.mg_of X G a_l_say_, fun_mk (st := s_l_say) l_l_say_ c_l_say_ k_l_say_, (fun_mk (st := s_l_say) l_l_say_ c_l_say_ k_l_say_).binds (ps := ["_law_house", "_law_kind", "_law_number_here"]) fun _ _ _ _ _ _ => el3 (fun _ _ _ => rfl), .nil⟩
      r_l_answer := ⟨_, _, _, PySem.W.mg_of X G a_l_answer_, fun_mk (st := s_l_answer) l_l_answer_ c_l_answer_ k_l_answer_, (fun_mk (st := s_l_answer) l_l_answer_ c_l_answer_ k_l_answer_).binds (ps := ["_law_house", "_law_kind", "_law_number_here"]) fun _ _ _ _ _ _ => el3 (fun _ _ _ => rfl), .nil⟩
      r_l_number := ⟨_, _, _, PySem.W.mg_of X G a_l_number_, fun_mk (st := s_l_number) l_l_number_ c_l_number_ k_l_number_, (fun_mk (st := s_l_number) l_l_number_ c_l_number_ k_l_number_).binds (ps := ["_law_numbers", "_law_cell"]) fun _ _ _ _ _ _ => el2 (fun _ _ => rfl), .nil⟩
      r_l_size := ⟨_, _, _, PySem.W.mg_of X G a_l_size_, fun_mk (st := s_l_size) l_l_size_ c_l_size_ k_l_size_, (fun_mk (st := s_l_size) l_l_size_ c_l_size_ k_l_size_).binds (ps := ["_law_cell"]) fun _ _ _ _ _ _ => el1 (fun _ => rfl), .nil⟩
      r_l_due := ⟨_, _, _, PySem.W.mg_of X G a_l_due_, fun_mk (st := s_l_due) l_l_due_ c_l_due_ k_l_due_, (fun_mk (st := s_l_due) l_l_due_ c_l_due_ k_l_due_).binds (ps := ["_law_tasks", "_law_banks", "_law_kind", "_law_number_here"]) fun _ _ _ _ _ _ => el4 (fun _ _ _ _ => rfl), .nil⟩
      r_l_asked_one := ⟨_, _, _, PySem.W.mg_of X G a_l_asked_one_, fun_mk (st := s_l_asked_one) l_l_asked_one_ c_l_asked_one_ k_l_asked_one_, (fun_mk (st := s_l_asked_one) l_l_asked_one_ c_l_asked_one_ k_l_asked_one_).binds (ps := ["_law_house", "_law_tasks", "_law_banks", "_law_kind", "_law_number_here"]) fun _ _ _ _ _ _ => el5 (fun _ _ _ _ _ => rfl), .nil⟩
      cl_Stretches := ⟨pg_Stretches, hd_Stretches, po_Stretches, sa_Stretches⟩
      na_Stretches_runs := zn_Stretches_runs
      r_Stretches_init := ⟨_, _, _, PySem.W.mg_of X G a_Stretches, ⟨mk_Stretches, a_Stretches_init_, i_Stretches_init_, kc_Stretches⟩, fun_mk (st := s_Stretches_init) l_Stretches_init_ c_Stretches_init_ k_Stretches_init_, (fun_mk (st := s_Stretches_init) l_Stretches_init_ c_Stretches_init_ k_Stretches_init_).binds (ps := ["self"]) fun _ _ _ _ _ _ => el1 (fun _ => rfl), .nil⟩
      r_Stretches_is_tied := ⟨_, _, _, ⟨a_Stretches_is_tied_, i_Stretches_is_tied_, k_Stretches_is_tied_⟩, fun_mk (st := s_Stretches_is_tied) l_Stretches_is_tied_ c_Stretches_is_tied_ k_Stretches_is_tied_, (fun_mk (st := s_Stretches_is_tied) l_Stretches_is_tied_ c_Stretches_is_tied_ k_Stretches_is_tied_).binds (ps := ["self", "bank"]) fun _ _ _ _ _ _ => el2 (fun _ _ => rfl), .nil⟩
      r_Stretches_told := ⟨_, _, _, ⟨a_Stretches_told_, i_Stretches_told_, k_Stretches_told_⟩, fun_mk (st := s_Stretches_told) l_Stretches_told_ c_Stretches_told_ k_Stretches_told_, (fun_mk (st := s_Stretches_told) l_Stretches_told_ c_Stretches_told_ k_Stretches_told_).binds (ps := ["self"]) fun _ _ _ _ _ _ => el1 (fun _ => rfl), .nil⟩
      r_Stretches_copied := ⟨_, _, _, ⟨a_Stretches_copied_, i_Stretches_copied_, k_Stretches_copied_⟩, fun_mk (st := s_Stretches_copied) l_Stretches_copied_ c_Stretches_copied_ k_Stretches_copied_, (fun_mk (st := s_Stretches_copied) l_Stretches_copied_ c_Stretches_copied_ k_Stretches_copied_).binds (ps := ["self"]) fun _ _ _ _ _ _ => el1 (fun _ => rfl), .nil⟩
      cl_House := ⟨pg_House, hd_House, po_House, sa_House⟩
      na_House_shape := zn_House_shape
      na_House_tasks := zn_House_tasks
      na_House_banks := zn_House_banks
      r_House_init := ⟨_, _, _, PySem.W.mg_of X G a_House, ⟨mk_House, a_House_init_, i_House_init_, kc_House⟩, fun_mk (st := s_House_init) l_House_init_ c_House_init_ k_House_init_, (fun_mk (st := s_House_init) l_House_init_ c_House_init_ k_House_init_).binds (ps := ["self", "shape"]) fun _ _ _ _ _ _ => el2 (fun _ _ => rfl), .nil⟩
      r_House_new_task := ⟨_, _, _, ⟨a_House_new_task_, i_House_new_task_, k_House_new_task_⟩, fun_mk (st := s_House_new_task) l_House_new_task_ c_House_new_task_ k_House_new_task_, (fun_mk (st := s_House_new_task) l_House_new_task_ c_House_new_task_ k_House_new_task_).binds (ps := ["self"]) fun _ _ _ _ _ _ => el1 (fun _ => rfl), .nil⟩
      r_House_fork := ⟨_, _, _, ⟨a_House_fork_, i_House_fork_, k_House_fork_⟩, fun_mk (st := s_House_fork) l_House_fork_ c_House_fork_ k_House_fork_, (fun_mk (st := s_House_fork) l_House_fork_ c_House_fork_ k_House_fork_).binds (ps := ["self", "task"]) fun _ _ _ _ _ _ => el2 (fun _ _ => rfl), .nil⟩
      r_House_end_task := ⟨_, _, _, ⟨a_House_end_task_, i_House_end_task_, k_House_end_task_⟩, fun_mk (st := s_House_end_task) l_House_end_task_ c_House_end_task_ k_House_end_task_, (fun_mk (st := s_House_end_task) l_House_end_task_ c_House_end_task_ k_House_end_task_).binds (ps := ["self", "task"]) fun _ _ _ _ _ _ => el2 (fun _ _ => rfl), .nil⟩
      r_House_new_bank := ⟨_, _, _, ⟨a_House_new_bank_, i_House_new_bank_, k_House_new_bank_⟩, fun_mk (st := s_House_new_bank) l_House_new_bank_ c_House_new_bank_ k_House_new_bank_, (fun_mk (st := s_House_new_bank) l_House_new_bank_ c_House_new_bank_ k_House_new_bank_).binds (ps := ["self", "many"]) fun _ _ _ _ _ _ => el2 (fun _ _ => rfl), .nil⟩
      r_House_drop_bank := ⟨_, _, _, ⟨a_House_drop_bank_, i_House_drop_bank_, k_House_drop_bank_⟩, fun_mk (st := s_House_drop_bank) l_House_drop_bank_ c_House_drop_bank_ k_House_drop_bank_, (fun_mk (st := s_House_drop_bank) l_House_drop_bank_ c_House_drop_bank_ k_House_drop_bank_).binds (ps := ["self", "bank"]) fun _ _ _ _ _ _ => el2 (fun _ _ => rfl), .nil⟩
      r_House_task_list := ⟨_, _, _, ⟨a_House_task_list_, i_House_task_list_, k_House_task_list_⟩, fun_mk (st := s_House_task_list) l_House_task_list_ c_House_task_list_ k_House_task_list_, (fun_mk (st := s_House_task_list) l_House_task_list_ c_House_task_list_ k_House_task_list_).binds (ps := ["self"]) fun _ _ _ _ _ _ => el1 (fun _ => rfl), .nil⟩
      r_House_bank_list := ⟨_, _, _, ⟨a_House_bank_list_, i_House_bank_list_, k_House_bank_list_⟩, fun_mk (st := s_House_bank_list) l_House_bank_list_ c_House_bank_list_ k_House_bank_list_, (fun_mk (st := s_House_bank_list) l_House_bank_list_ c_House_bank_list_ k_House_bank_list_).binds (ps := ["self"]) fun _ _ _ _ _ _ => el1 (fun _ => rfl), .nil⟩
      r_House_bank_size := ⟨_, _, _, ⟨a_House_bank_size_, i_House_bank_size_, k_House_bank_size_⟩, fun_mk (st := s_House_bank_size) l_House_bank_size_ c_House_bank_size_ k_House_bank_size_, (fun_mk (st := s_House_bank_size) l_House_bank_size_ c_House_bank_size_ k_House_bank_size_).binds (ps := ["self", "bank"]) fun _ _ _ _ _ _ => el2 (fun _ _ => rfl), .nil⟩
      r_House_stretches_of := ⟨_, _, _, ⟨a_House_stretches_of_, i_House_stretches_of_, k_House_stretches_of_⟩, fun_mk (st := s_House_stretches_of) l_House_stretches_of_ c_House_stretches_of_ k_House_stretches_of_, (fun_mk (st := s_House_stretches_of) l_House_stretches_of_ c_House_stretches_of_ k_House_stretches_of_).binds (ps := ["self", "task"]) fun _ _ _ _ _ _ => el2 (fun _ _ => rfl), .nil⟩
      r_House_check_task := ⟨_, _, _, ⟨a_House_check_task_, i_House_check_task_, k_House_check_task_⟩, fun_mk (st := s_House_check_task) l_House_check_task_ c_House_check_task_ k_House_check_task_, (fun_mk (st := s_House_check_task) l_House_check_task_ c_House_check_task_ k_House_check_task_).binds (ps := ["self", "task"]) fun _ _ _ _ _ _ => el2 (fun _ _ => rfl), .nil⟩
      r_House_check_bank := ⟨_, _, _, ⟨a_House_check_bank_, i_House_check_bank_, k_House_check_bank_⟩, fun_mk (st := s_House_check_bank) l_House_check_bank_ c_House_check_bank_ k_House_check_bank_, (fun_mk (st := s_House_check_bank) l_House_check_bank_ c_House_check_bank_ k_House_check_bank_).binds (ps := ["self", "bank"]) fun _ _ _ _ _ _ => el2 (fun _ _ => rfl), .nil⟩
      cl_Shape := ⟨pg_Shape, hd_Shape, po_Shape, sa_Shape⟩
      na_Shape_levels := zn_Shape_levels
      na_Shape_fan := zn_Shape_fan
      na_Shape_grain := zn_Shape_grain
      na_Shape_ways := zn_Shape_ways
      na_Shape_boxes := zn_Shape_boxes
      na_Shape_pages := zn_Shape_pages
      r_Shape_init := ⟨_, _, _, PySem.W.mg_of X G a_Shape, ⟨mk_Shape, a_Shape_init_, i_Shape_init_, kc_Shape⟩, fun_mk (st := s_Shape_init) l_Shape_init_ c_Shape_init_ k_Shape_init_, (fun_mk (st := s_Shape_init) l_Shape_init_ c_Shape_init_ k_Shape_init_).binds (ps := ["self", "levels", "fan", "grain"]) fun _ _ _ _ _ _ => el4 (fun _ _ _ _ => rfl), .nil⟩
      m_FrameError := ⟨_, PySem.W.mg_of X G a_FrameError, rfl⟩
      h_FrameError := ⟨PySem.W.mg_of X G a_FrameError, zt_FrameError, ⟨_, zl_FrameError⟩, zm_FrameError⟩
      m_NoShape := ⟨_, PySem.W.mg_of X G a_NoShape, rfl⟩
      x_NoShape := ⟨PySem.W.mg_of X G a_NoShape, ze_NoShape⟩
      m_Busy := ⟨_, PySem.W.mg_of X G a_Busy, rfl⟩
      x_Busy := ⟨PySem.W.mg_of X G a_Busy, ze_Busy⟩
      m_NoTask := ⟨_, PySem.W.mg_of X G a_NoTask, rfl⟩
      x_NoTask := ⟨PySem.W.mg_of X G a_NoTask, ze_NoTask⟩
      xi_NoTask := ⟨xg_NoTask, xq_NoTask, xb_NoTask, xh_NoTask, xa_NoTask, xn_NoTask, xt_NoTask, xm_NoTask⟩
      m_NoBank := ⟨_, PySem.W.mg_of X G a_NoBank, rfl⟩
      x_NoBank := ⟨PySem.W.mg_of X G a_NoBank, ze_NoBank⟩
      xi_NoBank := ⟨xg_NoBank, xq_NoBank, xb_NoBank, xh_NoBank, xa_NoBank, xn_NoBank, xt_NoBank, xm_NoBank⟩
      m_OutOfBank := ⟨_, PySem.W.mg_of X G a_OutOfBank, rfl⟩
      x_OutOfBank := ⟨PySem.W.mg_of X G a_OutOfBank, ze_OutOfBank⟩
      xi_OutOfBank := ⟨xg_OutOfBank, xq_OutOfBank, xb_OutOfBank, xh_OutOfBank, xa_OutOfBank, xn_OutOfBank, xt_OutOfBank, xm_OutOfBank⟩
      sub_NoTask_FrameError := zs_NoTask_FrameError
      sub_NoBank_FrameError := zs_NoBank_FrameError
      sub_OutOfBank_FrameError := zs_OutOfBank_FrameError
      kit_NoTask_NoTask := zk_NoTask_NoTask
      kit_NoTask_NoBank := zk_NoTask_NoBank
      kit_NoTask_OutOfBank := zk_NoTask_OutOfBank
      kit_NoBank_NoTask := zk_NoBank_NoTask
      kit_NoBank_NoBank := zk_NoBank_NoBank
      kit_NoBank_OutOfBank := zk_NoBank_OutOfBank
      kit_OutOfBank_NoTask := zk_OutOfBank_NoTask
      kit_OutOfBank_NoBank := zk_OutOfBank_NoBank
      kit_OutOfBank_OutOfBank := zk_OutOfBank_OutOfBank
      r_law := ⟨_, _, PySem.W.mg_of X G a_law_, fun_mk (st := s_law) l_law_ c_law_ k_law_, fun _ _ => .of_eq rfl⟩
    }⟩

section
variable {P : Program} {w : World} {K : PySem.W.Frag} {mg : Str → Option Value} {base : Heap} {A : Adr}

def sp_is_whole : Sp := fun vs H Q _ => ∃ x, vs = [x] ∧ Kn H x ∧ Q (.bl (whole x)) H
theorem h_is_whole (T : Txt K mg A) : Have P w K mg base "is_whole" 1 ["thing"] [] sp_is_whole := by
  refine T.r_is_whole.have sc_is_whole (fun vs H Q E z => ?_) ?_
  · obtain ⟨x, rfl, _⟩ := z; rfl
  · intro f cdv A' outer s H vs Q E hr z
    obtain ⟨x, rfl, hk, q⟩ := z
    refine ⟨_, (pss_one (ps_ret (pe_and (pe_callB call_isi rfl T.b_isinstance PyProof.Rows.boot_isinstance (pa_cons (pvM 0) (pa_cons (pe_bltnE (n := "int") rfl T.b_int PyProof.Rows.boot_int) pa_nil))) (pe_one (pe_not (pe_callB call_isi rfl T.b_isinstance PyProof.Rows.boot_isinstance (pa_cons (pvM 0) (pa_cons (pe_bltnE (n := "bool") rfl T.b_bool PyProof.Rows.boot_bool) pa_nil)))))))), ?_⟩
    walk_at "wp"
    rw [← isTy_whole hk] at q
    refine ⟨by decide, hk, ?_⟩
    cases e : isTy "int" H x with
    | true => rw [e] at q; exact iteT ⟨by decide, hk, q⟩
    | false => rw [e] at q; exact iteF q

def sp_is_within : Sp := fun vs H Q _ => ∃ x l h, vs = [x, .int l, .int h] ∧ Kn H x ∧ Q (.bl (within x l h)) H
theorem h_is_within (T : Txt K mg A) : Have P w K mg base "is_within" 2 ["thing", "low", "high"] [] sp_is_within := by
  have H_is_whole := h_is_whole (P := P) (w := w) (base := base) T
  refine T.r_is_within.have sc_is_within (fun vs H Q E z => ?_) ?_
  · obtain ⟨x, l, h, rfl, _⟩ := z; rfl
  · intro f cdv A' outer s H vs Q E hr z
    obtain ⟨x, l, h, rfl, hk, q⟩ := z
    refine ⟨_, (pss_one (ps_ret (pe_and (pe_callE H_is_whole (hr.mono (by decide)) xw_def (pa_cons (pvM 0) pa_nil)) (pe_one (pe_chain op_le op_le (pvM 1) (pvM 0) (pvM 2)))))), ?_⟩
    unfold sp_is_whole
    walk_at "wp"
    refine ⟨hk, ?_⟩
    cases x with
    | int i =>
      refine iteT ⟨i, rfl, ?_⟩
      rw [within_int] at q
      by_cases c : l ≤ i
      · rw [decide_eq_true c] at q
        rw [if_pos c]
        exact ⟨i, rfl, q⟩
      · rw [decide_eq_false c] at q
        rw [if_neg c]
        exact q
    | _ => exact iteF q

def sp_power_of_two : Sp := fun vs H Q _ => ∃ e : Int, vs = [.int e] ∧ 0 ≤ e ∧ e ≤ 62 ∧ Q (.int (pw e)) H
theorem h_power_of_two (T : Txt K mg A) : Have P w K mg base "power_of_two" 1 ["exponent"] [] sp_power_of_two := by
  refine T.r_power_of_two.have sc_power_of_two (fun vs H Q E z => ?_) ?_
  · obtain ⟨e, rfl, _⟩ := z; rfl
  · intro f cdv A' outer s H vs Q E hr z
    obtain ⟨e, rfl, h0, h1, q⟩ := z
    refine ⟨_, (pss_cons (ps_set (i := 1) sc_power_of_two.nd rfl (Or.inl rfl) pe_int)
      (pss_cons (ps_forE PassesOwn.leaving rfl (pi_range1 rfl T.b_range (pa_cons (pvM 0) pa_nil)) (pg_name (i := 2) sc_power_of_two.nd rfl (Or.inl rfl)) (pss_one (ps_set (i := 1) sc_power_of_two.nd rfl (Or.inl rfl) (pe_op op_mul (pvM 1) pe_int))))
      (pss_one (ps_ret (pvM 1))))), ?_⟩
    walk_at "wp"
    refine ⟨by omega, by omega, loop_range (fun i σ H' => ∃ v, σ = [some (.int e), some (.int (pw (i : Int))), v] ∧ H' = H) ⟨_, rfl, rfl⟩ (fun i σ H' hi => ?_) (fun σ H' => ?_)⟩
    · rintro ⟨v, rfl, rfl⟩
      walk_at "wp"
      have hb := pwN_le (n := i) (m := 62) (by omega)
      have hp := pw_pos i
      have e62 : pw ((62 : Nat) : Int) = 4611686018427387904 := by decide
      refine by first | exact (pw_succ i).symm | exact ⟨by omega, (pw_succ i).symm⟩ | (rw [pw_succ]; omega) | (trace_state; omega)
    · rintro ⟨v, rfl, rfl⟩
      walk_at "wp"
      rw [show ((e.toNat : Nat) : Int) = e by omega]
      exact q

def good (x y z : V) : Bool := within x 2 3 && within y 1 8 && within z 0 4
theorem good_ints {l f g : Int} (h : good (.int l) (.int f) (.int g) = true) : 2 ≤ l ∧ l ≤ 3 ∧ 1 ≤ f ∧ f ≤ 8 ∧ 0 ≤ g ∧ g ≤ 4 := by
  unfold good at h
  simp only [within_int, Bool.and_eq_true, decide_eq_true_eq] at h
  omega
theorem good_of {l f g : Int} (h : 2 ≤ l ∧ l ≤ 3 ∧ 1 ≤ f ∧ f ≤ 8 ∧ 0 ≤ g ∧ g ≤ 4) : good (.int l) (.int f) (.int g) = true := by
  unfold good
  simp only [within_int, Bool.and_eq_true, decide_eq_true_eq]
  omega
def sp_check (N : Addr) : Sp := fun vs H Q E => ∃ x y z, vs = [x, y, z] ∧ Kn H x ∧ Kn H y ∧ Kn H z ∧ if good x y z = true then Q .non H else E (.ref N) none H
theorem h_check (T : Txt K mg A) : Have P w K mg base "check_measures" 3 ["levels", "fan", "grain"] [] (sp_check A.C_NoShape) := by
  have H_is_within := h_is_within (P := P) (w := w) (base := base) T
  refine T.r_check_measures.have sc_check_measures (fun vs H Q E z => ?_) ?_
  · obtain ⟨x, y, z, rfl, _⟩ := z; rfl
  · intro f cdv A' outer s H vs Q E hr z
    obtain ⟨x, y, z, rfl, hx, hy, hz, q⟩ := z
    refine ⟨_, (pss_cons (ps_if (pt_not (pt_val (pe_callE H_is_within (hr.mono (by decide)) xw_def (pa_cons (pvM 0) (pa_cons pe_int (pa_cons pe_int pa_nil)))))) (pss_one (ps_raise xr_def rfl T.x_NoShape (pa_cons pe_str pa_nil))) pss_nil)
      (pss_cons (ps_if (pt_not (pt_val (pe_callE H_is_within (hr.mono (by decide)) xw_def (pa_cons (pvM 1) (pa_cons pe_int (pa_cons pe_int pa_nil)))))) (pss_one (ps_raise xr_def rfl T.x_NoShape (pa_cons pe_str pa_nil))) pss_nil)
      (pss_one (ps_if (pt_not (pt_val (pe_callE H_is_within (hr.mono (by decide)) xw_def (pa_cons (pvM 2) (pa_cons pe_int (pa_cons pe_int pa_nil)))))) (pss_one (ps_raise xr_def rfl T.x_NoShape (pa_cons pe_str pa_nil))) pss_nil)))), ?_⟩
    unfold sp_is_within
    walk_at "wp"
    unfold good at q
    simp only [hx, hy, hz, true_and]
    cases e1 : within x 2 3 <;> cases e2 : within y 1 8 <;> cases e3 : within z 0 4 <;> simp only [e1, e2, e3, Bool.and_true, Bool.and_false, Bool.true_and, Bool.false_and, Bool.not_true, Bool.not_false, if_true, if_false, Bool.false_eq_true, ↓reduceIte] at q ⊢ <;> exact q

def shF (l f g : Int) : List (Str × V) := putF "pages" (.int (pw (l * f))) (putF "boxes" (.int (pw g)) (putF "ways" (.int (pw f)) (putF "grain" (.int g) (putF "fan" (.int f) (putF "levels" (.int l) [])))))
def spInit (C N : Addr) : Sp := fun vs H Q E => ∃ (p dx : Addr) (x y z : V), vs = [.ref p, x, y, z] ∧ H p = some (.ins C dx []) ∧ Kn H x ∧ Kn H y ∧ Kn H z ∧
  if good x y z = true then ∃ l f g : Int, x = .int l ∧ y = .int f ∧ z = .int g ∧ Q .non (upd H p (.ins C dx (shF l f g))) else E (.ref N) none H
theorem h_init (T : Txt K mg A) : HaveI P w K mg base "Shape" A.C_Shape 4 ["self", "levels", "fan", "grain"] [] (spInit A.C_Shape A.C_NoShape) := by
  have H_check_measures := h_check (P := P) (w := w) (base := base) T
  have H_power_of_two := h_power_of_two (P := P) (w := w) (base := base) T
  refine T.r_Shape_init.have sc_Shape_init (fun vs H Q E z => ?_) ?_
  · obtain ⟨p, dx, x, y, z, rfl, _⟩ := z; rfl
  · intro f cdv A' outer s H vs Q E hr z
    obtain ⟨p, dx, x, y, z, rfl, hp, hx, hy, hz, q⟩ := z
    refine ⟨_, (pss_cons (ps_expr (pe_callE H_check_measures (hr.mono (by decide)) xw_def (pa_cons (pvM 1) (pa_cons (pvM 2) (pa_cons (pvM 3) pa_nil)))))
      (pss_cons (ps_fld (pvM 0) (pvM 1) rfl)
      (pss_cons (ps_fld (pvM 0) (pvM 2) rfl)
      (pss_cons (ps_fld (pvM 0) (pvM 3) rfl)
      (pss_cons (ps_fld (pvM 0) (pe_callE H_power_of_two (hr.mono (by decide)) xw_def (pa_cons (pvM 2) pa_nil)) rfl)
      (pss_cons (ps_fld (pvM 0) (pe_callE H_power_of_two (hr.mono (by decide)) xw_def (pa_cons (pvM 3) pa_nil)) rfl)
      (pss_one (ps_fld (pvM 0) (pe_callE H_power_of_two (hr.mono (by decide)) xw_def (pa_cons (pe_op op_mul (pvM 1) (pvM 2)) pa_nil)) rfl)))))))), ?_⟩
    unfold sp_check sp_power_of_two
    walk_at "wp"
    simp only [hx, hy, hz, hp, T.cl_Shape, T.na_Shape_levels, T.na_Shape_fan, T.na_Shape_grain, T.na_Shape_ways, T.na_Shape_boxes, T.na_Shape_pages, true_and]
    walk_at "wp"
    simp only [T.cl_Shape, T.na_Shape_levels, T.na_Shape_fan, T.na_Shape_grain, T.na_Shape_ways, T.na_Shape_boxes, T.na_Shape_pages, true_and]
    refine ite2 (fun hg => ?_) (fun hg => ?_)
    · rw [if_pos hg] at q
      obtain ⟨l, f', g, rfl, rfl, rfl, q⟩ := q
      have b := good_ints hg
      have m := mul_24 b.1 b.2.1 b.2.2.1 b.2.2.2.1
      walk_at "wp"
      repeat' (refine And.intro ?_ ?_)
      all_goals first | omega | exact q | (refine Nat.lt_of_lt_of_le (?_ : _ < 9) (by decide); repeat (first | exact Nat.zero_lt_succ _ | refine lt_putF ?_))
    · rw [if_neg hg] at q
      exact q

def sp_cell (K : PySem.W.Frag) (a : Addr) (ns : List Int) : Sp := fun vs H Q _ => ∃ (k : Int), vs = [.ref a, .int k] ∧ SqL K H a (ns.map V.int) ∧ 0 ≤ k ∧ Q (.int (ns.getD k.toNat 0)) H
theorem h_cell (T : Txt K mg A) (a : Addr) (ns : List Int) : Have P w K mg base "_law_cell_at" 1 ["_law_script", "_law_k"] [] (sp_cell K a ns) := by
  refine T.r_l_cell_at.have sc_l_cell_at (fun vs H Q E z => ?_) ?_
  · obtain ⟨k, rfl, _⟩ := z; rfl
  · intro f cdv A' outer s H vs Q E hr z
    obtain ⟨k, rfl, hs, hk, q⟩ := z
    refine ⟨_, (pss_cons (ps_if (pt_cmpR op_lt (pvM 1) (pe_callB call_len rfl T.b_len PySem.boot_len (pa_cons (pvM 0) pa_nil)) (nomark _)) (pss_one (ps_ret (pe_ix ix_list (pvM 0) (pvM 1) (fun _ _ => rfl)))) pss_nil)
      (pss_one (ps_ret pe_int))), ?_⟩
    walk_at "wp"
    refine ⟨ns.length, .inl ⟨_, hs, by simp⟩, ?_⟩
    by_cases c : k < (ns.length : Int)
    · rw [if_pos c]
      refine ⟨_, hs, .int (ns.getD k.toNat 0), ?_, q⟩
      have hlt : k.toNat < ns.length := by omega
      have e : atI (ns.map V.int) ((k.toNat : Nat) : Int) = some (.int (ns.getD k.toNat 0)) := atI_nat (by simp [hlt])
      rw [show ((k.toNat : Nat) : Int) = k by omega] at e
      exact e
    · rw [if_neg c]
      have hge : ns.length ≤ k.toNat := by omega
      rw [show ns.getD k.toNat 0 = 0 by simp [List.getD, hge]] at q
      exact q
theorem same_put {H H' : Hp} {t : Addr} {o : HO} (s : Same H H') (h : H t = none) : Same H (upd H' t o) := fun b u e => by
  rw [upd_ne (ne_of_none e h)]; exact s b u e

theorem same_none {H H' : Hp} {p : Addr} (s : Same H H') (h : H' p = none) : H p = none := by
  cases e : H p with
  | none => rfl
  | some o => rw [s p o e] at h; cases h

abbrev Kvs := List (Key × V)
def ksK (kvs : Kvs) : List Key := kvs.map (·.1)
/-- the least number that is no key -/
def Lst (ks : List Key) (k : Nat) : Prop := (Sum.inl (k : Int) : Key) ∉ ks ∧ ∀ j : Nat, j < k → (Sum.inl (j : Int) : Key) ∈ ks
theorem Lst.one {ks : List Key} {a b : Nat} (h : Lst ks a) (g : Lst ks b) : a = b := by
  rcases Nat.lt_trichotomy a b with q | q | q
  · exact absurd (g.2 a q) h.1
  · exact q
  · exact absurd (h.2 b q) g.1
theorem lst_le0 : ∀ (i : Nat) (ks : List Int), (∀ j : Nat, j < i → (j : Int) ∈ ks) → i ≤ ks.length
  | 0, _, _ => Nat.zero_le _
  | i + 1, ks, h => by
    have hm := h i (Nat.lt_succ_self i)
    have := lst_le0 i (ks.erase (i : Int)) fun j hj => (List.mem_erase_of_ne (by omega)).mpr (h j (by omega))
    rw [List.length_erase_of_mem hm] at this
    have := List.length_pos_of_mem hm
    omega
def kI : Key → Int
  | .inl i => i
  | .inr _ => 0
theorem lst_le (i : Nat) (ks : List Key) (h : ∀ j : Nat, j < i → (Sum.inl (j : Int) : Key) ∈ ks) : i ≤ ks.length := by
  have := lst_le0 i (ks.map kI) fun j hj => List.mem_map.mpr ⟨_, h j hj, rfl⟩
  rwa [List.length_map] at this
theorem in_pos {kvs : Kvs} {k : Key} (h : k ∈ ksK kvs) : (valV kvs k).isSome = true := by
  cases e : valV kvs k with
  | none => exact absurd h (valV_not e)
  | some v => rfl
theorem in_neg {kvs : Kvs} {k : Key} (h : k ∉ ksK kvs) : (valV kvs k).isSome = false := by
  cases e : valV kvs k with
  | none => rfl
  | some v => exact absurd (valV_in e) h
theorem val_some {kvs : Kvs} {k : Key} (h : k ∈ ksK kvs) : ∃ v, valV kvs k = some v := by
  cases e : valV kvs k with
  | none => exact absurd h (valV_not e)
  | some v => exact ⟨v, rfl⟩
theorem val_none {kvs : Kvs} {k : Key} (h : k ∉ ksK kvs) : valV kvs k = none := by
  cases e : valV kvs k with
  | none => rfl
  | some v => exact absurd (valV_in e) h
theorem val_mem {kvs : Kvs} {k : Key} {v : V} (h : valV kvs k = some v) : (k, v) ∈ kvs := by
  unfold valV at h
  cases e : kvs.find? fun kv => decide (kv.1 = k) with
  | none => rw [e] at h; cases h
  | some p =>
    rw [e] at h
    cases h
    have h1 := List.find?_some e
    have h2 := List.mem_of_find?_eq_some e
    have h3 : p.1 = k := by simpa using h1
    rw [← h3]; exact h2
theorem ks_put {kvs : Kvs} {k : Key} {v : V} (h : k ∉ ksK kvs) : putK kvs k v = kvs ++ [(k, v)] := putK_new v (val_none h)
theorem ks_drop (kvs : Kvs) (k : Key) : ksK (dropK kvs k) = (ksK kvs).filter fun x => decide (x ≠ k) := by
  unfold ksK dropK
  rw [List.filter_map]; rfl
def IntK (ks : List Key) : Prop := ∀ k ∈ ks, ∃ i : Int, k = Sum.inl i
theorem IntK.ns : ∀ {ks : List Key}, IntK ks → ks = (ks.map kI).map Sum.inl
  | [], _ => rfl
  | k :: ks, h => by
    obtain ⟨i, rfl⟩ := h k List.mem_cons_self
    rw [List.map_cons, List.map_cons, ← IntK.ns (ks := ks) fun x hx => h x (List.mem_cons_of_mem _ hx)]
    rfl
theorem IntK.app {ks : List Key} {i : Int} (h : IntK ks) : IntK (ks ++ [Sum.inl i]) := fun k hk => by
  rcases List.mem_append.mp hk with q | q
  · exact h k q
  · exact ⟨i, List.mem_singleton.mp q⟩
theorem IntK.drop {ks : List Key} {k : Key} (h : IntK ks) : IntK (ks.filter fun x => decide (x ≠ k)) := fun x hx => h x (List.mem_filter.mp hx).1
/-- what may change: d alone -/
def Kd (d : Addr) (H H' : Hp) : Prop := ∀ c o, H c = some o → c ≠ d → H' c = some o
theorem Kd.trans {d : Addr} {H H1 H2 : Hp} (a : Kd d H H1) (b : Kd d H1 H2) : Kd d H H2 := fun c o h hn => b c o (a c o h hn) hn
theorem Kd.of {d : Addr} {H H' : Hp} (s : Same H H') : Kd d H H' := fun c o h _ => s c o h
theorem kd_upd {d : Addr} {H : Hp} {o : HO} : Kd d H (upd H d o) := fun c u h hn => by rw [upd_ne hn]; exact h

def sp_least_free : Sp := fun vs H Q _ => ∃ (a : Addr) (kvs : Kvs), vs = [.ref a] ∧ H a = some (.dK kvs) ∧ ∀ k : Nat, Lst (ksK kvs) k → Q (.int k) H
theorem h_least_free (T : Txt K mg A) : Have P w K mg base "least_free" 1 ["numbers"] [] sp_least_free := by
  refine T.r_least_free.have sc_least_free (fun vs H Q E z => ?_) ?_
  · obtain ⟨a, kvs, rfl, _⟩ := z; rfl
  · intro f cdv A' outer s H vs Q E hr z
    obtain ⟨a, kvs, rfl, ha, q⟩ := z
    refine ⟨_, (pss_cons (ps_set (i := 1) sc_least_free.nd rfl (Or.inl rfl) pe_int)
      (pss_cons (ps_whileE PassesOwn.leaving (pt_cmp (pc_din (hu_of hr) (pvM 1) (pvM 0))) (pss_one (ps_set (i := 1) sc_least_free.nd rfl (Or.inl rfl) (pe_op op_add (pvM 1) pe_int))))
      (pss_one (ps_ret (pvM 1))))), ?_⟩
    unfold tDIn
    walk_at "wp"
    refine loop_while (fun m σ H' => ∃ i : Nat, σ = [some (.ref a), some (.int i)] ∧ H' = H ∧ m + i = kvs.length + 1 ∧ ∀ j : Nat, j < i → (Sum.inl (j : Int) : Key) ∈ ksK kvs) (kvs.length + 1) ⟨0, rfl, rfl, rfl, fun j h => absurd h (Nat.not_lt_zero _)⟩ (fun m σ H' => ?_)
    rintro ⟨i, rfl, rfl, hm, hj⟩
    walk_at "wp"
    refine ⟨_, .inl ⟨kvs, Sum.inl (i : Int), .inl ha, rfl, rfl⟩, ?_⟩
    by_cases c : (Sum.inl (i : Int) : Key) ∈ ksK kvs
    · rw [in_pos c]
      have hj' : ∀ j : Nat, j < i + 1 → (Sum.inl (j : Int) : Key) ∈ ksK kvs := fun j h => by
        rcases Nat.lt_succ_iff_lt_or_eq.mp h with q | rfl
        · exact hj j q
        · exact c
      have hle := lst_le (i + 1) (ksK kvs) hj'
      have hlk : (ksK kvs).length = kvs.length := by unfold ksK; rw [List.length_map]
      refine iteT (turnW ?_)
      walk_at "wp"
      exact ⟨m - 1, by omega, i + 1, rfl, by omega, hj'⟩
    · rw [in_neg c]
      refine iteF ?_
      exact q i ⟨c, hj⟩

def sp_l_least : Sp := fun vs H Q _ => ∃ (a : Addr) (kvs : Kvs), vs = [.ref a] ∧ H a = some (.dK kvs) ∧ ∀ k : Nat, Lst (ksK kvs) k → Q (.int k) H
theorem h_l_least (T : Txt K mg A) : Have P w K mg base "_law_least" 1 ["_law_numbers"] [] sp_l_least := by
  refine T.r_l_least.have sc_l_least (fun vs H Q E z => ?_) ?_
  · obtain ⟨a, kvs, rfl, _⟩ := z; rfl
  · intro f cdv A' outer s H vs Q E hr z
    obtain ⟨a, kvs, rfl, ha, q⟩ := z
    refine ⟨_, (pss_cons (ps_set (i := 1) sc_l_least.nd rfl (Or.inl rfl) pe_int)
      (pss_cons (ps_whileE PassesOwn.leaving (pt_cmp (pc_din (hu_of hr) (pvM 1) (pvM 0))) (pss_one (ps_set (i := 1) sc_l_least.nd rfl (Or.inl rfl) (pe_op op_add (pvM 1) pe_int))))
      (pss_one (ps_ret (pvM 1))))), ?_⟩
    unfold tDIn
    walk_at "wp"
    refine loop_while (fun m σ H' => ∃ i : Nat, σ = [some (.ref a), some (.int i)] ∧ H' = H ∧ m + i = kvs.length + 1 ∧ ∀ j : Nat, j < i → (Sum.inl (j : Int) : Key) ∈ ksK kvs) (kvs.length + 1) ⟨0, rfl, rfl, rfl, fun j h => absurd h (Nat.not_lt_zero _)⟩ (fun m σ H' => ?_)
    rintro ⟨i, rfl, rfl, hm, hj⟩
    walk_at "wp"
    refine ⟨_, .inl ⟨kvs, Sum.inl (i : Int), .inl ha, rfl, rfl⟩, ?_⟩
    by_cases c : (Sum.inl (i : Int) : Key) ∈ ksK kvs
    · rw [in_pos c]
      have hj' : ∀ j : Nat, j < i + 1 → (Sum.inl (j : Int) : Key) ∈ ksK kvs := fun j h => by
        rcases Nat.lt_succ_iff_lt_or_eq.mp h with q | rfl
        · exact hj j q
        · exact c
      have hle := lst_le (i + 1) (ksK kvs) hj'
      have hlk : (ksK kvs).length = kvs.length := by unfold ksK; rw [List.length_map]
      refine iteT (turnW ?_)
      walk_at "wp"
      exact ⟨m - 1, by omega, i + 1, rfl, by omega, hj'⟩
    · rw [in_neg c]
      refine iteF ?_
      exact q i ⟨c, hj⟩

def stF (a : Addr) : List (Str × V) := putF "runs" (.ref a) []
theorem stF_runs {a : Addr} : (stF a).lookup ("runs" : Str) = some (.ref a) := by rfl
theorem stF_no {a : Addr} {m : Str} (h : ¬ m ∈ (["runs"] : List Str)) : (stF a).lookup m = none := by
  simp only [List.mem_cons, List.not_mem_nil, or_false] at h
  unfold stF
  simp only [lookup_putF, h, if_false]
  rfl
/-- stretches with nothing in them -/
def EmAt (C : Addr) (H : Hp) (v : V) : Prop := ∃ p dx a, v = .ref p ∧ H p = some (.ins C dx (stF a)) ∧ H a = some (.lst [])
theorem EmAt.keep {C d : Addr} {H H' : Hp} {v : V} {kvs : Kvs} (h : EmAt C H v) (hd : H d = some (.dK kvs)) (k : Kd d H H') : EmAt C H' v :=
  let ⟨p, dx, a, e, h1, h2⟩ := h
  ⟨p, dx, a, e, k _ _ h1 (ne_of h1 hd (fun z => nomatch z)), k _ _ h2 (ne_of h2 hd (fun z => nomatch z))⟩
theorem EmAt.same {C : Addr} {H H' : Hp} {v : V} (h : EmAt C H v) (s : Same H H') : EmAt C H' v :=
  let ⟨p, dx, a, e, h1, h2⟩ := h
  ⟨p, dx, a, e, s _ _ h1, s _ _ h2⟩
def sp_sinit (C : Addr) : Sp := fun vs H Q _ => ∃ (p dx : Addr), vs = [.ref p] ∧ H p = some (.ins C dx []) ∧ ∀ a, H a = none → Q .non (upd (upd H a (.lst [])) p (.ins C dx (stF a)))
theorem h_sinit (T : Txt K mg A) : HaveI P w K mg base "Stretches" A.C_Stretches 1 ["self"] [] (sp_sinit A.C_Stretches) := by
  refine T.r_Stretches_init.have sc_Stretches_init (fun vs H Q E z => ?_) ?_
  · obtain ⟨p, dx, rfl, _⟩ := z; rfl
  · intro f cdv A' outer s H vs Q E hr z
    obtain ⟨p, dx, rfl, hp, q⟩ := z
    refine ⟨_, (pss_one (ps_fld (pvM 0) (pe_lst pa_nil) rfl)), ?_⟩
    walk_at "wp"
    intro a ha
    have hpa : p ≠ a := ne_of_none hp ha
    exact ⟨_, dx, [], by rw [upd_ne hpa]; exact hp, T.cl_Stretches, T.na_Stretches_runs, by show 0 < 1000; decide, q a ha⟩
theorem em_made {C : Addr} {H : Hp} {x dx a : Addr} (hx : H x = none) (hdx : H dx = none) (hne : dx ≠ x) (ha : upd (upd H dx (.own x)) x (.ins C dx []) a = none) :
    Same H (upd (upd (upd (upd H dx (.own x)) x (.ins C dx [])) a (.lst [])) x (.ins C dx (stF a))) ∧ H a = none ∧ a ≠ x ∧ upd (upd (upd (upd H dx (.own x)) x (.ins C dx [])) a (.lst [])) x (.ins C dx (stF a)) a = some (.lst []) := by
  have nax : a ≠ x := fun z => by rw [z, upd_same] at ha; cases ha
  rw [upd_ne nax] at ha
  have nad : a ≠ dx := fun z => by rw [z, upd_same] at ha; cases ha
  rw [upd_ne nad] at ha
  refine ⟨fun c o h => ?_, ha, nax, by rw [upd_ne nax, upd_same]⟩
  rw [upd_ne (ne_of_none h hx), upd_ne (ne_of_none h ha), upd_ne (ne_of_none h hx), upd_ne (ne_of_none h hdx)]
  exact h
def sp_etied (C : Addr) : Sp := fun vs H Q _ => ∃ (v : V) (b : Int), vs = [v, .int b] ∧ EmAt C H v ∧ ∀ H', Same H H' → Q (.bl false) H'
theorem h_etied (T : Txt K mg A) : HaveM P w K mg base A.C_Stretches "is_tied" 1 ["self", "bank"] [] (sp_etied A.C_Stretches) := by
  refine T.r_Stretches_is_tied.have sc_Stretches_is_tied (fun vs H Q E z => ?_) ?_
  · obtain ⟨v, b, rfl, _⟩ := z; rfl
  · intro f cdv A' outer s H vs Q E hr z
    obtain ⟨v, b, rfl, ⟨p, dx, a, rfl, h1, h2⟩, q⟩ := z
    refine ⟨_, (pss_one (ps_ret (pe_callB (call_any rfl) rfl T.b_any (by decide +kernel) (pa_cons (pe_comp rfl (pi_list (pe_fld (pvM 0) rfl)) (x := "run") (fs := ["bank"]) (ix := [1]) rfl rfl (fun _ _ _ _ _ _ => (pg_name (i := 0) (show (["run", "bank"] : List Str).Nodup by decide +kernel) rfl (Or.inl rfl))) (fun _ _ _ _ _ _ => pf_nil) (fun _ _ _ _ _ _ => (pe_and (pe_cmpR op_notN (pe_ix (ix_listC (K := K) rfl) (pvM 0) pe_int (fun _ _ => rfl)) pe_non (nomark _)) (pe_one (pe_cmpR op_eq (pe_ix (ix_listC (K := K) rfl) (pe_ix (ix_listC (K := K) rfl) (pvM 0) pe_int (fun _ _ => rfl)) pe_int (fun _ _ => rfl)) (pvM 1) (nomark _)))))) pa_nil)))), ?_⟩
    walk_at "wp"
    simp only [h1]
    walk_at "wp"
    refine ⟨T.cl_Stretches, T.na_Stretches_runs, _, stF_runs, a, rfl, ⟨_, SqL.of h2⟩, fun D hD => ?_⟩
    refine comp_list (xs := []) (fun i ys σ H' => Same H H' ∧ H' D = some (.lst ys) ∧ ys = []) ⟨same_upd same_refl hD, upd_same, rfl⟩ (fun i ys σ H' _ ⟨s2, _⟩ => SqL.of (s2 _ _ h2)) (fun i v ys σ H' hi => by simp at hi) (fun ys σ H' => ?_)
    rintro ⟨s2, hDD, rfl⟩
    exact ⟨[], SqL.of hDD, q _ s2⟩
def sp_etold (C : Addr) : Sp := fun vs H Q _ => ∃ v, vs = [v] ∧ EmAt C H v ∧ ∀ t, H t = none → Q (.ref t) (upd H t (.lst []))
theorem h_etold (T : Txt K mg A) : HaveM P w K mg base A.C_Stretches "told" 1 ["self"] [] (sp_etold A.C_Stretches) := by
  refine T.r_Stretches_told.have sc_Stretches_told (fun vs H Q E z => ?_) ?_
  · obtain ⟨v, rfl, _⟩ := z; rfl
  · intro f cdv A' outer s H vs Q E hr z
    obtain ⟨v, rfl, ⟨p, dx, a, rfl, h1, h2⟩, q⟩ := z
    refine ⟨_, (pss_one (ps_ret (pe_callTy call_list_of rfl T.b_list PyProof.Rows.boot_list (pa_cons (pe_fld (pvM 0) rfl) pa_nil)))), ?_⟩
    walk_at "wp"
    simp only [h1]
    walk_at "wp"
    exact ⟨T.cl_Stretches, T.na_Stretches_runs, _, stF_runs, a, rfl, _, .inl (SqL.of h2), q⟩
def sp_ecop (C : Addr) : Sp := fun vs H Q _ => ∃ v, vs = [v] ∧ EmAt C H v ∧ ∀ u H', Same H H' → EmAt C H' u → Q u H'
theorem h_ecop (T : Txt K mg A) : HaveM P w K mg base A.C_Stretches "copied" 3 ["self"] [] (sp_ecop A.C_Stretches) := by
  have H_Stretches_init := h_sinit (P := P) (w := w) (base := base) T
  refine T.r_Stretches_copied.have sc_Stretches_copied (fun vs H Q E z => ?_) ?_
  · obtain ⟨v, rfl, _⟩ := z; rfl
  · intro f cdv A' outer s H vs Q E hr z
    obtain ⟨v, rfl, ⟨p, dx, a, rfl, h1, h2⟩, q⟩ := z
    refine ⟨_, (pss_cons (ps_set (i := 1) sc_Stretches_copied.nd rfl (Or.inl rfl) (pe_makeE0 H_Stretches_init (hr.mono (by decide)) xw_def))
      (pss_cons (ps_fld (pvM 1) (pe_callTy call_list_of rfl T.b_list PyProof.Rows.boot_list (pa_cons (pe_fld (pvM 0) rfl) pa_nil)) rfl)
      (pss_one (ps_ret (pvM 1))))), ?_⟩
    unfold sp_sinit
    walk_at "wp"
    intro x ex hx hex hne a2 ha2
    obtain ⟨s1, ha0, nax, ha3⟩ := em_made hx hex hne ha2
    have hx3 : upd (upd (upd (upd H ex (.own x)) x (.ins A.C_Stretches ex [])) a2 (.lst [])) x (.ins A.C_Stretches ex (stF a2)) x = some (.ins A.C_Stretches ex (stF a2)) := upd_same
    generalize upd (upd (upd (upd H ex (.own x)) x (.ins A.C_Stretches ex [])) a2 (.lst [])) x (.ins A.C_Stretches ex (stF a2)) = H3 at *
    refine ⟨_, dx, _, s1 _ _ h1, T.cl_Stretches, T.na_Stretches_runs, _, stF_runs, a, rfl, _, .inl (SqL.of (s1 _ _ h2)), fun l hl => ?_⟩
    have nxl : x ≠ l := ne_of_none hx3 hl
    refine ⟨_, ex, _, by rw [upd_ne nxl]; exact hx3, T.cl_Stretches, T.na_Stretches_runs, by show 1 < 1000; decide, ?_⟩
    have e : putF "runs" (.ref l) (stF a2) = stF l := rfl
    rw [e]
    refine q _ _ (fun c o h => ?_) ⟨x, ex, l, rfl, upd_same, by rw [upd_ne nxl.symm, upd_same]⟩
    rw [upd_ne (ne_of_none h hx), upd_ne (ne_of_none (s1 _ _ h) hl)]
    exact s1 _ _ h

def hsF (sh td bd : Addr) : List (Str × V) := putF "banks" (.ref bd) (putF "tasks" (.ref td) (putF "shape" (.ref sh) []))
theorem hsF_tasks {sh td bd : Addr} : (hsF sh td bd).lookup ("tasks" : Str) = some (.ref td) := by rfl
theorem hsF_banks {sh td bd : Addr} : (hsF sh td bd).lookup ("banks" : Str) = some (.ref bd) := by rfl
theorem hsF_no {sh td bd : Addr} {m : Str} (h : ¬ m ∈ (["shape", "tasks", "banks"] : List Str)) : (hsF sh td bd).lookup m = none := by
  simp only [List.mem_cons, List.not_mem_nil, or_false, not_or] at h
  unfold hsF
  simp only [lookup_putF, h.1, h.2.1, h.2.2, if_false]
  rfl
structure Hz where
  p : Addr
  sh : Addr
  td : Addr
  bd : Addr
structure HsAt (C S : Addr) (H : Hp) (z : Hz) (tk bk : Kvs) : Prop where
  me : ∃ dx, H z.p = some (.ins C dx (hsF z.sh z.td z.bd))
  t : H z.td = some (.dK tk)
  b : H z.bd = some (.dK bk)
  em : ∀ kv ∈ tk, EmAt S H kv.2
  ne : z.td ≠ z.bd
theorem HsAt.same {C S : Addr} {H H' : Hp} {z : Hz} {tk bk : Kvs} (h : HsAt C S H z tk bk) (s : Same H H') : HsAt C S H' z tk bk :=
  ⟨let ⟨dx, e⟩ := h.me; ⟨dx, s _ _ e⟩, s _ _ h.t, s _ _ h.b, fun kv hk => (h.em kv hk).same s, h.ne⟩
/-- another dict was changed -/
theorem HsAt.kd {C S : Addr} {H H' : Hp} {z : Hz} {tk bk kvs : Kvs} {d : Addr} (h : HsAt C S H z tk bk) (hd : H d = some (.dK kvs)) (k : Kd d H H') (h1 : z.td ≠ d) (h2 : z.bd ≠ d) : HsAt C S H' z tk bk :=
  ⟨let ⟨dx, e⟩ := h.me; ⟨dx, k _ _ e (ne_of e hd (fun z => nomatch z))⟩, k _ _ h.t h1, k _ _ h.b h2, fun kv hk => (h.em kv hk).keep hd k, h.ne⟩
def sp_hinit (C : Addr) : Sp := fun vs H Q _ => ∃ (p dx sh : Addr), vs = [.ref p, .ref sh] ∧ H p = some (.ins C dx []) ∧ ∀ td bd H', H td = none → H bd = none → td ≠ bd → Kd p H H' → H' p = some (.ins C dx (hsF sh td bd)) → H' td = some (.dK []) → H' bd = some (.dK []) → Q .non H'
theorem h_hinit (T : Txt K mg A) : HaveI P w K mg base "House" A.C_House 1 ["self", "shape"] [] (sp_hinit A.C_House) := by
  refine T.r_House_init.have sc_House_init (fun vs H Q E z => ?_) ?_
  · obtain ⟨p, dx, sh, rfl, _⟩ := z; rfl
  · intro f cdv A' outer s H vs Q E hr z
    obtain ⟨p, dx, sh, rfl, hp, q⟩ := z
    refine ⟨_, (pss_cons (ps_fld (pvM 0) (pvM 1) rfl)
      (pss_cons (ps_fld (pvM 0) pe_dnewK rfl)
      (pss_one (ps_fld (pvM 0) pe_dnewK rfl)))), ?_⟩
    walk_at "wp"
    simp only [hp]
    walk_at "wp"
    refine ⟨T.cl_House, T.na_House_shape, fun td htd => ?_⟩
    have ntp : td ≠ p := fun z => by rw [z, upd_same] at htd; cases htd
    have htd0 : H td = none := by rw [upd_ne ntp] at htd; exact htd
    refine ⟨_, dx, _, by rw [upd_ne ntp.symm, upd_same], T.cl_House, T.na_House_tasks, by show 1 < 1000; decide, fun bd hbd => ?_⟩
    have nbp : bd ≠ p := fun z => by rw [z, upd_same] at hbd; cases hbd
    rw [upd_ne nbp] at hbd
    have nbt : bd ≠ td := fun z => by rw [z, upd_same] at hbd; cases hbd
    rw [upd_ne nbt, upd_ne nbp] at hbd
    refine ⟨_, dx, _, by rw [upd_ne nbp.symm, upd_same], T.cl_House, T.na_House_banks, by show 2 < 1000; decide, ?_⟩
    refine q td bd _ htd0 hbd nbt.symm (fun c o h hn => ?_) upd_same (by rw [upd_ne ntp, upd_ne nbt.symm, upd_ne ntp, upd_same]) (by rw [upd_ne nbp, upd_same])
    rw [upd_ne hn, upd_ne (ne_of_none h hbd), upd_ne hn, upd_ne (ne_of_none h htd0), upd_ne hn]
    exact h
def sp_ct (C S N : Addr) : Sp := fun vs H Q E => ∃ (z : Hz) (tk bk : Kvs) (n : Int), vs = [.ref z.p, .int n] ∧ HsAt C S H z tk bk ∧ ((Sum.inl n ∈ ksK tk ∧ Q .non H) ∨ (Sum.inl n ∉ ksK tk ∧ E (.ref N) none H))
theorem h_ct (T : Txt K mg A) : HaveM P w K mg base A.C_House "check_task" 1 ["self", "task"] [] (sp_ct A.C_House A.C_Stretches A.C_NoTask) := by
  refine T.r_House_check_task.have sc_House_check_task (fun vs H Q E z => ?_) ?_
  · obtain ⟨z, tk, bk, n, rfl, _⟩ := z; rfl
  · intro f cdv A' outer s H vs Q E hr z
    obtain ⟨z, tk, bk, n, rfl, hS, q⟩ := z
    obtain ⟨dx, h1⟩ := hS.me
    refine ⟨_, (pss_one (ps_if (pt_cmp (pc_dnotin (hu_of hr) (pvM 1) (pe_fld (pvM 0) rfl))) (pss_one (ps_raise xr_def rfl T.x_NoTask (pa_cons pe_str pa_nil))) pss_nil)), ?_⟩
    unfold tDNotIn
    walk_at "wp"
    simp only [h1]
    walk_at "wp"
    refine ⟨T.cl_House, T.na_House_tasks, _, hsF_tasks, z.td, rfl, _, .inl ⟨tk, Sum.inl n, .inl hS.t, rfl, rfl⟩, ?_⟩
    rcases q with ⟨h, q⟩ | ⟨h, q⟩
    · rw [in_pos h]; exact iteF q
    · rw [in_neg h]; exact iteT q
def sp_cb (C S N : Addr) : Sp := fun vs H Q E => ∃ (z : Hz) (tk bk : Kvs) (n : Int), vs = [.ref z.p, .int n] ∧ HsAt C S H z tk bk ∧ ((Sum.inl n ∈ ksK bk ∧ Q .non H) ∨ (Sum.inl n ∉ ksK bk ∧ E (.ref N) none H))
theorem h_cb (T : Txt K mg A) : HaveM P w K mg base A.C_House "check_bank" 1 ["self", "bank"] [] (sp_cb A.C_House A.C_Stretches A.C_NoBank) := by
  refine T.r_House_check_bank.have sc_House_check_bank (fun vs H Q E z => ?_) ?_
  · obtain ⟨z, tk, bk, n, rfl, _⟩ := z; rfl
  · intro f cdv A' outer s H vs Q E hr z
    obtain ⟨z, tk, bk, n, rfl, hS, q⟩ := z
    obtain ⟨dx, h1⟩ := hS.me
    refine ⟨_, (pss_one (ps_if (pt_cmp (pc_dnotin (hu_of hr) (pvM 1) (pe_fld (pvM 0) rfl))) (pss_one (ps_raise xr_def rfl T.x_NoBank (pa_cons pe_str pa_nil))) pss_nil)), ?_⟩
    unfold tDNotIn
    walk_at "wp"
    simp only [h1]
    walk_at "wp"
    refine ⟨T.cl_House, T.na_House_banks, _, hsF_banks, z.bd, rfl, _, .inl ⟨bk, Sum.inl n, .inl hS.b, rfl, rfl⟩, ?_⟩
    rcases q with ⟨h, q⟩ | ⟨h, q⟩
    · rw [in_pos h]; exact iteF q
    · rw [in_neg h]; exact iteT q
/-- a task more -/
theorem HsAt.more {C S : Addr} {H H' : Hp} {z : Hz} {tk bk : Kvs} {k : Key} {v : V} (h : HsAt C S H z tk bk) (s : Same H H') (he : EmAt S H' v) (hk : k ∉ ksK tk) : HsAt C S (upd H' z.td (.dK (tk ++ [(k, v)]))) z (tk ++ [(k, v)]) bk := by
  have hd := s _ _ h.t
  obtain ⟨dx, e⟩ := h.me
  refine ⟨⟨dx, ?_⟩, upd_same, ?_, fun kv hkv => ?_, h.ne⟩
  · rw [upd_ne (ne_of (s _ _ e) hd (fun z => nomatch z))]; exact s _ _ e
  · rw [upd_ne h.ne.symm]; exact s _ _ h.b
  · rcases List.mem_append.mp hkv with q | q
    · exact ((h.em kv q).same s).keep hd kd_upd
    · rw [List.mem_singleton.mp q]; exact he.keep hd kd_upd
theorem HsAt.less {C S : Addr} {H : Hp} {z : Hz} {tk bk : Kvs} {k : Key} (h : HsAt C S H z tk bk) : HsAt C S (upd H z.td (.dK (dropK tk k))) z (dropK tk k) bk := by
  obtain ⟨dx, e⟩ := h.me
  refine ⟨⟨dx, ?_⟩, upd_same, ?_, fun kv hkv => ?_, h.ne⟩
  · rw [upd_ne (ne_of e h.t (fun z => nomatch z))]; exact e
  · rw [upd_ne h.ne.symm]; exact h.b
  · exact (h.em kv (dropK_mem hkv)).keep h.t kd_upd
theorem HsAt.bank {C S : Addr} {H : Hp} {z : Hz} {tk bk bk' : Kvs} (h : HsAt C S H z tk bk) : HsAt C S (upd H z.bd (.dK bk')) z tk bk' := by
  obtain ⟨dx, e⟩ := h.me
  refine ⟨⟨dx, ?_⟩, ?_, upd_same, fun kv hkv => ?_, h.ne⟩
  · rw [upd_ne (ne_of e h.b (fun z => nomatch z))]; exact e
  · rw [upd_ne h.ne]; exact h.t
  · exact (h.em kv hkv).keep h.b kd_upd
def sp_nt (C S : Addr) : Sp := fun vs H Q _ => ∃ (z : Hz) (tk bk : Kvs), vs = [.ref z.p] ∧ HsAt C S H z tk bk ∧ tk.length < 1000 ∧
  ∀ (k : Nat) (v : V) (H' : Hp), Lst (ksK tk) k → HsAt C S H' z (tk ++ [(Sum.inl (k : Int), v)]) bk → Kd z.td H H' → Q (.int k) H'
theorem h_nt (T : Txt K mg A) : HaveM P w K mg base A.C_House "new_task" 3 ["self"] [] (sp_nt A.C_House A.C_Stretches) := by
  have H_least_free := h_least_free (P := P) (w := w) (base := base) T
  have H_Stretches_init := h_sinit (P := P) (w := w) (base := base) T
  refine T.r_House_new_task.have sc_House_new_task (fun vs H Q E z => ?_) ?_
  · obtain ⟨z, tk, bk, rfl, _⟩ := z; rfl
  · intro f cdv A' outer s H vs Q E hr z
    obtain ⟨z, tk, bk, rfl, hS, hl, q⟩ := z
    obtain ⟨dx, h1⟩ := hS.me
    refine ⟨_, (pss_cons (ps_set (i := 1) sc_House_new_task.nd rfl (Or.inl rfl) (pe_callE H_least_free (hr.mono (by decide)) xw_def (pa_cons (pe_fld (pvM 0) rfl) pa_nil)))
      (pss_cons (ps_dput (hu_of hr) (pe_fld (pvM 0) rfl) (pvM 1) (pe_makeE0 H_Stretches_init (hr.mono (by decide)) xw_def) rfl)
      (pss_one (ps_ret (pvM 1))))), ?_⟩
    unfold sp_least_free sp_sinit sDPut
    walk_at "wp"
    simp only [h1]
    walk_at "wp"
    refine ⟨T.cl_House, T.na_House_tasks, _, hsF_tasks, z.td, rfl, tk, hS.t, fun k hk x ex hx hex hne a2 ha2 => ?_⟩
    obtain ⟨s1, ha0, nax, ha3⟩ := em_made hx hex hne ha2
    have hx3 : upd (upd (upd (upd H ex (.own x)) x (.ins A.C_Stretches ex [])) a2 (.lst [])) x (.ins A.C_Stretches ex (stF a2)) x = some (.ins A.C_Stretches ex (stF a2)) := upd_same
    generalize upd (upd (upd (upd H ex (.own x)) x (.ins A.C_Stretches ex [])) a2 (.lst [])) x (.ins A.C_Stretches ex (stF a2)) = H3 at *
    have hz := PySem.sizeLine_eq
    refine ⟨_, dx, _, s1 _ _ h1, T.cl_House, T.na_House_tasks, _, hsF_tasks, z.td, rfl, _, .inl ⟨tk, Sum.inl (k : Int), s1 _ _ hS.t, rfl, by omega, rfl⟩, ?_⟩
    rw [ks_put hk.1]
    exact q k _ _ hk (hS.more s1 ⟨x, ex, a2, rfl, hx3, ha3⟩ hk.1) ((Kd.of s1).trans kd_upd)
def sp_fork (C S N : Addr) : Sp := fun vs H Q E => ∃ (z : Hz) (tk bk : Kvs) (n : Int), vs = [.ref z.p, .int n] ∧ HsAt C S H z tk bk ∧ tk.length < 1000 ∧
  ((Sum.inl n ∈ ksK tk ∧ ∀ (k : Nat) (v : V) (H' : Hp), Lst (ksK tk) k → HsAt C S H' z (tk ++ [(Sum.inl (k : Int), v)]) bk → Kd z.td H H' → Q (.int k) H') ∨ (Sum.inl n ∉ ksK tk ∧ E (.ref N) none H))
theorem h_fork (T : Txt K mg A) : HaveM P w K mg base A.C_House "fork" 4 ["self", "task"] [] (sp_fork A.C_House A.C_Stretches A.C_NoTask) := by
  have H_least_free := h_least_free (P := P) (w := w) (base := base) T
  have H_Stretches_copied := h_ecop (P := P) (w := w) (base := base) T
  have H_House_check_task := h_ct (P := P) (w := w) (base := base) T
  refine T.r_House_fork.have sc_House_fork (fun vs H Q E z => ?_) ?_
  · obtain ⟨z, tk, bk, n, rfl, _⟩ := z; rfl
  · intro f cdv A' outer s H vs Q E hr z
    obtain ⟨z, tk, bk, n, rfl, hS, hl, q⟩ := z
    obtain ⟨dx, h1⟩ := hS.me
    refine ⟨_, (pss_cons (ps_expr (pe_methE (pvM 0) T.cl_House H_House_check_task (hr.mono (by decide)) xw_def (pa_cons (pvM 1) pa_nil)))
      (pss_cons (ps_set (i := 2) sc_House_fork.nd rfl (Or.inl rfl) (pe_callE H_least_free (hr.mono (by decide)) xw_def (pa_cons (pe_fld (pvM 0) rfl) pa_nil)))
      (pss_cons (ps_dput (hu_of hr) (pe_fld (pvM 0) rfl) (pvM 2) (pe_methE0 (pe_dget (hu_of hr) (pe_fld (pvM 0) rfl) (pvM 1) (fun _ _ => rfl)) T.cl_Stretches H_Stretches_copied (hr.mono (by decide)) xw_def) rfl)
      (pss_one (ps_ret (pvM 2)))))), ?_⟩
    unfold sp_least_free sp_ecop sp_ct sDPut tDGet
    walk_at "wp"
    simp only [h1]
    walk_at "wp"
    refine ⟨hsF_no (by decide +kernel), z, rfl, tk, bk, hS, ?_⟩
    rcases q with ⟨h, q⟩ | ⟨h, q⟩
    · obtain ⟨v, hv⟩ := val_some h
      obtain ⟨p2, dx2, a2, e2, g1, g2⟩ := hS.em _ (val_mem hv)
      have e2 : v = .ref p2 := e2
      subst e2
      refine .inl ⟨h, T.cl_House, T.na_House_tasks, _, hsF_tasks, z.td, rfl, tk, hS.t, fun k hk => ⟨T.cl_House, T.na_House_tasks, _, hsF_tasks, z.td, rfl, _, .inl ⟨tk, Sum.inl n, .inl hS.t, rfl, hv.symm⟩, p2, rfl, dx2, _, g1, stF_no (by decide +kernel), ⟨p2, dx2, a2, rfl, g1, g2⟩, fun u H1 s1 hu => ?_⟩⟩
      have hz := PySem.sizeLine_eq
      refine ⟨_, dx, _, s1 _ _ h1, T.cl_House, T.na_House_tasks, _, hsF_tasks, z.td, rfl, _, .inl ⟨tk, Sum.inl (k : Int), s1 _ _ hS.t, rfl, by omega, rfl⟩, ?_⟩
      rw [ks_put hk.1]
      exact q k _ _ hk (hS.more s1 hu hk.1) ((Kd.of s1).trans kd_upd)
    · exact .inr ⟨h, q⟩
def sp_end (C S N : Addr) : Sp := fun vs H Q E => ∃ (z : Hz) (tk bk : Kvs) (n : Int), vs = [.ref z.p, .int n] ∧ HsAt C S H z tk bk ∧
  ((Sum.inl n ∈ ksK tk ∧ ∀ (H' : Hp), HsAt C S H' z (dropK tk (Sum.inl n)) bk → Kd z.td H H' → Q .non H') ∨ (Sum.inl n ∉ ksK tk ∧ E (.ref N) none H))
theorem h_end (T : Txt K mg A) : HaveM P w K mg base A.C_House "end_task" 2 ["self", "task"] [] (sp_end A.C_House A.C_Stretches A.C_NoTask) := by
  have H_House_check_task := h_ct (P := P) (w := w) (base := base) T
  refine T.r_House_end_task.have sc_House_end_task (fun vs H Q E z => ?_) ?_
  · obtain ⟨z, tk, bk, n, rfl, _⟩ := z; rfl
  · intro f cdv A' outer s H vs Q E hr z
    obtain ⟨z, tk, bk, n, rfl, hS, q⟩ := z
    obtain ⟨dx, h1⟩ := hS.me
    refine ⟨_, (pss_cons (ps_expr (pe_methE (pvM 0) T.cl_House H_House_check_task (hr.mono (by decide)) xw_def (pa_cons (pvM 1) pa_nil)))
      (pss_one (ps_expr (pe_dpop1 (pe_fld (pvM 0) rfl) (pvM 1) ⟨rfl, rfl, rfl, rfl⟩)))), ?_⟩
    unfold sp_ct tDPop1
    walk_at "wp"
    simp only [h1]
    walk_at "wp"
    refine ⟨hsF_no (by decide +kernel), z, rfl, tk, bk, hS, ?_⟩
    rcases q with ⟨h, q⟩ | ⟨h, q⟩
    · obtain ⟨v, hv⟩ := val_some h
      exact .inl ⟨h, T.cl_House, T.na_House_tasks, _, hsF_tasks, z.td, rfl, .inl ⟨tk, .inl hS.t⟩, tk, hS.t, Sum.inl n, rfl, v, hv, q _ hS.less kd_upd⟩
    · exact .inr ⟨h, q⟩
def sp_nb (C S N : Addr) : Sp := fun vs H Q E => ∃ (z : Hz) (tk bk : Kvs) (n : Int), vs = [.ref z.p, .int n] ∧ HsAt C S H z tk bk ∧ bk.length < 1000 ∧
  (((1 ≤ n ∧ n ≤ 64) ∧ ∀ (k : Nat) (H' : Hp), Lst (ksK bk) k → HsAt C S H' z tk (bk ++ [(Sum.inl (k : Int), .int n)]) → Kd z.bd H H' → Q (.int k) H') ∨ (¬ (1 ≤ n ∧ n ≤ 64) ∧ E (.ref N) none H))
theorem h_nb (T : Txt K mg A) : HaveM P w K mg base A.C_House "new_bank" 4 ["self", "many"] [] (sp_nb A.C_House A.C_Stretches A.C_OutOfBank) := by
  have H_least_free := h_least_free (P := P) (w := w) (base := base) T
  have H_is_within := h_is_within (P := P) (w := w) (base := base) T
  refine T.r_House_new_bank.have sc_House_new_bank (fun vs H Q E z => ?_) ?_
  · obtain ⟨z, tk, bk, n, rfl, _⟩ := z; rfl
  · intro f cdv A' outer s H vs Q E hr z
    obtain ⟨z, tk, bk, n, rfl, hS, hl, q⟩ := z
    obtain ⟨dx, h1⟩ := hS.me
    refine ⟨_, (pss_cons (ps_if (pt_not (pt_val (pe_callE H_is_within (hr.mono (by decide)) xw_def (pa_cons (pvM 1) (pa_cons pe_int (pa_cons (pe_globE rfl T.c_MOST_IN_BANK) pa_nil)))))) (pss_one (ps_raise xr_def rfl T.x_OutOfBank (pa_cons pe_str pa_nil))) pss_nil)
      (pss_cons (ps_set (i := 2) sc_House_new_bank.nd rfl (Or.inl rfl) (pe_callE H_least_free (hr.mono (by decide)) xw_def (pa_cons (pe_fld (pvM 0) rfl) pa_nil)))
      (pss_cons (ps_dput (hu_of hr) (pe_fld (pvM 0) rfl) (pvM 2) (pvM 1) rfl)
      (pss_one (ps_ret (pvM 2)))))), ?_⟩
    unfold sp_least_free sp_is_within sDPut
    walk_at "wp"
    simp only [h1]
    walk_at "wp"
    have hz := PySem.sizeLine_eq
    rw [within_int]
    rcases q with ⟨⟨h2, h3⟩, q⟩ | ⟨h, q⟩
    · rw [decide_eq_true h2, decide_eq_true h3]
      refine iteF ⟨T.cl_House, T.na_House_banks, _, hsF_banks, z.bd, rfl, bk, hS.b, fun k hk => ⟨T.cl_House, T.na_House_banks, _, hsF_banks, z.bd, rfl, _, .inl ⟨bk, Sum.inl (k : Int), hS.b, rfl, by omega, rfl⟩, ?_⟩⟩
      rw [ks_put hk.1]
      exact q k _ hk hS.bank kd_upd
    · have e : (decide (1 ≤ n) && decide (n ≤ 64)) = false := by
        rw [Bool.eq_false_iff]
        intro z
        simp only [Bool.and_eq_true, decide_eq_true_eq] at z
        exact h z
      rw [e]
      exact iteT q
def sp_db (C S N : Addr) : Sp := fun vs H Q E => ∃ (z : Hz) (tk bk : Kvs) (n : Int), vs = [.ref z.p, .int n] ∧ HsAt C S H z tk bk ∧ tk.length < 1000 ∧
  ((Sum.inl n ∈ ksK bk ∧ ∀ (H' : Hp), HsAt C S H' z tk (dropK bk (Sum.inl n)) → Kd z.bd H H' → Q .non H') ∨ (Sum.inl n ∉ ksK bk ∧ E (.ref N) none H))
theorem h_db (T : Txt K mg A) : HaveM P w K mg base A.C_House "drop_bank" 3 ["self", "bank"] [] (sp_db A.C_House A.C_Stretches A.C_NoBank) := by
  have H_House_check_bank := h_cb (P := P) (w := w) (base := base) T
  have H_Stretches_is_tied := h_etied (P := P) (w := w) (base := base) T
  refine T.r_House_drop_bank.have sc_House_drop_bank (fun vs H Q E z => ?_) ?_
  · obtain ⟨z, tk, bk, n, rfl, _⟩ := z; rfl
  · intro f cdv A' outer s H vs Q E hr z
    obtain ⟨z, tk, bk, n, rfl, hS, hl, q⟩ := z
    obtain ⟨dx, h1⟩ := hS.me
    refine ⟨_, (pss_cons (ps_expr (pe_methE (pvM 0) T.cl_House H_House_check_bank (hr.mono (by decide)) xw_def (pa_cons (pvM 1) pa_nil)))
      (pss_cons (ps_thaw (ps_if (pt_val (pe_callB (call_any rfl) rfl T.b_any (by decide +kernel) (pa_cons (pe_comp rfl (pi_vals (pe_dvals (pe_fld (pvM 0) rfl))) (x := "stretches") (fs := ["bank"]) (ix := [1]) rfl rfl (fun _ _ _ _ _ _ => (pg_name (i := 0) (show (["stretches", "bank"] : List Str).Nodup by decide +kernel) rfl (Or.inl rfl))) (fun _ _ _ _ _ _ => pf_nil) (fun _ _ _ _ _ _ => (pe_methE (pvM 0) T.cl_Stretches H_Stretches_is_tied (hr.mono (by decide)) xw_no (pa_cons (pvM 1) pa_nil)))) pa_nil))) (pss_one (ps_raise xr_def rfl T.x_Busy (pa_cons pe_str pa_nil))) pss_nil))
      (pss_one (ps_expr (pe_dpop1 (pe_fld (pvM 0) rfl) (pvM 1) ⟨rfl, rfl, rfl, rfl⟩))))), ?_⟩
    unfold sp_cb tDPop1 sp_etied
    walk_at "wp"
    simp only [h1]
    walk_at "wp"
    refine ⟨hsF_no (by decide +kernel), z, rfl, tk, bk, hS, ?_⟩
    rcases q with ⟨h, q⟩ | ⟨h, q⟩
    · refine .inl ⟨h, z.td, fun o u e => ?_, ?_⟩
      · have e : H z.td = some (.frz o u) := e
        rw [hS.t] at e; cases e
      unfold thawD
      walk_at "wp"
      simp only [h1]
      walk_at "wp"
      refine ⟨T.cl_House, T.na_House_tasks, _, hsF_tasks, z.td, rfl, tk, hS.t, fun v hv => ⟨z.td, rfl, tk, (same_upd same_refl hv) _ _ hS.t, fun o D hD => ?_⟩⟩
      have b1 := same_upd (o := valsO v z.td) (same_refl (H := H)) hv
      have hk2 : ∀ b u, H b = some u → b ≠ z.td → upd (upd H v (valsO v z.td)) z.td (.frz o (.dK tk)) b = some u := fun b u h hb => by rw [upd_ne hb]; exact b1 _ _ h
      have ha2 : upd (upd H v (valsO v z.td)) z.td (.frz o (.dK tk)) z.td = some (.frz o (.dK tk)) := upd_same
      generalize upd (upd H v (valsO v z.td)) z.td (.frz o (.dK tk)) = H2 at *
      have hDa : D ≠ z.td := fun z => by rw [z, ha2] at hD; cases hD
      have hD0 : H D = none := by
        cases e : H D with
        | none => rfl
        | some u => rw [hk2 D u e hDa] at hD; cases hD
      refine comp_vals (fun i ys σ H' => ∃ v0, σ = [v0, some (.int n)] ∧ Kd z.td H H' ∧ H' z.td = some (.frz o (.dK tk)) ∧ ys = List.replicate i (V.bl false) ∧ H' D = some (.lst ys)) ⟨_, rfl, fun b u h hb => ?_, ?_, rfl, upd_same⟩ (fun i ys σ H' _ ⟨_, _, _, e, _⟩ => e) (fun i k x ys σ H' hi => ?_) (fun ys σ H' => ?_)
      · rw [upd_ne (ne_of_none h hD0)]; exact hk2 b u h hb
      · rw [upd_ne (Ne.symm hDa)]; exact ha2
      · rintro ⟨v0, rfl, hk, ha, rfl, hD'⟩
        have hil := (List.getElem?_eq_some_iff.mp hi).1
        obtain ⟨p2, dx2, a2, e2, g1, g2⟩ := (hS.em _ (List.mem_of_getElem? hi)).keep hS.t hk
        have e2 : x = .ref p2 := e2
        subst e2
        have hem : EmAt A.C_Stretches H' (.ref p2) := ⟨p2, dx2, a2, rfl, g1, g2⟩
        walk_at "wp"
        refine ⟨dx2, _, g1, stF_no (by decide +kernel), hem, fun H3 s3 => ⟨s3 _ _ hD', by rw [List.length_replicate]; omega, fun b u h hb => ?_, ?_, ?_⟩⟩
        · rw [upd_ne (ne_of_none h hD0)]; exact s3 _ _ (hk _ _ h hb)
        · rw [upd_ne (Ne.symm hDa)]; exact s3 _ _ ha
        · rw [← List.replicate_succ']; rfl
      · rintro ⟨v0, rfl, hk, ha, rfl, hD'⟩
        refine ⟨List.replicate tk.length false, SqL.of (by rw [List.map_replicate]; exact hD'), ?_⟩
        have e : (List.replicate tk.length false).any id = false := by
          rw [List.any_eq_false]
          intro x hx
          rw [List.eq_of_mem_replicate hx]
          decide
        rw [e]
        refine iteF ?_
        have hk4 : Same H (upd H' z.td (.dK tk)) := fun c u h => by
          by_cases hc : c = z.td
          · rw [hc, upd_same, ← hS.t, ← h, hc]
          · rw [upd_ne hc]; exact hk _ _ h hc
        rw [thawH_of ha]
        generalize upd H' z.td (.dK tk) = H4 at *
        have hS4 := hS.same hk4
        obtain ⟨v, hv⟩ := val_some h
        exact ⟨_, dx, _, hk4 _ _ h1, T.cl_House, T.na_House_banks, _, hsF_banks, z.bd, rfl, .inl ⟨bk, .inl hS4.b⟩, bk, hS4.b, Sum.inl n, rfl, v, hv, q _ hS4.bank ((Kd.of hk4).trans kd_upd)⟩
    · exact .inr ⟨h, q⟩
def Srt (ns ms : List Int) : Prop := List.Perm ms ns ∧ ms.Pairwise (· ≤ ·)
def sp_tl (C S : Addr) : Sp := fun vs H Q _ => ∃ (z : Hz) (tk bk : Kvs), vs = [.ref z.p] ∧ HsAt C S H z tk bk ∧ IntK (ksK tk) ∧ tk.length < 64 ∧ ∀ l ms, H l = none → Srt ((ksK tk).map kI) ms → Q (.ref l) (upd H l (.lst (ms.map V.int)))
theorem h_tl (T : Txt K mg A) : HaveM P w K mg base A.C_House "task_list" 1 ["self"] [] (sp_tl A.C_House A.C_Stretches) := by
  refine T.r_House_task_list.have sc_House_task_list (fun vs H Q E z => ?_) ?_
  · obtain ⟨z, tk, bk, rfl, _⟩ := z; rfl
  · intro f cdv A' outer s H vs Q E hr z
    obtain ⟨z, tk, bk, rfl, hS, hi, hl, q⟩ := z
    obtain ⟨dx, h1⟩ := hS.me
    refine ⟨_, (pss_one (ps_ret (pe_callB (call_sortedD rfl) rfl T.b_sorted PyProof.Rows.boot_sorted (pa_cons (pe_fld (pvM 0) rfl) pa_nil)))), ?_⟩
    walk_at "wp"
    simp only [h1]
    walk_at "wp"
    exact ⟨T.cl_House, T.na_House_tasks, _, hsF_tasks, z.td, rfl, tk, .inl hS.t, (ksK tk).map kI, hi.ns, by unfold ksK; rw [List.length_map, List.length_map]; exact hl, fun l ms h1 h2 h3 => q l ms h1 ⟨h2, h3⟩⟩
def sp_bl (C S : Addr) : Sp := fun vs H Q _ => ∃ (z : Hz) (tk bk : Kvs), vs = [.ref z.p] ∧ HsAt C S H z tk bk ∧ IntK (ksK bk) ∧ bk.length < 64 ∧ ∀ l ms, H l = none → Srt ((ksK bk).map kI) ms → Q (.ref l) (upd H l (.lst (ms.map V.int)))
theorem h_bl (T : Txt K mg A) : HaveM P w K mg base A.C_House "bank_list" 1 ["self"] [] (sp_bl A.C_House A.C_Stretches) := by
  refine T.r_House_bank_list.have sc_House_bank_list (fun vs H Q E z => ?_) ?_
  · obtain ⟨z, tk, bk, rfl, _⟩ := z; rfl
  · intro f cdv A' outer s H vs Q E hr z
    obtain ⟨z, tk, bk, rfl, hS, hi, hl, q⟩ := z
    obtain ⟨dx, h1⟩ := hS.me
    refine ⟨_, (pss_one (ps_ret (pe_callB (call_sortedD rfl) rfl T.b_sorted PyProof.Rows.boot_sorted (pa_cons (pe_fld (pvM 0) rfl) pa_nil)))), ?_⟩
    walk_at "wp"
    simp only [h1]
    walk_at "wp"
    exact ⟨T.cl_House, T.na_House_banks, _, hsF_banks, z.bd, rfl, bk, .inl hS.b, (ksK bk).map kI, hi.ns, by unfold ksK; rw [List.length_map, List.length_map]; exact hl, fun l ms h1 h2 h3 => q l ms h1 ⟨h2, h3⟩⟩
def sp_bs (C S N : Addr) : Sp := fun vs H Q E => ∃ (z : Hz) (tk bk : Kvs) (n : Int), vs = [.ref z.p, .int n] ∧ HsAt C S H z tk bk ∧ ((∃ v, valV bk (Sum.inl n) = some v ∧ Q v H) ∨ (Sum.inl n ∉ ksK bk ∧ E (.ref N) none H))
theorem h_bs (T : Txt K mg A) : HaveM P w K mg base A.C_House "bank_size" 2 ["self", "bank"] [] (sp_bs A.C_House A.C_Stretches A.C_NoBank) := by
  have H_House_check_bank := h_cb (P := P) (w := w) (base := base) T
  refine T.r_House_bank_size.have sc_House_bank_size (fun vs H Q E z => ?_) ?_
  · obtain ⟨z, tk, bk, n, rfl, _⟩ := z; rfl
  · intro f cdv A' outer s H vs Q E hr z
    obtain ⟨z, tk, bk, n, rfl, hS, q⟩ := z
    obtain ⟨dx, h1⟩ := hS.me
    refine ⟨_, (pss_cons (ps_expr (pe_methE (pvM 0) T.cl_House H_House_check_bank (hr.mono (by decide)) xw_def (pa_cons (pvM 1) pa_nil)))
      (pss_one (ps_ret (pe_dget (hu_of hr) (pe_fld (pvM 0) rfl) (pvM 1) (fun _ _ => rfl))))), ?_⟩
    unfold sp_cb tDGet
    walk_at "wp"
    simp only [h1]
    walk_at "wp"
    refine ⟨hsF_no (by decide +kernel), z, rfl, tk, bk, hS, ?_⟩
    rcases q with ⟨v, hv, q⟩ | ⟨h, q⟩
    · exact .inl ⟨valV_in hv, T.cl_House, T.na_House_banks, _, hsF_banks, z.bd, rfl, _, .inl ⟨bk, Sum.inl n, .inl hS.b, rfl, hv.symm⟩, q⟩
    · exact .inr ⟨h, q⟩
def sp_so (C S N : Addr) : Sp := fun vs H Q E => ∃ (z : Hz) (tk bk : Kvs) (n : Int), vs = [.ref z.p, .int n] ∧ HsAt C S H z tk bk ∧ ((Sum.inl n ∈ ksK tk ∧ ∀ l, H l = none → Q (.ref l) (upd H l (.lst []))) ∨ (Sum.inl n ∉ ksK tk ∧ E (.ref N) none H))
theorem h_so (T : Txt K mg A) : HaveM P w K mg base A.C_House "stretches_of" 2 ["self", "task"] [] (sp_so A.C_House A.C_Stretches A.C_NoTask) := by
  have H_House_check_task := h_ct (P := P) (w := w) (base := base) T
  have H_Stretches_told := h_etold (P := P) (w := w) (base := base) T
  refine T.r_House_stretches_of.have sc_House_stretches_of (fun vs H Q E z => ?_) ?_
  · obtain ⟨z, tk, bk, n, rfl, _⟩ := z; rfl
  · intro f cdv A' outer s H vs Q E hr z
    obtain ⟨z, tk, bk, n, rfl, hS, q⟩ := z
    obtain ⟨dx, h1⟩ := hS.me
    refine ⟨_, (pss_cons (ps_expr (pe_methE (pvM 0) T.cl_House H_House_check_task (hr.mono (by decide)) xw_def (pa_cons (pvM 1) pa_nil)))
      (pss_one (ps_ret (pe_methE0 (pe_dget (hu_of hr) (pe_fld (pvM 0) rfl) (pvM 1) (fun _ _ => rfl)) T.cl_Stretches H_Stretches_told (hr.mono (by decide)) xw_def)))), ?_⟩
    unfold sp_ct tDGet sp_etold
    walk_at "wp"
    simp only [h1]
    walk_at "wp"
    refine ⟨hsF_no (by decide +kernel), z, rfl, tk, bk, hS, ?_⟩
    rcases q with ⟨h, q⟩ | ⟨h, q⟩
    · obtain ⟨v, hv⟩ := val_some h
      obtain ⟨p2, dx2, a2, e2, g1, g2⟩ := hS.em _ (val_mem hv)
      have e2 : v = .ref p2 := e2
      subst e2
      exact .inl ⟨h, T.cl_House, T.na_House_tasks, _, hsF_tasks, z.td, rfl, _, .inl ⟨tk, Sum.inl n, .inl hS.t, rfl, hv.symm⟩, p2, rfl, dx2, _, g1, stF_no (by decide +kernel), ⟨p2, dx2, a2, rfl, g1, g2⟩, q⟩
    · exact .inr ⟨h, q⟩

def lfV : V → Bool
  | .non => true
  | .bl _ => true
  | .int _ => true
  | .str _ => true
  | _ => false
mutual
def Lks (H : Hp) : Dv → V → Prop
  | .leaf v, x => x = v ∧ lfV v = true
  | .seq t ds, x => ∃ a xs, x = .ref a ∧ H a = some (if t = true then .tup xs else .lst xs) ∧ ds.length < 16777216 ∧ LksL H ds xs
def LksL (H : Hp) : List Dv → List V → Prop
  | [], xs => xs = []
  | d :: ds, xs => ∃ x r, xs = x :: r ∧ Lks H d x ∧ LksL H ds r
end
theorem LksL.len {H : Hp} : ∀ {ds : List Dv} {xs : List V}, LksL H ds xs → xs.length = ds.length
  | [], xs, h => by unfold LksL at h; subst h; rfl
  | d :: ds, xs, h => by
    unfold LksL at h
    obtain ⟨x, r, rfl, _, h⟩ := h
    simp [h.len]
theorem LksL.at {H : Hp} : ∀ {ds : List Dv} {xs : List V} {i : Nat} {d : Dv}, LksL H ds xs → ds[i]? = some d → ∃ x, xs[i]? = some x ∧ Lks H d x
  | [], _, _, _, _, h => by simp at h
  | d :: ds, xs, 0, e, h, hi => by
    unfold LksL at h
    obtain ⟨x, r, rfl, hx, _⟩ := h
    simp at hi
    subst hi
    exact ⟨x, rfl, hx⟩
  | d :: ds, xs, i + 1, e, h, hi => by
    unfold LksL at h
    obtain ⟨x, r, rfl, _, h⟩ := h
    simp at hi
    obtain ⟨y, hy, hl⟩ := h.at hi
    exact ⟨y, by simpa using hy, hl⟩
theorem deepL_at : ∀ {ds : List Dv} {i : Nat} {d : Dv}, ds[i]? = some d → deep d ≤ deepL ds
  | [], _, _, h => by simp at h
  | d :: ds, 0, e, h => by
    simp at h
    subst h
    rw [deepL]; exact Nat.le_max_left ..
  | d :: ds, i + 1, e, h => by
    simp at h
    rw [deepL]; exact Nat.le_trans (deepL_at h) (Nat.le_max_right ..)
mutual
theorem Lks.same {H H' : Hp} : ∀ {d : Dv} {x : V}, Lks H d x → Same H H' → Lks H' d x
  | .leaf v, x, h, _ => by unfold Lks at h ⊢; exact h
  | .seq t ds, x, h, s => by
    unfold Lks at h ⊢
    obtain ⟨a, xs, e, ha, hz, hl⟩ := h
    exact ⟨a, xs, e, s _ _ ha, hz, hl.same s⟩
theorem LksL.same {H H' : Hp} : ∀ {ds : List Dv} {xs : List V}, LksL H ds xs → Same H H' → LksL H' ds xs
  | [], xs, h, _ => by unfold LksL at h ⊢; exact h
  | d :: ds, xs, h, s => by
    unfold LksL at h ⊢
    obtain ⟨x, r, e, hx, hl⟩ := h
    exact ⟨x, r, e, hx.same s, hl.same s⟩
end
def sp_like : Nat → Sp
  | 0 => fun _ _ _ _ => False
  | n + 1 => fun vs H Q _ => ∃ (x y : V) (d : Dv), vs = [x, y] ∧ Lks H d x ∧ Lks H d y ∧ deep d ≤ n ∧ ∀ H', Same H H' → Q (.bl true) H'
theorem ty_no {H : Hp} {a : Addr} {o : HO} {n : String} (h : H a = some o) (e : (kdO (some o) == n || (kdO (some o) == "bool" && n == "int")) = false) : isTy n H (.ref a) = false := by
  unfold isTy
  rw [show kd H (.ref a) = kdO (H a) from rfl, h]; exact e
theorem h_like (T : Txt K mg A) : ∀ n, Have P w K mg base "_law_like" (n + 1) ["_law_found", "_law_due_here"] [] (sp_like n) := by
  intro n
  induction n with
  | zero => exact T.r_l_like.have sc_l_like (fun vs H Q E z => z.elim) (fun _ _ _ _ _ _ _ _ _ _ z => z.elim)
  | succ n ih =>
    have H_l_like := ih
    refine T.r_l_like.have sc_l_like (fun vs H Q E z => ?_) ?_
    · obtain ⟨x, y, d, rfl, _⟩ := z; rfl
    · intro f cdv A' outer s H vs Q E hr z
      obtain ⟨x, y, d, rfl, hx, hy, hd, q⟩ := z
      refine ⟨_, (pss_cons (ps_if (pt_cmpR op_isN (pvM 1) pe_non (nomark _)) (pss_one (ps_ret (pe_cmpR op_isN (pvM 0) pe_non (nomark _)))) pss_nil)
      (pss_cons (ps_if (pt_val (pe_callB call_isi rfl T.b_isinstance PyProof.Rows.boot_isinstance (pa_cons (pvM 1) (pa_cons (pe_bltnE (n := "bool") rfl T.b_bool PyProof.Rows.boot_bool) pa_nil)))) (pss_one (ps_ret (pe_and (pe_callB call_isi rfl T.b_isinstance PyProof.Rows.boot_isinstance (pa_cons (pvM 0) (pa_cons (pe_bltnE (n := "bool") rfl T.b_bool PyProof.Rows.boot_bool) pa_nil))) (pe_one (pe_cmpR op_eq (pvM 0) (pvM 1) (nomark _)))))) pss_nil)
      (pss_cons (ps_if (pt_val (pe_callB call_isi rfl T.b_isinstance PyProof.Rows.boot_isinstance (pa_cons (pvM 1) (pa_cons (pe_bltnE (n := "int") rfl T.b_int PyProof.Rows.boot_int) pa_nil)))) (pss_one (ps_ret (pe_and (pe_callB call_isi rfl T.b_isinstance PyProof.Rows.boot_isinstance (pa_cons (pvM 0) (pa_cons (pe_bltnE (n := "int") rfl T.b_int PyProof.Rows.boot_int) pa_nil))) (pe_and (pe_not (pe_callB call_isi rfl T.b_isinstance PyProof.Rows.boot_isinstance (pa_cons (pvM 0) (pa_cons (pe_bltnE (n := "bool") rfl T.b_bool PyProof.Rows.boot_bool) pa_nil)))) (pe_one (pe_cmpR op_eq (pvM 0) (pvM 1) (nomark _))))))) pss_nil)
      (pss_cons (ps_if (pt_val (pe_callB call_isi rfl T.b_isinstance PyProof.Rows.boot_isinstance (pa_cons (pvM 1) (pa_cons (pe_bltnE (n := "str") rfl T.b_str PyProof.Rows.boot_str) pa_nil)))) (pss_one (ps_ret (pe_and (pe_callB call_isi rfl T.b_isinstance PyProof.Rows.boot_isinstance (pa_cons (pvM 0) (pa_cons (pe_bltnE (n := "str") rfl T.b_str PyProof.Rows.boot_str) pa_nil))) (pe_one (pe_cmpR op_eq (pvM 0) (pvM 1) (nomark _)))))) pss_nil)
      (pss_cut (ps_if (PW.pt (pw_and (pt_val (pe_callB call_isi rfl T.b_isinstance PyProof.Rows.boot_isinstance (pa_cons (pvM 1) (pa_cons (pe_bltnE (n := "list") rfl T.b_list PyProof.Rows.boot_list) pa_nil)))) (pw_and1 (pt_not (pt_val (pe_callB call_isi rfl T.b_isinstance PyProof.Rows.boot_isinstance (pa_cons (pvM 0) (pa_cons (pe_bltnE (n := "list") rfl T.b_list PyProof.Rows.boot_list) pa_nil)))))))) (pss_one (ps_ret pe_bl)) pss_nil)
      (pss_cut (ps_if (PW.pt (pw_and (pt_val (pe_callB call_isi rfl T.b_isinstance PyProof.Rows.boot_isinstance (pa_cons (pvM 1) (pa_cons (pe_bltnE (n := "tuple") rfl T.b_tuple PyProof.Rows.boot_tuple) pa_nil)))) (pw_and1 (pt_not (pt_val (pe_callB call_isi rfl T.b_isinstance PyProof.Rows.boot_isinstance (pa_cons (pvM 0) (pa_cons (pe_bltnE (n := "tuple") rfl T.b_tuple PyProof.Rows.boot_tuple) pa_nil)))))))) (pss_one (ps_ret pe_bl)) pss_nil)
      (pss_cons (ps_if (pt_cmpR op_ne (pe_callB call_len rfl T.b_len PySem.boot_len (pa_cons (pvM 0) pa_nil)) (pe_callB call_len rfl T.b_len PySem.boot_len (pa_cons (pvM 1) pa_nil)) (nomark _)) (pss_one (ps_ret pe_bl)) pss_nil)
      (pss_cons (ps_forE PassesOwn.leaving rfl (pi_range1 rfl T.b_range (pa_cons (pe_callB call_len rfl T.b_len PySem.boot_len (pa_cons (pvM 1) pa_nil)) pa_nil)) (pg_name (i := 2) sc_l_like.nd rfl (Or.inl rfl)) (pss_one (ps_if (pt_not (pt_val (pe_callE H_l_like (hr.mono (by omega)) xw_def (pa_cons (pe_ix ix_two (pvM 0) (pvM 2) (fun _ _ => rfl)) (pa_cons (pe_ix ix_two (pvM 1) (pvM 2) (fun _ _ => rfl)) pa_nil))))) (pss_one (ps_ret pe_bl)) pss_nil)))
      (pss_one (ps_ret pe_bl)))))))))), ?_⟩
      cases d with
      | leaf v =>
        unfold Lks at hx hy
        obtain ⟨ex, hv⟩ := hx
        obtain ⟨ey, _⟩ := hy
        subst ex
        subst ey
        cases y with
        | non =>
          walk_at "wp"
          exact q _ same_refl
        | bl b =>
          walk_at "wp"
          rw [if_neg (fun z => nomatch z)]
          exact ⟨by decide, iteT ⟨by decide, iteT (q _ same_refl)⟩⟩
        | int i =>
          walk_at "wp"
          rw [if_neg (fun z => nomatch z)]
          exact ⟨by decide, iteF ⟨by decide, iteT ⟨by decide, iteT ⟨by decide, iteT (q _ same_refl)⟩⟩⟩⟩
        | str t =>
          walk_at "wp"
          rw [if_neg (fun z => nomatch z)]
          exact ⟨by decide, iteF ⟨by decide, iteF ⟨by decide, iteT ⟨by decide, iteT (q _ same_refl)⟩⟩⟩⟩
        | _ => cases hv
      | seq t ds =>
        unfold Lks at hx hy
        obtain ⟨a, xs, rfl, ha, hzl, hxs⟩ := hx
        obtain ⟨b, ys, rfl, hb, _, hys⟩ := hy
        have hlx := hxs.len
        have hly := hys.len
        have hdl : deepL ds + 1 ≤ n := by rw [deep] at hd; exact hd
        have step : ∀ (i : Nat) (H' : Hp) (Q' : VK) (E' : XK), i < ds.length → Same H H' → (∀ H'', Same H H'' → Q' (.bl true) H'') → ∃ x y, xs[i]? = some x ∧ ys[i]? = some y ∧ sp_like n [x, y] H' Q' E' := fun i H' Q' E' hi s1 hq => by
          obtain ⟨x, hx1, hx2⟩ := hxs.at (List.getElem?_eq_getElem hi)
          obtain ⟨y, hy1, hy2⟩ := hys.at (List.getElem?_eq_getElem hi)
          refine ⟨x, y, hx1, hy1, ?_⟩
          cases n with
          | zero => omega
          | succ n => exact ⟨x, y, ds[i], rfl, hx2.same s1, hy2.same s1, by have := deepL_at (List.getElem?_eq_getElem hi); omega, fun H'' s2 => hq _ (s1.trans s2)⟩
        walk_at "wp"
        rw [if_neg (fun z => nomatch z)]
        cases t with
        | false =>
          have ha : H a = some (.lst xs) := ha
          have hb : H b = some (.lst ys) := hb
          rw [ty_no hb rfl, ty_no hb rfl, ty_no hb rfl]
          refine ⟨by decide, kn_lst hb, iteF ⟨by decide, kn_lst hb, iteF ⟨by decide, kn_lst hb, iteF ⟨fun σ H' => σ = [some (.ref a), some (.ref b), none] ∧ H' = H, ?_, fun σ' H' => ?_⟩⟩⟩⟩
          · walk_at "wp"
            rw [isTy_lst hb, isTy_lst ha]
            exact ⟨by decide, kn_lst hb, iteT ⟨by decide, kn_lst ha, iteF trivial⟩⟩
          rintro ⟨rfl, rfl⟩
          refine ⟨fun σ H'' => σ = [some (.ref a), some (.ref b), none] ∧ H'' = H', ?_, fun σ' H'' => ?_⟩
          · walk_at "wp"
            rw [ty_no hb rfl]
            exact ⟨by decide, kn_lst hb, iteF (iteF trivial)⟩
          rintro ⟨rfl, rfl⟩
          walk_at "wp"
          refine ⟨_, .inl ⟨_, SqL.of ha, rfl⟩, _, .inl ⟨_, SqL.of hb, rfl⟩, ?_⟩
          rw [decide_eq_true (by omega)]
          refine iteF ⟨_, .inl ⟨_, SqL.of hb, rfl⟩, by omega, by omega, ?_⟩
          refine loop_range (fun i σ H1 => ∃ v2, σ = [some (.ref a), some (.ref b), v2] ∧ Same H'' H1) ⟨_, rfl, same_refl⟩ (fun i σ H1 hi => ?_) (fun σ H1 => ?_)
          · rintro ⟨v2, rfl, s1⟩
            walk_at "wp"
            obtain ⟨x, y, hx1, hy1, hsp⟩ := step i H1 (fun x H2 => ∃ c, x = V.bl c ∧ if (!c) = true then Q (V.bl false) H2 else Same H'' H2) (fun c x H' => E c none H') (by omega) s1 (fun H'' s2 => ⟨true, rfl, iteF s2⟩)
            exact .inl ⟨_, SqL.of (s1 _ _ ha), x, by rw [Int.zero_add]; exact atI_nat hx1, .inl ⟨_, SqL.of (s1 _ _ hb), y, by rw [Int.zero_add]; exact atI_nat hy1, hsp⟩⟩
          · rintro ⟨v2, rfl, s1⟩
            walk_at "wp"
            exact q _ s1
        | true =>
          have ha : H a = some (.tup xs) := ha
          have hb : H b = some (.tup ys) := hb
          rw [ty_no hb rfl, ty_no hb rfl, ty_no hb rfl]
          refine ⟨by decide, kn_tup hb, iteF ⟨by decide, kn_tup hb, iteF ⟨by decide, kn_tup hb, iteF ⟨fun σ H' => σ = [some (.ref a), some (.ref b), none] ∧ H' = H, ?_, fun σ' H' => ?_⟩⟩⟩⟩
          · walk_at "wp"
            rw [ty_no hb rfl]
            exact ⟨by decide, kn_tup hb, iteF (iteF trivial)⟩
          rintro ⟨rfl, rfl⟩
          refine ⟨fun σ H'' => σ = [some (.ref a), some (.ref b), none] ∧ H'' = H', ?_, fun σ' H'' => ?_⟩
          · walk_at "wp"
            rw [isTy_tup hb, isTy_tup ha]
            exact ⟨by decide, kn_tup hb, iteT ⟨by decide, kn_tup ha, iteF trivial⟩⟩
          rintro ⟨rfl, rfl⟩
          walk_at "wp"
          refine ⟨_, .inr ⟨_, SqT.of ha, rfl⟩, _, .inr ⟨_, SqT.of hb, rfl⟩, ?_⟩
          rw [decide_eq_true (by omega)]
          refine iteF ⟨_, .inr ⟨_, SqT.of hb, rfl⟩, by omega, by omega, ?_⟩
          refine loop_range (fun i σ H1 => ∃ v2, σ = [some (.ref a), some (.ref b), v2] ∧ Same H'' H1) ⟨_, rfl, same_refl⟩ (fun i σ H1 hi => ?_) (fun σ H1 => ?_)
          · rintro ⟨v2, rfl, s1⟩
            walk_at "wp"
            obtain ⟨x, y, hx1, hy1, hsp⟩ := step i H1 (fun x H2 => ∃ c, x = V.bl c ∧ if (!c) = true then Q (V.bl false) H2 else Same H'' H2) (fun c x H' => E c none H') (by omega) s1 (fun H'' s2 => ⟨true, rfl, iteF s2⟩)
            exact .inr ⟨_, SqT.of (s1 _ _ ha), x, by rw [Int.zero_add]; exact atI_nat hx1, .inr ⟨_, SqT.of (s1 _ _ hb), y, by rw [Int.zero_add]; exact atI_nat hy1, hsp⟩⟩
          · rintro ⟨v2, rfl, s1⟩
            walk_at "wp"
            exact q _ s1

inductive K5 where
  | a | b | c | d | e
def K5.i : K5 → Int
  | .a => 0 | .b => 1 | .c => 2 | .d => 3 | .e => 4
inductive Rs where
  | ok (v : V)
  | no (s : Str)
/-- what a deed answers, and what is behind it -/
inductive Ev (tk bk : Kvs) : K5 → Int → Rs → Kvs → Kvs → Prop where
  | new {n : Int} {k : Nat} {v : V} (h : Lst (ksK tk) k) : Ev tk bk .a n (.ok (.int k)) (tk ++ [(Sum.inl (k : Int), v)]) bk
  | fork {n : Int} {k : Nat} {v : V} (h : Lst (ksK tk) k) (hn : Sum.inl n ∈ ksK tk) : Ev tk bk .b n (.ok (.int k)) (tk ++ [(Sum.inl (k : Int), v)]) bk
  | forkN {n : Int} (hn : Sum.inl n ∉ ksK tk) : Ev tk bk .b n (.no "task") tk bk
  | fin {n : Int} (hn : Sum.inl n ∈ ksK tk) : Ev tk bk .c n (.ok .non) (dropK tk (Sum.inl n)) bk
  | finN {n : Int} (hn : Sum.inl n ∉ ksK tk) : Ev tk bk .c n (.no "task") tk bk
  | bnew {n : Int} {k : Nat} (h : Lst (ksK bk) k) (hn : 1 ≤ n ∧ n ≤ 64) : Ev tk bk .d n (.ok (.int k)) tk (bk ++ [(Sum.inl (k : Int), .int n)])
  | bnewN {n : Int} (hn : ¬ (1 ≤ n ∧ n ≤ 64)) : Ev tk bk .d n (.no "size") tk bk
  | drop {n : Int} (hn : Sum.inl n ∈ ksK bk) : Ev tk bk .e n (.ok .non) tk (dropK bk (Sum.inl n))
  | dropN {n : Int} (hn : Sum.inl n ∉ ksK bk) : Ev tk bk .e n (.no "bank") tk bk
def rsD : Rs → Dv
  | .ok v => .seq true [.leaf (.str "ok"), .leaf v]
  | .no s => .seq true [.leaf (.str "no"), .leaf (.str s)]
theorem ksK_app {kvs : Kvs} {k : Key} {v : V} : ksK (kvs ++ [(k, v)]) = ksK kvs ++ [k] := by unfold ksK; rw [List.map_append]; rfl
theorem Ev.one {tk bk tl : Kvs} {κ : K5} {n : Int} {r r2 : Rs} {tk' bk' tl' bl' : Kvs} (h : Ev tk bk κ n r tk' bk') (g : Ev tl bk κ n r2 tl' bl') (e : ksK tk = ksK tl) : r = r2 ∧ ksK tk' = ksK tl' ∧ bk' = bl' := by
  cases h with
  | new h => cases g with | new g => rw [e] at h; rw [h.one g, ksK_app, ksK_app, e]; exact ⟨rfl, rfl, rfl⟩
  | fork h hn => cases g with
    | fork g _ => rw [e] at h; rw [h.one g, ksK_app, ksK_app, e]; exact ⟨rfl, rfl, rfl⟩
    | forkN g => rw [e] at hn; exact absurd hn g
  | forkN hn => cases g with
    | fork _ g => rw [e] at hn; exact absurd g hn
    | forkN g => exact ⟨rfl, e, rfl⟩
  | fin hn => cases g with
    | fin g => rw [ks_drop, ks_drop, e]; exact ⟨rfl, rfl, rfl⟩
    | finN g => rw [e] at hn; exact absurd hn g
  | finN hn => cases g with
    | fin g => rw [e] at hn; exact absurd g hn
    | finN g => exact ⟨rfl, e, rfl⟩
  | bnew h hn => cases g with
    | bnew g _ => rw [h.one g]; exact ⟨rfl, e, rfl⟩
    | bnewN g => exact absurd hn g
  | bnewN hn => cases g with
    | bnew _ g => exact absurd g hn
    | bnewN g => exact ⟨rfl, e, rfl⟩
  | drop hn => cases g with
    | drop g => exact ⟨rfl, e, rfl⟩
    | dropN g => exact absurd hn g
  | dropN hn => cases g with
    | drop g => exact absurd g hn
    | dropN g => exact ⟨rfl, e, rfl⟩
theorem Ev.ints {tk bk tk' bk' : Kvs} {κ : K5} {n : Int} {r : Rs} (h : Ev tk bk κ n r tk' bk') (ht : IntK (ksK tk)) (hb : IntK (ksK bk)) : IntK (ksK tk') ∧ IntK (ksK bk') := by
  cases h <;> first | exact ⟨ht, hb⟩ | (rw [ksK_app]; exact ⟨ht.app, hb⟩) | (rw [ksK_app]; exact ⟨ht, hb.app⟩) | (rw [ks_drop]; exact ⟨ht.drop, hb⟩) | (rw [ks_drop]; exact ⟨ht, hb.drop⟩)
def Vi (bk : Kvs) : Prop := ∀ kv ∈ bk, ∃ i : Int, kv.2 = .int i
theorem Ev.vi {tk bk tk' bk' : Kvs} {κ : K5} {n : Int} {r : Rs} (h : Ev tk bk κ n r tk' bk') (hb : Vi bk) : Vi bk' := by
  cases h with
  | bnew h hn =>
    intro kv hkv
    rcases List.mem_append.mp hkv with q | q
    · exact hb kv q
    · rw [List.mem_singleton.mp q]; exact ⟨n, rfl⟩
  | drop hn => exact fun kv hkv => hb kv (dropK_mem hkv)
  | _ => exact hb
theorem Ev.lens {tk bk tk' bk' : Kvs} {κ : K5} {n : Int} {r : Rs} (h : Ev tk bk κ n r tk' bk') : (tk'.length ≤ tk.length ∨ ((κ = .a ∨ κ = .b) ∧ tk'.length ≤ tk.length + 1)) ∧ (bk'.length ≤ bk.length ∨ (κ = .d ∧ bk'.length ≤ bk.length + 1)) := by
  cases h with
  | new h => exact ⟨.inr ⟨.inl rfl, by rw [List.length_append]; exact Nat.le_refl _⟩, .inl (Nat.le_refl _)⟩
  | fork h _ => exact ⟨.inr ⟨.inr rfl, by rw [List.length_append]; exact Nat.le_refl _⟩, .inl (Nat.le_refl _)⟩
  | fin _ => exact ⟨.inl (dropK_le _ _), .inl (Nat.le_refl _)⟩
  | bnew h _ => exact ⟨.inl (Nat.le_refl _), .inr ⟨rfl, by rw [List.length_append]; exact Nat.le_refl _⟩⟩
  | drop _ => exact ⟨.inl (Nat.le_refl _), .inl (dropK_le _ _)⟩
  | _ => exact ⟨.inl (Nat.le_refl _), .inl (Nat.le_refl _)⟩
theorem Ev.lf {tk bk tk' bk' : Kvs} {κ : K5} {n : Int} {v : V} (h : Ev tk bk κ n (.ok v) tk' bk') : lfV v = true := by cases h <;> rfl
theorem Ev.no {tk bk tk' bk' : Kvs} {κ : K5} {n : Int} {s : Str} (h : Ev tk bk κ n (.no s) tk' bk') : tk' = tk ∧ bk' = bk := by cases h <;> exact ⟨rfl, rfl⟩
inductive Wd (A : Adr) : Str → Addr → Prop where
  | t : Wd A "task" A.C_NoTask
  | b : Wd A "bank" A.C_NoBank
  | s : Wd A "size" A.C_OutOfBank
def Kz (z : Hz) (H H' : Hp) : Prop := ∀ c o, H c = some o → c ≠ z.td → c ≠ z.bd → H' c = some o
theorem Kz.t {z : Hz} {H H' : Hp} (k : Kd z.td H H') : Kz z H H' := fun c o h h1 _ => k c o h h1
theorem Kz.b {z : Hz} {H H' : Hp} (k : Kd z.bd H H') : Kz z H H' := fun c o h _ h2 => k c o h h2
def sp_say (A : Adr) : Sp := fun vs H Q E => ∃ (z : Hz) (tk bk : Kvs) (κ : K5) (n : Int), vs = [.ref z.p, .int κ.i, .int n] ∧ HsAt A.C_House A.C_Stretches H z tk bk ∧ tk.length < 1000 ∧ bk.length < 1000 ∧
  (∀ v tk' bk' H', Ev tk bk κ n (.ok v) tk' bk' → HsAt A.C_House A.C_Stretches H' z tk' bk' → Kz z H H' → Q v H') ∧ ∀ s N, Ev tk bk κ n (.no s) tk bk → Wd A s N → E (.ref N) none H
theorem h_say (T : Txt K mg A) : Have P w K mg base "_law_say" 5 ["_law_house", "_law_kind", "_law_number_here"] [] (sp_say A) := by
  have H_House_new_task := h_nt (P := P) (w := w) (base := base) T
  have H_House_fork := h_fork (P := P) (w := w) (base := base) T
  have H_House_end_task := h_end (P := P) (w := w) (base := base) T
  have H_House_new_bank := h_nb (P := P) (w := w) (base := base) T
  have H_House_drop_bank := h_db (P := P) (w := w) (base := base) T
  refine T.r_l_say.have sc_l_say (fun vs H Q E z => ?_) ?_
  · obtain ⟨z, tk, bk, κ, n, rfl, _⟩ := z; rfl
  · intro f cdv A' outer s H vs Q E hr z
    obtain ⟨z, tk, bk, κ, n, rfl, hS, hl1, hl2, q1, q2⟩ := z
    obtain ⟨dx, h1⟩ := hS.me
    refine ⟨_, (pss_cons (ps_if (pt_cmpR op_eq (pvM 1) pe_int (nomark _)) (pss_one (ps_ret (pe_methE0 (pvM 0) T.cl_House H_House_new_task (hr.mono (by decide)) xw_def))) pss_nil)
      (pss_cons (ps_if (pt_cmpR op_eq (pvM 1) pe_int (nomark _)) (pss_one (ps_ret (pe_methE (pvM 0) T.cl_House H_House_fork (hr.mono (by decide)) xw_def (pa_cons (pvM 2) pa_nil)))) pss_nil)
      (pss_cons (ps_if (pt_cmpR op_eq (pvM 1) pe_int (nomark _)) (pss_one (ps_ret (pe_methE (pvM 0) T.cl_House H_House_end_task (hr.mono (by decide)) xw_def (pa_cons (pvM 2) pa_nil)))) pss_nil)
      (pss_cons (ps_if (pt_cmpR op_eq (pvM 1) pe_int (nomark _)) (pss_one (ps_ret (pe_methE (pvM 0) T.cl_House H_House_new_bank (hr.mono (by decide)) xw_def (pa_cons (pvM 2) pa_nil)))) pss_nil)
      (pss_one (ps_ret (pe_methE (pvM 0) T.cl_House H_House_drop_bank (hr.mono (by decide)) xw_def (pa_cons (pvM 2) pa_nil)))))))), ?_⟩
    unfold sp_nt sp_fork sp_end sp_nb sp_db
    cases κ
    · simp only [K5.i]
      walk_at "wp"
      simp only [h1]
      walk_at "wp"
      exact ⟨hsF_no (by decide +kernel), z, rfl, tk, bk, hS, hl1, fun k v H' a b d => q1 _ _ _ _ (.new a) b (.t d)⟩
    · simp only [K5.i]
      walk_at "wp"
      simp only [h1]
      walk_at "wp"
      refine ⟨hsF_no (by decide +kernel), z, rfl, tk, bk, hS, hl1, ?_⟩
      by_cases hn : (Sum.inl n : Key) ∈ ksK tk
      · exact .inl ⟨hn, fun k v H' a b d => q1 _ _ _ _ (.fork a hn) b (.t d)⟩
      · exact .inr ⟨hn, q2 _ _ (.forkN hn) .t⟩
    · simp only [K5.i]
      walk_at "wp"
      simp only [h1]
      walk_at "wp"
      refine ⟨hsF_no (by decide +kernel), z, rfl, tk, bk, hS, ?_⟩
      by_cases hn : (Sum.inl n : Key) ∈ ksK tk
      · exact .inl ⟨hn, fun H' b d => q1 _ _ _ _ (.fin hn) b (.t d)⟩
      · exact .inr ⟨hn, q2 _ _ (.finN hn) .t⟩
    · simp only [K5.i]
      walk_at "wp"
      simp only [h1]
      walk_at "wp"
      refine ⟨hsF_no (by decide +kernel), z, rfl, tk, bk, hS, hl2, ?_⟩
      by_cases hn : 1 ≤ n ∧ n ≤ 64
      · exact .inl ⟨hn.1, hn.2, fun k H' a b d => q1 _ _ _ _ (.bnew a hn) b (.b d)⟩
      · exact .inr ⟨hn, q2 _ _ (.bnewN hn) .s⟩
    · simp only [K5.i]
      walk_at "wp"
      simp only [h1]
      walk_at "wp"
      refine ⟨hsF_no (by decide +kernel), z, rfl, tk, bk, hS, hl1, ?_⟩
      by_cases hn : (Sum.inl n : Key) ∈ ksK bk
      · exact .inl ⟨hn, fun H' b d => q1 _ _ _ _ (.drop hn) b (.b d)⟩
      · exact .inr ⟨hn, q2 _ _ (.dropN hn) .b⟩
def sp_word (A : Adr) : Sp := fun vs H Q _ => ∃ (ea C : Addr) (s : Str), vs = [.ref ea] ∧ H ea = some (excO ea C) ∧ Wd A s C ∧ Q (.str s) H
theorem hh_word (T : Txt K mg A) : HaveH P w K mg base "_law_word" 1 ["_law_e"] (sp_word A) := by
  refine T.r_l_word.haveH sc_l_word (fun vs H Q E z => ?_) ?_
  · obtain ⟨ea, C, s, rfl, _⟩ := z; rfl
  · intro f cdv A' outer s H vs Q E hr z
    obtain ⟨ea, C, s', rfl, he, hW, q⟩ := z
    refine ⟨_, (pss_cons (ps_set (i := 1) sc_l_word.nd rfl (Or.inl rfl) pe_str)
      (pss_cons (ps_if (pt_val (pe_callB call_isxC rfl T.b_isinstance PyProof.Rows.boot_isinstance (pa_cons (pvM 0) (pa_cons (pe_globE rfl T.m_NoTask) pa_nil)))) (pss_one (ps_set (i := 1) sc_l_word.nd rfl (Or.inl rfl) (pe_op op_catS (pvM 1) pe_str))) pss_nil)
      (pss_cons (ps_if (pt_val (pe_callB call_isxC rfl T.b_isinstance PyProof.Rows.boot_isinstance (pa_cons (pvM 0) (pa_cons (pe_globE rfl T.m_NoBank) pa_nil)))) (pss_one (ps_set (i := 1) sc_l_word.nd rfl (Or.inl rfl) (pe_op op_catS (pvM 1) pe_str))) pss_nil)
      (pss_cons (ps_if (pt_val (pe_callB call_isxC rfl T.b_isinstance PyProof.Rows.boot_isinstance (pa_cons (pvM 0) (pa_cons (pe_globE rfl T.m_OutOfBank) pa_nil)))) (pss_one (ps_set (i := 1) sc_l_word.nd rfl (Or.inl rfl) (pe_op op_catS (pvM 1) pe_str))) pss_nil)
      (pss_one (ps_ret (pvM 1))))))), ?_⟩
    walk_at "wp"
    cases hW with
    | t =>
      refine ⟨_, he, T.xi_NoTask, true, T.kit_NoTask_NoTask, iteT ⟨by decide +kernel, _, he, T.xi_NoTask, false, T.kit_NoTask_NoBank, iteF ⟨_, he, T.xi_NoTask, false, T.kit_NoTask_OutOfBank, iteF ?_⟩⟩⟩
      rw [show (Str.ofString "" ++ Str.ofString "task") = Str.ofString "task" by decide +kernel]; exact q
    | b =>
      refine ⟨_, he, T.xi_NoBank, false, T.kit_NoBank_NoTask, iteF ⟨_, he, T.xi_NoBank, true, T.kit_NoBank_NoBank, iteT ⟨by decide +kernel, _, he, T.xi_NoBank, false, T.kit_NoBank_OutOfBank, iteF ?_⟩⟩⟩
      rw [show (Str.ofString "" ++ Str.ofString "bank") = Str.ofString "bank" by decide +kernel]; exact q
    | s =>
      refine ⟨_, he, T.xi_OutOfBank, false, T.kit_OutOfBank_NoTask, iteF ⟨_, he, T.xi_OutOfBank, false, T.kit_OutOfBank_NoBank, iteF ⟨_, he, T.xi_OutOfBank, true, T.kit_OutOfBank_OutOfBank, iteT ⟨by decide +kernel, ?_⟩⟩⟩⟩
      rw [show (Str.ofString "" ++ Str.ofString "size") = Str.ofString "size" by decide +kernel]; exact q
theorem Wd.sub (T : Txt K mg A) {s : Str} {N : Addr} (h : Wd A s N) : XSub K N A.C_FrameError := by
  cases h with
  | t => exact T.sub_NoTask_FrameError
  | b => exact T.sub_NoBank_FrameError
  | s => exact T.sub_OutOfBank_FrameError
theorem lks2 {H : Hp} {t : Addr} {a : Str} {v : V} (h : H t = some (.tup [.str a, v])) (hv : lfV v = true) : Lks H (.seq true [.leaf (.str a), .leaf v]) (.ref t) := by
  unfold Lks
  refine ⟨t, _, rfl, h, by show (2 : Nat) < 16777216; decide, ?_⟩
  unfold LksL
  refine ⟨_, _, rfl, by unfold Lks; exact ⟨rfl, rfl⟩, ?_⟩
  unfold LksL
  exact ⟨_, _, rfl, by unfold Lks; exact ⟨rfl, hv⟩, by unfold LksL; rfl⟩
def sp_ans (A : Adr) : Sp := fun vs H Q _ => ∃ (z : Hz) (tk bk : Kvs) (κ : K5) (n : Int), vs = [.ref z.p, .int κ.i, .int n] ∧ HsAt A.C_House A.C_Stretches H z tk bk ∧ tk.length < 1000 ∧ bk.length < 1000 ∧
  ∀ r tk' bk' t H', Ev tk bk κ n r tk' bk' → HsAt A.C_House A.C_Stretches H' z tk' bk' → Kz z H H' → Lks H' (rsD r) (.ref t) → Q (.ref t) H'
theorem h_ans (T : Txt K mg A) : Have P w K mg base "_law_answer" 6 ["_law_house", "_law_kind", "_law_number_here"] [] (sp_ans A) := by
  have H_l_say := h_say (P := P) (w := w) (base := base) T
  have HH_l_word := hh_word (P := P) (w := w) (base := base) T
  refine T.r_l_answer.have sc_l_answer (fun vs H Q E z => ?_) ?_
  · obtain ⟨z, tk, bk, κ, n, rfl, _⟩ := z; rfl
  · intro f cdv A' outer s H vs Q E hr z
    obtain ⟨z, tk, bk, κ, n, rfl, hS, hl1, hl2, q⟩ := z
    refine ⟨_, (pss_cons (ps_try_as (i := 4) sc_l_answer.nd rfl rfl T.h_FrameError (fun _ _ _ po1 xw1 => (pss_one (ps_set (i := 3) sc_l_answer.nd rfl (Or.inl rfl) (pe_callE H_l_say (hr.mono (by decide)) xw1 (pa_cons (pvM 0) (pa_cons (pvM 1) (pa_cons (pvM 2) pa_nil))))))) pss_nil (fun _ => (pss_one (ps_ret (pe_tup (pa_cons pe_str (pa_cons (pe_callH HH_l_word ((hr.h.mono (by decide)).mark) (pa_cons (pvM 4) pa_nil)) pa_nil)))))))
      (pss_one (ps_ret (pe_tup (pa_cons pe_str (pa_cons (pvM 3) pa_nil)))))), ?_⟩
    unfold sp_say sp_word
    walk_at "wp"
    refine ⟨z, rfl, tk, bk, κ, rfl, hS, hl1, hl2, fun v tk' bk' H' he hS' hk p hp => ?_, fun s N he hW => ?_⟩
    · have b := same_upd (o := .tup [V.str "ok", v]) (same_refl (H := H')) hp
      exact q (.ok v) _ _ p _ he (hS'.same b) (fun c o h h1 h2 => b _ _ (hk c o h h1 h2)) (lks2 upd_same he.lf)
    refine ⟨N, rfl, hW.sub T, fun ea hea => ⟨s, hW, fun p hp => ?_⟩⟩
    have b1 := same_upd (o := excO ea N) (same_refl (H := H)) hea
    have b2 := same_upd (o := .tup [V.str "no", V.str s]) b1 hp
    exact q (.no s) _ _ p _ he (hS.same b2) (fun c o h _ _ => b2 _ _ h) (lks2 upd_same rfl)
def sp_num : Sp := fun vs H Q _ => ∃ (a : Addr) (kvs : Kvs) (c : Int), vs = [.ref a, .int c] ∧ H a = some (.dK kvs) ∧ IntK (ksK kvs) ∧ kvs.length < 64 ∧ ∀ n H', Same H H' → Q (.int n) H'
theorem h_num (T : Txt K mg A) : Have P w K mg base "_law_number" 2 ["_law_numbers", "_law_cell"] [] sp_num := by
  have H_l_least := h_l_least (P := P) (w := w) (base := base) T
  refine T.r_l_number.have sc_l_number (fun vs H Q E z => ?_) ?_
  · obtain ⟨a, kvs, c, rfl, _⟩ := z; rfl
  · intro f cdv A' outer s H vs Q E hr z
    obtain ⟨a, kvs, c, rfl, ha, hi, hl, q⟩ := z
    refine ⟨_, (pss_cons (ps_set (i := 2) sc_l_number.nd rfl (Or.inl rfl) (pe_op op_fdiv (pvM 1) pe_int))
      (pss_cons (ps_if (PW.pt (pw_or (pt_cmpR op_eq (pe_op op_mod (pvM 1) pe_int) pe_int (nomark _)) (pw_or1 (pt_cmpR op_eq (pe_callB call_lenD rfl T.b_len PySem.boot_len (pa_cons (pvM 0) pa_nil)) pe_int (nomark _))))) (pss_one (ps_ret (pe_ix ix_lst (pe_lst (pa_cons (pe_callE H_l_least (hr.mono (by decide)) xw_def (pa_cons (pvM 0) pa_nil)) (pa_cons (pe_op op_sub (pe_un op_neg pe_int) (pe_op op_mod (pe_op op_fdiv (pvM 2) pe_int) (pe_op op_pow pe_int pe_int))) (pa_cons (pe_op op_add pe_int (pe_op op_mod (pe_op op_fdiv (pvM 2) pe_int) (pe_op op_pow pe_int pe_int))) pa_nil)))) (pe_op op_mod (pvM 2) pe_int) (fun _ _ => rfl)))) pss_nil)
      (pss_one (ps_ret (pe_ix ix_list (pe_callB (call_sortedD rfl) rfl T.b_sorted PyProof.Rows.boot_sorted (pa_cons (pvM 0) pa_nil)) (pe_op op_mod (pvM 2) (pe_callB call_lenD rfl T.b_len PySem.boot_len (pa_cons (pvM 0) pa_nil))) (fun _ _ => rfl)))))), ?_⟩
    unfold sp_l_least
    walk_at "wp"
    have lit : ∀ (k : Nat) (p : Addr), H p = none → ∃ x, atI [V.int k, V.int (-1 - c / 5 / 3 % 1000000000000000000000000000000), V.int (64 + c / 5 / 3 % 1000000000000000000000000000000)] (c / 5 % 3) = some x ∧
        Q x (upd H p (.lst [V.int k, V.int (-1 - c / 5 / 3 % 1000000000000000000000000000000), V.int (64 + c / 5 / 3 % 1000000000000000000000000000000)])) := fun k p hp => by
      refine pick (by omega) (by show _ < (3 : Int); omega) fun v hv => ?_
      obtain ⟨i, rfl⟩ : ∃ i : Int, v = .int i := by
        simp only [List.mem_cons, List.not_mem_nil, or_false] at hv
        rcases hv with rfl | rfl | rfl <;> exact ⟨_, rfl⟩
      exact q i _ (same_upd same_refl hp)
    refine ite2 (fun _ => ⟨kvs, ha, fun k _ p hp => lit k p hp⟩) (fun _ => ⟨kvs, ha, ite2 (fun _ => ⟨kvs, ha, fun k _ p hp => lit k p hp⟩) (fun h0 => ⟨kvs, .inl ha, (ksK kvs).map kI, hi.ns, by unfold ksK; rw [List.length_map, List.length_map]; exact hl, fun l ms hl1 h2 _ => ?_⟩)⟩)
    have hml : ms.length = kvs.length := by have := h2.length_eq; unfold ksK at this; rw [List.length_map, List.length_map] at this; exact this
    have b := same_upd (o := .lst (ms.map V.int)) (same_refl (H := H)) hl1
    have hpos : (0 : Int) < kvs.length := by omega
    refine ⟨kvs, b _ _ ha, hpos, ms.map V.int, SqL.of upd_same, ?_⟩
    refine pick (Int.emod_nonneg _ (by omega)) (by rw [List.length_map, hml]; exact Int.emod_lt_of_pos _ hpos) fun v hv => ?_
    obtain ⟨i, _, rfl⟩ := List.mem_map.mp hv
    exact q i _ b
def sp_size : Sp := fun vs H Q _ => ∃ (c : Int), vs = [.int c] ∧ ∀ n H', Same H H' → Q (.int n) H'
theorem h_size (T : Txt K mg A) : Have P w K mg base "_law_size" 1 ["_law_cell"] [] sp_size := by
  refine T.r_l_size.have sc_l_size (fun vs H Q E z => ?_) ?_
  · obtain ⟨c, rfl, _⟩ := z; rfl
  · intro f cdv A' outer s H vs Q E hr z
    obtain ⟨c, rfl, q⟩ := z
    refine ⟨_, (pss_cons (ps_set (i := 1) sc_l_size.nd rfl (Or.inl rfl) (pe_op op_fdiv (pvM 0) pe_int))
      (pss_cons (ps_if (pt_cmpR op_eq (pe_op op_mod (pvM 0) pe_int) pe_int (nomark _)) (pss_one (ps_ret (pe_ix ix_lst (pe_lst (pa_cons pe_int (pa_cons pe_int (pa_cons (pe_op op_add pe_int (pe_op op_mod (pe_op op_fdiv (pvM 1) pe_int) (pe_op op_pow pe_int pe_int))) (pa_cons (pe_op op_sub (pe_un op_neg pe_int) (pe_op op_mod (pe_op op_fdiv (pvM 1) pe_int) (pe_op op_pow pe_int pe_int))) pa_nil))))) (pe_op op_mod (pvM 1) pe_int) (fun _ _ => rfl)))) pss_nil)
      (pss_one (ps_ret (pe_op op_add pe_int (pe_op op_mod (pvM 1) pe_int)))))), ?_⟩
    walk_at "wp"
    refine ite2 (fun _ p hp => ?_) (fun _ => q _ _ same_refl)
    refine pick (by omega) (by show _ < (4 : Int); omega) fun v hv => ?_
    obtain ⟨i, rfl⟩ : ∃ i : Int, v = .int i := by
      simp only [List.mem_cons, List.not_mem_nil, or_false] at hv
      rcases hv with rfl | rfl | rfl | rfl <;> exact ⟨_, rfl⟩
    exact q i _ (same_upd same_refl hp)
def K2 (a b : Addr) (H H' : Hp) : Prop := ∀ c o, H c = some o → c ≠ a → c ≠ b → H' c = some o
def sp_due : Sp := fun vs H Q _ => ∃ (ta ba : Addr) (tl bl : Kvs) (κ : K5) (n : Int), vs = [.ref ta, .ref ba, .int κ.i, .int n] ∧ H ta = some (.dK tl) ∧ H ba = some (.dK bl) ∧ ta ≠ ba ∧ tl.length < 1000 ∧ bl.length < 1000 ∧
  ∀ r tl' bl' t H', Ev tl bl κ n r tl' bl' → H' ta = some (.dK tl') → H' ba = some (.dK bl') → K2 ta ba H H' → Lks H' (rsD r) (.ref t) → Q (.ref t) H'
theorem h_due (T : Txt K mg A) : Have P w K mg base "_law_due" 2 ["_law_tasks", "_law_banks", "_law_kind", "_law_number_here"] [] sp_due := by
  have H_l_least := h_l_least (P := P) (w := w) (base := base) T
  refine T.r_l_due.have sc_l_due (fun vs H Q E z => ?_) ?_
  · obtain ⟨ta, ba, tl, bl, κ, n, rfl, _⟩ := z; rfl
  · intro f cdv A' outer s H vs Q E hr z
    obtain ⟨ta, ba, tl, bl, κ, n, rfl, h1, h2, hne, hl1, hl2, q⟩ := z
    refine ⟨_, (pss_cons (ps_if (pt_cmpR op_lt (pvM 2) pe_int (nomark _)) (pss_cons (ps_if (PW.pt (pw_and (pt_cmpR op_eq (pvM 2) pe_int (nomark _)) (pw_and1 (pt_cmp (pc_dnotin (hu_of hr) (pvM 3) (pvM 0)))))) (pss_one (ps_ret (pe_tup (pa_cons pe_str (pa_cons pe_str pa_nil))))) pss_nil)
      (pss_cons (ps_set (i := 4) sc_l_due.nd rfl (Or.inl rfl) (pe_callE H_l_least (hr.mono (by decide)) xw_def (pa_cons (pvM 0) pa_nil)))
      (pss_cons (ps_dput (hu_of hr) (pvM 0) (pvM 4) pe_bl rfl)
      (pss_one (ps_ret (pe_tup (pa_cons pe_str (pa_cons (pvM 4) pa_nil)))))))) pss_nil)
      (pss_cons (ps_if (pt_cmpR op_eq (pvM 2) pe_int (nomark _)) (pss_cons (ps_if (pt_cmp (pc_dnotin (hu_of hr) (pvM 3) (pvM 0))) (pss_one (ps_ret (pe_tup (pa_cons pe_str (pa_cons pe_str pa_nil))))) pss_nil)
      (pss_cons (ps_expr (pe_dpop1 (pvM 0) (pvM 3) ⟨rfl, rfl, rfl, rfl⟩))
      (pss_one (ps_ret (pe_tup (pa_cons pe_str (pa_cons pe_non pa_nil))))))) pss_nil)
      (pss_cons (ps_if (pt_cmpR op_eq (pvM 2) pe_int (nomark _)) (pss_cons (ps_if (PW.pt (pw_or (pt_cmpR op_lt (pvM 3) pe_int (nomark _)) (pw_or1 (pt_cmpR op_gt (pvM 3) pe_int (nomark _))))) (pss_one (ps_ret (pe_tup (pa_cons pe_str (pa_cons pe_str pa_nil))))) pss_nil)
      (pss_cons (ps_set (i := 5) sc_l_due.nd rfl (Or.inl rfl) (pe_callE H_l_least (hr.mono (by decide)) xw_def (pa_cons (pvM 1) pa_nil)))
      (pss_cons (ps_dput (hu_of hr) (pvM 1) (pvM 5) (pvM 3) rfl)
      (pss_one (ps_ret (pe_tup (pa_cons pe_str (pa_cons (pvM 5) pa_nil)))))))) pss_nil)
      (pss_cons (ps_if (pt_cmp (pc_dnotin (hu_of hr) (pvM 3) (pvM 1))) (pss_one (ps_ret (pe_tup (pa_cons pe_str (pa_cons pe_str pa_nil))))) pss_nil)
      (pss_cons (ps_expr (pe_dpop1 (pvM 1) (pvM 3) ⟨rfl, rfl, rfl, rfl⟩))
      (pss_one (ps_ret (pe_tup (pa_cons pe_str (pa_cons pe_non pa_nil)))))))))), ?_⟩
    unfold sp_l_least sDPut tDNotIn tDPop1
    have hz := PySem.sizeLine_eq
    have no : ∀ (wd : Str) (p : Addr), Ev tl bl κ n (.no wd) tl bl → H p = none → Q (.ref p) (upd H p (.tup [.str "no", .str wd])) := fun wd p he hp => by
      have b := same_upd (o := .tup [V.str "no", V.str wd]) (same_refl (H := H)) hp
      exact q (.no wd) _ _ p _ he (b _ _ h1) (b _ _ h2) (fun c o h _ _ => b _ _ h) (lks2 upd_same rfl)
    have okT : ∀ (v : V) (tl' : Kvs) (p : Addr), Ev tl bl κ n (.ok v) tl' bl → upd H ta (.dK tl') p = none → Q (.ref p) (upd (upd H ta (.dK tl')) p (.tup [.str "ok", v])) := fun v tl' p he hp => by
      have b := same_upd (o := .tup [V.str "ok", v]) (same_refl (H := upd H ta (.dK tl'))) hp
      exact q (.ok v) _ _ p _ he (b _ _ upd_same) (b _ _ (by rw [upd_ne hne.symm]; exact h2)) (fun c o h h1 _ => b _ _ (by rw [upd_ne h1]; exact h)) (lks2 upd_same he.lf)
    have okB : ∀ (v : V) (bl' : Kvs) (p : Addr), Ev tl bl κ n (.ok v) tl bl' → upd H ba (.dK bl') p = none → Q (.ref p) (upd (upd H ba (.dK bl')) p (.tup [.str "ok", v])) := fun v bl' p he hp => by
      have b := same_upd (o := .tup [V.str "ok", v]) (same_refl (H := upd H ba (.dK bl'))) hp
      exact q (.ok v) _ _ p _ he (b _ _ (by rw [upd_ne hne]; exact h1)) (b _ _ upd_same) (fun c o h _ h2 => b _ _ (by rw [upd_ne h2]; exact h)) (lks2 upd_same he.lf)
    cases κ
    · simp only [K5.i]
      walk_at "wp"
      rw [if_neg (by decide)]
      refine iteF ⟨tl, h1, fun k hk => ⟨_, .inl ⟨tl, Sum.inl (k : Int), h1, rfl, by omega, rfl⟩, fun p hp => ?_⟩⟩
      rw [ks_put hk.1] at hp ⊢
      exact okT _ _ p (.new hk) hp
    · simp only [K5.i]
      walk_at "wp"
      refine ⟨_, .inl ⟨tl, Sum.inl n, .inl h1, rfl, rfl⟩, ?_⟩
      by_cases hn : (Sum.inl n : Key) ∈ ksK tl
      · rw [in_pos hn]
        refine iteF ⟨tl, h1, fun k hk => ⟨_, .inl ⟨tl, Sum.inl (k : Int), h1, rfl, by omega, rfl⟩, fun p hp => ?_⟩⟩
        rw [ks_put hk.1] at hp ⊢
        exact okT _ _ p (.fork hk hn) hp
      · rw [in_neg hn]
        exact iteT fun p hp => no _ p (.forkN hn) hp
    · simp only [K5.i]
      walk_at "wp"
      refine iteF ⟨_, .inl ⟨tl, Sum.inl n, .inl h1, rfl, rfl⟩, ?_⟩
      by_cases hn : (Sum.inl n : Key) ∈ ksK tl
      · obtain ⟨v, hv⟩ := val_some hn
        rw [in_pos hn]
        exact iteF ⟨.inl ⟨tl, .inl h1⟩, tl, h1, Sum.inl n, rfl, v, hv, fun p hp => okT _ _ p (.fin hn) hp⟩
      · rw [in_neg hn]
        exact iteT fun p hp => no _ p (.finN hn) hp
    · simp only [K5.i]
      walk_at "wp"
      refine iteF ?_
      rw [if_neg (by decide)]
      by_cases hn : 1 ≤ n ∧ n ≤ 64
      · rw [if_neg (by omega), if_neg (by omega)]
        refine ⟨bl, h2, fun k hk => ⟨_, .inl ⟨bl, Sum.inl (k : Int), h2, rfl, by omega, rfl⟩, fun p hp => ?_⟩⟩
        rw [ks_put hk.1] at hp ⊢
        exact okB _ _ p (.bnew hk hn) hp
      · exact ite2 (fun _ p hp => no _ p (.bnewN hn) hp) (fun h3 => by rw [if_pos (by omega)]; exact fun p hp => no _ p (.bnewN hn) hp)
    · simp only [K5.i]
      walk_at "wp"
      refine iteF ?_
      rw [if_neg (by decide), if_neg (by decide)]
      refine ⟨_, .inl ⟨bl, Sum.inl n, .inl h2, rfl, rfl⟩, ?_⟩
      by_cases hn : (Sum.inl n : Key) ∈ ksK bl
      · obtain ⟨v, hv⟩ := val_some hn
        rw [in_pos hn]
        exact iteF ⟨.inl ⟨bl, .inl h2⟩, bl, h2, Sum.inl n, rfl, v, hv, fun p hp => okB _ _ p (.drop hn) hp⟩
      · rw [in_neg hn]
        exact iteT fun p hp => no _ p (.dropN hn) hp
theorem eqno {H : Hp} {a b : Addr} {x y : Str} {Q : VK} (ha : H a = some (.tup [.str x, .str y])) (hb : H b = some (.tup [.str x, .str y])) (q : Q (.bl true) H) : rEqD K 4 (.ref a) (.ref b) H Q := by
  refine ⟨true, dFl [.str x, .str y], dFl [.str x, .str y], sees_flT (SqT.of ha) rfl, sees_flT (SqT.of hb) rfl, alike_fl _ _, by rw [deep_fl]; decide, ?_⟩
  rw [eq_fl _ rfl]; exact q
theorem deep_rs (r : Rs) : deep (rsD r) = 1 := by cases r <;> rfl
def sp_one (A : Adr) : Sp := fun vs H Q _ => ∃ (z : Hz) (tk bk tl : Kvs) (ta ba : Addr) (κ : K5) (n : Int), vs = [.ref z.p, .ref ta, .ref ba, .int κ.i, .int n] ∧ HsAt A.C_House A.C_Stretches H z tk bk ∧ H ta = some (.dK tl) ∧ H ba = some (.dK bk) ∧ ksK tl = ksK tk ∧ Vi bk ∧ ∀ H', Same H H' → Q (.bl true) H'
theorem h_one (T : Txt K mg A) : Have P w K mg base "_law_asked_one" 5 ["_law_house", "_law_tasks", "_law_banks", "_law_kind", "_law_number_here"] [] (sp_one A) := by
  have H_House_bank_size := h_bs (P := P) (w := w) (base := base) T
  have H_House_stretches_of := h_so (P := P) (w := w) (base := base) T
  have H_l_like := h_like (P := P) (w := w) (base := base) T 3
  have HH_l_word := hh_word (P := P) (w := w) (base := base) T
  refine T.r_l_asked_one.have sc_l_asked_one (fun vs H Q E z => ?_) ?_
  · obtain ⟨z, tk, bk, tl, ta, ba, κ, n, rfl, _⟩ := z; rfl
  · intro f cdv A' outer s H vs Q E hr z
    obtain ⟨z, tk, bk, tl, ta, ba, κ, n, rfl, hS, h1, h2, hk, hv, q⟩ := z
    obtain ⟨dx, hp⟩ := hS.me
    refine ⟨_, (pss_cons (ps_if (PW.pt (pw_or (pt_cmpR op_eq (pvM 3) pe_int (nomark _)) (pw_or1 (pt_cmpR op_eq (pvM 3) pe_int (nomark _))))) (pss_cons (ps_try_as (i := 6) sc_l_asked_one.nd rfl rfl T.h_FrameError (fun _ _ _ po1 xw1 => (pss_one (ps_set (i := 5) sc_l_asked_one.nd rfl (Or.inl rfl) (pe_tup (pa_cons pe_str (pa_cons (pe_methE (pvM 0) T.cl_House H_House_bank_size (hr.mono (by decide)) xw1 (pa_cons (pvM 4) pa_nil)) pa_nil)))))) pss_nil (fun _ => (pss_one (ps_set (i := 5) sc_l_asked_one.nd rfl (Or.inl rfl) (pe_tup (pa_cons pe_str (pa_cons (pe_callH HH_l_word ((hr.h.mono (by decide)).mark) (pa_cons (pvM 6) pa_nil)) pa_nil)))))))
      (pss_cons (ps_if (pt_cmp (pc_din (hu_of hr) (pvM 4) (pvM 2))) (pss_one (ps_ret (pe_callE H_l_like (hr.mono (by decide)) xw_def (pa_cons (pvM 5) (pa_cons (pe_tup (pa_cons pe_str (pa_cons (pe_dget (hu_of hr) (pvM 2) (pvM 4) (fun _ _ => rfl)) pa_nil))) pa_nil))))) pss_nil)
      (pss_one (ps_ret (pe_cmpR (op_eqD (n := 4) (hu6 hr)) (pvM 5) (pe_tup (pa_cons pe_str (pa_cons pe_str pa_nil))) (nomark _)))))) pss_nil)
      (pss_cons (ps_try_as (i := 6) sc_l_asked_one.nd rfl rfl T.h_FrameError (fun _ _ _ po1 xw1 => (pss_one (ps_set (i := 5) sc_l_asked_one.nd rfl (Or.inl rfl) (pe_tup (pa_cons pe_str (pa_cons (pe_methE (pvM 0) T.cl_House H_House_stretches_of (hr.mono (by decide)) xw1 (pa_cons (pvM 4) pa_nil)) pa_nil)))))) pss_nil (fun _ => (pss_one (ps_set (i := 5) sc_l_asked_one.nd rfl (Or.inl rfl) (pe_tup (pa_cons pe_str (pa_cons (pe_callH HH_l_word ((hr.h.mono (by decide)).mark) (pa_cons (pvM 6) pa_nil)) pa_nil)))))))
      (pss_cons (ps_if (pt_cmp (pc_din (hu_of hr) (pvM 4) (pvM 1))) (pss_one (ps_ret (pe_callE H_l_like (hr.mono (by decide)) xw_def (pa_cons (pvM 5) (pa_cons (pe_tup (pa_cons pe_str (pa_cons (pe_lst pa_nil) pa_nil))) pa_nil))))) pss_nil)
      (pss_one (ps_ret (pe_cmpR (op_eqD (n := 4) (hu6 hr)) (pvM 5) (pe_tup (pa_cons pe_str (pa_cons pe_str pa_nil))) (nomark _))))))), ?_⟩
    unfold sp_bs sp_so sp_like sp_word tDIn tDGet
    walk_at "wp"
    refine ite2 (fun _ => ?_) (fun _ => ite2 (fun _ => ?_) (fun _ => ?_))
    · refine ⟨dx, _, hp, hsF_no (by decide +kernel), z, rfl, tk, bk, hS, ?_⟩
      by_cases hn : (Sum.inl n : Key) ∈ ksK bk
      · obtain ⟨v, hvv⟩ := val_some hn
        obtain ⟨i, hi⟩ := hv _ (val_mem hvv)
        have hi : v = .int i := hi
        subst hi
        refine .inl ⟨_, hvv, fun p hp1 => ?_⟩
        have b1 := same_upd (o := .tup [V.str "ok", V.int i]) (same_refl (H := H)) hp1
        refine ⟨_, .inl ⟨bk, Sum.inl n, .inl (b1 _ _ h2), rfl, rfl⟩, ?_⟩
        rw [in_pos hn]
        refine iteT ⟨_, .inl ⟨bk, Sum.inl n, .inl (b1 _ _ h2), rfl, hvv.symm⟩, fun p1 hp2 => ?_⟩
        have b2 := same_upd (o := .tup [V.str "ok", V.int i]) (same_refl (H := upd H p (.tup [V.str "ok", V.int i]))) hp2
        exact ⟨rsD (.ok (.int i)), lks2 (b2 _ _ upd_same) rfl, lks2 upd_same rfl, by rw [deep_rs]; decide, fun H' s => q _ ((b1.trans b2).trans s)⟩
      · refine .inr ⟨hn, A.C_NoBank, rfl, T.sub_NoBank_FrameError, fun ea hea => ⟨"bank", .b, fun p hp1 => ?_⟩⟩
        have b1 := same_upd (o := excO ea A.C_NoBank) (same_refl (H := H)) hea
        have b2 := same_upd (o := .tup [V.str "no", V.str "bank"]) b1 hp1
        refine ⟨_, .inl ⟨bk, Sum.inl n, .inl (b2 _ _ h2), rfl, rfl⟩, ?_⟩
        rw [in_neg hn]
        refine iteF fun p1 hp2 => ?_
        have b3 := same_upd (o := .tup [V.str "no", V.str "bank"]) (same_refl (H := upd (upd H ea (excO ea A.C_NoBank)) p (.tup [V.str "no", V.str "bank"]))) hp2
        exact eqno (b3 _ _ upd_same) upd_same (q _ (b2.trans b3))
    · refine ⟨dx, _, hp, hsF_no (by decide +kernel), z, rfl, tk, bk, hS, ?_⟩
      by_cases hn : (Sum.inl n : Key) ∈ ksK bk
      · obtain ⟨v, hvv⟩ := val_some hn
        obtain ⟨i, hi⟩ := hv _ (val_mem hvv)
        have hi : v = .int i := hi
        subst hi
        refine .inl ⟨_, hvv, fun p hp1 => ?_⟩
        have b1 := same_upd (o := .tup [V.str "ok", V.int i]) (same_refl (H := H)) hp1
        refine ⟨_, .inl ⟨bk, Sum.inl n, .inl (b1 _ _ h2), rfl, rfl⟩, ?_⟩
        rw [in_pos hn]
        refine iteT ⟨_, .inl ⟨bk, Sum.inl n, .inl (b1 _ _ h2), rfl, hvv.symm⟩, fun p1 hp2 => ?_⟩
        have b2 := same_upd (o := .tup [V.str "ok", V.int i]) (same_refl (H := upd H p (.tup [V.str "ok", V.int i]))) hp2
        exact ⟨rsD (.ok (.int i)), lks2 (b2 _ _ upd_same) rfl, lks2 upd_same rfl, by rw [deep_rs]; decide, fun H' s => q _ ((b1.trans b2).trans s)⟩
      · refine .inr ⟨hn, A.C_NoBank, rfl, T.sub_NoBank_FrameError, fun ea hea => ⟨"bank", .b, fun p hp1 => ?_⟩⟩
        have b1 := same_upd (o := excO ea A.C_NoBank) (same_refl (H := H)) hea
        have b2 := same_upd (o := .tup [V.str "no", V.str "bank"]) b1 hp1
        refine ⟨_, .inl ⟨bk, Sum.inl n, .inl (b2 _ _ h2), rfl, rfl⟩, ?_⟩
        rw [in_neg hn]
        refine iteF fun p1 hp2 => ?_
        have b3 := same_upd (o := .tup [V.str "no", V.str "bank"]) (same_refl (H := upd (upd H ea (excO ea A.C_NoBank)) p (.tup [V.str "no", V.str "bank"]))) hp2
        exact eqno (b3 _ _ upd_same) upd_same (q _ (b2.trans b3))
    · refine ⟨dx, _, hp, hsF_no (by decide +kernel), z, rfl, tk, bk, hS, ?_⟩
      by_cases hn : (Sum.inl n : Key) ∈ ksK tk
      · refine .inl ⟨hn, fun l hl p hp1 => ?_⟩
        have b1 := same_upd (o := .lst []) (same_refl (H := H)) hl
        have b2 := same_upd (o := .tup [V.str "ok", V.ref l]) (same_refl (H := upd H l (.lst []))) hp1
        refine ⟨_, .inl ⟨tl, Sum.inl n, .inl (b2 _ _ (b1 _ _ h1)), rfl, rfl⟩, ?_⟩
        rw [in_pos (by rw [hk]; exact hn)]
        refine iteT fun p1 hp2 p2 hp3 => ?_
        have hl2 : upd (upd H l (.lst [])) p (.tup [V.str "ok", V.ref l]) l = some (.lst []) := b2 _ _ upd_same
        have hp4 : upd (upd H l (.lst [])) p (.tup [V.str "ok", V.ref l]) p = some (.tup [V.str "ok", V.ref l]) := upd_same
        have b02 := b1.trans b2
        generalize upd (upd H l (.lst [])) p (.tup [V.str "ok", V.ref l]) = H2 at *
        have b3 := same_upd (o := .lst []) (same_refl (H := H2)) hp2
        have h31 : upd H2 p1 (.lst []) p1 = some (.lst []) := upd_same
        generalize upd H2 p1 (.lst []) = H3 at *
        have b4 := same_upd (o := .tup [V.str "ok", V.ref p1]) (same_refl (H := H3)) hp3
        have h42 : upd H3 p2 (.tup [V.str "ok", V.ref p1]) p2 = some (.tup [V.str "ok", V.ref p1]) := upd_same
        generalize upd H3 p2 (.tup [V.str "ok", V.ref p1]) = H4 at *
        have b24 := b3.trans b4
        have lk : ∀ {t u : Addr}, H4 t = some (.tup [V.str "ok", V.ref u]) → H4 u = some (.lst []) → Lks H4 (.seq true [.leaf (.str "ok"), .seq false []]) (.ref t) := fun {t u} ht hu => by
          unfold Lks
          refine ⟨t, _, rfl, ht, by show (2 : Nat) < 16777216; decide, ?_⟩
          unfold LksL
          refine ⟨_, _, rfl, by unfold Lks; exact ⟨rfl, rfl⟩, ?_⟩
          unfold LksL
          refine ⟨_, _, rfl, ?_, by unfold LksL; rfl⟩
          unfold Lks
          exact ⟨u, [], rfl, hu, by show (0 : Nat) < 16777216; decide, by unfold LksL; rfl⟩
        exact ⟨_, lk (b24 _ _ hp4) (b24 _ _ hl2), lk h42 (b4 _ _ h31), by decide, fun H' s => q _ ((b02.trans b24).trans s)⟩
      · refine .inr ⟨hn, A.C_NoTask, rfl, T.sub_NoTask_FrameError, fun ea hea => ⟨"task", .t, fun p hp1 => ?_⟩⟩
        have b1 := same_upd (o := excO ea A.C_NoTask) (same_refl (H := H)) hea
        have b2 := same_upd (o := .tup [V.str "no", V.str "task"]) b1 hp1
        refine ⟨_, .inl ⟨tl, Sum.inl n, .inl (b2 _ _ h1), rfl, rfl⟩, ?_⟩
        rw [in_neg (by rw [hk]; exact hn)]
        refine iteF fun p1 hp2 => ?_
        have b3 := same_upd (o := .tup [V.str "no", V.str "task"]) (same_refl (H := upd (upd H ea (excO ea A.C_NoTask)) p (.tup [V.str "no", V.str "task"]))) hp2
        exact eqno (b3 _ _ upd_same) upd_same (q _ (b2.trans b3))
theorem sqL_same {H H' : Hp} {a : Addr} {xs : List V} (h : SqL K H a xs) (s : Same H H') : SqL K H' a xs := h.imp (fun r => r.imp (s _ _) (fun ⟨o, e⟩ => ⟨o, s _ _ e⟩)) id
theorem cut_ints {ns : List Int} {lo hi : Option Int} : ∃ ms : List Int, cutV (ns.map V.int) lo hi = ms.map V.int := by
  unfold cutV
  rw [← List.map_drop, ← List.map_take]
  exact ⟨_, rfl⟩
structure LI (A : Adr) (H : Hp) (z zb : Hz) (ta ba : Addr) (tk bk tl : Kvs) : Prop where
  hs : HsAt A.C_House A.C_Stretches H z tk bk
  be : HsAt A.C_House A.C_Stretches H zb [] []
  t : H ta = some (.dK tl)
  b : H ba = some (.dK bk)
  kt : ksK tl = ksK tk
  it : IntK (ksK tk)
  ib : IntK (ksK bk)
  vi : Vi bk
  lt : tk.length ≤ 63
  lb : bk.length ≤ 63
  nd : [z.td, z.bd, ta, ba, zb.td, zb.bd].Nodup
theorem LI.same {A : Adr} {H H' : Hp} {z zb : Hz} {ta ba : Addr} {tk bk tl : Kvs} (h : LI A H z zb ta ba tk bk tl) (s : Same H H') : LI A H' z zb ta ba tk bk tl :=
  ⟨h.hs.same s, h.be.same s, s _ _ h.t, s _ _ h.b, h.kt, h.it, h.ib, h.vi, h.lt, h.lb, h.nd⟩
theorem LI.len {A : Adr} {H : Hp} {z zb : Hz} {ta ba : Addr} {tk bk tl : Kvs} (h : LI A H z zb ta ba tk bk tl) : tl.length = tk.length := by
  have := congrArg List.length h.kt
  unfold ksK at this
  rwa [List.length_map, List.length_map] at this
theorem house_made {C S D : Addr} {H H' : Hp} {x dx x1 dx1 td bd : Addr} {sf : List (Str × V)} (hx : H x = none) (hdx : H dx = none) (hx1 : upd (upd H dx (.own x)) x (.ins D dx sf) x1 = none) (hdx1 : upd (upd H dx (.own x)) x (.ins D dx sf) dx1 = none)
    (htd : upd (upd (upd (upd H dx (.own x)) x (.ins D dx sf)) dx1 (.own x1)) x1 (.ins C dx1 []) td = none) (hbd : upd (upd (upd (upd H dx (.own x)) x (.ins D dx sf)) dx1 (.own x1)) x1 (.ins C dx1 []) bd = none) (hn : td ≠ bd)
    (k : Kd x1 (upd (upd (upd (upd H dx (.own x)) x (.ins D dx sf)) dx1 (.own x1)) x1 (.ins C dx1 [])) H') (h1 : H' x1 = some (.ins C dx1 (hsF x td bd))) (h2 : H' td = some (.dK [])) (h3 : H' bd = some (.dK [])) :
    Same H H' ∧ HsAt C S H' ⟨x1, x, td, bd⟩ [] [] ∧ H td = none ∧ H bd = none := by
  have b1 : Same H (upd (upd H dx (.own x)) x (.ins D dx sf)) := fun c o h => by rw [upd_ne (ne_of_none h hx), upd_ne (ne_of_none h hdx)]; exact h
  generalize upd (upd H dx (.own x)) x (.ins D dx sf) = H1 at *
  have b2 : ∀ c o, H1 c = some o → upd (upd H1 dx1 (.own x1)) x1 (.ins C dx1 []) c = some o := fun c o h => by rw [upd_ne (ne_of_none h hx1), upd_ne (ne_of_none h hdx1)]; exact h
  have n2 : ∀ c, upd (upd H1 dx1 (.own x1)) x1 (.ins C dx1 []) c = none → H1 c = none := fun c h => by
    cases e : H1 c with
    | none => rfl
    | some o => rw [b2 c o e] at h; cases h
  refine ⟨fun c o h => k c o (b2 _ _ (b1 _ _ h)) (ne_of_none (b1 _ _ h) hx1), ⟨⟨dx1, h1⟩, h2, h3, fun kv hkv => by simp at hkv, hn⟩, same_none b1 (n2 _ htd), same_none b1 (n2 _ hbd)⟩
/-- all but dicts stay -/
def Nd (H H' : Hp) : Prop := ∀ c o, H c = some o → (∀ kvs, o ≠ .dK kvs) → H' c = some o
theorem K2.nd {a b : Addr} {H H' : Hp} {x y : Kvs} (k : K2 a b H H') (ha : H a = some (.dK x)) (hb : H b = some (.dK y)) : Nd H H' := fun c o h hn => k c o h (ne_of h ha (hn x)) (ne_of h hb (hn y))
mutual
theorem Lks.nd {H H' : Hp} : ∀ {d : Dv} {x : V}, Lks H d x → Nd H H' → Lks H' d x
  | .leaf v, x, h, _ => by unfold Lks at h ⊢; exact h
  | .seq t ds, x, h, s => by
    unfold Lks at h ⊢
    obtain ⟨a, xs, e, ha, hz, hl⟩ := h
    exact ⟨a, xs, e, s _ _ ha (fun kvs => by cases t <;> exact fun z => nomatch z), hz, hl.nd s⟩
theorem LksL.nd {H H' : Hp} : ∀ {ds : List Dv} {xs : List V}, LksL H ds xs → Nd H H' → LksL H' ds xs
  | [], xs, h, _ => by unfold LksL at h ⊢; exact h
  | d :: ds, xs, h, s => by
    unfold LksL at h ⊢
    obtain ⟨x, r, e, hx, hl⟩ := h
    exact ⟨x, r, e, hx.nd s, hl.nd s⟩
end
theorem HsAt.nd {C S : Addr} {H H' : Hp} {z : Hz} {tk bk : Kvs} (h : HsAt C S H z tk bk) (k : Nd H H') (h1 : H' z.td = some (.dK tk)) (h2 : H' z.bd = some (.dK bk)) : HsAt C S H' z tk bk :=
  ⟨let ⟨dx, e⟩ := h.me; ⟨dx, k _ _ e (fun _ z => nomatch z)⟩, h1, h2, fun kv hk => let ⟨p, dx, a, e, g1, g2⟩ := h.em kv hk; ⟨p, dx, a, e, k _ _ g1 (fun _ z => nomatch z), k _ _ g2 (fun _ z => nomatch z)⟩, h.ne⟩
theorem LI.next {A : Adr} {H H4 H5 : Hp} {z zb : Hz} {ta ba : Addr} {tk bk tl tk' bk' tl' bl' : Kvs} {κ : K5} {n : Int} {r r2 : Rs} (h : LI A H z zb ta ba tk bk tl) (hc1 : κ = .a ∨ κ = .b → tl.length ≤ 62) (hc2 : κ = .d → bk.length ≤ 62)
    (e1 : Ev tk bk κ n r tk' bk') (hS : HsAt A.C_House A.C_Stretches H4 z tk' bk') (k1 : Kz z H H4) (e2 : Ev tl bk κ n r2 tl' bl') (h1 : H5 ta = some (.dK tl')) (h2 : H5 ba = some (.dK bl')) (k2 : K2 ta ba H4 H5) :
    LI A H5 z zb ta ba tk' bk' tl' ∧ r = r2 ∧ Nd H H4 ∧ Nd H4 H5 := by
  obtain ⟨er, ek, eb⟩ := e1.one e2 h.kt.symm
  subst eb
  have nd := h.nd
  simp only [List.nodup_cons, List.mem_cons, List.not_mem_nil, or_false, not_or, List.nodup_nil, and_true, not_false_eq_true] at nd
  obtain ⟨⟨n1, n2, n3, n4, n5⟩, ⟨n6, n7, n8, n9⟩, ⟨n10, n11, n12⟩, ⟨n13, n14⟩, n15⟩ := nd
  have hta4 := k1 _ _ h.t (Ne.symm n2) (Ne.symm n6)
  have hba4 := k1 _ _ h.b (Ne.symm n3) (Ne.symm n7)
  have d1 : Nd H H4 := K2.nd k1 h.hs.t h.hs.b
  have d2 : Nd H4 H5 := k2.nd hta4 hba4
  have hte4 := k1 _ _ h.be.t (Ne.symm n4) (Ne.symm n8)
  have hbe4 := k1 _ _ h.be.b (Ne.symm n5) (Ne.symm n9)
  have li := h.len
  obtain ⟨l1, l2⟩ := e1.lens
  have hi := e1.ints h.it h.ib
  refine ⟨⟨hS.nd d2 (k2 _ _ hS.t n2 n3) (k2 _ _ hS.b n6 n7), (h.be.nd d1 hte4 hbe4).nd d2 (k2 _ _ hte4 (Ne.symm n11) (Ne.symm n13)) (k2 _ _ hbe4 (Ne.symm n12) (Ne.symm n14)), h1, h2, ek.symm, hi.1, hi.2, e1.vi h.vi, ?_, ?_, h.nd⟩, er, d1, d2⟩
  · rcases l1 with l1 | ⟨l1, l3⟩
    · have := h.lt; omega
    · have := hc1 l1; omega
  · rcases l2 with l2 | ⟨l2, l3⟩
    · have := h.lb; omega
    · have := hc2 l2; omega
theorem lks_ints {H : Hp} : ∀ {bs : List Int}, LksL H (bs.map fun x => .leaf (.int x)) (bs.map V.int)
  | [] => by unfold LksL; rfl
  | b :: bs => by
    rw [List.map_cons, List.map_cons]
    unfold LksL
    exact ⟨_, _, rfl, by unfold Lks; exact ⟨rfl, rfl⟩, lks_ints⟩
def dI (ms : List Int) : Dv := .seq false (ms.map fun x => .leaf (.int x))
theorem lks_dI {H : Hp} {l : Addr} {ms : List Int} (h : H l = some (.lst (ms.map V.int))) (hl : ms.length < 64) : Lks H (dI ms) (.ref l) := by
  unfold dI Lks
  exact ⟨l, _, rfl, h, by rw [List.length_map]; omega, lks_ints⟩
theorem deep_leafs : ∀ (ms : List Int), deepL (ms.map fun x => .leaf (.int x)) = 0
  | [] => rfl
  | m :: ms => by
    rw [List.map_cons, deepL, deep_leafs ms]; rfl
theorem lks_two {H : Hp} {p l1 l2 : Addr} {m1 m2 : List Int} (h : H p = some (.lst [.ref l1, .ref l2])) (h1 : Lks H (dI m1) (.ref l1)) (h2 : Lks H (dI m2) (.ref l2)) : Lks H (.seq false [dI m1, dI m2]) (.ref p) := by
  unfold Lks
  refine ⟨p, _, rfl, h, by show (2 : Nat) < 16777216; decide, ?_⟩
  unfold LksL
  refine ⟨_, _, rfl, h1, ?_⟩
  unfold LksL
  exact ⟨_, _, rfl, h2, by unfold LksL; rfl⟩
theorem deep_two {m1 m2 : List Int} : deep (.seq false [dI m1, dI m2]) ≤ 3 := by
  rw [deep, deepL, deepL, deepL]
  unfold dI
  rw [deep, deep, deep_leafs, deep_leafs]; decide
theorem lks_three {H : Hp} {p l1 l2 : Addr} (h : H p = some (.tup [.ref l1, .ref l2, .int 0])) (h1 : H l1 = some (.lst [])) (h2 : H l2 = some (.lst [])) : Lks H (.seq true [dI [], dI [], .leaf (.int 0)]) (.ref p) := by
  unfold Lks
  refine ⟨p, _, rfl, h, by show (3 : Nat) < 16777216; decide, ?_⟩
  unfold LksL
  refine ⟨_, _, rfl, lks_dI h1 (by decide), ?_⟩
  unfold LksL
  refine ⟨_, _, rfl, lks_dI h2 (by decide), ?_⟩
  unfold LksL
  exact ⟨_, _, rfl, by unfold Lks; exact ⟨rfl, rfl⟩, by unfold LksL; rfl⟩
theorem srt_one {a b : List Int} (hp : a.Perm b) (ha : a.Pairwise (· ≤ ·)) (hb : b.Pairwise (· ≤ ·)) : a = b := hp.eq_of_pairwise (fun x y _ _ h1 h2 => Int.le_antisymm h1 h2) ha hb
def spLaw (K : PySem.W.Frag) : Sp := fun vs H Q _ => ∃ (a : Addr) (ns : List Int), vs = [.ref a] ∧ SqL K H a (ns.map V.int) ∧ ns.length ≤ 63 ∧ ∀ H', Q (.bl true) H'
theorem body_law (T : Txt K mg A) : Body P w K mg base "law" s_law ["_law_script", "_law_house", "_law_beside", "_law_tasks", "_law_banks", "_law_cell", "_law_kind", "_law_more", "_law_number_here", "_law_k", "_law_some"] 12 (spLaw K) := by
  have H_Shape_init := h_init (P := P) (w := w) (base := base) T
  have H_House_init := h_hinit (P := P) (w := w) (base := base) T
  have H_l_number := h_num (P := P) (w := w) (base := base) T
  have H_l_size := h_size (P := P) (w := w) (base := base) T
  have H_l_answer := h_ans (P := P) (w := w) (base := base) T
  have H_l_due := h_due (P := P) (w := w) (base := base) T
  have H_l_asked_one := h_one (P := P) (w := w) (base := base) T
  have H_House_task_list := h_tl (P := P) (w := w) (base := base) T
  have H_House_bank_list := h_bl (P := P) (w := w) (base := base) T
  have H_House_new_task := h_nt (P := P) (w := w) (base := base) T
  have H_l_like := h_like (P := P) (w := w) (base := base) T 4
  intro f cdv A' outer s H vs Q E hr z
  obtain ⟨a, ns, rfl, hs, hns, qq⟩ := z
  have H_l_cell_at := h_cell (P := P) (w := w) (base := base) T a ns
  refine ⟨_, (pss_cons (ps_set (i := 1) sc_law.nd rfl (Or.inl rfl) (pe_makeE H_House_init (hr.mono (by decide)) xw_def (pa_cons (pe_makeE H_Shape_init (hr.mono (by decide)) xw_def (pa_cons pe_int (pa_cons (pe_op op_add pe_int (pe_op op_mod (pe_callE H_l_cell_at (hr.mono (by decide)) xw_def (pa_cons (pvM 0) (pa_cons pe_int pa_nil))) pe_int)) (pa_cons pe_int pa_nil)))) pa_nil)))
      (pss_cons (ps_set (i := 2) sc_law.nd rfl (Or.inl rfl) (pe_makeE H_House_init (hr.mono (by decide)) xw_def (pa_cons (pe_makeE H_Shape_init (hr.mono (by decide)) xw_def (pa_cons pe_int (pa_cons pe_int (pa_cons pe_int pa_nil)))) pa_nil)))
      (pss_cons (ps_set (i := 3) sc_law.nd rfl (Or.inl rfl) pe_dnewK)
      (pss_cut (ps_set (i := 4) sc_law.nd rfl (Or.inl rfl) pe_dnewK)
      (pss_cons (ps_forE PassesOwn.leaving rfl (pi_list (pe_slice sl_list (pvM 0) po_none (po_some pe_int))) (pg_name (i := 5) sc_law.nd rfl (Or.inl rfl)) (pss_cut (ps_set (i := 6) sc_law.nd rfl (Or.inl rfl) (pe_ix ix_lst (pe_lst (pa_cons pe_int (pa_cons pe_int (pa_cons pe_int (pa_cons pe_int (pa_cons pe_int (pa_cons pe_int (pa_cons pe_int pa_nil)))))))) (pe_op op_mod (pvM 5) pe_int) (fun _ _ => rfl)))
      (pss_cons (ps_set (i := 7) sc_law.nd rfl (Or.inl rfl) (pe_op op_fdiv (pvM 5) pe_int))
      (pss_cut (ps_if (PW.pt (pw_and (pt_cmpR op_lt (pvM 6) pe_int (nomark _)) (pw_and1 (pt_cmpR op_gt (pe_callB call_lenD rfl T.b_len PySem.boot_len (pa_cons (pvM 3) pa_nil)) pe_int (nomark _))))) (pss_one (ps_set (i := 6) sc_law.nd rfl (Or.inl rfl) pe_int)) pss_nil)
      (pss_cut (ps_if (PW.pt (pw_and (pt_cmpR op_eq (pvM 6) pe_int (nomark _)) (pw_and1 (pt_cmpR op_gt (pe_callB call_lenD rfl T.b_len PySem.boot_len (pa_cons (pvM 4) pa_nil)) pe_int (nomark _))))) (pss_one (ps_set (i := 6) sc_law.nd rfl (Or.inl rfl) pe_int)) pss_nil)
      (pss_cut (ps_set (i := 8) sc_law.nd rfl (Or.inl rfl) (pe_callE H_l_number (hr.mono (by decide)) xw_def (pa_cons (pvM 3) (pa_cons (pvM 7) pa_nil))))
      (pss_cut (ps_if (pt_cmpR op_eq (pvM 6) pe_int (nomark _)) (pss_one (ps_set (i := 8) sc_law.nd rfl (Or.inl rfl) (pe_callE H_l_size (hr.mono (by decide)) xw_def (pa_cons (pvM 7) pa_nil)))) pss_nil)
      (pss_cut (ps_if (pt_cmpR op_eq (pvM 6) pe_int (nomark _)) (pss_one (ps_set (i := 8) sc_law.nd rfl (Or.inl rfl) (pe_callE H_l_number (hr.mono (by decide)) xw_def (pa_cons (pvM 4) (pa_cons (pvM 7) pa_nil))))) pss_nil)
      (pss_cons (ps_if (pt_not (pt_val (pe_callE H_l_like (hr.mono (by decide)) xw_def (pa_cons (pe_callE H_l_answer (hr.mono (by decide)) xw_def (pa_cons (pvM 1) (pa_cons (pvM 6) (pa_cons (pvM 8) pa_nil)))) (pa_cons (pe_callE H_l_due (hr.mono (by decide)) xw_def (pa_cons (pvM 3) (pa_cons (pvM 4) (pa_cons (pvM 6) (pa_cons (pvM 8) pa_nil))))) pa_nil))))) (pss_one (ps_ret pe_bl)) pss_nil)
      (pss_one (ps_if (pt_not (pt_val (pe_callE H_l_asked_one (hr.mono (by decide)) xw_def (pa_cons (pvM 1) (pa_cons (pvM 3) (pa_cons (pvM 4) (pa_cons (pvM 6) (pa_cons (pvM 8) pa_nil)))))))) (pss_one (ps_ret pe_bl)) pss_nil)))))))))))
      (pss_cons (ps_forE PassesOwn.leaving rfl (pi_range1 rfl T.b_range (pa_cons pe_int pa_nil)) (pg_name (i := 9) sc_law.nd rfl (Or.inl rfl)) (pss_cons (ps_set (i := 10) sc_law.nd rfl (Or.inl rfl) (pe_lst (pa_cons (pe_methE0 (pvM 1) T.cl_House H_House_task_list (hr.mono (by decide)) xw_def) (pa_cons (pe_methE0 (pvM 1) T.cl_House H_House_bank_list (hr.mono (by decide)) xw_def) pa_nil))))
      (pss_cons (ps_if (pt_not (pt_val (pe_callE H_l_like (hr.mono (by decide)) xw_def (pa_cons (pvM 10) (pa_cons (pe_lst (pa_cons (pe_callB (call_sortedD rfl) rfl T.b_sorted PyProof.Rows.boot_sorted (pa_cons (pvM 3) pa_nil)) (pa_cons (pe_callB (call_sortedD rfl) rfl T.b_sorted PyProof.Rows.boot_sorted (pa_cons (pvM 4) pa_nil)) pa_nil))) pa_nil))))) (pss_one (ps_ret pe_bl)) pss_nil)
      (pss_cons (ps_expr (pe_bm PySem.F.plainAttrs_list PySem.F.slot_list_append PySem.F.type_list_append mt_append (pe_ix ix_list (pvM 10) pe_int (fun _ _ => rfl)) (pa_cons pe_int pa_nil)))
      (pss_one (ps_expr (pe_bm0 PySem.F.plainAttrs_list PySem.F.slot_list_clear PySem.F.type_list_clear mt_clear (pe_ix ix_list (pvM 10) pe_int (fun _ _ => rfl)))))))))
      (pss_one (ps_ret (pe_callE H_l_like (hr.mono (by decide)) xw_def (pa_cons (pe_tup (pa_cons (pe_methE0 (pvM 2) T.cl_House H_House_task_list (hr.mono (by decide)) xw_def) (pa_cons (pe_methE0 (pvM 2) T.cl_House H_House_bank_list (hr.mono (by decide)) xw_def) (pa_cons (pe_methE0 (pvM 2) T.cl_House H_House_new_task (hr.mono (by decide)) xw_def) pa_nil)))) (pa_cons (pe_tup (pa_cons (pe_lst pa_nil) (pa_cons (pe_lst pa_nil) (pa_cons pe_int pa_nil)))) pa_nil))))))))))), ?_⟩
  unfold spInit sp_hinit sp_cell
  walk_at "wp"
  refine ⟨hs, fun x dx hx hdx hne => ?_⟩
  rw [if_pos (good_of (by omega))]
  intro x1 dx1 hx1 hdx1 hne1 td bd H1 htd hbd hn1 k1 a1 a2 a3 x2 dx2 hx2 hdx2 hne2
  obtain ⟨s1, hS1, htd0, hbd0⟩ := house_made (S := A.C_Stretches) hx hdx hx1 hdx1 htd hbd hn1 k1 a1 a2 a3
  rw [if_pos (good_of (by decide))]
  intro x3 dx3 hx3 hdx3 hne3 te be H2 hte hbe hn2 k2 c1 c2 c3 ta hta
  obtain ⟨s2, hS2, hte0, hbe0⟩ := house_made (S := A.C_Stretches) hx2 hdx2 hx3 hdx3 hte hbe hn2 k2 c1 c2 c3
  clear hx1 hdx1 htd hbd k1 hx3 hdx3 hte hbe k2
  have s3 := same_upd (o := .dK []) (same_refl (H := H2)) hta
  have hta3 : upd H2 ta (.dK []) ta = some (.dK []) := upd_same
  generalize upd H2 ta (.dK []) = H3 at *
  refine ⟨fun σ H' => ∃ ba, σ = [some (.ref a), some (.ref x1), some (.ref x3), some (.ref ta), some (.ref ba), none, none, none, none, none, none] ∧ Same H H' ∧ LI A H' ⟨x1, x, td, bd⟩ ⟨x3, x2, te, be⟩ ta ba [] [] [], ?_, fun σ' H' => ?_⟩
  · walk_at "wp"
    intro ba hba
    have b := same_upd (o := .dK []) (same_refl (H := H3)) hba
    have s03 := s1.trans (s2.trans s3)
    have s13 := s2.trans s3
    refine ⟨s03.trans b, hS1.same (s13.trans b), hS2.same (s3.trans b), b _ _ hta3, upd_same, rfl, fun k hk => by simp [ksK] at hk, fun k hk => by simp [ksK] at hk, fun kv hkv => by simp at hkv, by simp, by simp, ?_⟩
    have e1 := hS1.t
    have e2 := hS1.b
    have e3 := s2 _ _ e1
    have e4 := s2 _ _ e2
    have e5 := s3 _ _ e3
    have e6 := s3 _ _ e4
    have e7 := s3 _ _ hS2.t
    have e8 := s3 _ _ hS2.b
    simp only [List.nodup_cons, List.mem_cons, List.not_mem_nil, or_false, not_or, List.nodup_nil, not_false_eq_true, and_true]
    exact ⟨⟨hn1, ne_of_none e3 hta, ne_of_none e5 hba, ne_of_none e1 hte0, ne_of_none e1 hbe0⟩, ⟨ne_of_none e4 hta, ne_of_none e6 hba, ne_of_none e2 hte0, ne_of_none e2 hbe0⟩, ⟨ne_of_none hta3 hba, (ne_of_none hS2.t hta).symm, (ne_of_none hS2.b hta).symm⟩, ⟨(ne_of_none e7 hba).symm, (ne_of_none e8 hba).symm⟩, hn2⟩
  rintro ⟨ba, rfl, s4, hL⟩
  clear s1 hS1 s2 hS2 s3 a1 a2 a3 c1 c2 c3
  obtain ⟨z, zb, e1, e2, hM⟩ : ∃ z zb : Hz, z.p = x1 ∧ zb.p = x3 ∧ LI A H' z zb ta ba [] [] [] := ⟨_, _, rfl, rfl, hL⟩
  clear hL
  subst e1 e2
  clear hta3 htd0 hbd0 hte0 hbe0 hx2 hdx2 hx hdx hne hne1 hne2 hne3 hn1 hn2 hta
  obtain ⟨ms, hms⟩ := cut_ints (ns := ns) (lo := none) (hi := some 70)
  walk_at "wp"
  refine ⟨_, sqL_same hs s4, fun ls hls => ?_⟩
  rw [hms]
  have b5 := same_upd (o := .lst (ms.map V.int)) (same_refl (H := H')) hls
  have hls5 : upd H' ls (.lst (ms.map V.int)) ls = some (.lst (ms.map V.int)) := upd_same
  have hL5 := hM.same b5
  generalize upd H' ls (.lst (ms.map V.int)) = H5 at *
  clear hM s4 b5 hls hs
  have hz := PySem.sizeLine_eq
  refine ⟨⟨_, SqL.of hls5⟩, loop_list (xs := ms.map V.int) (fun i σ H' => ∃ tk bk tl v5 v6 v7 v8, σ = [some (.ref a), some (.ref z.p), some (.ref zb.p), some (.ref ta), some (.ref ba), v5, v6, v7, v8, none, none] ∧ H' ls = some (.lst (ms.map V.int)) ∧ LI A H' z zb ta ba tk bk tl) ⟨_, _, _, _, _, _, _, rfl, hls5, hL5⟩ (fun i σ H' _ ⟨_, _, _, _, _, _, _, _, e, _⟩ => SqL.of e) (fun i x σ H' hi => ?_) (fun σ H1 => ?_)⟩
  · rintro ⟨tk, bk, tl, v5, v6, v7, v8, rfl, hls, hL⟩
    obtain ⟨c, _, rfl⟩ := List.mem_map.mp (List.mem_of_getElem? hi)
    walk_at "wp"
    refine ⟨fun σ H2 => ∃ κ : K5, σ = [some (.ref a), some (.ref z.p), some (.ref zb.p), some (.ref ta), some (.ref ba), some (.int c), some (.int κ.i), v7, v8, none, none] ∧ Same H' H2, ?_, fun σ' H2 => ?_⟩
    · walk_at "wp"
      refine fun p hp => pick (by omega) (by show _ < (7 : Int); omega) fun v hv => ?_
      have b := same_upd (o := .lst [V.int 0, V.int 1, V.int 2, V.int 3, V.int 4, V.int 0, V.int 3]) (same_refl (H := H')) hp
      simp only [List.mem_cons, List.not_mem_nil, or_false] at hv
      rcases hv with rfl | rfl | rfl | rfl | rfl | rfl | rfl
      · exact ⟨.a, rfl, b⟩
      · exact ⟨.b, rfl, b⟩
      · exact ⟨.c, rfl, b⟩
      · exact ⟨.d, rfl, b⟩
      · exact ⟨.e, rfl, b⟩
      · exact ⟨.a, rfl, b⟩
      · exact ⟨.d, rfl, b⟩
    rintro ⟨κ, rfl, s2⟩
    have hls2 := s2 _ _ hls
    have hL2 := hL.same s2
    clear s2 hls hL
    walk_at "wp"
    refine ⟨fun σ H3 => ∃ κ : K5, σ = [some (.ref a), some (.ref z.p), some (.ref zb.p), some (.ref ta), some (.ref ba), some (.int c), some (.int κ.i), some (.int (c / 7)), v8, none, none] ∧ H3 = H2 ∧ (κ = .a ∨ κ = .b → tl.length ≤ 62), ?_, fun σ' H3 => ?_⟩
    · walk_at "wp"
      refine ite2 (fun hlt => ⟨tl, hL2.t, ite2 (fun _ => ⟨.c, rfl, fun z => by rcases z with z | z <;> cases z⟩) (fun h => ⟨κ, rfl, fun _ => by omega⟩)⟩) (fun hge => iteF ⟨κ, rfl, fun z => ?_⟩)
      rcases z with rfl | rfl <;> exact absurd (by decide) hge
    rintro ⟨κ, rfl, rfl, hc1⟩
    refine ⟨fun σ H4 => ∃ κ : K5, σ = [some (.ref a), some (.ref z.p), some (.ref zb.p), some (.ref ta), some (.ref ba), some (.int c), some (.int κ.i), some (.int (c / 7)), v8, none, none] ∧ H4 = H3 ∧ (κ = .a ∨ κ = .b → tl.length ≤ 62) ∧ (κ = .d → bk.length ≤ 62), ?_, fun σ' H4 => ?_⟩
    · walk_at "wp"
      refine ite2 (fun hlt => ⟨bk, hL2.b, ite2 (fun _ => ⟨.e, rfl, (fun z => by rcases z with z | z <;> cases z), fun z => by cases z⟩) (fun h => ⟨κ, rfl, hc1, fun _ => by omega⟩)⟩) (fun hge => iteF ⟨κ, rfl, hc1, fun z => ?_⟩)
      subst z
      exact absurd (by decide) hge
    clear hc1
    rintro ⟨κ, rfl, rfl, hc1, hc2⟩
    have hlt := hL2.len
    have hl1 := hL2.lt
    have hl2 := hL2.lb
    refine ⟨fun σ H5 => ∃ n : Int, σ = [some (.ref a), some (.ref z.p), some (.ref zb.p), some (.ref ta), some (.ref ba), some (.int c), some (.int κ.i), some (.int (c / 7)), some (.int n), none, none] ∧ Same H4 H5, ?_, fun σ' H5 => ?_⟩
    · unfold sp_num
      walk_at "wp"
      exact ⟨tl, hL2.t, by rw [hL2.kt]; exact hL2.it, by omega, fun n H' s => s⟩
    rintro ⟨n, rfl, s5⟩
    refine ⟨fun σ H6 => ∃ n : Int, σ = [some (.ref a), some (.ref z.p), some (.ref zb.p), some (.ref ta), some (.ref ba), some (.int c), some (.int κ.i), some (.int (c / 7)), some (.int n), none, none] ∧ Same H4 H6, ?_, fun σ' H6 => ?_⟩
    · unfold sp_size
      walk_at "wp"
      exact ite2 (fun _ n H' s => s5.trans s) (fun _ => s5)
    clear s5
    rintro ⟨n, rfl, s6⟩
    refine ⟨fun σ H7 => ∃ n : Int, σ = [some (.ref a), some (.ref z.p), some (.ref zb.p), some (.ref ta), some (.ref ba), some (.int c), some (.int κ.i), some (.int (c / 7)), some (.int n), none, none] ∧ Same H4 H7, ?_, fun σ' H7 => ?_⟩
    · unfold sp_num
      walk_at "wp"
      have hL6 := hL2.same s6
      exact ite2 (fun _ => ⟨bk, hL6.b, hL6.ib, by omega, fun n H' s => s6.trans s⟩) (fun _ => s6)
    clear s6
    rintro ⟨n, rfl, s7⟩
    have hL7 := hL2.same s7
    have hls7 := s7 _ _ hls2
    unfold sp_ans sp_due sp_like sp_one
    walk_at "wp"
    have nd := hL7.nd
    simp only [List.nodup_cons, List.mem_cons, List.not_mem_nil, or_false, not_or, List.nodup_nil, and_true, not_false_eq_true] at nd
    obtain ⟨⟨n1, n2, n3, n4, n5⟩, ⟨n6, n7, n8, n9⟩, ⟨n10, n11, n12⟩, ⟨n13, n14⟩, n15⟩ := nd
    refine ⟨z, rfl, tk, bk, κ, rfl, hL7.hs, by omega, by omega, fun r tk' bk' t H8 e1 hS k1 lk1 => ?_⟩
    have hta8 := k1 _ _ hL7.t (Ne.symm n2) (Ne.symm n6)
    have hba8 := k1 _ _ hL7.b (Ne.symm n3) (Ne.symm n7)
    refine ⟨tl, bk, κ, rfl, hta8, hba8, n10, by omega, by omega, fun r2 tl' bl' t2 H9 e2 h1 h2 k2 lk2 => ?_⟩
    obtain ⟨hL9, er, d1, d2⟩ := hL7.next hc1 hc2 e1 hS k1 e2 h1 h2 k2
    subst er
    have hls9 := d2 _ _ (d1 _ _ hls7 (fun _ z => nomatch z)) (fun _ z => nomatch z)
    refine ⟨rsD r, lk1.nd d2, lk2, by rw [deep_rs]; decide, fun H10 s10 => ?_⟩
    have hL10 := hL9.same s10
    exact iteF ⟨z, rfl, tk', bk', tl', κ, rfl, hL10.hs, hL10.t, hL10.b, hL10.kt, hL10.vi, fun H11 s11 => iteF ⟨s11 _ _ (s10 _ _ hls9), _, _, _, hL10.same s11⟩⟩
  rintro ⟨tk, bk, tl, v5, v6, v7, v8, rfl, hls, hL⟩
  walk_at "wp"
  refine loop_range (fun i σ H' => ∃ v9 v10, σ = [some (.ref a), some (.ref z.p), some (.ref zb.p), some (.ref ta), some (.ref ba), v5, v6, v7, v8, v9, v10] ∧ Same H1 H') ⟨_, _, rfl, same_refl⟩ (fun i σ H' hi => ?_) (fun σ H' => ?_)
  · rintro ⟨v9, v10, rfl, s1⟩
    unfold sp_tl sp_bl sp_like
    have hLz := hL.same s1
    obtain ⟨dx, hme⟩ := hLz.hs.me
    walk_at "wp"
    simp only [hme]
    walk_at "wp"
    refine ⟨hsF_no (by decide +kernel), z, rfl, tk, bk, hLz.hs, hLz.it, by have := hLz.lt; omega, fun l1 m1 hl1 hs1 => ?_⟩
    have b1 := same_upd (o := .lst (m1.map V.int)) (same_refl (H := H')) hl1
    have g1 : upd H' l1 (.lst (m1.map V.int)) l1 = some (.lst (m1.map V.int)) := upd_same
    generalize upd H' l1 (.lst (m1.map V.int)) = G1 at *
    have hLa := hLz.same b1
    refine ⟨dx, _, b1 _ _ hme, hsF_no (by decide +kernel), z, rfl, tk, bk, hLa.hs, hLa.ib, by have := hLa.lb; omega, fun l2 m2 hl2 hs2 p3 hp3 => ?_⟩
    have b2 := same_upd (o := .lst (m2.map V.int)) (same_refl (H := G1)) hl2
    have g2 : upd G1 l2 (.lst (m2.map V.int)) l2 = some (.lst (m2.map V.int)) := upd_same
    generalize upd G1 l2 (.lst (m2.map V.int)) = G2 at *
    have b3 := same_upd (o := .lst [V.ref l1, V.ref l2]) (same_refl (H := G2)) hp3
    have g3 : upd G2 p3 (.lst [V.ref l1, V.ref l2]) p3 = some (.lst [V.ref l1, V.ref l2]) := upd_same
    generalize upd G2 p3 (.lst [V.ref l1, V.ref l2]) = G3 at *
    have hLb := (hLa.same b2).same b3
    have hkl : ((ksK tk).map kI).length < 64 := by unfold ksK; rw [List.length_map, List.length_map]; have := hLb.lt; omega
    have hbl : ((ksK bk).map kI).length < 64 := by unfold ksK; rw [List.length_map, List.length_map]; have := hLb.lb; omega
    refine ⟨tl, .inl hLb.t, (ksK tk).map kI, by have := hLb.it.ns; rw [← this]; exact hLb.kt, hkl, fun l4 m4 hl4 hp4 hq4 => ?_⟩
    obtain rfl : m4 = m1 := srt_one (hp4.trans hs1.1.symm) hq4 hs1.2
    have b4 := same_upd (o := .lst (m4.map V.int)) (same_refl (H := G3)) hl4
    have g4 : upd G3 l4 (.lst (m4.map V.int)) l4 = some (.lst (m4.map V.int)) := upd_same
    generalize upd G3 l4 (.lst (m4.map V.int)) = G4 at *
    have hLc := hLb.same b4
    refine ⟨bk, .inl hLc.b, (ksK bk).map kI, hLc.ib.ns, hbl, fun l5 m5 hl5 hp5 hq5 p6 hp6 => ?_⟩
    obtain rfl : m5 = m2 := srt_one (hp5.trans hs2.1.symm) hq5 hs2.2
    have b5 := same_upd (o := .lst (m5.map V.int)) (same_refl (H := G4)) hl5
    have g5 : upd G4 l5 (.lst (m5.map V.int)) l5 = some (.lst (m5.map V.int)) := upd_same
    generalize upd G4 l5 (.lst (m5.map V.int)) = G5 at *
    have b6 := same_upd (o := .lst [V.ref l4, V.ref l5]) (same_refl (H := G5)) hp6
    have g6 : upd G5 p6 (.lst [V.ref l4, V.ref l5]) p6 = some (.lst [V.ref l4, V.ref l5]) := upd_same
    generalize upd G5 p6 (.lst [V.ref l4, V.ref l5]) = G6 at *
    have hm4 : m4.length < 64 := by rw [hp4.length_eq]; exact hkl
    have hm5 : m5.length < 64 := by rw [hp5.length_eq]; exact hbl
    have b36 := b4.trans (b5.trans b6)
    have b26 := b3.trans b36
    have b16 := b2.trans b26
    refine ⟨.seq false [dI m4, dI m5], lks_two (b36 _ _ g3) (lks_dI (b16 _ _ g1) hm4) (lks_dI (b26 _ _ g2) hm5), lks_two g6 (lks_dI (b6 _ _ (b5 _ _ g4)) hm4) (lks_dI (b6 _ _ g5) hm5), deep_two, fun H7 s7 => iteF ?_⟩
    have sA : Same H1 H7 := s1.trans (b1.trans (b16.trans s7))
    have h01 : H1 l1 = none := same_none s1 hl1
    have h02 : H1 l2 = none := same_none (s1.trans b1) hl2
    have n12 : l1 ≠ l2 := ne_of_none g1 hl2
    have n13 : l1 ≠ p3 := ne_of_none (b2 _ _ g1) hp3
    have f1 := s7 _ _ (b16 _ _ g1)
    have f2 := s7 _ _ (b26 _ _ g2)
    have f3 := s7 _ _ (b36 _ _ g3)
    exact ⟨_, SqL.of f3, .ref l1, rfl, .inl ⟨rfl, _, SqL.of f1⟩, l1, rfl, _, f1, by rw [List.length_map]; omega, _, SqL.of (by rw [upd_ne n13.symm]; exact f3), .ref l2, rfl, .inl ⟨rfl, _, SqL.of (by rw [upd_ne n12.symm]; exact f2)⟩, l2, _, rfl, rfl, by rw [upd_ne n12.symm]; exact f2, same_put (same_put sA h01) h02⟩
  · rintro ⟨v9, v10, rfl, s1⟩
    have hLz := hL.same s1
    obtain ⟨dx, hme⟩ := hLz.be.me
    unfold sp_tl sp_bl sp_like sp_nt
    walk_at "wp"
    simp only [hme]
    walk_at "wp"
    have ik0 : IntK (ksK []) := fun k hk => by simp [ksK] at hk
    refine ⟨hsF_no (by decide +kernel), zb, rfl, [], [], hLz.be, ik0, by decide, fun l1 m1 hl1 hs1 => ?_⟩
    obtain rfl : m1 = [] := List.Perm.eq_nil hs1.1
    have b1 := same_upd (o := .lst []) (same_refl (H := H')) hl1
    have g1 : upd H' l1 (.lst []) l1 = some (.lst []) := upd_same
    rw [List.map_nil]
    generalize upd H' l1 (.lst []) = G1 at *
    have hLa := hLz.same b1
    refine ⟨dx, _, b1 _ _ hme, hsF_no (by decide +kernel), zb, rfl, [], [], hLa.be, ik0, by decide, fun l2 m2 hl2 hs2 => ?_⟩
    obtain rfl : m2 = [] := List.Perm.eq_nil hs2.1
    have b2 := same_upd (o := .lst []) (same_refl (H := G1)) hl2
    have g2 : upd G1 l2 (.lst []) l2 = some (.lst []) := upd_same
    rw [List.map_nil]
    generalize upd G1 l2 (.lst []) = G2 at *
    have hLb := hLa.same b2
    refine ⟨dx, _, b2 _ _ (b1 _ _ hme), hsF_no (by decide +kernel), zb, rfl, [], [], hLb.be, by decide, fun k v H3 hk hS3 k3 p hp p1 hp1 p2 hp2 p3 hp3 => ?_⟩
    obtain rfl : k = 0 := by
      rcases Nat.eq_zero_or_pos k with e | e
      · exact e
      · have := hk.2 0 e
        simp [ksK] at this
    have e1 := k3 _ _ (b2 _ _ g1) (ne_of (b2 _ _ g1) hLb.be.t (fun z => nomatch z))
    have e2 := k3 _ _ g2 (ne_of g2 hLb.be.t (fun z => nomatch z))
    have c1 := same_upd (o := .tup [V.ref l1, V.ref l2, V.int ((0 : Nat) : Int)]) (same_refl (H := H3)) hp
    have f1 : upd H3 p (.tup [V.ref l1, V.ref l2, V.int ((0 : Nat) : Int)]) p = some (.tup [V.ref l1, V.ref l2, V.int 0]) := upd_same
    generalize upd H3 p (.tup [V.ref l1, V.ref l2, V.int ((0 : Nat) : Int)]) = G3 at *
    have c2 := same_upd (o := .lst []) (same_refl (H := G3)) hp1
    have f2 : upd G3 p1 (.lst []) p1 = some (.lst []) := upd_same
    generalize upd G3 p1 (.lst []) = G4 at *
    have c3 := same_upd (o := .lst []) (same_refl (H := G4)) hp2
    have f3 : upd G4 p2 (.lst []) p2 = some (.lst []) := upd_same
    generalize upd G4 p2 (.lst []) = G5 at *
    have c4 := same_upd (o := .tup [V.ref p1, V.ref p2, V.int 0]) (same_refl (H := G5)) hp3
    have f4 : upd G5 p3 (.tup [V.ref p1, V.ref p2, V.int 0]) p3 = some (.tup [V.ref p1, V.ref p2, V.int 0]) := upd_same
    generalize upd G5 p3 (.tup [V.ref p1, V.ref p2, V.int 0]) = G6 at *
    have c24 := c2.trans (c3.trans c4)
    exact ⟨_, lks_three (c24 _ _ f1) (c24 _ _ (c1 _ _ e1)) (c24 _ _ (c1 _ _ e2)), lks_three f4 (c4 _ _ (c3 _ _ f2)) (c4 _ _ f3), by decide, fun H' _ => qq H'⟩

end

theorem walk {l : PySem.W.OpenLaw} {q : Program} {loose : List Str} {XP : (Str → Option Value) → Heap → Prop} {YP : World → Heap → Prop} {d : DefRec} {K : Params → PySem.W.Frag} (hn : l.most = some 63) (hdf : d.params.defaults = []) (hdn : d.name = "law")
    (hY : ∀ (w : World) (h : Heap), YP w h → (K w.params).In h)
    (F : ∀ (w : World) (mg : Str → Option Value) (h : Heap), (K w.params).In h → h.Ns mainGlobals mg → ∃ A : Adr, Txt (K w.params) mg A) :
    PySem.W.WalkO q loose XP YP l.row.toRowW d [] (fun f vs => PySem.call f vs) := by
  refine L2.walk_of (n := 63) (k := 12 + 1) (x := "_law_script") (CX := fun w => CXe l.prog w) (sp := fun w => spLaw (K w.params)) hn (by decide) hdf ⟨rfl, by decide, by decide⟩ hY ?_ (fun _ _ a ns hl _ hS => ⟨a, ns, rfl, hS, hl, fun _ => rfl⟩) fun _ _ _ _ _ ⟨_, _, _, _, _, _, _, _, _, _, z⟩ => z
  intro w mg fa h KX G hmg
  rw [hdn] at hmg
  obtain ⟨A, T⟩ := F w mg h KX G
  obtain ⟨f, fd, e, Fn, hb⟩ := T.r_law
  have e0 := hmg.symm.trans e
  cases e0
  exact ⟨fd, hb, fun base _ _ => Fn.okE sc_law (fun vs H Q E z => by obtain ⟨a, ns, rfl, _⟩ := z; rfl) (body_law (P := l.prog) (w := w) (base := base) T)⟩

section
open Hd
noncomputable def o2 (_ : Params) : Obj := ⟨.none, none, .dict ⟨[]⟩ 0, #[]⟩
noncomputable def o3 (P : Params) : Obj := dO 36 [ent P (S 6944663249689206880) 165 (.str (S 196827221757467721399261904057049168910148185012486275573905723600118768237) 827), ent P (S 27127582262911072) 166 .none, ent P (S 116512114954948911152848992) 167 .none, ent P (S 455126385231797511086176) 168 (.builtin "__main__.__loader__#opaque"), ent P (S 6944661016558198880) 169 .none, ent P (S 500416834696884185539869749159288928) 170 (.ref 6), ent P (S 29827167671303893903271485536) 171 (.ref 4), ent P (S 6944663245527933024) 173 (.str (S 9700865007064396754801562313776) 172), ent P (S 455125376429887381069920) 174 .none, ent P (S 469986605152) 193 (.ref 21), ent P (S 545146499936607105348423) 213 (.ref 31), ent P (S 28835115112362063) 229 (.ref 44), ent P (S 119247121772623) 245 (.ref 56), ent P (S 119225645756495) 261 (.ref 68), ent P (S 2000274411557569787472) 277 (.ref 80), ent P (S 2054452803) 293 (.ref 92), ent P (S 7380678962623575146) 302 (.ref 101), ent P (S 2055256381122481779818) 311 (.ref 108), ent P (S 2147201852470124049748) 470 (.ref 229), ent P (S 23616678805231350591419338830) 474 (.int (64) 473), ent P (S 483571264869516729017965) 482 (.ref 240), ent P (S 440040583241) 690 (.ref 396), ent P (S 34807946493563893454802022513) 701 (.ref 407), ent P (S 2360876520579034574696528942098788) 710 (.ref 414), ent P (S 439988939092) 826 (.ref 501), ent P (S 36328676245180164783460216160) 836 (.ref 512), ent P (S 1889380072283105815904) 845 (.ref 519), ent P (S 554663791283223243418976) 853 (.ref 526), ent P (S 1871439432312149929312) 861 (.ref 533), ent P (S 8818738978030251360) 870 (.ref 540), ent P (S 139510372636256701339823456) 881 (.ref 547), ent P (S 139509984824270207699807584) 890 (.ref 554), ent P (S 1890460943890256129376) 898 (.ref 561), ent P (S 7383200104131489120) 910 (.ref 568), ent P (S 2077634884468380796012373368532320) 923 (.ref 575), ent P (S 7889517) 940 (.ref 582)]
noncomputable def o15 (_ : Params) : Obj := tO []
noncomputable def o17 (_ : Params) : Obj := tO [(.str (S 108) 190)]
noncomputable def o18 (_ : Params) : Obj := tO []
noncomputable def o20 (_ : Params) : Obj := cO [(.str (S 469986605152) 187), (.str (S 469986605152) 188), (.str (S 9700865007064396754801562313776) 189), (.int (1) 0), (.int (1) 0), (.int (0) 0), (.int (0) 0), (.int (3) 0), (.ref 15), (.bool true), (.int (181) 0), (.ref 16), .none, (.ref 17), (.ref 18), (.ref 19), (.int (191) 0), (.int (1) 0), (.str (S 9700865007064396754801562313776) 192)]
noncomputable def o21 (_ : Params) : Obj := ⟨(.type "function"), none, .func (PySem.W.fnOf (Str.ofString "_wall") (Str.ofString "_wall") (defArgs (top 0)) (defBody (top 0)) (defScope (top 0)) .none .none .none (.str (S 6944673128113922144) 164) none (.ref 20) .none), #[]⟩
noncomputable def o22 (_ : Params) : Obj := ⟨(.type "tuple"), none, .seq #[(.type "ValueError")] 0, #[]⟩
noncomputable def o29 (_ : Params) : Obj := ⟨(.type "tuple"), none, .seq #[] 0, #[]⟩
noncomputable def o30 (P : Params) : Obj := dO 3 [ent P (S 455125450472104437637216) 203 (.str (S 154789842426610354947036250589871895399) 194), ent P (S 500416517772168279997240570217455712) 207 (.int (5) 206), ent P (S 140854816109632365363434125429399349832812124725344) 208 (.ref 29), ent P (S 116512133262362862868258912) 210 (.ref 32), ent P (S 27127582262911072) 211 .none]
noncomputable def o31 (_ : Params) : Obj := ⟨(.type "type"), none, .cls { name := (Str.ofString "FrameError"), bases := [(.type "ValueError")], mro := [(.ref 31), (.type "ValueError"), (.type "Exception"), (.type "BaseException"), (.type "object")], ns := 30, qualname := (Str.ofString "FrameError"), hasDict := true, slotNames := [], subclasses := [(.ref 44), (.ref 56), (.ref 68), (.ref 80), (.ref 92)], abstract := false, collection := none, hasDel := false }, #[(some (.ref 22)), none, (some (.str (S 545146499936607105348423) 196)), (some (.str (S 545146499936607105348423) 204)), (some (.builtin "ValueError.__new__")), (some (.bool true))]⟩
noncomputable def o32 (_ : Params) : Obj := ⟨(.type "getset_descriptor"), none, .fields ⟨[(.str (S 116512133262362862868258912) 209), (.ref 31), (.builtin "ExceptionGroup.__weakref__"), .none]⟩, #[]⟩
noncomputable def o35 (_ : Params) : Obj := ⟨(.type "tuple"), none, .seq #[(.ref 31)] 0, #[]⟩
noncomputable def o42 (_ : Params) : Obj := ⟨(.type "tuple"), none, .seq #[] 0, #[]⟩
noncomputable def o43 (P : Params) : Obj := dO 2 [ent P (S 455125450472104437637216) 221 (.str (S 154789842426610354947036250589871895399) 194), ent P (S 500416517772168279997240570217455712) 225 (.int (7) 224), ent P (S 140854816109632365363434125429399349832812124725344) 226 (.ref 42), ent P (S 27127582262911072) 227 .none]
noncomputable def o44 (_ : Params) : Obj := ⟨(.type "type"), none, .cls { name := (Str.ofString "NoShape"), bases := [(.ref 31)], mro := [(.ref 44), (.ref 31), (.type "ValueError"), (.type "Exception"), (.type "BaseException"), (.type "object")], ns := 43, qualname := (Str.ofString "NoShape"), hasDict := true, slotNames := [], subclasses := [], abstract := false, collection := none, hasDel := false }, #[(some (.ref 35)), none, (some (.str (S 28835115112362063) 214)), (some (.str (S 28835115112362063) 222)), (some (.builtin "ValueError.__new__")), (some (.bool true))]⟩
noncomputable def o47 (_ : Params) : Obj := ⟨(.type "tuple"), none, .seq #[(.ref 31)] 0, #[]⟩
noncomputable def o54 (_ : Params) : Obj := ⟨(.type "tuple"), none, .seq #[] 0, #[]⟩
noncomputable def o55 (P : Params) : Obj := dO 2 [ent P (S 455125450472104437637216) 237 (.str (S 154789842426610354947036250589871895399) 194), ent P (S 500416517772168279997240570217455712) 241 (.int (9) 240), ent P (S 140854816109632365363434125429399349832812124725344) 242 (.ref 54), ent P (S 27127582262911072) 243 .none]
noncomputable def o56 (_ : Params) : Obj := ⟨(.type "type"), none, .cls { name := (Str.ofString "NoTask"), bases := [(.ref 31)], mro := [(.ref 56), (.ref 31), (.type "ValueError"), (.type "Exception"), (.type "BaseException"), (.type "object")], ns := 55, qualname := (Str.ofString "NoTask"), hasDict := true, slotNames := [], subclasses := [], abstract := false, collection := none, hasDel := false }, #[(some (.ref 47)), none, (some (.str (S 119247121772623) 230)), (some (.str (S 119247121772623) 238)), (some (.builtin "ValueError.__new__")), (some (.bool true))]⟩
noncomputable def o59 (_ : Params) : Obj := ⟨(.type "tuple"), none, .seq #[(.ref 31)] 0, #[]⟩
noncomputable def o66 (_ : Params) : Obj := ⟨(.type "tuple"), none, .seq #[] 0, #[]⟩
noncomputable def o67 (P : Params) : Obj := dO 2 [ent P (S 455125450472104437637216) 253 (.str (S 154789842426610354947036250589871895399) 194), ent P (S 500416517772168279997240570217455712) 257 (.int (11) 256), ent P (S 140854816109632365363434125429399349832812124725344) 258 (.ref 66), ent P (S 27127582262911072) 259 .none]
noncomputable def o68 (_ : Params) : Obj := ⟨(.type "type"), none, .cls { name := (Str.ofString "NoBank"), bases := [(.ref 31)], mro := [(.ref 68), (.ref 31), (.type "ValueError"), (.type "Exception"), (.type "BaseException"), (.type "object")], ns := 67, qualname := (Str.ofString "NoBank"), hasDict := true, slotNames := [], subclasses := [], abstract := false, collection := none, hasDel := false }, #[(some (.ref 59)), none, (some (.str (S 119225645756495) 246)), (some (.str (S 119225645756495) 254)), (some (.builtin "ValueError.__new__")), (some (.bool true))]⟩
noncomputable def o71 (_ : Params) : Obj := ⟨(.type "tuple"), none, .seq #[(.ref 31)] 0, #[]⟩
noncomputable def o78 (_ : Params) : Obj := ⟨(.type "tuple"), none, .seq #[] 0, #[]⟩
noncomputable def o79 (P : Params) : Obj := dO 2 [ent P (S 455125450472104437637216) 269 (.str (S 154789842426610354947036250589871895399) 194), ent P (S 500416517772168279997240570217455712) 273 (.int (13) 272), ent P (S 140854816109632365363434125429399349832812124725344) 274 (.ref 78), ent P (S 27127582262911072) 275 .none]
noncomputable def o80 (_ : Params) : Obj := ⟨(.type "type"), none, .cls { name := (Str.ofString "OutOfBank"), bases := [(.ref 31)], mro := [(.ref 80), (.ref 31), (.type "ValueError"), (.type "Exception"), (.type "BaseException"), (.type "object")], ns := 79, qualname := (Str.ofString "OutOfBank"), hasDict := true, slotNames := [], subclasses := [], abstract := false, collection := none, hasDel := false }, #[(some (.ref 71)), none, (some (.str (S 2000274411557569787472) 262)), (some (.str (S 2000274411557569787472) 270)), (some (.builtin "ValueError.__new__")), (some (.bool true))]⟩
noncomputable def o83 (_ : Params) : Obj := ⟨(.type "tuple"), none, .seq #[(.ref 31)] 0, #[]⟩
noncomputable def o90 (_ : Params) : Obj := ⟨(.type "tuple"), none, .seq #[] 0, #[]⟩
noncomputable def o91 (P : Params) : Obj := dO 2 [ent P (S 455125450472104437637216) 285 (.str (S 154789842426610354947036250589871895399) 194), ent P (S 500416517772168279997240570217455712) 289 (.int (15) 288), ent P (S 140854816109632365363434125429399349832812124725344) 290 (.ref 90), ent P (S 27127582262911072) 291 .none]
noncomputable def o92 (_ : Params) : Obj := ⟨(.type "type"), none, .cls { name := (Str.ofString "Busy"), bases := [(.ref 31)], mro := [(.ref 92), (.ref 31), (.type "ValueError"), (.type "Exception"), (.type "BaseException"), (.type "object")], ns := 91, qualname := (Str.ofString "Busy"), hasDict := true, slotNames := [], subclasses := [], abstract := false, collection := none, hasDel := false }, #[(some (.ref 83)), none, (some (.str (S 2054452803) 278)), (some (.str (S 2054452803) 286)), (some (.builtin "ValueError.__new__")), (some (.bool true))]⟩
noncomputable def o95 (_ : Params) : Obj := tO []
noncomputable def o97 (_ : Params) : Obj := tO [(.str (S 448545843573) 299)]
noncomputable def o98 (_ : Params) : Obj := tO []
noncomputable def o100 (_ : Params) : Obj := cO [(.str (S 7380678962623575146) 296), (.str (S 7380678962623575146) 297), (.str (S 9700865007064396754801562313776) 298), (.int (18) 0), (.int (1) 0), (.int (0) 0), (.int (0) 0), (.int (3) 0), (.ref 95), (.bool true), (.int (181) 0), (.ref 96), .none, (.ref 97), (.ref 98), (.ref 99), (.int (300) 0), (.int (18) 0), (.str (S 9700865007064396754801562313776) 301)]
noncomputable def o101 (_ : Params) : Obj := ⟨(.type "function"), none, .func (PySem.W.fnOf (Str.ofString "is_whole") (Str.ofString "is_whole") (defArgs (top 9)) (defBody (top 9)) (defScope (top 9)) .none .none .none (.str (S 154722281479463014256600682153103225703) 294) none (.ref 100) .none), #[]⟩
noncomputable def o102 (_ : Params) : Obj := tO []
noncomputable def o104 (_ : Params) : Obj := tO [(.str (S 448545843573) 306), (.str (S 7893101) 307), (.str (S 1768450665) 308)]
noncomputable def o105 (_ : Params) : Obj := tO []
noncomputable def o107 (_ : Params) : Obj := cO [(.str (S 2055256381122481779818) 303), (.str (S 2055256381122481779818) 304), (.str (S 9700865007064396754801562313776) 305), (.int (20) 0), (.int (3) 0), (.int (0) 0), (.int (0) 0), (.int (3) 0), (.ref 102), (.bool true), (.int (181) 0), (.ref 103), .none, (.ref 104), (.ref 105), (.ref 106), (.int (309) 0), (.int (20) 0), (.str (S 9700865007064396754801562313776) 310)]
noncomputable def o108 (_ : Params) : Obj := ⟨(.type "function"), none, .func (PySem.W.fnOf (Str.ofString "is_within") (Str.ofString "is_within") (defArgs (top 10)) (defBody (top 10)) (defScope (top 10)) .none .none .none (.str (S 154722281479463014256600682153103225703) 294) none (.ref 107) .none), #[]⟩
noncomputable def o116 (_ : Params) : Obj := tO []
noncomputable def o118 (_ : Params) : Obj := tO [(.str (S 1735222900) 329)]
noncomputable def o119 (_ : Params) : Obj := tO []
noncomputable def o121 (_ : Params) : Obj := cO [(.str (S 6944679725401530464) 326), (.str (S 8395602628992143088491004079736651362039124) 327), (.str (S 9700865007064396754801562313776) 328), (.int (25) 0), (.int (1) 0), (.int (0) 0), (.int (0) 0), (.int (3) 0), (.ref 116), (.bool true), (.int (181) 0), (.ref 117), .none, (.ref 118), (.ref 119), (.ref 120), (.int (330) 0), (.int (25) 0), (.str (S 9700865007064396754801562313776) 331)]
noncomputable def o122 (_ : Params) : Obj := ⟨(.type "function"), none, .func (PySem.W.fnOf (Str.ofString "__init__") (Str.ofString "Stretches.__init__") (defArgs (inClass (top 12) 0)) (defBody (inClass (top 12) 0)) (defScope (inClass (top 12) 0)) .none .none .none (.str (S 2595807759375494792423391711955702693320880999) 312) none (.ref 121) .none), #[]⟩
noncomputable def o123 (_ : Params) : Obj := ⟨(.type "tuple"), none, .seq #[.none] 0, #[]⟩
noncomputable def o124 (_ : Params) : Obj := tO []
noncomputable def o126 (_ : Params) : Obj := tO [(.str (S 1735222900) 336), (.str (S 504464894567) 337), (.str (S 2054120046) 338), (.str (S 128047628446323) 339), (.str (S 6711925) 340)]
noncomputable def o127 (_ : Params) : Obj := tO []
noncomputable def o129 (_ : Params) : Obj := cO [(.str (S 7698033) 333), (.str (S 9306351078043889216994357245268) 334), (.str (S 9700865007064396754801562313776) 335), (.int (28) 0), (.int (5) 0), (.int (0) 0), (.int (0) 0), (.int (3) 0), (.ref 124), (.bool true), (.int (181) 0), (.ref 125), .none, (.ref 126), (.ref 127), (.ref 128), (.int (341) 0), (.int (28) 0), (.str (S 9700865007064396754801562313776) 342)]
noncomputable def o130 (_ : Params) : Obj := ⟨(.type "function"), none, .func (PySem.W.fnOf (Str.ofString "put") (Str.ofString "Stretches.put") (defArgs (inClass (top 12) 1)) (defBody (inClass (top 12) 1)) (defScope (inClass (top 12) 1)) (.ref 123) .none .none (.str (S 2595807759375494792423391711955702693320880999) 312) none (.ref 129) .none), #[]⟩
noncomputable def o131 (_ : Params) : Obj := tO []
noncomputable def o133 (_ : Params) : Obj := tO [(.str (S 1735222900) 347), (.str (S 504464894567) 348), (.str (S 2054120046) 349)]
noncomputable def o134 (_ : Params) : Obj := tO []
noncomputable def o136 (_ : Params) : Obj := cO [(.str (S 7698020) 344), (.str (S 9306335362008234226815086064980) 345), (.str (S 9700865007064396754801562313776) 346), (.int (31) 0), (.int (3) 0), (.int (0) 0), (.int (0) 0), (.int (3) 0), (.ref 131), (.bool true), (.int (181) 0), (.ref 132), .none, (.ref 133), (.ref 134), (.ref 135), (.int (350) 0), (.int (31) 0), (.str (S 9700865007064396754801562313776) 351)]
noncomputable def o137 (_ : Params) : Obj := ⟨(.type "function"), none, .func (PySem.W.fnOf (Str.ofString "cut") (Str.ofString "Stretches.cut") (defArgs (inClass (top 12) 2)) (defBody (inClass (top 12) 2)) (defScope (inClass (top 12) 2)) .none .none .none (.str (S 2595807759375494792423391711955702693320880999) 312) none (.ref 136) .none), #[]⟩
noncomputable def o138 (_ : Params) : Obj := tO []
noncomputable def o140 (_ : Params) : Obj := tO [(.str (S 1735222900) 356), (.str (S 504464894567) 357), (.str (S 2054120046) 358), (.str (S 128047628446323) 359)]
noncomputable def o141 (_ : Params) : Obj := tO []
noncomputable def o143 (_ : Params) : Obj := cO [(.str (S 435727529576) 353), (.str (S 526762260821547473070605117598954836) 354), (.str (S 9700865007064396754801562313776) 355), (.int (34) 0), (.int (4) 0), (.int (0) 0), (.int (0) 0), (.int (3) 0), (.ref 138), (.bool true), (.int (181) 0), (.ref 139), .none, (.ref 140), (.ref 141), (.ref 142), (.int (360) 0), (.int (34) 0), (.str (S 9700865007064396754801562313776) 361)]
noncomputable def o144 (_ : Params) : Obj := ⟨(.type "function"), none, .func (PySem.W.fnOf (Str.ofString "guard") (Str.ofString "Stretches.guard") (defArgs (inClass (top 12) 3)) (defBody (inClass (top 12) 3)) (defScope (inClass (top 12) 3)) .none .none .none (.str (S 2595807759375494792423391711955702693320880999) 312) none (.ref 143) .none), #[]⟩
noncomputable def o145 (_ : Params) : Obj := tO []
noncomputable def o147 (_ : Params) : Obj := tO [(.str (S 1735222900) 366), (.str (S 504464894567) 367), (.str (S 2054120046) 368)]
noncomputable def o148 (_ : Params) : Obj := tO []
noncomputable def o150 (_ : Params) : Obj := cO [(.str (S 516757173630863403280740) 363), (.str (S 624721089673430778640529783835705258327388943700) 364), (.str (S 9700865007064396754801562313776) 365), (.int (37) 0), (.int (3) 0), (.int (0) 0), (.int (0) 0), (.int (3) 0), (.ref 145), (.bool true), (.int (181) 0), (.ref 146), .none, (.ref 147), (.ref 148), (.ref 149), (.int (369) 0), (.int (37) 0), (.str (S 9700865007064396754801562313776) 370)]
noncomputable def o151 (_ : Params) : Obj := ⟨(.type "function"), none, .func (PySem.W.fnOf (Str.ofString "check_full") (Str.ofString "Stretches.check_full") (defArgs (inClass (top 12) 4)) (defBody (inClass (top 12) 4)) (defScope (inClass (top 12) 4)) .none .none .none (.str (S 2595807759375494792423391711955702693320880999) 312) none (.ref 150) .none), #[]⟩
noncomputable def o152 (_ : Params) : Obj := tO []
noncomputable def o154 (_ : Params) : Obj := tO [(.str (S 1735222900) 375), (.str (S 1718116977) 376)]
noncomputable def o155 (_ : Params) : Obj := tO []
noncomputable def o157 (_ : Params) : Obj := cO [(.str (S 2165357850485127146099) 372), (.str (S 2617757014156703991004303271023538183198700884) 373), (.str (S 9700865007064396754801562313776) 374), (.int (40) 0), (.int (2) 0), (.int (0) 0), (.int (0) 0), (.int (3) 0), (.ref 152), (.bool true), (.int (181) 0), (.ref 153), .none, (.ref 154), (.ref 155), (.ref 156), (.int (377) 0), (.int (40) 0), (.str (S 9700865007064396754801562313776) 378)]
noncomputable def o158 (_ : Params) : Obj := ⟨(.type "function"), none, .func (PySem.W.fnOf (Str.ofString "rights_at") (Str.ofString "Stretches.rights_at") (defArgs (inClass (top 12) 5)) (defBody (inClass (top 12) 5)) (defScope (inClass (top 12) 5)) .none .none .none (.str (S 2595807759375494792423391711955702693320880999) 312) none (.ref 157) .none), #[]⟩
noncomputable def o159 (_ : Params) : Obj := tO []
noncomputable def o161 (_ : Params) : Obj := tO [(.str (S 1735222900) 383), (.str (S 1718116977) 384)]
noncomputable def o162 (_ : Params) : Obj := tO []
noncomputable def o164 (_ : Params) : Obj := cO [(.str (S 129065384569461) 380), (.str (S 156030475824513176713048584412386784596) 381), (.str (S 9700865007064396754801562313776) 382), (.int (43) 0), (.int (2) 0), (.int (0) 0), (.int (0) 0), (.int (3) 0), (.ref 159), (.bool true), (.int (181) 0), (.ref 160), .none, (.ref 161), (.ref 162), (.ref 163), (.int (385) 0), (.int (43) 0), (.str (S 9700865007064396754801562313776) 386)]
noncomputable def o165 (_ : Params) : Obj := ⟨(.type "function"), none, .func (PySem.W.fnOf (Str.ofString "tie_at") (Str.ofString "Stretches.tie_at") (defArgs (inClass (top 12) 6)) (defBody (inClass (top 12) 6)) (defScope (inClass (top 12) 6)) .none .none .none (.str (S 2595807759375494792423391711955702693320880999) 312) none (.ref 164) .none), #[]⟩
noncomputable def o166 (_ : Params) : Obj := tO []
noncomputable def o168 (_ : Params) : Obj := tO [(.str (S 1735222900) 391), (.str (S 504464894567) 392), (.str (S 2054120046) 393)]
noncomputable def o169 (_ : Params) : Obj := tO []
noncomputable def o171 (_ : Params) : Obj := cO [(.str (S 28823093466133610) 388), (.str (S 34844981892374637606343691086821957268820) 389), (.str (S 9700865007064396754801562313776) 390), (.int (46) 0), (.int (3) 0), (.int (0) 0), (.int (0) 0), (.int (3) 0), (.ref 166), (.bool true), (.int (181) 0), (.ref 167), .none, (.ref 168), (.ref 169), (.ref 170), (.int (394) 0), (.int (46) 0), (.str (S 9700865007064396754801562313776) 395)]
noncomputable def o172 (_ : Params) : Obj := ⟨(.type "function"), none, .func (PySem.W.fnOf (Str.ofString "is_free") (Str.ofString "Stretches.is_free") (defArgs (inClass (top 12) 7)) (defBody (inClass (top 12) 7)) (defScope (inClass (top 12) 7)) .none .none .none (.str (S 2595807759375494792423391711955702693320880999) 312) none (.ref 171) .none), #[]⟩
noncomputable def o173 (_ : Params) : Obj := tO []
noncomputable def o175 (_ : Params) : Obj := tO [(.str (S 1735222900) 400), (.str (S 504464894567) 401), (.str (S 2054120046) 402)]
noncomputable def o176 (_ : Params) : Obj := tO []
noncomputable def o178 (_ : Params) : Obj := cO [(.str (S 30801127769404522) 397), (.str (S 37236278633682276866180525579755284821332) 398), (.str (S 9700865007064396754801562313776) 399), (.int (49) 0), (.int (3) 0), (.int (0) 0), (.int (0) 0), (.int (3) 0), (.ref 173), (.bool true), (.int (181) 0), (.ref 174), .none, (.ref 175), (.ref 176), (.ref 177), (.int (403) 0), (.int (49) 0), (.str (S 9700865007064396754801562313776) 404)]
noncomputable def o179 (_ : Params) : Obj := ⟨(.type "function"), none, .func (PySem.W.fnOf (Str.ofString "is_full") (Str.ofString "Stretches.is_full") (defArgs (inClass (top 12) 8)) (defBody (inClass (top 12) 8)) (defScope (inClass (top 12) 8)) .none .none .none (.str (S 2595807759375494792423391711955702693320880999) 312) none (.ref 178) .none), #[]⟩
noncomputable def o180 (_ : Params) : Obj := tO []
noncomputable def o183 (_ : Params) : Obj := cO [(.str (S 28541580069598314) 406), (.str (S 34504653078735706780555045640184744080724) 407), (.str (S 9700865007064396754801562313776) 408), (.int (52) 0), (.int (2) 0), (.int (0) 0), (.int (0) 0), (.int (3) 0), (.ref 180), (.bool true), (.int (181) 0), (.ref 181), .none, .none, .none, (.ref 182), (.int (409) 0), (.int (52) 0), (.str (S 9700865007064396754801562313776) 410)]
noncomputable def o184 (_ : Params) : Obj := ⟨(.type "function"), none, .func (PySem.W.fnOf (Str.ofString "is_tied") (Str.ofString "Stretches.is_tied") (defArgs (inClass (top 12) 9)) (defBody (inClass (top 12) 9)) (defScope (inClass (top 12) 9)) .none .none .none (.str (S 2595807759375494792423391711955702693320880999) 312) none (.ref 183) .none), #[]⟩
noncomputable def o185 (_ : Params) : Obj := tO []
noncomputable def o187 (_ : Params) : Obj := tO [(.str (S 1735222900) 415)]
noncomputable def o188 (_ : Params) : Obj := tO []
noncomputable def o190 (_ : Params) : Obj := cO [(.str (S 1701671029) 412), (.str (S 2057194043672392837723022735668564) 413), (.str (S 9700865007064396754801562313776) 414), (.int (55) 0), (.int (1) 0), (.int (0) 0), (.int (0) 0), (.int (3) 0), (.ref 185), (.bool true), (.int (181) 0), (.ref 186), .none, (.ref 187), (.ref 188), (.ref 189), (.int (416) 0), (.int (55) 0), (.str (S 9700865007064396754801562313776) 417)]
noncomputable def o191 (_ : Params) : Obj := ⟨(.type "function"), none, .func (PySem.W.fnOf (Str.ofString "told") (Str.ofString "Stretches.told") (defArgs (inClass (top 12) 10)) (defBody (inClass (top 12) 10)) (defScope (inClass (top 12) 10)) .none .none .none (.str (S 2595807759375494792423391711955702693320880999) 312) none (.ref 190) .none), #[]⟩
noncomputable def o192 (_ : Params) : Obj := tO []
noncomputable def o194 (_ : Params) : Obj := tO [(.str (S 1735222900) 422), (.str (S 495639426416) 423)]
noncomputable def o195 (_ : Params) : Obj := tO []
noncomputable def o197 (_ : Params) : Obj := cO [(.str (S 111490546888804) 419), (.str (S 134783800776830844550708368151093146964) 420), (.str (S 9700865007064396754801562313776) 421), (.int (58) 0), (.int (1) 0), (.int (0) 0), (.int (0) 0), (.int (3) 0), (.ref 192), (.bool true), (.int (181) 0), (.ref 193), .none, (.ref 194), (.ref 195), (.ref 196), (.int (424) 0), (.int (58) 0), (.str (S 9700865007064396754801562313776) 425)]
noncomputable def o198 (_ : Params) : Obj := ⟨(.type "function"), none, .func (PySem.W.fnOf (Str.ofString "copied") (Str.ofString "Stretches.copied") (defArgs (inClass (top 12) 11)) (defBody (inClass (top 12) 11)) (defScope (inClass (top 12) 11)) .none .none .none (.str (S 2595807759375494792423391711955702693320880999) 312) none (.ref 197) .none), #[]⟩
noncomputable def o199 (_ : Params) : Obj := tO []
noncomputable def o201 (_ : Params) : Obj := tO [(.str (S 1735222900) 430), (.str (S 1718116977) 431)]
noncomputable def o202 (_ : Params) : Obj := tO []
noncomputable def o204 (_ : Params) : Obj := cO [(.str (S 31392679273066234308940950897) 427), (.str (S 37951420520090778506602714804950266613495697467733332) 428), (.str (S 9700865007064396754801562313776) 429), (.int (63) 0), (.int (2) 0), (.int (0) 0), (.int (0) 0), (.int (3) 0), (.ref 199), (.bool true), (.int (181) 0), (.ref 200), .none, (.ref 201), (.ref 202), (.ref 203), (.int (432) 0), (.int (63) 0), (.str (S 9700865007064396754801562313776) 433)]
noncomputable def o205 (_ : Params) : Obj := ⟨(.type "function"), none, .func (PySem.W.fnOf (Str.ofString "place_behind") (Str.ofString "Stretches.place_behind") (defArgs (inClass (top 12) 12)) (defBody (inClass (top 12) 12)) (defScope (inClass (top 12) 12)) .none .none .none (.str (S 2595807759375494792423391711955702693320880999) 312) none (.ref 204) .none), #[]⟩
noncomputable def o206 (_ : Params) : Obj := tO []
noncomputable def o208 (_ : Params) : Obj := tO [(.str (S 1735222900) 438), (.str (S 504464894567) 439), (.str (S 2054120046) 440)]
noncomputable def o209 (_ : Params) : Obj := tO []
noncomputable def o211 (_ : Params) : Obj := cO [(.str (S 478922323667592571740785) 435), (.str (S 578981562671587066094221509702201825946659681620) 436), (.str (S 9700865007064396754801562313776) 437), (.int (66) 0), (.int (3) 0), (.int (0) 0), (.int (0) 0), (.int (3) 0), (.ref 206), (.bool true), (.int (181) 0), (.ref 207), .none, (.ref 208), (.ref 209), (.ref 210), (.int (441) 0), (.int (66) 0), (.str (S 9700865007064396754801562313776) 442)]
noncomputable def o212 (_ : Params) : Obj := ⟨(.type "function"), none, .func (PySem.W.fnOf (Str.ofString "parts_amid") (Str.ofString "Stretches.parts_amid") (defArgs (inClass (top 12) 13)) (defBody (inClass (top 12) 13)) (defScope (inClass (top 12) 13)) .none .none .none (.str (S 2595807759375494792423391711955702693320880999) 312) none (.ref 211) .none), #[]⟩
noncomputable def o213 (_ : Params) : Obj := tO []
noncomputable def o215 (_ : Params) : Obj := tO [(.str (S 1735222900) 447), (.str (S 1718116977) 448)]
noncomputable def o216 (_ : Params) : Obj := tO []
noncomputable def o218 (_ : Params) : Obj := cO [(.str (S 33040738702025329) 444), (.str (S 39943802116018770004276114331333133825364) 445), (.str (S 9700865007064396754801562313776) 446), (.int (69) 0), (.int (2) 0), (.int (0) 0), (.int (0) 0), (.int (3) 0), (.ref 213), (.bool true), (.int (181) 0), (.ref 214), .none, (.ref 215), (.ref 216), (.ref 217), (.int (449) 0), (.int (69) 0), (.str (S 9700865007064396754801562313776) 450)]
noncomputable def o219 (_ : Params) : Obj := ⟨(.type "function"), none, .func (PySem.W.fnOf (Str.ofString "part_at") (Str.ofString "Stretches.part_at") (defArgs (inClass (top 12) 14)) (defBody (inClass (top 12) 14)) (defScope (inClass (top 12) 14)) .none .none .none (.str (S 2595807759375494792423391711955702693320880999) 312) none (.ref 218) .none), #[]⟩
noncomputable def o220 (_ : Params) : Obj := tO []
noncomputable def o222 (_ : Params) : Obj := tO [(.str (S 1735222900) 455), (.str (S 504464894567) 456), (.str (S 2054120046) 457), (.str (S 500186702449) 458)]
noncomputable def o223 (_ : Params) : Obj := tO []
noncomputable def o225 (_ : Params) : Obj := cO [(.str (S 7307774714166534765) 452), (.str (S 8834557535882840484900534439152844413302100) 453), (.str (S 9700865007064396754801562313776) 454), (.int (72) 0), (.int (4) 0), (.int (0) 0), (.int (0) 0), (.int (3) 0), (.ref 220), (.bool true), (.int (181) 0), (.ref 221), .none, (.ref 222), (.ref 223), (.ref 224), (.int (459) 0), (.int (72) 0), (.str (S 9700865007064396754801562313776) 460)]
noncomputable def o226 (_ : Params) : Obj := ⟨(.type "function"), none, .func (PySem.W.fnOf (Str.ofString "lay_amid") (Str.ofString "Stretches.lay_amid") (defArgs (inClass (top 12) 15)) (defBody (inClass (top 12) 15)) (defScope (inClass (top 12) 15)) .none .none .none (.str (S 2595807759375494792423391711955702693320880999) 312) none (.ref 225) .none), #[]⟩
noncomputable def o227 (_ : Params) : Obj := ⟨(.type "tuple"), none, .seq #[(.str (Str.ofString "runs") 462)] 0, #[]⟩
noncomputable def o228 (P : Params) : Obj := dO 4 [ent P (S 455125450472104437637216) 321 (.str (S 2595807759375494792423391711955702693320880999) 312), ent P (S 500416517772168279997240570217455712) 325 (.int (23) 324), ent P (S 6944679725401530464) 332 (.ref 122), ent P (S 7698033) 343 (.ref 130), ent P (S 7698020) 352 (.ref 137), ent P (S 435727529576) 362 (.ref 144), ent P (S 516757173630863403280740) 371 (.ref 151), ent P (S 2165357850485127146099) 379 (.ref 158), ent P (S 129065384569461) 387 (.ref 165), ent P (S 28823093466133610) 396 (.ref 172), ent P (S 30801127769404522) 405 (.ref 179), ent P (S 28541580069598314) 411 (.ref 184), ent P (S 1701671029) 418 (.ref 191), ent P (S 111490546888804) 426 (.ref 198), ent P (S 31392679273066234308940950897) 434 (.ref 205), ent P (S 478922323667592571740785) 443 (.ref 212), ent P (S 33040738702025329) 451 (.ref 219), ent P (S 7307774714166534765) 461 (.ref 226), ent P (S 140854816109632365363434125429399349832812124725344) 463 (.ref 227), ent P (S 6944679699547512928) 465 (.ref 230), ent P (S 116512133262362862868258912) 467 (.ref 231), ent P (S 27127582262911072) 468 .none]
noncomputable def o229 (_ : Params) : Obj := ⟨(.type "type"), none, .cls { name := (Str.ofString "Stretches"), bases := [(.type "object")], mro := [(.ref 229), (.type "object")], ns := 228, qualname := (Str.ofString "Stretches"), hasDict := true, slotNames := [], subclasses := [], abstract := false, collection := none, hasDel := false }, #[none, none, (some (.str (S 2147201852470124049748) 314)), (some (.str (S 2147201852470124049748) 322)), (some (.builtin "object.__new__")), (some (.bool true))]⟩
noncomputable def o230 (_ : Params) : Obj := ⟨(.type "getset_descriptor"), none, .fields ⟨[(.str (S 6944679699547512928) 464), (.ref 229), (.builtin "function.__dict__"), (.builtin "function.__dict__#set")]⟩, #[]⟩
noncomputable def o231 (_ : Params) : Obj := ⟨(.type "getset_descriptor"), none, .fields ⟨[(.str (S 116512133262362862868258912) 466), (.ref 229), (.builtin "ExceptionGroup.__weakref__"), .none]⟩, #[]⟩
noncomputable def o234 (_ : Params) : Obj := tO []
noncomputable def o236 (_ : Params) : Obj := tO [(.str (S 32777980890478191) 478), (.str (S 126883592042095) 479)]
noncomputable def o237 (_ : Params) : Obj := tO []
noncomputable def o239 (_ : Params) : Obj := cO [(.str (S 483571264869516729017965) 475), (.str (S 483571264869516729017965) 476), (.str (S 9700865007064396754801562313776) 477), (.int (76) 0), (.int (1) 0), (.int (0) 0), (.int (0) 0), (.int (3) 0), (.ref 234), (.bool true), (.int (181) 0), (.ref 235), .none, (.ref 236), (.ref 237), (.ref 238), (.int (480) 0), (.int (76) 0), (.str (S 9700865007064396754801562313776) 481)]
noncomputable def o240 (_ : Params) : Obj := ⟨(.type "function"), none, .func (PySem.W.fnOf (Str.ofString "least_free") (Str.ofString "least_free") (defArgs (top 15)) (defBody (top 15)) (defScope (top 15)) .none .none .none (.str (S 531976422797234828493252396058833767) 471) none (.ref 239) .none), #[]⟩
noncomputable def o248 (_ : Params) : Obj := tO []
noncomputable def o250 (_ : Params) : Obj := tO [(.str (S 1735222900) 498), (.str (S 439988939124) 499)]
noncomputable def o251 (_ : Params) : Obj := tO []
noncomputable def o253 (_ : Params) : Obj := cO [(.str (S 6944679725401530464) 495), (.str (S 1954753563970360692704735984513097) 496), (.str (S 9700865007064396754801562313776) 497), (.int (83) 0), (.int (2) 0), (.int (0) 0), (.int (0) 0), (.int (3) 0), (.ref 248), (.bool true), (.int (181) 0), (.ref 249), .none, (.ref 250), (.ref 251), (.ref 252), (.int (500) 0), (.int (83) 0), (.str (S 9700865007064396754801562313776) 501)]
noncomputable def o254 (_ : Params) : Obj := ⟨(.type "function"), none, .func (PySem.W.fnOf (Str.ofString "__init__") (Str.ofString "House.__init__") (defArgs (inClass (top 16) 0)) (defBody (inClass (top 16) 0)) (defScope (inClass (top 16) 0)) .none .none .none (.str (S 531976422797234828493252396058833767) 471) none (.ref 253) .none), #[]⟩
noncomputable def o255 (_ : Params) : Obj := tO []
noncomputable def o257 (_ : Params) : Obj := tO [(.str (S 1735222900) 506), (.str (S 1819566709) 507)]
noncomputable def o258 (_ : Params) : Obj := tO []
noncomputable def o260 (_ : Params) : Obj := cO [(.str (S 7814979509663852143) 503), (.str (S 2199721175476886628490265163624521) 504), (.str (S 9700865007064396754801562313776) 505), (.int (88) 0), (.int (1) 0), (.int (0) 0), (.int (0) 0), (.int (3) 0), (.ref 255), (.bool true), (.int (181) 0), (.ref 256), .none, (.ref 257), (.ref 258), (.ref 259), (.int (508) 0), (.int (88) 0), (.str (S 9700865007064396754801562313776) 509)]
noncomputable def o261 (_ : Params) : Obj := ⟨(.type "function"), none, .func (PySem.W.fnOf (Str.ofString "new_task") (Str.ofString "House.new_task") (defArgs (inClass (top 16) 1)) (defBody (inClass (top 16) 1)) (defScope (inClass (top 16) 1)) .none .none .none (.str (S 531976422797234828493252396058833767) 471) none (.ref 260) .none), #[]⟩
noncomputable def o262 (_ : Params) : Obj := tO []
noncomputable def o264 (_ : Params) : Obj := tO [(.str (S 1735222900) 514), (.str (S 1819566709) 515), (.str (S 495639426416) 516)]
noncomputable def o265 (_ : Params) : Obj := tO []
noncomputable def o267 (_ : Params) : Obj := cO [(.str (S 1819504743) 511), (.str (S 512145055212970217730121) 512), (.str (S 9700865007064396754801562313776) 513), (.int (93) 0), (.int (2) 0), (.int (0) 0), (.int (0) 0), (.int (3) 0), (.ref 262), (.bool true), (.int (181) 0), (.ref 263), .none, (.ref 264), (.ref 265), (.ref 266), (.int (517) 0), (.int (93) 0), (.str (S 9700865007064396754801562313776) 518)]
noncomputable def o268 (_ : Params) : Obj := ⟨(.type "function"), none, .func (PySem.W.fnOf (Str.ofString "fork") (Str.ofString "House.fork") (defArgs (inClass (top 16) 2)) (defBody (inClass (top 16) 2)) (defScope (inClass (top 16) 2)) .none .none .none (.str (S 531976422797234828493252396058833767) 471) none (.ref 267) .none), #[]⟩
noncomputable def o269 (_ : Params) : Obj := tO []
noncomputable def o271 (_ : Params) : Obj := tO [(.str (S 1735222900) 523), (.str (S 1819566709) 524)]
noncomputable def o272 (_ : Params) : Obj := tO []
noncomputable def o274 (_ : Params) : Obj := cO [(.str (S 7814979509662609254) 520), (.str (S 2199721175476536786337936233099337) 521), (.str (S 9700865007064396754801562313776) 522), (.int (99) 0), (.int (2) 0), (.int (0) 0), (.int (0) 0), (.int (3) 0), (.ref 269), (.bool true), (.int (181) 0), (.ref 270), .none, (.ref 271), (.ref 272), (.ref 273), (.int (525) 0), (.int (99) 0), (.str (S 9700865007064396754801562313776) 526)]
noncomputable def o275 (_ : Params) : Obj := ⟨(.type "function"), none, .func (PySem.W.fnOf (Str.ofString "end_task") (Str.ofString "House.end_task") (defArgs (inClass (top 16) 3)) (defBody (inClass (top 16) 3)) (defScope (inClass (top 16) 3)) .none .none .none (.str (S 531976422797234828493252396058833767) 471) none (.ref 274) .none), #[]⟩
noncomputable def o276 (_ : Params) : Obj := tO []
noncomputable def o278 (_ : Params) : Obj := tO [(.str (S 1735222900) 531), (.str (S 2054120046) 532), (.str (S 1819239011) 533)]
noncomputable def o279 (_ : Params) : Obj := tO []
noncomputable def o281 (_ : Params) : Obj := cO [(.str (S 7813572057470887535) 528), (.str (S 2199325012903650553738972299161673) 529), (.str (S 9700865007064396754801562313776) 530), (.int (103) 0), (.int (2) 0), (.int (0) 0), (.int (0) 0), (.int (3) 0), (.ref 276), (.bool true), (.int (181) 0), (.ref 277), .none, (.ref 278), (.ref 279), (.ref 280), (.int (534) 0), (.int (103) 0), (.str (S 9700865007064396754801562313776) 535)]
noncomputable def o282 (_ : Params) : Obj := ⟨(.type "function"), none, .func (PySem.W.fnOf (Str.ofString "new_bank") (Str.ofString "House.new_bank") (defArgs (inClass (top 16) 4)) (defBody (inClass (top 16) 4)) (defScope (inClass (top 16) 4)) .none .none .none (.str (S 531976422797234828493252396058833767) 471) none (.ref 281) .none), #[]⟩
noncomputable def o283 (_ : Params) : Obj := tO []
noncomputable def o286 (_ : Params) : Obj := cO [(.str (S 2000274446712430424933) 537), (.str (S 563027203303301669962607049756274761) 538), (.str (S 9700865007064396754801562313776) 539), (.int (110) 0), (.int (2) 0), (.int (0) 0), (.int (0) 0), (.int (3) 0), (.ref 283), (.bool true), (.int (181) 0), (.ref 284), .none, .none, .none, (.ref 285), (.int (540) 0), (.int (110) 0), (.str (S 9700865007064396754801562313776) 541)]
noncomputable def o287 (_ : Params) : Obj := ⟨(.type "function"), none, .func (PySem.W.fnOf (Str.ofString "drop_bank") (Str.ofString "House.drop_bank") (defArgs (inClass (top 16) 5)) (defBody (inClass (top 16) 5)) (defScope (inClass (top 16) 5)) .none .none .none (.str (S 531976422797234828493252396058833767) 471) none (.ref 286) .none), #[]⟩
noncomputable def o288 (_ : Params) : Obj := ⟨(.type "tuple"), none, .seq #[.none, (.int (0) 543)] 0, #[]⟩
noncomputable def o289 (_ : Params) : Obj := tO []
noncomputable def o291 (_ : Params) : Obj := tO [(.str (S 1735222900) 547), (.str (S 1819566709) 548), (.str (S 504464894567) 549), (.str (S 2054120046) 550), (.str (S 128047628446323) 551), (.str (S 1819239011) 552), (.str (S 504447006068) 553)]
noncomputable def o292 (_ : Params) : Obj := tO []
noncomputable def o294 (_ : Params) : Obj := cO [(.str (S 8020589) 544), (.str (S 2257595154097830785097) 545), (.str (S 9700865007064396754801562313776) 546), (.int (116) 0), (.int (7) 0), (.int (0) 0), (.int (0) 0), (.int (3) 0), (.ref 289), (.bool true), (.int (181) 0), (.ref 290), .none, (.ref 291), (.ref 292), (.ref 293), (.int (554) 0), (.int (116) 0), (.str (S 9700865007064396754801562313776) 555)]
noncomputable def o295 (_ : Params) : Obj := ⟨(.type "function"), none, .func (PySem.W.fnOf (Str.ofString "lay") (Str.ofString "House.lay") (defArgs (inClass (top 16) 6)) (defBody (inClass (top 16) 6)) (defScope (inClass (top 16) 6)) (.ref 288) .none .none (.str (S 531976422797234828493252396058833767) 471) none (.ref 294) .none), #[]⟩
noncomputable def o296 (_ : Params) : Obj := tO []
noncomputable def o298 (_ : Params) : Obj := tO [(.str (S 1735222900) 560), (.str (S 1819566709) 561), (.str (S 504464894567) 562), (.str (S 2054120046) 563)]
noncomputable def o299 (_ : Params) : Obj := tO []
noncomputable def o301 (_ : Params) : Obj := cO [(.str (S 1969711725) 557), (.str (S 554424561973198142730313) 558), (.str (S 9700865007064396754801562313776) 559), (.int (119) 0), (.int (4) 0), (.int (0) 0), (.int (0) 0), (.int (3) 0), (.ref 296), (.bool true), (.int (181) 0), (.ref 297), .none, (.ref 298), (.ref 299), (.ref 300), (.int (564) 0), (.int (119) 0), (.str (S 9700865007064396754801562313776) 565)]
noncomputable def o302 (_ : Params) : Obj := ⟨(.type "function"), none, .func (PySem.W.fnOf (Str.ofString "lift") (Str.ofString "House.lift") (defArgs (inClass (top 16) 7)) (defBody (inClass (top 16) 7)) (defScope (inClass (top 16) 7)) .none .none .none (.str (S 531976422797234828493252396058833767) 471) none (.ref 301) .none), #[]⟩
noncomputable def o303 (_ : Params) : Obj := tO []
noncomputable def o305 (_ : Params) : Obj := tO [(.str (S 1735222900) 570), (.str (S 1819566709) 571), (.str (S 504464894567) 572), (.str (S 2054120046) 573), (.str (S 128047628446323) 574)]
noncomputable def o306 (_ : Params) : Obj := tO []
noncomputable def o308 (_ : Params) : Obj := cO [(.str (S 435727529576) 567), (.str (S 122646396239648390521450569) 568), (.str (S 9700865007064396754801562313776) 569), (.int (122) 0), (.int (5) 0), (.int (0) 0), (.int (0) 0), (.int (3) 0), (.ref 303), (.bool true), (.int (181) 0), (.ref 304), .none, (.ref 305), (.ref 306), (.ref 307), (.int (575) 0), (.int (122) 0), (.str (S 9700865007064396754801562313776) 576)]
noncomputable def o309 (_ : Params) : Obj := ⟨(.type "function"), none, .func (PySem.W.fnOf (Str.ofString "guard") (Str.ofString "House.guard") (defArgs (inClass (top 16) 8)) (defBody (inClass (top 16) 8)) (defScope (inClass (top 16) 8)) .none .none .none (.str (S 531976422797234828493252396058833767) 471) none (.ref 308) .none), #[]⟩
noncomputable def o310 (_ : Params) : Obj := tO []
noncomputable def o312 (_ : Params) : Obj := tO [(.str (S 1735222900) 581), (.str (S 1819566709) 582), (.str (S 32779080669947234) 583), (.str (S 1970233976) 584)]
noncomputable def o313 (_ : Params) : Obj := tO []
noncomputable def o315 (_ : Params) : Obj := cO [(.str (S 435510080610) 578), (.str (S 122585189797007784293068873) 579), (.str (S 9700865007064396754801562313776) 580), (.int (125) 0), (.int (4) 0), (.int (0) 0), (.int (0) 0), (.int (3) 0), (.ref 310), (.bool true), (.int (181) 0), (.ref 311), .none, (.ref 312), (.ref 313), (.ref 314), (.int (585) 0), (.int (125) 0), (.str (S 9700865007064396754801562313776) 586)]
noncomputable def o316 (_ : Params) : Obj := ⟨(.type "function"), none, .func (PySem.W.fnOf (Str.ofString "asked") (Str.ofString "House.asked") (defArgs (inClass (top 16) 9)) (defBody (inClass (top 16) 9)) (defScope (inClass (top 16) 9)) .none .none .none (.str (S 531976422797234828493252396058833767) 471) none (.ref 315) .none), #[]⟩
noncomputable def o317 (_ : Params) : Obj := tO []
noncomputable def o319 (_ : Params) : Obj := tO [(.str (S 1735222900) 591)]
noncomputable def o320 (_ : Params) : Obj := tO []
noncomputable def o322 (_ : Params) : Obj := cO [(.str (S 2166657694140852363893) 588), (.str (S 609859923998260050033739136169832521) 589), (.str (S 9700865007064396754801562313776) 590), (.int (128) 0), (.int (1) 0), (.int (0) 0), (.int (0) 0), (.int (3) 0), (.ref 317), (.bool true), (.int (181) 0), (.ref 318), .none, (.ref 319), (.ref 320), (.ref 321), (.int (592) 0), (.int (128) 0), (.str (S 9700865007064396754801562313776) 593)]
noncomputable def o323 (_ : Params) : Obj := ⟨(.type "function"), none, .func (PySem.W.fnOf (Str.ofString "task_list") (Str.ofString "House.task_list") (defArgs (inClass (top 16) 10)) (defBody (inClass (top 16) 10)) (defScope (inClass (top 16) 10)) .none .none .none (.str (S 531976422797234828493252396058833767) 471) none (.ref 322) .none), #[]⟩
noncomputable def o324 (_ : Params) : Obj := tO []
noncomputable def o326 (_ : Params) : Obj := tO [(.str (S 1735222900) 598)]
noncomputable def o327 (_ : Params) : Obj := tO []
noncomputable def o329 (_ : Params) : Obj := cO [(.str (S 2166657694140852036195) 595), (.str (S 609859923998259957794952218041282633) 596), (.str (S 9700865007064396754801562313776) 597), (.int (131) 0), (.int (1) 0), (.int (0) 0), (.int (0) 0), (.int (3) 0), (.ref 324), (.bool true), (.int (181) 0), (.ref 325), .none, (.ref 326), (.ref 327), (.ref 328), (.int (599) 0), (.int (131) 0), (.str (S 9700865007064396754801562313776) 600)]
noncomputable def o330 (_ : Params) : Obj := ⟨(.type "function"), none, .func (PySem.W.fnOf (Str.ofString "bank_list") (Str.ofString "House.bank_list") (defArgs (inClass (top 16) 11)) (defBody (inClass (top 16) 11)) (defScope (inClass (top 16) 11)) .none .none .none (.str (S 531976422797234828493252396058833767) 471) none (.ref 329) .none), #[]⟩
noncomputable def o331 (_ : Params) : Obj := tO []
noncomputable def o333 (_ : Params) : Obj := tO [(.str (S 1735222900) 605), (.str (S 1819239011) 606)]
noncomputable def o334 (_ : Params) : Obj := tO []
noncomputable def o336 (_ : Params) : Obj := cO [(.str (S 1890460943890055651939) 602), (.str (S 532117450153858173809377884935450697) 603), (.str (S 9700865007064396754801562313776) 604), (.int (134) 0), (.int (2) 0), (.int (0) 0), (.int (0) 0), (.int (3) 0), (.ref 331), (.bool true), (.int (181) 0), (.ref 332), .none, (.ref 333), (.ref 334), (.ref 335), (.int (607) 0), (.int (134) 0), (.str (S 9700865007064396754801562313776) 608)]
noncomputable def o337 (_ : Params) : Obj := ⟨(.type "function"), none, .func (PySem.W.fnOf (Str.ofString "bank_size") (Str.ofString "House.bank_size") (defArgs (inClass (top 16) 12)) (defBody (inClass (top 16) 12)) (defScope (inClass (top 16) 12)) .none .none .none (.str (S 531976422797234828493252396058833767) 471) none (.ref 336) .none), #[]⟩
noncomputable def o338 (_ : Params) : Obj := tO []
noncomputable def o340 (_ : Params) : Obj := tO [(.str (S 1735222900) 613), (.str (S 1819566709) 614)]
noncomputable def o341 (_ : Params) : Obj := tO []
noncomputable def o343 (_ : Params) : Obj := cO [(.str (S 32012811197779588502284105076) 610), (.str (S 9010805286337637281539545668179908239978569) 611), (.str (S 9700865007064396754801562313776) 612), (.int (138) 0), (.int (2) 0), (.int (0) 0), (.int (0) 0), (.int (3) 0), (.ref 338), (.bool true), (.int (181) 0), (.ref 339), .none, (.ref 340), (.ref 341), (.ref 342), (.int (615) 0), (.int (138) 0), (.str (S 9700865007064396754801562313776) 616)]
noncomputable def o344 (_ : Params) : Obj := ⟨(.type "function"), none, .func (PySem.W.fnOf (Str.ofString "stretches_of") (Str.ofString "House.stretches_of") (defArgs (inClass (top 16) 13)) (defBody (inClass (top 16) 13)) (defScope (inClass (top 16) 13)) .none .none .none (.str (S 531976422797234828493252396058833767) 471) none (.ref 343) .none), #[]⟩
noncomputable def o345 (_ : Params) : Obj := tO []
noncomputable def o347 (_ : Params) : Obj := tO [(.str (S 1735222900) 621), (.str (S 1819566709) 622), (.str (S 1718116977) 623)]
noncomputable def o348 (_ : Params) : Obj := tO []
noncomputable def o350 (_ : Params) : Obj := cO [(.str (S 2165357850485127146099) 618), (.str (S 609494050535537300399575152849219657) 619), (.str (S 9700865007064396754801562313776) 620), (.int (142) 0), (.int (3) 0), (.int (0) 0), (.int (0) 0), (.int (3) 0), (.ref 345), (.bool true), (.int (181) 0), (.ref 346), .none, (.ref 347), (.ref 348), (.ref 349), (.int (624) 0), (.int (142) 0), (.str (S 9700865007064396754801562313776) 625)]
noncomputable def o351 (_ : Params) : Obj := ⟨(.type "function"), none, .func (PySem.W.fnOf (Str.ofString "rights_at") (Str.ofString "House.rights_at") (defArgs (inClass (top 16) 14)) (defBody (inClass (top 16) 14)) (defScope (inClass (top 16) 14)) .none .none .none (.str (S 531976422797234828493252396058833767) 471) none (.ref 350) .none), #[]⟩
noncomputable def o352 (_ : Params) : Obj := tO []
noncomputable def o354 (_ : Params) : Obj := tO [(.str (S 1735222900) 630), (.str (S 1819566709) 631), (.str (S 1718116977) 632)]
noncomputable def o355 (_ : Params) : Obj := tO []
noncomputable def o357 (_ : Params) : Obj := cO [(.str (S 129065384569461) 627), (.str (S 36328676115840947361617965129) 628), (.str (S 9700865007064396754801562313776) 629), (.int (145) 0), (.int (3) 0), (.int (0) 0), (.int (0) 0), (.int (3) 0), (.ref 352), (.bool true), (.int (181) 0), (.ref 353), .none, (.ref 354), (.ref 355), (.ref 356), (.int (633) 0), (.int (145) 0), (.str (S 9700865007064396754801562313776) 634)]
noncomputable def o358 (_ : Params) : Obj := ⟨(.type "function"), none, .func (PySem.W.fnOf (Str.ofString "tie_at") (Str.ofString "House.tie_at") (defArgs (inClass (top 16) 15)) (defBody (inClass (top 16) 15)) (defScope (inClass (top 16) 15)) .none .none .none (.str (S 531976422797234828493252396058833767) 471) none (.ref 357) .none), #[]⟩
noncomputable def o359 (_ : Params) : Obj := tO []
noncomputable def o361 (_ : Params) : Obj := tO [(.str (S 1735222900) 639), (.str (S 1819566709) 640)]
noncomputable def o362 (_ : Params) : Obj := tO []
noncomputable def o364 (_ : Params) : Obj := cO [(.str (S 7453563436348760689) 636), (.str (S 2097991594657664520040000427290697) 637), (.str (S 9700865007064396754801562313776) 638), (.int (148) 0), (.int (2) 0), (.int (0) 0), (.int (0) 0), (.int (3) 0), (.ref 359), (.bool true), (.int (181) 0), (.ref 360), .none, (.ref 361), (.ref 362), (.ref 363), (.int (641) 0), (.int (148) 0), (.str (S 9700865007064396754801562313776) 642)]
noncomputable def o365 (_ : Params) : Obj := ⟨(.type "function"), none, .func (PySem.W.fnOf (Str.ofString "pages_of") (Str.ofString "House.pages_of") (defArgs (inClass (top 16) 16)) (defBody (inClass (top 16) 16)) (defScope (inClass (top 16) 16)) .none .none .none (.str (S 531976422797234828493252396058833767) 471) none (.ref 364) .none), #[]⟩
noncomputable def o366 (_ : Params) : Obj := tO []
noncomputable def o368 (_ : Params) : Obj := tO [(.str (S 1735222900) 647), (.str (S 1819566709) 648)]
noncomputable def o369 (_ : Params) : Obj := tO []
noncomputable def o371 (_ : Params) : Obj := cO [(.str (S 512162497145278640318820) 644), (.str (S 144160926956038725368327681379818434633) 645), (.str (S 9700865007064396754801562313776) 646), (.int (151) 0), (.int (2) 0), (.int (0) 0), (.int (0) 0), (.int (3) 0), (.ref 366), (.bool true), (.int (181) 0), (.ref 367), .none, (.ref 368), (.ref 369), (.ref 370), (.int (649) 0), (.int (151) 0), (.str (S 9700865007064396754801562313776) 650)]
noncomputable def o372 (_ : Params) : Obj := ⟨(.type "function"), none, .func (PySem.W.fnOf (Str.ofString "check_task") (Str.ofString "House.check_task") (defArgs (inClass (top 16) 17)) (defBody (inClass (top 16) 17)) (defScope (inClass (top 16) 17)) .none .none .none (.str (S 531976422797234828493252396058833767) 471) none (.ref 371) .none), #[]⟩
noncomputable def o373 (_ : Params) : Obj := tO []
noncomputable def o375 (_ : Params) : Obj := tO [(.str (S 1735222900) 655), (.str (S 1819239011) 656)]
noncomputable def o376 (_ : Params) : Obj := tO []
noncomputable def o378 (_ : Params) : Obj := cO [(.str (S 512070258358360511768932) 652), (.str (S 144134964045639125973426952214381228105) 653), (.str (S 9700865007064396754801562313776) 654), (.int (155) 0), (.int (2) 0), (.int (0) 0), (.int (0) 0), (.int (3) 0), (.ref 373), (.bool true), (.int (181) 0), (.ref 374), .none, (.ref 375), (.ref 376), (.ref 377), (.int (657) 0), (.int (155) 0), (.str (S 9700865007064396754801562313776) 658)]
noncomputable def o379 (_ : Params) : Obj := ⟨(.type "function"), none, .func (PySem.W.fnOf (Str.ofString "check_bank") (Str.ofString "House.check_bank") (defArgs (inClass (top 16) 18)) (defBody (inClass (top 16) 18)) (defScope (inClass (top 16) 18)) .none .none .none (.str (S 531976422797234828493252396058833767) 471) none (.ref 378) .none), #[]⟩
noncomputable def o380 (_ : Params) : Obj := tO []
noncomputable def o382 (_ : Params) : Obj := tO [(.str (S 1735222900) 663), (.str (S 1819566709) 664), (.str (S 504464894567) 665), (.str (S 2054120046) 666)]
noncomputable def o383 (_ : Params) : Obj := tO []
noncomputable def o385 (_ : Params) : Obj := cO [(.str (S 8350047493112005182606836918628) 660), (.str (S 2350329423656573175351140194157426667259588681) 661), (.str (S 9700865007064396754801562313776) 662), (.int (159) 0), (.int (4) 0), (.int (0) 0), (.int (0) 0), (.int (3) 0), (.ref 380), (.bool true), (.int (181) 0), (.ref 381), .none, (.ref 382), (.ref 383), (.ref 384), (.int (667) 0), (.int (159) 0), (.str (S 9700865007064396754801562313776) 668)]
noncomputable def o386 (_ : Params) : Obj := ⟨(.type "function"), none, .func (PySem.W.fnOf (Str.ofString "check_stretch") (Str.ofString "House.check_stretch") (defArgs (inClass (top 16) 19)) (defBody (inClass (top 16) 19)) (defScope (inClass (top 16) 19)) .none .none .none (.str (S 531976422797234828493252396058833767) 471) none (.ref 385) .none), #[]⟩
noncomputable def o387 (_ : Params) : Obj := tO []
noncomputable def o389 (_ : Params) : Obj := tO [(.str (S 1735222900) 673), (.str (S 1819239011) 674), (.str (S 504447006068) 675), (.str (S 2054120046) 676)]
noncomputable def o390 (_ : Params) : Obj := tO []
noncomputable def o392 (_ : Params) : Obj := cO [(.str (S 9446029003694613325605449134053798776826212) 670), (.str (S 2658820793823122384803673107998479853226123854532207603785) 671), (.str (S 9700865007064396754801562313776) 672), (.int (162) 0), (.int (4) 0), (.int (0) 0), (.int (0) 0), (.int (3) 0), (.ref 387), (.bool true), (.int (181) 0), (.ref 388), .none, (.ref 389), (.ref 390), (.ref 391), (.int (677) 0), (.int (162) 0), (.str (S 9700865007064396754801562313776) 678)]
noncomputable def o393 (_ : Params) : Obj := ⟨(.type "function"), none, .func (PySem.W.fnOf (Str.ofString "check_part_of_bank") (Str.ofString "House.check_part_of_bank") (defArgs (inClass (top 16) 20)) (defBody (inClass (top 16) 20)) (defScope (inClass (top 16) 20)) .none .none .none (.str (S 531976422797234828493252396058833767) 471) none (.ref 392) .none), #[]⟩
noncomputable def o394 (_ : Params) : Obj := ⟨(.type "tuple"), none, .seq #[(.str (Str.ofString "banks") 680), (.str (Str.ofString "shape") 681), (.str (Str.ofString "tasks") 682)] 0, #[]⟩
noncomputable def o395 (P : Params) : Obj := dO 4 [ent P (S 455125450472104437637216) 490 (.str (S 531976422797234828493252396058833767) 471), ent P (S 500416517772168279997240570217455712) 494 (.int (81) 493), ent P (S 6944679725401530464) 502 (.ref 254), ent P (S 7814979509663852143) 510 (.ref 261), ent P (S 1819504743) 519 (.ref 268), ent P (S 7814979509662609254) 527 (.ref 275), ent P (S 7813572057470887535) 536 (.ref 282), ent P (S 2000274446712430424933) 542 (.ref 287), ent P (S 8020589) 556 (.ref 295), ent P (S 1969711725) 566 (.ref 302), ent P (S 435727529576) 577 (.ref 309), ent P (S 435510080610) 587 (.ref 316), ent P (S 2166657694140852363893) 594 (.ref 323), ent P (S 2166657694140852036195) 601 (.ref 330), ent P (S 1890460943890055651939) 609 (.ref 337), ent P (S 32012811197779588502284105076) 617 (.ref 344), ent P (S 2165357850485127146099) 626 (.ref 351), ent P (S 129065384569461) 635 (.ref 358), ent P (S 7453563436348760689) 643 (.ref 365), ent P (S 512162497145278640318820) 651 (.ref 372), ent P (S 512070258358360511768932) 659 (.ref 379), ent P (S 8350047493112005182606836918628) 669 (.ref 386), ent P (S 9446029003694613325605449134053798776826212) 679 (.ref 393), ent P (S 140854816109632365363434125429399349832812124725344) 683 (.ref 394), ent P (S 6944679699547512928) 685 (.ref 397), ent P (S 116512133262362862868258912) 687 (.ref 398), ent P (S 27127582262911072) 688 .none]
noncomputable def o396 (_ : Params) : Obj := ⟨(.type "type"), none, .cls { name := (Str.ofString "House"), bases := [(.type "object")], mro := [(.ref 396), (.type "object")], ns := 395, qualname := (Str.ofString "House"), hasDict := true, slotNames := [], subclasses := [], abstract := false, collection := none, hasDel := false }, #[none, none, (some (.str (S 440040583241) 483)), (some (.str (S 440040583241) 491)), (some (.builtin "object.__new__")), (some (.bool true))]⟩
noncomputable def o397 (_ : Params) : Obj := ⟨(.type "getset_descriptor"), none, .fields ⟨[(.str (S 6944679699547512928) 684), (.ref 396), (.builtin "function.__dict__"), (.builtin "function.__dict__#set")]⟩, #[]⟩
noncomputable def o398 (_ : Params) : Obj := ⟨(.type "getset_descriptor"), none, .fields ⟨[(.str (S 116512133262362862868258912) 686), (.ref 396), (.builtin "ExceptionGroup.__weakref__"), .none]⟩, #[]⟩
noncomputable def o401 (_ : Params) : Obj := tO []
noncomputable def o403 (_ : Params) : Obj := tO [(.str (S 8462094853666339174) 696), (.str (S 495640408177) 697), (.str (S 7525350520412074085) 698)]
noncomputable def o404 (_ : Params) : Obj := tO []
noncomputable def o406 (_ : Params) : Obj := cO [(.str (S 34807946493563893454802022513) 693), (.str (S 34807946493563893454802022513) 694), (.str (S 9700865007064396754801562313776) 695), (.int (165) 0), (.int (1) 0), (.int (0) 0), (.int (0) 0), (.int (3) 0), (.ref 401), (.bool true), (.int (181) 0), (.ref 402), .none, (.ref 403), (.ref 404), (.ref 405), (.int (699) 0), (.int (165) 0), (.str (S 9700865007064396754801562313776) 700)]
noncomputable def o407 (_ : Params) : Obj := ⟨(.type "function"), none, .func (PySem.W.fnOf (Str.ofString "power_of_two") (Str.ofString "power_of_two") (defArgs (top 18)) (defBody (top 18)) (defScope (top 18)) .none .none .none (.str (S 154722361499902317960303193115794240359) 691) none (.ref 406) .none), #[]⟩
noncomputable def o408 (_ : Params) : Obj := tO []
noncomputable def o410 (_ : Params) : Obj := tO [(.str (S 128013219358317) 705), (.str (S 7299687) 706), (.str (S 478526206824) 707)]
noncomputable def o411 (_ : Params) : Obj := tO []
noncomputable def o413 (_ : Params) : Obj := cO [(.str (S 2360876520579034574696528942098788) 702), (.str (S 2360876520579034574696528942098788) 703), (.str (S 9700865007064396754801562313776) 704), (.int (170) 0), (.int (3) 0), (.int (0) 0), (.int (0) 0), (.int (3) 0), (.ref 408), (.bool true), (.int (181) 0), (.ref 409), .none, (.ref 410), (.ref 411), (.ref 412), (.int (708) 0), (.int (170) 0), (.str (S 9700865007064396754801562313776) 709)]
noncomputable def o414 (_ : Params) : Obj := ⟨(.type "function"), none, .func (PySem.W.fnOf (Str.ofString "check_measures") (Str.ofString "check_measures") (defArgs (top 19)) (defBody (top 19)) (defScope (top 19)) .none .none .none (.str (S 154722361499902317960303193115794240359) 691) none (.ref 413) .none), #[]⟩
noncomputable def o422 (_ : Params) : Obj := tO []
noncomputable def o424 (_ : Params) : Obj := tO [(.str (S 1735222900) 726), (.str (S 128013219358317) 727), (.str (S 7299687) 728), (.str (S 478526206824) 729)]
noncomputable def o425 (_ : Params) : Obj := tO []
noncomputable def o427 (_ : Params) : Obj := cO [(.str (S 6944679725401530464) 723), (.str (S 1954753563970360692704735932868948) 724), (.str (S 9700865007064396754801562313776) 725), (.int (179) 0), (.int (4) 0), (.int (0) 0), (.int (0) 0), (.int (3) 0), (.ref 422), (.bool true), (.int (181) 0), (.ref 423), .none, (.ref 424), (.ref 425), (.ref 426), (.int (730) 0), (.int (179) 0), (.str (S 9700865007064396754801562313776) 731)]
noncomputable def o428 (_ : Params) : Obj := ⟨(.type "function"), none, .func (PySem.W.fnOf (Str.ofString "__init__") (Str.ofString "Shape.__init__") (defArgs (inClass (top 20) 0)) (defBody (inClass (top 20) 0)) (defScope (inClass (top 20) 0)) .none .none .none (.str (S 154722361499902317960303193115794240359) 691) none (.ref 427) .none), #[]⟩
noncomputable def o429 (_ : Params) : Obj := tO []
noncomputable def o431 (_ : Params) : Obj := tO [(.str (S 1735222900) 736)]
noncomputable def o432 (_ : Params) : Obj := tO []
noncomputable def o434 (_ : Params) : Obj := cO [(.str (S 483958001635892750870900) 733), (.str (S 136222067239398530400517607478345754964) 734), (.str (S 9700865007064396754801562313776) 735), (.int (188) 0), (.int (1) 0), (.int (0) 0), (.int (0) 0), (.int (3) 0), (.ref 429), (.bool true), (.int (181) 0), (.ref 430), .none, (.ref 431), (.ref 432), (.ref 433), (.int (737) 0), (.int (188) 0), (.str (S 9700865007064396754801562313776) 738)]
noncomputable def o435 (_ : Params) : Obj := ⟨(.type "function"), none, .func (PySem.W.fnOf (Str.ofString "sheet_size") (Str.ofString "Shape.sheet_size") (defArgs (inClass (top 20) 1)) (defBody (inClass (top 20) 1)) (defScope (inClass (top 20) 1)) .none .none .none (.str (S 154722361499902317960303193115794240359) 691) none (.ref 434) .none), #[]⟩
noncomputable def o436 (_ : Params) : Obj := tO []
noncomputable def o438 (_ : Params) : Obj := tO [(.str (S 1735222900) 743)]
noncomputable def o439 (_ : Params) : Obj := tO []
noncomputable def o441 (_ : Params) : Obj := cO [(.str (S 554573001519589315076721) 740), (.str (S 156098422687084996958981798045893683540) 741), (.str (S 9700865007064396754801562313776) 742), (.int (191) 0), (.int (1) 0), (.int (0) 0), (.int (0) 0), (.int (3) 0), (.ref 436), (.bool true), (.int (181) 0), (.ref 437), .none, (.ref 438), (.ref 439), (.ref 440), (.int (744) 0), (.int (191) 0), (.str (S 9700865007064396754801562313776) 745)]
noncomputable def o442 (_ : Params) : Obj := ⟨(.type "function"), none, .func (PySem.W.fnOf (Str.ofString "page_count") (Str.ofString "Shape.page_count") (defArgs (inClass (top 20) 2)) (defBody (inClass (top 20) 2)) (defScope (inClass (top 20) 2)) .none .none .none (.str (S 154722361499902317960303193115794240359) 691) none (.ref 441) .none), #[]⟩
noncomputable def o443 (_ : Params) : Obj := tO []
noncomputable def o445 (_ : Params) : Obj := tO [(.str (S 1735222900) 750), (.str (S 1718116977) 751)]
noncomputable def o446 (_ : Params) : Obj := tO []
noncomputable def o448 (_ : Params) : Obj := cO [(.str (S 7379256228535624297) 747), (.str (S 2077075975069028078541421527853396) 748), (.str (S 9700865007064396754801562313776) 749), (.int (194) 0), (.int (2) 0), (.int (0) 0), (.int (0) 0), (.int (3) 0), (.ref 443), (.bool true), (.int (181) 0), (.ref 444), .none, (.ref 445), (.ref 446), (.ref 447), (.int (752) 0), (.int (194) 0), (.str (S 9700865007064396754801562313776) 753)]
noncomputable def o449 (_ : Params) : Obj := ⟨(.type "function"), none, .func (PySem.W.fnOf (Str.ofString "has_page") (Str.ofString "Shape.has_page") (defArgs (inClass (top 20) 3)) (defBody (inClass (top 20) 3)) (defScope (inClass (top 20) 3)) .none .none .none (.str (S 154722361499902317960303193115794240359) 691) none (.ref 448) .none), #[]⟩
noncomputable def o450 (_ : Params) : Obj := tO []
noncomputable def o452 (_ : Params) : Obj := tO [(.str (S 1735222900) 758), (.str (S 1718116977) 759)]
noncomputable def o453 (_ : Params) : Obj := tO []
noncomputable def o455 (_ : Params) : Obj := cO [(.str (S 483606936193276347574628) 755), (.str (S 136123251102114162142305122687958280532) 756), (.str (S 9700865007064396754801562313776) 757), (.int (197) 0), (.int (2) 0), (.int (0) 0), (.int (0) 0), (.int (3) 0), (.ref 450), (.bool true), (.int (181) 0), (.ref 451), .none, (.ref 452), (.ref 453), (.ref 454), (.int (760) 0), (.int (197) 0), (.str (S 9700865007064396754801562313776) 761)]
noncomputable def o456 (_ : Params) : Obj := ⟨(.type "function"), none, .func (PySem.W.fnOf (Str.ofString "check_page") (Str.ofString "Shape.check_page") (defArgs (inClass (top 20) 4)) (defBody (inClass (top 20) 4)) (defScope (inClass (top 20) 4)) .none .none .none (.str (S 154722361499902317960303193115794240359) 691) none (.ref 455) .none), #[]⟩
noncomputable def o457 (_ : Params) : Obj := tO []
noncomputable def o459 (_ : Params) : Obj := tO [(.str (S 1735222900) 766), (.str (S 32779080669947234) 767)]
noncomputable def o460 (_ : Params) : Obj := tO []
noncomputable def o462 (_ : Params) : Obj := cO [(.str (S 140785079470369141693899369) 763), (.str (S 39627476965130008305525577047426929420628) 764), (.str (S 9700865007064396754801562313776) 765), (.int (200) 0), (.int (2) 0), (.int (0) 0), (.int (0) 0), (.int (3) 0), (.ref 457), (.bool true), (.int (181) 0), (.ref 458), .none, (.ref 459), (.ref 460), (.ref 461), (.int (768) 0), (.int (200) 0), (.str (S 9700865007064396754801562313776) 769)]
noncomputable def o463 (_ : Params) : Obj := ⟨(.type "function"), none, .func (PySem.W.fnOf (Str.ofString "has_address") (Str.ofString "Shape.has_address") (defArgs (inClass (top 20) 5)) (defBody (inClass (top 20) 5)) (defScope (inClass (top 20) 5)) .none .none .none (.str (S 154722361499902317960303193115794240359) 691) none (.ref 462) .none), #[]⟩
noncomputable def o464 (_ : Params) : Obj := tO []
noncomputable def o466 (_ : Params) : Obj := tO [(.str (S 1735222900) 774), (.str (S 32779080669947234) 775)]
noncomputable def o467 (_ : Params) : Obj := tO []
noncomputable def o469 (_ : Params) : Obj := cO [(.str (S 111490731565681) 771), (.str (S 31381851070904111347232041300) 772), (.str (S 9700865007064396754801562313776) 773), (.int (203) 0), (.int (2) 0), (.int (0) 0), (.int (0) 0), (.int (3) 0), (.ref 464), (.bool true), (.int (181) 0), (.ref 465), .none, (.ref 466), (.ref 467), (.ref 468), (.int (776) 0), (.int (203) 0), (.str (S 9700865007064396754801562313776) 777)]
noncomputable def o470 (_ : Params) : Obj := ⟨(.type "function"), none, .func (PySem.W.fnOf (Str.ofString "parted") (Str.ofString "Shape.parted") (defArgs (inClass (top 20) 6)) (defBody (inClass (top 20) 6)) (defScope (inClass (top 20) 6)) .none .none .none (.str (S 154722361499902317960303193115794240359) 691) none (.ref 469) .none), #[]⟩
noncomputable def o471 (_ : Params) : Obj := tO []
noncomputable def o473 (_ : Params) : Obj := tO [(.str (S 1735222900) 782), (.str (S 1718116977) 783), (.str (S 7958627) 784)]
noncomputable def o474 (_ : Params) : Obj := tO []
noncomputable def o476 (_ : Params) : Obj := cO [(.str (S 32779080669947234) 779), (.str (S 9226490968170112016115440970068) 780), (.str (S 9700865007064396754801562313776) 781), (.int (206) 0), (.int (3) 0), (.int (0) 0), (.int (0) 0), (.int (3) 0), (.ref 471), (.bool true), (.int (181) 0), (.ref 472), .none, (.ref 473), (.ref 474), (.ref 475), (.int (785) 0), (.int (206) 0), (.str (S 9700865007064396754801562313776) 786)]
noncomputable def o477 (_ : Params) : Obj := ⟨(.type "function"), none, .func (PySem.W.fnOf (Str.ofString "address") (Str.ofString "Shape.address") (defArgs (inClass (top 20) 7)) (defBody (inClass (top 20) 7)) (defScope (inClass (top 20) 7)) .none .none .none (.str (S 154722361499902317960303193115794240359) 691) none (.ref 476) .none), #[]⟩
noncomputable def o478 (_ : Params) : Obj := tO []
noncomputable def o480 (_ : Params) : Obj := tO [(.str (S 1735222900) 791), (.str (S 1718116977) 792)]
noncomputable def o481 (_ : Params) : Obj := tO []
noncomputable def o483 (_ : Params) : Obj := cO [(.str (S 500118746484) 788), (.str (S 140770912519198489320778068) 789), (.str (S 9700865007064396754801562313776) 790), (.int (209) 0), (.int (2) 0), (.int (0) 0), (.int (0) 0), (.int (3) 0), (.ref 478), (.bool true), (.int (181) 0), (.ref 479), .none, (.ref 480), (.ref 481), (.ref 482), (.int (793) 0), (.int (209) 0), (.str (S 9700865007064396754801562313776) 794)]
noncomputable def o484 (_ : Params) : Obj := ⟨(.type "function"), none, .func (PySem.W.fnOf (Str.ofString "steps") (Str.ofString "Shape.steps") (defArgs (inClass (top 20) 8)) (defBody (inClass (top 20) 8)) (defScope (inClass (top 20) 8)) .none .none .none (.str (S 154722361499902317960303193115794240359) 691) none (.ref 483) .none), #[]⟩
noncomputable def o485 (_ : Params) : Obj := tO []
noncomputable def o487 (_ : Params) : Obj := tO [(.str (S 1735222900) 799), (.str (S 500118746484) 800)]
noncomputable def o488 (_ : Params) : Obj := tO []
noncomputable def o490 (_ : Params) : Obj := cO [(.str (S 29115481938485873) 796), (.str (S 8195279600554836563607700007252) 797), (.str (S 9700865007064396754801562313776) 798), (.int (212) 0), (.int (2) 0), (.int (0) 0), (.int (0) 0), (.int (3) 0), (.ref 485), (.bool true), (.int (181) 0), (.ref 486), .none, (.ref 487), (.ref 488), (.ref 489), (.int (801) 0), (.int (212) 0), (.str (S 9700865007064396754801562313776) 802)]
noncomputable def o491 (_ : Params) : Obj := ⟨(.type "function"), none, .func (PySem.W.fnOf (Str.ofString "page_of") (Str.ofString "Shape.page_of") (defArgs (inClass (top 20) 9)) (defBody (inClass (top 20) 9)) (defScope (inClass (top 20) 9)) .none .none .none (.str (S 154722361499902317960303193115794240359) 691) none (.ref 490) .none), #[]⟩
noncomputable def o492 (_ : Params) : Obj := tO []
noncomputable def o494 (_ : Params) : Obj := tO [(.str (S 1735222900) 807), (.str (S 504464894567) 808), (.str (S 2054120046) 809)]
noncomputable def o495 (_ : Params) : Obj := tO []
noncomputable def o497 (_ : Params) : Obj := cO [(.str (S 1953852007) 804), (.str (S 549960448218510519331156) 805), (.str (S 9700865007064396754801562313776) 806), (.int (215) 0), (.int (3) 0), (.int (0) 0), (.int (0) 0), (.int (3) 0), (.ref 492), (.bool true), (.int (181) 0), (.ref 493), .none, (.ref 494), (.ref 495), (.ref 496), (.int (810) 0), (.int (215) 0), (.str (S 9700865007064396754801562313776) 811)]
noncomputable def o498 (_ : Params) : Obj := ⟨(.type "function"), none, .func (PySem.W.fnOf (Str.ofString "fits") (Str.ofString "Shape.fits") (defArgs (inClass (top 20) 10)) (defBody (inClass (top 20) 10)) (defScope (inClass (top 20) 10)) .none .none .none (.str (S 154722361499902317960303193115794240359) 691) none (.ref 497) .none), #[]⟩
noncomputable def o499 (_ : Params) : Obj := ⟨(.type "tuple"), none, .seq #[(.str (Str.ofString "boxes") 813), (.str (Str.ofString "fan") 814), (.str (Str.ofString "grain") 815), (.str (Str.ofString "levels") 816), (.str (Str.ofString "pages") 817), (.str (Str.ofString "ways") 818)] 0, #[]⟩
noncomputable def o500 (P : Params) : Obj := dO 4 [ent P (S 455125450472104437637216) 718 (.str (S 154722361499902317960303193115794240359) 691), ent P (S 500416517772168279997240570217455712) 722 (.int (177) 721), ent P (S 6944679725401530464) 732 (.ref 428), ent P (S 483958001635892750870900) 739 (.ref 435), ent P (S 554573001519589315076721) 746 (.ref 442), ent P (S 7379256228535624297) 754 (.ref 449), ent P (S 483606936193276347574628) 762 (.ref 456), ent P (S 140785079470369141693899369) 770 (.ref 463), ent P (S 111490731565681) 778 (.ref 470), ent P (S 32779080669947234) 787 (.ref 477), ent P (S 500118746484) 795 (.ref 484), ent P (S 29115481938485873) 803 (.ref 491), ent P (S 1953852007) 812 (.ref 498), ent P (S 140854816109632365363434125429399349832812124725344) 819 (.ref 499), ent P (S 6944679699547512928) 821 (.ref 502), ent P (S 116512133262362862868258912) 823 (.ref 503), ent P (S 27127582262911072) 824 .none]
noncomputable def o501 (_ : Params) : Obj := ⟨(.type "type"), none, .cls { name := (Str.ofString "Shape"), bases := [(.type "object")], mro := [(.ref 501), (.type "object")], ns := 500, qualname := (Str.ofString "Shape"), hasDict := true, slotNames := [], subclasses := [], abstract := false, collection := none, hasDel := false }, #[none, none, (some (.str (S 439988939092) 711)), (some (.str (S 439988939092) 719)), (some (.builtin "object.__new__")), (some (.bool true))]⟩
noncomputable def o502 (_ : Params) : Obj := ⟨(.type "getset_descriptor"), none, .fields ⟨[(.str (S 6944679699547512928) 820), (.ref 501), (.builtin "function.__dict__"), (.builtin "function.__dict__#set")]⟩, #[]⟩
noncomputable def o503 (_ : Params) : Obj := ⟨(.type "getset_descriptor"), none, .fields ⟨[(.str (S 116512133262362862868258912) 822), (.ref 501), (.builtin "ExceptionGroup.__weakref__"), .none]⟩, #[]⟩
noncomputable def o506 (_ : Params) : Obj := tO []
noncomputable def o508 (_ : Params) : Obj := tO [(.str (S 141979911977246466280418656) 832), (.str (S 119161592376672) 833)]
noncomputable def o509 (_ : Params) : Obj := tO []
noncomputable def o511 (_ : Params) : Obj := cO [(.str (S 36328676245180164783460216160) 829), (.str (S 36328676245180164783460216160) 830), (.str (S 9700865007064396754801562313776) 831), (.int (218) 0), (.int (2) 0), (.int (0) 0), (.int (0) 0), (.int (3) 0), (.ref 506), (.bool true), (.int (181) 0), (.ref 507), .none, (.ref 508), (.ref 509), (.ref 510), (.int (834) 0), (.int (218) 0), (.str (S 9700865007064396754801562313776) 835)]
noncomputable def o512 (_ : Params) : Obj := ⟨(.type "function"), none, .func (PySem.W.fnOf (Str.ofString "_law_cell_at") (Str.ofString "_law_cell_at") (defArgs (top 22)) (defBody (top 22)) (defScope (top 22)) .none .none .none (.str (S 196827221757467721399261904057049168910148185012486275573905723600118768237) 827) none (.ref 511) .none), #[]⟩
noncomputable def o513 (_ : Params) : Obj := tO []
noncomputable def o515 (_ : Params) : Obj := tO [(.str (S 479015137796973828140384) 840), (.str (S 8116987160644769142113648668000) 841), (.str (S 119161592376672) 842)]
noncomputable def o516 (_ : Params) : Obj := tO []
noncomputable def o518 (_ : Params) : Obj := cO [(.str (S 1889380072283105815904) 837), (.str (S 1889380072283105815904) 838), (.str (S 9700865007064396754801562313776) 839), (.int (222) 0), (.int (2) 0), (.int (0) 0), (.int (0) 0), (.int (3) 0), (.ref 513), (.bool true), (.int (181) 0), (.ref 514), .none, (.ref 515), (.ref 516), (.ref 517), (.int (843) 0), (.int (222) 0), (.str (S 9700865007064396754801562313776) 844)]
noncomputable def o519 (_ : Params) : Obj := ⟨(.type "function"), none, .func (PySem.W.fnOf (Str.ofString "_law_like") (Str.ofString "_law_like") (defArgs (top 23)) (defBody (top 23)) (defScope (top 23)) .none .none .none (.str (S 196827221757467721399261904057049168910148185012486275573905723600118768237) 827) none (.ref 518) .none), #[]⟩
noncomputable def o520 (_ : Params) : Obj := tO []
noncomputable def o522 (_ : Params) : Obj := tO [(.str (S 36039771124100298179774410080) 849), (.str (S 136180446863379631609281413973480205664) 850)]
noncomputable def o523 (_ : Params) : Obj := tO []
noncomputable def o525 (_ : Params) : Obj := cO [(.str (S 554663791283223243418976) 846), (.str (S 554663791283223243418976) 847), (.str (S 9700865007064396754801562313776) 848), (.int (241) 0), (.int (1) 0), (.int (0) 0), (.int (0) 0), (.int (3) 0), (.ref 520), (.bool true), (.int (181) 0), (.ref 521), .none, (.ref 522), (.ref 523), (.ref 524), (.int (851) 0), (.int (241) 0), (.str (S 9700865007064396754801562313776) 852)]
noncomputable def o526 (_ : Params) : Obj := ⟨(.type "function"), none, .func (PySem.W.fnOf (Str.ofString "_law_least") (Str.ofString "_law_least") (defArgs (top 24)) (defBody (top 24)) (defScope (top 24)) .none .none .none (.str (S 196827221757467721399261904057049168910148185012486275573905723600118768237) 827) none (.ref 525) .none), #[]⟩
noncomputable def o527 (_ : Params) : Obj := tO []
noncomputable def o529 (_ : Params) : Obj := tO [(.str (S 112564522610016) 857), (.str (S 2077948713125042240586748547722592) 858)]
noncomputable def o530 (_ : Params) : Obj := tO []
noncomputable def o532 (_ : Params) : Obj := cO [(.str (S 1871439432312149929312) 854), (.str (S 1871439432312149929312) 855), (.str (S 9700865007064396754801562313776) 856), (.int (246) 0), (.int (1) 0), (.int (0) 0), (.int (0) 0), (.int (3) 0), (.ref 527), (.bool true), (.int (181) 0), (.ref 528), .none, (.ref 529), (.ref 530), (.ref 531), (.int (859) 0), (.int (246) 0), (.str (S 9700865007064396754801562313776) 860)]
noncomputable def o533 (_ : Params) : Obj := ⟨(.type "function"), none, .func (PySem.W.fnOf (Str.ofString "_law_word") (Str.ofString "_law_word") (defArgs (top 25)) (defBody (top 25)) (defScope (top 25)) .none .none .none (.str (S 196827221757467721399261904057049168910148185012486275573905723600118768237) 827) none (.ref 532) .none), #[]⟩
noncomputable def o534 (_ : Params) : Obj := tO []
noncomputable def o536 (_ : Params) : Obj := tO [(.str (S 483829738002411044367712) 865), (.str (S 1871149499891998420320) 866), (.str (S 136180446863379631609281413973480205664) 867)]
noncomputable def o537 (_ : Params) : Obj := tO []
noncomputable def o539 (_ : Params) : Obj := cO [(.str (S 8818738978030251360) 862), (.str (S 8818738978030251360) 863), (.str (S 9700865007064396754801562313776) 864), (.int (255) 0), (.int (3) 0), (.int (0) 0), (.int (0) 0), (.int (3) 0), (.ref 534), (.bool true), (.int (181) 0), (.ref 535), .none, (.ref 536), (.ref 537), (.ref 538), (.int (868) 0), (.int (255) 0), (.str (S 9700865007064396754801562313776) 869)]
noncomputable def o540 (_ : Params) : Obj := ⟨(.type "function"), none, .func (PySem.W.fnOf (Str.ofString "_law_say") (Str.ofString "_law_say") (defArgs (top 26)) (defBody (top 26)) (defScope (top 26)) .none .none .none (.str (S 196827221757467721399261904057049168910148185012486275573905723600118768237) 827) none (.ref 539) .none), #[]⟩
noncomputable def o541 (_ : Params) : Obj := tO []
noncomputable def o543 (_ : Params) : Obj := tO [(.str (S 483829738002411044367712) 874), (.str (S 1871149499891998420320) 875), (.str (S 136180446863379631609281413973480205664) 876), (.str (S 479015137796973828140384) 877), (.str (S 112564522610016) 878)]
noncomputable def o544 (_ : Params) : Obj := tO []
noncomputable def o546 (_ : Params) : Obj := cO [(.str (S 139510372636256701339823456) 871), (.str (S 139510372636256701339823456) 872), (.str (S 9700865007064396754801562313776) 873), (.int (265) 0), (.int (3) 0), (.int (0) 0), (.int (0) 0), (.int (3) 0), (.ref 541), (.bool true), (.int (181) 0), (.ref 542), .none, (.ref 543), (.ref 544), (.ref 545), (.int (879) 0), (.int (265) 0), (.str (S 9700865007064396754801562313776) 880)]
noncomputable def o547 (_ : Params) : Obj := ⟨(.type "function"), none, .func (PySem.W.fnOf (Str.ofString "_law_answer") (Str.ofString "_law_answer") (defArgs (top 27)) (defBody (top 27)) (defScope (top 27)) .none .none .none (.str (S 196827221757467721399261904057049168910148185012486275573905723600118768237) 827) none (.ref 546) .none), #[]⟩
noncomputable def o548 (_ : Params) : Obj := tO []
noncomputable def o550 (_ : Params) : Obj := tO [(.str (S 36039771124100298179774410080) 885), (.str (S 2018578202597599112544) 886), (.str (S 1889886165390743203168) 887)]
noncomputable def o551 (_ : Params) : Obj := tO []
noncomputable def o553 (_ : Params) : Obj := cO [(.str (S 139509984824270207699807584) 882), (.str (S 139509984824270207699807584) 883), (.str (S 9700865007064396754801562313776) 884), (.int (271) 0), (.int (2) 0), (.int (0) 0), (.int (0) 0), (.int (3) 0), (.ref 548), (.bool true), (.int (181) 0), (.ref 549), .none, (.ref 550), (.ref 551), (.ref 552), (.int (888) 0), (.int (271) 0), (.str (S 9700865007064396754801562313776) 889)]
noncomputable def o554 (_ : Params) : Obj := ⟨(.type "function"), none, .func (PySem.W.fnOf (Str.ofString "_law_number") (Str.ofString "_law_number") (defArgs (top 28)) (defBody (top 28)) (defScope (top 28)) .none .none .none (.str (S 196827221757467721399261904057049168910148185012486275573905723600118768237) 827) none (.ref 553) .none), #[]⟩
noncomputable def o555 (_ : Params) : Obj := tO []
noncomputable def o557 (_ : Params) : Obj := tO [(.str (S 2018578202597599112544) 894), (.str (S 1889886165390743203168) 895)]
noncomputable def o558 (_ : Params) : Obj := tO []
noncomputable def o560 (_ : Params) : Obj := cO [(.str (S 1890460943890256129376) 891), (.str (S 1890460943890256129376) 892), (.str (S 9700865007064396754801562313776) 893), (.int (276) 0), (.int (1) 0), (.int (0) 0), (.int (0) 0), (.int (3) 0), (.ref 555), (.bool true), (.int (181) 0), (.ref 556), .none, (.ref 557), (.ref 558), (.ref 559), (.int (896) 0), (.int (276) 0), (.str (S 9700865007064396754801562313776) 897)]
noncomputable def o561 (_ : Params) : Obj := ⟨(.type "function"), none, .func (PySem.W.fnOf (Str.ofString "_law_size") (Str.ofString "_law_size") (defArgs (top 29)) (defBody (top 29)) (defScope (top 29)) .none .none .none (.str (S 196827221757467721399261904057049168910148185012486275573905723600118768237) 827) none (.ref 560) .none), #[]⟩
noncomputable def o562 (_ : Params) : Obj := tO []
noncomputable def o564 (_ : Params) : Obj := tO [(.str (S 549795146767352790674784) 902), (.str (S 549794786459591391735136) 903), (.str (S 1871149499891998420320) 904), (.str (S 136180446863379631609281413973480205664) 905), (.str (S 2000634754473945886048) 906), (.str (S 2000274446712546946400) 907)]
noncomputable def o565 (_ : Params) : Obj := tO []
noncomputable def o567 (_ : Params) : Obj := cO [(.str (S 7383200104131489120) 899), (.str (S 7383200104131489120) 900), (.str (S 9700865007064396754801562313776) 901), (.int (281) 0), (.int (4) 0), (.int (0) 0), (.int (0) 0), (.int (3) 0), (.ref 562), (.bool true), (.int (181) 0), (.ref 563), .none, (.ref 564), (.ref 565), (.ref 566), (.int (908) 0), (.int (281) 0), (.str (S 9700865007064396754801562313776) 909)]
noncomputable def o568 (_ : Params) : Obj := ⟨(.type "function"), none, .func (PySem.W.fnOf (Str.ofString "_law_due") (Str.ofString "_law_due") (defArgs (top 30)) (defBody (top 30)) (defScope (top 30)) .none .none .none (.str (S 196827221757467721399261904057049168910148185012486275573905723600118768237) 827) none (.ref 567) .none), #[]⟩
noncomputable def o569 (_ : Params) : Obj := tO []
noncomputable def o571 (_ : Params) : Obj := tO [(.str (S 483829738002411044367712) 914), (.str (S 549795146767352790674784) 915), (.str (S 549794786459591391735136) 916), (.str (S 1871149499891998420320) 917), (.str (S 136180446863379631609281413973480205664) 918), (.str (S 479015137796973828140384) 919), (.str (S 112564522610016) 920)]
noncomputable def o572 (_ : Params) : Obj := tO []
noncomputable def o574 (_ : Params) : Obj := cO [(.str (S 2077634884468380796012373368532320) 911), (.str (S 2077634884468380796012373368532320) 912), (.str (S 9700865007064396754801562313776) 913), (.int (303) 0), (.int (5) 0), (.int (0) 0), (.int (0) 0), (.int (3) 0), (.ref 569), (.bool true), (.int (181) 0), (.ref 570), .none, (.ref 571), (.ref 572), (.ref 573), (.int (921) 0), (.int (303) 0), (.str (S 9700865007064396754801562313776) 922)]
noncomputable def o575 (_ : Params) : Obj := ⟨(.type "function"), none, .func (PySem.W.fnOf (Str.ofString "_law_asked_one") (Str.ofString "_law_asked_one") (defArgs (top 31)) (defBody (top 31)) (defScope (top 31)) .none .none .none (.str (S 196827221757467721399261904057049168910148185012486275573905723600118768237) 827) none (.ref 574) .none), #[]⟩
noncomputable def o576 (_ : Params) : Obj := tO []
noncomputable def o578 (_ : Params) : Obj := tO [(.str (S 141979911977246466280418656) 927), (.str (S 483829738002411044367712) 928), (.str (S 123789356357834445210938720) 929), (.str (S 549795146767352790674784) 930), (.str (S 549794786459591391735136) 931), (.str (S 2018578202597599112544) 932), (.str (S 1871149499891998420320) 933), (.str (S 1889886165390743203168) 934), (.str (S 136180446863379631609281413973480205664) 935), (.str (S 119161592376672) 936), (.str (S 1889525884017623330144) 937)]
noncomputable def o579 (_ : Params) : Obj := tO []
noncomputable def o581 (_ : Params) : Obj := cO [(.str (S 7889517) 924), (.str (S 7889517) 925), (.str (S 9700865007064396754801562313776) 926), (.int (319) 0), (.int (1) 0), (.int (0) 0), (.int (0) 0), (.int (3) 0), (.ref 576), (.bool true), (.int (181) 0), (.ref 577), .none, (.ref 578), (.ref 579), (.ref 580), (.int (938) 0), (.int (319) 0), (.str (S 9700865007064396754801562313776) 939)]
noncomputable def o582 (_ : Params) : Obj := ⟨(.type "function"), none, .func (PySem.W.fnOf (Str.ofString "law") (Str.ofString "law") (defArgs (top 32)) (defBody (top 32)) (defScope (top 32)) .none .none .none (.str (S 196827221757467721399261904057049168910148185012486275573905723600118768237) 827) none (.ref 581) .none), #[]⟩
noncomputable def Kf : Params → PySem.W.Frag := fun P => (nat_lit 2, o2 P) :: (nat_lit 3, o3 P) :: (nat_lit 15, o15 P) :: (nat_lit 17, o17 P) :: (nat_lit 18, o18 P) :: (nat_lit 20, o20 P) :: (nat_lit 21, o21 P) :: (nat_lit 22, o22 P) :: (nat_lit 29, o29 P) :: (nat_lit 30, o30 P) :: (nat_lit 31, o31 P) :: (nat_lit 32, o32 P) :: (nat_lit 35, o35 P) :: (nat_lit 42, o42 P) :: (nat_lit 43, o43 P) :: (nat_lit 44, o44 P) :: (nat_lit 47, o47 P) :: (nat_lit 54, o54 P) :: (nat_lit 55, o55 P) :: (nat_lit 56, o56 P) :: (nat_lit 59, o59 P) :: (nat_lit 66, o66 P) :: (nat_lit 67, o67 P) :: (nat_lit 68, o68 P) :: (nat_lit 71, o71 P) :: (nat_lit 78, o78 P) :: (nat_lit 79, o79 P) :: (nat_lit 80, o80 P) :: (nat_lit 83, o83 P) :: (nat_lit 90, o90 P) :: (nat_lit 91, o91 P) :: (nat_lit 92, o92 P) :: (nat_lit 95, o95 P) :: (nat_lit 97, o97 P) :: (nat_lit 98, o98 P) :: (nat_lit 100, o100 P) :: (nat_lit 101, o101 P) :: (nat_lit 102, o102 P) :: (nat_lit 104, o104 P) :: (nat_lit 105, o105 P) :: (nat_lit 107, o107 P) :: (nat_lit 108, o108 P) :: (nat_lit 116, o116 P) :: (nat_lit 118, o118 P) :: (nat_lit 119, o119 P) :: (nat_lit 121, o121 P) :: (nat_lit 122, o122 P) :: (nat_lit 123, o123 P) :: (nat_lit 124, o124 P) :: (nat_lit 126, o126 P) :: (nat_lit 127, o127 P) :: (nat_lit 129, o129 P) :: (nat_lit 130, o130 P) :: (nat_lit 131, o131 P) :: (nat_lit 133, o133 P) :: (nat_lit 134, o134 P) :: (nat_lit 136, o136 P) :: (nat_lit 137, o137 P) :: (nat_lit 138, o138 P) :: (nat_lit 140, o140 P) :: (nat_lit 141, o141 P) :: (nat_lit 143, o143 P) :: (nat_lit 144, o144 P) :: (nat_lit 145, o145 P) :: (nat_lit 147, o147 P) :: (nat_lit 148, o148 P) :: (nat_lit 150, o150 P) :: (nat_lit 151, o151 P) :: (nat_lit 152, o152 P) :: (nat_lit 154, o154 P) :: (nat_lit 155, o155 P) :: (nat_lit 157, o157 P) :: (nat_lit 158, o158 P) :: (nat_lit 159, o159 P) :: (nat_lit 161, o161 P) :: (nat_lit 162, o162 P) :: (nat_lit 164, o164 P) :: (nat_lit 165, o165 P) :: (nat_lit 166, o166 P) :: (nat_lit 168, o168 P) :: (nat_lit 169, o169 P) :: (nat_lit 171, o171 P) :: (nat_lit 172, o172 P) :: (nat_lit 173, o173 P) :: (nat_lit 175, o175 P) :: (nat_lit 176, o176 P) :: (nat_lit 178, o178 P) :: (nat_lit 179, o179 P) :: (nat_lit 180, o180 P) :: (nat_lit 183, o183 P) :: (nat_lit 184, o184 P) :: (nat_lit 185, o185 P) :: (nat_lit 187, o187 P) :: (nat_lit 188, o188 P) :: (nat_lit 190, o190 P) :: (nat_lit 191, o191 P) :: (nat_lit 192, o192 P) :: (nat_lit 194, o194 P) :: (nat_lit 195, o195 P) :: (nat_lit 197, o197 P) :: (nat_lit 198, o198 P) :: (nat_lit 199, o199 P) :: (nat_lit 201, o201 P) :: (nat_lit 202, o202 P) :: (nat_lit 204, o204 P) :: (nat_lit 205, o205 P) :: (nat_lit 206, o206 P) :: (nat_lit 208, o208 P) :: (nat_lit 209, o209 P) :: (nat_lit 211, o211 P) :: (nat_lit 212, o212 P) :: (nat_lit 213, o213 P) :: (nat_lit 215, o215 P) :: (nat_lit 216, o216 P) :: (nat_lit 218, o218 P) :: (nat_lit 219, o219 P) :: (nat_lit 220, o220 P) :: (nat_lit 222, o222 P) :: (nat_lit 223, o223 P) :: (nat_lit 225, o225 P) :: (nat_lit 226, o226 P) :: (nat_lit 227, o227 P) :: (nat_lit 228, o228 P) :: (nat_lit 229, o229 P) :: (nat_lit 230, o230 P) :: (nat_lit 231, o231 P) :: (nat_lit 234, o234 P) :: (nat_lit 236, o236 P) :: (nat_lit 237, o237 P) :: (nat_lit 239, o239 P) :: (nat_lit 240, o240 P) :: (nat_lit 248, o248 P) :: (nat_lit 250, o250 P) :: (nat_lit 251, o251 P) :: (nat_lit 253, o253 P) :: (nat_lit 254, o254 P) :: (nat_lit 255, o255 P) :: (nat_lit 257, o257 P) :: (nat_lit 258, o258 P) :: (nat_lit 260, o260 P) :: (nat_lit 261, o261 P) :: (nat_lit 262, o262 P) :: (nat_lit 264, o264 P) :: (nat_lit 265, o265 P) :: (nat_lit 267, o267 P) :: (nat_lit 268, o268 P) :: (nat_lit 269, o269 P) :: (nat_lit 271, o271 P) :: (nat_lit 272, o272 P) :: (nat_lit 274, o274 P) :: (nat_lit 275, o275 P) :: (nat_lit 276, o276 P) :: (nat_lit 278, o278 P) :: (nat_lit 279, o279 P) :: (nat_lit 281, o281 P) :: (nat_lit 282, o282 P) :: (nat_lit 283, o283 P) :: (nat_lit 286, o286 P) :: (nat_lit 287, o287 P) :: (nat_lit 288, o288 P) :: (nat_lit 289, o289 P) :: (nat_lit 291, o291 P) :: (nat_lit 292, o292 P) :: (nat_lit 294, o294 P) :: (nat_lit 295, o295 P) :: (nat_lit 296, o296 P) :: (nat_lit 298, o298 P) :: (nat_lit 299, o299 P) :: (nat_lit 301, o301 P) :: (nat_lit 302, o302 P) :: (nat_lit 303, o303 P) :: (nat_lit 305, o305 P) :: (nat_lit 306, o306 P) :: (nat_lit 308, o308 P) :: (nat_lit 309, o309 P) :: (nat_lit 310, o310 P) :: (nat_lit 312, o312 P) :: (nat_lit 313, o313 P) :: (nat_lit 315, o315 P) :: (nat_lit 316, o316 P) :: (nat_lit 317, o317 P) :: (nat_lit 319, o319 P) :: (nat_lit 320, o320 P) :: (nat_lit 322, o322 P) :: (nat_lit 323, o323 P) :: (nat_lit 324, o324 P) :: (nat_lit 326, o326 P) :: (nat_lit 327, o327 P) :: (nat_lit 329, o329 P) :: (nat_lit 330, o330 P) :: (nat_lit 331, o331 P) :: (nat_lit 333, o333 P) :: (nat_lit 334, o334 P) :: (nat_lit 336, o336 P) :: (nat_lit 337, o337 P) :: (nat_lit 338, o338 P) :: (nat_lit 340, o340 P) :: (nat_lit 341, o341 P) :: (nat_lit 343, o343 P) :: (nat_lit 344, o344 P) :: (nat_lit 345, o345 P) :: (nat_lit 347, o347 P) :: (nat_lit 348, o348 P) :: (nat_lit 350, o350 P) :: (nat_lit 351, o351 P) :: (nat_lit 352, o352 P) :: (nat_lit 354, o354 P) :: (nat_lit 355, o355 P) :: (nat_lit 357, o357 P) :: (nat_lit 358, o358 P) :: (nat_lit 359, o359 P) :: (nat_lit 361, o361 P) :: (nat_lit 362, o362 P) :: (nat_lit 364, o364 P) :: (nat_lit 365, o365 P) :: (nat_lit 366, o366 P) :: (nat_lit 368, o368 P) :: (nat_lit 369, o369 P) :: (nat_lit 371, o371 P) :: (nat_lit 372, o372 P) :: (nat_lit 373, o373 P) :: (nat_lit 375, o375 P) :: (nat_lit 376, o376 P) :: (nat_lit 378, o378 P) :: (nat_lit 379, o379 P) :: (nat_lit 380, o380 P) :: (nat_lit 382, o382 P) :: (nat_lit 383, o383 P) :: (nat_lit 385, o385 P) :: (nat_lit 386, o386 P) :: (nat_lit 387, o387 P) :: (nat_lit 389, o389 P) :: (nat_lit 390, o390 P) :: (nat_lit 392, o392 P) :: (nat_lit 393, o393 P) :: (nat_lit 394, o394 P) :: (nat_lit 395, o395 P) :: (nat_lit 396, o396 P) :: (nat_lit 397, o397 P) :: (nat_lit 398, o398 P) :: (nat_lit 401, o401 P) :: (nat_lit 403, o403 P) :: (nat_lit 404, o404 P) :: (nat_lit 406, o406 P) :: (nat_lit 407, o407 P) :: (nat_lit 408, o408 P) :: (nat_lit 410, o410 P) :: (nat_lit 411, o411 P) :: (nat_lit 413, o413 P) :: (nat_lit 414, o414 P) :: (nat_lit 422, o422 P) :: (nat_lit 424, o424 P) :: (nat_lit 425, o425 P) :: (nat_lit 427, o427 P) :: (nat_lit 428, o428 P) :: (nat_lit 429, o429 P) :: (nat_lit 431, o431 P) :: (nat_lit 432, o432 P) :: (nat_lit 434, o434 P) :: (nat_lit 435, o435 P) :: (nat_lit 436, o436 P) :: (nat_lit 438, o438 P) :: (nat_lit 439, o439 P) :: (nat_lit 441, o441 P) :: (nat_lit 442, o442 P) :: (nat_lit 443, o443 P) :: (nat_lit 445, o445 P) :: (nat_lit 446, o446 P) :: (nat_lit 448, o448 P) :: (nat_lit 449, o449 P) :: (nat_lit 450, o450 P) :: (nat_lit 452, o452 P) :: (nat_lit 453, o453 P) :: (nat_lit 455, o455 P) :: (nat_lit 456, o456 P) :: (nat_lit 457, o457 P) :: (nat_lit 459, o459 P) :: (nat_lit 460, o460 P) :: (nat_lit 462, o462 P) :: (nat_lit 463, o463 P) :: (nat_lit 464, o464 P) :: (nat_lit 466, o466 P) :: (nat_lit 467, o467 P) :: (nat_lit 469, o469 P) :: (nat_lit 470, o470 P) :: (nat_lit 471, o471 P) :: (nat_lit 473, o473 P) :: (nat_lit 474, o474 P) :: (nat_lit 476, o476 P) :: (nat_lit 477, o477 P) :: (nat_lit 478, o478 P) :: (nat_lit 480, o480 P) :: (nat_lit 481, o481 P) :: (nat_lit 483, o483 P) :: (nat_lit 484, o484 P) :: (nat_lit 485, o485 P) :: (nat_lit 487, o487 P) :: (nat_lit 488, o488 P) :: (nat_lit 490, o490 P) :: (nat_lit 491, o491 P) :: (nat_lit 492, o492 P) :: (nat_lit 494, o494 P) :: (nat_lit 495, o495 P) :: (nat_lit 497, o497 P) :: (nat_lit 498, o498 P) :: (nat_lit 499, o499 P) :: (nat_lit 500, o500 P) :: (nat_lit 501, o501 P) :: (nat_lit 502, o502 P) :: (nat_lit 503, o503 P) :: (nat_lit 506, o506 P) :: (nat_lit 508, o508 P) :: (nat_lit 509, o509 P) :: (nat_lit 511, o511 P) :: (nat_lit 512, o512 P) :: (nat_lit 513, o513 P) :: (nat_lit 515, o515 P) :: (nat_lit 516, o516 P) :: (nat_lit 518, o518 P) :: (nat_lit 519, o519 P) :: (nat_lit 520, o520 P) :: (nat_lit 522, o522 P) :: (nat_lit 523, o523 P) :: (nat_lit 525, o525 P) :: (nat_lit 526, o526 P) :: (nat_lit 527, o527 P) :: (nat_lit 529, o529 P) :: (nat_lit 530, o530 P) :: (nat_lit 532, o532 P) :: (nat_lit 533, o533 P) :: (nat_lit 534, o534 P) :: (nat_lit 536, o536 P) :: (nat_lit 537, o537 P) :: (nat_lit 539, o539 P) :: (nat_lit 540, o540 P) :: (nat_lit 541, o541 P) :: (nat_lit 543, o543 P) :: (nat_lit 544, o544 P) :: (nat_lit 546, o546 P) :: (nat_lit 547, o547 P) :: (nat_lit 548, o548 P) :: (nat_lit 550, o550 P) :: (nat_lit 551, o551 P) :: (nat_lit 553, o553 P) :: (nat_lit 554, o554 P) :: (nat_lit 555, o555 P) :: (nat_lit 557, o557 P) :: (nat_lit 558, o558 P) :: (nat_lit 560, o560 P) :: (nat_lit 561, o561 P) :: (nat_lit 562, o562 P) :: (nat_lit 564, o564 P) :: (nat_lit 565, o565 P) :: (nat_lit 567, o567 P) :: (nat_lit 568, o568 P) :: (nat_lit 569, o569 P) :: (nat_lit 571, o571 P) :: (nat_lit 572, o572 P) :: (nat_lit 574, o574 P) :: (nat_lit 575, o575 P) :: (nat_lit 576, o576 P) :: (nat_lit 578, o578 P) :: (nat_lit 579, o579 P) :: (nat_lit 581, o581 P) :: (nat_lit 582, o582 P) :: []
noncomputable def Kc0 (P : Params) : List (Option Obj) := [some (o2 P), some (o3 P), some (o15 P), some (o17 P), some (o18 P), some (o20 P), some (o21 P), some (o22 P), some (o29 P), some (o30 P), some (o31 P), some (o32 P), some (o35 P), some (o42 P)]
noncomputable def Kc1 (P : Params) : List (Option Obj) := [some (o43 P), some (o44 P), some (o47 P), some (o54 P), some (o55 P), some (o56 P), some (o59 P), some (o66 P), some (o67 P), some (o68 P), some (o71 P), some (o78 P), some (o79 P), some (o80 P)]
noncomputable def Kc2 (P : Params) : List (Option Obj) := [some (o83 P), some (o90 P), some (o91 P), some (o92 P), some (o95 P), some (o97 P), some (o98 P), some (o100 P), some (o101 P), some (o102 P), some (o104 P), some (o105 P), some (o107 P), some (o108 P)]
noncomputable def Kc3 (P : Params) : List (Option Obj) := [some (o116 P), some (o118 P), some (o119 P), some (o121 P), some (o122 P), some (o123 P), some (o124 P), some (o126 P), some (o127 P), some (o129 P), some (o130 P), some (o131 P), some (o133 P), some (o134 P)]
noncomputable def Kc4 (P : Params) : List (Option Obj) := [some (o136 P), some (o137 P), some (o138 P), some (o140 P), some (o141 P), some (o143 P), some (o144 P), some (o145 P), some (o147 P), some (o148 P), some (o150 P), some (o151 P), some (o152 P), some (o154 P)]
noncomputable def Kc5 (P : Params) : List (Option Obj) := [some (o155 P), some (o157 P), some (o158 P), some (o159 P), some (o161 P), some (o162 P), some (o164 P), some (o165 P), some (o166 P), some (o168 P), some (o169 P), some (o171 P), some (o172 P), some (o173 P)]
noncomputable def Kc6 (P : Params) : List (Option Obj) := [some (o175 P), some (o176 P), some (o178 P), some (o179 P), some (o180 P), some (o183 P), some (o184 P), some (o185 P), some (o187 P), some (o188 P), some (o190 P), some (o191 P), some (o192 P), some (o194 P)]
noncomputable def Kc7 (P : Params) : List (Option Obj) := [some (o195 P), some (o197 P), some (o198 P), some (o199 P), some (o201 P), some (o202 P), some (o204 P), some (o205 P), some (o206 P), some (o208 P), some (o209 P), some (o211 P), some (o212 P), some (o213 P)]
noncomputable def Kc8 (P : Params) : List (Option Obj) := [some (o215 P), some (o216 P), some (o218 P), some (o219 P), some (o220 P), some (o222 P), some (o223 P), some (o225 P), some (o226 P), some (o227 P), some (o228 P), some (o229 P), some (o230 P), some (o231 P)]
noncomputable def Kc9 (P : Params) : List (Option Obj) := [some (o234 P), some (o236 P), some (o237 P), some (o239 P), some (o240 P), some (o248 P), some (o250 P), some (o251 P), some (o253 P), some (o254 P), some (o255 P), some (o257 P), some (o258 P), some (o260 P)]
noncomputable def Kc10 (P : Params) : List (Option Obj) := [some (o261 P), some (o262 P), some (o264 P), some (o265 P), some (o267 P), some (o268 P), some (o269 P), some (o271 P), some (o272 P), some (o274 P), some (o275 P), some (o276 P), some (o278 P), some (o279 P)]
noncomputable def Kc11 (P : Params) : List (Option Obj) := [some (o281 P), some (o282 P), some (o283 P), some (o286 P), some (o287 P), some (o288 P), some (o289 P), some (o291 P), some (o292 P), some (o294 P), some (o295 P), some (o296 P), some (o298 P), some (o299 P)]
noncomputable def Kc12 (P : Params) : List (Option Obj) := [some (o301 P), some (o302 P), some (o303 P), some (o305 P), some (o306 P), some (o308 P), some (o309 P), some (o310 P), some (o312 P), some (o313 P), some (o315 P), some (o316 P), some (o317 P), some (o319 P)]
noncomputable def Kc13 (P : Params) : List (Option Obj) := [some (o320 P), some (o322 P), some (o323 P), some (o324 P), some (o326 P), some (o327 P), some (o329 P), some (o330 P), some (o331 P), some (o333 P), some (o334 P), some (o336 P), some (o337 P), some (o338 P)]
noncomputable def Kc14 (P : Params) : List (Option Obj) := [some (o340 P), some (o341 P), some (o343 P), some (o344 P), some (o345 P), some (o347 P), some (o348 P), some (o350 P), some (o351 P), some (o352 P), some (o354 P), some (o355 P), some (o357 P), some (o358 P)]
noncomputable def Kc15 (P : Params) : List (Option Obj) := [some (o359 P), some (o361 P), some (o362 P), some (o364 P), some (o365 P), some (o366 P), some (o368 P), some (o369 P), some (o371 P), some (o372 P), some (o373 P), some (o375 P), some (o376 P), some (o378 P)]
noncomputable def Kc16 (P : Params) : List (Option Obj) := [some (o379 P), some (o380 P), some (o382 P), some (o383 P), some (o385 P), some (o386 P), some (o387 P), some (o389 P), some (o390 P), some (o392 P), some (o393 P), some (o394 P), some (o395 P), some (o396 P)]
noncomputable def Kc17 (P : Params) : List (Option Obj) := [some (o397 P), some (o398 P), some (o401 P), some (o403 P), some (o404 P), some (o406 P), some (o407 P), some (o408 P), some (o410 P), some (o411 P), some (o413 P), some (o414 P), some (o422 P), some (o424 P)]
noncomputable def Kc18 (P : Params) : List (Option Obj) := [some (o425 P), some (o427 P), some (o428 P), some (o429 P), some (o431 P), some (o432 P), some (o434 P), some (o435 P), some (o436 P), some (o438 P), some (o439 P), some (o441 P), some (o442 P), some (o443 P)]
noncomputable def Kc19 (P : Params) : List (Option Obj) := [some (o445 P), some (o446 P), some (o448 P), some (o449 P), some (o450 P), some (o452 P), some (o453 P), some (o455 P), some (o456 P), some (o457 P), some (o459 P), some (o460 P), some (o462 P), some (o463 P)]
noncomputable def Kc20 (P : Params) : List (Option Obj) := [some (o464 P), some (o466 P), some (o467 P), some (o469 P), some (o470 P), some (o471 P), some (o473 P), some (o474 P), some (o476 P), some (o477 P), some (o478 P), some (o480 P), some (o481 P), some (o483 P)]
noncomputable def Kc21 (P : Params) : List (Option Obj) := [some (o484 P), some (o485 P), some (o487 P), some (o488 P), some (o490 P), some (o491 P), some (o492 P), some (o494 P), some (o495 P), some (o497 P), some (o498 P), some (o499 P), some (o500 P), some (o501 P)]
noncomputable def Kc22 (P : Params) : List (Option Obj) := [some (o502 P), some (o503 P), some (o506 P), some (o508 P), some (o509 P), some (o511 P), some (o512 P), some (o513 P), some (o515 P), some (o516 P), some (o518 P), some (o519 P), some (o520 P), some (o522 P)]
noncomputable def Kc23 (P : Params) : List (Option Obj) := [some (o523 P), some (o525 P), some (o526 P), some (o527 P), some (o529 P), some (o530 P), some (o532 P), some (o533 P), some (o534 P), some (o536 P), some (o537 P), some (o539 P), some (o540 P), some (o541 P)]
noncomputable def Kc24 (P : Params) : List (Option Obj) := [some (o543 P), some (o544 P), some (o546 P), some (o547 P), some (o548 P), some (o550 P), some (o551 P), some (o553 P), some (o554 P), some (o555 P), some (o557 P), some (o558 P), some (o560 P), some (o561 P)]
noncomputable def Kc25 (P : Params) : List (Option Obj) := [some (o562 P), some (o564 P), some (o565 P), some (o567 P), some (o568 P), some (o569 P), some (o571 P), some (o572 P), some (o574 P), some (o575 P), some (o576 P), some (o578 P), some (o579 P), some (o581 P)]
noncomputable def Kc26 (P : Params) : List (Option Obj) := [some (o582 P)]
noncomputable def Kc (P : Params) : List (Option Obj) := Kc0 P ++ (Kc1 P ++ (Kc2 P ++ (Kc3 P ++ (Kc4 P ++ (Kc5 P ++ (Kc6 P ++ (Kc7 P ++ (Kc8 P ++ (Kc9 P ++ (Kc10 P ++ (Kc11 P ++ (Kc12 P ++ (Kc13 P ++ (Kc14 P ++ (Kc15 P ++ (Kc16 P ++ (Kc17 P ++ (Kc18 P ++ (Kc19 P ++ (Kc20 P ++ (Kc21 P ++ (Kc22 P ++ (Kc23 P ++ (Kc24 P ++ (Kc25 P ++ (Kc26 P))))))))))))))))))))))))))
def adr : List Addr := nat_lit 2 :: nat_lit 3 :: nat_lit 15 :: nat_lit 17 :: nat_lit 18 :: nat_lit 20 :: nat_lit 21 :: nat_lit 22 :: nat_lit 29 :: nat_lit 30 :: nat_lit 31 :: nat_lit 32 :: nat_lit 35 :: nat_lit 42 :: nat_lit 43 :: nat_lit 44 :: nat_lit 47 :: nat_lit 54 :: nat_lit 55 :: nat_lit 56 :: nat_lit 59 :: nat_lit 66 :: nat_lit 67 :: nat_lit 68 :: nat_lit 71 :: nat_lit 78 :: nat_lit 79 :: nat_lit 80 :: nat_lit 83 :: nat_lit 90 :: nat_lit 91 :: nat_lit 92 :: nat_lit 95 :: nat_lit 97 :: nat_lit 98 :: nat_lit 100 :: nat_lit 101 :: nat_lit 102 :: nat_lit 104 :: nat_lit 105 :: nat_lit 107 :: nat_lit 108 :: nat_lit 116 :: nat_lit 118 :: nat_lit 119 :: nat_lit 121 :: nat_lit 122 :: nat_lit 123 :: nat_lit 124 :: nat_lit 126 :: nat_lit 127 :: nat_lit 129 :: nat_lit 130 :: nat_lit 131 :: nat_lit 133 :: nat_lit 134 :: nat_lit 136 :: nat_lit 137 :: nat_lit 138 :: nat_lit 140 :: nat_lit 141 :: nat_lit 143 :: nat_lit 144 :: nat_lit 145 :: nat_lit 147 :: nat_lit 148 :: nat_lit 150 :: nat_lit 151 :: nat_lit 152 :: nat_lit 154 :: nat_lit 155 :: nat_lit 157 :: nat_lit 158 :: nat_lit 159 :: nat_lit 161 :: nat_lit 162 :: nat_lit 164 :: nat_lit 165 :: nat_lit 166 :: nat_lit 168 :: nat_lit 169 :: nat_lit 171 :: nat_lit 172 :: nat_lit 173 :: nat_lit 175 :: nat_lit 176 :: nat_lit 178 :: nat_lit 179 :: nat_lit 180 :: nat_lit 183 :: nat_lit 184 :: nat_lit 185 :: nat_lit 187 :: nat_lit 188 :: nat_lit 190 :: nat_lit 191 :: nat_lit 192 :: nat_lit 194 :: nat_lit 195 :: nat_lit 197 :: nat_lit 198 :: nat_lit 199 :: nat_lit 201 :: nat_lit 202 :: nat_lit 204 :: nat_lit 205 :: nat_lit 206 :: nat_lit 208 :: nat_lit 209 :: nat_lit 211 :: nat_lit 212 :: nat_lit 213 :: nat_lit 215 :: nat_lit 216 :: nat_lit 218 :: nat_lit 219 :: nat_lit 220 :: nat_lit 222 :: nat_lit 223 :: nat_lit 225 :: nat_lit 226 :: nat_lit 227 :: nat_lit 228 :: nat_lit 229 :: nat_lit 230 :: nat_lit 231 :: nat_lit 234 :: nat_lit 236 :: nat_lit 237 :: nat_lit 239 :: nat_lit 240 :: nat_lit 248 :: nat_lit 250 :: nat_lit 251 :: nat_lit 253 :: nat_lit 254 :: nat_lit 255 :: nat_lit 257 :: nat_lit 258 :: nat_lit 260 :: nat_lit 261 :: nat_lit 262 :: nat_lit 264 :: nat_lit 265 :: nat_lit 267 :: nat_lit 268 :: nat_lit 269 :: nat_lit 271 :: nat_lit 272 :: nat_lit 274 :: nat_lit 275 :: nat_lit 276 :: nat_lit 278 :: nat_lit 279 :: nat_lit 281 :: nat_lit 282 :: nat_lit 283 :: nat_lit 286 :: nat_lit 287 :: nat_lit 288 :: nat_lit 289 :: nat_lit 291 :: nat_lit 292 :: nat_lit 294 :: nat_lit 295 :: nat_lit 296 :: nat_lit 298 :: nat_lit 299 :: nat_lit 301 :: nat_lit 302 :: nat_lit 303 :: nat_lit 305 :: nat_lit 306 :: nat_lit 308 :: nat_lit 309 :: nat_lit 310 :: nat_lit 312 :: nat_lit 313 :: nat_lit 315 :: nat_lit 316 :: nat_lit 317 :: nat_lit 319 :: nat_lit 320 :: nat_lit 322 :: nat_lit 323 :: nat_lit 324 :: nat_lit 326 :: nat_lit 327 :: nat_lit 329 :: nat_lit 330 :: nat_lit 331 :: nat_lit 333 :: nat_lit 334 :: nat_lit 336 :: nat_lit 337 :: nat_lit 338 :: nat_lit 340 :: nat_lit 341 :: nat_lit 343 :: nat_lit 344 :: nat_lit 345 :: nat_lit 347 :: nat_lit 348 :: nat_lit 350 :: nat_lit 351 :: nat_lit 352 :: nat_lit 354 :: nat_lit 355 :: nat_lit 357 :: nat_lit 358 :: nat_lit 359 :: nat_lit 361 :: nat_lit 362 :: nat_lit 364 :: nat_lit 365 :: nat_lit 366 :: nat_lit 368 :: nat_lit 369 :: nat_lit 371 :: nat_lit 372 :: nat_lit 373 :: nat_lit 375 :: nat_lit 376 :: nat_lit 378 :: nat_lit 379 :: nat_lit 380 :: nat_lit 382 :: nat_lit 383 :: nat_lit 385 :: nat_lit 386 :: nat_lit 387 :: nat_lit 389 :: nat_lit 390 :: nat_lit 392 :: nat_lit 393 :: nat_lit 394 :: nat_lit 395 :: nat_lit 396 :: nat_lit 397 :: nat_lit 398 :: nat_lit 401 :: nat_lit 403 :: nat_lit 404 :: nat_lit 406 :: nat_lit 407 :: nat_lit 408 :: nat_lit 410 :: nat_lit 411 :: nat_lit 413 :: nat_lit 414 :: nat_lit 422 :: nat_lit 424 :: nat_lit 425 :: nat_lit 427 :: nat_lit 428 :: nat_lit 429 :: nat_lit 431 :: nat_lit 432 :: nat_lit 434 :: nat_lit 435 :: nat_lit 436 :: nat_lit 438 :: nat_lit 439 :: nat_lit 441 :: nat_lit 442 :: nat_lit 443 :: nat_lit 445 :: nat_lit 446 :: nat_lit 448 :: nat_lit 449 :: nat_lit 450 :: nat_lit 452 :: nat_lit 453 :: nat_lit 455 :: nat_lit 456 :: nat_lit 457 :: nat_lit 459 :: nat_lit 460 :: nat_lit 462 :: nat_lit 463 :: nat_lit 464 :: nat_lit 466 :: nat_lit 467 :: nat_lit 469 :: nat_lit 470 :: nat_lit 471 :: nat_lit 473 :: nat_lit 474 :: nat_lit 476 :: nat_lit 477 :: nat_lit 478 :: nat_lit 480 :: nat_lit 481 :: nat_lit 483 :: nat_lit 484 :: nat_lit 485 :: nat_lit 487 :: nat_lit 488 :: nat_lit 490 :: nat_lit 491 :: nat_lit 492 :: nat_lit 494 :: nat_lit 495 :: nat_lit 497 :: nat_lit 498 :: nat_lit 499 :: nat_lit 500 :: nat_lit 501 :: nat_lit 502 :: nat_lit 503 :: nat_lit 506 :: nat_lit 508 :: nat_lit 509 :: nat_lit 511 :: nat_lit 512 :: nat_lit 513 :: nat_lit 515 :: nat_lit 516 :: nat_lit 518 :: nat_lit 519 :: nat_lit 520 :: nat_lit 522 :: nat_lit 523 :: nat_lit 525 :: nat_lit 526 :: nat_lit 527 :: nat_lit 529 :: nat_lit 530 :: nat_lit 532 :: nat_lit 533 :: nat_lit 534 :: nat_lit 536 :: nat_lit 537 :: nat_lit 539 :: nat_lit 540 :: nat_lit 541 :: nat_lit 543 :: nat_lit 544 :: nat_lit 546 :: nat_lit 547 :: nat_lit 548 :: nat_lit 550 :: nat_lit 551 :: nat_lit 553 :: nat_lit 554 :: nat_lit 555 :: nat_lit 557 :: nat_lit 558 :: nat_lit 560 :: nat_lit 561 :: nat_lit 562 :: nat_lit 564 :: nat_lit 565 :: nat_lit 567 :: nat_lit 568 :: nat_lit 569 :: nat_lit 571 :: nat_lit 572 :: nat_lit 574 :: nat_lit 575 :: nat_lit 576 :: nat_lit 578 :: nat_lit 579 :: nat_lit 581 :: nat_lit 582 :: []
theorem adr_eq (P : Params) : adr = (Kf P).map (·.1) := by kernel_rfl
theorem kc_eq (P : Params) : Kc P = (Kf P).map fun p => some p.2 := by kernel_rfl
noncomputable def vw : Program := PySem.W.view PySem.Challenge.pw_frameland_k41_numbers_given [0, 2, 3, 4, 5, 6, 7, 9, 10, 12, 14, 15, 16, 18, 19, 20, 22, 23, 24, 25, 26, 27, 28, 29, 30, 31, 32]
noncomputable def lhs := once PySem.Challenge.pw_frameland_k41_numbers_given (fun s => adr.map s.heap.get?) 8100
noncomputable def rhs (w : World) := some (true, Kc w.params)
noncomputable def lht := seen PySem.Challenge.pw_frameland_k41_numbers_given vw [] (fun s => PySem.W.xlAt vw [] s && PySem.W.recOk (PySem.W.RowW.records (PySem.Challenge.rw_frameland_k41_numbers_given).row.toRowW) s) 8100
noncomputable def rht := some (PySem.W.openGood vw [])
theorem twins : (fun (_ : World → OsState → _) (_ : World → _) (_ : World → OsState → _) (_ : Option _) => true) lhs rhs lht rht = true := by k_qdec
theorem run_one : ∀ (w : World) (os : OsState), PySem.W.Fast.tw7128866508377749982 w os = PySem.W.Fast.tw12590348191598281069 w := by intro w os; kernel_rfl
theorem run_two : ∀ (w : World) (os : OsState), PySem.W.Fast.tw7374437481920917934 w os = PySem.W.Fast.tw10733892774512676622 := by intro w os; kernel_rfl
theorem left : PySem.W.LeftO PySem.Challenge.pw_frameland_k41_numbers_given vw [] (fun s => PySem.W.xlAt vw [] s && PySem.W.recOk (PySem.W.RowW.records (PySem.Challenge.rw_frameland_k41_numbers_given).row.toRowW) s) (fun s => adr.map s.heap.get?) (fun w => (Kf w.params).map fun p => some p.2) 8100 := by
  refine left_once (by kernel_rfl) (by kernel_rfl) (by intro s; kernel_rfl) (fun w os => ?_) fun w os => ?_
  · rw [← kc_eq]; exact (congrFun (congrFun PySem.W.Fast.te7128866508377749982 w) os).trans ((run_one w os).trans (congrFun PySem.W.Fast.te12590348191598281069 w).symm)
  · exact (congrFun (congrFun PySem.W.Fast.te7374437481920917934 w) os).trans ((run_two w os).trans PySem.W.Fast.te10733892774512676622.symm)
end

end Pf
open PySem PySem.W PyProof.Rows
set_option maxRecDepth 100000 in
set_option maxHeartbeats 0 in
theorem PySem.Challenge.cw_frameland_k41_numbers_given_holds : PySem.Challenge.rw_frameland_k41_numbers_given.Holds := by
  w_on; o_law
  refine holds_open (q := Pf.vw) (loose := []) (Xt := fun s => xlAt Pf.vw [] s && recOk (RowW.records (PySem.Challenge.rw_frameland_k41_numbers_given).row.toRowW) s) (XP := XL Pf.vw []) (Yf := Hook.obs (kHook Pf.Kf Pf.adr Pf.adr_eq)) (Ya := Hook.val (kHook Pf.Kf Pf.adr Pf.adr_eq)) (YP := Hook.says (kHook Pf.Kf Pf.adr Pf.adr_eq)) (N := 8100) Pf.left (Hook.of (kHook Pf.Kf Pf.adr Pf.adr_eq)) (Hook.keeps (kHook Pf.Kf Pf.adr Pf.adr_eq)) (fun s e => xl_of s (Bool.and_eq_true_iff.mp e).1) XL.keeps (by rfl) (by rfl) (by rfl) (fun s e => recFacts_of (Bool.and_eq_true_iff.mp e).2) (by rfl) (by first | assumption | decide +kernel) (by decide +kernel) ⟨rfl, rfl, rfl, rfl, rfl, by decide +kernel⟩ ?hw ?hc
  case hw => w_witness2
  k_fill
  refine Pf.walk (l := PySem.Challenge.rw_frameland_k41_numbers_given) rfl rfl rfl (fun w h Y => PySem.W.kIn_of Y) ?F
  case F =>
    intro w mg h KX G
    refine' Pf.txt_mk KX G ?a_OutOfBank ?a_NoBank ?a_NoTask ?a_Busy ?a_NoShape ?a_FrameError ?a_Shape ?a_House ?a_Stretches ?zb_any ?zb_bool ?zb_int ?zb_isinstance ?zb_len ?zb_list ?zb_range ?zb_sorted ?zb_str ?zb_tuple ?zc_MOST_IN_BANK ?a_is_whole_ ?l_is_whole_ ?c_is_whole_ ?k_is_whole_ ?a_is_within_ ?l_is_within_ ?c_is_within_ ?k_is_within_ ?a_power_of_two_ ?l_power_of_two_ ?c_power_of_two_ ?k_power_of_two_ ?a_check_measures_ ?l_check_measures_ ?c_check_measures_ ?k_check_measures_ ?a_least_free_ ?l_least_free_ ?c_least_free_ ?k_least_free_ ?a_l_cell_at_ ?l_l_cell_at_ ?c_l_cell_at_ ?k_l_cell_at_ ?a_l_like_ ?l_l_like_ ?c_l_like_ ?k_l_like_ ?a_l_least_ ?l_l_least_ ?c_l_least_ ?k_l_least_ ?a_l_word_ ?l_l_word_ ?c_l_word_ ?k_l_word_ ?a_l_say_ ?l_l_say_ ?c_l_say_ ?k_l_say_ ?a_l_answer_ ?l_l_answer_ ?c_l_answer_ ?k_l_answer_ ?a_l_number_ ?l_l_number_ ?c_l_number_ ?k_l_number_ ?a_l_size_ ?l_l_size_ ?c_l_size_ ?k_l_size_ ?a_l_due_ ?l_l_due_ ?c_l_due_ ?k_l_due_ ?a_l_asked_one_ ?l_l_asked_one_ ?c_l_asked_one_ ?k_l_asked_one_ ?pg_Stretches ?hd_Stretches ?po_Stretches ?sa_Stretches ?zn_Stretches_runs ?mk_Stretches ?kc_Stretches ?a_Stretches_init_ ?i_Stretches_init_ ?l_Stretches_init_ ?c_Stretches_init_ ?k_Stretches_init_ ?a_Stretches_is_tied_ ?i_Stretches_is_tied_ ?l_Stretches_is_tied_ ?c_Stretches_is_tied_ ?k_Stretches_is_tied_ ?a_Stretches_told_ ?i_Stretches_told_ ?l_Stretches_told_ ?c_Stretches_told_ ?k_Stretches_told_ ?a_Stretches_copied_ ?i_Stretches_copied_ ?l_Stretches_copied_ ?c_Stretches_copied_ ?k_Stretches_copied_ ?pg_House ?hd_House ?po_House ?sa_House ?zn_House_shape ?zn_House_tasks ?zn_House_banks ?mk_House ?kc_House ?a_House_init_ ?i_House_init_ ?l_House_init_ ?c_House_init_ ?k_House_init_ ?a_House_new_task_ ?i_House_new_task_ ?l_House_new_task_ ?c_House_new_task_ ?k_House_new_task_ ?a_House_fork_ ?i_House_fork_ ?l_House_fork_ ?c_House_fork_ ?k_House_fork_ ?a_House_end_task_ ?i_House_end_task_ ?l_House_end_task_ ?c_House_end_task_ ?k_House_end_task_ ?a_House_new_bank_ ?i_House_new_bank_ ?l_House_new_bank_ ?c_House_new_bank_ ?k_House_new_bank_ ?a_House_drop_bank_ ?i_House_drop_bank_ ?l_House_drop_bank_ ?c_House_drop_bank_ ?k_House_drop_bank_ ?a_House_task_list_ ?i_House_task_list_ ?l_House_task_list_ ?c_House_task_list_ ?k_House_task_list_ ?a_House_bank_list_ ?i_House_bank_list_ ?l_House_bank_list_ ?c_House_bank_list_ ?k_House_bank_list_ ?a_House_bank_size_ ?i_House_bank_size_ ?l_House_bank_size_ ?c_House_bank_size_ ?k_House_bank_size_ ?a_House_stretches_of_ ?i_House_stretches_of_ ?l_House_stretches_of_ ?c_House_stretches_of_ ?k_House_stretches_of_ ?a_House_check_task_ ?i_House_check_task_ ?l_House_check_task_ ?c_House_check_task_ ?k_House_check_task_ ?a_House_check_bank_ ?i_House_check_bank_ ?l_House_check_bank_ ?c_House_check_bank_ ?k_House_check_bank_ ?pg_Shape ?hd_Shape ?po_Shape ?sa_Shape ?zn_Shape_levels ?zn_Shape_fan ?zn_Shape_grain ?zn_Shape_ways ?zn_Shape_boxes ?zn_Shape_pages ?mk_Shape ?kc_Shape ?a_Shape_init_ ?i_Shape_init_ ?l_Shape_init_ ?c_Shape_init_ ?k_Shape_init_ ?zt_FrameError ?zl_FrameError ?zm_FrameError ?ze_NoShape ?ze_Busy ?ze_NoTask ?xg_NoTask ?xq_NoTask ?xb_NoTask ?xh_NoTask ?xa_NoTask ?xn_NoTask ?xt_NoTask ?xm_NoTask ?ze_NoBank ?xg_NoBank ?xq_NoBank ?xb_NoBank ?xh_NoBank ?xa_NoBank ?xn_NoBank ?xt_NoBank ?xm_NoBank ?ze_OutOfBank ?xg_OutOfBank ?xq_OutOfBank ?xb_OutOfBank ?xh_OutOfBank ?xa_OutOfBank ?xn_OutOfBank ?xt_OutOfBank ?xm_OutOfBank ?zs_NoTask_FrameError ?zs_NoBank_FrameError ?zs_OutOfBank_FrameError ?zk_NoTask_NoTask ?zk_NoTask_NoBank ?zk_NoTask_OutOfBank ?zk_NoBank_NoTask ?zk_NoBank_NoBank ?zk_NoBank_OutOfBank ?zk_OutOfBank_NoTask ?zk_OutOfBank_NoBank ?zk_OutOfBank_OutOfBank ?a_law_ ?l_law_ ?c_law_ ?k_law_
    (case a_OutOfBank => k_is); (case a_NoBank => k_is); (case a_NoTask => k_is); (case a_Busy => k_is); (case a_NoShape => k_is); (case a_FrameError => k_is)
    (case a_Shape => k_is); (case a_House => k_is); (case a_Stretches => k_is); (case zb_any => k_is); (case zb_bool => k_is); (case zb_int => k_is)
    (case zb_isinstance => k_is); (case zb_len => k_is); (case zb_list => k_is); (case zb_range => k_is); (case zb_sorted => k_is); (case zb_str => k_is)
    (case zb_tuple => k_is); (case zc_MOST_IN_BANK => k_is); (case a_is_whole_ => k_is); (case l_is_whole_ => k_is); (case c_is_whole_ => k_is); (case k_is_whole_ => k_is)
    (case a_is_within_ => k_is); (case l_is_within_ => k_is); (case c_is_within_ => k_is); (case k_is_within_ => k_is); (case a_power_of_two_ => k_is); (case l_power_of_two_ => k_is)
    (case c_power_of_two_ => k_is); (case k_power_of_two_ => k_is); (case a_check_measures_ => k_is); (case l_check_measures_ => k_is); (case c_check_measures_ => k_is); (case k_check_measures_ => k_is)
    (case a_least_free_ => k_is); (case l_least_free_ => k_is); (case c_least_free_ => k_is); (case k_least_free_ => k_is); (case a_l_cell_at_ => k_is); (case l_l_cell_at_ => k_is)
    (case c_l_cell_at_ => k_is); (case k_l_cell_at_ => k_is); (case a_l_like_ => k_is); (case l_l_like_ => k_is); (case c_l_like_ => k_is); (case k_l_like_ => k_is)
    (case a_l_least_ => k_is); (case l_l_least_ => k_is); (case c_l_least_ => k_is); (case k_l_least_ => k_is); (case a_l_word_ => k_is); (case l_l_word_ => k_is)
    (case c_l_word_ => k_is); (case k_l_word_ => k_is); (case a_l_say_ => k_is); (case l_l_say_ => k_is); (case c_l_say_ => k_is); (case k_l_say_ => k_is)
    (case a_l_answer_ => k_is); (case l_l_answer_ => k_is); (case c_l_answer_ => k_is); (case k_l_answer_ => k_is); (case a_l_number_ => k_is); (case l_l_number_ => k_is)
    (case c_l_number_ => k_is); (case k_l_number_ => k_is); (case a_l_size_ => k_is); (case l_l_size_ => k_is); (case c_l_size_ => k_is); (case k_l_size_ => k_is)
    (case a_l_due_ => k_is); (case l_l_due_ => k_is); (case c_l_due_ => k_is); (case k_l_due_ => k_is); (case a_l_asked_one_ => k_is); (case l_l_asked_one_ => k_is)
    (case c_l_asked_one_ => k_is); (case k_l_asked_one_ => k_is); (case pg_Stretches => k_is); (case hd_Stretches => k_is); (case po_Stretches => k_is); (case sa_Stretches => k_is)
    (case zn_Stretches_runs => k_is); (case mk_Stretches => k_is); (case kc_Stretches => k_is); (case a_Stretches_init_ => k_is); (case i_Stretches_init_ => k_is); (case l_Stretches_init_ => k_is)
    (case c_Stretches_init_ => k_is); (case k_Stretches_init_ => k_is); (case a_Stretches_is_tied_ => k_is); (case i_Stretches_is_tied_ => k_is); (case l_Stretches_is_tied_ => k_is); (case c_Stretches_is_tied_ => k_is)
    (case k_Stretches_is_tied_ => k_is); (case a_Stretches_told_ => k_is); (case i_Stretches_told_ => k_is); (case l_Stretches_told_ => k_is); (case c_Stretches_told_ => k_is); (case k_Stretches_told_ => k_is)
    (case a_Stretches_copied_ => k_is); (case i_Stretches_copied_ => k_is); (case l_Stretches_copied_ => k_is); (case c_Stretches_copied_ => k_is); (case k_Stretches_copied_ => k_is); (case pg_House => k_is)
    (case hd_House => k_is); (case po_House => k_is); (case sa_House => k_is); (case zn_House_shape => k_is); (case zn_House_tasks => k_is); (case zn_House_banks => k_is)
    (case mk_House => k_is); (case kc_House => k_is); (case a_House_init_ => k_is); (case i_House_init_ => k_is); (case l_House_init_ => k_is); (case c_House_init_ => k_is)
    (case k_House_init_ => k_is); (case a_House_new_task_ => k_is); (case i_House_new_task_ => k_is); (case l_House_new_task_ => k_is); (case c_House_new_task_ => k_is); (case k_House_new_task_ => k_is)
    (case a_House_fork_ => k_is); (case i_House_fork_ => k_is); (case l_House_fork_ => k_is); (case c_House_fork_ => k_is); (case k_House_fork_ => k_is); (case a_House_end_task_ => k_is)
    (case i_House_end_task_ => k_is); (case l_House_end_task_ => k_is); (case c_House_end_task_ => k_is); (case k_House_end_task_ => k_is); (case a_House_new_bank_ => k_is); (case i_House_new_bank_ => k_is)
    (case l_House_new_bank_ => k_is); (case c_House_new_bank_ => k_is); (case k_House_new_bank_ => k_is); (case a_House_drop_bank_ => k_is); (case i_House_drop_bank_ => k_is); (case l_House_drop_bank_ => k_is)
    (case c_House_drop_bank_ => k_is); (case k_House_drop_bank_ => k_is); (case a_House_task_list_ => k_is); (case i_House_task_list_ => k_is); (case l_House_task_list_ => k_is); (case c_House_task_list_ => k_is)
    (case k_House_task_list_ => k_is); (case a_House_bank_list_ => k_is); (case i_House_bank_list_ => k_is); (case l_House_bank_list_ => k_is); (case c_House_bank_list_ => k_is); (case k_House_bank_list_ => k_is)
    (case a_House_bank_size_ => k_is); (case i_House_bank_size_ => k_is); (case l_House_bank_size_ => k_is); (case c_House_bank_size_ => k_is); (case k_House_bank_size_ => k_is); (case a_House_stretches_of_ => k_is)
    (case i_House_stretches_of_ => k_is); (case l_House_stretches_of_ => k_is); (case c_House_stretches_of_ => k_is); (case k_House_stretches_of_ => k_is); (case a_House_check_task_ => k_is); (case i_House_check_task_ => k_is)
    (case l_House_check_task_ => k_is); (case c_House_check_task_ => k_is); (case k_House_check_task_ => k_is); (case a_House_check_bank_ => k_is); (case i_House_check_bank_ => k_is); (case l_House_check_bank_ => k_is)
    (case c_House_check_bank_ => k_is); (case k_House_check_bank_ => k_is); (case pg_Shape => k_is); (case hd_Shape => k_is); (case po_Shape => k_is); (case sa_Shape => k_is)
    (case zn_Shape_levels => k_is); (case zn_Shape_fan => k_is); (case zn_Shape_grain => k_is); (case zn_Shape_ways => k_is); (case zn_Shape_boxes => k_is); (case zn_Shape_pages => k_is)
    (case mk_Shape => k_is); (case kc_Shape => k_is); (case a_Shape_init_ => k_is); (case i_Shape_init_ => k_is); (case l_Shape_init_ => k_is); (case c_Shape_init_ => k_is)
    (case k_Shape_init_ => k_is); (case zt_FrameError => k_is); (case zl_FrameError => k_is); (case zm_FrameError => k_is); (case ze_NoShape => k_exc); (case ze_Busy => k_exc)
    (case ze_NoTask => k_exc); (case xg_NoTask => k_is); (case xq_NoTask => k_is); (case xb_NoTask => k_is); (case xh_NoTask => k_is); (case xa_NoTask => k_is)
    (case xn_NoTask => k_is); (case xt_NoTask => k_is); (case xm_NoTask => k_is); (case ze_NoBank => k_exc); (case xg_NoBank => k_is); (case xq_NoBank => k_is)
    (case xb_NoBank => k_is); (case xh_NoBank => k_is); (case xa_NoBank => k_is); (case xn_NoBank => k_is); (case xt_NoBank => k_is); (case xm_NoBank => k_is)
    (case ze_OutOfBank => k_exc); (case xg_OutOfBank => k_is); (case xq_OutOfBank => k_is); (case xb_OutOfBank => k_is); (case xh_OutOfBank => k_is); (case xa_OutOfBank => k_is)
    (case xn_OutOfBank => k_is); (case xt_OutOfBank => k_is); (case xm_OutOfBank => k_is); (case zs_NoTask_FrameError => k_is); (case zs_NoBank_FrameError => k_is); (case zs_OutOfBank_FrameError => k_is)
    (case zk_NoTask_NoTask => kit_is); (case zk_NoTask_NoBank => kit_is); (case zk_NoTask_OutOfBank => kit_is); (case zk_NoBank_NoTask => kit_is); (case zk_NoBank_NoBank => kit_is); (case zk_NoBank_OutOfBank => kit_is)
    (case zk_OutOfBank_NoTask => kit_is); (case zk_OutOfBank_NoBank => kit_is); (case zk_OutOfBank_OutOfBank => kit_is); (case a_law_ => k_is); (case l_law_ => k_is); (case c_law_ => k_is)
    (case k_law_ => k_is)
