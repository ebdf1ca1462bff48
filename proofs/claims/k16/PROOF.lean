import PyProof.Rows.All
import Wide.All
import OpenK.AllK
import Wide.FinOn
import Lean
import PyProof.EqAt
import PyProof.EqKinds
import PyProof.TupleCall
import PyProof.NeKinds
import PyProof.EnumMake
import PyProof.EnumStmt
import PyProof.LayNew
import KE.KDictLaws
import KE.KDictSum
import KE.LcSums
import PyProof.Rows.SumAny
import PyProof.Rows.SortWalk
import PyProof.DictWalks
import PyProof.Rows.SortRev
import KE.KRevIter
import KE.KIntText
import PyProof.CallStr
import PyProof.StrCalls2
import PyProof.Rows.StrJoin2
import PyProof.StrWalks
import PySem.Challenge.RW_frameland_k16_pages_beyond
set_option Elab.async false
set_option linter.all false
set_option maxRecDepth 100000
namespace L2
open PySem PySem.Spec PyProof.Rows
/-- a key: an int or a str -/
abbrev Key := Sum Int Str
def keyIs : Key → Value → Bool
  | .inl k, v => Value.isInt k v
  | .inr x, v => Value.isStrOf x v
def keyH (w : World) : Key → Int
  | .inl k => hashInt k
  | .inr x => hashStr w x
theorem keyIs_shape : ∀ {k : Key} {v : Value}, keyIs k v = true → (∃ i t, k = Sum.inl i ∧ v = Value.int i t) ∨ (∃ x t, k = Sum.inr x ∧ v = Value.str x t)
  | .inl i, v, h => by
    obtain ⟨t, e⟩ := Value.isInt_shape (k := i) (v := v) h
    exact .inl ⟨i, t, rfl, e⟩
  | .inr x, v, h => by
    obtain ⟨t, e⟩ := Value.isStrOf_shape (x := x) (v := v) h
    exact .inr ⟨x, t, rfl, e⟩
theorem keyIs_int (i : Int) (t : Tok) : keyIs (.inl i) (.int i t) = true := by simp [keyIs, Value.isInt]
theorem keyIs_str (x : Str) (t : Tok) : keyIs (.inr x) (.str x t) = true := by simp [keyIs, Value.isStrOf]
theorem key_ll (a b : Int) : decide ((Sum.inl a : Key) = Sum.inl b) = (a == b) := by
  by_cases e : a = b
  · subst e; simp
  · have h : ¬ (Sum.inl a : Key) = Sum.inl b := fun q => e (Sum.inl.inj q)
    rw [decide_eq_false h]
    exact (beq_eq_false_iff_ne.mpr e).symm
theorem key_rr (a b : Str) : decide ((Sum.inr a : Key) = Sum.inr b) = decide (a = b) := by
  by_cases e : a = b
  · subst e; simp
  · have h : ¬ (Sum.inr a : Key) = Sum.inr b := fun q => e (Sum.inr.inj q)
    rw [decide_eq_false h, decide_eq_false e]
theorem key_lr (a : Int) (b : Str) : decide ((Sum.inl a : Key) = Sum.inr b) = false := decide_eq_false (fun q => nomatch q)
theorem key_rl (a : Str) (b : Int) : decide ((Sum.inr a : Key) = Sum.inl b) = false := decide_eq_false (fun q => nomatch q)
def mixKind (prog : Program) (w : World) : PySem.KeyKind prog w Key where
  is := keyIs
  hash := keyH w
  inj := fun v a b ha hb => by
    rcases keyIs_shape ha with ⟨i, t, rfl, rfl⟩ | ⟨x, t, rfl, rfl⟩
    · rcases keyIs_shape hb with ⟨j, u, rfl, e⟩ | ⟨y, u, rfl, e⟩
      · injection e with e1 _; rw [e1]
      · exact nomatch e
    · rcases keyIs_shape hb with ⟨j, u, rfl, e⟩ | ⟨y, u, rfl, e⟩
      · exact nomatch e
      · injection e with e1 _; rw [e1]
  byValue := fun k v h => by
    rcases keyIs_shape h with ⟨i, t, rfl, rfl⟩ | ⟨x, t, rfl, rfl⟩ <;> rfl
  pyHash := fun hv h => by
    rcases keyIs_shape hv with ⟨i, t, rfl, rfl⟩ | ⟨x, t, rfl, rfl⟩
    · exact wpAny_pyHash_int h
    · exact wpAny_pyHash_str h
  eqBool := fun hu hv h => by
    rcases keyIs_shape hu with ⟨i, t, rfl, rfl⟩ | ⟨x, t, rfl, rfl⟩
    · rcases keyIs_shape hv with ⟨j, u, rfl, rfl⟩ | ⟨y, u, rfl, rfl⟩
      · rw [key_ll] at h; exact wpAny_eqBool_int h
      · rw [key_lr] at h; exact SeqAt.EqAt.int_str i t y u _ _ _ _ h
    · rcases keyIs_shape hv with ⟨j, u, rfl, rfl⟩ | ⟨y, u, rfl, rfl⟩
      · rw [key_rl] at h; exact SeqAt.EqAt.str_int x t j u _ _ _ _ h
      · rw [key_rr] at h; exact wpAny_eqBool_str h
  «strs» := fun k x t v h => by
    rcases keyIs_shape h with ⟨i, u, rfl, e⟩ | ⟨y, u, rfl, e⟩
    · exact nomatch e
    · injection e with e1 _
      subst e1
      cases v <;> rfl
theorem mixKind_int (prog : Program) (w : World) (i : Int) (t : Tok) : (mixKind prog w).is (.inl i) (.int i t) = true := keyIs_int i t
theorem mixKind_str (prog : Program) (w : World) (x : Str) (t : Tok) : (mixKind prog w).is (.inr x) (.str x t) = true := keyIs_str x t
end L2
namespace L2
open PySem PySem.Spec PyProof.Rows
/-- a value, without the heap -/
inductive V where
  | non | bl (b : Bool) | int (i : Int) | str (x : Str) | byt (b : Array UInt8) | flt (b : UInt64) | ref (a : Addr) | ty (n : String)
  deriving DecidableEq
def RelV : V → Value → Prop
  | .non, u => u = Value.none
  | .bl b, u => u = Value.bool b
  | .int i, u => ∃ t, u = Value.int i t
  | .str x, u => ∃ t, u = Value.str x t
  | .byt b, u => ∃ t, u = Value.bytes b t
  | .flt b, u => ∃ t, u = Value.float b t
  | .ref a, u => u = Value.ref a
  | .ty n, u => u = Value.type n
abbrev Vals : List V → List Value → Prop := Paired RelV
theorem Vals.length {xs : List V} {us : List Value} (r : Vals xs us) : xs.length = us.length := Paired.length r
theorem Vals.get : ∀ {xs : List V} {us : List Value} {i : Nat} {x : V}, Vals xs us → xs[i]? = some x → ∃ u, us[i]? = some u ∧ RelV x u
  | _, _, _, _, .nil, e => by simp at e
  | _, _, 0, _, .cons r _, e => by simp at e; subst e; exact ⟨_, rfl, r⟩
  | _, _, i + 1, x, .cons _ t, e => by
    obtain ⟨u, h1, h2⟩ := Vals.get (i := i) (x := x) t (by simpa using e)
    exact ⟨u, by simpa using h1, h2⟩
theorem Vals.set {x : V} {u : Value} (r : RelV x u) : ∀ {xs : List V} {us : List Value} (i : Nat), Vals xs us → Vals (xs.set i x) (us.set i u)
  | _, _, _, .nil => .nil
  | _, _, 0, .cons _ t => .cons r t
  | _, _, i + 1, .cons q t => .cons q (Vals.set r i t)
theorem Vals.append : ∀ {xs ys : List V} {us ws : List Value}, Vals xs us → Vals ys ws → Vals (xs ++ ys) (us ++ ws)
  | _, _, _, _, .nil, s => s
  | _, _, _, _, .cons r t, s => .cons r (Vals.append t s)
theorem Vals.take : ∀ {xs : List V} {us : List Value} (n : Nat), Vals xs us → Vals (xs.take n) (us.take n)
  | _, _, 0, _ => .nil
  | _, _, _ + 1, .nil => .nil
  | _, _, n + 1, .cons r t => .cons r (Vals.take n t)
theorem Vals.drop : ∀ {xs : List V} {us : List Value} (n : Nat), Vals xs us → Vals (xs.drop n) (us.drop n)
  | _, _, 0, r => r
  | _, _, _ + 1, .nil => .nil
  | _, _, n + 1, .cons _ t => Vals.drop n t
def RelO : Option V → Option Value → Prop
  | some v, some u => RelV v u
  | none, none => True
  | _, _ => False
def KV {κ : Type} : List (κ × V) → List (κ × Value) → Prop := Paired fun (p : κ × V) (q : κ × Value) => p.1 = q.1 ∧ RelV p.2 q.2
/-- a key of a dict (00_mix): an int or a text -/
def kV : Key → V
  | .inl i => .int i
  | .inr x => .str x
/-- what stands at a tracked address -/
inductive HO where
  /-- a list -/
  | lst (xs : List V)
  /-- a tuple (never changes) -/
  | tup (xs : List V)
  /-- a dict whose keys are ints and texts; one whose keys are tuples of ints and texts (the empty one is both) -/
  | dK (kvs : List (Key × V)) | dT (kvs : List (List Key × V))
  /-- a set of ints: its members, its size -/
  | set (S : Int → Bool) (n : Nat)
  /-- an instance of the class at C, its dict at dx, its attributes -/
  | ins (C dx : Addr) (fs : List (Str × V))
  /-- the dict of the instance at x -/
  | own (x : Addr)
  /-- the dict of an exception -/
  | xd (fs : List (Str × V))
  /-- a bound method, f of x -/
  | met (f x : Addr)
  /-- a range object lo, lo + 1, .. below hi -/
  | rng (lo hi : Int)
  /-- a thing that is known to the object (the script; a dict while a loop walks it): read, never written while it is so -/
  | frz (o : Obj) (u : HO)
  /-- a code object's table -/
  | tbl (ps : Array Value)
  /-- any other thing, by what is true of its one object (a def of one's own: SetO a S n := HO.ext fun h => ..) -/
  | ext (φ : Heap → Prop)
abbrev Hp := Addr → Option HO
def upd (H : Hp) (a : Addr) (o : HO) : Hp := fun b => if b = a then some o else H b
theorem upd_same {H : Hp} {a : Addr} {o : HO} : upd H a o a = some o := by unfold upd; rw [if_pos rfl]
theorem upd_ne {H : Hp} {a b : Addr} {o : HO} (h : b ≠ a) : upd H a o b = H b := by unfold upd; rw [if_neg h]
theorem upd_upd {H : Hp} {a : Addr} {o u : HO} : upd (upd H a o) a u = upd H a u := by
  funext b; unfold upd; split <;> rfl
/-- two objects of different content stand apart -/
theorem ne_of {H : Hp} {a b : Addr} {o u : HO} (h : H a = some o) (h' : H b = some u) (d : o ≠ u) : a ≠ b := by
  intro e; subst e; rw [h] at h'; exact d (Option.some.inj h')
theorem ne_of_none {H : Hp} {a b : Addr} {o : HO} (h : H a = some o) (h' : H b = none) : a ≠ b := by
  intro e; subst e; rw [h] at h'; cases h'
section
variable (P : Program) (w : World)
def ObjOk (H : Hp) (h : Heap) (a : Addr) : HO → Prop
  | .lst xs => xs.length ≤ sizeLine ∧ ∃ (its : List Value) (n : Nat), Vals xs its ∧ h.get? a = some { cls := .type "list", data := .seq its.toArray n }
  | .tup xs => xs.length ≤ sizeLine ∧ ∃ its : List Value, Vals xs its ∧ IsTup h a its.toArray
  | .dK kvs => kvs.length ≤ sizeLine ∧ (a == sysModules) = false ∧ ∃ vs, KV kvs vs ∧ h.DictOf (mixKind P w) a vs
  | .dT kvs => kvs.length ≤ sizeLine ∧ (a == sysModules) = false ∧ ∃ xs : List (List Key × Addr × Value),
      Paired (fun (p : List Key × V) (q : List Key × Addr × Value) => p.1 = q.1 ∧ H q.2.1 = some (.tup (p.1.map kV)) ∧ RelV p.2 q.2.2) kvs xs ∧
      ∃ o es ep, h.get? a = some o ∧ o.ExactDict ∧ o.data = .dict es ep ∧ es.toList = xs.map (entryOfKey (tupleKind (mixKind P w))) ∧ (xs.map (·.1)).Nodup
  | .set S n => h.SetOf (intKind P w) a S n
  | .ins C dx fs => H dx = some (.own a) ∧ fs.length ≤ 1000 ∧ dx ≠ a ∧ h.get? a = some (PySem.W.instObj C dx) ∧
      ∃ mA, h.Ns1 dx mA ∧ (∀ f, RelO (fs.lookup f) (mA f)) ∧ PySem.Within mA (fs.map (·.1))
  | .own _ => ∃ o, h.get? a = some o
  | .xd fs => ∃ mA, h.Ns1 a mA ∧ ∀ f, RelO (fs.lookup f) (mA f)
  | .rng lo hi => ∃ t u v, h.get? a = some { cls := .type "range", data := .fields #[.int lo t, .int hi u, .int 1 v] }
  | .frz o u => h.get? a = some o ∧ ObjOk H h a u
  | .tbl ps => h.get? a = some { cls := .none, data := .fields ps }
  | .met f x => h.get? a = some (PySem.W.methodObj (.ref f) (.ref x))
  | .ext φ => φ h ∧ (∃ o, h.get? a = some o) ∧ ∀ h1 h2 : Heap, φ h1 → (∀ o, h1.get? a = some o → h2.get? a = some o) → φ h2
/-- the abstract heap is held -/
def HOk (H : Hp) (h : Heap) : Prop := ∀ a o, H a = some o → ObjOk P w H h a o
end
section
variable {P : Program} {w : World} {H H' : Hp} {h h' : Heap} {a : Addr} {o : HO}
theorem ObjOk.lt (x : ObjOk P w H h a o) : a < h.objs.size := by
  cases o with
  | lst xs => obtain ⟨_, _, _, _, e⟩ := x; exact Heap.lt_size e
  | tup xs => obtain ⟨_, _, _, p⟩ := x; exact p.lt
  | dK kvs => obtain ⟨_, _, _, _, o, _, _, e, _⟩ := x; exact Heap.lt_size e
  | dT kvs => obtain ⟨_, _, _, _, o, _, _, e, _⟩ := x; exact Heap.lt_size e
  | set S n => obtain ⟨o, _, _, _, e, _⟩ := x; exact Heap.lt_size e
  | ins C dx fs => obtain ⟨_, _, _, e, _⟩ := x; exact Heap.lt_size e
  | own y => obtain ⟨_, e⟩ := x; exact Heap.lt_size e
  | xd fs => obtain ⟨_, ⟨_, _, _, e, _⟩, _⟩ := x; exact Heap.lt_size e
  | rng lo hi => obtain ⟨_, _, _, e⟩ := x; exact Heap.lt_size e
  | frz ob u => obtain ⟨e, _⟩ := x; exact Heap.lt_size e
  | tbl ps => exact Heap.lt_size (show h.get? a = some _ from x)
  | met f y => exact Heap.lt_size (show h.get? a = some _ from x)
  | ext φ => obtain ⟨_, ⟨_, e⟩, _⟩ := x; exact Heap.lt_size e
theorem Paired.mapP {α β : Type} {F G : α → β → Prop} : ∀ {l₁ : List α} {l₂ : List β}, Paired F l₁ l₂ → (∀ a b, F a b → G a b) → Paired G l₁ l₂
  | _, _, .nil, _ => .nil
  | _, _, .cons r t, f => .cons (f _ _ r) (Paired.mapP t f)
/-- what an object's description leans on: its own object, its own dict, the tuples -/
theorem ObjOk.stay (x : ObjOk P w H h a o) (k : ∀ b u, (b = a ∨ H b = some (.own a)) → h.get? b = some u → h'.get? b = some u)
    (ho : ∀ b, H b = some (.own a) → H' b = some (.own a)) (ht : ∀ b xs, H b = some (.tup xs) → H' b = some (.tup xs)) : ObjOk P w H' h' a o := by
  induction o with
  | lst xs => obtain ⟨z, its, n, r, e⟩ := x; exact ⟨z, its, n, r, k _ _ (.inl rfl) e⟩
  | tup xs => obtain ⟨z, its, r, ob, e, c⟩ := x; exact ⟨z, its, r, ob, k _ _ (.inl rfl) e, c⟩
  | dK kvs => obtain ⟨z, y, vs, r, ob, es, ep, e, c⟩ := x; exact ⟨z, y, vs, r, ob, es, ep, k _ _ (.inl rfl) e, c⟩
  | dT kvs =>
    obtain ⟨z, y, xs, r, ob, es, ep, e, c⟩ := x
    exact ⟨z, y, xs, Paired.mapP r fun p q z => ⟨z.1, ht _ _ z.2.1, z.2.2⟩, ob, es, ep, k _ _ (.inl rfl) e, c⟩
  | set S n => obtain ⟨ob, es, ep, t, e, c⟩ := x; exact ⟨ob, es, ep, t, k _ _ (.inl rfl) e, c⟩
  | ins C dx fs =>
    obtain ⟨d, z, ne, e, mA, ⟨od, es, ep, e2, c⟩, r⟩ := x
    exact ⟨ho _ d, z, ne, k _ _ (.inl rfl) e, mA, ⟨od, es, ep, k _ _ (.inr d) e2, c⟩, r⟩
  | own y => obtain ⟨ob, e⟩ := x; exact ⟨ob, k _ _ (.inl rfl) e⟩
  | xd fs => obtain ⟨mA, ⟨od, es, ep, e, c⟩, r⟩ := x; exact ⟨mA, ⟨od, es, ep, k _ _ (.inl rfl) e, c⟩, r⟩
  | rng lo hi => obtain ⟨t, u, v, e⟩ := x; exact ⟨t, u, v, k _ _ (.inl rfl) e⟩
  | frz ob u ih => obtain ⟨e, q⟩ := x; exact ⟨k _ _ (.inl rfl) e, ih q⟩
  | tbl ps =>
    have e : h.get? a = some { cls := .none, data := .fields ps } := x
    show h'.get? a = some { cls := .none, data := .fields ps }
    exact k a _ (.inl rfl) e
  | met f y =>
    have e : h.get? a = some (PySem.W.methodObj (.ref f) (.ref y)) := x
    show h'.get? a = some (PySem.W.methodObj (.ref f) (.ref y))
    exact k a _ (.inl rfl) e
  | ext φ => obtain ⟨p, ⟨o, e⟩, st⟩ := x; exact ⟨st _ _ p fun o q => k _ _ (.inl rfl) q, ⟨o, k _ _ (.inl rfl) e⟩, st⟩
theorem HOk.lt (x : HOk P w H h) (e : H a = some o) : a < h.objs.size := (x a o e).lt
theorem HOk.fresh (x : HOk P w H h) (e : h.objs.size ≤ a) : H a = none := by
  cases q : H a with
  | none => rfl
  | some u => exact absurd (Nat.lt_of_lt_of_le (x.lt q) e) (Nat.lt_irrefl _)
/-- every object of the heap is kept -/
theorem HOk.kept (x : HOk P w H h) (k : ∀ b u, h.get? b = some u → h'.get? b = some u) : HOk P w H h' := fun a o e =>
  (x a o e).stay (fun b u _ q => k b u q) (fun _ q => q) fun _ _ q => q
/-- a new object is laid and tracked -/
theorem HOk.laid (x : HOk P w H h) (k : ∀ b u, h.get? b = some u → h'.get? b = some u) (hp : h.objs.size ≤ a) (new : ObjOk P w (upd H a o) h' a o) : HOk P w (upd H a o) h' := fun b u e => by
  have hn := x.fresh hp
  by_cases hb : b = a
  · subst hb; rw [upd_same] at e; cases e; exact new
  · rw [upd_ne hb] at e
    exact (x b u e).stay (fun c v _ q => k c v q) (fun c q => by rw [upd_ne (ne_of_none q hn)]; exact q) fun c xs q => by rw [upd_ne (ne_of_none q hn)]; exact q
end
/-- what may be read as u: it is u, or a known u -/
def Rd (H : Hp) (a : Addr) (u : HO) : Prop := H a = some u ∨ ∃ o, H a = some (.frz o u)
theorem Rd.of {H : Hp} {a : Addr} {u : HO} (h : H a = some u) : Rd H a u := .inl h
theorem Rd.ok {P : Program} {w : World} {H : Hp} {h : Heap} {a : Addr} {u : HO} (r : Rd H a u) (x : HOk P w H h) : ObjOk P w H h a u := by
  rcases r with r | ⟨o, r⟩
  · exact x a u r
  · obtain ⟨_, q⟩ := x a _ r
    exact q
/-- what may be written -/
def Mut : Option HO → Prop
  | some (.lst _) => True
  | some (.dK _) => True
  | some (.dT _) => True
  | some (.set _ _) => True
  | some (.ins _ _ _) => True
  | some (.ext _) => True
  | _ => False
section
variable {P : Program} {w : World} {H : Hp} {h h' : Heap} {x e : Addr} {o' : HO}
/-- the object at e is changed: x itself, or the dict of the instance x -/
theorem HOk.write (ok : HOk P w H h) (mu : Mut (H x)) (he : e = x ∨ H e = some (.own x)) (k : ∀ b u, b ≠ e → h.get? b = some u → h'.get? b = some u) (heo : ∃ u, h'.get? e = some u)
    (new : ObjOk P w (upd H x o') h' x o') : HOk P w (upd H x o') h' := fun b u q => by
  have nown : ∀ c y, H c = some (.own y) → c ≠ x := fun c y r z => by subst z; rw [r] at mu; exact mu
  have ntup : ∀ c xs, H c = some (.tup xs) → c ≠ x := fun c xs r z => by subst z; rw [r] at mu; exact mu
  by_cases hb : b = x
  · subst hb; rw [upd_same] at q; cases q; exact new
  · rw [upd_ne hb] at q
    by_cases hbe : b = e
    · have q' : H b = some (.own x) := by
        rcases he with z | z
        · exact absurd (hbe.trans z) hb
        · rw [hbe]; exact z
      rw [q] at q'; cases q'
      obtain ⟨v, hv⟩ := heo
      exact ⟨v, by rw [hbe]; exact hv⟩
    · refine (ok b u q).stay (fun c v hc r => k c v ?_ r) (fun c r => by rw [upd_ne (nown c b r)]; exact r) fun c xs r => by rw [upd_ne (ntup c xs r)]; exact r
      rcases hc with rfl | hc
      · exact hbe
      · rintro rfl
        rcases he with z | z
        · exact nown c b hc z
        · rw [hc] at z; cases z; exact hb rfl
end
/-! ### kept unless tracked; of the frames at fs (the callers') the slots may change (an exception that passes writes there); of the records at ex (iterators) nothing is said -/
structure Un (fs ex : List Addr) (H H' : Hp) (h h' : Heap) : Prop where
  keep : ∀ b o, h.get? b = some o → H b = none → b ∉ fs → b ∉ ex → h'.get? b = some o
  slot : ∀ b o, h.get? b = some o → H b = none → b ∈ fs → b ∉ ex → ∃ sl, h'.get? b = some { o with slots := sl }
  free : ∀ b o, h.get? b = some o → H b = none → b ∉ ex → H' b = none
  there : ∀ b o, h.get? b = some o → b ∉ ex → ∃ o', h'.get? b = some o'
  tups : ∀ b xs, H b = some (.tup xs) → H' b = some (.tup xs)
  frzs : ∀ b o u, H b = some (.frz o u) → H' b = some (.frz o u)
  tbls : ∀ b ps, H b = some (.tbl ps) → ∃ more, H' b = some (.tbl (ps ++ more))
section
variable {fs fs' ex ex' : List Addr} {H H1 H2 : Hp} {h h1 h2 h' : Heap} {a x e : Addr} {o : HO}
theorem Un.any (u : Un fs ex H H1 h h1) {b : Addr} {ob : Obj} (q : h.get? b = some ob) (n : H b = none) (hx : b ∉ ex) : ∃ sl, h1.get? b = some { ob with slots := sl } := by
  by_cases hb : b ∈ fs
  · exact u.slot b ob q n hb hx
  · exact ⟨ob.slots, u.keep b ob q n hb hx⟩
theorem Un.kept (k : ∀ b u, h.get? b = some u → h'.get? b = some u) : Un fs ex H H h h' :=
  ⟨fun b ob q _ _ _ => k b ob q, fun b ob q _ _ _ => ⟨ob.slots, k b ob q⟩, fun _ _ _ n _ => n, fun b ob q _ => ⟨ob, k b ob q⟩, fun _ _ q => q, fun _ _ _ q => q, fun _ ps q => ⟨#[], by rw [q]; simp⟩⟩
theorem Un.refl : Un fs ex H H h h := Un.kept fun _ _ q => q
theorem Un.laid (k : ∀ b u, h.get? b = some u → h'.get? b = some u) (hp : h.objs.size ≤ a) (hn : H a = none) : Un fs ex H (upd H a o) h h' where
  keep := fun b u q _ _ _ => k b u q
  slot := fun b u q _ _ _ => ⟨u.slots, k b u q⟩
  free := fun b u q n _ => by rw [upd_ne (Nat.ne_of_lt (Nat.lt_of_lt_of_le (Heap.lt_size q) hp))]; exact n
  there := fun b u q _ => ⟨u, k b u q⟩
  tups := fun b xs q => by rw [upd_ne (ne_of_none q hn)]; exact q
  frzs := fun b u xs q => by rw [upd_ne (ne_of_none q hn)]; exact q
  tbls := fun b ps q => ⟨#[], by rw [upd_ne (ne_of_none q hn), q]; simp⟩
theorem Un.write (mu : Mut (H x)) (he : e = x ∨ H e = some (.own x)) (k : ∀ b u, b ≠ e → h.get? b = some u → h'.get? b = some u) (heo : ∃ u, h'.get? e = some u) : Un fs ex H (upd H x o) h h' := by
  have hx : ∀ b, H b = none → b ≠ x := fun b n z => by subst z; rw [n] at mu; exact mu
  have hb : ∀ b, H b = none → b ≠ e := fun b n z => by
    subst z
    rcases he with r | r
    · exact hx b n r
    · rw [n] at r; cases r
  have hm : ∀ b u, H b = some u → ¬ Mut (some u) → b ≠ x := fun b u q nm z => by subst z; rw [q] at mu; exact nm mu
  refine ⟨fun b u q n _ _ => k b u (hb b n) q, fun b u q n _ _ => ⟨u.slots, k b u (hb b n) q⟩, fun b u q n _ => by rw [upd_ne (hx b n)]; exact n, fun b u q _ => ?_,
    fun b xs q => by rw [upd_ne (hm b _ q fun z => z)]; exact q, fun b u xs q => by rw [upd_ne (hm b _ q fun z => z)]; exact q, fun b ps q => ⟨#[], by rw [upd_ne (hm b _ q fun z => z), q]; simp⟩⟩
  by_cases hbe : b = e
  · subst hbe; exact heo
  · exact ⟨u, k b u hbe q⟩
end
/-! ### the heap without what is tracked -/
def trk (h : Heap) (H : Hp) : List Addr := (List.range h.objs.size).filter fun a => (H a).isSome
def hidT (h : Heap) (H : Hp) : Heap := PySem.W.hideAll h (trk h H)
theorem hidT_size (h : Heap) (H : Hp) : (hidT h H).objs.size = h.objs.size := PySem.W.hideAll_size _ _
theorem hidT_get {h : Heap} {H : Hp} {b : Addr} {o : Obj} (e : h.get? b = some o) (n : H b = none) : (hidT h H).get? b = some o :=
  PySem.W.hideAll_get _ e fun hm => by
    have q : (H b).isSome = true := (List.mem_filter.mp hm).2
    rw [n] at q; simp at q
theorem of_hidT {h : Heap} {H : Hp} {b : Addr} {o : Obj} (e : (hidT h H).get? b = some o) : h.get? b = some o ∧ H b = none := by
  have e' : h.get? b = some o := PySem.W.of_hideAll (trk h H) e
  refine ⟨e', ?_⟩
  cases q : H b with
  | none => rfl
  | some x =>
    have hm : b ∈ trk h H := List.mem_filter.mpr ⟨List.mem_range.mpr (Heap.lt_size e'), by simp [q]⟩
    have z : (hidT h H).get? b = none := PySem.W.hideAll_none (trk h H) hm
    rw [z] at e; cases e
/-! ### OpenK's ledger, filled with every new object but one -/
def allNews (g h : Heap) (L : Addr) : List (Addr × Obj) := (List.range h.objs.size).filterMap fun a => if a = L ∨ (g.get? a).isSome = true then none else (h.get? a).map fun o => (a, o)
def rest (g h : Heap) (L d : Addr) : List (Addr × Obj) := (allNews g h L).filter fun p => decide (p.1 ≠ d)
end L2
namespace L2
open PySem PySem.Spec PyProof.Rows
/-- the module's facts, over the base: the heap at the law's entry without what is tracked there -/
structure Mod (K : PySem.W.Frag) (mg : Str → Option Value) (base : Heap) : Prop where
  kin : K.In base
  glob : base.Ns mainGlobals mg
  blt : ∃ mb, base.Ns builtinsNs mb ∧ ∀ x : Str, x ≠ "__name__" → mb x = bootBuiltins x
  nolimit : base.NoLimit
/-- the context: a def's body (or a comprehension's block) running. base: fixed through the whole law; s₀, H₀: the entry; outer: the frames whose slots others may change (a def's callers); stack: all frames that run;
   ex: iterators that were made ahead of the entry and are walked here (a comprehension's); fn: the names whose cells were made at the entry (a def: all; a comprehension's block: its own); calm: not within an except suite; pn: pins that every state bears; xe: what is wanted of an exception that leaves the code -/
structure Cx where
  prog : Program
  w : World
  K : PySem.W.Frag
  mg : Str → Option Value
  base : Heap
  A : Around
  N : List Str
  s₀ : Shared
  H₀ : Hp
  env : Env
  outer : List Env
  stack : List Env
  ex : List Addr
  fn : Str → Bool
  calm : Bool
  pn : List (Addr × Obj)
  xe : Value → Shared → Prop
/-- the callers' frames -/
def frs (l : List Env) : List Addr := l.filterMap (·.frame)
abbrev Cx.fs (X : Cx) : List Addr := frs X.outer
def Vis (sc : Scope) (x : Str) : Prop := sc.names.lookup x = some .local ∨ sc.names.lookup x = some .cell ∨ sc.names.lookup x = some .free
def Loc (sc : Scope) (x : Str) : Prop := sc.names.lookup x = some .local ∨ sc.names.lookup x = some .cell
def Look (env : Env) (h : Heap) (m : Str → Option Value) (x : Str) (u : Value) : Prop :=
  (env.kindOf x = some .local ∧ m x = some u) ∨ ((env.kindOf x = some .cell ∨ env.kindOf x = some .free) ∧ ∃ c, env.cells.lookup x = some c ∧ h.IsCell c (some u))
structure Cx.Ok (X : Cx) : Prop where
  mod : Mod X.K X.mg X.base
  kind : X.env.scope.kind = .function
  glob : X.env.globals = mainGlobals
  blt : X.env.builtins = builtinsNs
  above : X.s₀.heap.objs.size ≤ X.env.locals
  inj : ∀ x y c, X.env.cells.lookup x = some c → X.env.cells.lookup y = some c → x = y
  has : ∀ x, (X.env.kindOf x = some .cell ∨ X.env.kindOf x = some .free) → ∃ c, X.env.cells.lookup x = some c
  cab : ∀ x c, X.fn x = true → X.env.cells.lookup x = some c → X.s₀.heap.objs.size ≤ c
  hd : X.calm = true → X.A.handled = none
  frames : X.A.frames = some X.stack
  stk : X.stack = X.outer ∨ (X.stack = X.env :: X.outer ∧ X.env.frame = some X.env.locals)
  exf : ∀ b ∈ X.ex, b ≠ X.env.locals ∧ ∀ x c, X.env.cells.lookup x = some c → c ≠ b
  bs : ∀ b o, X.base.get? b = some o → X.s₀.heap.get? b = some o ∧ X.H₀ b = none
  bsz : X.base.objs.size ≤ X.s₀.heap.objs.size
  noex : ∀ b o, X.base.get? b = some o → b ∉ X.ex
  exfs : ∀ b ∈ X.ex, b ∉ X.fs
  funs : X.s₀.heap.FunFrames X.base X.outer
  frf : ∀ b ∈ X.fs, X.H₀ b = none
structure Inv (X : Cx) (pins : List (Addr × Obj)) (σ : List (Option V)) (H : Hp) (s : Shared) : Prop where
  ok : X.Ok
  os : s.os = X.s₀.os
  bare : AllBare s.gens
  base : Un X.fs X.ex X.H₀ H X.s₀.heap s.heap
  loc : ∃ m, s.heap.Ns X.env.locals m ∧ ∀ (i : Nat) (x : Str) (v : V), X.N[i]? = some x → σ[i]? = some (some v) → Vis X.env.scope x → ∃ u, RelV v u ∧ Look X.env s.heap m x u
  cell : ∀ x c, X.env.cells.lookup x = some c → ∃ v, s.heap.IsCell c v
  free : H X.env.locals = none
  freeC : ∀ x c, X.env.cells.lookup x = some c → H c = none
  pin : ∀ p ∈ X.pn ++ pins, s.heap.get? p.1 = some p.2 ∧ H p.1 = none ∧ p.1 ≠ X.env.locals ∧ p.1 ∉ X.fs ∧ ∀ v, p.2.data ≠ .cell v
  hok : HOk X.prog X.w H s.heap
  len : σ.length = X.N.length
section
variable {X : Cx} {pins : List (Addr × Obj)} {σ : List (Option V)} {H H' : Hp} {s : Shared} {h' : Heap}
theorem Cx.Ok.nofr (ok : X.Ok) {b : Addr} {o : Obj} (e : X.base.get? b = some o) : b ∉ X.fs := fun hb => by
  have := (ok.funs.mem hb).1
  rw [e] at this; cases this
theorem Inv.bs (I : Inv X pins σ H s) : ∀ b o, X.base.get? b = some o → s.heap.get? b = some o ∧ H b = none := fun b o e =>
  ⟨I.base.keep b o (I.ok.bs b o e).1 (I.ok.bs b o e).2 (I.ok.nofr e) (I.ok.noex b o e), I.base.free b o (I.ok.bs b o e).1 (I.ok.bs b o e).2 (I.ok.noex b o e)⟩
theorem Inv.bk (I : Inv X pins σ H s) : ∀ b o, X.base.get? b = some o → s.heap.get? b = some o := fun b o e => (I.bs b o e).1
theorem Inv.mod (I : Inv X pins σ H s) : Mod X.K X.mg X.base := I.ok.mod
theorem Inv.kIn (I : Inv X pins σ H s) : X.K.In s.heap := I.ok.mod.kin.keeps I.bk
/-- the frame over the base: for OpenK's rules (K.In X.base is I.mod.kin) -/
theorem Inv.fr (I : Inv X pins σ H s) : ∃ m, Fr X.base X.env.locals s.heap m :=
  let ⟨m, hn, _⟩ := I.loc
  ⟨m, hn, I.bk, Nat.le_trans I.ok.bsz I.ok.above⟩
theorem Inv.lt (I : Inv X pins σ H s) : X.env.locals < s.heap.objs.size := let ⟨_, hn, _⟩ := I.loc; hn.lt
theorem Inv.sz (I : Inv X pins σ H s) : X.s₀.heap.objs.size ≤ s.heap.objs.size := Nat.le_trans I.ok.above (Nat.le_of_lt I.lt)
theorem Inv.nofs (I : Inv X pins σ H s) {a : Addr} (h : s.heap.objs.size ≤ a) : a ∉ X.fs := fun hb => by
  obtain ⟨_, o, ho, _⟩ := I.ok.funs.mem hb
  exact absurd (Nat.lt_of_lt_of_le (Heap.lt_size ho) (Nat.le_trans I.sz h)) (Nat.lt_irrefl _)
theorem Inv.cne (I : Inv X pins σ H s) : ∀ x c, X.env.cells.lookup x = some c → c ≠ X.env.locals := fun x c e z => by
  obtain ⟨v, o, ho, hd⟩ := I.cell x c e
  obtain ⟨m, ⟨o', es, ep, ho', hd', _⟩, _⟩ := I.loc
  rw [z, ho'] at ho; cases ho; rw [hd'] at hd; cases hd
theorem Inv.funs (I : Inv X pins σ H s) : s.heap.FunFrames X.base X.outer := by
  have all : ∀ (l : List Env), (∀ b ∈ frs l, b ∈ X.fs) → X.s₀.heap.FunFrames X.base l → s.heap.FunFrames X.base l := by
    intro l
    induction l with
    | nil => intro _ _; trivial
    | cons env r ih =>
      intro hs hl
      obtain ⟨hk, ⟨L, o, hf, hn, ho, hd⟩, hr⟩ := hl
      have hL : L ∈ X.fs := hs L (by unfold frs; rw [List.filterMap_cons, hf]; exact List.mem_cons_self)
      obtain ⟨sl, e⟩ := I.base.slot L o ho (I.ok.frf L hL) hL fun z => I.ok.exfs L z hL
      exact ⟨hk, ⟨L, _, hf, hn, e, hd⟩, ih (fun b hb => hs b (by unfold frs; rw [List.filterMap_cons, hf]; exact List.mem_cons_of_mem _ hb)) hr⟩
  exact all X.outer (fun _ hb => hb) I.ok.funs
/-- the frames that run, for a call -/
theorem Inv.stack (I : Inv X pins σ H s) : s.heap.FunFrames X.base X.stack := by
  rcases I.ok.stk with e | ⟨e, hf⟩
  · rw [e]; exact I.funs
  · rw [e]
    obtain ⟨m, hn, _⟩ := I.loc
    refine .cons (by rw [I.ok.kind]; decide) hf hn ?_ I.funs
    exact Heap.get?_none_of_le (Nat.le_trans I.ok.bsz I.ok.above)
theorem Inv.stkSub (I : Inv X pins σ H s) : ∀ b ∈ frs X.stack, b ∈ X.env.locals :: X.fs := fun b hb => by
  rcases I.ok.stk with e | ⟨e, hf⟩
  · rw [e] at hb; exact List.mem_cons_of_mem _ hb
  · rw [e] at hb
    unfold frs at hb
    rw [List.filterMap_cons, hf] at hb
    exact hb
theorem Inv.stkFree (I : Inv X pins σ H s) : ∀ b ∈ frs X.stack, H b = none := fun b hb => by
  rcases List.mem_cons.mp (I.stkSub b hb) with e | hb
  · rw [e]; exact I.free
  · obtain ⟨_, o, ho, _⟩ := I.ok.funs.mem hb
    exact I.base.free b o ho (I.ok.frf b hb) fun z => I.ok.exfs b z hb
/-- THE STEP: the untracked objects but the frame and the records at ch are kept (the callers' frames up to slots), the frame's map is kept, the new abstract heap is held -/
theorem Inv.step {g' : Array GenState} {t' : Nat} {d' : Drawn} {ch : List Addr} (I : Inv X pins σ H s)
    (hch : ∀ b ∈ ch, (b ∈ X.ex ∨ X.s₀.heap.objs.size ≤ b) ∧ b ≠ X.env.locals ∧ (∀ x c, X.env.cells.lookup x = some c → c ≠ b) ∧ ∀ p ∈ X.pn ++ pins, p.1 ≠ b)
    (keep : ∀ b o, b ≠ X.env.locals → b ∉ X.fs → b ∉ ch → s.heap.get? b = some o → H b = none → h'.get? b = some o)
    (slot : ∀ b o, b ≠ X.env.locals → b ∈ X.fs → b ∉ ch → s.heap.get? b = some o → H b = none → ∃ sl, h'.get? b = some { o with slots := sl }) (free : ∀ b o, b ∉ ch → s.heap.get? b = some o → H b = none → H' b = none)
    (there : ∀ b o, b ∉ ch → s.heap.get? b = some o → ∃ o', h'.get? b = some o')
    (tups : ∀ b xs, H b = some (.tup xs) → H' b = some (.tup xs)) (frzs : ∀ b o u, H b = some (.frz o u) → H' b = some (.frz o u)) (tbls : ∀ b ps, H b = some (.tbl ps) → ∃ more, H' b = some (.tbl (ps ++ more)))
    (ns : ∀ m, s.heap.Ns X.env.locals m → h'.Ns X.env.locals m) (hok : HOk X.prog X.w H' h') (hg : AllBare g') :
    Inv X pins σ H' { s with heap := h', gens := g', drawn := d', toks := t' } := by
  have neL : ∀ b o, X.s₀.heap.get? b = some o → b ≠ X.env.locals := fun b o e => Nat.ne_of_lt (Nat.lt_of_lt_of_le (Heap.lt_size e) I.ok.above)
  have neC : ∀ b o, X.s₀.heap.get? b = some o → b ∉ X.ex → b ∉ ch := fun b o e hx hb => by
    rcases (hch b hb).1 with z | z
    · exact hx z
    · exact absurd (Nat.lt_of_lt_of_le (Heap.lt_size e) z) (Nat.lt_irrefl _)
  have cellK : ∀ x c, X.env.cells.lookup x = some c → ∀ v, s.heap.IsCell c v → h'.IsCell c v := fun x c e v ⟨o, ho, hd⟩ => by
    have nch : c ∉ ch := fun z => (hch c z).2.2.1 x c e rfl
    by_cases hc : c ∈ X.fs
    · obtain ⟨sl, q⟩ := slot c o (I.cne x c e) hc nch ho (I.freeC x c e)
      exact ⟨_, q, hd⟩
    · exact ⟨o, keep c o (I.cne x c e) hc nch ho (I.freeC x c e), hd⟩
  refine ⟨I.ok, I.os, hg, ⟨fun b o e n hb hx => ?_, fun b o e n hb hx => ?_, fun b o e n hx => ?_, fun b o e hx => ?_, fun b xs e => tups b xs (I.base.tups b xs e), fun b o xs e => frzs b o xs (I.base.frzs b o xs e), fun b ps e => ?_⟩, ?_, fun x c e => ?_, ?_, fun x c e => ?_, fun p hp => ?_, hok, I.len⟩
  · exact keep b o (neL b o e) hb (neC b o e hx) (I.base.keep b o e n hb hx) (I.base.free b o e n hx)
  · obtain ⟨sl, e1⟩ := I.base.slot b o e n hb hx
    obtain ⟨sl', e2⟩ := slot b _ (neL b o e) hb (neC b o e hx) e1 (I.base.free b o e n hx)
    exact ⟨sl', e2⟩
  · obtain ⟨o', e1⟩ := I.base.there b o e hx
    exact free b o' (neC b o e hx) e1 (I.base.free b o e n hx)
  · obtain ⟨o', e1⟩ := I.base.there b o e hx
    exact there b o' (neC b o e hx) e1
  · obtain ⟨m1, e1⟩ := I.base.tbls b ps e
    obtain ⟨m2, e2⟩ := tbls b _ e1
    exact ⟨m1 ++ m2, by rw [e2, Array.append_assoc]⟩
  · obtain ⟨m, hn, hl⟩ := I.loc
    refine ⟨m, ns m hn, fun i x v e1 e2 e3 => ?_⟩
    obtain ⟨u, r, l⟩ := hl i x v e1 e2 e3
    refine ⟨u, r, ?_⟩
    rcases l with l | ⟨k, c, e, z⟩
    · exact .inl l
    · exact .inr ⟨k, c, e, cellK x c e _ z⟩
  · obtain ⟨v, z⟩ := I.cell x c e
    exact ⟨v, cellK x c e v z⟩
  · obtain ⟨m, ⟨o, _, _, ho, _⟩, _⟩ := I.loc
    exact free _ o (fun z => (hch _ z).2.1 rfl) ho I.free
  · obtain ⟨v, o, ho, hd⟩ := I.cell x c e
    exact free c o (fun z => (hch c z).2.2.1 x c e rfl) ho (I.freeC x c e)
  · obtain ⟨e, n, ne, nf, d⟩ := I.pin p hp
    have nch : p.1 ∉ ch := fun z => (hch p.1 z).2.2.2 p hp rfl
    exact ⟨keep p.1 p.2 ne nf nch e n, free p.1 p.2 nch e n, ne, nf, d⟩
/-- .. where the frame's own object is kept too -/
theorem Inv.un {t' : Nat} (I : Inv X pins σ H s) (u : Un X.fs [] H H' s.heap h') (hok : HOk X.prog X.w H' h') : Inv X pins σ H' { s with heap := h', toks := t' } := by
  obtain ⟨m, ⟨o, es, ep, ho, r⟩, _⟩ := id I.loc
  obtain ⟨sl, hL⟩ := u.any ho I.free (by simp)
  exact I.step (g' := s.gens) (d' := s.drawn) (ch := []) (fun _ z => nomatch z) (fun b o _ hb _ e n => u.keep b o e n hb (by simp)) (fun b o _ hb _ e n => u.slot b o e n hb (by simp)) (fun b o _ e n => u.free b o e n (by simp)) (fun b o _ e => u.there b o e (by simp)) u.tups u.frzs u.tbls (fun m' hm => by
    obtain ⟨o', es', ep', ho', r'⟩ := hm
    rw [ho] at ho'; cases ho'
    exact ⟨_, es', ep', hL, r'⟩) hok I.bare
/-- behind a call (or a comprehension's block): the slots of this frame may have changed too, the records at ch may have turned -/
theorem Inv.call {g' : Array GenState} {t' : Nat} {d' : Drawn} {ch : List Addr} (I : Inv X pins σ H s) (u : Un (frs X.stack) ch H H' s.heap h') (hok : HOk X.prog X.w H' h') (hg : AllBare g')
    (hch : ∀ b ∈ ch, (b ∈ X.ex ∨ X.s₀.heap.objs.size ≤ b) ∧ b ≠ X.env.locals ∧ (∀ x c, X.env.cells.lookup x = some c → c ≠ b) ∧ ∀ p ∈ X.pn ++ pins, p.1 ≠ b) :
    Inv X pins σ H' { s with heap := h', gens := g', drawn := d', toks := t' } := by
  obtain ⟨m, ⟨o, es, ep, ho, r⟩, _⟩ := id I.loc
  obtain ⟨sl, hL⟩ := u.any ho I.free fun z => (hch _ z).2.1 rfl
  exact I.step (ch := ch) hch (fun b o hL hb hc e n => u.keep b o e n (fun z => (List.mem_cons.mp (I.stkSub b z)).elim hL hb) hc) (fun b o _ _ hc e n => u.any e n hc) (fun b o hc e n => u.free b o e n hc) (fun b o hc e => u.there b o e hc) u.tups u.frzs u.tbls (fun m' hm => by
    obtain ⟨o', es', ep', ho', r'⟩ := hm
    rw [ho] at ho'; cases ho'
    exact ⟨_, es', ep', hL, r'⟩) hok hg
/-- an untracked record of ours (an iterator) has turned -/
theorem Inv.turned {t' : Nat} {it : Addr} (I : Inv X pins σ H s) (k : ∀ b o, b ≠ it → s.heap.get? b = some o → h'.get? b = some o) (hn : H it = none) (hL : it ≠ X.env.locals)
    (h1 : it ∈ X.ex ∨ X.s₀.heap.objs.size ≤ it) (h2 : ∀ x c, X.env.cells.lookup x = some c → c ≠ it) (h3 : ∀ p ∈ X.pn ++ pins, p.1 ≠ it) : Inv X pins σ H { s with heap := h', toks := t' } := by
  have nit : ∀ b u, H b = some u → b ≠ it := fun b u e z => by rw [z, hn] at e; cases e
  refine I.step (g' := s.gens) (d' := s.drawn) (ch := [it]) (fun b hb => ?_) (fun b o _ _ hc e _ => k b o (fun z => hc (by simp [z])) e) (fun b o _ _ hc e _ => ⟨o.slots, k b o (fun z => hc (by simp [z])) e⟩) (fun _ _ _ _ n => n)
    (fun b o hc e => ⟨o, k b o (fun z => hc (by simp [z])) e⟩) (fun _ _ e => e) (fun _ _ _ e => e) (fun b ps e => ⟨#[], by rw [e]; simp⟩) (fun m hm => ?_) (fun b u e => ?_) I.bare
  · have e : b = it := by simpa using hb
    subst e
    exact ⟨h1, hL, h2, h3⟩
  · obtain ⟨o, es, ep, ho, r⟩ := hm
    exact ⟨o, es, ep, k _ o (Ne.symm hL) ho, r⟩
  · refine (I.hok b u e).stay (fun c v hc q => k c v ?_ q) (fun _ q => q) fun _ _ q => q
    rcases hc with z | z
    · rw [z]; exact nit b u e
    · exact nit c _ z
theorem Inv.tok (I : Inv X pins σ H s) (t : Nat) : Inv X pins σ H { s with toks := t } := I.un (h' := s.heap) (t' := t) Un.refl I.hok
/-- all objects kept -/
theorem Inv.kept {t' : Nat} (I : Inv X pins σ H s) (k : ∀ b u, s.heap.get? b = some u → h'.get? b = some u) : Inv X pins σ H { s with heap := h', toks := t' } := I.un (Un.kept k) (I.hok.kept k)
/-- a new object laid and tracked -/
theorem Inv.laid {a : Addr} {o : HO} {t' : Nat} (I : Inv X pins σ H s) (k : ∀ b u, s.heap.get? b = some u → h'.get? b = some u) (hp : s.heap.objs.size ≤ a) (new : ObjOk X.prog X.w (upd H a o) h' a o) :
    Inv X pins σ (upd H a o) { s with heap := h', toks := t' } := I.un (Un.laid k hp (I.hok.fresh hp)) (I.hok.laid k hp new)
/-- an object written -/
theorem Inv.write {x e : Addr} {o : HO} {t' : Nat} (I : Inv X pins σ H s) (mu : Mut (H x)) (he : e = x ∨ H e = some (.own x)) (k : ∀ b u, b ≠ e → s.heap.get? b = some u → h'.get? b = some u) (heo : ∃ u, h'.get? e = some u)
    (new : ObjOk X.prog X.w (upd H x o) h' x o) : Inv X pins σ (upd H x o) { s with heap := h', toks := t' } := I.un (Un.write mu he k heo) (I.hok.write mu he k heo new)
theorem Inv.pins_of {pins' : List (Addr × Obj)} (I : Inv X pins σ H s) (h : ∀ p ∈ pins', s.heap.get? p.1 = some p.2 ∧ H p.1 = none ∧ p.1 ≠ X.env.locals ∧ p.1 ∉ X.fs ∧ ∀ v, p.2.data ≠ .cell v) : Inv X pins' σ H s :=
  ⟨I.ok, I.os, I.bare, I.base, I.loc, I.cell, I.free, I.freeC, fun p hp => (List.mem_append.mp hp).elim (fun z => I.pin p (List.mem_append_left _ z)) (h p), I.hok, I.len⟩
theorem nodup_ix {N : List Str} (hN : N.Nodup) {i j : Nat} {x : Str} (a : N[i]? = some x) (b : N[j]? = some x) : i = j := by
  obtain ⟨h1, e1⟩ := List.getElem?_eq_some_iff.mp a
  obtain ⟨h2, e2⟩ := List.getElem?_eq_some_iff.mp b
  exact (List.getElem_inj hN).mp (e1.trans e2.symm)
/-- a name is stored; what changed -/
theorem store_ok2 {M : Model} {A : Around} {E : Value → Shared → Prop} {i : Nat} {x : Str} {v : V} {u : Value} {Q : Unit → Shared → Prop} (I : Inv X pins σ H s) (hN : X.N.Nodup) (hi : X.N[i]? = some x) (hx : Loc X.env.scope x) (r : RelV v u)
    (h : ∀ s', Inv X pins (σ.set i (some v)) H s' → (∃ a, Heap.SameBut a s.heap s'.heap ∧ (a = X.env.locals ∨ X.env.cells.lookup x = some a)) → Q () s') (hf : X.fn x = true ∨ X.env.scope.names.lookup x = some .local := by first | exact .inl rfl | exact .inr rfl | assumption) : wpAny M A (storeName X.env x u) Q E s := by
  obtain ⟨m, hn, hl⟩ := id I.loc
  have hcls : (X.env.scope.kind == .class || (X.env.scope.kind == .module && X.env.locals != X.env.globals)) = false := by rw [I.ok.kind]; rfl
  have hiσ : i < σ.length := by rw [I.len]; exact (List.getElem?_eq_some_iff.mp hi).1
  have cne := I.cne
  have tracked : ∀ {a : Addr} {h' : Heap}, (∃ o, s.heap.get? a = some o ∧ H a = none) → Heap.SameBut a s.heap h' → HOk X.prog X.w H h' := fun {a h'} ha hs b ob e => by
    obtain ⟨_, _, hfree⟩ := ha
    refine (I.hok b ob e).stay (fun c w' hc q => (hs.2 c ?_).trans q) (fun _ q => q) fun _ _ q => q
    rintro rfl
    rcases hc with rfl | hc
    · rw [hfree] at e; cases e
    · rw [hfree] at hc; cases hc
  rcases hx with hk | hk
  · refine wpAny_storeName_local hk hn (fun h' hn' hs => ?_) hcls
    obtain ⟨oL, _, _, hoL, _⟩ := id hn
    refine h _ ⟨I.ok, I.os, I.bare, ⟨fun b o e n hb hx => ?_, fun b o e n hb hx => ?_, I.base.free, fun b o e hx => ?_, I.base.tups, I.base.frzs, I.base.tbls⟩, ⟨_, hn', fun j y v' e1 e2 e3 => ?_⟩, fun y c e => ?_, I.free, I.freeC, fun p hp => ?_, tracked ⟨oL, hoL, I.free⟩ hs, by simpa using I.len⟩ ⟨_, hs, .inl rfl⟩
    · exact (hs.2 b (Nat.ne_of_lt (Nat.lt_of_lt_of_le (Heap.lt_size e) I.ok.above))).trans (I.base.keep b o e n hb hx)
    · obtain ⟨sl, e1⟩ := I.base.slot b o e n hb hx
      exact ⟨sl, (hs.2 b (Nat.ne_of_lt (Nat.lt_of_lt_of_le (Heap.lt_size e) I.ok.above))).trans e1⟩
    · obtain ⟨o', e1⟩ := I.base.there b o e hx
      exact ⟨o', (hs.2 b (Nat.ne_of_lt (Nat.lt_of_lt_of_le (Heap.lt_size e) I.ok.above))).trans e1⟩
    · by_cases hj : j = i
      · subst hj
        rw [hi] at e1; cases e1
        rw [List.getElem?_set_self hiσ] at e2
        cases e2
        exact ⟨u, r, .inl ⟨hk, by simp⟩⟩
      · rw [List.getElem?_set_ne (Ne.symm hj)] at e2
        obtain ⟨u', r', q⟩ := hl j y v' e1 e2 e3
        refine ⟨u', r', ?_⟩
        rcases q with ⟨k, e⟩ | ⟨k, c, e, z⟩
        · refine .inl ⟨k, ?_⟩
          have : y ≠ x := fun e => hj (nodup_ix hN e1 (e ▸ hi))
          simp [this, e]
        · exact .inr ⟨k, c, e, z.sameBut hs (cne y c e)⟩
    · obtain ⟨w', z⟩ := I.cell y c e
      exact ⟨w', z.sameBut hs (cne y c e)⟩
    · obtain ⟨e, n, ne, nf, d⟩ := I.pin p hp
      exact ⟨(hs.2 p.1 ne).trans e, n, ne, nf, d⟩
  · have hfn : X.fn x = true := by
      rcases hf with z | z
      · exact z
      · rw [z] at hk; cases hk
    obtain ⟨c, hc⟩ := I.ok.has x (.inl hk)
    obtain ⟨w', z⟩ := I.cell x c hc
    refine wpAny_storeName_cell I.ok.kind hk hc z (fun h' hc' hs => ?_)
    obtain ⟨oc, hoc, hocd⟩ := id z
    refine h { s with heap := h' } ⟨I.ok, I.os, I.bare, ⟨fun b o e n hb hx => ?_, fun b o e n hb hx => ?_, I.base.free, fun b o e hx => ?_, I.base.tups, I.base.frzs, I.base.tbls⟩, ⟨m, hn.sameBut hs (Ne.symm (cne x c hc)), fun j y v' e1 e2 e3 => ?_⟩, fun y c' e => ?_, I.free, I.freeC, fun p hp => ?_, tracked ⟨oc, hoc, I.freeC x c hc⟩ hs, by simpa using I.len⟩ ⟨c, hs, .inr hc⟩
    · exact (hs.2 b (Nat.ne_of_lt (Nat.lt_of_lt_of_le (Heap.lt_size e) (I.ok.cab x c hfn hc)))).trans (I.base.keep b o e n hb hx)
    · obtain ⟨sl, e1⟩ := I.base.slot b o e n hb hx
      exact ⟨sl, (hs.2 b (Nat.ne_of_lt (Nat.lt_of_lt_of_le (Heap.lt_size e) (I.ok.cab x c hfn hc)))).trans e1⟩
    · obtain ⟨o', e1⟩ := I.base.there b o e hx
      exact ⟨o', (hs.2 b (Nat.ne_of_lt (Nat.lt_of_lt_of_le (Heap.lt_size e) (I.ok.cab x c hfn hc)))).trans e1⟩
    · by_cases hj : j = i
      · subst hj
        rw [hi] at e1; cases e1
        rw [List.getElem?_set_self hiσ] at e2
        cases e2
        exact ⟨u, r, .inr ⟨.inl hk, c, hc, hc'⟩⟩
      · rw [List.getElem?_set_ne (Ne.symm hj)] at e2
        obtain ⟨u', r', q⟩ := hl j y v' e1 e2 e3
        refine ⟨u', r', ?_⟩
        rcases q with q | ⟨k, c', e, z'⟩
        · exact .inl q
        · refine .inr ⟨k, c', e, z'.sameBut hs ?_⟩
          rintro rfl
          exact hj (nodup_ix hN e1 (I.ok.inj _ _ _ e hc ▸ hi))
    · by_cases hcc : c' = c
      · subst hcc; exact ⟨_, hc'⟩
      · obtain ⟨w2, z2⟩ := I.cell y c' e
        exact ⟨w2, z2.sameBut hs hcc⟩
    · obtain ⟨e, n, ne, nf, d⟩ := I.pin p hp
      refine ⟨(hs.2 p.1 ?_).trans e, n, ne, nf, d⟩
      intro q
      rw [q, hoc] at e
      have q' : oc = p.2 := Option.some.inj e
      exact d w' (by rw [← q']; exact hocd)
theorem store_ok {M : Model} {A : Around} {E : Value → Shared → Prop} {i : Nat} {x : Str} {v : V} {u : Value} {Q : Unit → Shared → Prop} (I : Inv X pins σ H s) (hN : X.N.Nodup) (hi : X.N[i]? = some x) (hx : Loc X.env.scope x) (r : RelV v u)
    (h : ∀ s', Inv X pins (σ.set i (some v)) H s' → Q () s') (hf : X.fn x = true ∨ X.env.scope.names.lookup x = some .local := by first | exact .inl rfl | exact .inr rfl | assumption) : wpAny M A (storeName X.env x u) Q E s :=
  store_ok2 I hN hi hx r (fun s' I' _ => h s' I') hf
/-- behind a call or a block, the state as it is -/
theorem Inv.call' {s' : Shared} {ch : List Addr} (I : Inv X pins σ H s) (ho : s'.os = s.os) (u : Un (frs X.stack) ch H H' s.heap s'.heap) (hok : HOk X.prog X.w H' s'.heap) (hg : AllBare s'.gens)
    (hch : ∀ b ∈ ch, (b ∈ X.ex ∨ X.s₀.heap.objs.size ≤ b) ∧ b ≠ X.env.locals ∧ (∀ x c, X.env.cells.lookup x = some c → c ≠ b) ∧ ∀ p ∈ X.pn ++ pins, p.1 ≠ b) : Inv X pins σ H' s' := by
  obtain ⟨h', g', d', t', o'⟩ := s'
  have e : o' = s.os := ho
  subst e
  exact I.call (g' := g') (t' := t') (d' := d') u hok hg hch
end
/-! ### the judgements -/
/-- an exception: its class, its own dict's address (where it has one), the abstract heap behind it -/
abbrev XK := Value → Option Addr → Hp → Prop
abbrev St := List (Option V)
abbrev VK := V → Hp → Prop
/-- an expression's reading; a test's; an argument list's -/
abbrev TE := St → Hp → VK → Prop
abbrev TT := St → Hp → (Bool → Hp → Prop) → Prop
abbrev TA := St → Hp → (List V → Hp → Prop) → Prop
/-- what is wanted behind a statement -/
structure Ends where
  nx : St → Hp → Prop
  rt : VK
  bk : St → Hp → Prop := fun _ _ => False
  ct : St → Hp → Prop := fun _ _ => False
abbrev TS := Ends → St → Hp → Prop
def EP (X : Cx) (pins : List (Addr × Obj)) (σ : St) (Q : VK) (u : Value) (s' : Shared) : Prop := ∃ v H', Inv X pins σ H' s' ∧ RelV v u ∧ Q v H'
def TP (X : Cx) (pins : List (Addr × Obj)) (σ : St) (Q : Bool → Hp → Prop) (b : Bool) (s' : Shared) : Prop := ∃ H', Inv X pins σ H' s' ∧ Q b H'
def AP (X : Cx) (pins : List (Addr × Obj)) (σ : St) (Q : List V → Hp → Prop) (us : List Value) (s' : Shared) : Prop := ∃ vs H', Inv X pins σ H' s' ∧ Vals vs us ∧ Q vs H'
def SP (X : Cx) (pins : List (Addr × Obj)) (D : Ends) (f : Flow) (s' : Shared) : Prop :=
  match f with
  | .next => ∃ σ' H', Inv X pins σ' H' s' ∧ D.nx σ' H'
  | .brk => ∃ σ' H', Inv X pins σ' H' s' ∧ D.bk σ' H'
  | .cont => ∃ σ' H', Inv X pins σ' H' s' ∧ D.ct σ' H'
  | .ret u => ∃ v σ' H', Inv X pins σ' H' s' ∧ RelV v u ∧ D.rt v H'
def PE (X : Cx) (e : Expr) (t : TE) : Prop :=
  ∀ (pins : List (Addr × Obj)) (s : Shared) (σ : St) (H : Hp) (Q : VK), Inv X pins σ H s → t σ H Q → wpAny (model X.prog X.w) X.A (eval e X.env) (EP X pins σ Q) X.xe s
def PT (X : Cx) (e : Expr) (t : TT) : Prop :=
  ∀ (pins : List (Addr × Obj)) (s : Shared) (σ : St) (H : Hp) (Q : Bool → Hp → Prop), Inv X pins σ H s → t σ H Q → wpAny (model X.prog X.w) X.A (isTrue e X.env (eval e X.env)) (TP X pins σ Q) X.xe s
/-- a test whatever its 'whole' is (and, or) -/
def PW (X : Cx) (e : Expr) (t : TT) : Prop :=
  ∀ (whole : Sem Value) (pins : List (Addr × Obj)) (s : Shared) (σ : St) (H : Hp) (Q : Bool → Hp → Prop), Inv X pins σ H s → t σ H Q → wpAny (model X.prog X.w) X.A (isTrue e X.env whole) (TP X pins σ Q) X.xe s
theorem PW.pt {X : Cx} {e : Expr} {t : TT} (h : PW X e t) : PT X e t := h _
/-- an argument list (no star), from the left -/
def PA (X : Cx) (es : List Expr) (t : TA) : Prop :=
  ∀ (pos : Pos) (pins : List (Addr × Obj)) (s : Shared) (σ : St) (H : Hp) (Q : List V → Hp → Prop), Inv X pins σ H s → t σ H Q → wpAny (model X.prog X.w) X.A (spliced (backTo pos (starEach es X.env))) (AP X pins σ Q) X.xe s
def PS (X : Cx) (st : Stmt) (t : TS) : Prop :=
  ∀ (pins : List (Addr × Obj)) (s : Shared) (σ : St) (H : Hp) (D : Ends), Inv X pins σ H s → t D σ H → wpAny (model X.prog X.w) X.A (exec st X.env) (SP X pins D) X.xe s
def PSs (X : Cx) (st : List Stmt) (t : TS) : Prop :=
  ∀ (pins : List (Addr × Obj)) (s : Shared) (σ : St) (H : Hp) (D : Ends), Inv X pins σ H s → t D σ H → wpAny (model X.prog X.w) X.A (execs st X.env) (SP X pins D) X.xe s
/-- weaken the end -/
theorem thn {α : Type} {t : Sem α} {Q Q' : α → Shared → Prop} {M : Model} {A : Around} {E : Value → Shared → Prop} {s : Shared} (h : wpAny M A t Q E s) (hQ : ∀ a s, Q a s → Q' a s) : wpAny M A t Q' E s := wpAny_mono h hQ fun _ _ x => x
end L2
namespace L2
open PySem PySem.Spec PyProof.Rows
section
variable {X : Cx}
/-- two expressions in a row -/
theorem bin {a b : Expr} {ta tb : TE} (ha : PE X a ta) (hb : PE X b tb) {pins : List (Addr × Obj)} {s : Shared} {σ : St} {H : Hp} {R : V → V → Hp → Prop} (I : Inv X pins σ H s) (h : ta σ H fun x H1 => tb σ H1 fun y H2 => R x y H2)
    {α : Type} {Q : α → Shared → Prop} {f : Value → Value → Sem α}
    (hf : ∀ v u s2 x y H2, Inv X pins σ H2 s2 → RelV x v → RelV y u → R x y H2 → wpAny (model X.prog X.w) X.A (f v u) Q X.xe s2) :
    wpAny (model X.prog X.w) X.A (eval a X.env) (fun v s₁ => wpAny (model X.prog X.w) X.A (eval b X.env) (fun u s₂ => wpAny (model X.prog X.w) X.A (f v u) Q X.xe s₂) X.xe s₁) X.xe s := by
  refine thn (ha pins s σ H _ I h) fun v s1 ⟨x, H1, I1, r1, q1⟩ => ?_
  refine thn (hb pins s1 σ H1 _ I1 q1) fun u s2 ⟨y, H2, I2, r2, q2⟩ => ?_
  exact hf v u s2 x y H2 I2 r1 r2 q2
/-! ### names and constants -/
def tVar (i : Nat) : TE := fun σ H Q => ∃ v, σ[i]? = some (some v) ∧ Q v H
def tC (v : V) : TE := fun _ H Q => Q v H
theorem pe_var {i : Nat} {x : Str} {pos : Pos} (hN : X.N[i]? = some x) (hv : Vis X.env.scope x) (hd : (x == ("__debug__" : Str)) = false := by decide) (hcd : (x == ("__classdict__" : Str)) = false := by decide) : PE X (.Name x pos) (tVar i) := by
  intro pins s σ H Q I h
  obtain ⟨v, e, h⟩ := h
  obtain ⟨m, hn, hl⟩ := I.loc
  obtain ⟨u, r, l⟩ := hl i x v hN e hv
  have fin : EP X pins σ Q u s := ⟨v, H, I, r, h⟩
  rcases l with ⟨hk, hm⟩ | ⟨hk, c, hc, hcell⟩
  · exact wpAny_Name (wpAny_loadName_local I.ok.kind hk hn hm fin) hd
  · rcases hk with hk | hk
    · exact wpAny_Name (wpAny_loadName_cell I.ok.kind hk hc hcell fin) hd
    · exact wpAny_Name (wpAny_loadName_free I.ok.kind hk hc hcell fin hcd) hd
theorem pe_int {i j pos} : PE X (.Constant (.int i) j pos) (tC (.int i)) := fun _ _ _ H _ I h => wpAny_Constant_int ⟨.int i, H, I.tok _, ⟨_, rfl⟩, h⟩
theorem pe_bl {b j pos} : PE X (.Constant (.bool b) j pos) (tC (.bl b)) := fun _ _ _ H _ I h => Constant_bool ⟨.bl b, H, I, rfl, h⟩
theorem pe_non {j pos} : PE X (.Constant .none j pos) (tC .non) := fun _ _ _ H _ I h => Constant_none ⟨.non, H, I, rfl, h⟩
theorem pe_str {x j pos} : PE X (.Constant (.str x) j pos) (tC (.str x)) := fun _ _ _ H _ I h => Calls.Constant_str ⟨.str x, H, I.tok _, ⟨_, rfl⟩, h⟩
/-- a global name of the def -/
def Gl (X : Cx) (x : Str) : Prop := X.env.kindOf x = some .globalImplicit
theorem ld_glob {E : Value → Shared → Prop} {pins : List (Addr × Obj)} {s : Shared} {σ : St} {H : Hp} {x : Str} {u : Value} {pos : Pos} {Q : Value → Shared → Prop} (I : Inv X pins σ H s) (hg : Gl X x) (hm : X.mg x = some u) (h : Q u s)
    (hd : (x == ("__debug__" : Str)) = false := by decide) : wpAny (model X.prog X.w) X.A (eval (.Name x pos) X.env) Q E s :=
  Calls.Name_function_global I.ok.kind hg (Calls.loadGlobal_global (by rw [I.ok.glob]; exact I.mod.glob.keeps I.bk) hm h) hd
theorem ld_blt {E : Value → Shared → Prop} {pins : List (Addr × Obj)} {s : Shared} {σ : St} {H : Hp} {x : Str} {u : Value} {pos : Pos} {Q : Value → Shared → Prop} (I : Inv X pins σ H s) (hg : Gl X x) (hm : X.mg x = none) (hv : bootBuiltins x = some u) (h : Q u s)
    (hn : x ≠ "__name__" := by decide) (hd : (x == ("__debug__" : Str)) = false := by decide) : wpAny (model X.prog X.w) X.A (eval (.Name x pos) X.env) Q E s := by
  obtain ⟨mb, h1, h2⟩ := I.mod.blt
  exact Calls.Name_function_global I.ok.kind hg (Calls.loadGlobal_builtin (by rw [I.ok.glob]; exact I.mod.glob.keeps I.bk) hm (by rw [I.ok.blt]; exact h1.keeps I.bk) ((h2 x hn).trans hv) h) hd
/-- a module's constant, a class, a function, as a value -/
theorem pe_glob {x : Str} {v : V} {u : Value} {pos : Pos} (hg : Gl X x) (hm : X.mg x = some u) (r : RelV v u) (hd : (x == ("__debug__" : Str)) = false := by decide) : PE X (.Name x pos) (tC v) :=
  fun _ _ _ H _ I h => ld_glob I hg hm ⟨v, H, I, r, h⟩ hd
theorem pe_bltn {x : Str} {v : V} {u : Value} {pos : Pos} (hg : Gl X x) (hm : X.mg x = none) (hv : bootBuiltins x = some u) (r : RelV v u) (hn : x ≠ "__name__" := by decide) (hd : (x == ("__debug__" : Str)) = false := by decide) : PE X (.Name x pos) (tC v) :=
  fun _ _ _ H _ I h => ld_blt I hg hm hv ⟨v, H, I, r, h⟩ hn hd
variable {a b : Expr} {ta tb : TE} {pos : Pos}
/-! ### comparisons -/
def PC (X : Cx) (op : CmpOp) (a b : Expr) (t : TE) : Prop :=
  ∀ (pins : List (Addr × Obj)) (s : Shared) (σ : St) (H : Hp) (Q : VK), Inv X pins σ H s → t σ H Q →
    wpAny (model X.prog X.w) X.A (eval a X.env) (fun v s₁ => wpAny (model X.prog X.w) X.A (eval b X.env) (fun u s₂ => wpAny (model X.prog X.w) X.A (compareOp op v u) (EP X pins σ Q) X.xe s₂) X.xe s₁) X.xe s
theorem nobehind (b : Expr) {op : CmpOp} (h : op ≠ .In) (h2 : op ≠ .NotIn) : behindInMarks op b = false := by
  have e1 : (op == CmpOp.In) = false := by cases op <;> first | rfl | exact absurd rfl h
  have e2 : (op == CmpOp.NotIn) = false := by cases op <;> first | rfl | exact absurd rfl h2
  cases b <;> simp [behindInMarks, e1, e2]
/-- a comparison as a value, as a test -/
def tB (t : TE) : TT := fun σ H Q => t σ H fun x H1 => ∃ c, x = .bl c ∧ Q c H1
theorem pt_cmp {op : CmpOp} {t : TE} (h : PC X op a b t) (h1 : behindInMarks op b = false := by first | exact nobehind _ (by decide) (by decide) | rfl) : PT X (.Compare a [op] [b] pos) (tB t) := by
  intro pins s σ H Q I hw
  refine wpAny_isTrue_Compare1 (thn (h pins s σ H _ I hw) fun v s1 h1 => thn h1 fun u s2 h2 => thn h2 fun c s3 ⟨x, H1, I1, r1, q1⟩ => ?_) h1
  obtain ⟨d, rfl, q⟩ := q1
  cases r1
  exact wpAny_truthy_bool ⟨H1, I1, q⟩
/-- an expression whose value is a bool, as a test -/
theorem pt_val {e : Expr} {t : TE} (h : PE X e t) (he : ∀ whole, isTrue e X.env whole = (do let v ← whole; standAt e.pos; holding [v] (truthy v)) := by intro _; rfl) : PT X e (tB t) := by
  intro pins s σ H Q I hw
  refine isTrue_plain (thn (h pins s σ H _ I hw) fun v s1 ⟨x, H1, I1, r1, q1⟩ => ?_) (he _)
  obtain ⟨d, rfl, q⟩ := q1
  cases r1
  exact wpAny_truthy_bool ⟨H1, I1, q⟩
/-! ### and, or, not -/
variable {tA tB' : TT} {rest : List Expr}
def tOr (t u : TT) : TT := fun σ H Q => t σ H fun c H1 => if c = true then Q true H1 else u σ H1 Q
def tNot (t : TT) : TT := fun σ H Q => t σ H fun c H1 => Q (!c) H1
theorem pw_or1 (ha : PT X a tA) : PW X (.BoolOp .Or [a] pos) tA := by
  intro wh pins s σ H Q I h
  refine isTrue_or (thn (ha pins s σ H Q I h) fun c s1 e => ?_)
  cases c with
  | false => exact isTrue_or_nil e
  | true => exact e
theorem pw_or (ha : PT X a tA) (hb : PW X (.BoolOp .Or (b :: rest) pos) tB') : PW X (.BoolOp .Or (a :: b :: rest) pos) (tOr tA tB') := by
  intro wh pins s σ H Q I h
  refine isTrue_or (thn (ha pins s σ H _ I h) fun c s1 ⟨H1, I1, q1⟩ => ?_)
  cases c with
  | true => exact ⟨H1, I1, q1⟩
  | false => exact hb wh pins s1 σ H1 Q I1 q1
theorem pt_not (ha : PT X a tA) : PT X (.UnaryOp .Not a pos) (tNot tA) := by
  intro pins s σ H Q I h
  exact isTrue_not (ha pins s σ H (fun c H1 => Q (!c) H1) I h)
/-- .. as values (bools) -/
def tAndV (ta tb : TE) : TE := fun σ H Q => ta σ H fun x H1 => ∃ c, x = .bl c ∧ if c = true then tb σ H1 Q else Q (.bl false) H1
def tNotV (ta : TE) : TE := fun σ H Q => ta σ H fun x H1 => ∃ c, x = .bl c ∧ Q (.bl (!c)) H1
theorem pe_one {op} {t : TE} (h : PE X a t) : PE X (.BoolOp op [a] pos) t := fun pins s σ H Q I hw => BoolOp_one (h pins s σ H Q I hw)
theorem pe_and (ha : PE X a ta) (hb : PE X (.BoolOp .And (b :: rest) pos) tb) : PE X (.BoolOp .And (a :: b :: rest) pos) (tAndV ta tb) := by
  intro pins s σ H Q I h
  refine BoolOp_and (thn (ha pins s σ H _ I h) fun v s1 ⟨x, H1, I1, r1, q1⟩ => ?_)
  obtain ⟨c, rfl, q1⟩ := q1
  cases r1
  refine wpAny_truthy_bool ?_
  cases c with
  | true => exact hb pins s1 σ H1 Q I1 q1
  | false => exact ⟨.bl false, H1, I1, rfl, q1⟩
theorem pe_not (ha : PE X a ta) : PE X (.UnaryOp .Not a pos) (tNotV ta) := by
  intro pins s σ H Q I h
  refine UnaryOp_ (thn (ha pins s σ H _ I h) fun v s1 ⟨x, H1, I1, r1, q1⟩ => ?_)
  obtain ⟨c, rfl, q1⟩ := q1
  cases r1
  exact not_of (wpAny_truthy_bool ⟨.bl (!c), H1, I1, rfl, q1⟩)
end
end L2
namespace L2
open PySem PySem.Spec PyProof.Rows
/-! ### a list, a tuple that is read: tracked, frozen, or an object of the module -/
def SqL (K : PySem.W.Frag) (H : Hp) (a : Addr) (xs : List V) : Prop :=
  Rd H a (.lst xs) ∨
    ∃ (o : Obj) (its : Array Value) (n : Nat), K.lookup a = some o ∧ o.cls = .type "list" ∧ o.dict = none ∧ o.data = .seq its n ∧ its.size ≤ sizeLine ∧ Vals xs its.toList
def SqT (K : PySem.W.Frag) (H : Hp) (a : Addr) (xs : List V) : Prop :=
  Rd H a (.tup xs) ∨
    ∃ (o : Obj) (its : Array Value) (n : Nat), K.lookup a = some o ∧ o.cls = .type "tuple" ∧ o.data = .seq its n ∧ its.size ≤ sizeLine ∧ Vals xs its.toList
def absV : Value → Option V
  | .none => some .non
  | .bool b => some (.bl b)
  | .int i _ => some (.int i)
  | .str x _ => some (.str x)
  | .bytes b _ => some (.byt b)
  | .float b _ => some (.flt b)
  | .ref a => some (.ref a)
  | .type n => some (.ty n)
  | _ => none
theorem RelV.abs {x : V} {u : Value} (r : RelV x u) : absV u = some x := by
  cases x with
  | non => cases r; rfl
  | bl _ => cases r; rfl
  | int _ => obtain ⟨t, rfl⟩ := r; rfl
  | str _ => obtain ⟨t, rfl⟩ := r; rfl
  | byt _ => obtain ⟨t, rfl⟩ := r; rfl
  | flt _ => obtain ⟨t, rfl⟩ := r; rfl
  | ref _ => cases r; rfl
  | ty _ => cases r; rfl
theorem RelV.inj {x y : V} {u : Value} (r : RelV x u) (q : RelV y u) : x = y := Option.some.inj (r.abs.symm.trans q.abs)
theorem Vals.inj : ∀ {xs ys : List V} {us : List Value}, Vals xs us → Vals ys us → xs = ys
  | _, _, _, .nil, .nil => rfl
  | _, _, _, .cons r t, .cons r' t' => by rw [r.inj r', Vals.inj t t']
section
variable {X : Cx} {pins : List (Addr × Obj)} {σ : St} {H : Hp} {s : Shared} {a : Addr} {xs ys : List V}
theorem SqL.of {K : PySem.W.Frag} (h : H a = some (.lst xs)) : SqL K H a xs := .inl (.inl h)
theorem SqT.of {K : PySem.W.Frag} (h : H a = some (.tup xs)) : SqT K H a xs := .inl (.inl h)
theorem Inv.list (I : Inv X pins σ H s) (h : SqL X.K H a xs) : ∃ its : List Value, Vals xs its ∧ PlainL s.heap a its.toArray ∧ xs.length ≤ sizeLine := by
  rcases h with h | ⟨o, its, n, hk, hc, hd, hs, hz, r⟩
  · obtain ⟨z, its, n, r, e⟩ := h.ok I.hok
    exact ⟨its, r, ⟨_, n, e, rfl, rfl, rfl⟩, z⟩
  · refine ⟨its.toList, r, ⟨o, n, I.kIn a o hk, hc, hd, by simpa using hs⟩, ?_⟩
    have e := r.length
    simp only [Array.length_toList] at e
    omega
theorem Inv.tuple (I : Inv X pins σ H s) (h : SqT X.K H a xs) : ∃ its : List Value, Vals xs its ∧ IsTup s.heap a its.toArray ∧ xs.length ≤ sizeLine := by
  rcases h with h | ⟨o, its, n, hk, hc, hs, hz, r⟩
  · obtain ⟨z, its, r, p⟩ := h.ok I.hok
    exact ⟨its, r, p, z⟩
  · refine ⟨its.toList, r, ⟨o, I.kIn a o hk, hc, n, by simpa using hs⟩, ?_⟩
    have e := r.length
    simp only [Array.length_toList] at e
    omega
theorem Inv.list_inj (I : Inv X pins σ H s) (h : SqL X.K H a xs) (h' : SqL X.K H a ys) : xs = ys := by
  obtain ⟨its, r, ⟨o, n, e, _, _, d⟩, _⟩ := I.list h
  obtain ⟨its', r', ⟨o', n', e', _, _, d'⟩, _⟩ := I.list h'
  rw [e] at e'; cases e'
  rw [d] at d'
  injection d' with d1 _
  have : its = its' := by simpa using congrArg Array.toList d1
  subst this
  exact r.inj r'
theorem Inv.tuple_inj (I : Inv X pins σ H s) (h : SqT X.K H a xs) (h' : SqT X.K H a ys) : xs = ys := by
  obtain ⟨its, r, ⟨o, e, _, n, d⟩, _⟩ := I.tuple h
  obtain ⟨its', r', ⟨o', e', _, n', d'⟩, _⟩ := I.tuple h'
  rw [e] at e'; cases e'
  rw [d] at d'
  injection d' with d1 _
  have : its = its' := by simpa using congrArg Array.toList d1
  subst this
  exact r.inj r'
end
/-! ### another wish about exceptions -/
abbrev Cx.wish (X : Cx) (E : Value → Shared → Prop) : Cx := { X with xe := E }
/-- no exception leaves -/
abbrev Cx.nox (X : Cx) : Cx := X.wish fun _ _ => False
theorem Cx.Ok.wish {X : Cx} (ok : X.Ok) (E : Value → Shared → Prop) : (X.wish E).Ok :=
  ⟨ok.mod, ok.kind, ok.glob, ok.blt, ok.above, ok.inj, ok.has, ok.cab, ok.hd, ok.frames, ok.stk, ok.exf, ok.bs, ok.bsz, ok.noex, ok.exfs, ok.funs, ok.frf⟩
theorem Cx.Ok.unwish {X : Cx} {E : Value → Shared → Prop} (ok : (X.wish E).Ok) : X.Ok :=
  ⟨ok.mod, ok.kind, ok.glob, ok.blt, ok.above, ok.inj, ok.has, ok.cab, ok.hd, ok.frames, ok.stk, ok.exf, ok.bs, ok.bsz, ok.noex, ok.exfs, ok.funs, ok.frf⟩
section
variable {X : Cx} {pins : List (Addr × Obj)} {σ : St} {H : Hp} {s : Shared} {E : Value → Shared → Prop}
theorem Inv.wish (I : Inv X pins σ H s) (E : Value → Shared → Prop) : Inv (X.wish E) pins σ H s := ⟨I.ok.wish E, I.os, I.bare, I.base, I.loc, I.cell, I.free, I.freeC, I.pin, I.hok, I.len⟩
theorem Inv.unwish (I : Inv (X.wish E) pins σ H s) : Inv X pins σ H s := ⟨I.ok.unwish, I.os, I.bare, I.base, I.loc, I.cell, I.free, I.freeC, I.pin, I.hok, I.len⟩
theorem SP.unwish {D : Ends} {f : Flow} {s' : Shared} (h : SP (X.wish E) pins D f s') : SP X pins D f s' := by
  cases f with
  | next => obtain ⟨σ', H', I, q⟩ := h; exact ⟨σ', H', I.unwish, q⟩
  | brk => obtain ⟨σ', H', I, q⟩ := h; exact ⟨σ', H', I.unwish, q⟩
  | cont => obtain ⟨σ', H', I, q⟩ := h; exact ⟨σ', H', I.unwish, q⟩
  | ret u => obtain ⟨v, σ', H', I, r, q⟩ := h; exact ⟨v, σ', H', I.unwish, r, q⟩
theorem PE.nox {e : Expr} {t : TE} (h : PE X.nox e t) : PE X e t := fun pins s σ H Q I hw =>
  wpAny_mono (h pins s σ H Q (I.wish _) hw) (fun _ _ ⟨v, H', I', r, q⟩ => ⟨v, H', I'.unwish, r, q⟩) fun _ _ z => False.elim z
theorem PT.nox {e : Expr} {t : TT} (h : PT X.nox e t) : PT X e t := fun pins s σ H Q I hw =>
  wpAny_mono (h pins s σ H Q (I.wish _) hw) (fun _ _ ⟨H', I', q⟩ => ⟨H', I'.unwish, q⟩) fun _ _ z => False.elim z
theorem PSs.nox {st : List Stmt} {t : TS} (h : PSs X.nox st t) : PSs X st t := fun pins s σ H D I hw =>
  wpAny_mono (h pins s σ H D (I.wish _) hw) (fun _ _ q => q.unwish) fun _ _ z => False.elim z
end
/-! ### blocks and small statements -/
section
variable {X : Cx} {st : Stmt} {rest : List Stmt} {t u : TS} {e : Expr} {te : TE} {pos : Pos}
def tNext : TS := fun D σ H => D.nx σ H
def tSeq (t u : TS) : TS := fun D σ H => t { D with nx := u D } σ H
theorem pss_nil : PSs X [] tNext := fun _ _ σ H _ I h => wpAny_execs_nil ⟨σ, H, I, h⟩
theorem pss_cons (h1 : PS X st t) (h2 : PSs X rest u) : PSs X (st :: rest) (tSeq t u) := by
  intro pins s σ H D I h
  refine wpAny_execs_cons (thn (h1 pins s σ H { D with nx := u D } I h) fun f s1 q => ?_)
  cases f with
  | next =>
    obtain ⟨σ', H', I', q⟩ := q
    exact h2 pins s1 σ' H' D I' q
  | ret v => exact q
  | brk => exact q
  | cont => exact q
theorem pss_one (h1 : PS X st t) : PSs X [st] t := by
  intro pins s σ H D I h
  refine wpAny_execs_cons (thn (h1 pins s σ H D I h) fun f s1 q => ?_)
  cases f with
  | next => exact wpAny_execs_nil q
  | ret v => exact q
  | brk => exact q
  | cont => exact q
/-- in a def's body nothing is shown -/
theorem Inv.quiet {pins : List (Addr × Obj)} {σ : St} {H : Hp} {s : Shared} (I : Inv X pins σ H s) : interactive X.env = false := by simp [interactive, I.ok.kind]
/-- an expression whose value is dropped -/
def tDrop (te : TE) : TS := fun D σ H => te σ H fun _ H1 => D.nx σ H1
theorem ps_expr (he : PE X e te) (hs : swapsWith e none pos.line X.env = pure false := by rfl) : PS X (.Expr e pos) (tDrop te) := by
  intro pins s σ H D I h
  exact wpAny_Expr_any (thn (he pins s σ H _ I h) fun v s1 ⟨x, H1, I1, r1, q1⟩ => ⟨σ, H1, I1, q1⟩) I.quiet hs
def tRet (te : TE) : TS := fun D σ H => te σ H D.rt
theorem ps_ret (he : PE X e te) : PS X (.Return (some e) pos) (tRet te) := by
  intro pins s σ H D I h
  exact wpAny_Return_some (thn (he pins s σ H _ I h) fun v s1 ⟨x, H1, I1, r1, q1⟩ => ⟨x, σ, H1, I1, r1, q1⟩)
def tRetN : TS := fun D _ H => D.rt .non H
theorem ps_retN : PS X (.Return none pos) tRetN := fun _ _ σ H _ I h => wpAny_Return_none ⟨.non, σ, H, I, rfl, h⟩
def tIfS (c : TT) (t u : TS) : TS := fun D σ H => c σ H fun b H1 => if b = true then t D σ H1 else u D σ H1
theorem ps_if {c : Expr} {a b : List Stmt} {tc : TT} (hc : PT X c tc) (ha : PSs X a t) (hb : PSs X b u) : PS X (.If c a b pos) (tIfS tc t u) := by
  intro pins s σ H D I h
  refine wpAny_If (thn (hc pins s σ H _ I h) fun d s1 ⟨H1, I1, q1⟩ => ?_)
  cases d with
  | true => exact ha pins s1 σ H1 D I1 q1
  | false => exact hb pins s1 σ H1 D I1 q1
end
/-! ### targets -/
abbrev TG := V → St → Hp → (St → Hp → Prop) → Prop
abbrev TGs := List V → St → Hp → (St → Hp → Prop) → Prop
def PG (X : Cx) (target : Expr) (t : TG) : Prop :=
  ∀ (pins : List (Addr × Obj)) (s : Shared) (σ : St) (H : Hp) (v : V) (u : Value) (Q : St → Hp → Prop), Inv X pins σ H s → RelV v u → t v σ H Q →
    wpAny (model X.prog X.w) X.A (assign target X.env u) (fun _ s' => ∃ σ' H', Inv X pins σ' H' s' ∧ Q σ' H') X.xe s
/-- several targets, one after another -/
def PGs (X : Cx) (ts : List Expr) (t : TGs) : Prop :=
  ∀ (pins : List (Addr × Obj)) (s : Shared) (σ : St) (H : Hp) (vs : List V) (us : List Value) (Q : St → Hp → Prop), Inv X pins σ H s → Vals vs us → t vs σ H Q →
    wpAny (model X.prog X.w) X.A (assignInOrder ((assignEach ts X.env).map (·.2)) us) (fun _ s' => ∃ σ' H', Inv X pins σ' H' s' ∧ Q σ' H') X.xe s
section
variable {X : Cx} {pos : Pos}
def gName (i : Nat) : TG := fun v σ H Q => Q (σ.set i (some v)) H
theorem pg_name {i : Nat} {x : Str} (hN : X.N.Nodup) (hi : X.N[i]? = some x) (hx : Loc X.env.scope x) (hf : X.fn x = true ∨ X.env.scope.names.lookup x = some .local := by first | exact .inl rfl | exact .inr rfl | assumption) : PG X (.Name x pos) (gName i) := by
  intro pins s σ H v u Q I r h
  exact wpAny_assign_Name (store_ok I hN hi hx r (fun s' I' => ⟨_, H, I', h⟩) hf)
def gNil : TGs := fun vs σ H Q => vs = [] ∧ Q σ H
def gCons (t : TG) (u : TGs) : TGs := fun vs σ H Q => ∃ v r, vs = v :: r ∧ t v σ H fun σ' H' => u r σ' H' Q
theorem pgs_nil : PGs X [] gNil := by
  intro pins s σ H vs us Q I r h
  obtain ⟨e, h⟩ := h
  subst e
  cases r
  exact assignInOrder_nil ⟨σ, H, I, h⟩
theorem pgs_cons {e : Expr} {es : List Expr} {t : TG} {u : TGs} (h1 : PG X e t) (h2 : PGs X es u)
    (hs : (assignEach (e :: es) X.env).map (·.2) = assign e X.env :: (assignEach es X.env).map (·.2) := by rfl) : PGs X (e :: es) (gCons t u) := by
  intro pins s σ H vs us Q I r h
  obtain ⟨v, vr, e1, h⟩ := h
  subst e1
  cases r with
  | cons r rr =>
    rw [hs]
    refine assignInOrder_cons (thn (h1 pins s σ H _ _ _ I r h) fun _ s1 ⟨σ1, H1, I1, q1⟩ => ?_)
    exact h2 pins s1 σ1 H1 _ _ Q I1 rr q1
/-- (a, b, ..) = a tuple of that length -/
def gTup (K : PySem.W.Frag) (n : Nat) (t : TGs) : TG := fun v σ H Q => ∃ a xs, v = .ref a ∧ SqT K H a xs ∧ xs.length = n ∧ t xs σ H Q
theorem pg_tup {es : List Expr} {k : Nat} {t : TGs} {n : Nat} (hc : X.calm = true) (h : PGs X es t)
    (hn : (assignEach es X.env).length = n := by rfl) (hst : (assignEach es X.env).findIdx? (·.1) = none := by rfl) : PG X (.Tuple es k pos) (gTup X.K n t) := by
  intro pins s σ H v u Q I r hw
  obtain ⟨a, xs, e1, hq, hl, hw⟩ := hw
  subst e1
  cases r
  obtain ⟨its, rv, ht, hz⟩ := I.tuple hq
  refine assign_Tuple_tuple (I.ok.hd hc) ht (by simp [hn, ← hl, rv.length]) hst fun h' hx => ?_
  have I1 : Inv X pins σ H { s with heap := h' } := I.kept (t' := s.toks) fun b o e => hx b o (Nat.ne_of_lt (Heap.lt_size e)) e
  exact h pins _ σ H xs _ Q I1 (by simpa using rv) hw
/-- target = value -/
def tAsg (te : TE) (g : TG) : TS := fun D σ H => te σ H fun x H1 => g x σ H1 D.nx
/-- name = value -/
theorem ps_set {i : Nat} {x : Str} {e : Expr} {te : TE} {pos' : Pos} (hN : X.N.Nodup) (hi : X.N[i]? = some x) (hx : Loc X.env.scope x) (he : PE X e te) (hs : swapsWith e (some (.Name x pos')) pos.line X.env = pure false := by rfl) (hf : X.fn x = true ∨ X.env.scope.names.lookup x = some .local := by first | exact .inl rfl | exact .inr rfl | assumption) :
    PS X (.Assign [.Name x pos'] e pos) (tAsg te (gName i)) := by
  intro pins s σ H D I h
  refine wpAny_Assign_Name (thn (he pins s σ H _ I h) fun v s1 ⟨y, H1, I1, r1, q1⟩ => ?_) hs
  exact store_ok I1 hN hi hx r1 (fun s2 I2 => ⟨_, H1, I2, q1⟩) hf
end
/-! ### while -/
section
variable {X : Cx} {pos : Pos}
end
/-! ### what a loop or a comprehension walks -/
/-- at turn i: it yields x (the heap may grow), or it stops -/
structure It where
  go : Nat → Hp → Prop
  yld : Nat → Hp → V → Hp → Prop
  stop : Nat → Hp → Prop
/-- the iterator's own objects may turn: they are not the frame's, not pinned, younger than the entry (or a comprehension's own) -/
def FpOk (X : Cx) (pins : List (Addr × Obj)) (H : Hp) (b : Addr) : Prop :=
  H b = none ∧ b ≠ X.env.locals ∧ b ∉ X.fs ∧ (b ∈ X.ex ∨ X.s₀.heap.objs.size ≤ b) ∧ (∀ x c, X.env.cells.lookup x = some c → c ≠ b) ∧ ∀ p ∈ X.pn ++ pins, p.1 ≠ b
theorem Inv.fpOk {X : Cx} {pins : List (Addr × Obj)} {σ : St} {H H' : Hp} {s : Shared} {b : Addr} (I : Inv X pins σ H s) (hb : s.heap.objs.size ≤ b) (hn : H' b = none) : FpOk X pins H' b := by
  refine ⟨hn, Nat.ne_of_gt (Nat.lt_of_lt_of_le I.lt hb), I.nofs hb, .inr (Nat.le_trans I.sz hb), fun x c e z => ?_, fun p hp z => ?_⟩
  · obtain ⟨v, q⟩ := I.cell x c e
    exact absurd (Nat.lt_of_lt_of_le q.lt (by rw [z]; exact hb)) (Nat.lt_irrefl _)
  · exact absurd (Nat.lt_of_lt_of_le (Heap.lt_size (I.pin p hp).1) (by rw [z]; exact hb)) (Nat.lt_irrefl _)
structure Turn (P : Program) (w : World) (K : PySem.W.Frag) (tg : Expr) (J : It) (fp : List Addr) (it : Addr) (tn : Nat → Heap → Prop) : Prop where
  mem : it ∈ fp
  obj : ∀ i h, tn i h → ∀ b ∈ fp, ∃ o, h.get? b = some o ∧ ∀ v, o.data ≠ .cell v
  keep : ∀ i h h', tn i h → (∀ b ∈ fp, ∀ o, h.get? b = some o → h'.get? b = some o) → tn i h'
  item : ∀ (X : Cx), X.prog = P → X.w = w → X.K = K → X.calm = true → ∀ (i : Nat) (pins : List (Addr × Obj)) (s : Shared) (σ : St) (H : Hp) (E : Value → Shared → Prop), Inv X pins σ H s → (∀ b ∈ fp, FpOk X pins H b) → tn i s.heap → J.go i H →
    wpAny (model P w) X.A (pyNext (.ref it)) (fun r s1 => ∃ u, r = some u ∧
      wpAny (model P w) X.A (letOwnedTupleGo tg (.ref it) u) (fun _ s2 => ∃ x H', Inv X pins σ H' s2 ∧ RelV x u ∧ J.yld i H x H' ∧ tn (i + 1) s2.heap ∧ ∀ b ∈ fp, H' b = none) E s1) E s
  done : ∀ (X : Cx), X.prog = P → X.w = w → X.K = K → X.calm = true → ∀ (i : Nat) (pins : List (Addr × Obj)) (s : Shared) (σ : St) (H : Hp) (E : Value → Shared → Prop), Inv X pins σ H s → (∀ b ∈ fp, FpOk X pins H b) → tn i s.heap → J.stop i H →
    wpAny (model P w) X.A (pyNext (.ref it)) (fun r s1 => r = none ∧ Inv X pins σ H s1) E s
  self : ∀ (A : Around) (i : Nat) (s : Shared) (Q : Value → Shared → Prop) (E : Value → Shared → Prop), tn i s.heap → Q (.ref it) s → wpAny (model P w) A (pyIter (.ref it)) Q E s
abbrev TI := St → Hp → (It → Hp → Prop) → Prop
/-- an iterator has come -/
def PIE (X : Cx) (pins : List (Addr × Obj)) (σ : St) (tg : Expr) (R : It → Hp → Prop) (itv : Value) (s2 : Shared) : Prop :=
  ∃ (it : Addr) (fp : List Addr) (tn : Nat → Heap → Prop) (J : It) (H' : Hp), itv = .ref it ∧ Inv X pins σ H' s2 ∧ Turn X.prog X.w X.K tg J fp it tn ∧ tn 0 s2.heap ∧ (∀ b ∈ fp, FpOk X pins H' b) ∧ R J H'
def PI (X : Cx) (tg iter : Expr) (wi : TI) : Prop :=
  ∀ (pins : List (Addr × Obj)) (s : Shared) (σ : St) (H : Hp) (R : It → Hp → Prop), Inv X pins σ H s → wi σ H R →
    wpAny (model X.prog X.w) X.A (eval iter X.env) (fun v s1 => wpAny (model X.prog X.w) X.A (pyIter v) (PIE X pins σ tg R) X.xe s1) X.xe s
/-- the step ahead of the store is nothing for an iterator that keeps no tuple -/
theorem go_of {M : Model} {A : Around} {E : Value → Shared → Prop} {s : Shared} {tg : Expr} {it : Addr} {u : Value} {o : Obj} {n : String} {vs : Array Value} {Q : Unit → Shared → Prop} (ho : s.heap.get? it = some o) (hc : o.cls = .type n) (hd : o.data = .fields vs)
    (hn : ["enumerate", "zip", "dict_itemiterator", "dict_reverseitemiterator", "odict_iterator", "itertools.zip_longest", "itertools.pairwise"].contains n = false) (hQ : Q () s) : wpAny M A (letOwnedTupleGo tg (.ref it) u) Q E s := by
  unfold letOwnedTupleGo
  cases tg <;> first
    | exact wpAny_pure hQ
    | (cases u <;> first
        | exact wpAny_pure hQ
        | (refine wpAny_bind (wpAny_load ho ?_)
           rw [hc, hd]
           show wpAny M A (if (["enumerate", "zip", "dict_itemiterator", "dict_reverseitemiterator", "odict_iterator", "itertools.zip_longest", "itertools.pairwise"].contains n && vs[0]? == some (rawInt _)) = true then _ else _) Q E s
           rw [if_neg (by intro h; rw [hn, Bool.false_and] at h; cases h)]
           exact wpAny_pure hQ))
/-- the list at a, as it stands at each turn (a loop may append to it) -/
def Itl (K : PySem.W.Frag) (a : Addr) : It :=
  ⟨fun i H => ∃ xs x, SqL K H a xs ∧ xs[i]? = some x, fun i H x H' => H' = H ∧ ∀ xs, SqL K H a xs → xs[i]? = some x, fun i H => ∃ xs, SqL K H a xs ∧ xs.length ≤ i⟩
def Itt (K : PySem.W.Frag) (a : Addr) : It :=
  ⟨fun i H => ∃ xs x, SqT K H a xs ∧ xs[i]? = some x, fun i H x H' => H' = H ∧ ∀ xs, SqT K H a xs → xs[i]? = some x, fun i H => ∃ xs, SqT K H a xs ∧ xs.length ≤ i⟩
/-- lo, lo + 1, .. (n of them) -/
def Itr (lo : Int) (n : Nat) : It := ⟨fun i _ => i < n, fun i H x H' => H' = H ∧ x = .int (lo + i), fun i _ => n ≤ i⟩
theorem turn_list {P : Program} {w : World} {K : PySem.W.Frag} {tg : Expr} (a it : Addr) : Turn P w K tg (Itl K a) [it] it (fun i h => h.IsListIter it a i) where
  mem := by simp
  obj := fun i h st b hb => by
    have e : b = it := by simpa using hb
    subst e
    obtain ⟨o, e, c, d⟩ := st
    exact ⟨o, e, fun v z => by rw [d] at z; cases z⟩
  keep := fun i h h' st k => st.at fun o e => k it (by simp) o e
  item := by
    intro X hP hw hK hc i pins s σ H E I hf st hg
    subst hP hw hK
    obtain ⟨xs, x, hq, hx⟩ := hg
    obtain ⟨its, rv, p, hz⟩ := I.list hq
    obtain ⟨u, hu, ru⟩ := rv.get hx
    obtain ⟨f0, f1, f2, f3, f4, f5⟩ := hf it (by simp)
    refine wpAny_pyNext_list_item st p.isList (x := u) (by simpa using hu) fun h' st' sb => ?_
    have I1 : Inv X pins σ H { s with heap := h' } := I.turned (t' := s.toks) (fun b o hb e => (sb.2 b hb).trans e) f0 f1 f3 f4 f5
    obtain ⟨o, e, c, d⟩ := id st'
    exact ⟨u, rfl, go_of (s := { s with heap := h' }) e c d (by decide) ⟨x, H, I1, ru, ⟨rfl, fun ys hy => by rw [I.list_inj hy hq]; exact hx⟩, st', fun b hb => (hf b hb).1⟩⟩
  done := by
    intro X hP hw hK hc i pins s σ H E I hf st hg
    subst hP hw hK
    obtain ⟨xs, hq, hx⟩ := hg
    obtain ⟨its, rv, p, hz⟩ := I.list hq
    obtain ⟨f0, f1, f2, f3, f4, f5⟩ := hf it (by simp)
    have hl := rv.length
    exact wpAny_pyNext_list_end (I.ok.hd hc) st p.isList (by simp; omega) fun h' eb => ⟨rfl, I.turned (t' := s.toks) (fun b o hb e => eb b o hb e) f0 f1 f3 f4 f5⟩
  self := fun _ _ _ _ _ st h => wpAny_pyIter_listiter st h
theorem turn_tuple {P : Program} {w : World} {K : PySem.W.Frag} {tg : Expr} (a it : Addr) : Turn P w K tg (Itt K a) [it] it (fun i h => h.IsTupleIter it a i) where
  mem := by simp
  obj := fun i h st b hb => by
    have e : b = it := by simpa using hb
    subst e
    obtain ⟨o, e, c, d⟩ := st
    exact ⟨o, e, fun v z => by rw [d] at z; cases z⟩
  keep := fun i h h' st k => st.at fun o e => k it (by simp) o e
  item := by
    intro X hP hw hK hc i pins s σ H E I hf st hg
    subst hP hw hK
    obtain ⟨xs, x, hq, hx⟩ := hg
    obtain ⟨its, rv, p, hz⟩ := I.tuple hq
    obtain ⟨u, hu, ru⟩ := rv.get hx
    obtain ⟨f0, f1, f2, f3, f4, f5⟩ := hf it (by simp)
    refine wpAny_pyNext_tuple_item st (show s.heap.IsTuple a its.toArray from p) (x := u) (by simpa using hu) fun h' st' sb => ?_
    have I1 : Inv X pins σ H { s with heap := h' } := I.turned (t' := s.toks) (fun b o hb e => (sb.2 b hb).trans e) f0 f1 f3 f4 f5
    obtain ⟨o, e, c, d⟩ := id st'
    exact ⟨u, rfl, go_of (s := { s with heap := h' }) e c d (by decide) ⟨x, H, I1, ru, ⟨rfl, fun ys hy => by rw [I.tuple_inj hy hq]; exact hx⟩, st', fun b hb => (hf b hb).1⟩⟩
  done := by
    intro X hP hw hK hc i pins s σ H E I hf st hg
    subst hP hw hK
    obtain ⟨xs, hq, hx⟩ := hg
    obtain ⟨its, rv, p, hz⟩ := I.tuple hq
    obtain ⟨f0, f1, f2, f3, f4, f5⟩ := hf it (by simp)
    have hl := rv.length
    exact wpAny_pyNext_tuple_end (I.ok.hd hc) st (show s.heap.IsTuple a its.toArray from p) (by simp; omega) fun h' eb => ⟨rfl, I.turned (t' := s.toks) (fun b o hb e => eb b o hb e) f0 f1 f3 f4 f5⟩
  self := fun _ _ _ _ _ st h => wpAny_pyIter_tupleiter st h
theorem turn_range {P : Program} {w : World} {K : PySem.W.Frag} {tg : Expr} (it : Addr) (lo : Int) (n : Nat) : Turn P w K tg (Itr lo n) [it] it (fun i h => IsRangeIter h it (lo + (i : Nat) * 1) ((n : Int) - (i : Nat)) 1) where
  mem := by simp
  obj := fun i h st b hb => by
    have e : b = it := by simpa using hb
    subst e
    exact ⟨_, st, fun v z => by
      have z' : Data.fields _ = Data.cell v := z
      cases z'⟩
  keep := fun i h h' st k => k it (by simp) _ st
  item := by
    intro X hP hw hK hc i pins s σ H E I hf st hg
    subst hP hw hK
    obtain ⟨f0, f1, f2, f3, f4, f5⟩ := hf it (by simp)
    have W := Walks.range (prog := X.prog) (w := X.w) (I.ok.hd hc) it lo 1 n
    refine W.item i s _ _ hg st fun v h' tk hv st' kk => ?_
    obtain ⟨t, rfl⟩ := hv
    have I1 : Inv X pins σ H { s with heap := h', toks := tk } := I.turned (fun b o hb e => kk b o (by simpa using hb) e) f0 f1 f3 f4 f5
    refine ⟨_, rfl, go_of (s := { s with heap := h', toks := tk }) (n := "range_iterator") st' rfl rfl (by decide) ⟨.int (lo + i), H, I1, ⟨t, ?_⟩, ⟨rfl, rfl⟩, st', fun b hb => (hf b hb).1⟩⟩
    rw [Int.mul_one]
  done := by
    intro X hP hw hK hc i pins s σ H E I hf st hg
    subst hP hw hK
    obtain ⟨f0, f1, f2, f3, f4, f5⟩ := hf it (by simp)
    exact wpAny_pyNext_range_end (I.ok.hd hc) st (by have : n ≤ i := hg; omega) fun h' eb => ⟨rfl, I.turned (t' := s.toks) (fun b o hb e => eb b o hb e) f0 f1 f3 f4 f5⟩
  self := fun _ _ _ _ _ st h => wpAny_pyIter_rangeiter st h
end L2
namespace L2
open PySem PySem.Spec PyProof.Rows
section
variable {X : Cx} {tg : Expr}
def iList (K : PySem.W.Frag) (tl : TE) : TI := fun σ H R => tl σ H fun x H1 => ∃ a, x = .ref a ∧ (∃ xs, SqL K H1 a xs) ∧ R (Itl K a) H1
def iTup (K : PySem.W.Frag) (tl : TE) : TI := fun σ H R => tl σ H fun x H1 => ∃ a, x = .ref a ∧ (∃ xs, SqT K H1 a xs) ∧ R (Itt K a) H1
theorem pi_list {l : Expr} {tl : TE} (hl : PE X l tl) : PI X tg l (iList X.K tl) := by
  intro pins s σ H R I h
  refine thn (hl pins s σ H _ I h) fun v s1 ⟨x, H1, I1, r1, q1⟩ => ?_
  obtain ⟨a, e, ⟨xs, hq⟩, q⟩ := q1
  subst e
  cases r1
  obtain ⟨its, rv, p, hz⟩ := I1.list hq
  refine wpAny_pyIter_list p.isList ?_
  refine ⟨s1.heap.objs.size, [s1.heap.objs.size], _, _, H1, rfl, I1.kept (t' := s1.toks) fun b o e => Heap.get?_push_of_some _ e, turn_list a _, ⟨_, Heap.get?_push_size _ rfl, rfl, rfl⟩, fun b hb => ?_, q⟩
  have e : b = s1.heap.objs.size := by simpa using hb
  subst e
  exact I1.fpOk (Nat.le_refl _) (I1.hok.fresh (Nat.le_refl _))
theorem pi_tup {l : Expr} {tl : TE} (hl : PE X l tl) : PI X tg l (iTup X.K tl) := by
  intro pins s σ H R I h
  refine thn (hl pins s σ H _ I h) fun v s1 ⟨x, H1, I1, r1, q1⟩ => ?_
  obtain ⟨a, e, ⟨xs, hq⟩, q⟩ := q1
  subst e
  cases r1
  obtain ⟨its, rv, p, hz⟩ := I1.tuple hq
  refine wpAny_pyIter_tuple (show s1.heap.IsTuple a its.toArray from p) ?_
  refine ⟨s1.heap.objs.size, [s1.heap.objs.size], _, _, H1, rfl, I1.kept (t' := s1.toks) fun b o e => Heap.get?_push_of_some _ e, turn_tuple a _, ⟨_, Heap.get?_push_size _ rfl, rfl, rfl⟩, fun b hb => ?_, q⟩
  have e : b = s1.heap.objs.size := by simpa using hb
  subst e
  exact I1.fpOk (Nat.le_refl _) (I1.hok.fresh (Nat.le_refl _))
/-- a range object just made, walked -/
theorem range_it {pins : List (Addr × Obj)} {σ : St} {H : Hp} {s : Shared} {R : It → Hp → Prop} {E : Value → Shared → Prop} {lo hi : Int} {t u v : Tok} {tk : Nat} (I : Inv X pins σ H s) (h1 : -(2 ^ 62) ≤ lo) (h2 : lo < 2 ^ 62) (h3 : -(2 ^ 62) ≤ hi) (h4 : hi < 2 ^ 62)
    (q : R (Itr lo (hi - lo).toNat) H) : wpAny (model X.prog X.w) X.A (pyIter (.ref s.heap.objs.size)) (PIE X pins σ tg R) E { s with heap := s.heap.push { cls := .type "range", data := .fields #[.int lo t, .int hi u, .int 1 v] }, toks := tk } := by
  refine wpAny_pyIter_range (IsRange.new ..) (small_one h1 h2 h3 h4) ?_
  have I1 : Inv X pins σ H { s with heap := s.heap.push { cls := .type "range", data := .fields #[.int lo t, .int hi u, .int 1 v] }, toks := tk } := I.kept fun b o e => Heap.get?_push_of_some _ e
  refine ⟨(s.heap.push { cls := .type "range", data := .fields #[.int lo t, .int hi u, .int 1 v] }).objs.size, [(s.heap.push { cls := .type "range", data := .fields #[.int lo t, .int hi u, .int 1 v] }).objs.size], _, _, H, rfl,
    I1.kept (t' := tk) fun b o e => Heap.get?_push_of_some _ e, turn_range _ lo (hi - lo).toNat, ?_, fun b hb => ?_, q⟩
  · have e1 : lo + ((0 : Nat) : Int) * 1 = lo := by simp
    have e2 : (((hi - lo).toNat : Nat) : Int) - ((0 : Nat) : Int) = Builtin.Range.rangeSize lo hi 1 := by rw [rangeSize_one]; split <;> omega
    show IsRangeIter _ _ (lo + ((0 : Nat) : Int) * 1) ((((hi - lo).toNat : Nat) : Int) - ((0 : Nat) : Int)) 1
    rw [e1, e2]
    exact Heap.get?_push_size _ rfl
  · have e : b = (s.heap.push { cls := .type "range", data := .fields #[.int lo t, .int hi u, .int 1 v] }).objs.size := by simpa using hb
    subst e
    exact I1.fpOk (Nat.le_refl _) (I1.hok.fresh (Nat.le_refl _))
def iRng1 (ta : TA) : TI := fun σ H R => ta σ H fun vs H1 => ∃ j : Int, vs = [.int j] ∧ -(2 ^ 62) ≤ j ∧ j < 2 ^ 62 ∧ R (Itr 0 j.toNat) H1
theorem pi_range1 {a : Expr} {ta : TA} {p pos : Pos} (hg : Gl X "range") (hm : X.mg "range" = none) (ha : PA X [a] ta) (hs : starEach [a] X.env = [(false, eval a X.env)] := by rfl) : PI X tg (.Call (.Name "range" p) [a] [] pos) (iRng1 ta) := by
  intro pins s σ H R I h
  refine Call_ (ld_blt I hg hm boot_range (PyProof.Rows.callWith_type1 (thn (ha pos pins s σ H _ I h) fun us s1 ⟨vs, H1, I1, r1, q1⟩ => ?_) hs rfl))
  obtain ⟨j, e, q1, q2, q⟩ := q1
  subst e
  cases r1 with
  | cons r rr =>
    cases rr
    obtain ⟨t, rfl⟩ := r
    exact call_range_1 (range_it I1 (by omega) (by omega) q1 q2 (by simpa using q))
/-! ### for -/
/-- W: the invariant by the turn and a measure; N: what the body is to reach -/
def tFor (wi : TI) (g : TG) (tb : TS) : TS := fun D σ H => wi σ H fun J H1 => ∃ W : Nat → Nat → St → Hp → Prop, (∃ m, W 0 m σ H1) ∧ ∀ i m σ H, W i m σ H →
  (J.stop i H ∧ D.nx σ H) ∨ (J.go i H ∧ ∃ N : St → Hp → Prop, (∀ σ' H', N σ' H' → ∃ m', m' < m ∧ W (i + 1) m' σ' H') ∧ ∀ x H', J.yld i H x H' → g x σ H' fun σ2 H2 => tb { D with nx := N, ct := N, bk := D.nx } σ2 H2)
/-- the records at fp as they stand -/
def pinsAt (fp : List Addr) (h : Heap) : List (Addr × Obj) := fp.filterMap fun b => (h.get? b).map fun o => (b, o)
theorem mem_pinsAt {fp : List Addr} {h : Heap} {b : Addr} {o : Obj} (hb : b ∈ fp) (e : h.get? b = some o) : (b, o) ∈ pinsAt fp h := List.mem_filterMap.mpr ⟨b, hb, by rw [e]; rfl⟩
theorem of_pinsAt {fp : List Addr} {h : Heap} {p : Addr × Obj} (hp : p ∈ pinsAt fp h) : p.1 ∈ fp ∧ h.get? p.1 = some p.2 := by
  obtain ⟨b, hb, e⟩ := List.mem_filterMap.mp hp
  cases q : h.get? b with
  | none => rw [q] at e; cases e
  | some o =>
    rw [q] at e
    have e' : (b, o) = p := Option.some.inj e
    subst e'
    exact ⟨hb, q⟩
theorem Inv.pinned {pins : List (Addr × Obj)} {σ : St} {H : Hp} {s : Shared} {fp : List Addr} (I : Inv X pins σ H s) (hf : ∀ b ∈ fp, FpOk X pins H b) (ho : ∀ b ∈ fp, ∃ o, s.heap.get? b = some o ∧ ∀ v, o.data ≠ .cell v) : Inv X (pins ++ pinsAt fp s.heap) σ H s :=
  I.pins_of fun p hp => (List.mem_append.mp hp).elim (fun z => I.pin p (List.mem_append_right _ z)) fun z => by
    obtain ⟨hb, e⟩ := of_pinsAt z
    obtain ⟨f0, f1, f2, _⟩ := hf p.1 hb
    obtain ⟨o, e', d⟩ := ho p.1 hb
    rw [e] at e'; cases e'
    exact ⟨e, f0, f1, f2, d⟩
theorem Inv.unpinned {pins pl : List (Addr × Obj)} {σ : St} {H : Hp} {s : Shared} (I : Inv X (pins ++ pl) σ H s) : Inv X pins σ H s := I.pins_of fun p hp => I.pin p (List.mem_append_right _ (List.mem_append_left _ hp))
theorem ps_for {iter : Expr} {body : List Stmt} {wi : TI} {g : TG} {tb : TS} {pos : Pos} (hp : PassesOwn (model X.prog X.w) X.A X.env X.xe) (hc : X.calm = true) (hi : PI X tg iter wi) (hg : PG X tg g) (hb : PSs X body tb)
    (hs : ∀ x, foldedSetIterable iter X.env x = pure x := by intro _; rfl) : PS X (.For tg iter body [] pos) (tFor wi g tb) := by
  intro pins s σ H D I h
  refine wpAny_For (thn (hi pins s σ H _ I h) fun v s1 h1 => thn h1 fun itv s2 h2 => ?_) hs
  obtain ⟨it, fp, tn, J, H2, e, I2, T, st2, f2, W, ⟨m0, w0⟩, turn⟩ := h2
  subst e
  -- what stays true of the iterator's objects through the loop
  have stat : ∀ {H' : Hp}, (∀ b ∈ fp, H' b = none) → ∀ b ∈ fp, FpOk X pins H' b := fun hn b hb => ⟨hn b hb, (f2 b hb).2⟩
  refine codeAny_forLoop_any (fun n s' => ∃ i σ' H', Inv X pins σ' H' s' ∧ tn i s'.heap ∧ (∀ b ∈ fp, H' b = none) ∧ W i n σ' H') ?_ m0 ⟨0, σ, H2, I2, st2, fun b hb => (f2 b hb).1, w0⟩
  rintro n s3 ⟨i, σ3, H3, I3, st3, fr3, w3⟩
  rcases turn i n σ3 H3 w3 with ⟨stop, qn⟩ | ⟨go, N, hN, step⟩
  · refine wpAny_passesOwn hp (thn (T.done X rfl rfl rfl hc i pins s3 σ3 H3 X.xe I3 (stat fr3) st3 stop) fun r s4 ⟨hr, I4⟩ => ?_)
    subst hr
    exact wpAny_execs_nil ⟨σ3, H3, I4, qn⟩
  · refine wpAny_passesOwn hp (thn (T.item X rfl rfl rfl hc i pins s3 σ3 H3 X.xe I3 (stat fr3) st3 go) fun r s4 ⟨u, hr, h4⟩ => ?_)
    subst hr
    refine wpAny_passesOwn hp (thn h4 fun _ s5 ⟨x, H5, I5, r5, y5, st5, fr5⟩ => ?_)
    have I5' := I5.pinned (stat fr5) (T.obj _ _ st5)
    refine wpAny_passesOwn hp (thn (hg _ s5 σ3 H5 x u _ I5' r5 (step x H5 y5)) fun _ s6 ⟨σ6, H6, I6, q6⟩ => ?_)
    refine wpAny_passesOwn hp (thn (hb _ s6 σ6 H6 _ I6 q6) fun f s7 q7 => ?_)
    have again : ∀ {σ7 : St} {H7 : Hp}, Inv X (pins ++ pinsAt fp s5.heap) σ7 H7 s7 → N σ7 H7 → ∃ m, m < n ∧ ∃ i σ' H', Inv X pins σ' H' s7 ∧ tn i s7.heap ∧ (∀ b ∈ fp, H' b = none) ∧ W i m σ' H' := fun {σ7 H7} I7 n7 => by
      obtain ⟨m', hm, w7⟩ := hN σ7 H7 n7
      refine ⟨m', hm, i + 1, σ7, H7, I7.unpinned, T.keep _ _ _ st5 fun b hb o e => (I7.pin (b, o) (List.mem_append_right _ (List.mem_append_right _ (mem_pinsAt hb e)))).1, fun b hb => ?_, w7⟩
      obtain ⟨o, e, d⟩ := T.obj _ _ st5 b hb
      exact (I7.pin (b, o) (List.mem_append_right _ (List.mem_append_right _ (mem_pinsAt hb e)))).2.1
    cases f with
    | next => obtain ⟨σ7, H7, I7, n7⟩ := q7; exact again I7 n7
    | cont => obtain ⟨σ7, H7, I7, n7⟩ := q7; exact again I7 n7
    | brk => obtain ⟨σ7, H7, I7, q7⟩ := q7; exact ⟨σ7, H7, I7.unpinned, q7⟩
    | ret v => obtain ⟨x7, σ7, H7, I7, r7, q7⟩ := q7; exact ⟨x7, σ7, H7, I7.unpinned, r7, q7⟩
end
/-! ### the forms one uses -/
/-- over a list that the body leaves as it is -/
theorem for_list {K : PySem.W.Frag} {a : Addr} {xs : List V} {g : TG} {tb : TS} {D : Ends} {σ : St} {H : Hp} (Pv : Nat → St → Hp → Prop) (h0 : Pv 0 σ H) (hl : ∀ i σ H, i ≤ xs.length → Pv i σ H → SqL K H a xs)
    (hs : ∀ i x σ H, xs[i]? = some x → Pv i σ H → g x σ H fun σ2 H2 => tb { D with nx := Pv (i + 1), ct := Pv (i + 1), bk := D.nx } σ2 H2) (hd : ∀ σ H, Pv xs.length σ H → D.nx σ H) :
    ∃ W : Nat → Nat → St → Hp → Prop, (∃ m, W 0 m σ H) ∧ ∀ i m σ H, W i m σ H →
      ((Itl K a).stop i H ∧ D.nx σ H) ∨ ((Itl K a).go i H ∧ ∃ N : St → Hp → Prop, (∀ σ' H', N σ' H' → ∃ m', m' < m ∧ W (i + 1) m' σ' H') ∧ ∀ x H', (Itl K a).yld i H x H' → g x σ H' fun σ2 H2 => tb { D with nx := N, ct := N, bk := D.nx } σ2 H2) := by
  refine ⟨fun i m σ H => m = xs.length - i ∧ i ≤ xs.length ∧ Pv i σ H, ⟨xs.length, by simp, Nat.zero_le _, h0⟩, ?_⟩
  rintro i m σ H ⟨rfl, hi, p⟩
  have q := hl i σ H hi p
  by_cases hlt : i < xs.length
  · refine .inr ⟨⟨xs, xs[i], q, by simp [hlt]⟩, Pv (i + 1), fun σ' H' p' => ⟨xs.length - (i + 1), by omega, rfl, hlt, p'⟩, fun x H' y => ?_⟩
    obtain ⟨e, y⟩ := y
    subst e
    exact hs i x σ _ (y xs q) p
  · have e : i = xs.length := by omega
    subst e
    exact .inl ⟨⟨xs, q, Nat.le_refl _⟩, hd σ H p⟩
theorem for_tup {K : PySem.W.Frag} {a : Addr} {xs : List V} {g : TG} {tb : TS} {D : Ends} {σ : St} {H : Hp} (Pv : Nat → St → Hp → Prop) (h0 : Pv 0 σ H) (hl : ∀ i σ H, i ≤ xs.length → Pv i σ H → SqT K H a xs)
    (hs : ∀ i x σ H, xs[i]? = some x → Pv i σ H → g x σ H fun σ2 H2 => tb { D with nx := Pv (i + 1), ct := Pv (i + 1), bk := D.nx } σ2 H2) (hd : ∀ σ H, Pv xs.length σ H → D.nx σ H) :
    ∃ W : Nat → Nat → St → Hp → Prop, (∃ m, W 0 m σ H) ∧ ∀ i m σ H, W i m σ H →
      ((Itt K a).stop i H ∧ D.nx σ H) ∨ ((Itt K a).go i H ∧ ∃ N : St → Hp → Prop, (∀ σ' H', N σ' H' → ∃ m', m' < m ∧ W (i + 1) m' σ' H') ∧ ∀ x H', (Itt K a).yld i H x H' → g x σ H' fun σ2 H2 => tb { D with nx := N, ct := N, bk := D.nx } σ2 H2) := by
  refine ⟨fun i m σ H => m = xs.length - i ∧ i ≤ xs.length ∧ Pv i σ H, ⟨xs.length, by simp, Nat.zero_le _, h0⟩, ?_⟩
  rintro i m σ H ⟨rfl, hi, p⟩
  have q := hl i σ H hi p
  by_cases hlt : i < xs.length
  · refine .inr ⟨⟨xs, xs[i], q, by simp [hlt]⟩, Pv (i + 1), fun σ' H' p' => ⟨xs.length - (i + 1), by omega, rfl, hlt, p'⟩, fun x H' y => ?_⟩
    obtain ⟨e, y⟩ := y
    subst e
    exact hs i x σ _ (y xs q) p
  · have e : i = xs.length := by omega
    subst e
    exact .inl ⟨⟨xs, q, Nat.le_refl _⟩, hd σ H p⟩
theorem for_range {lo : Int} {n : Nat} {g : TG} {tb : TS} {D : Ends} {σ : St} {H : Hp} (Pv : Nat → St → Hp → Prop) (h0 : Pv 0 σ H)
    (hs : ∀ i σ H, i < n → Pv i σ H → g (.int (lo + i)) σ H fun σ2 H2 => tb { D with nx := Pv (i + 1), ct := Pv (i + 1), bk := D.nx } σ2 H2) (hd : ∀ σ H, Pv n σ H → D.nx σ H) :
    ∃ W : Nat → Nat → St → Hp → Prop, (∃ m, W 0 m σ H) ∧ ∀ i m σ H, W i m σ H →
      ((Itr lo n).stop i H ∧ D.nx σ H) ∨ ((Itr lo n).go i H ∧ ∃ N : St → Hp → Prop, (∀ σ' H', N σ' H' → ∃ m', m' < m ∧ W (i + 1) m' σ' H') ∧ ∀ x H', (Itr lo n).yld i H x H' → g x σ H' fun σ2 H2 => tb { D with nx := N, ct := N, bk := D.nx } σ2 H2) := by
  refine ⟨fun i m σ H => m = n - i ∧ i ≤ n ∧ Pv i σ H, ⟨n, by simp, Nat.zero_le _, h0⟩, ?_⟩
  rintro i m σ H ⟨rfl, hi, p⟩
  by_cases hlt : i < n
  · refine .inr ⟨hlt, Pv (i + 1), fun σ' H' p' => ⟨n - (i + 1), by omega, rfl, hlt, p'⟩, fun x H' y => ?_⟩
    obtain ⟨e, y⟩ := y
    subst e y
    exact hs i σ _ hlt p
  · have e : i = n := by omega
    subst e
    exact .inl ⟨Nat.le_refl _, hd σ H p⟩
end L2
namespace L2
open PySem PySem.Spec PyProof.Rows
abbrev R2 := V → V → Hp → VK → Prop
/-- a two-place operation on values: f is binaryOp op, inplaceOp op or compareOp op -/
def OpR (X : Cx) (f : Value → Value → Sem Value) (r : R2) : Prop :=
  ∀ (pins : List (Addr × Obj)) (s : Shared) (σ : St) (H : Hp) (x y : V) (v u : Value) (Q : VK), Inv X pins σ H s → RelV x v → RelV y u → r x y H Q →
    wpAny (model X.prog X.w) X.A (f v u) (EP X pins σ Q) X.xe s
/-- a one-place operation -/
def UnR (X : Cx) (f : Value → Sem Value) (r : V → Hp → VK → Prop) : Prop :=
  ∀ (pins : List (Addr × Obj)) (s : Shared) (σ : St) (H : Hp) (x : V) (v : Value) (Q : VK), Inv X pins σ H s → RelV x v → r x H Q →
    wpAny (model X.prog X.w) X.A (f v) (EP X pins σ Q) X.xe s
/-- a call of a value that is known (a builtin, a type) with values -/
def CallR (X : Cx) (f : Value) (r : List V → Hp → VK → Prop) : Prop :=
  ∀ (pins : List (Addr × Obj)) (s : Shared) (σ : St) (H : Hp) (xs : List V) (us : List Value) (Q : VK), Inv X pins σ H s → Vals xs us → r xs H Q →
    wpAny (model X.prog X.w) X.A (call f us) (EP X pins σ Q) X.xe s
/-- a value's truth -/
def TruR (X : Cx) (r : V → Hp → (Bool → Hp → Prop) → Prop) : Prop :=
  ∀ (pins : List (Addr × Obj)) (s : Shared) (σ : St) (H : Hp) (x : V) (v : Value) (Q : Bool → Hp → Prop), Inv X pins σ H s → RelV x v → r x H Q →
    wpAny (model X.prog X.w) X.A (truthy v) (TP X pins σ Q) X.xe s
def tOp (r : R2) (ta tb : TE) : TE := fun σ H Q => ta σ H fun x H1 => tb σ H1 fun y H2 => r x y H2 Q
def tUn (r : V → Hp → VK → Prop) (ta : TE) : TE := fun σ H Q => ta σ H fun x H1 => r x H1 Q
/-- ints in, under C, and a value out -/
def rI (C : Int → Int → Prop) (g : Int → Int → V) : R2 := fun x y H Q => ∃ i j, x = .int i ∧ y = .int j ∧ C i j ∧ Q (g i j) H
def rI0 (g : Int → Int → V) : R2 := fun x y H Q => ∃ i j, x = .int i ∧ y = .int j ∧ Q (g i j) H
def rU (g : Int → V) : V → Hp → VK → Prop := fun x H Q => ∃ i, x = .int i ∧ Q (g i) H
section
variable {X : Cx} {a b c : Expr} {ta tb tc : TE} {pos : Pos}
theorem binT (ha : PE X a ta) (hb : PE X b tb) {pins : List (Addr × Obj)} {s : Shared} {σ : St} {H : Hp} {R : V → V → Hp → Prop} (I : Inv X pins σ H s)
    (h : ta σ H fun x H1 => tb σ H1 fun y H2 => R x y H2) {Q : Value → Shared → Prop} {f : Value → Value → Sem Value}
    (hf : ∀ v u s2 x y H2, Inv X pins σ H2 s2 → RelV x v → RelV y u → R x y H2 → wpAny (model X.prog X.w) X.A (f v u) Q X.xe s2) :
    wpAny (model X.prog X.w) X.A (eval a X.env) (fun v s₁ => wpAny (model X.prog X.w) X.A (eval b X.env) (fun u s₂ => wpAny (model X.prog X.w) X.A (f v u) Q X.xe s₂) X.xe s₁) X.xe s := by
  refine thn (ha pins s σ H _ I h) fun v s1 ⟨x, H1, I1, r1, q1⟩ => ?_
  refine thn (hb pins s1 σ H1 _ I1 q1) fun u s2 ⟨y, H2, I2, r2, q2⟩ => ?_
  exact hf v u s2 x y H2 I2 r1 r2 q2
theorem pe_op {op : Operator} {r : R2} (ho : OpR X (binaryOp op) r) (ha : PE X a ta) (hb : PE X b tb) : PE X (.BinOp a op b pos) (tOp r ta tb) := by
  intro pins s σ H Q I h
  exact wpAny_BinOp (binT ha hb I h fun v u s2 x y H2 I2 rx ry q => ho pins s2 σ H2 x y v u Q I2 rx ry q)
theorem pe_un {op : UnaryOp} {r : V → Hp → VK → Prop} (ho : UnR X (unaryOp op) r) (ha : PE X a ta) : PE X (.UnaryOp op a pos) (tUn r ta) := by
  intro pins s σ H Q I h
  exact UnaryOp_ (thn (ha pins s σ H _ I h) fun v s1 ⟨x, H1, I1, r1, q1⟩ => ho pins s1 σ H1 x v Q I1 r1 q1)
/-! ### ints -/
theorem opI {f : Value → Value → Sem Value} {C : Int → Int → Prop} {g : Int → Int → Int}
    (rule : ∀ (i j : Int) (t u : Tok) (s : Shared) (Q : Value → Shared → Prop) (E : Value → Shared → Prop), C i j → Q (.int (g i j) s.toks) { s with toks := s.toks + 1 } → wpAny (model X.prog X.w) X.A (f (.int i t) (.int j u)) Q E s) :
    OpR X f (rI C fun i j => .int (g i j)) := by
  intro pins s σ H x y v u Q I rx ry h
  obtain ⟨i, j, rfl, rfl, hc, q⟩ := h
  obtain ⟨t, rfl⟩ := rx
  obtain ⟨t', rfl⟩ := ry
  exact rule i j t t' s _ _ hc ⟨.int (g i j), H, I.tok _, ⟨_, rfl⟩, q⟩
theorem opI0 {f : Value → Value → Sem Value} {g : Int → Int → Int}
    (rule : ∀ (i j : Int) (t u : Tok) (s : Shared) (Q : Value → Shared → Prop) (E : Value → Shared → Prop), Q (.int (g i j) s.toks) { s with toks := s.toks + 1 } → wpAny (model X.prog X.w) X.A (f (.int i t) (.int j u)) Q E s) :
    OpR X f (rI0 fun i j => .int (g i j)) := by
  intro pins s σ H x y v u Q I rx ry h
  obtain ⟨i, j, rfl, rfl, q⟩ := h
  obtain ⟨t, rfl⟩ := rx
  obtain ⟨t', rfl⟩ := ry
  exact rule i j t t' s _ _ ⟨.int (g i j), H, I.tok _, ⟨_, rfl⟩, q⟩
theorem opB0 {f : Value → Value → Sem Value} {g : Int → Int → Bool}
    (rule : ∀ (i j : Int) (t u : Tok) (s : Shared) (Q : Value → Shared → Prop) (E : Value → Shared → Prop), Q (.bool (g i j)) s → wpAny (model X.prog X.w) X.A (f (.int i t) (.int j u)) Q E s) :
    OpR X f (rI0 fun i j => .bl (g i j)) := by
  intro pins s σ H x y v u Q I rx ry h
  obtain ⟨i, j, rfl, rfl, q⟩ := h
  obtain ⟨t, rfl⟩ := rx
  obtain ⟨t', rfl⟩ := ry
  exact rule i j t t' s _ _ ⟨.bl (g i j), H, I, rfl, q⟩
def CDiv (i j : Int) : Prop := 0 < j ∧ j < 1073741824
def CPow (i j : Int) : Prop := 0 ≤ j ∧ j ≤ 1000000 ∧ i.natAbs < 2 ^ 64
def CMul (i j : Int) : Prop := (-(2 ^ 64) < i ∧ i < 2 ^ 64) ∨ (-(2 ^ 64) < j ∧ j < 2 ^ 64)
theorem CMul.ok {i j : Int} (h : CMul i j) : IntMulOk i j := by
  rcases h with ⟨h1, h2⟩ | ⟨h1, h2⟩
  · exact .of_left (intBits_le_64 h1 h2)
  · exact .of_right (intBits_le_64 h1 h2)
theorem two_pow_nn (k : Nat) : (0 : Int) ≤ 2 ^ k := by
  rw [two_pow_cast]
  exact Int.natCast_nonneg _
theorem op_add : OpR X (binaryOp .Add) (rI0 fun i j => .int (i + j)) := opI0 fun _ _ _ _ _ _ _ q => add_int q
theorem op_sub : OpR X (binaryOp .Sub) (rI0 fun i j => .int (i - j)) := opI0 fun _ _ _ _ _ _ _ q => sub_int q
theorem op_mul : OpR X (binaryOp .Mult) (rI CMul fun i j => .int (i * j)) := opI fun _ _ _ _ _ _ _ hc q => mul_int q hc.ok
/-- // by a positive divisor -/
theorem op_fdiv : OpR X (binaryOp .FloorDiv) (rI CDiv fun i j => .int (i / j)) := opI fun i j _ _ _ _ _ hc q => by
  have h1 : (0 : Int) < j := hc.1
  have h2 : j < 1073741824 := hc.2
  exact floordiv_int (by omega) (by rw [Int.fdiv_eq_ediv_of_nonneg i (by omega)]; exact q) (.inl (PyProof.noPylong_small (by omega)))
/-- % by a positive divisor of any size -/
theorem op_mod : OpR X (binaryOp .Mod) (rI (fun _ j => 0 < j) fun i j => .int (i % j)) := opI fun i j _ _ _ _ _ hc q => by
  have h1 : (0 : Int) < j := hc
  exact mod_int' (by omega) (by rw [Int.fmod_eq_emod_of_nonneg i (by omega)]; exact q)
theorem op_pow : OpR X (binaryOp .Pow) (rI CPow fun i j => .int (i ^ j.toNat)) := opI fun _ _ _ _ _ _ _ hc q => pow_int_small hc.1 hc.2.1 hc.2.2 q
theorem op_shl : OpR X (binaryOp .LShift) (rI CPow fun i j => .int (i * 2 ^ j.toNat)) := opI fun _ _ _ _ _ _ _ hc q => lshift_int_small hc.1 hc.2.1 hc.2.2 q
theorem op_shr : OpR X (binaryOp .RShift) (rI (fun _ j => 0 ≤ j) fun i j => .int (i / 2 ^ j.toNat)) := opI fun i j _ _ _ _ _ hc q =>
  rshift_int hc (by rw [Int.fdiv_eq_ediv_of_nonneg i (two_pow_nn _)]; exact q)
end
/-! ### comparisons -/
/-- the scalars that == tells apart as data does -/
def scal : V → V → Bool
  | .non, .non => true | .non, .int _ => true | .int _, .non => true | .non, .bl _ => true | .bl _, .non => true | .non, .str _ => true | .str _, .non => true
  | .int _, .int _ => true | .bl _, .bl _ => true | .str _, .str _ => true | .byt _, .byt _ => true
  | .int _, .str _ => true | .str _, .int _ => true | .bl _, .str _ => true | .str _, .bl _ => true
  | _, _ => false
def rEq : R2 := fun x y H Q => scal x y = true ∧ Q (.bl (decide (x = y))) H
def rNe : R2 := fun x y H Q => scal x y = true ∧ Q (.bl (!decide (x = y))) H
theorem dec_int {i j : Int} : decide (V.int i = V.int j) = (i == j) := by
  rw [Bool.eq_iff_iff]
  simp
theorem dec_bl {i j : Bool} : decide (V.bl i = V.bl j) = (i == j) := by
  rw [Bool.eq_iff_iff]
  simp
theorem dec_str {i j : Str} : decide (V.str i = V.str j) = (i == j) := by
  rw [Bool.eq_iff_iff]
  simp
theorem dec_byt {i j : Array UInt8} : decide (V.byt i = V.byt j) = (i.toList == j.toList) := by
  rw [Bool.eq_iff_iff]
  cases i
  cases j
  simp
section
variable {X : Cx} {a b c : Expr} {ta tb tc : TE} {pos : Pos}
theorem fin_bl {pins : List (Addr × Obj)} {σ : St} {H : Hp} {s : Shared} {Q : VK} {k k' : Bool} (I : Inv X pins σ H s) (q : Q (.bl k) H) (e : k = k') : EP X pins σ Q (.bool k') s := by
  subst e
  exact ⟨.bl k, H, I, rfl, q⟩
theorem op_eq : OpR X (compareOp .Eq) rEq := by
  intro pins s σ H x y v u Q I rx ry h
  obtain ⟨hs, q⟩ := h
  cases x with
  | non =>
    cases rx
    cases y with
    | non => cases ry; exact PySem.EqNone.eq_none_none (fin_bl I q (by simp))
    | bl j => cases ry; exact PySem.EqNone.eq_none_bool (fin_bl I q (by simp))
    | int j => obtain ⟨t', rfl⟩ := ry; exact PySem.EqNone.eq_none_int (fin_bl I q (by simp))
    | str j => obtain ⟨t', rfl⟩ := ry; exact PySem.EqNone.eq_none_str (fin_bl I q (by simp))
    | _ => exact absurd (show false = true from hs) Bool.false_ne_true
  | bl i =>
    cases rx
    cases y with
    | non => cases ry; exact PySem.EqNone.eq_bool_none (fin_bl I q (by simp))
    | bl j => cases ry; exact eq_bool (fin_bl I q dec_bl)
    | str j => obtain ⟨t', rfl⟩ := ry; exact PySem.EqMixed.eq_bool_str (fin_bl I q (by simp))
    | _ => exact absurd (show false = true from hs) Bool.false_ne_true
  | int i =>
    obtain ⟨t, rfl⟩ := rx
    cases y with
    | non => cases ry; exact PySem.EqNone.eq_int_none (fin_bl I q (by simp))
    | int j => obtain ⟨t', rfl⟩ := ry; exact eq_int (fin_bl I q dec_int)
    | str j => obtain ⟨t', rfl⟩ := ry; exact PySem.EqMixed.eq_int_str (fin_bl I q (by simp))
    | _ => exact absurd (show false = true from hs) Bool.false_ne_true
  | str i =>
    obtain ⟨t, rfl⟩ := rx
    cases y with
    | non => cases ry; exact PySem.EqNone.eq_str_none (fin_bl I q (by simp))
    | bl j => cases ry; exact PySem.EqMixed.eq_str_bool (fin_bl I q (by simp))
    | int j => obtain ⟨t', rfl⟩ := ry; exact PySem.EqMixed.eq_str_int (fin_bl I q (by simp))
    | str j => obtain ⟨t', rfl⟩ := ry; exact eq_str (fin_bl I q dec_str)
    | _ => exact absurd (show false = true from hs) Bool.false_ne_true
  | byt i =>
    obtain ⟨t, rfl⟩ := rx
    cases y with
    | byt j => obtain ⟨t', rfl⟩ := ry; exact PySem.W.eq_bytes (fin_bl I q dec_byt)
    | _ => exact absurd (show false = true from hs) Bool.false_ne_true
  | _ => cases y <;> exact absurd (show false = true from hs) Bool.false_ne_true
theorem op_ne : OpR X (compareOp .NotEq) rNe := by
  intro pins s σ H x y v u Q I rx ry h
  obtain ⟨hs, q⟩ := h
  cases x with
  | non =>
    cases rx
    cases y with
    | non => cases ry; exact PySem.EqNone.ne_none_none (fin_bl I q (by simp))
    | bl j => cases ry; exact PySem.EqNone.ne_none_bool (fin_bl I q (by simp))
    | int j => obtain ⟨t', rfl⟩ := ry; exact PySem.EqNone.ne_none_int (fin_bl I q (by simp))
    | str j => obtain ⟨t', rfl⟩ := ry; exact PySem.EqNone.ne_none_str (fin_bl I q (by simp))
    | _ => exact absurd (show false = true from hs) Bool.false_ne_true
  | bl i =>
    cases rx
    cases y with
    | non => cases ry; exact PySem.EqNone.ne_bool_none (fin_bl I q (by simp))
    | bl j => cases ry; exact ne_bool (fin_bl I q (congrArg not dec_bl))
    | str j => obtain ⟨t', rfl⟩ := ry; exact PySem.EqMixed.ne_bool_str (fin_bl I q (by simp))
    | _ => exact absurd (show false = true from hs) Bool.false_ne_true
  | int i =>
    obtain ⟨t, rfl⟩ := rx
    cases y with
    | non => cases ry; exact PySem.EqNone.ne_int_none (fin_bl I q (by simp))
    | int j => obtain ⟨t', rfl⟩ := ry; exact ne_int (fin_bl I q (congrArg not dec_int))
    | str j => obtain ⟨t', rfl⟩ := ry; exact PySem.EqMixed.ne_int_str (fin_bl I q (by simp))
    | _ => exact absurd (show false = true from hs) Bool.false_ne_true
  | str i =>
    obtain ⟨t, rfl⟩ := rx
    cases y with
    | non => cases ry; exact PySem.EqNone.ne_str_none (fin_bl I q (by simp))
    | bl j => cases ry; exact PySem.EqMixed.ne_str_bool (fin_bl I q (by simp))
    | int j => obtain ⟨t', rfl⟩ := ry; exact PySem.EqMixed.ne_str_int (fin_bl I q (by simp))
    | str j => obtain ⟨t', rfl⟩ := ry; exact ne_str (fin_bl I q (congrArg not dec_str))
    | _ => exact absurd (show false = true from hs) Bool.false_ne_true
  | byt i =>
    obtain ⟨t, rfl⟩ := rx
    cases y with
    | byt j => obtain ⟨t', rfl⟩ := ry; exact PySem.W.ne_bytes (fin_bl I q (congrArg not dec_byt))
    | _ => exact absurd (show false = true from hs) Bool.false_ne_true
  | _ => cases y <;> exact absurd (show false = true from hs) Bool.false_ne_true
theorem op_lt : OpR X (compareOp .Lt) (rI0 fun i j => .bl (decide (i < j))) := opB0 fun _ _ _ _ _ _ _ q => lt_int q
theorem op_le : OpR X (compareOp .LtE) (rI0 fun i j => .bl (decide (i ≤ j))) := opB0 fun _ _ _ _ _ _ _ q => le_int q
theorem op_gt : OpR X (compareOp .Gt) (rI0 fun i j => .bl (decide (j < i))) := opB0 fun _ _ _ _ _ _ _ q => gt_int q
/-- two rules for one operation: by cases -/
theorem OpR.or {f : Value → Value → Sem Value} {r r' : R2} (h : OpR X f r) (h' : OpR X f r') : OpR X f (fun x y H Q => r x y H Q ∨ r' x y H Q) := by
  intro pins s σ H x y v u Q I rx ry q
  rcases q with q | q
  · exact h pins s σ H x y v u Q I rx ry q
  · exact h' pins s σ H x y v u Q I rx ry q
theorem nomark (b : Expr) {op : CmpOp} (h : op ≠ .In := by decide) (h2 : op ≠ .NotIn := by decide) : behindInMarks op b = false := by
  have e1 : (op == CmpOp.In) = false := by cases op <;> first | rfl | exact absurd rfl h
  have e2 : (op == CmpOp.NotIn) = false := by cases op <;> first | rfl | exact absurd rfl h2
  cases b <;> simp [behindInMarks, e1, e2]
/-- a comparison as a value; hm: nomark b, or (for in, not in) by with_unfolding_all rfl -/
theorem pe_cmpR {op : CmpOp} {r : R2} (ho : OpR X (compareOp op) r) (ha : PE X a ta) (hb : PE X b tb) (hm : behindInMarks op b = false) : PE X (.Compare a [op] [b] pos) (tOp r ta tb) := by
  intro pins s σ H Q I h
  exact wpAny_Compare1 (binT ha hb I h fun v u s2 x y H2 I2 rx ry q => ho pins s2 σ H2 x y v u Q I2 rx ry q) hm
/-- a reading of a value as a test -/
def tTest (t : TE) : TT := fun σ H Q => t σ H fun x H' => ∃ k, x = .bl k ∧ Q k H'
theorem pt_cmpR {op : CmpOp} {r : R2} (ho : OpR X (compareOp op) r) (ha : PE X a ta) (hb : PE X b tb) (hm : behindInMarks op b = false) : PT X (.Compare a [op] [b] pos) (tTest (tOp r ta tb)) := by
  intro pins s σ H Q I h
  refine wpAny_isTrue_Compare1 (thn (ha pins s σ H _ I h) fun v s1 ⟨x, H1, I1, r1, q1⟩ => thn (hb pins s1 σ H1 _ I1 q1) fun u s2 ⟨y, H2, I2, r2, q2⟩ =>
    thn (ho pins s2 σ H2 x y v u _ I2 r1 r2 q2) fun c s3 ⟨z, H3, I3, r3, k, e, q3⟩ => ?_) hm
  subst e
  cases r3
  exact wpAny_truthy_bool ⟨H3, I3, q3⟩
/-- a op1 b op2 c -/
def tChain (r r' : R2) (ta tb tc : TE) : TE := fun σ H Q => ta σ H fun x H1 => tb σ H1 fun y H2 => r x y H2 fun z H3 => ∃ k, z = .bl k ∧
  (if k = true then tc σ H3 fun w' H4 => r' y w' H4 Q else Q (.bl false) H3)
theorem pe_chain {op op' : CmpOp} {r r' : R2} (ho : OpR X (compareOp op) r) (ho' : OpR X (compareOp op') r') (ha : PE X a ta) (hb : PE X b tb) (hc : PE X c tc)
    (hm : lastMarks [op, op'] [b, c] = false := by with_unfolding_all rfl) : PE X (.Compare a [op, op'] [b, c] pos) (tChain r r' ta tb tc) := by
  intro pins s σ H Q I h
  refine Compare_chain (thn (ha pins s σ H _ I h) fun v s1 ⟨x, H1, I1, r1, q1⟩ => chain_link (thn (hb pins s1 σ H1 _ I1 q1) fun u s2 ⟨y, H2, I2, r2, q2⟩ =>
    thn (ho pins s2 σ H2 x y v u _ I2 r1 r2 q2) fun d s3 ⟨z, H3, I3, r3, k, e, q3⟩ => ?_)) hm
  subst e
  cases r3
  refine wpAny_truthy_bool ?_
  cases k with
  | false => exact ite_ff ⟨.bl false, H3, I3, rfl, q3⟩
  | true => exact ite_tt (chain_last (thn (hc pins s3 σ H3 _ I3 q3) fun w' s4 ⟨z', H4, I4, r4, q4⟩ => ho' pins s4 σ H4 y z' u w' Q I4 r2 r4 q4))
/-! ### truth -/
/-- a value's truth by the abstract heap -/
def TruV (K : PySem.W.Frag) (x : V) (H : Hp) (k : Bool) : Prop :=
  match x with
  | .non => k = false
  | .bl b => k = b
  | .int i => k = (i != 0)
  | .str y => y.length ≤ sizeLine ∧ k = ((y.length : Int) != 0)
  | .byt y => y.size ≤ sizeLine ∧ k = ((y.size : Int) != 0)
  | .ref p => (∃ xs, SqL K H p xs ∧ k = !xs.isEmpty) ∨ (∃ xs, SqT K H p xs ∧ k = !xs.isEmpty) ∨ ∃ kvs, H p = some (.dK kvs) ∧ k = !kvs.isEmpty
  | _ => False
theorem isEmpty_kv {κ : Type} {kvs : List (κ × V)} {vs : List (κ × Value)} (r : KV kvs vs) : (!vs.isEmpty) = !kvs.isEmpty := by
  cases r <;> rfl
theorem isEmpty_of {xs : List V} {its : List Value} (r : Vals xs its) : (!its.toArray.isEmpty) = !xs.isEmpty := by
  cases r <;> simp
theorem line63 : (sizeLine : Nat) < 2 ^ 63 := by rw [sizeLine_eq]; decide
theorem tru_ok : TruR X (fun x H Q => ∃ k, TruV X.K x H k ∧ Q k H) := by
  intro pins s σ H x v Q I rx h
  obtain ⟨k, e, q⟩ := h
  have hl := line63
  have hs : sizeLine = 16777216 := sizeLine_eq
  cases x with
  | non =>
    cases rx
    have e' : k = false := e
    subst e'
    exact truthy_none ⟨H, I, q⟩
  | bl b =>
    cases rx
    have e' : k = b := e
    subst e'
    exact wpAny_truthy_bool ⟨H, I, q⟩
  | int i =>
    obtain ⟨t, rfl⟩ := rx
    have e' : k = (i != 0) := e
    subst e'
    exact PySem.P.truthy_int ⟨H, I, q⟩
  | str y =>
    obtain ⟨t, rfl⟩ := rx
    obtain ⟨hy, e'⟩ : y.length ≤ sizeLine ∧ k = ((y.length : Int) != 0) := e
    subst e'
    exact PySem.P.truthy_str (by omega) ⟨H, I.tok _, q⟩
  | byt y =>
    obtain ⟨t, rfl⟩ := rx
    obtain ⟨hy, e'⟩ : y.size ≤ sizeLine ∧ k = ((y.size : Int) != 0) := e
    subst e'
    exact PySem.W.truthy_bytes (by omega) ⟨H, I.tok _, q⟩
  | ref p =>
    cases rx
    have e' : (∃ xs, SqL X.K H p xs ∧ k = !xs.isEmpty) ∨ (∃ xs, SqT X.K H p xs ∧ k = !xs.isEmpty) ∨ ∃ kvs, H p = some (.dK kvs) ∧ k = !kvs.isEmpty := e
    rcases e' with ⟨xs, hx, e'⟩ | ⟨xs, hx, e'⟩ | ⟨kvs, hx, e'⟩
    · subst e'
      obtain ⟨its, r, pl, hz⟩ := I.list hx
      have hlen := r.length
      exact wpAny_truthy_list pl.isList (by simp only [List.size_toArray]; omega) ⟨H, I.tok _, by rw [isEmpty_of r]; exact q⟩
    · subst e'
      obtain ⟨its, r, pl, hz⟩ := I.tuple hx
      have hlen := r.length
      exact truthy_tuple pl (by simp only [List.size_toArray]; omega) ⟨H, I.tok _, by rw [isEmpty_of r]; exact q⟩
    · subst e'
      obtain ⟨hz, hS, vs, r, m⟩ : kvs.length ≤ sizeLine ∧ (p == sysModules) = false ∧ ∃ vs, KV kvs vs ∧ s.heap.DictOf (mixKind X.prog X.w) p vs := I.hok p _ hx
      have hlen : kvs.length = vs.length := Paired.length r
      exact wpAny_truthy_dict hS m (by omega) ⟨H, I.tok _, by rw [isEmpty_kv r]; exact q⟩
  | _ => exact (show False from e).elim
/-! ### scalar builtins, by CallR -/
theorem vals1 {x : V} {us : List Value} (r : Vals [x] us) : ∃ u, us = [u] ∧ RelV x u := by
  cases r with
  | cons r1 r2 => cases r2; exact ⟨_, rfl, r1⟩
/-- len of a str, a bytes, a list, a tuple -/
def LenV (K : PySem.W.Frag) (x : V) (H : Hp) (n : Nat) : Prop :=
  match x with
  | .str y => y.length ≤ sizeLine ∧ n = y.length
  | .byt y => y.size ≤ sizeLine ∧ n = y.size
  | .ref p => (∃ xs, SqL K H p xs ∧ n = xs.length) ∨ ∃ xs, SqT K H p xs ∧ n = xs.length
  | _ => False
theorem call_len : CallR X (.builtin "len") (fun xs H Q => ∃ x n, xs = [x] ∧ LenV X.K x H n ∧ Q (.int n) H) := by
  intro pins s σ H xs us Q I r h
  obtain ⟨x, n, rfl, e, q⟩ := h
  obtain ⟨u, rfl, rx⟩ := vals1 r
  have hl := line63
  have hs : sizeLine = 16777216 := sizeLine_eq
  cases x with
  | str y =>
    obtain ⟨t, rfl⟩ := rx
    obtain ⟨hy, e'⟩ : y.length ≤ sizeLine ∧ n = y.length := e
    subst e'
    exact len_str (by omega) ⟨.int _, H, I.tok _, ⟨_, rfl⟩, q⟩
  | byt y =>
    obtain ⟨t, rfl⟩ := rx
    obtain ⟨hy, e'⟩ : y.size ≤ sizeLine ∧ n = y.size := e
    subst e'
    exact PySem.W.len_bytes (by omega) ⟨.int _, H, I.tok _, ⟨_, rfl⟩, q⟩
  | ref p =>
    cases rx
    have e' : (∃ xs, SqL X.K H p xs ∧ n = xs.length) ∨ ∃ xs, SqT X.K H p xs ∧ n = xs.length := e
    rcases e' with ⟨xs, hx, e'⟩ | ⟨xs, hx, e'⟩
    · subst e'
      obtain ⟨its, r', pl, hz⟩ := I.list hx
      have hlen := r'.length
      exact Calls.call_len_list pl.isList (by simp only [List.size_toArray]; omega) ⟨.int xs.length, H, I.tok _, ⟨_, by simp only [List.size_toArray]; rw [hlen]⟩, q⟩
    · subst e'
      obtain ⟨its, r', pl, hz⟩ := I.tuple hx
      have hlen := r'.length
      exact len_tuple pl (by simp only [List.size_toArray]; omega) ⟨.int xs.length, H, I.tok _, ⟨_, by simp only [List.size_toArray]; rw [hlen]⟩, q⟩
  | _ => exact (show False from e).elim
end
end L2
namespace L2
open PySem PySem.Spec PyProof.Rows
/-! ### an instance, its attributes a map -/
structure ObjM (h : Heap) (x dx C : Addr) (mA : Str → Option Value) : Prop where
  obj : h.get? x = some (PySem.W.instObj C dx)
  ns : h.Ns1 dx mA
  ne : dx ≠ x
theorem lookIn_ns {h : Heap} {dx : Addr} {mA : Str → Option Value} (n : h.Ns1 dx mA) : ∃ od, h.get? dx = some od ∧ ∀ name, PySem.W.lookIn name od = some (mA name) := by
  obtain ⟨o, es, ep, ho, hd, hk, _, hm⟩ := n
  refine ⟨o, ho, fun name => ?_⟩
  have e := hm name
  unfold nsFind findBy at e
  rw [← Array.find?_toList] at e
  unfold PySem.W.lookIn
  rw [hd]
  dsimp only
  split
  · rename_i y q
    rw [q] at e
    exact congrArg some e
  · rename_i q
    rw [q] at e
    have a : es.toList.any (·.refKey) = false := by
      rw [List.any_eq_false]
      intro y hy
      obtain ⟨z, t, hkey⟩ := hk y (Array.mem_toList_iff.mp hy)
      simp [DictEntry.refKey, hkey]
    have a' : ¬ es.toList.any (·.refKey) = true := by rw [a]; exact Bool.false_ne_true
    rw [if_neg a']
    exact congrArg some e
theorem ObjM.look {h : Heap} {x dx C : Addr} {mA : Str → Option Value} (I : ObjM h x dx C mA) : ∃ od, PySem.W.InstAt h x (PySem.W.instObj C dx) C (some od) ∧ ∀ name, PySem.W.lookIn name od = some (mA name) :=
  let ⟨od, ho, hl⟩ := lookIn_ns I.ns
  ⟨od, ⟨I.obj, rfl, rfl, ho⟩, hl⟩
section
variable {prog : Program} {w : World} {A : Around} {E : Value → Shared → Prop} {s : Shared} {K : PySem.W.Frag} {x dx C f : Addr} {mA : Str → Option Value} {name : Str} {v : Value}
theorem get_map {expr : Bool} {Q : Value → Shared → Prop} (X : K.In s.heap) (I : ObjM s.heap x dx C mA) (hg : PySem.W.plainGet K C name = true) (hh : PySem.W.hasDictIn K C = true)
    (ha : PySem.W.findIn K (.ref C) name = some none) (hv : mA name = some v) (hv' : PySem.W.handedIn v = true) (h : Q v { s with toks := s.toks + 1 }) :
    wpAny (model prog w) A (getAttr (.ref x) name expr) Q E s := by
  obtain ⟨od, J, hl⟩ := I.look
  exact PySem.W.get_value X J (PySem.W.plainGet_of hg).1 (PySem.W.findObj_own hh ha rfl (by rw [hl, hv])) hv' h
theorem get_meth {pl : Sem Bool} {Q : Value × List Value → Shared → Prop} (X : K.In s.heap) (I : ObjM s.heap x dx C mA) (hg : PySem.W.plainGet K C name = true)
    (hf : PySem.W.findIn K (.ref C) name = some (some (.ref f))) (ht : PySem.W.isFn K (.ref f) = true) (hv : mA name = none) (h : Q (.ref f, [.ref x]) s) :
    wpAny (model prog w) A (getMethod (.ref x) name pl) Q E s := by
  obtain ⟨od, J, hl⟩ := I.look
  exact PySem.W.method_fn X J (PySem.W.plainGet_of hg).1 (PySem.W.plainGet_of hg).2 hf (beq_iff_eq.mp ht) (by show (PySem.W.lookIn name od).map (·.isSome) = some false; rw [hl, hv]; rfl) h
theorem set_map {ns : List Str} {Q : Unit → Shared → Prop} (X : K.In s.heap) (I : ObjM s.heap x dx C mA)
    (hs : PySem.W.findIn K (.ref C) "__setattr__" = some (some (.builtin "object.__setattr__"))) (hp : PySem.W.plainOver K C = true) (ht : PySem.W.takerIn K C name = some none) (hh : PySem.W.hasDictIn K C = true)
    (hw : PySem.Within mA ns) (hsz : ns.length ≤ sizeLine)
    (h : ∀ h', ObjM h' x dx C (fun y => if y = name then some v else mA y) → Heap.SameBut dx s.heap h' → Q () { s with heap := h', toks := s.toks + 2 }) :
    wpAny (model prog w) A (setAttr (.ref x) name v) Q E s := by
  obtain ⟨od, J, hl⟩ := I.look
  refine PySem.W.set_plain X J hs (PySem.W.osa_open (s := { s with toks := s.toks + 1 }) (r := none) X J hp ht fun b => ?_)
  obtain ⟨cd, hc, hd'⟩ := PySem.W.any_some hh
  have hx : s.heap.get? x = some ⟨.ref C, some dx, .plain, #[]⟩ := I.obj
  refine wpAny_bind (wpAny_pure (wpAny_bind (wpAny_bind (wpAny_loadPart hx (wpAny_bind (PySem.W.Looks.here (s := { s with toks := s.toks + 1 }) (PySem.W.looks_clsIn X hc) ?_))))))
  rw [hd']
  refine wpAny_pure (a := some dx) (wpAny_bind (wpAny_pure (wpAny_bind ?_)))
  refine wpAny_nsSet1 (s := { s with toks := s.toks + 1 }) I.ns fun h' hn2 hs2 => ?_
  obtain ⟨oD, esD, epD, hoD, hdD, hcD⟩ := hn2.count (PySem.Within.cons name v hw)
  refine wpAny_bind (wpAny_lookBehind hoD (by rw [hdD]; exact pastItsLine_dict (Nat.le_trans hcD (by rw [List.length_cons]; omega))) ?_)
  exact wpAny_pure (h _ ⟨(hs2.2 _ (Ne.symm I.ne)).trans I.obj, hn2, I.ne⟩ hs2)
/-- C(..): the dict at the heap's end, the instance behind it; then its __init__ -/
theorem make_map {R : Result → Shared → Prop} {vs : List Value} {kw : List (Str × Value)} (X : K.In s.heap) (hm : PySem.W.makesIn K C = true)
    (hi : PySem.W.findIn K (.ref C) "__init__" = some (some (.ref f))) (hf : PySem.W.typeIn K (.ref f) = some (.type "function"))
    (h : codeAny (model prog w) (A.under (.builtin "type.__call__" ⟨.ref C :: vs, kw⟩)) (.call (.ref f) ⟨.ref (s.heap.objs.size + 1) :: vs, kw⟩) (PySem.W.InitBack (s.heap.objs.size + 1) R)
      { s with heap := (s.heap.push PySem.W.emptyDict).push (PySem.W.instObj C s.heap.objs.size) }) :
    codeAny (model prog w) A (.call (.ref C) ⟨vs, kw⟩) R s := by
  obtain ⟨hh, g, d, t, os⟩ := s
  exact PySem.W.make_core (PySem.W.makes_of X hm) (PySem.W.looks_findIn X hi) (fun self => PySem.W.bind_fn X self hf) (.inl rfl) h
end
/-! ### the attributes as a list of pairs -/
def putF (f : Str) (v : V) : List (Str × V) → List (Str × V)
  | [] => [(f, v)]
  | (g, x) :: r => if g = f then (g, v) :: r else (g, x) :: putF f v r
theorem lookup_putF (f g : Str) (v : V) : ∀ fs : List (Str × V), (putF f v fs).lookup g = if g = f then some v else fs.lookup g
  | [] => by
    show List.lookup g [(f, v)] = _
    by_cases h : g = f
    · have hb : (g == f) = true := beq_iff_eq.mpr h
      simp only [List.lookup, hb, if_pos h]
    · have hb : (g == f) = false := beq_eq_false_iff_ne.mpr h
      simp only [List.lookup, hb, if_neg h]
  | (k, x) :: r => by
    have ih := lookup_putF f g v r
    rw [show putF f v ((k, x) :: r) = (if k = f then (k, v) :: r else (k, x) :: putF f v r) from rfl]
    by_cases hk : k = f
    · rw [if_pos hk]
      by_cases h : g = k
      · have hb : (g == k) = true := beq_iff_eq.mpr h
        simp only [List.lookup, hb, if_pos (h.trans hk)]
      · have hb : (g == k) = false := beq_eq_false_iff_ne.mpr h
        simp only [List.lookup, hb, if_neg (fun e : g = f => h (e.trans hk.symm))]
    · rw [if_neg hk]
      by_cases h : g = k
      · have hb : (g == k) = true := beq_iff_eq.mpr h
        simp only [List.lookup, hb, if_neg (fun e : g = f => hk (h.symm.trans e))]
      · have hb : (g == k) = false := beq_eq_false_iff_ne.mpr h
        simp only [List.lookup, hb]
        exact ih
theorem keys_putF (f : Str) (v : V) : ∀ fs : List (Str × V), f ∈ (putF f v fs).map (·.1) ∧ ∀ g, g ∈ fs.map (·.1) → g ∈ (putF f v fs).map (·.1)
  | [] => ⟨by simp [putF], fun g h => by simp at h⟩
  | (k, x) :: r => by
    obtain ⟨i1, i2⟩ := keys_putF f v r
    rw [show putF f v ((k, x) :: r) = (if k = f then (k, v) :: r else (k, x) :: putF f v r) from rfl]
    by_cases hk : k = f
    · rw [if_pos hk]
      subst hk
      exact ⟨by simp, fun g h => by simpa using h⟩
    · rw [if_neg hk]
      refine ⟨?_, fun g h => ?_⟩
      · rw [List.map_cons]
        exact List.mem_cons_of_mem _ i1
      · rw [List.map_cons] at h ⊢
        rcases List.mem_cons.mp h with e | e
        · exact List.mem_cons.mpr (.inl e)
        · exact List.mem_cons_of_mem _ (i2 g e)
theorem length_putF (f : Str) (v : V) : ∀ fs : List (Str × V), (putF f v fs).length ≤ fs.length + 1
  | [] => by simp [putF]
  | (k, x) :: r => by
    have ih := length_putF f v r
    rw [show putF f v ((k, x) :: r) = (if k = f then (k, v) :: r else (k, x) :: putF f v r) from rfl]
    by_cases hk : k = f
    · rw [if_pos hk, List.length_cons, List.length_cons]; omega
    · rw [if_neg hk, List.length_cons, List.length_cons]; omega
theorem RelO.some_of {v : V} {o : Option Value} (r : RelO (some v) o) : ∃ u, o = some u ∧ RelV v u := by
  cases o with
  | none => exact (show False from r).elim
  | some u => exact ⟨u, rfl, r⟩
theorem RelO.none_of {o : Option Value} (r : RelO none o) : o = none := by
  cases o with
  | none => rfl
  | some u => exact (show False from r).elim
theorem handed_of {v : V} {u : Value} (r : RelV v u) : PySem.W.handedIn u = true := by
  cases v with
  | non => cases (show u = Value.none from r); rfl
  | bl b => cases (show u = Value.bool b from r); rfl
  | int i => obtain ⟨t, e⟩ := (show ∃ t, u = Value.int i t from r); cases e; rfl
  | str x => obtain ⟨t, e⟩ := (show ∃ t, u = Value.str x t from r); cases e; rfl
  | byt b => obtain ⟨t, e⟩ := (show ∃ t, u = Value.bytes b t from r); cases e; rfl
  | flt b => obtain ⟨t, e⟩ := (show ∃ t, u = Value.float b t from r); cases e; rfl
  | ref a => cases (show u = Value.ref a from r); rfl
  | ty n => cases (show u = Value.type n from r); rfl
section
variable {P : Program} {w : World} {H H' : Hp} {h h' : Heap} {a C dx : Addr} {fs fs' : List (Str × V)}
theorem ins_get (hok : HOk P w H h) (e : H a = some (.ins C dx fs)) : ∃ mA, ObjM h a dx C mA ∧ (∀ f, RelO (fs.lookup f) (mA f)) ∧ PySem.Within mA (fs.map (·.1)) ∧ fs.length ≤ 1000 ∧ H dx = some (.own a) := by
  obtain ⟨d, z, ne, ob, mA, n, r, q⟩ := (show ObjOk P w H h a (.ins C dx fs) from hok a _ e)
  exact ⟨mA, ⟨ob, n, ne⟩, r, q, z, d⟩
end
/-! ### what of the text a class must have -/
structure Cls (K : PySem.W.Frag) (C : Addr) : Prop where
  pg : PySem.W.plainGet K C Str.empty = true
  hd : PySem.W.hasDictIn K C = true
  po : PySem.W.plainOver K C = true
  sa : PySem.W.findIn K (.ref C) "__setattr__" = some (some (.builtin "object.__setattr__"))
theorem Cls.get {K : PySem.W.Frag} {C : Addr} (c : Cls K C) (f : Str) : PySem.W.plainGet K C f = true := c.pg
/-- no class of it has the name -/
def NoAttr (K : PySem.W.Frag) (C : Addr) (f : Str) : Prop := PySem.W.findIn K (.ref C) f = some none
theorem NoAttr.taker {K : PySem.W.Frag} {C : Addr} {f : Str} (n : NoAttr K C f) : PySem.W.takerIn K C f = some none := by
  unfold PySem.W.takerIn
  rw [show PySem.W.findIn K (.ref C) f = some none from n]
  rfl
/-- a method: a plain def of the class or of one above it -/
structure Meth (K : PySem.W.Frag) (C : Addr) (m : Str) (f : Addr) : Prop where
  at_ : PySem.W.findIn K (.ref C) m = some (some (.ref f))
  fn : PySem.W.isFn K (.ref f) = true
  kp : PySem.W.keepIn K (.ref f) = true
section
variable {X : Cx} {pins : List (Addr × Obj)} {σ : St} {H : Hp} {s : Shared} {a C dx : Addr} {fs : List (Str × V)} {f : Str} {v : V} {A : Around} {E : Value → Shared → Prop}
theorem getattr_ok {b : Bool} {Q : Value → Shared → Prop} (I : Inv X pins σ H s) (e : H a = some (.ins C dx fs)) (c : Cls X.K C) (n : NoAttr X.K C f) (l : fs.lookup f = some v)
    (h : ∀ u s', Inv X pins σ H s' → RelV v u → Q u s') : wpAny (model X.prog X.w) A (getAttr (.ref a) f b) Q E s := by
  obtain ⟨mA, O, r, _, _, _⟩ := ins_get I.hok e
  obtain ⟨u, hu, ru⟩ := RelO.some_of (v := v) (o := mA f) (by rw [← l]; exact r f)
  exact get_map I.kIn O (c.get f) c.hd n hu (handed_of ru) (h u _ (I.tok _) ru)
theorem getmeth_ok {m : Str} {g : Addr} {pl : Sem Bool} {Q : Value × List Value → Shared → Prop} (I : Inv X pins σ H s) (e : H a = some (.ins C dx fs)) (c : Cls X.K C) (k : Meth X.K C m g) (l : fs.lookup m = none)
    (h : Q (.ref g, [.ref a]) s) : wpAny (model X.prog X.w) A (getMethod (.ref a) m pl) Q E s := by
  obtain ⟨mA, O, r, _, _, _⟩ := ins_get I.hok e
  have hn : mA m = none := RelO.none_of (by rw [← l]; exact r m)
  exact get_meth I.kIn O (c.get m) k.at_ k.fn hn h
theorem setattr_ok {y : V} {u : Value} {Q : Unit → Shared → Prop} (I : Inv X pins σ H s) (e : H a = some (.ins C dx fs)) (c : Cls X.K C) (n : NoAttr X.K C f) (hl : fs.length < 1000) (ry : RelV y u)
    (h : ∀ s', Inv X pins σ (upd H a (.ins C dx (putF f y fs))) s' → Q () s') : wpAny (model X.prog X.w) A (setAttr (.ref a) f u) Q E s := by
  obtain ⟨mA, O, r, wi, _, ho⟩ := ins_get I.hok e
  have hz : (fs.map (·.1)).length ≤ sizeLine := by rw [List.length_map, sizeLine_eq]; omega
  refine set_map I.kIn O c.sa c.po n.taker c.hd wi hz fun h' O' sb => h _ ?_
  have hd : ∃ o, h'.get? dx = some o := let ⟨o, _, _, e', _⟩ := O'.ns; ⟨o, e'⟩
  refine I.write (x := a) (e := dx) (by rw [e]; exact True.intro) (.inr ho) (fun b q hb z => (sb.2 b hb).trans z) hd ?_
  refine ⟨by rw [upd_ne O.ne]; exact ho, ?_, O.ne, O'.obj, _, O'.ns, fun g => ?_, fun g hg => ?_⟩
  · have := length_putF f y fs; omega
  · show RelO ((putF f y fs).lookup g) (if g = f then some u else mA g)
    rw [lookup_putF]
    by_cases q : g = f
    · rw [if_pos q, if_pos q]; exact ry
    · rw [if_neg q, if_neg q]; exact r g
  · by_cases q : g = f
    · rw [q]; exact (keys_putF f y fs).1
    · refine (keys_putF f y fs).2 g (wi g fun z => hg ?_)
      show (if g = f then some u else mA g) = none
      rw [if_neg q]; exact z
/-- a new instance, tracked, without attributes -/
theorem Inv.made (I : Inv X pins σ H s) : Inv X pins σ (upd (upd H s.heap.objs.size (.own (s.heap.objs.size + 1))) (s.heap.objs.size + 1) (.ins C s.heap.objs.size []))
    { s with heap := (s.heap.push PySem.W.emptyDict).push (PySem.W.instObj C s.heap.objs.size) } := by
  have e1 : (s.heap.push PySem.W.emptyDict).get? s.heap.objs.size = some PySem.W.emptyDict := Heap.get?_push_size s.heap rfl
  have e2 : ((s.heap.push PySem.W.emptyDict).push (PySem.W.instObj C s.heap.objs.size)).get? (s.heap.objs.size + 1) = some (PySem.W.instObj C s.heap.objs.size) := by
    have := Heap.get?_push_size (s.heap.push PySem.W.emptyDict) (o := PySem.W.instObj C s.heap.objs.size) rfl
    rwa [Heap.size_push] at this
  have e3 : (s.heap.push PySem.W.emptyDict).Ns s.heap.objs.size (fun _ => none) := ⟨PySem.W.emptyDict, #[], _, e1, rfl, (fun e he => absurd he (by simp)), fun _ => rfl⟩
  have I1 := I.laid (a := s.heap.objs.size) (o := .own (s.heap.objs.size + 1)) (h' := s.heap.push PySem.W.emptyDict) (t' := s.toks) (fun b u q => Heap.get?_push_of_some _ q) (Nat.le_refl _) ⟨_, e1⟩
  refine I1.laid (a := s.heap.objs.size + 1) (o := .ins C s.heap.objs.size []) (t' := s.toks) (fun b u q => Heap.get?_push_of_some _ q) (Nat.le_of_eq (Heap.size_push _ _)) ?_
  have ne : s.heap.objs.size ≠ s.heap.objs.size + 1 := Nat.ne_of_lt (Nat.lt_succ_self _)
  refine ⟨by rw [upd_ne ne, upd_same], Nat.zero_le _, ne, e2, fun _ => none, (Heap.Ns1.of_empty e3).at fun o q => Heap.get?_push_of_some _ q, fun _ => True.intro, fun y hy => absurd rfl hy⟩
/-- e.f where nothing but the object is asked: through attributeBase (super) and the last hold -/
theorem attr_of {prog : Program} {w : World} {env : Env} {e : Expr} {f : Str} {pos : Pos} {s : Shared} {Q : Value → Shared → Prop} (hb : attributeBase e f env (eval e env) = eval e env)
    (h : wpAny (model prog w) A (eval e env) (fun o s₁ => wpAny (model prog w) A (getAttr o f true) Q E s₁) E s) : wpAny (model prog w) A (eval (.Attribute e f pos) env) Q E s :=
  Attribute_any_ h (by rw [arm_eval_Attribute, hb])
end
/-! ### readings and rules -/
/-- e.f, an attribute of the instance -/
def tFld (K : PySem.W.Frag) (ta : TE) (f : Str) : TE := fun σ H Q => ta σ H fun x H1 => ∃ a C dx fs v, x = .ref a ∧ H1 a = some (.ins C dx fs) ∧ Cls K C ∧ NoAttr K C f ∧ fs.lookup f = some v ∧ Q v H1
/-- e.f = value -/
def sFld (K : PySem.W.Frag) (ta tv : TE) (f : Str) : TS := fun D σ H => tv σ H fun y H1 => ta σ H1 fun x H2 => ∃ a C dx fs, x = .ref a ∧ H2 a = some (.ins C dx fs) ∧ Cls K C ∧ NoAttr K C f ∧ fs.length < 1000 ∧
  D.nx σ (upd H2 a (.ins C dx (putF f y fs)))
section
variable {X : Cx} {o e value : Expr} {f : Str} {pos pos' tpos : Pos} {ta tv : TE}
theorem pe_fld (he : PE X e ta) (hb : attributeBase e f X.env (eval e X.env) = eval e X.env) : PE X (.Attribute e f pos) (tFld X.K ta f) := by
  intro pins s σ H Q I h
  refine attr_of hb (thn (he pins s σ H _ I h) fun u s1 ⟨x, H1, I1, rx, a, C, dx, fs, v, ex, ea, c, n, l, q⟩ => ?_)
  subst ex
  obtain rfl : u = Value.ref a := rx
  exact getattr_ok I1 ea c n l fun u' s2 I2 ru => ⟨v, H1, I2, ru, q⟩
theorem ps_fld (ha : PE X o ta) (hv : PE X value tv) (hs : swapsWith value (some (.Attribute o f pos')) pos.line X.env = pure false) : PS X (.Assign [.Attribute o f pos'] value pos) (sFld X.K ta tv f) := by
  intro pins s σ H D I h
  refine plainObj_wpAny_Assign_Attribute (thn (hv pins s σ H _ I h) fun u s1 ⟨y, H1, I1, ry, q⟩ => thn (ha pins s1 σ H1 _ I1 q) fun ov s2 ⟨x, H2, I2, rx, a, C, dx, fs, ex, ea, c, n, l, q2⟩ => ?_) hs
  subst ex
  obtain rfl : ov = Value.ref a := rx
  exact setattr_ok I2 ea c n l ry fun s3 I3 => ⟨σ, _, I3, q2⟩
end
/-! ### isinstance -/
section
variable {X : Cx} {pins : List (Addr × Obj)} {σ : St} {H : Hp} {s : Shared} {A : Around} {E : Value → Shared → Prop} {Q : Value → Shared → Prop} {c : Value} {b : Bool}
/-- the type of a value, as the fragment's deciders take it; for an instance its class -/
inductive TyOf (K : PySem.W.Frag) (H : Hp) : V → Value → Prop where
  | non : TyOf K H .non (.type "NoneType")
  | bl (x : Bool) : TyOf K H (.bl x) (.type "bool")
  | int (i : Int) : TyOf K H (.int i) (.type "int")
  | str (x : Str) : TyOf K H (.str x) (.type "str")
  | flt (x : UInt64) : TyOf K H (.flt x) (.type "float")
  | lst {a : Addr} {xs : List V} (e : H a = some (.lst xs)) : TyOf K H (.ref a) (.type "list")
  | frz {a : Addr} {o : Obj} {xs : List V} (e : H a = some (.frz o (.lst xs))) : TyOf K H (.ref a) (.type "list")
  | tup {a : Addr} {xs : List V} (e : H a = some (.tup xs)) : TyOf K H (.ref a) (.type "tuple")
  | dK {a : Addr} {kvs : List (Key × V)} (e : H a = some (.dK kvs)) : TyOf K H (.ref a) (.type "dict")
  | dT {a : Addr} {kvs : List (List Key × V)} (e : H a = some (.dT kvs)) : TyOf K H (.ref a) (.type "dict")
  | ins {a C dx : Addr} {fs : List (Str × V)} (e : H a = some (.ins C dx fs)) (cl : Cls K C) (ha : PySem.W.findIn K (.ref C) "__class__" = some (some (.builtin "object.__class__")))
      (hn : PySem.W.specialIn K (.builtin "object.__class__") "__get__" = some (some (.builtin "getset_descriptor.__get__"))) (htk : PySem.W.takesIn K (.builtin "object.__class__") = some true)
      (hm : PySem.W.mroIn K C (.type "object") = some true) : TyOf K H (.ref a) (.ref C)
/-- isinstance(x, c) for one class c, a built-in or an own one: kitOne's answer -/
theorem isinst_ok {x : V} {u t : Value} (I : Inv X pins σ H s) (rx : RelV x u) (ty : TyOf X.K H x t) (e : PySem.W.kitOne X.K t c = some b) (h : ∀ tk, Q (.bool b) { s with toks := tk }) :
    wpAny (model X.prog X.w) A (call (.builtin "isinstance") [u, c]) Q E s := by
  cases ty with
  | non => cases (show u = Value.none from rx); exact PySem.W.kia_one PySem.W.kitx_none I.kIn True.intro e (fun z => nomatch z) h
  | bl y => cases (show u = Value.bool y from rx); exact PySem.W.kia_one PySem.W.kitx_bool I.kIn True.intro e (fun z => nomatch z) h
  | int i => obtain ⟨t, q⟩ := (show ∃ t, u = Value.int i t from rx); cases q; exact PySem.W.kia_one PySem.W.kitx_int I.kIn True.intro e (fun z => nomatch z) h
  | str y => obtain ⟨t, q⟩ := (show ∃ t, u = Value.str y t from rx); cases q; exact PySem.W.kia_one PySem.W.kitx_str I.kIn True.intro e (fun z => nomatch z) h
  | flt y => obtain ⟨t, q⟩ := (show ∃ t, u = Value.float y t from rx); cases q; exact PySem.W.kia_one PySem.W.kitx_float I.kIn True.intro e (fun z => nomatch z) h
  | @lst a xs ea =>
    cases (show u = Value.ref a from rx)
    obtain ⟨_, _, n, _, h1⟩ := (show ObjOk X.prog X.w H s.heap a (.lst xs) from I.hok a _ ea)
    exact PySem.W.kia_one PySem.W.kitx_list I.kIn ⟨_, h1, rfl⟩ e (fun z => nomatch z) h
  | @frz a ob xs ea =>
    cases (show u = Value.ref a from rx)
    obtain ⟨_, _, _, n, _, h1⟩ := (show ObjOk X.prog X.w H s.heap a (.frz ob (.lst xs)) from I.hok a _ ea)
    exact PySem.W.kia_one PySem.W.kitx_list I.kIn ⟨_, h1, rfl⟩ e (fun z => nomatch z) h
  | @tup a xs ea =>
    cases (show u = Value.ref a from rx)
    obtain ⟨_, _, _, p⟩ := (show ObjOk X.prog X.w H s.heap a (.tup xs) from I.hok a _ ea)
    obtain ⟨o, h1, h2, _⟩ := p
    exact PySem.W.kia_one PySem.W.kitx_tuple I.kIn ⟨o, h1, h2⟩ e (fun z => nomatch z) h
  | @dK a kvs ea =>
    cases (show u = Value.ref a from rx)
    obtain ⟨_, _, vs, _, p⟩ := (show ObjOk X.prog X.w H s.heap a (.dK kvs) from I.hok a _ ea)
    obtain ⟨o, es, ep, h1, h2, _⟩ := p
    exact PySem.W.kia_one PySem.W.kitx_dict I.kIn ⟨o, h1, h2.1⟩ e (fun z => nomatch z) h
  | @dT a kvs ea =>
    cases (show u = Value.ref a from rx)
    obtain ⟨_, _, xs, _, o, es, ep, h1, h2, _⟩ := (show ObjOk X.prog X.w H s.heap a (.dT kvs) from I.hok a _ ea)
    exact PySem.W.kia_one PySem.W.kitx_dict I.kIn ⟨o, h1, h2.1⟩ e (fun z => nomatch z) h
  | @ins a C dx fs ea cl ha hn htk hm =>
    cases (show u = Value.ref a from rx)
    obtain ⟨mA, O, _⟩ := ins_get I.hok ea
    obtain ⟨od, J, _⟩ := O.look
    exact PySem.W.kia_one (PySem.W.kitx_own (cl.get _) cl.hd ha hn htk hm) I.kIn J e (fun z => nomatch z) h
end
end L2
namespace L2
open PySem PySem.Spec PyProof.Rows
/-! ### room -/
structure Room (k : Nat) (A : Around) : Prop where
  hd : A.handled = none
  dp : A.depth + 3 * k + 5 < recursionLimit
  un : A.units + 16 * k + 200 < cLine
theorem Room.mono {j k : Nat} {A : Around} (r : Room k A) (h : j ≤ k) : Room j A := ⟨r.hd, by have := r.dp; omega, by have := r.un; omega⟩
theorem Room.deeper {k : Nat} {A : Around} (r : Room (k + 1) A) (env : Env) : Room k (A.deeper env) :=
  ⟨r.hd, by have := r.dp; show A.depth + 1 + 3 * k + 5 < _; omega, by have := r.un; show A.units + 3 + 16 * k + 200 < _; omega⟩
theorem make_depth {A : Around} {C : Addr} {us : List Value} {kw : List (Str × Value)} : (A.under (.builtin "type.__call__" ⟨.ref C :: us, kw⟩)).depth = A.depth + 1 := by
  first | rfl | simp [Around.under, Code.weight, Code.isCreation, Code.isGuard, Code.isCaller, Code.frames, Code.isFrame, guardIds]
theorem make_units {A : Around} {C : Addr} {us : List Value} {kw : List (Str × Value)} : (A.under (.builtin "type.__call__" ⟨.ref C :: us, kw⟩)).units = A.units + 1 := by
  first | rfl | simp [Around.under, Code.cUnits, Code.frames, Code.isFrame]
theorem Room.make {k : Nat} {A : Around} (r : Room (k + 1) A) (C : Addr) (us : List Value) (kw : List (Str × Value)) : Room k (A.under (.builtin "type.__call__" ⟨.ref C :: us, kw⟩)) :=
  ⟨r.hd, by have := r.dp; rw [make_depth]; omega, by have := r.un; rw [make_units]; omega⟩
theorem Room.depth {k : Nat} {A : Around} (r : Room k A) : A.depth < recursionLimit := by have := r.dp; omega
theorem Room.units {k : Nat} {A : Around} (r : Room k A) : A.units + 64 < cLine := by have := r.un; omega
/-! ### argument lists and displays -/
def tNil : TA := fun _ H Q => Q [] H
def tCons (ta : TE) (tr : TA) : TA := fun σ H Q => ta σ H fun x H1 => tr σ H1 fun xs H2 => Q (x :: xs) H2
section
variable {X : Cx} {e : Expr} {es : List Expr} {te : TE} {t : TA} {pos : Pos}
theorem pa_nil : PA X [] tNil := fun _ _ _ _ H Q I h => Calls.spliced_nil ⟨[], H, I, .nil, h⟩
theorem pa_cons (ha : PE X e te) (hr : PA X es t) (hs : starEach (e :: es) X.env = (false, eval e X.env) :: starEach es X.env := by rfl) : PA X (e :: es) (tCons te t) := by
  intro pos pins s σ H Q I h
  rw [hs]
  show wpAny _ _ (spliced ((false, eval e X.env) :: backTo pos (starEach es X.env))) _ _ s
  refine Calls.spliced_cons (thn (ha pins s σ H _ I h) fun u s1 ⟨x, H1, I1, r1, q1⟩ => ?_)
  exact thn (hr pos pins s1 σ H1 _ I1 q1) fun us s2 ⟨xs, H2, I2, r2, q2⟩ => ⟨x :: xs, H2, I2, .cons r1 r2, q2⟩
/-- a tuple, a list of written items -/
def tTup (t : TA) : TE := fun σ H Q => t σ H fun xs H1 => xs.length ≤ sizeLine ∧ ∀ p, H1 p = none → Q (.ref p) (upd H1 p (.tup xs))
def tLst (t : TA) : TE := fun σ H Q => t σ H fun xs H1 => xs.length ≤ sizeLine ∧ ∀ p, H1 p = none → Q (.ref p) (upd H1 p (.lst xs))
theorem pe_tup {x1} (h : PA X es t) : PE X (.Tuple es x1 pos) (tTup t) := by
  intro pins s σ H Q I hq
  refine wpAny_Tuple_spliced (thn (h pos pins s σ H _ I hq) fun us s1 ⟨xs, H1, I1, r, z, q⟩ => ⟨by rw [← r.length]; exact z, ?_⟩)
  have hf : H1 s1.heap.objs.size = none := I1.hok.fresh (Nat.le_refl _)
  refine ⟨.ref s1.heap.objs.size, upd H1 s1.heap.objs.size (.tup xs), I1.laid (t' := s1.toks) (fun b u e => Heap.get?_push_of_some _ e) (Nat.le_refl _) ?_, rfl, q _ hf⟩
  exact ⟨z, us, r, ⟨_, Heap.get?_push_size _ rfl, rfl, _, rfl⟩⟩
theorem pe_lst (h : PA X es t) : PE X (.List es pos) (tLst t) := by
  intro pins s σ H Q I hq
  refine wpAny_List_spliced (thn (h pos pins s σ H _ I hq) fun us s1 ⟨xs, H1, I1, r, z, q⟩ => ⟨by rw [← r.length]; exact z, ?_⟩)
  have hf : H1 s1.heap.objs.size = none := I1.hok.fresh (Nat.le_refl _)
  refine ⟨.ref s1.heap.objs.size, upd H1 s1.heap.objs.size (.lst xs), I1.laid (t' := s1.toks) (fun b u e => Heap.get?_push_of_some _ e) (Nat.le_refl _) ?_, rfl, q _ hf⟩
  exact ⟨z, us, 0, r, Heap.get?_push_size _ rfl⟩
end
/-! ### what a def promises -/
/-- a def's promise: the bound arguments in the parameters' order, the heap, the wanted end, the wanted exception -/
abbrev Sp := List V → Hp → VK → XK → Prop
/-- how an exception lies behind a call (file 08 gives it): the callers' frames, abstract heap and state ahead of the call, the wish, the exception, the state -/
abbrev CXT := List Env → Hp → Shared → XK → Value → Shared → Prop
/-- the state at a call -/
structure Env0 (P : Program) (w : World) (K : PySem.W.Frag) (mg : Str → Option Value) (base : Heap) (A : Around) (outer : List Env) (s : Shared) (H : Hp) : Prop where
  frames : A.frames = some outer
  mod : Mod K mg base
  bs : ∀ b o, base.get? b = some o → s.heap.get? b = some o ∧ H b = none
  bsz : base.objs.size ≤ s.heap.objs.size
  funs : s.heap.FunFrames base outer
  frf : ∀ b ∈ frs outer, H b = none
  hok : HOk P w H s.heap
  bare : AllBare s.gens
/-- a call's end -/
def CE (outer : List Env) (P : Program) (w : World) (H : Hp) (s : Shared) (Q : VK) (u : Value) (s' : Shared) : Prop :=
  ∃ v H', s'.os = s.os ∧ AllBare s'.gens ∧ Un (frs outer) [] H H' s.heap s'.heap ∧ HOk P w H' s'.heap ∧ RelV v u ∧ Q v H'
def CR (CX : CXT) (outer : List Env) (P : Program) (w : World) (H : Hp) (s : Shared) (Q : VK) (E : XK) (r : Result) (s' : Shared) : Prop :=
  match r with
  | .ok (.ret u) => CE outer P w H s Q u s'
  | .ok _ => False
  | .error e => CX outer H s E e s'
structure FnOk (P : Program) (w : World) (K : PySem.W.Frag) (mg : Str → Option Value) (base : Heap) (CX : CXT) (k : Nat) (f : Addr) (fd : FuncData) (ps : List Str) (sp : Sp) : Prop where
  len : ∀ vs H Q E, sp vs H Q E → vs.length = ps.length
  run : ∀ (A : Around) (outer : List Env) (s : Shared) (H : Hp) (args : Args) (us : List Value) (vs : List V) (Q : VK) (E : XK), Room k A → Env0 P w K mg base A outer s H → BindsTo s fd args (ps.zip us) → Vals vs us → sp vs H Q E →
    codeAny (model P w) A (.call (.ref f) args) (CR CX outer P w H s Q E) s
theorem Env0.make {P : Program} {w : World} {K : PySem.W.Frag} {mg : Str → Option Value} {base : Heap} {A : Around} {outer : List Env} {s : Shared} {H : Hp} (e : Env0 P w K mg base A outer s H) (C : Addr) (us : List Value) (kw : List (Str × Value)) :
    Env0 P w K mg base (A.under (.builtin "type.__call__" ⟨.ref C :: us, kw⟩)) outer s H := ⟨by first | exact e.frames | (simpa [Around.under, Code.envs, Code.isFrame, pushEnvs] using e.frames), e.mod, e.bs, e.bsz, e.funs, e.frf, e.hok, e.bare⟩
section
variable {X : Cx} {pins : List (Addr × Obj)} {σ : St} {H : Hp} {s s' : Shared}
/-- from a body: what a callee wants -/
theorem Inv.env0 (I : Inv X pins σ H s) : Env0 X.prog X.w X.K X.mg X.base X.A X.stack s H :=
  ⟨I.ok.frames, I.ok.mod, I.bs, Nat.le_trans I.ok.bsz I.sz, I.stack, I.stkFree, I.hok, I.bare⟩
/-- behind a call -/
theorem Inv.after {Q : VK} {u : Value} (I : Inv X pins σ H s) (h : CE X.stack X.prog X.w H s Q u s') : EP X pins σ Q u s' := by
  obtain ⟨v, H', os, bare, un, hok, r, q⟩ := h
  obtain ⟨hh, g, d, t, os'⟩ := s'
  obtain rfl : os' = s.os := os
  exact ⟨v, H', I.call (h' := hh) (g' := g) (d' := d) (t' := t) (ch := []) un hok bare (fun b z => absurd z (by simp)), r, q⟩
end
/-- how the parameters are bound: us the positional arguments, kw the keywords' values by name, ds the defaults that fill up -/
def Binds (K : PySem.W.Frag) (fd : FuncData) (ps : List Str) (ds : List Value) : Prop :=
  ∀ (s : Shared) (us : List Value), K.In s.heap → (us ++ ds).length = ps.length → BindsTo s fd ⟨us, []⟩ (ps.zip (us ++ ds))
/-- every parameter is given -/
theorem Binds.all {K : PySem.W.Frag} {fd : FuncData} {ps : List Str} (h : ∀ us : List Value, us.length = ps.length → bindArgs fd ⟨us, []⟩ = pure (ps.zip us)) : Binds K fd ps [] := fun s us _ hl => by
  rw [List.append_nil] at hl ⊢
  exact .of_eq (h us hl)
section
variable {X : Cx} {CX : CXT} {k : Nat} {f C : Addr} {fd : FuncData} {ps : List Str} {sp : Sp} {dvs : List V} {ds : List Value} {E : XK} {x m : Str} {p pos apos : Pos} {e o : Expr} {es : List Expr} {ta : TE} {t : TA}
/-- what a class must have to be made -/
structure Mk (K : PySem.W.Frag) (C f : Addr) : Prop where
  makes : PySem.W.makesIn K C = true
  init : PySem.W.findIn K (.ref C) "__init__" = some (some (.ref f))
  fn : PySem.W.isFn K (.ref f) = true
  kp : PySem.W.keepIn K (.ref C) = true
end
section
variable {X : Cx} {CX : CXT} {k : Nat} {f C : Addr} {fd : FuncData} {ps ks : List Str} {sp : Sp} {E : XK} {x m : Str} {p pos apos kpos : Pos} {e o : Expr} {es : List Expr} {kws : List Keyword} {te ta : TE} {t tk : TA} {nm : Option Str}
variable {g : List Value → List Value → List Value} {gV : List V → List V → List V}
end
/-! ### a def's body keeps its promise -/
/-- names: the parameters first -/
structure FnScope (N P : List Str) (sc : Scope) : Prop where
  kind : sc.kind = .function
  co : sc.isCoroutine = false
  gen : sc.isGenerator = false
  nd : N.Nodup
  pre : N.take P.length = P
  par : ∀ x ∈ P, sc.names.lookup x = some .local ∨ sc.names.lookup x = some .cell
  nofree : ∀ y ∈ sc.names, y.2 ≠ .free
theorem bindL_out {kindOf : Str → Option NameKind} {x : Str} : ∀ {binds : List (Str × Value)} {m : Str → Option Value}, (∀ v, (x, v) ∉ binds) → bindL kindOf binds m x = m x
  | [], _, _ => rfl
  | (n, v) :: r, m, h => by
    unfold bindL
    rw [bindL_out fun w hw => h w (List.mem_cons_of_mem _ hw)]
    split
    · have : x ≠ n := by rintro rfl; exact h v List.mem_cons_self
      simp [this]
    · rfl
theorem bindC_out {kindOf : Str → Option NameKind} {x : Str} : ∀ {binds : List (Str × Value)} {m : Str → Option Value}, (∀ v, (x, v) ∉ binds) → bindC kindOf binds m x = m x
  | [], _, _ => rfl
  | (n, v) :: r, m, h => by
    unfold bindC
    rw [bindC_out fun w hw => h w (List.mem_cons_of_mem _ hw)]
    split
    · rfl
    · have : x ≠ n := by rintro rfl; exact h v List.mem_cons_self
      simp [this]
theorem bindL_get {kindOf : Str → Option NameKind} {x : Str} {v : Value} : ∀ {P : List Str} {vs : List Value} {i : Nat} {m : Str → Option Value}, P.Nodup → P[i]? = some x → vs[i]? = some v → kindOf x = some .local →
    bindL kindOf (P.zip vs) m x = some v
  | [], _, _, _, _, h, _, _ => by simp at h
  | _ :: _, [], _, _, _, _, h, _ => by simp at h
  | p :: P, w :: vs, 0, m, nd, h1, h2, hk => by
    simp at h1 h2; subst h1; subst h2
    show bindL kindOf ((p, w) :: P.zip vs) m p = _
    unfold bindL
    rw [bindL_out fun v hv => (List.nodup_cons.mp nd).1 (List.of_mem_zip hv).1, if_pos hk]
    simp
  | p :: P, w :: vs, i + 1, m, nd, h1, h2, hk => by
    show bindL kindOf ((p, w) :: P.zip vs) m x = _
    unfold bindL
    exact bindL_get (i := i) (List.nodup_cons.mp nd).2 (by simpa using h1) (by simpa using h2) hk
theorem bindC_get {kindOf : Str → Option NameKind} {x : Str} {v : Value} : ∀ {P : List Str} {vs : List Value} {i : Nat} {m : Str → Option Value}, P.Nodup → P[i]? = some x → vs[i]? = some v → kindOf x ≠ some .local →
    bindC kindOf (P.zip vs) m x = some v
  | [], _, _, _, _, h, _, _ => by simp at h
  | _ :: _, [], _, _, _, _, h, _ => by simp at h
  | p :: P, w :: vs, 0, m, nd, h1, h2, hk => by
    simp at h1 h2; subst h1; subst h2
    show bindC kindOf ((p, w) :: P.zip vs) m p = _
    unfold bindC
    rw [bindC_out fun v hv => (List.nodup_cons.mp nd).1 (List.of_mem_zip hv).1, if_neg hk]
    simp
  | p :: P, w :: vs, i + 1, m, nd, h1, h2, hk => by
    show bindC kindOf ((p, w) :: P.zip vs) m x = _
    unfold bindC
    exact bindC_get (i := i) (List.nodup_cons.mp nd).2 (by simpa using h1) (by simpa using h2) hk
/-- the names' values at the entry -/
def start (N : List Str) (vs : List V) : St := vs.map some ++ List.replicate (N.length - vs.length) none
/-- the context of a def's body, at its entry; an exception leaves the frame, then lies as CX says -/
def cxOf (CX : CXT) (P : Program) (w : World) (K : PySem.W.Frag) (mg : Str → Option Value) (base : Heap) (N : List Str) (qual : Str) (scope : Scope) (f : Addr) (cd : Value) (A : Around) (outer : List Env) (s : Shared) (H : Hp) (E : XK) : Cx where
  prog := P
  w := w
  K := K
  mg := mg
  base := base
  A := A.deeper (envOfC qual scope s.heap.objs.size f cd)
  N := N
  s₀ := s
  H₀ := H
  env := envOfC qual scope s.heap.objs.size f cd
  outer := outer
  stack := envOfC qual scope s.heap.objs.size f cd :: outer
  ex := []
  calm := true
  fn := fun _ => true
  pn := []
  xe := fun e s' => wpAny (model P w) (A.deeper (envOfC qual scope s.heap.objs.size f cd)) (leaving (envOfC qual scope s.heap.objs.size f cd) e) (fun _ s'' => CX outer H s E e s'') (fun e' s'' => CX outer H s E e' s'') s'
theorem cell_has {sc : Scope} {n : Nat} {x : Str} (h : sc.names.lookup x = some .cell) : ∃ c, (cellsFrom n sc.names []).lookup x = some c := by
  have q := PySem.W.cellsFrom_some sc.names n [] (.inl h)
  exact Option.isSome_iff_exists.mp q
theorem inv_start {CX : CXT} {P : Program} {w : World} {K : PySem.W.Frag} {mg : Str → Option Value} {base : Heap} {N ps : List Str} {qual : Str} {scope : Scope} {f : Addr} {cd : Value} {A : Around} {outer : List Env} {s s1 : Shared} {H : Hp} {E : XK} {us : List Value} {vs : List V}
    (S : FnScope N ps scope) (hd : A.handled = none) (e0 : Env0 P w K mg base A outer s H) (hl : vs.length = ps.length) (r : Vals vs us)
    (x : InCallC s s.heap.objs.size (bindL (envOfC qual scope s.heap.objs.size f cd).kindOf (ps.zip us) fun _ => none) (cellsFrom (s.heap.objs.size + 1) scope.names []) (bindC (envOfC qual scope s.heap.objs.size f cd).kindOf (ps.zip us) fun _ => none) s1) :
    Inv (cxOf CX P w K mg base N qual scope f cd A outer s H E) [] (start N vs) H s1 := by
  have hpl : ps.length ≤ N.length := by have := congrArg List.length S.pre; rw [List.length_take] at this; omega
  obtain ⟨h1, tk, rfl, hk⟩ := x.done
  have noA : ∀ b : Addr, b ∉ (cxOf CX P w K mg base N qual scope f cd A outer s H E).ex := fun b z => absurd (show b ∈ ([] : List Addr) from z) (by simp)
  refine ⟨⟨e0.mod, S.kind, rfl, rfl, Nat.le_refl _, fun y z c h1 h2 => ?_, fun y hy => ?_, fun y c _ h => ?_, fun _ => hd, Around.frames_deeper e0.frames, .inr ⟨rfl, rfl⟩, fun b z => absurd z (noA b), e0.bs, e0.bsz, fun b _ _ => noA b, fun b z => absurd z (noA b), e0.funs, e0.frf⟩,
    rfl, e0.bare, Un.kept hk, ⟨_, x.toInCall.ns, fun i y v h1 h2 h3 => ?_⟩, fun y c h => ⟨_, x.cell y c h⟩, e0.hok.fresh (Nat.le_refl _), fun y c h => ?_, fun p hp => absurd (show p ∈ ([] : List (Addr × Obj)) from hp) (by simp), e0.hok.kept hk, ?_⟩
  · exact name_of_addr x.apart (PySem.mem_of_lookup h1) (PySem.mem_of_lookup h2)
  · have hy : scope.names.lookup y = some .cell ∨ scope.names.lookup y = some .free := hy
    rcases hy with hy | hy
    · exact cell_has hy
    · exact absurd rfl (S.nofree _ (PySem.mem_of_lookup hy))
  · exact Nat.le_of_lt (x.above y c (PySem.mem_of_lookup h))
  · have hi : i < vs.length := by
      unfold start at h2
      by_cases hi : i < vs.length
      · exact hi
      · rw [List.getElem?_append_right (by simpa using hi)] at h2
        rw [List.getElem?_replicate] at h2
        split at h2 <;> cases h2
    have ha : vs[i]? = some v := by
      unfold start at h2
      rw [List.getElem?_append_left (by simpa using hi), List.getElem?_map] at h2
      cases e : vs[i]? with
      | none => rw [e] at h2; cases h2
      | some a => rw [e] at h2; cases h2; rfl
    obtain ⟨u, hu, rv⟩ := r.get ha
    have hp : ps[i]? = some y := by
      rw [← S.pre, List.getElem?_take_of_lt (by omega)]; exact h1
    have ndP : ps.Nodup := by rw [← S.pre]; exact S.nd.sublist (List.take_sublist _ _)
    refine ⟨u, rv, ?_⟩
    rcases S.par y (List.mem_of_getElem? hp) with k | k
    · exact .inl ⟨k, bindL_get ndP hp hu k⟩
    · obtain ⟨c, e⟩ := cell_has (n := s.heap.objs.size + 1) k
      refine .inr ⟨.inl k, c, e, ?_⟩
      have q := x.cell y c e
      rw [bindC_get ndP hp hu (by show scope.names.lookup y ≠ _; rw [k]; decide)] at q
      exact q
  · exact e0.hok.fresh (Nat.le_of_lt (x.above y c (PySem.mem_of_lookup h)))
  · unfold start
    show _ = N.length
    rw [List.length_append, List.length_map, List.length_replicate]
    omega
/-- THE RULE: a def (or a method) of the text, by its body. The body's reading t is chosen for each entry; it is run at the parameters' values -/
theorem fn_of {CX : CXT} {P : Program} {w : World} {K : PySem.W.Frag} {mg : Str → Option Value} {base : Heap} {k : Nat} {f : Addr} {name qual : Str} {params : Arguments} {body : List Stmt} {scope : Scope} {dV kV doc pm cdv ct oc : Value} {an od : Option Addr}
    {osl : Array (Option Value)} {N ps : List Str} {sp : Sp} (lk : K.lookup f = some ⟨oc, od, .func (PySem.W.fnOf name qual params body scope dV kV doc pm an cdv ct), osl⟩) (hcd : PySem.W.codeIn K cdv qual = true) (S : FnScope N ps scope)
    (len : ∀ vs H Q E, sp vs H Q E → vs.length = ps.length)
    (hbody : ∀ (A : Around) (outer : List Env) (s : Shared) (H : Hp) (vs : List V) (Q : VK) (E : XK), Room k (A.deeper (envOfC qual scope s.heap.objs.size f cdv)) → sp vs H Q E →
      ∃ t, PSs (cxOf CX P w K mg base N qual scope f cdv A outer s H E) body t ∧ t { nx := fun _ H' => Q .non H', rt := Q } (start N vs) H) :
    FnOk P w K mg base CX (k + 1) f (PySem.W.fnOf name qual params body scope dV kV doc pm an cdv ct) ps sp := by
  refine ⟨len, fun A outer s H args us vs Q E hr e0 hb r hsp => ?_⟩
  have hl := len _ _ _ _ hsp
  have KX : K.In s.heap := e0.mod.kin.keeps fun b o e => (e0.bs b o e).1
  have lim : s.heap.NoLimit := e0.mod.nolimit.keeps fun b o e => (e0.bs b o e).1
  have hkind : ∀ y ∈ ps.zip us, scope.names.lookup y.1 = some .local ∨ (scope.names.lookup y.1 = some .cell ∧ ((cellsFrom (s.heap.objs.size + 1) scope.names []).lookup y.1).isSome = true) := fun ⟨n, v⟩ hy => by
    rcases S.par n (List.of_mem_zip hy).1 with q | q
    · exact .inl q
    · exact .inr ⟨q, PySem.W.cellsFrom_some _ _ _ (.inl q)⟩
  refine codeAny_call_function hr.depth (KX _ _ lk) rfl S.co S.gen rfl (PySem.W.codeRec_of KX hcd) (hb _ _ _ _ ?_)
  refine wpAny_newFunctionEnv_cells S.kind hkind fun env he s1 x => ?_
  subst he
  refine ⟨lim.keeps x.toInCall.keep, codeAny_func ?_⟩
  obtain ⟨t, ht, hq⟩ := hbody A outer s H vs Q E (hr.deeper _) hsp
  have I : Inv (cxOf CX P w K mg base N qual scope f cdv A outer s H E) [] (start N vs) H s1 := inv_start S hr.hd e0 hl r x
  refine wpAny_mono (ht [] s1 (start N vs) H _ I hq) (fun fl s' hs => ?_) fun e s' hs => hs
  have fin : ∀ {σ' : St} {H' : Hp} {v : V} {u : Value}, Inv (cxOf CX P w K mg base N qual scope f cdv A outer s H E) [] σ' H' s' → RelV v u → Q v H' → CE outer P w H s Q u s' :=
    fun {σ' H' v u} J rv q => ⟨v, H', J.os, J.bare, J.base, J.hok, rv, q⟩
  cases fl with
  | ret u =>
    obtain ⟨v, σ', H', J, rv, q⟩ := hs
    exact fin J rv q
  | next =>
    obtain ⟨σ', H', J, q⟩ := hs
    exact fin (v := V.non) (u := Value.none) J rfl q
  | brk =>
    obtain ⟨_, _, _, q⟩ := hs
    exact False.elim q
  | cont =>
    obtain ⟨_, _, _, q⟩ := hs
    exact False.elim q
end L2
namespace L2
open PySem PySem.Spec PyProof.Rows
section
variable {X : Cx} {x : Str} {p pos : Pos} {e : Expr} {es : List Expr} {t : TA} {id T : String} {r : List V → Hp → VK → Prop}
def tCB (r : List V → Hp → VK → Prop) (t : TA) : TE := fun σ H Q => t σ H fun vs H1 => r vs H1 Q
/-- f(e, ..), f a built-in function -/
theorem pe_callB (hc : CallR X (.builtin id) r) (hg : Gl X x) (hm : X.mg x = none) (hv : bootBuiltins x = some (.builtin id)) (ha : PA X (e :: es) t) (hn : x ≠ "__name__" := by decide) (hdb : (x == ("__debug__" : Str)) = false := by decide)
    (he : starEach (e :: es) X.env = (false, eval e X.env) :: starEach es X.env := by rfl) (hpl : (backTo pos (starEach es X.env)).any (·.1) = false := by rfl) : PE X (.Call (.Name x p) (e :: es) [] pos) (tCB r t) := by
  intro pins s σ H Q I h
  refine wpAny_Call_Name_kw (ld_blt I hg hm hv ?_ hn hdb)
  exact PyProof.Rows.callWith_builtin1 (thn (ha pos pins s σ H _ I h) fun us s1 ⟨vs, H1, I1, r1, q1⟩ => hc pins s1 σ H1 vs us Q I1 r1 q1) he hpl
end
end L2
namespace HT
open PySem PyProof.Rows
section
open PySem.SeqAt
open PySem.AutoSeq1 (wpAny_loadPart')
open PySem.MeetsSeq PySem.MeetsSeq2 PySem.MeetsSeq3
end
section
variable {prog : Program} {w : World} {A : Around} {E : Value → Shared → Prop} {s : Shared}
/-! ### t[a:b], not the whole -/
/-- a slice's bound as a place among n (d where it is left out) -/
def sIx (n d : Nat) : Option Int → Nat
  | none => d
  | some v => if v < 0 then (v + (n : Int)).toNat else min v.toNat n
end
end HT
namespace L2
open PySem PySem.Spec PyProof.Rows
/-! ### the parts of a slice -/
abbrev TO := St → Hp → (Option Int → Hp → Prop) → Prop
/-- a slice's part (left out, or an int) -/
def PO (X : Cx) (e : Option Expr) (t : TO) : Prop :=
  ∀ (pins : List (Addr × Obj)) (s : Shared) (σ : St) (H : Hp) (Q : Option Int → Hp → Prop), Inv X pins σ H s → t σ H Q →
    wpAny (model X.prog X.w) X.A (evalPart e X.env) (fun u s' => ∃ o H', Inv X pins σ H' s' ∧ IsPart u o ∧ Q o H') X.xe s
def tNoPart : TO := fun _ H Q => Q none H
def tPart (t : TE) : TO := fun σ H Q => t σ H fun x H1 => ∃ i, x = .int i ∧ Q (some i) H1
section
variable {X : Cx} {e : Expr} {te : TE} {lo hi : Option Expr} {tl th : TO} {pos p2 : Pos}
theorem po_none : PO X none tNoPart := by
  intro pins s σ H Q I h
  rw [evalPart_none]
  exact wpAny_pure ⟨none, H, I, .none, h⟩
theorem po_some (h : PE X e te) : PO X (some e) (tPart te) := by
  intro pins s σ H Q I hw
  rw [evalPart_some]
  refine thn (h pins s σ H _ I hw) fun u s1 ⟨x, H1, I1, r1, q1⟩ => ?_
  obtain ⟨i, rfl, q⟩ := q1
  obtain ⟨t, rfl⟩ := r1
  exact ⟨some i, H1, I1, .int i t, q⟩
/-- what a slice of a value is, by values: the slice object stands at sl -/
def SlR (X : Cx) (r : V → Option Int → Option Int → Hp → VK → Prop) : Prop :=
  ∀ (pins : List (Addr × Obj)) (s : Shared) (σ : St) (H : Hp) (x : V) (v vl vu : Value) (lo hi : Option Int) (sl : Addr) (Q : VK), Inv X pins σ H s → RelV x v → s.heap.IsSliceOf sl vl vu .none → IsPart vl lo → IsPart vu hi → r x lo hi H Q →
    ∃ T id, typeLookup (.type T) "__getitem__" = pure (some (.builtin id)) ∧ s.TypeIs v T ∧ wpAny (model X.prog X.w) X.A (getItem v (.ref sl)) (EP X pins σ Q) X.xe s
theorem SlR.or {r r' : V → Option Int → Option Int → Hp → VK → Prop} (h : SlR X r) (h' : SlR X r') : SlR X (fun x lo hi H Q => r x lo hi H Q ∨ r' x lo hi H Q) := by
  intro pins s σ H x v vl vu lo hi sl Q I rx hs pl pu q
  rcases q with q | q
  · exact h pins s σ H x v vl vu lo hi sl Q I rx hs pl pu q
  · exact h' pins s σ H x v vl vu lo hi sl Q I rx hs pl pu q
def tSl (r : V → Option Int → Option Int → Hp → VK → Prop) (te : TE) (tl th : TO) : TE := fun σ H Q => te σ H fun x H1 => tl σ H1 fun l H2 => th σ H2 fun u H3 => r x l u H3 Q
/-- a[lo:hi], any a -/
theorem pe_slice {r : V → Option Int → Option Int → Hp → VK → Prop} (hr : SlR X r) (he : PE X e te) (hl : PO X lo tl) (hu : PO X hi th) : PE X (.Subscript e (.Slice lo hi none p2) pos) (tSl r te tl th) := by
  intro pins s σ H Q I h
  refine Subscript_ (thn (he pins s σ H _ I h) fun v s1 ⟨x, H1, I1, r1, q1⟩ => ?_)
  refine wpAny_Slice (thn (hl pins s1 σ H1 _ I1 q1) fun vl s2 ⟨l, H2, I2, pl, q2⟩ => thn (hu pins s2 σ H2 _ I2 q2) fun vu s3 ⟨u, H3, I3, pu, q3⟩ => ?_)
  rw [evalPart_none]
  refine wpAny_pure ?_
  have I4 : Inv X pins σ H3 { s3 with heap := s3.heap.push { cls := .type "slice", data := .fields #[vl, vu, .none] } } := I3.kept (t' := s3.toks) fun b ob q => Heap.get?_push_of_some _ q
  obtain ⟨T, id, hT, ht, hg⟩ := hr pins { s3 with heap := s3.heap.push { cls := .type "slice", data := .fields #[vl, vu, .none] } } σ H3 x v vl vu l u s3.heap.objs.size Q I4 r1 (Heap.IsSliceOf.new ..) pl pu q3
  show wpAny (model X.prog X.w) X.A (subscriptTail e (.Slice lo hi none p2) v (.ref s3.heap.objs.size)) (EP X pins σ Q) X.xe { s3 with heap := s3.heap.push { cls := .type "slice", data := .fields #[vl, vu, .none] } }
  exact tail_any (ops := [.ref s3.heap.objs.size, v]) ht hT hg (by with_unfolding_all rfl)
/-- the items of xs[lo:hi] -/
def cutV (xs : List V) (lo hi : Option Int) : List V := (xs.drop (HT.sIx xs.length 0 lo)).take (HT.sIx xs.length xs.length hi - HT.sIx xs.length 0 lo)
theorem cutV_length (xs : List V) (lo hi : Option Int) : (cutV xs lo hi).length ≤ xs.length := by
  unfold cutV
  rw [List.length_take, List.length_drop]
  omega
end
end L2
namespace L2
open PySem PySem.Spec PyProof.Rows
/-! ### places -/
/-- the place that an index of any sign means -/
def ixN (n : Nat) (i : Int) : Option Nat := if 0 ≤ i then (if i < n then some i.toNat else none) else if -(n : Int) ≤ i then some (i + n).toNat else none
def atI {α : Type} (xs : List α) (i : Int) : Option α := (ixN xs.length i).bind fun j => xs[j]?
theorem ixN_seq {n : Nat} {i : Int} {j : Nat} (h : ixN n i = some j) : seqIndex? i n = some j ∧ j < n ∧ -(n : Int) ≤ i ∧ i < n := by
  unfold ixN at h
  by_cases h0 : 0 ≤ i
  · rw [if_pos h0] at h
    by_cases h1 : i < n
    · rw [if_pos h1] at h
      have e : i.toNat = j := Option.some.inj h
      exact ⟨by rw [seqIndex_of h0 h1, e], by omega, by omega, h1⟩
    · rw [if_neg h1] at h; cases h
  · rw [if_neg h0] at h
    by_cases h1 : -(n : Int) ≤ i
    · rw [if_pos h1] at h
      have e : (i + n).toNat = j := Option.some.inj h
      exact ⟨by rw [seqIndex_neg (by omega) h1, e], by omega, h1, by omega⟩
    · rw [if_neg h1] at h; cases h
theorem atI_get {α : Type} {xs : List α} {i : Int} {v : α} (h : atI xs i = some v) : ∃ j, seqIndex? i xs.length = some j ∧ xs[j]? = some v ∧ j < xs.length ∧ -(xs.length : Int) ≤ i ∧ i < xs.length := by
  unfold atI at h
  cases e : ixN xs.length i with
  | none => rw [e] at h; cases h
  | some j =>
    rw [e] at h
    obtain ⟨h1, h2, h3, h4⟩ := ixN_seq e
    exact ⟨j, h1, h, h2, h3, h4⟩
theorem atI_nat {α : Type} {xs : List α} {j : Nat} {v : α} (h : xs[j]? = some v) : atI xs (j : Int) = some v := by
  have hj : j < xs.length := (List.getElem?_eq_some_iff.mp h).1
  have e : ixN xs.length (j : Int) = some j := by
    unfold ixN
    rw [if_pos (by omega), if_pos (by omega)]; simp
  unfold atI; rw [e]; exact h
/-! ### what may be subscripted -/
/-- what stands as an index of a plain subscript -/
def PlainIx (b : Expr) : Prop := ∀ o i, subscripted b false o i = operate [o, i] (getItem o i)
/-- a subscript by values -/
def IxR (X : Cx) (r : R2) : Prop :=
  ∀ (value slice : Expr) (pins : List (Addr × Obj)) (s : Shared) (σ : St) (H : Hp) (x y : V) (v u : Value) (Q : VK), Inv X pins σ H s → RelV x v → RelV y u → r x y H Q →
    subscripted slice false v u = operate [v, u] (getItem v u) → wpAny (model X.prog X.w) X.A (subscriptTail value slice v u) (EP X pins σ Q) X.xe s
/-- a call of a builtin's method by values: the receiver, the arguments -/
def MtR (X : Cx) (id : String) (r : V → List V → Hp → VK → Prop) : Prop :=
  ∀ (pins : List (Addr × Obj)) (s : Shared) (σ : St) (H : Hp) (x : V) (xs : List V) (v : Value) (us : List Value) (Q : VK), Inv X pins σ H s → RelV x v → Vals xs us → r x xs H Q →
    wpAny (model X.prog X.w) X.A (call (.builtin id) (v :: us)) (EP X pins σ Q) X.xe s
section
variable {X : Cx} {a b : Expr} {ta tb : TE} {pos : Pos}
theorem IxR.or {r r' : R2} (h : IxR X r) (h' : IxR X r') : IxR X (fun x y H Q => r x y H Q ∨ r' x y H Q) := by
  intro value slice pins s σ H x y v u Q I rx ry q hs
  rcases q with q | q
  · exact h value slice pins s σ H x y v u Q I rx ry q hs
  · exact h' value slice pins s σ H x y v u Q I rx ry q hs
theorem MtR.or {id : String} {r r' : V → List V → Hp → VK → Prop} (h : MtR X id r) (h' : MtR X id r') : MtR X id (fun x xs H Q => r x xs H Q ∨ r' x xs H Q) := by
  intro pins s σ H x xs v us Q I rx rs q
  rcases q with q | q
  · exact h pins s σ H x xs v us Q I rx rs q
  · exact h' pins s σ H x xs v us Q I rx rs q
/-- a[b] -/
theorem pe_ix {r : R2} (hr : IxR X r) (ha : PE X a ta) (hb : PE X b tb) (hs : PlainIx b) : PE X (.Subscript a b pos) (tOp r ta tb) := by
  intro pins s σ H Q I h
  exact Subscript_ (binT ha hb I h fun v u s2 x y H2 I2 rx ry q => hr a b pins s2 σ H2 x y v u Q I2 rx ry q (hs _ _))
def rIxL (K : PySem.W.Frag) : R2 := fun x y H Q => ∃ p xs i v, x = .ref p ∧ y = .int i ∧ SqL K H p xs ∧ atI xs i = some v ∧ Q v H
def rIxT (K : PySem.W.Frag) : R2 := fun x y H Q => ∃ p xs i v, x = .ref p ∧ y = .int i ∧ SqT K H p xs ∧ atI xs i = some v ∧ Q v H
theorem ix_list : IxR X (rIxL X.K) := by
  intro value slice pins s σ H x y v u Q I rx ry h hs
  obtain ⟨p, xs, i, z, rfl, rfl, hq, he, q⟩ := h
  cases rx
  obtain ⟨t, rfl⟩ := ry
  obtain ⟨its, r, pl, hz⟩ := I.list hq
  obtain ⟨j, h1, h2, h3, h4, h5⟩ := atI_get he
  obtain ⟨w, ew, rw'⟩ := r.get h2
  have hl := r.length
  have hn := line63
  have fin : EP X pins σ Q w s := ⟨z, H, I, rw', q⟩
  by_cases h0 : 0 ≤ i
  · have hj : i.toNat = j := by
      rw [seqIndex_of h0 h5] at h1
      exact Option.some.inj h1
    exact item_listR pl.isList h0 (by omega) (by rw [hj]; simpa using ew) fin hs
  · have hj : (i + (its.toArray.size : Int)).toNat = j := by
      rw [seqIndex_neg (by omega) h4] at h1
      rw [List.size_toArray, ← hl]
      exact Option.some.inj h1
    exact subscriptTail_builtinR (x := w) pl.isList.typeIs slot_list_getitem.lookup
      (wpAny_getItem_list_neg (Q := fun r s' => r = w ∧ EP X pins σ Q r s') pl.isList (by omega) (by rw [List.size_toArray] <;> omega) (by omega) (by rw [hj]; simpa using ew) ⟨rfl, fin⟩) hs
theorem ix_tup : IxR X (rIxT X.K) := by
  intro value slice pins s σ H x y v u Q I rx ry h hs
  obtain ⟨p, xs, i, z, rfl, rfl, hq, he, q⟩ := h
  cases rx
  obtain ⟨t, rfl⟩ := ry
  obtain ⟨its, r, pl, hz⟩ := I.tuple hq
  obtain ⟨j, h1, h2, h3, h4, h5⟩ := atI_get he
  obtain ⟨w, ew, rw'⟩ := r.get h2
  have hl := r.length
  have hn := line63
  have fin : EP X pins σ Q w s := ⟨z, H, I, rw', q⟩
  exact subscriptTail_builtinR (x := w) pl.typeIs slot_tuple_getitem.lookup
    (getItem_tuple (j := j) (Q := fun r s' => r = w ∧ EP X pins σ Q r s') pl (by omega) (by omega) (by rw [List.size_toArray, ← hl]; exact h1) (by simpa using ew) ⟨rfl, fin⟩) hs
theorem Inv.lst {pins : List (Addr × Obj)} {σ : St} {H : Hp} {s : Shared} {p : Addr} {xs : List V} (I : Inv X pins σ H s) (h : H p = some (.lst xs)) :
    ∃ (its : List Value) (n : Nat), Vals xs its ∧ s.heap.get? p = some { cls := .type "list", data := .seq its.toArray n } ∧ xs.length ≤ sizeLine := by
  obtain ⟨z, its, n, r, e⟩ := I.hok p _ h
  exact ⟨its, n, r, e, z⟩
/-! ### slices -/
theorem slice_bounds (lo hi : Option Int) (n : Nat) : (sliceBounds lo hi none n).1 = ((HT.sIx n 0 lo : Nat) : Int) ∧ (sliceBounds lo hi none n).2.1 = ((HT.sIx n n hi : Nat) : Int) ∧ (sliceBounds lo hi none n).2.2 = 1 := by
  refine ⟨?_, ?_, rfl⟩
  · cases lo with
    | none => simp [sliceBounds, HT.sIx]
    | some i =>
      simp only [sliceBounds, HT.sIx, Option.getD_none, show (1 : Int) > 0 by decide, if_true]
      by_cases h : i < 0
      · simp only [h, if_true] <;> omega
      · simp only [h, if_false] <;> omega
  · cases hi with
    | none => simp [sliceBounds, HT.sIx]
    | some i =>
      simp only [sliceBounds, HT.sIx, Option.getD_none, show (1 : Int) > 0 by decide, if_true]
      by_cases h : i < 0
      · simp only [h, if_true] <;> omega
      · simp only [h, if_false] <;> omega
theorem slicePick_cut (its : List Value) (lo hi : Option Int) : slicePick its.toArray lo hi none = ((its.drop (HT.sIx its.length 0 lo)).take (HT.sIx its.length its.length hi - HT.sIx its.length 0 lo)).toArray := by
  obtain ⟨h1, h2, h3⟩ := slice_bounds lo hi its.toArray.size
  unfold slicePick
  rw [h1, h2, h3]
  simp only [sliceRange_one, pick_run, List.size_toArray] <;> rfl
/-- xs[lo:hi] of a list: a new list -/
def rSlL (K : PySem.W.Frag) : V → Option Int → Option Int → Hp → VK → Prop := fun x lo hi H Q => ∃ a xs, x = .ref a ∧ SqL K H a xs ∧ ∀ p, H p = none → Q (.ref p) (upd H p (.lst (cutV xs lo hi)))
theorem sl_list : SlR X (rSlL X.K) := by
  intro pins s σ H x v vl vu lo hi sl Q I rx hs pl pu h
  obtain ⟨a, xs, rfl, hx, q⟩ := h
  cases rx
  obtain ⟨its, r, ht, hz⟩ := I.list hx
  have hlen := r.length
  refine ⟨"list", _, slot_list_getitem.lookup, ht.isList.typeIs, ?_⟩
  refine wpAny_getItem_list_slice ht.isList hs pl pu .none (by simp) ?_ (by rw [List.size_toArray] <;> omega)
  rw [slicePick_cut, ← hlen]
  refine ⟨.ref s.heap.objs.size, _, I.laid (t' := s.toks) (o := .lst (cutV xs lo hi)) (fun b ob q => Heap.get?_push_of_some _ q) (Nat.le_refl _) ?_, rfl, q _ (I.hok.fresh (Nat.le_refl _))⟩
  exact ⟨Nat.le_trans (cutV_length xs lo hi) hz, _, 0, (r.drop (HT.sIx xs.length 0 lo)).take (HT.sIx xs.length xs.length hi - HT.sIx xs.length 0 lo), Heap.get?_push_size _ rfl⟩
/-! ### in, not in: flat items -/
def flatV : V → Bool
  | .non => true
  | .bl _ => true
  | .int _ => true
  | .str _ => true
  | _ => false
theorem CallR.or {f : Value} {r r' : List V → Hp → VK → Prop} (h : CallR X f r) (h' : CallR X f r') : CallR X f (fun xs H Q => r xs H Q ∨ r' xs H Q) := by
  intro pins s σ H xs us Q I rs q
  rcases q with q | q
  · exact h pins s σ H xs us Q I rs q
  · exact h' pins s σ H xs us Q I rs q
/-! ### the call of a builtin's method: o.m(..) -/
/-- the value is of that builtin type -/
def tyV (K : PySem.W.Frag) (T : String) (x : V) (H : Hp) : Prop := match x with
  | .str _ => T = "str"
  | .int _ => T = "int"
  | .ref p => (T = "list" ∧ ∃ xs, SqL K H p xs) ∨ (T = "tuple" ∧ ∃ o, K.lookup p = some o ∧ o.cls = .type "tuple" ∧ o.dict = none) ∨
      (T = "dict" ∧ ((∃ kvs, H p = some (.dK kvs)) ∨ ∃ kvs, H p = some (.dT kvs))) ∨ (T = "set" ∧ ∃ S n, H p = some (.set S n))
  | _ => False
theorem tyV_is {pins : List (Addr × Obj)} {σ : St} {H : Hp} {s : Shared} {T : String} {x : V} {v : Value} (I : Inv X pins σ H s) (r : RelV x v) (ty : tyV X.K T x H) :
    s.TypeIs v T ∧ ∀ a, v = .ref a → ∃ ob, s.heap.get? a = some ob ∧ ob.dict = none := by
  cases x with
  | str z =>
    obtain ⟨t, rfl⟩ := r
    cases (show T = "str" from ty)
    exact ⟨typeIs_str s z t, fun _ e => nomatch e⟩
  | int i =>
    obtain ⟨t, rfl⟩ := r
    cases (show T = "int" from ty)
    exact ⟨typeIs_int s i t, fun _ e => nomatch e⟩
  | ref p =>
    cases r
    rcases ty with ⟨rfl, xs, hq⟩ | ⟨rfl, o, hk, hc, hd⟩ | ⟨rfl, hk⟩ | ⟨rfl, S, n, hk⟩
    · obtain ⟨its, _, pl, _⟩ := I.list hq
      refine ⟨pl.isList.typeIs, fun a e => ?_⟩
      cases e
      obtain ⟨o, n, e, c, hd, _⟩ := pl
      exact ⟨o, e, hd⟩
    · refine ⟨⟨o, I.kIn p o hk, hc⟩, fun a e => ?_⟩
      cases e
      exact ⟨o, I.kIn _ o hk, hd⟩
    · have z : ∃ o, s.heap.get? p = some o ∧ o.ExactDict := by
        rcases hk with ⟨kvs, hk⟩ | ⟨kvs, hk⟩
        · obtain ⟨_, _, _, _, o, _, _, e, ex, _⟩ := I.hok p _ hk
          exact ⟨o, e, ex⟩
        · obtain ⟨_, _, _, _, o, _, _, e, ex, _⟩ := I.hok p _ hk
          exact ⟨o, e, ex⟩
      obtain ⟨o, e, ex⟩ := z
      refine ⟨⟨o, e, ex.1⟩, fun a e2 => ?_⟩
      cases e2
      exact ⟨o, e, ex.2.1⟩
    · obtain ⟨o, _, _, _, e, ex, _⟩ := I.hok p _ hk
      refine ⟨⟨o, e, ex.1⟩, fun a e2 => ?_⟩
      cases e2
      exact ⟨o, e, ex.2.1⟩
  | _ => exact False.elim ty
def tBM0 (K : PySem.W.Frag) (T : String) (r : V → List V → Hp → VK → Prop) (to : TE) : TE := fun σ H Q => to σ H fun x H1 => tyV K T x H1 ∧ r x [] H1 Q
def tBM (K : PySem.W.Frag) (T : String) (r : V → List V → Hp → VK → Prop) (to : TE) (t : TA) : TE := fun σ H Q => to σ H fun x H1 => tyV K T x H1 ∧ t σ H1 fun xs H2 => r x xs H2 Q
variable {o e : Expr} {es : List Expr} {to : TE} {t : TA} {name : Str} {apos cpos : Pos} {T id : String} {r : V → List V → Hp → VK → Prop}
theorem pe_bm0 (pa : PlainAttrs T) (slot : Slot T name id) (hty : typeOf (.builtin id) = pure (.type "method_descriptor")) (hm : MtR X id r) (ho : PE X o to)
    (hbase : attributeBase o name X.env (eval o X.env) = eval o X.env := by rfl) (hline : (apos.endLine == cpos.line) = true := by rfl) : PE X (.Call (.Attribute o name apos) [] [] cpos) (tBM0 X.K T r to) := by
  intro pins s σ H Q I h
  refine wpAny_Call_method0_late hbase hline (thn (ho pins s σ H _ I h) fun v s1 ⟨x, H1, I1, r1, ty, q1⟩ => ?_)
  obtain ⟨h1, h2⟩ := tyV_is I1 r1 ty
  exact ⟨T, id, pa, slot, hty, h1, h2, Calls.callWith_builtin rfl (PySem.evalArgs_none (hm pins s1 σ H1 x [] v [] Q I1 r1 .nil q1))⟩
theorem pe_bm (pa : PlainAttrs T) (slot : Slot T name id) (hty : typeOf (.builtin id) = pure (.type "method_descriptor")) (hm : MtR X id r) (ho : PE X o to) (ha : PA X (e :: es) t)
    (hbase : attributeBase o name X.env (eval o X.env) = eval o X.env := by rfl)
    (hfew : ((backTo cpos (starEach (e :: es) X.env)).all (fun x => !x.1) && (backToKw cpos (keywordEach [] X.env)).all (fun x => x.1.isSome)
      && decide ((e :: es).length + ([] : List Keyword).length + (if ([] : List Keyword).isEmpty then 0 else 1) < 30)) = true := by rfl)
    (hline : (apos.endLine == cpos.line) = true := by rfl) (hs : starEach (e :: es) X.env = (false, eval e X.env) :: starEach es X.env := by rfl) (hplain : (backTo cpos (starEach es X.env)).any (·.1) = false := by rfl) :
    PE X (.Call (.Attribute o name apos) (e :: es) [] cpos) (tBM X.K T r to t) := by
  intro pins s σ H Q I h
  refine wpAny_Call_method_late hbase hfew hline rfl (thn (ho pins s σ H _ I h) fun v s1 ⟨x, H1, I1, r1, ty, q1⟩ => ?_)
  obtain ⟨h1, h2⟩ := tyV_is I1 r1 ty
  refine ⟨T, id, pa, slot, hty, h1, h2, ?_⟩
  have hA := ha cpos pins s1 σ H1 _ I1 q1
  rw [hs] at hA ⊢
  refine Calls.callWith_builtin (by show (false || (backTo cpos (starEach es X.env)).any (·.1)) = false; rw [hplain] <;> rfl) (Calls.evalArgs_plain ?_)
  exact thn hA fun us s2 ⟨vs, H2, I2, r2, q2⟩ => hm pins s2 σ H2 x vs v us Q I2 r1 r2 q2
/- xs.append(e), list.index on a module's tuple .. are MtR facts of 06m -/
end
end L2
namespace L2
open PySem PySem.Spec PyProof.Rows
def MtM (X : Cx) (id : String) (r : V → List V → Hp → VK → Prop) : Prop :=
  ∀ (pins : List (Addr × Obj)) (s : Shared) (σ : St) (H : Hp) (x : V) (xs : List V) (v : Value) (us : List Value) (Q : VK), Inv X pins σ H s → RelV x v → Vals xs us → r x xs H Q →
    wpAny (model X.prog X.w) X.A (call (.builtin id) (v :: us)) (EP X pins σ Q) X.xe s
/-! ### lists of values -/
theorem Vals.one : ∀ {x : V} {us : List Value}, Vals [x] us → ∃ u, us = [u] ∧ RelV x u
  | _, _, .cons r .nil => ⟨_, rfl, r⟩
theorem Vals.two : ∀ {x y : V} {us : List Value}, Vals [x, y] us → ∃ u v, us = [u, v] ∧ RelV x u ∧ RelV y v
  | _, _, _, .cons r (.cons q .nil) => ⟨_, _, rfl, r, q⟩
theorem Vals.zero : ∀ {us : List Value}, Vals [] us → us = []
  | _, .nil => rfl
theorem Vals.dropLast {xs : List V} {us : List Value} (h : Vals xs us) : Vals xs.dropLast us.dropLast := by
  induction h with
  | nil => exact .nil
  | cons r t ih =>
    cases t with
    | nil => exact .nil
    | cons q t' => exact .cons r ih
theorem Vals.eraseIdx : ∀ {xs : List V} {us : List Value} (i : Nat), Vals xs us → Vals (xs.eraseIdx i) (us.eraseIdx i)
  | _, _, _, .nil => .nil
  | _, _, 0, .cons _ t => t
  | _, _, i + 1, .cons r t => .cons r (Vals.eraseIdx i t)
theorem Vals.reverse {xs : List V} {us : List Value} (h : Vals xs us) : Vals xs.reverse us.reverse := by
  induction h with
  | nil => exact .nil
  | cons r t ih => rw [List.reverse_cons, List.reverse_cons]; exact Vals.append ih (.cons r .nil)
theorem erase_last {α : Type} (l : List α) : l.eraseIdx (l.length - 1) = l.dropLast := by
  induction l with
  | nil => rfl
  | cons a r ih =>
    cases r with
    | nil => rfl
    | cons b r =>
      have e : (a :: b :: r).length - 1 = ((b :: r).length - 1) + 1 := by
        have h1 : (a :: b :: r).length = r.length + 2 := rfl
        have h2 : (b :: r).length = r.length + 1 := rfl
        omega
      rw [e, List.eraseIdx_cons_succ, ih]
      all_goals rfl
section
variable {X : Cx} {pins : List (Addr × Obj)} {σ : St} {H : Hp} {s : Shared} {l b : Addr} {xs ys zs : List V}
/-! ### the two steps: a tracked list is rewritten, a new list is laid -/
theorem Inv.lset {its its' : List Value} {n : Nat} {f : Array Value → Array Value} {t' : Nat} (I : Inv X pins σ H s) (hH : H l = some (.lst xs))
    (e : s.heap.get? l = some { cls := .type "list", data := .seq its.toArray n }) (hf : f its.toArray = its'.toArray) (hv : Vals ys its') (hz : ys.length ≤ sizeLine) :
    Inv X pins σ (upd H l (.lst ys)) { s with heap := s.heap.update l (Obj.mapSeq f), toks := t' } := by
  have q := PySem.IsL.update e f
  rw [hf] at q
  refine I.write (x := l) (e := l) (by rw [hH]; exact trivial) (.inl rfl) (fun b' u hb hu => (Heap.get?_update_other s.heap (Obj.mapSeq f) (Ne.symm hb)).trans hu) ⟨_, q⟩ ?_
  exact ⟨hz, its', _, hv, q⟩
theorem Inv.lnew {its : List Value} {t' : Nat} (I : Inv X pins σ H s) (hv : Vals ys its) (hz : ys.length ≤ sizeLine) :
    Inv X pins σ (upd H s.heap.objs.size (.lst ys)) { s with heap := s.heap.push { cls := .type "list", data := .seq its.toArray }, toks := t' } :=
  I.laid (fun _ _ q => Heap.get?_push_of_some _ q) (Nat.le_refl _) ⟨hz, its, 0, hv, Heap.get?_push_size _ rfl⟩
theorem Inv.fresh (I : Inv X pins σ H s) : H s.heap.objs.size = none := I.hok.fresh (Nat.le_refl _)
theorem Inv.lstM (I : Inv X pins σ H s) (hH : H l = some (.lst xs)) : xs.length ≤ sizeLine ∧ ∃ (its : List Value) (n : Nat), Vals xs its ∧ xs.length = its.length ∧ s.heap.get? l = some { cls := .type "list", data := .seq its.toArray n } := by
  obtain ⟨z, its, n, r, e⟩ := I.hok l _ hH
  exact ⟨z, its, n, r, r.length, e⟩
theorem notLongL {n : Nat} (h : n ≤ sizeLine) : Builtin.List.listTooLong n = false := by
  unfold Builtin.List.listTooLong
  exact decide_eq_false (by omega)
end
section
variable {X : Cx}
/-! ### methods -/
def rAppend : V → List V → Hp → VK → Prop := fun x vs H Q => ∃ l xs y, x = .ref l ∧ vs = [y] ∧ H l = some (.lst xs) ∧ xs.length < sizeLine ∧ Q .non (upd H l (.lst (xs ++ [y])))
theorem mt_append : MtM X "list.append" rAppend := by
  intro pins s σ H x vs v us Q I rx rv h
  obtain ⟨l, xs, y, rfl, rfl, hH, hz, q⟩ := h
  cases rx
  obtain ⟨u, rfl, ru⟩ := rv.one
  obtain ⟨z, its, n, r, hl, e⟩ := I.lstM hH
  refine call_meets F.slot_list_append ⟨_, e, rfl⟩ F.entry_list_append (F.args_list_append_2 _ _) (PySem.list_append l its.toArray n u (by rw [List.size_toArray]; omega)) ⟨e, ?_⟩
  refine ⟨.non, _, I.lset (its' := its ++ [u]) hH e (by simp) (r.append (.cons ru .nil)) ?_, rfl, q⟩
  rw [List.length_append, List.length_singleton]
  omega
def rExtend : V → List V → Hp → VK → Prop := fun x vs H Q => ∃ l b xs zs, x = .ref l ∧ vs = [.ref b] ∧ H l = some (.lst xs) ∧ H b = some (.lst zs) ∧ xs.length + zs.length ≤ sizeLine ∧ Q .non (upd H l (.lst (xs ++ zs)))
theorem mt_extend : MtM X "list.extend" rExtend := by
  intro pins s σ H x vs v us Q I rx rv h
  obtain ⟨l, b, xs, zs, rfl, rfl, hH, hB, hz, q⟩ := h
  cases rx
  obtain ⟨u, rfl, ru⟩ := rv.one
  cases ru
  obtain ⟨z, its, n, r, hl, e⟩ := I.lstM hH
  obtain ⟨z2, its2, n2, r2, hl2, e2⟩ := I.lstM hB
  have hsz : its.toArray.size + its2.toArray.size ≤ sizeLine := by rw [List.size_toArray, List.size_toArray]; omega
  have hlong : ¬ (!its.toArray.isEmpty && Builtin.List.listTooLong (its.toArray.size + its2.toArray.size)) = true := by
    rw [notLongL hsz, Bool.and_false]
    exact Bool.false_ne_true
  refine call_meets F.slot_list_extend ⟨_, e, rfl⟩ F.entry_list_extend (F.args_list_extend_2 _ _)
    (AutoSeq1.list_extend_list_list_0 l its.toArray n b its2.toArray n2 hlong (by rw [List.size_toArray]; omega) (by omega)) ⟨e, e2, ?_⟩
  refine ⟨.non, _, I.lset (its' := its ++ its2) hH e (by simp) (r.append r2) ?_, rfl, q⟩
  rw [List.length_append]
  omega
def rPop : V → List V → Hp → VK → Prop := fun x vs H Q => ∃ l xs y, x = .ref l ∧ vs = [] ∧ H l = some (.lst xs) ∧ xs[xs.length - 1]? = some y ∧ Q y (upd H l (.lst xs.dropLast))
theorem mt_pop : MtM X "list.pop" rPop := by
  intro pins s σ H x vs v us Q I rx rv h
  obtain ⟨l, xs, y, rfl, rfl, hH, hy, q⟩ := h
  cases rx
  have hus := rv.zero
  subst hus
  obtain ⟨z, its, n, r, hl, e⟩ := I.lstM hH
  obtain ⟨u, hu, ru⟩ := r.get hy
  have hy' : its.toArray[its.toArray.size - 1]? = some u := by
    show its.toArray[its.length - 1]? = some u
    rw [← Array.getElem?_toList, ← hl]
    exact hu
  refine call_meets F.slot_list_pop ⟨_, e, rfl⟩ F.entry_list_pop (F.args_list_pop_1 _) (MeetsSeq.list_pop_last l its.toArray n u hy' (by rw [List.size_toArray]; omega)) ⟨e, ?_⟩
  refine ⟨y, _, I.lset (its' := its.dropLast) hH e ?_ r.dropLast ?_, ru, q⟩
  · show its.toArray.eraseIdxIfInBounds (its.toArray.size - 1) = its.dropLast.toArray
    rw [List.size_toArray, List.eraseIdxIfInBounds_toArray, erase_last]
  · rw [List.length_dropLast]
    omega
def rReverse : V → List V → Hp → VK → Prop := fun x vs H Q => ∃ l xs, x = .ref l ∧ vs = [] ∧ H l = some (.lst xs) ∧ Q .non (upd H l (.lst xs.reverse))
theorem mt_reverse : MtM X "list.reverse" rReverse := by
  intro pins s σ H x vs v us Q I rx rv h
  obtain ⟨l, xs, rfl, rfl, hH, q⟩ := h
  cases rx
  have hus := rv.zero
  subst hus
  obtain ⟨z, its, n, r, hl, e⟩ := I.lstM hH
  refine call_meets F.slot_list_reverse ⟨_, e, rfl⟩ F.entry_list_reverse (F.args_list_reverse_1 _) (AutoSeq1.list_reverse_list_0 l its.toArray n (by rw [List.size_toArray]; omega)) ⟨e, ?_⟩
  refine ⟨.non, _, I.lset (its' := its.reverse) hH e (by simp) r.reverse ?_, rfl, q⟩
  rw [List.length_reverse]
  omega
/-! ### list + list, list += list, list * int -/
def rCat : R2 := fun x y H Q => ∃ l b xs zs, x = .ref l ∧ y = .ref b ∧ H l = some (.lst xs) ∧ H b = some (.lst zs) ∧ xs.length + zs.length ≤ sizeLine ∧ ∀ p, H p = none → Q (.ref p) (upd H p (.lst (xs ++ zs)))
theorem op_cat : OpR X (binaryOp .Add) rCat := by
  intro pins s σ H x y v u Q I rx ry h
  obtain ⟨l, b, xs, zs, rfl, rfl, hH, hB, hz, q⟩ := h
  cases rx
  cases ry
  obtain ⟨z, its, n, r, hl, e⟩ := I.lstM hH
  obtain ⟨z2, its2, n2, r2, hl2, e2⟩ := I.lstM hB
  refine PySem.P.add_list e e2 ?_ (by rw [List.size_toArray, List.size_toArray]; omega)
  have ea : its.toArray ++ its2.toArray = (its ++ its2).toArray := by simp
  rw [ea]
  exact ⟨.ref _, _, I.lnew (t' := s.toks) (r.append r2) (by rw [List.length_append]; omega), rfl, q _ I.fresh⟩
end
/-! ### xs[a:b] = ys -/
section
variable {prog : Program} {w : World} {A : Around} {E : Value → Shared → Prop} {s : Shared}
end
section
variable {X : Cx}
end
end L2
namespace L2
open PySem PySem.Spec PyProof.Rows
/-! ### lists of pairs as tables -/
section
variable {κ : Type} [DecidableEq κ]
def valV (kvs : List (κ × V)) (k : κ) : Option V := (kvs.find? fun kv => decide (kv.1 = k)).map (·.2)
/-- in its place, or at the end -/
def putK (kvs : List (κ × V)) (k : κ) (v : V) : List (κ × V) :=
  if (kvs.any fun kv => decide (kv.1 = k)) = true then kvs.map (fun kv => if kv.1 = k then (kv.1, v) else kv) else kvs ++ [(k, v)]
def dropK (kvs : List (κ × V)) (k : κ) : List (κ × V) := kvs.filter fun kv => decide (kv.1 ≠ k)
theorem valV_pos {p : κ × V} {r : List (κ × V)} {k : κ} (e : p.1 = k) : valV (p :: r) k = some p.2 := by simp [valV, List.find?_cons, e]
theorem valV_neg {p : κ × V} {r : List (κ × V)} {k : κ} (e : ¬ p.1 = k) : valV (p :: r) k = valV r k := by simp [valV, List.find?_cons, e]
theorem valV_any (k : κ) : ∀ kvs : List (κ × V), (kvs.any fun kv => decide (kv.1 = k)) = (valV kvs k).isSome
  | [] => rfl
  | p :: r => by
    rw [List.any_cons]
    by_cases e : p.1 = k
    · simp only [valV_pos e, decide_eq_true e, Bool.true_or, Option.isSome_some]
    · rw [valV_neg e, decide_eq_false e, Bool.false_or]; exact valV_any k r
theorem length_putK (kvs : List (κ × V)) (k : κ) (v : V) : (putK kvs k v).length ≤ kvs.length + 1 := by
  unfold putK
  split
  · rw [List.length_map]; omega
  · rw [List.length_append, List.length_cons, List.length_nil]; omega
theorem putK_new {kvs : List (κ × V)} {k : κ} (v : V) (h : valV kvs k = none) : putK kvs k v = kvs ++ [(k, v)] := by
  unfold putK
  rw [valV_any, h]
  exact if_neg (by decide)
theorem RelO.isSome_eq {o : Option V} {u : Option Value} (r : RelO o u) : o.isSome = u.isSome := by
  cases o with
  | none => cases u with
    | none => rfl
    | some _ => exact (show False from r).elim
  | some _ => cases u with
    | none => exact (show False from r).elim
    | some _ => rfl
/-- raw tables of the same keys -/
theorem KV.val {kvs : List (κ × V)} {vs : List (κ × Value)} (r : KV kvs vs) (k : κ) : RelO (valV kvs k) (valueAt vs k) := by
  unfold KV at r
  induction r with
  | nil => exact True.intro
  | @cons p q ps qs h t ih =>
    obtain ⟨h1, h2⟩ := h
    by_cases e : p.1 = k
    · have e' : q.1 = k := h1.symm.trans e
      have b : valueAt (q :: qs) k = some q.2 := by simp [valueAt, List.find?_cons, e']
      rw [valV_pos e, b]; exact h2
    · have e' : ¬ q.1 = k := fun z => e (h1.trans z)
      have b : valueAt (q :: qs) k = valueAt qs k := by simp [valueAt, List.find?_cons, e']
      rw [valV_neg e, b]; exact ih
theorem KV.any {kvs : List (κ × V)} {vs : List (κ × Value)} (r : KV kvs vs) (k : κ) : (kvs.any fun kv => decide (kv.1 = k)) = vs.any fun kv => decide (kv.1 = k) := by
  unfold KV at r
  induction r with
  | nil => rfl
  | cons h t ih => rw [List.any_cons, List.any_cons, ih, h.1]
theorem KV.repl {kvs : List (κ × V)} {vs : List (κ × Value)} (r : KV kvs vs) (k : κ) {y : V} {u : Value} (ry : RelV y u) :
    KV (kvs.map fun kv => if kv.1 = k then (kv.1, y) else kv) (vs.map fun kv => if kv.1 = k then (kv.1, u) else kv) := by
  unfold KV at r ⊢
  induction r with
  | nil => exact .nil
  | @cons p q ps qs h t ih =>
    rw [List.map_cons, List.map_cons]
    refine .cons ?_ ih
    obtain ⟨h1, h2⟩ := h
    by_cases e : p.1 = k
    · rw [if_pos e, if_pos (h1.symm.trans e)]; exact ⟨h1, ry⟩
    · rw [if_neg e, if_neg (fun z => e (h1.trans z))]; exact ⟨h1, h2⟩
theorem KV.put {kvs : List (κ × V)} {vs : List (κ × Value)} (r : KV kvs vs) (k : κ) {y : V} {u : Value} (ry : RelV y u) : KV (putK kvs k y) (stored vs k u) := by
  unfold putK stored
  rw [r.any k]
  by_cases e : (vs.any fun kv => decide (kv.1 = k)) = true
  · rw [if_pos e, if_pos e]; exact r.repl k ry
  · rw [if_neg e, if_neg e]; exact Paired.snoc r ⟨rfl, ry⟩
theorem KV.drop {kvs : List (κ × V)} {vs : List (κ × Value)} (r : KV kvs vs) (k : κ) : KV (dropK kvs k) (without vs k) := by
  unfold KV at r ⊢
  unfold dropK without
  induction r with
  | nil => exact .nil
  | @cons p q ps qs h t ih =>
    obtain ⟨h1, h2⟩ := h
    rw [List.filter_cons, List.filter_cons]
    by_cases e : p.1 = k
    · have a : ¬ decide (p.1 ≠ k) = true := by simp [e]
      have b : ¬ decide (q.1 ≠ k) = true := by simp [h1.symm.trans e]
      rw [if_neg a, if_neg b]; exact ih
    · have e' : ¬ q.1 = k := fun z => e (h1.trans z)
      have a : decide (p.1 ≠ k) = true := by simp [e]
      have b : decide (q.1 ≠ k) = true := by simp [e']
      rw [if_pos a, if_pos b]; exact .cons ⟨h1, h2⟩ ih
theorem KV.keys {kvs : List (κ × V)} {vs : List (κ × Value)} (r : KV kvs vs) : kvs.map (·.1) = vs.map (·.1) := by
  unfold KV at r
  induction r with
  | nil => rfl
  | cons h t ih => rw [List.map_cons, List.map_cons, ih, h.1]
theorem KV.length {kvs : List (κ × V)} {vs : List (κ × Value)} (r : KV kvs vs) : kvs.length = vs.length := Paired.length r
theorem dropK_le (kvs : List (κ × V)) (k : κ) : (dropK kvs k).length ≤ kvs.length := List.length_filter_le _ _
end
/-! ### a tracked dict, its keys ints and texts or tuples of these -/
theorem kV_is {P : Program} {w : World} {k : Key} {u : Value} (r : RelV (kV k) u) : (mixKind P w).is k u = true := by
  cases k with
  | inl i => obtain ⟨t, e⟩ := (show ∃ t, u = Value.int i t from r); subst e; exact mixKind_int P w i t
  | inr x => obtain ⟨t, e⟩ := (show ∃ t, u = Value.str x t from r); subst e; exact mixKind_str P w x t
theorem items_are {P : Program} {w : World} : ∀ {ks : List Key} {us : List Value}, Vals (ks.map kV) us → ItemsAre (mixKind P w) ks us
  | [], _, r => by rw [List.map_nil] at r; cases r; exact .nil
  | k :: ks, _, r => by
    rw [List.map_cons] at r
    cases r with
    | cons h t => exact .cons (kV_is h) (items_are t)
/-- raw entries of a dict with tuple keys -/
abbrev KT (H : Hp) : List (List Key × V) → List (List Key × Addr × Value) → Prop := Paired fun p q => p.1 = q.1 ∧ H q.2.1 = some (.tup (p.1.map kV)) ∧ RelV p.2 q.2.2
theorem KT.val {H : Hp} {kvs : List (List Key × V)} {xs : List (List Key × Addr × Value)} (r : KT H kvs xs) (k : List Key) : RelO (valV kvs k) ((atKey xs k).map (·.2)) := by
  induction r with
  | nil => exact True.intro
  | @cons p q ps qs h t ih =>
    obtain ⟨h1, _, h2⟩ := h
    by_cases e : p.1 = k
    · have e' : q.1 = k := h1.symm.trans e
      have b : atKey (q :: qs) k = some q.2 := by simp [atKey, List.find?_cons, e']
      rw [valV_pos e, b]; exact h2
    · have e' : ¬ q.1 = k := fun z => e (h1.trans z)
      have b : atKey (q :: qs) k = atKey qs k := by simp [atKey, List.find?_cons, e']
      rw [valV_neg e, b]; exact ih
theorem KT.repl {H : Hp} {kvs : List (List Key × V)} {xs : List (List Key × Addr × Value)} (r : KT H kvs xs) (k : List Key) {y : V} {u : Value} (ry : RelV y u) :
    KT H (kvs.map fun kv => if kv.1 = k then (kv.1, y) else kv) (xs.map (putAt k u)) := by
  induction r with
  | nil => exact .nil
  | @cons p q ps qs h t ih =>
    rw [List.map_cons, List.map_cons]
    refine .cons ?_ ih
    obtain ⟨h1, h2, h3⟩ := h
    unfold putAt
    by_cases e : p.1 = k
    · rw [if_pos e, if_pos (h1.symm.trans e)]; exact ⟨h1, h2, ry⟩
    · rw [if_neg e, if_neg (fun z => e (h1.trans z))]; exact ⟨h1, h2, h3⟩
theorem KT.put {H : Hp} {kvs : List (List Key × V)} {xs : List (List Key × Addr × Value)} (r : KT H kvs xs) (k : List Key) {b : Addr} {y : V} {u : Value} (hb : H b = some (.tup (k.map kV))) (ry : RelV y u) :
    KT H (putK kvs k y) (storedH xs k b u) := by
  have e : (kvs.any fun kv => decide (kv.1 = k)) = (atKey xs k).isSome := by
    rw [valV_any, (r.val k).isSome_eq, Option.isSome_map]
  unfold putK storedH
  rw [e]
  by_cases q : (atKey xs k).isSome = true
  · rw [if_pos q, if_pos q]; exact r.repl k ry
  · rw [if_neg q, if_neg q]; exact Paired.snoc r ⟨rfl, hb, ry⟩
theorem KT.keeps {H H' : Hp} {kvs : List (List Key × V)} {xs : List (List Key × Addr × Value)} (r : KT H kvs xs) (ht : ∀ b ys, H b = some (.tup ys) → H' b = some (.tup ys)) : KT H' kvs xs :=
  Paired.mapP r fun _ _ z => ⟨z.1, ht _ _ z.2.1, z.2.2⟩
section
variable {P : Program} {w : World} {H : Hp} {h : Heap} {a : Addr}
theorem rd_of {u : HO} (ok : HOk P w H h) (e : Rd H a u) : ObjOk P w H h a u := e.ok ok
theorem dk_rd {kvs : List (Key × V)} (ok : HOk P w H h) (e : Rd H a (.dK kvs)) : kvs.length ≤ sizeLine ∧ (a == sysModules) = false ∧ ∃ vs, KV kvs vs ∧ h.DictOf (mixKind P w) a vs :=
  show ObjOk P w H h a (.dK kvs) from rd_of ok e
theorem dk_of {kvs : List (Key × V)} (ok : HOk P w H h) (e : H a = some (.dK kvs)) : kvs.length ≤ sizeLine ∧ (a == sysModules) = false ∧ ∃ vs, KV kvs vs ∧ h.DictOf (mixKind P w) a vs := dk_rd ok (.inl e)
/-- a tracked tuple of ints and texts is a key -/
theorem key_of {ks : List Key} (ok : HOk P w H h) (e : H a = some (.tup (ks.map kV))) : (tupleKind (mixKind P w)).is h ks a := by
  obtain ⟨_, its, r, o, h1, h2, n, h3⟩ := (show ObjOk P w H h a (.tup (ks.map kV)) from ok a _ e)
  exact ⟨o, its.toArray, n, h1, h2, h3, by simpa using items_are r⟩
theorem dt_rd {kvs : List (List Key × V)} (ok : HOk P w H h) (e : Rd H a (.dT kvs)) : kvs.length ≤ sizeLine ∧ (a == sysModules) = false ∧
    ∃ xs, KT H kvs xs ∧ h.DictOfH (tupleKind (mixKind P w)) a xs := by
  obtain ⟨z, y, xs, r, o, es, ep, h1, h2, h3, h4, h5⟩ := (show ObjOk P w H h a (.dT kvs) from rd_of ok e)
  refine ⟨z, y, xs, r, o, es, ep, h1, h2, h3, h4, fun x hx => ?_, h5⟩
  have all : ∀ {l : List (List Key × V)} {m : List (List Key × Addr × Value)}, KT H l m → ∀ x ∈ m, (tupleKind (mixKind P w)).is h x.1 x.2.1 := by
    intro l m q
    induction q with
    | nil => intro x hx; exact nomatch hx
    | @cons p q ps qs hq t ih =>
      intro x hx
      rcases List.mem_cons.mp hx with e | hx
      · subst e
        exact key_of ok (by rw [← hq.1]; exact hq.2.1)
      · exact ih x hx
  exact all r x hx
theorem dt_of {kvs : List (List Key × V)} (ok : HOk P w H h) (e : H a = some (.dT kvs)) : kvs.length ≤ sizeLine ∧ (a == sysModules) = false ∧
    ∃ xs, KT H kvs xs ∧ h.DictOfH (tupleKind (mixKind P w)) a xs := dt_rd ok (.inl e)
end
/-- what the dict at a holds at the key y -/
def DGet (H : Hp) (a : Addr) (y : V) (r : Option V) : Prop :=
  (∃ kvs k, Rd H a (.dK kvs) ∧ y = kV k ∧ r = valV kvs k) ∨ ∃ kvs k b, Rd H a (.dT kvs) ∧ y = .ref b ∧ H b = some (.tup (k.map kV)) ∧ r = valV kvs k
/-- the heap behind a[y] = v -/
def DPut (H : Hp) (a : Addr) (y v : V) (H' : Hp) : Prop :=
  (∃ kvs k, H a = some (.dK kvs) ∧ y = kV k ∧ kvs.length < sizeLine ∧ H' = upd H a (.dK (putK kvs k v))) ∨
  ∃ kvs k b, H a = some (.dT kvs) ∧ y = .ref b ∧ H b = some (.tup (k.map kV)) ∧ kvs.length < sizeLine ∧ H' = upd H a (.dT (putK kvs k v))
theorem DGet.k {H : Hp} {a : Addr} {kvs : List (Key × V)} {k : Key} (e : H a = some (.dK kvs)) : DGet H a (kV k) (valV kvs k) := .inl ⟨kvs, k, .inl e, rfl, rfl⟩
theorem DGet.t {H : Hp} {a b : Addr} {kvs : List (List Key × V)} {k : List Key} (e : H a = some (.dT kvs)) (eb : H b = some (.tup (k.map kV))) : DGet H a (.ref b) (valV kvs k) := .inr ⟨kvs, k, b, .inl e, rfl, eb, rfl⟩
theorem DPut.k {H : Hp} {a : Addr} {kvs : List (Key × V)} {k : Key} {v : V} (e : H a = some (.dK kvs)) (hl : kvs.length < sizeLine) : DPut H a (kV k) v (upd H a (.dK (putK kvs k v))) := .inl ⟨kvs, k, e, rfl, hl, rfl⟩
theorem DPut.t {H : Hp} {a b : Addr} {kvs : List (List Key × V)} {k : List Key} {v : V} (e : H a = some (.dT kvs)) (eb : H b = some (.tup (k.map kV))) (hl : kvs.length < sizeLine) :
    DPut H a (.ref b) v (upd H a (.dT (putK kvs k v))) := .inr ⟨kvs, k, b, e, rfl, eb, hl, rfl⟩
section
variable {X : Cx} {pins : List (Addr × Obj)} {σ : St} {H : Hp} {s : Shared} {a : Addr} {y v : V} {u r : Value} {o : Option V} {A : Around} {E : Value → Shared → Prop}
theorem Inv.big (I : Inv X pins σ H s) : sysModules < s.heap.objs.size := by
  have h : mainGlobals < s.heap.objs.size := (I.mod.glob.keeps I.bk).lt
  exact Nat.lt_trans (by decide) h
/-- d[y], there -/
theorem d_getItem {Q : Value → Shared → Prop} (hu : A.units + 1 < cLine) (I : Inv X pins σ H s) (g : DGet H a y (some v)) (ry : RelV y u) (h : ∀ w' s', Inv X pins σ H s' → RelV v w' → Q w' s') :
    wpAny (model X.prog X.w) A (getItem (.ref a) u) Q E s := by
  rcases g with ⟨kvs, k, e, ey, l⟩ | ⟨kvs, k, b, e, ey, eb, l⟩
  · subst ey
    obtain ⟨z, hd, vs, rel, dd⟩ := dk_rd I.hok e
    obtain ⟨w', hw, rw'⟩ := RelO.some_of (v := v) (o := valueAt vs k) (by rw [l]; exact rel.val k)
    exact wpAny_getItem_of (kV_is ry) dd.mapOf hw (h w' _ (I.tok _) rw')
  · subst ey
    cases (show u = Value.ref b from ry)
    obtain ⟨z, hd, xs, rel, dd⟩ := dt_rd I.hok e
    obtain ⟨w', hw, rw'⟩ := RelO.some_of (v := v) (o := (atKey xs k).map (·.2)) (by rw [l]; exact rel.val k)
    obtain ⟨p, hp, hp2⟩ := Option.map_eq_some_iff.mp hw
    refine wpAny_getItem_heap (tupleKind_room_in1 hu) (key_of I.hok eb) dd hp ?_
    rw [hp2]
    exact h w' _ (I.tok _) rw'
theorem d_notIn {Q : Value → Shared → Prop} (hu : A.units + 1 < cLine) (I : Inv X pins σ H s) (g : DGet H a y o) (ry : RelV y u) (h : ∀ s', Inv X pins σ H s' → Q (.bool (!o.isSome)) s') :
    wpAny (model X.prog X.w) A (compareOp .NotIn u (.ref a)) Q E s := by
  rcases g with ⟨kvs, k, e, ey, l⟩ | ⟨kvs, k, b, e, ey, eb, l⟩
  · subst ey
    obtain ⟨z, hd, vs, rel, dd⟩ := dk_rd I.hok e
    refine wpAny_notIn_of (kV_is ry) hd dd.mapOf ?_
    rw [← (rel.val k).isSome_eq, ← l]
    exact h _ (I.tok _)
  · subst ey
    cases (show u = Value.ref b from ry)
    obtain ⟨z, hd, xs, rel, dd⟩ := dt_rd I.hok e
    refine wpAny_notIn_heap (tupleKind_room_in1 hu) (key_of I.hok eb) hd dd ?_
    have q := (rel.val k).isSome_eq
    rw [Option.isSome_map] at q
    rw [← q, ← l]
    exact h _ (I.tok _)
/-- a dict's object is replaced -/
theorem d_write {h' : Heap} {t' : Nat} {ob : HO} (I : Inv X pins σ H s) (mu : Mut (H a)) (hs : Heap.SameBut a s.heap h') (he : ∃ q, h'.get? a = some q) (new : ObjOk X.prog X.w (upd H a ob) h' a ob) :
    Inv X pins σ (upd H a ob) { s with heap := h', toks := t' } :=
  I.write (x := a) (e := a) mu (.inl rfl) (fun b q hb z => (hs.2 b hb).trans z) he new
theorem dk_new {P : Program} {w : World} {H' : Hp} {h' : Heap} {kvs : List (Key × V)} {vs : List (Key × Value)} (z : kvs.length ≤ sizeLine) (hd : (a == sysModules) = false) (rel : KV kvs vs) (dd : h'.DictOf (mixKind P w) a vs) :
    ObjOk P w H' h' a (.dK kvs) := ⟨z, hd, vs, rel, dd⟩
/-- d[y] = v -/
theorem d_setItem {H' : Hp} {Q : Unit → Shared → Prop} (hu : A.units + 1 < cLine) (I : Inv X pins σ H s) (g : DPut H a y v H') (ry : RelV y u) (rv : RelV v r) (h : ∀ s', Inv X pins σ H' s' → Q () s') :
    wpAny (model X.prog X.w) A (setItem (.ref a) u r) Q E s := by
  rcases g with ⟨kvs, k, e, ey, l, eH⟩ | ⟨kvs, k, b, e, ey, eb, l, eH⟩
  · subst ey eH
    obtain ⟨z, hd, vs, rel, dd⟩ := dk_of I.hok e
    have hz : vs.length ≤ sizeLine := by rw [← rel.length]; exact z
    have hl : (putK kvs k v).length ≤ sizeLine := by have := length_putK kvs k v; omega
    refine wpAny_setItem_pairs (hsz := hz) (kV_is ry) dd fun h' dd' hs => h _ ?_
    have he : ∃ q, h'.get? a = some q := let ⟨q, _, _, hq, _⟩ := dd'; ⟨q, hq⟩
    exact d_write I (by rw [e]; exact True.intro) hs he (dk_new hl hd (rel.put k rv) dd')
  · subst ey eH
    cases (show u = Value.ref b from ry)
    obtain ⟨z, hd, xs, rel, dd⟩ := dt_of I.hok e
    have hz : xs.length ≤ sizeLine := by rw [← Paired.length rel]; exact z
    have hl : (putK kvs k v).length ≤ sizeLine := by have := length_putK kvs k v; omega
    refine wpAny_setItem_heap (hsz := hz) (tupleKind_room_in1 hu) (key_of I.hok eb) dd fun h' dd' hs => h _ ?_
    obtain ⟨q, es, ep, hq, h2, h3, h4, _, h5⟩ := dd'
    refine d_write I (by rw [e]; exact True.intro) hs ⟨q, hq⟩ ⟨hl, hd, _, (rel.put k eb rv).keeps fun c ys ec => ?_, q, es, ep, hq, h2, h3, h4, h5⟩
    rw [upd_ne (ne_of ec e (fun z => nomatch z))]
    exact ec
end
section
variable {X : Cx} {pins : List (Addr × Obj)} {σ : St} {H : Hp} {s : Shared} {a : Addr} {kvs : List (Key × V)} {k : Key} {u : Value} {A : Around} {E : Value → Shared → Prop}
/-- del d[k] -/
theorem d_delItem {Q : Unit → Shared → Prop} (I : Inv X pins σ H s) (e : H a = some (.dK kvs)) (ry : RelV (kV k) u) (l : (valV kvs k).isSome = true) (h : ∀ s', Inv X pins σ (upd H a (.dK (dropK kvs k))) s' → Q () s') :
    wpAny (model X.prog X.w) A (delItem (.ref a) u) Q E s := by
  obtain ⟨z, hd, vs, rel, dd⟩ := dk_of I.hok e
  refine wpAny_delItem_slot dd.typeIs (by decide) PySem.F.slot_dict_delitem
    (call_meetsIn PySem.F.slot_dict_delitem dd.typeIs PySem.F.entry_dict_delitem (PySem.F.args_dict_delitem_2 _ _) (meets_dict_delitem_pairs (mixKind X.prog X.w) a (kV_is ry)) ⟨vs, dd, by rw [← rel.length]; exact z, by rw [← (rel.val k).isSome_eq]; exact l, fun h' dd' hs => h _ ?_⟩)
  have he : ∃ q, h'.get? a = some q := let ⟨q, _, _, hq, _⟩ := dd'; ⟨q, hq⟩
  exact d_write I (by rw [e]; exact True.intro) hs he (dk_new (Nat.le_trans (dropK_le kvs k) z) hd (rel.drop k) dd')
/-- d.pop(k[, x]), there -/
theorem d_pop {v : V} {more : List Value} {Q : Value → Shared → Prop} (I : Inv X pins σ H s) (e : H a = some (.dK kvs)) (ry : RelV (kV k) u) (l : valV kvs k = some v) (hm : more = [] ∨ ∃ x, more = [x])
    (h : ∀ w' s', Inv X pins σ (upd H a (.dK (dropK kvs k))) s' → RelV v w' → Q w' s') : wpAny (model X.prog X.w) A (call (.builtin "dict.pop") (.ref a :: u :: more)) Q E s := by
  obtain ⟨z, hd, vs, rel, dd⟩ := dk_of I.hok e
  obtain ⟨w', hw, rw'⟩ := RelO.some_of (v := v) (o := valueAt vs k) (by rw [← l]; exact rel.val k)
  have hp : (keyPart u).isSome = true := by
    cases k with
    | inl i => obtain ⟨t, q⟩ := (show ∃ t, u = Value.int i t from ry); subst q; rfl
    | inr x => obtain ⟨t, q⟩ := (show ∃ t, u = Value.str x t from ry); subst q; rfl
  have ha : argsOk "dict.pop" ⟨.ref a :: u :: more, []⟩ := by
    rcases hm with q | ⟨x, q⟩
    · subst q; exact PySem.F.args_dict_pop_2 _ _
    · subst q; exact PySem.F.args_dict_pop_3 _ _ _
  refine call_meetsIn PySem.F.slot_dict_pop dd.typeIs PySem.F.entry_dict_pop ha (meets_dict_pop_there (mixKind X.prog X.w) a (kV_is ry) more hm hp)
    ⟨vs, w', dd, by rw [← rel.length]; exact z, hw, fun h' dd' hs => h w' _ ?_ rw'⟩
  have he : ∃ q, h'.get? a = some q := let ⟨q, _, _, hq, _⟩ := dd'; ⟨q, hq⟩
  exact d_write I (by rw [e]; exact True.intro) hs he (dk_new (Nat.le_trans (dropK_le kvs k) z) hd (rel.drop k) dd')
/-- len(d) -/
theorem d_len {Q : Value → Shared → Prop} (I : Inv X pins σ H s) (e : Rd H a (.dK kvs)) (h : ∀ t s', Inv X pins σ H s' → Q (.int kvs.length t) s') : wpAny (model X.prog X.w) A (call (.builtin "len") [.ref a]) Q E s := by
  obtain ⟨z, hd, vs, rel, dd⟩ := dk_rd I.hok e
  refine call_len_dict hd dd (by rw [← rel.length]; rw [sizeLine_eq] at z; omega) ?_
  rw [← rel.length]
  exact h _ _ (I.tok _)
end
/-! ### readings and rules -/
/-- the element of a subscription, not a slice -/
def NoSl (i : Expr) : Prop := ∀ ov iv, subscripted i false ov iv = operate [ov, iv] (getItem ov iv)
theorem subD_of {prog : Program} {w : World} {A : Around} {E : Value → Shared → Prop} {s : Shared} {env : Env} {value slice : Expr} {pos : Pos} {T id : String} {Q : Value → Shared → Prop}
    (hl : typeLookup (.type T) "__getitem__" = pure (some (.builtin id))) (hs : NoSl slice)
    (h : wpAny (model prog w) A (eval value env) (fun o s₁ => wpAny (model prog w) A (eval slice env) (fun i s₂ => s₂.TypeIs o T ∧ wpAny (model prog w) A (getItem o i) Q E s₂) E s₁) E s) :
    wpAny (model prog w) A (eval (.Subscript value slice pos) env) Q E s := by
  refine Subscript_ (wpAny_mono h (fun o s₁ h₁ => wpAny_mono h₁ (fun i s₂ h₂ => ?_) fun _ _ x => x) fun _ _ x => x)
  obtain ⟨hT, h₂⟩ := h₂
  unfold subscriptTail
  refine wpAny_bind ?_
  rw [getitemInPython_of_ne hT.not_modules]
  refine wpAny_bind (wpAny_specialOf hT hl ?_)
  have fin : wpAny (model prog w) A (subscripted slice false o i) (fun r s₃ => wpAny (model prog w) A (letTemporaryGo value o r >>= fun _ => pure r) Q E s₃) E s₂ := by
    rw [hs o i]
    exact wpAny_operating (wpAny_mono h₂ (fun r s₃ h₃ => wpAny_bind (wpAny_letTemporaryGo (wpAny_pure h₃))) fun _ _ x => x)
  first
    | exact wpAny_pure (wpAny_bind fin)
    | exact wpAny_bind (wpAny_pure (wpAny_bind fin))
    | exact wpAny_bind fin
theorem dict_typeIs {X : Cx} {pins : List (Addr × Obj)} {σ : St} {H : Hp} {s : Shared} {a : Addr} {y : V} {o : Option V} (I : Inv X pins σ H s) (g : DGet H a y o) : s.TypeIs (.ref a) "dict" := by
  rcases g with ⟨kvs, k, e, _, _⟩ | ⟨kvs, k, b, e, _, _, _⟩
  · obtain ⟨_, _, vs, _, dd⟩ := dk_rd I.hok e
    exact dd.typeIs
  · obtain ⟨_, _, xs, _, dd⟩ := dt_rd I.hok e
    exact dd.typeIs
/-- d[y] -/
def tDGet (td ty : TE) : TE := fun σ H Q => td σ H fun x H1 => ty σ H1 fun y H2 => ∃ a v, x = .ref a ∧ DGet H2 a y (some v) ∧ Q v H2
def tDNotIn (ty td : TE) : TE := fun σ H Q => ty σ H fun y H1 => td σ H1 fun x H2 => ∃ a o, x = .ref a ∧ DGet H2 a y o ∧ Q (.bl (!o.isSome)) H2
/-- d[y] = v -/
def sDPut (td ty tv : TE) : TS := fun D σ H => tv σ H fun v H1 => td σ H1 fun x H2 => ty σ H2 fun y H3 => ∃ a H4, x = .ref a ∧ DPut H3 a y v H4 ∧ D.nx σ H4
section
variable {X : Cx} {o i e value : Expr} {pos pos' tpos : Pos} {td ty tv : TE}
theorem pe_dget (hu : X.A.units + 1 < cLine) (ho : PE X o td) (hi : PE X i ty) (hs : NoSl i) : PE X (.Subscript o i pos) (tDGet td ty) := by
  intro pins s σ H Q I h
  refine subD_of PySem.F.slot_dict_getitem.lookup hs (thn (ho pins s σ H _ I h) fun u s1 ⟨x, H1, I1, rx, q1⟩ => thn (hi pins s1 σ H1 _ I1 q1) fun iv s2 ⟨y, H2, I2, ry, a, v, ex, g, q2⟩ => ?_)
  subst ex
  obtain rfl : u = Value.ref a := rx
  exact ⟨dict_typeIs I2 g, d_getItem hu I2 g ry fun w' s3 I3 rw' => ⟨v, H2, I3, rw', q2⟩⟩
theorem pc_dnotin (hu : X.A.units + 1 < cLine) (hi : PE X i ty) (ho : PE X o td) : PC X .NotIn i o (tDNotIn ty td) := by
  intro pins s σ H Q I h
  refine thn (hi pins s σ H _ I h) fun iv s1 ⟨y, H1, I1, ry, q1⟩ => thn (ho pins s1 σ H1 _ I1 q1) fun u s2 ⟨x, H2, I2, rx, a, ov, ex, g, q2⟩ => ?_
  subst ex
  obtain rfl : u = Value.ref a := rx
  exact d_notIn hu I2 g ry fun s3 I3 => ⟨.bl (!ov.isSome), H2, I3, rfl, q2⟩
theorem ps_dput (hu : X.A.units + 1 < cLine) (ho : PE X o td) (hi : PE X i ty) (hv : PE X value tv) (hs : swapsWith value (some (.Subscript o i pos')) pos.line X.env = pure false) :
    PS X (.Assign [.Subscript o i pos'] value pos) (sDPut td ty tv) := by
  intro pins s σ H D I h
  refine wpAny_Assign_Subscript (thn (hv pins s σ H _ I h) fun r s1 ⟨v, H1, I1, rv, q1⟩ => thn (ho pins s1 σ H1 _ I1 q1) fun u s2 ⟨x, H2, I2, rx, q2⟩ => thn (hi pins s2 σ H2 _ I2 q2) fun iv s3 ⟨y, H3, I3, ry, a, H4, ex, g, q3⟩ => ?_) hs
  subst ex
  obtain rfl : u = Value.ref a := rx
  exact d_setItem hu I3 g ry rv fun s4 I4 => ⟨σ, H4, I4, q3⟩
end
/-! ### displays -/
theorem dk_empty {P : Program} {w : World} {H : Hp} (h : Heap) (hb : sysModules < h.objs.size) : ObjOk P w H (h.push { cls := .type "dict", data := .dict #[] }) h.objs.size (.dK []) :=
  ⟨Nat.zero_le _, beq_eq_false_iff_ne.mpr (Ne.symm (Nat.ne_of_lt hb)), [], .nil, Heap.DictOf.new h⟩
theorem dt_empty {P : Program} {w : World} {H : Hp} (h : Heap) (hb : sysModules < h.objs.size) : ObjOk P w H (h.push { cls := .type "dict", data := .dict #[] }) h.objs.size (.dT []) :=
  ⟨Nat.zero_le _, beq_eq_false_iff_ne.mpr (Ne.symm (Nat.ne_of_lt hb)), [], .nil, _, #[], 0, Heap.get?_push_size _ rfl, ⟨rfl, rfl, rfl⟩, rfl, rfl, List.nodup_nil⟩
/-- {}, to be a dict of the kind that is wanted -/
def tDNewK : TE := fun _ H Q => ∀ p, H p = none → Q (.ref p) (upd H p (.dK []))
def tDNewT : TE := fun _ H Q => ∀ p, H p = none → Q (.ref p) (upd H p (.dT []))
section
variable {X : Cx} {pos : Pos}
theorem pe_dnewK : PE X (.Dict [] [] pos) tDNewK := fun pins s σ H Q I h =>
  wpAny_Dict_empty ⟨.ref s.heap.objs.size, _, I.laid (a := s.heap.objs.size) (o := .dK []) (t' := s.toks) (fun _ _ q => Heap.get?_push_of_some _ q) (Nat.le_refl _) (dk_empty s.heap I.big), rfl, h _ (I.hok.fresh (Nat.le_refl _))⟩
theorem pe_dnewT : PE X (.Dict [] [] pos) tDNewT := fun pins s σ H Q I h =>
  wpAny_Dict_empty ⟨.ref s.heap.objs.size, _, I.laid (a := s.heap.objs.size) (o := .dT []) (t' := s.toks) (fun _ _ q => Heap.get?_push_of_some _ q) (Nat.le_refl _) (dt_empty s.heap I.big), rfl, h _ (I.hok.fresh (Nat.le_refl _))⟩
end
/-! ### methods -/
/-- a method call o.m(e) of a built-in, with one argument: what must be seen of the text -/
structure M1 (X : Cx) (o : Expr) (m : Str) (apos : Pos) (e : Expr) (cpos : Pos) : Prop where
  base : attributeBase o m X.env (eval o X.env) = eval o X.env
  few : ((backTo cpos (starEach [e] X.env)).all (fun x => !x.1) && (backToKw cpos (keywordEach [] X.env)).all (fun x => x.1.isSome)
    && decide (([e] : List Expr).length + ([] : List Keyword).length + (if ([] : List Keyword).isEmpty then 0 else 1) < 30)) = true
  line : (apos.endLine == cpos.line) = true
  trees : backTo cpos (starEach [e] X.env) = [(false, eval e X.env)]
structure M2 (X : Cx) (o : Expr) (m : Str) (apos : Pos) (e f : Expr) (cpos : Pos) : Prop where
  base : attributeBase o m X.env (eval o X.env) = eval o X.env
  few : ((backTo cpos (starEach [e, f] X.env)).all (fun x => !x.1) && (backToKw cpos (keywordEach [] X.env)).all (fun x => x.1.isSome)
    && decide (([e, f] : List Expr).length + ([] : List Keyword).length + (if ([] : List Keyword).isEmpty then 0 else 1) < 30)) = true
  line : (apos.endLine == cpos.line) = true
  trees : backTo cpos (starEach [e, f] X.env) = [(false, eval e X.env), (false, eval f X.env)]
/-- a is a dict, whatever its keys -/
def IsD (H : Hp) (a : Addr) : Prop := (∃ kvs, Rd H a (.dK kvs)) ∨ ∃ kvs, Rd H a (.dT kvs)
theorem isD_at {X : Cx} {pins : List (Addr × Obj)} {σ : St} {H : Hp} {s : Shared} {a : Addr} (I : Inv X pins σ H s) (d : IsD H a) :
    s.TypeIs (.ref a) "dict" ∧ (∀ b, Value.ref a = .ref b → ∃ ob, s.heap.get? b = some ob ∧ ob.dict = none) ∧ (a == sysModules) = false := by
  rcases d with ⟨kvs, e⟩ | ⟨kvs, e⟩
  · obtain ⟨_, hd, vs, _, dd⟩ := dk_rd I.hok e
    refine ⟨dd.typeIs, fun b q => ?_, hd⟩
    cases q
    obtain ⟨ob, _, _, h1, h2, _⟩ := dd
    exact ⟨ob, h1, h2.2.1⟩
  · obtain ⟨_, hd, xs, _, dd⟩ := dt_rd I.hok e
    refine ⟨dd.typeIs, fun b q => ?_, hd⟩
    cases q
    obtain ⟨ob, _, _, h1, h2, _⟩ := dd
    exact ⟨ob, h1, h2.2.1⟩
section
variable {X : Cx} {pins : List (Addr × Obj)} {σ : St} {H : Hp} {s : Shared} {a : Addr} {y d : V} {u r : Value} {o : Option V} {A : Around} {E : Value → Shared → Prop}
end
/-- d.pop(k): there; d.pop(k, x): there or not -/
def tDPop1 (td ty : TE) : TE := fun σ H Q => td σ H fun x H1 => ∃ a, x = .ref a ∧ IsD H1 a ∧ ty σ H1 fun y H2 => ∃ kvs k v, H2 a = some (.dK kvs) ∧ y = kV k ∧ valV kvs k = some v ∧ Q v (upd H2 a (.dK (dropK kvs k)))
section
variable {X : Cx} {o e f : Expr} {apos cpos : Pos} {td ty tx : TE}
theorem pe_dpop1 (ho : PE X o td) (he : PE X e ty) (m : M1 X o "pop" apos e cpos) : PE X (.Call (.Attribute o "pop" apos) [e] [] cpos) (tDPop1 td ty) := by
  intro pins s σ H Q I h
  refine wpAny_Call_method m.base m.few m.line PySem.F.plainAttrs_dict PySem.F.slot_dict_pop PySem.F.type_dict_pop (thn (ho pins s σ H _ I h) fun u s1 ⟨x, H1, I1, rx, a, ex, d, q1⟩ => ?_)
  subst ex
  obtain rfl : u = Value.ref a := rx
  obtain ⟨t1, t2, _⟩ := isD_at I1 d
  refine ⟨t1, t2, ?_⟩
  rw [m.trees]
  refine Calls.callWith_builtin rfl (Calls.evalArgs_plain (Calls.spliced_cons (thn (he pins s1 σ H1 _ I1 q1) fun iv s2 ⟨y, H2, I2, ry, kvs, k, v, ea, ey, l, q2⟩ => Calls.spliced_nil ?_)))
  subst ey
  exact d_pop I2 ea ry l (.inl rfl) fun w' s3 I3 rw' => ⟨v, _, I3, rw', q2⟩
end
/-! ### dict(d): a copy -/
section
variable {X : Cx} {pins : List (Addr × Obj)} {σ : St} {H : Hp} {s : Shared} {a : Addr} {kvs : List (Key × V)} {A : Around} {E : Value → Shared → Prop}
end
section
variable {X : Cx} {pins : List (Addr × Obj)} {σ : St} {H : Hp} {s : Shared} {a : Addr} {y : V} {u : Value} {A : Around} {E : Value → Shared → Prop}
end
end L2
namespace Att
open PySem PySem.W PySem.Calls PyProof.Rows
/-! ### the script -/
theorem ints_of_wellAll {P : Params} {h : Heap} : ∀ (ns : List Int) (vs : List Value), WellAll P h vs (ns.map WData.int) → IntsAre vs ns := by
  intro ns
  induction ns with
  | nil =>
    intro vs w
    rw [List.map_nil] at w
    cases w
    exact .nil
  | cons n ns ih =>
    intro vs w
    rw [List.map_cons] at w
    cases w with
    | cons a b =>
      cases a
      exact .cons _ _ (ih _ b)
theorem script_of {l : OpenLaw} {n : Nat} (hn : l.most = some n) {P : Params} {h : Heap} {args : List WData} {vals : List Value}
    (hpre : l.row.toRowW.claim.pre args = true) (hwl : WellAll P h vals args) :
    ∃ a vs ns, vals = [Value.ref a] ∧ args = [WData.list (ns.map WData.int)] ∧ h.get? a = some { cls := .type "list", data := .seq vs.toArray } ∧ IntsAre vs ns ∧ ns.length ≤ n := by
  have hsh : WShape.hasAll [] args [.list .int] = true := (pre_splitW hpre).1
  have hc : l.pre.holds [] { args := args } = true := (pre_splitW hpre).2
  obtain ⟨d, r, rfl, h1, h2⟩ := hasAllW_cons hsh
  obtain rfl := hasAllW_nil h2
  obtain ⟨xs, rfl, h3⟩ := hasW_list h1
  obtain ⟨ns, rfl⟩ := items_int h3
  have hlen : ns.length ≤ n := by
    unfold OpenLaw.pre at hc
    have h4 : (WTm.not (.lt (.lit (.int (n : Int))) (.len (.arg 0)))).holds [] { args := [.list (ns.map .int)] } = true := by
      have h4 := (holds_andW hc).1
      rw [hn] at h4
      exact h4
    have h5 := condW_of h4 (w_not (w_lt w_lit (w_len_list (w_arg rfl))))
    rw [List.length_map] at h5
    refine Nat.le_of_not_lt fun q => ?_
    have q' : (n : Int) < ((ns.length : Nat) : Int) := by omega
    first
      | (rw [decide_eq_true q'] at h5; exact absurd h5 (by decide))
      | (simp at h5; omega)
  cases hwl with
  | cons w1 w2 =>
    cases w2
    cases w1 with
    | list ho hall => exact ⟨_, _, ns, rfl, rfl, ho, ints_of_wellAll ns _ hall, hlen⟩
theorem post_true (l : OpenLaw) (args : List WData) : l.row.toRowW.claim.post args (.bool true) args = true :=
  postW_of (r := l.row.toRowW) (X := (true == true))
    (show WShape.has [] (.bool true) .bool = true by first | rfl | decide | simp [WShape.has, WShape.arms, WShape.armsAll])
    (show (WTm.eq .res (.lit (.bool true))).value [] { args := args, res := some (.bool true), after := args } = some (.bool (true == true)) from w_eq_bool (w_res rfl) w_lit) rfl
/-- the same from a codeAny of the CALL (for a layer whose function contracts speak of calls) -/
theorem attach_call {l : OpenLaw} {n : Nat} {q : Program} {loose : List Str} {XP : (Str → Option Value) → Heap → Prop} {YP : World → Heap → Prop} {d : DefRec}
    (hn : l.most = some n) (hdf : d.params.defaults = [])
    (call : ∀ (w : World) (s₀ s₁ : Shared) (mg mb : Str → Option Value) (fa : Addr) (o : Obj) (pm cd doc : Value) (a : Addr) (vs : List Value) (ns : List Int),
      Ground q loose [] XP w s₀ mg mb s₁.heap → YP w s₁.heap →
      s₁.heap.get? fa = some o → o.data = .func (docDef d.name d.params d.body d.scope pm cd doc) → s₁.heap.CodeRec cd d.name → mg d.name = some (.ref fa) →
      s₁.heap.get? a = some { cls := .type "list", data := .seq vs.toArray } → IntsAre vs ns → ns.length ≤ n → s₁.gens = #[] →
      codeAny (model l.prog w) callerA (.call (.ref fa) ⟨[.ref a], []⟩) (fun r s' => r = .ok (.ret (.bool true)) ∧ OldK s₁.heap s'.heap ∧ s'.os = s₁.os ∧ AllBare s'.gens) s₁) :
    WalkO q loose XP YP l.row.toRowW d [] (fun f vs => PySem.call f vs) := by
  intro w s₀ s₁ mg mb G Y fa o pm cd doc dV kV ho hd hcd hD hmg hg args vals as hpre hlay hrd hwl hlo
  obtain rfl : dV = .none := Dflts.none hD hdf
  obtain rfl : kV = .none := Dflts.noKw hD
  obtain ⟨a, vs, ns, rfl, rfl, hobj, hints, hlen⟩ := script_of hn hpre hwl
  refine enter_call (codeAny_mono (call w s₀ s₁ mg mb fa o pm cd doc a vs ns G Y ho (fd_plain hd) hcd hmg hobj hints hlen hg) fun r s' hq => ?_)
  obtain ⟨rfl, h2, h3, h4⟩ := hq
  exact ⟨.inl ⟨.bool true, .bool true, [], rfl, fun _ => rfl, .bool true, post_true l _, fun _ => ⟨List.Pairwise.nil, fun _ hm => (nomatch hm)⟩⟩, h2, h3, h4⟩
/-! ### rules over ANY heap (no ledger) from facts about the written part K: the library's own take a ledger (News) for what they write -/
section
variable {prog : Program} {w : World} {A : Around} {E : Value → Shared → Prop} {s : Shared} {K : Frag}
def ledger (h : Heap) (L d : Addr) : List (Addr × Obj) := (List.range h.objs.size).filterMap fun a => if a = L ∨ a = d then none else (h.get? a).map fun o => (a, o)
end
end Att
namespace L2
open PySem PySem.Spec PyProof.Rows
theorem vals_ints : ∀ {vs : List Value} {ns : List Int}, IntsAre vs ns → Vals (ns.map V.int) vs
  | _, _, .nil => .nil
  | _, _, .cons n t h => .cons ⟨t, rfl⟩ (vals_ints h)
/-- nothing is tracked but the script, known to the object (or it is an object of the module) -/
def Only (H : Hp) : Prop := ∀ b, H b = none ∨ ∃ o xs, H b = some (.frz o (.lst xs))
/-- THE HEAD: the law's promise, at the heap behind the top. F, the promise of the law's def, may use that base is part of the heap (so K.In base, base.Ns mainGlobals mg stand in Mod) -/
theorem law_call {P : Program} {w : World} {K : PySem.W.Frag} {mg mb : Str → Option Value} {CX : CXT} {k : Nat} {fa a : Addr} {fd : FuncData} {x : Str} {sp : Sp} {s₁ : Shared} {vs : List Value} {ns : List Int}
    (KX : K.In s₁.heap) (hns : s₁.heap.Ns mainGlobals mg) (hb : s₁.heap.Ns builtinsNs mb) (hbb : ∀ x : Str, x ≠ "__name__" → mb x = bootBuiltins x) (hlim : s₁.heap.NoLimit) (hg : s₁.gens = #[])
    (ha : s₁.heap.get? a = some { cls := .type "list", data := .seq vs.toArray }) (hi : IntsAre vs ns) (hl : ns.length ≤ sizeLine) (hr : Room k callerA)
    (F : ∀ base : Heap, K.In base → base.Ns mainGlobals mg → FnOk P w K mg base CX k fa fd [x] sp) (hbind : ∀ (s : Shared) (u : Value), BindsTo s fd ⟨[u], []⟩ [(x, u)])
    (hsp : ∀ H : Hp, Only H → SqL K H a (ns.map V.int) → sp [.ref a] H (fun v _ => v = .bl true) fun _ _ _ => False)
    (hCX : ∀ H e s', CX [] H s₁ (fun _ _ _ => False) e s' → False) :
    codeAny (model P w) callerA (.call (.ref fa) ⟨[.ref a], []⟩) (fun r s' => r = .ok (.ret (.bool true)) ∧ OldK s₁.heap s'.heap ∧ s'.os = s₁.os ∧ AllBare s'.gens) s₁ := by
  have rv := vals_ints hi
  have lenV := hi.length
  -- from an abstract heap in which nothing but the script may be tracked
  have core : ∀ H : Hp, Only H → SqL K H a (ns.map V.int) → HOk P w H s₁.heap → (∀ b, H b ≠ none → b = a) → (H a ≠ none → K.lookup a = none) →
      codeAny (model P w) callerA (.call (.ref fa) ⟨[.ref a], []⟩) (fun r s' => r = .ok (.ret (.bool true)) ∧ OldK s₁.heap s'.heap ∧ s'.os = s₁.os ∧ AllBare s'.gens) s₁ := by
    intro H hO hS hok hA hK
    have base_of : ∀ {b : Addr} {o : Obj}, s₁.heap.get? b = some o → H b = none → (hidT s₁.heap H).get? b = some o := fun e n => hidT_get e n
    have noA : ∀ {b : Addr} {o : Obj} {es : Array DictEntry} {ep : Nat}, s₁.heap.get? b = some o → o.data = .dict es ep → H b = none := fun {b o es ep} e d => by
      cases q : H b with
      | none => rfl
      | some u =>
        have e' : b = a := hA b (by rw [q]; simp)
        subst e'
        rw [ha] at e; cases e
        have d' : Data.seq vs.toArray _ = Data.dict es ep := d
        cases d'
    have nsK : ∀ {b : Addr} {m : Str → Option Value}, s₁.heap.Ns b m → (hidT s₁.heap H).Ns b m := fun {b m} ⟨o, es, ep, e, d, r⟩ => ⟨o, es, ep, base_of e (noA e d), d, r⟩
    have hKb : K.In (hidT s₁.heap H) := fun b o e => base_of (KX b o e) (by
      cases q : H b with
      | none => rfl
      | some u =>
        have e' : b = a := hA b (by rw [q]; simp)
        subst e'
        rw [hK (by rw [q]; simp)] at e; cases e)
    have hM : Mod K mg (hidT s₁.heap H) := ⟨hKb, nsK hns, ⟨mb, nsK hb, hbb⟩, let ⟨mc, h1, h2⟩ := hlim; ⟨mc, nsK h1, h2⟩⟩
    have e0 : Env0 P w K mg (hidT s₁.heap H) callerA [] s₁ H := ⟨rfl, hM, fun b o e => of_hidT e, Nat.le_of_eq (hidT_size _ _), trivial, fun b hb => absurd (show b ∈ ([] : List Addr) from hb) (by simp), hok, .of_eq hg⟩
    refine codeAny_mono ((F _ hKb (nsK hns)).run callerA [] s₁ H ⟨[.ref a], []⟩ [.ref a] [.ref a] _ _ hr e0 (hbind s₁ (.ref a)) (.cons rfl .nil) (hsp H hO hS)) fun r s' h => ?_
    cases r with
    | error e => exact (hCX H e s' h).elim
    | ok fl =>
      cases fl with
      | next => exact False.elim h
      | brk => exact False.elim h
      | cont => exact False.elim h
      | ret u =>
        obtain ⟨v, H', os, bare, un, hok', r', q⟩ := h
        have q' : v = .bl true := q
        subst q'
        obtain rfl : u = Value.bool true := r'
        refine ⟨rfl, OldK.of_keep fun b o e => ?_, os, bare⟩
        cases q : H b with
        | none => exact un.keep b o e q (by intro z; exact absurd (show b ∈ ([] : List Addr) from z) (by simp)) (by simp)
        | some u =>
          rcases hO b with z | ⟨ob, xs, z⟩
          · rw [q] at z; cases z
          · have z2 := un.frzs b ob _ z
            obtain ⟨e1, _⟩ := hok b _ z
            obtain ⟨e2, _⟩ := hok' b _ z2
            rw [e] at e1; cases e1
            exact e2
  cases hk : K.lookup a with
  | some o =>
    -- the script is one of the module's own objects
    have e := KX a o hk
    rw [ha] at e
    cases e
    refine core (fun _ => none) (fun _ => .inl rfl) (.inr ⟨_, vs.toArray, _, hk, rfl, rfl, rfl, by rw [List.size_toArray, lenV]; exact hl, by simpa using rv⟩) (fun b u z => by have z' : (none : Option HO) = some u := z; cases z') (fun b z => absurd rfl z) fun z => absurd rfl z
  | none =>
    refine core (fun b => if b = a then some (.frz { cls := .type "list", data := .seq vs.toArray } (.lst (ns.map V.int))) else none) (fun b => ?_) (.inl (.inr ⟨{ cls := .type "list", data := .seq vs.toArray }, if_pos rfl⟩)) (fun b u z => ?_) (fun b z => ?_) fun _ => hk
    · by_cases hb : b = a
      · exact .inr ⟨_, _, if_pos hb⟩
      · exact .inl (if_neg hb)
    · by_cases hb : b = a
      · have z' := (if_pos hb).symm.trans z
        cases z'
        subst hb
        exact ⟨ha, by rw [List.length_map]; exact hl, vs, _, rv, ha⟩
      · have z' := (if_neg hb).symm.trans z
        cases z'
    · by_cases hb : b = a
      · exact hb
      · exact absurd (if_neg hb) z
end L2
namespace L2
open PySem PySem.Spec PyProof.Rows
/-- the goal that k_head leaves (case hc), from the law's promise. F gives the function object fd (K's own) once, then the promise over every base -/
theorem walk_of {l : PySem.W.OpenLaw} {n k : Nat} {q : Program} {loose : List Str} {XP : (Str → Option Value) → Heap → Prop} {YP : World → Heap → Prop} {d : DefRec} {K : Params → PySem.W.Frag} {CX : World → CXT} {sp : World → Sp} {x : Str}
    (hn : l.most = some n) (hn2 : n ≤ sizeLine) (hdf : d.params.defaults = []) (hr : Room k callerA)
    (hY : ∀ (w : World) (h : Heap), YP w h → (K w.params).In h)
    (F : ∀ (w : World) (mg : Str → Option Value) (fa : Addr) (h : Heap), (K w.params).In h → h.Ns mainGlobals mg → mg d.name = some (.ref fa) →
      ∃ fd : FuncData, (∀ (s : Shared) (u : Value), BindsTo s fd ⟨[u], []⟩ [(x, u)]) ∧
        ∀ base : Heap, (K w.params).In base → base.Ns mainGlobals mg → FnOk l.prog w (K w.params) mg base (CX w) k fa fd [x] (sp w))
    (hsp : ∀ (w : World) (H : Hp) (a : Addr) (ns : List Int), ns.length ≤ n → Only H → SqL (K w.params) H a (ns.map V.int) → sp w [.ref a] H (fun v _ => v = .bl true) fun _ _ _ => False)
    (hCX : ∀ (w : World) (H : Hp) (s : Shared) (e : Value) (s' : Shared), CX w [] H s (fun _ _ _ => False) e s' → False) :
    PySem.W.WalkO q loose XP YP l.row.toRowW d [] (fun f vs => PySem.call f vs) := by
  refine Att.attach_call hn hdf fun w s₀ s₁ mg mb fa o pm cd doc a vs ns G Y ho hd hcd hmg hobj hints hlen hg => ?_
  have KX := hY w _ Y
  obtain ⟨fd, hb, hF⟩ := F w mg fa _ KX G.T.g hmg
  exact law_call KX G.T.g G.T.b G.T.builtins G.T.nolimit hg hobj hints (Nat.le_trans hlen hn2) hr hF hb (fun H hO hS => hsp w H a ns hlen hO hS) fun H e s' => hCX w H s₁ e s'
end L2
/-! SHORT WORDS over the layer: a def of the text, its body, what a loop and a test want. -/
namespace L2
open PySem PySem.Spec PyProof.Rows
/-! ### the text by places -/
/-- the j-th statement of a class's body -/
def inClass (s : Stmt) (j : Nat) : Stmt := match s with
  | .ClassDef _ _ _ body _ _ _ _ _ _ _ => body.getD j (.Pass ⟨0, 0, 0, 0⟩)
  | _ => .Pass ⟨0, 0, 0, 0⟩
def defArgs (s : Stmt) : Arguments := match s with
  | .FunctionDef _ a _ _ _ _ _ _ _ _ => a
  | _ => { posonlyargs := [], args := [], vararg := none, kwonlyargs := [], kw_defaults := [], kwarg := none, defaults := [] }
def defBody (s : Stmt) : List Stmt := match s with
  | .FunctionDef _ _ b _ _ _ _ _ _ _ => b
  | _ => []
def defScope (s : Stmt) : Scope := match s with
  | .FunctionDef _ _ _ _ _ _ sc _ _ _ => sc
  | _ => { kind := .function, names := [], isGenerator := false, isCoroutine := false }
/-! ### no exception leaves a def -/
abbrev CX0 : CXT := fun _ _ _ _ _ _ => False
/-! ### a def (or method) of the text as it stands behind the top -/
structure Fun (K : PySem.W.Frag) (x qual : Str) (st : Stmt) (f : Addr) (fd : FuncData) : Prop where
  ex : ∃ (oc : Value) (od : Option Addr) (kV doc pm : Value) (an : Option Addr) (cdv ct : Value) (osl : Array (Option Value)),
    fd = PySem.W.fnOf x qual (defArgs st) (defBody st) (defScope st) .none kV doc pm an cdv ct ∧ K.lookup f = some ⟨oc, od, .func fd, osl⟩ ∧ PySem.W.codeIn K cdv qual = true
  kp : PySem.W.keepIn K (.ref f) = true
section
variable {P : Program} {w : World} {K : PySem.W.Frag} {mg : Str → Option Value} {base : Heap}
/-- THE RULE for a def: its body as a term of rules, and the reading of that term -/
theorem Fun.ok {x qual : Str} {st : Stmt} {f : Addr} {fd : FuncData} {N ps : List Str} {k : Nat} {sp : Sp} (F : Fun K x qual st f fd) (S : FnScope N ps (defScope st)) (len : ∀ vs H Q E, sp vs H Q E → vs.length = ps.length)
    (hbody : ∀ (cdv : Value) (A : Around) (outer : List Env) (s : Shared) (H : Hp) (vs : List V) (Q : VK) (E : XK), Room k (A.deeper (envOfC qual (defScope st) s.heap.objs.size f cdv)) → sp vs H Q E →
      ∃ t, PSs (cxOf CX0 P w K mg base N qual (defScope st) f cdv A outer s H E).nox (defBody st) t ∧ t { nx := fun _ H' => Q .non H', rt := Q } (start N vs) H) : FnOk P w K mg base CX0 (k + 1) f fd ps sp := by
  obtain ⟨oc, od, kV, doc, pm, an, cdv, ct, osl, rfl, lk, hcd⟩ := F.ex
  refine fn_of lk hcd S len fun A outer s H vs Q E hr hsp => ?_
  obtain ⟨t, h, q⟩ := hbody cdv A outer s H vs Q E hr hsp
  exact ⟨t, h.nox, q⟩
/-- how its arguments bind (no defaults): h is «fun _ _ _ _ _ _ us hl => match us, hl with | [_, _], _ => rfl», one _ a parameter -/
theorem Fun.binds {x qual : Str} {st : Stmt} {f : Addr} {fd : FuncData} {ps : List Str} (F : Fun K x qual st f fd)
    (h : ∀ (kV doc pm : Value) (an : Option Addr) (cdv ct : Value) (us : List Value), us.length = ps.length → bindArgs (PySem.W.fnOf x qual (defArgs st) (defBody st) (defScope st) .none kV doc pm an cdv ct) ⟨us, []⟩ = pure (ps.zip us)) : Binds K fd ps [] := by
  obtain ⟨oc, od, kV, doc, pm, an, cdv, ct, osl, rfl, lk, hcd⟩ := F.ex
  exact .all (h kV doc pm an cdv ct)
theorem fun_mk {x qual : Str} {st : Stmt} {f : Addr} {oc : Value} {od an : Option Addr} {osl : Array (Option Value)} {kV doc pm cdv ct : Value} (l : K.lookup f = some ⟨oc, od, .func (PySem.W.fnOf x qual (defArgs st) (defBody st) (defScope st) .none kV doc pm an cdv ct), osl⟩)
    (c : PySem.W.codeIn K cdv qual = true) (k : PySem.W.keepIn K (.ref f) = true) : Fun K x qual st f (PySem.W.fnOf x qual (defArgs st) (defBody st) (defScope st) .none kV doc pm an cdv ct) := ⟨⟨oc, od, kV, doc, pm, an, cdv, ct, osl, rfl, l, c⟩, k⟩
end
theorem hu_of {A : Around} {k : Nat} (hr : Room k A) : A.units + 1 < cLine := Nat.lt_of_le_of_lt (Nat.add_le_add_left (by decide : 1 ≤ 64) _) hr.units
/-! ### expressions in short: the name that stands in the i-th slot -/
section
variable {X : Cx}
/-- len of a dict -/
theorem call_lenD : CallR X (.builtin "len") (fun xs H Q => ∃ a kvs, xs = [V.ref a] ∧ H a = some (.dK kvs) ∧ Q (.int kvs.length) H) := by
  intro pins s σ H xs us Q I r h
  obtain ⟨a, kvs, rfl, ha, q⟩ := h
  obtain ⟨u, rfl, ru⟩ := vals1 r
  cases ru
  exact d_len I (.inl ha) fun t s' I' => ⟨.int kvs.length, H, I', ⟨t, rfl⟩, q⟩
end
/-! ### tests -/
theorem iteF {A B : Prop} (h : B) : if false = true then A else B := by
  rw [if_neg Bool.false_ne_true]
  exact h
theorem iteT {A B : Prop} (h : A) : if true = true then A else B := by
  rw [if_pos rfl]
  exact h
theorem ite2 {c A B : Prop} [Decidable c] (h1 : c → A) (h2 : ¬ c → B) : if c then A else B := by
  by_cases h : c
  · rw [if_pos h]
    exact h1 h
  · rw [if_neg h]
    exact h2 h
/-! ### heaps -/
/-- all that was tracked is as it was -/
def Same (H H' : Hp) : Prop := ∀ b o, H b = some o → H' b = some o
theorem Same.trans {H H1 H2 : Hp} (a : Same H H1) (b : Same H1 H2) : Same H H2 := fun c o h => b c o (a c o h)
theorem Same.free {H H' : Hp} (e : Same H H') {l : Addr} (h : H' l = Option.none) : H l = Option.none := by
  cases q : H l with
  | none => rfl
  | some o =>
    rw [e l o q] at h
    cases h
theorem Same.seq {K : PySem.W.Frag} {H H' : Hp} {a : Addr} {xs : List V} (e : Same H H') (h : SqL K H a xs) : SqL K H' a xs := by
  rcases h with (h | ⟨o, h⟩) | h
  · exact .inl (.inl (e _ _ h))
  · exact .inl (.inr ⟨o, e _ _ h⟩)
  · exact .inr h
/-! ### a dict's pairs: keys that differ -/
section
variable {κ : Type} [DecidableEq κ]
end
end L2
set_option maxHeartbeats 4000000
/-! MY OWN LAYER over the hand layer: exceptions, packed promises -/
namespace L2
open PySem PySem.Spec PyProof.Rows

/-- an exception of class cls flies, its record at ea, over the frames l; B: all that stays whatever it passes -/
structure Fly (B : Heap) (l : List Env) (h : Heap) (H H' : Hp) (h' : Heap) (ea : Addr) (cls : Value) : Prop where
  fl : ∃ a0, Heap.FlyingW B l ea cls a0 h'
  trk : ∀ b u, H' b = some u → ∃ o, B.get? b = some o
  kept : ∀ b o, h.get? b = some o → H b = none → b ∉ frs l → B.get? b = some o
  alive : ∀ b o, h.get? b = some o → b ∉ frs l → ∃ o', B.get? b = some o'
/-- how an exception lies behind a call -/
def CXe (P : Program) (w : World) : CXT := fun outer H s E e s' => ∃ ea cls H' B, e = .ref ea ∧ s'.os = s.os ∧ AllBare s'.gens ∧ Un (frs outer) [] H H' s.heap s'.heap ∧ HOk P w H' s'.heap ∧ Fly B outer s.heap H H' s'.heap ea cls ∧ E cls none H'
/-- what a context wants of exceptions, in abstract words: class, frame, heap -/
abbrev XKs := Value → St → Hp → Prop
def XW (X : Cx) (K : XKs) : Prop := ∀ (pins : List (Addr × Obj)) (σ : St) (H : Hp) (s s' : Shared) (ea : Addr) (cls : Value) (H' : Hp) (B : Heap), Inv X pins σ H s → s'.os = s.os → AllBare s'.gens →
  Un (frs X.stack) [] H H' s.heap s'.heap → HOk X.prog X.w H' s'.heap → Fly B X.stack s.heap H H' s'.heap ea cls → K cls σ H' → X.xe (.ref ea) s'

theorem frs_cons {env : Env} {l : List Env} {L : Addr} (h : env.frame = some L) : frs (env :: l) = L :: frs l := by
  unfold frs; rw [List.filterMap_cons, h]

/-- tracked things stay where all that B holds stays -/
theorem HOk.flown {P : Program} {w : World} {H : Hp} {B h h' : Heap} (x : HOk P w H h) (t : ∀ b u, H b = some u → ∃ o, B.get? b = some o) (s : B.StaysIn h) (s' : B.StaysIn h') : HOk P w H h' := fun a o e =>
  (x a o e).stay (fun b u hb q => by
    have hB : ∃ o, B.get? b = some o := by
      rcases hb with rfl | hb
      · exact t _ _ e
      · exact t _ _ hb
    obtain ⟨o', ho⟩ := hB
    have e1 := s b o' ho
    rw [q] at e1; cases e1
    exact s' b _ ho) (fun _ q => q) fun _ _ q => q

/-- the wish of a def's body -/
theorem xw_def {P : Program} {w : World} {K : PySem.W.Frag} {mg : Str → Option Value} {base : Heap} {N : List Str} {qual : Str} {scope : Scope} {f : Addr} {cd : Value} {A : Around} {outer : List Env} {s0 : Shared} {H0 : Hp} {E : XK} :
    XW (cxOf (CXe P w) P w K mg base N qual scope f cd A outer s0 H0 E) (fun c _ H' => E c none H') := by
  intro pins σ H s s' ea cls H' B I os bare un hok fly hK
  have I' := I.call' (s' := s') (ch := []) os un hok bare (fun b z => absurd z (by simp))
  have hfr := I.ok.frames
  have hstk : (cxOf (CXe P w) P w K mg base N qual scope f cd A outer s0 H0 E).stack = envOfC qual scope s0.heap.objs.size f cd :: outer := rfl
  rw [hstk] at hfr
  obtain ⟨a0, hfl⟩ := fly.fl
  have hf : (envOfC qual scope s0.heap.objs.size f cd).frame = some s0.heap.objs.size := rfl
  show wpAny _ _ (leaving (envOfC qual scope s0.heap.objs.size f cd) (.ref ea)) _ _ s'
  refine wpAny_leaves_onW hfr hf hfl fun h' fl' up => ?_
  have hfs : frs (envOfC qual scope s0.heap.objs.size f cd :: outer) = s0.heap.objs.size :: frs outer := frs_cons hf
  have nf : ∀ b o, s0.heap.get? b = some o → b ∉ frs outer → b ∉ frs (envOfC qual scope s0.heap.objs.size f cd :: outer) := fun b o e n z => by
    rw [hfs] at z
    rcases List.mem_cons.mp z with z | z
    · exact absurd (Heap.lt_size e) (by rw [z]; exact Nat.lt_irrefl _)
    · exact n z
  have stay : ∀ b o, s0.heap.get? b = some o → H0 b = none → b ∉ frs outer → B.get? b = some o := fun b o e n hb =>
    fly.kept b o (I.base.keep b o e n hb (by intro z; exact absurd z (by simp [cxOf]))) (I.base.free b o e n (by intro z; exact absurd z (by simp [cxOf]))) (nf b o e hb)
  have live : ∀ b o, s0.heap.get? b = some o → b ∉ frs outer → ∃ o', B.get? b = some o' := fun b o e hb => by
    obtain ⟨o1, e1⟩ := I.base.there b o e (by intro z; exact absurd z (by simp [cxOf]))
    exact fly.alive b o1 e1 (nf b o e hb)
  refine ⟨ea, cls, H', B, rfl, I'.os, bare, ?_, hok.flown fly.trk hfl.1 fl'.1, ⟨⟨a0, fl'⟩, fly.trk, stay, live⟩, hK⟩
  have noA : ∀ b : Addr, b ∉ (cxOf (CXe P w) P w K mg base N qual scope f cd A outer s0 H0 E).ex := fun b z => absurd z (by simp [cxOf])
  have slotOf : ∀ b, b ∈ frs outer → ∀ o, s'.heap.get? b = some o → ∃ sl, h'.get? b = some { o with slots := sl } := fun b hb o e => by
    have hm : b ∈ frs (envOfC qual scope s0.heap.objs.size f cd :: outer) := by rw [hfs]; exact List.mem_cons_of_mem _ hb
    obtain ⟨_, o', ho', hd⟩ := hfl.2.2.1.mem hm
    rw [e] at ho'; cases ho'
    exact up b o e hd
  refine ⟨fun b o e n hb _ => fl'.1 b o (stay b o e n hb), fun b o e n hb _ => ?_, fun b o e n _ => I'.base.free b o e n (noA b), fun b o e _ => ?_, I'.base.tups, I'.base.frzs, I'.base.tbls⟩
  · obtain ⟨sl, e1⟩ := I'.base.slot b o e n hb (noA b)
    obtain ⟨sl', e2⟩ := slotOf b hb _ e1
    exact ⟨sl', e2⟩
  · by_cases hb : b ∈ frs outer
    · obtain ⟨o1, e1⟩ := I'.base.there b o e (noA b)
      obtain ⟨sl, e2⟩ := slotOf b hb _ e1
      exact ⟨_, e2⟩
    · obtain ⟨o1, e1⟩ := live b o e hb
      exact ⟨o1, fl'.1 b o1 e1⟩

/-! ### packed promises -/
/-- a def of the module: bound to x, its promise -/
def Have (P : Program) (w : World) (K : PySem.W.Frag) (mg : Str → Option Value) (base : Heap) (x : Str) (k : Nat) (ps : List Str) (dvs : List V) (sp : Sp) : Prop :=
  ∃ f fd ds, mg x = some (.ref f) ∧ PySem.W.keepIn K (.ref f) = true ∧ Binds K fd ps ds ∧ Vals dvs ds ∧ FnOk P w K mg base (CXe P w) k f fd ps sp
/-- a method -/
def HaveM (P : Program) (w : World) (K : PySem.W.Frag) (mg : Str → Option Value) (base : Heap) (C : Addr) (m : Str) (k : Nat) (ps : List Str) (dvs : List V) (sp : Sp) : Prop :=
  ∃ f fd ds, Meth K C m f ∧ Binds K fd ps ds ∧ Vals dvs ds ∧ FnOk P w K mg base (CXe P w) k f fd ps sp
/-- __init__ of the class at C, bound to x -/
def HaveI (P : Program) (w : World) (K : PySem.W.Frag) (mg : Str → Option Value) (base : Heap) (x : Str) (C : Addr) (k : Nat) (ps : List Str) (dvs : List V) (sp : Sp) : Prop :=
  ∃ f fd ds, mg x = some (.ref C) ∧ Mk K C f ∧ Binds K fd ps ds ∧ Vals dvs ds ∧ FnOk P w K mg base (CXe P w) k f fd ps sp
def tCallE (Kx : XKs) (sp : Sp) (dvs : List V) (t : TA) : TE := fun σ H Q => t σ H fun vs H1 => sp (vs ++ dvs) H1 Q (fun c _ H' => Kx c σ H')
def tMethE (Kx : XKs) (C : Addr) (m : Str) (sp : Sp) (dvs : List V) (ta : TE) (t : TA) : TE := fun σ H Q => ta σ H fun x H1 => ∃ a dx fs, x = .ref a ∧ H1 a = some (.ins C dx fs) ∧ fs.lookup m = none ∧
  t σ H1 fun vs H2 => sp (x :: (vs ++ dvs)) H2 Q (fun c _ H' => Kx c σ H')
def tMakeE (Kx : XKs) (C : Addr) (sp : Sp) (dvs : List V) (t : TA) : TE := fun σ H Q => t σ H fun vs H1 => ∀ x dx, H1 x = none → H1 dx = none → dx ≠ x →
  sp (.ref x :: (vs ++ dvs)) (upd (upd H1 dx (.own x)) x (.ins C dx [])) (fun v H2 => v = .non ∧ Q (.ref x) H2) (fun c _ H' => Kx c σ H')
section
variable {X : Cx} {Kx : XKs} {k : Nat} {f C : Addr} {fd : FuncData} {ps : List Str} {sp : Sp} {dvs : List V} {ds : List Value} {x m : Str} {p pos apos : Pos} {e o : Expr} {es : List Expr} {ta : TE} {t : TA}
theorem run_fnE {pins : List (Addr × Obj)} {σ : St} {H : Hp} {s : Shared} {Q : VK} {us : List Value} {vs : List V} (F : FnOk X.prog X.w X.K X.mg X.base (CXe X.prog X.w) k f fd ps sp) (hr : Room k X.A) (hb : Binds X.K fd ps ds) (hd : Vals dvs ds) (hx : XW X Kx)
    (I : Inv X pins σ H s) (r : Vals vs us) (h : sp (vs ++ dvs) H Q (fun c _ H' => Kx c σ H')) : wpAny (model X.prog X.w) X.A (call (.ref f) us) (EP X pins σ Q) X.xe s := by
  have r2 : Vals (vs ++ dvs) (us ++ ds) := r.append hd
  have hl : (us ++ ds).length = ps.length := by rw [← r2.length]; exact F.len _ _ _ _ h
  refine wpAny_call (codeAny_mono (F.run X.A X.stack s H ⟨us, []⟩ (us ++ ds) (vs ++ dvs) Q _ hr I.env0 (hb s us I.kIn hl) r2 h) fun r s' hq => ?_)
  cases r with
  | error e =>
    obtain ⟨ea, cls, H', B, rfl, os, bare, un, hok, fly, hK⟩ := hq
    exact hx pins σ H s s' ea cls H' B I os bare un hok fly hK
  | ok fl =>
    cases fl with
    | ret u => exact I.after hq
    | next => exact False.elim hq
    | brk => exact False.elim hq
    | cont => exact False.elim hq
theorem pe_callE (F : Have X.prog X.w X.K X.mg X.base x k ps dvs sp) (hr : Room k X.A) (hx : XW X Kx) (ha : PA X (e :: es) t) (hg : Gl X x := by rfl) (hdb : (x == ("__debug__" : Str)) = false := by decide)
    (he : starEach (e :: es) X.env = (false, eval e X.env) :: starEach es X.env := by rfl) (hpl : (backTo pos (starEach es X.env)).any (·.1) = false := by rfl) :
    PE X (.Call (.Name x p) (e :: es) [] pos) (tCallE Kx sp dvs t) := by
  obtain ⟨f, fd, ds, hm, hk, hb, hd, F⟩ := F
  intro pins s σ H Q I h
  refine wpAny_Call_Name_kw (ld_glob I hg hm ?_ hdb)
  refine PySem.W.callWith_K (h₀ := X.base) I.ok.mod.kin hk (thn (ha pos pins s σ H _ I h) fun us s1 ⟨vs, H1, I1, r, q⟩ => ⟨I1.kIn, ?_⟩) he hpl
  exact run_fnE F hr hb hd hx I1 r q
theorem pe_methE {pl : Sem Bool} (ho : PE X o ta) (c : Cls X.K C) (F : HaveM X.prog X.w X.K X.mg X.base C m k ps dvs sp) (hr : Room k X.A) (hx : XW X Kx) (ha : PA X (e :: es) t)
    (hst : starEach (e :: es) X.env = (false, eval e X.env) :: starEach es X.env := by rfl) (hpl : (backTo pos (starEach es X.env)).any (·.1) = false := by rfl)
    (ht : eval (.Call (.Attribute o m apos) (e :: es) [] pos) X.env = (do
      let ov ← eval o X.env
      standAt apos.atName
      let (f, first) ← holding [ov] (getMethod ov m pl)
      callWith pos f first (backTo pos (starEach (e :: es) X.env)) (backToKw pos (keywordEach [] X.env))) := by rfl) :
    PE X (.Call (.Attribute o m apos) (e :: es) [] pos) (tMethE Kx C m sp dvs ta t) := by
  obtain ⟨f, fd, ds, hm, hb, hd, F⟩ := F
  intro pins s σ H Q I h
  refine PySem.W.methodCall_KW (pl := pl) (thn (ho pins s σ H _ I h) fun u s1 ⟨x, H1, I1, rx, a, dx, fs, ex, ea, l, q⟩ => ?_) ht
  subst ex
  obtain rfl : u = Value.ref a := rx
  refine getmeth_ok I1 ea c hm l ?_
  refine PySem.W.callWith_K (first := [.ref a]) (h₀ := X.base) I.ok.mod.kin hm.kp (thn (ha pos pins s1 σ H1 _ I1 q) fun us s2 ⟨vs, H2, I2, r, q2⟩ => ⟨I2.kIn, ?_⟩) hst hpl
  exact run_fnE (us := .ref a :: us) (vs := .ref a :: vs) F hr hb hd hx I2 (.cons rfl r) q2
theorem pe_methE0 {pl : Sem Bool} (ho : PE X o ta) (c : Cls X.K C) (F : HaveM X.prog X.w X.K X.mg X.base C m k ps dvs sp) (hr : Room k X.A) (hx : XW X Kx)
    (ht : eval (.Call (.Attribute o m apos) [] [] pos) X.env = (do
      let ov ← eval o X.env
      standAt apos.atName
      let (f, first) ← holding [ov] (getMethod ov m pl)
      callWith pos f first (backTo pos (starEach [] X.env)) (backToKw pos (keywordEach [] X.env))) := by rfl) :
    PE X (.Call (.Attribute o m apos) [] [] pos) (tMethE Kx C m sp dvs ta tNil) := by
  obtain ⟨f, fd, ds, hm, hb, hd, F⟩ := F
  intro pins s σ H Q I h
  refine PySem.W.methodCall_KW (pl := pl) (thn (ho pins s σ H _ I h) fun u s1 ⟨x, H1, I1, rx, a, dx, fs, ex, ea, l, q⟩ => ?_) ht
  subst ex
  obtain rfl : u = Value.ref a := rx
  refine getmeth_ok I1 ea c hm l ?_
  exact PySem.W.callWith_K0 (first := [.ref a]) I1.kIn hm.kp (run_fnE (us := [.ref a]) (vs := [.ref a]) F hr hb hd hx I1 (.cons rfl .nil) q)
theorem run_makeE {pins : List (Addr × Obj)} {σ : St} {H : Hp} {s : Shared} {Q : VK} {us : List Value} {vs : List V} (M : Mk X.K C f) (F : FnOk X.prog X.w X.K X.mg X.base (CXe X.prog X.w) k f fd ps sp) (hr : Room (k + 1) X.A) (hb : Binds X.K fd ps ds) (hd : Vals dvs ds)
    (hx : XW X Kx) (I : Inv X pins σ H s) (r : Vals vs us)
    (h : ∀ x dx, H x = none → H dx = none → dx ≠ x → sp (.ref x :: (vs ++ dvs)) (upd (upd H dx (.own x)) x (.ins C dx [])) (fun v H2 => v = .non ∧ Q (.ref x) H2) (fun c _ H' => Kx c σ H')) :
    wpAny (model X.prog X.w) X.A (call (.ref C) us) (EP X pins σ Q) X.xe s := by
  have hq := h (s.heap.objs.size + 1) s.heap.objs.size (I.hok.fresh (Nat.le_succ _)) (I.hok.fresh (Nat.le_refl _)) (Nat.ne_of_lt (Nat.lt_succ_self _))
  have I2 := Inv.made (C := C) I
  have r2 : Vals (V.ref (s.heap.objs.size + 1) :: (vs ++ dvs)) (Value.ref (s.heap.objs.size + 1) :: (us ++ ds)) := .cons rfl (r.append hd)
  have hl : (Value.ref (s.heap.objs.size + 1) :: us ++ ds).length = ps.length := by
    have e := r2.length
    rw [F.len _ _ _ _ hq] at e
    exact e.symm
  refine wpAny_call (make_map (f := f) I.kIn M.makes M.init (beq_iff_eq.mp M.fn) (codeAny_mono (F.run _ X.stack _ _ ⟨Value.ref (s.heap.objs.size + 1) :: us, []⟩ (Value.ref (s.heap.objs.size + 1) :: (us ++ ds)) _ _ _ (hr.make C us [])
    (I2.env0.make C us []) (hb _ (Value.ref (s.heap.objs.size + 1) :: us) I2.kIn hl) r2 hq) fun r s' hq' => ?_))
  cases r with
  | error e =>
    obtain ⟨ea, cls, H', B, rfl, os, bare, un, hok, fly, hK⟩ := hq'
    exact hx pins σ _ _ s' ea cls H' B I2 os bare un hok fly hK
  | ok fl =>
    cases fl with
    | ret u =>
      obtain ⟨v, H', I3, rv, ev, q3⟩ := I2.after hq'
      subst ev
      exact ⟨rv, ⟨V.ref (s.heap.objs.size + 1), H', I3, rfl, q3⟩⟩
    | next => exact False.elim hq'
    | brk => exact False.elim hq'
    | cont => exact False.elim hq'
theorem pe_makeE (F : HaveI X.prog X.w X.K X.mg X.base x C k ps dvs sp) (hr : Room (k + 1) X.A) (hx : XW X Kx) (ha : PA X (e :: es) t) (hg : Gl X x := by rfl) (hdb : (x == ("__debug__" : Str)) = false := by decide)
    (he : starEach (e :: es) X.env = (false, eval e X.env) :: starEach es X.env := by rfl) (hpl : (backTo pos (starEach es X.env)).any (·.1) = false := by rfl) :
    PE X (.Call (.Name x p) (e :: es) [] pos) (tMakeE Kx C sp dvs t) := by
  obtain ⟨f, fd, ds, hm, M, hb, hd, F⟩ := F
  intro pins s σ H Q I h
  refine wpAny_Call_Name_kw (ld_glob I hg hm ?_ hdb)
  refine PySem.W.callWith_K (h₀ := X.base) I.ok.mod.kin M.kp (thn (ha pos pins s σ H _ I h) fun us s1 ⟨vs, H1, I1, r, q⟩ => ⟨I1.kIn, ?_⟩) he hpl
  exact run_makeE M F hr hb hd hx I1 r q
/-- a name of the module, a built-in's name, as a value -/
theorem pe_globE {v : V} (hg : Gl X x) (hm : ∃ u, X.mg x = some u ∧ RelV v u) (hd : (x == ("__debug__" : Str)) = false := by decide) : PE X (.Name x pos) (tC v) := by
  obtain ⟨u, hm, r⟩ := hm
  exact pe_glob hg hm r hd
theorem pe_bltnE {n : String} (hg : Gl X x) (hm : X.mg x = none) (hv : bootBuiltins x = some (.type n)) (hn : x ≠ "__name__" := by decide) (hd : (x == ("__debug__" : Str)) = false := by decide) : PE X (.Name x pos) (tC (.ty n)) := pe_bltn hg hm hv rfl hn hd
end
/-! ### a def by its body -/
/-- a def (or method) of the text -/
def Raw (K : PySem.W.Frag) (mg : Str → Option Value) (x qual : Str) (st : Stmt) (ps : List Str) (dvs : List V) : Prop := ∃ f fd ds, mg x = some (.ref f) ∧ Fun K x qual st f fd ∧ Binds K fd ps ds ∧ Vals dvs ds
def RawM (K : PySem.W.Frag) (C : Addr) (m qual : Str) (st : Stmt) (ps : List Str) (dvs : List V) : Prop := ∃ f fd ds, Meth K C m f ∧ Fun K m qual st f fd ∧ Binds K fd ps ds ∧ Vals dvs ds
def RawI (K : PySem.W.Frag) (mg : Str → Option Value) (x : Str) (C : Addr) (qual : Str) (st : Stmt) (ps : List Str) (dvs : List V) : Prop := ∃ f fd ds, mg x = some (.ref C) ∧ Mk K C f ∧ Fun K "__init__" qual st f fd ∧ Binds K fd ps ds ∧ Vals dvs ds
section
variable {P : Program} {w : World} {K : PySem.W.Frag} {mg : Str → Option Value} {base : Heap}
/-- the body's duty -/
def Body (P : Program) (w : World) (K : PySem.W.Frag) (mg : Str → Option Value) (base : Heap) (qual : Str) (st : Stmt) (N : List Str) (k : Nat) (sp : Sp) : Prop :=
  ∀ (f : Addr) (cdv : Value) (A : Around) (outer : List Env) (s : Shared) (H : Hp) (vs : List V) (Q : VK) (E : XK), Room k (A.deeper (envOfC qual (defScope st) s.heap.objs.size f cdv)) → sp vs H Q E →
    ∃ t, PSs (cxOf (CXe P w) P w K mg base N qual (defScope st) f cdv A outer s H E) (defBody st) t ∧ t { nx := fun _ H' => Q .non H', rt := Q } (start N vs) H
theorem Fun.okE {x qual : Str} {st : Stmt} {f : Addr} {fd : FuncData} {N ps : List Str} {k : Nat} {sp : Sp} (F : Fun K x qual st f fd) (S : FnScope N ps (defScope st)) (len : ∀ vs H Q E, sp vs H Q E → vs.length = ps.length)
    (hbody : Body P w K mg base qual st N k sp) : FnOk P w K mg base (CXe P w) (k + 1) f fd ps sp := by
  obtain ⟨oc, od, kV, doc, pm, an, cdv, ct, osl, rfl, lk, hcd⟩ := F.ex
  exact fn_of lk hcd S len fun A outer s H vs Q E hr hsp => hbody f cdv A outer s H vs Q E hr hsp
theorem Raw.have {x qual : Str} {st : Stmt} {N ps : List Str} {dvs : List V} {k : Nat} {sp : Sp} (R : Raw K mg x qual st ps dvs) (S : FnScope N ps (defScope st)) (len : ∀ vs H Q E, sp vs H Q E → vs.length = ps.length)
    (hbody : Body P w K mg base qual st N k sp) : Have P w K mg base x (k + 1) ps dvs sp :=
  let ⟨f, fd, ds, hm, F, hb, hd⟩ := R
  ⟨f, fd, ds, hm, F.kp, hb, hd, F.okE S len hbody⟩
theorem RawM.have {C : Addr} {m qual : Str} {st : Stmt} {N ps : List Str} {dvs : List V} {k : Nat} {sp : Sp} (R : RawM K C m qual st ps dvs) (S : FnScope N ps (defScope st)) (len : ∀ vs H Q E, sp vs H Q E → vs.length = ps.length)
    (hbody : Body P w K mg base qual st N k sp) : HaveM P w K mg base C m (k + 1) ps dvs sp :=
  let ⟨f, fd, ds, hm, F, hb, hd⟩ := R
  ⟨f, fd, ds, hm, hb, hd, F.okE S len hbody⟩
theorem RawI.have {C : Addr} {x qual : Str} {st : Stmt} {N ps : List Str} {dvs : List V} {k : Nat} {sp : Sp} (R : RawI K mg x C qual st ps dvs) (S : FnScope N ps (defScope st)) (len : ∀ vs H Q E, sp vs H Q E → vs.length = ps.length)
    (hbody : Body P w K mg base qual st N k sp) : HaveI P w K mg base x C (k + 1) ps dvs sp :=
  let ⟨f, fd, ds, hm, M, F, hb, hd⟩ := R
  ⟨f, fd, ds, hm, M, hb, hd, F.okE S len hbody⟩
end
end L2
/-! ### exceptions: raised, caught -/
namespace L2
open PySem PySem.Spec PyProof.Rows

/-- the wish at a raise -/
def XR (X : Cx) (K : XKs) : Prop := ∀ (pins : List (Addr × Obj)) (σ : St) (H : Hp) (s : Shared) (h' : Heap) (e : Addr) (cls : Value) (args : List Value), Inv X pins σ H s → Heap.MadeExcOf s.heap h' e cls args → K cls σ H → X.xe (.ref e) { s with heap := h' }

theorem HOk.alive {P : Program} {w : World} {H : Hp} {h : Heap} (x : HOk P w H h) {b : Addr} {u : HO} (e : H b = some u) : ∃ o, h.get? b = some o := by
  have q := x b u e
  cases u with
  | lst xs => obtain ⟨_, _, _, _, e⟩ := q; exact ⟨_, e⟩
  | tup xs => obtain ⟨_, _, _, ⟨o, e, _⟩⟩ := q; exact ⟨_, e⟩
  | dK kvs => obtain ⟨_, _, _, _, o, _, _, e, _⟩ := q; exact ⟨_, e⟩
  | dT kvs => obtain ⟨_, _, _, _, o, _, _, e, _⟩ := q; exact ⟨_, e⟩
  | set S n => obtain ⟨o, _, _, _, e, _⟩ := q; exact ⟨_, e⟩
  | ins C dx fs => obtain ⟨_, _, _, e, _⟩ := q; exact ⟨_, e⟩
  | own y => exact q
  | xd fs => obtain ⟨_, ⟨_, _, _, e, _⟩, _⟩ := q; exact ⟨_, e⟩
  | rng lo hi => obtain ⟨_, _, _, e⟩ := q; exact ⟨_, e⟩
  | frz ob u => obtain ⟨e, _⟩ := q; exact ⟨_, e⟩
  | tbl ps => exact ⟨_, q⟩
  | met f y => exact ⟨_, q⟩
  | ext φ => obtain ⟨_, e, _⟩ := q; exact e

theorem xr_def {P : Program} {w : World} {K : PySem.W.Frag} {mg : Str → Option Value} {base : Heap} {N : List Str} {qual : Str} {scope : Scope} {f : Addr} {cd : Value} {A : Around} {outer : List Env} {s0 : Shared} {H0 : Hp} {E : XK} :
    XR (cxOf (CXe P w) P w K mg base N qual scope f cd A outer s0 H0 E) (fun c _ H' => E c none H') := by
  intro pins σ H s h1 ea cls args I mk hK
  have hfr := I.ok.frames
  have hstk : (cxOf (CXe P w) P w K mg base N qual scope f cd A outer s0 H0 E).stack = envOfC qual scope s0.heap.objs.size f cd :: outer := rfl
  have hfun := I.stack
  have hfree := I.stkFree
  rw [hstk] at hfr hfun hfree
  have hf : (envOfC qual scope s0.heap.objs.size f cd).frame = some s0.heap.objs.size := rfl
  have hfs : frs (envOfC qual scope s0.heap.objs.size f cd :: outer) = s0.heap.objs.size :: frs outer := frs_cons hf
  have noA : ∀ b : Addr, b ∉ (cxOf (CXe P w) P w K mg base N qual scope f cd A outer s0 H0 E).ex := fun b z => absurd z (by simp [cxOf])
  have nf : ∀ b o, s0.heap.get? b = some o → b ∉ frs outer → b ∉ frs (envOfC qual scope s0.heap.objs.size f cd :: outer) := fun b o e n z => by
    rw [hfs] at z
    rcases List.mem_cons.mp z with z | z
    · exact absurd (Heap.lt_size e) (by rw [z]; exact Nat.lt_irrefl _)
    · exact n z
  show wpAny _ _ (leaving (envOfC qual scope s0.heap.objs.size f cd) (.ref ea)) _ _ _
  refine wpAny_leaves_madeW (base := PySem.W.hideAll s.heap (frs (envOfC qual scope s0.heap.objs.size f cd :: outer))) (h := s.heap) hfr hf (fun b o q => PySem.W.of_hideAll _ q)
    (PySem.W.funFrames_hide hfun fun env he b hb => List.mem_filterMap.mpr ⟨env, he, hb⟩) mk fun h' t fl' _ _ up => ?_
  have inB : ∀ b o, s.heap.get? b = some o → b ∉ frs (envOfC qual scope s0.heap.objs.size f cd :: outer) → (PySem.W.hideAll s.heap (frs (envOfC qual scope s0.heap.objs.size f cd :: outer))).get? b = some o := fun b o e n => PySem.W.hideAll_get _ e n
  have stay : ∀ b o, s0.heap.get? b = some o → H0 b = none → b ∉ frs outer → (PySem.W.hideAll s.heap (frs (envOfC qual scope s0.heap.objs.size f cd :: outer))).get? b = some o := fun b o e n hb =>
    inB b o (I.base.keep b o e n hb (noA b)) (nf b o e hb)
  have live : ∀ b o, s0.heap.get? b = some o → b ∉ frs outer → ∃ o', (PySem.W.hideAll s.heap (frs (envOfC qual scope s0.heap.objs.size f cd :: outer))).get? b = some o' := fun b o e hb => by
    obtain ⟨o1, e1⟩ := I.base.there b o e (noA b)
    exact ⟨o1, inB b o1 e1 (nf b o e hb)⟩
  have trk : ∀ b u, H b = some u → ∃ o, (PySem.W.hideAll s.heap (frs (envOfC qual scope s0.heap.objs.size f cd :: outer))).get? b = some o := fun b u e => by
    obtain ⟨o, ho⟩ := I.hok.alive e
    exact ⟨o, inB b o ho fun z => by rw [hfree b z] at e; cases e⟩
  have slotOf : ∀ b, b ∈ frs outer → ∀ o, s.heap.get? b = some o → ∃ sl, h'.get? b = some { o with slots := sl } := fun b hb o e => by
    have hm : b ∈ frs (envOfC qual scope s0.heap.objs.size f cd :: outer) := by rw [hfs]; exact List.mem_cons_of_mem _ hb
    obtain ⟨_, o', ho', hd⟩ := hfun.mem hm
    rw [e] at ho'; cases ho'
    exact up b o (mk.keeps b o e) hd
  refine ⟨ea, cls, H, _, rfl, I.os, I.bare, ?_, I.hok.flown trk (fun b o q => PySem.W.of_hideAll _ q) fl'.1, ⟨⟨_, fl'⟩, trk, stay, live⟩, hK⟩
  refine ⟨fun b o e n hb _ => fl'.1 b o (stay b o e n hb), fun b o e n hb _ => ?_, fun b o e n _ => I.base.free b o e n (noA b), fun b o e _ => ?_, I.base.tups, I.base.frzs, I.base.tbls⟩
  · obtain ⟨sl, e1⟩ := I.base.slot b o e n hb (noA b)
    obtain ⟨sl', e2⟩ := slotOf b hb _ e1
    exact ⟨sl', e2⟩
  · by_cases hb : b ∈ frs outer
    · obtain ⟨o1, e1⟩ := I.base.there b o e (noA b)
      obtain ⟨sl, e2⟩ := slotOf b hb _ e1
      exact ⟨_, e2⟩
    · obtain ⟨o1, e1⟩ := live b o e hb
      exact ⟨o1, fl'.1 b o1 e1⟩

abbrev mroVE : List Value := [.type "ValueError", .type "Exception", .type "BaseException", .type "object"]
/-- an own error class under ValueError, bound to x -/
structure XC (K : PySem.W.Frag) (mg : Str → Option Value) (x : Str) (C : Addr) : Prop where
  m : mg x = some (.ref C)
  ex : PySem.W.excIn K C mroVE "ValueError.__new__" = true
theorem exc_obj {K : PySem.W.Frag} {h : Heap} {C : Addr} {l : List Value} {id : String} (hin : K.In h) (q : PySem.W.excIn K C l id = true) :
    ∃ bm N nm qn bs hdct sn sub ab col dd k0 k1 k2 k3 k5 mN, h.get? C = some (excClassObj nm qn C N bs bm hdct sn sub ab col dd k0 k1 k2 k3 k5 id) ∧ h.Ns N mN ∧ mN "__init__" = none ∧ OwnTail h l bm := by
  unfold PySem.W.excIn at q
  split at q
  case h_2 => cases q
  case h_1 dd cd sl ho =>
    split at q
    case h_2 => cases q
    case h_1 C' bm k0 k1 k2 k3 n k5 hm hs =>
      rw [Bool.and_eq_true, Bool.and_eq_true, Bool.and_eq_true, Bool.and_eq_true, Bool.and_eq_true] at q
      obtain ⟨⟨⟨⟨⟨q1, q2⟩, q3⟩, q4⟩, q5⟩, q6⟩ := q
      have e1 := beq_iff_eq.mp q1
      have e2 := beq_iff_eq.mp q2
      have e6 := beq_iff_eq.mp q6
      subst e1 e2
      obtain ⟨nm, bs, mro, ns, qn, hd, sn, sub, ab, col, del⟩ := cd
      have e3 : del = false := by
        cases del with
        | false => rfl
        | true => cases q3
      have hm' : mro = .ref C' :: bm := hm
      subst e3 hm'
      obtain ⟨l'⟩ := sl
      have hs' : l' = [k0, k1, k2, k3, some (.builtin n), k5] := hs
      subst hs'
      exact ⟨bm, ns, nm, qn, bs, hd, sn, sub, ab, col, dd, k0, k1, k2, k3, k5, _, hin _ _ ho, .of_isNs (PySem.W.isNs_of_in hin q5), PySem.W.nsMap_none_of_in hin q5 e6, PySem.W.tail_of_in hin q4⟩
def tRaise (Kx : XKs) (C : Addr) (t : TA) : TS := fun _ σ H => t σ H fun vs H1 => vs.length ≤ sizeLine ∧ Kx (.ref C) σ H1
theorem ps_raise {X : Cx} {Kx : XKs} {C : Addr} {x : Str} {np cpos pos : Pos} {e : Expr} {es : List Expr} {t : TA} (hx : XR X Kx) (hc : X.calm = true) (c : XC X.K X.mg x C) (ha : PA X (e :: es) t) (hg : Gl X x := by rfl) (hd : (x == ("__debug__" : Str)) = false := by decide)
    (he : starEach (e :: es) X.env = (false, eval e X.env) :: starEach es X.env := by rfl) (hpl : (backTo cpos (starEach es X.env)).any (·.1) = false := by rfl) :
    PS X (.Raise (some (.Call (.Name x np) (e :: es) [] cpos)) none pos) (tRaise Kx C t) := by
  intro pins s σ H D I h
  obtain ⟨bm, N, nm, qn, bs, hdct, sn, sub, ab, col, dd, k0, k1, k2, k3, k5, mN, hC, hN, hni, T⟩ := exc_obj I.mod.kin c.ex
  refine wpAny_Raise_call_subT (C := C) (nm := nm) (q := qn) (N := N) (bs := bs) (bm := bm) (hdct := hdct) (sn := sn) (sub := sub) (ab := ab) (col := col) (dd := dd) (k0 := k0) (k1 := k1) (k2 := k2) (k3 := k3) (k5 := k5) (mN := mN) PySem.F.excBase_ValueError (T.hasType PySem.F.excBase_ValueError.hasBase) (I.ok.hd hc) (by rw [he]; show (false || (backTo cpos (starEach es X.env)).any (·.1)) = false; rw [hpl]; rfl) hni
    (ld_glob I hg c.m ⟨rfl, ?_⟩ hd)
  have q := ha cpos pins s σ H _ I h
  rw [he] at q ⊢
  refine Calls.evalArgs_plain (wpAny_mono q (fun us s2 hq => ?_) fun _ _ y => y)
  obtain ⟨vs, H1, I1, r, hl, hk⟩ := hq
  exact ⟨rfl, by rw [← r.length]; exact hl, I1.bk _ _ hC, hN.keeps I1.bk, T.keeps I1.bk, fun h' ea mk => hx pins σ H1 s2 h' ea (.ref C) us I1 mk hk⟩

/-! ### behind a flight -/
theorem Inv.flown {X : Cx} {pins : List (Addr × Obj)} {σ : St} {H H' : Hp} {s s' : Shared} {B h5 : Heap} {ea : Addr} {cls : Value} (I : Inv X pins σ H s) (I' : Inv X pins σ H' s') (fly : Fly B X.stack s.heap H H' s'.heap ea cls)
    (st : B.StaysIn h5) (up : s'.heap.UpToSlots h5) : Inv X pins σ H' { s' with heap := h5 } := by
  obtain ⟨a0, hfl⟩ := fly.fl
  have nf : ∀ b, b ∉ X.fs → b ≠ X.env.locals → b ∉ frs X.stack := fun b h1 h2 z => by
    rcases List.mem_cons.mp (I.stkSub b z) with q | q
    · exact h2 q
    · exact h1 q
  have lt0 : ∀ b o, X.s₀.heap.get? b = some o → b ≠ X.env.locals := fun b o e => Nat.ne_of_lt (Nat.lt_of_lt_of_le (Heap.lt_size e) I.ok.above)
  have cellK : ∀ {c : Addr} {v : Option Value}, s'.heap.IsCell c v → h5.IsCell c v := fun {c v} ⟨o, ho, hd⟩ => by
    obtain ⟨sl, e⟩ := up c o ho fun vs z => by rw [hd] at z; cases z
    exact ⟨_, e, hd⟩
  have slotOf : ∀ b, b ∈ X.fs → ∀ o, s'.heap.get? b = some o → ∃ sl, h5.get? b = some { o with slots := sl } := fun b hb o e => by
    obtain ⟨_, o', ho', hd⟩ := I'.funs.mem hb
    rw [e] at ho'; cases ho'
    exact up b o e hd
  refine ⟨I'.ok, I'.os, I'.bare, ⟨fun b o e n hb hx => ?_, fun b o e n hb hx => ?_, I'.base.free, fun b o e hx => ?_, I'.base.tups, I'.base.frzs, I'.base.tbls⟩, ?_, fun x c e => ?_, I'.free, I'.freeC, fun p hp => ?_, I'.hok.flown fly.trk hfl.1 st, I'.len⟩
  · exact st b o (fly.kept b o (I.base.keep b o e n hb hx) (I.base.free b o e n hx) (nf b hb (lt0 b o e)))
  · obtain ⟨sl, e1⟩ := I'.base.slot b o e n hb hx
    obtain ⟨sl', e2⟩ := slotOf b hb _ e1
    exact ⟨sl', e2⟩
  · by_cases hb : b ∈ X.fs
    · obtain ⟨o1, e1⟩ := I'.base.there b o e hx
      obtain ⟨sl, e2⟩ := slotOf b hb _ e1
      exact ⟨_, e2⟩
    · obtain ⟨o1, e1⟩ := I.base.there b o e hx
      obtain ⟨o2, e2⟩ := fly.alive b o1 e1 (nf b hb (lt0 b o e))
      exact ⟨o2, st b o2 e2⟩
  · obtain ⟨m, hn, hl⟩ := I'.loc
    refine ⟨m, up.ns hn, fun i x v e1 e2 e3 => ?_⟩
    obtain ⟨u, r, l⟩ := hl i x v e1 e2 e3
    refine ⟨u, r, ?_⟩
    rcases l with l | ⟨k, c, e, z⟩
    · exact .inl l
    · exact .inr ⟨k, c, e, cellK z⟩
  · obtain ⟨v, z⟩ := I'.cell x c e
    exact ⟨v, cellK z⟩
  · obtain ⟨e, n, ne, nfs, d⟩ := I.pin p hp
    obtain ⟨_, n', _, _, _⟩ := I'.pin p hp
    exact ⟨st _ _ (fly.kept p.1 p.2 e n (nf p.1 nfs ne)), n', ne, nfs, d⟩

/-- an exception's record, known by its class -/
def excO (a : Addr) (C : Addr) : HO := .ext fun h => ∃ o vs, h.get? a = some o ∧ o.cls = .ref C ∧ o.data = .fields vs
/-- an untracked object comes to be tracked -/
theorem Inv.track {X : Cx} {pins : List (Addr × Obj)} {σ : St} {H : Hp} {s : Shared} {a : Addr} {u : HO} (I : Inv X pins σ H s) (hn : H a = none) (hL : a ≠ X.env.locals) (h0 : ∀ o, X.s₀.heap.get? a = some o → a ∈ X.ex)
    (hc : ∀ x c, X.env.cells.lookup x = some c → c ≠ a) (hp : ∀ p ∈ X.pn ++ pins, p.1 ≠ a) (ok : ∀ H', ObjOk X.prog X.w H' s.heap a u) : Inv X pins σ (upd H a u) s := by
  refine ⟨I.ok, I.os, I.bare, ⟨I.base.keep, I.base.slot, fun b o e n hx => ?_, I.base.there, fun b xs e => ?_, fun b o xs e => ?_, fun b ps e => ?_⟩, I.loc, I.cell, ?_, fun x c e => ?_, fun p hq => ?_, fun b o e => ?_, I.len⟩
  · have hb : b ≠ a := fun z => hx (by rw [z] at e ⊢; exact h0 o e)
    rw [upd_ne hb]
    exact I.base.free b o e n hx
  · have q := I.base.tups b xs e
    rw [upd_ne (ne_of_none q hn)]
    exact q
  · have q := I.base.frzs b o xs e
    rw [upd_ne (ne_of_none q hn)]
    exact q
  · obtain ⟨more, q⟩ := I.base.tbls b ps e
    exact ⟨more, by rw [upd_ne (ne_of_none q hn)]; exact q⟩
  · rw [upd_ne (Ne.symm hL)]
    exact I.free
  · rw [upd_ne (hc x c e)]
    exact I.freeC x c e
  · obtain ⟨e, n, r⟩ := I.pin p hq
    exact ⟨e, by rw [upd_ne (hp p hq)]; exact n, r⟩
  · by_cases hb : b = a
    · subst hb; rw [upd_same] at e; cases e; exact ok _
    · rw [upd_ne hb] at e
      exact (I.hok b o e).stay (fun c v _ q => q) (fun c q => by rw [upd_ne (ne_of_none q hn)]; exact q) fun c xs q => by rw [upd_ne (ne_of_none q hn)]; exact q
/-- a name goes -/
theorem Inv.nameGone {X : Cx} {pins : List (Addr × Obj)} {σ : St} {H : Hp} {s : Shared} {i : Nat} {n : Str} {pos : Pos} {M : Model} {A : Around} {E : Value → Shared → Prop} {Q : Unit → Shared → Prop} (I : Inv X pins σ H s) (hN : X.N.Nodup) (hi : X.N[i]? = some n)
    (hl : X.env.kindOf n = some .local) (h : ∀ s', Inv X pins (σ.set i none) H s' → Q () s') : wpAny M A (do bindName X.env n .none; unbindBehindTheSuite X.env n pos) Q E s := by
  obtain ⟨m, hn, hv⟩ := id I.loc
  have hcls : (X.env.scope.kind == .class || (X.env.scope.kind == .module && X.env.locals != X.env.globals)) = false := by rw [I.ok.kind]; rfl
  have cne := I.cne
  have hiσ : i < σ.length := by rw [I.len]; exact (List.getElem?_eq_some_iff.mp hi).1
  refine wpAny_nameGoes_keeps hl hn hcls fun h' v hn' hs => ?_
  obtain ⟨oL, _, _, hoL, _⟩ := id hn
  refine h _ ⟨I.ok, I.os, I.bare, ⟨fun b o e n hb hx => ?_, fun b o e n hb hx => ?_, I.base.free, fun b o e hx => ?_, I.base.tups, I.base.frzs, I.base.tbls⟩, ⟨_, hn', fun j y v' e1 e2 e3 => ?_⟩, fun y c e => ?_, I.free, I.freeC, fun p hp => ?_, fun b ob e => ?_, by simpa using I.len⟩
  · exact (hs.2 b (Nat.ne_of_lt (Nat.lt_of_lt_of_le (Heap.lt_size e) I.ok.above))).trans (I.base.keep b o e n hb hx)
  · obtain ⟨sl, e1⟩ := I.base.slot b o e n hb hx
    exact ⟨sl, (hs.2 b (Nat.ne_of_lt (Nat.lt_of_lt_of_le (Heap.lt_size e) I.ok.above))).trans e1⟩
  · obtain ⟨o', e1⟩ := I.base.there b o e hx
    exact ⟨o', (hs.2 b (Nat.ne_of_lt (Nat.lt_of_lt_of_le (Heap.lt_size e) I.ok.above))).trans e1⟩
  · by_cases hj : j = i
    · subst hj
      rw [List.getElem?_set_self hiσ] at e2
      cases e2
    · rw [List.getElem?_set_ne (Ne.symm hj)] at e2
      obtain ⟨u', r', q⟩ := hv j y v' e1 e2 e3
      refine ⟨u', r', ?_⟩
      rcases q with ⟨k, e⟩ | ⟨k, c, e, z⟩
      · refine .inl ⟨k, ?_⟩
        have : y ≠ n := fun e => hj (nodup_ix hN e1 (e ▸ hi))
        simp [this, e]
      · exact .inr ⟨k, c, e, z.sameBut hs (cne y c e)⟩
  · obtain ⟨w', z⟩ := I.cell y c e
    exact ⟨w', z.sameBut hs (cne y c e)⟩
  · obtain ⟨e, n, ne, nf, d⟩ := I.pin p hp
    exact ⟨(hs.2 p.1 ne).trans e, n, ne, nf, d⟩
  · refine (I.hok b ob e).stay (fun c w' hc q => (hs.2 c ?_).trans q) (fun _ q => q) fun _ _ q => q
    rintro rfl
    rcases hc with rfl | hc
    · rw [I.free] at e; cases e
    · rw [I.free] at hc; cases hc

/-- an error class as a handler's: bound to x; C stands under D -/
structure XH (K : PySem.W.Frag) (mg : Str → Option Value) (x : Str) (D : Addr) : Prop where
  m : mg x = some (.ref D)
  ty : PySem.W.typeIn K (.ref D) = some (.type "type")
  cl : ∃ cd, PySem.W.clsIn K D = some cd
  be : PySem.W.mroIn K D (.type "BaseException") = some true
def XSub (K : PySem.W.Frag) (C D : Addr) : Prop := PySem.W.mroIn K C (.ref D) = some true
theorem exc_match {K : PySem.W.Frag} {M : Model} {A : Around} {E : Value → Shared → Prop} {Q : Bool → Shared → Prop} {s : Shared} {mg : Str → Option Value} {x : Str} {ea C D : Addr} {o : Obj} (hin : K.In s.heap) (c : XH K mg x D) (sub : XSub K C D)
    (ho : s.heap.get? ea = some o) (hcl : o.cls = .ref C) (q : Q true s) : wpAny M A (excMatches (.ref ea) (.ref D)) Q E s := by
  obtain ⟨cd, hcd⟩ := c.cl
  have L1 := PySem.W.looks_typeIn (M := M) hin c.ty
  have L2' := PySem.W.looks_mroIn (M := M) hin c.be
  have L3 := PySem.W.looks_mroIn (M := M) hin sub
  have L4 : PySem.W.Looks M s.heap (typeOf (.ref ea)) (.ref C) := hcl ▸ (PySem.W.Looks.ld ho).andThen .now
  have L5 : PySem.W.Looks M s.heap (isType (.ref D)) true := by
    unfold PySem.W.clsIn at hcd
    split at hcd
    · rename_i ho'
      intro A' Q' E' s' k q'
      unfold isType loadHead
      exact wpAny_bind (wpAny_loadPart (k _ _ (hin _ _ ho')) (wpAny_pure q'))
    · cases hcd
  have L6 : PySem.W.Looks M s.heap (isExcClass (.ref D)) true := L5.andThen L2'
  obtain ⟨h, g, d, t, os⟩ := s
  have f := tc_notTuple
  unfold excMatches isInstance
  refine wpAny_bind (wpAny_bind (L1.at ?_))
  rw [f]
  refine wpAny_pure ?_
  simp only [Bool.false_eq_true, if_false]
  refine wpAny_bind (wpAny_pure ?_)
  rw [List.forIn_cons]
  refine wpAny_bind (wpAny_bind (wpAny_bind (L6.at ?_)))
  simp only [Bool.not_true, Bool.false_eq_true, if_false]
  refine wpAny_pure ?_
  dsimp only
  rw [List.forIn_nil]
  refine wpAny_pure ?_
  refine wpAny_bind (L4.at ?_)
  rw [List.forIn_cons]
  refine wpAny_bind (wpAny_bind (wpAny_bind (L3.at ?_)))
  simp only [if_true]
  refine wpAny_pure ?_
  dsimp only
  refine wpAny_pure ?_
  exact wpAny_pure q
end L2
/-! ### kinds of values: isinstance with a built-in class; is True; == at any depth -/
namespace L2
open PySem PySem.Spec PyProof.Rows
/-- the kind of a value, by name ("" where it is not known) -/
def kdO : Option HO → String
  | some (.lst _) => "list"
  | some (.frz _ (.lst _)) => "list"
  | some (.tup _) => "tuple"
  | some (.dK _) => "dict"
  | some (.dT _) => "dict"
  | _ => ""
def kd (H : Hp) : V → String
  | .non => "NoneType"
  | .bl _ => "bool"
  | .int _ => "int"
  | .str _ => "str"
  | .ref a => kdO (H a)
  | _ => ""
def Kn (H : Hp) (x : V) : Prop := kd H x ≠ ""
def isTy (n : String) (H : Hp) (x : V) : Bool := kd H x == n || (kd H x == "bool" && n == "int")
theorem kd_ty {K : PySem.W.Frag} {H : Hp} {x : V} (h : Kn H x) : TyOf K H x (.type (kd H x)) := by
  cases x with
  | non => exact .non
  | bl b => exact .bl b
  | int i => exact .int i
  | str s => exact .str s
  | ref a =>
    have h : kdO (H a) ≠ "" := h
    show TyOf K H (.ref a) (.type (kdO (H a)))
    cases e : H a with
    | none => rw [e] at h; exact absurd rfl h
    | some o =>
      rw [e] at h
      cases o with
      | lst xs => exact .lst e
      | tup xs => exact .tup e
      | dK k => exact .dK e
      | dT k => exact .dT e
      | frz ob u =>
        cases u with
        | lst xs => exact .frz e
        | _ => exact absurd rfl h
      | _ => exact absurd rfl h
  | _ => exact absurd rfl h
theorem kdO_cases (o : Option HO) : kdO o = "" ∨ kdO o = "list" ∨ kdO o = "tuple" ∨ kdO o = "dict" := by
  unfold kdO
  split <;> simp
theorem Kn.cases {H : Hp} {x : V} (h : Kn H x) : kd H x = "NoneType" ∨ kd H x = "bool" ∨ kd H x = "int" ∨ kd H x = "str" ∨ kd H x = "list" ∨ kd H x = "tuple" ∨ kd H x = "dict" := by
  cases x with
  | ref a =>
    have h : kdO (H a) ≠ "" := h
    show kdO (H a) = _ ∨ kdO (H a) = _ ∨ kdO (H a) = _ ∨ kdO (H a) = _ ∨ kdO (H a) = _ ∨ kdO (H a) = _ ∨ kdO (H a) = _
    rcases kdO_cases (H a) with e | e | e | e
    · exact absurd e h
    · exact .inr (.inr (.inr (.inr (.inl e))))
    · exact .inr (.inr (.inr (.inr (.inr (.inl e)))))
    · exact .inr (.inr (.inr (.inr (.inr (.inr e)))))
  | non => exact .inl rfl
  | bl b => exact .inr (.inl rfl)
  | int i => exact .inr (.inr (.inl rfl))
  | str z => exact .inr (.inr (.inr (.inl rfl)))
  | _ => exact absurd rfl h
theorem kit_scal (K : PySem.W.Frag) : ∀ k ∈ ["NoneType", "bool", "int", "str", "list", "tuple", "dict"], ∀ n ∈ ["bool", "int", "str", "list", "tuple", "dict"], PySem.W.kitOne K (.type k) (.type n) = some (k == n || (k == "bool" && n == "int")) := by
  have e : ∀ k ∈ ["NoneType", "bool", "int", "str", "list", "tuple", "dict"], ∀ n ∈ ["bool", "int", "str", "list", "tuple", "dict"], (if (Value.type k == Value.type n) = true then some true else if PySem.W.kitMeta n = true then (fastBuiltinMro k).map (·.contains (.type n)) else none) = some (k == n || (k == "bool" && n == "int")) := by decide +kernel
  exact fun k hk n hn => e k hk n hn
theorem call_isi {X : Cx} : CallR X (.builtin "isinstance") (fun xs H Q => ∃ x n, xs = [x, .ty n] ∧ n ∈ ["bool", "int", "str", "list", "tuple", "dict"] ∧ Kn H x ∧ Q (.bl (isTy n H x)) H) := by
  intro pins s σ H xs us Q I r h
  obtain ⟨x, n, rfl, hn, hk, q⟩ := h
  cases r with
  | cons r1 rr =>
    cases rr with
    | cons r2 rr =>
      cases rr
      cases r2
      refine isinst_ok I r1 (kd_ty hk) (kit_scal X.K _ ?_ n hn) fun tk => ⟨.bl _, H, I.tok tk, rfl, q⟩
      rcases hk.cases with e | e | e | e | e | e | e <;> rw [e] <;> simp
/-- -x -/
theorem op_neg {X : Cx} : UnR X (unaryOp .USub) (rU fun i => .int (-i)) := by
  intro pins s σ H x v Q I rx h
  obtain ⟨i, rfl, q⟩ := h
  obtain ⟨t, rfl⟩ := rx
  exact neg_int ⟨.int _, H, I.tok _, ⟨_, rfl⟩, q⟩
end L2
namespace L2
open PySem PySem.Spec PyProof.Rows
theorem kn_int {H : Hp} {i : Int} : Kn H (.int i) ↔ True := ⟨fun _ => trivial, fun _ => (by decide : "int" ≠ "")⟩
theorem kn_lst {H : Hp} {a : Addr} {xs : List V} (h : H a = some (.lst xs)) : Kn H (.ref a) := fun z => by
  have z : kdO (H a) = "" := z
  rw [h] at z; exact absurd z (show "list" ≠ "" by decide)
theorem kn_tup {H : Hp} {a : Addr} {xs : List V} (h : H a = some (.tup xs)) : Kn H (.ref a) := fun z => by
  have z : kdO (H a) = "" := z
  rw [h] at z; exact absurd z (show "tuple" ≠ "" by decide)
theorem cxOf_K {CX : CXT} {P : Program} {w : World} {K : PySem.W.Frag} {mg : Str → Option Value} {base : Heap} {N : List Str} {qual : Str} {scope : Scope} {f : Addr} {cd : Value} {A : Around} {outer : List Env} {s : Shared} {H : Hp} {E : XK} :
    (cxOf CX P w K mg base N qual scope f cd A outer s H E).K = K := rfl
/-- whether a value is a whole number and no truth -/
def whole : V → Bool
  | .int _ => true
  | _ => false
def within (x : V) (l h : Int) : Bool := match x with
  | .int i => decide (l ≤ i) && decide (i ≤ h)
  | _ => false
theorem within_int {i l h : Int} : within (.int i) l h = (decide (l ≤ i) && decide (i ≤ h)) := rfl
theorem isTy_whole {H : Hp} {x : V} (h : Kn H x) : (isTy "int" H x && !isTy "bool" H x) = whole x := by
  cases x with
  | ref a =>
    have h : kdO (H a) ≠ "" := h
    have e : kd H (.ref a) = kdO (H a) := rfl
    unfold isTy
    rw [e]
    rcases kdO_cases (H a) with e | e | e | e <;> rw [e] <;> first | rfl | exact absurd e h
  | _ => first | rfl | exact absurd rfl h
end L2
namespace L2
open PySem PySem.Spec PyProof.Rows
/-! ### a word between two statements; lists that are tracked -/
/-- a mark whose kind names both parts: so they stand still while what is ahead of them is read -/
inductive Hid (t u : TS) : Type where
  | mk : Hid t u
def tCut (t u : TS) (_ : Hid t u) : TS := fun D σ H => ∃ M : St → Hp → Prop, t { D with nx := M } σ H ∧ ∀ σ' H', M σ' H' → u D σ' H'
theorem pss_cut {X : Cx} {st : Stmt} {rest : List Stmt} {t u : TS} (h1 : PS X st t) (h2 : PSs X rest u) : PSs X (st :: rest) (tCut t u .mk) := by
  intro pins s σ H D I h
  obtain ⟨M, h, hM⟩ := h
  refine wpAny_execs_cons (thn (h1 pins s σ H { D with nx := M } I h) fun f s1 q => ?_)
  cases f with
  | next =>
    obtain ⟨σ', H', I', q⟩ := q
    exact h2 pins s1 σ' H' D I' (hM σ' H' q)
  | ret v => exact q
  | brk => exact q
  | cont => exact q
def lstO : Option HO → Option (List V)
  | some (.lst xs) => some xs
  | some (.frz _ (.lst xs)) => some xs
  | _ => none
def tupO : Option HO → Option (List V)
  | some (.tup xs) => some xs
  | some (.frz _ (.tup xs)) => some xs
  | _ => none
theorem lstO_lst {xs : List V} : lstO (some (.lst xs)) = some xs := rfl
theorem tupO_tup {xs : List V} : tupO (some (.tup xs)) = some xs := rfl
theorem sq_lstO {K : PySem.W.Frag} {H : Hp} {a : Addr} {xs : List V} (h : lstO (H a) = some xs) : SqL K H a xs := by
  unfold lstO at h
  split at h
  · rename_i e; cases h; exact .inl (.inl e)
  · rename_i e; cases h; exact .inl (.inr ⟨_, e⟩)
  · cases h
theorem sq_tupO {K : PySem.W.Frag} {H : Hp} {a : Addr} {xs : List V} (h : tupO (H a) = some xs) : SqT K H a xs := by
  unfold tupO at h
  split at h
  · rename_i e; cases h; exact .inl (.inl e)
  · rename_i e; cases h; exact .inl (.inr ⟨_, e⟩)
  · cases h
def rIxH : R2 := fun x y H Q => ∃ p xs i v, x = .ref p ∧ y = .int i ∧ lstO (H p) = some xs ∧ atI xs i = some v ∧ Q v H
theorem ix_lst {X : Cx} : IxR X rIxH := by
  intro value slice pins s σ H x y v u Q I rx ry h hs
  obtain ⟨p, xs, i, w', e1, e2, e3, e4, q⟩ := h
  exact ix_list value slice pins s σ H x y v u Q I rx ry ⟨p, xs, i, w', e1, e2, sq_lstO e3, e4, q⟩ hs
/-- an item at an open place in bounds: whatever holds of all items holds of it -/
theorem pick {xs : List V} {i : Int} {P : V → Prop} (h0 : 0 ≤ i) (h1 : i < xs.length) (h : ∀ v ∈ xs, P v) : ∃ v, atI xs i = some v ∧ P v := by
  have hlt : i.toNat < xs.length := by omega
  refine ⟨xs[i.toNat], ?_, h _ (List.getElem_mem hlt)⟩
  have e : atI xs ((i.toNat : Nat) : Int) = some xs[i.toNat] := atI_nat (by simp [hlt])
  rw [show ((i.toNat : Nat) : Int) = i by omega] at e
  exact e
theorem scal_ii {i j : Int} : scal (.int i) (.int j) = true := rfl
theorem scal_bb {i j : Bool} : scal (.bl i) (.bl j) = true := rfl
theorem scal_ss {i j : Str} : scal (.str i) (.str j) = true := rfl
theorem na10 : Int.natAbs 10 = 10 := rfl
theorem same_refl {H : Hp} : Same H H := fun _ _ h => h
theorem same_upd {H H' : Hp} {p : Addr} {o : HO} (s : Same H H') (h : H' p = none) : Same H (upd H' p o) := fun b u e => by
  have q := s b u e
  rw [upd_ne (ne_of_none q h)]
  exact q
end L2
namespace L2
open PySem PySem.Spec PyProof.Rows
end L2
namespace L2
open PySem PySem.Spec PyProof.Rows
/-! ### loops, their bodies standing still until a word is said -/
inductive HidF (g : TG) (tb : TS) : Type where
  | mk : HidF g tb
def Loop (g : TG) (tb : TS) (_ : HidF g tb) (J : It) : TS := fun D σ H => ∃ W : Nat → Nat → St → Hp → Prop, (∃ m, W 0 m σ H) ∧ ∀ i m σ H, W i m σ H →
  (J.stop i H ∧ D.nx σ H) ∨ (J.go i H ∧ ∃ N : St → Hp → Prop, (∀ σ' H', N σ' H' → ∃ m', m' < m ∧ W (i + 1) m' σ' H') ∧ ∀ x H', J.yld i H x H' → g x σ H' fun σ2 H2 => tb { D with nx := N, ct := N, bk := D.nx } σ2 H2)
def tForE (wi : TI) (g : TG) (tb : TS) (h : HidF g tb) : TS := fun D σ H => wi σ H fun J H1 => Loop g tb h J D σ H1
theorem ps_forE {X : Cx} {tg iter : Expr} {body : List Stmt} {wi : TI} {g : TG} {tb : TS} {pos : Pos} (hp : PassesOwn (model X.prog X.w) X.A X.env X.xe) (hc : X.calm = true) (hi : PI X tg iter wi) (hg : PG X tg g) (hb : PSs X body tb)
    (hs : ∀ x, foldedSetIterable iter X.env x = pure x := by intro _; rfl) : PS X (.For tg iter body [] pos) (tForE wi g tb .mk) := ps_for hp hc hi hg hb hs
theorem loop_range {lo : Int} {n : Nat} {g : TG} {tb : TS} {h : HidF g tb} {D : Ends} {σ : St} {H : Hp} (Pv : Nat → St → Hp → Prop) (h0 : Pv 0 σ H)
    (hs : ∀ i σ H, i < n → Pv i σ H → g (.int (lo + i)) σ H fun σ2 H2 => tb { D with nx := Pv (i + 1), ct := Pv (i + 1), bk := D.nx } σ2 H2) (hd : ∀ σ H, Pv n σ H → D.nx σ H) : Loop g tb h (Itr lo n) D σ H := for_range Pv h0 hs hd
theorem loop_list {K : PySem.W.Frag} {a : Addr} {xs : List V} {g : TG} {tb : TS} {h : HidF g tb} {D : Ends} {σ : St} {H : Hp} (Pv : Nat → St → Hp → Prop) (h0 : Pv 0 σ H) (hl : ∀ i σ H, i ≤ xs.length → Pv i σ H → SqL K H a xs)
    (hs : ∀ i x σ H, xs[i]? = some x → Pv i σ H → g x σ H fun σ2 H2 => tb { D with nx := Pv (i + 1), ct := Pv (i + 1), bk := D.nx } σ2 H2) (hd : ∀ σ H, Pv xs.length σ H → D.nx σ H) : Loop g tb h (Itl K a) D σ H := for_list Pv h0 hl hs hd
theorem loop_tup {K : PySem.W.Frag} {a : Addr} {xs : List V} {g : TG} {tb : TS} {h : HidF g tb} {D : Ends} {σ : St} {H : Hp} (Pv : Nat → St → Hp → Prop) (h0 : Pv 0 σ H) (hl : ∀ i σ H, i ≤ xs.length → Pv i σ H → SqT K H a xs)
    (hs : ∀ i x σ H, xs[i]? = some x → Pv i σ H → g x σ H fun σ2 H2 => tb { D with nx := Pv (i + 1), ct := Pv (i + 1), bk := D.nx } σ2 H2) (hd : ∀ σ H, Pv xs.length σ H → D.nx σ H) : Loop g tb h (Itt K a) D σ H := for_tup Pv h0 hl hs hd
/-- powers of two -/
def pw (n : Int) : Int := 2 ^ n.toNat
theorem pw_nat (n : Nat) : pw (n : Int) = 2 ^ n := by unfold pw; rw [Int.toNat_natCast]
theorem pw_succ (n : Nat) : pw ((n + 1 : Nat) : Int) = pw (n : Int) * 2 := by rw [pw_nat, pw_nat, Int.pow_succ]
theorem pw_pos (n : Int) : 1 ≤ pw n := by
  unfold pw
  generalize n.toNat = k
  induction k with
  | zero => decide
  | succ k ih => rw [Int.pow_succ]; omega
theorem pwN_le {n m : Nat} (h : n ≤ m) : pw (n : Int) ≤ pw (m : Int) := by
  induction m with
  | zero => have : n = 0 := by omega
            subst this; exact Int.le_refl _
  | succ k ih =>
    rcases (by omega : n ≤ k ∨ n = k + 1) with e | e
    · have := ih e; have := pw_pos k; rw [pw_succ]; omega
    · subst e; exact Int.le_refl _
theorem pw_le {n m : Int} (h : n ≤ m) (hm : 0 ≤ m) : pw n ≤ pw m := by
  have e1 : pw n = pw (n.toNat : Int) := by unfold pw; rw [Int.toNat_natCast]
  have e2 : pw m = pw (m.toNat : Int) := by unfold pw; rw [Int.toNat_natCast]
  rw [e1, e2]
  exact pwN_le (by omega)
theorem pw24 {n : Int} (h : n ≤ 24) : pw n ≤ 16777216 := pw_le (m := 24) h (by decide)
theorem pw8 {n : Int} (h : n ≤ 8) : pw n ≤ 256 := pw_le (m := 8) h (by decide)
theorem pw4 {n : Int} (h : n ≤ 4) : pw n ≤ 16 := pw_le (m := 4) h (by decide)
theorem mul_24 {x y : Int} (h1 : 2 ≤ x) (h2 : x ≤ 3) (h3 : 1 ≤ y) (h4 : y ≤ 8) : 2 ≤ x * y ∧ x * y ≤ 24 := by
  rcases (by omega : x = 2 ∨ x = 3) with e | e <;> subst e <;> omega
end L2
namespace L2
open PySem PySem.Spec PyProof.Rows
theorem lt_putF {f : Str} {v : V} {n : Nat} : ∀ {fs : List (Str × V)}, fs.length < n → (putF f v fs).length < n + 1
  | [], _ => by show 1 < n + 1; rename_i h; simp at h; omega
  | (g, x) :: r, h => by
    unfold putF
    split
    · exact Nat.lt_succ_of_lt h
    · cases n with
      | zero => exact absurd h (Nat.not_lt_zero _)
      | succ m => exact Nat.succ_lt_succ (lt_putF (Nat.lt_of_succ_lt_succ h))
end L2
namespace L2
open PySem PySem.Spec PyProof.Rows
theorem same_make {H : Hp} {x dx : Addr} {o : HO} (hx : H x = none) (hd : H dx = none) (hne : dx ≠ x) : Same H (upd (upd H dx (.own x)) x o) :=
  same_upd (same_upd same_refl hd) (by rw [upd_ne (Ne.symm hne)]; exact hx)
end L2
namespace L2
open PySem PySem.Spec PyProof.Rows
end L2
namespace L2
open PySem PySem.Spec PyProof.Rows
end L2
namespace L2
open PySem PySem.Spec PyProof.Rows
theorem isTy_tup {H : Hp} {a : Addr} {xs : List V} (h : H a = some (.tup xs)) : isTy "tuple" H (.ref a) = true := by
  unfold isTy
  rw [show kd H (.ref a) = kdO (H a) from rfl, h]; rfl
theorem isTy_lst {H : Hp} {a : Addr} {xs : List V} (h : H a = some (.lst xs)) : isTy "list" H (.ref a) = true := by
  unfold isTy
  rw [show kd H (.ref a) = kdO (H a) from rfl, h]; rfl
end L2
namespace L2
open PySem PySem.Spec PyProof.Rows
/-! ### try: .. except X as n: .. -/
section
variable {X : Cx} {pins pins2 : List (Addr × Obj)} {σ : St} {H : Hp} {s : Shared} {E' : Value → Shared → Prop}
theorem Cx.Ok.re {pn : List (Addr × Obj)} (ok : X.Ok) : ({ X with xe := E', pn := pn } : Cx).Ok :=
  ⟨ok.mod, ok.kind, ok.glob, ok.blt, ok.above, ok.inj, ok.has, ok.cab, ok.hd, ok.frames, ok.stk, ok.exf, ok.bs, ok.bsz, ok.noex, ok.exfs, ok.funs, ok.frf⟩
theorem Inv.re (I : Inv X pins σ H s) : Inv { X with xe := E', pn := X.pn ++ pins } [] σ H s :=
  ⟨I.ok.re, I.os, I.bare, I.base, I.loc, I.cell, I.free, I.freeC, fun p hp => I.pin p (by rw [List.append_nil] at hp; exact hp), I.hok, I.len⟩
theorem Inv.unre (ok : X.Ok) (I : Inv { X with xe := E', pn := X.pn ++ pins } pins2 σ H s) : Inv X pins σ H s :=
  ⟨ok, I.os, I.bare, I.base, I.loc, I.cell, I.free, I.freeC, fun p hp => I.pin p (List.mem_append_left _ hp), I.hok, I.len⟩
theorem Inv.marked {v : Option Value} (I : Inv X pins σ H s) : Inv { X with A := X.A.mark v, calm := false, xe := E' } pins σ H s :=
  ⟨⟨I.ok.mod, I.ok.kind, I.ok.glob, I.ok.blt, I.ok.above, I.ok.inj, I.ok.has, I.ok.cab, fun z => Bool.noConfusion z, I.ok.frames, I.ok.stk, I.ok.exf, I.ok.bs, I.ok.bsz, I.ok.noex, I.ok.exfs, I.ok.funs, I.ok.frf⟩,
    I.os, I.bare, I.base, I.loc, I.cell, I.free, I.freeC, I.pin, I.hok, I.len⟩
theorem Inv.unmarked {v : Option Value} (ok : X.Ok) (I : Inv { X with A := X.A.mark v, calm := false, xe := E' } pins σ H s) : Inv X pins σ H s :=
  ⟨ok, I.os, I.bare, I.base, I.loc, I.cell, I.free, I.freeC, I.pin, I.hok, I.len⟩
end
def tTryAs (K : PySem.W.Frag) (D : Addr) (i : Nat) (tb : XKs → TS) (to th : TS) : TS := fun Dn σ H =>
  tb (fun cls σ' H' => ∃ C, cls = .ref C ∧ XSub K C D ∧ ∀ ea, H' ea = none → th { nx := fun σ2 H2 => Dn.nx (σ2.set i none) H2, rt := Dn.rt, bk := fun σ2 H2 => Dn.bk (σ2.set i none) H2, ct := fun σ2 H2 => Dn.ct (σ2.set i none) H2 }
    (σ'.set i (some (.ref ea))) (upd H' ea (excO ea C))) { Dn with nx := to Dn } σ H
theorem ps_try_as {X : Cx} {i : Nat} {n x : Str} {D : Addr} {body orelse : List Stmt} {b₀ : Stmt} {suite : List Stmt} {np hpos pos : Pos} {tb : XKs → TS} {to th : TS}
    (hN : X.N.Nodup) (hi : X.N[i]? = some n) (hlo : X.env.kindOf n = some .local) (c : XH X.K X.mg x D)
    (hb : ∀ (E' : Value → Shared → Prop) (pn : List (Addr × Obj)) (Kx : XKs), PassesOwn (model X.prog X.w) X.A X.env E' → XW { X with xe := E', pn := pn } Kx → PSs { X with xe := E', pn := pn } body (tb Kx))
    (ho : PSs X orelse to) (hh : ∀ ea : Addr, PSs { X with A := X.A.mark (some (.ref ea)), calm := false, xe := fun _ _ => False } (b₀ :: suite) th)
    (hg : Gl X x := by rfl) (hst : X.stack = X.env :: X.outer := by rfl) (hfm : X.env.frame = some X.env.locals := by rfl) (hd : (x == ("__debug__" : Str)) = false := by decide) :
    PS X (.Try body [.ExceptHandler (some (.Name x np)) (some n) (b₀ :: suite) hpos] orelse [] pos) (tTryAs X.K D i tb to th) := by
  intro pins s σ H Dn I h
  refine wpAny_Try_except ?_
  have xw : XW { X with xe := (fun e s₁ => wpAny (model X.prog X.w) X.A (noteFrame e X.env) (fun _ s₂ => wpAny (model X.prog X.w) X.A (setFlight e none) (fun _ s₃ =>
      wpAny (model X.prog X.w) X.A (handleBy e X.env [.ExceptHandler (some (.Name x np)) (some n) (b₀ :: suite) hpos]) (SP X pins Dn) X.xe s₃) X.xe s₂) X.xe s₁), pn := X.pn ++ pins }
      (fun cls σ' H' => ∃ C, cls = .ref C ∧ XSub X.K C D ∧ ∀ ea, H' ea = none → th { nx := fun σ2 H2 => Dn.nx (σ2.set i none) H2, rt := Dn.rt, bk := fun σ2 H2 => Dn.bk (σ2.set i none) H2, ct := fun σ2 H2 => Dn.ct (σ2.set i none) H2 }
        (σ'.set i (some (.ref ea))) (upd H' ea (excO ea C))) := by
    intro pins2 σ2 H2 s2 s' ea cls H' B I2 os bare un hok fly hK
    obtain ⟨C, rfl, hsub, hK⟩ := hK
    have J2 : Inv X pins σ2 H2 s2 := I2.unre I.ok
    have J' : Inv X pins σ2 H' s' := J2.call' (s' := s') (ch := []) os un hok bare (fun b z => absurd z (by simp))
    have fly : Fly B X.stack s2.heap H2 H' s'.heap ea (.ref C) := fly
    obtain ⟨a0, hfl⟩ := id fly.fl
    have hfr := I.ok.frames
    rw [hst] at hfr hfl
    show wpAny (model X.prog X.w) X.A (noteFrame (.ref ea) X.env) _ X.xe s'
    refine wpAny_looks_onW hfr hfm hfl fun h4 held4 up4 => ?_
    refine wpAny_landsW held4 fun h5 fl5 up5 => ?_
    have J5 : Inv X pins σ2 H' { s' with heap := h5 } := Inv.flown J2 J' fly fl5.1 (up4.trans up5)
    obtain ⟨oe, vs5, hoe, hoc, hod, _⟩ := fl5.first
    refine wpAny_handleBy_cons (codeAny_handlers_test (ld_glob (X := { X with A := X.A.mark (some (.ref ea)), calm := false, xe := fun _ _ => False }) (J5.marked (v := some (.ref ea))) hg c.m ?_ hd)) (by intro q; cases q)
    refine exc_match (x := x) (mg := X.mg) J5.kIn c hsub hoe hoc ?_
    refine codeAny_handlers_suite_as ?_
    refine lands_againW fl5 fun h6 fl6 up6 => ?_
    have J6 : Inv X pins σ2 H' { s' with heap := h6 } := Inv.flown J2 J' fly fl6.1 ((up4.trans up5).trans up6)
    obtain ⟨o6, vs6, ho6, hc6, hd6, _⟩ := fl6.first
    have hne : H' ea = none := by
      cases z : H' ea with
      | none => rfl
      | some u =>
        obtain ⟨o, e⟩ := fly.trk ea u z
        rw [fl6.2.1] at e; cases e
    have nB : ∀ b o, B.get? b = some o → b ≠ ea := fun b o e z => by rw [z, fl6.2.1] at e; cases e
    have J7 : Inv X pins σ2 (upd H' ea (excO ea C)) { s' with heap := h6 } := by
      refine J6.track hne ?_ ?_ ?_ ?_ ?_
      · intro z
        obtain ⟨m, ⟨oL, es, ep, hoL, hdL, _⟩, _⟩ := J6.loc
        rw [← z] at hoL
        have e := ho6.symm.trans hoL
        cases e
        rw [hd6] at hdL; cases hdL
      · intro o e
        by_cases hx : ea ∈ X.ex
        · exact hx
        · exfalso
          by_cases hf : ea ∈ X.fs
          · obtain ⟨_, o', ho', hnf⟩ := J6.funs.mem hf
            have e := ho6.symm.trans ho'
            cases e
            exact hnf _ hd6
          · obtain ⟨o1, e1⟩ := J2.base.there ea o e hx
            have hl : ea ≠ X.env.locals := Nat.ne_of_lt (Nat.lt_of_lt_of_le (Heap.lt_size e) I.ok.above)
            obtain ⟨o2, e2⟩ := fly.alive ea o1 e1 fun z => by
              rcases List.mem_cons.mp (J2.stkSub ea z) with q | q
              · exact hl q
              · exact hf q
            exact nB ea o2 e2 rfl
      · intro x' c' e z
        obtain ⟨v, o, ho, hdc⟩ := J6.cell x' c' e
        rw [z] at ho
        have e := ho6.symm.trans ho
        cases e
        rw [hd6] at hdc; cases hdc
      · intro p hp
        obtain ⟨e, nn, ne, nfs, _⟩ := J2.pin p hp
        exact nB p.1 p.2 (fly.kept p.1 p.2 e nn fun z => by
          rcases List.mem_cons.mp (J2.stkSub p.1 z) with q | q
          · exact ne q
          · exact nfs q)
      · intro H0
        exact ⟨⟨o6, vs6, ho6, hc6, hd6⟩, ⟨o6, ho6⟩, fun h1 h2 ⟨o, vs, a1, a2, a3⟩ k => ⟨o, vs, k o a1, a2, a3⟩⟩
    refine store_ok J7 hN hi (Or.inl hlo) (v := .ref ea) rfl (fun s7 J8 => ?_) (.inr hlo)
    refine wpAny_mono (hh ea pins s7 _ _ _ (J8.marked (v := some (.ref ea))) (hK ea hne)) (fun f s8 hq => ?_) (fun _ _ z => z.elim)
    show wpAny (model X.prog X.w) X.A (do bindName X.env n .none; unbindBehindTheSuite X.env n hpos) (fun _ s₃ => SP X pins Dn f s₃) X.xe s8
    cases f with
    | next =>
      obtain ⟨σ', H2', I3, q⟩ := hq
      exact (I3.unmarked I.ok).nameGone hN hi hlo fun s9 I9 => ⟨_, H2', I9, q⟩
    | brk =>
      obtain ⟨σ', H2', I3, q⟩ := hq
      exact (I3.unmarked I.ok).nameGone hN hi hlo fun s9 I9 => ⟨_, H2', I9, q⟩
    | cont =>
      obtain ⟨σ', H2', I3, q⟩ := hq
      exact (I3.unmarked I.ok).nameGone hN hi hlo fun s9 I9 => ⟨_, H2', I9, q⟩
    | ret u =>
      obtain ⟨v, σ', H2', I3, r, q⟩ := hq
      exact (I3.unmarked I.ok).nameGone hN hi hlo fun s9 I9 => ⟨v, _, H2', I9, r, q⟩
  have q := hb _ (X.pn ++ pins) _ PassesOwn.looking xw [] s σ H { Dn with nx := to Dn } I.re h
  refine wpAny_mono q (fun f s1 hq => ?_) (fun e s1 hq => hq)
  cases f with
  | next =>
    obtain ⟨σ', H', I1, q1⟩ := hq
    exact ho pins s1 σ' H' Dn (I1.unre I.ok) q1
  | brk => obtain ⟨σ', H', I1, q1⟩ := hq; exact ⟨σ', H', I1.unre I.ok, q1⟩
  | cont => obtain ⟨σ', H', I1, q1⟩ := hq; exact ⟨σ', H', I1.unre I.ok, q1⟩
  | ret u => obtain ⟨v, σ', H', I1, r, q1⟩ := hq; exact ⟨v, σ', H', I1.unre I.ok, r, q1⟩
end L2
/-! ### isinstance of an exception that was caught -/
namespace PySem.W
open PySem PySem.Spec PySem.Calls PyProof.Rows
open Builtin Builtin.ObjectAttr Builtin.Getset_descriptor
/-- what is asked of an error class -/
structure XIs (K : Frag) (C : Addr) : Prop where
  g : findIn K (.ref C) "__getattribute__" = some (some (.builtin "BaseException.__getattribute__"))
  h : findIn K (.ref C) "__getattr__" = some none
  b : mroIn K C (.type "BaseException") = some true
  d : hasDictIn K C = true
  a : findIn K (.ref C) "__class__" = some (some (.builtin "object.__class__"))
  n : specialIn K (.builtin "object.__class__") "__get__" = some (some (.builtin "getset_descriptor.__get__"))
  t : takesIn K (.builtin "object.__class__") = some true
  m : mroIn K C (.type "object") = some true
/-- a record of this class stands at e -/
def ExcAt (e C : Addr) (h : Heap) : Prop := ∃ o, h.get? e = some o ∧ o.cls = .ref C
section
variable {K : Frag} {e C : Addr}
theorem ExcAt.ty {M : Model} {h : Heap} (p : ExcAt e C h) : Looks M h (typeOf (.ref e)) (.ref C) := by
  obtain ⟨o, h1, h2⟩ := p
  exact h2 ▸ (Looks.ld h1).andThen .now
theorem xcl {M : Model} {h : Heap} (hin : K.In h) (x : XIs K C) : Looks M h (isType (.ref C)) true := by
  obtain ⟨cd, hcd, _⟩ := any_some x.d
  unfold clsIn at hcd
  split at hcd
  · rename_i ho'
    intro A' Q' E' s' k q'
    unfold isType loadHead
    exact wpAny_bind (wpAny_loadPart (k _ _ (hin _ _ ho')) (wpAny_pure q'))
  · cases hcd
theorem xfind {M : Model} {h : Heap} (hin : K.In h) (x : XIs K C) : Looks M h (find (.ref e) (.ref C) "__class__") (.bind (.builtin "getset_descriptor.__get__") (.builtin "object.__class__")) := by
  have A1 := looks_findIn (M := M) hin x.a
  have A2 : Looks M h (getOf (some (.builtin "object.__class__"))) (some (.builtin "getset_descriptor.__get__")) := looks_specialIn hin x.n
  have A3 := looks_takesIn (M := M) hin x.t
  exact A1.andThen (A2.andThen ((show Looks M h (dataDescriptor? (some (.builtin "object.__class__")) (some (.builtin "getset_descriptor.__get__"))) (some _) from A3.andThen .now).andThen (Looks.tag .now)))
variable {prog : Program} {w : World} {A : Around} {E : Value → Shared → Prop} {s : Shared}
theorem xget {R : Result → Shared → Prop} {tp : Value} (hin : K.In s.heap) (p : ExcAt e C s.heap) (x : XIs K C) (h : R (.ok (.ret (.ref C))) s) :
    codeAny (model prog w) A (.call (.builtin "getset_descriptor.__get__") ⟨[.builtin "object.__class__", .ref e, tp], []⟩) R s := by
  obtain ⟨hh, g, dr, t, os⟩ := s
  have B0 := p.ty (M := model prog w)
  have B1 := looks_mroIn (M := model prog w) hin x.m
  refine codeAny_call_builtin KF.slot_gs.plain KF.entry_gs (KF.slot_gs.check _ _ _ _ _ _ _ _ KF.type_class (KF.args_gs _ _ _) ?_)
  unfold Builtin.«getset_descriptor.__get__» descrGet
  rw [dga_obj]
  refine wpAny_bind (wpAny_pure ?_)
  unfold descrGetter descrCheckInstance descrNameAndClass isInstance
  simp only [KF.owner_class]
  repeat lk
  refine ⟨Code.quiet_builtin _ (by decide +kernel), codeAny_builtin KF.entry_class ?_⟩
  unfold Builtin.«object.__class__» shownTypeOf
  repeat lk
  exact h
theorem xcheck {M : Model} {nameV : Value} {Q : Unit → Shared → Prop} (hin : K.In s.heap) (p : ExcAt e C s.heap) (x : XIs K C) (hq : Q () s) : wpAny M A (checkBuiltinCall "BaseException.__getattribute__" ⟨[.ref e, nameV], []⟩) Q E s := by
  have c1 : builtinKind "BaseException.__getattribute__" = some .slot := by decide +kernel
  have c2 : splitId "BaseException.__getattribute__" = some ("BaseException", "__getattribute__") := by decide +kernel
  have c3 := F.args_bexc_ga (.ref e) nameV
  obtain ⟨hh, g, d, t, os⟩ := s
  have B0 := p.ty (M := M)
  have B1 := looks_mroIn (M := M) hin x.b
  have B2 : Looks M hh (isInstance (.ref e) (.type "BaseException")) true := B0.andThen B1
  simp only [checkBuiltinCall, c1, c2]
  refine wpAny_bind (B2.at ?_)
  simp only [Bool.not_true, Bool.false_eq_true, if_false]
  exact wpAny_of_eq c3 hq
theorem xentry {tk : Tok} {Q : Fin → Shared → Prop} (hin : K.In s.heap) (p : ExcAt e C s.heap) (x : XIs K C) (hq : Q (.done (.ret (.ref C))) s) : wpAny (model prog w) A (Builtin.«object.__getattribute__» ⟨[.ref e, .str "__class__" tk], []⟩) Q E s := by
  obtain ⟨hh, g, d, t, os⟩ := s
  have B0 := p.ty (M := model prog w)
  have B2 := xfind (M := model prog w) (e := e) hin x
  unfold Builtin.«object.__getattribute__»
  refine wpAny_bind (wpAny_pure (a := (Value.ref e, [Value.str "__class__" tk])) ?_)
  refine wpAny_bind (wpAny_pure (a := ("__class__" : Str)) ?_)
  refine wpAny_bind (B0.at (wpAny_bind (B2.at ?_)))
  show wpAny _ _ (bindTo (Value.builtin "getset_descriptor.__get__") (Value.builtin "object.__class__") (Value.ref e) (Value.ref C)) _ _ _
  unfold bindTo
  dsimp only
  refine wpAny_bind (wpAny_holding (wpAny_call (xget (s := ⟨hh, g, d, t, os⟩) hin p x ?_)))
  exact wpAny_pure hq
theorem xca {Q : Option Value → Shared → Prop} (hin : K.In s.heap) (p : ExcAt e C s.heap) (x : XIs K C) (h : Q (some (.ref C)) { s with toks := s.toks + 1 }) : wpAny (model prog w) A (getAttr? (.ref e) "__class__") Q E s := by
  obtain ⟨hh, g, d, t, os⟩ := s
  have B0 := p.ty (M := model prog w)
  have B1 := looks_findIn (M := model prog w) hin x.g
  have B3 := looks_findIn (M := model prog w) hin x.h
  unfold getAttr? getAttrBy? getAttrBy
  refine wpAny_bind (wpAny_mkText (wpAny_bind (wpAny_attempt (wpAny_holding (wpAny_bind (B0.at (wpAny_bind (B1.at ?_))))))))
  have c2 : (Value.builtin "BaseException.__getattribute__" == Value.builtin "object.__getattribute__") = false := by decide +kernel
  simp only [c2, Bool.and_false, Bool.false_eq_true, if_false]
  unfold getAttrByItsOwn hookBefore
  rw [if_pos (show onTheHeap (Value.ref C) = true from rfl)]
  refine wpAny_bind (B3.at (wpAny_bind (wpAny_attempt (wpAny_holding ?_))))
  unfold callGetattribute boundAndCalled
  simp only [Bool.false_and, Bool.false_eq_true, if_false]
  refine wpAny_bind (wpAny_of_eq (PySem.F.attr_ValueError.ga.bind (.ref e)) ?_)
  refine wpAny_call (codeAny_call_builtin PySem.F.attr_ValueError.ga.plain F.entry_bexc_ga (xcheck (s := ⟨hh, g, d, t + 1, os⟩) hin p x (xentry (s := ⟨hh, g, d, t + 1, os⟩) hin p x ?_)))
  exact handed_on rfl (wpAny_pure h)
theorem kitx_exc (x : XIs K C) : KitX K (.ref e) (.ref C) (ExcAt e C) where
  ty := fun _ _ _ p => p.ty
  it := fun _ _ hin _ => xcl hin x
  ne := fun h tp dd its n sl hin htp => by
    refine Bool.eq_false_iff.mpr fun q => ?_
    obtain ⟨cd, hcd, _⟩ := any_some x.d
    have e1 : C = tp := Value.ref.inj (beq_iff_eq.mp q)
    rw [← e1] at htp
    unfold clsIn at hcd
    split at hcd
    · rename_i ho'
      have z := (hin _ _ ho').symm.trans htp
      cases z
    · cases hcd
  ca := fun hin p k => xca hin p x k
end
end PySem.W
namespace L2
open PySem PySem.Spec PyProof.Rows
abbrev XI (K : PySem.W.Frag) (C : Addr) : Prop := PySem.W.XIs K C
def clsV : V → Value
  | .ref a => .ref a
  | .ty n => .type n
  | _ => .none
theorem clsV_ref {a : Addr} : clsV (.ref a) = .ref a := rfl
theorem clsV_ty {n : String} : clsV (.ty n) = .type n := rfl
theorem excAt {X : Cx} {pins : List (Addr × Obj)} {σ : St} {H : Hp} {s : Shared} {a C : Addr} (I : Inv X pins σ H s) (e : H a = some (excO a C)) : PySem.W.ExcAt a C s.heap := by
  obtain ⟨⟨o, vs, h1, h2, _⟩, _⟩ := (show ObjOk X.prog X.w H s.heap a (excO a C) from I.hok a _ e)
  exact ⟨o, h1, h2⟩
/-- isinstance of an exception that was caught: with a class, with a tuple of classes -/
theorem call_isxC {X : Cx} {K : PySem.W.Frag} (hK : X.K = K := by rfl) : CallR X (.builtin "isinstance") (fun xs H Q => ∃ a y C b, xs = [.ref a, y] ∧ H a = some (excO a C) ∧ XI K C ∧ PySem.W.kitOne K (.ref C) (clsV y) = some b ∧ Q (.bl b) H) := by
  subst hK
  intro pins s σ H xs us Q I r h
  obtain ⟨a, y, C, b, rfl, e, x, k, q⟩ := h
  cases r with
  | cons r1 rr =>
    cases rr with
    | cons r2 rr =>
      cases rr
      cases r1
      have c2 : ∀ u, RelV y u → PySem.W.kitOne X.K (.ref C) (clsV y) = some b → PySem.W.kitOne X.K (.ref C) u = some b := fun u ru k => by
        cases y with
        | ref a => cases ru; exact k
        | ty n => cases ru; exact k
        | _ => exact absurd k (by unfold clsV PySem.W.kitOne PySem.W.kitCls; simp)
      exact PySem.W.kia_one (PySem.W.kitx_exc x) I.kIn (excAt I e) (c2 _ r2 k) (fun z => nomatch z) fun tk => ⟨.bl b, H, I.tok tk, rfl, q⟩
theorem clsV_rel : ∀ {cs : List V} {its : List Value}, Vals cs its → (∀ y ∈ cs, (∃ a, y = .ref a) ∨ ∃ n, y = .ty n) → its = cs.map clsV
  | _, _, .nil, _ => rfl
  | y :: cs, u :: us, .cons r t, h => by
    have e := clsV_rel t fun z hz => h z (List.mem_cons_of_mem _ hz)
    rcases h y (List.mem_cons_self ..) with ⟨a, rfl⟩ | ⟨n, rfl⟩
    · cases r; rw [e]; rfl
    · cases r; rw [e]; rfl
theorem call_isxT {X : Cx} {K : PySem.W.Frag} (hK : X.K = K := by rfl) : CallR X (.builtin "isinstance") (fun xs H Q => ∃ a p cs C b, xs = [.ref a, .ref p] ∧ H a = some (excO a C) ∧ XI K C ∧ tupO (H p) = some cs ∧ (∀ y ∈ cs, (∃ a, y = .ref a) ∨ ∃ n, y = .ty n) ∧ PySem.W.kitAny K (.ref C) (cs.map clsV) = some b ∧ Q (.bl b) H) := by
  subst hK
  intro pins s σ H xs us Q I r h
  obtain ⟨a, p, cs, C, b, rfl, e, x, ht, hc, k, q⟩ := h
  cases r with
  | cons r1 rr =>
    cases rr with
    | cons r2 rr =>
      cases rr
      cases r1
      cases r2
      obtain ⟨its, rv, ⟨o, ho, hcl, n, hd⟩, _⟩ := I.tuple (sq_tupO (K := X.K) ht)
      obtain ⟨oc, odd, oda, osl⟩ := o
      have hcl : oc = .type "tuple" := hcl
      have hd : oda = .seq its.toArray n := hd
      subst hcl hd
      rw [← clsV_rel rv hc] at k
      exact PySem.W.kia_tup (PySem.W.kitx_exc x) I.kIn (excAt I e) ho k (fun z => nomatch z) fun tk => ⟨.bl b, H, I.tok tk, rfl, q⟩
end L2
namespace L2
open PySem PySem.Spec PyProof.Rows
/-! ### data seen through the heap; == at any depth -/
/-- data: a flat value, a list (false) or a tuple (true) of data -/
inductive Dv where
  | leaf (v : V)
  | seq (t : Bool) (ds : List Dv)
mutual
def Sees (K : PySem.W.Frag) (H : Hp) : Dv → V → Prop
  | .leaf v, x => x = v ∧ flatV v = true
  | .seq t ds, x => ∃ a xs, x = .ref a ∧ (if t = true then SqT K H a xs else SqL K H a xs) ∧ SeesL K H ds xs
def SeesL (K : PySem.W.Frag) (H : Hp) : List Dv → List V → Prop
  | [], xs => xs = []
  | d :: ds, xs => ∃ x r, xs = x :: r ∧ Sees K H d x ∧ SeesL K H ds r
end
mutual
def deep : Dv → Nat
  | .leaf _ => 0
  | .seq _ ds => deepL ds + 1
def deepL : List Dv → Nat
  | [] => 0
  | d :: ds => max (deep d) (deepL ds)
end
theorem SeesL.length {K : PySem.W.Frag} {H : Hp} : ∀ {ds : List Dv} {xs : List V}, SeesL K H ds xs → ds.length = xs.length
  | [], xs, h => by unfold SeesL at h; subst h; rfl
  | d :: ds, xs, h => by
    unfold SeesL at h
    obtain ⟨x, r, rfl, _, h⟩ := h
    simp [h.length]
theorem SeesL.get {K : PySem.W.Frag} {H : Hp} : ∀ {ds : List Dv} {xs : List V} {j : Nat} {d : Dv}, SeesL K H ds xs → ds[j]? = some d → ∃ x, xs[j]? = some x ∧ Sees K H d x
  | [], xs, j, d, h, e => by simp at e
  | d' :: ds, xs, 0, d, h, e => by
    unfold SeesL at h
    obtain ⟨x, r, rfl, hx, h⟩ := h
    simp at e; subst e
    exact ⟨x, rfl, hx⟩
  | d' :: ds, xs, j + 1, d, h, e => by
    unfold SeesL at h
    obtain ⟨x, r, rfl, hx, h⟩ := h
    obtain ⟨y, e1, e2⟩ := SeesL.get (j := j) h (by simpa using e)
    exact ⟨y, by simpa using e1, e2⟩
end L2
namespace L2
open PySem PySem.Spec PyProof.Rows
/-! ### list comprehensions -/
/-- what a comprehension's scope must be, over the env that it stands in; x: its name, fs: the names that it takes from around -/
def compChk (sc : Scope) (env : Env) (x : Str) (fs : List Str) : Bool :=
  sc.kind == .function && sc.names.all (fun y => y.2 != .cell && (y.2 != .local || sc.names.lookup y.1 == some .local) && (y.2 != .free || env.kindOf y.1 == some .cell || env.kindOf y.1 == some .free)) &&
    sc.names.lookup x == some .local && fs.all (fun f => sc.names.lookup f == some .free)
structure CompSc (sc : Scope) (env : Env) (x : Str) (fs : List Str) : Prop where
  kind : sc.kind = .function
  nocell : ∀ y ∈ sc.names, y.2 ≠ .cell
  own : ∀ y ∈ sc.names, y.2 = .local → sc.names.lookup y.1 = some .local
  fr : ∀ y ∈ sc.names, y.2 = .free → env.kindOf y.1 = some .cell ∨ env.kindOf y.1 = some .free
  x : sc.names.lookup x = some .local
  fs : ∀ f ∈ fs, sc.names.lookup f = some .free
theorem CompSc.of {sc : Scope} {env : Env} {x : Str} {fs : List Str} (h : compChk sc env x fs = true) : CompSc sc env x fs := by
  unfold compChk at h
  simp only [Bool.and_eq_true, beq_iff_eq, List.all_eq_true, Bool.or_eq_true, bne_iff_ne, ne_eq] at h
  obtain ⟨⟨⟨h1, h2⟩, h3⟩, h4⟩ := h
  refine ⟨h1, fun y hy => (h2 y hy).1.1, fun y hy e => ?_, fun y hy e => ?_, h3, h4⟩
  · rcases (h2 y hy).1.2 with z | z
    · exact absurd e z
    · exact z
  · rcases (h2 y hy).2 with (z | z) | z
    · exact absurd e z
    · exact .inl z
    · exact .inr z
theorem closure_ex {env : Env} : ∀ (names : List (Str × NameKind)) (acc : List (Str × Addr)), (∀ n, (n, NameKind.free) ∈ names → ∃ c, env.cells.lookup n = some c) →
    ∃ cl, (forIn names acc fun y r => (do if (y.2 == NameKind.free) = true then do let c ← cellOf env y.1; pure (ForInStep.yield ((y.1, c) :: r)) else pure (ForInStep.yield r) : Sem (ForInStep (List (Str × Addr))))) = pure cl ∧
      (∀ n c, cl.lookup n = some c → acc.lookup n = some c ∨ env.cells.lookup n = some c) ∧ ∀ n, (∃ c, acc.lookup n = some c) ∨ (n, NameKind.free) ∈ names → ∃ c, cl.lookup n = some c
  | [], acc, _ => ⟨acc, rfl, fun _ _ e => .inl e, fun n h => h.elim id fun z => nomatch z⟩
  | (n, k) :: r, acc, h => by
    have hr : ∀ m, (m, NameKind.free) ∈ r → ∃ c, env.cells.lookup m = some c := fun m hm => h m (List.mem_cons_of_mem _ hm)
    by_cases hk : k = .free
    · subst hk
      obtain ⟨c, hc⟩ := h n List.mem_cons_self
      obtain ⟨cl, e, h1, h2⟩ := closure_ex r ((n, c) :: acc) hr
      refine ⟨cl, ?_, fun m c' hm => ?_, fun m hm => h2 m ?_⟩
      · rw [List.forIn_cons]
        simp only [beq_self_eq_true, if_true, cellOf, hc, pure_bind]
        exact e
      · rcases h1 m c' hm with z | z
        · rw [List.lookup_cons] at z
          cases q : m == n with
          | true =>
            rw [q] at z
            cases z
            rw [beq_iff_eq.mp q]
            exact .inr hc
          | false => rw [q] at z; exact .inl z
        · exact .inr z
      · rw [List.lookup_cons]
        rcases hm with ⟨c', z⟩ | hm
        · cases q : m == n with
          | true => exact .inl ⟨c, rfl⟩
          | false => exact .inl ⟨c', z⟩
        · rcases List.mem_cons.mp hm with z | z
          · cases z
            rw [beq_self_eq_true]
            exact .inl ⟨c, rfl⟩
          · exact .inr z
    · obtain ⟨cl, e, h1, h2⟩ := closure_ex r acc hr
      refine ⟨cl, ?_, h1, fun m hm => h2 m ?_⟩
      · rw [List.forIn_cons]
        have hb : (k == NameKind.free) = false := by simpa using hk
        simp only [hb, Bool.false_eq_true, if_false, pure_bind]
        exact e
      · rcases hm with z | hm
        · exact .inl z
        · rcases List.mem_cons.mp hm with z | z
          · cases z; exact absurd rfl hk
          · exact .inr z
theorem closure_of {env : Env} {sc : Scope} (h : ∀ n, (n, NameKind.free) ∈ sc.names → ∃ c, env.cells.lookup n = some c) :
    ∃ cl, closureFor sc env = pure cl ∧ (∀ n c, cl.lookup n = some c → env.cells.lookup n = some c) ∧ ∀ n, (n, NameKind.free) ∈ sc.names → ∃ c, cl.lookup n = some c := by
  obtain ⟨cl, e, h1, h2⟩ := closure_ex sc.names [] h
  refine ⟨cl, ?_, fun n c z => (h1 n c z).elim (fun q => nomatch q) id, fun n hn => h2 n (.inr hn)⟩
  unfold closureFor
  simp only [bind_pure]
  exact e
theorem relabel_kind {env : Env} : ∀ {names : List (Str × NameKind)} {x : Str} {k : NameKind}, (names.map fun (n, k) => if (k == NameKind.free && env.scope.kind == .function && env.kindOf n == some .cell) then (n, NameKind.cell) else (n, k)).lookup x = some k →
    k = .cell ∨ k = .free → names.lookup x = some .free ∨ names.lookup x = some .cell
  | [], _, _, h, _ => by simp at h
  | (n, k0) :: r, x, k, h, hk => by
    have ih := @relabel_kind env r x k
    have h : List.lookup x ((if (k0 == NameKind.free && env.scope.kind == .function && env.kindOf n == some .cell) = true then (n, NameKind.cell) else (n, k0)) :: (r.map fun (n, k) => if (k == NameKind.free && env.scope.kind == .function && env.kindOf n == some .cell) then (n, NameKind.cell) else (n, k))) = some k := h
    by_cases hc : (k0 == NameKind.free && env.scope.kind == .function && env.kindOf n == some .cell) = true
    · rw [if_pos hc] at h
      simp only [List.lookup_cons] at h ⊢
      cases hx : x == n with
      | true =>
        simp only [Bool.and_eq_true, beq_iff_eq] at hc
        rw [hc.1.1]
        exact .inl rfl
      | false => rw [hx] at h; exact ih h hk
    · rw [if_neg hc] at h
      simp only [List.lookup_cons] at h ⊢
      cases hx : x == n with
      | true =>
        rw [hx] at h
        cases h
        rcases hk with rfl | rfl
        · exact .inr rfl
        · exact .inl rfl
      | false => rw [hx] at h; exact ih h hk
theorem relabel_free {env : Env} : ∀ {names : List (Str × NameKind)} {x : Str}, names.lookup x = some .free →
    (names.map fun (n, k) => if (k == NameKind.free && env.scope.kind == .function && env.kindOf n == some .cell) then (n, NameKind.cell) else (n, k)).lookup x = some .cell ∨ (names.map fun (n, k) => if (k == NameKind.free && env.scope.kind == .function && env.kindOf n == some .cell) then (n, NameKind.cell) else (n, k)).lookup x = some .free
  | [], _, h => by simp at h
  | (n, k0) :: r, x, h => by
    have ih := @relabel_free env r x
    show List.lookup x ((if (k0 == NameKind.free && env.scope.kind == .function && env.kindOf n == some .cell) = true then (n, NameKind.cell) else (n, k0)) :: _) = _ ∨ List.lookup x ((if (k0 == NameKind.free && env.scope.kind == .function && env.kindOf n == some .cell) = true then (n, NameKind.cell) else (n, k0)) :: _) = _
    simp only [List.lookup_cons] at h
    by_cases hc : (k0 == NameKind.free && env.scope.kind == .function && env.kindOf n == some .cell) = true
    · rw [if_pos hc]
      simp only [List.lookup_cons]
      cases hx : x == n with
      | true => exact .inl rfl
      | false => rw [hx] at h; exact ih h
    · rw [if_neg hc]
      simp only [List.lookup_cons]
      cases hx : x == n with
      | true => rw [hx] at h; exact .inr h
      | false => rw [hx] at h; exact ih h
/-- the block's context -/
def cxComp (X : Cx) (scope : Scope) (cl : List (Str × Addr)) (C : Addr) (N : List Str) (s₀ : Shared) (H₀ : Hp) (fp : List Addr) (xe : Value → Shared → Prop) : Cx :=
  { X with N := N, s₀ := s₀, H₀ := H₀, env := compEnvC scope cl C X.env, outer := X.stack, stack := X.stack, ex := fp, fn := fun _ => false, pn := [], xe := xe }
theorem xw_no {X : Cx} : XW X (fun _ _ _ => False) := fun _ _ _ _ _ _ _ _ _ _ _ _ _ _ _ h => h.elim
inductive HidC (g : TG) (tt : TT) (te : TE) : Type where
  | mk : HidC g tt te
/-- the tests of a clause: none, or one -/
def PF (X : Cx) (ifs : List Expr) (tt : TT) : Prop :=
  ∀ (pins : List (Addr × Obj)) (s : Shared) (σ : St) (H : Hp) (Q : Bool → Hp → Prop), Inv X pins σ H s → tt σ H Q →
    wpAny (model X.prog X.w) X.A (forIn ifs true fun c r => if r = true then do let ok ← isTrue c X.env (eval c X.env); pure (ForInStep.yield ok) else pure (ForInStep.yield r)) (TP X pins σ Q) X.xe s
def tYes : TT := fun _ H Q => Q true H
theorem pf_nil {X : Cx} : PF X [] tYes := fun _ _ _ H _ I h => by
  simp only [List.forIn_nil]
  exact wpAny_pure ⟨H, I, h⟩
/-- the reading of the block: D is the new list -/
def Comp (g : TG) (tt : TT) (te : TE) (_ : HidC g tt te) (J : It) (σ0 : St) (D : Addr) (Q : Hp → Prop) (H : Hp) : Prop :=
  ∃ W : Nat → Nat → List V → St → Hp → Prop, (∃ m, W 0 m [] σ0 (upd H D (.lst []))) ∧ ∀ i m ys σ H, W i m ys σ H →
    (J.stop i H ∧ Q H) ∨ (J.go i H ∧ ∃ N : List V → St → Hp → Prop, (∀ ys σ H, N ys σ H → ∃ m', m' < m ∧ W (i + 1) m' ys σ H) ∧
      ∀ y H', J.yld i H y H' → g y σ H' fun σ2 H2 => tt σ2 H2 fun b H2' => if b = true then te σ2 H2' fun v H3 => H3 D = some (.lst ys) ∧ ys.length < sizeLine ∧ N (ys ++ [v]) σ2 (upd H3 D (.lst (ys ++ [v]))) else N ys σ2 H2')
def tComp (wi : TI) (ix : List Nat) (g : TG) (tt : TT) (te : TE) (h : HidC g tt te) : TE := fun σ H Q => wi σ H fun J H1 => ∀ D, H1 D = none → Comp g tt te h J (none :: ix.map fun i => (σ[i]?).join) D (fun H' => Q (.ref D) H') H1
theorem comp_list {K : PySem.W.Frag} {a : Addr} {xs : List V} {g : TG} {tt : TT} {te : TE} {h : HidC g tt te} {σ0 : St} {D : Addr} {Q : Hp → Prop} {H : Hp} (Pv : Nat → List V → St → Hp → Prop) (h0 : Pv 0 [] σ0 (upd H D (.lst []))) (hl : ∀ i ys σ H, i ≤ xs.length → Pv i ys σ H → SqL K H a xs)
    (hs : ∀ i x ys σ H, xs[i]? = some x → Pv i ys σ H → g x σ H fun σ2 H2 => tt σ2 H2 fun b H2' => if b = true then te σ2 H2' fun v H3 => H3 D = some (.lst ys) ∧ ys.length < sizeLine ∧ Pv (i + 1) (ys ++ [v]) σ2 (upd H3 D (.lst (ys ++ [v]))) else Pv (i + 1) ys σ2 H2') (hd : ∀ ys σ H, Pv xs.length ys σ H → Q H) :
    Comp g tt te h (Itl K a) σ0 D Q H := by
  refine ⟨fun i m ys σ H => i + m = xs.length ∧ Pv i ys σ H, ⟨xs.length, Nat.zero_add _, h0⟩, fun i m ys σ H ⟨e, p⟩ => ?_⟩
  have hq := hl i ys σ H (by omega) p
  by_cases hi : i < xs.length
  · have ex : xs[i]? = some xs[i] := List.getElem?_eq_getElem hi
    refine .inr ⟨⟨xs, _, hq, ex⟩, Pv (i + 1), fun ys σ H q => ⟨m - 1, by omega, by omega, q⟩, ?_⟩
    rintro y H' ⟨rfl, hy⟩
    exact hs i y ys σ H' (hy xs hq) p
  · have e' : i = xs.length := by omega
    subst e'
    exact .inl ⟨⟨xs, hq, Nat.le_refl _⟩, hd ys σ H p⟩
/-- one turn of the block, whatever the target is -/
theorem compLoop_turn {prog : Program} {w : World} {A : Around} {R : Result → Shared → Prop} {s : Shared} {elt target iter : Expr} {ifs : List Expr} {scope : Scope} {pos : Pos} {it acc : Value} {env : Env} (I : Nat → Shared → Prop)
    (turn : ∀ n s, I n s → wpAny (model prog w) A (pyNext it) (fun r s₁ => match r with
      | none => R (.ok .next) s₁
      | some v => wpAny (model prog w) A (letOwnedTupleGo target it v) (fun _ s₁' => wpAny (model prog w) A (assign target env v) (fun _ s₂ =>
          wpAny (model prog w) A (forIn ifs true fun c r => if r = true then do let ok ← isTrue c env (eval c env); pure (ForInStep.yield ok) else pure (ForInStep.yield r)) (fun ok s₃ =>
            if ok = true then wpAny (model prog w) A (eval elt env) (fun x s₄ =>
              wpAny (model prog w) A (call (.builtin "list.append") [acc, x]) (fun _ s₅ => ∃ m, m < n ∧ I m s₅) (notedBy (model prog w) A env fun e s' => R (.error e) s') s₄) (notedBy (model prog w) A env fun e s' => R (.error e) s') s₃
            else ∃ m, m < n ∧ I m s₃) (notedBy (model prog w) A env fun e s' => R (.error e) s') s₂) (notedBy (model prog w) A env fun e s' => R (.error e) s') s₁') (notedBy (model prog w) A env fun e s' => R (.error e) s') s₁) (notedBy (model prog w) A env fun e s' => R (.error e) s') s)
    (n : Nat) (h : I n s) : codeAny (model prog w) A (.compLoop (.ListComp elt [⟨target, iter, ifs, 0⟩] scope pos) 0 it acc env) R s := by
  refine codeAny_loop rfl I (fun n s hI => ?_) n h
  show wpAny _ _ ((compTurn (.ListComp elt [⟨target, iter, ifs, 0⟩] scope pos) 0 it acc env).onRaise (fun x => do noteFrame x env; theTreesLotGoes x)) _ _ s
  refine wpAny_noted ?_
  rw [compTurn_list]
  refine wpAny_bind (wpAny_standAt (wpAny_bind (wpAny_mono (turn n s hI) (fun r s₁ h₁ => ?_) fun _ _ h' => h')))
  cases r with
  | none => exact wpAny_pure h₁
  | some v =>
    refine wpAny_bind (wpAny_mono h₁ (fun _ s₁' h₁' => ?_) fun _ _ h' => h')
    refine wpAny_bind (wpAny_mono h₁' (fun _ s₂ h₂ => wpAny_bind (wpAny_mono h₂ (fun ok s₃ h₃ => ?_) fun _ _ h' => h')) fun _ _ h' => h')
    cases ok with
    | false => exact wpAny_pure ⟨rfl, h₃⟩
    | true =>
      exact wpAny_bind (wpAny_bind (wpAny_mono h₃ (fun x s₄ h₄ => wpAny_bind (wpAny_mono h₄ (fun _ s₅ h₅ => wpAny_pure (wpAny_pure ⟨rfl, h₅⟩)) fun _ _ h' => h')) fun _ _ h' => h'))
section
variable {X : Cx}
theorem comp_block {pins : List (Addr × Obj)} {σ : St} {H2 : Hp} {s2 : Shared} {it : Addr} {fp : List Addr} {tn : Nat → Heap → Prop} {J : It} {tg iter elt : Expr} {ifs : List Expr} {scope : Scope} {cl : List (Str × Addr)} {pos : Pos} {x : Str} {fs : List Str} {ix : List Nat} {g : TG} {tt : TT} {te : TE}
    {Qf : Addr → Hp → Prop} {E : Value → Shared → Prop} {RR : Value → Addr → Result → Shared → Prop}
    (I2 : Inv X pins σ H2 s2) (T : Turn X.prog X.w X.K tg J fp it tn) (st2 : tn 0 s2.heap) (f2 : ∀ b ∈ fp, FpOk X pins H2 b) (hc : X.calm = true) (S : CompSc scope X.env x fs)
    (c1 : ∀ n c, cl.lookup n = some c → X.env.cells.lookup n = some c) (c2 : ∀ n, (n, NameKind.free) ∈ scope.names → ∃ c, cl.lookup n = some c) (hix : ix.map (X.N[·]?) = fs.map some)
    (hg : ∀ C s₀ H₀ xe, PG (cxComp X scope cl C (x :: fs) s₀ H₀ fp xe) tg g) (hf : ∀ C s₀ H₀ xe, PF (cxComp X scope cl C (x :: fs) s₀ H₀ fp xe) ifs tt) (he : ∀ C s₀ H₀ xe, PE (cxComp X scope cl C (x :: fs) s₀ H₀ fp xe) elt te)
    (h : ∀ D, H2 D = none → Comp g tt te .mk J (none :: ix.map fun i => (σ[i]?).join) D (Qf D) H2)
    (fin : ∀ D C H' s', Inv X pins σ H' s' → Qf D H' → (∃ m, s'.heap.Ns C m) → FpOk X pins H' C → RR (.ref D) C (.ok .next) s') :
    wpAny (model X.prog X.w) X.A (newList []) (fun acc s₃ => wpAny (model X.prog X.w) X.A (newFunctionEnv scope X.env.globals cl [] X.env.qual none .none (some X.env)) (fun cenv s₄ =>
      codeAny (model X.prog X.w) X.A (.compStart (.ListComp elt [⟨tg, iter, ifs, 0⟩] scope pos) 0 (.ref it) acc { cenv with scope := relabel scope X.env }) (RR acc cenv.locals) s₄) E s₃) E s2 := by
  have hD : H2 s2.heap.objs.size = none := I2.hok.fresh (Nat.le_refl _)
  obtain ⟨W, ⟨m0, w0⟩, turn⟩ := h _ hD
  refine wpAny_newObj_type (wpAny_newFunctionEnv S.nocell (by intro y hy; simp at hy) (fun h₁ hns₁ hsb₁ => ?_) S.kind)
  have I3 : Inv X pins σ (upd H2 s2.heap.objs.size (.lst [])) { s2 with heap := s2.heap.push { cls := .type "list", dict := none, data := .seq ([] : List Value).toArray } } :=
    I2.laid (t' := s2.toks) (fun b u e => Heap.get?_push_of_some _ e) (Nat.le_refl _) ⟨by decide, [], 0, .nil, Heap.get?_push_size _ rfl⟩
  obtain ⟨e3, he3⟩ : ∃ s3 : Shared, s3 = { s2 with heap := s2.heap.push { cls := .type "list", dict := none, data := .seq ([] : List Value).toArray } } := ⟨_, rfl⟩
  rw [← he3] at I3
  have hh3 : s2.heap.push { cls := .type "list", dict := none, data := .seq ([] : List Value).toArray } = e3.heap := by rw [he3]
  have sz3 : e3.heap.objs.size = s2.heap.objs.size + 1 := by rw [← hh3, Heap.size_push]
  dsimp only at hns₁ hsb₁ ⊢
  rw [hh3] at hns₁ hsb₁ ⊢
  generalize hH3 : upd H2 s2.heap.objs.size (.lst []) = H3 at *
  -- the iterator's objects: older than the list
  have live : ∀ b ∈ fp, b < s2.heap.objs.size := fun b hb => let ⟨_, e, _⟩ := T.obj _ _ st2 b hb; Heap.lt_size e
  have f3 : ∀ b ∈ fp, FpOk X pins H3 b := fun b hb => by
    refine ⟨?_, (f2 b hb).2⟩
    rw [← hH3, upd_ne (Nat.ne_of_lt (live b hb))]
    exact (f2 b hb).1
  have C0 : FpOk X pins H3 e3.heap.objs.size := I3.fpOk (Nat.le_refl _) (I3.hok.fresh (Nat.le_refl _))
  have old3 : ∀ b o, e3.heap.get? b = some o → h₁.get? b = some o := fun b o e => hsb₁.extBut b o (Nat.ne_of_lt (Heap.lt_size e)) (Heap.get?_push_of_some _ e)
  have nofs : ∀ b ∈ fp, b ∉ frs X.stack := fun b hb z => (List.mem_cons.mp (I3.stkSub b z)).elim (f3 b hb).2.1 (f3 b hb).2.2.1
  have hst1 : tn 0 h₁ := T.keep _ _ _ st2 fun b _ o e => old3 b o (by rw [← hh3]; exact Heap.get?_push_of_some _ e)
  have e0 := I3.env0
  have ok : ∀ xe, (cxComp X scope cl e3.heap.objs.size (x :: fs) e3 H3 fp xe).Ok := fun xe => by
    refine ⟨I3.ok.mod, S.kind, I3.ok.glob, I3.ok.blt, Nat.le_refl _, fun y z c h1 h2 => I3.ok.inj y z c (c1 _ _ h1) (c1 _ _ h2), fun y hy => ?_, fun y c z => ?_, I3.ok.hd, I3.ok.frames, .inl rfl, fun b hb => ⟨?_, fun y c e => (f3 b hb).2.2.2.2.1 y c (c1 _ _ e)⟩, e0.bs, e0.bsz, fun b o e hb => ?_, nofs, e0.funs, e0.frf⟩
    · have q : scope.names.lookup y = some .free ∨ scope.names.lookup y = some .cell := by
        rcases hy with hy | hy
        · exact relabel_kind hy (.inl rfl)
        · exact relabel_kind hy (.inr rfl)
      rcases q with q | q
      · exact c2 y (PySem.mem_of_lookup q)
      · exact absurd rfl (S.nocell _ (PySem.mem_of_lookup q))
    · cases z
    · exact Nat.ne_of_lt (Nat.lt_of_lt_of_le (live b hb) (by rw [sz3]; exact Nat.le_succ _))
    · rcases (f3 b hb).2.2.2.1 with z | z
      · exact I3.ok.noex b o e z
      · exact absurd (Nat.lt_of_lt_of_le (Heap.lt_size e) (Nat.le_trans I3.ok.bsz z)) (Nat.lt_irrefl _)
  have cellUp : ∀ c v, e3.heap.IsCell c v → h₁.IsCell c v := fun c v ⟨o, ho, hd⟩ => ⟨o, old3 _ _ ho, hd⟩
  have J0 : ∀ xe, Inv (cxComp X scope cl e3.heap.objs.size (x :: fs) e3 H3 fp xe) [] (none :: ix.map fun i => (σ[i]?).join) H3 { e3 with heap := h₁, toks := e3.toks + ([] : List (Str × Value)).length } := fun xe => by
    have hk : ∀ b o, e3.heap.get? b = some o → h₁.get? b = some o := old3
    refine ⟨ok xe, rfl, I3.bare, Un.kept hk, ⟨_, hns₁, fun i y v h1 h2 h3 => ?_⟩, fun y c e => ?_, I3.hok.fresh (Nat.le_refl _), fun y c e => I3.freeC y c (c1 _ _ e), fun p hp => absurd (show p ∈ ([] : List (Addr × Obj)) from hp) (by simp), I3.hok.kept hk, ?_⟩
    · cases i with
      | zero => cases h2
      | succ i =>
        have h1 : fs[i]? = some y := h1
        have h2 : (ix.map fun i => (σ[i]?).join)[i]? = some (some v) := h2
        have hy := S.fs y (List.mem_of_getElem? h1)
        rw [List.getElem?_map] at h2
        cases ej : ix[i]? with
        | none => rw [ej] at h2; cases h2
        | some j =>
          rw [ej] at h2
          have h2 : (σ[j]?).join = some v := Option.some.inj h2
          have hσ : σ[j]? = some (some v) := by
            cases q : σ[j]? with
            | none => rw [q] at h2; cases h2
            | some o => rw [q] at h2; cases o with
              | none => cases h2
              | some o => cases h2; rfl
          have hN : X.N[j]? = some y := by
            have z := congrArg (·[i]?) hix
            simp only [List.getElem?_map, ej, h1, Option.map_some] at z
            exact Option.some.inj z
          have kf := S.fr _ (PySem.mem_of_lookup hy) rfl
          obtain ⟨m, hn, hl⟩ := I3.loc
          obtain ⟨u, r, l⟩ := hl j y v hN hσ (by rcases kf with k | k; exact .inr (.inl k); exact .inr (.inr k))
          refine ⟨u, r, .inr ⟨relabel_free hy, ?_⟩⟩
          rcases l with ⟨l, _⟩ | ⟨_, c, e, z⟩
          · rcases kf with k | k <;> (rw [l] at k; cases k)
          · obtain ⟨c', e'⟩ := c2 y (PySem.mem_of_lookup hy)
            have q := c1 _ _ e'
            rw [e] at q; cases q
            exact ⟨c, e', cellUp _ _ z⟩
    · obtain ⟨v, z⟩ := I3.cell y c (c1 _ _ e)
      exact ⟨v, cellUp _ _ z⟩
    · have z := congrArg List.length hix
      simp only [List.length_map] at z
      show (none :: _ : St).length = (x :: fs).length
      simp only [List.length_cons, List.length_map, z]
  have back : ∀ {xe σ' H' s'}, Inv (cxComp X scope cl e3.heap.objs.size (x :: fs) e3 H3 fp xe) [] σ' H' s' → Inv X pins σ H' s' := fun {xe σ' H' s'} J =>
    I3.call' (s' := s') (ch := fp) J.os J.base J.hok J.bare fun b hb => ⟨(f3 b hb).2.2.2.1, (f3 b hb).2.1, (f3 b hb).2.2.2.2.1, (f3 b hb).2.2.2.2.2⟩
  have stat : ∀ {xe} {H' : Hp}, (∀ b ∈ fp, H' b = none) → ∀ b ∈ fp, FpOk (cxComp X scope cl e3.heap.objs.size (x :: fs) e3 H3 fp xe) [] H' b := fun {xe H'} hn b hb =>
    ⟨hn b hb, Nat.ne_of_lt (Nat.lt_of_lt_of_le (live b hb) (by rw [sz3]; exact Nat.le_succ _)), nofs b hb, .inl hb, fun y c e => (f3 b hb).2.2.2.2.1 y c (c1 _ _ e), fun p hp => absurd (show p ∈ ([] : List (Addr × Obj)) from hp) (by simp)⟩
  have loop : ∀ s4 : Shared, s4 = { e3 with heap := h₁, toks := e3.toks + ([] : List (Str × Value)).length } →
      codeAny (model X.prog X.w) X.A (.compLoop (.ListComp elt [⟨tg, iter, ifs, 0⟩] scope pos) 0 (.ref it) (.ref s2.heap.objs.size) (compEnvC scope cl e3.heap.objs.size X.env)) (RR (.ref s2.heap.objs.size) e3.heap.objs.size) s4 := by
    rintro s4 rfl
    let xe := notedBy (model X.prog X.w) X.A (compEnvC scope cl e3.heap.objs.size X.env) fun e s' => RR (.ref s2.heap.objs.size) e3.heap.objs.size (.error e) s'
    refine compLoop_turn (fun n s' => ∃ i ys σ' H', Inv (cxComp X scope cl e3.heap.objs.size (x :: fs) e3 H3 fp xe) [] σ' H' s' ∧ tn i s'.heap ∧ (∀ b ∈ fp, H' b = none) ∧ W i n ys σ' H') ?_ m0 ⟨0, [], _, _, J0 xe, hst1, fun b hb => (f3 b hb).1, w0⟩
    rintro n s5 ⟨i, ys, σ5, H5, J5, st5, fr5, w5⟩
    rcases turn i n ys σ5 H5 w5 with ⟨stop, qn⟩ | ⟨go, N, hN, step⟩
    · refine thn (T.done (cxComp X scope cl e3.heap.objs.size (x :: fs) e3 H3 fp xe) rfl rfl rfl hc i [] s5 σ5 H5 xe J5 (stat fr5) st5 stop) fun r s6 ⟨hr, J6⟩ => ?_
      subst hr
      obtain ⟨m, hn, _⟩ := J6.loc
      exact fin _ _ H5 s6 (back J6) qn ⟨m, hn⟩ ⟨J6.free, C0.2⟩
    · refine thn (T.item (cxComp X scope cl e3.heap.objs.size (x :: fs) e3 H3 fp xe) rfl rfl rfl hc i [] s5 σ5 H5 xe J5 (stat fr5) st5 go) fun r s6 ⟨u, hr, h6⟩ => ?_
      subst hr
      refine thn h6 fun _ s7 ⟨y, H7, J7, r7, y7, st7, fr7⟩ => ?_
      have J7' := J7.pinned (stat fr7) (T.obj _ _ st7)
      refine thn (hg _ _ _ xe _ s7 σ5 H7 y u _ J7' r7 (step y H7 y7)) fun _ s8 ⟨σ8, H8, J8, q8⟩ => ?_
      refine thn (hf _ _ _ xe _ s8 σ8 H8 _ J8 q8) fun ok s8' ⟨H8', J8', q8'⟩ => ?_
      cases ok with
      | false =>
        obtain ⟨m', hm', w9⟩ := hN _ _ _ (by simpa using q8')
        refine ⟨m', hm', i + 1, ys, σ8, _, J8'.unpinned, T.keep _ _ _ st7 fun b hb o e => (J8'.pin (b, o) (List.mem_append_right _ (List.mem_append_right _ (mem_pinsAt hb e)))).1, fun b hb => ?_, w9⟩
        obtain ⟨o, e, d⟩ := T.obj _ _ st7 b hb
        exact (J8'.pin (b, o) (List.mem_append_right _ (List.mem_append_right _ (mem_pinsAt hb e)))).2.1
      | true =>
      rw [if_pos rfl] at q8' ⊢
      refine thn (he _ _ _ xe _ s8' σ8 H8' _ J8' q8') fun uv s9 ⟨v, H9, J9, r9, hD9, hl9, n9⟩ => ?_
      obtain ⟨m', hm', w9⟩ := hN _ _ _ n9
      refine thn (mt_append (X := cxComp X scope cl e3.heap.objs.size (x :: fs) e3 H3 fp xe) _ s9 σ8 H9 (.ref s2.heap.objs.size) [v] _ [uv] (fun _ H' => H' = upd H9 s2.heap.objs.size (.lst (ys ++ [v]))) J9 rfl (.cons r9 .nil) ⟨_, ys, v, rfl, rfl, hD9, hl9, rfl⟩) fun _ s10 ⟨_, H10, J10, _, eH⟩ => ?_
      subst eH
      refine ⟨m', hm', i + 1, ys ++ [v], σ8, _, J10.unpinned, T.keep _ _ _ st7 fun b hb o e => (J10.pin (b, o) (List.mem_append_right _ (List.mem_append_right _ (mem_pinsAt hb e)))).1, fun b hb => ?_, w9⟩
      obtain ⟨o, e, d⟩ := T.obj _ _ st7 b hb
      exact (J10.pin (b, o) (List.mem_append_right _ (List.mem_append_right _ (mem_pinsAt hb e)))).2.1
  subst he3
  exact codeAny_compStart_list (loop _ rfl) (T.self X.A 0 _ _ _ hst1 (loop _ rfl))
theorem CompSc.clos {pins : List (Addr × Obj)} {σ : St} {H : Hp} {s : Shared} {scope : Scope} {x : Str} {fs : List Str} (S : CompSc scope X.env x fs) (I : Inv X pins σ H s) :
    ∃ cl, closureFor scope X.env = pure cl ∧ (∀ n c, cl.lookup n = some c → X.env.cells.lookup n = some c) ∧ ∀ n, (n, NameKind.free) ∈ scope.names → ∃ c, cl.lookup n = some c :=
  closure_of fun n hn => I.ok.has n (S.fr _ hn rfl)
/-- [elt for tg in iter], its value kept -/
theorem pe_comp {tg iter elt : Expr} {ifs : List Expr} {scope : Scope} {pos : Pos} {x : Str} {fs : List Str} {ix : List Nat} {wi : TI} {g : TG} {tt : TT} {te : TE} (hc : X.calm = true) (hi : PI X tg iter wi) (hk : compChk scope X.env x fs = true) (hix : ix.map (X.N[·]?) = fs.map some)
    (hg : ∀ cl C s₀ H₀ fp xe, PG (cxComp X scope cl C (x :: fs) s₀ H₀ fp xe) tg g) (hf : ∀ cl C s₀ H₀ fp xe, PF (cxComp X scope cl C (x :: fs) s₀ H₀ fp xe) ifs tt) (he : ∀ cl C s₀ H₀ fp xe, PE (cxComp X scope cl C (x :: fs) s₀ H₀ fp xe) elt te) (hs : ∀ x, foldedSetIterable iter X.env x = pure x := by intro _; rfl) :
    PE X (.ListComp elt [⟨tg, iter, ifs, 0⟩] scope pos) (tComp wi ix g tt te .mk) := by
  intro pins s σ H Q I h
  have S := CompSc.of hk
  obtain ⟨cl, hcl, c1, c2⟩ := S.clos I
  rw [eval_ListComp]
  refine wpAny_comprehension_free (use := none) rfl hs hcl S.kind S.own (thn (hi pins s σ H _ I h) fun v s1 h1 => thn h1 fun itv s2 h2 => ?_)
  obtain ⟨it, fp, tn, J, H2, e, I2, T, st2, f2, q⟩ := h2
  subst e
  refine comp_block (RR := fun acc C => compPost (model X.prog X.w) X.A X.xe none (EP X pins σ Q) acc C) I2 T st2 f2 hc S c1 c2 hix (fun C s₀ H₀ xe => hg cl C s₀ H₀ fp xe) (fun C s₀ H₀ xe => hf cl C s₀ H₀ fp xe) (fun C s₀ H₀ xe => he cl C s₀ H₀ fp xe) q fun D C H' s' I' q' ⟨m, hn⟩ ⟨f0, f1, _, f3, f4, f5⟩ => ?_
  exact ⟨m, hn, fun h' hs' => ⟨.ref D, H', I'.turned (t' := s'.toks) (fun b o hb e => (hs'.2 b hb).trans e) f0 f1 f3 f4 f5, rfl, q'⟩⟩
end
end L2
namespace L2
open PySem PySem.Spec PyProof.Rows
/-! ### for i, x in enumerate(list) -/
section
variable {X : Cx} {pins : List (Addr × Obj)} {σ : List (Option V)} {H H' : Hp} {s : Shared} {h' : Heap}
/-- untracked records of ours have turned -/
theorem Inv.turnedL {t' : Nat} {ch : List Addr} (I : Inv X pins σ H s) (k : ∀ b o, b ∉ ch → s.heap.get? b = some o → h'.get? b = some o) (hf : ∀ b ∈ ch, FpOk X pins H b) : Inv X pins σ H { s with heap := h', toks := t' } := by
  have nit : ∀ b u, H b = some u → b ∉ ch := fun b u e z => by rw [(hf b z).1] at e; cases e
  refine I.step (g' := s.gens) (d' := s.drawn) (ch := ch) (fun b hb => ⟨(hf b hb).2.2.2.1, (hf b hb).2.1, (hf b hb).2.2.2.2.1, (hf b hb).2.2.2.2.2⟩) (fun b o _ _ hc e _ => k b o hc e) (fun b o _ _ hc e _ => ⟨o.slots, k b o hc e⟩) (fun _ _ _ _ n => n)
    (fun b o hc e => ⟨o, k b o hc e⟩) (fun _ _ e => e) (fun _ _ _ e => e) (fun b ps e => ⟨#[], by rw [e]; simp⟩) (fun m hm => ?_) (fun b u e => ?_) I.bare
  · obtain ⟨o, es, ep, ho, r⟩ := hm
    exact ⟨o, es, ep, k _ o (fun z => (hf _ z).2.1 rfl) ho, r⟩
  · refine (I.hok b u e).stay (fun c v hc q => k c v ?_ q) (fun _ q => q) fun _ _ q => q
    rcases hc with z | z
    · rw [z]; exact nit b u e
    · exact nit c _ z
end
def Ite (K : PySem.W.Frag) (a : Addr) : It :=
  ⟨fun i H => ∃ xs x, SqL K H a xs ∧ xs[i]? = some x, fun i H v H' => ∃ t x, v = .ref t ∧ H t = none ∧ H' = upd H t (.tup [.int i, x]) ∧ ∀ xs, SqL K H a xs → xs[i]? = some x, fun i H => ∃ xs, SqL K H a xs ∧ xs.length ≤ i⟩
theorem turn_enum {P : Program} {w : World} {K : PySem.W.Frag} {elts : List Expr} {x1} {pos : Pos} (a e it : Addr) (hne : e ≠ it) :
    Turn P w K (.Tuple elts x1 pos) (Ite K a) [e, it] e (fun i h => (∃ old, IsEnum h e it i old) ∧ h.IsListIter it a i) where
  mem := by simp
  obj := fun i h st b hb => by
    obtain ⟨⟨old, he⟩, o, ho, c, d⟩ := st
    have hb : b = e ∨ b = it := by simpa using hb
    rcases hb with rfl | rfl
    · exact ⟨_, he, fun v z => by
        have z' : Data.fields _ = Data.cell v := z
        cases z'⟩
    · exact ⟨o, ho, fun v z => by rw [d] at z; cases z⟩
  keep := fun i h h' st k => ⟨let ⟨old, he⟩ := st.1; ⟨old, k e (by simp) _ he⟩, st.2.at fun o q => k it (by simp) o q⟩
  item := by
    intro X hP hw hK hc i pins s σ H E I hf st hg
    subst hP hw hK
    obtain ⟨xs, x, hq, hx⟩ := hg
    obtain ⟨its, rv, p, hz⟩ := I.list hq
    obtain ⟨u, hu, ru⟩ := rv.get hx
    obtain ⟨⟨old, he⟩, hit⟩ := st
    refine wpAny_pyNext_enum_item he hit p.isList (x := u) (by simpa using hu) hne fun h1 eo hit1 ht hsz kk => ?_
    refine ⟨_, rfl, wpAny_letOwnedTupleGo_enum eo fun h2 en sb => ?_⟩
    have hT : H s.heap.objs.size = none := I.hok.fresh (Nat.le_refl _)
    have hef : e ≠ s.heap.objs.size := Nat.ne_of_lt (Heap.lt_size he)
    have hif : it ≠ s.heap.objs.size := Nat.ne_of_lt (let ⟨_, ho, _⟩ := hit; Heap.lt_size ho)
    have ht2 : h2.get? s.heap.objs.size = some { cls := .type "tuple", data := .seq #[.int i s.toks, u] } := (sb.2 _ (Ne.symm hef)).trans ht
    have I1 : Inv X pins σ (upd H s.heap.objs.size (.tup [.int i, x])) { s with heap := s.heap.push { cls := .type "tuple", data := .seq #[.int i s.toks, u] } } :=
      I.laid (t' := s.toks) (fun b o q => Heap.get?_push_of_some _ q) (Nat.le_refl _) ⟨by show 2 ≤ sizeLine; decide, [.int i s.toks, u], .cons ⟨_, rfl⟩ (.cons ru .nil), ⟨_, Heap.get?_push_size _ rfl, rfl, _, rfl⟩⟩
    have hf1 : ∀ b ∈ [e, it], FpOk X pins (upd H s.heap.objs.size (.tup [.int i, x])) b := fun b hb => by
      refine ⟨?_, (hf b hb).2⟩
      have hb' : b = e ∨ b = it := by simpa using hb
      rw [upd_ne (by rcases hb' with rfl | rfl; exact hef; exact hif)]
      exact (hf b hb).1
    have I2 : Inv X pins σ (upd H s.heap.objs.size (.tup [.int i, x])) { s with heap := h2, toks := s.toks + 1 } := by
      have J := Inv.turnedL (t' := s.toks + 1) (h' := h2) (ch := [e, it]) I1 ?k hf1
      · exact J
      intro b o hb q
      dsimp only at q
      have hb1 : b ≠ e := fun z => hb (by simp [z])
      have hb2 : b ≠ it := fun z => hb (by simp [z])
      rcases PySem.Heap.get?_push_cases q with ⟨rfl, rfl⟩ | q
      · exact ht2
      · exact (sb.2 b hb1).trans (kk b o hb1 hb2 q)
    refine ⟨.ref s.heap.objs.size, _, I2, rfl, ⟨_, x, rfl, hT, rfl, fun ys hy => by rw [I.list_inj hy hq]; exact hx⟩, ⟨⟨_, en⟩, hit1.extBut sb.extBut (Ne.symm hne)⟩, fun b hb => (hf1 b hb).1⟩
  done := by
    intro X hP hw hK hc i pins s σ H E I hf st hg
    subst hP hw hK
    obtain ⟨xs, hq, hx⟩ := hg
    obtain ⟨its, rv, p, hz⟩ := I.list hq
    obtain ⟨⟨old, he⟩, hit⟩ := st
    obtain ⟨f0, f1, f2, f3, f4, f5⟩ := hf it (by simp)
    have hl := rv.length
    exact wpAny_pyNext_enum_end (I.ok.hd hc) he hit p.isList (by simp; omega) fun h' eb => ⟨rfl, I.turned (t' := s.toks) (fun b o hb e => eb b o hb e) f0 f1 f3 f4 f5⟩
  self := fun _ _ _ _ _ st h => let ⟨_, he⟩ := st.1; wpAny_pyIter_enum he h
section
variable {X : Cx}
def iEnum (K : PySem.W.Frag) (ta : TA) : TI := fun σ H R => ta σ H fun vs H1 => ∃ a, vs = [.ref a] ∧ (∃ xs, SqL K H1 a xs) ∧ R (Ite K a) H1
theorem boot_enum : bootBuiltins "enumerate" = some (.type "enumerate") := by decide +kernel
theorem pi_enum {e : Expr} {ta : TA} {p pos tpos : Pos} {elts : List Expr} {x1} (hg : Gl X "enumerate") (hm : X.mg "enumerate" = none) (ha : PA X [e] ta) (hs : starEach [e] X.env = [(false, eval e X.env)] := by rfl) :
    PI X (.Tuple elts x1 tpos) (.Call (.Name "enumerate" p) [e] [] pos) (iEnum X.K ta) := by
  intro pins s σ H R I h
  refine Call_ (ld_blt I hg hm boot_enum (PyProof.Rows.callWith_type1 (thn (ha pos pins s σ H _ I h) fun us s1 ⟨vs, H1, I1, r1, q1⟩ => ?_) hs rfl))
  obtain ⟨a, ev, ⟨xs, hq⟩, q⟩ := q1
  subst ev
  cases r1 with
  | cons r rr =>
    cases rr
    cases r
    obtain ⟨its, rv, pl, hz⟩ := I1.list hq
    refine call_enumerate_list pl.isList fun h' he hit hsz kk => wpAny_pyIter_enum he ?_
    have I2 : Inv X pins σ H1 { s1 with heap := h' } := I1.kept (t' := s1.toks) kk
    refine ⟨s1.heap.objs.size + 1, [s1.heap.objs.size + 1, s1.heap.objs.size], _, _, H1, rfl, I2, turn_enum a _ _ (Nat.ne_of_gt (Nat.lt_succ_self _)), ⟨⟨_, he⟩, hit⟩, fun b hb => ?_, q⟩
    have hb : b = s1.heap.objs.size + 1 ∨ b = s1.heap.objs.size := by simpa using hb
    have hle : s1.heap.objs.size ≤ b := by rcases hb with rfl | rfl; exact Nat.le_succ _; exact Nat.le_refl _
    exact I1.fpOk hle (I1.hok.fresh hle)
end
theorem loop_enum {K : PySem.W.Frag} {a : Addr} {xs : List V} {g : TG} {tb : TS} {h : HidF g tb} {D : Ends} {σ : St} {H : Hp} (Pv : Nat → St → Hp → Prop) (h0 : Pv 0 σ H) (hl : ∀ i σ H, i ≤ xs.length → Pv i σ H → SqL K H a xs)
    (hs : ∀ i x t σ H, xs[i]? = some x → Pv i σ H → H t = none → g (.ref t) σ (upd H t (.tup [.int i, x])) fun σ2 H2 => tb { D with nx := Pv (i + 1), ct := Pv (i + 1), bk := D.nx } σ2 H2) (hd : ∀ σ H, Pv xs.length σ H → D.nx σ H) : Loop g tb h (Ite K a) D σ H := by
  refine ⟨fun i m σ H => i + m = xs.length ∧ Pv i σ H, ⟨xs.length, Nat.zero_add _, h0⟩, fun i m σ H ⟨e, p⟩ => ?_⟩
  have hq := hl i σ H (by omega) p
  by_cases hi : i < xs.length
  · have ex : xs[i]? = some xs[i] := List.getElem?_eq_getElem hi
    refine .inr ⟨⟨xs, _, hq, ex⟩, Pv (i + 1), fun σ H q => ⟨m - 1, by omega, by omega, q⟩, ?_⟩
    rintro y H' ⟨t, x, rfl, ht, rfl, hy⟩
    exact hs i x t σ H (hy xs hq) p ht
  · have e' : i = xs.length := by omega
    subst e'
    exact .inl ⟨⟨xs, hq, Nat.le_refl _⟩, hd σ H p⟩
/-! ### sorted(list of ints) -/
theorem ints_of : ∀ {ns : List Int} {us : List Value}, Vals (ns.map V.int) us → IntsAre us ns
  | [], _, h => by cases h; exact .nil
  | n :: ns, _, h => by
    cases h with
    | cons r rr =>
      obtain ⟨t, rfl⟩ := r
      exact .cons _ _ (ints_of rr)
theorem of_ints : ∀ {ns : List Int} {us : List Value}, IntsAre us ns → Vals (ns.map V.int) us
  | [], [], _ => .nil
  | _ :: _, _ :: _, .cons _ t h => .cons ⟨t, rfl⟩ (of_ints h)
end L2
namespace L2
open PySem PySem.Spec PyProof.Rows
/-! ### d.setdefault(k, x) -/
section
variable {X : Cx} {pins : List (Addr × Obj)} {σ : St} {H : Hp} {s : Shared} {a : Addr} {kvs : List (Key × V)} {k : Key} {u r : Value} {z : V} {A : Around} {E : Value → Shared → Prop}
theorem d_setdef {Q : Value → Shared → Prop} (I : Inv X pins σ H s) (e : H a = some (.dK kvs)) (ry : RelV (kV k) u) (rz : RelV z r) (hl : kvs.length < sizeLine)
    (h1 : ∀ v, valV kvs k = some v → ∀ w' s', Inv X pins σ H s' → RelV v w' → Q w' s')
    (h2 : valV kvs k = none → ∀ s', Inv X pins σ (upd H a (.dK (putK kvs k z))) s' → Q r s') : wpAny (model X.prog X.w) A (call (.builtin "dict.setdefault") [.ref a, u, r]) Q E s := by
  obtain ⟨zz, hd, vs, rel, dd⟩ := dk_of I.hok e
  have hz : vs.length ≤ sizeLine := by rw [← rel.length]; exact zz
  have hlp : (putK kvs k z).length ≤ sizeLine := by have := length_putK kvs k z; omega
  refine call_meetsIn PySem.F.slot_dict_setdefault dd.typeIs PySem.F.entry_dict_setdefault (PySem.F.args_dict_setdefault_3 _ _ _) (kt_meets_setdefault (mixKind X.prog X.w) a (kV_is ry) hd r) ⟨vs, dd, hz, fun v' hv' => ?_, fun hn h' dd' hs => ?_⟩
  · have q := rel.val k
    rw [hv'] at q
    cases hv : valV kvs k with
    | none => rw [hv] at q; exact q.elim
    | some v => rw [hv] at q; exact h1 v hv v' _ (I.tok _) q
  · have q := rel.val k
    rw [hn] at q
    have hv : valV kvs k = none := by
      cases hv : valV kvs k with
      | none => rfl
      | some v => rw [hv] at q; exact q.elim
    refine h2 hv _ ?_
    have he : ∃ q, h'.get? a = some q := let ⟨q, _, _, hq, _⟩ := dd'; ⟨q, hq⟩
    exact d_write I (by rw [e]; exact True.intro) hs he (dk_new hlp hd (rel.put k rz) dd')
end
def tDSetD (td ty tx : TE) : TE := fun σ H Q => td σ H fun x H1 => ∃ a, x = .ref a ∧ IsD H1 a ∧ ty σ H1 fun y H2 => tx σ H2 fun z H3 => ∃ kvs k, H3 a = some (.dK kvs) ∧ y = kV k ∧ kvs.length < sizeLine ∧
  (∀ v, valV kvs k = some v → Q v H3) ∧ (valV kvs k = none → Q z (upd H3 a (.dK (putK kvs k z))))
section
variable {X : Cx} {o e f : Expr} {apos cpos : Pos} {td ty tx : TE}
theorem pe_dsetd (ho : PE X o td) (he : PE X e ty) (hf : PE X f tx) (m : M2 X o "setdefault" apos e f cpos) : PE X (.Call (.Attribute o "setdefault" apos) [e, f] [] cpos) (tDSetD td ty tx) := by
  intro pins s σ H Q I h
  refine wpAny_Call_method m.base m.few m.line PySem.F.plainAttrs_dict PySem.F.slot_dict_setdefault PySem.F.type_dict_setdefault (thn (ho pins s σ H _ I h) fun u s1 ⟨x, H1, I1, rx, a, ex, d, q1⟩ => ?_)
  subst ex
  obtain rfl : u = Value.ref a := rx
  obtain ⟨t1, t2, _⟩ := isD_at I1 d
  refine ⟨t1, t2, ?_⟩
  rw [m.trees]
  refine Calls.callWith_builtin rfl (Calls.evalArgs_plain (Calls.spliced_cons (thn (he pins s1 σ H1 _ I1 q1) fun iv s2 ⟨y, H2, I2, ry, q2⟩ =>
    Calls.spliced_cons (thn (hf pins s2 σ H2 _ I2 q2) fun fv s3 ⟨z, H3, I3, rz, kvs, k, ea, ey, hl, q3, q4⟩ => Calls.spliced_nil ?_))))
  subst ey
  exact d_setdef I3 ea ry rz hl (fun v hv w' s4 I4 rw' => ⟨v, _, I4, rw', q3 v hv⟩) fun hn s4 I4 => ⟨z, _, I4, rz, q4 hn⟩
end
/-! ### sum, all, any of a list -/
theorem call_sum {X : Cx} (hc : X.calm = true) : CallR X (.builtin "sum") (fun xs H Q => ∃ (p : Addr) (ns : List Int), xs = [.ref p] ∧ SqL X.K H p (ns.map V.int) ∧ Q (.int ns.sum) H) := by
  intro pins s σ H xs us Q I r h
  obtain ⟨p, ns, rfl, hq, q⟩ := h
  obtain ⟨u, rfl, rx⟩ := vals1 r
  cases rx
  obtain ⟨its, r', pl, hz⟩ := I.list hq
  have hi := ints_of r'
  obtain ⟨ps, hx⟩ := hi.allInts.items
  have e : preSum (numAt ps) ps.size = ns.sum := by
    have h1 := hi.numsOf
    rw [preSum_eq, List.take_of_length_le (by simp), ← h1, ← nums_intItems, ← hx]
  have hl := pl.isList
  rw [hx] at hl
  refine sum_intListG (I.ok.hd hc) hl fun h' tk t' hk => ?_
  rw [e]
  exact ⟨.int ns.sum, H, I.kept (t' := tk) hk, ⟨t', rfl⟩, q⟩
/-! ### sorted(dict of ints) -/
theorem ints_at : ∀ {ns : List Int} {us : List Value}, us.length = ns.length → (∀ (j : Nat) v, us[j]? = some v → ∃ t i, ns[j]? = some i ∧ v = Value.int i t) → IntsAre us ns
  | [], [], _, _ => .nil
  | _ :: _, [], h, _ => by cases h
  | [], _ :: _, h, _ => by cases h
  | n :: ns, u :: us, hl, h => by
    obtain ⟨t, i, e1, e2⟩ := h 0 u rfl
    have e1 : n = i := by simpa using e1
    subst e1 e2
    exact .cons _ _ (ints_at (by simpa using hl) fun j v e => by simpa using h (j + 1) v (by simpa using e))
theorem sorted_src {prog : Program} {w : World} {A : Around} {E : Value → Shared → Prop} {s : Shared} {T : String} {r d : Addr} {n : Nat} {P : Nat → Value → Prop} {OK : Heap → Prop} {Q : Value → Shared → Prop}
    (K : PySem.W.KdlSrc prog w T r d n P OK) (hh : A.handled = none) (hok : OK s.heap) (ns : List Int) (hn : n = ns.length) (h64 : ns.length < 64)
    (hP : ∀ j v, P j v → ∃ t i, ns[j]? = some i ∧ v = Value.int i t)
    (h : ∀ (h1 h' : Heap) (l : Addr) (tk : Nat) (out : Array Value) (e : Nat) (ms : List Int), (∀ b o, s.heap.get? b = some o → h1.get? b = some o) → (∀ b o, h1.get? b = some o → h'.get? b = some o) → h1.objs.size ≤ l → h'.get? l = some (seqObj "list" out e) →
      IntsAre out.toList ms → ms.Perm ns → ms.Pairwise (· ≤ ·) → Q (.ref l) { s with heap := h', toks := tk }) :
    wpAny (model prog w) A (call (.builtin "sorted") [.ref r]) Q E s := by
  have hsz : n ≤ sizeLine := by rw [sizeLine_eq]; omega
  refine Calls.call_function_entry kind_sorted plain_sorted entry_sorted (args_sorted1 _) ?_
  unfold Builtin.«sorted»
  refine wpAny_bind (m := checkCount "sorted" 1 1 _) (wpAny_pure ?_)
  refine wpAny_bind (PySem.W.kdu_collect (A := A.in1) K hh hok hsz fun h' tk acc hk hacc => ?_)
  have hl : acc.toList.length = n := by rw [Array.length_toList]; exact hacc.1
  have hI : IntsAre acc.toList ns := ints_at (by rw [hl, hn]) fun j v e => hP j v (hacc.2 j v (by rw [← Array.getElem?_toList]; exact e))
  refine wpAny_bind (wpAny_newList ?_ (by rw [hl]; exact hsz))
  have hoL : (h'.push (seqObj "list" acc.toList.toArray 0)).get? h'.objs.size = some (seqObj "list" acc.toList.toArray 0) := Heap.get?_push_size _ rfl
  refine wpAny_bind (wpAny_holding (wpAny_call_entry slot_list_sort ⟨_, hoL, rfl⟩ entry_list_sort (list_sort_tree hoL hI (by rw [hl, hn]; exact h64) fun out ns' a1 a2 a3 => ⟨_, rfl, ?_⟩) (args_list_sort _)))
  obtain ⟨e, he⟩ := sortedHeap_at (out := out) hoL
  refine wpAny_pure ⟨_, rfl, h h' _ _ _ out e ns' hk (fun b o hb => ?_) (Nat.le_refl _) he a1 a2 a3⟩
  have hlt := Heap.lt_size hb
  rw [sortedHeap_old (Nat.ne_of_lt hlt) (by rw [size_push']; exact Nat.lt_succ_of_lt hlt)]
  exact Heap.get?_push_of_some _ hb
theorem kv_at {κ : Type} {kvs : List (κ × V)} {vs : List (κ × Value)} (r : KV kvs vs) : ∀ (j : Nat) (k : κ) (x : Value), vs[j]? = some (k, x) → ∃ v, kvs[j]? = some (k, v) ∧ RelV v x := by
  unfold KV at r
  induction r with
  | nil => intro j k x e; simp at e
  | cons q _ ih =>
    intro j k x e
    cases j with
    | zero =>
      simp at e
      subst e
      exact ⟨_, by simp; exact Prod.ext q.1 rfl, q.2⟩
    | succ j => simpa using ih j k x (by simpa using e)
theorem call_sortedD {X : Cx} (hc : X.calm = true) : CallR X (.builtin "sorted") (fun xs H Q => ∃ (p : Addr) (kvs : List (Key × V)) (ns : List Int), xs = [.ref p] ∧ Rd H p (.dK kvs) ∧ kvs.map (·.1) = ns.map Sum.inl ∧ ns.length < 64 ∧
    ∀ l ms, H l = none → List.Perm ms ns → ms.Pairwise (· ≤ ·) → Q (.ref l) (upd H l (.lst (ms.map V.int)))) := by
  intro pins s σ H xs us Q I r h
  obtain ⟨p, kvs, ns, rfl, hq, hk, h64, q⟩ := h
  obtain ⟨u, rfl, rx⟩ := vals1 r
  cases rx
  obtain ⟨z, hd, vs, rel, dd⟩ := dk_rd I.hok hq
  obtain ⟨ep, hat⟩ := dd.dictAt
  have hlen : vs.length = ns.length := by
    have := congrArg List.length hk
    rw [List.length_map, List.length_map] at this
    rw [← rel.length, this]
  refine sorted_src (PySem.W.kdl_dict (knd := mixKind X.prog X.w) (kvs := vs) (ep := ep) hd) (I.ok.hd hc) hat ns hlen h64 (fun j v hv => ?_) fun h1 h' l tk out e ms k0 k1 k2 k3 a1 a2 a3 => ?_
  · obtain ⟨k, x, hx, hk2⟩ := hv
    obtain ⟨v2, hv2, _⟩ := kv_at rel j k x hx
    have e1 : (kvs.map (·.1))[j]? = some k := by rw [List.getElem?_map, hv2]; rfl
    rw [hk, List.getElem?_map] at e1
    cases e2 : ns[j]? with
    | none => rw [e2] at e1; cases e1
    | some i =>
      rw [e2] at e1
      cases e1
      obtain ⟨t, ev⟩ := Value.isInt_shape (k := i) (v := v) hk2
      exact ⟨t, i, rfl, ev⟩
  · have hl := a2.length_eq
    have I1 : Inv X pins σ H { s with heap := h1, toks := tk } := I.kept (t' := tk) k0
    exact ⟨.ref l, _, I1.laid (t' := tk) k1 k2 (show ObjOk X.prog X.w _ _ _ (.lst (ms.map V.int)) from ⟨by rw [List.length_map, hl, sizeLine_eq]; omega, out.toList, e, of_ints a1, k3⟩), rfl, q _ _ (I1.hok.fresh k2) a2 a3⟩
end L2
namespace L2
open PySem PySem.Spec PyProof.Rows
/-! ### a dict walked: it stands still meanwhile, and is thawed behind -/
section
variable {X : Cx} {pins : List (Addr × Obj)} {σ : List (Option V)} {H : Hp} {s : Shared} {a : Addr}
theorem Inv.rewrite {u v : HO} (I : Inv X pins σ H s) (e : H a = some u) (hn : ∀ b, u ≠ .own b) (ht : ∀ xs, u ≠ .tup xs) (h0 : ∀ w, X.H₀ a = some w → (∃ o z, w = .frz o z) ∨ (∃ xs, w = .tup xs) ∨ (∃ ps, w = .tbl ps) → False) (new : ObjOk X.prog X.w (upd H a v) s.heap a v) :
    Inv X pins σ (upd H a v) s where
  ok := I.ok
  os := I.os
  bare := I.bare
  base := ⟨I.base.keep, I.base.slot, fun b o q n hx => by
      have := I.base.free b o q n hx
      rw [upd_ne (fun z => by rw [z, e] at this; cases this)]; exact this, I.base.there,
    fun b xs q => by
      have hb : b ≠ a := fun z => h0 _ (z ▸ q) (.inr (.inl ⟨_, rfl⟩))
      rw [upd_ne hb]; exact I.base.tups b xs q,
    fun b o z q => by
      have hb : b ≠ a := fun z => h0 _ (z ▸ q) (.inl ⟨_, _, rfl⟩)
      rw [upd_ne hb]; exact I.base.frzs b o z q,
    fun b ps q => by
      have hb : b ≠ a := fun z => h0 _ (z ▸ q) (.inr (.inr ⟨_, rfl⟩))
      rw [upd_ne hb]; exact I.base.tbls b ps q⟩
  loc := I.loc
  cell := I.cell
  free := by rw [upd_ne (Ne.symm (ne_of_none e I.free))]; exact I.free
  freeC := fun x c q => by
    have := I.freeC x c q
    rw [upd_ne (Ne.symm (ne_of_none e this))]; exact this
  pin := fun p hp => by
    obtain ⟨p1, p2, p3⟩ := I.pin p hp
    exact ⟨p1, by rw [upd_ne (Ne.symm (ne_of_none e p2))]; exact p2, p3⟩
  hok := fun b w q => by
    by_cases hb : b = a
    · subst hb; rw [upd_same] at q; cases q; exact new
    · rw [upd_ne hb] at q
      refine (I.hok b w q).stay (fun _ _ _ q => q) (fun c q => ?_) fun c xs q => ?_
      · rw [upd_ne (fun z => by rw [z, e] at q; exact hn _ (Option.some.inj q))]; exact q
      · rw [upd_ne (fun z => by rw [z, e] at q; exact ht _ (Option.some.inj q))]; exact q
  len := I.len
/-- what stood at the entry and does not change stands still -/
theorem Inv.still {w : HO} (I : Inv X pins σ H s) (h : X.H₀ a = some w) (hw : (∃ o z, w = .frz o z) ∨ (∃ xs, w = .tup xs) ∨ (∃ ps, w = .tbl ps)) : (∃ o z, H a = some (.frz o z)) ∨ (∃ xs, H a = some (.tup xs)) ∨ (∃ ps, H a = some (.tbl ps)) := by
  rcases hw with ⟨o, z, rfl⟩ | ⟨xs, rfl⟩ | ⟨ps, rfl⟩
  · exact .inl ⟨o, z, I.base.frzs a o z h⟩
  · exact .inr (.inl ⟨xs, I.base.tups a xs h⟩)
  · obtain ⟨m, e⟩ := I.base.tbls a ps h
    exact .inr (.inr ⟨_, e⟩)
theorem Inv.freeze {kvs : List (Key × V)} (I : Inv X pins σ H s) (e : H a = some (.dK kvs)) : ∃ o, s.heap.get? a = some o ∧ Inv X pins σ (upd H a (.frz o (.dK kvs))) s := by
  obtain ⟨z, hd, vs, rel, o, es, ep, ho, r⟩ := I.hok a _ e
  refine ⟨o, ho, I.rewrite e (fun _ z => by cases z) (fun _ z => by cases z) (fun w hw h => ?_) ⟨ho, z, hd, vs, rel, o, es, ep, ho, r⟩⟩
  rcases I.still hw h with ⟨_, _, q⟩ | ⟨_, q⟩ | ⟨_, q⟩ <;> (rw [e] at q; cases q)
theorem Inv.thaw {kvs : List (Key × V)} {o : Obj} (I : Inv X pins σ H s) (e : H a = some (.frz o (.dK kvs))) (h0 : ∀ o u, X.H₀ a ≠ some (.frz o u)) : Inv X pins σ (upd H a (.dK kvs)) s := by
  obtain ⟨ho, z, hd, vs, rel, dd⟩ := I.hok a _ e
  refine I.rewrite e (fun _ z => by cases z) (fun _ z => by cases z) (fun w hw h => ?_) ⟨z, hd, vs, rel, dd⟩
  rcases h with ⟨_, _, rfl⟩ | h
  · exact h0 _ _ hw
  · rcases I.still hw (.inr h) with ⟨o', z', q⟩ | ⟨_, q⟩ | ⟨_, q⟩
    · rcases h with ⟨xs, rfl⟩ | ⟨ps, rfl⟩
      · have := I.base.tups a xs hw; rw [e] at this; cases this
      · obtain ⟨m, this⟩ := I.base.tbls a ps hw; rw [e] at this; cases this
    · rw [e] at q; cases q
    · rw [e] at q; cases q
end
def thawH (a : Addr) (H : Hp) : Hp := match H a with
  | some (.frz _ (.dK kvs)) => upd H a (.dK kvs)
  | _ => H
theorem thawH_of {a : Addr} {H : Hp} {o : Obj} {kvs : List (Key × V)} (h : H a = some (.frz o (.dK kvs))) : thawH a H = upd H a (.dK kvs) := by unfold thawH; rw [h]
theorem Inv.thawed {X : Cx} {pins : List (Addr × Obj)} {σ : List (Option V)} {H : Hp} {s : Shared} {a : Addr} (I : Inv X pins σ H s) (h0 : ∀ o u, X.H₀ a ≠ some (.frz o u)) : Inv X pins σ (thawH a H) s := by
  unfold thawH
  split
  · rename_i h; exact I.thaw h h0
  · exact I
def thawD (a : Addr) (D : Ends) : Ends := { D with nx := fun σ H => D.nx σ (thawH a H), bk := fun σ H => D.bk σ (thawH a H), ct := fun σ H => D.ct σ (thawH a H), rt := fun v H => D.rt v (thawH a H) }
def tThaw (X : Cx) (t : TS) : TS := fun D σ H => ∃ a, (∀ o u, X.H₀ a ≠ some (.frz o u)) ∧ t (thawD a D) σ H
theorem ps_thaw {X : Cx} {st : Stmt} {t : TS} (h : PS X st t) : PS X st (tThaw X t) := by
  intro pins s σ H D I hh
  obtain ⟨a, h0, hh⟩ := hh
  refine wpAny_mono (h pins s σ H (thawD a D) I hh) (fun f s' q => ?_) fun _ _ e => e
  unfold SP at q ⊢
  cases f with
  | next => obtain ⟨σ', H', I', q⟩ := q; exact ⟨σ', _, I'.thawed h0, q⟩
  | brk => obtain ⟨σ', H', I', q⟩ := q; exact ⟨σ', _, I'.thawed h0, q⟩
  | cont => obtain ⟨σ', H', I', q⟩ := q; exact ⟨σ', _, I'.thawed h0, q⟩
  | ret u => obtain ⟨v, σ', H', I', r, q⟩ := q; exact ⟨v, σ', _, I'.thawed h0, r, q⟩
def Itd (a : Addr) (o : Obj) (kvs : List (Key × V)) : It :=
  ⟨fun i H => H a = some (.frz o (.dK kvs)) ∧ i < kvs.length, fun i H x H' => H' = H ∧ ∃ k v, kvs[i]? = some (k, v) ∧ x = kV k, fun i H => H a = some (.frz o (.dK kvs)) ∧ kvs.length ≤ i⟩
theorem frz_at {X : Cx} {pins : List (Addr × Obj)} {σ : List (Option V)} {H : Hp} {s : Shared} {a : Addr} {o : Obj} {kvs : List (Key × V)} {ep : Nat} {es} (I : Inv X pins σ H s) (e : H a = some (.frz o (.dK kvs))) (he : o.data = .dict es ep) :
    ∃ vs, KV kvs vs ∧ s.heap.DictAt (mixKind X.prog X.w) a vs ep ∧ (a == sysModules) = false := by
  obtain ⟨ho, z, hd, vs, rel, o', es', ep', ho', c, d, r⟩ := I.hok a _ e
  rw [ho] at ho'
  cases ho'
  rw [he] at d
  cases d
  exact ⟨vs, rel, ⟨o, es, ho, c, he, r⟩, hd⟩
theorem turn_dict {P : Program} {w : World} {K : PySem.W.Frag} {tg : Expr} (a it : Addr) (o : Obj) (kvs : List (Key × V)) (ep : Nat) {es} (he : o.data = .dict es ep) : Turn P w K tg (Itd a o kvs) [it] it (fun i h => h.IsKeyIter it a i kvs.length ep) where
  mem := by simp
  obj := fun i h st b hb => by
    have e : b = it := by simpa using hb
    subst e
    obtain ⟨o, e, c, d⟩ := st
    exact ⟨o, e, fun v z => by rw [d] at z; cases z⟩
  keep := fun i h h' st k => st.at fun o e => k it (by simp) o e
  item := by
    intro X hP hw hK hc i pins s σ H E I hf st hg
    subst hP hw hK
    obtain ⟨hg, hi⟩ := hg
    obtain ⟨vs, rel, dat, _⟩ := frz_at I hg he
    obtain ⟨f0, f1, f2, f3, f4, f5⟩ := hf it (by simp)
    have hl := rel.length
    have hi2 : i < vs.length := by rw [← hl]; exact hi
    obtain ⟨⟨k, x⟩, hx⟩ : ∃ p, vs[i]? = some p := ⟨_, List.getElem?_eq_getElem hi2⟩
    obtain ⟨v, hv, rv⟩ := kv_at rel i k x hx
    rw [hl] at st
    refine wpAny_pyNext_dict_item st dat hx fun key h' hk st' sb => ?_
    have I1 : Inv X pins σ H { s with heap := h' } := I.turned (t' := s.toks) (fun b o hb e => (sb.2 b hb).trans e) f0 f1 f3 f4 f5
    obtain ⟨ob, e, c, d⟩ := id st'
    have rk : RelV (kV k) key := by
      rcases keyIs_shape hk with ⟨i, t, rfl, rfl⟩ | ⟨x, t, rfl, rfl⟩
      · exact ⟨t, rfl⟩
      · exact ⟨t, rfl⟩
    rw [← hl] at st'
    exact ⟨key, rfl, go_of (s := { s with heap := h' }) e c d (by decide) ⟨kV k, H, I1, rk, ⟨rfl, k, v, hv, rfl⟩, st', fun b hb => (hf b hb).1⟩⟩
  done := by
    intro X hP hw hK hc i pins s σ H E I hf st hg
    subst hP hw hK
    obtain ⟨hg, hi⟩ := hg
    obtain ⟨vs, rel, dat, _⟩ := frz_at I hg he
    obtain ⟨f0, f1, f2, f3, f4, f5⟩ := hf it (by simp)
    have hl := rel.length
    rw [hl] at st
    exact wpAny_pyNext_dict_end (I.ok.hd hc) st dat (List.getElem?_eq_none_iff.mpr (by rw [← hl]; exact hi)) fun h' eb => ⟨rfl, I.turned (t' := s.toks) (fun b o hb e => eb b o hb e) f0 f1 f3 f4 f5⟩
  self := fun _ _ _ _ _ st h => wpAny_pyIter_keyiter st h
def iDict (tl : TE) : TI := fun σ H R => tl σ H fun x H1 => ∃ a kvs, x = .ref a ∧ H1 a = some (.dK kvs) ∧ ∀ o, R (Itd a o kvs) (upd H1 a (.frz o (.dK kvs)))
theorem pi_dict {X : Cx} {tg l : Expr} {tl : TE} (hl : PE X l tl) : PI X tg l (iDict tl) := by
  intro pins s σ H R I h
  refine thn (hl pins s σ H _ I h) fun v s1 ⟨x, H1, I1, r1, q1⟩ => ?_
  obtain ⟨a, kvs, e, hq, q⟩ := q1
  subst e
  cases r1
  obtain ⟨o, ho, I2⟩ := I1.freeze hq
  obtain ⟨_, _, vs, rel, o', es, ep, ho', c, d, r⟩ := I1.hok a _ hq
  rw [ho] at ho'
  cases ho'
  obtain ⟨vs, rel, dat, hd⟩ := frz_at I2 upd_same d
  refine wpAny_pyIter_dict hd dat ?_
  have hlen : kvs.length = vs.length := rel.length
  have hfr : upd H1 a (.frz o (.dK kvs)) s1.heap.objs.size = none := I2.hok.fresh (Nat.le_refl _)
  refine ⟨s1.heap.objs.size, [s1.heap.objs.size], _, _, upd H1 a (.frz o (.dK kvs)), rfl, I2.kept (t' := s1.toks) fun b o e => Heap.get?_push_of_some _ e, turn_dict a _ o kvs ep d, ⟨_, Heap.get?_push_size _ rfl, rfl, by rw [hlen]; rfl⟩, fun b hb => ?_, q o⟩
  have e : b = s1.heap.objs.size := by simpa using hb
  subst e
  exact I2.fpOk (Nat.le_refl _) hfr
theorem loop_dict {a : Addr} {o : Obj} {kvs : List (Key × V)} {g : TG} {tb : TS} {h : HidF g tb} {D : Ends} {σ : St} {H : Hp} (Pv : Nat → St → Hp → Prop) (h0 : Pv 0 σ H) (hl : ∀ i σ H, i ≤ kvs.length → Pv i σ H → H a = some (.frz o (.dK kvs)))
    (hs : ∀ i k v σ H, kvs[i]? = some (k, v) → Pv i σ H → g (kV k) σ H fun σ2 H2 => tb { D with nx := Pv (i + 1), ct := Pv (i + 1), bk := D.nx } σ2 H2) (hd : ∀ σ H, Pv kvs.length σ H → D.nx σ H) : Loop g tb h (Itd a o kvs) D σ H := by
  refine ⟨fun i m σ H => i + m = kvs.length ∧ Pv i σ H, ⟨kvs.length, Nat.zero_add _, h0⟩, fun i m σ H ⟨e, p⟩ => ?_⟩
  have hq := hl i σ H (by omega) p
  by_cases hi : i < kvs.length
  · refine .inr ⟨⟨hq, hi⟩, Pv (i + 1), fun σ H q => ⟨m - 1, by omega, by omega, q⟩, ?_⟩
    rintro y H' ⟨rfl, k, v, hk, rfl⟩
    exact hs i k v σ _ hk p
  · have e' : i = kvs.length := by omega
    subst e'
    exact .inl ⟨⟨hq, Nat.le_refl _⟩, hd σ H p⟩
end L2
namespace L2
open PySem PySem.Spec PyProof.Rows
end L2
namespace L2
open PySem PySem.Spec PyProof.Rows
end L2
namespace L2
open PySem PySem.Spec PyProof.Rows
end L2
namespace L2
open PySem PySem.Spec PyProof.Rows
end L2
/-! MY LAYER, l: defs whose last parameters have defaults -/
namespace L2
open PySem PySem.Spec PyProof.Rows
structure FunD (K : PySem.W.Frag) (x qual : Str) (st : Stmt) (f : Addr) (fd : FuncData) : Prop where
  ex : ∃ (oc : Value) (od : Option Addr) (dV kV doc pm : Value) (an : Option Addr) (cdv ct : Value) (osl : Array (Option Value)),
    fd = PySem.W.fnOf x qual (defArgs st) (defBody st) (defScope st) dV kV doc pm an cdv ct ∧ K.lookup f = some ⟨oc, od, .func fd, osl⟩ ∧ PySem.W.codeIn K cdv qual = true
  kp : PySem.W.keepIn K (.ref f) = true
section
variable {P : Program} {w : World} {K : PySem.W.Frag} {mg : Str → Option Value} {base : Heap}
theorem FunD.okE {x qual : Str} {st : Stmt} {f : Addr} {fd : FuncData} {N ps : List Str} {k : Nat} {sp : Sp} (F : FunD K x qual st f fd) (S : FnScope N ps (defScope st)) (len : ∀ vs H Q E, sp vs H Q E → vs.length = ps.length)
    (hbody : Body P w K mg base qual st N k sp) : FnOk P w K mg base (CXe P w) (k + 1) f fd ps sp := by
  obtain ⟨oc, od, dV, kV, doc, pm, an, cdv, ct, osl, rfl, lk, hcd⟩ := F.ex
  exact fn_of lk hcd S len fun A outer s H vs Q E hr hsp => hbody f cdv A outer s H vs Q E hr hsp
def RawMD (K : PySem.W.Frag) (C : Addr) (m qual : Str) (st : Stmt) (ps : List Str) (dvs : List V) : Prop := ∃ f fd ds, Meth K C m f ∧ FunD K m qual st f fd ∧ Binds K fd ps ds ∧ Vals dvs ds
def RawID (K : PySem.W.Frag) (mg : Str → Option Value) (x : Str) (C : Addr) (qual : Str) (st : Stmt) (ps : List Str) (dvs : List V) : Prop := ∃ f fd ds, mg x = some (.ref C) ∧ Mk K C f ∧ FunD K "__init__" qual st f fd ∧ Binds K fd ps ds ∧ Vals dvs ds
theorem RawMD.have {C : Addr} {m qual : Str} {st : Stmt} {N ps : List Str} {dvs : List V} {k : Nat} {sp : Sp} (R : RawMD K C m qual st ps dvs) (S : FnScope N ps (defScope st)) (len : ∀ vs H Q E, sp vs H Q E → vs.length = ps.length)
    (hbody : Body P w K mg base qual st N k sp) : HaveM P w K mg base C m (k + 1) ps dvs sp :=
  let ⟨f, fd, ds, hm, F, hb, hd⟩ := R
  ⟨f, fd, ds, hm, hb, hd, F.okE S len hbody⟩
theorem RawID.have {C : Addr} {x qual : Str} {st : Stmt} {N ps : List Str} {dvs : List V} {k : Nat} {sp : Sp} (R : RawID K mg x C qual st ps dvs) (S : FnScope N ps (defScope st)) (len : ∀ vs H Q E, sp vs H Q E → vs.length = ps.length)
    (hbody : Body P w K mg base qual st N k sp) : HaveI P w K mg base x C (k + 1) ps dvs sp :=
  let ⟨f, fd, ds, hm, M, F, hb, hd⟩ := R
  ⟨f, fd, ds, hm, M, hb, hd, F.okE S len hbody⟩
end
end L2
namespace L2
open PySem PySem.Spec PyProof.Rows
end L2
namespace L2
open PySem PySem.Spec PyProof.Rows
end L2
namespace L2
open PySem PySem.Spec PyProof.Rows
section
variable {X : Cx}
end
theorem Vals.at {xs : List V} {us : List Value} (r : Vals xs us) (m : Nat) (h1 : m < xs.length) (h2 : m < us.length) : RelV xs[m] us[m] := by
  obtain ⟨u, hu, ru⟩ := r.get (List.getElem?_eq_getElem h1)
  rw [List.getElem?_eq_getElem h2] at hu
  cases hu
  exact ru
end L2
namespace L2
open PySem PySem.Spec PyProof.Rows
/-! ### len of a dict with keys that are tuples -/
theorem meets_lenE {prog : Program} {w : World} {d : Addr} (hd : (d == sysModules) = false) : MeetsIn prog w (Builtin.«dict.__len__» ⟨[.ref d], []⟩) (fun _ R s => ∃ o es ep, s.heap.get? d = some o ∧ o.data = .dict es ep ∧ R (.ok (.ret (.int es.size s.toks))) { s with toks := s.toks + 1 }) :=
  .of_wp fun A R s ⟨o, es, ep, ho, hdat, h⟩ => by
    show wpAny _ _ (dictSize d >>= _) _ _ s
    unfold dictSize
    refine wpAny_bind (wpAny_bind (wpAny_dictEntries ho hdat (wpAny_pure ?_)))
    show wpAny _ _ (Builtin.Dict.pendingCount d >>= _) _ _ s
    refine wpAny_bind (wpAny_pendingCount_other hd ?_)
    refine wpAny_ret_mkInt ?_
    rw [Nat.add_zero]; exact h
theorem call_lenE {prog : Program} {w : World} {A : Around} {E : Value → Shared → Prop} {s : Shared} {d : Addr} {o : Obj} {es : Array DictEntry} {ep : Nat} {Q : Value → Shared → Prop} (hd : (d == sysModules) = false) (ho : s.heap.get? d = some o) (hc : o.cls = .type "dict") (hdat : o.data = .dict es ep) (hfit : (es.size : Int) < 2 ^ 63)
    (h : Q (.int es.size (s.toks + 1)) { s with toks := s.toks + 1 + 1 }) : wpAny (model prog w) A (call (.builtin "len") [.ref d]) Q E s := by
  have hT : s.TypeIs (.ref d) "dict" := ⟨o, ho, hc⟩
  refine Calls.call_function_entry kind_len plain_len entry_len (args_len1 _) ?_
  unfold Builtin.«len»
  refine wpAny_bind (m := oneArg "len" _) (wpAny_pure ?_)
  refine wpAny_bind (m := callSpecial? (.ref d) (Str.ofString "__len__")) (wpAny_callSpecial?_slot (name := Str.ofString "__len__") hT F.slot_dict_len
    (call_meetsIn F.slot_dict_len hT F.entry_dict_len (F.args_dict_len_1 _) (meets_lenE hd) ⟨o, es, ep, ho, hdat, ?_⟩))
  show wpAny _ _ _ _ _ { s with toks := s.toks + 1 }
  refine wpAny_bind (wpAny_holding (wpAny_pure ?_))
  refine wpAny_bind (wpAny_letGo ?_)
  show wpAny _ _ (if ((es.size : Nat) : Int) < 0 then _ else _) _ _ _
  rw [if_neg (by omega)]
  show wpAny _ _ (if ((es.size : Nat) : Int) ≥ 2 ^ 63 then _ else _) _ _ _
  rw [if_neg (by omega)]
  exact wpAny_bind (wpAny_mkInt (wpAny_pure ⟨_, rfl, h⟩))
theorem call_lenDT {X : Cx} : CallR X (.builtin "len") (fun xs H Q => ∃ a kvs, xs = [V.ref a] ∧ H a = some (.dT kvs) ∧ Q (.int kvs.length) H) := by
  intro pins s σ H xs us Q I r h
  obtain ⟨a, kvs, rfl, ha, q⟩ := h
  obtain ⟨u, rfl, ru⟩ := vals1 r
  cases ru
  obtain ⟨z, hd, xs, rel, o, es, ep, ho, hc, hdat, he, _⟩ := dt_of I.hok ha
  have hs : es.size = kvs.length := by
    have e1 : es.size = xs.length := by rw [← Array.length_toList, he, List.length_map]
    rw [e1, ← rel.length]
  refine call_lenE hd ho hc.1 hdat (by rw [sizeLine_eq] at z; omega) ?_
  rw [hs]
  exact ⟨.int kvs.length, H, I.tok _, ⟨_, rfl⟩, q⟩
end L2
namespace L2
open PySem PySem.Spec PyProof.Rows
section
variable {prog : Program} {w : World} {K : Type} [DecidableEq K] {knd : HeapKind prog w K} {A : Around} {E : Value → Shared → Prop} {s : Shared}
end
end L2
namespace L2
open PySem PySem.Spec PyProof.Rows
/-! ### list(d) of a dict whose keys are tuples -/
def RawD (h : Heap) (d : Addr) (es : Array DictEntry) (ep : Nat) : Prop := ∃ o, h.get? d = some o ∧ o.ExactDict ∧ o.data = .dict es ep
theorem RawD.ty {s : Shared} {d : Addr} {es : Array DictEntry} {ep : Nat} (r : RawD s.heap d es ep) : s.TypeIs (.ref d) "dict" := let ⟨o, ho, hc, _⟩ := r; ⟨o, ho, hc.1⟩
section
variable {prog : Program} {w : World} {A : Around} {E : Value → Shared → Prop} {s : Shared} {d it : Addr} {es : Array DictEntry} {ep i : Nat}
end
end L2
namespace L2
open PySem PySem.Spec PyProof.Rows
/-! ### list comprehensions whose target is a tuple of names -/
def tCompM (wi : TI) (k : Nat) (ix : List Nat) (g : TG) (tt : TT) (te : TE) (h : HidC g tt te) : TE := fun σ H Q => wi σ H fun J H1 => ∀ D, H1 D = none → Comp g tt te h J (List.replicate k none ++ ix.map fun i => (σ[i]?).join) D (fun H' => Q (.ref D) H') H1
section
variable {X : Cx}
theorem comp_blockM {pins : List (Addr × Obj)} {σ : St} {H2 : Hp} {s2 : Shared} {it : Addr} {fp : List Addr} {tn : Nat → Heap → Prop} {J : It} {tg iter elt : Expr} {ifs : List Expr} {scope : Scope} {cl : List (Str × Addr)} {pos : Pos} {x : Str} {xs fs : List Str} {ix : List Nat} {g : TG} {tt : TT} {te : TE}
    {Qf : Addr → Hp → Prop} {E : Value → Shared → Prop} {RR : Value → Addr → Result → Shared → Prop}
    (I2 : Inv X pins σ H2 s2) (T : Turn X.prog X.w X.K tg J fp it tn) (st2 : tn 0 s2.heap) (f2 : ∀ b ∈ fp, FpOk X pins H2 b) (hc : X.calm = true) (S : CompSc scope X.env x fs)
    (c1 : ∀ n c, cl.lookup n = some c → X.env.cells.lookup n = some c) (c2 : ∀ n, (n, NameKind.free) ∈ scope.names → ∃ c, cl.lookup n = some c) (hix : ix.map (X.N[·]?) = fs.map some)
    (hg : ∀ C s₀ H₀ xe, PG (cxComp X scope cl C (xs ++ fs) s₀ H₀ fp xe) tg g) (hf : ∀ C s₀ H₀ xe, PF (cxComp X scope cl C (xs ++ fs) s₀ H₀ fp xe) ifs tt) (he : ∀ C s₀ H₀ xe, PE (cxComp X scope cl C (xs ++ fs) s₀ H₀ fp xe) elt te)
    (h : ∀ D, H2 D = none → Comp g tt te .mk J (List.replicate xs.length none ++ ix.map fun i => (σ[i]?).join) D (Qf D) H2)
    (fin : ∀ D C H' s', Inv X pins σ H' s' → Qf D H' → (∃ m, s'.heap.Ns C m) → FpOk X pins H' C → RR (.ref D) C (.ok .next) s') :
    wpAny (model X.prog X.w) X.A (newList []) (fun acc s₃ => wpAny (model X.prog X.w) X.A (newFunctionEnv scope X.env.globals cl [] X.env.qual none .none (some X.env)) (fun cenv s₄ =>
      codeAny (model X.prog X.w) X.A (.compStart (.ListComp elt [⟨tg, iter, ifs, 0⟩] scope pos) 0 (.ref it) acc { cenv with scope := relabel scope X.env }) (RR acc cenv.locals) s₄) E s₃) E s2 := by
  have hD : H2 s2.heap.objs.size = none := I2.hok.fresh (Nat.le_refl _)
  obtain ⟨W, ⟨m0, w0⟩, turn⟩ := h _ hD
  refine wpAny_newObj_type (wpAny_newFunctionEnv S.nocell (by intro y hy; simp at hy) (fun h₁ hns₁ hsb₁ => ?_) S.kind)
  have I3 : Inv X pins σ (upd H2 s2.heap.objs.size (.lst [])) { s2 with heap := s2.heap.push { cls := .type "list", dict := none, data := .seq ([] : List Value).toArray } } :=
    I2.laid (t' := s2.toks) (fun b u e => Heap.get?_push_of_some _ e) (Nat.le_refl _) ⟨by decide, [], 0, .nil, Heap.get?_push_size _ rfl⟩
  obtain ⟨e3, he3⟩ : ∃ s3 : Shared, s3 = { s2 with heap := s2.heap.push { cls := .type "list", dict := none, data := .seq ([] : List Value).toArray } } := ⟨_, rfl⟩
  rw [← he3] at I3
  have hh3 : s2.heap.push { cls := .type "list", dict := none, data := .seq ([] : List Value).toArray } = e3.heap := by rw [he3]
  have sz3 : e3.heap.objs.size = s2.heap.objs.size + 1 := by rw [← hh3, Heap.size_push]
  dsimp only at hns₁ hsb₁ ⊢
  rw [hh3] at hns₁ hsb₁ ⊢
  generalize hH3 : upd H2 s2.heap.objs.size (.lst []) = H3 at *
  -- the iterator's objects: older than the list
  have live : ∀ b ∈ fp, b < s2.heap.objs.size := fun b hb => let ⟨_, e, _⟩ := T.obj _ _ st2 b hb; Heap.lt_size e
  have f3 : ∀ b ∈ fp, FpOk X pins H3 b := fun b hb => by
    refine ⟨?_, (f2 b hb).2⟩
    rw [← hH3, upd_ne (Nat.ne_of_lt (live b hb))]
    exact (f2 b hb).1
  have C0 : FpOk X pins H3 e3.heap.objs.size := I3.fpOk (Nat.le_refl _) (I3.hok.fresh (Nat.le_refl _))
  have old3 : ∀ b o, e3.heap.get? b = some o → h₁.get? b = some o := fun b o e => hsb₁.extBut b o (Nat.ne_of_lt (Heap.lt_size e)) (Heap.get?_push_of_some _ e)
  have nofs : ∀ b ∈ fp, b ∉ frs X.stack := fun b hb z => (List.mem_cons.mp (I3.stkSub b z)).elim (f3 b hb).2.1 (f3 b hb).2.2.1
  have hst1 : tn 0 h₁ := T.keep _ _ _ st2 fun b _ o e => old3 b o (by rw [← hh3]; exact Heap.get?_push_of_some _ e)
  have e0 := I3.env0
  have ok : ∀ xe, (cxComp X scope cl e3.heap.objs.size (xs ++ fs) e3 H3 fp xe).Ok := fun xe => by
    refine ⟨I3.ok.mod, S.kind, I3.ok.glob, I3.ok.blt, Nat.le_refl _, fun y z c h1 h2 => I3.ok.inj y z c (c1 _ _ h1) (c1 _ _ h2), fun y hy => ?_, fun y c z => ?_, I3.ok.hd, I3.ok.frames, .inl rfl, fun b hb => ⟨?_, fun y c e => (f3 b hb).2.2.2.2.1 y c (c1 _ _ e)⟩, e0.bs, e0.bsz, fun b o e hb => ?_, nofs, e0.funs, e0.frf⟩
    · have q : scope.names.lookup y = some .free ∨ scope.names.lookup y = some .cell := by
        rcases hy with hy | hy
        · exact relabel_kind hy (.inl rfl)
        · exact relabel_kind hy (.inr rfl)
      rcases q with q | q
      · exact c2 y (PySem.mem_of_lookup q)
      · exact absurd rfl (S.nocell _ (PySem.mem_of_lookup q))
    · cases z
    · exact Nat.ne_of_lt (Nat.lt_of_lt_of_le (live b hb) (by rw [sz3]; exact Nat.le_succ _))
    · rcases (f3 b hb).2.2.2.1 with z | z
      · exact I3.ok.noex b o e z
      · exact absurd (Nat.lt_of_lt_of_le (Heap.lt_size e) (Nat.le_trans I3.ok.bsz z)) (Nat.lt_irrefl _)
  have cellUp : ∀ c v, e3.heap.IsCell c v → h₁.IsCell c v := fun c v ⟨o, ho, hd⟩ => ⟨o, old3 _ _ ho, hd⟩
  have J0 : ∀ xe, Inv (cxComp X scope cl e3.heap.objs.size (xs ++ fs) e3 H3 fp xe) [] (List.replicate xs.length none ++ ix.map fun i => (σ[i]?).join) H3 { e3 with heap := h₁, toks := e3.toks + ([] : List (Str × Value)).length } := fun xe => by
    have hk : ∀ b o, e3.heap.get? b = some o → h₁.get? b = some o := old3
    refine ⟨ok xe, rfl, I3.bare, Un.kept hk, ⟨_, hns₁, fun i y v h1 h2 h3 => ?_⟩, fun y c e => ?_, I3.hok.fresh (Nat.le_refl _), fun y c e => I3.freeC y c (c1 _ _ e), fun p hp => absurd (show p ∈ ([] : List (Addr × Obj)) from hp) (by simp), I3.hok.kept hk, ?_⟩
    · by_cases hlt : i < xs.length
      · have h2 : (List.replicate xs.length (none : Option V) ++ ix.map fun i => (σ[i]?).join)[i]? = some (some v) := h2
        rw [List.getElem?_append_left (by rw [List.length_replicate]; exact hlt)] at h2
        have z := List.eq_of_mem_replicate (List.mem_of_getElem? h2)
        cases z
      · have h1 : (xs ++ fs)[i]? = some y := h1
        have h2 : (List.replicate xs.length (none : Option V) ++ ix.map fun i => (σ[i]?).join)[i]? = some (some v) := h2
        rw [List.getElem?_append_right (by omega)] at h1
        rw [List.getElem?_append_right (by rw [List.length_replicate]; omega), List.length_replicate] at h2
        generalize i - xs.length = i at h1 h2
        have hy := S.fs y (List.mem_of_getElem? h1)
        rw [List.getElem?_map] at h2
        cases ej : ix[i]? with
        | none => rw [ej] at h2; cases h2
        | some j =>
          rw [ej] at h2
          have h2 : (σ[j]?).join = some v := Option.some.inj h2
          have hσ : σ[j]? = some (some v) := by
            cases q : σ[j]? with
            | none => rw [q] at h2; cases h2
            | some o => rw [q] at h2; cases o with
              | none => cases h2
              | some o => cases h2; rfl
          have hN : X.N[j]? = some y := by
            have z := congrArg (·[i]?) hix
            simp only [List.getElem?_map, ej, h1, Option.map_some] at z
            exact Option.some.inj z
          have kf := S.fr _ (PySem.mem_of_lookup hy) rfl
          obtain ⟨m, hn, hl⟩ := I3.loc
          obtain ⟨u, r, l⟩ := hl j y v hN hσ (by rcases kf with k | k; exact .inr (.inl k); exact .inr (.inr k))
          refine ⟨u, r, .inr ⟨relabel_free hy, ?_⟩⟩
          rcases l with ⟨l, _⟩ | ⟨_, c, e, z⟩
          · rcases kf with k | k <;> (rw [l] at k; cases k)
          · obtain ⟨c', e'⟩ := c2 y (PySem.mem_of_lookup hy)
            have q := c1 _ _ e'
            rw [e] at q; cases q
            exact ⟨c, e', cellUp _ _ z⟩
    · obtain ⟨v, z⟩ := I3.cell y c (c1 _ _ e)
      exact ⟨v, cellUp _ _ z⟩
    · have z := congrArg List.length hix
      simp only [List.length_map] at z
      show (List.replicate xs.length none ++ _ : St).length = (xs ++ fs).length
      rw [List.length_append, List.length_append, List.length_replicate, List.length_map, z]
  have back : ∀ {xe σ' H' s'}, Inv (cxComp X scope cl e3.heap.objs.size (xs ++ fs) e3 H3 fp xe) [] σ' H' s' → Inv X pins σ H' s' := fun {xe σ' H' s'} J =>
    I3.call' (s' := s') (ch := fp) J.os J.base J.hok J.bare fun b hb => ⟨(f3 b hb).2.2.2.1, (f3 b hb).2.1, (f3 b hb).2.2.2.2.1, (f3 b hb).2.2.2.2.2⟩
  have stat : ∀ {xe} {H' : Hp}, (∀ b ∈ fp, H' b = none) → ∀ b ∈ fp, FpOk (cxComp X scope cl e3.heap.objs.size (xs ++ fs) e3 H3 fp xe) [] H' b := fun {xe H'} hn b hb =>
    ⟨hn b hb, Nat.ne_of_lt (Nat.lt_of_lt_of_le (live b hb) (by rw [sz3]; exact Nat.le_succ _)), nofs b hb, .inl hb, fun y c e => (f3 b hb).2.2.2.2.1 y c (c1 _ _ e), fun p hp => absurd (show p ∈ ([] : List (Addr × Obj)) from hp) (by simp)⟩
  have loop : ∀ s4 : Shared, s4 = { e3 with heap := h₁, toks := e3.toks + ([] : List (Str × Value)).length } →
      codeAny (model X.prog X.w) X.A (.compLoop (.ListComp elt [⟨tg, iter, ifs, 0⟩] scope pos) 0 (.ref it) (.ref s2.heap.objs.size) (compEnvC scope cl e3.heap.objs.size X.env)) (RR (.ref s2.heap.objs.size) e3.heap.objs.size) s4 := by
    rintro s4 rfl
    let xe := notedBy (model X.prog X.w) X.A (compEnvC scope cl e3.heap.objs.size X.env) fun e s' => RR (.ref s2.heap.objs.size) e3.heap.objs.size (.error e) s'
    refine compLoop_turn (fun n s' => ∃ i ys σ' H', Inv (cxComp X scope cl e3.heap.objs.size (xs ++ fs) e3 H3 fp xe) [] σ' H' s' ∧ tn i s'.heap ∧ (∀ b ∈ fp, H' b = none) ∧ W i n ys σ' H') ?_ m0 ⟨0, [], _, _, J0 xe, hst1, fun b hb => (f3 b hb).1, w0⟩
    rintro n s5 ⟨i, ys, σ5, H5, J5, st5, fr5, w5⟩
    rcases turn i n ys σ5 H5 w5 with ⟨stop, qn⟩ | ⟨go, N, hN, step⟩
    · refine thn (T.done (cxComp X scope cl e3.heap.objs.size (xs ++ fs) e3 H3 fp xe) rfl rfl rfl hc i [] s5 σ5 H5 xe J5 (stat fr5) st5 stop) fun r s6 ⟨hr, J6⟩ => ?_
      subst hr
      obtain ⟨m, hn, _⟩ := J6.loc
      exact fin _ _ H5 s6 (back J6) qn ⟨m, hn⟩ ⟨J6.free, C0.2⟩
    · refine thn (T.item (cxComp X scope cl e3.heap.objs.size (xs ++ fs) e3 H3 fp xe) rfl rfl rfl hc i [] s5 σ5 H5 xe J5 (stat fr5) st5 go) fun r s6 ⟨u, hr, h6⟩ => ?_
      subst hr
      refine thn h6 fun _ s7 ⟨y, H7, J7, r7, y7, st7, fr7⟩ => ?_
      have J7' := J7.pinned (stat fr7) (T.obj _ _ st7)
      refine thn (hg _ _ _ xe _ s7 σ5 H7 y u _ J7' r7 (step y H7 y7)) fun _ s8 ⟨σ8, H8, J8, q8⟩ => ?_
      refine thn (hf _ _ _ xe _ s8 σ8 H8 _ J8 q8) fun ok s8' ⟨H8', J8', q8'⟩ => ?_
      cases ok with
      | false =>
        obtain ⟨m', hm', w9⟩ := hN _ _ _ (by simpa using q8')
        refine ⟨m', hm', i + 1, ys, σ8, _, J8'.unpinned, T.keep _ _ _ st7 fun b hb o e => (J8'.pin (b, o) (List.mem_append_right _ (List.mem_append_right _ (mem_pinsAt hb e)))).1, fun b hb => ?_, w9⟩
        obtain ⟨o, e, d⟩ := T.obj _ _ st7 b hb
        exact (J8'.pin (b, o) (List.mem_append_right _ (List.mem_append_right _ (mem_pinsAt hb e)))).2.1
      | true =>
      rw [if_pos rfl] at q8' ⊢
      refine thn (he _ _ _ xe _ s8' σ8 H8' _ J8' q8') fun uv s9 ⟨v, H9, J9, r9, hD9, hl9, n9⟩ => ?_
      obtain ⟨m', hm', w9⟩ := hN _ _ _ n9
      refine thn (mt_append (X := cxComp X scope cl e3.heap.objs.size (xs ++ fs) e3 H3 fp xe) _ s9 σ8 H9 (.ref s2.heap.objs.size) [v] _ [uv] (fun _ H' => H' = upd H9 s2.heap.objs.size (.lst (ys ++ [v]))) J9 rfl (.cons r9 .nil) ⟨_, ys, v, rfl, rfl, hD9, hl9, rfl⟩) fun _ s10 ⟨_, H10, J10, _, eH⟩ => ?_
      subst eH
      refine ⟨m', hm', i + 1, ys ++ [v], σ8, _, J10.unpinned, T.keep _ _ _ st7 fun b hb o e => (J10.pin (b, o) (List.mem_append_right _ (List.mem_append_right _ (mem_pinsAt hb e)))).1, fun b hb => ?_, w9⟩
      obtain ⟨o, e, d⟩ := T.obj _ _ st7 b hb
      exact (J10.pin (b, o) (List.mem_append_right _ (List.mem_append_right _ (mem_pinsAt hb e)))).2.1
  subst he3
  exact codeAny_compStart_list (loop _ rfl) (T.self X.A 0 _ _ _ hst1 (loop _ rfl))
/-- [elt for tg in iter], its value kept -/
theorem pe_compM {tg iter elt : Expr} {ifs : List Expr} {scope : Scope} {pos : Pos} {x : Str} {xs fs : List Str} {ix : List Nat} {wi : TI} {g : TG} {tt : TT} {te : TE} (hc : X.calm = true) (hi : PI X tg iter wi) (hk : compChk scope X.env x fs = true) (hix : ix.map (X.N[·]?) = fs.map some)
    (hg : ∀ cl C s₀ H₀ fp xe, PG (cxComp X scope cl C (xs ++ fs) s₀ H₀ fp xe) tg g) (hf : ∀ cl C s₀ H₀ fp xe, PF (cxComp X scope cl C (xs ++ fs) s₀ H₀ fp xe) ifs tt) (he : ∀ cl C s₀ H₀ fp xe, PE (cxComp X scope cl C (xs ++ fs) s₀ H₀ fp xe) elt te) (hs : ∀ x, foldedSetIterable iter X.env x = pure x := by intro _; rfl) :
    PE X (.ListComp elt [⟨tg, iter, ifs, 0⟩] scope pos) (tCompM wi xs.length ix g tt te .mk) := by
  intro pins s σ H Q I h
  have S := CompSc.of hk
  obtain ⟨cl, hcl, c1, c2⟩ := S.clos I
  rw [eval_ListComp]
  refine wpAny_comprehension_free (use := none) rfl hs hcl S.kind S.own (thn (hi pins s σ H _ I h) fun v s1 h1 => thn h1 fun itv s2 h2 => ?_)
  obtain ⟨it, fp, tn, J, H2, e, I2, T, st2, f2, q⟩ := h2
  subst e
  refine comp_blockM (xs := xs) (RR := fun acc C => compPost (model X.prog X.w) X.A X.xe none (EP X pins σ Q) acc C) I2 T st2 f2 hc S c1 c2 hix (fun C s₀ H₀ xe => hg cl C s₀ H₀ fp xe) (fun C s₀ H₀ xe => hf cl C s₀ H₀ fp xe) (fun C s₀ H₀ xe => he cl C s₀ H₀ fp xe) q fun D C H' s' I' q' ⟨m, hn⟩ ⟨f0, f1, _, f3, f4, f5⟩ => ?_
  exact ⟨m, hn, fun h' hs' => ⟨.ref D, H', I'.turned (t' := s'.toks) (fun b o hb e => (hs'.2 b hb).trans e) f0 f1 f3 f4 f5, rfl, q'⟩⟩
end
/-! ### sorted(d.keys()), d's keys ints -/
def keysO (v d : Addr) : HO := .ext fun h => PySem.W.KdlKeysView h v d
def tKeys (td : TE) : TE := fun σ H Q => td σ H fun x H1 => ∃ a kvs, x = .ref a ∧ H1 a = some (.dK kvs) ∧ ∀ v, H1 v = none → Q (.ref v) (upd H1 v (keysO v a))
theorem pe_dkeys {X : Cx} {o : Expr} {td : TE} {apos cpos : Pos} (ho : PE X o td) (hbase : attributeBase o "keys" X.env (eval o X.env) = eval o X.env := by rfl) (hline : (apos.endLine == cpos.line) = true := by rfl) : PE X (.Call (.Attribute o "keys" apos) [] [] cpos) (tKeys td) := by
  intro pins s σ H Q I h
  refine wpAny_Call_method0_late hbase hline (thn (ho pins s σ H _ I h) fun u s1 ⟨x, H1, I1, rx, a, kvs, ex, hd, q⟩ => ?_)
  subst ex
  obtain rfl : u = Value.ref a := rx
  obtain ⟨t1, t2, _⟩ := isD_at I1 (.inl ⟨kvs, .inl hd⟩)
  obtain ⟨_, nd, vs, _, dd⟩ := dk_rd I1.hok (.inl hd)
  refine ⟨"dict", "dict.keys", PySem.F.plainAttrs_dict, PySem.F.slot_dict_keys, PySem.F.type_dict_keys, t1, t2, Calls.callWith_builtin rfl (PySem.evalArgs_none ?_)⟩
  refine call_meetsIn PySem.F.slot_dict_keys dd.typeIs PySem.F.entry_dict_keys (PySem.F.args_dict_keys_1 _) (PySem.W.kdl_meets_keys (mixKind X.prog X.w) a nd) ⟨⟨vs, dd⟩, ?_⟩
  refine ⟨.ref s1.heap.objs.size, _, I1.laid (t' := s1.toks) (fun b u e => Heap.get?_push_of_some _ e) (Nat.le_refl _) (o := keysO s1.heap.objs.size a) ⟨⟨_, Heap.get?_push_size _ rfl, rfl, rfl⟩, ⟨_, Heap.get?_push_size _ rfl⟩, fun h1 h2 ⟨o, e, c, d⟩ k => ⟨o, k o e, c, d⟩⟩, rfl, q _ (I1.hok.fresh (Nat.le_refl _))⟩
theorem call_sortedK {X : Cx} (hc : X.calm = true) : CallR X (.builtin "sorted") (fun xs H Q => ∃ (v p : Addr) (kvs : List (Key × V)) (ns : List Int), xs = [.ref v] ∧ H v = some (keysO v p) ∧ H p = some (.dK kvs) ∧ kvs.map (·.1) = ns.map Sum.inl ∧ ns.length < 64 ∧
    ∀ l ms, H l = none → List.Perm ms ns → ms.Pairwise (· ≤ ·) → Q (.ref l) (upd H l (.lst (ms.map V.int)))) := by
  intro pins s σ H xs us Q I r h
  obtain ⟨v, p, kvs, ns, rfl, hv, hp, hk, h64, q⟩ := h
  obtain ⟨u, rfl, rx⟩ := vals1 r
  cases rx
  obtain ⟨_, hd, vs, rel, dd⟩ := dk_rd I.hok (.inl hp)
  obtain ⟨ep, hat⟩ := dd.dictAt
  have hvw : PySem.W.KdlKeysView s.heap v p := (I.hok v _ hv).1
  have hlen : vs.length = ns.length := by
    have := congrArg List.length hk
    rw [List.length_map, List.length_map] at this
    rw [← rel.length, this]
  refine sorted_src (PySem.W.kdl_keys (knd := mixKind X.prog X.w) (kvs := vs) (ep := ep) (r := v) (d := p)) (I.ok.hd hc) ⟨hvw, hat⟩ ns hlen h64 (fun j x hx => ?_) fun h1 h' l tk out e ms k0 k1 k2 k3 a1 a2 a3 => ?_
  · obtain ⟨k, y, hy, hk2⟩ := hx
    obtain ⟨v2, hv2, _⟩ := kv_at rel j k y hy
    have e1 : (kvs.map (·.1))[j]? = some k := by rw [List.getElem?_map, hv2]; rfl
    rw [hk, List.getElem?_map] at e1
    cases e2 : ns[j]? with
    | none => rw [e2] at e1; cases e1
    | some i =>
      rw [e2] at e1
      cases e1
      obtain ⟨t, ev⟩ := Value.isInt_shape (k := i) (v := x) hk2
      exact ⟨t, i, rfl, ev⟩
  · have hl := a2.length_eq
    have I1 : Inv X pins σ H { s with heap := h1, toks := tk } := I.kept (t' := tk) k0
    exact ⟨.ref l, _, I1.laid (t' := tk) k1 k2 (show ObjOk X.prog X.w _ _ _ (.lst (ms.map V.int)) from ⟨by rw [List.length_map, hl, sizeLine_eq]; omega, out.toList, e, of_ints a1, k3⟩), rfl, q _ _ (I1.hok.fresh k2) a2 a3⟩
theorem pg_tupC {X : Cx} {K : PySem.W.Frag} {es : List Expr} {k : Nat} {pos : Pos} {t : TGs} {n : Nat} (h : X.K = K) (hc : X.calm = true) (hs : PGs X es t) (hn : (assignEach es X.env).length = n := by rfl) (hst : (assignEach es X.env).findIdx? (·.1) = none := by rfl) : PG X (.Tuple es k pos) (gTup K n t) := h ▸ pg_tup hc hs hn hst
theorem pe_fldC {X : Cx} {K : PySem.W.Frag} {e : Expr} {f : Str} {pos : Pos} {ta : TE} (h : X.K = K) (he : PE X e ta) (hb : attributeBase e f X.env (eval e X.env) = eval e X.env) : PE X (.Attribute e f pos) (tFld K ta f) := h ▸ pe_fld he hb
end L2
namespace L2
open PySem PySem.Spec PyProof.Rows
/-! ### d.values(), walked -/
def valsO (v d : Addr) : HO := .ext fun h => h.IsValuesView v d
def tVals (td : TE) : TE := fun σ H Q => td σ H fun x H1 => ∃ a kvs, x = .ref a ∧ H1 a = some (.dK kvs) ∧ ∀ v, H1 v = none → Q (.ref v) (upd H1 v (valsO v a))
theorem pe_dvals {X : Cx} {o : Expr} {td : TE} {apos cpos : Pos} (ho : PE X o td) (hbase : attributeBase o "values" X.env (eval o X.env) = eval o X.env := by rfl) (hline : (apos.endLine == cpos.line) = true := by rfl) : PE X (.Call (.Attribute o "values" apos) [] [] cpos) (tVals td) := by
  intro pins s σ H Q I h
  refine wpAny_Call_method0_late hbase hline (thn (ho pins s σ H _ I h) fun u s1 ⟨x, H1, I1, rx, a, kvs, ex, hd, q⟩ => ?_)
  subst ex
  obtain rfl : u = Value.ref a := rx
  obtain ⟨t1, t2, _⟩ := isD_at I1 (.inl ⟨kvs, .inl hd⟩)
  obtain ⟨_, nd, vs, _, dd⟩ := dk_rd I1.hok (.inl hd)
  refine ⟨"dict", "dict.values", PySem.F.plainAttrs_dict, PySem.F.slot_dict_values, PySem.F.type_dict_values, t1, t2, Calls.callWith_builtin rfl (PySem.evalArgs_none ?_)⟩
  refine call_meetsIn PySem.F.slot_dict_values dd.typeIs PySem.F.entry_dict_values (PySem.F.args_dict_values_1 _) (meets_dict_values (mixKind X.prog X.w) a nd) ⟨⟨vs, dd⟩, ?_⟩
  refine ⟨.ref s1.heap.objs.size, _, I1.laid (t' := s1.toks) (fun b u e => Heap.get?_push_of_some _ e) (Nat.le_refl _) (o := valsO s1.heap.objs.size a) ⟨⟨_, Heap.get?_push_size _ rfl, rfl, rfl⟩, ⟨_, Heap.get?_push_size _ rfl⟩, fun h1 h2 ⟨o, e, c, d⟩ k => ⟨o, k o e, c, d⟩⟩, rfl, q _ (I1.hok.fresh (Nat.le_refl _))⟩
def Itw (a : Addr) (o : Obj) (kvs : List (Key × V)) : It :=
  ⟨fun i H => H a = some (.frz o (.dK kvs)) ∧ i < kvs.length, fun i H x H' => H' = H ∧ ∃ k, kvs[i]? = some (k, x), fun i H => H a = some (.frz o (.dK kvs)) ∧ kvs.length ≤ i⟩
theorem turn_vals {P : Program} {w : World} {K : PySem.W.Frag} {tg : Expr} (a it : Addr) (o : Obj) (kvs : List (Key × V)) (ep : Nat) {es} (he : o.data = .dict es ep) : Turn P w K tg (Itw a o kvs) [it] it (fun i h => h.IsValIter it a i kvs.length ep) where
  mem := by simp
  obj := fun i h st b hb => by
    have e : b = it := by simpa using hb
    subst e
    obtain ⟨o, e, c, d⟩ := st
    exact ⟨o, e, fun v z => by rw [d] at z; cases z⟩
  keep := fun i h h' st k => st.at fun o e => k it (by simp) o e
  item := by
    intro X hP hw hK hc i pins s σ H E I hf st hg
    subst hP hw hK
    obtain ⟨hg, hi⟩ := hg
    obtain ⟨vs, rel, dat, _⟩ := frz_at I hg he
    obtain ⟨f0, f1, f2, f3, f4, f5⟩ := hf it (by simp)
    have hl := rel.length
    have hi2 : i < vs.length := by rw [← hl]; exact hi
    obtain ⟨⟨k, x⟩, hx⟩ : ∃ p, vs[i]? = some p := ⟨_, List.getElem?_eq_getElem hi2⟩
    obtain ⟨v, hv, rv⟩ := kv_at rel i k x hx
    rw [hl] at st
    refine wpAny_pyNext_values_item st dat hx fun h' st' sb => ?_
    have I1 : Inv X pins σ H { s with heap := h' } := I.turned (t' := s.toks) (fun b o hb e => (sb.2 b hb).trans e) f0 f1 f3 f4 f5
    obtain ⟨ob, e, c, d⟩ := id st'
    rw [← hl] at st'
    exact ⟨x, rfl, go_of (s := { s with heap := h' }) e c d (by decide) ⟨v, H, I1, rv, ⟨rfl, k, hv⟩, st', fun b hb => (hf b hb).1⟩⟩
  done := by
    intro X hP hw hK hc i pins s σ H E I hf st hg
    subst hP hw hK
    obtain ⟨hg, hi⟩ := hg
    obtain ⟨vs, rel, dat, _⟩ := frz_at I hg he
    obtain ⟨f0, f1, f2, f3, f4, f5⟩ := hf it (by simp)
    have hl := rel.length
    rw [hl] at st
    exact wpAny_pyNext_values_end (I.ok.hd hc) st dat (List.getElem?_eq_none_iff.mpr (by rw [← hl]; exact hi)) fun h' eb => ⟨rfl, I.turned (t' := s.toks) (fun b o hb e => eb b o hb e) f0 f1 f3 f4 f5⟩
  self := fun _ _ _ _ _ st h => wpAny_pyIter_valiter st h
def iVals (tl : TE) : TI := fun σ H R => tl σ H fun x H1 => ∃ v a kvs, x = .ref v ∧ H1 v = some (valsO v a) ∧ H1 a = some (.dK kvs) ∧ ∀ o, R (Itw a o kvs) (upd H1 a (.frz o (.dK kvs)))
theorem pi_vals {X : Cx} {tg l : Expr} {tl : TE} (hl : PE X l tl) : PI X tg l (iVals tl) := by
  intro pins s σ H R I h
  refine thn (hl pins s σ H _ I h) fun v s1 ⟨x, H1, I1, r1, q1⟩ => ?_
  obtain ⟨vw, a, kvs, e, hv, hq, q⟩ := q1
  subst e
  cases r1
  obtain ⟨o, ho, I2⟩ := I1.freeze hq
  obtain ⟨_, _, vs, rel, o', es, ep, ho', c, d, r⟩ := I1.hok a _ hq
  rw [ho] at ho'
  cases ho'
  obtain ⟨vs, rel, dat, hd⟩ := frz_at I2 upd_same d
  have hvw : s1.heap.IsValuesView vw a := (I1.hok vw _ hv).1
  refine wpAny_pyIter_values hvw dat ?_
  have hlen : kvs.length = vs.length := rel.length
  have hfr : upd H1 a (.frz o (.dK kvs)) s1.heap.objs.size = none := I2.hok.fresh (Nat.le_refl _)
  refine ⟨s1.heap.objs.size, [s1.heap.objs.size], _, _, upd H1 a (.frz o (.dK kvs)), rfl, I2.kept (t' := s1.toks) fun b o e => Heap.get?_push_of_some _ e, turn_vals a _ o kvs ep d, ⟨_, Heap.get?_push_size _ rfl, rfl, by rw [hlen]; rfl⟩, fun b hb => ?_, q o⟩
  have e : b = s1.heap.objs.size := by simpa using hb
  subst e
  exact I2.fpOk (Nat.le_refl _) hfr
theorem comp_vals {a : Addr} {o : Obj} {kvs : List (Key × V)} {g : TG} {tt : TT} {te : TE} {h : HidC g tt te} {σ0 : St} {D : Addr} {Q : Hp → Prop} {H : Hp} (Pv : Nat → List V → St → Hp → Prop) (h0 : Pv 0 [] σ0 (upd H D (.lst []))) (hl : ∀ i ys σ H, i ≤ kvs.length → Pv i ys σ H → H a = some (.frz o (.dK kvs)))
    (hs : ∀ i k x ys σ H, kvs[i]? = some (k, x) → Pv i ys σ H → g x σ H fun σ2 H2 => tt σ2 H2 fun b H2' => if b = true then te σ2 H2' fun v H3 => H3 D = some (.lst ys) ∧ ys.length < sizeLine ∧ Pv (i + 1) (ys ++ [v]) σ2 (upd H3 D (.lst (ys ++ [v]))) else Pv (i + 1) ys σ2 H2') (hd : ∀ ys σ H, Pv kvs.length ys σ H → Q H) :
    Comp g tt te h (Itw a o kvs) σ0 D Q H := by
  refine ⟨fun i m ys σ H => i + m = kvs.length ∧ Pv i ys σ H, ⟨kvs.length, Nat.zero_add _, h0⟩, fun i m ys σ H ⟨e, p⟩ => ?_⟩
  have hq := hl i ys σ H (by omega) p
  by_cases hi : i < kvs.length
  · refine .inr ⟨⟨hq, hi⟩, Pv (i + 1), fun ys σ H q => ⟨m - 1, by omega, by omega, q⟩, ?_⟩
    rintro y H' ⟨rfl, k, hy⟩
    exact hs i k y ys σ _ hy p
  · have e' : i = kvs.length := by omega
    subst e'
    exact .inl ⟨⟨hq, Nat.le_refl _⟩, hd ys σ H p⟩
end L2
namespace L2
open PySem PySem.Spec PyProof.Rows
end L2
namespace L2
open PySem PySem.Spec PyProof.Rows
/-! ### sorted(d), one key, a tuple -/
section
variable {prog : Program} {w : World} {A : Around} {E : Value → Shared → Prop} {s : Shared}
end
end L2
namespace L2
open PySem PySem.Spec PyProof.Rows
/-! ### a name read: by a match, that reduces without a trace in the proof -/
def tVarM (i : Nat) : TE := fun σ H Q => match σ[i]? with
  | some (some v) => Q v H
  | _ => False
theorem tVarM_le {i : Nat} {σ : St} {H : Hp} {Q : VK} (h : tVarM i σ H Q) : tVar i σ H Q := by
  unfold tVarM at h
  split at h
  · rename_i v e; exact ⟨v, e, h⟩
  · exact h.elim
theorem pvM {X : Cx} (i : Nat) {x : Str} {pos : Pos} (hN : X.N[i]? = some x := by rfl) (hv : Vis X.env.scope x := by first | exact Or.inl rfl | exact Or.inr (Or.inl rfl) | exact Or.inr (Or.inr rfl)) (hd : (x == ("__debug__" : Str)) = false := by decide)
    (hcd : (x == ("__classdict__" : Str)) = false := by decide) : PE X (.Name x pos) (tVarM i) := fun pins s σ H Q I h => pe_var hN hv hd hcd pins s σ H Q I (tVarM_le h)
theorem rI0_ii {g : Int → Int → V} {i j : Int} {H : Hp} {Q : VK} : rI0 g (.int i) (.int j) H Q = Q (g i j) H := propext ⟨fun ⟨_, _, e1, e2, h⟩ => by cases e1; cases e2; exact h, fun h => ⟨_, _, rfl, rfl, h⟩⟩
theorem rI_ii {C : Int → Int → Prop} {g : Int → Int → V} {i j : Int} {H : Hp} {Q : VK} : rI C g (.int i) (.int j) H Q = (C i j ∧ Q (g i j) H) := propext ⟨fun ⟨_, _, e1, e2, h⟩ => by cases e1; cases e2; exact h, fun h => ⟨_, _, rfl, rfl, h⟩⟩
theorem ex_int {c : Int} {P : Int → Prop} : (∃ i, V.int c = V.int i ∧ P i) = P c := propext ⟨fun ⟨_, e, h⟩ => by cases e; exact h, fun h => ⟨_, rfl, h⟩⟩
theorem ex_bl {c : Bool} {P : Bool → Prop} : (∃ i, V.bl c = V.bl i ∧ P i) = P c := propext ⟨fun ⟨_, e, h⟩ => by cases e; exact h, fun h => ⟨_, rfl, h⟩⟩
theorem ex_ref {c : Addr} {P : Addr → Prop} : (∃ i, V.ref c = V.ref i ∧ P i) = P c := propext ⟨fun ⟨_, e, h⟩ => by cases e; exact h, fun h => ⟨_, rfl, h⟩⟩
end L2
namespace L2
open PySem PySem.Spec PyProof.Rows
section
open PySem.Builtin PySem.Builtin.Str
end
end L2
namespace Hd
open PySem PySem.W PySem.Calls PyProof.Rows
/-- the top's run over a heap that is a tree -/
def runT (tb : String → Option Builtin) (p : Program) (w : World) (n0 : Nat) (ann : Option Value) : Nat → SharedT → Thread → Option SharedT
  | 0, _, _ => none
  | n + 1, s, t => match through t with
    | true => some s
    | false => match stepOk n0 ann t with
      | false => none
      | true => match stepT (denote tb) p w s t with
        | some (s', t') => runT tb p w n0 ann n s' t'
        | none => none
theorem runT_of {tb : String → Option Builtin} {p : Program} {w : World} {n0 : Nat} {ann : Option Value} : ∀ {n : Nat} {s r : SharedT} {t : Thread}, runT tb p w n0 ann n s t = some r → topRun tb p w n0 ann n s.abs t = some r.abs
  | 0, _, _, _, h => by cases h
  | n + 1, s, r, t, h => by
    unfold runT at h
    unfold topRun
    cases he : through t with
    | true => rw [he] at h; cases h; rfl
    | false =>
      rw [he] at h
      cases hk : stepOk n0 ann t with
      | false => rw [hk] at h; cases h
      | true =>
        rw [hk] at h
        cases hs : stepT (denote tb) p w s t with
        | none => rw [hs] at h; cases h
        | some x => obtain ⟨s2, t2⟩ := x; rw [hs] at h; rw [stepT_spec hs]; exact runT_of h
def grow : List Obj → Nat → BT → BT
  | [], _, t => t
  | o :: l, n, t => grow l (n + 1) (t.ins n o)
noncomputable def bootT (P : Params) : BT := grow (boot_heap P).objs.toList 0 .nil
noncomputable def bootS (w : World) (os : OsState) : SharedT := ⟨bootT w.params, (boot_heap w.params).objs.size, (boot_heap w.params).life, #[], boot_drawn, boot_toks, os⟩
theorem boot_abs (w : World) (os : OsState) : (bootS w os).abs = ⟨boot_heap w.params, #[], boot_drawn, boot_toks, os⟩ := by kernel_rfl
theorem boot_size (w : World) : ((boot_heap w.params).isNs mainGlobals && (#[] : Array GenState).size == 0) = true := by kernel_rfl
noncomputable abbrev ann0 (w : World) : Option Value := (boot_heap w.params).nsMap mainGlobals "__annotations__"
def look {α : Type} (p q : Program) (loose : List Str) (Xt : Shared → Bool) (Yf : Shared → α) (H0 : Heap) (s : Shared) :=
  (staticsOk (importedModules p.main.body) H0 s.heap && namesBound p s.heap && gensDone s && laidKept H0 s.heap, openSeen q loose (importedModules p.main.body) Xt true s, Yf s)
noncomputable def once {α : Type} (p q : Program) (loose : List Str) (Xt : Shared → Bool) (Yf : Shared → α) (N : Nat) (w : World) (os : OsState) :=
  (runT treeTable p w (boot_heap w.params).objs.size (ann0 w) N (bootS w os) (topStub p)).map fun s => look p q loose Xt Yf (boot_heap w.params) s.abs
theorem left_once {p q : Program} {loose : List Str} {Xt : Shared → Bool} {α : Type} {Yf : Shared → α} {Ya : World → α} {N : Nat}
    (e : opening p = plainProg p.main.scope.names) (hN : Nat.ble 600 N = true) (f : ∀ s, fenceModules? p s = some s)
    (all : ∀ (w : World) (os : OsState), once p q loose Xt Yf N w os = some (true, openGood q loose, Ya w)) : LeftO p q loose Xt Yf Ya N := fun w => by
  obtain ⟨⟨h, gs, d, k, os⟩, e1, e2⟩ := Option.map_eq_some_iff.mp (boot_open e hN f w)
  obtain ⟨rfl, rfl, rfl, rfl⟩ : h = boot_heap w.params ∧ gs = #[] ∧ d = boot_drawn ∧ k = boot_toks := by simpa using e2
  obtain ⟨sT, r, l⟩ := Option.map_eq_some_iff.mp (all w os)
  have r := runT_of r
  rw [boot_abs] at r
  obtain ⟨l1, l2, l3⟩ : _ ∧ _ ∧ _ := by simpa only [look, Prod.mk.injEq] using l
  have t : topFrom treeTable p w N ⟨boot_heap w.params, #[], boot_drawn, boot_toks, os⟩ = some sT.abs := by
    unfold topFrom
    dsimp only
    rw [boot_size w, r]
    show (match staticsOk (importedModules p.main.body) (boot_heap w.params) sT.abs.heap && namesBound p sT.abs.heap && gensDone sT.abs && laidKept (boot_heap w.params) sT.abs.heap with | true => _ | false => _) = _
    rw [l1]
  unfold openEnds
  rw [e1]
  show (topFrom treeTable p w N _).map _ = _
  rw [t]
  exact congrArg some (Prod.ext l2 l3)
end Hd
namespace Hd
open PySem PySem.W
/-- a text by one number: its signs as digits of 256, each one more -/
def dig : Nat → Nat → List Nat
  | 0, _ => []
  | k + 1, n => match Nat.beq n 0 with
    | true => []
    | false => Nat.sub (n % 256) 1 :: dig k (n / 256)
def S (n : Nat) : Str := ⟨⟨dig 200 n⟩⟩
def ent (P : Params) (x : Str) (t : Nat) (v : Value) : DictEntry := ⟨PyData.keyHash P x, .str x t, v⟩
def dO (n : Nat) (l : List DictEntry) : Obj := ⟨.type "dict", none, .dict ⟨l⟩ n, #[]⟩
def tO (l : List Value) : Obj := ⟨.type "tuple", none, .seq ⟨l⟩ 0, #[]⟩
def cO (l : List Value) : Obj := ⟨.type "code", none, .fields ⟨l⟩, #[]⟩
end Hd
set_option hygiene false in
local macro_rules | `(tactic| walk_at "wp") => `(tactic| simp only [↓L2.rI0_ii, ↓L2.rI_ii, ↓L2.ex_int, ↓L2.ex_bl, ↓L2.ex_ref, L2.tSeq, L2.tNext, L2.tAsg, L2.gName, L2.tRet, L2.tRetN, L2.tDrop, L2.tIfS, L2.tTest, L2.tB, L2.tOp, L2.tUn, L2.tVar, L2.tVarM, L2.tC, L2.rI, L2.rI0, L2.rU, L2.tOr, L2.tNot, L2.tAndV, L2.tNotV, L2.tCallE, L2.tMethE, L2.tMakeE, L2.tCB, L2.tCons, L2.tNil, L2.tChain, L2.tLst, L2.tTup, L2.rIxL, L2.rIxT, L2.tFld, L2.sFld, L2.tRaise, L2.rEq, L2.rNe, L2.start, L2.CDiv, L2.CPow, L2.CMul, L2.kn_int, L2.cxOf_K, L2.scal_ii, L2.scal_bb, L2.scal_ss, L2.rIxH, L2.lstO_lst, L2.tupO_tup, L2.upd_same, L2.upd_upd, L2.HO.ins.injEq, L2.tTryAs, L2.rCat, L2.rSlL, L2.tSl, L2.tPart, L2.tNoPart, L2.clsV_ref, L2.clsV_ty, L2.tForE, L2.iRng1, L2.iList, L2.iTup, L2.iEnum, L2.gTup, L2.gNil, L2.gCons, L2.tDNewK, L2.tBM, L2.tBM0, L2.rAppend, L2.rReverse, L2.tComp, L2.tCompM, L2.tKeys, L2.tVals, L2.iVals, L2.tYes, Option.join_some, Option.join_none, PySem.sizeLine_eq, Nat.reduceLeDiff, eq_self, decide_eq_true_eq, 
  List.map_cons, List.map_nil, List.length_cons, List.length_nil, List.cons_append, List.nil_append, List.append_nil, List.replicate, Nat.reduceSub, Nat.reduceAdd, List.getElem?_cons_zero, List.getElem?_cons_succ, List.set_cons_zero, List.set_cons_succ,
  Option.some.injEq, List.cons.injEq, L2.V.int.injEq, L2.V.bl.injEq, L2.V.ref.injEq, L2.V.ty.injEq, L2.V.str.injEq, exists_eq_left, exists_eq_left', exists_and_left, exists_eq', exists_const, and_assoc, and_true, true_and, ↓reduceIte, Int.reduceLE, Int.reduceLT, Nat.reducePow, Int.reducePow, Int.reduceNeg, L2.na10, Nat.reduceLT, Int.reduceToNat, Int.reduceAdd, Int.reduceMul, Int.reduceSub, true_or, or_true, decide_true, decide_false])
namespace Pf
open PySem L2
def top (i : Nat) : Stmt := PySem.Challenge.pw_frameland_k16_pages_beyond.main.body.getD i (.Pass ⟨0, 0, 0, 0⟩)
abbrev s_is_whole : Stmt := top 25
theorem sc_is_whole : FnScope ["thing"] ["thing"] (defScope s_is_whole) := ⟨rfl, rfl, rfl, by decide +kernel, rfl, by decide +kernel, by decide +kernel⟩
abbrev s_is_within : Stmt := top 26
theorem sc_is_within : FnScope ["thing", "low", "high"] ["thing", "low", "high"] (defScope s_is_within) := ⟨rfl, rfl, rfl, by decide +kernel, rfl, by decide +kernel, by decide +kernel⟩
abbrev s_power_of_two : Stmt := top 28
theorem sc_power_of_two : FnScope ["exponent", "power", "doubling"] ["exponent"] (defScope s_power_of_two) := ⟨rfl, rfl, rfl, by decide +kernel, rfl, by decide +kernel, by decide +kernel⟩
abbrev s_check_measures : Stmt := top 29
theorem sc_check_measures : FnScope ["levels", "fan", "grain"] ["levels", "fan", "grain"] (defScope s_check_measures) := ⟨rfl, rfl, rfl, by decide +kernel, rfl, by decide +kernel, by decide +kernel⟩
abbrev s_Shape_init : Stmt := inClass (top 30) 0
theorem sc_Shape_init : FnScope ["self", "levels", "fan", "grain"] ["self", "levels", "fan", "grain"] (defScope s_Shape_init) := ⟨rfl, rfl, rfl, by decide +kernel, rfl, by decide +kernel, by decide +kernel⟩
abbrev s_Shape_has_page : Stmt := inClass (top 30) 3
theorem sc_Shape_has_page : FnScope ["self", "page"] ["self", "page"] (defScope s_Shape_has_page) := ⟨rfl, rfl, rfl, by decide +kernel, rfl, by decide +kernel, by decide +kernel⟩
abbrev s_Shape_check_page : Stmt := inClass (top 30) 4
theorem sc_Shape_check_page : FnScope ["self", "page"] ["self", "page"] (defScope s_Shape_check_page) := ⟨rfl, rfl, rfl, by decide +kernel, rfl, by decide +kernel, by decide +kernel⟩
abbrev s_Shape_steps : Stmt := inClass (top 30) 8
theorem sc_Shape_steps : FnScope ["self", "page", "figures", "rest", "level"] ["self", "page"] (defScope s_Shape_steps) := ⟨rfl, rfl, rfl, by decide +kernel, rfl, by decide +kernel, by decide +kernel⟩
abbrev s_Shape_page_of : Stmt := inClass (top 30) 9
theorem sc_Shape_page_of : FnScope ["self", "steps", "page", "step"] ["self", "steps"] (defScope s_Shape_page_of) := ⟨rfl, rfl, rfl, by decide +kernel, rfl, by decide +kernel, by decide +kernel⟩
abbrev s_look_at : Stmt := top 2
theorem sc_look_at : FnScope ["top", "steps", "found", "step"] ["top", "steps"] (defScope s_look_at) := ⟨rfl, rfl, rfl, by decide +kernel, rfl, by decide +kernel, by decide +kernel⟩
abbrev s_put_at : Stmt := top 3
theorem sc_put_at : FnScope ["top", "steps", "entry", "level", "step"] ["top", "steps", "entry"] (defScope s_put_at) := ⟨rfl, rfl, rfl, by decide +kernel, rfl, by decide +kernel, by decide +kernel⟩
abbrev s_drop_at : Stmt := top 4
theorem sc_drop_at : FnScope ["level", "steps", "step"] ["level", "steps"] (defScope s_drop_at) := ⟨rfl, rfl, rfl, by decide +kernel, rfl, by decide +kernel, by decide +kernel⟩
abbrev s_depth_at : Stmt := top 5
theorem sc_depth_at : FnScope ["top", "steps", "level", "depth", "step"] ["top", "steps"] (defScope s_depth_at) := ⟨rfl, rfl, rfl, by decide +kernel, rfl, by decide +kernel, by decide +kernel⟩
abbrev s_count_of : Stmt := top 6
theorem sc_count_of : FnScope ["level", "levels"] ["level", "levels"] (defScope s_count_of) := ⟨rfl, rfl, rfl, by decide +kernel, rfl, by decide +kernel, by decide +kernel⟩
abbrev s_told_of : Stmt := top 7
theorem sc_told_of : FnScope ["level", "levels", "ahead", "told", "step", "steps"] ["level", "levels", "ahead"] (defScope s_told_of) := ⟨rfl, rfl, rfl, by decide +kernel, rfl, by decide +kernel, by decide +kernel⟩
abbrev s_Table_init : Stmt := inClass (top 9) 0
theorem sc_Table_init : FnScope ["self", "shape"] ["self", "shape"] (defScope s_Table_init) := ⟨rfl, rfl, rfl, by decide +kernel, rfl, by decide +kernel, by decide +kernel⟩
abbrev s_Table_put : Stmt := inClass (top 9) 1
theorem sc_Table_put : FnScope ["self", "page", "entry"] ["self", "page", "entry"] (defScope s_Table_put) := ⟨rfl, rfl, rfl, by decide +kernel, rfl, by decide +kernel, by decide +kernel⟩
abbrev s_Table_look : Stmt := inClass (top 9) 2
theorem sc_Table_look : FnScope ["self", "page"] ["self", "page"] (defScope s_Table_look) := ⟨rfl, rfl, rfl, by decide +kernel, rfl, by decide +kernel, by decide +kernel⟩
abbrev s_Table_drop : Stmt := inClass (top 9) 3
theorem sc_Table_drop : FnScope ["self", "page"] ["self", "page"] (defScope s_Table_drop) := ⟨rfl, rfl, rfl, by decide +kernel, rfl, by decide +kernel, by decide +kernel⟩
abbrev s_Table_told : Stmt := inClass (top 9) 4
theorem sc_Table_told : FnScope ["self"] ["self"] (defScope s_Table_told) := ⟨rfl, rfl, rfl, by decide +kernel, rfl, by decide +kernel, by decide +kernel⟩
abbrev s_Table_table_count : Stmt := inClass (top 9) 5
theorem sc_Table_table_count : FnScope ["self"] ["self"] (defScope s_Table_table_count) := ⟨rfl, rfl, rfl, by decide +kernel, rfl, by decide +kernel, by decide +kernel⟩
abbrev s_Table_depth : Stmt := inClass (top 9) 6
theorem sc_Table_depth : FnScope ["self", "page"] ["self", "page"] (defScope s_Table_depth) := ⟨rfl, rfl, rfl, by decide +kernel, rfl, by decide +kernel, by decide +kernel⟩
abbrev s_l_cell_at : Stmt := top 32
theorem sc_l_cell_at : FnScope ["_law_script", "_law_k"] ["_law_script", "_law_k"] (defScope s_l_cell_at) := ⟨rfl, rfl, rfl, by decide +kernel, rfl, by decide +kernel, by decide +kernel⟩
abbrev s_l_part : Stmt := top 33
theorem sc_l_part : FnScope ["_law_cell", "_law_place", "_law_many", "_law_prime"] ["_law_cell", "_law_place", "_law_many"] (defScope s_l_part) := ⟨rfl, rfl, rfl, by decide +kernel, rfl, by decide +kernel, by decide +kernel⟩
abbrev s_l_page : Stmt := top 34
theorem sc_l_page : FnScope ["_law_cell", "_law_base", "_law_count"] ["_law_cell", "_law_base", "_law_count"] (defScope s_l_page) := ⟨rfl, rfl, rfl, by decide +kernel, rfl, by decide +kernel, by decide +kernel⟩
abbrev s_l_beyond : Stmt := top 35
theorem sc_l_beyond : FnScope ["_law_cell", "_law_count", "_law_more"] ["_law_cell", "_law_count"] (defScope s_l_beyond) := ⟨rfl, rfl, rfl, by decide +kernel, rfl, by decide +kernel, by decide +kernel⟩
abbrev s_l_refused : Stmt := top 36
theorem sc_l_refused : FnScope ["_law_table", "_law_page_here", "_law_way", "_law_entry", "e"] ["_law_table", "_law_page_here", "_law_way", "_law_entry"] (defScope s_l_refused) := ⟨rfl, rfl, rfl, by decide +kernel, rfl, by decide +kernel, by decide +kernel⟩
abbrev s_l_whole : Stmt := top 37
theorem sc_l_whole : FnScope ["_law_found", "_law_due"] ["_law_found", "_law_due"] (defScope s_l_whole) := ⟨rfl, rfl, rfl, by decide +kernel, rfl, by decide +kernel, by decide +kernel⟩
abbrev s_l_rows : Stmt := top 38
theorem sc_l_rows : FnScope ["_law_table", "_law_due", "_law_told", "_law_k", "_law_page_here"] ["_law_table", "_law_due"] (defScope s_l_rows) := ⟨rfl, rfl, rfl, by decide +kernel, rfl, by decide +kernel, by decide +kernel⟩
abbrev s_l_heads : Stmt := top 39
theorem sc_l_heads : FnScope ["_law_due", "_law_levels", "_law_fan", "_law_heads_here", "_law_page_here"] ["_law_due", "_law_levels", "_law_fan"] (defScope s_l_heads) := ⟨rfl, rfl, rfl, by decide +kernel, rfl, by decide +kernel, by decide +kernel⟩
abbrev s_law : Stmt := top 40
theorem sc_law : FnScope ["_law_script", "_law_levels", "_law_fan", "_law_count", "_law_chart", "_law_tables", "_law_base", "_law_dues", "_law_cell", "_law_at", "_law_page_here", "_law_way", "_law_turn", "_law_k"] ["_law_script"] (defScope s_law) := ⟨rfl, rfl, rfl, by decide +kernel, rfl, by decide +kernel, by decide +kernel⟩
structure Adr where
  C_Table : Addr
  C_Shape : Addr
  C_FrameError : Addr
  C_OutOfRoom : Addr
  C_NoShape : Addr
  C_BadRights : Addr
  C_NoTask : Addr
  C_NoBank : Addr
  C_OutOfBank : Addr
  C_Taken : Addr
  C_NotMapped : Addr
  C_NoRight : Addr
  C_NoRoom : Addr
  C_Busy : Addr
  C_NoRow : Addr
/-- what the top has made -/
structure Txt (K : PySem.W.Frag) (mg : Str → Option Value) (A : Adr) : Prop where
  b_ValueError : mg "ValueError" = none
  b_bool : mg "bool" = none
  b_enumerate : mg "enumerate" = none
  b_int : mg "int" = none
  b_isinstance : mg "isinstance" = none
  b_len : mg "len" = none
  b_list : mg "list" = none
  b_range : mg "range" = none
  b_sorted : mg "sorted" = none
  b_sum : mg "sum" = none
  b_tuple : mg "tuple" = none
  r_is_whole : Raw K mg "is_whole" "is_whole" s_is_whole ["thing"] []
  r_is_within : Raw K mg "is_within" "is_within" s_is_within ["thing", "low", "high"] []
  r_power_of_two : Raw K mg "power_of_two" "power_of_two" s_power_of_two ["exponent"] []
  r_check_measures : Raw K mg "check_measures" "check_measures" s_check_measures ["levels", "fan", "grain"] []
  r_look_at : Raw K mg "look_at" "look_at" s_look_at ["top", "steps"] []
  r_put_at : Raw K mg "put_at" "put_at" s_put_at ["top", "steps", "entry"] []
  r_drop_at : Raw K mg "drop_at" "drop_at" s_drop_at ["level", "steps"] []
  r_depth_at : Raw K mg "depth_at" "depth_at" s_depth_at ["top", "steps"] []
  r_count_of : Raw K mg "count_of" "count_of" s_count_of ["level", "levels"] []
  r_told_of : Raw K mg "told_of" "told_of" s_told_of ["level", "levels", "ahead"] []
  r_l_cell_at : Raw K mg "_law_cell_at" "_law_cell_at" s_l_cell_at ["_law_script", "_law_k"] []
  r_l_part : Raw K mg "_law_part" "_law_part" s_l_part ["_law_cell", "_law_place", "_law_many"] []
  r_l_page : Raw K mg "_law_page" "_law_page" s_l_page ["_law_cell", "_law_base", "_law_count"] []
  r_l_beyond : Raw K mg "_law_beyond" "_law_beyond" s_l_beyond ["_law_cell", "_law_count"] []
  r_l_refused : Raw K mg "_law_refused" "_law_refused" s_l_refused ["_law_table", "_law_page_here", "_law_way", "_law_entry"] []
  r_l_whole : Raw K mg "_law_whole" "_law_whole" s_l_whole ["_law_found", "_law_due"] []
  r_l_rows : Raw K mg "_law_rows" "_law_rows" s_l_rows ["_law_table", "_law_due"] []
  r_l_heads : Raw K mg "_law_heads" "_law_heads" s_l_heads ["_law_due", "_law_levels", "_law_fan"] []
  cl_Table : Cls K A.C_Table
  na_Table_shape : NoAttr K A.C_Table "shape"
  na_Table_top : NoAttr K A.C_Table "top"
  r_Table_init : RawI K mg "Table" A.C_Table "Table.__init__" s_Table_init ["self", "shape"] []
  r_Table_put : RawM K A.C_Table "put" "Table.put" s_Table_put ["self", "page", "entry"] []
  r_Table_look : RawM K A.C_Table "look" "Table.look" s_Table_look ["self", "page"] []
  r_Table_drop : RawM K A.C_Table "drop" "Table.drop" s_Table_drop ["self", "page"] []
  r_Table_told : RawM K A.C_Table "told" "Table.told" s_Table_told ["self"] []
  r_Table_table_count : RawM K A.C_Table "table_count" "Table.table_count" s_Table_table_count ["self"] []
  r_Table_depth : RawM K A.C_Table "depth" "Table.depth" s_Table_depth ["self", "page"] []
  cl_Shape : Cls K A.C_Shape
  na_Shape_levels : NoAttr K A.C_Shape "levels"
  na_Shape_fan : NoAttr K A.C_Shape "fan"
  na_Shape_grain : NoAttr K A.C_Shape "grain"
  na_Shape_ways : NoAttr K A.C_Shape "ways"
  na_Shape_boxes : NoAttr K A.C_Shape "boxes"
  na_Shape_pages : NoAttr K A.C_Shape "pages"
  r_Shape_init : RawI K mg "Shape" A.C_Shape "Shape.__init__" s_Shape_init ["self", "levels", "fan", "grain"] []
  r_Shape_has_page : RawM K A.C_Shape "has_page" "Shape.has_page" s_Shape_has_page ["self", "page"] []
  r_Shape_check_page : RawM K A.C_Shape "check_page" "Shape.check_page" s_Shape_check_page ["self", "page"] []
  r_Shape_steps : RawM K A.C_Shape "steps" "Shape.steps" s_Shape_steps ["self", "page"] []
  r_Shape_page_of : RawM K A.C_Shape "page_of" "Shape.page_of" s_Shape_page_of ["self", "steps"] []
  m_FrameError : ∃ u, mg "FrameError" = some u ∧ RelV (.ref A.C_FrameError) u
  h_FrameError : XH K mg "FrameError" A.C_FrameError
  m_OutOfRoom : ∃ u, mg "OutOfRoom" = some u ∧ RelV (.ref A.C_OutOfRoom) u
  x_OutOfRoom : XC K mg "OutOfRoom" A.C_OutOfRoom
  xi_OutOfRoom : XI K A.C_OutOfRoom
  m_NoShape : ∃ u, mg "NoShape" = some u ∧ RelV (.ref A.C_NoShape) u
  x_NoShape : XC K mg "NoShape" A.C_NoShape
  m_BadRights : ∃ u, mg "BadRights" = some u ∧ RelV (.ref A.C_BadRights) u
  m_NoTask : ∃ u, mg "NoTask" = some u ∧ RelV (.ref A.C_NoTask) u
  m_NoBank : ∃ u, mg "NoBank" = some u ∧ RelV (.ref A.C_NoBank) u
  m_OutOfBank : ∃ u, mg "OutOfBank" = some u ∧ RelV (.ref A.C_OutOfBank) u
  m_Taken : ∃ u, mg "Taken" = some u ∧ RelV (.ref A.C_Taken) u
  m_NotMapped : ∃ u, mg "NotMapped" = some u ∧ RelV (.ref A.C_NotMapped) u
  m_NoRight : ∃ u, mg "NoRight" = some u ∧ RelV (.ref A.C_NoRight) u
  m_NoRoom : ∃ u, mg "NoRoom" = some u ∧ RelV (.ref A.C_NoRoom) u
  m_Busy : ∃ u, mg "Busy" = some u ∧ RelV (.ref A.C_Busy) u
  m_NoRow : ∃ u, mg "NoRow" = some u ∧ RelV (.ref A.C_NoRow) u
  sub_OutOfRoom_FrameError : XSub K A.C_OutOfRoom A.C_FrameError
  kit_OutOfRoom_OutOfRoom : PySem.W.kitOne K (.ref A.C_OutOfRoom) (.ref A.C_OutOfRoom) = some true
  kit_OutOfRoom_ValueError : PySem.W.kitOne K (.ref A.C_OutOfRoom) (.type "ValueError") = some true
  kit_OutOfRoom_NoShape : PySem.W.kitOne K (.ref A.C_OutOfRoom) (.ref A.C_NoShape) = some false
  kit_OutOfRoom_BadRights : PySem.W.kitOne K (.ref A.C_OutOfRoom) (.ref A.C_BadRights) = some false
  kit_OutOfRoom_NoTask : PySem.W.kitOne K (.ref A.C_OutOfRoom) (.ref A.C_NoTask) = some false
  kit_OutOfRoom_NoBank : PySem.W.kitOne K (.ref A.C_OutOfRoom) (.ref A.C_NoBank) = some false
  kit_OutOfRoom_OutOfBank : PySem.W.kitOne K (.ref A.C_OutOfRoom) (.ref A.C_OutOfBank) = some false
  kit_OutOfRoom_Taken : PySem.W.kitOne K (.ref A.C_OutOfRoom) (.ref A.C_Taken) = some false
  kit_OutOfRoom_NotMapped : PySem.W.kitOne K (.ref A.C_OutOfRoom) (.ref A.C_NotMapped) = some false
  kit_OutOfRoom_NoRight : PySem.W.kitOne K (.ref A.C_OutOfRoom) (.ref A.C_NoRight) = some false
  kit_OutOfRoom_NoRoom : PySem.W.kitOne K (.ref A.C_OutOfRoom) (.ref A.C_NoRoom) = some false
  kit_OutOfRoom_Busy : PySem.W.kitOne K (.ref A.C_OutOfRoom) (.ref A.C_Busy) = some false
  kit_OutOfRoom_NoRow : PySem.W.kitOne K (.ref A.C_OutOfRoom) (.ref A.C_NoRow) = some false
  r_law : ∃ f fd, mg "law" = some (.ref f) ∧ Fun K "law" "law" s_law f fd ∧ ∀ (s : Shared) (u : Value), BindsTo s fd ⟨[u], []⟩ [("_law_script", u)]
theorem el1 {P : List Value → Prop} (h : ∀ a0, P [a0]) : ∀ us : List Value, us.length = 1 → P us
  | [a0], _ => h a0
theorem el2 {P : List Value → Prop} (h : ∀ a0 a1, P [a0, a1]) : ∀ us : List Value, us.length = 2 → P us
  | [a0, a1], _ => h a0 a1
theorem el3 {P : List Value → Prop} (h : ∀ a0 a1 a2, P [a0, a1, a2]) : ∀ us : List Value, us.length = 3 → P us
  | [a0, a1, a2], _ => h a0 a1 a2
theorem el4 {P : List Value → Prop} (h : ∀ a0 a1 a2 a3, P [a0, a1, a2, a3]) : ∀ us : List Value, us.length = 4 → P us
  | [a0, a1, a2, a3], _ => h a0 a1 a2 a3
theorem txt_mk {K : PySem.W.Frag} {h : Heap} {mg : Str → Option Value} (X : K.In h) (G : h.Ns mainGlobals mg)
    {C_NoRow : Addr}
    {C_Busy : Addr}
    {C_NoRoom : Addr}
    {C_NoRight : Addr}
    {C_NotMapped : Addr}
    {C_Taken : Addr}
    {C_OutOfBank : Addr}
    {C_NoBank : Addr}
    {C_NoTask : Addr}
    {C_BadRights : Addr}
    {C_NoShape : Addr}
    {C_OutOfRoom : Addr}
    {C_FrameError : Addr}
    {C_Shape : Addr}
    {C_Table : Addr}
    {f_is_whole : Addr} {od_is_whole an_is_whole : Option Addr} {sl_is_whole : Array (Option Value)} {oc_is_whole kV_is_whole dc_is_whole pm_is_whole cd_is_whole ct_is_whole : Value}
    {f_is_within : Addr} {od_is_within an_is_within : Option Addr} {sl_is_within : Array (Option Value)} {oc_is_within kV_is_within dc_is_within pm_is_within cd_is_within ct_is_within : Value}
    {f_power_of_two : Addr} {od_power_of_two an_power_of_two : Option Addr} {sl_power_of_two : Array (Option Value)} {oc_power_of_two kV_power_of_two dc_power_of_two pm_power_of_two cd_power_of_two ct_power_of_two : Value}
    {f_check_measures : Addr} {od_check_measures an_check_measures : Option Addr} {sl_check_measures : Array (Option Value)} {oc_check_measures kV_check_measures dc_check_measures pm_check_measures cd_check_measures ct_check_measures : Value}
    {f_look_at : Addr} {od_look_at an_look_at : Option Addr} {sl_look_at : Array (Option Value)} {oc_look_at kV_look_at dc_look_at pm_look_at cd_look_at ct_look_at : Value}
    {f_put_at : Addr} {od_put_at an_put_at : Option Addr} {sl_put_at : Array (Option Value)} {oc_put_at kV_put_at dc_put_at pm_put_at cd_put_at ct_put_at : Value}
    {f_drop_at : Addr} {od_drop_at an_drop_at : Option Addr} {sl_drop_at : Array (Option Value)} {oc_drop_at kV_drop_at dc_drop_at pm_drop_at cd_drop_at ct_drop_at : Value}
    {f_depth_at : Addr} {od_depth_at an_depth_at : Option Addr} {sl_depth_at : Array (Option Value)} {oc_depth_at kV_depth_at dc_depth_at pm_depth_at cd_depth_at ct_depth_at : Value}
    {f_count_of : Addr} {od_count_of an_count_of : Option Addr} {sl_count_of : Array (Option Value)} {oc_count_of kV_count_of dc_count_of pm_count_of cd_count_of ct_count_of : Value}
    {f_told_of : Addr} {od_told_of an_told_of : Option Addr} {sl_told_of : Array (Option Value)} {oc_told_of kV_told_of dc_told_of pm_told_of cd_told_of ct_told_of : Value}
    {f_l_cell_at : Addr} {od_l_cell_at an_l_cell_at : Option Addr} {sl_l_cell_at : Array (Option Value)} {oc_l_cell_at kV_l_cell_at dc_l_cell_at pm_l_cell_at cd_l_cell_at ct_l_cell_at : Value}
    {f_l_part : Addr} {od_l_part an_l_part : Option Addr} {sl_l_part : Array (Option Value)} {oc_l_part kV_l_part dc_l_part pm_l_part cd_l_part ct_l_part : Value}
    {f_l_page : Addr} {od_l_page an_l_page : Option Addr} {sl_l_page : Array (Option Value)} {oc_l_page kV_l_page dc_l_page pm_l_page cd_l_page ct_l_page : Value}
    {f_l_beyond : Addr} {od_l_beyond an_l_beyond : Option Addr} {sl_l_beyond : Array (Option Value)} {oc_l_beyond kV_l_beyond dc_l_beyond pm_l_beyond cd_l_beyond ct_l_beyond : Value}
    {f_l_refused : Addr} {od_l_refused an_l_refused : Option Addr} {sl_l_refused : Array (Option Value)} {oc_l_refused kV_l_refused dc_l_refused pm_l_refused cd_l_refused ct_l_refused : Value}
    {f_l_whole : Addr} {od_l_whole an_l_whole : Option Addr} {sl_l_whole : Array (Option Value)} {oc_l_whole kV_l_whole dc_l_whole pm_l_whole cd_l_whole ct_l_whole : Value}
    {f_l_rows : Addr} {od_l_rows an_l_rows : Option Addr} {sl_l_rows : Array (Option Value)} {oc_l_rows kV_l_rows dc_l_rows pm_l_rows cd_l_rows ct_l_rows : Value}
    {f_l_heads : Addr} {od_l_heads an_l_heads : Option Addr} {sl_l_heads : Array (Option Value)} {oc_l_heads kV_l_heads dc_l_heads pm_l_heads cd_l_heads ct_l_heads : Value}
    {f_Table_init : Addr} {od_Table_init an_Table_init : Option Addr} {sl_Table_init : Array (Option Value)} {oc_Table_init kV_Table_init dc_Table_init pm_Table_init cd_Table_init ct_Table_init : Value}
    {f_Table_put : Addr} {od_Table_put an_Table_put : Option Addr} {sl_Table_put : Array (Option Value)} {oc_Table_put kV_Table_put dc_Table_put pm_Table_put cd_Table_put ct_Table_put : Value}
    {f_Table_look : Addr} {od_Table_look an_Table_look : Option Addr} {sl_Table_look : Array (Option Value)} {oc_Table_look kV_Table_look dc_Table_look pm_Table_look cd_Table_look ct_Table_look : Value}
    {f_Table_drop : Addr} {od_Table_drop an_Table_drop : Option Addr} {sl_Table_drop : Array (Option Value)} {oc_Table_drop kV_Table_drop dc_Table_drop pm_Table_drop cd_Table_drop ct_Table_drop : Value}
    {f_Table_told : Addr} {od_Table_told an_Table_told : Option Addr} {sl_Table_told : Array (Option Value)} {oc_Table_told kV_Table_told dc_Table_told pm_Table_told cd_Table_told ct_Table_told : Value}
    {f_Table_table_count : Addr} {od_Table_table_count an_Table_table_count : Option Addr} {sl_Table_table_count : Array (Option Value)} {oc_Table_table_count kV_Table_table_count dc_Table_table_count pm_Table_table_count cd_Table_table_count ct_Table_table_count : Value}
    {f_Table_depth : Addr} {od_Table_depth an_Table_depth : Option Addr} {sl_Table_depth : Array (Option Value)} {oc_Table_depth kV_Table_depth dc_Table_depth pm_Table_depth cd_Table_depth ct_Table_depth : Value}
    {f_Shape_init : Addr} {od_Shape_init an_Shape_init : Option Addr} {sl_Shape_init : Array (Option Value)} {oc_Shape_init kV_Shape_init dc_Shape_init pm_Shape_init cd_Shape_init ct_Shape_init : Value}
    {f_Shape_has_page : Addr} {od_Shape_has_page an_Shape_has_page : Option Addr} {sl_Shape_has_page : Array (Option Value)} {oc_Shape_has_page kV_Shape_has_page dc_Shape_has_page pm_Shape_has_page cd_Shape_has_page ct_Shape_has_page : Value}
    {f_Shape_check_page : Addr} {od_Shape_check_page an_Shape_check_page : Option Addr} {sl_Shape_check_page : Array (Option Value)} {oc_Shape_check_page kV_Shape_check_page dc_Shape_check_page pm_Shape_check_page cd_Shape_check_page ct_Shape_check_page : Value}
    {f_Shape_steps : Addr} {od_Shape_steps an_Shape_steps : Option Addr} {sl_Shape_steps : Array (Option Value)} {oc_Shape_steps kV_Shape_steps dc_Shape_steps pm_Shape_steps cd_Shape_steps ct_Shape_steps : Value}
    {f_Shape_page_of : Addr} {od_Shape_page_of an_Shape_page_of : Option Addr} {sl_Shape_page_of : Array (Option Value)} {oc_Shape_page_of kV_Shape_page_of dc_Shape_page_of pm_Shape_page_of cd_Shape_page_of ct_Shape_page_of : Value}
    {cd_FrameError : ClassData}
    {f_law : Addr} {od_law an_law : Option Addr} {sl_law : Array (Option Value)} {oc_law kV_law dc_law pm_law cd_law ct_law : Value}
    (a_NoRow : PySem.W.nsIn K mainGlobals "NoRow" = some (some (.ref C_NoRow)))
    (a_Busy : PySem.W.nsIn K mainGlobals "Busy" = some (some (.ref C_Busy)))
    (a_NoRoom : PySem.W.nsIn K mainGlobals "NoRoom" = some (some (.ref C_NoRoom)))
    (a_NoRight : PySem.W.nsIn K mainGlobals "NoRight" = some (some (.ref C_NoRight)))
    (a_NotMapped : PySem.W.nsIn K mainGlobals "NotMapped" = some (some (.ref C_NotMapped)))
    (a_Taken : PySem.W.nsIn K mainGlobals "Taken" = some (some (.ref C_Taken)))
    (a_OutOfBank : PySem.W.nsIn K mainGlobals "OutOfBank" = some (some (.ref C_OutOfBank)))
    (a_NoBank : PySem.W.nsIn K mainGlobals "NoBank" = some (some (.ref C_NoBank)))
    (a_NoTask : PySem.W.nsIn K mainGlobals "NoTask" = some (some (.ref C_NoTask)))
    (a_BadRights : PySem.W.nsIn K mainGlobals "BadRights" = some (some (.ref C_BadRights)))
    (a_NoShape : PySem.W.nsIn K mainGlobals "NoShape" = some (some (.ref C_NoShape)))
    (a_OutOfRoom : PySem.W.nsIn K mainGlobals "OutOfRoom" = some (some (.ref C_OutOfRoom)))
    (a_FrameError : PySem.W.nsIn K mainGlobals "FrameError" = some (some (.ref C_FrameError)))
    (a_Shape : PySem.W.nsIn K mainGlobals "Shape" = some (some (.ref C_Shape)))
    (a_Table : PySem.W.nsIn K mainGlobals "Table" = some (some (.ref C_Table)))
    (zb_ValueError : PySem.W.nsIn K mainGlobals "ValueError" = some none)
    (zb_bool : PySem.W.nsIn K mainGlobals "bool" = some none)
    (zb_enumerate : PySem.W.nsIn K mainGlobals "enumerate" = some none)
    (zb_int : PySem.W.nsIn K mainGlobals "int" = some none)
    (zb_isinstance : PySem.W.nsIn K mainGlobals "isinstance" = some none)
    (zb_len : PySem.W.nsIn K mainGlobals "len" = some none)
    (zb_list : PySem.W.nsIn K mainGlobals "list" = some none)
    (zb_range : PySem.W.nsIn K mainGlobals "range" = some none)
    (zb_sorted : PySem.W.nsIn K mainGlobals "sorted" = some none)
    (zb_sum : PySem.W.nsIn K mainGlobals "sum" = some none)
    (zb_tuple : PySem.W.nsIn K mainGlobals "tuple" = some none)
    (a_is_whole_ : PySem.W.nsIn K mainGlobals "is_whole" = some (some (.ref f_is_whole)))
    (l_is_whole_ : K.lookup f_is_whole = some ⟨oc_is_whole, od_is_whole, .func (PySem.W.fnOf "is_whole" "is_whole" (defArgs s_is_whole) (defBody s_is_whole) (defScope s_is_whole) .none kV_is_whole dc_is_whole pm_is_whole an_is_whole cd_is_whole ct_is_whole), sl_is_whole⟩)
    (c_is_whole_ : PySem.W.codeIn K cd_is_whole "is_whole" = true)
    (k_is_whole_ : PySem.W.keepIn K (.ref f_is_whole) = true)
    (a_is_within_ : PySem.W.nsIn K mainGlobals "is_within" = some (some (.ref f_is_within)))
    (l_is_within_ : K.lookup f_is_within = some ⟨oc_is_within, od_is_within, .func (PySem.W.fnOf "is_within" "is_within" (defArgs s_is_within) (defBody s_is_within) (defScope s_is_within) .none kV_is_within dc_is_within pm_is_within an_is_within cd_is_within ct_is_within), sl_is_within⟩)
    (c_is_within_ : PySem.W.codeIn K cd_is_within "is_within" = true)
    (k_is_within_ : PySem.W.keepIn K (.ref f_is_within) = true)
    (a_power_of_two_ : PySem.W.nsIn K mainGlobals "power_of_two" = some (some (.ref f_power_of_two)))
    (l_power_of_two_ : K.lookup f_power_of_two = some ⟨oc_power_of_two, od_power_of_two, .func (PySem.W.fnOf "power_of_two" "power_of_two" (defArgs s_power_of_two) (defBody s_power_of_two) (defScope s_power_of_two) .none kV_power_of_two dc_power_of_two pm_power_of_two an_power_of_two cd_power_of_two ct_power_of_two), sl_power_of_two⟩)
    (c_power_of_two_ : PySem.W.codeIn K cd_power_of_two "power_of_two" = true)
    (k_power_of_two_ : PySem.W.keepIn K (.ref f_power_of_two) = true)
    (a_check_measures_ : PySem.W.nsIn K mainGlobals "check_measures" = some (some (.ref f_check_measures)))
    (l_check_measures_ : K.lookup f_check_measures = some ⟨oc_check_measures, od_check_measures, .func (PySem.W.fnOf "check_measures" "check_measures" (defArgs s_check_measures) (defBody s_check_measures) (defScope s_check_measures) .none kV_check_measures dc_check_measures pm_check_measures an_check_measures cd_check_measures ct_check_measures), sl_check_measures⟩)
    (c_check_measures_ : PySem.W.codeIn K cd_check_measures "check_measures" = true)
    (k_check_measures_ : PySem.W.keepIn K (.ref f_check_measures) = true)
    (a_look_at_ : PySem.W.nsIn K mainGlobals "look_at" = some (some (.ref f_look_at)))
    (l_look_at_ : K.lookup f_look_at = some ⟨oc_look_at, od_look_at, .func (PySem.W.fnOf "look_at" "look_at" (defArgs s_look_at) (defBody s_look_at) (defScope s_look_at) .none kV_look_at dc_look_at pm_look_at an_look_at cd_look_at ct_look_at), sl_look_at⟩)
    (c_look_at_ : PySem.W.codeIn K cd_look_at "look_at" = true)
    (k_look_at_ : PySem.W.keepIn K (.ref f_look_at) = true)
    (a_put_at_ : PySem.W.nsIn K mainGlobals "put_at" = some (some (.ref f_put_at)))
    (l_put_at_ : K.lookup f_put_at = some ⟨oc_put_at, od_put_at, .func (PySem.W.fnOf "put_at" "put_at" (defArgs s_put_at) (defBody s_put_at) (defScope s_put_at) .none kV_put_at dc_put_at pm_put_at an_put_at cd_put_at ct_put_at), sl_put_at⟩)
    (c_put_at_ : PySem.W.codeIn K cd_put_at "put_at" = true)
    (k_put_at_ : PySem.W.keepIn K (.ref f_put_at) = true)
    (a_drop_at_ : PySem.W.nsIn K mainGlobals "drop_at" = some (some (.ref f_drop_at)))
    (l_drop_at_ : K.lookup f_drop_at = some ⟨oc_drop_at, od_drop_at, .func (PySem.W.fnOf "drop_at" "drop_at" (defArgs s_drop_at) (defBody s_drop_at) (defScope s_drop_at) .none kV_drop_at dc_drop_at pm_drop_at an_drop_at cd_drop_at ct_drop_at), sl_drop_at⟩)
    (c_drop_at_ : PySem.W.codeIn K cd_drop_at "drop_at" = true)
    (k_drop_at_ : PySem.W.keepIn K (.ref f_drop_at) = true)
    (a_depth_at_ : PySem.W.nsIn K mainGlobals "depth_at" = some (some (.ref f_depth_at)))
    (l_depth_at_ : K.lookup f_depth_at = some ⟨oc_depth_at, od_depth_at, .func (PySem.W.fnOf "depth_at" "depth_at" (defArgs s_depth_at) (defBody s_depth_at) (defScope s_depth_at) .none kV_depth_at dc_depth_at pm_depth_at an_depth_at cd_depth_at ct_depth_at), sl_depth_at⟩)
    (c_depth_at_ : PySem.W.codeIn K cd_depth_at "depth_at" = true)
    (k_depth_at_ : PySem.W.keepIn K (.ref f_depth_at) = true)
    (a_count_of_ : PySem.W.nsIn K mainGlobals "count_of" = some (some (.ref f_count_of)))
    (l_count_of_ : K.lookup f_count_of = some ⟨oc_count_of, od_count_of, .func (PySem.W.fnOf "count_of" "count_of" (defArgs s_count_of) (defBody s_count_of) (defScope s_count_of) .none kV_count_of dc_count_of pm_count_of an_count_of cd_count_of ct_count_of), sl_count_of⟩)
    (c_count_of_ : PySem.W.codeIn K cd_count_of "count_of" = true)
    (k_count_of_ : PySem.W.keepIn K (.ref f_count_of) = true)
    (a_told_of_ : PySem.W.nsIn K mainGlobals "told_of" = some (some (.ref f_told_of)))
    (l_told_of_ : K.lookup f_told_of = some ⟨oc_told_of, od_told_of, .func (PySem.W.fnOf "told_of" "told_of" (defArgs s_told_of) (defBody s_told_of) (defScope s_told_of) .none kV_told_of dc_told_of pm_told_of an_told_of cd_told_of ct_told_of), sl_told_of⟩)
    (c_told_of_ : PySem.W.codeIn K cd_told_of "told_of" = true)
    (k_told_of_ : PySem.W.keepIn K (.ref f_told_of) = true)
    (a_l_cell_at_ : PySem.W.nsIn K mainGlobals "_law_cell_at" = some (some (.ref f_l_cell_at)))
    (l_l_cell_at_ : K.lookup f_l_cell_at = some ⟨oc_l_cell_at, od_l_cell_at, .func (PySem.W.fnOf "_law_cell_at" "_law_cell_at" (defArgs s_l_cell_at) (defBody s_l_cell_at) (defScope s_l_cell_at) .none kV_l_cell_at dc_l_cell_at pm_l_cell_at an_l_cell_at cd_l_cell_at ct_l_cell_at), sl_l_cell_at⟩)
    (c_l_cell_at_ : PySem.W.codeIn K cd_l_cell_at "_law_cell_at" = true)
    (k_l_cell_at_ : PySem.W.keepIn K (.ref f_l_cell_at) = true)
    (a_l_part_ : PySem.W.nsIn K mainGlobals "_law_part" = some (some (.ref f_l_part)))
    (l_l_part_ : K.lookup f_l_part = some ⟨oc_l_part, od_l_part, .func (PySem.W.fnOf "_law_part" "_law_part" (defArgs s_l_part) (defBody s_l_part) (defScope s_l_part) .none kV_l_part dc_l_part pm_l_part an_l_part cd_l_part ct_l_part), sl_l_part⟩)
    (c_l_part_ : PySem.W.codeIn K cd_l_part "_law_part" = true)
    (k_l_part_ : PySem.W.keepIn K (.ref f_l_part) = true)
    (a_l_page_ : PySem.W.nsIn K mainGlobals "_law_page" = some (some (.ref f_l_page)))
    (l_l_page_ : K.lookup f_l_page = some ⟨oc_l_page, od_l_page, .func (PySem.W.fnOf "_law_page" "_law_page" (defArgs s_l_page) (defBody s_l_page) (defScope s_l_page) .none kV_l_page dc_l_page pm_l_page an_l_page cd_l_page ct_l_page), sl_l_page⟩)
    (c_l_page_ : PySem.W.codeIn K cd_l_page "_law_page" = true)
    (k_l_page_ : PySem.W.keepIn K (.ref f_l_page) = true)
    (a_l_beyond_ : PySem.W.nsIn K mainGlobals "_law_beyond" = some (some (.ref f_l_beyond)))
    (l_l_beyond_ : K.lookup f_l_beyond = some ⟨oc_l_beyond, od_l_beyond, .func (PySem.W.fnOf "_law_beyond" "_law_beyond" (defArgs s_l_beyond) (defBody s_l_beyond) (defScope s_l_beyond) .none kV_l_beyond dc_l_beyond pm_l_beyond an_l_beyond cd_l_beyond ct_l_beyond), sl_l_beyond⟩)
    (c_l_beyond_ : PySem.W.codeIn K cd_l_beyond "_law_beyond" = true)
    (k_l_beyond_ : PySem.W.keepIn K (.ref f_l_beyond) = true)
    (a_l_refused_ : PySem.W.nsIn K mainGlobals "_law_refused" = some (some (.ref f_l_refused)))
    (l_l_refused_ : K.lookup f_l_refused = some ⟨oc_l_refused, od_l_refused, .func (PySem.W.fnOf "_law_refused" "_law_refused" (defArgs s_l_refused) (defBody s_l_refused) (defScope s_l_refused) .none kV_l_refused dc_l_refused pm_l_refused an_l_refused cd_l_refused ct_l_refused), sl_l_refused⟩)
    (c_l_refused_ : PySem.W.codeIn K cd_l_refused "_law_refused" = true)
    (k_l_refused_ : PySem.W.keepIn K (.ref f_l_refused) = true)
    (a_l_whole_ : PySem.W.nsIn K mainGlobals "_law_whole" = some (some (.ref f_l_whole)))
    (l_l_whole_ : K.lookup f_l_whole = some ⟨oc_l_whole, od_l_whole, .func (PySem.W.fnOf "_law_whole" "_law_whole" (defArgs s_l_whole) (defBody s_l_whole) (defScope s_l_whole) .none kV_l_whole dc_l_whole pm_l_whole an_l_whole cd_l_whole ct_l_whole), sl_l_whole⟩)
    (c_l_whole_ : PySem.W.codeIn K cd_l_whole "_law_whole" = true)
    (k_l_whole_ : PySem.W.keepIn K (.ref f_l_whole) = true)
    (a_l_rows_ : PySem.W.nsIn K mainGlobals "_law_rows" = some (some (.ref f_l_rows)))
    (l_l_rows_ : K.lookup f_l_rows = some ⟨oc_l_rows, od_l_rows, .func (PySem.W.fnOf "_law_rows" "_law_rows" (defArgs s_l_rows) (defBody s_l_rows) (defScope s_l_rows) .none kV_l_rows dc_l_rows pm_l_rows an_l_rows cd_l_rows ct_l_rows), sl_l_rows⟩)
    (c_l_rows_ : PySem.W.codeIn K cd_l_rows "_law_rows" = true)
    (k_l_rows_ : PySem.W.keepIn K (.ref f_l_rows) = true)
    (a_l_heads_ : PySem.W.nsIn K mainGlobals "_law_heads" = some (some (.ref f_l_heads)))
    (l_l_heads_ : K.lookup f_l_heads = some ⟨oc_l_heads, od_l_heads, .func (PySem.W.fnOf "_law_heads" "_law_heads" (defArgs s_l_heads) (defBody s_l_heads) (defScope s_l_heads) .none kV_l_heads dc_l_heads pm_l_heads an_l_heads cd_l_heads ct_l_heads), sl_l_heads⟩)
    (c_l_heads_ : PySem.W.codeIn K cd_l_heads "_law_heads" = true)
    (k_l_heads_ : PySem.W.keepIn K (.ref f_l_heads) = true)
    (pg_Table : PySem.W.plainGet K C_Table Str.empty = true)
    (hd_Table : PySem.W.hasDictIn K C_Table = true)
    (po_Table : PySem.W.plainOver K C_Table = true)
    (sa_Table : PySem.W.findIn K (.ref C_Table) "__setattr__" = some (some (.builtin "object.__setattr__")))
    (zn_Table_shape : PySem.W.findIn K (.ref C_Table) "shape" = some none)
    (zn_Table_top : PySem.W.findIn K (.ref C_Table) "top" = some none)
    (mk_Table : PySem.W.makesIn K C_Table = true)
    (kc_Table : PySem.W.keepIn K (.ref C_Table) = true)
    (a_Table_init_ : PySem.W.findIn K (.ref C_Table) "__init__" = some (some (.ref f_Table_init)))
    (i_Table_init_ : PySem.W.isFn K (.ref f_Table_init) = true)
    (l_Table_init_ : K.lookup f_Table_init = some ⟨oc_Table_init, od_Table_init, .func (PySem.W.fnOf "__init__" "Table.__init__" (defArgs s_Table_init) (defBody s_Table_init) (defScope s_Table_init) .none kV_Table_init dc_Table_init pm_Table_init an_Table_init cd_Table_init ct_Table_init), sl_Table_init⟩)
    (c_Table_init_ : PySem.W.codeIn K cd_Table_init "Table.__init__" = true)
    (k_Table_init_ : PySem.W.keepIn K (.ref f_Table_init) = true)
    (a_Table_put_ : PySem.W.findIn K (.ref C_Table) "put" = some (some (.ref f_Table_put)))
    (i_Table_put_ : PySem.W.isFn K (.ref f_Table_put) = true)
    (l_Table_put_ : K.lookup f_Table_put = some ⟨oc_Table_put, od_Table_put, .func (PySem.W.fnOf "put" "Table.put" (defArgs s_Table_put) (defBody s_Table_put) (defScope s_Table_put) .none kV_Table_put dc_Table_put pm_Table_put an_Table_put cd_Table_put ct_Table_put), sl_Table_put⟩)
    (c_Table_put_ : PySem.W.codeIn K cd_Table_put "Table.put" = true)
    (k_Table_put_ : PySem.W.keepIn K (.ref f_Table_put) = true)
    (a_Table_look_ : PySem.W.findIn K (.ref C_Table) "look" = some (some (.ref f_Table_look)))
    (i_Table_look_ : PySem.W.isFn K (.ref f_Table_look) = true)
    (l_Table_look_ : K.lookup f_Table_look = some ⟨oc_Table_look, od_Table_look, .func (PySem.W.fnOf "look" "Table.look" (defArgs s_Table_look) (defBody s_Table_look) (defScope s_Table_look) .none kV_Table_look dc_Table_look pm_Table_look an_Table_look cd_Table_look ct_Table_look), sl_Table_look⟩)
    (c_Table_look_ : PySem.W.codeIn K cd_Table_look "Table.look" = true)
    (k_Table_look_ : PySem.W.keepIn K (.ref f_Table_look) = true)
    (a_Table_drop_ : PySem.W.findIn K (.ref C_Table) "drop" = some (some (.ref f_Table_drop)))
    (i_Table_drop_ : PySem.W.isFn K (.ref f_Table_drop) = true)
    (l_Table_drop_ : K.lookup f_Table_drop = some ⟨oc_Table_drop, od_Table_drop, .func (PySem.W.fnOf "drop" "Table.drop" (defArgs s_Table_drop) (defBody s_Table_drop) (defScope s_Table_drop) .none kV_Table_drop dc_Table_drop pm_Table_drop an_Table_drop cd_Table_drop ct_Table_drop), sl_Table_drop⟩)
    (c_Table_drop_ : PySem.W.codeIn K cd_Table_drop "Table.drop" = true)
    (k_Table_drop_ : PySem.W.keepIn K (.ref f_Table_drop) = true)
    (a_Table_told_ : PySem.W.findIn K (.ref C_Table) "told" = some (some (.ref f_Table_told)))
    (i_Table_told_ : PySem.W.isFn K (.ref f_Table_told) = true)
    (l_Table_told_ : K.lookup f_Table_told = some ⟨oc_Table_told, od_Table_told, .func (PySem.W.fnOf "told" "Table.told" (defArgs s_Table_told) (defBody s_Table_told) (defScope s_Table_told) .none kV_Table_told dc_Table_told pm_Table_told an_Table_told cd_Table_told ct_Table_told), sl_Table_told⟩)
    (c_Table_told_ : PySem.W.codeIn K cd_Table_told "Table.told" = true)
    (k_Table_told_ : PySem.W.keepIn K (.ref f_Table_told) = true)
    (a_Table_table_count_ : PySem.W.findIn K (.ref C_Table) "table_count" = some (some (.ref f_Table_table_count)))
    (i_Table_table_count_ : PySem.W.isFn K (.ref f_Table_table_count) = true)
    (l_Table_table_count_ : K.lookup f_Table_table_count = some ⟨oc_Table_table_count, od_Table_table_count, .func (PySem.W.fnOf "table_count" "Table.table_count" (defArgs s_Table_table_count) (defBody s_Table_table_count) (defScope s_Table_table_count) .none kV_Table_table_count dc_Table_table_count pm_Table_table_count an_Table_table_count cd_Table_table_count ct_Table_table_count), sl_Table_table_count⟩)
    (c_Table_table_count_ : PySem.W.codeIn K cd_Table_table_count "Table.table_count" = true)
    (k_Table_table_count_ : PySem.W.keepIn K (.ref f_Table_table_count) = true)
    (a_Table_depth_ : PySem.W.findIn K (.ref C_Table) "depth" = some (some (.ref f_Table_depth)))
    (i_Table_depth_ : PySem.W.isFn K (.ref f_Table_depth) = true)
    (l_Table_depth_ : K.lookup f_Table_depth = some ⟨oc_Table_depth, od_Table_depth, .func (PySem.W.fnOf "depth" "Table.depth" (defArgs s_Table_depth) (defBody s_Table_depth) (defScope s_Table_depth) .none kV_Table_depth dc_Table_depth pm_Table_depth an_Table_depth cd_Table_depth ct_Table_depth), sl_Table_depth⟩)
    (c_Table_depth_ : PySem.W.codeIn K cd_Table_depth "Table.depth" = true)
    (k_Table_depth_ : PySem.W.keepIn K (.ref f_Table_depth) = true)
    (pg_Shape : PySem.W.plainGet K C_Shape Str.empty = true)
    (hd_Shape : PySem.W.hasDictIn K C_Shape = true)
    (po_Shape : PySem.W.plainOver K C_Shape = true)
    (sa_Shape : PySem.W.findIn K (.ref C_Shape) "__setattr__" = some (some (.builtin "object.__setattr__")))
    (zn_Shape_levels : PySem.W.findIn K (.ref C_Shape) "levels" = some none)
    (zn_Shape_fan : PySem.W.findIn K (.ref C_Shape) "fan" = some none)
    (zn_Shape_grain : PySem.W.findIn K (.ref C_Shape) "grain" = some none)
    (zn_Shape_ways : PySem.W.findIn K (.ref C_Shape) "ways" = some none)
    (zn_Shape_boxes : PySem.W.findIn K (.ref C_Shape) "boxes" = some none)
    (zn_Shape_pages : PySem.W.findIn K (.ref C_Shape) "pages" = some none)
    (mk_Shape : PySem.W.makesIn K C_Shape = true)
    (kc_Shape : PySem.W.keepIn K (.ref C_Shape) = true)
    (a_Shape_init_ : PySem.W.findIn K (.ref C_Shape) "__init__" = some (some (.ref f_Shape_init)))
    (i_Shape_init_ : PySem.W.isFn K (.ref f_Shape_init) = true)
    (l_Shape_init_ : K.lookup f_Shape_init = some ⟨oc_Shape_init, od_Shape_init, .func (PySem.W.fnOf "__init__" "Shape.__init__" (defArgs s_Shape_init) (defBody s_Shape_init) (defScope s_Shape_init) .none kV_Shape_init dc_Shape_init pm_Shape_init an_Shape_init cd_Shape_init ct_Shape_init), sl_Shape_init⟩)
    (c_Shape_init_ : PySem.W.codeIn K cd_Shape_init "Shape.__init__" = true)
    (k_Shape_init_ : PySem.W.keepIn K (.ref f_Shape_init) = true)
    (a_Shape_has_page_ : PySem.W.findIn K (.ref C_Shape) "has_page" = some (some (.ref f_Shape_has_page)))
    (i_Shape_has_page_ : PySem.W.isFn K (.ref f_Shape_has_page) = true)
    (l_Shape_has_page_ : K.lookup f_Shape_has_page = some ⟨oc_Shape_has_page, od_Shape_has_page, .func (PySem.W.fnOf "has_page" "Shape.has_page" (defArgs s_Shape_has_page) (defBody s_Shape_has_page) (defScope s_Shape_has_page) .none kV_Shape_has_page dc_Shape_has_page pm_Shape_has_page an_Shape_has_page cd_Shape_has_page ct_Shape_has_page), sl_Shape_has_page⟩)
    (c_Shape_has_page_ : PySem.W.codeIn K cd_Shape_has_page "Shape.has_page" = true)
    (k_Shape_has_page_ : PySem.W.keepIn K (.ref f_Shape_has_page) = true)
    (a_Shape_check_page_ : PySem.W.findIn K (.ref C_Shape) "check_page" = some (some (.ref f_Shape_check_page)))
    (i_Shape_check_page_ : PySem.W.isFn K (.ref f_Shape_check_page) = true)
    (l_Shape_check_page_ : K.lookup f_Shape_check_page = some ⟨oc_Shape_check_page, od_Shape_check_page, .func (PySem.W.fnOf "check_page" "Shape.check_page" (defArgs s_Shape_check_page) (defBody s_Shape_check_page) (defScope s_Shape_check_page) .none kV_Shape_check_page dc_Shape_check_page pm_Shape_check_page an_Shape_check_page cd_Shape_check_page ct_Shape_check_page), sl_Shape_check_page⟩)
    (c_Shape_check_page_ : PySem.W.codeIn K cd_Shape_check_page "Shape.check_page" = true)
    (k_Shape_check_page_ : PySem.W.keepIn K (.ref f_Shape_check_page) = true)
    (a_Shape_steps_ : PySem.W.findIn K (.ref C_Shape) "steps" = some (some (.ref f_Shape_steps)))
    (i_Shape_steps_ : PySem.W.isFn K (.ref f_Shape_steps) = true)
    (l_Shape_steps_ : K.lookup f_Shape_steps = some ⟨oc_Shape_steps, od_Shape_steps, .func (PySem.W.fnOf "steps" "Shape.steps" (defArgs s_Shape_steps) (defBody s_Shape_steps) (defScope s_Shape_steps) .none kV_Shape_steps dc_Shape_steps pm_Shape_steps an_Shape_steps cd_Shape_steps ct_Shape_steps), sl_Shape_steps⟩)
    (c_Shape_steps_ : PySem.W.codeIn K cd_Shape_steps "Shape.steps" = true)
    (k_Shape_steps_ : PySem.W.keepIn K (.ref f_Shape_steps) = true)
    (a_Shape_page_of_ : PySem.W.findIn K (.ref C_Shape) "page_of" = some (some (.ref f_Shape_page_of)))
    (i_Shape_page_of_ : PySem.W.isFn K (.ref f_Shape_page_of) = true)
    (l_Shape_page_of_ : K.lookup f_Shape_page_of = some ⟨oc_Shape_page_of, od_Shape_page_of, .func (PySem.W.fnOf "page_of" "Shape.page_of" (defArgs s_Shape_page_of) (defBody s_Shape_page_of) (defScope s_Shape_page_of) .none kV_Shape_page_of dc_Shape_page_of pm_Shape_page_of an_Shape_page_of cd_Shape_page_of ct_Shape_page_of), sl_Shape_page_of⟩)
    (c_Shape_page_of_ : PySem.W.codeIn K cd_Shape_page_of "Shape.page_of" = true)
    (k_Shape_page_of_ : PySem.W.keepIn K (.ref f_Shape_page_of) = true)
    (zt_FrameError : PySem.W.typeIn K (.ref C_FrameError) = some (.type "type"))
    (zl_FrameError : PySem.W.clsIn K C_FrameError = some cd_FrameError)
    (zm_FrameError : PySem.W.mroIn K C_FrameError (.type "BaseException") = some true)
    (ze_OutOfRoom : PySem.W.excIn K C_OutOfRoom mroVE "ValueError.__new__" = true)
    (xg_OutOfRoom : PySem.W.findIn K (.ref C_OutOfRoom) "__getattribute__" = some (some (.builtin "BaseException.__getattribute__")))
    (xq_OutOfRoom : PySem.W.findIn K (.ref C_OutOfRoom) "__getattr__" = some none)
    (xb_OutOfRoom : PySem.W.mroIn K C_OutOfRoom (.type "BaseException") = some true)
    (xh_OutOfRoom : PySem.W.hasDictIn K C_OutOfRoom = true)
    (xa_OutOfRoom : PySem.W.findIn K (.ref C_OutOfRoom) "__class__" = some (some (.builtin "object.__class__")))
    (xn_OutOfRoom : PySem.W.specialIn K (.builtin "object.__class__") "__get__" = some (some (.builtin "getset_descriptor.__get__")))
    (xt_OutOfRoom : PySem.W.takesIn K (.builtin "object.__class__") = some true)
    (xm_OutOfRoom : PySem.W.mroIn K C_OutOfRoom (.type "object") = some true)
    (ze_NoShape : PySem.W.excIn K C_NoShape mroVE "ValueError.__new__" = true)
    (zs_OutOfRoom_FrameError : PySem.W.mroIn K C_OutOfRoom (.ref C_FrameError) = some true)
    (zk_OutOfRoom_OutOfRoom : PySem.W.kitOne K (.ref C_OutOfRoom) (.ref C_OutOfRoom) = some true)
    (zk_OutOfRoom_ValueError : PySem.W.kitOne K (.ref C_OutOfRoom) (.type "ValueError") = some true)
    (zk_OutOfRoom_NoShape : PySem.W.kitOne K (.ref C_OutOfRoom) (.ref C_NoShape) = some false)
    (zk_OutOfRoom_BadRights : PySem.W.kitOne K (.ref C_OutOfRoom) (.ref C_BadRights) = some false)
    (zk_OutOfRoom_NoTask : PySem.W.kitOne K (.ref C_OutOfRoom) (.ref C_NoTask) = some false)
    (zk_OutOfRoom_NoBank : PySem.W.kitOne K (.ref C_OutOfRoom) (.ref C_NoBank) = some false)
    (zk_OutOfRoom_OutOfBank : PySem.W.kitOne K (.ref C_OutOfRoom) (.ref C_OutOfBank) = some false)
    (zk_OutOfRoom_Taken : PySem.W.kitOne K (.ref C_OutOfRoom) (.ref C_Taken) = some false)
    (zk_OutOfRoom_NotMapped : PySem.W.kitOne K (.ref C_OutOfRoom) (.ref C_NotMapped) = some false)
    (zk_OutOfRoom_NoRight : PySem.W.kitOne K (.ref C_OutOfRoom) (.ref C_NoRight) = some false)
    (zk_OutOfRoom_NoRoom : PySem.W.kitOne K (.ref C_OutOfRoom) (.ref C_NoRoom) = some false)
    (zk_OutOfRoom_Busy : PySem.W.kitOne K (.ref C_OutOfRoom) (.ref C_Busy) = some false)
    (zk_OutOfRoom_NoRow : PySem.W.kitOne K (.ref C_OutOfRoom) (.ref C_NoRow) = some false)
    (a_law_ : PySem.W.nsIn K mainGlobals "law" = some (some (.ref f_law)))
    (l_law_ : K.lookup f_law = some ⟨oc_law, od_law, .func (PySem.W.fnOf "law" "law" (defArgs s_law) (defBody s_law) (defScope s_law) .none kV_law dc_law pm_law an_law cd_law ct_law), sl_law⟩)
    (c_law_ : PySem.W.codeIn K cd_law "law" = true)
    (k_law_ : PySem.W.keepIn K (.ref f_law) = true)
    : ∃ A : Adr, Txt K mg A := ⟨⟨C_Table, C_Shape, C_FrameError, C_OutOfRoom, C_NoShape, C_BadRights, C_NoTask, C_NoBank, C_OutOfBank, C_Taken, C_NotMapped, C_NoRight, C_NoRoom, C_Busy, C_NoRow⟩, {
      b_ValueError := PySem.W.mg_none_of X G zb_ValueError
      b_bool := PySem.W.mg_none_of X G zb_bool
      b_enumerate := PySem.W.mg_none_of X G zb_enumerate
      b_int := PySem.W.mg_none_of X G zb_int
      b_isinstance := PySem.W.mg_none_of X G zb_isinstance
      b_len := PySem.W.mg_none_of X G zb_len
      b_list := PySem.W.mg_none_of X G zb_list
      b_range := PySem.W.mg_none_of X G zb_range
      b_sorted := PySem.W.mg_none_of X G zb_sorted
      b_sum := PySem.W.mg_none_of X G zb_sum
      b_tuple := PySem.W.mg_none_of X G zb_tuple
      r_is_whole := ⟨_, _, _, PySem.W.mg_of X G a_is_whole_, fun_mk (st := s_is_whole) l_is_whole_ c_is_whole_ k_is_whole_, (fun_mk (st := s_is_whole) l_is_whole_ c_is_whole_ k_is_whole_).binds (ps := ["thing"]) fun _ _ _ _ _ _ => el1 (fun _ => rfl), .nil⟩
      r_is_within := ⟨_, _, _, PySem.W.mg_of X G a_is_within_, fun_mk (st := s_is_within) l_is_within_ c_is_within_ k_is_within_, (fun_mk (st := s_is_within) l_is_within_ c_is_within_ k_is_within_).binds (ps := ["thing", "low", "high"]) fun _ _ _ _ _ _ => el3 (fun _ _ _ => rfl), .nil⟩
      r_power_of_two := ⟨_, _, _, PySem.W.mg_of X G a_power_of_two_, fun_mk (st := s_power_of_two) l_power_of_two_ c_power_of_two_ k_power_of_two_, (fun_mk (st := s_power_of_two) l_power_of_two_ c_power_of_two_ k_power_of_two_).binds (ps := ["exponent"]) fun _ _ _ _ _ _ => el1 (fun _ => rfl), .nil⟩
      r_check_measures := ⟨_, _, _, PySem.W.mg_of X G a_check_measures_, fun_mk (st := s_check_measures) l_check_measures_ c_check_measures_ k_check_measures_, (fun_mk (st := s_check_measures) l_check_measures_ c_check_measures_ k_check_measures_).binds (ps := ["levels", "fan", "grain"]) fun _ _ _ _ _ _ => el3 (fun _ _ _ => rfl), .nil⟩
      r_look_at := ⟨_, _, _, PySem.W.mg_of X G a_look_at_, fun_mk (st := s_look_at) l_look_at_ c_look_at_ k_look_at_, (fun_mk (st := s_look_at) l_look_at_ c_look_at_ k_look_at_).binds (ps := ["top", "steps"]) fun _ _ _ _ _ _ => el2 (fun _ _ => rfl), .nil⟩
      r_put_at := ⟨_, _, _, PySem.W.mg_of X G a_put_at_, fun_mk (st := s_put_at) l_put_at_ c_put_at_ k_put_at_, (fun_mk (st := s_put_at) l_put_at_ c_put_at_ k_put_at_).binds (ps := ["top", "steps", "entry"]) fun _ _ _ _ _ _ => el3 (fun _ _ _ => rfl), .nil⟩
      r_drop_at := ⟨_, _, _, PySem.W.mg_of X G a_drop_at_, fun_mk (st := s_drop_at) l_drop_at_ c_drop_at_ k_drop_at_, (fun_mk (st := s_drop_at) l_drop_at_ c_drop_at_ k_drop_at_).binds (ps := ["level", "steps"]) fun _ _ _ _ _ _ => el2 (fun _ _ => rfl), .nil⟩
      r_depth_at := ⟨_, _, _, PySem.W.mg_of X G a_depth_at_, fun_mk (st := s_depth_at) l_depth_at_ c_depth_at_ k_depth_at_, (fun_mk (st := s_depth_at) l_depth_at_ c_depth_at_ k_depth_at_).binds (ps := ["top", "steps"]) fun _ _ _ _ _ _ => el2 (fun _ _ => rfl), .nil⟩
      r_count_of := ⟨_, _, _, PySem.W.mg_of X G a_count_of_, fun_mk (st := s_count_of) l_count_of_ c_count_of_ k_count_of_, (fun_mk (st := s_count_of) l_count_of_ c_count_of_ k_count_of_).binds (ps := ["level", "levels"]) fun _ _ _ _ _ _ => el2 (fun _ _ => rfl), .nil⟩
      r_told_of := ⟨_, _, _, PySem.W.mg_of X G a_told_of_, fun_mk (st := s_told_of) l_told_of_ c_told_of_ k_told_of_, (fun_mk (st := s_told_of) l_told_of_ c_told_of_ k_told_of_).binds (ps := ["level", "levels", "ahead"]) fun _ _ _ _ _ _ => el3 (fun _ _ _ => rfl), .nil⟩
      r_l_cell_at := ⟨_, _, _, PySem.W.mg_of X G a_l_cell_at_, fun_mk (st := s_l_cell_at) l_l_cell_at_ c_l_cell_at_ k_l_cell_at_, (fun_mk (st := s_l_cell_at) l_l_cell_at_ c_l_cell_at_ k_l_cell_at_).binds (ps := ["_law_script", "_law_k"]) fun _ _ _ _ _ _ => el2 (fun _ _ => rfl), .nil⟩
      r_l_part := ⟨_, _, _, PySem.W.mg_of X G a_l_part_, fun_mk (st := s_l_part) l_l_part_ c_l_part_ k_l_part_, (fun_mk (st := s_l_part) l_l_part_ c_l_part_ k_l_part_).binds (ps := ["_law_cell", "_law_place", "_law_many"]) fun _ _ _ _ _ _ => el3 (fun _ _ _ => rfl), .nil⟩
      r_l_page := ⟨_, _, _, PySem.W.mg_of X G a_l_page_, fun_mk (st := s_l_page) l_l_page_ c_l_page_ k_l_page_, (fun_mk (st := s_l_page) l_l_page_ c_l_page_ k_l_page_).binds (ps := ["_law_cell", "_law_base", "_law_count"]) fun _ _ _ _ _ _ => el3 (fun _ _ _ => rfl), .nil⟩
      r_l_beyond := ⟨_, _, _, PySem.W.mg_of X G a_l_beyond_, fun_mk (st := s_l_beyond) l_l_beyond_ c_l_beyond_ k_l_beyond_, (fun_mk (st := s_l_beyond) l_l_beyond_ c_l_beyond_ k_l_beyond_).binds (ps := ["_law_cell", "_law_count"]) fun _ _ _ _ _ _ => el2 (fun _ _ => rfl), .nil⟩
      r_l_refused := ⟨_, _, _, PySem.W.mg_of X G a_l_refused_, fun_mk (st := s_l_refused) l_l_refused_ c_l_refused_ k_l_refused_, (fun_mk (st := s_l_refused) l_l_refused_ c_l_refused_ k_l_refused_).binds (ps := ["_law_table", "_law_page_here", "_law_way", "_law_entry"]) fun _ _ _ _ _ _ => el4 (fun _ _ _ _ => rfl), .nil⟩
      r_l_whole := ⟨_, _, _, PySem.W.mg_of X G a_l_whole_, fun_mk (st := s_l_whole) l_l_whole_ c_l_whole_ k_l_whole_, (fun_mk (st := s_l_whole) l_l_whole_ c_l_whole_ k_l_whole_).binds (ps := ["_law_found", "_law_due"]) fun _ _ _ _ _ _ => el2 (fun _ _ => rfl), .nil⟩
      r_l_rows := ⟨_, _, _, PySem.W.mg_of X G a_l_rows_, fun_mk (st := s_l_rows) l_l_rows_ c_l_rows_ k_l_rows_, (fun_mk (st := s_l_rows) l_l_rows_ c_l_rows_ k_l_rows_).binds (ps := ["_law_table", "_law_due"]) fun _ _ _ _ _ _ => el2 (fun _ _ => rfl), .nil⟩
      r_l_heads := ⟨_, _, _, PySem.W.mg_of X G a_l_heads_, fun_mk (st := s_l_heads) l_l_heads_ c_l_heads_ k_l_heads_, (fun_mk (st := s_l_heads) l_l_heads_ c_l_heads_ k_l_heads_).binds (ps := ["_law_due", "_law_levels", "_law_fan"]) fun _ _ _ _ _ _ => el3 (fun _ _ _ => rfl), .nil⟩
      cl_Table := ⟨pg_Table, hd_Table, po_Table, sa_Table⟩
      na_Table_shape := zn_Table_shape
      na_Table_top := zn_Table_top
      r_Table_init := ⟨_, _, _, PySem.W.mg_of X G a_Table, ⟨mk_Table, a_Table_init_, i_Table_init_, kc_Table⟩, fun_mk (st := s_Table_init) l_Table_init_ c_Table_init_ k_Table_init_, (fun_mk (st := s_Table_init) l_Table_init_ c_Table_init_ k_Table_init_).binds (ps := ["self", "shape"]) fun _ _ _ _ _ _ => el2 (fun _ _ => rfl), .nil⟩
      r_Table_put := ⟨_, _, _, ⟨a_Table_put_, i_Table_put_, k_Table_put_⟩, fun_mk (st := s_Table_put) l_Table_put_ c_Table_put_ k_Table_put_, (fun_mk (st := s_Table_put) l_Table_put_ c_Table_put_ k_Table_put_).binds (ps := ["self", "page", "entry"]) fun _ _ _ _ _ _ => el3 (fun _ _ _ => rfl), .nil⟩
      r_Table_look := ⟨_, _, _, ⟨a_Table_look_, i_Table_look_, k_Table_look_⟩, fun_mk (st := s_Table_look) l_Table_look_ c_Table_look_ k_Table_look_, (fun_mk (st := s_Table_look) l_Table_look_ c_Table_look_ k_Table_look_).binds (ps := ["self", "page"]) fun _ _ _ _ _ _ => el2 (fun _ _ => rfl), .nil⟩
      r_Table_drop := ⟨_, _, _, ⟨a_Table_drop_, i_Table_drop_, k_Table_drop_⟩, fun_mk (st := s_Table_drop) l_Table_drop_ c_Table_drop_ k_Table_drop_, (fun_mk (st := s_Table_drop) l_Table_drop_ c_Table_drop_ k_Table_drop_).binds (ps := ["self", "page"]) fun _ _ _ _ _ _ => el2 (fun _ _ => rfl), .nil⟩
      r_Table_told := ⟨_, _, _, ⟨a_Table_told_, i_Table_told_, k_Table_told_⟩, fun_mk (st := s_Table_told) l_Table_told_ c_Table_told_ k_Table_told_, (fun_mk (st := s_Table_told) l_Table_told_ c_Table_told_ k_Table_told_).binds (ps := ["self"]) fun _ _ _ _ _ _ => el1 (fun _ => rfl), .nil⟩
      r_Table_table_count := ⟨_, _, _, ⟨a_Table_table_count_, i_Table_table_count_, k_Table_table_count_⟩, fun_mk (st := s_Table_table_count) l_Table_table_count_ c_Table_table_count_ k_Table_table_count_, (fun_mk (st := s_Table_table_count) l_Table_table_count_ c_Table_table_count_ k_Table_table_count_).binds (ps := ["self"]) fun _ _ _ _ _ _ => el1 (fun _ => rfl), .nil⟩
      r_Table_depth := ⟨_, _, _, ⟨a_Table_depth_, i_Table_depth_, k_Table_depth_⟩, fun_mk (st := s_Table_depth) l_Table_depth_ c_Table_depth_ k_Table_depth_, (fun_mk (st := s_Table_depth) l_Table_depth_ c_Table_depth_ k_Table_depth_).binds (ps := ["self", "page"]) fun _ _ _ _ _ _ => el2 (fun _ _ => rfl), .nil⟩
      cl_Shape := ⟨pg_Shape, hd_Shape, po_Shape, sa_Shape⟩
      na_Shape_levels := zn_Shape_levels
      na_Shape_fan := zn_Shape_fan
      na_Shape_grain := zn_Shape_grain
      na_Shape_ways := zn_Shape_ways
      na_Shape_boxes := zn_Shape_boxes
      na_Shape_pages := zn_Shape_pages
      r_Shape_init := ⟨_, _, _, PySem.W.mg_of X G a_Shape, ⟨mk_Shape, a_Shape_init_, i_Shape_init_, kc_Shape⟩, fun_mk (st := s_Shape_init) l_Shape_init_ c_Shape_init_ k_Shape_init_, (fun_mk (st := s_Shape_init) l_Shape_init_ c_Shape_init_ k_Shape_init_).binds (ps := ["self", "levels", "fan", "grain"]) fun _ _ _ _ _ _ => el4 (fun _ _ _ _ => rfl), .nil⟩
      r_Shape_has_page := ⟨_, _, _, ⟨a_Shape_has_page_, i_Shape_has_page_, k_Shape_has_page_⟩, fun_mk (st := s_Shape_has_page) l_Shape_has_page_ c_Shape_has_page_ k_Shape_has_page_, (fun_mk (st := s_Shape_has_page) l_Shape_has_page_ c_Shape_has_page_ k_Shape_has_page_).binds (ps := ["self", "page"]) fun _ _ _ _ _ _ => el2 (fun _ _ => rfl), .nil⟩
      r_Shape_check_page := ⟨_, _, _, ⟨a_Shape_check_page_, i_Shape_check_page_, k_Shape_check_page_⟩, fun_mk (st := s_Shape_check_page) l_Shape_check_page_ c_Shape_check_page_ k_Shape_check_page_, (fun_mk (st := s_Shape_check_page) l_Shape_check_page_ c_Shape_check_page_ k_Shape_check_page_).binds (ps := ["self", "page"]) fun _ _ _ _ _ _ => el2 (fun _ _ => rfl), .nil⟩
      r_Shape_steps := ⟨_, _, _, ⟨a_Shape_steps_, i_Shape_steps_, k_Shape_steps_⟩, fun_mk (st := s_Shape_steps) l_Shape_steps_ c_Shape_steps_ k_Shape_steps_, (fun_mk (st := s_Shape_steps) l_Shape_steps_ c_Shape_steps_ k_Shape_steps_).binds (ps := ["self", "page"]) fun _ _ _ _ _ _ => el2 (fun _ _ => rfl), .nil⟩
      r_Shape_page_of := ⟨_, _, _, ⟨a_Shape_page_of_, i_Shape_page_of_, k_Shape_page_of_⟩, fun_mk (st := s_Shape_page_of) l_Shape_page_of_ c_Shape_page_of_ k_Shape_page_of_, (fun_mk (st := s_Shape_page_of) l_Shape_page_of_ c_Shape_page_of_ k_Shape_page_of_).binds (ps := ["self", "steps"]) fun _ _ _ _ _ _ => el2 (fun _ _ => rfl), .nil⟩
      m_FrameError := ⟨_, PySem.W.mg_of X G a_FrameError, rfl⟩
      h_FrameError := ⟨PySem.W.mg_of X G a_FrameError, zt_FrameError, ⟨_, zl_FrameError⟩, zm_FrameError⟩
      m_OutOfRoom := ⟨_, PySem.W.mg_of X G a_OutOfRoom, rfl⟩
      x_OutOfRoom := ⟨PySem.W.mg_of X G a_OutOfRoom, ze_OutOfRoom⟩
      xi_OutOfRoom := ⟨xg_OutOfRoom, xq_OutOfRoom, xb_OutOfRoom, xh_OutOfRoom, xa_OutOfRoom, xn_OutOfRoom, xt_OutOfRoom, xm_OutOfRoom⟩
      m_NoShape := ⟨_, PySem.W.mg_of X G a_NoShape, rfl⟩
      x_NoShape := ⟨PySem.W.mg_of X G a_NoShape, ze_NoShape⟩
      m_BadRights := ⟨_, PySem.W.mg_of X G a_BadRights, rfl⟩
      m_NoTask := ⟨_, PySem.W.mg_of X G a_NoTask, rfl⟩
      m_NoBank := ⟨_, PySem.W.mg_of X G a_NoBank, rfl⟩
      m_OutOfBank := ⟨_, PySem.W.mg_of X G a_OutOfBank, rfl⟩
      m_Taken := ⟨_, PySem.W.mg_of X G a_Taken, rfl⟩
      m_NotMapped := ⟨_, PySem.W.mg_of X G a_NotMapped, rfl⟩
      m_NoRight := ⟨_, PySem.W.mg_of X G a_NoRight, rfl⟩
      m_NoRoom := ⟨_, PySem.W.mg_of X G a_NoRoom, rfl⟩
      m_Busy := ⟨_, PySem.W.mg_of X G a_Busy, rfl⟩
      m_NoRow := ⟨_, PySem.W.mg_of X G a_NoRow, rfl⟩
      sub_OutOfRoom_FrameError := zs_OutOfRoom_FrameError
      kit_OutOfRoom_OutOfRoom := zk_OutOfRoom_OutOfRoom
      kit_OutOfRoom_ValueError := zk_OutOfRoom_ValueError
      kit_OutOfRoom_NoShape := zk_OutOfRoom_NoShape
      kit_OutOfRoom_BadRights := zk_OutOfRoom_BadRights
      kit_OutOfRoom_NoTask := zk_OutOfRoom_NoTask
      kit_OutOfRoom_NoBank := zk_OutOfRoom_NoBank
      kit_OutOfRoom_OutOfBank := zk_OutOfRoom_OutOfBank
      kit_OutOfRoom_Taken := zk_OutOfRoom_Taken
      kit_OutOfRoom_NotMapped := zk_OutOfRoom_NotMapped
      kit_OutOfRoom_NoRight := zk_OutOfRoom_NoRight
      kit_OutOfRoom_NoRoom := zk_OutOfRoom_NoRoom
      kit_OutOfRoom_Busy := zk_OutOfRoom_Busy
      kit_OutOfRoom_NoRow := zk_OutOfRoom_NoRow
      r_law := ⟨_, _, PySem.W.mg_of X G a_law_, fun_mk (st := s_law) l_law_ c_law_ k_law_, fun _ _ => .of_eq rfl⟩
    }⟩

section
variable {P : Program} {w : World} {K : PySem.W.Frag} {mg : Str → Option Value} {base : Heap} {A : Adr}

def sp_is_whole : Sp := fun vs H Q _ => ∃ x, vs = [x] ∧ Kn H x ∧ Q (.bl (whole x)) H
theorem h_is_whole (T : Txt K mg A) : Have P w K mg base "is_whole" 1 ["thing"] [] sp_is_whole := by
  refine T.r_is_whole.have sc_is_whole (fun vs H Q E z => ?_) ?_
  · obtain ⟨x, rfl, _⟩ := z; rfl
  · intro f cdv A' outer s H vs Q E hr z
    obtain ⟨x, rfl, hk, q⟩ := z
    refine ⟨_, (pss_one (ps_ret (pe_and (pe_callB call_isi rfl T.b_isinstance PyProof.Rows.boot_isinstance (pa_cons (pvM 0) (pa_cons (pe_bltnE (n := "int") rfl T.b_int PyProof.Rows.boot_int) pa_nil))) (pe_one (pe_not (pe_callB call_isi rfl T.b_isinstance PyProof.Rows.boot_isinstance (pa_cons (pvM 0) (pa_cons (pe_bltnE (n := "bool") rfl T.b_bool PyProof.Rows.boot_bool) pa_nil)))))))), ?_⟩
    walk_at "wp"
    rw [← isTy_whole hk] at q
    refine ⟨by decide, hk, ?_⟩
    cases e : isTy "int" H x with
    | true => rw [e] at q; exact iteT ⟨by decide, hk, q⟩
    | false => rw [e] at q; exact iteF q

def sp_is_within : Sp := fun vs H Q _ => ∃ x l h, vs = [x, .int l, .int h] ∧ Kn H x ∧ Q (.bl (within x l h)) H
theorem h_is_within (T : Txt K mg A) : Have P w K mg base "is_within" 2 ["thing", "low", "high"] [] sp_is_within := by
  have H_is_whole := h_is_whole (P := P) (w := w) (base := base) T
  refine T.r_is_within.have sc_is_within (fun vs H Q E z => ?_) ?_
  · obtain ⟨x, l, h, rfl, _⟩ := z; rfl
  · intro f cdv A' outer s H vs Q E hr z
    obtain ⟨x, l, h, rfl, hk, q⟩ := z
    refine ⟨_, (pss_one (ps_ret (pe_and (pe_callE H_is_whole (hr.mono (by decide)) xw_def (pa_cons (pvM 0) pa_nil)) (pe_one (pe_chain op_le op_le (pvM 1) (pvM 0) (pvM 2)))))), ?_⟩
    unfold sp_is_whole
    walk_at "wp"
    refine ⟨hk, ?_⟩
    cases x with
    | int i =>
      refine iteT ⟨i, rfl, ?_⟩
      rw [within_int] at q
      by_cases c : l ≤ i
      · rw [decide_eq_true c] at q
        rw [if_pos c]
        exact ⟨i, rfl, q⟩
      · rw [decide_eq_false c] at q
        rw [if_neg c]
        exact q
    | _ => exact iteF q

def sp_cell (K : PySem.W.Frag) (a : Addr) (ns : List Int) : Sp := fun vs H Q _ => ∃ (k : Int), vs = [.ref a, .int k] ∧ SqL K H a (ns.map V.int) ∧ 0 ≤ k ∧ Q (.int (ns.getD k.toNat 0)) H
theorem h_cell (T : Txt K mg A) (a : Addr) (ns : List Int) : Have P w K mg base "_law_cell_at" 1 ["_law_script", "_law_k"] [] (sp_cell K a ns) := by
  refine T.r_l_cell_at.have sc_l_cell_at (fun vs H Q E z => ?_) ?_
  · obtain ⟨k, rfl, _⟩ := z; rfl
  · intro f cdv A' outer s H vs Q E hr z
    obtain ⟨k, rfl, hs, hk, q⟩ := z
    refine ⟨_, (pss_cons (ps_if (pt_cmpR op_lt (pvM 1) (pe_callB call_len rfl T.b_len PySem.boot_len (pa_cons (pvM 0) pa_nil)) (nomark _)) (pss_one (ps_ret (pe_ix ix_list (pvM 0) (pvM 1) (fun _ _ => rfl)))) pss_nil)
      (pss_one (ps_ret pe_int))), ?_⟩
    walk_at "wp"
    refine ⟨ns.length, .inl ⟨_, hs, by simp⟩, ?_⟩
    by_cases c : k < (ns.length : Int)
    · rw [if_pos c]
      refine ⟨_, hs, .int (ns.getD k.toNat 0), ?_, q⟩
      have hlt : k.toNat < ns.length := by omega
      have e : atI (ns.map V.int) ((k.toNat : Nat) : Int) = some (.int (ns.getD k.toNat 0)) := atI_nat (by simp [hlt])
      rw [show ((k.toNat : Nat) : Int) = k by omega] at e
      exact e
    · rw [if_neg c]
      have hge : ns.length ≤ k.toNat := by omega
      rw [show ns.getD k.toNat 0 = 0 by simp [List.getD, hge]] at q
      exact q

def sp_power_of_two : Sp := fun vs H Q _ => ∃ e : Int, vs = [.int e] ∧ 0 ≤ e ∧ e ≤ 62 ∧ Q (.int (pw e)) H
theorem h_power_of_two (T : Txt K mg A) : Have P w K mg base "power_of_two" 1 ["exponent"] [] sp_power_of_two := by
  refine T.r_power_of_two.have sc_power_of_two (fun vs H Q E z => ?_) ?_
  · obtain ⟨e, rfl, _⟩ := z; rfl
  · intro f cdv A' outer s H vs Q E hr z
    obtain ⟨e, rfl, h0, h1, q⟩ := z
    refine ⟨_, (pss_cons (ps_set (i := 1) sc_power_of_two.nd rfl (Or.inl rfl) pe_int)
      (pss_cons (ps_forE PassesOwn.leaving rfl (pi_range1 rfl T.b_range (pa_cons (pvM 0) pa_nil)) (pg_name (i := 2) sc_power_of_two.nd rfl (Or.inl rfl)) (pss_one (ps_set (i := 1) sc_power_of_two.nd rfl (Or.inl rfl) (pe_op op_mul (pvM 1) pe_int))))
      (pss_one (ps_ret (pvM 1))))), ?_⟩
    walk_at "wp"
    refine ⟨by omega, by omega, loop_range (fun i σ H' => ∃ v, σ = [some (.int e), some (.int (pw (i : Int))), v] ∧ H' = H) ⟨_, rfl, rfl⟩ (fun i σ H' hi => ?_) (fun σ H' => ?_)⟩
    · rintro ⟨v, rfl, rfl⟩
      walk_at "wp"
      have hb := pwN_le (n := i) (m := 62) (by omega)
      have hp := pw_pos i
      have e62 : pw ((62 : Nat) : Int) = 4611686018427387904 := by decide
      refine by first | exact (pw_succ i).symm | exact ⟨by omega, (pw_succ i).symm⟩ | (rw [pw_succ]; omega) | (trace_state; omega)
    · rintro ⟨v, rfl, rfl⟩
      walk_at "wp"
      rw [show ((e.toNat : Nat) : Int) = e by omega]
      exact q

def good (x y z : V) : Bool := within x 2 3 && within y 1 8 && within z 0 4
theorem good_ints {l f g : Int} (h : good (.int l) (.int f) (.int g) = true) : 2 ≤ l ∧ l ≤ 3 ∧ 1 ≤ f ∧ f ≤ 8 ∧ 0 ≤ g ∧ g ≤ 4 := by
  unfold good at h
  simp only [within_int, Bool.and_eq_true, decide_eq_true_eq] at h
  omega
theorem good_of {l f g : Int} (h : 2 ≤ l ∧ l ≤ 3 ∧ 1 ≤ f ∧ f ≤ 8 ∧ 0 ≤ g ∧ g ≤ 4) : good (.int l) (.int f) (.int g) = true := by
  unfold good
  simp only [within_int, Bool.and_eq_true, decide_eq_true_eq]
  omega
def sp_check (N : Addr) : Sp := fun vs H Q E => ∃ x y z, vs = [x, y, z] ∧ Kn H x ∧ Kn H y ∧ Kn H z ∧ if good x y z = true then Q .non H else E (.ref N) none H
theorem h_check (T : Txt K mg A) : Have P w K mg base "check_measures" 3 ["levels", "fan", "grain"] [] (sp_check A.C_NoShape) := by
  have H_is_within := h_is_within (P := P) (w := w) (base := base) T
  refine T.r_check_measures.have sc_check_measures (fun vs H Q E z => ?_) ?_
  · obtain ⟨x, y, z, rfl, _⟩ := z; rfl
  · intro f cdv A' outer s H vs Q E hr z
    obtain ⟨x, y, z, rfl, hx, hy, hz, q⟩ := z
    refine ⟨_, (pss_cons (ps_if (pt_not (pt_val (pe_callE H_is_within (hr.mono (by decide)) xw_def (pa_cons (pvM 0) (pa_cons pe_int (pa_cons pe_int pa_nil)))))) (pss_one (ps_raise xr_def rfl T.x_NoShape (pa_cons pe_str pa_nil))) pss_nil)
      (pss_cons (ps_if (pt_not (pt_val (pe_callE H_is_within (hr.mono (by decide)) xw_def (pa_cons (pvM 1) (pa_cons pe_int (pa_cons pe_int pa_nil)))))) (pss_one (ps_raise xr_def rfl T.x_NoShape (pa_cons pe_str pa_nil))) pss_nil)
      (pss_one (ps_if (pt_not (pt_val (pe_callE H_is_within (hr.mono (by decide)) xw_def (pa_cons (pvM 2) (pa_cons pe_int (pa_cons pe_int pa_nil)))))) (pss_one (ps_raise xr_def rfl T.x_NoShape (pa_cons pe_str pa_nil))) pss_nil)))), ?_⟩
    unfold sp_is_within
    walk_at "wp"
    unfold good at q
    simp only [hx, hy, hz, true_and]
    cases e1 : within x 2 3 <;> cases e2 : within y 1 8 <;> cases e3 : within z 0 4 <;> simp only [e1, e2, e3, Bool.and_true, Bool.and_false, Bool.true_and, Bool.false_and, Bool.not_true, Bool.not_false, if_true, if_false, Bool.false_eq_true, ↓reduceIte] at q ⊢ <;> exact q

def shF (l f g : Int) : List (Str × V) := putF "pages" (.int (pw (l * f))) (putF "boxes" (.int (pw g)) (putF "ways" (.int (pw f)) (putF "grain" (.int g) (putF "fan" (.int f) (putF "levels" (.int l) [])))))
def spInit (C N : Addr) : Sp := fun vs H Q E => ∃ (p dx : Addr) (x y z : V), vs = [.ref p, x, y, z] ∧ H p = some (.ins C dx []) ∧ Kn H x ∧ Kn H y ∧ Kn H z ∧
  if good x y z = true then ∃ l f g : Int, x = .int l ∧ y = .int f ∧ z = .int g ∧ Q .non (upd H p (.ins C dx (shF l f g))) else E (.ref N) none H
theorem h_init (T : Txt K mg A) : HaveI P w K mg base "Shape" A.C_Shape 4 ["self", "levels", "fan", "grain"] [] (spInit A.C_Shape A.C_NoShape) := by
  have H_check_measures := h_check (P := P) (w := w) (base := base) T
  have H_power_of_two := h_power_of_two (P := P) (w := w) (base := base) T
  refine T.r_Shape_init.have sc_Shape_init (fun vs H Q E z => ?_) ?_
  · obtain ⟨p, dx, x, y, z, rfl, _⟩ := z; rfl
  · intro f cdv A' outer s H vs Q E hr z
    obtain ⟨p, dx, x, y, z, rfl, hp, hx, hy, hz, q⟩ := z
    refine ⟨_, (pss_cons (ps_expr (pe_callE H_check_measures (hr.mono (by decide)) xw_def (pa_cons (pvM 1) (pa_cons (pvM 2) (pa_cons (pvM 3) pa_nil)))))
      (pss_cons (ps_fld (pvM 0) (pvM 1) rfl)
      (pss_cons (ps_fld (pvM 0) (pvM 2) rfl)
      (pss_cons (ps_fld (pvM 0) (pvM 3) rfl)
      (pss_cons (ps_fld (pvM 0) (pe_callE H_power_of_two (hr.mono (by decide)) xw_def (pa_cons (pvM 2) pa_nil)) rfl)
      (pss_cons (ps_fld (pvM 0) (pe_callE H_power_of_two (hr.mono (by decide)) xw_def (pa_cons (pvM 3) pa_nil)) rfl)
      (pss_one (ps_fld (pvM 0) (pe_callE H_power_of_two (hr.mono (by decide)) xw_def (pa_cons (pe_op op_mul (pvM 1) (pvM 2)) pa_nil)) rfl)))))))), ?_⟩
    unfold sp_check sp_power_of_two
    walk_at "wp"
    simp only [hx, hy, hz, hp, T.cl_Shape, T.na_Shape_levels, T.na_Shape_fan, T.na_Shape_grain, T.na_Shape_ways, T.na_Shape_boxes, T.na_Shape_pages, true_and]
    walk_at "wp"
    simp only [T.cl_Shape, T.na_Shape_levels, T.na_Shape_fan, T.na_Shape_grain, T.na_Shape_ways, T.na_Shape_boxes, T.na_Shape_pages, true_and]
    refine ite2 (fun hg => ?_) (fun hg => ?_)
    · rw [if_pos hg] at q
      obtain ⟨l, f', g, rfl, rfl, rfl, q⟩ := q
      have b := good_ints hg
      have m := mul_24 b.1 b.2.1 b.2.2.1 b.2.2.2.1
      walk_at "wp"
      repeat' (refine And.intro ?_ ?_)
      all_goals first | omega | exact q | (refine Nat.lt_of_lt_of_le (?_ : _ < 9) (by decide); repeat (first | exact Nat.zero_lt_succ _ | refine lt_putF ?_))
    · rw [if_neg hg] at q
      exact q
theorem shF_pages {l f g : Int} : (shF l f g).lookup ("pages" : Str) = some (.int (pw (l * f))) := by rfl
theorem shF_ways {l f g : Int} : (shF l f g).lookup ("ways" : Str) = some (.int (pw f)) := by rfl
theorem shF_levels {l f g : Int} : (shF l f g).lookup ("levels" : Str) = some (.int l) := by rfl
theorem shF_no {l f g : Int} {m : Str} (h : ¬ m ∈ (["levels", "fan", "grain", "ways", "boxes", "pages"] : List Str)) : (shF l f g).lookup m = none := by
  simp only [List.mem_cons, List.not_mem_nil, or_false, not_or] at h
  unfold shF
  simp only [lookup_putF, h, if_false]
  rfl
/-- a shape of these measures stands at p -/
def ShapeAt (C : Addr) (H : Hp) (p : Addr) (l f g : Int) : Prop := ∃ dx, H p = some (.ins C dx (shF l f g))
theorem ShapeAt.same {C : Addr} {H H' : Hp} {p : Addr} {l f g : Int} (h : ShapeAt C H p l f g) (s : Same H H') : ShapeAt C H' p l f g := let ⟨dx, e⟩ := h; ⟨dx, s _ _ e⟩

def sp_has (C : Addr) : Sp := fun vs H Q _ => ∃ (p : Addr) (x l f g : Int), vs = [.ref p, .int x] ∧ ShapeAt C H p l f g ∧ Q (.bl (decide (0 ≤ x) && decide (x ≤ pw (l * f) - 1))) H
theorem h_has (T : Txt K mg A) : HaveM P w K mg base A.C_Shape "has_page" 3 ["self", "page"] [] (sp_has A.C_Shape) := by
  have H_is_within := h_is_within (P := P) (w := w) (base := base) T
  refine T.r_Shape_has_page.have sc_Shape_has_page (fun vs H Q E z => ?_) ?_
  · obtain ⟨p, x, l, f, g, rfl, _⟩ := z; rfl
  · intro f cdv A' outer s H vs Q E hr z
    obtain ⟨p, x, l, f', g, rfl, ⟨dx, hp⟩, q⟩ := z
    refine ⟨_, (pss_one (ps_ret (pe_callE H_is_within (hr.mono (by decide)) xw_def (pa_cons (pvM 1) (pa_cons pe_int (pa_cons (pe_op op_sub (pe_fld (pvM 0) rfl) pe_int) pa_nil)))))), ?_⟩
    unfold sp_is_within
    walk_at "wp"
    simp only [hp, T.cl_Shape, T.na_Shape_pages, true_and]
    walk_at "wp"
    simp only [T.cl_Shape, T.na_Shape_pages, shF_pages, true_and]
    walk_at "wp"
    exact q

theorem bnd {a b c : Int} : (decide (a ≤ b) && decide (b ≤ c - 1)) = decide (a ≤ b ∧ b < c) := by
  rw [Bool.eq_iff_iff]; simp only [Bool.and_eq_true, decide_eq_true_eq]; omega
def sp_cp (C O : Addr) : Sp := fun vs H Q E => ∃ (p : Addr) (x l f g : Int), vs = [.ref p, .int x] ∧ ShapeAt C H p l f g ∧ if 0 ≤ x ∧ x < pw (l * f) then Q .non H else E (.ref O) none H
theorem h_cp (T : Txt K mg A) : HaveM P w K mg base A.C_Shape "check_page" 4 ["self", "page"] [] (sp_cp A.C_Shape A.C_OutOfRoom) := by
  have H_Shape_has_page := h_has (P := P) (w := w) (base := base) T
  refine T.r_Shape_check_page.have sc_Shape_check_page (fun vs H Q E z => ?_) ?_
  · obtain ⟨p, x, l, f, g, rfl, _⟩ := z; rfl
  · intro f cdv A' outer s H vs Q E hr z
    obtain ⟨p, x, l, f', g, rfl, hS, q⟩ := z
    refine ⟨_, (pss_one (ps_if (pt_not (pt_val (pe_methE (pvM 0) T.cl_Shape H_Shape_has_page (hr.mono (by decide)) xw_def (pa_cons (pvM 1) pa_nil)))) (pss_one (ps_raise xr_def rfl T.x_OutOfRoom (pa_cons pe_str pa_nil))) pss_nil)), ?_⟩
    unfold sp_has
    obtain ⟨dx, hp⟩ := id hS
    walk_at "wp"
    simp only [hp]
    walk_at "wp"
    refine ⟨shF_no (by decide +kernel), l, f', g, hS, ?_⟩
    rw [bnd]
    by_cases c : 0 ≤ x ∧ x < pw (l * f')
    · rw [if_pos c] at q
      rw [decide_eq_true c]
      exact iteF q
    · rw [if_neg c] at q
      rw [decide_eq_false c]
      exact iteT q

def gd (l f g : Int) : Prop := 2 ≤ l ∧ l ≤ 3 ∧ 1 ≤ f ∧ f ≤ 8 ∧ 0 ≤ g ∧ g ≤ 4
theorem gd_pw {l f g : Int} (h : gd l f g) : (1 ≤ pw g ∧ pw g ≤ 16) ∧ (1 ≤ pw (l * f) ∧ pw (l * f) ≤ 16777216) := by
  obtain ⟨h1, h2, h3, h4, h5, h6⟩ := h
  have m := mul_24 h1 h2 h3 h4
  exact ⟨⟨pw_pos _, pw4 h6⟩, pw_pos _, pw24 m.2⟩
/-- the figures of x in base w, the least first -/
def qn (w : Int) : Nat → Int → Int
  | 0, x => x
  | i + 1, x => qn w i x / w
def dg (w : Int) : Nat → Int → List Int
  | 0, _ => []
  | i + 1, x => dg w i x ++ [qn w i x % w]
theorem dg_len {w x : Int} : ∀ i, (dg w i x).length = i
  | 0 => rfl
  | i + 1 => by unfold dg; rw [List.length_append, dg_len i]; rfl
theorem dg_in {w x : Int} (hw : 0 < w) : ∀ i, ∀ n ∈ dg w i x, 0 ≤ n ∧ n < w
  | 0 => by intro n h; cases h
  | i + 1 => by
    intro n h
    unfold dg at h
    rcases List.mem_append.mp h with h | h
    · exact dg_in hw i n h
    · rw [List.mem_singleton.mp h]
      exact ⟨Int.emod_nonneg _ (by omega), Int.emod_lt_of_pos _ hw⟩
def hor (w : Int) (a : Int) (r : List Int) : Int := r.foldl (fun p d => p * w + d) a
theorem hor_cons {w a d : Int} {r : List Int} : hor w a (d :: r) = hor w (a * w + d) r := rfl
theorem hor_snoc {w a d : Int} {r : List Int} : hor w a (r ++ [d]) = hor w a r * w + d := by unfold hor; rw [List.foldl_append]; rfl
theorem hor_at {w : Int} : ∀ (r : List Int) (a : Int), hor w a r = a * w ^ r.length + hor w 0 r
  | [], a => by unfold hor; simp
  | d :: r, a => by
    rw [hor_cons, hor_cons, hor_at r, hor_at r (0 * w + d), List.length_cons, Int.pow_succ, Int.zero_mul, Int.zero_add, Int.add_mul, Int.mul_assoc, Int.mul_comm w, Int.add_assoc]
theorem hor_dg {w x : Int} : ∀ i, hor w 0 (dg w i x).reverse + w ^ i * qn w i x = x
  | 0 => by unfold dg hor qn; simp
  | i + 1 => by
    have ih := hor_dg (w := w) (x := x) i
    rw [show dg w (i + 1) x = dg w i x ++ [qn w i x % w] from rfl, show qn w (i + 1) x = qn w i x / w from rfl]
    rw [List.reverse_append, List.reverse_singleton, List.singleton_append, hor_cons, hor_at, List.length_reverse, dg_len, Int.zero_mul, Int.zero_add, Int.pow_succ]
    have e : qn w i x % w + w * (qn w i x / w) = qn w i x := Int.emod_add_mul_ediv _ _
    calc qn w i x % w * w ^ i + hor w 0 (dg w i x).reverse + w ^ i * w * (qn w i x / w)
        = hor w 0 (dg w i x).reverse + w ^ i * (qn w i x % w + w * (qn w i x / w)) := by rw [Int.mul_add, Int.mul_comm (qn w i x % w), Int.mul_assoc]; omega
      _ = x := by rw [e]; exact ih
theorem hor_bd {w : Int} (hw : 1 ≤ w) : ∀ (r : List Int), (∀ n ∈ r, 0 ≤ n ∧ n < w) → 0 ≤ hor w 0 r ∧ hor w 0 r < w ^ r.length
  | [], _ => by unfold hor; simp
  | d :: r, h => by
    have ih := hor_bd hw r fun n hn => h n (List.mem_cons_of_mem _ hn)
    have hd := h d List.mem_cons_self
    rw [hor_cons, hor_at, List.length_cons, Int.pow_succ, Int.zero_mul, Int.zero_add]
    have hp : 0 < w ^ r.length := by exact Int.pow_pos (by omega)
    have h1 : 0 ≤ d * w ^ r.length := Int.mul_nonneg hd.1 (by omega)
    have h2 : d * w ^ r.length ≤ (w - 1) * w ^ r.length := Int.mul_le_mul_of_nonneg_right (by omega) (by omega)
    rw [Int.sub_mul, Int.one_mul, Int.mul_comm w] at h2
    omega
theorem pw_lf {l f : Int} (h1 : 2 ≤ l) (h2 : l ≤ 3) (h3 : 1 ≤ f) (h4 : f ≤ 8) : pw (l * f) = pw f ^ l.toNat := by
  have hl : l = 2 ∨ l = 3 := by omega
  have hf : f = 1 ∨ f = 2 ∨ f = 3 ∨ f = 4 ∨ f = 5 ∨ f = 6 ∨ f = 7 ∨ f = 8 := by omega
  rcases hl with rfl | rfl <;> rcases hf with rfl | rfl | rfl | rfl | rfl | rfl | rfl | rfl <;> decide
/-- back again -/
theorem hor_all {l f x : Int} (h1 : 2 ≤ l) (h2 : l ≤ 3) (h3 : 1 ≤ f) (h4 : f ≤ 8) (hx : 0 ≤ x ∧ x < pw (l * f)) : hor (pw f) 0 (dg (pw f) l.toNat x).reverse = x := by
  have e := hor_dg (w := pw f) (x := x) l.toNat
  have b := hor_bd (w := pw f) (pw_pos f) (dg (pw f) l.toNat x).reverse fun n hn => dg_in (by have := pw_pos f; omega) _ n (List.mem_reverse.mp hn)
  rw [List.length_reverse, dg_len, ← pw_lf h1 h2 h3 h4] at b
  rw [← pw_lf h1 h2 h3 h4] at e
  have hq : qn (pw f) l.toNat x = 0 := by
    have hp := pw_pos (l * f)
    rcases Int.lt_trichotomy (qn (pw f) l.toNat x) 0 with z | z | z
    · have := Int.mul_le_mul_of_nonneg_left (show qn (pw f) l.toNat x ≤ -1 by omega) (show 0 ≤ pw (l * f) by omega)
      omega
    · exact z
    · have := Int.mul_le_mul_of_nonneg_left (show 1 ≤ qn (pw f) l.toNat x by omega) (show 0 ≤ pw (l * f) by omega)
      omega
  rw [hq, Int.mul_zero, Int.add_zero] at e
  exact e
theorem qn_bd {w x : Int} (hw : 1 ≤ w) (hx : 0 ≤ x) : ∀ i, 0 ≤ qn w i x ∧ qn w i x ≤ x
  | 0 => ⟨hx, Int.le_refl _⟩
  | i + 1 => by
    have ih := qn_bd hw hx i
    refine ⟨Int.ediv_nonneg ih.1 (by omega), Int.le_trans (Int.ediv_le_self _ ih.1) ih.2⟩
theorem same_put {H H' : Hp} {t : Addr} {o : HO} (s : Same H H') (h : H t = none) : Same H (upd H' t o) := fun b u e => by
  rw [upd_ne (ne_of_none e h)]; exact s b u e
def sp_st (C O : Addr) : Sp := fun vs H Q E => ∃ (p : Addr) (x l f g : Int), vs = [.ref p, .int x] ∧ ShapeAt C H p l f g ∧ gd l f g ∧
  if 0 ≤ x ∧ x < pw (l * f) then ∀ t H', Same H H' → H t = none → H' t = some (.lst ((dg (pw f) l.toNat x).reverse.map V.int)) → Q (.ref t) H' else E (.ref O) none H
theorem h_st (T : Txt K mg A) : HaveM P w K mg base A.C_Shape "steps" 5 ["self", "page"] [] (sp_st A.C_Shape A.C_OutOfRoom) := by
  have H_Shape_check_page := h_cp (P := P) (w := w) (base := base) T
  refine T.r_Shape_steps.have sc_Shape_steps (fun vs H Q E z => ?_) ?_
  · obtain ⟨p, x, l, f, g, rfl, _⟩ := z; rfl
  · intro f cdv A' outer s H vs Q E hr z
    obtain ⟨p, x, l, f', g, rfl, hS, hg, q⟩ := z
    refine ⟨_, (pss_cons (ps_expr (pe_methE (pvM 0) T.cl_Shape H_Shape_check_page (hr.mono (by decide)) xw_def (pa_cons (pvM 1) pa_nil)))
      (pss_cons (ps_set (i := 2) sc_Shape_steps.nd rfl (Or.inl rfl) (pe_lst pa_nil))
      (pss_cons (ps_set (i := 3) sc_Shape_steps.nd rfl (Or.inl rfl) (pvM 1))
      (pss_cons (ps_forE PassesOwn.leaving rfl (pi_range1 rfl T.b_range (pa_cons (pe_fld (pvM 0) rfl) pa_nil)) (pg_name (i := 4) sc_Shape_steps.nd rfl (Or.inl rfl)) (pss_cons (ps_expr (pe_bm PySem.F.plainAttrs_list PySem.F.slot_list_append PySem.F.type_list_append mt_append (pvM 2) (pa_cons (pe_op op_mod (pvM 3) (pe_fld (pvM 0) rfl)) pa_nil)))
      (pss_one (ps_set (i := 3) sc_Shape_steps.nd rfl (Or.inl rfl) (pe_op op_fdiv (pvM 3) (pe_fld (pvM 0) rfl))))))
      (pss_cons (ps_expr (pe_bm0 PySem.F.plainAttrs_list PySem.F.slot_list_reverse PySem.F.type_list_reverse mt_reverse (pvM 2)))
      (pss_one (ps_ret (pvM 2)))))))), ?_⟩
    unfold sp_cp
    obtain ⟨dx, hp⟩ := id hS
    walk_at "wp"
    simp only [hp]
    walk_at "wp"
    refine ⟨shF_no (by decide +kernel), l, f', g, hS, ?_⟩
    have hw := pw_pos f'
    have hw8 := pw8 hg.2.2.2.1
    have b := gd_pw hg
    by_cases c : 0 ≤ x ∧ x < pw (l * f')
    · rw [if_pos c] at q ⊢
      intro t ht
      have sm := same_upd (o := .lst []) same_refl ht
      refine ⟨_, _, _, sm _ _ hp, T.cl_Shape, T.na_Shape_levels, _, shF_levels, _, rfl, by have := hg.1; omega, by have := hg.2.1; omega, loop_range (fun i σ H' => ∃ v, σ = [some (.ref p), some (.int x), some (.ref t), some (.int (qn (pw f') i x)), v] ∧ Same H H' ∧ H' t = some (.lst ((dg (pw f') i x).map V.int))) ⟨_, rfl, sm, upd_same⟩ (fun i σ H' hi => ?_) (fun σ H' => ?_)⟩
      · rintro ⟨v, rfl, sm', ht'⟩
        walk_at "wp"
        have hq := qn_bd (w := pw f') (x := x) hw c.1 i
        have hlen : (dg (pw f') i x).length = i := dg_len i
        refine ⟨.inl ⟨rfl, _, SqL.of ht'⟩, _, _, _, sm' _ _ hp, T.cl_Shape, T.na_Shape_ways, _, shF_ways, _, rfl, by omega, _, ht', by rw [List.length_map, hlen]; have := hg.2.1; omega, ?_⟩
        have sm2 := same_put (o := .lst ((dg (pw f') i x).map V.int ++ [V.int (qn (pw f') i x % pw f')])) sm' ht
        refine ⟨_, _, _, sm2 _ _ hp, T.cl_Shape, T.na_Shape_ways, _, shF_ways, _, rfl, by omega, ?_⟩
        exact ⟨by omega, rfl, sm2, by rw [show dg (pw f') (i + 1) x = dg (pw f') i x ++ [qn (pw f') i x % pw f'] from rfl, List.map_append]; rfl⟩
      · rintro ⟨v, rfl, sm', ht'⟩
        walk_at "wp"
        refine ⟨.inl ⟨rfl, _, SqL.of ht'⟩, _, ht', q _ _ (same_put sm' ht) ht ?_⟩
        rw [upd_same, List.map_reverse]
    · rw [if_neg c] at q ⊢
      exact q
theorem pw_c3 {f : Int} {i : Nat} (h3 : 1 ≤ f) (h4 : f ≤ 8) (hi : i ≤ 3) : pw f ^ i ≤ 16777216 := by
  have hl : i = 0 ∨ i = 1 ∨ i = 2 ∨ i = 3 := by omega
  have hf : f = 1 ∨ f = 2 ∨ f = 3 ∨ f = 4 ∨ f = 5 ∨ f = 6 ∨ f = 7 ∨ f = 8 := by omega
  rcases hl with rfl | rfl | rfl | rfl <;> rcases hf with rfl | rfl | rfl | rfl | rfl | rfl | rfl | rfl <;> decide
def bad (w : Int) (l : Int) (ms : List Int) : Prop := ¬ ((ms.length : Int) = l ∧ ∀ n ∈ ms, 0 ≤ n ∧ n < w)
def sp_po (K : PySem.W.Frag) (C O : Addr) : Sp := fun vs H Q E => ∃ (p b : Addr) (ns : List Int) (l f g : Int), vs = [.ref p, .ref b] ∧ ShapeAt C H p l f g ∧ gd l f g ∧ SqL K H b (ns.map V.int) ∧
  (¬ bad (pw f) l ns → Q (.int (hor (pw f) 0 ns)) H) ∧ (bad (pw f) l ns → E (.ref O) none H)
theorem h_po (T : Txt K mg A) : HaveM P w K mg base A.C_Shape "page_of" 5 ["self", "steps"] [] (sp_po K A.C_Shape A.C_OutOfRoom) := by
  have H_is_within := h_is_within (P := P) (w := w) (base := base) T
  refine T.r_Shape_page_of.have sc_Shape_page_of (fun vs H Q E z => ?_) ?_
  · obtain ⟨p, b, ns, l, f, g, rfl, _⟩ := z; rfl
  · intro f cdv A' outer s H vs Q E hr z
    obtain ⟨p, b, ns, l, f', g, rfl, hS, hg, hb, q1, q2⟩ := z
    refine ⟨_, (pss_cons (ps_if (pt_cmpR op_ne (pe_callB call_len rfl T.b_len PySem.boot_len (pa_cons (pvM 1) pa_nil)) (pe_fld (pvM 0) rfl) (nomark _)) (pss_one (ps_raise xr_def rfl T.x_OutOfRoom (pa_cons pe_str pa_nil))) pss_nil)
      (pss_cons (ps_set (i := 2) sc_Shape_page_of.nd rfl (Or.inl rfl) pe_int)
      (pss_cons (ps_forE PassesOwn.leaving rfl (pi_list (pvM 1)) (pg_name (i := 3) sc_Shape_page_of.nd rfl (Or.inl rfl)) (pss_cons (ps_if (pt_not (pt_val (pe_callE H_is_within (hr.mono (by decide)) xw_def (pa_cons (pvM 3) (pa_cons pe_int (pa_cons (pe_op op_sub (pe_fld (pvM 0) rfl) pe_int) pa_nil)))))) (pss_one (ps_raise xr_def rfl T.x_OutOfRoom (pa_cons pe_str pa_nil))) pss_nil)
      (pss_one (ps_set (i := 2) sc_Shape_page_of.nd rfl (Or.inl rfl) (pe_op op_add (pe_op op_mul (pvM 2) (pe_fld (pvM 0) rfl)) (pvM 3))))))
      (pss_one (ps_ret (pvM 2)))))), ?_⟩
    unfold sp_is_within
    obtain ⟨dx, hp⟩ := id hS
    walk_at "wp"
    simp only [hp]
    walk_at "wp"
    have hw := pw_pos f'
    have hw8 := pw8 hg.2.2.2.1
    refine ⟨ns.length, .inl ⟨_, hb, by simp⟩, T.cl_Shape, T.na_Shape_levels, _, shF_levels, rfl, ?_⟩
    by_cases cl : (ns.length : Int) = l
    · rw [decide_eq_true (by rw [cl])]
      refine iteF ⟨⟨_, hb⟩, loop_list (xs := ns.map V.int) (fun i σ H' => ∃ v, σ = [some (.ref p), some (.ref b), some (.int (hor (pw f') 0 (ns.take i))), v] ∧ H' = H ∧ ∀ n ∈ ns.take i, 0 ≤ n ∧ n < pw f') ⟨_, rfl, rfl, by intro n hn; simp at hn⟩ (fun i σ H' _ ⟨_, _, e, _⟩ => e ▸ hb) (fun i x σ H' hi => ?_) (fun σ H' => ?_)⟩
      · rintro ⟨v, rfl, rfl, hall⟩
        rw [List.getElem?_map] at hi
        obtain ⟨z, hz, rfl⟩ : ∃ z, ns[i]? = some z ∧ V.int z = x := by
          cases e : ns[i]? with
          | none => rw [e] at hi; cases hi
          | some z => rw [e] at hi; exact ⟨z, rfl, Option.some.inj hi⟩
        have hil : i < ns.length := (List.getElem?_eq_some_iff.mp hz).1
        have ht : ns.take (i + 1) = ns.take i ++ [z] := by rw [List.take_add_one, hz]; rfl
        walk_at "wp"
        simp only [hp]
        walk_at "wp"
        simp only [T.cl_Shape, T.na_Shape_ways, shF_ways, true_and]
        walk_at "wp"
        rw [within_int, bnd]
        by_cases c : 0 ≤ z ∧ z < pw f'
        · rw [decide_eq_true c]
          have hb1 := hor_bd hw (ns.take i) hall
          have hl3 : (ns.take i).length ≤ 3 := by rw [List.length_take]; have := hg.2.1; omega
          have hb2 := pw_c3 hg.2.2.1 hg.2.2.2.1 hl3
          refine iteF ?_
          rw [ht, hor_snoc]
          refine ⟨.inr ⟨by omega, by omega⟩, rfl, fun n hn => ?_⟩
          rcases List.mem_append.mp hn with hn | hn
          · exact hall n hn
          · rw [List.mem_singleton.mp hn]; exact c
        · rw [decide_eq_false c]
          exact iteT (q2 fun h => c (h.2 z (List.mem_of_getElem? hz)))
      · rintro ⟨v, rfl, rfl, hall⟩
        walk_at "wp"
        rw [List.length_map, List.take_length] at *
        exact q1 fun h => h ⟨cl, hall⟩
    · rw [decide_eq_false (fun z => cl (by cases z; rfl))]
      exact iteT (q2 fun h => cl h.1)

/-! ### a tree of levels -/
def TT : Nat → Type
  | 0 => Int
  | n + 1 => Addr × List (Int × TT n)
def en (e : Int) : TT 0 := e
def tv : (n : Nat) → TT n → V
  | 0, e => .int e
  | _ + 1, t => .ref t.1
def ads : (n : Nat) → TT n → List Addr
  | 0, _ => []
  | n + 1, t => t.1 :: t.2.flatMap fun p => ads n p.2
def dk {n : Nat} (kvs : List (Int × TT n)) : List (Key × V) := kvs.map fun p => (Sum.inl p.1, tv n p.2)
def Rep (H : Hp) : (n : Nat) → TT n → Prop
  | 0, _ => True
  | n + 1, t => H t.1 = some (.dK (dk t.2)) ∧ (t.2.map (·.1)).Nodup ∧ (∀ p ∈ t.2, 0 ≤ p.1 ∧ p.1 < 256) ∧ ∀ p ∈ t.2, Rep H n p.2
def fnd {α : Type} (s : Int) : List (Int × α) → Option α
  | [] => none
  | p :: r => if p.1 = s then some p.2 else fnd s r
def lk : (n : Nat) → TT n → List Int → Option Int
  | 0, e, [] => some e
  | 0, _, _ :: _ => none
  | _ + 1, _, [] => none
  | n + 1, t, s :: r => (fnd s t.2).bind fun c => lk n c r
theorem fnd_mem {α : Type} {s : Int} {c : α} : ∀ {l : List (Int × α)}, fnd s l = some c → (s, c) ∈ l
  | [], h => by cases h
  | p :: r, h => by
    unfold fnd at h
    by_cases e : p.1 = s
    · rw [if_pos e] at h
      cases h
      rw [← e]
      exact List.mem_cons_self
    · rw [if_neg e] at h
      exact List.mem_cons_of_mem _ (fnd_mem h)
theorem fnd_none {α : Type} {s : Int} : ∀ {l : List (Int × α)}, fnd s l = none → s ∉ l.map (·.1)
  | [], _ => by simp
  | p :: r, h => by
    unfold fnd at h
    by_cases e : p.1 = s
    · rw [if_pos e] at h; cases h
    · rw [if_neg e] at h
      rw [List.map_cons, List.mem_cons]
      exact fun z => z.elim (fun z => e z.symm) (fnd_none h)
theorem dk_val {n : Nat} {s : Int} : ∀ {l : List (Int × TT n)}, valV (dk l) (Sum.inl s) = (fnd s l).map (tv n)
  | [] => rfl
  | p :: r => by
    unfold fnd
    by_cases e : p.1 = s
    · rw [if_pos e]
      exact valV_pos (by rw [← e])
    · rw [if_neg e, ← dk_val (l := r)]
      exact valV_neg (fun z => e (Sum.inl.inj z))
theorem bounded_len : ∀ (m : Nat) (l : List Int), l.Nodup → (∀ x ∈ l, 0 ≤ x ∧ x < m) → l.length ≤ m
  | 0, l, _, h => by
    cases l with
    | nil => exact Nat.le_refl _
    | cons x r => have := h x List.mem_cons_self; omega
  | m + 1, l, nd, h => by
    have h1 := bounded_len m (l.filter fun x => decide (x ≠ (m : Int))) (nd.filter _) fun x hx => by
      have hx := List.mem_filter.mp hx
      have h2 := h x hx.1
      have h3 : x ≠ (m : Int) := by simpa using hx.2
      omega
    have h2 : l.length ≤ (l.filter fun x => decide (x ≠ (m : Int))).length + 1 := by
      clear h1 h
      induction l with
      | nil => simp
      | cons a r ih =>
        have nr := (List.nodup_cons.mp nd)
        by_cases e : a = (m : Int)
        · have : r.filter (fun x => decide (x ≠ (m : Int))) = r := List.filter_eq_self.mpr fun x hx => by
            have : x ≠ (m : Int) := fun z => nr.1 (by rw [e, ← z]; exact hx)
            simpa using this
          rw [List.filter_cons_of_neg (by simpa using e), this]
          exact Nat.le_refl _
        · rw [List.filter_cons_of_pos (by simpa using e)]
          have := ih nr.2
          simp only [List.length_cons]
          omega
    omega
theorem rep_len {H : Hp} {n : Nat} {t : TT (n + 1)} (h : Rep H (n + 1) t) : t.2.length ≤ 256 := by
  have := bounded_len 256 (t.2.map (·.1)) h.2.1 fun x hx => by
    obtain ⟨p, hp, rfl⟩ := List.mem_map.mp hx
    exact h.2.2.1 p hp
  rwa [List.length_map] at this
theorem mem_ads {n : Nat} {kvs : List (Int × TT n)} {a b : Addr} : b ∈ ads (n + 1) (a, kvs) ↔ b = a ∨ ∃ p ∈ kvs, b ∈ ads n p.2 := by
  show b ∈ a :: _ ↔ _
  rw [List.mem_cons, List.mem_flatMap]
/-- every address of a tree is tracked -/
theorem rep_some {H : Hp} : ∀ {n : Nat} {t : TT n}, Rep H n t → ∀ a ∈ ads n t, ∃ o, H a = some o
  | 0, _, _, a, h => by cases h
  | n + 1, t, r, a, h => by
    rcases mem_ads.mp h with rfl | ⟨p, hp, h⟩
    · exact ⟨_, r.1⟩
    · exact rep_some (r.2.2.2 p hp) a h
theorem rep_dk {H : Hp} : ∀ {n : Nat} {t : TT n}, Rep H n t → ∀ a ∈ ads n t, ∃ kvs, H a = some (.dK kvs)
  | 0, _, _, a, h => by cases h
  | n + 1, t, r, a, h => by
    rcases mem_ads.mp h with rfl | ⟨p, hp, h⟩
    · exact ⟨_, r.1⟩
    · exact rep_dk (r.2.2.2 p hp) a h
/-- a tree stays where its addresses stay -/
theorem rep_stay {H H' : Hp} : ∀ {n : Nat} {t : TT n}, Rep H n t → (∀ a ∈ ads n t, ∀ o, H a = some o → H' a = some o) → Rep H' n t
  | 0, _, _, _ => True.intro
  | n + 1, t, r, h => ⟨h _ (mem_ads.mpr (.inl rfl)) _ r.1, r.2.1, r.2.2.1, fun p hp => rep_stay (r.2.2.2 p hp) fun a ha => h a (mem_ads.mpr (.inr ⟨p, hp, ha⟩))⟩
/-- no lower table is empty -/
def nE : (n : Nat) → TT n → Prop
  | 0, _ => True
  | _ + 1, t => t.2 ≠ []
def NEt : (n : Nat) → TT n → Prop
  | 0, _ => True
  | n + 1, t => ∀ p ∈ t.2, nE n p.2 ∧ NEt n p.2
def Frm (F : List Addr) (H H' : Hp) : Prop := ∀ a o, H a = some o → a ∉ F → H' a = some o
/-- from t to t' -/
structure Good (n : Nat) (t t' : TT n) (f : List Int → Option Int) (H H' : Hp) : Prop where
  rep : Rep H' n t'
  look : ∀ r, lk n t' r = f r
  fr : Frm (ads n t) H H'
  ad : ∀ a ∈ ads n t', a ∈ ads n t ∨ H a = none
  nd : (ads n t').Nodup
  root : tv n t' = tv n t
  ne : NEt n t → NEt n t'
def rpl {α : Type} (s : Int) (c : α) (l : List (Int × α)) : List (Int × α) := l.map fun p => if p.1 = s then (s, c) else p
theorem rpl_keys {α : Type} {s : Int} {c : α} : ∀ {l : List (Int × α)}, (rpl s c l).map (·.1) = l.map (·.1)
  | [] => rfl
  | p :: r => by
    unfold rpl
    rw [List.map_cons, List.map_cons, List.map_cons]
    have := rpl_keys (s := s) (c := c) (l := r)
    unfold rpl at this
    rw [this]
    by_cases e : p.1 = s
    · rw [if_pos e, e]
    · rw [if_neg e]
theorem rpl_fnd {α : Type} {s z : Int} {c : α} : ∀ {l : List (Int × α)}, (∃ d, fnd s l = some d) → fnd z (rpl s c l) = if z = s then some c else fnd z l
  | [], h => by obtain ⟨d, h⟩ := h; cases h
  | p :: r, h => by
    obtain ⟨d, h⟩ := h
    unfold rpl
    rw [List.map_cons]
    unfold fnd
    unfold fnd at h
    by_cases e : p.1 = s
    · rw [if_pos e]
      by_cases e2 : z = s
      · rw [if_pos e2, if_pos e2.symm]
      · rw [if_neg e2, if_neg (fun z => e2 z.symm), if_neg (fun z => e2 (by rw [← z, e]))]
        have : ∀ (l : List (Int × α)), fnd z (l.map fun p => if p.1 = s then (s, c) else p) = fnd z l := fun l => by
          induction l with
          | nil => rfl
          | cons q l ih =>
            rw [List.map_cons]
            unfold fnd
            rw [ih]
            by_cases e3 : q.1 = s
            · rw [if_pos e3, if_neg (fun z => e2 z.symm), if_neg (fun z => e2 (by rw [← z, e3]))]
            · rw [if_neg e3]
        exact this r
    · rw [if_neg e] at h ⊢
      have ih := rpl_fnd (z := z) (c := c) (l := r) ⟨d, h⟩
      unfold rpl at ih
      rw [ih]
      by_cases e2 : z = s
      · rw [if_pos e2, if_pos e2, if_neg (fun z => e (by rw [z, e2]))]
      · rw [if_neg e2, if_neg e2]
theorem rpl_mem {α : Type} {s : Int} {c : α} {l : List (Int × α)} {p : Int × α} (h : p ∈ rpl s c l) : p = (s, c) ∨ (p ∈ l ∧ p.1 ≠ s) := by
  obtain ⟨q, hq, e⟩ := List.mem_map.mp h
  by_cases z : q.1 = s
  · rw [if_pos z] at e; exact .inl e.symm
  · rw [if_neg z] at e; rw [← e]; exact .inr ⟨hq, z⟩
theorem dk_rpl {n : Nat} {s : Int} {c c' : TT n} : ∀ {l : List (Int × TT n)}, (l.map (·.1)).Nodup → fnd s l = some c → tv n c' = tv n c → dk (rpl s c' l) = dk l
  | [], _, h, _ => by cases h
  | p :: r, nd, h, e => by
    rw [List.map_cons, List.nodup_cons] at nd
    unfold fnd at h
    unfold rpl dk
    rw [List.map_cons, List.map_cons, List.map_cons]
    by_cases z : p.1 = s
    · rw [if_pos z] at h ⊢
      cases h
      have : r.map (fun p => if p.1 = s then (s, c') else p) = r := by
        rw [List.map_congr_left (g := id) fun q hq => ?_, List.map_id]
        rw [if_neg fun z2 => nd.1 (by rw [z, ← z2]; exact List.mem_map_of_mem hq)]
        rfl
      rw [this, e, z]
    · rw [if_neg z] at h ⊢
      have ih := dk_rpl (c' := c') nd.2 h e
      unfold rpl dk at ih
      rw [ih]
/-- the addresses of a list of trees, apart -/
theorem nd_rpl {n : Nat} {s : Int} {c c' : TT n} : ∀ {l : List (Int × TT n)}, (l.map (·.1)).Nodup → fnd s l = some c → (l.flatMap fun p => ads n p.2).Nodup → (ads n c').Nodup →
    (∀ a ∈ ads n c', a ∈ ads n c ∨ ∀ p ∈ l, a ∉ ads n p.2) → ((rpl s c' l).flatMap fun p => ads n p.2).Nodup
  | [], _, h, _, _, _ => by cases h
  | p :: r, nk, h, nd, n', ha => by
    rw [List.map_cons, List.nodup_cons] at nk
    rw [List.flatMap_cons, List.nodup_append] at nd
    unfold fnd at h
    unfold rpl
    rw [List.map_cons, List.flatMap_cons, List.nodup_append]
    by_cases z : p.1 = s
    · rw [if_pos z] at h ⊢
      cases h
      have : r.map (fun p => if p.1 = s then (s, c') else p) = r := by
        rw [List.map_congr_left (g := id) fun q hq => ?_, List.map_id]
        rw [if_neg fun z2 => nk.1 (by rw [z, ← z2]; exact List.mem_map_of_mem hq)]
        rfl
      rw [this]
      refine ⟨n', nd.2.1, fun a h1 b h2 => ?_⟩
      rcases ha a h1 with h3 | h3
      · exact nd.2.2 a h3 b h2
      · obtain ⟨q, hq, hb⟩ := List.mem_flatMap.mp h2
        exact fun e => h3 q (List.mem_cons_of_mem _ hq) (by rw [e]; exact hb)
    · rw [if_neg z] at h ⊢
      have hc := fnd_mem h
      refine ⟨nd.1, nd_rpl nk.2 h nd.2.1 n' fun a h1 => (ha a h1).imp id fun h2 p hp => h2 p (List.mem_cons_of_mem _ hp), fun a h1 b h2 => ?_⟩
      obtain ⟨q, hq, hb⟩ := List.mem_flatMap.mp h2
      rcases rpl_mem (l := r) hq with rfl | ⟨hq, _⟩
      · rcases ha b hb with h3 | h3
        · exact nd.2.2 a h1 b (List.mem_flatMap.mpr ⟨_, hc, h3⟩)
        · exact fun e => h3 p List.mem_cons_self (by rw [← e]; exact h1)
      · exact nd.2.2 a h1 b (List.mem_flatMap.mpr ⟨q, hq, hb⟩)
def updF (f : List Int → Option Int) (s : Int) (g : List Int → Option Int) : List Int → Option Int
  | [] => f []
  | z :: r => if z = s then g r else f (z :: r)
theorem updF_cons {f g : List Int → Option Int} {s z : Int} {r : List Int} : updF f s g (z :: r) = if z = s then g r else f (z :: r) := rfl
/-- a lower tree has changed -/
theorem Good.down {n : Nat} {a : Addr} {kvs : List (Int × TT n)} {s : Int} {c c' : TT n} {g : List Int → Option Int} {H H' : Hp} (hr : Rep H (n + 1) (a, kvs)) (hn : (ads (n + 1) (a, kvs)).Nodup) (hf : fnd s kvs = some c)
    (G : Good n c c' g H H') (hne : nE n c') : Good (n + 1) (a, kvs) (a, rpl s c' kvs) (updF (lk (n + 1) (a, kvs)) s g) H H' := by
  have hn' : a ∉ kvs.flatMap (fun p => ads n p.2) ∧ (kvs.flatMap fun p => ads n p.2).Nodup := List.nodup_cons.mp hn
  have hc := fnd_mem hf
  have hac : a ∉ ads n c := fun z => hn'.1 (List.mem_flatMap.mpr ⟨_, hc, z⟩)
  have sep : ∀ p ∈ kvs, p.1 ≠ s → ∀ b ∈ ads n p.2, b ∉ ads n c := by
    intro p hp ne b hb hb2
    have key : ∀ (l : List (Int × TT n)), (l.flatMap fun p => ads n p.2).Nodup → p ∈ l → (s, c) ∈ l → False := by
      intro l
      induction l with
      | nil => intro _ h; cases h
      | cons q r ih =>
        intro nd h1 h2
        rw [List.flatMap_cons, List.nodup_append] at nd
        rcases List.mem_cons.mp h1 with e1 | h1
        · rcases List.mem_cons.mp h2 with e2 | h2
          · exact ne (by rw [e1, ← e2])
          · exact nd.2.2 b (by rw [← e1]; exact hb) b (List.mem_flatMap.mpr ⟨_, h2, hb2⟩) rfl
        · rcases List.mem_cons.mp h2 with e2 | h2
          · exact nd.2.2 b (by rw [← e2]; exact hb2) b (List.mem_flatMap.mpr ⟨_, h1, hb⟩) rfl
          · exact ih nd.2.1 h1 h2
    exact key kvs hn'.2 hp hc
  refine ⟨⟨?_, ?_, ?_, ?_⟩, ?_, ?_, ?_, ?_, rfl, fun hN p hp => ?_⟩
  · show H' a = some (.dK (dk (rpl s c' kvs)))
    rw [dk_rpl hr.2.1 hf G.root]
    exact G.fr a _ hr.1 hac
  · show ((rpl s c' kvs).map (·.1)).Nodup
    rw [rpl_keys]; exact hr.2.1
  · intro p hp
    rcases rpl_mem hp with rfl | ⟨hp, _⟩
    · exact hr.2.2.1 (s, c) hc
    · exact hr.2.2.1 p hp
  · intro p hp
    rcases rpl_mem hp with rfl | ⟨hp, ne⟩
    · exact G.rep
    · exact rep_stay (hr.2.2.2 p hp) fun b hb o ho => G.fr b o ho (sep p hp ne b hb)
  · intro r
    cases r with
    | nil => rfl
    | cons z r =>
      show (fnd z (rpl s c' kvs)).bind _ = _
      rw [rpl_fnd ⟨c, hf⟩]
      rw [updF_cons]
      by_cases e : z = s
      · rw [if_pos e, if_pos e]; exact G.look r
      · rw [if_neg e, if_neg e]; rfl
  · intro b o ho hb
    exact G.fr b o ho fun z => hb (mem_ads.mpr (.inr ⟨_, hc, z⟩))
  · intro b hb
    rcases mem_ads.mp hb with rfl | ⟨p, hp, hb⟩
    · exact .inl (mem_ads.mpr (.inl rfl))
    · rcases rpl_mem hp with rfl | ⟨hp, _⟩
      · exact (G.ad b hb).imp (fun z => mem_ads.mpr (.inr ⟨_, hc, z⟩)) id
      · exact .inl (mem_ads.mpr (.inr ⟨p, hp, hb⟩))
  · refine List.nodup_cons.mpr ⟨fun z => ?_, nd_rpl hr.2.1 hf hn'.2 G.nd fun b hb => (G.ad b hb).imp id fun z p hp hb2 => ?_⟩
    · obtain ⟨p, hp, hb⟩ := List.mem_flatMap.mp z
      rcases rpl_mem hp with rfl | ⟨hp, _⟩
      · rcases G.ad a hb with z | z
        · exact hac z
        · rw [hr.1] at z; cases z
      · exact hn'.1 (List.mem_flatMap.mpr ⟨p, hp, hb⟩)
    · obtain ⟨o, ho⟩ := rep_some (hr.2.2.2 p hp) b hb2
      rw [z] at ho; cases ho
  · rcases rpl_mem hp with rfl | ⟨hp, _⟩
    · exact ⟨hne, G.ne (hN (s, c) hc).2⟩
    · exact hN p hp
theorem dkp_new {n : Nat} {s : Int} {v : V} {l : List (Int × TT n)} (h : fnd s l = none) : putK (dk l) (Sum.inl s) v = dk l ++ [(Sum.inl s, v)] := by
  unfold putK
  rw [if_neg]
  rw [valV_any, dk_val, h]
  simp
/-- a new lower tree -/
theorem Good.more {n : Nat} {a : Addr} {kvs : List (Int × TT n)} {s : Int} {c c' : TT n} {g : List Int → Option Int} {H H1 H' : Hp} (hr : Rep H (n + 1) (a, kvs)) (hn : (ads (n + 1) (a, kvs)).Nodup) (hf : fnd s kvs = none) (hs : 0 ≤ s ∧ s < 256)
    (h1 : ∀ b o, H b = some o → b ≠ a → H1 b = some o) (h2 : H1 a = some (.dK (dk kvs ++ [(Sum.inl s, tv n c)]))) (hc : ∀ b ∈ ads n c, H b = none)
    (G : Good n c c' g H1 H') (hne : nE n c') (hcN : NEt n c) : Good (n + 1) (a, kvs) (a, kvs ++ [(s, c')]) (updF (lk (n + 1) (a, kvs)) s g) H H' := by
  have hn' : a ∉ kvs.flatMap (fun p => ads n p.2) ∧ (kvs.flatMap fun p => ads n p.2).Nodup := List.nodup_cons.mp hn
  have old : ∀ b o, H b = some o → b ∉ ads n c := fun b o ho z => by rw [hc b z] at ho; cases ho
  have new : ∀ b ∈ ads n c', H b = none := by
    intro b hb
    rcases G.ad b hb with z | z
    · exact hc b z
    · cases e : H b with
      | none => rfl
      | some o =>
        by_cases eb : b = a
        · rw [eb, h2] at z; cases z
        · rw [h1 b o e eb] at z; cases z
  have hfn : ∀ z, fnd z (kvs ++ [(s, c')]) = if z = s then some c' else fnd z kvs := by
    intro z
    have : ∀ l : List (Int × TT n), fnd s l = none → fnd z (l ++ [(s, c')]) = if z = s then some c' else fnd z l := by
      intro l
      induction l with
      | nil =>
        intro _
        show (if s = z then some c' else none) = _
        by_cases e : z = s
        · rw [if_pos e, if_pos e.symm]
        · rw [if_neg e, if_neg (fun q => e q.symm)]; rfl
      | cons p r ih =>
        intro h
        unfold fnd at h
        by_cases e : p.1 = s
        · rw [if_pos e] at h; cases h
        · rw [if_neg e] at h
          show (if p.1 = z then some p.2 else fnd z (r ++ [(s, c')])) = if z = s then some c' else if p.1 = z then some p.2 else fnd z r
          rw [ih h]
          by_cases e2 : z = s
          · rw [if_pos e2, if_pos e2, if_neg (fun q => e (by rw [q, e2]))]
          · rw [if_neg e2, if_neg e2]
    exact this kvs hf
  refine ⟨⟨?_, ?_, ?_, ?_⟩, ?_, ?_, ?_, ?_, rfl, fun hN p hp => ?_⟩
  · show H' a = some (.dK (dk (kvs ++ [(s, c')])))
    unfold dk
    rw [List.map_append, List.map_cons, List.map_nil, G.root]
    exact G.fr a _ h2 (old a _ hr.1)
  · show ((kvs ++ [(s, c')]).map (·.1)).Nodup
    rw [List.map_append, List.nodup_append]
    refine ⟨hr.2.1, (by simp), fun x hx y hy => ?_⟩
    have : y = s := by simpa using hy
    rw [this]
    exact fun e => fnd_none hf (by rw [← e]; exact hx)
  · intro p hp
    rcases List.mem_append.mp hp with hp | hp
    · exact hr.2.2.1 p hp
    · rw [List.mem_singleton.mp hp]; exact hs
  · intro p hp
    rcases List.mem_append.mp hp with hp | hp
    · exact rep_stay (hr.2.2.2 p hp) fun b hb o ho => G.fr b o (h1 b o ho fun z => hn'.1 (by rw [← z]; exact List.mem_flatMap.mpr ⟨p, hp, hb⟩)) (old b o ho)
    · rw [List.mem_singleton.mp hp]; exact G.rep
  · intro r
    cases r with
    | nil => rfl
    | cons z r =>
      show (fnd z (kvs ++ [(s, c')])).bind _ = _
      rw [hfn]
      rw [updF_cons]
      by_cases e : z = s
      · rw [if_pos e, if_pos e]; exact G.look r
      · rw [if_neg e, if_neg e]; rfl
  · intro b o ho hb
    exact G.fr b o (h1 b o ho fun z => hb (mem_ads.mpr (.inl z))) (old b o ho)
  · intro b hb
    rcases mem_ads.mp hb with rfl | ⟨p, hp, hb⟩
    · exact .inl (mem_ads.mpr (.inl rfl))
    · rcases List.mem_append.mp hp with hp | hp
      · exact .inl (mem_ads.mpr (.inr ⟨p, hp, hb⟩))
      · rw [List.mem_singleton.mp hp] at hb; exact .inr (new b hb)
  · refine List.nodup_cons.mpr ⟨fun z => ?_, ?_⟩
    · obtain ⟨p, hp, hb⟩ := List.mem_flatMap.mp z
      rcases List.mem_append.mp hp with hp | hp
      · exact hn'.1 (List.mem_flatMap.mpr ⟨p, hp, hb⟩)
      · rw [List.mem_singleton.mp hp] at hb
        have := new a hb
        rw [hr.1] at this; cases this
    · show ((kvs ++ [(s, c')]).flatMap fun p => ads n p.2).Nodup
      rw [List.flatMap_append, List.nodup_append]
      refine ⟨hn'.2, by simpa using G.nd, fun b hb d hd => ?_⟩
      obtain ⟨p, hp, hb⟩ := List.mem_flatMap.mp hb
      obtain ⟨o, ho⟩ := rep_some (hr.2.2.2 p hp) b hb
      have hd : d ∈ ads n c' := by simpa using hd
      exact fun e => by rw [e, new d hd] at ho; cases ho
  · rcases List.mem_append.mp hp with hp | hp
    · exact hN p hp
    · rw [List.mem_singleton.mp hp]; exact ⟨hne, G.ne hcN⟩
/-- an entry put at the lowest level -/
theorem Good.leaf {a : Addr} {kvs : List (Int × TT 0)} {s e : Int} {H : Hp} (hr : Rep H 1 (a, kvs)) (hn : (ads 1 (a, kvs)).Nodup) (hs : 0 ≤ s ∧ s < 256) :
    ∃ t' : TT 1, nE 1 t' ∧ Good 1 (a, kvs) t' (updF (lk 1 (a, kvs)) s fun r => if r = [] then some e else none) H (upd H a (.dK (putK (dk kvs) (Sum.inl s) (.int e)))) := by
  have noa : ∀ l : List (Int × TT 0), l.flatMap (fun p => ads 0 p.2) = [] := fun l => by
    induction l with
    | nil => rfl
    | cons p r ih => rw [List.flatMap_cons, ih]; rfl
  have l0 : ∀ (c : Int) (r : List Int), lk 0 (en c) r = if r = [] then some c else none := fun c r => by cases r <;> rfl
  have fin : ∀ (l : List (Int × TT 0)), (l.map (·.1)).Nodup → (∀ p ∈ l, 0 ≤ p.1 ∧ p.1 < 256) → putK (dk kvs) (Sum.inl s) (.int e) = dk l → (∀ z, fnd z l = if z = s then some (en e) else fnd z kvs) →
      Good 1 (a, kvs) (a, l) (updF (lk 1 (a, kvs)) s fun r => if r = [] then some e else none) H (upd H a (.dK (putK (dk kvs) (Sum.inl s) (.int e)))) := fun l k1 k2 k3 k4 => by
    refine ⟨⟨?_, k1, k2, fun _ _ => True.intro⟩, ?_, ?_, ?_, ?_, rfl, fun _ _ _ => ⟨True.intro, True.intro⟩⟩
    · rw [k3]; exact upd_same
    · intro r
      cases r with
      | nil => rfl
      | cons z r =>
        show (fnd z l).bind _ = _
        rw [k4]
        rw [updF_cons]
        by_cases ez : z = s
        · rw [if_pos ez, if_pos ez]; exact l0 e r
        · rw [if_neg ez, if_neg ez]; rfl
    · intro b o ho hb
      rw [upd_ne fun z => hb (mem_ads.mpr (.inl z))]; exact ho
    · intro b hb
      rcases mem_ads.mp hb with rfl | ⟨p, _, hb⟩
      · exact .inl (mem_ads.mpr (.inl rfl))
      · cases hb
    · show (a :: _).Nodup
      rw [noa]; exact (by simp)
  cases hf : fnd s kvs with
  | none =>
    refine ⟨(a, kvs ++ [(s, en e)]), (by show kvs ++ [(s, en e)] ≠ []; simp), fin _ ?_ ?_ ?_ ?_⟩
    · rw [List.map_append, List.nodup_append]
      refine ⟨hr.2.1, (by simp), fun x hx y hy => ?_⟩
      have : y = s := by simpa using hy
      rw [this]
      exact fun e => fnd_none hf (by rw [← e]; exact hx)
    · intro p hp
      rcases List.mem_append.mp hp with hp | hp
      · exact hr.2.2.1 p hp
      · rw [List.mem_singleton.mp hp]; exact hs
    · rw [dkp_new hf]; unfold dk; rw [List.map_append]; rfl
    · intro z
      have : ∀ l : List (Int × TT 0), fnd s l = none → fnd z (l ++ [(s, en e)]) = if z = s then some (en e) else fnd z l := by
        intro l
        induction l with
        | nil =>
          intro _
          show (if s = z then some _ else none) = _
          by_cases e : z = s
          · rw [if_pos e, if_pos e.symm]
          · rw [if_neg e, if_neg (fun q => e q.symm)]; rfl
        | cons p r ih =>
          intro h
          unfold fnd at h
          by_cases e1 : p.1 = s
          · rw [if_pos e1] at h; cases h
          · rw [if_neg e1] at h
            show (if p.1 = z then some p.2 else fnd z (r ++ [(s, en e)])) = if z = s then some (en e) else if p.1 = z then some p.2 else fnd z r
            rw [ih h]
            by_cases e2 : z = s
            · rw [if_pos e2, if_pos e2, if_neg (fun q => e1 (by rw [q, e2]))]
            · rw [if_neg e2, if_neg e2]
      exact this kvs hf
  | some c =>
    refine ⟨(a, rpl s (en e) kvs), (by show rpl s (en e) kvs ≠ []; intro z; have := fnd_mem hf; unfold rpl at z; rw [List.map_eq_nil_iff.mp z] at this; cases this), fin _ (by rw [rpl_keys]; exact hr.2.1) ?_ ?_ (fun z => rpl_fnd ⟨c, hf⟩)⟩
    · intro p hp
      rcases rpl_mem hp with rfl | ⟨hp, _⟩
      · exact hs
      · exact hr.2.2.1 p hp
    · unfold putK
      rw [if_pos (by rw [valV_any, dk_val, hf]; rfl)]
      unfold dk rpl
      rw [List.map_map, List.map_map]
      refine List.map_congr_left fun p _ => ?_
      show (if (Sum.inl p.1 : Key) = Sum.inl s then (Sum.inl p.1, V.int e) else (Sum.inl p.1, tv 0 p.2)) = (fun q : Int × TT 0 => ((Sum.inl q.1 : Key), tv 0 q.2)) (if p.1 = s then (s, en e) else p)
      by_cases ez : p.1 = s
      · rw [if_pos ez, if_pos (by rw [ez]), ez]; rfl
      · rw [if_neg ez, if_neg fun z => ez (Sum.inl.inj z)]

def setF (f : List Int → Option Int) (ss : List Int) (e : Int) : List Int → Option Int := fun r => if r = ss then some e else f r
theorem Good.to {n : Nat} {t t' : TT n} {f g : List Int → Option Int} {H H' : Hp} (G : Good n t t' f H H') (h : ∀ r, f r = g r) : Good n t t' g H H' := ⟨G.rep, fun r => (G.look r).trans (h r), G.fr, G.ad, G.nd, G.root, G.ne⟩
theorem none_before {H H1 : Hp} {a : Addr} (s : Same H H1) (z : H1 a = none) : H a = none := by
  cases e : H a with
  | none => rfl
  | some o => rw [s a o e] at z; cases z
theorem Good.before {n : Nat} {t t' : TT n} {f : List Int → Option Int} {H H1 H' : Hp} (s : Same H H1) (G : Good n t t' f H1 H') : Good n t t' f H H' :=
  ⟨G.rep, G.look, fun a o h hn => G.fr a o (s a o h) hn, fun a ha => (G.ad a ha).imp id (none_before s), G.nd, G.root, G.ne⟩
theorem setF_leaf {t : TT 1} {s e : Int} (r : List Int) : updF (lk 1 t) s (fun r => if r = [] then some e else none) r = setF (lk 1 t) [s] e r := by
  unfold setF
  cases r with
  | nil => rfl
  | cons z r =>
    rw [updF_cons]
    by_cases h : z = s
    · rw [if_pos h, h]
      by_cases h2 : r = []
      · rw [if_pos h2, h2, if_pos rfl]
      · rw [if_neg h2, if_neg (fun q => h2 (by simpa using q))]
        cases r with
        | nil => exact absurd rfl h2
        | cons y r =>
          show none = (fnd s t.2).bind fun c => lk 0 c (y :: r)
          cases fnd s t.2 <;> rfl
    · rw [if_neg h, if_neg (fun q => h (by injection q))]
theorem setF_down {n : Nat} {a : Addr} {kvs : List (Int × TT n)} {s e : Int} {c : TT n} {ss : List Int} (h : fnd s kvs = some c) (r : List Int) : updF (lk (n + 1) (a, kvs)) s (setF (lk n c) ss e) r = setF (lk (n + 1) (a, kvs)) (s :: ss) e r := by
  unfold setF
  cases r with
  | nil => rfl
  | cons z r =>
    rw [updF_cons]
    by_cases hz : z = s
    · rw [if_pos hz, hz]
      by_cases h2 : r = ss
      · rw [if_pos h2, h2, if_pos rfl]
      · rw [if_neg h2, if_neg (fun q => h2 (by injection q))]
        show _ = (fnd s kvs).bind fun c => lk n c r
        rw [h]; rfl
    · rw [if_neg hz, if_neg (fun q => hz (by injection q))]
theorem rpl_ne {n : Nat} {s : Int} {c c' : TT n} {a : Addr} {l : List (Int × TT n)} (h : fnd s l = some c) : nE (n + 1) (a, rpl s c' l) := by
  show rpl s c' l ≠ []
  intro z
  have := fnd_mem h
  unfold rpl at z
  rw [List.map_eq_nil_iff.mp z] at this
  cases this
theorem nd_child {n : Nat} {p : Int × TT n} : ∀ {kvs : List (Int × TT n)}, (kvs.flatMap fun p => ads n p.2).Nodup → p ∈ kvs → (ads n p.2).Nodup
  | [], _, h => by cases h
  | q :: r, h, hp => by
    rw [List.flatMap_cons, List.nodup_append] at h
    rcases List.mem_cons.mp hp with rfl | hp
    · exact h.1
    · exact nd_child h.2.1 hp
def nw (n : Nat) (p : Addr) : TT (n + 1) := (p, [])
theorem lk_new {n : Nat} {p : Addr} (r : List Int) : lk (n + 1) (nw n p) r = none := by cases r <;> rfl
theorem rep_new {H : Hp} {n : Nat} {p : Addr} (h : H p = some (.dK [])) : Rep H (n + 1) (nw n p) := ⟨h, (by show ([] : List Int).Nodup; simp), fun q hq => absurd (show q ∈ ([] : List (Int × TT n)) from hq) List.not_mem_nil, fun q hq => absurd (show q ∈ ([] : List (Int × TT n)) from hq) List.not_mem_nil⟩
theorem ne_new {n : Nat} {p : Addr} : NEt (n + 1) (nw n p) := fun q hq => absurd (show q ∈ ([] : List (Int × TT n)) from hq) List.not_mem_nil
theorem nd_new {n : Nat} {p : Addr} : (ads (n + 1) (nw n p)).Nodup := by show [p].Nodup; simp
theorem setF_more {n : Nat} {a : Addr} {kvs : List (Int × TT n)} {s e : Int} {c : TT n} {ss : List Int} (hc : ∀ r, lk n c r = none) (h : fnd s kvs = none) (r : List Int) : updF (lk (n + 1) (a, kvs)) s (setF (lk n c) ss e) r = setF (lk (n + 1) (a, kvs)) (s :: ss) e r := by
  unfold setF
  cases r with
  | nil => rfl
  | cons z r =>
    rw [updF_cons]
    by_cases hz : z = s
    · rw [if_pos hz, hz]
      by_cases h2 : r = ss
      · rw [if_pos h2, h2, if_pos rfl]
      · rw [if_neg h2, if_neg (fun q => h2 (by injection q)), hc]
        show _ = (fnd s kvs).bind fun c => lk n c r
        rw [h]; rfl
    · rw [if_neg hz, if_neg (fun q => hz (by injection q))]
def oV : Option Int → V
  | some e => .int e
  | none => .non
def sp_look_at (K : PySem.W.Frag) : Sp := fun vs H Q _ => ∃ (n : Nat) (t : TT n) (b : Addr) (ss : List Int), vs = [tv n t, .ref b] ∧ Rep H n t ∧ SqL K H b (ss.map V.int) ∧ ss.length = n ∧ Q (oV (lk n t ss)) H
theorem h_look_at (T : Txt K mg A) : Have P w K mg base "look_at" 1 ["top", "steps"] [] (sp_look_at K) := by
  refine T.r_look_at.have sc_look_at (fun vs H Q E z => ?_) ?_
  · obtain ⟨n, t, b, ss, rfl, _⟩ := z; rfl
  · intro f cdv A' outer s H vs Q E hr z
    obtain ⟨n, t, b, ss, rfl, hR, hb, hl, q⟩ := z
    refine ⟨_, (pss_cons (ps_set (i := 2) sc_look_at.nd rfl (Or.inl rfl) (pvM 0))
      (pss_cons (ps_forE PassesOwn.leaving rfl (pi_list (pvM 1)) (pg_name (i := 3) sc_look_at.nd rfl (Or.inl rfl)) (pss_cons (ps_if (pt_cmp (pc_dnotin (hu_of hr) (pvM 3) (pvM 2))) (pss_one (ps_ret pe_non)) pss_nil)
      (pss_one (ps_set (i := 2) sc_look_at.nd rfl (Or.inl rfl) (pe_dget (hu_of hr) (pvM 2) (pvM 3) (fun _ _ => rfl))))))
      (pss_one (ps_ret (pvM 2))))), ?_⟩
    walk_at "wp"
    refine ⟨⟨_, hb⟩, loop_list (xs := ss.map V.int) (fun i σ H' => H' = H ∧ ∃ k, ∃ c : TT k, ∃ v, σ = [some (tv n t), some (.ref b), some (tv k c), v] ∧ Rep H k c ∧ k + i = n ∧ lk k c (ss.drop i) = lk n t ss) ⟨rfl, n, t, _, rfl, hR, rfl, rfl⟩ (fun i σ H' _ ⟨e, _⟩ => e ▸ hb) (fun i x σ H' hi => ?_) (fun σ H' => ?_)⟩
    · rintro ⟨rfl, k, c, v, rfl, hc, hk, e⟩
      rw [List.getElem?_map] at hi
      obtain ⟨z, hz, rfl⟩ : ∃ z, ss[i]? = some z ∧ V.int z = x := by
        cases e : ss[i]? with
        | none => rw [e] at hi; cases hi
        | some z => rw [e] at hi; exact ⟨z, rfl, Option.some.inj hi⟩
      have hil : i < ss.length := (List.getElem?_eq_some_iff.mp hz).1
      have hdr : ss.drop i = z :: ss.drop (i + 1) := by
        rw [List.drop_eq_getElem_cons hil]
        rw [(List.getElem?_eq_some_iff.mp hz).2]
      obtain ⟨k', rfl⟩ : ∃ k', k = k' + 1 := ⟨k - 1, by omega⟩
      obtain ⟨a, kvs⟩ := c
      have hd := hc.1
      have e2 : lk (k' + 1) (a, kvs) (ss.drop i) = (fnd z kvs).bind fun c => lk k' c (ss.drop (i + 1)) := by rw [hdr]; rfl
      walk_at "wp"
      unfold tDNotIn tDGet
      walk_at "wp"
      refine ⟨_, rfl, _, DGet.k (k := Sum.inl z) hd, ?_⟩
      rw [dk_val]
      cases hf : fnd z kvs with
      | none =>
        rw [hf] at e2
        have e3 : lk n t ss = none := by rw [← e, e2]; rfl
        rw [e3] at q
        exact iteT q
      | some c2 =>
        rw [hf] at e2
        refine iteF ⟨_, rfl, tv k' c2, ?_, k', c2, rfl, hc.2.2.2 _ (fnd_mem hf), by omega, ?_⟩
        · have := DGet.k (k := Sum.inl z) hd
          rw [dk_val, hf] at this
          exact this
        · rw [← e, e2]; rfl
    · rintro ⟨rfl, k, c, v, rfl, hc, hk, e⟩
      rw [List.length_map] at hk e
      obtain rfl : k = 0 := by omega
      walk_at "wp"
      rw [List.drop_length] at e
      rw [← e] at q
      exact q
def sp_put_at (K : PySem.W.Frag) : Sp := fun vs H Q _ => ∃ (n : Nat) (t : TT (n + 1)) (b : Addr) (ss : List Int) (e : Int), vs = [tv (n + 1) t, .ref b, .int e] ∧ Rep H (n + 1) t ∧ (ads (n + 1) t).Nodup ∧ H b = some (.lst (ss.map V.int)) ∧ ss.length = n + 1 ∧ (∀ s ∈ ss, 0 ≤ s ∧ s < 256) ∧
  ∀ H' t', Good (n + 1) t t' (setF (lk (n + 1) t) ss e) H H' → Q .non H'
theorem h_put_at (T : Txt K mg A) : Have P w K mg base "put_at" 1 ["top", "steps", "entry"] [] (sp_put_at K) := by
  refine T.r_put_at.have sc_put_at (fun vs H Q E z => ?_) ?_
  · obtain ⟨n, t, b, ss, e, rfl, _⟩ := z; rfl
  · intro f cdv A' outer s H vs Q E hr z
    obtain ⟨n, t, b, ss, e, rfl, hR, hN, hb, hl, hin, q⟩ := z
    refine ⟨_, (pss_cons (ps_set (i := 3) sc_put_at.nd rfl (Or.inl rfl) (pvM 0))
      (pss_cons (ps_forE PassesOwn.leaving rfl (pi_list (pe_slice sl_list (pvM 1) po_none (po_some (pe_un op_neg pe_int)))) (pg_name (i := 4) sc_put_at.nd rfl (Or.inl rfl)) (pss_one (ps_set (i := 3) sc_put_at.nd rfl (Or.inl rfl) (pe_dsetd (pvM 3) (pvM 4) pe_dnewK ⟨rfl, rfl, rfl, rfl⟩))))
      (pss_one (ps_dput (hu_of hr) (pvM 3) (pe_ix ix_list (pvM 1) (pe_un op_neg pe_int) (fun _ _ => rfl)) (pvM 2) rfl)))), ?_⟩
    walk_at "wp"
    refine ⟨_, SqL.of hb, fun p hp => ⟨⟨_, SqL.of upd_same⟩, ?_⟩⟩
    have hcut : cutV (ss.map V.int) none (some (-1)) = (ss.take n).map V.int := by
      unfold cutV
      show ((ss.map V.int).drop 0).take ((if (-1 : Int) < 0 then (-1 + ((ss.map V.int).length : Int)).toNat else min (-1 : Int).toNat (ss.map V.int).length) - 0) = _
      rw [if_pos (by decide), List.length_map, hl, List.drop_zero, Nat.sub_zero, ← List.map_take, show (-1 + ((n + 1 : Nat) : Int)).toNat = n by omega]
    rw [hcut]
    have sm0 := same_upd (o := .lst ((ss.take n).map V.int)) same_refl hp
    refine loop_list (xs := (ss.take n).map V.int) (fun i σ H' => ∃ k, ∃ c : TT (k + 1), ∃ v, σ = [some (tv (n + 1) t), some (.ref b), some (.int e), some (tv (k + 1) c), v] ∧ k + i = n ∧ Rep H' (k + 1) c ∧ (ads (k + 1) c).Nodup ∧ H' b = some (.lst (ss.map V.int)) ∧ H' p = some (.lst ((ss.take n).map V.int)) ∧
      ∀ H'' c', Good (k + 1) c c' (setF (lk (k + 1) c) (ss.drop i) e) H' H'' → nE (k + 1) c' → Q .non H'') ⟨n, t, _, rfl, rfl, rep_stay hR (fun a _ o => sm0 a o), hN, sm0 _ _ hb, upd_same, fun H'' c' G _ => q _ _ (G.before sm0)⟩ (fun i σ H' _ ⟨_, _, _, _, _, _, _, _, e, _⟩ => SqL.of e) (fun i x σ H' hi => ?_) (fun σ H' => ?_)
    · rintro ⟨k, c, v, rfl, hk, hRc, hNc, hb', hp', tr⟩
      rw [List.getElem?_map] at hi
      obtain ⟨z, hz, rfl⟩ : ∃ z, (ss.take n)[i]? = some z ∧ V.int z = x := by
        cases e : (ss.take n)[i]? with
        | none => rw [e] at hi; cases hi
        | some z => rw [e] at hi; exact ⟨z, rfl, Option.some.inj hi⟩
      have hil : i < n := by
        have := (List.getElem?_eq_some_iff.mp hz).1
        rw [List.length_take] at this; omega
      rw [List.getElem?_take_of_lt hil] at hz
      have hzin := hin z (List.mem_of_getElem? hz)
      have hdr : ss.drop i = z :: ss.drop (i + 1) := by
        have hi2 : i < ss.length := (List.getElem?_eq_some_iff.mp hz).1
        rw [List.drop_eq_getElem_cons hi2, (List.getElem?_eq_some_iff.mp hz).2]
      obtain ⟨k', rfl⟩ : ∃ k', k = k' + 1 := ⟨k - 1, by omega⟩
      obtain ⟨a, kvs⟩ := c
      rw [hdr] at tr
      walk_at "wp"
      unfold tDSetD
      walk_at "wp"
      refine ⟨a, rfl, .inl ⟨_, .inl hRc.1⟩, fun pn hpn => ?_⟩
      have hna : a ≠ pn := ne_of_none hRc.1 hpn
      have sm1 := same_upd (o := .dK []) same_refl hpn
      refine ⟨dk kvs, by rw [upd_ne hna]; exact hRc.1, Sum.inl z, rfl, by unfold dk; rw [List.length_map]; have h256 : kvs.length ≤ 256 := rep_len hRc; omega, fun v hv => ?_, fun hv => ?_⟩
      · rw [dk_val] at hv
        cases hf : fnd z kvs with
        | none => rw [hf] at hv; cases hv
        | some c2 =>
          rw [hf] at hv
          cases hv
          exact ⟨k', c2, rfl, by omega, rep_stay (hRc.2.2.2 _ (fnd_mem hf)) (fun b _ o => sm1 b o), nd_child (List.nodup_cons.mp hNc).2 (fnd_mem hf), sm1 _ _ hb', sm1 _ _ hp', fun H'' c' G hne => tr _ _ ((Good.down hRc hNc hf (G.before sm1) hne).to (setF_down hf)) (rpl_ne hf)⟩
      · rw [dk_val] at hv
        have hf : fnd z kvs = none := Option.map_eq_none_iff.mp hv
        have hba : b ≠ a := ne_of hb' hRc.1 (fun z => nomatch z)
        have hpa : p ≠ a := ne_of hp' hRc.1 (fun z => nomatch z)
        refine ⟨k', nw k' pn, rfl, by omega, rep_new ?_, nd_new, ?_, ?_, fun H'' c' G hne2 => tr _ _ ((Good.more hRc hNc hf hzin (fun b o hb hne => ?_) ?_ (fun b hb => ?_) G hne2 ne_new).to (setF_more (fun r => lk_new r) hf)) (by show kvs ++ _ ≠ []; simp)⟩
        · rw [upd_ne (Ne.symm hna)]; exact upd_same
        · rw [upd_ne hba]; exact sm1 _ _ hb'
        · rw [upd_ne hpa]; exact sm1 _ _ hp'
        · rw [upd_ne hne]; exact sm1 _ _ hb
        · rw [upd_same, dkp_new hf]; rfl
        · have hb : b ∈ [pn] := hb
          rw [List.mem_singleton.mp hb]; exact hpn
    · rintro ⟨k, c, v, rfl, hk, hRc, hNc, hb', hp', tr⟩
      rw [List.length_map, List.length_take] at hk
      obtain rfl : k = 0 := by omega
      obtain ⟨a, kvs⟩ := c
      walk_at "wp"
      unfold sDPut
      walk_at "wp"
      obtain ⟨last, hlast⟩ : ∃ last, ss.drop n = [last] := by
        have h1 : (ss.drop n).length = 1 := by rw [List.length_drop]; omega
        match hd : ss.drop n, h1 with
        | [x], _ => exact ⟨x, rfl⟩
      have hl2 : ss[n]? = some last := by
        have : (ss.drop n)[0]? = some last := by rw [hlast]; rfl
        simpa using this
      have hlin := hin last (List.mem_of_getElem? hl2)
      rw [List.length_map, List.length_take, show min n ss.length = n by omega, hlast] at tr
      obtain ⟨t', hne, G⟩ := Good.leaf (s := last) (e := e) hRc hNc hlin
      refine ⟨_, SqL.of hb', .int last, ?_, a, rfl, _, DPut.k (k := Sum.inl last) hRc.1 (by unfold dk; rw [List.length_map, sizeLine_eq]; have h256 : kvs.length ≤ 256 := rep_len hRc; show kvs.length < _; omega), tr _ _ (G.to setF_leaf) hne⟩
      unfold atI ixN
      rw [if_neg (by decide), if_pos (by rw [List.length_map]; omega)]
      show ((ss.map V.int))[(-1 + ((ss.map V.int).length : Int)).toNat]? = _
      rw [List.length_map, hl, show (-1 + ((n + 1 : Nat) : Int)).toNat = n by omega, List.getElem?_map, hl2]; rfl

def tbF (sp a : Addr) : List (Str × V) := putF "top" (.ref a) (putF "shape" (.ref sp) [])
theorem tbF_top {sp a : Addr} : (tbF sp a).lookup ("top" : Str) = some (.ref a) := by rfl
theorem tbF_shape {sp a : Addr} : (tbF sp a).lookup ("shape" : Str) = some (.ref sp) := by rfl
theorem tbF_no {sp a : Addr} {m : Str} (h : ¬ m ∈ (["top", "shape"] : List Str)) : (tbF sp a).lookup m = none := by
  simp only [List.mem_cons, List.not_mem_nil, or_false, not_or] at h
  unfold tbF
  simp only [lookup_putF, h, if_false]
  rfl
/-- the steps of a page -/
def stp (l f x : Int) : List Int := (dg (pw f) l.toNat x).reverse
theorem stp_len {l f x : Int} : (stp l f x).length = l.toNat := by unfold stp; rw [List.length_reverse, dg_len]
theorem stp_in {l f g x : Int} (h : gd l f g) : ∀ s ∈ stp l f x, 0 ≤ s ∧ s < 256 := fun s hs => by
  have w1 := pw_pos f
  have w8 := pw8 h.2.2.2.1
  have := dg_in (w := pw f) (x := x) (by omega) l.toNat s (List.mem_reverse.mp hs)
  omega
theorem stp_inj {l f g x y : Int} (h : gd l f g) (hx : 0 ≤ x ∧ x < pw (l * f)) (hy : 0 ≤ y ∧ y < pw (l * f)) (e : stp l f x = stp l f y) : x = y := by
  have e1 := hor_all h.1 h.2.1 h.2.2.1 h.2.2.2.1 hx
  have e2 := hor_all h.1 h.2.1 h.2.2.1 h.2.2.2.1 hy
  unfold stp at e
  rw [← e1, ← e2, e]
/-- a table stands at p: its shape, its tree -/
def TabAt (C S : Addr) (H : Hp) (p : Addr) (l f g : Int) (n : Nat) (t : TT (n + 1)) : Prop :=
  l = n + 1 ∧ gd l f g ∧ (∃ dx sp, H p = some (.ins C dx (tbF sp t.1)) ∧ ShapeAt S H sp l f g) ∧ Rep H (n + 1) t ∧ (ads (n + 1) t).Nodup ∧ NEt (n + 1) t
theorem TabAt.stay {C S : Addr} {H H' : Hp} {p : Addr} {l f g : Int} {n : Nat} {t : TT (n + 1)} (h : TabAt C S H p l f g n t) (s : Same H H') : TabAt C S H' p l f g n t := by
  obtain ⟨h1, h2, ⟨dx, sp, h3, h4⟩, h5, h6⟩ := h
  exact ⟨h1, h2, ⟨dx, sp, s _ _ h3, h4.same s⟩, rep_stay h5 fun a _ o => s a o, h6⟩
def sp_tinit (C : Addr) : Sp := fun vs H Q _ => ∃ (p dx sp : Addr), vs = [.ref p, .ref sp] ∧ H p = some (.ins C dx []) ∧ ∀ a, H a = none → Q .non (upd (upd H a (.dK [])) p (.ins C dx (tbF sp a)))
theorem h_tinit (T : Txt K mg A) : HaveI P w K mg base "Table" A.C_Table 1 ["self", "shape"] [] (sp_tinit A.C_Table) := by
  refine T.r_Table_init.have sc_Table_init (fun vs H Q E z => ?_) ?_
  · obtain ⟨p, dx, sp, rfl, _⟩ := z; rfl
  · intro f cdv A' outer s H vs Q E hr z
    obtain ⟨p, dx, sp, rfl, hp, q⟩ := z
    refine ⟨_, (pss_cons (ps_fld (pvM 0) (pvM 1) rfl)
      (pss_one (ps_fld (pvM 0) pe_dnewK rfl))), ?_⟩
    walk_at "wp"
    simp only [hp, T.cl_Table, T.na_Table_shape, T.na_Table_top, true_and]
    walk_at "wp"
    refine ⟨T.cl_Table, T.na_Table_shape, fun a ha => ?_⟩
    have hpa : p ≠ a := fun z => by rw [← z, upd_same] at ha; cases ha
    rw [upd_ne (Ne.symm hpa)] at ha
    refine ⟨_, _, _, by rw [upd_ne hpa]; exact upd_same, T.cl_Table, T.na_Table_top, by show 1 < 1000; decide, ?_⟩
    have e : ∀ o1 o2 o3, upd (upd (upd H p o1) a o2) p o3 = upd (upd H a o2) p o3 := fun o1 o2 o3 => by
      funext b
      by_cases hb : b = p
      · rw [hb, upd_same, upd_same]
      · rw [upd_ne hb, upd_ne hb]
        by_cases hb2 : b = a
        · rw [hb2, upd_same, upd_same]
        · rw [upd_ne hb2, upd_ne hb2, upd_ne hb]
    rw [e]
    exact q a ha
def sp_tlook (C S O : Addr) : Sp := fun vs H Q E => ∃ (p : Addr) (x l f g : Int) (n : Nat) (t : TT (n + 1)), vs = [.ref p, .int x] ∧ TabAt C S H p l f g n t ∧
  if 0 ≤ x ∧ x < pw (l * f) then ∀ H', Same H H' → Q (oV (lk (n + 1) t (stp l f x))) H' else E (.ref O) none H
theorem h_tlook (T : Txt K mg A) : HaveM P w K mg base A.C_Table "look" 6 ["self", "page"] [] (sp_tlook A.C_Table A.C_Shape A.C_OutOfRoom) := by
  have H_look_at := h_look_at (P := P) (w := w) (base := base) T
  have H_Shape_steps := h_st (P := P) (w := w) (base := base) T
  refine T.r_Table_look.have sc_Table_look (fun vs H Q E z => ?_) ?_
  · obtain ⟨p, x, l, f, g, n, t, rfl, _⟩ := z; rfl
  · intro f cdv A' outer s H vs Q E hr z
    obtain ⟨p, x, l, f', g, n, t, rfl, hT, q⟩ := z
    refine ⟨_, (pss_one (ps_ret (pe_callE H_look_at (hr.mono (by decide)) xw_def (pa_cons (pe_fld (pvM 0) rfl) (pa_cons (pe_methE (pe_fld (pvM 0) rfl) T.cl_Shape H_Shape_steps (hr.mono (by decide)) xw_def (pa_cons (pvM 1) pa_nil)) pa_nil))))), ?_⟩
    obtain ⟨h1, h2, ⟨dx, sp, h3, h4⟩, h5, h6⟩ := id hT
    obtain ⟨dx2, h4'⟩ := id h4
    unfold sp_st sp_look_at
    walk_at "wp"
    simp only [h3, T.cl_Table, T.na_Table_shape, T.na_Table_top, true_and]
    walk_at "wp"
    refine ⟨T.cl_Table, T.na_Table_top, _, tbF_top, T.cl_Table, T.na_Table_shape, _, tbF_shape, sp, rfl, dx2, _, h4', shF_no (by decide +kernel), sp, rfl, l, f', g, h4, h2, ?_⟩
    by_cases c : 0 ≤ x ∧ x < pw (l * f')
    · rw [if_pos c] at q ⊢
      intro u H1 sm hu hu'
      refine ⟨n + 1, t, rfl, rep_stay h5 (fun a _ o => sm a o), stp l f' x, SqL.of hu', ?_, q _ sm⟩
      rw [stp_len]; omega
    · rw [if_neg c] at q ⊢
      exact q
def sp_tput (C S O : Addr) : Sp := fun vs H Q E => ∃ (p : Addr) (x e l f g : Int) (n : Nat) (t : TT (n + 1)), vs = [.ref p, .int x, .int e] ∧ TabAt C S H p l f g n t ∧
  if 0 ≤ x ∧ x < pw (l * f) then ∀ H' t', TabAt C S H' p l f g n t' → (∀ r, lk (n + 1) t' r = setF (lk (n + 1) t) (stp l f x) e r) → Frm (ads (n + 1) t) H H' → (∀ a ∈ ads (n + 1) t', a ∈ ads (n + 1) t ∨ H a = none) → Q .non H' else E (.ref O) none H
theorem h_tput (T : Txt K mg A) : HaveM P w K mg base A.C_Table "put" 6 ["self", "page", "entry"] [] (sp_tput A.C_Table A.C_Shape A.C_OutOfRoom) := by
  have H_put_at := h_put_at (P := P) (w := w) (base := base) T
  have H_Shape_steps := h_st (P := P) (w := w) (base := base) T
  refine T.r_Table_put.have sc_Table_put (fun vs H Q E z => ?_) ?_
  · obtain ⟨p, x, e, l, f, g, n, t, rfl, _⟩ := z; rfl
  · intro f cdv A' outer s H vs Q E hr z
    obtain ⟨p, x, e, l, f', g, n, t, rfl, hT, q⟩ := z
    refine ⟨_, (pss_one (ps_expr (pe_callE H_put_at (hr.mono (by decide)) xw_def (pa_cons (pe_fld (pvM 0) rfl) (pa_cons (pe_methE (pe_fld (pvM 0) rfl) T.cl_Shape H_Shape_steps (hr.mono (by decide)) xw_def (pa_cons (pvM 1) pa_nil)) (pa_cons (pvM 2) pa_nil)))))), ?_⟩
    obtain ⟨h1, h2, ⟨dx, sp, h3, h4⟩, h5, h6⟩ := id hT
    obtain ⟨dx2, h4'⟩ := id h4
    unfold sp_st sp_put_at
    walk_at "wp"
    simp only [h3, T.cl_Table, T.na_Table_shape, T.na_Table_top, true_and]
    walk_at "wp"
    refine ⟨T.cl_Table, T.na_Table_top, _, tbF_top, T.cl_Table, T.na_Table_shape, _, tbF_shape, sp, rfl, dx2, _, h4', shF_no (by decide +kernel), sp, rfl, l, f', g, h4, h2, ?_⟩
    by_cases c : 0 ≤ x ∧ x < pw (l * f')
    · rw [if_pos c] at q ⊢
      intro u H1 sm hu hu'
      refine ⟨n, t, rfl, rep_stay h5 (fun a _ o => sm a o), h6.1, stp l f' x, hu', ?_, stp_in h2, fun H' t' G => ?_⟩
      · rw [stp_len]; omega
      · have G' := G.before sm
        have et : t'.1 = t.1 := by have := G.root; exact V.ref.inj this
        refine q H' t' ⟨h1, h2, ⟨dx, sp, ?_, dx2, ?_⟩, G.rep, G.nd, G.ne h6.2⟩ G.look G'.fr G'.ad
        · rw [et]
          exact G'.fr _ _ h3 fun z => by obtain ⟨o, ho⟩ := rep_dk h5 _ z; rw [h3] at ho; cases ho
        · exact G'.fr _ _ h4' fun z => by obtain ⟨o, ho⟩ := rep_dk h5 _ z; rw [h4'] at ho; cases ho
    · rw [if_neg c] at q ⊢
      exact q

theorem same_none {H H' : Hp} {p : Addr} (s : Same H H') (h : H' p = none) : H p = none := by
  cases e : H p with
  | none => rfl
  | some o => rw [s p o e] at h; cases h

/-! ### taking out -/
def dropF (f : List Int → Option Int) (ss : List Int) : List Int → Option Int := fun r => if r = ss then none else f r
def del {α : Type} (s : Int) (l : List (Int × α)) : List (Int × α) := l.filter fun p => decide (p.1 ≠ s)
theorem del_mem {α : Type} {s : Int} {l : List (Int × α)} {p : Int × α} : p ∈ del s l ↔ p ∈ l ∧ p.1 ≠ s := by unfold del; rw [List.mem_filter]; simp
theorem del_fnd {α : Type} {s z : Int} : ∀ {l : List (Int × α)}, fnd z (del s l) = if z = s then none else fnd z l
  | [] => by show (none : Option α) = if z = s then none else none; rw [ite_self]
  | p :: r => by
    have ih := del_fnd (s := s) (z := z) (l := r)
    unfold del at ih ⊢
    rw [List.filter_cons]
    by_cases c : p.1 = s
    · rw [if_neg (by simpa using c), ih]
      by_cases e : z = s
      · rw [if_pos e, if_pos e]
      · rw [if_neg e, if_neg e]
        show _ = if p.1 = z then some p.2 else fnd z r
        rw [if_neg (fun q => e (by rw [← q, c]))]
    · rw [if_pos (by simpa using c)]
      show (if p.1 = z then some p.2 else fnd z _) = if z = s then none else if p.1 = z then some p.2 else fnd z r
      rw [ih]
      by_cases e : z = s
      · rw [if_pos e, if_pos e, if_neg (fun q => c (by rw [q, e]))]
      · rw [if_neg e, if_neg e]
theorem dk_del {n : Nat} {s : Int} {l : List (Int × TT n)} : dropK (dk l) (Sum.inl s) = dk (del s l) := by
  unfold dropK dk del
  rw [List.filter_map]
  congr 1
  refine List.filter_congr fun p _ => ?_
  show decide ((Sum.inl p.1 : Key) ≠ Sum.inl s) = decide (p.1 ≠ s)
  rw [decide_eq_decide]
  exact ⟨fun h z => h (by rw [z]), fun h z => h (Sum.inl.inj z)⟩
theorem Good.refl {n : Nat} {t : TT n} {H : Hp} (hr : Rep H n t) (hn : (ads n t).Nodup) : Good n t t (lk n t) H H := ⟨hr, fun _ => rfl, fun _ _ h _ => h, fun _ h => .inl h, hn, rfl, id⟩
theorem nd_del {n : Nat} {s : Int} : ∀ {l : List (Int × TT n)}, (l.flatMap fun p => ads n p.2).Nodup → ((del s l).flatMap fun p => ads n p.2).Nodup
  | [], h => h
  | p :: r, h => by
    rw [List.flatMap_cons, List.nodup_append] at h
    have ih := nd_del (s := s) h.2.1
    unfold del at ih ⊢
    rw [List.filter_cons]
    by_cases c : p.1 = s
    · rw [if_neg (by simpa using c)]; exact ih
    · rw [if_pos (by simpa using c), List.flatMap_cons, List.nodup_append]
      refine ⟨h.1, ih, fun a ha b hb => ?_⟩
      obtain ⟨q, hq, hb⟩ := List.mem_flatMap.mp hb
      exact h.2.2 a ha b (List.mem_flatMap.mpr ⟨q, (List.mem_filter.mp hq).1, hb⟩)
/-- apart from one another -/
theorem ads_sep {n : Nat} {a : Addr} {kvs : List (Int × TT n)} {s : Int} {c : TT n} (hn : (ads (n + 1) (a, kvs)).Nodup) (hf : fnd s kvs = some c) : a ∉ ads n c ∧ ∀ p ∈ kvs, p.1 ≠ s → ∀ b ∈ ads n p.2, b ∉ ads n c := by
  have hn' : a ∉ kvs.flatMap (fun p => ads n p.2) ∧ (kvs.flatMap fun p => ads n p.2).Nodup := List.nodup_cons.mp hn
  have hc := fnd_mem hf
  refine ⟨fun z => hn'.1 (List.mem_flatMap.mpr ⟨_, hc, z⟩), ?_⟩
  intro p hp ne b hb hb2
  have key : ∀ (l : List (Int × TT n)), (l.flatMap fun p => ads n p.2).Nodup → p ∈ l → (s, c) ∈ l → False := by
    intro l
    induction l with
    | nil => intro _ h; cases h
    | cons q r ih =>
      intro nd h1 h2
      rw [List.flatMap_cons, List.nodup_append] at nd
      rcases List.mem_cons.mp h1 with e1 | h1
      · rcases List.mem_cons.mp h2 with e2 | h2
        · exact ne (by rw [e1, ← e2])
        · exact nd.2.2 b (by rw [← e1]; exact hb) b (List.mem_flatMap.mpr ⟨_, h2, hb2⟩) rfl
      · rcases List.mem_cons.mp h2 with e2 | h2
        · exact nd.2.2 b (by rw [← e2]; exact hb2) b (List.mem_flatMap.mpr ⟨_, h1, hb⟩) rfl
        · exact ih nd.2.1 h1 h2
  exact key kvs hn'.2 hp hc
/-- a step is taken out -/
theorem Good.gone {n : Nat} {a : Addr} {kvs : List (Int × TT n)} {s : Int} {c c' : TT n} {g : List Int → Option Int} {H H' : Hp} (hr : Rep H (n + 1) (a, kvs)) (hn : (ads (n + 1) (a, kvs)).Nodup) (hf : fnd s kvs = some c)
    (G : Good n c c' g H H') : Good (n + 1) (a, kvs) (a, del s kvs) (updF (lk (n + 1) (a, kvs)) s fun _ => none) H (upd H' a (.dK (dk (del s kvs)))) := by
  have hn' : a ∉ kvs.flatMap (fun p => ads n p.2) ∧ (kvs.flatMap fun p => ads n p.2).Nodup := List.nodup_cons.mp hn
  have hc := fnd_mem hf
  obtain ⟨hac, sep⟩ := ads_sep hn hf
  refine ⟨⟨upd_same, ?_, fun p hp => hr.2.2.1 p (del_mem.mp hp).1, fun p hp => ?_⟩, ?_, ?_, ?_, ?_, rfl, fun hN p hp => hN p (del_mem.mp hp).1⟩
  · show ((del s kvs).map (·.1)).Nodup
    exact List.Sublist.nodup (List.Sublist.map _ List.filter_sublist) hr.2.1
  · have hp := del_mem.mp hp
    refine rep_stay (hr.2.2.2 p hp.1) fun b hb o ho => ?_
    rw [upd_ne (fun z => hn'.1 (by rw [← z]; exact List.mem_flatMap.mpr ⟨p, hp.1, hb⟩))]
    exact G.fr b o ho (sep p hp.1 hp.2 b hb)
  · intro r
    cases r with
    | nil => rfl
    | cons z r =>
      show (fnd z (del s kvs)).bind _ = _
      rw [del_fnd, updF_cons]
      by_cases e : z = s
      · rw [if_pos e, if_pos e]; rfl
      · rw [if_neg e, if_neg e]; rfl
  · intro b o ho hb
    rw [upd_ne fun z => hb (mem_ads.mpr (.inl z))]
    exact G.fr b o ho fun z => hb (mem_ads.mpr (.inr ⟨_, hc, z⟩))
  · intro b hb
    rcases mem_ads.mp hb with rfl | ⟨p, hp, hb⟩
    · exact .inl (mem_ads.mpr (.inl rfl))
    · exact .inl (mem_ads.mpr (.inr ⟨p, (del_mem.mp hp).1, hb⟩))
  · refine List.nodup_cons.mpr ⟨fun z => ?_, nd_del hn'.2⟩
    obtain ⟨p, hp, hb⟩ := List.mem_flatMap.mp z
    exact hn'.1 (List.mem_flatMap.mpr ⟨p, (del_mem.mp hp).1, hb⟩)
theorem dropF_down {n : Nat} {a : Addr} {kvs : List (Int × TT n)} {s : Int} {c : TT n} {ss : List Int} (h : fnd s kvs = some c) (r : List Int) : updF (lk (n + 1) (a, kvs)) s (dropF (lk n c) ss) r = dropF (lk (n + 1) (a, kvs)) (s :: ss) r := by
  unfold dropF
  cases r with
  | nil => rfl
  | cons z r =>
    rw [updF_cons]
    by_cases hz : z = s
    · rw [if_pos hz, hz]
      by_cases h2 : r = ss
      · rw [if_pos h2, h2, if_pos rfl]
      · rw [if_neg h2, if_neg (fun q => h2 (by injection q))]
        show _ = (fnd s kvs).bind fun c => lk n c r
        rw [h]; rfl
    · rw [if_neg hz, if_neg (fun q => hz (by injection q))]
/-- where nothing is left below -/
theorem dropF_gone {n : Nat} {a : Addr} {kvs : List (Int × TT n)} {s : Int} {c : TT n} {ss : List Int} (h : fnd s kvs = some c) (hc : ∀ r, dropF (lk n c) ss r = none) (r : List Int) : updF (lk (n + 1) (a, kvs)) s (fun _ => none) r = dropF (lk (n + 1) (a, kvs)) (s :: ss) r := by
  rw [← dropF_down h]
  cases r with
  | nil => rfl
  | cons z r =>
    rw [updF_cons, updF_cons, hc]
theorem dropF_none {n : Nat} {a : Addr} {kvs : List (Int × TT n)} {s : Int} {ss : List Int} (h : fnd s kvs = none) (r : List Int) : lk (n + 1) (a, kvs) r = dropF (lk (n + 1) (a, kvs)) (s :: ss) r := by
  unfold dropF
  by_cases e : r = s :: ss
  · rw [if_pos e, e]
    show (fnd s kvs).bind _ = none
    rw [h]; rfl
  · rw [if_neg e]

def sp_drop (K : PySem.W.Frag) : Nat → Sp
  | 0 => fun _ _ _ _ => False
  | n + 1 => fun vs H Q _ => ∃ (t : TT (n + 1)) (b : Addr) (ss : List Int), vs = [tv (n + 1) t, .ref b] ∧ Rep H (n + 1) t ∧ (ads (n + 1) t).Nodup ∧ H b = some (.lst (ss.map V.int)) ∧ ss.length = n + 1 ∧ ∀ H' t', Good (n + 1) t t' (dropF (lk (n + 1) t) ss) H H' → Q .non H'
theorem h_drop_at (T : Txt K mg A) : ∀ n, Have P w K mg base "drop_at" (n + 1) ["level", "steps"] [] (sp_drop K n)
  | 0 => T.r_drop_at.have sc_drop_at (fun vs H Q E z => z.elim) (fun _ _ _ _ _ _ _ _ _ _ z => z.elim)
  | n + 1 => by
    have H_drop_at := h_drop_at T n
    refine T.r_drop_at.have sc_drop_at (fun vs H Q E z => ?_) ?_
    · obtain ⟨t, b, ss, rfl, _⟩ := z; rfl
    · intro f cdv A' outer s H vs Q E hr z
      obtain ⟨⟨a, kvs⟩, b, ss, rfl, hR, hN, hb, hl, q⟩ := z
      refine ⟨_, (pss_cons (ps_set (i := 2) sc_drop_at.nd rfl (Or.inl rfl) (pe_ix ix_list (pvM 1) pe_int (fun _ _ => rfl)))
      (pss_cons (ps_if (pt_cmp (pc_dnotin (hu_of hr) (pvM 2) (pvM 0))) (pss_one ps_retN) pss_nil)
      (pss_cons (ps_if (pt_cmpR op_gt (pe_callB call_len rfl T.b_len PySem.boot_len (pa_cons (pvM 1) pa_nil)) pe_int (nomark _)) (pss_cons (ps_expr (pe_callE H_drop_at (hr.mono (by omega)) xw_def (pa_cons (pe_dget (hu_of hr) (pvM 0) (pvM 2) (fun _ _ => rfl)) (pa_cons (pe_slice sl_list (pvM 1) (po_some pe_int) po_none) pa_nil))))
      (pss_one (ps_if (pt_cmpR op_gt (pe_callB call_lenD rfl T.b_len PySem.boot_len (pa_cons (pe_dget (hu_of hr) (pvM 0) (pvM 2) (fun _ _ => rfl)) pa_nil)) pe_int (nomark _)) (pss_one ps_retN) pss_nil))) pss_nil)
      (pss_one (ps_expr (pe_dpop1 (pvM 0) (pvM 2) ⟨rfl, rfl, rfl, rfl⟩)))))), ?_⟩
      cases ss with
      | nil => cases hl
      | cons z ss =>
        walk_at "wp"
        unfold tDNotIn tDGet tDPop1
        walk_at "wp"
        refine ⟨_, SqL.of hb, .int z, atI_nat (j := 0) rfl, a, rfl, _, DGet.k (k := Sum.inl z) hR.1, ?_⟩
        rw [dk_val]
        cases hf : fnd z kvs with
        | none => exact iteT (q _ _ ((Good.refl hR hN).to (dropF_none hf)))
        | some c =>
          refine iteF ⟨(z :: ss).length, .inl ⟨_, SqL.of hb, by simp⟩, ?_⟩
          have hget : ∀ H1 : Hp, H1 a = some (.dK (dk kvs)) → DGet H1 a (.int z) (some (tv n c)) := fun H1 h1 => by
            have := DGet.k (k := Sum.inl z) h1
            rw [dk_val, hf] at this
            exact this
          have hval : valV (dk kvs) (Sum.inl z) = some (tv n c) := by rw [dk_val, hf]; rfl
          by_cases c1 : (1 : Int) < ((z :: ss).length : Int)
          · rw [if_pos c1]
            rw [List.length_cons] at c1 hl
            obtain ⟨m, rfl⟩ : ∃ m, n = m + 1 := ⟨n - 1, by omega⟩
            refine ⟨a, rfl, _, hget _ hR.1, _, SqL.of hb, fun p hp => ?_⟩
            have sm := same_upd (o := .lst (cutV ((z :: ss).map V.int) (some 1) none)) same_refl hp
            have hcut : cutV ((z :: ss).map V.int) (some 1) none = ss.map V.int := by
              unfold cutV
              show (((z :: ss).map V.int).drop (if (1 : Int) < 0 then (1 + (((z :: ss).map V.int).length : Int)).toNat else min (1 : Int).toNat ((z :: ss).map V.int).length)).take (((z :: ss).map V.int).length - (if (1 : Int) < 0 then (1 + (((z :: ss).map V.int).length : Int)).toNat else min (1 : Int).toNat ((z :: ss).map V.int).length)) = _
              rw [if_neg (by decide), List.map_cons, List.length_cons, show min (1 : Int).toNat ((ss.map V.int).length + 1) = 1 from Nat.min_eq_left (Nat.le_add_left 1 _), List.drop_one, List.tail_cons, Nat.add_sub_cancel, List.take_length]
            refine ⟨c, p, ss, rfl, rep_stay (hR.2.2.2 _ (fnd_mem hf)) (fun b _ o => sm b o), nd_child (List.nodup_cons.mp hN).2 (fnd_mem hf), by rw [upd_same, hcut], by omega, fun H' c' G => ?_⟩
            have G' := G.before sm
            have Ga : H' a = some (.dK (dk kvs)) := G'.fr a _ hR.1 (ads_sep hN hf).1
            have er : c'.1 = c.1 := V.ref.inj G.root
            have hlen : H' c.1 = some (.dK (dk c'.2)) := by rw [← er]; exact G.rep.1
            refine ⟨a, rfl, _, hget _ Ga, c.1, rfl, dk c'.2, hlen, ?_⟩
            by_cases c2 : (0 : Int) < ((dk c'.2).length : Int)
            · rw [if_pos c2]
              exact q _ _ ((Good.down hR hN hf G' (by show c'.2 ≠ []; intro z; rw [z] at c2; exact absurd (show (0 : Int) < 0 from c2) (by decide))).to (dropF_down hf))
            · rw [if_neg c2]
              refine ⟨a, rfl, .inl ⟨_, .inl Ga⟩, dk kvs, Ga, Sum.inl z, rfl, _, hval, ?_⟩
              rw [dk_del]
              have h0 : c'.2 = [] := by
                unfold dk at c2
                rw [List.length_map] at c2
                exact List.eq_nil_of_length_eq_zero (by omega)
              refine q _ _ ((Good.gone hR hN hf G').to (dropF_gone hf fun r => ?_))
              rw [← G.look r]
              cases r with
              | nil => rfl
              | cons y r =>
                show (fnd y c'.2).bind _ = none
                rw [h0]; rfl
          · rw [if_neg c1]
            rw [List.length_cons] at c1 hl
            obtain rfl : n = 0 := by omega
            obtain rfl : ss = [] := List.eq_nil_of_length_eq_zero (by omega)
            refine ⟨a, rfl, .inl ⟨_, .inl hR.1⟩, dk kvs, hR.1, Sum.inl z, rfl, _, hval, ?_⟩
            rw [dk_del]
            refine q _ _ ((Good.gone hR hN hf (Good.refl True.intro (by show ([] : List Addr).Nodup; simp))).to (dropF_gone hf fun r => ?_))
            unfold dropF
            cases r with
            | nil => rw [if_pos rfl]
            | cons y r => rw [if_neg (fun z => nomatch z)]; rfl
def sp_tdrop (C S O : Addr) : Sp := fun vs H Q E => ∃ (p : Addr) (x l f g : Int) (n : Nat) (t : TT (n + 1)), vs = [.ref p, .int x] ∧ TabAt C S H p l f g n t ∧
  if 0 ≤ x ∧ x < pw (l * f) then ∀ H' t', TabAt C S H' p l f g n t' → (∀ r, lk (n + 1) t' r = dropF (lk (n + 1) t) (stp l f x) r) → Frm (ads (n + 1) t) H H' → (∀ a ∈ ads (n + 1) t', a ∈ ads (n + 1) t ∨ H a = none) → Q .non H' else E (.ref O) none H
theorem h_tdrop (T : Txt K mg A) : HaveM P w K mg base A.C_Table "drop" 6 ["self", "page"] [] (sp_tdrop A.C_Table A.C_Shape A.C_OutOfRoom) := by
  have H_Shape_steps := h_st (P := P) (w := w) (base := base) T
  refine T.r_Table_drop.have sc_Table_drop (fun vs H Q E z => ?_) ?_
  · obtain ⟨p, x, l, f, g, n, t, rfl, _⟩ := z; rfl
  · intro f cdv A' outer s H vs Q E hr z
    obtain ⟨p, x, l, f', g, n, t, rfl, hT, q⟩ := z
    have hn2 : n + 1 ≤ 3 := by have := hT.1; have := hT.2.1.2.1; omega
    have H_drop_at := h_drop_at (P := P) (w := w) (base := base) T (n + 1)
    refine ⟨_, (pss_one (ps_expr (pe_callE H_drop_at (hr.mono (by omega)) xw_def (pa_cons (pe_fld (pvM 0) rfl) (pa_cons (pe_methE (pe_fld (pvM 0) rfl) T.cl_Shape H_Shape_steps (hr.mono (by omega)) xw_def (pa_cons (pvM 1) pa_nil)) pa_nil))))), ?_⟩
    obtain ⟨h1, h2, ⟨dx, sp, h3, h4⟩, h5, h6⟩ := id hT
    obtain ⟨dx2, h4'⟩ := id h4
    unfold sp_st sp_drop
    walk_at "wp"
    simp only [h3, T.cl_Table, T.na_Table_shape, T.na_Table_top, true_and]
    walk_at "wp"
    refine ⟨T.cl_Table, T.na_Table_top, _, tbF_top, T.cl_Table, T.na_Table_shape, _, tbF_shape, sp, rfl, dx2, _, h4', shF_no (by decide +kernel), sp, rfl, l, f', g, h4, h2, ?_⟩
    by_cases c : 0 ≤ x ∧ x < pw (l * f')
    · rw [if_pos c] at q ⊢
      intro u H1 sm hu hu'
      refine ⟨t, rfl, rep_stay h5 (fun a _ o => sm a o), h6.1, stp l f' x, hu', ?_, fun H' t' G => ?_⟩
      · rw [stp_len]; omega
      · have G' := G.before sm
        have et : t'.1 = t.1 := V.ref.inj G.root
        refine q H' t' ⟨h1, h2, ⟨dx, sp, ?_, dx2, ?_⟩, G.rep, G.nd, G.ne h6.2⟩ G.look G'.fr G'.ad
        · rw [et]
          exact G'.fr _ _ h3 fun z => by obtain ⟨o, ho⟩ := rep_dk h5 _ z; rw [h3] at ho; cases ho
        · exact G'.fr _ _ h4' fun z => by obtain ⟨o, ho⟩ := rep_dk h5 _ z; rw [h4'] at ho; cases ho
    · rw [if_neg c] at q ⊢
      exact q

/-! ### how deep -/
def dp : (n : Nat) → TT (n + 1) → List Int → Int
  | 0, _, _ => 1
  | _ + 1, _, [] => 1
  | n + 1, t, s :: r => match fnd s t.2 with
    | none => 1
    | some c => 1 + dp n c r
theorem dp_none {n : Nat} {t : TT (n + 2)} {s : Int} {r : List Int} (h : fnd s t.2 = none) : dp (n + 1) t (s :: r) = 1 := by
  show (match fnd s t.2 with | none => 1 | some c => 1 + dp n c r) = 1
  rw [h]
theorem dp_some {n : Nat} {t : TT (n + 2)} {s : Int} {r : List Int} {c : TT (n + 1)} (h : fnd s t.2 = some c) : dp (n + 1) t (s :: r) = 1 + dp n c r := by
  show (match fnd s t.2 with | none => 1 | some c => 1 + dp n c r) = 1 + dp n c r
  rw [h]
/-- a table that is not empty has an entry -/
theorem ne_has : ∀ {n : Nat} {t : TT n}, nE n t → NEt n t → ∃ r e, lk n t r = some e
  | 0, t, _, _ => ⟨[], t, rfl⟩
  | n + 1, (a, []), h, _ => absurd rfl h
  | n + 1, (a, p :: l), _, hN => by
    have hp := hN p List.mem_cons_self
    obtain ⟨r, e, h⟩ := ne_has hp.1 hp.2
    refine ⟨p.1 :: r, e, ?_⟩
    show (fnd p.1 (p :: l)).bind _ = _
    unfold fnd
    rw [if_pos rfl]
    exact h
/-- a step leads on just where an entry lies behind it -/
theorem step_iff {n : Nat} {t : TT (n + 1)} {s : Int} (hN : NEt (n + 1) t) : (∃ c, fnd s t.2 = some c) ↔ ∃ r e, lk (n + 1) t (s :: r) = some e := by
  constructor
  · rintro ⟨c, h⟩
    have hp := hN (s, c) (fnd_mem h)
    obtain ⟨r, e, h2⟩ := ne_has hp.1 hp.2
    refine ⟨r, e, ?_⟩
    show (fnd s t.2).bind _ = _
    rw [h]; exact h2
  · rintro ⟨r, e, h⟩
    have h : (fnd s t.2).bind (fun c => lk n c r) = some e := h
    cases hf : fnd s t.2 with
    | none => rw [hf] at h; cases h
    | some c => exact ⟨c, rfl⟩
def sp_depth (K : PySem.W.Frag) : Sp := fun vs H Q _ => ∃ (n : Nat) (t : TT (n + 1)) (b : Addr) (ss : List Int), vs = [tv (n + 1) t, .ref b] ∧ Rep H (n + 1) t ∧ H b = some (.lst (ss.map V.int)) ∧ ss.length = n + 1 ∧ ∀ H', Same H H' → Q (.int (dp n t ss)) H'
theorem h_depth_at (T : Txt K mg A) : Have P w K mg base "depth_at" 1 ["top", "steps"] [] (sp_depth K) := by
  refine T.r_depth_at.have sc_depth_at (fun vs H Q E z => ?_) ?_
  · obtain ⟨n, t, b, ss, rfl, _⟩ := z; rfl
  · intro f cdv A' outer s H vs Q E hr z
    obtain ⟨n, t, b, ss, rfl, hR, hb, hl, q⟩ := z
    refine ⟨_, (pss_cons (ps_set (i := 2) sc_depth_at.nd rfl (Or.inl rfl) (pvM 0))
      (pss_cons (ps_set (i := 3) sc_depth_at.nd rfl (Or.inl rfl) pe_int)
      (pss_cons (ps_forE PassesOwn.leaving rfl (pi_list (pe_slice sl_list (pvM 1) po_none (po_some (pe_un op_neg pe_int)))) (pg_name (i := 4) sc_depth_at.nd rfl (Or.inl rfl)) (pss_cons (ps_if (pt_cmp (pc_dnotin (hu_of hr) (pvM 4) (pvM 2))) (pss_one (ps_ret (pvM 3))) pss_nil)
      (pss_cons (ps_set (i := 2) sc_depth_at.nd rfl (Or.inl rfl) (pe_dget (hu_of hr) (pvM 2) (pvM 4) (fun _ _ => rfl)))
      (pss_one (ps_set (i := 3) sc_depth_at.nd rfl (Or.inl rfl) (pe_op op_add (pvM 3) pe_int))))))
      (pss_one (ps_ret (pvM 3)))))), ?_⟩
    walk_at "wp"
    refine ⟨_, SqL.of hb, fun p hp => ⟨⟨_, SqL.of upd_same⟩, ?_⟩⟩
    have hcut : cutV (ss.map V.int) none (some (-1)) = (ss.take n).map V.int := by
      unfold cutV
      show ((ss.map V.int).drop 0).take ((if (-1 : Int) < 0 then (-1 + ((ss.map V.int).length : Int)).toNat else min (-1 : Int).toNat (ss.map V.int).length) - 0) = _
      rw [if_pos (by decide), List.length_map, hl, List.drop_zero, Nat.sub_zero, ← List.map_take, show (-1 + ((n + 1 : Nat) : Int)).toNat = n by omega]
    rw [hcut]
    have sm0 := same_upd (o := .lst ((ss.take n).map V.int)) same_refl hp
    refine loop_list (xs := (ss.take n).map V.int) (fun i σ H' => H' = upd H p (.lst ((ss.take n).map V.int)) ∧ ∃ k, ∃ c : TT (k + 1), ∃ v, σ = [some (tv (n + 1) t), some (.ref b), some (tv (k + 1) c), some (.int (1 + (i : Int))), v] ∧ k + i = n ∧ Rep H (k + 1) c ∧ dp n t ss = (i : Int) + dp k c (ss.drop i)) ⟨rfl, n, t, _, rfl, rfl, hR, by simp⟩ (fun i σ H' _ ⟨e, _⟩ => SqL.of (by rw [e]; exact upd_same)) (fun i x σ H' hi => ?_) (fun σ H' => ?_)
    · rintro ⟨rfl, k, c, v, rfl, hk, hRc, hdp⟩
      rw [List.getElem?_map] at hi
      obtain ⟨z, hz, rfl⟩ : ∃ z, (ss.take n)[i]? = some z ∧ V.int z = x := by
        cases e : (ss.take n)[i]? with
        | none => rw [e] at hi; cases hi
        | some z => rw [e] at hi; exact ⟨z, rfl, Option.some.inj hi⟩
      have hil : i < n := by
        have := (List.getElem?_eq_some_iff.mp hz).1
        rw [List.length_take] at this; omega
      rw [List.getElem?_take_of_lt hil] at hz
      have hdr : ss.drop i = z :: ss.drop (i + 1) := by
        have hi2 : i < ss.length := (List.getElem?_eq_some_iff.mp hz).1
        rw [List.drop_eq_getElem_cons hi2, (List.getElem?_eq_some_iff.mp hz).2]
      obtain ⟨k', rfl⟩ : ∃ k', k = k' + 1 := ⟨k - 1, by omega⟩
      obtain ⟨a, kvs⟩ := c
      rw [hdr] at hdp
      have ha := sm0 _ _ hRc.1
      walk_at "wp"
      unfold tDNotIn tDGet
      walk_at "wp"
      refine ⟨a, rfl, _, DGet.k (k := Sum.inl z) ha, ?_⟩
      rw [dk_val]
      cases hf : fnd z kvs with
      | none =>
        refine iteT ?_
        have hdp := hdp.trans (congrArg (fun w => (i : Int) + w) (dp_none hf))
        have := q _ sm0
        rw [hdp] at this
        rw [Int.add_comm]
        exact this
      | some c2 =>
        have hdp := hdp.trans (congrArg (fun w => (i : Int) + w) (dp_some hf))
        refine iteF ⟨a, rfl, tv (k' + 1) c2, ?_, k', c2, rfl, ?_, by omega, hRc.2.2.2 _ (fnd_mem hf), ?_⟩
        · have := DGet.k (k := Sum.inl z) ha
          rw [dk_val, hf] at this
          exact this
        · omega
        · rw [hdp]; omega
    · rintro ⟨rfl, k, c, v, rfl, hk, hRc, hdp⟩
      rw [List.length_map, List.length_take] at hk
      obtain rfl : k = 0 := by omega
      walk_at "wp"
      rw [List.length_map, List.length_take, show min n ss.length = n by omega] at hdp ⊢
      have := q _ sm0
      rw [hdp, Int.add_comm] at this
      exact this
def sp_tdepth (C S O : Addr) : Sp := fun vs H Q E => ∃ (p : Addr) (x l f g : Int) (n : Nat) (t : TT (n + 1)), vs = [.ref p, .int x] ∧ TabAt C S H p l f g n t ∧
  if 0 ≤ x ∧ x < pw (l * f) then ∀ H', Same H H' → Q (.int (dp n t (stp l f x))) H' else E (.ref O) none H
theorem h_tdepth (T : Txt K mg A) : HaveM P w K mg base A.C_Table "depth" 6 ["self", "page"] [] (sp_tdepth A.C_Table A.C_Shape A.C_OutOfRoom) := by
  have H_depth_at := h_depth_at (P := P) (w := w) (base := base) T
  have H_Shape_steps := h_st (P := P) (w := w) (base := base) T
  refine T.r_Table_depth.have sc_Table_depth (fun vs H Q E z => ?_) ?_
  · obtain ⟨p, x, l, f, g, n, t, rfl, _⟩ := z; rfl
  · intro f cdv A' outer s H vs Q E hr z
    obtain ⟨p, x, l, f', g, n, t, rfl, hT, q⟩ := z
    refine ⟨_, (pss_one (ps_ret (pe_callE H_depth_at (hr.mono (by decide)) xw_def (pa_cons (pe_fld (pvM 0) rfl) (pa_cons (pe_methE (pe_fld (pvM 0) rfl) T.cl_Shape H_Shape_steps (hr.mono (by decide)) xw_def (pa_cons (pvM 1) pa_nil)) pa_nil))))), ?_⟩
    obtain ⟨h1, h2, ⟨dx, sp, h3, h4⟩, h5, h6⟩ := id hT
    obtain ⟨dx2, h4'⟩ := id h4
    unfold sp_st sp_depth
    walk_at "wp"
    simp only [h3, T.cl_Table, T.na_Table_shape, T.na_Table_top, true_and]
    walk_at "wp"
    refine ⟨T.cl_Table, T.na_Table_top, _, tbF_top, T.cl_Table, T.na_Table_shape, _, tbF_shape, sp, rfl, dx2, _, h4', shF_no (by decide +kernel), sp, rfl, l, f', g, h4, h2, ?_⟩
    by_cases c : 0 ≤ x ∧ x < pw (l * f')
    · rw [if_pos c] at q ⊢
      intro u H1 sm hu hu'
      refine ⟨n, t, rfl, rep_stay h5 (fun a _ o => sm a o), stp l f' x, hu', ?_, fun H' s' => q _ (sm.trans s')⟩
      rw [stp_len]; omega
    · rw [if_neg c] at q ⊢
      exact q

/-! ### what a table tells -/
def PsAt (H : Hp) : List V → List (List Int × Int) → Prop := Paired fun v p => ∃ a l, v = V.ref a ∧ H a = some (.tup [.ref l, .int p.2]) ∧ H l = some (.lst (p.1.map V.int))
theorem PsAt.same {H H' : Hp} {us : List V} {ps : List (List Int × Int)} (h : PsAt H us ps) (s : Same H H') : PsAt H' us ps := Paired.mapP h fun _ _ ⟨a, l, e, h1, h2⟩ => ⟨a, l, e, s _ _ h1, s _ _ h2⟩
theorem ps_app {α β : Type} {F : α → β → Prop} : ∀ {xs : List α} {ys : List β} {zs : List α} {ws : List β}, Paired F xs ys → Paired F zs ws → Paired F (xs ++ zs) (ys ++ ws)
  | _, _, _, _, .nil, h => h
  | _, _, _, _, .cons r t, h => .cons r (ps_app t h)
def Lx (a b : List Int) : Prop := ∃ c x y u v, a = c ++ x :: u ∧ b = c ++ y :: v ∧ x < y
theorem lx_irr {a : List Int} (h : Lx a a) : False := by
  obtain ⟨c, x, y, u, v, e1, e2, hxy⟩ := h
  have e := e1.symm.trans e2
  have e := List.append_cancel_left e
  injection e with e _
  omega
theorem nodup_sub {α : Type} [DecidableEq α] : ∀ {l m : List α}, l.Nodup → (∀ x ∈ l, x ∈ m) → l.length ≤ m.length
  | [], _, _, _ => Nat.zero_le _
  | a :: l, m, hn, hs => by
    obtain ⟨h1, h2⟩ := List.nodup_cons.mp hn
    have ha := hs a (List.mem_cons_self ..)
    have := nodup_sub (l := l) (m := m.erase a) h2 fun x hx => (List.mem_erase_of_ne (fun (e : x = a) => h1 (by rw [← e]; exact hx))).mpr (hs x (List.mem_cons_of_mem _ hx))
    rw [List.length_erase_of_mem ha] at this
    have hp := List.length_pos_of_mem ha
    rw [List.length_cons]
    omega
theorem ps_len {ah : List Int} {ps : List (List Int × Int)} {S : List (List Int)} (hp : ps.Pairwise fun a b => Lx a.1 b.1) (h : ∀ p ∈ ps, ∃ r ∈ S, p.1 = ah ++ r) : ps.length ≤ S.length := by
  have h1 : (ps.map (·.1)).Nodup := by
    unfold List.Nodup
    rw [List.pairwise_map]
    exact List.Pairwise.imp (fun {a b} (q : Lx a.1 b.1) => fun (e : a.1 = b.1) => lx_irr (by rw [e] at q; exact q)) hp
  have := nodup_sub (m := S.map (ah ++ ·)) h1 fun x hx => by
    obtain ⟨p, hp, rfl⟩ := List.mem_map.mp hx
    obtain ⟨r, hr, e⟩ := h p hp
    rw [e]
    exact List.mem_map.mpr ⟨r, hr, rfl⟩
  rw [List.length_map, List.length_map] at this
  exact this
theorem PsAt.ref {H : Hp} {us : List V} {ps : List (List Int × Int)} (h : PsAt H us ps) : ∀ x ∈ us, ∃ a, x = V.ref a := by
  unfold PsAt at h
  induction h with
  | nil => intro x hx; cases hx
  | cons r _ ih =>
    intro x hx
    rcases List.mem_cons.mp hx with rfl | hx
    · obtain ⟨a, _, e, _⟩ := r; exact ⟨a, e⟩
    · exact ih x hx
theorem PsAt.put {H : Hp} {d : Addr} {us us2 : List V} {ps ps2 : List (List Int × Int)} {o : HO} (hd : H d = some (.lst us)) (h1 : PsAt H us ps) (h2 : PsAt H us2 ps2) (hn : ∀ p ∈ ps2, p.1 ≠ []) : PsAt (upd H d o) us2 ps2 := by
  have hr := h1.ref
  unfold PsAt at h2 ⊢
  induction h2 with
  | nil => exact .nil
  | cons r t ih =>
    rename_i x y xs ys
    obtain ⟨a, l, e, q1, q2⟩ := r
    refine .cons ⟨a, l, e, by rw [upd_ne (fun z => by rw [z, hd] at q1; cases q1)]; exact q1, ?_⟩ (ih fun p hp => hn p (List.mem_cons_of_mem _ hp))
    rw [upd_ne (fun z => ?_)]
    · exact q2
    · have hne := hn y (List.mem_cons_self ..)
      rw [z, hd] at q2
      have q2 : us = y.1.map V.int := by injection q2 with q2; injection q2
      cases hy : y.1 with
      | nil => exact hne hy
      | cons s r =>
        rw [hy] at q2
        obtain ⟨b, eb⟩ := hr (V.int s) (by rw [q2]; exact List.mem_cons_self ..)
        cases eb
theorem prd_at {α β : Type} {F : α → β → Prop} : ∀ {xs : List α} {ys : List β} {i : Nat} {x : α}, Paired F xs ys → xs[i]? = some x → ∃ y, ys[i]? = some y ∧ F x y
  | _, _, _, _, .nil, e => by simp at e
  | _, _, 0, _, .cons r _, e => by simp at e; subst e; exact ⟨_, rfl, r⟩
  | _, _, i + 1, x, .cons _ t, e => by
    obtain ⟨u, h1, h2⟩ := prd_at (i := i) (x := x) t (by simpa using e)
    exact ⟨u, by simpa using h1, h2⟩
theorem Lx.pre {ah u v : List Int} {x y : Int} (h : x < y) : Lx (ah ++ x :: u) (ah ++ y :: v) := ⟨ah, x, y, u, v, rfl, rfl, h⟩
def under (s : Int) (S : List (List Int)) : List (List Int) := S.filterMap fun r => match r with
  | [] => none
  | z :: r => if z = s then some r else none
theorem under_len {s : Int} {S : List (List Int)} : (under s S).length ≤ S.length := List.length_filterMap_le _ _
theorem under_mem {s : Int} {S : List (List Int)} {r : List Int} (h : s :: r ∈ S) : r ∈ under s S := List.mem_filterMap.mpr ⟨_, h, by show (if s = s then some r else none) = some r; rw [if_pos rfl]⟩
/-- no more keys than there are entries -/
theorem keys_len {n : Nat} {t : TT (n + 1)} {S : List (List Int)} (hk : (t.2.map (·.1)).Nodup) (hN : NEt (n + 1) t) (hS : ∀ r e, lk (n + 1) t r = some e → r ∈ S) : t.2.length ≤ S.length := by
  have hex : ∀ s ∈ t.2.map (·.1), ∃ r, s :: r ∈ S := fun s hs => by
    obtain ⟨c, hc⟩ : ∃ c, fnd s t.2 = some c := by
      cases e : fnd s t.2 with
      | none => exact absurd hs (fnd_none e)
      | some c => exact ⟨c, rfl⟩
    obtain ⟨r, e, h⟩ := (step_iff hN).mp ⟨c, hc⟩
    exact ⟨r, hS _ _ h⟩
  have hd : (t.2.map (·.1)).length ≤ (S.map fun r => r.headD 0).length := nodup_sub hk fun s hs => by
    obtain ⟨r, hr⟩ := hex s hs
    exact List.mem_map.mpr ⟨_, hr, rfl⟩
  rw [List.length_map, List.length_map] at hd
  exact hd
def sp_tof (K : PySem.W.Frag) : Nat → Sp
  | 0 => fun _ _ _ _ => False
  | n + 1 => fun vs H Q _ => ∃ (t : TT (n + 1)) (b : Addr) (ah : List Int) (S : List (List Int)), vs = [.ref t.1, .int ((n + 1 : Nat) : Int), .ref b] ∧ Rep H (n + 1) t ∧ NEt (n + 1) t ∧ H b = some (.lst (ah.map V.int)) ∧ (∀ r e, lk (n + 1) t r = some e → r ∈ S) ∧ S.length < 64 ∧ ah.length + n ≤ 100 ∧
    ∀ (l : Addr) us (ps : List (List Int × Int)) H', Same H H' → H l = none → H' l = some (.lst us) → PsAt H' us ps → (∀ ss e, (ss, e) ∈ ps ↔ ∃ r, ss = ah ++ r ∧ lk (n + 1) t r = some e) → ps.Pairwise (fun a b => Lx a.1 b.1) → Q (.ref l) H'
theorem h_told_of (T : Txt K mg A) : ∀ n, Have P w K mg base "told_of" (n + 1) ["level", "levels", "ahead"] [] (sp_tof K n)
  | 0 => T.r_told_of.have sc_told_of (fun vs H Q E z => z.elim) (fun _ _ _ _ _ _ _ _ _ _ z => z.elim)
  | n + 1 => by
    have H_told_of := h_told_of T n
    refine T.r_told_of.have sc_told_of (fun vs H Q E z => ?_) ?_
    · obtain ⟨t, b, ah, S, rfl, _⟩ := z; rfl
    · intro f cdv A' outer s H vs Q E hr z
      obtain ⟨⟨a, kvs⟩, b, ah, S, rfl, hR, hN, hb, hS, hS64, hah, q⟩ := z
      refine ⟨_, (pss_cons (ps_set (i := 3) sc_told_of.nd rfl (Or.inl rfl) (pe_lst pa_nil))
      (pss_cons (ps_forE PassesOwn.leaving rfl (pi_list (pe_callB (call_sortedK rfl) rfl T.b_sorted PyProof.Rows.boot_sorted (pa_cons (pe_dkeys (pvM 0)) pa_nil))) (pg_name (i := 4) sc_told_of.nd rfl (Or.inl rfl)) (pss_cons (ps_set (i := 5) sc_told_of.nd rfl (Or.inl rfl) (pe_op op_cat (pvM 2) (pe_lst (pa_cons (pvM 4) pa_nil))))
      (pss_one (ps_if (pt_cmpR op_eq (pvM 1) pe_int (nomark _)) (pss_one (ps_expr (pe_bm PySem.F.plainAttrs_list PySem.F.slot_list_append PySem.F.type_list_append mt_append (pvM 3) (pa_cons (pe_tup (pa_cons (pvM 5) (pa_cons (pe_dget (hu_of hr) (pvM 0) (pvM 4) (fun _ _ => rfl)) pa_nil))) pa_nil)))) (pss_one (ps_expr (pe_bm PySem.F.plainAttrs_list PySem.F.slot_list_extend PySem.F.type_list_extend mt_extend (pvM 3) (pa_cons (pe_callE H_told_of (hr.mono (by omega)) xw_def (pa_cons (pe_dget (hu_of hr) (pvM 0) (pvM 4) (fun _ _ => rfl)) (pa_cons (pe_op op_sub (pvM 1) pe_int) (pa_cons (pvM 5) pa_nil)))) pa_nil))))))))
      (pss_one (ps_ret (pvM 3))))), ?_⟩
      have hkl : kvs.length ≤ S.length := keys_len hR.2.1 hN hS
      walk_at "wp"
      intro d hd
      have b1 := same_upd (o := .lst []) (same_refl (H := H)) hd
      have hd1 : upd H d (.lst []) d = some (.lst []) := upd_same
      refine ⟨dk kvs, b1 _ _ hR.1, fun v hv => ?_⟩
      have b2 := same_upd (o := keysO v a) (same_refl (H := upd H d (.lst []))) hv
      refine ⟨a, rfl, dk kvs, b2 _ _ (b1 _ _ hR.1), kvs.map (·.1), by unfold dk; rw [List.map_map, List.map_map]; rfl, by rw [List.length_map]; omega, fun l ms hl hpm hpw => ?_⟩
      have b3 := same_upd (o := .lst (ms.map V.int)) (same_refl (H := upd (upd H d (.lst [])) v (keysO v a))) hl
      have hd3 := b3 _ _ (b2 _ _ hd1)
      have hl3 : upd (upd (upd H d (.lst [])) v (keysO v a)) l (.lst (ms.map V.int)) l = some (.lst (ms.map V.int)) := upd_same
      have s3 := (b1.trans b2).trans b3
      have hld : l ≠ d := fun z => by rw [z, b2 _ _ hd1] at hl; cases hl
      generalize upd (upd (upd H d (.lst [])) v (keysO v a)) l (.lst (ms.map V.int)) = H3 at *
      have hmk : ∀ s, s ∈ ms ↔ s ∈ kvs.map (·.1) := fun s => hpm.mem_iff
      have hmn : ms.Nodup := hpm.nodup_iff.mpr hR.2.1
      have hlt : ∀ (i j : Nat) x y, i < j → ms[i]? = some x → ms[j]? = some y → x < y := fun i j x y hij hi hj => by
        obtain ⟨h1, e1⟩ := List.getElem?_eq_some_iff.mp hi
        obtain ⟨h2, e2⟩ := List.getElem?_eq_some_iff.mp hj
        have := List.pairwise_iff_getElem.mp hpw i j h1 h2 hij
        have n := List.pairwise_iff_getElem.mp hmn i j h1 h2 hij
        rw [e1, e2] at this n
        omega
      refine ⟨⟨_, SqL.of hl3⟩, loop_list (xs := ms.map V.int) (fun i σ H' => ∃ (us : List V) (ps : List (List Int × Int)) (v4 v5 : Option V), σ = [some (.ref a), some (.int ((n + 1 : Nat) : Int)), some (.ref b), some (.ref d), v4, v5] ∧ Same H H' ∧ H' d = some (.lst us) ∧ H' l = some (.lst (ms.map V.int)) ∧ PsAt H' us ps ∧ (∀ ss e, (ss, e) ∈ ps ↔ ∃ s ∈ ms.take i, ∃ r, ss = ah ++ s :: r ∧ lk (n + 1) (a, kvs) (s :: r) = some e) ∧ ps.Pairwise (fun a b => Lx a.1 b.1)) ⟨[], [], _, _, rfl, s3, hd3, hl3, .nil, (fun ss e => ⟨fun h => (nomatch h), fun ⟨s, h, _⟩ => (nomatch h)⟩), .nil⟩ (fun i σ H' _ ⟨_, _, _, _, _, _, _, h, _⟩ => SqL.of h) (fun i x σ H' hi => ?_) (fun σ H' => ?_)⟩
      · rintro ⟨us, ps, v4, v5, rfl, s4, hd4, hl4, hP, hm, hpl⟩
        rw [List.getElem?_map] at hi
        obtain ⟨s, hs, rfl⟩ : ∃ s, ms[i]? = some s ∧ V.int s = x := by
          cases e : ms[i]? with
          | none => rw [e] at hi; cases hi
          | some z => rw [e] at hi; exact ⟨z, rfl, Option.some.inj hi⟩
        have htk : ms.take (i + 1) = ms.take i ++ [s] := by rw [List.take_add_one, hs]; rfl
        obtain ⟨c, hf⟩ : ∃ c, fnd s kvs = some c := by
          cases e : fnd s kvs with
          | none => exact absurd ((hmk s).mp (List.mem_of_getElem? hs)) (fnd_none e)
          | some c => exact ⟨c, rfl⟩
        have hlks : ∀ r, lk (n + 1) (a, kvs) (s :: r) = lk n c r := fun r => by show (fnd s kvs).bind (fun c => lk n c r) = _; rw [hf]; rfl
        have hget : ∀ H1 : Hp, Same H H1 → DGet H1 a (.int s) (some (tv n c)) := fun H1 h1 => by
          have := DGet.k (k := Sum.inl s) (h1 _ _ hR.1)
          rw [dk_val, hf] at this
          exact this
        have hpsl : ps.length ≤ S.length := ps_len (ah := ah) hpl fun p hp => by
          obtain ⟨s', _, r, e, h⟩ := (hm p.1 p.2).mp hp
          exact ⟨s' :: r, hS _ _ h, e⟩
        have hul := Paired.length hP
        -- what is added
        have more : ∀ (ps2 : List (List Int × Int)), (∀ ss e, (ss, e) ∈ ps2 ↔ ∃ r, ss = ah ++ s :: r ∧ lk n c r = some e) → ps2.Pairwise (fun a b => Lx a.1 b.1) → (∀ ss e, (ss, e) ∈ ps ++ ps2 ↔ ∃ s ∈ ms.take (i + 1), ∃ r, ss = ah ++ s :: r ∧ lk (n + 1) (a, kvs) (s :: r) = some e) ∧ (ps ++ ps2).Pairwise (fun a b => Lx a.1 b.1) := fun ps2 h1 h2 => by
          refine ⟨fun ss e => ?_, ?_⟩
          · rw [List.mem_append, hm, h1, htk]
            refine ⟨fun h => ?_, fun ⟨s', hs', r, e1, e2⟩ => ?_⟩
            · rcases h with ⟨s', h, r, e1, e2⟩ | ⟨r, e1, e2⟩
              · exact ⟨s', List.mem_append_left _ h, r, e1, e2⟩
              · exact ⟨s, List.mem_append_right _ (List.mem_singleton.mpr rfl), r, e1, by rw [hlks]; exact e2⟩
            · rcases List.mem_append.mp hs' with h | h
              · exact .inl ⟨s', h, r, e1, e2⟩
              · rw [List.mem_singleton.mp h] at e1 e2
                exact .inr ⟨r, e1, by rw [← hlks]; exact e2⟩
          · rw [List.pairwise_append]
            refine ⟨hpl, h2, fun p hp q hq => ?_⟩
            obtain ⟨s', h, r, e1, _⟩ := (hm p.1 p.2).mp hp
            obtain ⟨r2, e3, _⟩ := (h1 q.1 q.2).mp hq
            rw [e1, e3]
            obtain ⟨k, hk⟩ := List.mem_iff_getElem?.mp h
            rw [List.getElem?_take] at hk
            split at hk
            · exact Lx.pre (hlt k i s' s (by assumption) hk hs)
            · cases hk
        have hne : ∀ p ∈ ps, p.1 ≠ [] := fun p hp e => by
          obtain ⟨s', _, r, e1, _⟩ := (hm p.1 p.2).mp hp
          rw [e] at e1
          exact absurd e1.symm (by simp)
        walk_at "wp"
        intro q1 hq1
        have c1 := same_upd (o := .lst [V.int s]) (same_refl (H := H')) hq1
        refine ⟨_, c1 _ _ (s4 _ _ hb), _, rfl, by rw [List.length_map]; show _ + 1 ≤ 16777216; omega, fun st hst => ?_⟩
        have es : ah.map V.int ++ [V.int s] = (ah ++ [s]).map V.int := by rw [List.map_append]; rfl
        rw [es]
        have c2 := same_upd (o := .lst ((ah ++ [s]).map V.int)) (same_refl (H := upd H' q1 (.lst [V.int s]))) hst
        have hst5 : upd (upd H' q1 (.lst [V.int s])) st (.lst ((ah ++ [s]).map V.int)) st = some (.lst ((ah ++ [s]).map V.int)) := upd_same
        generalize upd (upd H' q1 (.lst [V.int s])) st (.lst ((ah ++ [s]).map V.int)) = H5 at *
        have s45 := c1.trans c2
        have s5 := s4.trans s45
        have hd5 := s45 _ _ hd4
        have hl5 := s45 _ _ hl4
        unfold tDGet
        cases n with
        | zero =>
          refine ite2 (fun _ => ?_) (fun z => absurd rfl z)
          obtain ⟨c0, rfl⟩ : ∃ c0 : Int, (c0 : TT 0) = c := ⟨c, rfl⟩
          have hps2 : ∀ ss e, (ss, e) ∈ [(ah ++ [s], c0)] ↔ ∃ r, ss = ah ++ s :: r ∧ lk 0 c0 r = some e := fun ss e => by
            rw [List.mem_singleton]
            refine ⟨fun h => ?_, fun ⟨r, e1, e2⟩ => ?_⟩
            · cases h
              exact ⟨[], rfl, rfl⟩
            · cases r with
              | nil =>
                have e2 : some c0 = some e := e2
                rw [e1, Option.some.inj e2]
              | cons z r => cases e2
          obtain ⟨hmr, hpr⟩ := more [(ah ++ [s], c0)] hps2 (List.pairwise_singleton _ _)
          walk_at "wp"
          refine ⟨.inl ⟨rfl, _, SqL.of hd5⟩, _, hget _ s5, fun tp htp => ?_⟩
          have c6 := same_upd (o := .tup [V.ref st, tv 0 c0]) (same_refl (H := H5)) htp
          have htp6 : upd H5 tp (.tup [V.ref st, tv 0 c0]) tp = some (.tup [V.ref st, V.int c0]) := upd_same
          generalize upd H5 tp (.tup [V.ref st, tv 0 c0]) = H6 at *
          have hd6 := c6 _ _ hd5
          refine ⟨us, hd6, by omega, same_put (s5.trans c6) hd, _, rfl, by rw [upd_ne hld]; exact c6 _ _ hl5, ps ++ [(ah ++ [s], c0)], ?_, hmr, hpr⟩
          have hP6 := (hP.same s45).same c6
          refine PsAt.put hd6 hP6 (ps_app hP6 (.cons ⟨tp, st, rfl, htp6, c6 _ _ hst5⟩ .nil)) (fun p hp => ?_)
          rcases List.mem_append.mp hp with h | h
          · exact hne p h
          · rw [List.mem_singleton.mp h]
            show ah ++ [s] ≠ []
            simp
        | succ n =>
          rw [if_neg (by omega)]
          walk_at "wp"
          refine ⟨.inl ⟨rfl, _, SqL.of hd5⟩, _, hget _ s5, ?_⟩
          have hRc := rep_stay (hR.2.2.2 _ (fnd_mem hf)) (fun b _ o => s5 b o)
          refine ⟨c, st, ah ++ [s], under s S, by rw [show (((n + 1 + 1 : Nat) : Int) - 1) = ((n + 1 : Nat) : Int) by omega]; rfl, hRc, (hN _ (fnd_mem hf)).2, hst5, fun r e h => under_mem (hS _ e (by rw [hlks]; exact h)), Nat.lt_of_le_of_lt under_len hS64, by rw [List.length_append, List.length_singleton]; omega, fun l2 us2 ps2 H6 s6 hl2 hl26 hP2 hm2 hpl2 => ?_⟩
          have hd6 := s6 _ _ hd5
          have hps2 : ∀ ss e, (ss, e) ∈ ps2 ↔ ∃ r, ss = ah ++ s :: r ∧ lk (n + 1) c r = some e := fun ss e => by
            rw [hm2]
            refine ⟨fun ⟨r, e1, e2⟩ => ⟨r, by rw [e1]; simp, e2⟩, fun ⟨r, e1, e2⟩ => ⟨r, by rw [e1]; simp, e2⟩⟩
          obtain ⟨hmr, hpr⟩ := more ps2 hps2 hpl2
          have hne2 : ∀ p ∈ ps2, p.1 ≠ [] := fun p hp e => by
            obtain ⟨r, e1, _⟩ := (hps2 p.1 p.2).mp hp
            rw [e] at e1
            exact absurd e1.symm (by simp)
          have hp2l : ps2.length ≤ (under s S).length := ps_len (ah := ah ++ [s]) hpl2 fun p hp => by
            obtain ⟨r, e1, e2⟩ := (hm2 p.1 p.2).mp hp
            exact ⟨r, under_mem (hS _ _ (by rw [hlks]; exact e2)), e1⟩
          have hul2 := Paired.length hP2
          have hun := under_len (s := s) (S := S)
          have hP6 := (hP.same s45).same s6
          have hdl2 : l2 ≠ d := fun z => by rw [z, hd5] at hl2; cases hl2
          refine ⟨d, l2, us, us2, rfl, rfl, hd6, hl26, by rw [PySem.sizeLine_eq]; omega, same_put (s5.trans s6) hd, _, upd_same, by rw [upd_ne hld]; exact s6 _ _ hl5, ps ++ ps2, ?_, hmr, hpr⟩
          refine PsAt.put hd6 hP6 (ps_app hP6 hP2) (fun p hp => ?_)
          rcases List.mem_append.mp hp with h | h
          · exact hne p h
          · exact hne2 p h
      · rintro ⟨us, ps, v4, v5, rfl, s4, hd4, hl4, hP, hm, hpl⟩
        walk_at "wp"
        refine q d us ps _ s4 hd hd4 hP (fun ss e => ?_) hpl
        rw [hm, List.length_map, List.take_length]
        refine ⟨fun ⟨s, _, r, e1, e2⟩ => ⟨s :: r, e1, e2⟩, fun ⟨r, e1, e2⟩ => ?_⟩
        cases r with
        | nil => cases e2
        | cons s r =>
          refine ⟨s, (hmk s).mpr ?_, r, e1, e2⟩
          cases e3 : fnd s kvs with
          | none => have e2 : (fnd s kvs).bind (fun c => lk n c r) = some e := e2; rw [e3] at e2; cases e2
          | some c => exact List.mem_map.mpr ⟨_, fnd_mem e3, rfl⟩

theorem hor_lx {w : Int} (hw : 1 ≤ w) {a b : List Int} (h : Lx a b) (hl : a.length = b.length) (ha : ∀ n ∈ a, 0 ≤ n ∧ n < w) (hb : ∀ n ∈ b, 0 ≤ n ∧ n < w) : hor w 0 a < hor w 0 b := by
  obtain ⟨c, x, y, u, v, rfl, rfl, hxy⟩ := h
  have ap : ∀ z r, hor w 0 (c ++ z :: r) = (hor w 0 c * w + z) * w ^ r.length + hor w 0 r := fun z r => by
    have : hor w 0 (c ++ z :: r) = hor w (hor w 0 c) (z :: r) := by unfold hor; rw [List.foldl_append]
    rw [this, hor_cons, hor_at]
  have hlu : u.length = v.length := by
    rw [List.length_append, List.length_append, List.length_cons, List.length_cons] at hl
    omega
  have bu := hor_bd hw u fun n hn => ha n (List.mem_append_right _ (List.mem_cons_of_mem _ hn))
  have bv := hor_bd hw v fun n hn => hb n (List.mem_append_right _ (List.mem_cons_of_mem _ hn))
  rw [ap, ap, hlu]
  rw [hlu] at bu
  have hp : 0 ≤ w ^ v.length := by exact Int.le_of_lt (Int.pow_pos (by omega))
  have := Int.mul_le_mul_of_nonneg_right (show hor w 0 c * w + x + 1 ≤ hor w 0 c * w + y by omega) hp
  rw [Int.add_mul (hor w 0 c * w + x) 1, Int.one_mul] at this
  omega
def PgAt (H : Hp) : List V → List (Int × Int) → Prop := Paired fun v p => ∃ a, v = V.ref a ∧ H a = some (.tup [.int p.1, .int p.2])
theorem PgAt.same {H H' : Hp} {us : List V} {ps : List (Int × Int)} (h : PgAt H us ps) (s : Same H H') : PgAt H' us ps := Paired.mapP h fun _ _ ⟨a, e, h1⟩ => ⟨a, e, s _ _ h1⟩
theorem PgAt.put {H : Hp} {d : Addr} {us us2 : List V} {ps : List (Int × Int)} {o : HO} (hd : H d = some (.lst us)) (h : PgAt H us2 ps) : PgAt (upd H d o) us2 ps := Paired.mapP h fun _ _ ⟨a, e, h1⟩ => ⟨a, e, by rw [upd_ne (fun z => by rw [z, hd] at h1; cases h1)]; exact h1⟩
def Cov (l f : Int) (n : Nat) (t : TT (n + 1)) : Prop := ∀ r e, lk (n + 1) t r = some e → ∃ x, 0 ≤ x ∧ x < pw (l * f) ∧ r = stp l f x
def sp_ttold (C S : Addr) : Sp := fun vs H Q _ => ∃ (p : Addr) (l f g : Int) (n : Nat) (t : TT (n + 1)) (Sx : List (List Int)), vs = [.ref p] ∧ TabAt C S H p l f g n t ∧ Cov l f n t ∧ (∀ r e, lk (n + 1) t r = some e → r ∈ Sx) ∧ Sx.length < 64 ∧
  ∀ (tl : Addr) us (xs : List (Int × Int)) H', Same H H' → H tl = none → H' tl = some (.lst us) → PgAt H' us xs → xs.length ≤ Sx.length → (∀ x e, (x, e) ∈ xs ↔ 0 ≤ x ∧ x < pw (l * f) ∧ lk (n + 1) t (stp l f x) = some e) → xs.Pairwise (fun a b => a.1 < b.1) → Q (.ref tl) H'
theorem h_ttold (T : Txt K mg A) : HaveM P w K mg base A.C_Table "told" 7 ["self"] [] (sp_ttold A.C_Table A.C_Shape) := by
  have H_Shape_page_of := h_po (P := P) (w := w) (base := base) T
  refine T.r_Table_told.have sc_Table_told (fun vs H Q E z => ?_) ?_
  · obtain ⟨p, l, f, g, n, t, Sx, rfl, _⟩ := z; rfl
  · intro f cdv A' outer s H vs Q E hr z
    obtain ⟨p, l, f', g, n, t, Sx, rfl, hT, hC, hS, hS64, q⟩ := z
    have hn2 : n + 1 ≤ 3 := by have := hT.1; have := hT.2.1.2.1; omega
    have H_told_of := h_told_of (P := P) (w := w) (base := base) T (n + 1)
    refine ⟨_, (pss_one (ps_ret (pe_compM rfl (pi_list (pe_callE H_told_of (hr.mono (by omega)) xw_def (pa_cons (pe_fld (pvM 0) rfl) (pa_cons (pe_fld (pe_fld (pvM 0) rfl) rfl) (pa_cons (pe_lst pa_nil) pa_nil))))) (x := "steps") (xs := ["steps", "entry"]) (fs := ["self"]) (ix := [0]) rfl rfl (fun _ _ _ _ _ _ => (pg_tupC (K := K) (n := 2) rfl rfl (pgs_cons (pg_name (i := 0) (show (["steps", "entry", "self"] : List Str).Nodup by decide +kernel) rfl (Or.inl rfl)) (pgs_cons (pg_name (i := 1) (show (["steps", "entry", "self"] : List Str).Nodup by decide +kernel) rfl (Or.inl rfl)) pgs_nil)))) (fun _ _ _ _ _ _ => pf_nil) (fun _ _ _ _ _ _ => (pe_tup (pa_cons (pe_methE (pe_fldC (K := K) rfl (pvM 2) rfl) T.cl_Shape H_Shape_page_of (hr.mono (by omega)) xw_no (pa_cons (pvM 0) pa_nil)) (pa_cons (pvM 1) pa_nil))))))), ?_⟩
    obtain ⟨h1, h2, ⟨dx, sp, h3, h4⟩, h5, h6⟩ := id hT
    obtain ⟨dx2, h4'⟩ := id h4
    unfold sp_tof
    walk_at "wp"
    refine ⟨_, dx, _, h3, T.cl_Table, T.na_Table_top, _, tbF_top, _, dx, _, h3, T.cl_Table, T.na_Table_shape, _, tbF_shape, sp, rfl, _, dx2, _, h4', T.cl_Shape, T.na_Shape_levels, _, shF_levels, fun em hem => ?_⟩
    have b1 := same_upd (o := .lst []) (same_refl (H := H)) hem
    refine ⟨t, rfl, by rw [h1]; rfl, rep_stay h5 (fun a _ o => b1 a o), h6.2, [], rfl, Sx, hS, hS64, by rw [List.length_nil]; omega, fun lt us ps H1 s1 hlt0 hlt hPs hm hpl => ?_⟩
    have s01 := b1.trans s1
    have hw := pw_pos f'
    have hps : ∀ p ∈ ps, ∃ x, 0 ≤ x ∧ x < pw (l * f') ∧ p.1 = stp l f' x ∧ lk (n + 1) t (stp l f' x) = some p.2 ∧ hor (pw f') 0 p.1 = x := fun p hp => by
      obtain ⟨r, e1, e2⟩ := (hm p.1 p.2).mp hp
      obtain ⟨x, hx0, hx1, rfl⟩ := hC r _ e2
      have e1 : p.1 = stp l f' x := e1
      exact ⟨x, hx0, hx1, e1, e2, by rw [e1]; exact hor_all h2.1 h2.2.1 h2.2.2.1 h2.2.2.2.1 ⟨hx0, hx1⟩⟩
    have hdg : ∀ x, ∀ m ∈ stp l f' x, 0 ≤ m ∧ m < pw f' := fun x m hm => dg_in (by omega) _ m (List.mem_reverse.mp hm)
    have hpl2 : ps.length ≤ Sx.length := ps_len (ah := []) hpl fun p hp => by
      obtain ⟨r, e1, e2⟩ := (hm p.1 p.2).mp hp
      exact ⟨r, hS _ _ e2, e1⟩
    have hul := Paired.length hPs
    refine ⟨⟨_, SqL.of hlt⟩, fun D hD => comp_list (xs := us) (fun i ys σ H' => ∃ v0 v1, σ = [v0, v1, some (.ref p)] ∧ Same H1 H' ∧ H' D = some (.lst ys) ∧ PgAt H' ys ((ps.take i).map fun p => (hor (pw f') 0 p.1, p.2))) ⟨_, _, rfl, same_upd same_refl hD, upd_same, .nil⟩ (fun i ys σ H' _ ⟨_, _, _, e, _⟩ => SqL.of (e _ _ hlt)) (fun i x ys σ H' hi => ?_) (fun ys σ H' => ?_)⟩
    · rintro ⟨v0, v1, rfl, s2, hD2, hP⟩
      obtain ⟨pp, hp1, a, st, rfl, ha, hst⟩ := prd_at hPs hi
      have hpm := List.mem_of_getElem? hp1
      obtain ⟨x0, hx0, hx1, e1, e2, e3⟩ := hps pp hpm
      have htk : ps.take (i + 1) = ps.take i ++ [pp] := by rw [List.take_add_one, hp1]; rfl
      have s02 := s01.trans s2
      have hyl := Paired.length hP
      rw [List.length_map, List.length_take] at hyl
      unfold sp_po
      walk_at "wp"
      refine ⟨_, SqT.of (s2 _ _ ha), rfl, _, _, rfl, _, _, rfl, rfl, _, dx, _, s02 _ _ h3, T.cl_Table, T.na_Table_shape, _, tbF_shape, sp, rfl, dx2, _, s02 _ _ h4', shF_no (by decide +kernel), ?_⟩
      refine ⟨sp, rfl, st, rfl, pp.1, l, f', g, h4.same s02, h2, SqL.of (s2 _ _ hst), fun _ np hnp => ?_, fun hb => hb ⟨by rw [e1, stp_len]; omega, fun m hm => hdg x0 m (by rw [← e1]; exact hm)⟩⟩
      have b3 := same_upd (o := .tup [V.int (hor (pw f') 0 pp.1), V.int pp.2]) (same_refl (H := H')) hnp
      have hnp3 : upd H' np (.tup [V.int (hor (pw f') 0 pp.1), V.int pp.2]) np = some (.tup [V.int (hor (pw f') 0 pp.1), V.int pp.2]) := upd_same
      generalize upd H' np (.tup [V.int (hor (pw f') 0 pp.1), V.int pp.2]) = H3 at *
      have hD3 := b3 _ _ hD2
      refine ⟨hD3, by omega, same_put (s2.trans b3) hD, ?_⟩
      rw [htk, List.map_append]
      exact ps_app (PgAt.put hD3 (hP.same b3)) (PgAt.put (ps := [(hor (pw f') 0 pp.1, pp.2)]) hD3 (.cons ⟨np, rfl, hnp3⟩ .nil))
    · rintro ⟨v0, v1, rfl, s2, hD2, hP⟩
      rw [hul, List.take_length] at hP
      refine q D ys _ H' (s01.trans s2) (same_none s01 hD) hD2 hP (by rw [List.length_map]; exact hpl2) (fun x e => ?_) ?_
      · rw [List.mem_map]
        refine ⟨fun ⟨p, hp, e1⟩ => ?_, fun ⟨hx0, hx1, h⟩ => ⟨(stp l f' x, e), (hm _ _).mpr ⟨_, rfl, h⟩, ?_⟩⟩
        · obtain ⟨x0, hx0, hx1, e2, e3, e4⟩ := hps p hp
          cases e1
          rw [e4]
          exact ⟨hx0, hx1, e3⟩
        · show (hor (pw f') 0 (stp l f' x), e) = (x, e)
          rw [show hor (pw f') 0 (stp l f' x) = x from hor_all h2.1 h2.2.1 h2.2.2.1 h2.2.2.2.1 ⟨hx0, hx1⟩]
      · rw [List.pairwise_map]
        refine List.Pairwise.imp_of_mem (fun {a b} ha hb (h : Lx a.1 b.1) => ?_) hpl
        obtain ⟨xa, _, _, ea, _⟩ := hps a ha
        obtain ⟨xb, _, _, eb, _⟩ := hps b hb
        show hor (pw f') 0 a.1 < hor (pw f') 0 b.1
        refine hor_lx hw h (by rw [ea, eb, stp_len, stp_len]) (fun m hm => hdg xa m (by rw [← ea]; exact hm)) (fun m hm => hdg xb m (by rw [← eb]; exact hm))

/-! ### how many tables -/
def cn : (n : Nat) → TT (n + 1) → Int
  | 0, _ => 1
  | n + 1, t => 1 + (t.2.map fun p => cn n p.2).sum
def sp_cnt (K : PySem.W.Frag) : Nat → Sp
  | 0 => fun _ _ _ _ => False
  | n + 1 => fun vs H Q _ => ∃ (t : TT (n + 1)), vs = [.ref t.1, .int ((n + 1 : Nat) : Int)] ∧ Rep H (n + 1) t ∧ (ads (n + 1) t).Nodup ∧ ∀ H', Same H H' → Q (.int (cn n t)) H'
theorem h_count_of (T : Txt K mg A) : ∀ n, Have P w K mg base "count_of" (n + 1) ["level", "levels"] [] (sp_cnt K n)
  | 0 => T.r_count_of.have sc_count_of (fun vs H Q E z => z.elim) (fun _ _ _ _ _ _ _ _ _ _ z => z.elim)
  | n + 1 => by
    have H_count_of := h_count_of T n
    refine T.r_count_of.have sc_count_of (fun vs H Q E z => ?_) ?_
    · obtain ⟨t, rfl, _⟩ := z; rfl
    · intro f cdv A' outer s H vs Q E hr z
      obtain ⟨⟨a, kvs⟩, rfl, hR, hN, q⟩ := z
      refine ⟨_, (pss_cons (ps_if (pt_cmpR op_eq (pvM 1) pe_int (nomark _)) (pss_one (ps_ret pe_int)) pss_nil)
      (pss_one (ps_thaw (ps_ret (pe_op op_add pe_int (pe_callB (call_sum rfl) rfl T.b_sum (by decide +kernel) (pa_cons (pe_comp rfl (pi_vals (pe_dvals (pvM 0))) (x := "lower") (fs := ["levels"]) (ix := [1]) rfl rfl (fun _ _ _ _ _ _ => (pg_name (i := 0) (show (["lower", "levels"] : List Str).Nodup by decide +kernel) rfl (Or.inl rfl))) (fun _ _ _ _ _ _ => pf_nil) (fun _ _ _ _ _ _ => (pe_callE H_count_of (hr.mono (by omega)) xw_no (pa_cons (pvM 0) (pa_cons (pe_op op_sub (pvM 1) pe_int) pa_nil))))) pa_nil))))))), ?_⟩
      cases n with
      | zero =>
        walk_at "wp"
        exact ite2 (fun _ => q _ same_refl) (fun z => absurd rfl z)
      | succ n =>
        walk_at "wp"
        rw [if_neg (by omega)]
        refine ⟨a, fun o u z => ?_, ?_⟩
        · have z : H a = some (.frz o u) := z
          rw [show H a = some (.dK (dk kvs)) from hR.1] at z
          cases z
        unfold thawD
        walk_at "wp"
        refine ⟨dk kvs, hR.1, fun v hv => ⟨a, rfl, dk kvs, (same_upd same_refl hv) _ _ hR.1, fun o D hD => ?_⟩⟩
        have b1 := same_upd (o := valsO v a) (same_refl (H := H)) hv
        have hk2 : ∀ b u, b ≠ a → H b = some u → upd (upd H v (valsO v a)) a (.frz o (.dK (dk kvs))) b = some u := fun b u hb h => by rw [upd_ne hb]; exact b1 _ _ h
        have ha2 : upd (upd H v (valsO v a)) a (.frz o (.dK (dk kvs))) a = some (.frz o (.dK (dk kvs))) := upd_same
        generalize upd (upd H v (valsO v a)) a (.frz o (.dK (dk kvs))) = H2 at *
        have hDa : D ≠ a := fun z => by rw [z, ha2] at hD; cases hD
        have hD0 : H D = none := by
          cases e : H D with
          | none => rfl
          | some u => rw [hk2 D u hDa e] at hD; cases hD
        have haN := List.nodup_cons.mp hN
        have hlen : kvs.length ≤ 256 := rep_len hR
        refine comp_vals (fun i ys σ H' => ∃ v0, σ = [v0, some (.int ((n + 1 + 1 : Nat) : Int))] ∧ (∀ b u, b ≠ a → H b = some u → H' b = some u) ∧ H' a = some (.frz o (.dK (dk kvs))) ∧ ys = ((kvs.take i).map fun p => cn n p.2).map V.int ∧ H' D = some (.lst ys)) ⟨_, rfl, fun b u hb h => ?_, ?_, rfl, upd_same⟩ (fun i ys σ H' _ ⟨_, _, _, e, _⟩ => e) (fun i k x ys σ H' hi => ?_) (fun ys σ H' => ?_)
        · rw [upd_ne (ne_of_none h hD0)]; exact hk2 b u hb h
        · rw [upd_ne (Ne.symm hDa)]; exact ha2
        · rintro ⟨v0, rfl, hk, ha, rfl, hD'⟩
          unfold dk at hi
          rw [List.getElem?_map] at hi
          obtain ⟨p, hp, ep⟩ : ∃ p, kvs[i]? = some p ∧ ((Sum.inl p.1 : Key), tv (n + 1) p.2) = (k, x) := by
            cases e : kvs[i]? with
            | none => rw [e] at hi; cases hi
            | some z => rw [e] at hi; exact ⟨z, rfl, Option.some.inj hi⟩
          cases ep
          have hpm := List.mem_of_getElem? hp
          have hap : a ∉ ads (n + 1) p.2 := fun z => haN.1 (List.mem_flatMap.mpr ⟨p, hpm, z⟩)
          have htk : kvs.take (i + 1) = kvs.take i ++ [p] := by rw [List.take_add_one, hp]; rfl
          have hil := (List.getElem?_eq_some_iff.mp hp).1
          unfold sp_cnt
          walk_at "wp"
          refine ⟨p.2, rfl, by omega, rep_stay (hR.2.2.2 p hpm) (fun b hb u hu => hk b u (fun z => hap (by rw [← z]; exact hb)) hu), nd_child haN.2 hpm, fun H3 s3 => ?_⟩
          refine ⟨s3 _ _ hD', by rw [List.length_map, List.length_map, List.length_take]; omega, fun b u hb h => ?_, ?_, ?_⟩
          · rw [upd_ne (ne_of_none h hD0)]; exact s3 _ _ (hk b u hb h)
          · rw [upd_ne (Ne.symm hDa)]; exact s3 _ _ ha
          · rw [htk, List.map_append, List.map_append]
            simp
        · rintro ⟨v0, rfl, hk, ha, rfl, hD'⟩
          rw [show (dk kvs).length = kvs.length by unfold dk; exact List.length_map .., List.take_length] at hD'
          refine ⟨_, SqL.of hD', ?_⟩
          rw [thawH_of ha]
          refine q _ fun b u h => ?_
          by_cases c : b = a
          · rw [c, upd_same, ← h, c]; exact hR.1.symm
          · rw [upd_ne c]; exact hk b u c h
def sp_tcnt (C S : Addr) : Sp := fun vs H Q _ => ∃ (p : Addr) (l f g : Int) (n : Nat) (t : TT (n + 1)), vs = [.ref p] ∧ TabAt C S H p l f g n t ∧ ∀ H', Same H H' → Q (.int (cn n t)) H'
theorem h_tcnt (T : Txt K mg A) : HaveM P w K mg base A.C_Table "table_count" 6 ["self"] [] (sp_tcnt A.C_Table A.C_Shape) := by
  refine T.r_Table_table_count.have sc_Table_table_count (fun vs H Q E z => ?_) ?_
  · obtain ⟨p, l, f, g, n, t, rfl, _⟩ := z; rfl
  · intro f cdv A' outer s H vs Q E hr z
    obtain ⟨p, l, f', g, n, t, rfl, hT, q⟩ := z
    have hn2 : n + 1 ≤ 3 := by have := hT.1; have := hT.2.1.2.1; omega
    have H_count_of := h_count_of (P := P) (w := w) (base := base) T (n + 1)
    refine ⟨_, (pss_one (ps_ret (pe_callE H_count_of (hr.mono (by omega)) xw_def (pa_cons (pe_fld (pvM 0) rfl) (pa_cons (pe_fld (pe_fld (pvM 0) rfl) rfl) pa_nil))))), ?_⟩
    obtain ⟨h1, h2, ⟨dx, sp, h3, h4⟩, h5, h6⟩ := id hT
    obtain ⟨dx2, h4'⟩ := id h4
    unfold sp_cnt
    walk_at "wp"
    exact ⟨_, dx, _, h3, T.cl_Table, T.na_Table_top, _, tbF_top, _, dx, _, h3, T.cl_Table, T.na_Table_shape, _, tbF_shape, sp, rfl, _, dx2, _, h4', T.cl_Shape, T.na_Shape_levels, _, shF_levels, t, rfl, by rw [h1]; rfl, h5, h6.1, q⟩

/-! ### the inner paths of a tree -/
def nodes : (n : Nat) → TT (n + 1) → List (List Int)
  | 0, _ => []
  | n + 1, t => t.2.flatMap fun p => [p.1] :: (nodes n p.2).map (p.1 :: ·)
theorem cn_nodes : ∀ (n : Nat) (t : TT (n + 1)), cn n t = 1 + ((nodes n t).length : Int)
  | 0, _ => rfl
  | n + 1, (a, kvs) => by
    have h : ∀ l : List (Int × TT (n + 1)), (l.map fun p => cn n p.2).sum = ((l.flatMap fun p => [p.1] :: (nodes n p.2).map (p.1 :: ·)).length : Int) := fun l => by
      induction l with
      | nil => rfl
      | cons p r ih =>
        rw [List.map_cons, List.sum_cons, ih, List.flatMap_cons, List.length_append, List.length_cons, List.length_map, cn_nodes n p.2]
        omega
    show 1 + (kvs.map fun p => cn n p.2).sum = _
    rw [h]
    rfl
theorem lk_len : ∀ {n : Nat} {t : TT n} {r : List Int} {e : Int}, lk n t r = some e → r.length = n
  | 0, _, [], _, _ => rfl
  | 0, _, _ :: _, _, h => nomatch h
  | n + 1, _, [], _, h => nomatch h
  | n + 1, t, s :: r, e, h => by
    have h : (fnd s t.2).bind (fun c => lk n c r) = some e := h
    cases e1 : fnd s t.2 with
    | none => rw [e1] at h; cases h
    | some c => rw [e1] at h; rw [List.length_cons, lk_len (show lk n c r = some e from h)]
theorem fnd_of {α : Type} : ∀ {l : List (Int × α)} {p : Int × α}, (l.map (·.1)).Nodup → p ∈ l → fnd p.1 l = some p.2
  | q :: r, p, hn, hp => by
    rw [List.map_cons, List.nodup_cons] at hn
    rcases List.mem_cons.mp hp with rfl | hp
    · show (if p.1 = p.1 then some p.2 else _) = _; rw [if_pos rfl]
    · show (if q.1 = p.1 then some q.2 else fnd p.1 r) = _
      rw [if_neg (fun e => hn.1 (by rw [e]; exact List.mem_map_of_mem hp)), fnd_of hn.2 hp]
theorem nodes_mem {H : Hp} : ∀ {n : Nat} {t : TT (n + 1)} {r : List Int}, Rep H (n + 1) t → NEt (n + 1) t → (r ∈ nodes n t ↔ r ≠ [] ∧ ∃ s e, s ≠ [] ∧ lk (n + 1) t (r ++ s) = some e)
  | 0, t, r, _, _ => by
    refine ⟨fun h => (nomatch h), fun ⟨hr, s, e, hs, h⟩ => ?_⟩
    have := lk_len h
    rw [List.length_append] at this
    have h1 := List.length_pos_iff.mpr hr
    have h2 := List.length_pos_iff.mpr hs
    omega
  | n + 1, (a, kvs), r, hR, hN => by
    have lks : ∀ (p : Int × TT (n + 1)) (u : List Int), p ∈ kvs → lk (n + 2) (a, kvs) (p.1 :: u) = lk (n + 1) p.2 u := fun p u hp => by
      show (fnd p.1 kvs).bind (fun c => lk (n + 1) c u) = _
      rw [fnd_of hR.2.1 hp]; rfl
    refine ⟨fun h => ?_, fun ⟨hr, s, e, hs, h⟩ => ?_⟩
    · obtain ⟨p, hp, h⟩ := List.mem_flatMap.mp h
      rcases List.mem_cons.mp h with rfl | h
      · obtain ⟨s, e, h⟩ := ne_has (hN p hp).1 (hN p hp).2
        refine ⟨by simp, s, e, fun z => ?_, ?_⟩
        · rw [z] at h; cases h
        · rw [List.singleton_append, lks p s hp]; exact h
      · obtain ⟨r', hr', rfl⟩ := List.mem_map.mp h
        obtain ⟨_, s, e, hs, h⟩ := (nodes_mem (hR.2.2.2 p hp) (hN p hp).2).mp hr'
        exact ⟨by simp, s, e, hs, by rw [List.cons_append, lks p _ hp]; exact h⟩
    · cases r with
      | nil => exact absurd rfl hr
      | cons z r' =>
        have h' : (fnd z kvs).bind (fun c => lk (n + 1) c (r' ++ s)) = some e := h
        cases e1 : fnd z kvs with
        | none => rw [e1] at h'; cases h'
        | some c =>
          rw [e1] at h'
          have hp := fnd_mem e1
          refine List.mem_flatMap.mpr ⟨(z, c), hp, ?_⟩
          by_cases c1 : r' = []
          · rw [c1]; exact List.mem_cons_self ..
          · exact List.mem_cons_of_mem _ (List.mem_map.mpr ⟨r', (nodes_mem (hR.2.2.2 _ hp) (hN _ hp).2).mpr ⟨c1, s, e, hs, h'⟩, rfl⟩)
theorem flat_nd {α : Type} {f : Int × α → List (List Int)} (hh : ∀ p, ∀ r ∈ f p, r.head? = some p.1) : ∀ {l : List (Int × α)}, (l.map (·.1)).Nodup → (∀ p ∈ l, (f p).Nodup) → (l.flatMap f).Nodup
  | [], _, _ => by simp
  | p :: l, hn, hf => by
    rw [List.map_cons, List.nodup_cons] at hn
    rw [List.flatMap_cons, List.nodup_append]
    refine ⟨hf p (List.mem_cons_self ..), flat_nd hh hn.2 fun q hq => hf q (List.mem_cons_of_mem _ hq), fun x hx y hy e => ?_⟩
    obtain ⟨q, hq, hy⟩ := List.mem_flatMap.mp hy
    have h1 := hh p x hx
    have h2 := hh q y hy
    rw [e, h2] at h1
    exact hn.1 (List.mem_map.mpr ⟨q, hq, Option.some.inj h1⟩)
theorem nodes_ne : ∀ {n : Nat} {t : TT (n + 1)} {r : List Int}, r ∈ nodes n t → r ≠ []
  | n + 1, t, r, h => by
    obtain ⟨p, hp, h⟩ := List.mem_flatMap.mp h
    rcases List.mem_cons.mp h with rfl | h
    · simp
    · obtain ⟨r', _, rfl⟩ := List.mem_map.mp h
      simp
theorem nodes_nd {H : Hp} : ∀ {n : Nat} {t : TT (n + 1)}, Rep H (n + 1) t → (nodes n t).Nodup
  | 0, _, _ => by show ([] : List (List Int)).Nodup; simp
  | n + 1, (a, kvs), hR => by
    refine flat_nd (fun p r hr => ?_) hR.2.1 fun p hp => ?_
    · rcases List.mem_cons.mp hr with rfl | hr
      · rfl
      · obtain ⟨r', _, rfl⟩ := List.mem_map.mp hr
        rfl
    · rw [List.nodup_cons]
      refine ⟨fun h => ?_, ?_⟩
      · obtain ⟨r', hr', e⟩ := List.mem_map.mp h
        injection e with _ e
        exact nodes_ne hr' e
      · have := nodes_nd (hR.2.2.2 p hp)
        unfold List.Nodup at this ⊢
        rw [List.pairwise_map]
        exact this.imp fun {x y} h e => h (by injection e)
theorem hor_app {w : Int} {r s : List Int} : hor w 0 (r ++ s) = hor w 0 r * w ^ s.length + hor w 0 s := by
  have : hor w 0 (r ++ s) = hor w (hor w 0 r) s := by unfold hor; rw [List.foldl_append]
  rw [this, hor_at]
theorem hor_div {w : Int} (hw : 1 ≤ w) {r s : List Int} (hs : ∀ n ∈ s, 0 ≤ n ∧ n < w) : hor w 0 (r ++ s) / w ^ s.length = hor w 0 r := by
  have b := hor_bd hw s hs
  have hp : 0 < w ^ s.length := Int.pow_pos (by omega)
  rw [hor_app, Int.add_comm, Int.add_mul_ediv_right _ _ (by omega), Int.ediv_eq_zero_of_lt b.1 b.2, Int.zero_add]
theorem hor_inj {w : Int} (hw : 1 ≤ w) : ∀ {r s : List Int}, r.length = s.length → (∀ n ∈ r, 0 ≤ n ∧ n < w) → (∀ n ∈ s, 0 ≤ n ∧ n < w) → hor w 0 r = hor w 0 s → r = s
  | [], [], _, _, _, _ => rfl
  | [], _ :: _, h, _, _, _ => by simp at h
  | _ :: _, [], h, _, _, _ => by simp at h
  | x :: r, y :: s, hl, hr, hs, e => by
    have hl2 : r.length = s.length := by simpa using hl
    have hr' : ∀ n ∈ r, 0 ≤ n ∧ n < w := fun n hn => hr n (List.mem_cons_of_mem _ hn)
    have hs' : ∀ n ∈ s, 0 ≤ n ∧ n < w := fun n hn => hs n (List.mem_cons_of_mem _ hn)
    have d1 := hor_div hw (r := [x]) hr'
    have d2 := hor_div hw (r := [y]) hs'
    rw [List.singleton_append] at d1 d2
    rw [e, hl2, d2] at d1
    have exy : x = y := by
      have h1 : hor w 0 [x] = x := by unfold hor; simp
      have h2 : hor w 0 [y] = y := by unfold hor; simp
      rw [h1, h2] at d1
      exact d1.symm
    subst exy
    have a1 := hor_app (w := w) (r := [x]) (s := r)
    have a2 := hor_app (w := w) (r := [x]) (s := s)
    rw [List.singleton_append] at a1 a2
    rw [a1, a2, hl2] at e
    rw [hor_inj hw hl2 hr' hs' (by omega)]
def hky (k h : Int) : List Key := [.inl k, .inl h]
theorem heads_len {H : Hp} {l f g : Int} {n : Nat} {t : TT (n + 1)} {ks : List Int} {hk : List (List Key)} (hln : l = n + 1) (hg : gd l f g) (hR : Rep H (n + 1) t) (hN : NEt (n + 1) t) (hC : Cov l f n t) (hks : ∀ x, x ∈ ks ↔ 0 ≤ x ∧ x < pw (l * f) ∧ ∃ e, lk (n + 1) t (stp l f x) = some e)
    (hn : hk.Nodup) (hm : ∀ z, z ∈ hk ↔ ∃ x ∈ ks, ∃ k : Nat, 1 ≤ k ∧ (k : Int) < l ∧ z = hky k (x / pw f ^ k)) : (hk.length : Int) + 1 = cn n t := by
  have hw := pw_pos f
  have hdg : ∀ x, ∀ m ∈ stp l f x, 0 ≤ m ∧ m < pw f := fun x m hm => dg_in (by omega) _ m (List.mem_reverse.mp hm)
  have hx : ∀ {x}, 0 ≤ x → x < pw (l * f) → hor (pw f) 0 (stp l f x) = x := fun h0 h1 => hor_all hg.1 hg.2.1 hg.2.2.1 hg.2.2.2.1 ⟨h0, h1⟩
  have node : ∀ r ∈ nodes n t, ∃ x ∈ ks, ∃ s, s ≠ [] ∧ r ≠ [] ∧ r ++ s = stp l f x := fun r hr => by
    obtain ⟨h1, s, e, hs, h⟩ := (nodes_mem hR hN).mp hr
    obtain ⟨x, h0, h2, e2⟩ := hC _ _ h
    exact ⟨x, (hks x).mpr ⟨h0, h2, e, by rw [← e2]; exact h⟩, s, hs, h1, e2⟩
  have phi : ∀ r s x, r ++ s = stp l f x → x ∈ ks → hky (s.length : Int) (x / pw f ^ s.length) = hky (l - r.length) (hor (pw f) 0 r) := fun r s x e hxk => by
    obtain ⟨h0, h1, _⟩ := (hks x).mp hxk
    have hl := congrArg List.length e
    rw [List.length_append, stp_len] at hl
    have e3 := hor_div hw (r := r) (s := s) fun m hm => hdg x m (by rw [← e]; exact List.mem_append_right _ hm)
    rw [e, hx h0 h1] at e3
    rw [e3, show (s.length : Int) = l - r.length by omega]
  have h1 : ((nodes n t).map fun r => hky (l - r.length) (hor (pw f) 0 r)).Nodup := by
    have := nodes_nd hR
    unfold List.Nodup at this ⊢
    rw [List.pairwise_map]
    refine List.Pairwise.imp_of_mem (fun {a b} ha hb hne e => hne ?_) this
    obtain ⟨xa, _, sa, _, _, ea⟩ := node a ha
    obtain ⟨xb, _, sb, _, _, eb⟩ := node b hb
    have e1 : l - a.length = l - b.length := by injection e with e _; injection e
    have e2 : hor (pw f) 0 a = hor (pw f) 0 b := by injection e with _ e; injection e with e _; injection e
    exact hor_inj hw (by omega) (fun m hm => hdg xa m (by rw [← ea]; exact List.mem_append_left _ hm)) (fun m hm => hdg xb m (by rw [← eb]; exact List.mem_append_left _ hm)) e2
  have l1 := nodup_sub h1 (m := hk) fun z hz => by
    obtain ⟨r, hr, rfl⟩ := List.mem_map.mp hz
    obtain ⟨x, hxk, s, hs, hrn, e⟩ := node r hr
    have hl := congrArg List.length e
    rw [List.length_append, stp_len] at hl
    have p1 := List.length_pos_iff.mpr hs
    have p2 := List.length_pos_iff.mpr hrn
    exact (hm _).mpr ⟨x, hxk, s.length, p1, by omega, (phi r s x e hxk).symm⟩
  have l2 := nodup_sub hn (m := (nodes n t).map fun r => hky (l - r.length) (hor (pw f) 0 r)) fun z hz => by
    obtain ⟨x, hxk, k, hk1, hk2, rfl⟩ := (hm z).mp hz
    obtain ⟨h0, h1, e, he⟩ := (hks x).mp hxk
    have hsl := stp_len (l := l) (f := f) (x := x)
    have hs : (stp l f x).drop (l.toNat - k) ≠ [] := fun q => by
      have := congrArg List.length q
      rw [List.length_drop, hsl, List.length_nil] at this
      omega
    have hr : (stp l f x).take (l.toNat - k) ≠ [] := fun q => by
      have := congrArg List.length q
      rw [List.length_take, hsl, List.length_nil] at this
      omega
    have hts : (stp l f x).take (l.toNat - k) ++ (stp l f x).drop (l.toNat - k) = stp l f x := List.take_append_drop ..
    refine List.mem_map.mpr ⟨_, (nodes_mem hR hN).mpr ⟨hr, _, e, hs, by rw [hts]; exact he⟩, ?_⟩
    rw [← phi _ _ x hts hxk, List.length_drop, hsl, show l.toNat - (l.toNat - k) = k by omega]
  rw [List.length_map] at l1 l2
  rw [cn_nodes]
  omega
def dueK (D : List (Int × Int)) : List (Key × V) := D.map fun p => (Sum.inl p.1, .int p.2)
theorem dueK_val {x : Int} : ∀ {D : List (Int × Int)}, valV (dueK D) (Sum.inl x) = (fnd x D).map V.int
  | [] => rfl
  | p :: r => by
    unfold fnd
    by_cases e : p.1 = x
    · rw [if_pos e]
      exact valV_pos (by rw [← e])
    · rw [if_neg e, ← dueK_val (D := r)]
      exact valV_neg (fun z => e (Sum.inl.inj z))
def putD (D : List (Int × Int)) (x e : Int) : List (Int × Int) := if (fnd x D).isSome = true then rpl x e D else D ++ [(x, e)]
theorem putD_key {D : List (Int × Int)} {x e : Int} : putK (dueK D) (Sum.inl x) (.int e) = dueK (putD D x e) := by
  unfold putK putD
  rw [valV_any, dueK_val, Option.isSome_map]
  by_cases c : (fnd x D).isSome = true
  · rw [if_pos c, if_pos c]
    unfold dueK rpl
    rw [List.map_map, List.map_map]
    refine List.map_congr_left fun p _ => ?_
    show (if (Sum.inl p.1 : Key) = Sum.inl x then (Sum.inl p.1, V.int e) else (Sum.inl p.1, V.int p.2)) = (fun q : Int × Int => ((Sum.inl q.1 : Key), V.int q.2)) (if p.1 = x then (x, e) else p)
    by_cases ez : p.1 = x
    · rw [if_pos ez, if_pos (by rw [ez]), ez]
    · rw [if_neg ez, if_neg fun z => ez (Sum.inl.inj z)]
  · rw [if_neg c, if_neg c]
    unfold dueK
    rw [List.map_append]; rfl
theorem fnd_app {α : Type} {x z : Int} {e : α} : ∀ {D : List (Int × α)}, fnd x D = none → fnd z (D ++ [(x, e)]) = if z = x then some e else fnd z D
  | [], _ => by
    show (if x = z then some e else none) = _
    by_cases h : z = x
    · rw [if_pos h, if_pos h.symm]
    · rw [if_neg h, if_neg (fun q => h q.symm)]; rfl
  | p :: r, h => by
    unfold fnd at h
    by_cases e1 : p.1 = x
    · rw [if_pos e1] at h; cases h
    · rw [if_neg e1] at h
      show (if p.1 = z then some p.2 else fnd z (r ++ [(x, e)])) = if z = x then some e else if p.1 = z then some p.2 else fnd z r
      rw [fnd_app h]
      by_cases e2 : z = x
      · rw [if_pos e2, if_pos e2, if_neg (fun q => e1 (by rw [q, e2]))]
      · rw [if_neg e2, if_neg e2]
theorem putD_fnd {D : List (Int × Int)} {x e z : Int} : fnd z (putD D x e) = if z = x then some e else fnd z D := by
  unfold putD
  cases h : fnd x D with
  | none => exact fnd_app h
  | some d => exact rpl_fnd ⟨d, h⟩
theorem putD_len {D : List (Int × Int)} {x e : Int} : (putD D x e).length ≤ D.length + 1 := by
  unfold putD
  split
  · unfold rpl; rw [List.length_map]; exact Nat.le_succ _
  · rw [List.length_append]; exact Nat.le_refl _
/-- table and plain dict tell the same -/
def Agree (l f : Int) (n : Nat) (t : TT (n + 1)) (D : List (Int × Int)) : Prop := ∀ x, 0 ≤ x → x < pw (l * f) → lk (n + 1) t (stp l f x) = fnd x D
theorem seq_on {K : PySem.W.Frag} {H H' : Hp} {a : Addr} {xs : List V} (h : SqL K H a xs) (e : ∀ o, H a = some o → (∀ kvs, o ≠ .dK kvs) → H' a = some o) : SqL K H' a xs := by
  rcases h with (h | ⟨o, h⟩) | h
  · exact .inl (.inl (e _ h fun _ z => nomatch z))
  · exact .inl (.inr ⟨o, e _ h fun _ z => nomatch z⟩)
  · exact .inr h
theorem TabAt.but {C S : Addr} {H H' : Hp} {p d : Addr} {l f g : Int} {n : Nat} {t : TT (n + 1)} {kvs : List (Key × V)} (h : TabAt C S H p l f g n t) (hd : H d = some (.dK kvs)) (hn : d ∉ ads (n + 1) t) (s : ∀ b o, b ≠ d → H b = some o → H' b = some o) : TabAt C S H' p l f g n t := by
  obtain ⟨h1, h2, ⟨dx, sp, h3, dx2, h4⟩, h5, h6⟩ := h
  refine ⟨h1, h2, ⟨dx, sp, s _ _ (ne_of h3 hd fun z => nomatch z) h3, dx2, s _ _ (ne_of h4 hd fun z => nomatch z) h4⟩, rep_stay h5 fun a ha o ho => s a o (fun z => hn (by rw [← z]; exact ha)) ho, h6⟩
/-- a table and a plain dict that tell the same, and the script -/
structure Tst (K : PySem.W.Frag) (C S : Addr) (a : Addr) (ns : List Int) (p d : Addr) (l f g : Int) (n : Nat) (H : Hp) (t : TT (n + 1)) (D : List (Int × Int)) : Prop where
  tab : TabAt C S H p l f g n t
  due : H d = some (.dK (dueK D))
  nin : d ∉ ads (n + 1) t
  agr : Agree l f n t D
  scr : SqL K H a (ns.map V.int)
theorem Tst.same {K : PySem.W.Frag} {C S a : Addr} {ns : List Int} {p d : Addr} {l f g : Int} {n : Nat} {H H' : Hp} {t : TT (n + 1)} {D : List (Int × Int)} (h : Tst K C S a ns p d l f g n H t D) (s : Same H H') : Tst K C S a ns p d l f g n H' t D :=
  ⟨h.tab.stay s, s _ _ h.due, h.nin, h.agr, s.seq h.scr⟩
theorem TabAt.obj {C S : Addr} {H : Hp} {p : Addr} {l f g : Int} {n : Nat} {t : TT (n + 1)} (h : TabAt C S H p l f g n t) {m : Str} (hm : ¬ m ∈ (["top", "shape"] : List Str)) : ∃ dx fs, H p = some (.ins C dx fs) ∧ fs.lookup m = none := by
  obtain ⟨h1, h2, ⟨dx, sp, h3, h4⟩, h5, h6⟩ := h
  exact ⟨dx, _, h3, tbF_no hm⟩
def Kp (H H' : Hp) : Prop := ∀ b o, H b = some o → (∀ kvs, o ≠ .dK kvs) → H' b = some o
theorem Kp.trans {H H1 H2 : Hp} (a : Kp H H1) (b : Kp H1 H2) : Kp H H2 := fun x o h k => b x o (a x o h k) k
theorem Kp.of {H H' : Hp} (s : Same H H') : Kp H H' := fun x o h _ => s x o h
theorem Tst.kp {K : PySem.W.Frag} {C S a : Addr} {ns : List Int} {p d : Addr} {l f g : Int} {n : Nat} {H H' : Hp} {t : TT (n + 1)} {D : List (Int × Int)} {o : HO} (h : Tst K C S a ns p d l f g n H t D) (fr : Frm (ads (n + 1) t) (upd H d o) H') : Kp H H' := fun b u hb hk => by
  refine fr b u ?_ fun z => ?_
  · rw [upd_ne (ne_of hb h.due (hk _))]; exact hb
  · obtain ⟨kvs, e⟩ := rep_dk h.tab.2.2.2.1 b z
    rw [hb] at e
    exact hk kvs (Option.some.inj e)
theorem Agree.drop {l f g : Int} {n : Nat} {t t' : TT (n + 1)} {D : List (Int × Int)} {x : Int} (h : Agree l f n t D) (hg : gd l f g) (hx : 0 ≤ x ∧ x < pw (l * f)) (ht : ∀ r, lk (n + 1) t' r = dropF (lk (n + 1) t) (stp l f x) r) : Agree l f n t' (del x D) := by
  intro y h0 h1
  rw [ht, del_fnd]
  unfold dropF
  by_cases c : y = x
  · rw [if_pos c, if_pos (by rw [c])]
  · rw [if_neg c, if_neg (fun z => c (stp_inj hg ⟨h0, h1⟩ hx z))]
    exact h y h0 h1
theorem Tst.drop {K : PySem.W.Frag} {C S a : Addr} {ns : List Int} {p d : Addr} {l f g : Int} {n : Nat} {H : Hp} {t : TT (n + 1)} {D : List (Int × Int)} (h : Tst K C S a ns p d l f g n H t D) {x : Int} (hx : 0 ≤ x ∧ x < pw (l * f)) {H' : Hp} {t' : TT (n + 1)} (h1 : TabAt C S H' p l f g n t') (h2 : ∀ r, lk (n + 1) t' r = dropF (lk (n + 1) t) (stp l f x) r)
    (h3 : Frm (ads (n + 1) t) H H') (h4 : ∀ a ∈ ads (n + 1) t', a ∈ ads (n + 1) t ∨ H a = none) : H' d = some (.dK (dueK D)) ∧ Kp H H' ∧ Tst K C S a ns p d l f g n (upd H' d (.dK (dueK (del x D)))) t' (del x D) := by
  have hd' := h3 _ _ h.due h.nin
  have kp : Kp H H' := fun b u hb hk => h3 b u hb fun z => by
    obtain ⟨kvs, e⟩ := rep_dk h.tab.2.2.2.1 b z
    rw [hb] at e
    exact hk kvs (Option.some.inj e)
  have nin : d ∉ ads (n + 1) t' := fun z => by
    rcases h4 d z with z | z
    · exact h.nin z
    · rw [h.due] at z; cases z
  refine ⟨hd', kp, h1.but hd' nin (fun b o hb ho => by rw [upd_ne hb]; exact ho), upd_same, nin, h.agr.drop h.tab.2.1 hx h2, ?_⟩
  refine seq_on (seq_on h.scr fun o ho hk => kp _ _ ho hk) fun o ho hk => ?_
  rw [upd_ne (ne_of ho hd' (hk _))]; exact ho
theorem putD_keys {D : List (Int × Int)} {x e z : Int} (h : z ∈ (putD D x e).map (·.1)) : z = x ∨ z ∈ D.map (·.1) := by
  obtain ⟨p, hp, rfl⟩ := List.mem_map.mp h
  unfold putD at hp
  split at hp
  · rcases rpl_mem hp with rfl | ⟨hp, _⟩
    · exact .inl rfl
    · exact .inr (List.mem_map_of_mem hp)
  · rcases List.mem_append.mp hp with hp | hp
    · exact .inr (List.mem_map_of_mem hp)
    · rw [List.mem_singleton.mp hp]; exact .inl rfl
structure Tp (K : PySem.W.Frag) (C S : Addr) (a : Addr) (ns : List Int) (p d : Addr) (l f g : Int) (n : Nat) (H : Hp) (t : TT (n + 1)) (D : List (Int × Int)) (x : Int) : Prop where
  tab : TabAt C S H p l f g n t
  due : H d = some (.dK (dueK D))
  nin : d ∉ ads (n + 1) t
  agr : ∀ y, 0 ≤ y → y < pw (l * f) → y ≠ x → lk (n + 1) t (stp l f y) = fnd y D
  scr : SqL K H a (ns.map V.int)
section
variable {C S a : Addr} {ns : List Int} {p d : Addr} {l f g : Int} {n : Nat} {H : Hp} {t : TT (n + 1)} {D : List (Int × Int)} {x e : Int}
theorem Tp.of (h : Tst K C S a ns p d l f g n H t D) : Tp K C S a ns p d l f g n H t D x := ⟨h.tab, h.due, h.nin, fun y h0 h1 _ => h.agr y h0 h1, h.scr⟩
theorem Tp.put (h : Tp K C S a ns p d l f g n H t D x) (hl : D.length ≤ 1000) : DPut H d (.int x) (.int e) (upd H d (.dK (dueK (putD D x e)))) ∧ Tp K C S a ns p d l f g n (upd H d (.dK (dueK (putD D x e)))) t (putD D x e) x ∧ Kp H (upd H d (.dK (dueK (putD D x e)))) := by
  have kp : Kp H (upd H d (.dK (dueK (putD D x e)))) := fun b o hb hk => by rw [upd_ne (ne_of hb h.due (hk _))]; exact hb
  refine ⟨?_, ⟨h.tab.but h.due h.nin (fun b o hb ho => by rw [upd_ne hb]; exact ho), upd_same, h.nin, fun y h0 h1 hy => ?_, seq_on h.scr fun o ho hk => kp _ _ ho hk⟩, kp⟩
  · have := DPut.k (k := Sum.inl x) (v := .int e) h.due (by unfold dueK; rw [List.length_map, sizeLine_eq]; omega)
    rw [putD_key] at this
    exact this
  · rw [putD_fnd, if_neg hy]; exact h.agr y h0 h1 hy
theorem Tp.get (h : Tp K C S a ns p d l f g n H t D x) (hf : fnd x D = some e) : DGet H d (.int x) (some (.int e)) := by
  have := DGet.k (k := Sum.inl x) h.due
  rw [dueK_val, hf] at this
  exact this
theorem Tp.done (h : Tp K C S a ns p d l f g n H t D x) (hx : 0 ≤ x ∧ x < pw (l * f)) (hf : fnd x D = some e) {H' : Hp} {t' : TT (n + 1)} (h1 : TabAt C S H' p l f g n t') (h2 : ∀ r, lk (n + 1) t' r = setF (lk (n + 1) t) (stp l f x) e r) (h3 : Frm (ads (n + 1) t) H H') (h4 : ∀ a ∈ ads (n + 1) t', a ∈ ads (n + 1) t ∨ H a = none) : Tst K C S a ns p d l f g n H' t' D ∧ Kp H H' := by
  have kp : Kp H H' := fun b u hb hk => h3 b u hb fun z => by
    obtain ⟨kvs, e⟩ := rep_dk h.tab.2.2.2.1 b z
    rw [hb] at e
    exact hk kvs (Option.some.inj e)
  refine ⟨⟨h1, h3 _ _ h.due h.nin, fun z => ?_, fun y h0 h1' => ?_, seq_on h.scr fun o ho hk => kp _ _ ho hk⟩, kp⟩
  · rcases h4 d z with z | z
    · exact h.nin z
    · rw [h.due] at z; cases z
  · rw [h2]
    unfold setF
    by_cases c : y = x
    · rw [if_pos (by rw [c]), c, hf]
    · rw [if_neg (fun z => c (stp_inj h.tab.2.1 ⟨h0, h1'⟩ hx z))]
      exact h.agr y h0 h1' c
end
theorem putD_nd {D : List (Int × Int)} {x e : Int} (h : (D.map (·.1)).Nodup) : ((putD D x e).map (·.1)).Nodup := by
  unfold putD
  split
  · rw [rpl_keys]; exact h
  · rename_i c
    rw [List.map_append, List.nodup_append]
    refine ⟨h, by simp, fun z hz y hy => ?_⟩
    have hy : y = x := by simpa using hy
    rw [hy]
    intro ez
    cases ef : fnd x D with
    | none => exact fnd_none ef (by rw [← ez]; exact hz)
    | some c' => rw [ef] at c; exact c rfl
def Tx (K : PySem.W.Frag) (C S : Addr) (a : Addr) (ns : List Int) (p d : Addr) (l f g : Int) (n : Nat) (H : Hp) (t : TT (n + 1)) (D : List (Int × Int)) : Prop := Tst K C S a ns p d l f g n H t D ∧ Cov l f n t ∧ (D.map (·.1)).Nodup ∧ ∀ z ∈ D.map (·.1), 0 ≤ z ∧ z < pw (l * f)
theorem Cov.put {l f : Int} {n : Nat} {t t' : TT (n + 1)} {x e : Int} (h : Cov l f n t) (hx : 0 ≤ x ∧ x < pw (l * f)) (h2 : ∀ r, lk (n + 1) t' r = setF (lk (n + 1) t) (stp l f x) e r) : Cov l f n t' := fun r e' hr => by
  rw [h2] at hr
  unfold setF at hr
  by_cases c : r = stp l f x
  · exact ⟨x, hx.1, hx.2, c⟩
  · rw [if_neg c] at hr; exact h r e' hr
theorem Cov.drop {l f : Int} {n : Nat} {t t' : TT (n + 1)} {ss : List Int} (h : Cov l f n t) (h2 : ∀ r, lk (n + 1) t' r = dropF (lk (n + 1) t) ss r) : Cov l f n t' := fun r e' hr => by
  rw [h2] at hr
  unfold dropF at hr
  by_cases c : r = ss
  · rw [if_pos c] at hr; cases hr
  · rw [if_neg c] at hr; exact h r e' hr
def sp_part : Sp := fun vs H Q _ => ∃ c k m : Int, vs = [.int c, .int k, .int m] ∧ 0 ≤ k ∧ k < 4 ∧ 0 < m ∧ ∀ r H', 0 ≤ r → r < m → Same H H' → Q (.int r) H'
theorem h_part (T : Txt K mg A) : Have P w K mg base "_law_part" 1 ["_law_cell", "_law_place", "_law_many"] [] sp_part := by
  refine T.r_l_part.have sc_l_part (fun vs H Q E z => ?_) ?_
  · obtain ⟨c, k, m, rfl, _⟩ := z; rfl
  · intro f cdv A' outer s H vs Q E hr z
    obtain ⟨c, k, m, rfl, h0, h1, hm, q⟩ := z
    refine ⟨_, (pss_cons (ps_set (i := 3) sc_l_part.nd rfl (Or.inl rfl) (pe_ix ix_lst (pe_lst (pa_cons pe_int (pa_cons pe_int (pa_cons pe_int (pa_cons pe_int pa_nil))))) (pvM 1) (fun _ _ => rfl)))
      (pss_one (ps_ret (pe_op op_mod (pe_op op_mod (pe_op op_mul (pe_op op_add (pe_op op_mod (pvM 0) (pvM 3)) pe_int) pe_int) (pvM 3)) (pvM 2))))), ?_⟩
    walk_at "wp"
    intro p hp
    refine pick (by omega) (by simp only [List.length_cons, List.length_nil]; omega) fun v hv => ?_
    simp only [List.mem_cons, List.not_mem_nil, or_false] at hv
    have em : ∀ z : Int, 0 ≤ z % m ∧ z % m < m := fun z => ⟨Int.emod_nonneg _ (by omega), Int.emod_lt_of_pos _ hm⟩
    rcases hv with rfl | rfl | rfl | rfl <;> (walk_at "wp"; exact ⟨hm, q _ _ (em _).1 (em _).2 (same_upd same_refl hp)⟩)
def sp_page : Sp := fun vs H Q _ => ∃ c b m : Int, vs = [.int c, .int b, .int m] ∧ 0 < m ∧ ∀ r H', 0 ≤ r → r < m → Same H H' → Q (.int r) H'
theorem h_page (T : Txt K mg A) : Have P w K mg base "_law_page" 2 ["_law_cell", "_law_base", "_law_count"] [] sp_page := by
  have H_l_part := h_part (P := P) (w := w) (base := base) T
  refine T.r_l_page.have sc_l_page (fun vs H Q E z => ?_) ?_
  · obtain ⟨c, b, m, rfl, _⟩ := z; rfl
  · intro f cdv A' outer s H vs Q E hr z
    obtain ⟨c, b, m, rfl, hm, q⟩ := z
    refine ⟨_, (pss_cons (ps_if (pt_cmpR op_eq (pe_callE H_l_part (hr.mono (by decide)) xw_def (pa_cons (pvM 0) (pa_cons pe_int (pa_cons pe_int pa_nil)))) pe_int (nomark _)) (pss_one (ps_ret (pe_op op_mod (pvM 0) (pvM 2)))) pss_nil)
      (pss_one (ps_ret (pe_op op_mod (pe_op op_add (pvM 1) (pe_callE H_l_part (hr.mono (by decide)) xw_def (pa_cons (pvM 0) (pa_cons pe_int (pa_cons pe_int pa_nil))))) (pvM 2))))), ?_⟩
    unfold sp_part
    walk_at "wp"
    have em : ∀ z : Int, 0 ≤ z % m ∧ z % m < m := fun z => ⟨Int.emod_nonneg _ (by omega), Int.emod_lt_of_pos _ hm⟩
    intro r1 H1 _ _ s1
    exact ite2 (fun _ => ⟨hm, q _ _ (em _).1 (em _).2 s1⟩) (fun _ r2 H2 _ _ s2 => ⟨hm, q _ _ (em _).1 (em _).2 (s1.trans s2)⟩)

def sp_bey : Sp := fun vs H Q _ => ∃ c m : Int, vs = [.int c, .int m] ∧ 0 < m ∧ ∀ y H', (y < 0 ∨ m ≤ y) → Same H H' → Q (.int y) H'
theorem h_bey (T : Txt K mg A) : Have P w K mg base "_law_beyond" 2 ["_law_cell", "_law_count"] [] sp_bey := by
  have H_l_part := h_part (P := P) (w := w) (base := base) T
  refine T.r_l_beyond.have sc_l_beyond (fun vs H Q E z => ?_) ?_
  · obtain ⟨c, m, rfl, _⟩ := z; rfl
  · intro f cdv A' outer s H vs Q E hr z
    obtain ⟨c, m, rfl, hm, q⟩ := z
    refine ⟨_, (pss_cons (ps_set (i := 2) sc_l_beyond.nd rfl (Or.inl rfl) pe_int)
      (pss_cut (ps_if (pt_cmpR op_gt (pe_callE H_l_part (hr.mono (by decide)) xw_def (pa_cons (pvM 0) (pa_cons pe_int (pa_cons pe_int pa_nil)))) pe_int (nomark _)) (pss_one (ps_set (i := 2) sc_l_beyond.nd rfl (Or.inl rfl) (pe_op op_mod (pvM 0) (pe_op op_pow pe_int pe_int)))) pss_nil)
      (pss_cons (ps_if (pt_cmpR op_eq (pe_op op_mod (pe_callE H_l_part (hr.mono (by decide)) xw_def (pa_cons (pvM 0) (pa_cons pe_int (pa_cons pe_int pa_nil)))) pe_int) pe_int (nomark _)) (pss_one (ps_ret (pe_op op_sub (pe_un op_neg pe_int) (pvM 2)))) pss_nil)
      (pss_one (ps_ret (pe_op op_add (pvM 1) (pvM 2))))))), ?_⟩
    walk_at "wp"
    refine ⟨fun σ H' => ∃ y : Int, σ = [some (.int c), some (.int m), some (.int y)] ∧ 0 ≤ y ∧ Same H H', ?_, fun σ' H1 => ?_⟩
    · unfold sp_part
      walk_at "wp"
      intro r H1 _ _ s1
      exact ite2 (fun _ => ⟨Int.emod_nonneg _ (by decide), s1⟩) (fun _ => s1)
    rintro ⟨y, rfl, hy, s1⟩
    unfold sp_part
    walk_at "wp"
    intro r H2 _ _ s2
    exact ite2 (fun _ => q _ _ (.inl (by omega)) (s1.trans s2)) (fun _ => q _ _ (.inr (by omega)) (s1.trans s2))
def sp_ref (C S : Addr) : Sp := fun vs H Q _ => ∃ (p : Addr) (x wy e l f g : Int) (n : Nat) (t : TT (n + 1)), vs = [.ref p, .int x, .int wy, .int e] ∧ TabAt C S H p l f g n t ∧ (x < 0 ∨ pw (l * f) ≤ x) ∧ ∀ H', Same H H' → Q (.bl true) H'
theorem h_ref (T : Txt K mg A) : Have P w K mg base "_law_refused" 7 ["_law_table", "_law_page_here", "_law_way", "_law_entry"] [] (sp_ref A.C_Table A.C_Shape) := by
  have H_Table_put := h_tput (P := P) (w := w) (base := base) T
  have H_Table_look := h_tlook (P := P) (w := w) (base := base) T
  have H_Table_drop := h_tdrop (P := P) (w := w) (base := base) T
  have H_Table_depth := h_tdepth (P := P) (w := w) (base := base) T
  refine T.r_l_refused.have sc_l_refused (fun vs H Q E z => ?_) ?_
  · obtain ⟨p, x, wy, e, l, f, g, n, t, rfl, _⟩ := z; rfl
  · intro f cdv A' outer s H vs Q E hr z
    obtain ⟨p, x, wy, e, l, f', g, n, t, rfl, hT, hx, q⟩ := z
    refine ⟨_, (pss_cons (ps_try_as (i := 4) sc_l_refused.nd rfl rfl T.h_FrameError (fun _ _ _ po1 xw1 => (pss_one (ps_if (pt_cmpR op_eq (pvM 2) pe_int (nomark _)) (pss_one (ps_expr (pe_methE (pvM 0) T.cl_Table H_Table_put (hr.mono (by decide)) xw1 (pa_cons (pvM 1) (pa_cons (pvM 3) pa_nil))))) (pss_one (ps_if (pt_cmpR op_eq (pvM 2) pe_int (nomark _)) (pss_one (ps_expr (pe_methE (pvM 0) T.cl_Table H_Table_look (hr.mono (by decide)) xw1 (pa_cons (pvM 1) pa_nil)))) (pss_one (ps_if (pt_cmpR op_eq (pvM 2) pe_int (nomark _)) (pss_one (ps_expr (pe_methE (pvM 0) T.cl_Table H_Table_drop (hr.mono (by decide)) xw1 (pa_cons (pvM 1) pa_nil)))) (pss_one (ps_expr (pe_methE (pvM 0) T.cl_Table H_Table_depth (hr.mono (by decide)) xw1 (pa_cons (pvM 1) pa_nil))))))))))) pss_nil (fun _ => (pss_cons (ps_if (pt_val (pe_callB call_isxT rfl T.b_isinstance PyProof.Rows.boot_isinstance (pa_cons (pvM 4) (pa_cons (pe_tup (pa_cons (pe_globE rfl T.m_NoShape) (pa_cons (pe_globE rfl T.m_BadRights) (pa_cons (pe_globE rfl T.m_NoTask) (pa_cons (pe_globE rfl T.m_NoBank) (pa_cons (pe_globE rfl T.m_OutOfBank) (pa_cons (pe_globE rfl T.m_Taken) pa_nil))))))) pa_nil)))) (pss_one (ps_ret pe_bl)) pss_nil)
      (pss_cons (ps_if (pt_val (pe_callB call_isxT rfl T.b_isinstance PyProof.Rows.boot_isinstance (pa_cons (pvM 4) (pa_cons (pe_tup (pa_cons (pe_globE rfl T.m_NotMapped) (pa_cons (pe_globE rfl T.m_NoRight) (pa_cons (pe_globE rfl T.m_NoRoom) (pa_cons (pe_globE rfl T.m_Busy) (pa_cons (pe_globE rfl T.m_NoRow) pa_nil)))))) pa_nil)))) (pss_one (ps_ret pe_bl)) pss_nil)
      (pss_one (ps_ret (pe_and (pe_callB call_isxC rfl T.b_isinstance PyProof.Rows.boot_isinstance (pa_cons (pvM 4) (pa_cons (pe_globE rfl T.m_OutOfRoom) pa_nil))) (pe_one (pe_callB call_isxC rfl T.b_isinstance PyProof.Rows.boot_isinstance (pa_cons (pvM 4) (pa_cons (pe_bltnE (n := "ValueError") rfl T.b_ValueError (by decide +kernel)) pa_nil)))))))))))
      (pss_one (ps_ret pe_bl))), ?_⟩
    unfold sp_tput sp_tlook sp_tdrop sp_tdepth
    walk_at "wp"
    have hx' : ¬ (0 ≤ x ∧ x < pw (l * f')) := by omega
    refine ite2 (fun _ => ?_) (fun _ => ite2 (fun _ => ?_) (fun _ => ite2 (fun _ => ?_) (fun _ => ?_)))
    · obtain ⟨dx1, fs1, e1, e2⟩ := hT.obj (m := "put") (by decide +kernel)
      refine ⟨dx1, fs1, e1, e2, l, f', g, n, t, hT, ?_⟩
      rw [if_neg hx']
      refine ⟨A.C_OutOfRoom, rfl, T.sub_OutOfRoom_FrameError, fun ea hea p1 h1 => ?_⟩
      have s1 := same_upd (o := excO ea A.C_OutOfRoom) (same_refl (H := H)) hea
      have s2 := same_upd (o := .tup [V.ref A.C_NoShape, V.ref A.C_BadRights, V.ref A.C_NoTask, V.ref A.C_NoBank, V.ref A.C_OutOfBank, V.ref A.C_Taken]) (same_refl (H := upd H ea (excO ea A.C_OutOfRoom))) h1
      refine ⟨_, A.C_OutOfRoom, s2 _ _ upd_same, T.xi_OutOfRoom, rfl, fun v hv => ?_, false, ?_, ?_⟩
      · simp only [List.mem_cons, List.not_mem_nil, or_false] at hv
        rcases hv with rfl | rfl | rfl | rfl | rfl | rfl <;> exact .inl ⟨_, rfl⟩
      · simp only [List.map_cons, List.map_nil, clsV_ref, PySem.W.kitAny, T.kit_OutOfRoom_NoShape, T.kit_OutOfRoom_BadRights, T.kit_OutOfRoom_NoTask, T.kit_OutOfRoom_NoBank, T.kit_OutOfRoom_OutOfBank, T.kit_OutOfRoom_Taken]
      refine iteF fun p2 h2 => ?_
      have s3 := same_upd (o := .tup [V.ref A.C_NotMapped, V.ref A.C_NoRight, V.ref A.C_NoRoom, V.ref A.C_Busy, V.ref A.C_NoRow]) (same_refl (H := upd (upd H ea (excO ea A.C_OutOfRoom)) p1 (.tup [V.ref A.C_NoShape, V.ref A.C_BadRights, V.ref A.C_NoTask, V.ref A.C_NoBank, V.ref A.C_OutOfBank, V.ref A.C_Taken]))) h2
      refine ⟨_, A.C_OutOfRoom, s3 _ _ (s2 _ _ upd_same), T.xi_OutOfRoom, rfl, fun v hv => ?_, false, ?_, ?_⟩
      · simp only [List.mem_cons, List.not_mem_nil, or_false] at hv
        rcases hv with rfl | rfl | rfl | rfl | rfl <;> exact .inl ⟨_, rfl⟩
      · simp only [List.map_cons, List.map_nil, clsV_ref, PySem.W.kitAny, T.kit_OutOfRoom_NotMapped, T.kit_OutOfRoom_NoRight, T.kit_OutOfRoom_NoRoom, T.kit_OutOfRoom_Busy, T.kit_OutOfRoom_NoRow]
      refine iteF ?_
      exact ⟨A.C_OutOfRoom, s3 _ _ (s2 _ _ upd_same), T.xi_OutOfRoom, true, T.kit_OutOfRoom_OutOfRoom, iteT ⟨A.C_OutOfRoom, s3 _ _ (s2 _ _ upd_same), T.xi_OutOfRoom, true, T.kit_OutOfRoom_ValueError, q _ ((s1.trans s2).trans s3)⟩⟩
    · obtain ⟨dx1, fs1, e1, e2⟩ := hT.obj (m := "look") (by decide +kernel)
      refine ⟨dx1, fs1, e1, e2, l, f', g, n, t, hT, ?_⟩
      rw [if_neg hx']
      refine ⟨A.C_OutOfRoom, rfl, T.sub_OutOfRoom_FrameError, fun ea hea p1 h1 => ?_⟩
      have s1 := same_upd (o := excO ea A.C_OutOfRoom) (same_refl (H := H)) hea
      have s2 := same_upd (o := .tup [V.ref A.C_NoShape, V.ref A.C_BadRights, V.ref A.C_NoTask, V.ref A.C_NoBank, V.ref A.C_OutOfBank, V.ref A.C_Taken]) (same_refl (H := upd H ea (excO ea A.C_OutOfRoom))) h1
      refine ⟨_, A.C_OutOfRoom, s2 _ _ upd_same, T.xi_OutOfRoom, rfl, fun v hv => ?_, false, ?_, ?_⟩
      · simp only [List.mem_cons, List.not_mem_nil, or_false] at hv
        rcases hv with rfl | rfl | rfl | rfl | rfl | rfl <;> exact .inl ⟨_, rfl⟩
      · simp only [List.map_cons, List.map_nil, clsV_ref, PySem.W.kitAny, T.kit_OutOfRoom_NoShape, T.kit_OutOfRoom_BadRights, T.kit_OutOfRoom_NoTask, T.kit_OutOfRoom_NoBank, T.kit_OutOfRoom_OutOfBank, T.kit_OutOfRoom_Taken]
      refine iteF fun p2 h2 => ?_
      have s3 := same_upd (o := .tup [V.ref A.C_NotMapped, V.ref A.C_NoRight, V.ref A.C_NoRoom, V.ref A.C_Busy, V.ref A.C_NoRow]) (same_refl (H := upd (upd H ea (excO ea A.C_OutOfRoom)) p1 (.tup [V.ref A.C_NoShape, V.ref A.C_BadRights, V.ref A.C_NoTask, V.ref A.C_NoBank, V.ref A.C_OutOfBank, V.ref A.C_Taken]))) h2
      refine ⟨_, A.C_OutOfRoom, s3 _ _ (s2 _ _ upd_same), T.xi_OutOfRoom, rfl, fun v hv => ?_, false, ?_, ?_⟩
      · simp only [List.mem_cons, List.not_mem_nil, or_false] at hv
        rcases hv with rfl | rfl | rfl | rfl | rfl <;> exact .inl ⟨_, rfl⟩
      · simp only [List.map_cons, List.map_nil, clsV_ref, PySem.W.kitAny, T.kit_OutOfRoom_NotMapped, T.kit_OutOfRoom_NoRight, T.kit_OutOfRoom_NoRoom, T.kit_OutOfRoom_Busy, T.kit_OutOfRoom_NoRow]
      refine iteF ?_
      exact ⟨A.C_OutOfRoom, s3 _ _ (s2 _ _ upd_same), T.xi_OutOfRoom, true, T.kit_OutOfRoom_OutOfRoom, iteT ⟨A.C_OutOfRoom, s3 _ _ (s2 _ _ upd_same), T.xi_OutOfRoom, true, T.kit_OutOfRoom_ValueError, q _ ((s1.trans s2).trans s3)⟩⟩
    · obtain ⟨dx1, fs1, e1, e2⟩ := hT.obj (m := "drop") (by decide +kernel)
      refine ⟨dx1, fs1, e1, e2, l, f', g, n, t, hT, ?_⟩
      rw [if_neg hx']
      refine ⟨A.C_OutOfRoom, rfl, T.sub_OutOfRoom_FrameError, fun ea hea p1 h1 => ?_⟩
      have s1 := same_upd (o := excO ea A.C_OutOfRoom) (same_refl (H := H)) hea
      have s2 := same_upd (o := .tup [V.ref A.C_NoShape, V.ref A.C_BadRights, V.ref A.C_NoTask, V.ref A.C_NoBank, V.ref A.C_OutOfBank, V.ref A.C_Taken]) (same_refl (H := upd H ea (excO ea A.C_OutOfRoom))) h1
      refine ⟨_, A.C_OutOfRoom, s2 _ _ upd_same, T.xi_OutOfRoom, rfl, fun v hv => ?_, false, ?_, ?_⟩
      · simp only [List.mem_cons, List.not_mem_nil, or_false] at hv
        rcases hv with rfl | rfl | rfl | rfl | rfl | rfl <;> exact .inl ⟨_, rfl⟩
      · simp only [List.map_cons, List.map_nil, clsV_ref, PySem.W.kitAny, T.kit_OutOfRoom_NoShape, T.kit_OutOfRoom_BadRights, T.kit_OutOfRoom_NoTask, T.kit_OutOfRoom_NoBank, T.kit_OutOfRoom_OutOfBank, T.kit_OutOfRoom_Taken]
      refine iteF fun p2 h2 => ?_
      have s3 := same_upd (o := .tup [V.ref A.C_NotMapped, V.ref A.C_NoRight, V.ref A.C_NoRoom, V.ref A.C_Busy, V.ref A.C_NoRow]) (same_refl (H := upd (upd H ea (excO ea A.C_OutOfRoom)) p1 (.tup [V.ref A.C_NoShape, V.ref A.C_BadRights, V.ref A.C_NoTask, V.ref A.C_NoBank, V.ref A.C_OutOfBank, V.ref A.C_Taken]))) h2
      refine ⟨_, A.C_OutOfRoom, s3 _ _ (s2 _ _ upd_same), T.xi_OutOfRoom, rfl, fun v hv => ?_, false, ?_, ?_⟩
      · simp only [List.mem_cons, List.not_mem_nil, or_false] at hv
        rcases hv with rfl | rfl | rfl | rfl | rfl <;> exact .inl ⟨_, rfl⟩
      · simp only [List.map_cons, List.map_nil, clsV_ref, PySem.W.kitAny, T.kit_OutOfRoom_NotMapped, T.kit_OutOfRoom_NoRight, T.kit_OutOfRoom_NoRoom, T.kit_OutOfRoom_Busy, T.kit_OutOfRoom_NoRow]
      refine iteF ?_
      exact ⟨A.C_OutOfRoom, s3 _ _ (s2 _ _ upd_same), T.xi_OutOfRoom, true, T.kit_OutOfRoom_OutOfRoom, iteT ⟨A.C_OutOfRoom, s3 _ _ (s2 _ _ upd_same), T.xi_OutOfRoom, true, T.kit_OutOfRoom_ValueError, q _ ((s1.trans s2).trans s3)⟩⟩
    · obtain ⟨dx1, fs1, e1, e2⟩ := hT.obj (m := "depth") (by decide +kernel)
      refine ⟨dx1, fs1, e1, e2, l, f', g, n, t, hT, ?_⟩
      rw [if_neg hx']
      refine ⟨A.C_OutOfRoom, rfl, T.sub_OutOfRoom_FrameError, fun ea hea p1 h1 => ?_⟩
      have s1 := same_upd (o := excO ea A.C_OutOfRoom) (same_refl (H := H)) hea
      have s2 := same_upd (o := .tup [V.ref A.C_NoShape, V.ref A.C_BadRights, V.ref A.C_NoTask, V.ref A.C_NoBank, V.ref A.C_OutOfBank, V.ref A.C_Taken]) (same_refl (H := upd H ea (excO ea A.C_OutOfRoom))) h1
      refine ⟨_, A.C_OutOfRoom, s2 _ _ upd_same, T.xi_OutOfRoom, rfl, fun v hv => ?_, false, ?_, ?_⟩
      · simp only [List.mem_cons, List.not_mem_nil, or_false] at hv
        rcases hv with rfl | rfl | rfl | rfl | rfl | rfl <;> exact .inl ⟨_, rfl⟩
      · simp only [List.map_cons, List.map_nil, clsV_ref, PySem.W.kitAny, T.kit_OutOfRoom_NoShape, T.kit_OutOfRoom_BadRights, T.kit_OutOfRoom_NoTask, T.kit_OutOfRoom_NoBank, T.kit_OutOfRoom_OutOfBank, T.kit_OutOfRoom_Taken]
      refine iteF fun p2 h2 => ?_
      have s3 := same_upd (o := .tup [V.ref A.C_NotMapped, V.ref A.C_NoRight, V.ref A.C_NoRoom, V.ref A.C_Busy, V.ref A.C_NoRow]) (same_refl (H := upd (upd H ea (excO ea A.C_OutOfRoom)) p1 (.tup [V.ref A.C_NoShape, V.ref A.C_BadRights, V.ref A.C_NoTask, V.ref A.C_NoBank, V.ref A.C_OutOfBank, V.ref A.C_Taken]))) h2
      refine ⟨_, A.C_OutOfRoom, s3 _ _ (s2 _ _ upd_same), T.xi_OutOfRoom, rfl, fun v hv => ?_, false, ?_, ?_⟩
      · simp only [List.mem_cons, List.not_mem_nil, or_false] at hv
        rcases hv with rfl | rfl | rfl | rfl | rfl <;> exact .inl ⟨_, rfl⟩
      · simp only [List.map_cons, List.map_nil, clsV_ref, PySem.W.kitAny, T.kit_OutOfRoom_NotMapped, T.kit_OutOfRoom_NoRight, T.kit_OutOfRoom_NoRoom, T.kit_OutOfRoom_Busy, T.kit_OutOfRoom_NoRow]
      refine iteF ?_
      exact ⟨A.C_OutOfRoom, s3 _ _ (s2 _ _ upd_same), T.xi_OutOfRoom, true, T.kit_OutOfRoom_OutOfRoom, iteT ⟨A.C_OutOfRoom, s3 _ _ (s2 _ _ upd_same), T.xi_OutOfRoom, true, T.kit_OutOfRoom_ValueError, q _ ((s1.trans s2).trans s3)⟩⟩
theorem putK_keys {kvs : List (List Key × V)} {k : List Key} {v : V} : (∀ z, z ∈ (putK kvs k v).map (·.1) ↔ z = k ∨ z ∈ kvs.map (·.1)) ∧ ((kvs.map (·.1)).Nodup → ((putK kvs k v).map (·.1)).Nodup) := by
  by_cases c : valV kvs k = none
  · rw [putK_new _ c]
    have hk : k ∉ kvs.map (·.1) := fun h => by
      obtain ⟨p, hp, e⟩ := List.mem_map.mp h
      induction kvs with
      | nil => cases hp
      | cons q r ih =>
        by_cases c1 : q.1 = k
        · rw [valV_pos c1] at c; cases c
        · rw [valV_neg c1] at c
          rcases List.mem_cons.mp hp with rfl | hp
          · exact c1 e
          · exact ih c (List.mem_map.mpr ⟨p, hp, e⟩) hp
    refine ⟨fun z => ?_, fun h => ?_⟩
    · rw [List.map_append, List.mem_append]
      exact ⟨fun h => h.elim .inr fun h => .inl (List.mem_singleton.mp h), fun h => h.elim (fun h => .inr (List.mem_singleton.mpr h)) .inl⟩
    · rw [List.map_append, List.nodup_append]
      exact ⟨h, by simp, fun x hx y hy e => hk (by have hy : y = k := List.mem_singleton.mp hy; rw [← hy, ← e]; exact hx)⟩
  · have hs : (valV kvs k).isSome = true := by cases e : valV kvs k with
      | none => exact absurd e c
      | some _ => rfl
    have e : (putK kvs k v).map (·.1) = kvs.map (·.1) := by
      unfold putK
      rw [valV_any, if_pos hs, List.map_map]
      refine List.map_congr_left fun p _ => ?_
      show (if p.1 = k then (p.1, v) else p).1 = p.1
      split <;> rfl
    have hk : k ∈ kvs.map (·.1) := by
      clear e hs
      induction kvs with
      | nil => exact absurd rfl c
      | cons q r ih =>
        by_cases c1 : q.1 = k
        · rw [List.map_cons, c1]; exact List.mem_cons_self ..
        · rw [valV_neg c1] at c
          exact List.mem_cons_of_mem _ (ih c)
    rw [e]
    exact ⟨fun z => ⟨.inr, fun h => h.elim (fun h => by rw [h]; exact hk) id⟩, id⟩
theorem len_put {kvs : List (List Key × V)} {k : List Key} {v : V} : (putK kvs k v).length ≤ kvs.length + 1 := by
  unfold putK
  split
  · rw [List.length_map]; omega
  · rw [List.length_append]; exact Nat.le_refl _

def sp_heads : Sp := fun vs H Q _ => ∃ (d : Addr) (l f : Int) (D : List (Int × Int)), vs = [.ref d, .int l, .int f] ∧ H d = some (.dK (dueK D)) ∧ D.length < 64 ∧ (l = 2 ∨ l = 3) ∧ 1 ≤ f ∧ f ≤ 8 ∧ (∀ z ∈ D.map (·.1), 0 ≤ z) ∧
  ∀ (hk : List (List Key)) H', hk.Nodup → (∀ z, z ∈ hk ↔ ∃ x ∈ D.map (·.1), ∃ k : Nat, 1 ≤ k ∧ (k : Int) < l ∧ z = hky k (x / pw f ^ k)) → Same H H' → Q (.int (1 + (hk.length : Int))) H'
theorem h_heads (T : Txt K mg A) : Have P w K mg base "_law_heads" 1 ["_law_due", "_law_levels", "_law_fan"] [] sp_heads := by
  refine T.r_l_heads.have sc_l_heads (fun vs H Q E z => ?_) ?_
  · obtain ⟨d, l, f, D, rfl, _⟩ := z; rfl
  · intro fa cdv A' outer s H vs Q E hr z
    obtain ⟨d, l, f, D, rfl, hd, hD, hl, hf1, hf2, hD0, q⟩ := z
    refine ⟨_, (pss_cons (ps_set (i := 3) sc_l_heads.nd rfl (Or.inl rfl) pe_dnewT)
      (pss_cons (ps_thaw (ps_forE PassesOwn.leaving rfl (pi_dict (pvM 0)) (pg_name (i := 4) sc_l_heads.nd rfl (Or.inl rfl)) (pss_cons (ps_dput (hu_of hr) (pvM 3) (pe_tup (pa_cons pe_int (pa_cons (pe_op op_shr (pvM 4) (pvM 2)) pa_nil))) pe_bl rfl)
      (pss_one (ps_if (pt_cmpR op_eq (pvM 1) pe_int (nomark _)) (pss_one (ps_dput (hu_of hr) (pvM 3) (pe_tup (pa_cons pe_int (pa_cons (pe_op op_shr (pvM 4) (pe_op op_add (pvM 2) (pvM 2))) pa_nil))) pe_bl rfl)) pss_nil)))))
      (pss_one (ps_ret (pe_op op_add pe_int (pe_callB call_lenDT rfl T.b_len PySem.boot_len (pa_cons (pvM 3) pa_nil))))))), ?_⟩
    unfold tDNewT
    walk_at "wp"
    intro hp hhp
    refine ⟨d, fun o u z => ?_, ?_⟩
    · have z : H d = some (.frz o u) := z
      rw [hd] at z; cases z
    unfold thawD iDict
    walk_at "wp"
    have b1 := same_upd (o := .dT []) (same_refl (H := H)) hhp
    have hpd : hp ≠ d := fun z => by rw [z, hd] at hhp; cases hhp
    refine ⟨dueK D, b1 _ _ hd, fun o => ?_⟩
    refine loop_dict (fun i σ H' => ∃ (hks : List (List Key × V)) (v4 : Option V), σ = [some (.ref d), some (.int l), some (.int f), some (.ref hp), v4] ∧ (∀ b u, b ≠ d → H b = some u → H' b = some u) ∧ H' d = some (.frz o (.dK (dueK D))) ∧ H' hp = some (.dT hks) ∧ (hks.map (·.1)).Nodup ∧ hks.length ≤ 2 * i ∧ (∀ z, z ∈ hks.map (·.1) ↔ ∃ x ∈ (D.map (·.1)).take i, ∃ k : Nat, 1 ≤ k ∧ (k : Int) < l ∧ z = hky k (x / pw f ^ k))) ⟨[], _, rfl, fun b u hb h => ?_, upd_same, ?_, by simp, Nat.zero_le _, fun z => ?_⟩ (fun i σ H' _ ⟨_, _, _, _, e, _⟩ => e) (fun i k v σ H' hi => ?_) (fun σ H' => ?_)
    · rw [upd_ne hb]; exact b1 _ _ h
    · rw [upd_ne hpd]; exact upd_same
    · refine ⟨fun h => (nomatch h), fun ⟨x, h, _⟩ => ?_⟩
      rw [List.take_zero] at h; cases h
    · rintro ⟨hks, v4, rfl, hk, hfz, hhk, hnd, hln, hmem⟩
      unfold dueK at hi
      rw [List.getElem?_map] at hi
      obtain ⟨p, hp1, ep⟩ : ∃ p, D[i]? = some p ∧ ((Sum.inl p.1 : Key), V.int p.2) = (k, v) := by
        cases e : D[i]? with
        | none => rw [e] at hi; cases hi
        | some z => rw [e] at hi; exact ⟨z, rfl, Option.some.inj hi⟩
      cases ep
      have hil := (List.getElem?_eq_some_iff.mp hp1).1
      have htk : (D.map (·.1)).take (i + 1) = (D.map (·.1)).take i ++ [p.1] := by rw [List.take_add_one, List.getElem?_map, hp1]; rfl
      unfold sDPut
      walk_at "wp"
      have hdp : d ≠ hp := Ne.symm hpd
      have mem2 : ∀ (ns : List (List Key)) (z : List Key), (z ∈ ns ↔ (∃ k : Nat, 1 ≤ k ∧ (k : Int) < l ∧ z = hky k (p.1 / pw f ^ k)) ∨ z ∈ hks.map (·.1)) → (z ∈ ns ↔ ∃ x ∈ (D.map (·.1)).take (i + 1), ∃ k : Nat, 1 ≤ k ∧ (k : Int) < l ∧ z = hky k (x / pw f ^ k)) := fun ns z h => by
        rw [h, hmem, htk]
        refine ⟨fun h => ?_, fun ⟨x, hx, k, h1, h2, h3⟩ => ?_⟩
        · rcases h with ⟨k, h1, h2, h3⟩ | ⟨x, hx, k, h1, h2, h3⟩
          · exact ⟨p.1, List.mem_append_right _ (List.mem_singleton.mpr rfl), k, h1, h2, h3⟩
          · exact ⟨x, List.mem_append_left _ hx, k, h1, h2, h3⟩
        · rcases List.mem_append.mp hx with hx | hx
          · exact .inr ⟨x, hx, k, h1, h2, h3⟩
          · rw [List.mem_singleton.mp hx] at h3
            exact .inl ⟨k, h1, h2, h3⟩
      have e1 : (2 : Int) ^ f.toNat = pw f ^ 1 := by unfold pw; rw [Int.pow_succ, Int.pow_zero, Int.one_mul]
      have e2 : (2 : Int) ^ (f + f).toNat = pw f ^ 2 := by
        have hf : f = 1 ∨ f = 2 ∨ f = 3 ∨ f = 4 ∨ f = 5 ∨ f = 6 ∨ f = 7 ∨ f = 8 := by omega
        rcases hf with rfl | rfl | rfl | rfl | rfl | rfl | rfl | rfl <;> decide
      have hz := PySem.sizeLine_eq
      refine ⟨p.1, rfl, by omega, fun k1 hk1 => ?_⟩
      rw [e1, e2]
      have c1 := same_upd (o := .tup [V.int 1, V.int (p.1 / pw f ^ 1)]) (same_refl (H := H')) hk1
      have hk1' : upd H' k1 (.tup [V.int 1, V.int (p.1 / pw f ^ 1)]) k1 = some (.tup [V.int 1, V.int (p.1 / pw f ^ 1)]) := upd_same
      generalize upd H' k1 (.tup [V.int 1, V.int (p.1 / pw f ^ 1)]) = H3 at *
      have P1 := putK_keys (kvs := hks) (k := hky 1 (p.1 / pw f ^ 1)) (v := V.bl true)
      have L1 := len_put (kvs := hks) (k := hky 1 (p.1 / pw f ^ 1)) (v := V.bl true)
      refine ⟨_, DPut.t (k := hky 1 (p.1 / pw f ^ 1)) (c1 _ _ hhk) hk1' (by omega), ?_⟩
      have k4 : ∀ b u, b ≠ hp → H3 b = some u → upd H3 hp (.dT (putK hks (hky 1 (p.1 / pw f ^ 1)) (V.bl true))) b = some u := fun b u hb h => by rw [upd_ne hb]; exact h
      have hh4 : upd H3 hp (.dT (putK hks (hky 1 (p.1 / pw f ^ 1)) (V.bl true))) hp = some (.dT (putK hks (hky 1 (p.1 / pw f ^ 1)) (V.bl true))) := upd_same
      generalize upd H3 hp (.dT (putK hks (hky 1 (p.1 / pw f ^ 1)) (V.bl true))) = H4 at *
      have keep4 : ∀ b u, b ≠ d → H b = some u → H4 b = some u := fun b u hb h => k4 b u (ne_of_none h hhp) (c1 _ _ (hk b u hb h))
      have fz4 := k4 d _ hdp (c1 _ _ hfz)
      refine ite2 (fun hl3 => ?_) (fun hl3 => ⟨keep4, fz4, _, hh4, P1.2 hnd, by omega, fun z => mem2 _ z ?_⟩)
      · refine ⟨p.1, rfl, by omega, fun k2 hk2 => ?_⟩
        have c2 := same_upd (o := .tup [V.int 2, V.int (p.1 / pw f ^ 2)]) (same_refl (H := H4)) hk2
        have hk2' : upd H4 k2 (.tup [V.int 2, V.int (p.1 / pw f ^ 2)]) k2 = some (.tup [V.int 2, V.int (p.1 / pw f ^ 2)]) := upd_same
        generalize upd H4 k2 (.tup [V.int 2, V.int (p.1 / pw f ^ 2)]) = H5 at *
        have P2 := putK_keys (kvs := putK hks (hky 1 (p.1 / pw f ^ 1)) (V.bl true)) (k := hky 2 (p.1 / pw f ^ 2)) (v := V.bl true)
        have L2 := len_put (kvs := putK hks (hky 1 (p.1 / pw f ^ 1)) (V.bl true)) (k := hky 2 (p.1 / pw f ^ 2)) (v := V.bl true)
        refine ⟨_, DPut.t (k := hky 2 (p.1 / pw f ^ 2)) (c2 _ _ hh4) hk2' (by omega), fun b u hb h => ?_, ?_, _, upd_same, P2.2 (P1.2 hnd), by omega, fun z => mem2 _ z ?_⟩
        · rw [upd_ne (ne_of_none h hhp)]; exact c2 _ _ (keep4 b u hb h)
        · rw [upd_ne hdp]; exact c2 _ _ fz4
        · rw [P2.1, P1.1]
          refine ⟨fun h => ?_, fun h => ?_⟩
          · rcases h with h | h | h
            · exact .inl ⟨2, by decide, by omega, h⟩
            · exact .inl ⟨1, by decide, by omega, h⟩
            · exact .inr h
          · rcases h with ⟨k, h1, h2, h3⟩ | h
            · rcases (by omega : k = 1 ∨ k = 2) with rfl | rfl
              · exact .inr (.inl h3)
              · exact .inl h3
            · exact .inr (.inr h)
      · rw [P1.1]
        refine ⟨fun h => ?_, fun h => ?_⟩
        · rcases h with h | h
          · exact .inl ⟨1, by decide, by omega, h⟩
          · exact .inr h
        · rcases h with ⟨k, h1, h2, h3⟩ | h
          · obtain rfl : k = 1 := by omega
            exact .inl h3
          · exact .inr h
    · rintro ⟨hks, v4, rfl, hk, hfz, hhk, hnd, hln, hmem⟩
      rw [show (dueK D).length = (D.map (·.1)).length by unfold dueK; rw [List.length_map, List.length_map], List.take_length] at hmem
      walk_at "wp"
      rw [thawH_of hfz]
      refine ⟨hks, by rw [upd_ne hpd]; exact hhk, ?_⟩
      have := q (hks.map (·.1)) (upd H' d (.dK (dueK D))) hnd hmem fun b u h => by
        by_cases c : b = d
        · rw [c, upd_same, ← h, c]; exact hd.symm
        · rw [upd_ne c]; exact hk b u c h
      rw [List.length_map] at this
      exact this
def PairsEq (xs : List (Int × Int)) (D : List (Int × Int)) : Prop := ∀ x e, (x, e) ∈ xs ↔ fnd x D = some e
theorem srt_uq : ∀ {l m : List Int}, l.Pairwise (· < ·) → m.Pairwise (· < ·) → (∀ x, x ∈ l ↔ x ∈ m) → l = m
  | [], [], _, _, _ => rfl
  | [], y :: m, _, _, h => absurd ((h y).mpr (List.mem_cons_self ..)) List.not_mem_nil
  | x :: l, [], _, _, h => absurd ((h x).mp (List.mem_cons_self ..)) List.not_mem_nil
  | x :: l, y :: m, hl, hm, h => by
    obtain ⟨h1, h2⟩ := List.pairwise_cons.mp hl
    obtain ⟨h3, h4⟩ := List.pairwise_cons.mp hm
    have exy : x = y := by
      rcases List.mem_cons.mp ((h x).mp (List.mem_cons_self ..)) with e | e
      · exact e
      · have := h3 x e
        rcases List.mem_cons.mp ((h y).mpr (List.mem_cons_self ..)) with e' | e'
        · omega
        · have := h1 y e'
          omega
    subst exy
    rw [srt_uq h2 h4 fun z => ⟨fun hz => ?_, fun hz => ?_⟩]
    · rcases List.mem_cons.mp ((h z).mp (List.mem_cons_of_mem _ hz)) with e | e
      · have := h1 z hz; omega
      · exact e
    · rcases List.mem_cons.mp ((h z).mpr (List.mem_cons_of_mem _ hz)) with e | e
      · have := h3 z hz; omega
      · exact e
theorem fnd_key {D : List (Int × Int)} {x : Int} : (∃ e, fnd x D = some e) ↔ x ∈ D.map (·.1) := by
  refine ⟨fun ⟨e, h⟩ => List.mem_map.mpr ⟨_, fnd_mem h, rfl⟩, fun h => ?_⟩
  cases e : fnd x D with
  | none => exact absurd h (fnd_none e)
  | some c => exact ⟨c, rfl⟩
def sp_whole : Sp := fun vs H Q _ => ∃ i : Int, vs = [.int i, .int i] ∧ Q (.bl true) H
theorem h_whole (T : Txt K mg A) : Have P w K mg base "_law_whole" 1 ["_law_found", "_law_due"] [] sp_whole := by
  refine T.r_l_whole.have sc_l_whole (fun vs H Q E z => ?_) ?_
  · obtain ⟨i, rfl, _⟩ := z; rfl
  · intro f cdv A' outer s H vs Q E hr z
    obtain ⟨i, rfl, q⟩ := z
    refine ⟨_, (pss_one (ps_ret (pe_and (pe_callB call_isi rfl T.b_isinstance PyProof.Rows.boot_isinstance (pa_cons (pvM 0) (pa_cons (pe_bltnE (n := "int") rfl T.b_int PyProof.Rows.boot_int) pa_nil))) (pe_and (pe_not (pe_callB call_isi rfl T.b_isinstance PyProof.Rows.boot_isinstance (pa_cons (pvM 0) (pa_cons (pe_bltnE (n := "bool") rfl T.b_bool PyProof.Rows.boot_bool) pa_nil)))) (pe_one (pe_cmpR op_eq (pvM 0) (pvM 1) (nomark _))))))), ?_⟩
    walk_at "wp"
    exact ⟨by decide, iteT ⟨by decide, iteT q⟩⟩
theorem Tx.told {C S a : Addr} {ns : List Int} {p d : Addr} {l f g : Int} {n : Nat} {H : Hp} {t : TT (n + 1)} {D : List (Int × Int)} (h : Tx K C S a ns p d l f g n H t D) : (∀ r e, lk (n + 1) t r = some e → r ∈ D.map fun q => stp l f q.1) := fun r e hr => by
  obtain ⟨x, h0, h1, rfl⟩ := h.2.1 r e hr
  rw [h.1.agr x h0 h1] at hr
  exact List.mem_map.mpr ⟨_, fnd_mem hr, rfl⟩
theorem Tx.eq {C S a : Addr} {ns : List Int} {p d : Addr} {l f g : Int} {n : Nat} {H : Hp} {t : TT (n + 1)} {D xs : List (Int × Int)} (h : Tx K C S a ns p d l f g n H t D) (hx : ∀ x e, (x, e) ∈ xs ↔ 0 ≤ x ∧ x < pw (l * f) ∧ lk (n + 1) t (stp l f x) = some e) : PairsEq xs D := fun x e => by
  rw [hx]
  refine ⟨fun ⟨h0, h1, h2⟩ => by rw [← h.1.agr x h0 h1]; exact h2, fun hf => ?_⟩
  obtain ⟨h0, h1⟩ := h.2.2.2 x (fnd_key.mp ⟨e, hf⟩)
  exact ⟨h0, h1, by rw [h.1.agr x h0 h1]; exact hf⟩
theorem Tx.same {C S a : Addr} {ns : List Int} {p d : Addr} {l f g : Int} {n : Nat} {H H' : Hp} {t : TT (n + 1)} {D : List (Int × Int)} (h : Tx K C S a ns p d l f g n H t D) (s : Same H H') : Tx K C S a ns p d l f g n H' t D := ⟨h.1.same s, h.2⟩

def sp_rows (K : PySem.W.Frag) (C S : Addr) : Sp := fun vs H Q _ => ∃ (p d a : Addr) (ns : List Int) (l f g : Int) (n : Nat) (t : TT (n + 1)) (D : List (Int × Int)), vs = [.ref p, .ref d] ∧ Tx K C S a ns p d l f g n H t D ∧ D.length < 64 ∧ ∀ H', Same H H' → Q (.bl true) H'
theorem h_rows (T : Txt K mg A) : Have P w K mg base "_law_rows" 8 ["_law_table", "_law_due"] [] (sp_rows K A.C_Table A.C_Shape) := by
  have H_l_whole := h_whole (P := P) (w := w) (base := base) T
  have H_Table_told := h_ttold (P := P) (w := w) (base := base) T
  have H_Table_look := h_tlook (P := P) (w := w) (base := base) T
  refine T.r_l_rows.have sc_l_rows (fun vs H Q E z => ?_) ?_
  · obtain ⟨p, d, a, ns, l, f, g, n, t, D, rfl, _⟩ := z; rfl
  · intro fa cdv A' outer s H vs Q E hr z
    obtain ⟨p, d, a0, ns, l, f, g, n, t, D, rfl, hT, hD, q⟩ := z
    refine ⟨_, (pss_cons (ps_set (i := 2) sc_l_rows.nd rfl (Or.inl rfl) (pe_methE0 (pvM 0) T.cl_Table H_Table_told (hr.mono (by decide)) xw_def))
      (pss_cons (ps_if (PW.pt (pw_or (pt_not (pt_val (pe_callB call_isi rfl T.b_isinstance PyProof.Rows.boot_isinstance (pa_cons (pvM 2) (pa_cons (pe_bltnE (n := "list") rfl T.b_list PyProof.Rows.boot_list) pa_nil))))) (pw_or1 (pt_cmpR op_ne (pe_callB call_len rfl T.b_len PySem.boot_len (pa_cons (pvM 2) pa_nil)) (pe_callB call_lenD rfl T.b_len PySem.boot_len (pa_cons (pvM 1) pa_nil)) (nomark _))))) (pss_one (ps_ret pe_bl)) pss_nil)
      (pss_cons (ps_forE PassesOwn.leaving rfl (pi_enum rfl T.b_enumerate (pa_cons (pe_callB (call_sortedD rfl) rfl T.b_sorted PyProof.Rows.boot_sorted (pa_cons (pvM 1) pa_nil)) pa_nil)) (pg_tup rfl (pgs_cons (pg_name (i := 3) sc_l_rows.nd rfl (Or.inl rfl)) (pgs_cons (pg_name (i := 4) sc_l_rows.nd rfl (Or.inl rfl)) pgs_nil))) (pss_cons (ps_if (PW.pt (pw_or (pt_not (pt_val (pe_callB call_isi rfl T.b_isinstance PyProof.Rows.boot_isinstance (pa_cons (pe_ix ix_list (pvM 2) (pvM 3) (fun _ _ => rfl)) (pa_cons (pe_bltnE (n := "tuple") rfl T.b_tuple PyProof.Rows.boot_tuple) pa_nil))))) (pw_or1 (pt_cmpR op_ne (pe_callB call_len rfl T.b_len PySem.boot_len (pa_cons (pe_ix ix_list (pvM 2) (pvM 3) (fun _ _ => rfl)) pa_nil)) pe_int (nomark _))))) (pss_one (ps_ret pe_bl)) pss_nil)
      (pss_cons (ps_if (PW.pt (pw_or (pt_not (pt_val (pe_callE H_l_whole (hr.mono (by decide)) xw_def (pa_cons (pe_ix ix_tup (pe_ix ix_list (pvM 2) (pvM 3) (fun _ _ => rfl)) pe_int (fun _ _ => rfl)) (pa_cons (pvM 4) pa_nil))))) (pw_or1 (pt_not (pt_val (pe_callE H_l_whole (hr.mono (by decide)) xw_def (pa_cons (pe_ix ix_tup (pe_ix ix_list (pvM 2) (pvM 3) (fun _ _ => rfl)) pe_int (fun _ _ => rfl)) (pa_cons (pe_dget (hu_of hr) (pvM 1) (pvM 4) (fun _ _ => rfl)) pa_nil)))))))) (pss_one (ps_ret pe_bl)) pss_nil)
      (pss_one (ps_if (pt_not (pt_val (pe_callE H_l_whole (hr.mono (by decide)) xw_def (pa_cons (pe_methE (pvM 0) T.cl_Table H_Table_look (hr.mono (by decide)) xw_def (pa_cons (pvM 4) pa_nil)) (pa_cons (pe_dget (hu_of hr) (pvM 1) (pvM 4) (fun _ _ => rfl)) pa_nil))))) (pss_one (ps_ret pe_bl)) pss_nil)))))
      (pss_one (ps_ret pe_bl))))), ?_⟩
    unfold sp_ttold
    walk_at "wp"
    obtain ⟨dx1, fs1, e1, e2⟩ := hT.1.tab.obj (m := "told") (by decide +kernel)
    refine ⟨dx1, fs1, e1, e2, l, f, g, n, t, hT.1.tab, hT.2.1, _, hT.told, by rw [List.length_map]; exact hD, fun tl us xs H0 s0 htl0 htl hP hxl hxm hpw => ?_⟩
    have hT0 := hT.same s0
    have hd := hT0.1.due
    have hN := hT0.2.2.1
    have hE : PairsEq xs D := hT0.eq hxm
    have q : ∀ H', Same H0 H' → Q (.bl true) H' := fun H' s => q _ (s0.trans s)
    have hul := Paired.length hP
    have hxn : (xs.map (·.1)).Pairwise (· < ·) := List.pairwise_map.mpr hpw
    have hkey : ∀ x, x ∈ xs.map (·.1) ↔ x ∈ D.map (·.1) := fun x => by
      refine ⟨fun h => ?_, fun h => ?_⟩
      · obtain ⟨p, hp, rfl⟩ := List.mem_map.mp h
        exact fnd_key.mp ⟨p.2, (hE p.1 p.2).mp hp⟩
      · obtain ⟨e, h⟩ := fnd_key.mpr h
        exact List.mem_map.mpr ⟨(x, e), (hE x e).mpr h, rfl⟩
    have hxnd : (xs.map (·.1)).Nodup := hxn.imp fun h => by omega
    have hlen : xs.length = D.length := by
      have h1 := nodup_sub hxnd fun x hx => (hkey x).mp hx
      have h2 := nodup_sub hN fun x hx => (hkey x).mpr hx
      rw [List.length_map, List.length_map] at h1 h2
      omega
    refine ⟨by decide, kn_lst htl, ?_⟩
    rw [isTy_lst htl]
    refine iteF ⟨_, .inl ⟨_, SqL.of htl, rfl⟩, dueK D, hd, ?_⟩
    rw [decide_eq_true (by unfold dueK; rw [List.length_map]; omega)]
    refine iteF ⟨dueK D, .inl hd, D.map (·.1), by unfold dueK; rw [List.map_map, List.map_map]; rfl, by rw [List.length_map]; omega, fun lo ms hlo hpm hle => ?_⟩
    have hms : ms = xs.map (·.1) := by
      have hmn : ms.Nodup := hpm.nodup_iff.mpr hN
      refine srt_uq ?_ hxn fun x => (hpm.mem_iff).trans (hkey x).symm
      rw [List.pairwise_iff_getElem] at hle ⊢
      intro i j hi hj hij
      have h1 := hle i j hi hj hij
      have h2 := List.pairwise_iff_getElem.mp hmn i j hi hj hij
      omega
    have b1 := same_upd (o := .lst (ms.map V.int)) (same_refl (H := H0)) hlo
    have hl1 : upd H0 lo (.lst (ms.map V.int)) lo = some (.lst (ms.map V.int)) := upd_same
    generalize upd H0 lo (.lst (ms.map V.int)) = H1 at *
    refine ⟨⟨_, SqL.of hl1⟩, loop_enum (xs := ms.map V.int) (fun i σ H' => ∃ v3 v4, σ = [some (.ref p), some (.ref d), some (.ref tl), v3, v4] ∧ Same H1 H') ⟨_, _, rfl, same_refl⟩ (fun i σ H' _ ⟨_, _, _, e⟩ => SqL.of (e _ _ hl1)) (fun i x tt σ H' hi => ?_) (fun σ H' => ?_)⟩
    · rintro ⟨v3, v4, rfl, s2⟩ htt
      rw [hms, List.map_map, List.getElem?_map] at hi
      obtain ⟨y, hp, rfl⟩ : ∃ y, xs[i]? = some y ∧ V.int y.1 = x := by
        cases e : xs[i]? with
        | none => rw [e] at hi; cases hi
        | some z => rw [e] at hi; exact ⟨z, rfl, Option.some.inj hi⟩
      obtain ⟨u, hu, a, rfl, ha⟩ : ∃ u, us[i]? = some u ∧ ∃ a, u = V.ref a ∧ H0 a = some (.tup [.int y.1, .int y.2]) := by
        have hil : i < us.length := by rw [hul]; exact (List.getElem?_eq_some_iff.mp hp).1
        obtain ⟨y', hy1, a, e, h⟩ := prd_at hP (List.getElem?_eq_getElem hil)
        rw [hp] at hy1
        cases hy1
        exact ⟨_, List.getElem?_eq_getElem hil, a, e, h⟩
      have b3 := same_upd (o := .tup [V.int i, V.int y.1]) (same_refl (H := H')) htt
      have htt' : upd H' tt (.tup [V.int i, V.int y.1]) tt = some (.tup [V.int i, V.int y.1]) := upd_same
      have s5 := (b1.trans s2).trans b3
      have s6 := s2.trans b3
      unfold sp_whole sp_tlook
      walk_at "wp"
      unfold tDGet
      walk_at "wp"
      generalize upd H' tt (.tup [V.int i, V.int y.1]) = H4 at *
      have ha4 := s5 _ _ ha
      have hT4 := hT0.same s5
      have htl4 := s5 _ _ htl
      have hym := (hE y.1 y.2).mp (List.mem_of_getElem? hp)
      have hget : ∀ H5, Same H4 H5 → DGet H5 d (.int y.1) (some (.int y.2)) := fun H5 s => by
        have := DGet.k (k := Sum.inl y.1) (s _ _ hT4.1.due)
        rw [dueK_val, hym] at this
        exact this
      refine ⟨_, SqT.of htt', rfl, _, _, rfl, _, _, rfl, rfl, _, _, rfl, SqL.of htl4, _, atI_nat hu, by decide, kn_tup ha4, ?_⟩
      rw [isTy_tup ha4]
      refine iteF ⟨_, _, rfl, SqL.of htl4, _, atI_nat hu, _, .inr ⟨_, SqT.of ha4, rfl⟩, ite2 (fun z => absurd z (by simp)) (fun _ => ⟨_, _, rfl, SqL.of htl4, _, atI_nat hu, a, rfl, _, SqT.of ha4, _, rfl, _, rfl, rfl, iteF ⟨_, _, rfl, SqL.of htl4, _, atI_nat hu, a, rfl, _, SqT.of ha4, _, rfl, _, hget _ same_refl, _, rfl, rfl, iteF ?_⟩⟩)⟩
      obtain ⟨dx2, fs2, e3, e4⟩ := hT4.1.tab.obj (m := "look") (by decide +kernel)
      refine ⟨dx2, fs2, e3, e4, ?_⟩
      obtain ⟨y0, y1, y2⟩ := (hxm y.1 y.2).mp (List.mem_of_getElem? hp)
      refine ⟨y.1, rfl, l, f, g, n, t, hT4.1.tab, ?_⟩
      rw [if_pos ⟨y0, y1⟩]
      intro H5 s7
      exact ⟨_, hget _ s7, y.2, by rw [y2]; rfl, rfl, iteF (s6.trans s7)⟩
    · rintro ⟨v3, v4, rfl, s2⟩
      walk_at "wp"
      exact q _ (b1.trans s2)
def Two (K : PySem.W.Frag) (C S a : Addr) (ns : List Int) (p d q c : Addr) (l f g : Int) (n : Nat) (H : Hp) (m : Nat) : Prop :=
  ∃ (t u : TT (n + 1)) (D G : List (Int × Int)), Tx K C S a ns p d l f g n H t D ∧ Tx K C S a ns q c l f g n H u G ∧ (∀ b ∈ ads (n + 1) t, b ∉ ads (n + 1) u) ∧ d ∉ ads (n + 1) u ∧ c ∉ ads (n + 1) t ∧ d ≠ c ∧ D.length ≤ m ∧ G.length ≤ m
theorem TabAt.kpf {C S p : Addr} {l f g : Int} {n : Nat} {H H' : Hp} {t : TT (n + 1)} (h : TabAt C S H p l f g n t) (k : Kp H H') (s : ∀ a ∈ ads (n + 1) t, ∀ o, H a = some o → H' a = some o) : TabAt C S H' p l f g n t := by
  obtain ⟨h1, h2, ⟨dx, sp, h3, dx2, h4⟩, h5, h6⟩ := h
  exact ⟨h1, h2, ⟨dx, sp, k _ _ h3 (fun _ z => nomatch z), dx2, k _ _ h4 (fun _ z => nomatch z)⟩, rep_stay h5 s, h6⟩
section
variable {C S a : Addr} {ns : List Int} {p d q c : Addr} {l f g : Int} {n : Nat} {H H' : Hp} {t : TT (n + 1)} {D : List (Int × Int)} {x e : Int} {m : Nat}
theorem Tx.kpf (h : Tx K C S a ns p d l f g n H t D) (k : Kp H H') (s : ∀ a ∈ ads (n + 1) t, ∀ o, H a = some o → H' a = some o) (hd : H' d = some (.dK (dueK D))) : Tx K C S a ns p d l f g n H' t D := ⟨⟨h.1.tab.kpf k s, hd, h.1.nin, h.1.agr, seq_on h.1.scr fun o ho hk => k _ _ ho hk⟩, h.2⟩
theorem Tx.keys (h : Tx K C S a ns p d l f g n H t D) (x : Int) : x ∈ D.map (·.1) ↔ 0 ≤ x ∧ x < pw (l * f) ∧ ∃ e, lk (n + 1) t (stp l f x) = some e :=
  ⟨fun z => by
    obtain ⟨a, b⟩ := h.2.2.2 x z
    obtain ⟨e, he⟩ := fnd_key.mpr z
    exact ⟨a, b, e, by rw [h.1.agr x a b]; exact he⟩, fun ⟨a, b, e, he⟩ => fnd_key.mp ⟨e, by rw [← h.1.agr x a b]; exact he⟩⟩
theorem Two.symm (h : Two K C S a ns p d q c l f g n H m) : Two K C S a ns q c p d l f g n H m := by
  obtain ⟨t, u, D, G, h1, h2, h3, h4, h5, h6, h7, h8⟩ := h
  exact ⟨u, t, G, D, h2, h1, fun b hb hb' => h3 b hb' hb, h5, h4, Ne.symm h6, h8, h7⟩
theorem Two.same (h : Two K C S a ns p d q c l f g n H m) (s : Same H H') : Two K C S a ns p d q c l f g n H' m := by
  obtain ⟨t, u, D, G, h1, h2, h3⟩ := h
  exact ⟨t, u, D, G, h1.same s, h2.same s, h3⟩
theorem Two.put (h : Two K C S a ns p d q c l f g n H m) (hm : m ≤ 1000) (hx : 0 ≤ x ∧ x < pw (l * f)) : ∃ H1 t, DPut H d (.int x) (.int e) H1 ∧ DGet H1 d (.int x) (some (.int e)) ∧ Kp H H1 ∧ TabAt C S H1 p l f g n t ∧
    ∀ H' t', TabAt C S H' p l f g n t' → (∀ r, lk (n + 1) t' r = setF (lk (n + 1) t) (stp l f x) e r) → Frm (ads (n + 1) t) H1 H' → (∀ a ∈ ads (n + 1) t', a ∈ ads (n + 1) t ∨ H1 a = none) → Two K C S a ns p d q c l f g n H' (m + 1) ∧ Kp H H' := by
  obtain ⟨t, u, D, G, h1, h2, h3, h4, h5, h6, h7, h8⟩ := h
  obtain ⟨a1, a2, a3⟩ := (Tp.of (x := x) h1.1).put (e := e) (by omega)
  have hf : fnd x (putD D x e) = some e := by rw [putD_fnd, if_pos rfl]
  have u1 : Tx K C S a ns q c l f g n (upd H d (.dK (dueK (putD D x e)))) u G := h2.kpf a3 (fun b hb o ho => by rw [upd_ne (fun z => h4 (by rw [← z]; exact hb))]; exact ho) (by rw [upd_ne (Ne.symm h6)]; exact h2.1.due)
  refine ⟨_, t, a1, a2.get hf, a3, a2.tab, fun H' t' b1 b2 b3 b4 => ?_⟩
  obtain ⟨c1, c2⟩ := a2.done hx hf b1 b2 b3 b4
  refine ⟨⟨t', u, putD D x e, G, ⟨c1, h1.2.1.put hx b2, putD_nd h1.2.2.1, fun z hz => (putD_keys hz).elim (fun e => by rw [e]; exact hx) (h1.2.2.2 z)⟩, u1.kpf c2 (fun b hb o ho => b3 b o ho fun z => h3 b z hb) (b3 _ _ u1.1.due h5), fun b hb hb' => ?_, h4, fun z => ?_, h6, by have := putD_len (D := D) (x := x) (e := e); omega, by omega⟩, a3.trans c2⟩
  · rcases b4 b hb with z | z
    · exact h3 b z hb'
    · obtain ⟨o, ho⟩ := rep_some u1.1.tab.2.2.2.1 b hb'
      rw [z] at ho; cases ho
  · rcases b4 c z with z | z
    · exact h5 z
    · rw [u1.1.due] at z; cases z
theorem tab_make {sp tp tdx top : Addr} (hS : ShapeAt S H sp l f g) (g1 : gd l f g) (htp : H tp = none) (htdx : H tdx = none) (htne : tdx ≠ tp) (htop : upd (upd H tdx (.own tp)) tp (.ins C tdx []) top = none) :
    Same H (upd (upd (upd (upd H tdx (.own tp)) tp (.ins C tdx [])) top (.dK [])) tp (.ins C tdx (tbF sp top))) ∧ TabAt C S (upd (upd (upd (upd H tdx (.own tp)) tp (.ins C tdx [])) top (.dK [])) tp (.ins C tdx (tbF sp top))) tp l f g (l - 1).toNat (nw (l - 1).toNat top) ∧ H top = none := by
  have s1 := same_make (o := .ins C tdx []) htp htdx htne
  have s2 := same_upd (o := .dK []) s1 htop
  have hTop : upd (upd (upd (upd H tdx (.own tp)) tp (.ins C tdx [])) top (.dK [])) tp (.ins C tdx (tbF sp top)) top = some (.dK []) := by
    rw [upd_ne (fun z => by rw [z, upd_same] at htop; cases htop)]; exact upd_same
  have sm2 := same_put (o := .ins C tdx (tbF sp top)) s2 htp
  exact ⟨sm2, ⟨by have := g1.1; omega, g1, ⟨tdx, sp, upd_same, hS.same sm2⟩, rep_new hTop, nd_new, ne_new⟩, same_none s1 htop⟩
end
def spLaw (K : PySem.W.Frag) : Sp := fun vs H Q _ => ∃ (a : Addr) (ns : List Int), vs = [.ref a] ∧ SqL K H a (ns.map V.int) ∧ ns.length ≤ 63 ∧ ∀ H', Q (.bl true) H'
theorem cutV_nat {xs : List V} {lo hi : Nat} : cutV xs (some (lo : Int)) (some (hi : Int)) = (xs.take hi).drop lo := by
  unfold cutV
  show (xs.drop (if (lo : Int) < 0 then ((lo : Int) + (xs.length : Int)).toNat else min (lo : Int).toNat xs.length)).take ((if (hi : Int) < 0 then ((hi : Int) + (xs.length : Int)).toNat else min (hi : Int).toNat xs.length) - (if (lo : Int) < 0 then ((lo : Int) + (xs.length : Int)).toNat else min (lo : Int).toNat xs.length)) = _
  rw [if_neg (by omega), if_neg (by omega), Int.toNat_natCast, Int.toNat_natCast, List.drop_take]
  refine List.ext_getElem? fun k => ?_
  rw [List.getElem?_take, List.getElem?_take, List.getElem?_drop, List.getElem?_drop]
  by_cases h1 : k < hi - lo
  · rw [if_pos h1]
    by_cases h2 : k < min hi xs.length - min lo xs.length
    · rw [if_pos h2, Nat.min_eq_left (by omega)]
    · rw [if_neg h2, List.getElem?_eq_none_iff.mpr (by omega)]
  · rw [if_neg h1]
    by_cases h2 : k < min hi xs.length - min lo xs.length
    · rw [if_pos h2, List.getElem?_eq_none_iff.mpr (by omega)]
    · rw [if_neg h2]
theorem body_law (T : Txt K mg A) : Body P w K mg base "law" s_law ["_law_script", "_law_levels", "_law_fan", "_law_count", "_law_chart", "_law_tables", "_law_base", "_law_dues", "_law_cell", "_law_at", "_law_page_here", "_law_way", "_law_turn", "_law_k"] 9 (spLaw K) := by
  have H_Shape_init := h_init (P := P) (w := w) (base := base) T
  have H_Table_init := h_tinit (P := P) (w := w) (base := base) T
  have H_Table_put := h_tput (P := P) (w := w) (base := base) T
  have H_Table_table_count := h_tcnt (P := P) (w := w) (base := base) T
  have H_l_page := h_page (P := P) (w := w) (base := base) T
  have H_l_part := h_part (P := P) (w := w) (base := base) T
  have H_l_beyond := h_bey (P := P) (w := w) (base := base) T
  have H_l_refused := h_ref (P := P) (w := w) (base := base) T
  have H_l_rows := h_rows (P := P) (w := w) (base := base) T
  have H_l_whole := h_whole (P := P) (w := w) (base := base) T
  have H_l_heads := h_heads (P := P) (w := w) (base := base) T
  intro f cdv A' outer s H vs Q E hr z
  obtain ⟨a, ns, rfl, hs, hlen, q⟩ := z
  have H_l_cell_at := h_cell (P := P) (w := w) (base := base) T a ns
  refine ⟨_, (pss_cons (ps_set (i := 1) sc_law.nd rfl (Or.inl rfl) (pe_op op_add pe_int (pe_op op_mod (pe_callE H_l_cell_at (hr.mono (by decide)) xw_def (pa_cons (pvM 0) (pa_cons pe_int pa_nil))) pe_int)))
      (pss_cons (ps_set (i := 2) sc_law.nd rfl (Or.inl rfl) (pe_op op_add pe_int (pe_op op_mod (pe_callE H_l_cell_at (hr.mono (by decide)) xw_def (pa_cons (pvM 0) (pa_cons pe_int pa_nil))) pe_int)))
      (pss_cons (ps_set (i := 3) sc_law.nd rfl (Or.inl rfl) (pe_op op_shl pe_int (pe_op op_mul (pvM 1) (pvM 2))))
      (pss_cons (ps_set (i := 4) sc_law.nd rfl (Or.inl rfl) (pe_makeE H_Shape_init (hr.mono (by decide)) xw_def (pa_cons (pvM 1) (pa_cons (pvM 2) (pa_cons (pe_op op_mod (pe_callE H_l_cell_at (hr.mono (by decide)) xw_def (pa_cons (pvM 0) (pa_cons pe_int pa_nil))) pe_int) pa_nil)))))
      (pss_cons (ps_set (i := 5) sc_law.nd rfl (Or.inl rfl) (pe_lst (pa_cons (pe_makeE H_Table_init (hr.mono (by decide)) xw_def (pa_cons (pvM 4) pa_nil)) (pa_cons (pe_makeE H_Table_init (hr.mono (by decide)) xw_def (pa_cons (pvM 4) pa_nil)) pa_nil))))
      (pss_cons (ps_set (i := 6) sc_law.nd rfl (Or.inl rfl) (pe_op op_mod (pe_callE H_l_cell_at (hr.mono (by decide)) xw_def (pa_cons (pvM 0) (pa_cons pe_int pa_nil))) (pvM 3)))
      (pss_cons (ps_set (i := 7) sc_law.nd rfl (Or.inl rfl) (pe_lst (pa_cons pe_dnewK (pa_cons pe_dnewK pa_nil))))
      (pss_cons (ps_forE PassesOwn.leaving rfl (pi_list (pe_slice sl_list (pvM 0) (po_some pe_int) (po_some pe_int))) (pg_name (i := 8) sc_law.nd rfl (Or.inl rfl)) (pss_cons (ps_set (i := 9) sc_law.nd rfl (Or.inl rfl) (pe_op op_mod (pvM 8) pe_int))
      (pss_cons (ps_set (i := 10) sc_law.nd rfl (Or.inl rfl) (pe_callE H_l_page (hr.mono (by decide)) xw_def (pa_cons (pe_op op_fdiv (pvM 8) pe_int) (pa_cons (pvM 6) (pa_cons (pvM 3) pa_nil)))))
      (pss_cons (ps_dput (hu_of hr) (pe_ix ix_list (pvM 7) (pvM 9) (fun _ _ => rfl)) (pvM 10) (pe_op op_mod (pvM 8) (pe_op op_pow pe_int pe_int)) rfl)
      (pss_cons (ps_expr (pe_methE (pe_ix ix_list (pvM 5) (pvM 9) (fun _ _ => rfl)) T.cl_Table H_Table_put (hr.mono (by decide)) xw_def (pa_cons (pvM 10) (pa_cons (pe_dget (hu_of hr) (pe_ix ix_list (pvM 7) (pvM 9) (fun _ _ => rfl)) (pvM 10) (fun _ _ => rfl)) pa_nil))))
      (pss_cons (ps_set (i := 11) sc_law.nd rfl (Or.inl rfl) (pe_callE H_l_part (hr.mono (by decide)) xw_def (pa_cons (pvM 8) (pa_cons pe_int (pa_cons pe_int pa_nil)))))
      (pss_one (ps_if (pt_not (pt_val (pe_callE H_l_refused (hr.mono (by decide)) xw_def (pa_cons (pe_ix ix_list (pvM 5) (pe_op op_mod (pvM 11) pe_int) (fun _ _ => rfl)) (pa_cons (pe_callE H_l_beyond (hr.mono (by decide)) xw_def (pa_cons (pe_op op_fdiv (pvM 8) pe_int) (pa_cons (pvM 3) pa_nil))) (pa_cons (pe_op op_fdiv (pvM 11) pe_int) (pa_cons (pe_op op_mod (pvM 8) (pe_op op_pow pe_int pe_int)) pa_nil))))))) (pss_one (ps_ret pe_bl)) pss_nil))))))))
      (pss_cons (ps_forE PassesOwn.leaving rfl (pi_range1 rfl T.b_range (pa_cons pe_int pa_nil)) (pg_name (i := 12) sc_law.nd rfl (Or.inl rfl)) (pss_one (ps_forE PassesOwn.leaving rfl (pi_range1 rfl T.b_range (pa_cons pe_int pa_nil)) (pg_name (i := 13) sc_law.nd rfl (Or.inl rfl)) (pss_cons (ps_if (pt_not (pt_val (pe_callE H_l_rows (hr.mono (by decide)) xw_def (pa_cons (pe_ix ix_list (pvM 5) (pvM 13) (fun _ _ => rfl)) (pa_cons (pe_ix ix_list (pvM 7) (pvM 13) (fun _ _ => rfl)) pa_nil))))) (pss_one (ps_ret pe_bl)) pss_nil)
      (pss_cons (ps_if (pt_not (pt_val (pe_callE H_l_whole (hr.mono (by decide)) xw_def (pa_cons (pe_methE0 (pe_ix ix_list (pvM 5) (pvM 13) (fun _ _ => rfl)) T.cl_Table H_Table_table_count (hr.mono (by decide)) xw_def) (pa_cons (pe_callE H_l_heads (hr.mono (by decide)) xw_def (pa_cons (pe_ix ix_list (pvM 7) (pvM 13) (fun _ _ => rfl)) (pa_cons (pvM 1) (pa_cons (pvM 2) pa_nil)))) pa_nil))))) (pss_one (ps_ret pe_bl)) pss_nil)
      (pss_cons (ps_if (pt_not (pt_val (pe_callE H_l_refused (hr.mono (by decide)) xw_def (pa_cons (pe_ix ix_list (pvM 5) (pvM 13) (fun _ _ => rfl)) (pa_cons (pe_ix ix_lst (pe_lst (pa_cons (pe_un op_neg pe_int) (pa_cons (pvM 3) pa_nil))) (pvM 12) (fun _ _ => rfl)) (pa_cons (pvM 13) (pa_cons pe_int pa_nil))))))) (pss_one (ps_ret pe_bl)) pss_nil)
      (pss_one (ps_forE PassesOwn.leaving rfl (pi_tup (pe_tup (pa_cons pe_int (pa_cons (pe_op op_sub (pvM 3) pe_int) pa_nil)))) (pg_name (i := 10) sc_law.nd rfl (Or.inl rfl)) (pss_cons (ps_dput (hu_of hr) (pe_ix ix_list (pvM 7) (pvM 13) (fun _ _ => rfl)) (pvM 10) (pe_op op_add (pe_op op_add (pvM 10) (pe_op op_mul pe_int (pvM 13))) (pvM 12)) rfl)
      (pss_one (ps_expr (pe_methE (pe_ix ix_list (pvM 5) (pvM 13) (fun _ _ => rfl)) T.cl_Table H_Table_put (hr.mono (by decide)) xw_def (pa_cons (pvM 10) (pa_cons (pe_dget (hu_of hr) (pe_ix ix_list (pvM 7) (pvM 13) (fun _ _ => rfl)) (pvM 10) (fun _ _ => rfl)) pa_nil))))))))))))))
      (pss_one (ps_ret (pe_and (pe_callE H_l_rows (hr.mono (by decide)) xw_def (pa_cons (pe_ix ix_list (pvM 5) pe_int (fun _ _ => rfl)) (pa_cons (pe_ix ix_list (pvM 7) pe_int (fun _ _ => rfl)) pa_nil))) (pe_one (pe_callE H_l_rows (hr.mono (by decide)) xw_def (pa_cons (pe_ix ix_list (pvM 5) pe_int (fun _ _ => rfl)) (pa_cons (pe_ix ix_list (pvM 7) pe_int (fun _ _ => rfl)) pa_nil)))))))))))))))), ?_⟩
  unfold sp_cell spInit sp_tinit sp_page
  walk_at "wp"
  simp only [hs, true_and]
  have b0 : 2 ≤ 2 + ns.getD 0 0 % 2 ∧ 2 + ns.getD 0 0 % 2 ≤ 3 := by omega
  have b1 : 1 ≤ 1 + ns.getD 1 0 % 8 ∧ 1 + ns.getD 1 0 % 8 ≤ 8 := by omega
  have b2 : 0 ≤ ns.getD 2 0 % 5 ∧ ns.getD 2 0 % 5 ≤ 4 := by omega
  generalize 2 + ns.getD 0 0 % 2 = l at *
  generalize 1 + ns.getD 1 0 % 8 = f at *
  generalize ns.getD 2 0 % 5 = g at *
  have m := mul_24 b0.1 b0.2 b1.1 b1.2
  have g1 : gd l f g := ⟨b0.1, b0.2, b1.1, b1.2, b2.1, b2.2⟩
  have pb1 := gd_pw g1
  have ec : (1 : Int) * 2 ^ (l * f).toNat = pw (l * f) := by unfold pw; rw [Int.one_mul]
  rw [ec]
  refine ⟨.inl ⟨by omega, by omega⟩, by omega, by omega, by decide, fun sp dx hp hd hne => ?_⟩
  rw [if_pos (good_of g1)]
  have sm1 := same_make (o := .ins A.C_Shape dx (shF l f g)) hp hd hne
  have hS1 : ShapeAt A.C_Shape (upd (upd H dx (.own sp)) sp (.ins A.C_Shape dx (shF l f g))) sp l f g := ⟨dx, upd_same⟩
  generalize upd (upd H dx (.own sp)) sp (.ins A.C_Shape dx (shF l f g)) = H1 at *
  intro tp tdx htp htdx htne top htop
  obtain ⟨sm2, hT2, ht0⟩ := tab_make (C := A.C_Table) hS1 g1 htp htdx htne htop
  generalize upd (upd (upd (upd H1 tdx (.own tp)) tp (.ins A.C_Table tdx [])) top (.dK [])) tp (.ins A.C_Table tdx (tbF sp top)) = H2 at *
  intro tq qdx htq hqdx hqne toq htoq
  obtain ⟨sm3, hU3, hu0⟩ := tab_make (C := A.C_Table) (hS1.same sm2) g1 htq hqdx hqne htoq
  generalize upd (upd (upd (upd H2 qdx (.own tq)) tq (.ins A.C_Table qdx [])) toq (.dK [])) tq (.ins A.C_Table qdx (tbF sp toq)) = H3 at *
  intro tl htl
  have sm4 := same_upd (o := .lst [V.ref tp, V.ref tq]) (same_refl (H := H3)) htl
  have htl4 : upd H3 tl (.lst [V.ref tp, V.ref tq]) tl = some (.lst [V.ref tp, V.ref tq]) := upd_same
  generalize upd H3 tl (.lst [V.ref tp, V.ref tq]) = H4 at *
  have hpp : 0 < pw (l * f) := by omega
  have em : ∀ z : Int, 0 ≤ z % pw (l * f) ∧ z % pw (l * f) < pw (l * f) := fun z => ⟨Int.emod_nonneg _ (by omega), Int.emod_lt_of_pos _ hpp⟩
  have s04 := ((sm1.trans sm2).trans sm3).trans sm4
  refine ⟨s04.seq hs, hpp, fun d hd0 c hc0 dl hdl => ?_⟩
  have sm5 := same_upd (o := .dK []) (same_refl (H := H4)) hd0
  have hd5 : upd H4 d (.dK []) d = some (.dK []) := upd_same
  generalize upd H4 d (.dK []) = H5 at *
  have sm6 := same_upd (o := .dK []) (same_refl (H := H5)) hc0
  have hc6 : upd H5 c (.dK []) c = some (.dK []) := upd_same
  generalize upd H5 c (.dK []) = H6 at *
  have sm7 := same_upd (o := .lst [V.ref d, V.ref c]) (same_refl (H := H6)) hdl
  have hdl7 : upd H6 dl (.lst [V.ref d, V.ref c]) dl = some (.lst [V.ref d, V.ref c]) := upd_same
  generalize upd H6 dl (.lst [V.ref d, V.ref c]) = H7 at *
  have s47 := (sm5.trans sm6).trans sm7
  have hads : ∀ {m : Nat} {x b : Addr}, b ∈ ads (m + 1) (nw m x) → b = x := fun {m x b} hb => by
    rcases mem_ads.mp (show b ∈ ads (m + 1) (x, []) from hb) with h | ⟨p, hp, _⟩
    · exact h
    · cases hp
  have nid : ∀ {H : Hp} {n : Nat} {t : TT n} {d : Addr}, Rep H n t → H d = none → d ∉ ads n t := fun r h z => by
    obtain ⟨o, ho⟩ := rep_some r _ z
    rw [h] at ho; cases ho
  have hT4 := (hT2.stay sm3).stay sm4
  have hU4 := hU3.stay sm4
  have W0 : Two K A.C_Table A.C_Shape a ns tp d tq c l f g (l - 1).toNat H7 0 := by
    refine ⟨nw (l - 1).toNat top, nw (l - 1).toNat toq, [], [], ⟨⟨hT4.stay s47, sm7 _ _ (sm6 _ _ hd5), nid hT4.2.2.2.1 hd0, fun x _ _ => lk_new _, (s04.trans s47).seq hs⟩, (fun r e h => by rw [lk_new] at h; cases h), by simp, fun z hz => absurd hz List.not_mem_nil⟩,
      ⟨⟨hU4.stay s47, sm7 _ _ hc6, nid (hU4.stay sm5).2.2.2.1 hc0, fun x _ _ => lk_new _, (s04.trans s47).seq hs⟩, (fun r e h => by rw [lk_new] at h; cases h), by simp, fun z hz => absurd hz List.not_mem_nil⟩, fun b hb hb' => ?_, nid hU4.2.2.2.1 hd0, nid (hT4.stay sm5).2.2.2.1 hc0, fun z => ?_, Nat.zero_le _, Nat.zero_le _⟩
    · have e1 := hads hb
      have e2 := hads hb'
      obtain ⟨o, ho⟩ := rep_some hT2.2.2.2.1 b hb
      rw [e2, hu0] at ho; cases ho
    · rw [← z, hd5] at hc0; cases hc0
  have hb := em (ns.getD 3 0)
  revert hb
  generalize ns.getD 3 0 % pw (l * f) = b
  intro hb
  generalize (l - 1).toNat = n at *
  have htl7 := s47 _ _ htl4
  have hs7 := (s04.trans s47).seq hs
  clear hT2 hU3 hT4 hU4 hd5 hc6 ht0 hu0
  obtain ⟨ms, hms, hml⟩ : ∃ ms : List Int, cutV (ns.map V.int) (some 4) (some 44) = ms.map V.int ∧ ms.length ≤ 40 := by
    rw [show cutV (ns.map V.int) (some 4) (some 44) = ((ns.map V.int).take 44).drop 4 from cutV_nat (lo := 4) (hi := 44), ← List.map_take, ← List.map_drop]
    exact ⟨_, rfl, by rw [List.length_drop, List.length_take]; omega⟩
  refine ⟨_, hs7, fun sl hsl => ?_⟩
  rw [hms]
  have ssl := same_upd (o := .lst (ms.map V.int)) (same_refl (H := H7)) hsl
  have hsl8 : upd H7 sl (.lst (ms.map V.int)) sl = some (.lst (ms.map V.int)) := upd_same
  have htl8 := ssl _ _ htl7
  have hdl8 := ssl _ _ hdl7
  have W8 := W0.same ssl
  generalize upd H7 sl (.lst (ms.map V.int)) = H8 at *
  clear W0 hs7 hs sm1 sm2 sm3 sm4 sm5 sm6 sm7 s04 s47 htl7 hdl7 hms
  have pk : ∀ z : Int, z = 0 ∨ z = 1 → ∃ p' d' q' c', atI [V.ref tp, V.ref tq] z = some (V.ref p') ∧ atI [V.ref d, V.ref c] z = some (V.ref d') ∧ (∀ {H m}, Two K A.C_Table A.C_Shape a ns tp d tq c l f g n H m → Two K A.C_Table A.C_Shape a ns p' d' q' c' l f g n H m) ∧ (∀ {H m}, Two K A.C_Table A.C_Shape a ns p' d' q' c' l f g n H m → Two K A.C_Table A.C_Shape a ns tp d tq c l f g n H m) := by
    rintro z (rfl | rfl)
    · exact ⟨tp, d, tq, c, rfl, rfl, id, id⟩
    · exact ⟨tq, c, tp, d, rfl, rfl, Two.symm, Two.symm⟩
  refine ⟨⟨_, SqL.of hsl8⟩, loop_list (xs := ms.map V.int) (fun i σ H' => ∃ v8 v9 v10 v11, σ = [some (.ref a), some (.int l), some (.int f), some (.int (pw (l * f))), some (.ref sp), some (.ref tl), some (.int b), some (.ref dl), v8, v9, v10, v11, none, none] ∧ Two K A.C_Table A.C_Shape a ns tp d tq c l f g n H' i ∧ Kp H8 H') ⟨_, _, _, _, rfl, W8, fun _ _ h _ => h⟩ (fun i σ H' _ ⟨_, _, _, _, _, _, k⟩ => SqL.of (k _ _ hsl8 fun _ z => nomatch z)) (fun i x σ H' hi => ?_) (fun σ H' => ?_)⟩
  · rintro ⟨v8, v9, v10, v11, rfl, W1, kp1⟩
    obtain ⟨z, hz, rfl⟩ : ∃ z, z ∈ ms ∧ V.int z = x := List.mem_map.mp (List.mem_of_getElem? hi)
    have hil : i < 40 := by
      have := (List.getElem?_eq_some_iff.mp hi).1
      rw [List.length_map] at this
      omega
    unfold sDPut tDGet sp_part sp_tput sp_ref sp_bey
    walk_at "wp"
    obtain ⟨p', d', q', c', ha1, ha2, hin, hout⟩ := pk (z % 2) (by omega)
    refine ⟨hpp, fun y H9 hy0 hy1 s9 => ?_⟩
    have W9 := hin (W1.same s9)
    have kp9 : Kp H8 H9 := kp1.trans (Kp.of s9)
    have htl9 := kp9 _ _ htl8 (fun _ z => nomatch z)
    have hdl9 := kp9 _ _ hdl8 (fun _ z => nomatch z)
    generalize z % 100000000000000000000000000000000000000000000000000 = e at *
    obtain ⟨H10, t, w1, w2, w3, w4, w5⟩ := W9.put (e := e) (by omega) ⟨hy0, hy1⟩
    have htl10 := w3 _ _ htl9 (fun _ z => nomatch z)
    have hdl10 := w3 _ _ hdl9 (fun _ z => nomatch z)
    obtain ⟨dx1, fs1, e1, e2⟩ := w4.obj (m := "put") (by decide +kernel)
    refine ⟨_, SqL.of hdl9, _, ha2, d', rfl, H10, w1, _, SqL.of htl10, _, ha1, p', rfl, dx1, fs1, e1, e2, _, SqL.of hdl10, _, ha2, d', rfl, _, w2, p', rfl, e, rfl, l, f, g, n, t, w4, ?_⟩
    rw [if_pos ⟨hy0, hy1⟩]
    intro H11 t' k1 k2 k3 k4
    obtain ⟨W11, kp11⟩ := w5 H11 t' k1 k2 k3 k4
    have W11 := hout W11
    have kpb := kp9.trans kp11
    intro r H12 r0 r1 s12
    obtain ⟨p2, d2, q2, c2, hb1, hb2, hin2, hout2⟩ := pk (r % 2) (by omega)
    refine ⟨_, SqL.of (s12 _ _ (kpb _ _ htl8 (fun _ z => nomatch z))), _, hb1, hpp, fun y2 H13 hy2 s13 => ?_⟩
    have W13 := (W11.same s12).same s13
    obtain ⟨t2, u2, D2, G2, X2, _⟩ := hin2 W13
    exact ⟨p2, rfl, l, f, g, n, t2, X2.1.tab, hy2, fun H14 s14 => iteF ⟨W13.same s14, (kpb.trans (Kp.of (s12.trans s13))).trans (Kp.of s14)⟩⟩
  rintro ⟨v8, v9, v10, v11, rfl, W1, kp1⟩
  rw [List.length_map] at W1
  walk_at "wp"
  refine loop_range (fun i σ H' => ∃ v8 v9 v10 v11 v12 v13, σ = [some (.ref a), some (.int l), some (.int f), some (.int (pw (l * f))), some (.ref sp), some (.ref tl), some (.int b), some (.ref dl), v8, v9, v10, v11, v12, v13] ∧ Two K A.C_Table A.C_Shape a ns tp d tq c l f g n H' (ms.length + 4 * i) ∧ Kp H8 H') ⟨_, _, _, _, _, _, rfl, W1, kp1⟩ (fun i σ H' hi => ?_) (fun σ H' => ?_)
  · rintro ⟨v8, v9, v10, v11, v12, v13, rfl, W2, kp2⟩
    walk_at "wp"
    refine loop_range (fun j σ H' => ∃ v8 v9 v10 v11 v13, σ = [some (.ref a), some (.int l), some (.int f), some (.int (pw (l * f))), some (.ref sp), some (.ref tl), some (.int b), some (.ref dl), v8, v9, v10, v11, some (.int (0 + (i : Int))), v13] ∧ Two K A.C_Table A.C_Shape a ns tp d tq c l f g n H' (ms.length + 4 * i + 2 * j) ∧ Kp H8 H') ⟨_, _, _, _, _, rfl, W2, kp2⟩ (fun j σ H' hj => ?_) (fun σ H' => ?_)
    · rintro ⟨v8, v9, v10, v11, v13, rfl, W3, kp3⟩
      unfold sDPut tDGet sp_tput sp_ref sp_rows sp_whole sp_tcnt sp_heads
      walk_at "wp"
      obtain ⟨p', d', q', c', ha1, ha2, hin, hout⟩ := pk (0 + (j : Int)) (by omega)
      have htl3 := kp3 _ _ htl8 (fun _ z => nomatch z)
      have hdl3 := kp3 _ _ hdl8 (fun _ z => nomatch z)
      obtain ⟨t, u, D, G, X, hrest⟩ := hin W3
      have hDl : D.length < 64 := by have := hrest.2.2.2.2.2.1; omega
      refine ⟨_, SqL.of htl3, _, ha1, _, SqL.of hdl3, _, ha2, p', rfl, d', rfl, a, ns, l, f, g, n, t, D, X, hDl, fun H9 s9 => iteF ?_⟩
      have X9 := X.same s9
      obtain ⟨dx1, fs1, e1, e2⟩ := X9.1.tab.obj (m := "table_count") (by decide +kernel)
      refine ⟨_, SqL.of (s9 _ _ htl3), _, ha1, p', rfl, dx1, fs1, e1, e2, ?_⟩
      refine ⟨p', rfl, l, f, g, n, t, X9.1.tab, fun H10 s10 => ?_⟩
      have X10 := X9.same s10
      have s310 := s9.trans s10
      refine ⟨_, SqL.of (s310 _ _ hdl3), _, ha2, d', rfl, D, X10.1.due, hDl, by omega, b1.1, b1.2, fun z hz => (X10.2.2.2 z hz).1, fun hk H11 hnd hmem s11 => ?_⟩
      have hcn := heads_len X10.1.tab.1 g1 X10.1.tab.2.2.2.1 X10.1.tab.2.2.2.2.2 X10.2.1 X10.keys hnd hmem
      have s311 := s310.trans s11
      refine ⟨by omega, iteF ⟨_, SqL.of (s311 _ _ htl3), _, ha1, fun p1 hp1 => ?_⟩⟩
      have s12 := same_upd (o := .lst [V.int (-1), V.int (pw (l * f))]) (same_refl (H := H11)) hp1
      obtain ⟨bx, hbx, hbb⟩ : ∃ bx : Int, atI [V.int (-1), V.int (pw (l * f))] (0 + (i : Int)) = some (V.int bx) ∧ (bx < 0 ∨ pw (l * f) ≤ bx) := by
        rcases (by omega : i = 0 ∨ i = 1) with rfl | rfl
        · exact ⟨-1, rfl, .inl (by decide)⟩
        · exact ⟨_, rfl, .inr (Int.le_refl _)⟩
      refine ⟨_, hbx, p', rfl, bx, rfl, l, f, g, n, t, ((X10.same s11).same s12).1.tab, hbb, fun H13 s13 => iteF fun tp2 htp2 => ?_⟩
      have s3d : Same H' H13 := s311.trans (s12.trans s13)
      have b14 := same_upd (o := .tup [V.int 0, V.int (pw (l * f) - 1)]) (same_refl (H := H13)) htp2
      have htp14 : upd H13 tp2 (.tup [V.int 0, V.int (pw (l * f) - 1)]) tp2 = some (.tup [V.int 0, V.int (pw (l * f) - 1)]) := upd_same
      have W14 := (W3.same s3d).same b14
      generalize upd H13 tp2 (.tup [V.int 0, V.int (pw (l * f) - 1)]) = H14 at *
      have kp14 : Kp H8 H14 := kp3.trans (Kp.of (s3d.trans b14))
      refine ⟨⟨_, SqT.of htp14⟩, loop_tup (xs := [V.int 0, V.int (pw (l * f) - 1)]) (fun m σ H' => ∃ v10, σ = [some (.ref a), some (.int l), some (.int f), some (.int (pw (l * f))), some (.ref sp), some (.ref tl), some (.int b), some (.ref dl), v8, v9, v10, v11, some (.int (0 + (i : Int))), some (.int (0 + (j : Int)))] ∧ Two K A.C_Table A.C_Shape a ns tp d tq c l f g n H' (ms.length + 4 * i + 2 * j + m) ∧ Kp H14 H') ⟨_, rfl, W14, fun _ _ h _ => h⟩ (fun m σ H' _ ⟨_, _, _, k⟩ => SqT.of (k _ _ htp14 fun _ z => nomatch z)) (fun m x σ H15 hx => ?_) (fun σ H' => ?_)⟩
      · rintro ⟨v10, rfl, W15, kp15⟩
        have hm : m < 2 := (List.getElem?_eq_some_iff.mp hx).1
        obtain ⟨y, rfl, hy⟩ : ∃ y : Int, x = V.int y ∧ (0 ≤ y ∧ y < pw (l * f)) := by
          match m, hx with
          | 0, h => cases h; exact ⟨0, rfl, by omega, hpp⟩
          | 1, h => cases h; exact ⟨_, rfl, by omega, by omega⟩
        walk_at "wp"
        have W15' := hin W15
        have kpx : Kp H8 H15 := kp14.trans kp15
        have htl15 := kpx _ _ htl8 (fun _ z => nomatch z)
        have hdl15 := kpx _ _ hdl8 (fun _ z => nomatch z)
        generalize y + 3 * (0 + (j : Int)) + (0 + (i : Int)) = e at *
        obtain ⟨H16, t6, w1, w2, w3, w4, w5⟩ := W15'.put (e := e) (by omega) hy
        have htl16 := w3 _ _ htl15 (fun _ z => nomatch z)
        have hdl16 := w3 _ _ hdl15 (fun _ z => nomatch z)
        obtain ⟨dx3, fs3, e3, e4⟩ := w4.obj (m := "put") (by decide +kernel)
        refine ⟨_, SqL.of hdl15, _, ha2, d', rfl, H16, w1, _, SqL.of htl16, _, ha1, p', rfl, dx3, fs3, e3, e4, _, SqL.of hdl16, _, ha2, d', rfl, _, w2, p', rfl, e, rfl, l, f, g, n, t6, w4, ?_⟩
        rw [if_pos hy]
        intro H17 t' k1 k2 k3 k4
        obtain ⟨W17, kp17⟩ := w5 H17 t' k1 k2 k3 k4
        exact ⟨hout W17, kp15.trans kp17⟩
      · rintro ⟨v10, rfl, W15, kp15⟩
        exact ⟨_, _, _, _, _, rfl, W15, kp14.trans kp15⟩
    · rintro ⟨v8, v9, v10, v11, v13, rfl, W3, kp3⟩
      exact ⟨_, _, _, _, _, _, rfl, W3, kp3⟩
  rintro ⟨v8, v9, v10, v11, v12, v13, rfl, W2, kp2⟩
  unfold sp_rows
  walk_at "wp"
  have htl2 := kp2 _ _ htl8 (fun _ z => nomatch z)
  have hdl2 := kp2 _ _ hdl8 (fun _ z => nomatch z)
  obtain ⟨t, u, D, G, X, Y, hrest⟩ := id W2
  have hD2 := hrest.2.2.2.2.1
  have hG2 := hrest.2.2.2.2.2
  refine ⟨_, SqL.of htl2, _, rfl, _, SqL.of hdl2, _, rfl, tp, rfl, d, rfl, a, ns, l, f, g, n, t, D, X, by omega, fun H9 s9 => ?_⟩
  refine ⟨_, SqL.of (s9 _ _ htl2), _, rfl, _, SqL.of (s9 _ _ hdl2), _, rfl, tq, rfl, c, rfl, a, ns, l, f, g, n, u, G, Y.same s9, by omega, fun H10 s10 => ?_⟩
  exact q _
end

theorem walk {l : PySem.W.OpenLaw} {q : Program} {loose : List Str} {XP : (Str → Option Value) → Heap → Prop} {YP : World → Heap → Prop} {d : DefRec} {K : Params → PySem.W.Frag} (hn : l.most = some 63) (hdf : d.params.defaults = []) (hdn : d.name = "law")
    (hY : ∀ (w : World) (h : Heap), YP w h → (K w.params).In h)
    (F : ∀ (w : World) (mg : Str → Option Value) (h : Heap), (K w.params).In h → h.Ns mainGlobals mg → ∃ A : Adr, Txt (K w.params) mg A) :
    PySem.W.WalkO q loose XP YP l.row.toRowW d [] (fun f vs => PySem.call f vs) := by
  refine L2.walk_of (n := 63) (k := 9 + 1) (x := "_law_script") (CX := fun w => CXe l.prog w) (sp := fun w => spLaw (K w.params)) hn (by decide) hdf ⟨rfl, by decide, by decide⟩ hY ?_ (fun _ _ a ns hl _ hS => ⟨a, ns, rfl, hS, hl, fun _ => rfl⟩) fun _ _ _ _ _ ⟨_, _, _, _, _, _, _, _, _, _, z⟩ => z
  intro w mg fa h KX G hmg
  rw [hdn] at hmg
  obtain ⟨A, T⟩ := F w mg h KX G
  obtain ⟨f, fd, e, Fn, hb⟩ := T.r_law
  have e0 := hmg.symm.trans e
  cases e0
  exact ⟨fd, hb, fun base _ _ => Fn.okE sc_law (fun vs H Q E z => by obtain ⟨a, ns, rfl, _⟩ := z; rfl) (body_law (P := l.prog) (w := w) (base := base) T)⟩

section
open Hd
noncomputable def o2 (_ : Params) : Obj := ⟨.none, none, .dict ⟨[]⟩ 0, #[]⟩
noncomputable def o3 (P : Params) : Obj := dO 44 [ent P (S 6944663249689206880) 165 (.str (S 700080780434988018898091853027908187958305866106785889816324881977467501) 704), ent P (S 27127582262911072) 166 .none, ent P (S 116512114954948911152848992) 167 .none, ent P (S 455126385231797511086176) 168 (.builtin "__main__.__loader__#opaque"), ent P (S 6944661016558198880) 169 .none, ent P (S 500416834696884185539869749159288928) 170 (.ref 6), ent P (S 29827167671303893903271485536) 171 (.ref 4), ent P (S 6944663245527933024) 173 (.str (S 9700865007064396754801562313776) 172), ent P (S 455125376429887381069920) 174 .none, ent P (S 469986605152) 193 (.ref 21), ent P (S 33040738550837357) 205 (.ref 28), ent P (S 129065385555569) 216 (.ref 35), ent P (S 33040738634724197) 225 (.ref 42), ent P (S 8458429056213411429) 236 (.ref 49), ent P (S 7453563440795644004) 242 (.ref 54), ent P (S 29115481922039925) 254 (.ref 61), ent P (S 439921893973) 332 (.ref 118), ent P (S 545146499936607105348423) 352 (.ref 132), ent P (S 28835115112362063) 368 (.ref 145), ent P (S 2037243915540886812240) 384 (.ref 157), ent P (S 2148282720731175150147) 400 (.ref 169), ent P (S 119247121772623) 416 (.ref 181), ent P (S 119225645756495) 432 (.ref 193), ent P (S 2000274411557569787472) 448 (.ref 205), ent P (S 478459748949) 464 (.ref 217), ent P (S 1870502957375938719823) 480 (.ref 229), ent P (S 33048469456515151) 496 (.ref 241), ent P (S 121429199908943) 512 (.ref 253), ent P (S 2054452803) 528 (.ref 265), ent P (S 517280591951) 544 (.ref 277), ent P (S 7380678962623575146) 553 (.ref 286), ent P (S 2055256381122481779818) 562 (.ref 293), ent P (S 34807946493563893454802022513) 573 (.ref 300), ent P (S 2360876520579034574696528942098788) 582 (.ref 307), ent P (S 439988939092) 703 (.ref 394), ent P (S 36328676245180164783460216160) 713 (.ref 405), ent P (S 2166583389145247411552) 723 (.ref 412), ent P (S 1889089594505186930016) 732 (.ref 419), ent P (S 122627765315858518973246816) 741 (.ref 426), ent P (S 31381846404235127185299631456) 752 (.ref 433), ent P (S 483700176494498687380832) 760 (.ref 440), ent P (S 2148500875890424704352) 771 (.ref 447), ent P (S 549664723634849908419936) 782 (.ref 454), ent P (S 7889517) 802 (.ref 461)]
noncomputable def o15 (_ : Params) : Obj := tO []
noncomputable def o17 (_ : Params) : Obj := tO [(.str (S 108) 190)]
noncomputable def o18 (_ : Params) : Obj := tO []
noncomputable def o20 (_ : Params) : Obj := cO [(.str (S 469986605152) 187), (.str (S 469986605152) 188), (.str (S 9700865007064396754801562313776) 189), (.int (1) 0), (.int (1) 0), (.int (0) 0), (.int (0) 0), (.int (3) 0), (.ref 15), (.bool true), (.int (181) 0), (.ref 16), .none, (.ref 17), (.ref 18), (.ref 19), (.int (191) 0), (.int (1) 0), (.str (S 9700865007064396754801562313776) 192)]
noncomputable def o21 (_ : Params) : Obj := ⟨(.type "function"), none, .func (PySem.W.fnOf (Str.ofString "_wall") (Str.ofString "_wall") (defArgs (top 0)) (defBody (top 0)) (defScope (top 0)) .none .none .none (.str (S 6944673128113922144) 164) none (.ref 20) .none), #[]⟩
noncomputable def o22 (_ : Params) : Obj := tO []
noncomputable def o24 (_ : Params) : Obj := tO [(.str (S 7434357) 199), (.str (S 500118746484) 200), (.str (S 435661729895) 201), (.str (S 1902540148) 202)]
noncomputable def o25 (_ : Params) : Obj := tO []
noncomputable def o27 (_ : Params) : Obj := cO [(.str (S 33040738550837357) 196), (.str (S 33040738550837357) 197), (.str (S 9700865007064396754801562313776) 198), (.int (5) 0), (.int (2) 0), (.int (0) 0), (.int (0) 0), (.int (3) 0), (.ref 22), (.bool true), (.int (181) 0), (.ref 23), .none, (.ref 24), (.ref 25), (.ref 26), (.int (203) 0), (.int (5) 0), (.str (S 9700865007064396754801562313776) 204)]
noncomputable def o28 (_ : Params) : Obj := ⟨(.type "function"), none, .func (PySem.W.fnOf (Str.ofString "look_at") (Str.ofString "look_at") (defArgs (top 2)) (defBody (top 2)) (defScope (top 2)) .none .none .none (.str (S 154758486134260916874677995024360305511) 194) none (.ref 27) .none), #[]⟩
noncomputable def o29 (_ : Params) : Obj := tO []
noncomputable def o31 (_ : Params) : Obj := tO [(.str (S 7434357) 209), (.str (S 500118746484) 210), (.str (S 525923086182) 211), (.str (S 469870536301) 212), (.str (S 1902540148) 213)]
noncomputable def o32 (_ : Params) : Obj := tO []
noncomputable def o34 (_ : Params) : Obj := cO [(.str (S 129065385555569) 206), (.str (S 129065385555569) 207), (.str (S 9700865007064396754801562313776) 208), (.int (12) 0), (.int (3) 0), (.int (0) 0), (.int (0) 0), (.int (3) 0), (.ref 29), (.bool true), (.int (181) 0), (.ref 30), .none, (.ref 31), (.ref 32), (.ref 33), (.int (214) 0), (.int (12) 0), (.str (S 9700865007064396754801562313776) 215)]
noncomputable def o35 (_ : Params) : Obj := ⟨(.type "function"), none, .func (PySem.W.fnOf (Str.ofString "put_at") (Str.ofString "put_at") (defArgs (top 3)) (defBody (top 3)) (defScope (top 3)) .none .none .none (.str (S 154758486134260916874677995024360305511) 194) none (.ref 34) .none), #[]⟩
noncomputable def o36 (_ : Params) : Obj := tO []
noncomputable def o38 (_ : Params) : Obj := tO [(.str (S 469870536301) 220), (.str (S 500118746484) 221), (.str (S 1902540148) 222)]
noncomputable def o39 (_ : Params) : Obj := tO []
noncomputable def o41 (_ : Params) : Obj := cO [(.str (S 33040738634724197) 217), (.str (S 33040738634724197) 218), (.str (S 9700865007064396754801562313776) 219), (.int (17) 0), (.int (2) 0), (.int (0) 0), (.int (0) 0), (.int (3) 0), (.ref 36), (.bool true), (.int (181) 0), (.ref 37), .none, (.ref 38), (.ref 39), (.ref 40), (.int (223) 0), (.int (17) 0), (.str (S 9700865007064396754801562313776) 224)]
noncomputable def o42 (_ : Params) : Obj := ⟨(.type "function"), none, .func (PySem.W.fnOf (Str.ofString "drop_at") (Str.ofString "drop_at") (defArgs (top 4)) (defBody (top 4)) (defScope (top 4)) .none .none .none (.str (S 154758486134260916874677995024360305511) 194) none (.ref 41) .none), #[]⟩
noncomputable def o43 (_ : Params) : Obj := tO []
noncomputable def o45 (_ : Params) : Obj := tO [(.str (S 7434357) 229), (.str (S 500118746484) 230), (.str (S 469870536301) 231), (.str (S 452941932133) 232), (.str (S 1902540148) 233)]
noncomputable def o46 (_ : Params) : Obj := tO []
noncomputable def o48 (_ : Params) : Obj := cO [(.str (S 8458429056213411429) 226), (.str (S 8458429056213411429) 227), (.str (S 9700865007064396754801562313776) 228), (.int (26) 0), (.int (2) 0), (.int (0) 0), (.int (0) 0), (.int (3) 0), (.ref 43), (.bool true), (.int (181) 0), (.ref 44), .none, (.ref 45), (.ref 46), (.ref 47), (.int (234) 0), (.int (26) 0), (.str (S 9700865007064396754801562313776) 235)]
noncomputable def o49 (_ : Params) : Obj := ⟨(.type "function"), none, .func (PySem.W.fnOf (Str.ofString "depth_at") (Str.ofString "depth_at") (defArgs (top 5)) (defBody (top 5)) (defScope (top 5)) .none .none .none (.str (S 154758486134260916874677995024360305511) 194) none (.ref 48) .none), #[]⟩
noncomputable def o50 (_ : Params) : Obj := tO []
noncomputable def o53 (_ : Params) : Obj := cO [(.str (S 7453563440795644004) 237), (.str (S 7453563440795644004) 238), (.str (S 9700865007064396754801562313776) 239), (.int (35) 0), (.int (2) 0), (.int (0) 0), (.int (0) 0), (.int (3) 0), (.ref 50), (.bool true), (.int (181) 0), (.ref 51), .none, .none, .none, (.ref 52), (.int (240) 0), (.int (35) 0), (.str (S 9700865007064396754801562313776) 241)]
noncomputable def o54 (_ : Params) : Obj := ⟨(.type "function"), none, .func (PySem.W.fnOf (Str.ofString "count_of") (Str.ofString "count_of") (defArgs (top 6)) (defBody (top 6)) (defScope (top 6)) .none .none .none (.str (S 154758486134260916874677995024360305511) 194) none (.ref 53) .none), #[]⟩
noncomputable def o55 (_ : Params) : Obj := tO []
noncomputable def o57 (_ : Params) : Obj := tO [(.str (S 469870536301) 246), (.str (S 128013219358317) 247), (.str (S 435442575714) 248), (.str (S 1701671029) 249), (.str (S 1902540148) 250), (.str (S 500118746484) 251)]
noncomputable def o58 (_ : Params) : Obj := tO []
noncomputable def o60 (_ : Params) : Obj := cO [(.str (S 29115481922039925) 243), (.str (S 29115481922039925) 244), (.str (S 9700865007064396754801562313776) 245), (.int (39) 0), (.int (3) 0), (.int (0) 0), (.int (0) 0), (.int (3) 0), (.ref 55), (.bool true), (.int (181) 0), (.ref 56), .none, (.ref 57), (.ref 58), (.ref 59), (.int (252) 0), (.int (39) 0), (.str (S 9700865007064396754801562313776) 253)]
noncomputable def o61 (_ : Params) : Obj := ⟨(.type "function"), none, .func (PySem.W.fnOf (Str.ofString "told_of") (Str.ofString "told_of") (defArgs (top 7)) (defBody (top 7)) (defScope (top 7)) .none .none .none (.str (S 154758486134260916874677995024360305511) 194) none (.ref 60) .none), #[]⟩
noncomputable def o69 (_ : Params) : Obj := tO []
noncomputable def o71 (_ : Params) : Obj := tO [(.str (S 1735222900) 272), (.str (S 439988939124) 273)]
noncomputable def o72 (_ : Params) : Obj := tO []
noncomputable def o74 (_ : Params) : Obj := cO [(.str (S 6944679725401530464) 269), (.str (S 1954753563970360692704735865823829) 270), (.str (S 9700865007064396754801562313776) 271), (.int (51) 0), (.int (2) 0), (.int (0) 0), (.int (0) 0), (.int (3) 0), (.ref 69), (.bool true), (.int (181) 0), (.ref 70), .none, (.ref 71), (.ref 72), (.ref 73), (.int (274) 0), (.int (51) 0), (.str (S 9700865007064396754801562313776) 275)]
noncomputable def o75 (_ : Params) : Obj := ⟨(.type "function"), none, .func (PySem.W.fnOf (Str.ofString "__init__") (Str.ofString "Table.__init__") (defArgs (inClass (top 9) 0)) (defBody (inClass (top 9) 0)) (defScope (inClass (top 9) 0)) .none .none .none (.str (S 154722280447326879724956034068434285415) 255) none (.ref 74) .none), #[]⟩
noncomputable def o76 (_ : Params) : Obj := tO []
noncomputable def o78 (_ : Params) : Obj := tO [(.str (S 1735222900) 280), (.str (S 1718116977) 281), (.str (S 525923086182) 282)]
noncomputable def o79 (_ : Params) : Obj := tO []
noncomputable def o81 (_ : Params) : Obj := cO [(.str (S 7698033) 277), (.str (S 2166803711509829739093) 278), (.str (S 9700865007064396754801562313776) 279), (.int (55) 0), (.int (3) 0), (.int (0) 0), (.int (0) 0), (.int (3) 0), (.ref 76), (.bool true), (.int (181) 0), (.ref 77), .none, (.ref 78), (.ref 79), (.ref 80), (.int (283) 0), (.int (55) 0), (.str (S 9700865007064396754801562313776) 284)]
noncomputable def o82 (_ : Params) : Obj := ⟨(.type "function"), none, .func (PySem.W.fnOf (Str.ofString "put") (Str.ofString "Table.put") (defArgs (inClass (top 9) 1)) (defBody (inClass (top 9) 1)) (defScope (inClass (top 9) 1)) .none .none .none (.str (S 154722280447326879724956034068434285415) 255) none (.ref 81) .none), #[]⟩
noncomputable def o83 (_ : Params) : Obj := tO []
noncomputable def o85 (_ : Params) : Obj := tO [(.str (S 1735222900) 289), (.str (S 1718116977) 290)]
noncomputable def o86 (_ : Params) : Obj := tO []
noncomputable def o88 (_ : Params) : Obj := cO [(.str (S 1819308141) 286), (.str (S 512089716669598830649941) 287), (.str (S 9700865007064396754801562313776) 288), (.int (58) 0), (.int (2) 0), (.int (0) 0), (.int (0) 0), (.int (3) 0), (.ref 83), (.bool true), (.int (181) 0), (.ref 84), .none, (.ref 85), (.ref 86), (.ref 87), (.int (291) 0), (.int (58) 0), (.str (S 9700865007064396754801562313776) 292)]
noncomputable def o89 (_ : Params) : Obj := ⟨(.type "function"), none, .func (PySem.W.fnOf (Str.ofString "look") (Str.ofString "Table.look") (defArgs (inClass (top 9) 2)) (defBody (inClass (top 9) 2)) (defScope (inClass (top 9) 2)) .none .none .none (.str (S 154722280447326879724956034068434285415) 255) none (.ref 88) .none), #[]⟩
noncomputable def o90 (_ : Params) : Obj := tO []
noncomputable def o92 (_ : Params) : Obj := tO [(.str (S 1735222900) 297), (.str (S 1718116977) 298)]
noncomputable def o93 (_ : Params) : Obj := tO []
noncomputable def o95 (_ : Params) : Obj := cO [(.str (S 1903194981) 294), (.str (S 535701763004929356816981) 295), (.str (S 9700865007064396754801562313776) 296), (.int (61) 0), (.int (2) 0), (.int (0) 0), (.int (0) 0), (.int (3) 0), (.ref 90), (.bool true), (.int (181) 0), (.ref 91), .none, (.ref 92), (.ref 93), (.ref 94), (.int (299) 0), (.int (61) 0), (.str (S 9700865007064396754801562313776) 300)]
noncomputable def o96 (_ : Params) : Obj := ⟨(.type "function"), none, .func (PySem.W.fnOf (Str.ofString "drop") (Str.ofString "Table.drop") (defArgs (inClass (top 9) 3)) (defBody (inClass (top 9) 3)) (defScope (inClass (top 9) 3)) .none .none .none (.str (S 154722280447326879724956034068434285415) 255) none (.ref 95) .none), #[]⟩
noncomputable def o97 (_ : Params) : Obj := tO []
noncomputable def o100 (_ : Params) : Obj := cO [(.str (S 1701671029) 302), (.str (S 478977813309089999184469) 303), (.str (S 9700865007064396754801562313776) 304), (.int (64) 0), (.int (1) 0), (.int (0) 0), (.int (0) 0), (.int (3) 0), (.ref 97), (.bool true), (.int (181) 0), (.ref 98), .none, .none, .none, (.ref 99), (.int (305) 0), (.int (64) 0), (.str (S 9700865007064396754801562313776) 306)]
noncomputable def o101 (_ : Params) : Obj := ⟨(.type "function"), none, .func (PySem.W.fnOf (Str.ofString "told") (Str.ofString "Table.told") (defArgs (inClass (top 9) 4)) (defBody (inClass (top 9) 4)) (defScope (inClass (top 9) 4)) .none .none .none (.str (S 154722280447326879724956034068434285415) 255) none (.ref 100) .none), #[]⟩
noncomputable def o102 (_ : Params) : Obj := tO []
noncomputable def o104 (_ : Params) : Obj := tO [(.str (S 1735222900) 311)]
noncomputable def o105 (_ : Params) : Obj := tO []
noncomputable def o107 (_ : Params) : Obj := cO [(.str (S 141970688389014864743588469) 308), (.str (S 39961196207893759245128558236988319425109) 309), (.str (S 9700865007064396754801562313776) 310), (.int (67) 0), (.int (1) 0), (.int (0) 0), (.int (0) 0), (.int (3) 0), (.ref 102), (.bool true), (.int (181) 0), (.ref 103), .none, (.ref 104), (.ref 105), (.ref 106), (.int (312) 0), (.int (67) 0), (.str (S 9700865007064396754801562313776) 313)]
noncomputable def o108 (_ : Params) : Obj := ⟨(.type "function"), none, .func (PySem.W.fnOf (Str.ofString "table_count") (Str.ofString "Table.table_count") (defArgs (inClass (top 9) 5)) (defBody (inClass (top 9) 5)) (defScope (inClass (top 9) 5)) .none .none .none (.str (S 154722280447326879724956034068434285415) 255) none (.ref 107) .none), #[]⟩
noncomputable def o109 (_ : Params) : Obj := tO []
noncomputable def o111 (_ : Params) : Obj := tO [(.str (S 1735222900) 318), (.str (S 1718116977) 319)]
noncomputable def o112 (_ : Params) : Obj := tO []
noncomputable def o114 (_ : Params) : Obj := cO [(.str (S 452941932133) 315), (.str (S 127491819798467822498308693) 316), (.str (S 9700865007064396754801562313776) 317), (.int (70) 0), (.int (2) 0), (.int (0) 0), (.int (0) 0), (.int (3) 0), (.ref 109), (.bool true), (.int (181) 0), (.ref 110), .none, (.ref 111), (.ref 112), (.ref 113), (.int (320) 0), (.int (70) 0), (.str (S 9700865007064396754801562313776) 321)]
noncomputable def o115 (_ : Params) : Obj := ⟨(.type "function"), none, .func (PySem.W.fnOf (Str.ofString "depth") (Str.ofString "Table.depth") (defArgs (inClass (top 9) 6)) (defBody (inClass (top 9) 6)) (defScope (inClass (top 9) 6)) .none .none .none (.str (S 154722280447326879724956034068434285415) 255) none (.ref 114) .none), #[]⟩
noncomputable def o116 (_ : Params) : Obj := ⟨(.type "tuple"), none, .seq #[(.str (Str.ofString "shape") 323), (.str (Str.ofString "top") 324)] 0, #[]⟩
noncomputable def o117 (P : Params) : Obj := dO 4 [ent P (S 455125450472104437637216) 264 (.str (S 154722280447326879724956034068434285415) 255), ent P (S 500416517772168279997240570217455712) 268 (.int (49) 267), ent P (S 6944679725401530464) 276 (.ref 75), ent P (S 7698033) 285 (.ref 82), ent P (S 1819308141) 293 (.ref 89), ent P (S 1903194981) 301 (.ref 96), ent P (S 1701671029) 307 (.ref 101), ent P (S 141970688389014864743588469) 314 (.ref 108), ent P (S 452941932133) 322 (.ref 115), ent P (S 140854816109632365363434125429399349832812124725344) 325 (.ref 116), ent P (S 6944679699547512928) 327 (.ref 119), ent P (S 116512133262362862868258912) 329 (.ref 120), ent P (S 27127582262911072) 330 .none]
noncomputable def o118 (_ : Params) : Obj := ⟨(.type "type"), none, .cls { name := (Str.ofString "Table"), bases := [(.type "object")], mro := [(.ref 118), (.type "object")], ns := 117, qualname := (Str.ofString "Table"), hasDict := true, slotNames := [], subclasses := [], abstract := false, collection := none, hasDel := false }, #[none, none, (some (.str (S 439921893973) 257)), (some (.str (S 439921893973) 265)), (some (.builtin "object.__new__")), (some (.bool true))]⟩
noncomputable def o119 (_ : Params) : Obj := ⟨(.type "getset_descriptor"), none, .fields ⟨[(.str (S 6944679699547512928) 326), (.ref 118), (.builtin "function.__dict__"), (.builtin "function.__dict__#set")]⟩, #[]⟩
noncomputable def o120 (_ : Params) : Obj := ⟨(.type "getset_descriptor"), none, .fields ⟨[(.str (S 116512133262362862868258912) 328), (.ref 118), (.builtin "ExceptionGroup.__weakref__"), .none]⟩, #[]⟩
noncomputable def o123 (_ : Params) : Obj := ⟨(.type "tuple"), none, .seq #[(.type "ValueError")] 0, #[]⟩
noncomputable def o130 (_ : Params) : Obj := ⟨(.type "tuple"), none, .seq #[] 0, #[]⟩
noncomputable def o131 (P : Params) : Obj := dO 3 [ent P (S 455125450472104437637216) 342 (.str (S 154789842426610354947036250589871895399) 333), ent P (S 500416517772168279997240570217455712) 346 (.int (73) 345), ent P (S 140854816109632365363434125429399349832812124725344) 347 (.ref 130), ent P (S 116512133262362862868258912) 349 (.ref 133), ent P (S 27127582262911072) 350 .none]
noncomputable def o132 (_ : Params) : Obj := ⟨(.type "type"), none, .cls { name := (Str.ofString "FrameError"), bases := [(.type "ValueError")], mro := [(.ref 132), (.type "ValueError"), (.type "Exception"), (.type "BaseException"), (.type "object")], ns := 131, qualname := (Str.ofString "FrameError"), hasDict := true, slotNames := [], subclasses := [(.ref 145), (.ref 157), (.ref 169), (.ref 181), (.ref 193), (.ref 205), (.ref 217), (.ref 229), (.ref 241), (.ref 253), (.ref 265), (.ref 277)], abstract := false, collection := none, hasDel := false }, #[(some (.ref 123)), none, (some (.str (S 545146499936607105348423) 335)), (some (.str (S 545146499936607105348423) 343)), (some (.builtin "ValueError.__new__")), (some (.bool true))]⟩
noncomputable def o133 (_ : Params) : Obj := ⟨(.type "getset_descriptor"), none, .fields ⟨[(.str (S 116512133262362862868258912) 348), (.ref 132), (.builtin "ExceptionGroup.__weakref__"), .none]⟩, #[]⟩
noncomputable def o136 (_ : Params) : Obj := ⟨(.type "tuple"), none, .seq #[(.ref 132)] 0, #[]⟩
noncomputable def o143 (_ : Params) : Obj := ⟨(.type "tuple"), none, .seq #[] 0, #[]⟩
noncomputable def o144 (P : Params) : Obj := dO 2 [ent P (S 455125450472104437637216) 360 (.str (S 154789842426610354947036250589871895399) 333), ent P (S 500416517772168279997240570217455712) 364 (.int (75) 363), ent P (S 140854816109632365363434125429399349832812124725344) 365 (.ref 143), ent P (S 27127582262911072) 366 .none]
noncomputable def o145 (_ : Params) : Obj := ⟨(.type "type"), none, .cls { name := (Str.ofString "NoShape"), bases := [(.ref 132)], mro := [(.ref 145), (.ref 132), (.type "ValueError"), (.type "Exception"), (.type "BaseException"), (.type "object")], ns := 144, qualname := (Str.ofString "NoShape"), hasDict := true, slotNames := [], subclasses := [], abstract := false, collection := none, hasDel := false }, #[(some (.ref 136)), none, (some (.str (S 28835115112362063) 353)), (some (.str (S 28835115112362063) 361)), (some (.builtin "ValueError.__new__")), (some (.bool true))]⟩
noncomputable def o148 (_ : Params) : Obj := ⟨(.type "tuple"), none, .seq #[(.ref 132)] 0, #[]⟩
noncomputable def o155 (_ : Params) : Obj := ⟨(.type "tuple"), none, .seq #[] 0, #[]⟩
noncomputable def o156 (P : Params) : Obj := dO 2 [ent P (S 455125450472104437637216) 376 (.str (S 154789842426610354947036250589871895399) 333), ent P (S 500416517772168279997240570217455712) 380 (.int (77) 379), ent P (S 140854816109632365363434125429399349832812124725344) 381 (.ref 155), ent P (S 27127582262911072) 382 .none]
noncomputable def o157 (_ : Params) : Obj := ⟨(.type "type"), none, .cls { name := (Str.ofString "OutOfRoom"), bases := [(.ref 132)], mro := [(.ref 157), (.ref 132), (.type "ValueError"), (.type "Exception"), (.type "BaseException"), (.type "object")], ns := 156, qualname := (Str.ofString "OutOfRoom"), hasDict := true, slotNames := [], subclasses := [], abstract := false, collection := none, hasDel := false }, #[(some (.ref 148)), none, (some (.str (S 2037243915540886812240) 369)), (some (.str (S 2037243915540886812240) 377)), (some (.builtin "ValueError.__new__")), (some (.bool true))]⟩
noncomputable def o160 (_ : Params) : Obj := ⟨(.type "tuple"), none, .seq #[(.ref 132)] 0, #[]⟩
noncomputable def o167 (_ : Params) : Obj := ⟨(.type "tuple"), none, .seq #[] 0, #[]⟩
noncomputable def o168 (P : Params) : Obj := dO 2 [ent P (S 455125450472104437637216) 392 (.str (S 154789842426610354947036250589871895399) 333), ent P (S 500416517772168279997240570217455712) 396 (.int (79) 395), ent P (S 140854816109632365363434125429399349832812124725344) 397 (.ref 167), ent P (S 27127582262911072) 398 .none]
noncomputable def o169 (_ : Params) : Obj := ⟨(.type "type"), none, .cls { name := (Str.ofString "BadRights"), bases := [(.ref 132)], mro := [(.ref 169), (.ref 132), (.type "ValueError"), (.type "Exception"), (.type "BaseException"), (.type "object")], ns := 168, qualname := (Str.ofString "BadRights"), hasDict := true, slotNames := [], subclasses := [], abstract := false, collection := none, hasDel := false }, #[(some (.ref 160)), none, (some (.str (S 2148282720731175150147) 385)), (some (.str (S 2148282720731175150147) 393)), (some (.builtin "ValueError.__new__")), (some (.bool true))]⟩
noncomputable def o172 (_ : Params) : Obj := ⟨(.type "tuple"), none, .seq #[(.ref 132)] 0, #[]⟩
noncomputable def o179 (_ : Params) : Obj := ⟨(.type "tuple"), none, .seq #[] 0, #[]⟩
noncomputable def o180 (P : Params) : Obj := dO 2 [ent P (S 455125450472104437637216) 408 (.str (S 154789842426610354947036250589871895399) 333), ent P (S 500416517772168279997240570217455712) 412 (.int (81) 411), ent P (S 140854816109632365363434125429399349832812124725344) 413 (.ref 179), ent P (S 27127582262911072) 414 .none]
noncomputable def o181 (_ : Params) : Obj := ⟨(.type "type"), none, .cls { name := (Str.ofString "NoTask"), bases := [(.ref 132)], mro := [(.ref 181), (.ref 132), (.type "ValueError"), (.type "Exception"), (.type "BaseException"), (.type "object")], ns := 180, qualname := (Str.ofString "NoTask"), hasDict := true, slotNames := [], subclasses := [], abstract := false, collection := none, hasDel := false }, #[(some (.ref 172)), none, (some (.str (S 119247121772623) 401)), (some (.str (S 119247121772623) 409)), (some (.builtin "ValueError.__new__")), (some (.bool true))]⟩
noncomputable def o184 (_ : Params) : Obj := ⟨(.type "tuple"), none, .seq #[(.ref 132)] 0, #[]⟩
noncomputable def o191 (_ : Params) : Obj := ⟨(.type "tuple"), none, .seq #[] 0, #[]⟩
noncomputable def o192 (P : Params) : Obj := dO 2 [ent P (S 455125450472104437637216) 424 (.str (S 154789842426610354947036250589871895399) 333), ent P (S 500416517772168279997240570217455712) 428 (.int (83) 427), ent P (S 140854816109632365363434125429399349832812124725344) 429 (.ref 191), ent P (S 27127582262911072) 430 .none]
noncomputable def o193 (_ : Params) : Obj := ⟨(.type "type"), none, .cls { name := (Str.ofString "NoBank"), bases := [(.ref 132)], mro := [(.ref 193), (.ref 132), (.type "ValueError"), (.type "Exception"), (.type "BaseException"), (.type "object")], ns := 192, qualname := (Str.ofString "NoBank"), hasDict := true, slotNames := [], subclasses := [], abstract := false, collection := none, hasDel := false }, #[(some (.ref 184)), none, (some (.str (S 119225645756495) 417)), (some (.str (S 119225645756495) 425)), (some (.builtin "ValueError.__new__")), (some (.bool true))]⟩
noncomputable def o196 (_ : Params) : Obj := ⟨(.type "tuple"), none, .seq #[(.ref 132)] 0, #[]⟩
noncomputable def o203 (_ : Params) : Obj := ⟨(.type "tuple"), none, .seq #[] 0, #[]⟩
noncomputable def o204 (P : Params) : Obj := dO 2 [ent P (S 455125450472104437637216) 440 (.str (S 154789842426610354947036250589871895399) 333), ent P (S 500416517772168279997240570217455712) 444 (.int (85) 443), ent P (S 140854816109632365363434125429399349832812124725344) 445 (.ref 203), ent P (S 27127582262911072) 446 .none]
noncomputable def o205 (_ : Params) : Obj := ⟨(.type "type"), none, .cls { name := (Str.ofString "OutOfBank"), bases := [(.ref 132)], mro := [(.ref 205), (.ref 132), (.type "ValueError"), (.type "Exception"), (.type "BaseException"), (.type "object")], ns := 204, qualname := (Str.ofString "OutOfBank"), hasDict := true, slotNames := [], subclasses := [], abstract := false, collection := none, hasDel := false }, #[(some (.ref 196)), none, (some (.str (S 2000274411557569787472) 433)), (some (.str (S 2000274411557569787472) 441)), (some (.builtin "ValueError.__new__")), (some (.bool true))]⟩
noncomputable def o208 (_ : Params) : Obj := ⟨(.type "tuple"), none, .seq #[(.ref 132)] 0, #[]⟩
noncomputable def o215 (_ : Params) : Obj := ⟨(.type "tuple"), none, .seq #[] 0, #[]⟩
noncomputable def o216 (P : Params) : Obj := dO 2 [ent P (S 455125450472104437637216) 456 (.str (S 154789842426610354947036250589871895399) 333), ent P (S 500416517772168279997240570217455712) 460 (.int (87) 459), ent P (S 140854816109632365363434125429399349832812124725344) 461 (.ref 215), ent P (S 27127582262911072) 462 .none]
noncomputable def o217 (_ : Params) : Obj := ⟨(.type "type"), none, .cls { name := (Str.ofString "Taken"), bases := [(.ref 132)], mro := [(.ref 217), (.ref 132), (.type "ValueError"), (.type "Exception"), (.type "BaseException"), (.type "object")], ns := 216, qualname := (Str.ofString "Taken"), hasDict := true, slotNames := [], subclasses := [], abstract := false, collection := none, hasDel := false }, #[(some (.ref 208)), none, (some (.str (S 478459748949) 449)), (some (.str (S 478459748949) 457)), (some (.builtin "ValueError.__new__")), (some (.bool true))]⟩
noncomputable def o220 (_ : Params) : Obj := ⟨(.type "tuple"), none, .seq #[(.ref 132)] 0, #[]⟩
noncomputable def o227 (_ : Params) : Obj := ⟨(.type "tuple"), none, .seq #[] 0, #[]⟩
noncomputable def o228 (P : Params) : Obj := dO 2 [ent P (S 455125450472104437637216) 472 (.str (S 154789842426610354947036250589871895399) 333), ent P (S 500416517772168279997240570217455712) 476 (.int (89) 475), ent P (S 140854816109632365363434125429399349832812124725344) 477 (.ref 227), ent P (S 27127582262911072) 478 .none]
noncomputable def o229 (_ : Params) : Obj := ⟨(.type "type"), none, .cls { name := (Str.ofString "NotMapped"), bases := [(.ref 132)], mro := [(.ref 229), (.ref 132), (.type "ValueError"), (.type "Exception"), (.type "BaseException"), (.type "object")], ns := 228, qualname := (Str.ofString "NotMapped"), hasDict := true, slotNames := [], subclasses := [], abstract := false, collection := none, hasDel := false }, #[(some (.ref 220)), none, (some (.str (S 1870502957375938719823) 465)), (some (.str (S 1870502957375938719823) 473)), (some (.builtin "ValueError.__new__")), (some (.bool true))]⟩
noncomputable def o232 (_ : Params) : Obj := ⟨(.type "tuple"), none, .seq #[(.ref 132)] 0, #[]⟩
noncomputable def o239 (_ : Params) : Obj := ⟨(.type "tuple"), none, .seq #[] 0, #[]⟩
noncomputable def o240 (P : Params) : Obj := dO 2 [ent P (S 455125450472104437637216) 488 (.str (S 154789842426610354947036250589871895399) 333), ent P (S 500416517772168279997240570217455712) 492 (.int (91) 491), ent P (S 140854816109632365363434125429399349832812124725344) 493 (.ref 239), ent P (S 27127582262911072) 494 .none]
noncomputable def o241 (_ : Params) : Obj := ⟨(.type "type"), none, .cls { name := (Str.ofString "NoRight"), bases := [(.ref 132)], mro := [(.ref 241), (.ref 132), (.type "ValueError"), (.type "Exception"), (.type "BaseException"), (.type "object")], ns := 240, qualname := (Str.ofString "NoRight"), hasDict := true, slotNames := [], subclasses := [], abstract := false, collection := none, hasDel := false }, #[(some (.ref 232)), none, (some (.str (S 33048469456515151) 481)), (some (.str (S 33048469456515151) 489)), (some (.builtin "ValueError.__new__")), (some (.bool true))]⟩
noncomputable def o244 (_ : Params) : Obj := ⟨(.type "tuple"), none, .seq #[(.ref 132)] 0, #[]⟩
noncomputable def o251 (_ : Params) : Obj := ⟨(.type "tuple"), none, .seq #[] 0, #[]⟩
noncomputable def o252 (P : Params) : Obj := dO 2 [ent P (S 455125450472104437637216) 504 (.str (S 154789842426610354947036250589871895399) 333), ent P (S 500416517772168279997240570217455712) 508 (.int (93) 507), ent P (S 140854816109632365363434125429399349832812124725344) 509 (.ref 251), ent P (S 27127582262911072) 510 .none]
noncomputable def o253 (_ : Params) : Obj := ⟨(.type "type"), none, .cls { name := (Str.ofString "NoRoom"), bases := [(.ref 132)], mro := [(.ref 253), (.ref 132), (.type "ValueError"), (.type "Exception"), (.type "BaseException"), (.type "object")], ns := 252, qualname := (Str.ofString "NoRoom"), hasDict := true, slotNames := [], subclasses := [], abstract := false, collection := none, hasDel := false }, #[(some (.ref 244)), none, (some (.str (S 121429199908943) 497)), (some (.str (S 121429199908943) 505)), (some (.builtin "ValueError.__new__")), (some (.bool true))]⟩
noncomputable def o256 (_ : Params) : Obj := ⟨(.type "tuple"), none, .seq #[(.ref 132)] 0, #[]⟩
noncomputable def o263 (_ : Params) : Obj := ⟨(.type "tuple"), none, .seq #[] 0, #[]⟩
noncomputable def o264 (P : Params) : Obj := dO 2 [ent P (S 455125450472104437637216) 520 (.str (S 154789842426610354947036250589871895399) 333), ent P (S 500416517772168279997240570217455712) 524 (.int (95) 523), ent P (S 140854816109632365363434125429399349832812124725344) 525 (.ref 263), ent P (S 27127582262911072) 526 .none]
noncomputable def o265 (_ : Params) : Obj := ⟨(.type "type"), none, .cls { name := (Str.ofString "Busy"), bases := [(.ref 132)], mro := [(.ref 265), (.ref 132), (.type "ValueError"), (.type "Exception"), (.type "BaseException"), (.type "object")], ns := 264, qualname := (Str.ofString "Busy"), hasDict := true, slotNames := [], subclasses := [], abstract := false, collection := none, hasDel := false }, #[(some (.ref 256)), none, (some (.str (S 2054452803) 513)), (some (.str (S 2054452803) 521)), (some (.builtin "ValueError.__new__")), (some (.bool true))]⟩
noncomputable def o268 (_ : Params) : Obj := ⟨(.type "tuple"), none, .seq #[(.ref 132)] 0, #[]⟩
noncomputable def o275 (_ : Params) : Obj := ⟨(.type "tuple"), none, .seq #[] 0, #[]⟩
noncomputable def o276 (P : Params) : Obj := dO 2 [ent P (S 455125450472104437637216) 536 (.str (S 154789842426610354947036250589871895399) 333), ent P (S 500416517772168279997240570217455712) 540 (.int (97) 539), ent P (S 140854816109632365363434125429399349832812124725344) 541 (.ref 275), ent P (S 27127582262911072) 542 .none]
noncomputable def o277 (_ : Params) : Obj := ⟨(.type "type"), none, .cls { name := (Str.ofString "NoRow"), bases := [(.ref 132)], mro := [(.ref 277), (.ref 132), (.type "ValueError"), (.type "Exception"), (.type "BaseException"), (.type "object")], ns := 276, qualname := (Str.ofString "NoRow"), hasDict := true, slotNames := [], subclasses := [], abstract := false, collection := none, hasDel := false }, #[(some (.ref 268)), none, (some (.str (S 517280591951) 529)), (some (.str (S 517280591951) 537)), (some (.builtin "ValueError.__new__")), (some (.bool true))]⟩
noncomputable def o280 (_ : Params) : Obj := tO []
noncomputable def o282 (_ : Params) : Obj := tO [(.str (S 448545843573) 550)]
noncomputable def o283 (_ : Params) : Obj := tO []
noncomputable def o285 (_ : Params) : Obj := cO [(.str (S 7380678962623575146) 547), (.str (S 7380678962623575146) 548), (.str (S 9700865007064396754801562313776) 549), (.int (100) 0), (.int (1) 0), (.int (0) 0), (.int (0) 0), (.int (3) 0), (.ref 280), (.bool true), (.int (181) 0), (.ref 281), .none, (.ref 282), (.ref 283), (.ref 284), (.int (551) 0), (.int (100) 0), (.str (S 9700865007064396754801562313776) 552)]
noncomputable def o286 (_ : Params) : Obj := ⟨(.type "function"), none, .func (PySem.W.fnOf (Str.ofString "is_whole") (Str.ofString "is_whole") (defArgs (top 25)) (defBody (top 25)) (defScope (top 25)) .none .none .none (.str (S 154722281479463014256600682153103225703) 545) none (.ref 285) .none), #[]⟩
noncomputable def o287 (_ : Params) : Obj := tO []
noncomputable def o289 (_ : Params) : Obj := tO [(.str (S 448545843573) 557), (.str (S 7893101) 558), (.str (S 1768450665) 559)]
noncomputable def o290 (_ : Params) : Obj := tO []
noncomputable def o292 (_ : Params) : Obj := cO [(.str (S 2055256381122481779818) 554), (.str (S 2055256381122481779818) 555), (.str (S 9700865007064396754801562313776) 556), (.int (102) 0), (.int (3) 0), (.int (0) 0), (.int (0) 0), (.int (3) 0), (.ref 287), (.bool true), (.int (181) 0), (.ref 288), .none, (.ref 289), (.ref 290), (.ref 291), (.int (560) 0), (.int (102) 0), (.str (S 9700865007064396754801562313776) 561)]
noncomputable def o293 (_ : Params) : Obj := ⟨(.type "function"), none, .func (PySem.W.fnOf (Str.ofString "is_within") (Str.ofString "is_within") (defArgs (top 26)) (defBody (top 26)) (defScope (top 26)) .none .none .none (.str (S 154722281479463014256600682153103225703) 545) none (.ref 292) .none), #[]⟩
noncomputable def o294 (_ : Params) : Obj := tO []
noncomputable def o296 (_ : Params) : Obj := tO [(.str (S 8462094853666339174) 568), (.str (S 495640408177) 569), (.str (S 7525350520412074085) 570)]
noncomputable def o297 (_ : Params) : Obj := tO []
noncomputable def o299 (_ : Params) : Obj := cO [(.str (S 34807946493563893454802022513) 565), (.str (S 34807946493563893454802022513) 566), (.str (S 9700865007064396754801562313776) 567), (.int (105) 0), (.int (1) 0), (.int (0) 0), (.int (0) 0), (.int (3) 0), (.ref 294), (.bool true), (.int (181) 0), (.ref 295), .none, (.ref 296), (.ref 297), (.ref 298), (.int (571) 0), (.int (105) 0), (.str (S 9700865007064396754801562313776) 572)]
noncomputable def o300 (_ : Params) : Obj := ⟨(.type "function"), none, .func (PySem.W.fnOf (Str.ofString "power_of_two") (Str.ofString "power_of_two") (defArgs (top 28)) (defBody (top 28)) (defScope (top 28)) .none .none .none (.str (S 154722361499902317960303193115794240359) 563) none (.ref 299) .none), #[]⟩
noncomputable def o301 (_ : Params) : Obj := tO []
noncomputable def o303 (_ : Params) : Obj := tO [(.str (S 128013219358317) 577), (.str (S 7299687) 578), (.str (S 478526206824) 579)]
noncomputable def o304 (_ : Params) : Obj := tO []
noncomputable def o306 (_ : Params) : Obj := cO [(.str (S 2360876520579034574696528942098788) 574), (.str (S 2360876520579034574696528942098788) 575), (.str (S 9700865007064396754801562313776) 576), (.int (110) 0), (.int (3) 0), (.int (0) 0), (.int (0) 0), (.int (3) 0), (.ref 301), (.bool true), (.int (181) 0), (.ref 302), .none, (.ref 303), (.ref 304), (.ref 305), (.int (580) 0), (.int (110) 0), (.str (S 9700865007064396754801562313776) 581)]
noncomputable def o307 (_ : Params) : Obj := ⟨(.type "function"), none, .func (PySem.W.fnOf (Str.ofString "check_measures") (Str.ofString "check_measures") (defArgs (top 29)) (defBody (top 29)) (defScope (top 29)) .none .none .none (.str (S 154722361499902317960303193115794240359) 563) none (.ref 306) .none), #[]⟩
noncomputable def o315 (_ : Params) : Obj := tO []
noncomputable def o317 (_ : Params) : Obj := tO [(.str (S 1735222900) 598), (.str (S 128013219358317) 599), (.str (S 7299687) 600), (.str (S 478526206824) 601)]
noncomputable def o318 (_ : Params) : Obj := tO []
noncomputable def o320 (_ : Params) : Obj := cO [(.str (S 6944679725401530464) 595), (.str (S 1954753563970360692704735932868948) 596), (.str (S 9700865007064396754801562313776) 597), (.int (119) 0), (.int (4) 0), (.int (0) 0), (.int (0) 0), (.int (3) 0), (.ref 315), (.bool true), (.int (181) 0), (.ref 316), .none, (.ref 317), (.ref 318), (.ref 319), (.int (602) 0), (.int (119) 0), (.str (S 9700865007064396754801562313776) 603)]
noncomputable def o321 (_ : Params) : Obj := ⟨(.type "function"), none, .func (PySem.W.fnOf (Str.ofString "__init__") (Str.ofString "Shape.__init__") (defArgs (inClass (top 30) 0)) (defBody (inClass (top 30) 0)) (defScope (inClass (top 30) 0)) .none .none .none (.str (S 154722361499902317960303193115794240359) 563) none (.ref 320) .none), #[]⟩
noncomputable def o322 (_ : Params) : Obj := tO []
noncomputable def o324 (_ : Params) : Obj := tO [(.str (S 1735222900) 608)]
noncomputable def o325 (_ : Params) : Obj := tO []
noncomputable def o327 (_ : Params) : Obj := cO [(.str (S 483958001635892750870900) 605), (.str (S 136222067239398530400517607478345754964) 606), (.str (S 9700865007064396754801562313776) 607), (.int (128) 0), (.int (1) 0), (.int (0) 0), (.int (0) 0), (.int (3) 0), (.ref 322), (.bool true), (.int (181) 0), (.ref 323), .none, (.ref 324), (.ref 325), (.ref 326), (.int (609) 0), (.int (128) 0), (.str (S 9700865007064396754801562313776) 610)]
noncomputable def o328 (_ : Params) : Obj := ⟨(.type "function"), none, .func (PySem.W.fnOf (Str.ofString "sheet_size") (Str.ofString "Shape.sheet_size") (defArgs (inClass (top 30) 1)) (defBody (inClass (top 30) 1)) (defScope (inClass (top 30) 1)) .none .none .none (.str (S 154722361499902317960303193115794240359) 563) none (.ref 327) .none), #[]⟩
noncomputable def o329 (_ : Params) : Obj := tO []
noncomputable def o331 (_ : Params) : Obj := tO [(.str (S 1735222900) 615)]
noncomputable def o332 (_ : Params) : Obj := tO []
noncomputable def o334 (_ : Params) : Obj := cO [(.str (S 554573001519589315076721) 612), (.str (S 156098422687084996958981798045893683540) 613), (.str (S 9700865007064396754801562313776) 614), (.int (131) 0), (.int (1) 0), (.int (0) 0), (.int (0) 0), (.int (3) 0), (.ref 329), (.bool true), (.int (181) 0), (.ref 330), .none, (.ref 331), (.ref 332), (.ref 333), (.int (616) 0), (.int (131) 0), (.str (S 9700865007064396754801562313776) 617)]
noncomputable def o335 (_ : Params) : Obj := ⟨(.type "function"), none, .func (PySem.W.fnOf (Str.ofString "page_count") (Str.ofString "Shape.page_count") (defArgs (inClass (top 30) 2)) (defBody (inClass (top 30) 2)) (defScope (inClass (top 30) 2)) .none .none .none (.str (S 154722361499902317960303193115794240359) 563) none (.ref 334) .none), #[]⟩
noncomputable def o336 (_ : Params) : Obj := tO []
noncomputable def o338 (_ : Params) : Obj := tO [(.str (S 1735222900) 622), (.str (S 1718116977) 623)]
noncomputable def o339 (_ : Params) : Obj := tO []
noncomputable def o341 (_ : Params) : Obj := cO [(.str (S 7379256228535624297) 619), (.str (S 2077075975069028078541421527853396) 620), (.str (S 9700865007064396754801562313776) 621), (.int (134) 0), (.int (2) 0), (.int (0) 0), (.int (0) 0), (.int (3) 0), (.ref 336), (.bool true), (.int (181) 0), (.ref 337), .none, (.ref 338), (.ref 339), (.ref 340), (.int (624) 0), (.int (134) 0), (.str (S 9700865007064396754801562313776) 625)]
noncomputable def o342 (_ : Params) : Obj := ⟨(.type "function"), none, .func (PySem.W.fnOf (Str.ofString "has_page") (Str.ofString "Shape.has_page") (defArgs (inClass (top 30) 3)) (defBody (inClass (top 30) 3)) (defScope (inClass (top 30) 3)) .none .none .none (.str (S 154722361499902317960303193115794240359) 563) none (.ref 341) .none), #[]⟩
noncomputable def o343 (_ : Params) : Obj := tO []
noncomputable def o345 (_ : Params) : Obj := tO [(.str (S 1735222900) 630), (.str (S 1718116977) 631)]
noncomputable def o346 (_ : Params) : Obj := tO []
noncomputable def o348 (_ : Params) : Obj := cO [(.str (S 483606936193276347574628) 627), (.str (S 136123251102114162142305122687958280532) 628), (.str (S 9700865007064396754801562313776) 629), (.int (137) 0), (.int (2) 0), (.int (0) 0), (.int (0) 0), (.int (3) 0), (.ref 343), (.bool true), (.int (181) 0), (.ref 344), .none, (.ref 345), (.ref 346), (.ref 347), (.int (632) 0), (.int (137) 0), (.str (S 9700865007064396754801562313776) 633)]
noncomputable def o349 (_ : Params) : Obj := ⟨(.type "function"), none, .func (PySem.W.fnOf (Str.ofString "check_page") (Str.ofString "Shape.check_page") (defArgs (inClass (top 30) 4)) (defBody (inClass (top 30) 4)) (defScope (inClass (top 30) 4)) .none .none .none (.str (S 154722361499902317960303193115794240359) 563) none (.ref 348) .none), #[]⟩
noncomputable def o350 (_ : Params) : Obj := tO []
noncomputable def o352 (_ : Params) : Obj := tO [(.str (S 1735222900) 638), (.str (S 32779080669947234) 639)]
noncomputable def o353 (_ : Params) : Obj := tO []
noncomputable def o355 (_ : Params) : Obj := cO [(.str (S 140785079470369141693899369) 635), (.str (S 39627476965130008305525577047426929420628) 636), (.str (S 9700865007064396754801562313776) 637), (.int (141) 0), (.int (2) 0), (.int (0) 0), (.int (0) 0), (.int (3) 0), (.ref 350), (.bool true), (.int (181) 0), (.ref 351), .none, (.ref 352), (.ref 353), (.ref 354), (.int (640) 0), (.int (141) 0), (.str (S 9700865007064396754801562313776) 641)]
noncomputable def o356 (_ : Params) : Obj := ⟨(.type "function"), none, .func (PySem.W.fnOf (Str.ofString "has_address") (Str.ofString "Shape.has_address") (defArgs (inClass (top 30) 5)) (defBody (inClass (top 30) 5)) (defScope (inClass (top 30) 5)) .none .none .none (.str (S 154722361499902317960303193115794240359) 563) none (.ref 355) .none), #[]⟩
noncomputable def o357 (_ : Params) : Obj := tO []
noncomputable def o359 (_ : Params) : Obj := tO [(.str (S 1735222900) 646), (.str (S 32779080669947234) 647)]
noncomputable def o360 (_ : Params) : Obj := tO []
noncomputable def o362 (_ : Params) : Obj := cO [(.str (S 111490731565681) 643), (.str (S 31381851070904111347232041300) 644), (.str (S 9700865007064396754801562313776) 645), (.int (144) 0), (.int (2) 0), (.int (0) 0), (.int (0) 0), (.int (3) 0), (.ref 357), (.bool true), (.int (181) 0), (.ref 358), .none, (.ref 359), (.ref 360), (.ref 361), (.int (648) 0), (.int (144) 0), (.str (S 9700865007064396754801562313776) 649)]
noncomputable def o363 (_ : Params) : Obj := ⟨(.type "function"), none, .func (PySem.W.fnOf (Str.ofString "parted") (Str.ofString "Shape.parted") (defArgs (inClass (top 30) 6)) (defBody (inClass (top 30) 6)) (defScope (inClass (top 30) 6)) .none .none .none (.str (S 154722361499902317960303193115794240359) 563) none (.ref 362) .none), #[]⟩
noncomputable def o364 (_ : Params) : Obj := tO []
noncomputable def o366 (_ : Params) : Obj := tO [(.str (S 1735222900) 654), (.str (S 1718116977) 655), (.str (S 7958627) 656)]
noncomputable def o367 (_ : Params) : Obj := tO []
noncomputable def o369 (_ : Params) : Obj := cO [(.str (S 32779080669947234) 651), (.str (S 9226490968170112016115440970068) 652), (.str (S 9700865007064396754801562313776) 653), (.int (147) 0), (.int (3) 0), (.int (0) 0), (.int (0) 0), (.int (3) 0), (.ref 364), (.bool true), (.int (181) 0), (.ref 365), .none, (.ref 366), (.ref 367), (.ref 368), (.int (657) 0), (.int (147) 0), (.str (S 9700865007064396754801562313776) 658)]
noncomputable def o370 (_ : Params) : Obj := ⟨(.type "function"), none, .func (PySem.W.fnOf (Str.ofString "address") (Str.ofString "Shape.address") (defArgs (inClass (top 30) 7)) (defBody (inClass (top 30) 7)) (defScope (inClass (top 30) 7)) .none .none .none (.str (S 154722361499902317960303193115794240359) 563) none (.ref 369) .none), #[]⟩
noncomputable def o371 (_ : Params) : Obj := tO []
noncomputable def o373 (_ : Params) : Obj := tO [(.str (S 1735222900) 663), (.str (S 1718116977) 664), (.str (S 32763743392262759) 665), (.str (S 1970562675) 666), (.str (S 469870536301) 667)]
noncomputable def o374 (_ : Params) : Obj := tO []
noncomputable def o376 (_ : Params) : Obj := cO [(.str (S 500118746484) 660), (.str (S 140770912519198489320778068) 661), (.str (S 9700865007064396754801562313776) 662), (.int (150) 0), (.int (2) 0), (.int (0) 0), (.int (0) 0), (.int (3) 0), (.ref 371), (.bool true), (.int (181) 0), (.ref 372), .none, (.ref 373), (.ref 374), (.ref 375), (.int (668) 0), (.int (150) 0), (.str (S 9700865007064396754801562313776) 669)]
noncomputable def o377 (_ : Params) : Obj := ⟨(.type "function"), none, .func (PySem.W.fnOf (Str.ofString "steps") (Str.ofString "Shape.steps") (defArgs (inClass (top 30) 8)) (defBody (inClass (top 30) 8)) (defScope (inClass (top 30) 8)) .none .none .none (.str (S 154722361499902317960303193115794240359) 563) none (.ref 376) .none), #[]⟩
noncomputable def o378 (_ : Params) : Obj := tO []
noncomputable def o380 (_ : Params) : Obj := tO [(.str (S 1735222900) 674), (.str (S 500118746484) 675), (.str (S 1718116977) 676), (.str (S 1902540148) 677)]
noncomputable def o381 (_ : Params) : Obj := tO []
noncomputable def o383 (_ : Params) : Obj := cO [(.str (S 29115481938485873) 671), (.str (S 8195279600554836563607700007252) 672), (.str (S 9700865007064396754801562313776) 673), (.int (160) 0), (.int (2) 0), (.int (0) 0), (.int (0) 0), (.int (3) 0), (.ref 378), (.bool true), (.int (181) 0), (.ref 379), .none, (.ref 380), (.ref 381), (.ref 382), (.int (678) 0), (.int (160) 0), (.str (S 9700865007064396754801562313776) 679)]
noncomputable def o384 (_ : Params) : Obj := ⟨(.type "function"), none, .func (PySem.W.fnOf (Str.ofString "page_of") (Str.ofString "Shape.page_of") (defArgs (inClass (top 30) 9)) (defBody (inClass (top 30) 9)) (defScope (inClass (top 30) 9)) .none .none .none (.str (S 154722361499902317960303193115794240359) 563) none (.ref 383) .none), #[]⟩
noncomputable def o385 (_ : Params) : Obj := tO []
noncomputable def o387 (_ : Params) : Obj := tO [(.str (S 1735222900) 684), (.str (S 504464894567) 685), (.str (S 2054120046) 686)]
noncomputable def o388 (_ : Params) : Obj := tO []
noncomputable def o390 (_ : Params) : Obj := cO [(.str (S 1953852007) 681), (.str (S 549960448218510519331156) 682), (.str (S 9700865007064396754801562313776) 683), (.int (170) 0), (.int (3) 0), (.int (0) 0), (.int (0) 0), (.int (3) 0), (.ref 385), (.bool true), (.int (181) 0), (.ref 386), .none, (.ref 387), (.ref 388), (.ref 389), (.int (687) 0), (.int (170) 0), (.str (S 9700865007064396754801562313776) 688)]
noncomputable def o391 (_ : Params) : Obj := ⟨(.type "function"), none, .func (PySem.W.fnOf (Str.ofString "fits") (Str.ofString "Shape.fits") (defArgs (inClass (top 30) 10)) (defBody (inClass (top 30) 10)) (defScope (inClass (top 30) 10)) .none .none .none (.str (S 154722361499902317960303193115794240359) 563) none (.ref 390) .none), #[]⟩
noncomputable def o392 (_ : Params) : Obj := ⟨(.type "tuple"), none, .seq #[(.str (Str.ofString "boxes") 690), (.str (Str.ofString "fan") 691), (.str (Str.ofString "grain") 692), (.str (Str.ofString "levels") 693), (.str (Str.ofString "pages") 694), (.str (Str.ofString "ways") 695)] 0, #[]⟩
noncomputable def o393 (P : Params) : Obj := dO 4 [ent P (S 455125450472104437637216) 590 (.str (S 154722361499902317960303193115794240359) 563), ent P (S 500416517772168279997240570217455712) 594 (.int (117) 593), ent P (S 6944679725401530464) 604 (.ref 321), ent P (S 483958001635892750870900) 611 (.ref 328), ent P (S 554573001519589315076721) 618 (.ref 335), ent P (S 7379256228535624297) 626 (.ref 342), ent P (S 483606936193276347574628) 634 (.ref 349), ent P (S 140785079470369141693899369) 642 (.ref 356), ent P (S 111490731565681) 650 (.ref 363), ent P (S 32779080669947234) 659 (.ref 370), ent P (S 500118746484) 670 (.ref 377), ent P (S 29115481938485873) 680 (.ref 384), ent P (S 1953852007) 689 (.ref 391), ent P (S 140854816109632365363434125429399349832812124725344) 696 (.ref 392), ent P (S 6944679699547512928) 698 (.ref 395), ent P (S 116512133262362862868258912) 700 (.ref 396), ent P (S 27127582262911072) 701 .none]
noncomputable def o394 (_ : Params) : Obj := ⟨(.type "type"), none, .cls { name := (Str.ofString "Shape"), bases := [(.type "object")], mro := [(.ref 394), (.type "object")], ns := 393, qualname := (Str.ofString "Shape"), hasDict := true, slotNames := [], subclasses := [], abstract := false, collection := none, hasDel := false }, #[none, none, (some (.str (S 439988939092) 583)), (some (.str (S 439988939092) 591)), (some (.builtin "object.__new__")), (some (.bool true))]⟩
noncomputable def o395 (_ : Params) : Obj := ⟨(.type "getset_descriptor"), none, .fields ⟨[(.str (S 6944679699547512928) 697), (.ref 394), (.builtin "function.__dict__"), (.builtin "function.__dict__#set")]⟩, #[]⟩
noncomputable def o396 (_ : Params) : Obj := ⟨(.type "getset_descriptor"), none, .fields ⟨[(.str (S 116512133262362862868258912) 699), (.ref 394), (.builtin "ExceptionGroup.__weakref__"), .none]⟩, #[]⟩
noncomputable def o399 (_ : Params) : Obj := tO []
noncomputable def o401 (_ : Params) : Obj := tO [(.str (S 141979911977246466280418656) 709), (.str (S 119161592376672) 710)]
noncomputable def o402 (_ : Params) : Obj := tO []
noncomputable def o404 (_ : Params) : Obj := cO [(.str (S 36328676245180164783460216160) 706), (.str (S 36328676245180164783460216160) 707), (.str (S 9700865007064396754801562313776) 708), (.int (173) 0), (.int (2) 0), (.int (0) 0), (.int (0) 0), (.int (3) 0), (.ref 399), (.bool true), (.int (181) 0), (.ref 400), .none, (.ref 401), (.ref 402), (.ref 403), (.int (711) 0), (.int (173) 0), (.str (S 9700865007064396754801562313776) 712)]
noncomputable def o405 (_ : Params) : Obj := ⟨(.type "function"), none, .func (PySem.W.fnOf (Str.ofString "_law_cell_at") (Str.ofString "_law_cell_at") (defArgs (top 32)) (defBody (top 32)) (defScope (top 32)) .none .none .none (.str (S 700080780434988018898091853027908187958305866106785889816324881977467501) 704) none (.ref 404) .none), #[]⟩
noncomputable def o406 (_ : Params) : Obj := tO []
noncomputable def o408 (_ : Params) : Obj := tO [(.str (S 2018578202597599112544) 717), (.str (S 483533148109722095873376) 718), (.str (S 2258528875839108574560) 719), (.str (S 483718193700061355076960) 720)]
noncomputable def o409 (_ : Params) : Obj := tO []
noncomputable def o411 (_ : Params) : Obj := cO [(.str (S 2166583389145247411552) 714), (.str (S 2166583389145247411552) 715), (.str (S 9700865007064396754801562313776) 716), (.int (177) 0), (.int (3) 0), (.int (0) 0), (.int (0) 0), (.int (3) 0), (.ref 406), (.bool true), (.int (181) 0), (.ref 407), .none, (.ref 408), (.ref 409), (.ref 410), (.int (721) 0), (.int (177) 0), (.str (S 9700865007064396754801562313776) 722)]
noncomputable def o412 (_ : Params) : Obj := ⟨(.type "function"), none, .func (PySem.W.fnOf (Str.ofString "_law_part") (Str.ofString "_law_part") (defArgs (top 33)) (defBody (top 33)) (defScope (top 33)) .none .none .none (.str (S 700080780434988018898091853027908187958305866106785889816324881977467501) 704) none (.ref 411) .none), #[]⟩
noncomputable def o413 (_ : Params) : Obj := tO []
noncomputable def o415 (_ : Params) : Obj := tO [(.str (S 2018578202597599112544) 727), (.str (S 1889954270240479276384) 728), (.str (S 554573001519589616676192) 729)]
noncomputable def o416 (_ : Params) : Obj := tO []
noncomputable def o418 (_ : Params) : Obj := cO [(.str (S 1889089594505186930016) 724), (.str (S 1889089594505186930016) 725), (.str (S 9700865007064396754801562313776) 726), (.int (180) 0), (.int (3) 0), (.int (0) 0), (.int (0) 0), (.int (3) 0), (.ref 413), (.bool true), (.int (181) 0), (.ref 414), .none, (.ref 415), (.ref 416), (.ref 417), (.int (730) 0), (.int (180) 0), (.str (S 9700865007064396754801562313776) 731)]
noncomputable def o419 (_ : Params) : Obj := ⟨(.type "function"), none, .func (PySem.W.fnOf (Str.ofString "_law_page") (Str.ofString "_law_page") (defArgs (top 34)) (defBody (top 34)) (defScope (top 34)) .none .none .none (.str (S 700080780434988018898091853027908187958305866106785889816324881977467501) 704) none (.ref 418) .none), #[]⟩
noncomputable def o420 (_ : Params) : Obj := tO []
noncomputable def o422 (_ : Params) : Obj := tO [(.str (S 2018578202597599112544) 736), (.str (S 554573001519589616676192) 737), (.str (S 1889886165390743203168) 738)]
noncomputable def o423 (_ : Params) : Obj := tO []
noncomputable def o425 (_ : Params) : Obj := cO [(.str (S 122627765315858518973246816) 733), (.str (S 122627765315858518973246816) 734), (.str (S 9700865007064396754801562313776) 735), (.int (184) 0), (.int (2) 0), (.int (0) 0), (.int (0) 0), (.int (3) 0), (.ref 420), (.bool true), (.int (181) 0), (.ref 421), .none, (.ref 422), (.ref 423), (.ref 424), (.int (739) 0), (.int (184) 0), (.str (S 9700865007064396754801562313776) 740)]
noncomputable def o426 (_ : Params) : Obj := ⟨(.type "function"), none, .func (PySem.W.fnOf (Str.ofString "_law_beyond") (Str.ofString "_law_beyond") (defArgs (top 35)) (defBody (top 35)) (defScope (top 35)) .none .none .none (.str (S 700080780434988018898091853027908187958305866106785889816324881977467501) 704) none (.ref 425) .none), #[]⟩
noncomputable def o427 (_ : Params) : Obj := tO []
noncomputable def o429 (_ : Params) : Obj := tO [(.str (S 483699237772152822459744) 745), (.str (S 2077948713125059890748941584723296) 746), (.str (S 8818743376076762464) 747), (.str (S 578258548573362689568096) 748), (.str (S 102) 749)]
noncomputable def o430 (_ : Params) : Obj := tO []
noncomputable def o432 (_ : Params) : Obj := cO [(.str (S 31381846404235127185299631456) 742), (.str (S 31381846404235127185299631456) 743), (.str (S 9700865007064396754801562313776) 744), (.int (191) 0), (.int (4) 0), (.int (0) 0), (.int (0) 0), (.int (3) 0), (.ref 427), (.bool true), (.int (181) 0), (.ref 428), .none, (.ref 429), (.ref 430), (.ref 431), (.int (750) 0), (.int (191) 0), (.str (S 9700865007064396754801562313776) 751)]
noncomputable def o433 (_ : Params) : Obj := ⟨(.type "function"), none, .func (PySem.W.fnOf (Str.ofString "_law_refused") (Str.ofString "_law_refused") (defArgs (top 36)) (defBody (top 36)) (defScope (top 36)) .none .none .none (.str (S 700080780434988018898091853027908187958305866106785889816324881977467501) 704) none (.ref 432) .none), #[]⟩
noncomputable def o434 (_ : Params) : Obj := tO []
noncomputable def o436 (_ : Params) : Obj := tO [(.str (S 479015137796973828140384) 756), (.str (S 7383200104131489120) 757)]
noncomputable def o437 (_ : Params) : Obj := tO []
noncomputable def o439 (_ : Params) : Obj := cO [(.str (S 483700176494498687380832) 753), (.str (S 483700176494498687380832) 754), (.str (S 9700865007064396754801562313776) 755), (.int (208) 0), (.int (2) 0), (.int (0) 0), (.int (0) 0), (.int (3) 0), (.ref 434), (.bool true), (.int (181) 0), (.ref 435), .none, (.ref 436), (.ref 437), (.ref 438), (.int (758) 0), (.int (208) 0), (.str (S 9700865007064396754801562313776) 759)]
noncomputable def o440 (_ : Params) : Obj := ⟨(.type "function"), none, .func (PySem.W.fnOf (Str.ofString "_law_whole") (Str.ofString "_law_whole") (defArgs (top 37)) (defBody (top 37)) (defScope (top 37)) .none .none .none (.str (S 700080780434988018898091853027908187958305866106785889816324881977467501) 704) none (.ref 439) .none), #[]⟩
noncomputable def o441 (_ : Params) : Obj := tO []
noncomputable def o443 (_ : Params) : Obj := tO [(.str (S 483699237772152822459744) 764), (.str (S 7383200104131489120) 765), (.str (S 1871007083449387478368) 766), (.str (S 119161592376672) 767), (.str (S 2077948713125059890748941584723296) 768)]
noncomputable def o444 (_ : Params) : Obj := tO []
noncomputable def o446 (_ : Params) : Obj := cO [(.str (S 2148500875890424704352) 761), (.str (S 2148500875890424704352) 762), (.str (S 9700865007064396754801562313776) 763), (.int (210) 0), (.int (2) 0), (.int (0) 0), (.int (0) 0), (.int (3) 0), (.ref 441), (.bool true), (.int (181) 0), (.ref 442), .none, (.ref 443), (.ref 444), (.ref 445), (.int (769) 0), (.int (210) 0), (.str (S 9700865007064396754801562313776) 770)]
noncomputable def o447 (_ : Params) : Obj := ⟨(.type "function"), none, .func (PySem.W.fnOf (Str.ofString "_law_rows") (Str.ofString "_law_rows") (defArgs (top 38)) (defBody (top 38)) (defScope (top 38)) .none .none .none (.str (S 700080780434988018898091853027908187958305866106785889816324881977467501) 704) none (.ref 446) .none), #[]⟩
noncomputable def o448 (_ : Params) : Obj := tO []
noncomputable def o450 (_ : Params) : Obj := tO [(.str (S 7383200104131489120) 775), (.str (S 140752023193509693210389856) 776), (.str (S 8026091149961882976) 777), (.str (S 531954870560081389819170567743499616) 778), (.str (S 2077948713125059890748941584723296) 779)]
noncomputable def o451 (_ : Params) : Obj := tO []
noncomputable def o453 (_ : Params) : Obj := cO [(.str (S 549664723634849908419936) 772), (.str (S 549664723634849908419936) 773), (.str (S 9700865007064396754801562313776) 774), (.int (222) 0), (.int (3) 0), (.int (0) 0), (.int (0) 0), (.int (3) 0), (.ref 448), (.bool true), (.int (181) 0), (.ref 449), .none, (.ref 450), (.ref 451), (.ref 452), (.int (780) 0), (.int (222) 0), (.str (S 9700865007064396754801562313776) 781)]
noncomputable def o454 (_ : Params) : Obj := ⟨(.type "function"), none, .func (PySem.W.fnOf (Str.ofString "_law_heads") (Str.ofString "_law_heads") (defArgs (top 39)) (defBody (top 39)) (defScope (top 39)) .none .none .none (.str (S 700080780434988018898091853027908187958305866106785889816324881977467501) 704) none (.ref 453) .none), #[]⟩
noncomputable def o455 (_ : Params) : Obj := tO []
noncomputable def o457 (_ : Params) : Obj := tO [(.str (S 141979911977246466280418656) 786), (.str (S 140752023193509693210389856) 787), (.str (S 8026091149961882976) 788), (.str (S 554573001519589616676192) 789), (.str (S 554645345373678859349344) 790), (.str (S 140719094313069137088376160) 791), (.str (S 1889954270240479276384) 792), (.str (S 2147205512654439476576) 793), (.str (S 2018578202597599112544) 794), (.str (S 33040738751245664) 795), (.str (S 2077948713125059890748941584723296) 796), (.str (S 8818743376076762464) 797), (.str (S 2055908558600570826080) 798), (.str (S 119161592376672) 799)]
noncomputable def o458 (_ : Params) : Obj := tO []
noncomputable def o460 (_ : Params) : Obj := cO [(.str (S 7889517) 783), (.str (S 7889517) 784), (.str (S 9700865007064396754801562313776) 785), (.int (229) 0), (.int (1) 0), (.int (0) 0), (.int (0) 0), (.int (3) 0), (.ref 455), (.bool true), (.int (181) 0), (.ref 456), .none, (.ref 457), (.ref 458), (.ref 459), (.int (800) 0), (.int (229) 0), (.str (S 9700865007064396754801562313776) 801)]
noncomputable def o461 (_ : Params) : Obj := ⟨(.type "function"), none, .func (PySem.W.fnOf (Str.ofString "law") (Str.ofString "law") (defArgs (top 40)) (defBody (top 40)) (defScope (top 40)) .none .none .none (.str (S 700080780434988018898091853027908187958305866106785889816324881977467501) 704) none (.ref 460) .none), #[]⟩
noncomputable def Kf : Params → PySem.W.Frag := fun P => (nat_lit 2, o2 P) :: (nat_lit 3, o3 P) :: (nat_lit 15, o15 P) :: (nat_lit 17, o17 P) :: (nat_lit 18, o18 P) :: (nat_lit 20, o20 P) :: (nat_lit 21, o21 P) :: (nat_lit 22, o22 P) :: (nat_lit 24, o24 P) :: (nat_lit 25, o25 P) :: (nat_lit 27, o27 P) :: (nat_lit 28, o28 P) :: (nat_lit 29, o29 P) :: (nat_lit 31, o31 P) :: (nat_lit 32, o32 P) :: (nat_lit 34, o34 P) :: (nat_lit 35, o35 P) :: (nat_lit 36, o36 P) :: (nat_lit 38, o38 P) :: (nat_lit 39, o39 P) :: (nat_lit 41, o41 P) :: (nat_lit 42, o42 P) :: (nat_lit 43, o43 P) :: (nat_lit 45, o45 P) :: (nat_lit 46, o46 P) :: (nat_lit 48, o48 P) :: (nat_lit 49, o49 P) :: (nat_lit 50, o50 P) :: (nat_lit 53, o53 P) :: (nat_lit 54, o54 P) :: (nat_lit 55, o55 P) :: (nat_lit 57, o57 P) :: (nat_lit 58, o58 P) :: (nat_lit 60, o60 P) :: (nat_lit 61, o61 P) :: (nat_lit 69, o69 P) :: (nat_lit 71, o71 P) :: (nat_lit 72, o72 P) :: (nat_lit 74, o74 P) :: (nat_lit 75, o75 P) :: (nat_lit 76, o76 P) :: (nat_lit 78, o78 P) :: (nat_lit 79, o79 P) :: (nat_lit 81, o81 P) :: (nat_lit 82, o82 P) :: (nat_lit 83, o83 P) :: (nat_lit 85, o85 P) :: (nat_lit 86, o86 P) :: (nat_lit 88, o88 P) :: (nat_lit 89, o89 P) :: (nat_lit 90, o90 P) :: (nat_lit 92, o92 P) :: (nat_lit 93, o93 P) :: (nat_lit 95, o95 P) :: (nat_lit 96, o96 P) :: (nat_lit 97, o97 P) :: (nat_lit 100, o100 P) :: (nat_lit 101, o101 P) :: (nat_lit 102, o102 P) :: (nat_lit 104, o104 P) :: (nat_lit 105, o105 P) :: (nat_lit 107, o107 P) :: (nat_lit 108, o108 P) :: (nat_lit 109, o109 P) :: (nat_lit 111, o111 P) :: (nat_lit 112, o112 P) :: (nat_lit 114, o114 P) :: (nat_lit 115, o115 P) :: (nat_lit 116, o116 P) :: (nat_lit 117, o117 P) :: (nat_lit 118, o118 P) :: (nat_lit 119, o119 P) :: (nat_lit 120, o120 P) :: (nat_lit 123, o123 P) :: (nat_lit 130, o130 P) :: (nat_lit 131, o131 P) :: (nat_lit 132, o132 P) :: (nat_lit 133, o133 P) :: (nat_lit 136, o136 P) :: (nat_lit 143, o143 P) :: (nat_lit 144, o144 P) :: (nat_lit 145, o145 P) :: (nat_lit 148, o148 P) :: (nat_lit 155, o155 P) :: (nat_lit 156, o156 P) :: (nat_lit 157, o157 P) :: (nat_lit 160, o160 P) :: (nat_lit 167, o167 P) :: (nat_lit 168, o168 P) :: (nat_lit 169, o169 P) :: (nat_lit 172, o172 P) :: (nat_lit 179, o179 P) :: (nat_lit 180, o180 P) :: (nat_lit 181, o181 P) :: (nat_lit 184, o184 P) :: (nat_lit 191, o191 P) :: (nat_lit 192, o192 P) :: (nat_lit 193, o193 P) :: (nat_lit 196, o196 P) :: (nat_lit 203, o203 P) :: (nat_lit 204, o204 P) :: (nat_lit 205, o205 P) :: (nat_lit 208, o208 P) :: (nat_lit 215, o215 P) :: (nat_lit 216, o216 P) :: (nat_lit 217, o217 P) :: (nat_lit 220, o220 P) :: (nat_lit 227, o227 P) :: (nat_lit 228, o228 P) :: (nat_lit 229, o229 P) :: (nat_lit 232, o232 P) :: (nat_lit 239, o239 P) :: (nat_lit 240, o240 P) :: (nat_lit 241, o241 P) :: (nat_lit 244, o244 P) :: (nat_lit 251, o251 P) :: (nat_lit 252, o252 P) :: (nat_lit 253, o253 P) :: (nat_lit 256, o256 P) :: (nat_lit 263, o263 P) :: (nat_lit 264, o264 P) :: (nat_lit 265, o265 P) :: (nat_lit 268, o268 P) :: (nat_lit 275, o275 P) :: (nat_lit 276, o276 P) :: (nat_lit 277, o277 P) :: (nat_lit 280, o280 P) :: (nat_lit 282, o282 P) :: (nat_lit 283, o283 P) :: (nat_lit 285, o285 P) :: (nat_lit 286, o286 P) :: (nat_lit 287, o287 P) :: (nat_lit 289, o289 P) :: (nat_lit 290, o290 P) :: (nat_lit 292, o292 P) :: (nat_lit 293, o293 P) :: (nat_lit 294, o294 P) :: (nat_lit 296, o296 P) :: (nat_lit 297, o297 P) :: (nat_lit 299, o299 P) :: (nat_lit 300, o300 P) :: (nat_lit 301, o301 P) :: (nat_lit 303, o303 P) :: (nat_lit 304, o304 P) :: (nat_lit 306, o306 P) :: (nat_lit 307, o307 P) :: (nat_lit 315, o315 P) :: (nat_lit 317, o317 P) :: (nat_lit 318, o318 P) :: (nat_lit 320, o320 P) :: (nat_lit 321, o321 P) :: (nat_lit 322, o322 P) :: (nat_lit 324, o324 P) :: (nat_lit 325, o325 P) :: (nat_lit 327, o327 P) :: (nat_lit 328, o328 P) :: (nat_lit 329, o329 P) :: (nat_lit 331, o331 P) :: (nat_lit 332, o332 P) :: (nat_lit 334, o334 P) :: (nat_lit 335, o335 P) :: (nat_lit 336, o336 P) :: (nat_lit 338, o338 P) :: (nat_lit 339, o339 P) :: (nat_lit 341, o341 P) :: (nat_lit 342, o342 P) :: (nat_lit 343, o343 P) :: (nat_lit 345, o345 P) :: (nat_lit 346, o346 P) :: (nat_lit 348, o348 P) :: (nat_lit 349, o349 P) :: (nat_lit 350, o350 P) :: (nat_lit 352, o352 P) :: (nat_lit 353, o353 P) :: (nat_lit 355, o355 P) :: (nat_lit 356, o356 P) :: (nat_lit 357, o357 P) :: (nat_lit 359, o359 P) :: (nat_lit 360, o360 P) :: (nat_lit 362, o362 P) :: (nat_lit 363, o363 P) :: (nat_lit 364, o364 P) :: (nat_lit 366, o366 P) :: (nat_lit 367, o367 P) :: (nat_lit 369, o369 P) :: (nat_lit 370, o370 P) :: (nat_lit 371, o371 P) :: (nat_lit 373, o373 P) :: (nat_lit 374, o374 P) :: (nat_lit 376, o376 P) :: (nat_lit 377, o377 P) :: (nat_lit 378, o378 P) :: (nat_lit 380, o380 P) :: (nat_lit 381, o381 P) :: (nat_lit 383, o383 P) :: (nat_lit 384, o384 P) :: (nat_lit 385, o385 P) :: (nat_lit 387, o387 P) :: (nat_lit 388, o388 P) :: (nat_lit 390, o390 P) :: (nat_lit 391, o391 P) :: (nat_lit 392, o392 P) :: (nat_lit 393, o393 P) :: (nat_lit 394, o394 P) :: (nat_lit 395, o395 P) :: (nat_lit 396, o396 P) :: (nat_lit 399, o399 P) :: (nat_lit 401, o401 P) :: (nat_lit 402, o402 P) :: (nat_lit 404, o404 P) :: (nat_lit 405, o405 P) :: (nat_lit 406, o406 P) :: (nat_lit 408, o408 P) :: (nat_lit 409, o409 P) :: (nat_lit 411, o411 P) :: (nat_lit 412, o412 P) :: (nat_lit 413, o413 P) :: (nat_lit 415, o415 P) :: (nat_lit 416, o416 P) :: (nat_lit 418, o418 P) :: (nat_lit 419, o419 P) :: (nat_lit 420, o420 P) :: (nat_lit 422, o422 P) :: (nat_lit 423, o423 P) :: (nat_lit 425, o425 P) :: (nat_lit 426, o426 P) :: (nat_lit 427, o427 P) :: (nat_lit 429, o429 P) :: (nat_lit 430, o430 P) :: (nat_lit 432, o432 P) :: (nat_lit 433, o433 P) :: (nat_lit 434, o434 P) :: (nat_lit 436, o436 P) :: (nat_lit 437, o437 P) :: (nat_lit 439, o439 P) :: (nat_lit 440, o440 P) :: (nat_lit 441, o441 P) :: (nat_lit 443, o443 P) :: (nat_lit 444, o444 P) :: (nat_lit 446, o446 P) :: (nat_lit 447, o447 P) :: (nat_lit 448, o448 P) :: (nat_lit 450, o450 P) :: (nat_lit 451, o451 P) :: (nat_lit 453, o453 P) :: (nat_lit 454, o454 P) :: (nat_lit 455, o455 P) :: (nat_lit 457, o457 P) :: (nat_lit 458, o458 P) :: (nat_lit 460, o460 P) :: (nat_lit 461, o461 P) :: []
noncomputable def Kc0 (P : Params) : List (Option Obj) := [some (o2 P), some (o3 P), some (o15 P), some (o17 P), some (o18 P), some (o20 P), some (o21 P), some (o22 P), some (o24 P), some (o25 P), some (o27 P), some (o28 P), some (o29 P), some (o31 P)]
noncomputable def Kc1 (P : Params) : List (Option Obj) := [some (o32 P), some (o34 P), some (o35 P), some (o36 P), some (o38 P), some (o39 P), some (o41 P), some (o42 P), some (o43 P), some (o45 P), some (o46 P), some (o48 P), some (o49 P), some (o50 P)]
noncomputable def Kc2 (P : Params) : List (Option Obj) := [some (o53 P), some (o54 P), some (o55 P), some (o57 P), some (o58 P), some (o60 P), some (o61 P), some (o69 P), some (o71 P), some (o72 P), some (o74 P), some (o75 P), some (o76 P), some (o78 P)]
noncomputable def Kc3 (P : Params) : List (Option Obj) := [some (o79 P), some (o81 P), some (o82 P), some (o83 P), some (o85 P), some (o86 P), some (o88 P), some (o89 P), some (o90 P), some (o92 P), some (o93 P), some (o95 P), some (o96 P), some (o97 P)]
noncomputable def Kc4 (P : Params) : List (Option Obj) := [some (o100 P), some (o101 P), some (o102 P), some (o104 P), some (o105 P), some (o107 P), some (o108 P), some (o109 P), some (o111 P), some (o112 P), some (o114 P), some (o115 P), some (o116 P), some (o117 P)]
noncomputable def Kc5 (P : Params) : List (Option Obj) := [some (o118 P), some (o119 P), some (o120 P), some (o123 P), some (o130 P), some (o131 P), some (o132 P), some (o133 P), some (o136 P), some (o143 P), some (o144 P), some (o145 P), some (o148 P), some (o155 P)]
noncomputable def Kc6 (P : Params) : List (Option Obj) := [some (o156 P), some (o157 P), some (o160 P), some (o167 P), some (o168 P), some (o169 P), some (o172 P), some (o179 P), some (o180 P), some (o181 P), some (o184 P), some (o191 P), some (o192 P), some (o193 P)]
noncomputable def Kc7 (P : Params) : List (Option Obj) := [some (o196 P), some (o203 P), some (o204 P), some (o205 P), some (o208 P), some (o215 P), some (o216 P), some (o217 P), some (o220 P), some (o227 P), some (o228 P), some (o229 P), some (o232 P), some (o239 P)]
noncomputable def Kc8 (P : Params) : List (Option Obj) := [some (o240 P), some (o241 P), some (o244 P), some (o251 P), some (o252 P), some (o253 P), some (o256 P), some (o263 P), some (o264 P), some (o265 P), some (o268 P), some (o275 P), some (o276 P), some (o277 P)]
noncomputable def Kc9 (P : Params) : List (Option Obj) := [some (o280 P), some (o282 P), some (o283 P), some (o285 P), some (o286 P), some (o287 P), some (o289 P), some (o290 P), some (o292 P), some (o293 P), some (o294 P), some (o296 P), some (o297 P), some (o299 P)]
noncomputable def Kc10 (P : Params) : List (Option Obj) := [some (o300 P), some (o301 P), some (o303 P), some (o304 P), some (o306 P), some (o307 P), some (o315 P), some (o317 P), some (o318 P), some (o320 P), some (o321 P), some (o322 P), some (o324 P), some (o325 P)]
noncomputable def Kc11 (P : Params) : List (Option Obj) := [some (o327 P), some (o328 P), some (o329 P), some (o331 P), some (o332 P), some (o334 P), some (o335 P), some (o336 P), some (o338 P), some (o339 P), some (o341 P), some (o342 P), some (o343 P), some (o345 P)]
noncomputable def Kc12 (P : Params) : List (Option Obj) := [some (o346 P), some (o348 P), some (o349 P), some (o350 P), some (o352 P), some (o353 P), some (o355 P), some (o356 P), some (o357 P), some (o359 P), some (o360 P), some (o362 P), some (o363 P), some (o364 P)]
noncomputable def Kc13 (P : Params) : List (Option Obj) := [some (o366 P), some (o367 P), some (o369 P), some (o370 P), some (o371 P), some (o373 P), some (o374 P), some (o376 P), some (o377 P), some (o378 P), some (o380 P), some (o381 P), some (o383 P), some (o384 P)]
noncomputable def Kc14 (P : Params) : List (Option Obj) := [some (o385 P), some (o387 P), some (o388 P), some (o390 P), some (o391 P), some (o392 P), some (o393 P), some (o394 P), some (o395 P), some (o396 P), some (o399 P), some (o401 P), some (o402 P), some (o404 P)]
noncomputable def Kc15 (P : Params) : List (Option Obj) := [some (o405 P), some (o406 P), some (o408 P), some (o409 P), some (o411 P), some (o412 P), some (o413 P), some (o415 P), some (o416 P), some (o418 P), some (o419 P), some (o420 P), some (o422 P), some (o423 P)]
noncomputable def Kc16 (P : Params) : List (Option Obj) := [some (o425 P), some (o426 P), some (o427 P), some (o429 P), some (o430 P), some (o432 P), some (o433 P), some (o434 P), some (o436 P), some (o437 P), some (o439 P), some (o440 P), some (o441 P), some (o443 P)]
noncomputable def Kc17 (P : Params) : List (Option Obj) := [some (o444 P), some (o446 P), some (o447 P), some (o448 P), some (o450 P), some (o451 P), some (o453 P), some (o454 P), some (o455 P), some (o457 P), some (o458 P), some (o460 P), some (o461 P)]
noncomputable def Kc (P : Params) : List (Option Obj) := Kc0 P ++ (Kc1 P ++ (Kc2 P ++ (Kc3 P ++ (Kc4 P ++ (Kc5 P ++ (Kc6 P ++ (Kc7 P ++ (Kc8 P ++ (Kc9 P ++ (Kc10 P ++ (Kc11 P ++ (Kc12 P ++ (Kc13 P ++ (Kc14 P ++ (Kc15 P ++ (Kc16 P ++ (Kc17 P)))))))))))))))))
def adr : List Addr := nat_lit 2 :: nat_lit 3 :: nat_lit 15 :: nat_lit 17 :: nat_lit 18 :: nat_lit 20 :: nat_lit 21 :: nat_lit 22 :: nat_lit 24 :: nat_lit 25 :: nat_lit 27 :: nat_lit 28 :: nat_lit 29 :: nat_lit 31 :: nat_lit 32 :: nat_lit 34 :: nat_lit 35 :: nat_lit 36 :: nat_lit 38 :: nat_lit 39 :: nat_lit 41 :: nat_lit 42 :: nat_lit 43 :: nat_lit 45 :: nat_lit 46 :: nat_lit 48 :: nat_lit 49 :: nat_lit 50 :: nat_lit 53 :: nat_lit 54 :: nat_lit 55 :: nat_lit 57 :: nat_lit 58 :: nat_lit 60 :: nat_lit 61 :: nat_lit 69 :: nat_lit 71 :: nat_lit 72 :: nat_lit 74 :: nat_lit 75 :: nat_lit 76 :: nat_lit 78 :: nat_lit 79 :: nat_lit 81 :: nat_lit 82 :: nat_lit 83 :: nat_lit 85 :: nat_lit 86 :: nat_lit 88 :: nat_lit 89 :: nat_lit 90 :: nat_lit 92 :: nat_lit 93 :: nat_lit 95 :: nat_lit 96 :: nat_lit 97 :: nat_lit 100 :: nat_lit 101 :: nat_lit 102 :: nat_lit 104 :: nat_lit 105 :: nat_lit 107 :: nat_lit 108 :: nat_lit 109 :: nat_lit 111 :: nat_lit 112 :: nat_lit 114 :: nat_lit 115 :: nat_lit 116 :: nat_lit 117 :: nat_lit 118 :: nat_lit 119 :: nat_lit 120 :: nat_lit 123 :: nat_lit 130 :: nat_lit 131 :: nat_lit 132 :: nat_lit 133 :: nat_lit 136 :: nat_lit 143 :: nat_lit 144 :: nat_lit 145 :: nat_lit 148 :: nat_lit 155 :: nat_lit 156 :: nat_lit 157 :: nat_lit 160 :: nat_lit 167 :: nat_lit 168 :: nat_lit 169 :: nat_lit 172 :: nat_lit 179 :: nat_lit 180 :: nat_lit 181 :: nat_lit 184 :: nat_lit 191 :: nat_lit 192 :: nat_lit 193 :: nat_lit 196 :: nat_lit 203 :: nat_lit 204 :: nat_lit 205 :: nat_lit 208 :: nat_lit 215 :: nat_lit 216 :: nat_lit 217 :: nat_lit 220 :: nat_lit 227 :: nat_lit 228 :: nat_lit 229 :: nat_lit 232 :: nat_lit 239 :: nat_lit 240 :: nat_lit 241 :: nat_lit 244 :: nat_lit 251 :: nat_lit 252 :: nat_lit 253 :: nat_lit 256 :: nat_lit 263 :: nat_lit 264 :: nat_lit 265 :: nat_lit 268 :: nat_lit 275 :: nat_lit 276 :: nat_lit 277 :: nat_lit 280 :: nat_lit 282 :: nat_lit 283 :: nat_lit 285 :: nat_lit 286 :: nat_lit 287 :: nat_lit 289 :: nat_lit 290 :: nat_lit 292 :: nat_lit 293 :: nat_lit 294 :: nat_lit 296 :: nat_lit 297 :: nat_lit 299 :: nat_lit 300 :: nat_lit 301 :: nat_lit 303 :: nat_lit 304 :: nat_lit 306 :: nat_lit 307 :: nat_lit 315 :: nat_lit 317 :: nat_lit 318 :: nat_lit 320 :: nat_lit 321 :: nat_lit 322 :: nat_lit 324 :: nat_lit 325 :: nat_lit 327 :: nat_lit 328 :: nat_lit 329 :: nat_lit 331 :: nat_lit 332 :: nat_lit 334 :: nat_lit 335 :: nat_lit 336 :: nat_lit 338 :: nat_lit 339 :: nat_lit 341 :: nat_lit 342 :: nat_lit 343 :: nat_lit 345 :: nat_lit 346 :: nat_lit 348 :: nat_lit 349 :: nat_lit 350 :: nat_lit 352 :: nat_lit 353 :: nat_lit 355 :: nat_lit 356 :: nat_lit 357 :: nat_lit 359 :: nat_lit 360 :: nat_lit 362 :: nat_lit 363 :: nat_lit 364 :: nat_lit 366 :: nat_lit 367 :: nat_lit 369 :: nat_lit 370 :: nat_lit 371 :: nat_lit 373 :: nat_lit 374 :: nat_lit 376 :: nat_lit 377 :: nat_lit 378 :: nat_lit 380 :: nat_lit 381 :: nat_lit 383 :: nat_lit 384 :: nat_lit 385 :: nat_lit 387 :: nat_lit 388 :: nat_lit 390 :: nat_lit 391 :: nat_lit 392 :: nat_lit 393 :: nat_lit 394 :: nat_lit 395 :: nat_lit 396 :: nat_lit 399 :: nat_lit 401 :: nat_lit 402 :: nat_lit 404 :: nat_lit 405 :: nat_lit 406 :: nat_lit 408 :: nat_lit 409 :: nat_lit 411 :: nat_lit 412 :: nat_lit 413 :: nat_lit 415 :: nat_lit 416 :: nat_lit 418 :: nat_lit 419 :: nat_lit 420 :: nat_lit 422 :: nat_lit 423 :: nat_lit 425 :: nat_lit 426 :: nat_lit 427 :: nat_lit 429 :: nat_lit 430 :: nat_lit 432 :: nat_lit 433 :: nat_lit 434 :: nat_lit 436 :: nat_lit 437 :: nat_lit 439 :: nat_lit 440 :: nat_lit 441 :: nat_lit 443 :: nat_lit 444 :: nat_lit 446 :: nat_lit 447 :: nat_lit 448 :: nat_lit 450 :: nat_lit 451 :: nat_lit 453 :: nat_lit 454 :: nat_lit 455 :: nat_lit 457 :: nat_lit 458 :: nat_lit 460 :: nat_lit 461 :: []
theorem adr_eq (P : Params) : adr = (Kf P).map (·.1) := by kernel_rfl
theorem kc_eq (P : Params) : Kc P = (Kf P).map fun p => some p.2 := by kernel_rfl
noncomputable def vw : Program := PySem.W.view PySem.Challenge.pw_frameland_k16_pages_beyond [0, 2, 3, 4, 5, 6, 7, 9, 11, 12, 13, 14, 15, 16, 17, 18, 19, 20, 21, 22, 23, 25, 26, 28, 29, 30, 32, 33, 34, 35, 36, 37, 38, 39, 40]
noncomputable def lhs := once PySem.Challenge.pw_frameland_k16_pages_beyond vw [] (fun s => PySem.W.xlAt vw [] s && PySem.W.recOk (PySem.W.RowW.records (PySem.Challenge.rw_frameland_k16_pages_beyond).row.toRowW) s) (fun s => adr.map s.heap.get?) 8918
noncomputable def rhs (w : World) := some (true, PySem.W.openGood vw [], Kc w.params)
theorem twins : (fun (_ : World → OsState → _) (_ : World → _) => true) lhs rhs = true := by k_qdec
theorem run_all : ∀ (w : World) (os : OsState), PySem.W.Fast.tw7128866508377749982 w os = PySem.W.Fast.tw12590348191598281069 w := by intro w os; kernel_rfl
theorem left : PySem.W.LeftO PySem.Challenge.pw_frameland_k16_pages_beyond vw [] (fun s => PySem.W.xlAt vw [] s && PySem.W.recOk (PySem.W.RowW.records (PySem.Challenge.rw_frameland_k16_pages_beyond).row.toRowW) s) (fun s => adr.map s.heap.get?) (fun w => (Kf w.params).map fun p => some p.2) 8918 :=
  left_once (by kernel_rfl) (by kernel_rfl) (by intro s; kernel_rfl) fun w os => by
    rw [← kc_eq]; exact (congrFun (congrFun PySem.W.Fast.te7128866508377749982 w) os).trans ((run_all w os).trans (congrFun PySem.W.Fast.te12590348191598281069 w).symm)
end

end Pf
open PySem PySem.W PyProof.Rows
set_option maxRecDepth 100000 in
set_option maxHeartbeats 0 in
theorem PySem.Challenge.cw_frameland_k16_pages_beyond_holds : PySem.Challenge.rw_frameland_k16_pages_beyond.Holds := by
  w_on; o_law
  refine holds_open (q := Pf.vw) (loose := []) (Xt := fun s => xlAt Pf.vw [] s && recOk (RowW.records (PySem.Challenge.rw_frameland_k16_pages_beyond).row.toRowW) s) (XP := XL Pf.vw []) (Yf := Hook.obs (kHook Pf.Kf Pf.adr Pf.adr_eq)) (Ya := Hook.val (kHook Pf.Kf Pf.adr Pf.adr_eq)) (YP := Hook.says (kHook Pf.Kf Pf.adr Pf.adr_eq)) (N := 8918) Pf.left (Hook.of (kHook Pf.Kf Pf.adr Pf.adr_eq)) (Hook.keeps (kHook Pf.Kf Pf.adr Pf.adr_eq)) (fun s e => xl_of s (Bool.and_eq_true_iff.mp e).1) XL.keeps (by rfl) (by rfl) (by rfl) (fun s e => recFacts_of (Bool.and_eq_true_iff.mp e).2) (by rfl) (by first | assumption | decide +kernel) (by decide +kernel) ⟨rfl, rfl, rfl, rfl, rfl, by decide +kernel⟩ ?hw ?hc
  case hw => w_witness2
  k_fill
  refine Pf.walk (l := PySem.Challenge.rw_frameland_k16_pages_beyond) rfl rfl rfl (fun w h Y => PySem.W.kIn_of Y) ?F
  case F =>
    intro w mg h KX G
    refine' Pf.txt_mk KX G ?a_NoRow ?a_Busy ?a_NoRoom ?a_NoRight ?a_NotMapped ?a_Taken ?a_OutOfBank ?a_NoBank ?a_NoTask ?a_BadRights ?a_NoShape ?a_OutOfRoom ?a_FrameError ?a_Shape ?a_Table ?zb_ValueError ?zb_bool ?zb_enumerate ?zb_int ?zb_isinstance ?zb_len ?zb_list ?zb_range ?zb_sorted ?zb_sum ?zb_tuple ?a_is_whole_ ?l_is_whole_ ?c_is_whole_ ?k_is_whole_ ?a_is_within_ ?l_is_within_ ?c_is_within_ ?k_is_within_ ?a_power_of_two_ ?l_power_of_two_ ?c_power_of_two_ ?k_power_of_two_ ?a_check_measures_ ?l_check_measures_ ?c_check_measures_ ?k_check_measures_ ?a_look_at_ ?l_look_at_ ?c_look_at_ ?k_look_at_ ?a_put_at_ ?l_put_at_ ?c_put_at_ ?k_put_at_ ?a_drop_at_ ?l_drop_at_ ?c_drop_at_ ?k_drop_at_ ?a_depth_at_ ?l_depth_at_ ?c_depth_at_ ?k_depth_at_ ?a_count_of_ ?l_count_of_ ?c_count_of_ ?k_count_of_ ?a_told_of_ ?l_told_of_ ?c_told_of_ ?k_told_of_ ?a_l_cell_at_ ?l_l_cell_at_ ?c_l_cell_at_ ?k_l_cell_at_ ?a_l_part_ ?l_l_part_ ?c_l_part_ ?k_l_part_ ?a_l_page_ ?l_l_page_ ?c_l_page_ ?k_l_page_ ?a_l_beyond_ ?l_l_beyond_ ?c_l_beyond_ ?k_l_beyond_ ?a_l_refused_ ?l_l_refused_ ?c_l_refused_ ?k_l_refused_ ?a_l_whole_ ?l_l_whole_ ?c_l_whole_ ?k_l_whole_ ?a_l_rows_ ?l_l_rows_ ?c_l_rows_ ?k_l_rows_ ?a_l_heads_ ?l_l_heads_ ?c_l_heads_ ?k_l_heads_ ?pg_Table ?hd_Table ?po_Table ?sa_Table ?zn_Table_shape ?zn_Table_top ?mk_Table ?kc_Table ?a_Table_init_ ?i_Table_init_ ?l_Table_init_ ?c_Table_init_ ?k_Table_init_ ?a_Table_put_ ?i_Table_put_ ?l_Table_put_ ?c_Table_put_ ?k_Table_put_ ?a_Table_look_ ?i_Table_look_ ?l_Table_look_ ?c_Table_look_ ?k_Table_look_ ?a_Table_drop_ ?i_Table_drop_ ?l_Table_drop_ ?c_Table_drop_ ?k_Table_drop_ ?a_Table_told_ ?i_Table_told_ ?l_Table_told_ ?c_Table_told_ ?k_Table_told_ ?a_Table_table_count_ ?i_Table_table_count_ ?l_Table_table_count_ ?c_Table_table_count_ ?k_Table_table_count_ ?a_Table_depth_ ?i_Table_depth_ ?l_Table_depth_ ?c_Table_depth_ ?k_Table_depth_ ?pg_Shape ?hd_Shape ?po_Shape ?sa_Shape ?zn_Shape_levels ?zn_Shape_fan ?zn_Shape_grain ?zn_Shape_ways ?zn_Shape_boxes ?zn_Shape_pages ?mk_Shape ?kc_Shape ?a_Shape_init_ ?i_Shape_init_ ?l_Shape_init_ ?c_Shape_init_ ?k_Shape_init_ ?a_Shape_has_page_ ?i_Shape_has_page_ ?l_Shape_has_page_ ?c_Shape_has_page_ ?k_Shape_has_page_ ?a_Shape_check_page_ ?i_Shape_check_page_ ?l_Shape_check_page_ ?c_Shape_check_page_ ?k_Shape_check_page_ ?a_Shape_steps_ ?i_Shape_steps_ ?l_Shape_steps_ ?c_Shape_steps_ ?k_Shape_steps_ ?a_Shape_page_of_ ?i_Shape_page_of_ ?l_Shape_page_of_ ?c_Shape_page_of_ ?k_Shape_page_of_ ?zt_FrameError ?zl_FrameError ?zm_FrameError ?ze_OutOfRoom ?xg_OutOfRoom ?xq_OutOfRoom ?xb_OutOfRoom ?xh_OutOfRoom ?xa_OutOfRoom ?xn_OutOfRoom ?xt_OutOfRoom ?xm_OutOfRoom ?ze_NoShape ?zs_OutOfRoom_FrameError ?zk_OutOfRoom_OutOfRoom ?zk_OutOfRoom_ValueError ?zk_OutOfRoom_NoShape ?zk_OutOfRoom_BadRights ?zk_OutOfRoom_NoTask ?zk_OutOfRoom_NoBank ?zk_OutOfRoom_OutOfBank ?zk_OutOfRoom_Taken ?zk_OutOfRoom_NotMapped ?zk_OutOfRoom_NoRight ?zk_OutOfRoom_NoRoom ?zk_OutOfRoom_Busy ?zk_OutOfRoom_NoRow ?a_law_ ?l_law_ ?c_law_ ?k_law_
    (case a_NoRow => k_is); (case a_Busy => k_is); (case a_NoRoom => k_is); (case a_NoRight => k_is); (case a_NotMapped => k_is); (case a_Taken => k_is)
    (case a_OutOfBank => k_is); (case a_NoBank => k_is); (case a_NoTask => k_is); (case a_BadRights => k_is); (case a_NoShape => k_is); (case a_OutOfRoom => k_is)
    (case a_FrameError => k_is); (case a_Shape => k_is); (case a_Table => k_is); (case zb_ValueError => k_is); (case zb_bool => k_is); (case zb_enumerate => k_is)
    (case zb_int => k_is); (case zb_isinstance => k_is); (case zb_len => k_is); (case zb_list => k_is); (case zb_range => k_is); (case zb_sorted => k_is)
    (case zb_sum => k_is); (case zb_tuple => k_is); (case a_is_whole_ => k_is); (case l_is_whole_ => k_is); (case c_is_whole_ => k_is); (case k_is_whole_ => k_is)
    (case a_is_within_ => k_is); (case l_is_within_ => k_is); (case c_is_within_ => k_is); (case k_is_within_ => k_is); (case a_power_of_two_ => k_is); (case l_power_of_two_ => k_is)
    (case c_power_of_two_ => k_is); (case k_power_of_two_ => k_is); (case a_check_measures_ => k_is); (case l_check_measures_ => k_is); (case c_check_measures_ => k_is); (case k_check_measures_ => k_is)
    (case a_look_at_ => k_is); (case l_look_at_ => k_is); (case c_look_at_ => k_is); (case k_look_at_ => k_is); (case a_put_at_ => k_is); (case l_put_at_ => k_is)
    (case c_put_at_ => k_is); (case k_put_at_ => k_is); (case a_drop_at_ => k_is); (case l_drop_at_ => k_is); (case c_drop_at_ => k_is); (case k_drop_at_ => k_is)
    (case a_depth_at_ => k_is); (case l_depth_at_ => k_is); (case c_depth_at_ => k_is); (case k_depth_at_ => k_is); (case a_count_of_ => k_is); (case l_count_of_ => k_is)
    (case c_count_of_ => k_is); (case k_count_of_ => k_is); (case a_told_of_ => k_is); (case l_told_of_ => k_is); (case c_told_of_ => k_is); (case k_told_of_ => k_is)
    (case a_l_cell_at_ => k_is); (case l_l_cell_at_ => k_is); (case c_l_cell_at_ => k_is); (case k_l_cell_at_ => k_is); (case a_l_part_ => k_is); (case l_l_part_ => k_is)
    (case c_l_part_ => k_is); (case k_l_part_ => k_is); (case a_l_page_ => k_is); (case l_l_page_ => k_is); (case c_l_page_ => k_is); (case k_l_page_ => k_is)
    (case a_l_beyond_ => k_is); (case l_l_beyond_ => k_is); (case c_l_beyond_ => k_is); (case k_l_beyond_ => k_is); (case a_l_refused_ => k_is); (case l_l_refused_ => k_is)
    (case c_l_refused_ => k_is); (case k_l_refused_ => k_is); (case a_l_whole_ => k_is); (case l_l_whole_ => k_is); (case c_l_whole_ => k_is); (case k_l_whole_ => k_is)
    (case a_l_rows_ => k_is); (case l_l_rows_ => k_is); (case c_l_rows_ => k_is); (case k_l_rows_ => k_is); (case a_l_heads_ => k_is); (case l_l_heads_ => k_is)
    (case c_l_heads_ => k_is); (case k_l_heads_ => k_is); (case pg_Table => k_is); (case hd_Table => k_is); (case po_Table => k_is); (case sa_Table => k_is)
    (case zn_Table_shape => k_is); (case zn_Table_top => k_is); (case mk_Table => k_is); (case kc_Table => k_is); (case a_Table_init_ => k_is); (case i_Table_init_ => k_is)
    (case l_Table_init_ => k_is); (case c_Table_init_ => k_is); (case k_Table_init_ => k_is); (case a_Table_put_ => k_is); (case i_Table_put_ => k_is); (case l_Table_put_ => k_is)
    (case c_Table_put_ => k_is); (case k_Table_put_ => k_is); (case a_Table_look_ => k_is); (case i_Table_look_ => k_is); (case l_Table_look_ => k_is); (case c_Table_look_ => k_is)
    (case k_Table_look_ => k_is); (case a_Table_drop_ => k_is); (case i_Table_drop_ => k_is); (case l_Table_drop_ => k_is); (case c_Table_drop_ => k_is); (case k_Table_drop_ => k_is)
    (case a_Table_told_ => k_is); (case i_Table_told_ => k_is); (case l_Table_told_ => k_is); (case c_Table_told_ => k_is); (case k_Table_told_ => k_is); (case a_Table_table_count_ => k_is)
    (case i_Table_table_count_ => k_is); (case l_Table_table_count_ => k_is); (case c_Table_table_count_ => k_is); (case k_Table_table_count_ => k_is); (case a_Table_depth_ => k_is); (case i_Table_depth_ => k_is)
    (case l_Table_depth_ => k_is); (case c_Table_depth_ => k_is); (case k_Table_depth_ => k_is); (case pg_Shape => k_is); (case hd_Shape => k_is); (case po_Shape => k_is)
    (case sa_Shape => k_is); (case zn_Shape_levels => k_is); (case zn_Shape_fan => k_is); (case zn_Shape_grain => k_is); (case zn_Shape_ways => k_is); (case zn_Shape_boxes => k_is)
    (case zn_Shape_pages => k_is); (case mk_Shape => k_is); (case kc_Shape => k_is); (case a_Shape_init_ => k_is); (case i_Shape_init_ => k_is); (case l_Shape_init_ => k_is)
    (case c_Shape_init_ => k_is); (case k_Shape_init_ => k_is); (case a_Shape_has_page_ => k_is); (case i_Shape_has_page_ => k_is); (case l_Shape_has_page_ => k_is); (case c_Shape_has_page_ => k_is)
    (case k_Shape_has_page_ => k_is); (case a_Shape_check_page_ => k_is); (case i_Shape_check_page_ => k_is); (case l_Shape_check_page_ => k_is); (case c_Shape_check_page_ => k_is); (case k_Shape_check_page_ => k_is)
    (case a_Shape_steps_ => k_is); (case i_Shape_steps_ => k_is); (case l_Shape_steps_ => k_is); (case c_Shape_steps_ => k_is); (case k_Shape_steps_ => k_is); (case a_Shape_page_of_ => k_is)
    (case i_Shape_page_of_ => k_is); (case l_Shape_page_of_ => k_is); (case c_Shape_page_of_ => k_is); (case k_Shape_page_of_ => k_is); (case zt_FrameError => k_is); (case zl_FrameError => k_is)
    (case zm_FrameError => k_is); (case ze_OutOfRoom => k_exc); (case xg_OutOfRoom => k_is); (case xq_OutOfRoom => k_is); (case xb_OutOfRoom => k_is); (case xh_OutOfRoom => k_is)
    (case xa_OutOfRoom => k_is); (case xn_OutOfRoom => k_is); (case xt_OutOfRoom => k_is); (case xm_OutOfRoom => k_is); (case ze_NoShape => k_exc); (case zs_OutOfRoom_FrameError => k_is)
    (case zk_OutOfRoom_OutOfRoom => kit_is); (case zk_OutOfRoom_ValueError => kit_is); (case zk_OutOfRoom_NoShape => kit_is); (case zk_OutOfRoom_BadRights => kit_is); (case zk_OutOfRoom_NoTask => kit_is); (case zk_OutOfRoom_NoBank => kit_is)
    (case zk_OutOfRoom_OutOfBank => kit_is); (case zk_OutOfRoom_Taken => kit_is); (case zk_OutOfRoom_NotMapped => kit_is); (case zk_OutOfRoom_NoRight => kit_is); (case zk_OutOfRoom_NoRoom => kit_is); (case zk_OutOfRoom_Busy => kit_is)
    (case zk_OutOfRoom_NoRow => kit_is); (case a_law_ => k_is); (case l_law_ => k_is); (case c_law_ => k_is); (case k_law_ => k_is)
