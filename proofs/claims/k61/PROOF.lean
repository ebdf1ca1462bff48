import PyProof.Rows.All
import Wide.All
import OpenK.AllK
import Wide.FinOn
import Lean
import PyProof.EqAt
import PyProof.EqKinds
import PyProof.TupleCall
import PyProof.NeKinds
import PyProof.EnumMake
import PyProof.EnumStmt
import PyProof.LayNew
import KE.KDictLaws
import KE.KDictSum
import KE.LcSums
import PyProof.Rows.SumAny
import PyProof.Rows.SortWalk
import PyProof.DictWalks
import PyProof.Rows.SortRev
import KE.KRevIter
import KE.KIntText
import PyProof.CallStr
import PyProof.StrCalls2
import PyProof.Rows.StrJoin2
import PyProof.StrWalks
import PySem.Challenge.RW_frameland_k61_empty_frames_first
set_option Elab.async false
set_option linter.all false
set_option maxRecDepth 100000
namespace L2
open PySem PySem.Spec PyProof.Rows
/-- a key: an int or a str -/
abbrev Key := Sum Int Str
def keyIs : Key → Value → Bool
  | .inl k, v => Value.isInt k v
  | .inr x, v => Value.isStrOf x v
def keyH (w : World) : Key → Int
  | .inl k => hashInt k
  | .inr x => hashStr w x
theorem keyIs_shape : ∀ {k : Key} {v : Value}, keyIs k v = true → (∃ i t, k = Sum.inl i ∧ v = Value.int i t) ∨ (∃ x t, k = Sum.inr x ∧ v = Value.str x t)
  | .inl i, v, h => by
    obtain ⟨t, e⟩ := Value.isInt_shape (k := i) (v := v) h
    exact .inl ⟨i, t, rfl, e⟩
  | .inr x, v, h => by
    obtain ⟨t, e⟩ := Value.isStrOf_shape (x := x) (v := v) h
    exact .inr ⟨x, t, rfl, e⟩
theorem keyIs_int (i : Int) (t : Tok) : keyIs (.inl i) (.int i t) = true := by simp [keyIs, Value.isInt]
theorem keyIs_str (x : Str) (t : Tok) : keyIs (.inr x) (.str x t) = true := by simp [keyIs, Value.isStrOf]
theorem key_ll (a b : Int) : decide ((Sum.inl a : Key) = Sum.inl b) = (a == b) := by
  by_cases e : a = b
  · subst e; simp
  · have h : ¬ (Sum.inl a : Key) = Sum.inl b := fun q => e (Sum.inl.inj q)
    rw [decide_eq_false h]
    exact (beq_eq_false_iff_ne.mpr e).symm
theorem key_rr (a b : Str) : decide ((Sum.inr a : Key) = Sum.inr b) = decide (a = b) := by
  by_cases e : a = b
  · subst e; simp
  · have h : ¬ (Sum.inr a : Key) = Sum.inr b := fun q => e (Sum.inr.inj q)
    rw [decide_eq_false h, decide_eq_false e]
theorem key_lr (a : Int) (b : Str) : decide ((Sum.inl a : Key) = Sum.inr b) = false := decide_eq_false (fun q => nomatch q)
theorem key_rl (a : Str) (b : Int) : decide ((Sum.inr a : Key) = Sum.inl b) = false := decide_eq_false (fun q => nomatch q)
def mixKind (prog : Program) (w : World) : PySem.KeyKind prog w Key where
  is := keyIs
  hash := keyH w
  inj := fun v a b ha hb => by
    rcases keyIs_shape ha with ⟨i, t, rfl, rfl⟩ | ⟨x, t, rfl, rfl⟩
    · rcases keyIs_shape hb with ⟨j, u, rfl, e⟩ | ⟨y, u, rfl, e⟩
      · injection e with e1 _; rw [e1]
      · exact nomatch e
    · rcases keyIs_shape hb with ⟨j, u, rfl, e⟩ | ⟨y, u, rfl, e⟩
      · exact nomatch e
      · injection e with e1 _; rw [e1]
  byValue := fun k v h => by
    rcases keyIs_shape h with ⟨i, t, rfl, rfl⟩ | ⟨x, t, rfl, rfl⟩ <;> rfl
  pyHash := fun hv h => by
    rcases keyIs_shape hv with ⟨i, t, rfl, rfl⟩ | ⟨x, t, rfl, rfl⟩
    · exact wpAny_pyHash_int h
    · exact wpAny_pyHash_str h
  eqBool := fun hu hv h => by
    rcases keyIs_shape hu with ⟨i, t, rfl, rfl⟩ | ⟨x, t, rfl, rfl⟩
    · rcases keyIs_shape hv with ⟨j, u, rfl, rfl⟩ | ⟨y, u, rfl, rfl⟩
      · rw [key_ll] at h; exact wpAny_eqBool_int h
      · rw [key_lr] at h; exact SeqAt.EqAt.int_str i t y u _ _ _ _ h
    · rcases keyIs_shape hv with ⟨j, u, rfl, rfl⟩ | ⟨y, u, rfl, rfl⟩
      · rw [key_rl] at h; exact SeqAt.EqAt.str_int x t j u _ _ _ _ h
      · rw [key_rr] at h; exact wpAny_eqBool_str h
  «strs» := fun k x t v h => by
    rcases keyIs_shape h with ⟨i, u, rfl, e⟩ | ⟨y, u, rfl, e⟩
    · exact nomatch e
    · injection e with e1 _
      subst e1
      cases v <;> rfl
theorem mixKind_int (prog : Program) (w : World) (i : Int) (t : Tok) : (mixKind prog w).is (.inl i) (.int i t) = true := keyIs_int i t
theorem mixKind_str (prog : Program) (w : World) (x : Str) (t : Tok) : (mixKind prog w).is (.inr x) (.str x t) = true := keyIs_str x t
end L2
namespace L2
open PySem PySem.Spec PyProof.Rows
/-- a value, without the heap -/
inductive V where
  | non | bl (b : Bool) | int (i : Int) | str (x : Str) | byt (b : Array UInt8) | flt (b : UInt64) | ref (a : Addr) | ty (n : String)
  deriving DecidableEq
def RelV : V → Value → Prop
  | .non, u => u = Value.none
  | .bl b, u => u = Value.bool b
  | .int i, u => ∃ t, u = Value.int i t
  | .str x, u => ∃ t, u = Value.str x t
  | .byt b, u => ∃ t, u = Value.bytes b t
  | .flt b, u => ∃ t, u = Value.float b t
  | .ref a, u => u = Value.ref a
  | .ty n, u => u = Value.type n
abbrev Vals : List V → List Value → Prop := Paired RelV
theorem Vals.length {xs : List V} {us : List Value} (r : Vals xs us) : xs.length = us.length := Paired.length r
theorem Vals.get : ∀ {xs : List V} {us : List Value} {i : Nat} {x : V}, Vals xs us → xs[i]? = some x → ∃ u, us[i]? = some u ∧ RelV x u
  | _, _, _, _, .nil, e => by simp at e
  | _, _, 0, _, .cons r _, e => by simp at e; subst e; exact ⟨_, rfl, r⟩
  | _, _, i + 1, x, .cons _ t, e => by
    obtain ⟨u, h1, h2⟩ := Vals.get (i := i) (x := x) t (by simpa using e)
    exact ⟨u, by simpa using h1, h2⟩
theorem Vals.set {x : V} {u : Value} (r : RelV x u) : ∀ {xs : List V} {us : List Value} (i : Nat), Vals xs us → Vals (xs.set i x) (us.set i u)
  | _, _, _, .nil => .nil
  | _, _, 0, .cons _ t => .cons r t
  | _, _, i + 1, .cons q t => .cons q (Vals.set r i t)
theorem Vals.append : ∀ {xs ys : List V} {us ws : List Value}, Vals xs us → Vals ys ws → Vals (xs ++ ys) (us ++ ws)
  | _, _, _, _, .nil, s => s
  | _, _, _, _, .cons r t, s => .cons r (Vals.append t s)
theorem Vals.take : ∀ {xs : List V} {us : List Value} (n : Nat), Vals xs us → Vals (xs.take n) (us.take n)
  | _, _, 0, _ => .nil
  | _, _, _ + 1, .nil => .nil
  | _, _, n + 1, .cons r t => .cons r (Vals.take n t)
theorem Vals.drop : ∀ {xs : List V} {us : List Value} (n : Nat), Vals xs us → Vals (xs.drop n) (us.drop n)
  | _, _, 0, r => r
  | _, _, _ + 1, .nil => .nil
  | _, _, n + 1, .cons _ t => Vals.drop n t
def RelO : Option V → Option Value → Prop
  | some v, some u => RelV v u
  | none, none => True
  | _, _ => False
def KV {κ : Type} : List (κ × V) → List (κ × Value) → Prop := Paired fun (p : κ × V) (q : κ × Value) => p.1 = q.1 ∧ RelV p.2 q.2
/-- a key of a dict (00_mix): an int or a text -/
def kV : Key → V
  | .inl i => .int i
  | .inr x => .str x
/-- what stands at a tracked address -/
inductive HO where
  /-- a list -/
  | lst (xs : List V)
  /-- a tuple (never changes) -/
  | tup (xs : List V)
  /-- a dict whose keys are ints and texts; one whose keys are tuples of ints and texts (the empty one is both) -/
  | dK (kvs : List (Key × V)) | dT (kvs : List (List Key × V))
  /-- a set of ints: its members, its size -/
  | set (S : Int → Bool) (n : Nat)
  /-- an instance of the class at C, its dict at dx, its attributes -/
  | ins (C dx : Addr) (fs : List (Str × V))
  /-- the dict of the instance at x -/
  | own (x : Addr)
  /-- the dict of an exception -/
  | xd (fs : List (Str × V))
  /-- a bound method, f of x -/
  | met (f x : Addr)
  /-- a range object lo, lo + 1, .. below hi -/
  | rng (lo hi : Int)
  /-- a thing that is known to the object (the script; a dict while a loop walks it): read, never written while it is so -/
  | frz (o : Obj) (u : HO)
  /-- a code object's table -/
  | tbl (ps : Array Value)
  /-- any other thing, by what is true of its one object (a def of one's own: SetO a S n := HO.ext fun h => ..) -/
  | ext (φ : Heap → Prop)
abbrev Hp := Addr → Option HO
def upd (H : Hp) (a : Addr) (o : HO) : Hp := fun b => if b = a then some o else H b
theorem upd_same {H : Hp} {a : Addr} {o : HO} : upd H a o a = some o := by unfold upd; rw [if_pos rfl]
theorem upd_ne {H : Hp} {a b : Addr} {o : HO} (h : b ≠ a) : upd H a o b = H b := by unfold upd; rw [if_neg h]
theorem upd_upd {H : Hp} {a : Addr} {o u : HO} : upd (upd H a o) a u = upd H a u := by
  funext b; unfold upd; split <;> rfl
/-- two objects of different content stand apart -/
theorem ne_of {H : Hp} {a b : Addr} {o u : HO} (h : H a = some o) (h' : H b = some u) (d : o ≠ u) : a ≠ b := by
  intro e; subst e; rw [h] at h'; exact d (Option.some.inj h')
theorem ne_of_none {H : Hp} {a b : Addr} {o : HO} (h : H a = some o) (h' : H b = none) : a ≠ b := by
  intro e; subst e; rw [h] at h'; cases h'
section
variable (P : Program) (w : World)
def ObjOk (H : Hp) (h : Heap) (a : Addr) : HO → Prop
  | .lst xs => xs.length ≤ sizeLine ∧ ∃ (its : List Value) (n : Nat), Vals xs its ∧ h.get? a = some { cls := .type "list", data := .seq its.toArray n }
  | .tup xs => xs.length ≤ sizeLine ∧ ∃ its : List Value, Vals xs its ∧ IsTup h a its.toArray
  | .dK kvs => kvs.length ≤ sizeLine ∧ (a == sysModules) = false ∧ ∃ vs, KV kvs vs ∧ h.DictOf (mixKind P w) a vs
  | .dT kvs => kvs.length ≤ sizeLine ∧ (a == sysModules) = false ∧ ∃ xs : List (List Key × Addr × Value),
      Paired (fun (p : List Key × V) (q : List Key × Addr × Value) => p.1 = q.1 ∧ H q.2.1 = some (.tup (p.1.map kV)) ∧ RelV p.2 q.2.2) kvs xs ∧
      ∃ o es ep, h.get? a = some o ∧ o.ExactDict ∧ o.data = .dict es ep ∧ es.toList = xs.map (entryOfKey (tupleKind (mixKind P w))) ∧ (xs.map (·.1)).Nodup
  | .set S n => h.SetOf (intKind P w) a S n
  | .ins C dx fs => H dx = some (.own a) ∧ fs.length ≤ 1000 ∧ dx ≠ a ∧ h.get? a = some (PySem.W.instObj C dx) ∧
      ∃ mA, h.Ns1 dx mA ∧ (∀ f, RelO (fs.lookup f) (mA f)) ∧ PySem.Within mA (fs.map (·.1))
  | .own _ => ∃ o, h.get? a = some o
  | .xd fs => ∃ mA, h.Ns1 a mA ∧ ∀ f, RelO (fs.lookup f) (mA f)
  | .rng lo hi => ∃ t u v, h.get? a = some { cls := .type "range", data := .fields #[.int lo t, .int hi u, .int 1 v] }
  | .frz o u => h.get? a = some o ∧ ObjOk H h a u
  | .tbl ps => h.get? a = some { cls := .none, data := .fields ps }
  | .met f x => h.get? a = some (PySem.W.methodObj (.ref f) (.ref x))
  | .ext φ => φ h ∧ (∃ o, h.get? a = some o) ∧ ∀ h1 h2 : Heap, φ h1 → (∀ o, h1.get? a = some o → h2.get? a = some o) → φ h2
/-- the abstract heap is held -/
def HOk (H : Hp) (h : Heap) : Prop := ∀ a o, H a = some o → ObjOk P w H h a o
end
section
variable {P : Program} {w : World} {H H' : Hp} {h h' : Heap} {a : Addr} {o : HO}
theorem ObjOk.lt (x : ObjOk P w H h a o) : a < h.objs.size := by
  cases o with
  | lst xs => obtain ⟨_, _, _, _, e⟩ := x; exact Heap.lt_size e
  | tup xs => obtain ⟨_, _, _, p⟩ := x; exact p.lt
  | dK kvs => obtain ⟨_, _, _, _, o, _, _, e, _⟩ := x; exact Heap.lt_size e
  | dT kvs => obtain ⟨_, _, _, _, o, _, _, e, _⟩ := x; exact Heap.lt_size e
  | set S n => obtain ⟨o, _, _, _, e, _⟩ := x; exact Heap.lt_size e
  | ins C dx fs => obtain ⟨_, _, _, e, _⟩ := x; exact Heap.lt_size e
  | own y => obtain ⟨_, e⟩ := x; exact Heap.lt_size e
  | xd fs => obtain ⟨_, ⟨_, _, _, e, _⟩, _⟩ := x; exact Heap.lt_size e
  | rng lo hi => obtain ⟨_, _, _, e⟩ := x; exact Heap.lt_size e
  | frz ob u => obtain ⟨e, _⟩ := x; exact Heap.lt_size e
  | tbl ps => exact Heap.lt_size (show h.get? a = some _ from x)
  | met f y => exact Heap.lt_size (show h.get? a = some _ from x)
  | ext φ => obtain ⟨_, ⟨_, e⟩, _⟩ := x; exact Heap.lt_size e
theorem Paired.mapP {α β : Type} {F G : α → β → Prop} : ∀ {l₁ : List α} {l₂ : List β}, Paired F l₁ l₂ → (∀ a b, F a b → G a b) → Paired G l₁ l₂
  | _, _, .nil, _ => .nil
  | _, _, .cons r t, f => .cons (f _ _ r) (Paired.mapP t f)
/-- what an object's description leans on: its own object, its own dict, the tuples -/
theorem ObjOk.stay (x : ObjOk P w H h a o) (k : ∀ b u, (b = a ∨ H b = some (.own a)) → h.get? b = some u → h'.get? b = some u)
    (ho : ∀ b, H b = some (.own a) → H' b = some (.own a)) (ht : ∀ b xs, H b = some (.tup xs) → H' b = some (.tup xs)) : ObjOk P w H' h' a o := by
  induction o with
  | lst xs => obtain ⟨z, its, n, r, e⟩ := x; exact ⟨z, its, n, r, k _ _ (.inl rfl) e⟩
  | tup xs => obtain ⟨z, its, r, ob, e, c⟩ := x; exact ⟨z, its, r, ob, k _ _ (.inl rfl) e, c⟩
  | dK kvs => obtain ⟨z, y, vs, r, ob, es, ep, e, c⟩ := x; exact ⟨z, y, vs, r, ob, es, ep, k _ _ (.inl rfl) e, c⟩
  | dT kvs =>
    obtain ⟨z, y, xs, r, ob, es, ep, e, c⟩ := x
    exact ⟨z, y, xs, Paired.mapP r fun p q z => ⟨z.1, ht _ _ z.2.1, z.2.2⟩, ob, es, ep, k _ _ (.inl rfl) e, c⟩
  | set S n => obtain ⟨ob, es, ep, t, e, c⟩ := x; exact ⟨ob, es, ep, t, k _ _ (.inl rfl) e, c⟩
  | ins C dx fs =>
    obtain ⟨d, z, ne, e, mA, ⟨od, es, ep, e2, c⟩, r⟩ := x
    exact ⟨ho _ d, z, ne, k _ _ (.inl rfl) e, mA, ⟨od, es, ep, k _ _ (.inr d) e2, c⟩, r⟩
  | own y => obtain ⟨ob, e⟩ := x; exact ⟨ob, k _ _ (.inl rfl) e⟩
  | xd fs => obtain ⟨mA, ⟨od, es, ep, e, c⟩, r⟩ := x; exact ⟨mA, ⟨od, es, ep, k _ _ (.inl rfl) e, c⟩, r⟩
  | rng lo hi => obtain ⟨t, u, v, e⟩ := x; exact ⟨t, u, v, k _ _ (.inl rfl) e⟩
  | frz ob u ih => obtain ⟨e, q⟩ := x; exact ⟨k _ _ (.inl rfl) e, ih q⟩
  | tbl ps =>
    have e : h.get? a = some { cls := .none, data := .fields ps } := x
    show h'.get? a = some { cls := .none, data := .fields ps }
    exact k a _ (.inl rfl) e
  | met f y =>
    have e : h.get? a = some (PySem.W.methodObj (.ref f) (.ref y)) := x
    show h'.get? a = some (PySem.W.methodObj (.ref f) (.ref y))
    exact k a _ (.inl rfl) e
  | ext φ => obtain ⟨p, ⟨o, e⟩, st⟩ := x; exact ⟨st _ _ p fun o q => k _ _ (.inl rfl) q, ⟨o, k _ _ (.inl rfl) e⟩, st⟩
theorem HOk.lt (x : HOk P w H h) (e : H a = some o) : a < h.objs.size := (x a o e).lt
theorem HOk.fresh (x : HOk P w H h) (e : h.objs.size ≤ a) : H a = none := by
  cases q : H a with
  | none => rfl
  | some u => exact absurd (Nat.lt_of_lt_of_le (x.lt q) e) (Nat.lt_irrefl _)
/-- every object of the heap is kept -/
theorem HOk.kept (x : HOk P w H h) (k : ∀ b u, h.get? b = some u → h'.get? b = some u) : HOk P w H h' := fun a o e =>
  (x a o e).stay (fun b u _ q => k b u q) (fun _ q => q) fun _ _ q => q
/-- a new object is laid and tracked -/
theorem HOk.laid (x : HOk P w H h) (k : ∀ b u, h.get? b = some u → h'.get? b = some u) (hp : h.objs.size ≤ a) (new : ObjOk P w (upd H a o) h' a o) : HOk P w (upd H a o) h' := fun b u e => by
  have hn := x.fresh hp
  by_cases hb : b = a
  · subst hb; rw [upd_same] at e; cases e; exact new
  · rw [upd_ne hb] at e
    exact (x b u e).stay (fun c v _ q => k c v q) (fun c q => by rw [upd_ne (ne_of_none q hn)]; exact q) fun c xs q => by rw [upd_ne (ne_of_none q hn)]; exact q
end
/-- what may be read as u: it is u, or a known u -/
def Rd (H : Hp) (a : Addr) (u : HO) : Prop := H a = some u ∨ ∃ o, H a = some (.frz o u)
theorem Rd.of {H : Hp} {a : Addr} {u : HO} (h : H a = some u) : Rd H a u := .inl h
theorem Rd.ok {P : Program} {w : World} {H : Hp} {h : Heap} {a : Addr} {u : HO} (r : Rd H a u) (x : HOk P w H h) : ObjOk P w H h a u := by
  rcases r with r | ⟨o, r⟩
  · exact x a u r
  · obtain ⟨_, q⟩ := x a _ r
    exact q
/-- what may be written -/
def Mut : Option HO → Prop
  | some (.lst _) => True
  | some (.dK _) => True
  | some (.dT _) => True
  | some (.set _ _) => True
  | some (.ins _ _ _) => True
  | some (.ext _) => True
  | _ => False
section
variable {P : Program} {w : World} {H : Hp} {h h' : Heap} {x e : Addr} {o' : HO}
/-- the object at e is changed: x itself, or the dict of the instance x -/
theorem HOk.write (ok : HOk P w H h) (mu : Mut (H x)) (he : e = x ∨ H e = some (.own x)) (k : ∀ b u, b ≠ e → h.get? b = some u → h'.get? b = some u) (heo : ∃ u, h'.get? e = some u)
    (new : ObjOk P w (upd H x o') h' x o') : HOk P w (upd H x o') h' := fun b u q => by
  have nown : ∀ c y, H c = some (.own y) → c ≠ x := fun c y r z => by subst z; rw [r] at mu; exact mu
  have ntup : ∀ c xs, H c = some (.tup xs) → c ≠ x := fun c xs r z => by subst z; rw [r] at mu; exact mu
  by_cases hb : b = x
  · subst hb; rw [upd_same] at q; cases q; exact new
  · rw [upd_ne hb] at q
    by_cases hbe : b = e
    · have q' : H b = some (.own x) := by
        rcases he with z | z
        · exact absurd (hbe.trans z) hb
        · rw [hbe]; exact z
      rw [q] at q'; cases q'
      obtain ⟨v, hv⟩ := heo
      exact ⟨v, by rw [hbe]; exact hv⟩
    · refine (ok b u q).stay (fun c v hc r => k c v ?_ r) (fun c r => by rw [upd_ne (nown c b r)]; exact r) fun c xs r => by rw [upd_ne (ntup c xs r)]; exact r
      rcases hc with rfl | hc
      · exact hbe
      · rintro rfl
        rcases he with z | z
        · exact nown c b hc z
        · rw [hc] at z; cases z; exact hb rfl
end
/-! ### kept unless tracked; of the frames at fs (the callers') the slots may change (an exception that passes writes there); of the records at ex (iterators) nothing is said -/
structure Un (fs ex : List Addr) (H H' : Hp) (h h' : Heap) : Prop where
  keep : ∀ b o, h.get? b = some o → H b = none → b ∉ fs → b ∉ ex → h'.get? b = some o
  slot : ∀ b o, h.get? b = some o → H b = none → b ∈ fs → b ∉ ex → ∃ sl, h'.get? b = some { o with slots := sl }
  free : ∀ b o, h.get? b = some o → H b = none → b ∉ ex → H' b = none
  there : ∀ b o, h.get? b = some o → b ∉ ex → ∃ o', h'.get? b = some o'
  tups : ∀ b xs, H b = some (.tup xs) → H' b = some (.tup xs)
  frzs : ∀ b o u, H b = some (.frz o u) → H' b = some (.frz o u)
  tbls : ∀ b ps, H b = some (.tbl ps) → ∃ more, H' b = some (.tbl (ps ++ more))
section
variable {fs fs' ex ex' : List Addr} {H H1 H2 : Hp} {h h1 h2 h' : Heap} {a x e : Addr} {o : HO}
theorem Un.any (u : Un fs ex H H1 h h1) {b : Addr} {ob : Obj} (q : h.get? b = some ob) (n : H b = none) (hx : b ∉ ex) : ∃ sl, h1.get? b = some { ob with slots := sl } := by
  by_cases hb : b ∈ fs
  · exact u.slot b ob q n hb hx
  · exact ⟨ob.slots, u.keep b ob q n hb hx⟩
theorem Un.kept (k : ∀ b u, h.get? b = some u → h'.get? b = some u) : Un fs ex H H h h' :=
  ⟨fun b ob q _ _ _ => k b ob q, fun b ob q _ _ _ => ⟨ob.slots, k b ob q⟩, fun _ _ _ n _ => n, fun b ob q _ => ⟨ob, k b ob q⟩, fun _ _ q => q, fun _ _ _ q => q, fun _ ps q => ⟨#[], by rw [q]; simp⟩⟩
theorem Un.refl : Un fs ex H H h h := Un.kept fun _ _ q => q
theorem Un.laid (k : ∀ b u, h.get? b = some u → h'.get? b = some u) (hp : h.objs.size ≤ a) (hn : H a = none) : Un fs ex H (upd H a o) h h' where
  keep := fun b u q _ _ _ => k b u q
  slot := fun b u q _ _ _ => ⟨u.slots, k b u q⟩
  free := fun b u q n _ => by rw [upd_ne (Nat.ne_of_lt (Nat.lt_of_lt_of_le (Heap.lt_size q) hp))]; exact n
  there := fun b u q _ => ⟨u, k b u q⟩
  tups := fun b xs q => by rw [upd_ne (ne_of_none q hn)]; exact q
  frzs := fun b u xs q => by rw [upd_ne (ne_of_none q hn)]; exact q
  tbls := fun b ps q => ⟨#[], by rw [upd_ne (ne_of_none q hn), q]; simp⟩
theorem Un.write (mu : Mut (H x)) (he : e = x ∨ H e = some (.own x)) (k : ∀ b u, b ≠ e → h.get? b = some u → h'.get? b = some u) (heo : ∃ u, h'.get? e = some u) : Un fs ex H (upd H x o) h h' := by
  have hx : ∀ b, H b = none → b ≠ x := fun b n z => by subst z; rw [n] at mu; exact mu
  have hb : ∀ b, H b = none → b ≠ e := fun b n z => by
    subst z
    rcases he with r | r
    · exact hx b n r
    · rw [n] at r; cases r
  have hm : ∀ b u, H b = some u → ¬ Mut (some u) → b ≠ x := fun b u q nm z => by subst z; rw [q] at mu; exact nm mu
  refine ⟨fun b u q n _ _ => k b u (hb b n) q, fun b u q n _ _ => ⟨u.slots, k b u (hb b n) q⟩, fun b u q n _ => by rw [upd_ne (hx b n)]; exact n, fun b u q _ => ?_,
    fun b xs q => by rw [upd_ne (hm b _ q fun z => z)]; exact q, fun b u xs q => by rw [upd_ne (hm b _ q fun z => z)]; exact q, fun b ps q => ⟨#[], by rw [upd_ne (hm b _ q fun z => z), q]; simp⟩⟩
  by_cases hbe : b = e
  · subst hbe; exact heo
  · exact ⟨u, k b u hbe q⟩
end
/-! ### the heap without what is tracked -/
def trk (h : Heap) (H : Hp) : List Addr := (List.range h.objs.size).filter fun a => (H a).isSome
def hidT (h : Heap) (H : Hp) : Heap := PySem.W.hideAll h (trk h H)
theorem hidT_size (h : Heap) (H : Hp) : (hidT h H).objs.size = h.objs.size := PySem.W.hideAll_size _ _
theorem hidT_get {h : Heap} {H : Hp} {b : Addr} {o : Obj} (e : h.get? b = some o) (n : H b = none) : (hidT h H).get? b = some o :=
  PySem.W.hideAll_get _ e fun hm => by
    have q : (H b).isSome = true := (List.mem_filter.mp hm).2
    rw [n] at q; simp at q
theorem of_hidT {h : Heap} {H : Hp} {b : Addr} {o : Obj} (e : (hidT h H).get? b = some o) : h.get? b = some o ∧ H b = none := by
  have e' : h.get? b = some o := PySem.W.of_hideAll (trk h H) e
  refine ⟨e', ?_⟩
  cases q : H b with
  | none => rfl
  | some x =>
    have hm : b ∈ trk h H := List.mem_filter.mpr ⟨List.mem_range.mpr (Heap.lt_size e'), by simp [q]⟩
    have z : (hidT h H).get? b = none := PySem.W.hideAll_none (trk h H) hm
    rw [z] at e; cases e
/-! ### OpenK's ledger, filled with every new object but one -/
def allNews (g h : Heap) (L : Addr) : List (Addr × Obj) := (List.range h.objs.size).filterMap fun a => if a = L ∨ (g.get? a).isSome = true then none else (h.get? a).map fun o => (a, o)
def rest (g h : Heap) (L d : Addr) : List (Addr × Obj) := (allNews g h L).filter fun p => decide (p.1 ≠ d)
end L2
namespace L2
open PySem PySem.Spec PyProof.Rows
/-- the module's facts, over the base: the heap at the law's entry without what is tracked there -/
structure Mod (K : PySem.W.Frag) (mg : Str → Option Value) (base : Heap) : Prop where
  kin : K.In base
  glob : base.Ns mainGlobals mg
  blt : ∃ mb, base.Ns builtinsNs mb ∧ ∀ x : Str, x ≠ "__name__" → mb x = bootBuiltins x
  nolimit : base.NoLimit
/-- the context: a def's body (or a comprehension's block) running. base: fixed through the whole law; s₀, H₀: the entry; outer: the frames whose slots others may change (a def's callers); stack: all frames that run;
   ex: iterators that were made ahead of the entry and are walked here (a comprehension's); fn: the names whose cells were made at the entry (a def: all; a comprehension's block: its own); calm: not within an except suite; pn: pins that every state bears; xe: what is wanted of an exception that leaves the code -/
structure Cx where
  prog : Program
  w : World
  K : PySem.W.Frag
  mg : Str → Option Value
  base : Heap
  A : Around
  N : List Str
  s₀ : Shared
  H₀ : Hp
  env : Env
  outer : List Env
  stack : List Env
  ex : List Addr
  fn : Str → Bool
  calm : Bool
  pn : List (Addr × Obj)
  xe : Value → Shared → Prop
/-- the callers' frames -/
def frs (l : List Env) : List Addr := l.filterMap (·.frame)
abbrev Cx.fs (X : Cx) : List Addr := frs X.outer
def Vis (sc : Scope) (x : Str) : Prop := sc.names.lookup x = some .local ∨ sc.names.lookup x = some .cell ∨ sc.names.lookup x = some .free
def Loc (sc : Scope) (x : Str) : Prop := sc.names.lookup x = some .local ∨ sc.names.lookup x = some .cell
def Look (env : Env) (h : Heap) (m : Str → Option Value) (x : Str) (u : Value) : Prop :=
  (env.kindOf x = some .local ∧ m x = some u) ∨ ((env.kindOf x = some .cell ∨ env.kindOf x = some .free) ∧ ∃ c, env.cells.lookup x = some c ∧ h.IsCell c (some u))
structure Cx.Ok (X : Cx) : Prop where
  mod : Mod X.K X.mg X.base
  kind : X.env.scope.kind = .function
  glob : X.env.globals = mainGlobals
  blt : X.env.builtins = builtinsNs
  above : X.s₀.heap.objs.size ≤ X.env.locals
  inj : ∀ x y c, X.env.cells.lookup x = some c → X.env.cells.lookup y = some c → x = y
  has : ∀ x, (X.env.kindOf x = some .cell ∨ X.env.kindOf x = some .free) → ∃ c, X.env.cells.lookup x = some c
  cab : ∀ x c, X.fn x = true → X.env.cells.lookup x = some c → X.s₀.heap.objs.size ≤ c
  hd : X.calm = true → X.A.handled = none
  frames : X.A.frames = some X.stack
  stk : X.stack = X.outer ∨ (X.stack = X.env :: X.outer ∧ X.env.frame = some X.env.locals)
  exf : ∀ b ∈ X.ex, b ≠ X.env.locals ∧ ∀ x c, X.env.cells.lookup x = some c → c ≠ b
  bs : ∀ b o, X.base.get? b = some o → X.s₀.heap.get? b = some o ∧ X.H₀ b = none
  bsz : X.base.objs.size ≤ X.s₀.heap.objs.size
  noex : ∀ b o, X.base.get? b = some o → b ∉ X.ex
  exfs : ∀ b ∈ X.ex, b ∉ X.fs
  funs : X.s₀.heap.FunFrames X.base X.outer
  frf : ∀ b ∈ X.fs, X.H₀ b = none
structure Inv (X : Cx) (pins : List (Addr × Obj)) (σ : List (Option V)) (H : Hp) (s : Shared) : Prop where
  ok : X.Ok
  os : s.os = X.s₀.os
  bare : AllBare s.gens
  base : Un X.fs X.ex X.H₀ H X.s₀.heap s.heap
  loc : ∃ m, s.heap.Ns X.env.locals m ∧ ∀ (i : Nat) (x : Str) (v : V), X.N[i]? = some x → σ[i]? = some (some v) → Vis X.env.scope x → ∃ u, RelV v u ∧ Look X.env s.heap m x u
  cell : ∀ x c, X.env.cells.lookup x = some c → ∃ v, s.heap.IsCell c v
  free : H X.env.locals = none
  freeC : ∀ x c, X.env.cells.lookup x = some c → H c = none
  pin : ∀ p ∈ X.pn ++ pins, s.heap.get? p.1 = some p.2 ∧ H p.1 = none ∧ p.1 ≠ X.env.locals ∧ p.1 ∉ X.fs ∧ ∀ v, p.2.data ≠ .cell v
  hok : HOk X.prog X.w H s.heap
  len : σ.length = X.N.length
section
variable {X : Cx} {pins : List (Addr × Obj)} {σ : List (Option V)} {H H' : Hp} {s : Shared} {h' : Heap}
theorem Cx.Ok.nofr (ok : X.Ok) {b : Addr} {o : Obj} (e : X.base.get? b = some o) : b ∉ X.fs := fun hb => by
  have := (ok.funs.mem hb).1
  rw [e] at this; cases this
theorem Inv.bs (I : Inv X pins σ H s) : ∀ b o, X.base.get? b = some o → s.heap.get? b = some o ∧ H b = none := fun b o e =>
  ⟨I.base.keep b o (I.ok.bs b o e).1 (I.ok.bs b o e).2 (I.ok.nofr e) (I.ok.noex b o e), I.base.free b o (I.ok.bs b o e).1 (I.ok.bs b o e).2 (I.ok.noex b o e)⟩
theorem Inv.bk (I : Inv X pins σ H s) : ∀ b o, X.base.get? b = some o → s.heap.get? b = some o := fun b o e => (I.bs b o e).1
theorem Inv.mod (I : Inv X pins σ H s) : Mod X.K X.mg X.base := I.ok.mod
theorem Inv.kIn (I : Inv X pins σ H s) : X.K.In s.heap := I.ok.mod.kin.keeps I.bk
theorem Inv.lt (I : Inv X pins σ H s) : X.env.locals < s.heap.objs.size := let ⟨_, hn, _⟩ := I.loc; hn.lt
theorem Inv.sz (I : Inv X pins σ H s) : X.s₀.heap.objs.size ≤ s.heap.objs.size := Nat.le_trans I.ok.above (Nat.le_of_lt I.lt)
theorem Inv.nofs (I : Inv X pins σ H s) {a : Addr} (h : s.heap.objs.size ≤ a) : a ∉ X.fs := fun hb => by
  obtain ⟨_, o, ho, _⟩ := I.ok.funs.mem hb
  exact absurd (Nat.lt_of_lt_of_le (Heap.lt_size ho) (Nat.le_trans I.sz h)) (Nat.lt_irrefl _)
theorem Inv.cne (I : Inv X pins σ H s) : ∀ x c, X.env.cells.lookup x = some c → c ≠ X.env.locals := fun x c e z => by
  obtain ⟨v, o, ho, hd⟩ := I.cell x c e
  obtain ⟨m, ⟨o', es, ep, ho', hd', _⟩, _⟩ := I.loc
  rw [z, ho'] at ho; cases ho; rw [hd'] at hd; cases hd
theorem Inv.funs (I : Inv X pins σ H s) : s.heap.FunFrames X.base X.outer := by
  have all : ∀ (l : List Env), (∀ b ∈ frs l, b ∈ X.fs) → X.s₀.heap.FunFrames X.base l → s.heap.FunFrames X.base l := by
    intro l
    induction l with
    | nil => intro _ _; trivial
    | cons env r ih =>
      intro hs hl
      obtain ⟨hk, ⟨L, o, hf, hn, ho, hd⟩, hr⟩ := hl
      have hL : L ∈ X.fs := hs L (by unfold frs; rw [List.filterMap_cons, hf]; exact List.mem_cons_self)
      obtain ⟨sl, e⟩ := I.base.slot L o ho (I.ok.frf L hL) hL fun z => I.ok.exfs L z hL
      exact ⟨hk, ⟨L, _, hf, hn, e, hd⟩, ih (fun b hb => hs b (by unfold frs; rw [List.filterMap_cons, hf]; exact List.mem_cons_of_mem _ hb)) hr⟩
  exact all X.outer (fun _ hb => hb) I.ok.funs
/-- the frames that run, for a call -/
theorem Inv.stack (I : Inv X pins σ H s) : s.heap.FunFrames X.base X.stack := by
  rcases I.ok.stk with e | ⟨e, hf⟩
  · rw [e]; exact I.funs
  · rw [e]
    obtain ⟨m, hn, _⟩ := I.loc
    refine .cons (by rw [I.ok.kind]; decide) hf hn ?_ I.funs
    exact Heap.get?_none_of_le (Nat.le_trans I.ok.bsz I.ok.above)
theorem Inv.stkSub (I : Inv X pins σ H s) : ∀ b ∈ frs X.stack, b ∈ X.env.locals :: X.fs := fun b hb => by
  rcases I.ok.stk with e | ⟨e, hf⟩
  · rw [e] at hb; exact List.mem_cons_of_mem _ hb
  · rw [e] at hb
    unfold frs at hb
    rw [List.filterMap_cons, hf] at hb
    exact hb
theorem Inv.stkFree (I : Inv X pins σ H s) : ∀ b ∈ frs X.stack, H b = none := fun b hb => by
  rcases List.mem_cons.mp (I.stkSub b hb) with e | hb
  · rw [e]; exact I.free
  · obtain ⟨_, o, ho, _⟩ := I.ok.funs.mem hb
    exact I.base.free b o ho (I.ok.frf b hb) fun z => I.ok.exfs b z hb
/-- THE STEP: the untracked objects but the frame and the records at ch are kept (the callers' frames up to slots), the frame's map is kept, the new abstract heap is held -/
theorem Inv.step {g' : Array GenState} {t' : Nat} {d' : Drawn} {ch : List Addr} (I : Inv X pins σ H s)
    (hch : ∀ b ∈ ch, (b ∈ X.ex ∨ X.s₀.heap.objs.size ≤ b) ∧ b ≠ X.env.locals ∧ (∀ x c, X.env.cells.lookup x = some c → c ≠ b) ∧ ∀ p ∈ X.pn ++ pins, p.1 ≠ b)
    (keep : ∀ b o, b ≠ X.env.locals → b ∉ X.fs → b ∉ ch → s.heap.get? b = some o → H b = none → h'.get? b = some o)
    (slot : ∀ b o, b ≠ X.env.locals → b ∈ X.fs → b ∉ ch → s.heap.get? b = some o → H b = none → ∃ sl, h'.get? b = some { o with slots := sl }) (free : ∀ b o, b ∉ ch → s.heap.get? b = some o → H b = none → H' b = none)
    (there : ∀ b o, b ∉ ch → s.heap.get? b = some o → ∃ o', h'.get? b = some o')
    (tups : ∀ b xs, H b = some (.tup xs) → H' b = some (.tup xs)) (frzs : ∀ b o u, H b = some (.frz o u) → H' b = some (.frz o u)) (tbls : ∀ b ps, H b = some (.tbl ps) → ∃ more, H' b = some (.tbl (ps ++ more)))
    (ns : ∀ m, s.heap.Ns X.env.locals m → h'.Ns X.env.locals m) (hok : HOk X.prog X.w H' h') (hg : AllBare g') :
    Inv X pins σ H' { s with heap := h', gens := g', drawn := d', toks := t' } := by
  have neL : ∀ b o, X.s₀.heap.get? b = some o → b ≠ X.env.locals := fun b o e => Nat.ne_of_lt (Nat.lt_of_lt_of_le (Heap.lt_size e) I.ok.above)
  have neC : ∀ b o, X.s₀.heap.get? b = some o → b ∉ X.ex → b ∉ ch := fun b o e hx hb => by
    rcases (hch b hb).1 with z | z
    · exact hx z
    · exact absurd (Nat.lt_of_lt_of_le (Heap.lt_size e) z) (Nat.lt_irrefl _)
  have cellK : ∀ x c, X.env.cells.lookup x = some c → ∀ v, s.heap.IsCell c v → h'.IsCell c v := fun x c e v ⟨o, ho, hd⟩ => by
    have nch : c ∉ ch := fun z => (hch c z).2.2.1 x c e rfl
    by_cases hc : c ∈ X.fs
    · obtain ⟨sl, q⟩ := slot c o (I.cne x c e) hc nch ho (I.freeC x c e)
      exact ⟨_, q, hd⟩
    · exact ⟨o, keep c o (I.cne x c e) hc nch ho (I.freeC x c e), hd⟩
  refine ⟨I.ok, I.os, hg, ⟨fun b o e n hb hx => ?_, fun b o e n hb hx => ?_, fun b o e n hx => ?_, fun b o e hx => ?_, fun b xs e => tups b xs (I.base.tups b xs e), fun b o xs e => frzs b o xs (I.base.frzs b o xs e), fun b ps e => ?_⟩, ?_, fun x c e => ?_, ?_, fun x c e => ?_, fun p hp => ?_, hok, I.len⟩
  · exact keep b o (neL b o e) hb (neC b o e hx) (I.base.keep b o e n hb hx) (I.base.free b o e n hx)
  · obtain ⟨sl, e1⟩ := I.base.slot b o e n hb hx
    obtain ⟨sl', e2⟩ := slot b _ (neL b o e) hb (neC b o e hx) e1 (I.base.free b o e n hx)
    exact ⟨sl', e2⟩
  · obtain ⟨o', e1⟩ := I.base.there b o e hx
    exact free b o' (neC b o e hx) e1 (I.base.free b o e n hx)
  · obtain ⟨o', e1⟩ := I.base.there b o e hx
    exact there b o' (neC b o e hx) e1
  · obtain ⟨m1, e1⟩ := I.base.tbls b ps e
    obtain ⟨m2, e2⟩ := tbls b _ e1
    exact ⟨m1 ++ m2, by rw [e2, Array.append_assoc]⟩
  · obtain ⟨m, hn, hl⟩ := I.loc
    refine ⟨m, ns m hn, fun i x v e1 e2 e3 => ?_⟩
    obtain ⟨u, r, l⟩ := hl i x v e1 e2 e3
    refine ⟨u, r, ?_⟩
    rcases l with l | ⟨k, c, e, z⟩
    · exact .inl l
    · exact .inr ⟨k, c, e, cellK x c e _ z⟩
  · obtain ⟨v, z⟩ := I.cell x c e
    exact ⟨v, cellK x c e v z⟩
  · obtain ⟨m, ⟨o, _, _, ho, _⟩, _⟩ := I.loc
    exact free _ o (fun z => (hch _ z).2.1 rfl) ho I.free
  · obtain ⟨v, o, ho, hd⟩ := I.cell x c e
    exact free c o (fun z => (hch c z).2.2.1 x c e rfl) ho (I.freeC x c e)
  · obtain ⟨e, n, ne, nf, d⟩ := I.pin p hp
    have nch : p.1 ∉ ch := fun z => (hch p.1 z).2.2.2 p hp rfl
    exact ⟨keep p.1 p.2 ne nf nch e n, free p.1 p.2 nch e n, ne, nf, d⟩
/-- .. where the frame's own object is kept too -/
theorem Inv.un {t' : Nat} (I : Inv X pins σ H s) (u : Un X.fs [] H H' s.heap h') (hok : HOk X.prog X.w H' h') : Inv X pins σ H' { s with heap := h', toks := t' } := by
  obtain ⟨m, ⟨o, es, ep, ho, r⟩, _⟩ := id I.loc
  obtain ⟨sl, hL⟩ := u.any ho I.free (by simp)
  exact I.step (g' := s.gens) (d' := s.drawn) (ch := []) (fun _ z => nomatch z) (fun b o _ hb _ e n => u.keep b o e n hb (by simp)) (fun b o _ hb _ e n => u.slot b o e n hb (by simp)) (fun b o _ e n => u.free b o e n (by simp)) (fun b o _ e => u.there b o e (by simp)) u.tups u.frzs u.tbls (fun m' hm => by
    obtain ⟨o', es', ep', ho', r'⟩ := hm
    rw [ho] at ho'; cases ho'
    exact ⟨_, es', ep', hL, r'⟩) hok I.bare
/-- behind a call (or a comprehension's block): the slots of this frame may have changed too, the records at ch may have turned -/
theorem Inv.call {g' : Array GenState} {t' : Nat} {d' : Drawn} {ch : List Addr} (I : Inv X pins σ H s) (u : Un (frs X.stack) ch H H' s.heap h') (hok : HOk X.prog X.w H' h') (hg : AllBare g')
    (hch : ∀ b ∈ ch, (b ∈ X.ex ∨ X.s₀.heap.objs.size ≤ b) ∧ b ≠ X.env.locals ∧ (∀ x c, X.env.cells.lookup x = some c → c ≠ b) ∧ ∀ p ∈ X.pn ++ pins, p.1 ≠ b) :
    Inv X pins σ H' { s with heap := h', gens := g', drawn := d', toks := t' } := by
  obtain ⟨m, ⟨o, es, ep, ho, r⟩, _⟩ := id I.loc
  obtain ⟨sl, hL⟩ := u.any ho I.free fun z => (hch _ z).2.1 rfl
  exact I.step (ch := ch) hch (fun b o hL hb hc e n => u.keep b o e n (fun z => (List.mem_cons.mp (I.stkSub b z)).elim hL hb) hc) (fun b o _ _ hc e n => u.any e n hc) (fun b o hc e n => u.free b o e n hc) (fun b o hc e => u.there b o e hc) u.tups u.frzs u.tbls (fun m' hm => by
    obtain ⟨o', es', ep', ho', r'⟩ := hm
    rw [ho] at ho'; cases ho'
    exact ⟨_, es', ep', hL, r'⟩) hok hg
/-- an untracked record of ours (an iterator) has turned -/
theorem Inv.turned {t' : Nat} {it : Addr} (I : Inv X pins σ H s) (k : ∀ b o, b ≠ it → s.heap.get? b = some o → h'.get? b = some o) (hn : H it = none) (hL : it ≠ X.env.locals)
    (h1 : it ∈ X.ex ∨ X.s₀.heap.objs.size ≤ it) (h2 : ∀ x c, X.env.cells.lookup x = some c → c ≠ it) (h3 : ∀ p ∈ X.pn ++ pins, p.1 ≠ it) : Inv X pins σ H { s with heap := h', toks := t' } := by
  have nit : ∀ b u, H b = some u → b ≠ it := fun b u e z => by rw [z, hn] at e; cases e
  refine I.step (g' := s.gens) (d' := s.drawn) (ch := [it]) (fun b hb => ?_) (fun b o _ _ hc e _ => k b o (fun z => hc (by simp [z])) e) (fun b o _ _ hc e _ => ⟨o.slots, k b o (fun z => hc (by simp [z])) e⟩) (fun _ _ _ _ n => n)
    (fun b o hc e => ⟨o, k b o (fun z => hc (by simp [z])) e⟩) (fun _ _ e => e) (fun _ _ _ e => e) (fun b ps e => ⟨#[], by rw [e]; simp⟩) (fun m hm => ?_) (fun b u e => ?_) I.bare
  · have e : b = it := by simpa using hb
    subst e
    exact ⟨h1, hL, h2, h3⟩
  · obtain ⟨o, es, ep, ho, r⟩ := hm
    exact ⟨o, es, ep, k _ o (Ne.symm hL) ho, r⟩
  · refine (I.hok b u e).stay (fun c v hc q => k c v ?_ q) (fun _ q => q) fun _ _ q => q
    rcases hc with z | z
    · rw [z]; exact nit b u e
    · exact nit c _ z
theorem Inv.tok (I : Inv X pins σ H s) (t : Nat) : Inv X pins σ H { s with toks := t } := I.un (h' := s.heap) (t' := t) Un.refl I.hok
/-- all objects kept -/
theorem Inv.kept {t' : Nat} (I : Inv X pins σ H s) (k : ∀ b u, s.heap.get? b = some u → h'.get? b = some u) : Inv X pins σ H { s with heap := h', toks := t' } := I.un (Un.kept k) (I.hok.kept k)
/-- a new object laid and tracked -/
theorem Inv.laid {a : Addr} {o : HO} {t' : Nat} (I : Inv X pins σ H s) (k : ∀ b u, s.heap.get? b = some u → h'.get? b = some u) (hp : s.heap.objs.size ≤ a) (new : ObjOk X.prog X.w (upd H a o) h' a o) :
    Inv X pins σ (upd H a o) { s with heap := h', toks := t' } := I.un (Un.laid k hp (I.hok.fresh hp)) (I.hok.laid k hp new)
/-- an object written -/
theorem Inv.write {x e : Addr} {o : HO} {t' : Nat} (I : Inv X pins σ H s) (mu : Mut (H x)) (he : e = x ∨ H e = some (.own x)) (k : ∀ b u, b ≠ e → s.heap.get? b = some u → h'.get? b = some u) (heo : ∃ u, h'.get? e = some u)
    (new : ObjOk X.prog X.w (upd H x o) h' x o) : Inv X pins σ (upd H x o) { s with heap := h', toks := t' } := I.un (Un.write mu he k heo) (I.hok.write mu he k heo new)
theorem Inv.pins_of {pins' : List (Addr × Obj)} (I : Inv X pins σ H s) (h : ∀ p ∈ pins', s.heap.get? p.1 = some p.2 ∧ H p.1 = none ∧ p.1 ≠ X.env.locals ∧ p.1 ∉ X.fs ∧ ∀ v, p.2.data ≠ .cell v) : Inv X pins' σ H s :=
  ⟨I.ok, I.os, I.bare, I.base, I.loc, I.cell, I.free, I.freeC, fun p hp => (List.mem_append.mp hp).elim (fun z => I.pin p (List.mem_append_left _ z)) (h p), I.hok, I.len⟩
theorem nodup_ix {N : List Str} (hN : N.Nodup) {i j : Nat} {x : Str} (a : N[i]? = some x) (b : N[j]? = some x) : i = j := by
  obtain ⟨h1, e1⟩ := List.getElem?_eq_some_iff.mp a
  obtain ⟨h2, e2⟩ := List.getElem?_eq_some_iff.mp b
  exact (List.getElem_inj hN).mp (e1.trans e2.symm)
/-- a name is stored; what changed -/
theorem store_ok2 {M : Model} {A : Around} {E : Value → Shared → Prop} {i : Nat} {x : Str} {v : V} {u : Value} {Q : Unit → Shared → Prop} (I : Inv X pins σ H s) (hN : X.N.Nodup) (hi : X.N[i]? = some x) (hx : Loc X.env.scope x) (r : RelV v u)
    (h : ∀ s', Inv X pins (σ.set i (some v)) H s' → (∃ a, Heap.SameBut a s.heap s'.heap ∧ (a = X.env.locals ∨ X.env.cells.lookup x = some a)) → Q () s') (hf : X.fn x = true ∨ X.env.scope.names.lookup x = some .local := by first | exact .inl rfl | exact .inr rfl | assumption) : wpAny M A (storeName X.env x u) Q E s := by
  obtain ⟨m, hn, hl⟩ := id I.loc
  have hcls : (X.env.scope.kind == .class || (X.env.scope.kind == .module && X.env.locals != X.env.globals)) = false := by rw [I.ok.kind]; rfl
  have hiσ : i < σ.length := by rw [I.len]; exact (List.getElem?_eq_some_iff.mp hi).1
  have cne := I.cne
  have tracked : ∀ {a : Addr} {h' : Heap}, (∃ o, s.heap.get? a = some o ∧ H a = none) → Heap.SameBut a s.heap h' → HOk X.prog X.w H h' := fun {a h'} ha hs b ob e => by
    obtain ⟨_, _, hfree⟩ := ha
    refine (I.hok b ob e).stay (fun c w' hc q => (hs.2 c ?_).trans q) (fun _ q => q) fun _ _ q => q
    rintro rfl
    rcases hc with rfl | hc
    · rw [hfree] at e; cases e
    · rw [hfree] at hc; cases hc
  rcases hx with hk | hk
  · refine wpAny_storeName_local hk hn (fun h' hn' hs => ?_) hcls
    obtain ⟨oL, _, _, hoL, _⟩ := id hn
    refine h _ ⟨I.ok, I.os, I.bare, ⟨fun b o e n hb hx => ?_, fun b o e n hb hx => ?_, I.base.free, fun b o e hx => ?_, I.base.tups, I.base.frzs, I.base.tbls⟩, ⟨_, hn', fun j y v' e1 e2 e3 => ?_⟩, fun y c e => ?_, I.free, I.freeC, fun p hp => ?_, tracked ⟨oL, hoL, I.free⟩ hs, by simpa using I.len⟩ ⟨_, hs, .inl rfl⟩
    · exact (hs.2 b (Nat.ne_of_lt (Nat.lt_of_lt_of_le (Heap.lt_size e) I.ok.above))).trans (I.base.keep b o e n hb hx)
    · obtain ⟨sl, e1⟩ := I.base.slot b o e n hb hx
      exact ⟨sl, (hs.2 b (Nat.ne_of_lt (Nat.lt_of_lt_of_le (Heap.lt_size e) I.ok.above))).trans e1⟩
    · obtain ⟨o', e1⟩ := I.base.there b o e hx
      exact ⟨o', (hs.2 b (Nat.ne_of_lt (Nat.lt_of_lt_of_le (Heap.lt_size e) I.ok.above))).trans e1⟩
    · by_cases hj : j = i
      · subst hj
        rw [hi] at e1; cases e1
        rw [List.getElem?_set_self hiσ] at e2
        cases e2
        exact ⟨u, r, .inl ⟨hk, by simp⟩⟩
      · rw [List.getElem?_set_ne (Ne.symm hj)] at e2
        obtain ⟨u', r', q⟩ := hl j y v' e1 e2 e3
        refine ⟨u', r', ?_⟩
        rcases q with ⟨k, e⟩ | ⟨k, c, e, z⟩
        · refine .inl ⟨k, ?_⟩
          have : y ≠ x := fun e => hj (nodup_ix hN e1 (e ▸ hi))
          simp [this, e]
        · exact .inr ⟨k, c, e, z.sameBut hs (cne y c e)⟩
    · obtain ⟨w', z⟩ := I.cell y c e
      exact ⟨w', z.sameBut hs (cne y c e)⟩
    · obtain ⟨e, n, ne, nf, d⟩ := I.pin p hp
      exact ⟨(hs.2 p.1 ne).trans e, n, ne, nf, d⟩
  · have hfn : X.fn x = true := by
      rcases hf with z | z
      · exact z
      · rw [z] at hk; cases hk
    obtain ⟨c, hc⟩ := I.ok.has x (.inl hk)
    obtain ⟨w', z⟩ := I.cell x c hc
    refine wpAny_storeName_cell I.ok.kind hk hc z (fun h' hc' hs => ?_)
    obtain ⟨oc, hoc, hocd⟩ := id z
    refine h { s with heap := h' } ⟨I.ok, I.os, I.bare, ⟨fun b o e n hb hx => ?_, fun b o e n hb hx => ?_, I.base.free, fun b o e hx => ?_, I.base.tups, I.base.frzs, I.base.tbls⟩, ⟨m, hn.sameBut hs (Ne.symm (cne x c hc)), fun j y v' e1 e2 e3 => ?_⟩, fun y c' e => ?_, I.free, I.freeC, fun p hp => ?_, tracked ⟨oc, hoc, I.freeC x c hc⟩ hs, by simpa using I.len⟩ ⟨c, hs, .inr hc⟩
    · exact (hs.2 b (Nat.ne_of_lt (Nat.lt_of_lt_of_le (Heap.lt_size e) (I.ok.cab x c hfn hc)))).trans (I.base.keep b o e n hb hx)
    · obtain ⟨sl, e1⟩ := I.base.slot b o e n hb hx
      exact ⟨sl, (hs.2 b (Nat.ne_of_lt (Nat.lt_of_lt_of_le (Heap.lt_size e) (I.ok.cab x c hfn hc)))).trans e1⟩
    · obtain ⟨o', e1⟩ := I.base.there b o e hx
      exact ⟨o', (hs.2 b (Nat.ne_of_lt (Nat.lt_of_lt_of_le (Heap.lt_size e) (I.ok.cab x c hfn hc)))).trans e1⟩
    · by_cases hj : j = i
      · subst hj
        rw [hi] at e1; cases e1
        rw [List.getElem?_set_self hiσ] at e2
        cases e2
        exact ⟨u, r, .inr ⟨.inl hk, c, hc, hc'⟩⟩
      · rw [List.getElem?_set_ne (Ne.symm hj)] at e2
        obtain ⟨u', r', q⟩ := hl j y v' e1 e2 e3
        refine ⟨u', r', ?_⟩
        rcases q with q | ⟨k, c', e, z'⟩
        · exact .inl q
        · refine .inr ⟨k, c', e, z'.sameBut hs ?_⟩
          rintro rfl
          exact hj (nodup_ix hN e1 (I.ok.inj _ _ _ e hc ▸ hi))
    · by_cases hcc : c' = c
      · subst hcc; exact ⟨_, hc'⟩
      · obtain ⟨w2, z2⟩ := I.cell y c' e
        exact ⟨w2, z2.sameBut hs hcc⟩
    · obtain ⟨e, n, ne, nf, d⟩ := I.pin p hp
      refine ⟨(hs.2 p.1 ?_).trans e, n, ne, nf, d⟩
      intro q
      rw [q, hoc] at e
      have q' : oc = p.2 := Option.some.inj e
      exact d w' (by rw [← q']; exact hocd)
theorem store_ok {M : Model} {A : Around} {E : Value → Shared → Prop} {i : Nat} {x : Str} {v : V} {u : Value} {Q : Unit → Shared → Prop} (I : Inv X pins σ H s) (hN : X.N.Nodup) (hi : X.N[i]? = some x) (hx : Loc X.env.scope x) (r : RelV v u)
    (h : ∀ s', Inv X pins (σ.set i (some v)) H s' → Q () s') (hf : X.fn x = true ∨ X.env.scope.names.lookup x = some .local := by first | exact .inl rfl | exact .inr rfl | assumption) : wpAny M A (storeName X.env x u) Q E s :=
  store_ok2 I hN hi hx r (fun s' I' _ => h s' I') hf
/-- behind a call or a block, the state as it is -/
theorem Inv.call' {s' : Shared} {ch : List Addr} (I : Inv X pins σ H s) (ho : s'.os = s.os) (u : Un (frs X.stack) ch H H' s.heap s'.heap) (hok : HOk X.prog X.w H' s'.heap) (hg : AllBare s'.gens)
    (hch : ∀ b ∈ ch, (b ∈ X.ex ∨ X.s₀.heap.objs.size ≤ b) ∧ b ≠ X.env.locals ∧ (∀ x c, X.env.cells.lookup x = some c → c ≠ b) ∧ ∀ p ∈ X.pn ++ pins, p.1 ≠ b) : Inv X pins σ H' s' := by
  obtain ⟨h', g', d', t', o'⟩ := s'
  have e : o' = s.os := ho
  subst e
  exact I.call (g' := g') (t' := t') (d' := d') u hok hg hch
end
/-! ### the judgements -/
/-- an exception: its class, its own dict's address (where it has one), the abstract heap behind it -/
abbrev XK := Value → Option Addr → Hp → Prop
abbrev St := List (Option V)
abbrev VK := V → Hp → Prop
/-- an expression's reading; a test's; an argument list's -/
abbrev TE := St → Hp → VK → Prop
abbrev TT := St → Hp → (Bool → Hp → Prop) → Prop
abbrev TA := St → Hp → (List V → Hp → Prop) → Prop
/-- what is wanted behind a statement -/
structure Ends where
  nx : St → Hp → Prop
  rt : VK
  bk : St → Hp → Prop := fun _ _ => False
  ct : St → Hp → Prop := fun _ _ => False
abbrev TS := Ends → St → Hp → Prop
def EP (X : Cx) (pins : List (Addr × Obj)) (σ : St) (Q : VK) (u : Value) (s' : Shared) : Prop := ∃ v H', Inv X pins σ H' s' ∧ RelV v u ∧ Q v H'
def TP (X : Cx) (pins : List (Addr × Obj)) (σ : St) (Q : Bool → Hp → Prop) (b : Bool) (s' : Shared) : Prop := ∃ H', Inv X pins σ H' s' ∧ Q b H'
def AP (X : Cx) (pins : List (Addr × Obj)) (σ : St) (Q : List V → Hp → Prop) (us : List Value) (s' : Shared) : Prop := ∃ vs H', Inv X pins σ H' s' ∧ Vals vs us ∧ Q vs H'
def SP (X : Cx) (pins : List (Addr × Obj)) (D : Ends) (f : Flow) (s' : Shared) : Prop :=
  match f with
  | .next => ∃ σ' H', Inv X pins σ' H' s' ∧ D.nx σ' H'
  | .brk => ∃ σ' H', Inv X pins σ' H' s' ∧ D.bk σ' H'
  | .cont => ∃ σ' H', Inv X pins σ' H' s' ∧ D.ct σ' H'
  | .ret u => ∃ v σ' H', Inv X pins σ' H' s' ∧ RelV v u ∧ D.rt v H'
def PE (X : Cx) (e : Expr) (t : TE) : Prop :=
  ∀ (pins : List (Addr × Obj)) (s : Shared) (σ : St) (H : Hp) (Q : VK), Inv X pins σ H s → t σ H Q → wpAny (model X.prog X.w) X.A (eval e X.env) (EP X pins σ Q) X.xe s
def PT (X : Cx) (e : Expr) (t : TT) : Prop :=
  ∀ (pins : List (Addr × Obj)) (s : Shared) (σ : St) (H : Hp) (Q : Bool → Hp → Prop), Inv X pins σ H s → t σ H Q → wpAny (model X.prog X.w) X.A (isTrue e X.env (eval e X.env)) (TP X pins σ Q) X.xe s
/-- a test whatever its 'whole' is (and, or) -/
def PW (X : Cx) (e : Expr) (t : TT) : Prop :=
  ∀ (whole : Sem Value) (pins : List (Addr × Obj)) (s : Shared) (σ : St) (H : Hp) (Q : Bool → Hp → Prop), Inv X pins σ H s → t σ H Q → wpAny (model X.prog X.w) X.A (isTrue e X.env whole) (TP X pins σ Q) X.xe s
theorem PW.pt {X : Cx} {e : Expr} {t : TT} (h : PW X e t) : PT X e t := h _
/-- an argument list (no star), from the left -/
def PA (X : Cx) (es : List Expr) (t : TA) : Prop :=
  ∀ (pos : Pos) (pins : List (Addr × Obj)) (s : Shared) (σ : St) (H : Hp) (Q : List V → Hp → Prop), Inv X pins σ H s → t σ H Q → wpAny (model X.prog X.w) X.A (spliced (backTo pos (starEach es X.env))) (AP X pins σ Q) X.xe s
def PS (X : Cx) (st : Stmt) (t : TS) : Prop :=
  ∀ (pins : List (Addr × Obj)) (s : Shared) (σ : St) (H : Hp) (D : Ends), Inv X pins σ H s → t D σ H → wpAny (model X.prog X.w) X.A (exec st X.env) (SP X pins D) X.xe s
def PSs (X : Cx) (st : List Stmt) (t : TS) : Prop :=
  ∀ (pins : List (Addr × Obj)) (s : Shared) (σ : St) (H : Hp) (D : Ends), Inv X pins σ H s → t D σ H → wpAny (model X.prog X.w) X.A (execs st X.env) (SP X pins D) X.xe s
/-- weaken the end -/
theorem thn {α : Type} {t : Sem α} {Q Q' : α → Shared → Prop} {M : Model} {A : Around} {E : Value → Shared → Prop} {s : Shared} (h : wpAny M A t Q E s) (hQ : ∀ a s, Q a s → Q' a s) : wpAny M A t Q' E s := wpAny_mono h hQ fun _ _ x => x
end L2
namespace L2
open PySem PySem.Spec PyProof.Rows
section
variable {X : Cx}
/-- two expressions in a row -/
theorem bin {a b : Expr} {ta tb : TE} (ha : PE X a ta) (hb : PE X b tb) {pins : List (Addr × Obj)} {s : Shared} {σ : St} {H : Hp} {R : V → V → Hp → Prop} (I : Inv X pins σ H s) (h : ta σ H fun x H1 => tb σ H1 fun y H2 => R x y H2)
    {α : Type} {Q : α → Shared → Prop} {f : Value → Value → Sem α}
    (hf : ∀ v u s2 x y H2, Inv X pins σ H2 s2 → RelV x v → RelV y u → R x y H2 → wpAny (model X.prog X.w) X.A (f v u) Q X.xe s2) :
    wpAny (model X.prog X.w) X.A (eval a X.env) (fun v s₁ => wpAny (model X.prog X.w) X.A (eval b X.env) (fun u s₂ => wpAny (model X.prog X.w) X.A (f v u) Q X.xe s₂) X.xe s₁) X.xe s := by
  refine thn (ha pins s σ H _ I h) fun v s1 ⟨x, H1, I1, r1, q1⟩ => ?_
  refine thn (hb pins s1 σ H1 _ I1 q1) fun u s2 ⟨y, H2, I2, r2, q2⟩ => ?_
  exact hf v u s2 x y H2 I2 r1 r2 q2
/-! ### names and constants -/
def tVar (i : Nat) : TE := fun σ H Q => ∃ v, σ[i]? = some (some v) ∧ Q v H
def tC (v : V) : TE := fun _ H Q => Q v H
theorem pe_var {i : Nat} {x : Str} {pos : Pos} (hN : X.N[i]? = some x) (hv : Vis X.env.scope x) (hd : (x == ("__debug__" : Str)) = false := by decide) (hcd : (x == ("__classdict__" : Str)) = false := by decide) : PE X (.Name x pos) (tVar i) := by
  intro pins s σ H Q I h
  obtain ⟨v, e, h⟩ := h
  obtain ⟨m, hn, hl⟩ := I.loc
  obtain ⟨u, r, l⟩ := hl i x v hN e hv
  have fin : EP X pins σ Q u s := ⟨v, H, I, r, h⟩
  rcases l with ⟨hk, hm⟩ | ⟨hk, c, hc, hcell⟩
  · exact wpAny_Name (wpAny_loadName_local I.ok.kind hk hn hm fin) hd
  · rcases hk with hk | hk
    · exact wpAny_Name (wpAny_loadName_cell I.ok.kind hk hc hcell fin) hd
    · exact wpAny_Name (wpAny_loadName_free I.ok.kind hk hc hcell fin hcd) hd
theorem pe_int {i j pos} : PE X (.Constant (.int i) j pos) (tC (.int i)) := fun _ _ _ H _ I h => wpAny_Constant_int ⟨.int i, H, I.tok _, ⟨_, rfl⟩, h⟩
theorem pe_bl {b j pos} : PE X (.Constant (.bool b) j pos) (tC (.bl b)) := fun _ _ _ H _ I h => Constant_bool ⟨.bl b, H, I, rfl, h⟩
theorem pe_non {j pos} : PE X (.Constant .none j pos) (tC .non) := fun _ _ _ H _ I h => Constant_none ⟨.non, H, I, rfl, h⟩
theorem pe_str {x j pos} : PE X (.Constant (.str x) j pos) (tC (.str x)) := fun _ _ _ H _ I h => Calls.Constant_str ⟨.str x, H, I.tok _, ⟨_, rfl⟩, h⟩
/-- a global name of the def -/
def Gl (X : Cx) (x : Str) : Prop := X.env.kindOf x = some .globalImplicit
theorem ld_glob {E : Value → Shared → Prop} {pins : List (Addr × Obj)} {s : Shared} {σ : St} {H : Hp} {x : Str} {u : Value} {pos : Pos} {Q : Value → Shared → Prop} (I : Inv X pins σ H s) (hg : Gl X x) (hm : X.mg x = some u) (h : Q u s)
    (hd : (x == ("__debug__" : Str)) = false := by decide) : wpAny (model X.prog X.w) X.A (eval (.Name x pos) X.env) Q E s :=
  Calls.Name_function_global I.ok.kind hg (Calls.loadGlobal_global (by rw [I.ok.glob]; exact I.mod.glob.keeps I.bk) hm h) hd
theorem ld_blt {E : Value → Shared → Prop} {pins : List (Addr × Obj)} {s : Shared} {σ : St} {H : Hp} {x : Str} {u : Value} {pos : Pos} {Q : Value → Shared → Prop} (I : Inv X pins σ H s) (hg : Gl X x) (hm : X.mg x = none) (hv : bootBuiltins x = some u) (h : Q u s)
    (hn : x ≠ "__name__" := by decide) (hd : (x == ("__debug__" : Str)) = false := by decide) : wpAny (model X.prog X.w) X.A (eval (.Name x pos) X.env) Q E s := by
  obtain ⟨mb, h1, h2⟩ := I.mod.blt
  exact Calls.Name_function_global I.ok.kind hg (Calls.loadGlobal_builtin (by rw [I.ok.glob]; exact I.mod.glob.keeps I.bk) hm (by rw [I.ok.blt]; exact h1.keeps I.bk) ((h2 x hn).trans hv) h) hd
theorem pe_bltn {x : Str} {v : V} {u : Value} {pos : Pos} (hg : Gl X x) (hm : X.mg x = none) (hv : bootBuiltins x = some u) (r : RelV v u) (hn : x ≠ "__name__" := by decide) (hd : (x == ("__debug__" : Str)) = false := by decide) : PE X (.Name x pos) (tC v) :=
  fun _ _ _ H _ I h => ld_blt I hg hm hv ⟨v, H, I, r, h⟩ hn hd
variable {a b : Expr} {ta tb : TE} {pos : Pos}
/-! ### comparisons -/
def PC (X : Cx) (op : CmpOp) (a b : Expr) (t : TE) : Prop :=
  ∀ (pins : List (Addr × Obj)) (s : Shared) (σ : St) (H : Hp) (Q : VK), Inv X pins σ H s → t σ H Q →
    wpAny (model X.prog X.w) X.A (eval a X.env) (fun v s₁ => wpAny (model X.prog X.w) X.A (eval b X.env) (fun u s₂ => wpAny (model X.prog X.w) X.A (compareOp op v u) (EP X pins σ Q) X.xe s₂) X.xe s₁) X.xe s
theorem nobehind (b : Expr) {op : CmpOp} (h : op ≠ .In) (h2 : op ≠ .NotIn) : behindInMarks op b = false := by
  have e1 : (op == CmpOp.In) = false := by cases op <;> first | rfl | exact absurd rfl h
  have e2 : (op == CmpOp.NotIn) = false := by cases op <;> first | rfl | exact absurd rfl h2
  cases b <;> simp [behindInMarks, e1, e2]
/-- a comparison as a value, as a test -/
def tB (t : TE) : TT := fun σ H Q => t σ H fun x H1 => ∃ c, x = .bl c ∧ Q c H1
theorem pt_cmp {op : CmpOp} {t : TE} (h : PC X op a b t) (h1 : behindInMarks op b = false := by first | exact nobehind _ (by decide) (by decide) | rfl) : PT X (.Compare a [op] [b] pos) (tB t) := by
  intro pins s σ H Q I hw
  refine wpAny_isTrue_Compare1 (thn (h pins s σ H _ I hw) fun v s1 h1 => thn h1 fun u s2 h2 => thn h2 fun c s3 ⟨x, H1, I1, r1, q1⟩ => ?_) h1
  obtain ⟨d, rfl, q⟩ := q1
  cases r1
  exact wpAny_truthy_bool ⟨H1, I1, q⟩
/-- an expression whose value is a bool, as a test -/
theorem pt_val {e : Expr} {t : TE} (h : PE X e t) (he : ∀ whole, isTrue e X.env whole = (do let v ← whole; standAt e.pos; holding [v] (truthy v)) := by intro _; rfl) : PT X e (tB t) := by
  intro pins s σ H Q I hw
  refine isTrue_plain (thn (h pins s σ H _ I hw) fun v s1 ⟨x, H1, I1, r1, q1⟩ => ?_) (he _)
  obtain ⟨d, rfl, q⟩ := q1
  cases r1
  exact wpAny_truthy_bool ⟨H1, I1, q⟩
/-! ### and, or, not -/
variable {tA tB' : TT} {rest : List Expr}
def tAnd (t u : TT) : TT := fun σ H Q => t σ H fun c H1 => if c = true then u σ H1 Q else Q false H1
def tOr (t u : TT) : TT := fun σ H Q => t σ H fun c H1 => if c = true then Q true H1 else u σ H1 Q
def tNot (t : TT) : TT := fun σ H Q => t σ H fun c H1 => Q (!c) H1
theorem pw_and1 (ha : PT X a tA) : PW X (.BoolOp .And [a] pos) tA := by
  intro wh pins s σ H Q I h
  refine isTrue_and (thn (ha pins s σ H Q I h) fun c s1 e => ?_)
  cases c with
  | true => exact isTrue_and_nil e
  | false => exact e
theorem pw_or1 (ha : PT X a tA) : PW X (.BoolOp .Or [a] pos) tA := by
  intro wh pins s σ H Q I h
  refine isTrue_or (thn (ha pins s σ H Q I h) fun c s1 e => ?_)
  cases c with
  | false => exact isTrue_or_nil e
  | true => exact e
theorem pw_and (ha : PT X a tA) (hb : PW X (.BoolOp .And (b :: rest) pos) tB') : PW X (.BoolOp .And (a :: b :: rest) pos) (tAnd tA tB') := by
  intro wh pins s σ H Q I h
  refine isTrue_and (thn (ha pins s σ H _ I h) fun c s1 ⟨H1, I1, q1⟩ => ?_)
  cases c with
  | true => exact hb wh pins s1 σ H1 Q I1 q1
  | false => exact ⟨H1, I1, q1⟩
theorem pw_or (ha : PT X a tA) (hb : PW X (.BoolOp .Or (b :: rest) pos) tB') : PW X (.BoolOp .Or (a :: b :: rest) pos) (tOr tA tB') := by
  intro wh pins s σ H Q I h
  refine isTrue_or (thn (ha pins s σ H _ I h) fun c s1 ⟨H1, I1, q1⟩ => ?_)
  cases c with
  | true => exact ⟨H1, I1, q1⟩
  | false => exact hb wh pins s1 σ H1 Q I1 q1
theorem pt_not (ha : PT X a tA) : PT X (.UnaryOp .Not a pos) (tNot tA) := by
  intro pins s σ H Q I h
  exact isTrue_not (ha pins s σ H (fun c H1 => Q (!c) H1) I h)
/-- .. as values (bools) -/
def tAndV (ta tb : TE) : TE := fun σ H Q => ta σ H fun x H1 => ∃ c, x = .bl c ∧ if c = true then tb σ H1 Q else Q (.bl false) H1
def tNotV (ta : TE) : TE := fun σ H Q => ta σ H fun x H1 => ∃ c, x = .bl c ∧ Q (.bl (!c)) H1
theorem pe_one {op} {t : TE} (h : PE X a t) : PE X (.BoolOp op [a] pos) t := fun pins s σ H Q I hw => BoolOp_one (h pins s σ H Q I hw)
theorem pe_and (ha : PE X a ta) (hb : PE X (.BoolOp .And (b :: rest) pos) tb) : PE X (.BoolOp .And (a :: b :: rest) pos) (tAndV ta tb) := by
  intro pins s σ H Q I h
  refine BoolOp_and (thn (ha pins s σ H _ I h) fun v s1 ⟨x, H1, I1, r1, q1⟩ => ?_)
  obtain ⟨c, rfl, q1⟩ := q1
  cases r1
  refine wpAny_truthy_bool ?_
  cases c with
  | true => exact hb pins s1 σ H1 Q I1 q1
  | false => exact ⟨.bl false, H1, I1, rfl, q1⟩
theorem pe_not (ha : PE X a ta) : PE X (.UnaryOp .Not a pos) (tNotV ta) := by
  intro pins s σ H Q I h
  refine UnaryOp_ (thn (ha pins s σ H _ I h) fun v s1 ⟨x, H1, I1, r1, q1⟩ => ?_)
  obtain ⟨c, rfl, q1⟩ := q1
  cases r1
  exact not_of (wpAny_truthy_bool ⟨.bl (!c), H1, I1, rfl, q1⟩)
/-- a if t else b -/
def tIf (t : TT) (ta tb : TE) : TE := fun σ H Q => t σ H fun c H1 => if c = true then ta σ H1 Q else tb σ H1 Q
theorem pe_ifExp {c : Expr} (hc : PT X c tA) (ha : PE X a ta) (hb : PE X b tb) : PE X (.IfExp c a b pos) (tIf tA ta tb) := by
  intro pins s σ H Q I h
  refine wpAny_IfExp (thn (hc pins s σ H _ I h) fun d s1 ⟨H1, I1, q1⟩ => ?_)
  cases d with
  | true => exact ha pins s1 σ H1 Q I1 q1
  | false => exact hb pins s1 σ H1 Q I1 q1
end
end L2
namespace L2
open PySem PySem.Spec PyProof.Rows
/-! ### a list, a tuple that is read: tracked, frozen, or an object of the module -/
def SqL (K : PySem.W.Frag) (H : Hp) (a : Addr) (xs : List V) : Prop :=
  Rd H a (.lst xs) ∨
    ∃ (o : Obj) (its : Array Value) (n : Nat), K.lookup a = some o ∧ o.cls = .type "list" ∧ o.dict = none ∧ o.data = .seq its n ∧ its.size ≤ sizeLine ∧ Vals xs its.toList
def SqT (K : PySem.W.Frag) (H : Hp) (a : Addr) (xs : List V) : Prop :=
  Rd H a (.tup xs) ∨
    ∃ (o : Obj) (its : Array Value) (n : Nat), K.lookup a = some o ∧ o.cls = .type "tuple" ∧ o.data = .seq its n ∧ its.size ≤ sizeLine ∧ Vals xs its.toList
def absV : Value → Option V
  | .none => some .non
  | .bool b => some (.bl b)
  | .int i _ => some (.int i)
  | .str x _ => some (.str x)
  | .bytes b _ => some (.byt b)
  | .float b _ => some (.flt b)
  | .ref a => some (.ref a)
  | .type n => some (.ty n)
  | _ => none
theorem RelV.abs {x : V} {u : Value} (r : RelV x u) : absV u = some x := by
  cases x with
  | non => cases r; rfl
  | bl _ => cases r; rfl
  | int _ => obtain ⟨t, rfl⟩ := r; rfl
  | str _ => obtain ⟨t, rfl⟩ := r; rfl
  | byt _ => obtain ⟨t, rfl⟩ := r; rfl
  | flt _ => obtain ⟨t, rfl⟩ := r; rfl
  | ref _ => cases r; rfl
  | ty _ => cases r; rfl
theorem RelV.inj {x y : V} {u : Value} (r : RelV x u) (q : RelV y u) : x = y := Option.some.inj (r.abs.symm.trans q.abs)
theorem Vals.inj : ∀ {xs ys : List V} {us : List Value}, Vals xs us → Vals ys us → xs = ys
  | _, _, _, .nil, .nil => rfl
  | _, _, _, .cons r t, .cons r' t' => by rw [r.inj r', Vals.inj t t']
section
variable {X : Cx} {pins : List (Addr × Obj)} {σ : St} {H : Hp} {s : Shared} {a : Addr} {xs ys : List V}
theorem SqL.of {K : PySem.W.Frag} (h : H a = some (.lst xs)) : SqL K H a xs := .inl (.inl h)
theorem SqT.of {K : PySem.W.Frag} (h : H a = some (.tup xs)) : SqT K H a xs := .inl (.inl h)
theorem Inv.list (I : Inv X pins σ H s) (h : SqL X.K H a xs) : ∃ its : List Value, Vals xs its ∧ PlainL s.heap a its.toArray ∧ xs.length ≤ sizeLine := by
  rcases h with h | ⟨o, its, n, hk, hc, hd, hs, hz, r⟩
  · obtain ⟨z, its, n, r, e⟩ := h.ok I.hok
    exact ⟨its, r, ⟨_, n, e, rfl, rfl, rfl⟩, z⟩
  · refine ⟨its.toList, r, ⟨o, n, I.kIn a o hk, hc, hd, by simpa using hs⟩, ?_⟩
    have e := r.length
    simp only [Array.length_toList] at e
    omega
theorem Inv.tuple (I : Inv X pins σ H s) (h : SqT X.K H a xs) : ∃ its : List Value, Vals xs its ∧ IsTup s.heap a its.toArray ∧ xs.length ≤ sizeLine := by
  rcases h with h | ⟨o, its, n, hk, hc, hs, hz, r⟩
  · obtain ⟨z, its, r, p⟩ := h.ok I.hok
    exact ⟨its, r, p, z⟩
  · refine ⟨its.toList, r, ⟨o, I.kIn a o hk, hc, n, by simpa using hs⟩, ?_⟩
    have e := r.length
    simp only [Array.length_toList] at e
    omega
theorem Inv.list_inj (I : Inv X pins σ H s) (h : SqL X.K H a xs) (h' : SqL X.K H a ys) : xs = ys := by
  obtain ⟨its, r, ⟨o, n, e, _, _, d⟩, _⟩ := I.list h
  obtain ⟨its', r', ⟨o', n', e', _, _, d'⟩, _⟩ := I.list h'
  rw [e] at e'; cases e'
  rw [d] at d'
  injection d' with d1 _
  have : its = its' := by simpa using congrArg Array.toList d1
  subst this
  exact r.inj r'
theorem Inv.tuple_inj (I : Inv X pins σ H s) (h : SqT X.K H a xs) (h' : SqT X.K H a ys) : xs = ys := by
  obtain ⟨its, r, ⟨o, e, _, n, d⟩, _⟩ := I.tuple h
  obtain ⟨its', r', ⟨o', e', _, n', d'⟩, _⟩ := I.tuple h'
  rw [e] at e'; cases e'
  rw [d] at d'
  injection d' with d1 _
  have : its = its' := by simpa using congrArg Array.toList d1
  subst this
  exact r.inj r'
end
/-! ### another wish about exceptions -/
abbrev Cx.wish (X : Cx) (E : Value → Shared → Prop) : Cx := { X with xe := E }
/-- no exception leaves -/
abbrev Cx.nox (X : Cx) : Cx := X.wish fun _ _ => False
theorem Cx.Ok.wish {X : Cx} (ok : X.Ok) (E : Value → Shared → Prop) : (X.wish E).Ok :=
  ⟨ok.mod, ok.kind, ok.glob, ok.blt, ok.above, ok.inj, ok.has, ok.cab, ok.hd, ok.frames, ok.stk, ok.exf, ok.bs, ok.bsz, ok.noex, ok.exfs, ok.funs, ok.frf⟩
theorem Cx.Ok.unwish {X : Cx} {E : Value → Shared → Prop} (ok : (X.wish E).Ok) : X.Ok :=
  ⟨ok.mod, ok.kind, ok.glob, ok.blt, ok.above, ok.inj, ok.has, ok.cab, ok.hd, ok.frames, ok.stk, ok.exf, ok.bs, ok.bsz, ok.noex, ok.exfs, ok.funs, ok.frf⟩
section
variable {X : Cx} {pins : List (Addr × Obj)} {σ : St} {H : Hp} {s : Shared} {E : Value → Shared → Prop}
theorem Inv.wish (I : Inv X pins σ H s) (E : Value → Shared → Prop) : Inv (X.wish E) pins σ H s := ⟨I.ok.wish E, I.os, I.bare, I.base, I.loc, I.cell, I.free, I.freeC, I.pin, I.hok, I.len⟩
theorem Inv.unwish (I : Inv (X.wish E) pins σ H s) : Inv X pins σ H s := ⟨I.ok.unwish, I.os, I.bare, I.base, I.loc, I.cell, I.free, I.freeC, I.pin, I.hok, I.len⟩
theorem SP.unwish {D : Ends} {f : Flow} {s' : Shared} (h : SP (X.wish E) pins D f s') : SP X pins D f s' := by
  cases f with
  | next => obtain ⟨σ', H', I, q⟩ := h; exact ⟨σ', H', I.unwish, q⟩
  | brk => obtain ⟨σ', H', I, q⟩ := h; exact ⟨σ', H', I.unwish, q⟩
  | cont => obtain ⟨σ', H', I, q⟩ := h; exact ⟨σ', H', I.unwish, q⟩
  | ret u => obtain ⟨v, σ', H', I, r, q⟩ := h; exact ⟨v, σ', H', I.unwish, r, q⟩
theorem PE.nox {e : Expr} {t : TE} (h : PE X.nox e t) : PE X e t := fun pins s σ H Q I hw =>
  wpAny_mono (h pins s σ H Q (I.wish _) hw) (fun _ _ ⟨v, H', I', r, q⟩ => ⟨v, H', I'.unwish, r, q⟩) fun _ _ z => False.elim z
theorem PT.nox {e : Expr} {t : TT} (h : PT X.nox e t) : PT X e t := fun pins s σ H Q I hw =>
  wpAny_mono (h pins s σ H Q (I.wish _) hw) (fun _ _ ⟨H', I', q⟩ => ⟨H', I'.unwish, q⟩) fun _ _ z => False.elim z
theorem PSs.nox {st : List Stmt} {t : TS} (h : PSs X.nox st t) : PSs X st t := fun pins s σ H D I hw =>
  wpAny_mono (h pins s σ H D (I.wish _) hw) (fun _ _ q => q.unwish) fun _ _ z => False.elim z
end
/-! ### blocks and small statements -/
section
variable {X : Cx} {st : Stmt} {rest : List Stmt} {t u : TS} {e : Expr} {te : TE} {pos : Pos}
def tNext : TS := fun D σ H => D.nx σ H
def tSeq (t u : TS) : TS := fun D σ H => t { D with nx := u D } σ H
theorem pss_nil : PSs X [] tNext := fun _ _ σ H _ I h => wpAny_execs_nil ⟨σ, H, I, h⟩
theorem pss_cons (h1 : PS X st t) (h2 : PSs X rest u) : PSs X (st :: rest) (tSeq t u) := by
  intro pins s σ H D I h
  refine wpAny_execs_cons (thn (h1 pins s σ H { D with nx := u D } I h) fun f s1 q => ?_)
  cases f with
  | next =>
    obtain ⟨σ', H', I', q⟩ := q
    exact h2 pins s1 σ' H' D I' q
  | ret v => exact q
  | brk => exact q
  | cont => exact q
theorem pss_one (h1 : PS X st t) : PSs X [st] t := by
  intro pins s σ H D I h
  refine wpAny_execs_cons (thn (h1 pins s σ H D I h) fun f s1 q => ?_)
  cases f with
  | next => exact wpAny_execs_nil q
  | ret v => exact q
  | brk => exact q
  | cont => exact q
/-- in a def's body nothing is shown -/
theorem Inv.quiet {pins : List (Addr × Obj)} {σ : St} {H : Hp} {s : Shared} (I : Inv X pins σ H s) : interactive X.env = false := by simp [interactive, I.ok.kind]
/-- an expression whose value is dropped -/
def tDrop (te : TE) : TS := fun D σ H => te σ H fun _ H1 => D.nx σ H1
theorem ps_expr (he : PE X e te) (hs : swapsWith e none pos.line X.env = pure false := by rfl) : PS X (.Expr e pos) (tDrop te) := by
  intro pins s σ H D I h
  exact wpAny_Expr_any (thn (he pins s σ H _ I h) fun v s1 ⟨x, H1, I1, r1, q1⟩ => ⟨σ, H1, I1, q1⟩) I.quiet hs
def tRet (te : TE) : TS := fun D σ H => te σ H D.rt
theorem ps_ret (he : PE X e te) : PS X (.Return (some e) pos) (tRet te) := by
  intro pins s σ H D I h
  exact wpAny_Return_some (thn (he pins s σ H _ I h) fun v s1 ⟨x, H1, I1, r1, q1⟩ => ⟨x, σ, H1, I1, r1, q1⟩)
def tIfS (c : TT) (t u : TS) : TS := fun D σ H => c σ H fun b H1 => if b = true then t D σ H1 else u D σ H1
theorem ps_if {c : Expr} {a b : List Stmt} {tc : TT} (hc : PT X c tc) (ha : PSs X a t) (hb : PSs X b u) : PS X (.If c a b pos) (tIfS tc t u) := by
  intro pins s σ H D I h
  refine wpAny_If (thn (hc pins s σ H _ I h) fun d s1 ⟨H1, I1, q1⟩ => ?_)
  cases d with
  | true => exact ha pins s1 σ H1 D I1 q1
  | false => exact hb pins s1 σ H1 D I1 q1
end
/-! ### targets -/
abbrev TG := V → St → Hp → (St → Hp → Prop) → Prop
abbrev TGs := List V → St → Hp → (St → Hp → Prop) → Prop
def PG (X : Cx) (target : Expr) (t : TG) : Prop :=
  ∀ (pins : List (Addr × Obj)) (s : Shared) (σ : St) (H : Hp) (v : V) (u : Value) (Q : St → Hp → Prop), Inv X pins σ H s → RelV v u → t v σ H Q →
    wpAny (model X.prog X.w) X.A (assign target X.env u) (fun _ s' => ∃ σ' H', Inv X pins σ' H' s' ∧ Q σ' H') X.xe s
/-- several targets, one after another -/
def PGs (X : Cx) (ts : List Expr) (t : TGs) : Prop :=
  ∀ (pins : List (Addr × Obj)) (s : Shared) (σ : St) (H : Hp) (vs : List V) (us : List Value) (Q : St → Hp → Prop), Inv X pins σ H s → Vals vs us → t vs σ H Q →
    wpAny (model X.prog X.w) X.A (assignInOrder ((assignEach ts X.env).map (·.2)) us) (fun _ s' => ∃ σ' H', Inv X pins σ' H' s' ∧ Q σ' H') X.xe s
/-- o[i] = v, by values -/
abbrev TSet := V → V → V → Hp → (Hp → Prop) → Prop
def PSet (X : Cx) (t : TSet) : Prop :=
  ∀ (pins : List (Addr × Obj)) (s : Shared) (σ : St) (H : Hp) (o i v : V) (ov iv u : Value) (Q : Hp → Prop), Inv X pins σ H s → RelV o ov → RelV i iv → RelV v u → t o i v H Q →
    wpAny (model X.prog X.w) X.A (setItem ov iv u) (fun _ s' => ∃ H', Inv X pins σ H' s' ∧ Q H') X.xe s
section
variable {X : Cx} {pos : Pos}
def gName (i : Nat) : TG := fun v σ H Q => Q (σ.set i (some v)) H
theorem pg_name {i : Nat} {x : Str} (hN : X.N.Nodup) (hi : X.N[i]? = some x) (hx : Loc X.env.scope x) (hf : X.fn x = true ∨ X.env.scope.names.lookup x = some .local := by first | exact .inl rfl | exact .inr rfl | assumption) : PG X (.Name x pos) (gName i) := by
  intro pins s σ H v u Q I r h
  exact wpAny_assign_Name (store_ok I hN hi hx r (fun s' I' => ⟨_, H, I', h⟩) hf)
def gNil : TGs := fun vs σ H Q => vs = [] ∧ Q σ H
def gCons (t : TG) (u : TGs) : TGs := fun vs σ H Q => ∃ v r, vs = v :: r ∧ t v σ H fun σ' H' => u r σ' H' Q
theorem pgs_nil : PGs X [] gNil := by
  intro pins s σ H vs us Q I r h
  obtain ⟨e, h⟩ := h
  subst e
  cases r
  exact assignInOrder_nil ⟨σ, H, I, h⟩
theorem pgs_cons {e : Expr} {es : List Expr} {t : TG} {u : TGs} (h1 : PG X e t) (h2 : PGs X es u)
    (hs : (assignEach (e :: es) X.env).map (·.2) = assign e X.env :: (assignEach es X.env).map (·.2) := by rfl) : PGs X (e :: es) (gCons t u) := by
  intro pins s σ H vs us Q I r h
  obtain ⟨v, vr, e1, h⟩ := h
  subst e1
  cases r with
  | cons r rr =>
    rw [hs]
    refine assignInOrder_cons (thn (h1 pins s σ H _ _ _ I r h) fun _ s1 ⟨σ1, H1, I1, q1⟩ => ?_)
    exact h2 pins s1 σ1 H1 _ _ Q I1 rr q1
/-- (a, b, ..) = a tuple of that length -/
def gTup (K : PySem.W.Frag) (n : Nat) (t : TGs) : TG := fun v σ H Q => ∃ a xs, v = .ref a ∧ SqT K H a xs ∧ xs.length = n ∧ t xs σ H Q
theorem pg_tup {es : List Expr} {k : Nat} {t : TGs} {n : Nat} (hc : X.calm = true) (h : PGs X es t)
    (hn : (assignEach es X.env).length = n := by rfl) (hst : (assignEach es X.env).findIdx? (·.1) = none := by rfl) : PG X (.Tuple es k pos) (gTup X.K n t) := by
  intro pins s σ H v u Q I r hw
  obtain ⟨a, xs, e1, hq, hl, hw⟩ := hw
  subst e1
  cases r
  obtain ⟨its, rv, ht, hz⟩ := I.tuple hq
  refine assign_Tuple_tuple (I.ok.hd hc) ht (by simp [hn, ← hl, rv.length]) hst fun h' hx => ?_
  have I1 : Inv X pins σ H { s with heap := h' } := I.kept (t' := s.toks) fun b o e => hx b o (Nat.ne_of_lt (Heap.lt_size e)) e
  exact h pins _ σ H xs _ Q I1 (by simpa using rv) hw
/-- o[i] = .. -/
def gSub (to ti : TE) (t : TSet) : TG := fun v σ H Q => to σ H fun o H1 => ti σ H1 fun i H2 => t o i v H2 fun H3 => Q σ H3
theorem pg_sub {o i : Expr} {to ti : TE} {t : TSet} (ho : PE X o to) (hi : PE X i ti) (hs : PSet X t)
    (ha : ∀ v, assign (.Subscript o i pos) X.env v = (do
      let ov ← holding [v] (eval o X.env)
      let iv ← holding [v, ov] (eval i X.env)
      standAt pos
      holding [v, ov, iv] (setItem ov iv v)
      release [v, ov, iv] []) := by intro _; rfl) : PG X (.Subscript o i pos) (gSub to ti t) := by
  intro pins s σ H v u Q I r h
  rw [ha]
  refine wpAny_bind (wpAny_holding (thn (ho pins s σ H _ I h) fun ov s1 ⟨x, H1, I1, r1, q1⟩ => ?_))
  refine wpAny_bind (wpAny_holding (thn (hi pins s1 σ H1 _ I1 q1) fun iv s2 ⟨y, H2, I2, r2, q2⟩ => ?_))
  refine wpAny_bind (wpAny_standAt (wpAny_bind (wpAny_holding (thn (hs pins s2 σ H2 x y v ov iv u _ I2 r1 r2 r q2) fun _ s3 ⟨H3, I3, q3⟩ => ?_))))
  exact wpAny_release ⟨σ, H3, I3, q3⟩
/-- target = value -/
def tAsg (te : TE) (g : TG) : TS := fun D σ H => te σ H fun x H1 => g x σ H1 D.nx
theorem ps_asg {tg e : Expr} {te : TE} {g : TG} (he : PE X e te) (hg : PG X tg g) (hs : swapsWithSole [tg] e pos.line X.env = pure false := by rfl) (hw : swappedStores [tg] e X.env = pure none := by rfl)
    (h1 : (assignEach [tg] X.env).map (·.2) = [assign tg X.env] := by rfl) : PS X (.Assign [tg] e pos) (tAsg te g) := by
  intro pins s σ H D I h
  refine wpAny_Assign_stores (thn (he pins s σ H _ I h) fun v s1 ⟨x, H1, I1, r1, q1⟩ => ?_) hs hw
  rw [h1]
  exact thn (hg pins s1 σ H1 x v _ I1 r1 q1) fun _ s2 q => q
/-- name = value -/
theorem ps_set {i : Nat} {x : Str} {e : Expr} {te : TE} {pos' : Pos} (hN : X.N.Nodup) (hi : X.N[i]? = some x) (hx : Loc X.env.scope x) (he : PE X e te) (hs : swapsWith e (some (.Name x pos')) pos.line X.env = pure false := by rfl) (hf : X.fn x = true ∨ X.env.scope.names.lookup x = some .local := by first | exact .inl rfl | exact .inr rfl | assumption) :
    PS X (.Assign [.Name x pos'] e pos) (tAsg te (gName i)) := by
  intro pins s σ H D I h
  refine wpAny_Assign_Name (thn (he pins s σ H _ I h) fun v s1 ⟨y, H1, I1, r1, q1⟩ => ?_) hs
  exact store_ok I1 hN hi hx r1 (fun s2 I2 => ⟨_, H1, I2, q1⟩) hf
end
/-! ### while -/
section
variable {X : Cx} {pos : Pos}
end
/-! ### what a loop or a comprehension walks -/
/-- at turn i: it yields x (the heap may grow), or it stops -/
structure It where
  go : Nat → Hp → Prop
  yld : Nat → Hp → V → Hp → Prop
  stop : Nat → Hp → Prop
/-- the iterator's own objects may turn: they are not the frame's, not pinned, younger than the entry (or a comprehension's own) -/
def FpOk (X : Cx) (pins : List (Addr × Obj)) (H : Hp) (b : Addr) : Prop :=
  H b = none ∧ b ≠ X.env.locals ∧ b ∉ X.fs ∧ (b ∈ X.ex ∨ X.s₀.heap.objs.size ≤ b) ∧ (∀ x c, X.env.cells.lookup x = some c → c ≠ b) ∧ ∀ p ∈ X.pn ++ pins, p.1 ≠ b
theorem Inv.fpOk {X : Cx} {pins : List (Addr × Obj)} {σ : St} {H H' : Hp} {s : Shared} {b : Addr} (I : Inv X pins σ H s) (hb : s.heap.objs.size ≤ b) (hn : H' b = none) : FpOk X pins H' b := by
  refine ⟨hn, Nat.ne_of_gt (Nat.lt_of_lt_of_le I.lt hb), I.nofs hb, .inr (Nat.le_trans I.sz hb), fun x c e z => ?_, fun p hp z => ?_⟩
  · obtain ⟨v, q⟩ := I.cell x c e
    exact absurd (Nat.lt_of_lt_of_le q.lt (by rw [z]; exact hb)) (Nat.lt_irrefl _)
  · exact absurd (Nat.lt_of_lt_of_le (Heap.lt_size (I.pin p hp).1) (by rw [z]; exact hb)) (Nat.lt_irrefl _)
structure Turn (P : Program) (w : World) (K : PySem.W.Frag) (tg : Expr) (J : It) (fp : List Addr) (it : Addr) (tn : Nat → Heap → Prop) : Prop where
  mem : it ∈ fp
  obj : ∀ i h, tn i h → ∀ b ∈ fp, ∃ o, h.get? b = some o ∧ ∀ v, o.data ≠ .cell v
  keep : ∀ i h h', tn i h → (∀ b ∈ fp, ∀ o, h.get? b = some o → h'.get? b = some o) → tn i h'
  item : ∀ (X : Cx), X.prog = P → X.w = w → X.K = K → X.calm = true → ∀ (i : Nat) (pins : List (Addr × Obj)) (s : Shared) (σ : St) (H : Hp) (E : Value → Shared → Prop), Inv X pins σ H s → (∀ b ∈ fp, FpOk X pins H b) → tn i s.heap → J.go i H →
    wpAny (model P w) X.A (pyNext (.ref it)) (fun r s1 => ∃ u, r = some u ∧
      wpAny (model P w) X.A (letOwnedTupleGo tg (.ref it) u) (fun _ s2 => ∃ x H', Inv X pins σ H' s2 ∧ RelV x u ∧ J.yld i H x H' ∧ tn (i + 1) s2.heap ∧ ∀ b ∈ fp, H' b = none) E s1) E s
  done : ∀ (X : Cx), X.prog = P → X.w = w → X.K = K → X.calm = true → ∀ (i : Nat) (pins : List (Addr × Obj)) (s : Shared) (σ : St) (H : Hp) (E : Value → Shared → Prop), Inv X pins σ H s → (∀ b ∈ fp, FpOk X pins H b) → tn i s.heap → J.stop i H →
    wpAny (model P w) X.A (pyNext (.ref it)) (fun r s1 => r = none ∧ Inv X pins σ H s1) E s
  self : ∀ (A : Around) (i : Nat) (s : Shared) (Q : Value → Shared → Prop) (E : Value → Shared → Prop), tn i s.heap → Q (.ref it) s → wpAny (model P w) A (pyIter (.ref it)) Q E s
abbrev TI := St → Hp → (It → Hp → Prop) → Prop
/-- an iterator has come -/
def PIE (X : Cx) (pins : List (Addr × Obj)) (σ : St) (tg : Expr) (R : It → Hp → Prop) (itv : Value) (s2 : Shared) : Prop :=
  ∃ (it : Addr) (fp : List Addr) (tn : Nat → Heap → Prop) (J : It) (H' : Hp), itv = .ref it ∧ Inv X pins σ H' s2 ∧ Turn X.prog X.w X.K tg J fp it tn ∧ tn 0 s2.heap ∧ (∀ b ∈ fp, FpOk X pins H' b) ∧ R J H'
def PI (X : Cx) (tg iter : Expr) (wi : TI) : Prop :=
  ∀ (pins : List (Addr × Obj)) (s : Shared) (σ : St) (H : Hp) (R : It → Hp → Prop), Inv X pins σ H s → wi σ H R →
    wpAny (model X.prog X.w) X.A (eval iter X.env) (fun v s1 => wpAny (model X.prog X.w) X.A (pyIter v) (PIE X pins σ tg R) X.xe s1) X.xe s
/-- the step ahead of the store is nothing for an iterator that keeps no tuple -/
theorem go_of {M : Model} {A : Around} {E : Value → Shared → Prop} {s : Shared} {tg : Expr} {it : Addr} {u : Value} {o : Obj} {n : String} {vs : Array Value} {Q : Unit → Shared → Prop} (ho : s.heap.get? it = some o) (hc : o.cls = .type n) (hd : o.data = .fields vs)
    (hn : ["enumerate", "zip", "dict_itemiterator", "dict_reverseitemiterator", "odict_iterator", "itertools.zip_longest", "itertools.pairwise"].contains n = false) (hQ : Q () s) : wpAny M A (letOwnedTupleGo tg (.ref it) u) Q E s := by
  unfold letOwnedTupleGo
  cases tg <;> first
    | exact wpAny_pure hQ
    | (cases u <;> first
        | exact wpAny_pure hQ
        | (refine wpAny_bind (wpAny_load ho ?_)
           rw [hc, hd]
           show wpAny M A (if (["enumerate", "zip", "dict_itemiterator", "dict_reverseitemiterator", "odict_iterator", "itertools.zip_longest", "itertools.pairwise"].contains n && vs[0]? == some (rawInt _)) = true then _ else _) Q E s
           rw [if_neg (by intro h; rw [hn, Bool.false_and] at h; cases h)]
           exact wpAny_pure hQ))
/-- the list at a, as it stands at each turn (a loop may append to it) -/
def Itl (K : PySem.W.Frag) (a : Addr) : It :=
  ⟨fun i H => ∃ xs x, SqL K H a xs ∧ xs[i]? = some x, fun i H x H' => H' = H ∧ ∀ xs, SqL K H a xs → xs[i]? = some x, fun i H => ∃ xs, SqL K H a xs ∧ xs.length ≤ i⟩
/-- lo, lo + 1, .. (n of them) -/
def Itr (lo : Int) (n : Nat) : It := ⟨fun i _ => i < n, fun i H x H' => H' = H ∧ x = .int (lo + i), fun i _ => n ≤ i⟩
theorem turn_list {P : Program} {w : World} {K : PySem.W.Frag} {tg : Expr} (a it : Addr) : Turn P w K tg (Itl K a) [it] it (fun i h => h.IsListIter it a i) where
  mem := by simp
  obj := fun i h st b hb => by
    have e : b = it := by simpa using hb
    subst e
    obtain ⟨o, e, c, d⟩ := st
    exact ⟨o, e, fun v z => by rw [d] at z; cases z⟩
  keep := fun i h h' st k => st.at fun o e => k it (by simp) o e
  item := by
    intro X hP hw hK hc i pins s σ H E I hf st hg
    subst hP hw hK
    obtain ⟨xs, x, hq, hx⟩ := hg
    obtain ⟨its, rv, p, hz⟩ := I.list hq
    obtain ⟨u, hu, ru⟩ := rv.get hx
    obtain ⟨f0, f1, f2, f3, f4, f5⟩ := hf it (by simp)
    refine wpAny_pyNext_list_item st p.isList (x := u) (by simpa using hu) fun h' st' sb => ?_
    have I1 : Inv X pins σ H { s with heap := h' } := I.turned (t' := s.toks) (fun b o hb e => (sb.2 b hb).trans e) f0 f1 f3 f4 f5
    obtain ⟨o, e, c, d⟩ := id st'
    exact ⟨u, rfl, go_of (s := { s with heap := h' }) e c d (by decide) ⟨x, H, I1, ru, ⟨rfl, fun ys hy => by rw [I.list_inj hy hq]; exact hx⟩, st', fun b hb => (hf b hb).1⟩⟩
  done := by
    intro X hP hw hK hc i pins s σ H E I hf st hg
    subst hP hw hK
    obtain ⟨xs, hq, hx⟩ := hg
    obtain ⟨its, rv, p, hz⟩ := I.list hq
    obtain ⟨f0, f1, f2, f3, f4, f5⟩ := hf it (by simp)
    have hl := rv.length
    exact wpAny_pyNext_list_end (I.ok.hd hc) st p.isList (by simp; omega) fun h' eb => ⟨rfl, I.turned (t' := s.toks) (fun b o hb e => eb b o hb e) f0 f1 f3 f4 f5⟩
  self := fun _ _ _ _ _ st h => wpAny_pyIter_listiter st h
theorem turn_range {P : Program} {w : World} {K : PySem.W.Frag} {tg : Expr} (it : Addr) (lo : Int) (n : Nat) : Turn P w K tg (Itr lo n) [it] it (fun i h => IsRangeIter h it (lo + (i : Nat) * 1) ((n : Int) - (i : Nat)) 1) where
  mem := by simp
  obj := fun i h st b hb => by
    have e : b = it := by simpa using hb
    subst e
    exact ⟨_, st, fun v z => by
      have z' : Data.fields _ = Data.cell v := z
      cases z'⟩
  keep := fun i h h' st k => k it (by simp) _ st
  item := by
    intro X hP hw hK hc i pins s σ H E I hf st hg
    subst hP hw hK
    obtain ⟨f0, f1, f2, f3, f4, f5⟩ := hf it (by simp)
    have W := Walks.range (prog := X.prog) (w := X.w) (I.ok.hd hc) it lo 1 n
    refine W.item i s _ _ hg st fun v h' tk hv st' kk => ?_
    obtain ⟨t, rfl⟩ := hv
    have I1 : Inv X pins σ H { s with heap := h', toks := tk } := I.turned (fun b o hb e => kk b o (by simpa using hb) e) f0 f1 f3 f4 f5
    refine ⟨_, rfl, go_of (s := { s with heap := h', toks := tk }) (n := "range_iterator") st' rfl rfl (by decide) ⟨.int (lo + i), H, I1, ⟨t, ?_⟩, ⟨rfl, rfl⟩, st', fun b hb => (hf b hb).1⟩⟩
    rw [Int.mul_one]
  done := by
    intro X hP hw hK hc i pins s σ H E I hf st hg
    subst hP hw hK
    obtain ⟨f0, f1, f2, f3, f4, f5⟩ := hf it (by simp)
    exact wpAny_pyNext_range_end (I.ok.hd hc) st (by have : n ≤ i := hg; omega) fun h' eb => ⟨rfl, I.turned (t' := s.toks) (fun b o hb e => eb b o hb e) f0 f1 f3 f4 f5⟩
  self := fun _ _ _ _ _ st h => wpAny_pyIter_rangeiter st h
end L2
namespace L2
open PySem PySem.Spec PyProof.Rows
section
variable {X : Cx} {tg : Expr}
def iList (K : PySem.W.Frag) (tl : TE) : TI := fun σ H R => tl σ H fun x H1 => ∃ a, x = .ref a ∧ (∃ xs, SqL K H1 a xs) ∧ R (Itl K a) H1
theorem pi_list {l : Expr} {tl : TE} (hl : PE X l tl) : PI X tg l (iList X.K tl) := by
  intro pins s σ H R I h
  refine thn (hl pins s σ H _ I h) fun v s1 ⟨x, H1, I1, r1, q1⟩ => ?_
  obtain ⟨a, e, ⟨xs, hq⟩, q⟩ := q1
  subst e
  cases r1
  obtain ⟨its, rv, p, hz⟩ := I1.list hq
  refine wpAny_pyIter_list p.isList ?_
  refine ⟨s1.heap.objs.size, [s1.heap.objs.size], _, _, H1, rfl, I1.kept (t' := s1.toks) fun b o e => Heap.get?_push_of_some _ e, turn_list a _, ⟨_, Heap.get?_push_size _ rfl, rfl, rfl⟩, fun b hb => ?_, q⟩
  have e : b = s1.heap.objs.size := by simpa using hb
  subst e
  exact I1.fpOk (Nat.le_refl _) (I1.hok.fresh (Nat.le_refl _))
/-- a range object just made, walked -/
theorem range_it {pins : List (Addr × Obj)} {σ : St} {H : Hp} {s : Shared} {R : It → Hp → Prop} {E : Value → Shared → Prop} {lo hi : Int} {t u v : Tok} {tk : Nat} (I : Inv X pins σ H s) (h1 : -(2 ^ 62) ≤ lo) (h2 : lo < 2 ^ 62) (h3 : -(2 ^ 62) ≤ hi) (h4 : hi < 2 ^ 62)
    (q : R (Itr lo (hi - lo).toNat) H) : wpAny (model X.prog X.w) X.A (pyIter (.ref s.heap.objs.size)) (PIE X pins σ tg R) E { s with heap := s.heap.push { cls := .type "range", data := .fields #[.int lo t, .int hi u, .int 1 v] }, toks := tk } := by
  refine wpAny_pyIter_range (IsRange.new ..) (small_one h1 h2 h3 h4) ?_
  have I1 : Inv X pins σ H { s with heap := s.heap.push { cls := .type "range", data := .fields #[.int lo t, .int hi u, .int 1 v] }, toks := tk } := I.kept fun b o e => Heap.get?_push_of_some _ e
  refine ⟨(s.heap.push { cls := .type "range", data := .fields #[.int lo t, .int hi u, .int 1 v] }).objs.size, [(s.heap.push { cls := .type "range", data := .fields #[.int lo t, .int hi u, .int 1 v] }).objs.size], _, _, H, rfl,
    I1.kept (t' := tk) fun b o e => Heap.get?_push_of_some _ e, turn_range _ lo (hi - lo).toNat, ?_, fun b hb => ?_, q⟩
  · have e1 : lo + ((0 : Nat) : Int) * 1 = lo := by simp
    have e2 : (((hi - lo).toNat : Nat) : Int) - ((0 : Nat) : Int) = Builtin.Range.rangeSize lo hi 1 := by rw [rangeSize_one]; split <;> omega
    show IsRangeIter _ _ (lo + ((0 : Nat) : Int) * 1) ((((hi - lo).toNat : Nat) : Int) - ((0 : Nat) : Int)) 1
    rw [e1, e2]
    exact Heap.get?_push_size _ rfl
  · have e : b = (s.heap.push { cls := .type "range", data := .fields #[.int lo t, .int hi u, .int 1 v] }).objs.size := by simpa using hb
    subst e
    exact I1.fpOk (Nat.le_refl _) (I1.hok.fresh (Nat.le_refl _))
def iRng1 (ta : TA) : TI := fun σ H R => ta σ H fun vs H1 => ∃ j : Int, vs = [.int j] ∧ -(2 ^ 62) ≤ j ∧ j < 2 ^ 62 ∧ R (Itr 0 j.toNat) H1
def iRng2 (ta : TA) : TI := fun σ H R => ta σ H fun vs H1 => ∃ i j : Int, vs = [.int i, .int j] ∧ (-(2 ^ 62) ≤ i ∧ i < 2 ^ 62 ∧ -(2 ^ 62) ≤ j ∧ j < 2 ^ 62) ∧ R (Itr i (j - i).toNat) H1
theorem pi_range1 {a : Expr} {ta : TA} {p pos : Pos} (hg : Gl X "range") (hm : X.mg "range" = none) (ha : PA X [a] ta) (hs : starEach [a] X.env = [(false, eval a X.env)] := by rfl) : PI X tg (.Call (.Name "range" p) [a] [] pos) (iRng1 ta) := by
  intro pins s σ H R I h
  refine Call_ (ld_blt I hg hm boot_range (PyProof.Rows.callWith_type1 (thn (ha pos pins s σ H _ I h) fun us s1 ⟨vs, H1, I1, r1, q1⟩ => ?_) hs rfl))
  obtain ⟨j, e, q1, q2, q⟩ := q1
  subst e
  cases r1 with
  | cons r rr =>
    cases rr
    obtain ⟨t, rfl⟩ := r
    exact call_range_1 (range_it I1 (by omega) (by omega) q1 q2 (by simpa using q))
theorem pi_range2 {a b : Expr} {ta : TA} {p pos : Pos} (hg : Gl X "range") (hm : X.mg "range" = none) (ha : PA X [a, b] ta) (hs : starEach [a, b] X.env = [(false, eval a X.env), (false, eval b X.env)] := by rfl) (hs2 : starEach [b] X.env = [(false, eval b X.env)] := by rfl) :
    PI X tg (.Call (.Name "range" p) [a, b] [] pos) (iRng2 ta) := by
  intro pins s σ H R I h
  refine Call_ (ld_blt I hg hm boot_range (PyProof.Rows.callWith_type1 (thn (ha pos pins s σ H _ I h) fun us s1 ⟨vs, H1, I1, r1, q1⟩ => ?_) (by rw [hs, hs2]) (by rw [hs2]; rfl)))
  obtain ⟨i, j, e, ⟨q1, q2, q3, q4⟩, q⟩ := q1
  subst e
  cases r1 with
  | cons r rr =>
    cases rr with
    | cons r' rr =>
      cases rr
      obtain ⟨t, rfl⟩ := r
      obtain ⟨t', rfl⟩ := r'
      exact call_range_2 (range_it I1 q1 q2 q3 q4 q)
/-! ### for -/
/-- W: the invariant by the turn and a measure; N: what the body is to reach -/
def tFor (wi : TI) (g : TG) (tb : TS) : TS := fun D σ H => wi σ H fun J H1 => ∃ W : Nat → Nat → St → Hp → Prop, (∃ m, W 0 m σ H1) ∧ ∀ i m σ H, W i m σ H →
  (J.stop i H ∧ D.nx σ H) ∨ (J.go i H ∧ ∃ N : St → Hp → Prop, (∀ σ' H', N σ' H' → ∃ m', m' < m ∧ W (i + 1) m' σ' H') ∧ ∀ x H', J.yld i H x H' → g x σ H' fun σ2 H2 => tb { D with nx := N, ct := N, bk := D.nx } σ2 H2)
/-- the records at fp as they stand -/
def pinsAt (fp : List Addr) (h : Heap) : List (Addr × Obj) := fp.filterMap fun b => (h.get? b).map fun o => (b, o)
theorem mem_pinsAt {fp : List Addr} {h : Heap} {b : Addr} {o : Obj} (hb : b ∈ fp) (e : h.get? b = some o) : (b, o) ∈ pinsAt fp h := List.mem_filterMap.mpr ⟨b, hb, by rw [e]; rfl⟩
theorem of_pinsAt {fp : List Addr} {h : Heap} {p : Addr × Obj} (hp : p ∈ pinsAt fp h) : p.1 ∈ fp ∧ h.get? p.1 = some p.2 := by
  obtain ⟨b, hb, e⟩ := List.mem_filterMap.mp hp
  cases q : h.get? b with
  | none => rw [q] at e; cases e
  | some o =>
    rw [q] at e
    have e' : (b, o) = p := Option.some.inj e
    subst e'
    exact ⟨hb, q⟩
theorem Inv.pinned {pins : List (Addr × Obj)} {σ : St} {H : Hp} {s : Shared} {fp : List Addr} (I : Inv X pins σ H s) (hf : ∀ b ∈ fp, FpOk X pins H b) (ho : ∀ b ∈ fp, ∃ o, s.heap.get? b = some o ∧ ∀ v, o.data ≠ .cell v) : Inv X (pins ++ pinsAt fp s.heap) σ H s :=
  I.pins_of fun p hp => (List.mem_append.mp hp).elim (fun z => I.pin p (List.mem_append_right _ z)) fun z => by
    obtain ⟨hb, e⟩ := of_pinsAt z
    obtain ⟨f0, f1, f2, _⟩ := hf p.1 hb
    obtain ⟨o, e', d⟩ := ho p.1 hb
    rw [e] at e'; cases e'
    exact ⟨e, f0, f1, f2, d⟩
theorem Inv.unpinned {pins pl : List (Addr × Obj)} {σ : St} {H : Hp} {s : Shared} (I : Inv X (pins ++ pl) σ H s) : Inv X pins σ H s := I.pins_of fun p hp => I.pin p (List.mem_append_right _ (List.mem_append_left _ hp))
theorem ps_for {iter : Expr} {body : List Stmt} {wi : TI} {g : TG} {tb : TS} {pos : Pos} (hp : PassesOwn (model X.prog X.w) X.A X.env X.xe) (hc : X.calm = true) (hi : PI X tg iter wi) (hg : PG X tg g) (hb : PSs X body tb)
    (hs : ∀ x, foldedSetIterable iter X.env x = pure x := by intro _; rfl) : PS X (.For tg iter body [] pos) (tFor wi g tb) := by
  intro pins s σ H D I h
  refine wpAny_For (thn (hi pins s σ H _ I h) fun v s1 h1 => thn h1 fun itv s2 h2 => ?_) hs
  obtain ⟨it, fp, tn, J, H2, e, I2, T, st2, f2, W, ⟨m0, w0⟩, turn⟩ := h2
  subst e
  -- what stays true of the iterator's objects through the loop
  have stat : ∀ {H' : Hp}, (∀ b ∈ fp, H' b = none) → ∀ b ∈ fp, FpOk X pins H' b := fun hn b hb => ⟨hn b hb, (f2 b hb).2⟩
  refine codeAny_forLoop_any (fun n s' => ∃ i σ' H', Inv X pins σ' H' s' ∧ tn i s'.heap ∧ (∀ b ∈ fp, H' b = none) ∧ W i n σ' H') ?_ m0 ⟨0, σ, H2, I2, st2, fun b hb => (f2 b hb).1, w0⟩
  rintro n s3 ⟨i, σ3, H3, I3, st3, fr3, w3⟩
  rcases turn i n σ3 H3 w3 with ⟨stop, qn⟩ | ⟨go, N, hN, step⟩
  · refine wpAny_passesOwn hp (thn (T.done X rfl rfl rfl hc i pins s3 σ3 H3 X.xe I3 (stat fr3) st3 stop) fun r s4 ⟨hr, I4⟩ => ?_)
    subst hr
    exact wpAny_execs_nil ⟨σ3, H3, I4, qn⟩
  · refine wpAny_passesOwn hp (thn (T.item X rfl rfl rfl hc i pins s3 σ3 H3 X.xe I3 (stat fr3) st3 go) fun r s4 ⟨u, hr, h4⟩ => ?_)
    subst hr
    refine wpAny_passesOwn hp (thn h4 fun _ s5 ⟨x, H5, I5, r5, y5, st5, fr5⟩ => ?_)
    have I5' := I5.pinned (stat fr5) (T.obj _ _ st5)
    refine wpAny_passesOwn hp (thn (hg _ s5 σ3 H5 x u _ I5' r5 (step x H5 y5)) fun _ s6 ⟨σ6, H6, I6, q6⟩ => ?_)
    refine wpAny_passesOwn hp (thn (hb _ s6 σ6 H6 _ I6 q6) fun f s7 q7 => ?_)
    have again : ∀ {σ7 : St} {H7 : Hp}, Inv X (pins ++ pinsAt fp s5.heap) σ7 H7 s7 → N σ7 H7 → ∃ m, m < n ∧ ∃ i σ' H', Inv X pins σ' H' s7 ∧ tn i s7.heap ∧ (∀ b ∈ fp, H' b = none) ∧ W i m σ' H' := fun {σ7 H7} I7 n7 => by
      obtain ⟨m', hm, w7⟩ := hN σ7 H7 n7
      refine ⟨m', hm, i + 1, σ7, H7, I7.unpinned, T.keep _ _ _ st5 fun b hb o e => (I7.pin (b, o) (List.mem_append_right _ (List.mem_append_right _ (mem_pinsAt hb e)))).1, fun b hb => ?_, w7⟩
      obtain ⟨o, e, d⟩ := T.obj _ _ st5 b hb
      exact (I7.pin (b, o) (List.mem_append_right _ (List.mem_append_right _ (mem_pinsAt hb e)))).2.1
    cases f with
    | next => obtain ⟨σ7, H7, I7, n7⟩ := q7; exact again I7 n7
    | cont => obtain ⟨σ7, H7, I7, n7⟩ := q7; exact again I7 n7
    | brk => obtain ⟨σ7, H7, I7, q7⟩ := q7; exact ⟨σ7, H7, I7.unpinned, q7⟩
    | ret v => obtain ⟨x7, σ7, H7, I7, r7, q7⟩ := q7; exact ⟨x7, σ7, H7, I7.unpinned, r7, q7⟩
end
theorem for_range {lo : Int} {n : Nat} {g : TG} {tb : TS} {D : Ends} {σ : St} {H : Hp} (Pv : Nat → St → Hp → Prop) (h0 : Pv 0 σ H)
    (hs : ∀ i σ H, i < n → Pv i σ H → g (.int (lo + i)) σ H fun σ2 H2 => tb { D with nx := Pv (i + 1), ct := Pv (i + 1), bk := D.nx } σ2 H2) (hd : ∀ σ H, Pv n σ H → D.nx σ H) :
    ∃ W : Nat → Nat → St → Hp → Prop, (∃ m, W 0 m σ H) ∧ ∀ i m σ H, W i m σ H →
      ((Itr lo n).stop i H ∧ D.nx σ H) ∨ ((Itr lo n).go i H ∧ ∃ N : St → Hp → Prop, (∀ σ' H', N σ' H' → ∃ m', m' < m ∧ W (i + 1) m' σ' H') ∧ ∀ x H', (Itr lo n).yld i H x H' → g x σ H' fun σ2 H2 => tb { D with nx := N, ct := N, bk := D.nx } σ2 H2) := by
  refine ⟨fun i m σ H => m = n - i ∧ i ≤ n ∧ Pv i σ H, ⟨n, by simp, Nat.zero_le _, h0⟩, ?_⟩
  rintro i m σ H ⟨rfl, hi, p⟩
  by_cases hlt : i < n
  · refine .inr ⟨hlt, Pv (i + 1), fun σ' H' p' => ⟨n - (i + 1), by omega, rfl, hlt, p'⟩, fun x H' y => ?_⟩
    obtain ⟨e, y⟩ := y
    subst e y
    exact hs i σ _ hlt p
  · have e : i = n := by omega
    subst e
    exact .inl ⟨Nat.le_refl _, hd σ H p⟩
end L2
namespace L2
open PySem PySem.Spec PyProof.Rows
abbrev R2 := V → V → Hp → VK → Prop
/-- a two-place operation on values: f is binaryOp op, inplaceOp op or compareOp op -/
def OpR (X : Cx) (f : Value → Value → Sem Value) (r : R2) : Prop :=
  ∀ (pins : List (Addr × Obj)) (s : Shared) (σ : St) (H : Hp) (x y : V) (v u : Value) (Q : VK), Inv X pins σ H s → RelV x v → RelV y u → r x y H Q →
    wpAny (model X.prog X.w) X.A (f v u) (EP X pins σ Q) X.xe s
/-- a one-place operation -/
def UnR (X : Cx) (f : Value → Sem Value) (r : V → Hp → VK → Prop) : Prop :=
  ∀ (pins : List (Addr × Obj)) (s : Shared) (σ : St) (H : Hp) (x : V) (v : Value) (Q : VK), Inv X pins σ H s → RelV x v → r x H Q →
    wpAny (model X.prog X.w) X.A (f v) (EP X pins σ Q) X.xe s
/-- a call of a value that is known (a builtin, a type) with values -/
def CallR (X : Cx) (f : Value) (r : List V → Hp → VK → Prop) : Prop :=
  ∀ (pins : List (Addr × Obj)) (s : Shared) (σ : St) (H : Hp) (xs : List V) (us : List Value) (Q : VK), Inv X pins σ H s → Vals xs us → r xs H Q →
    wpAny (model X.prog X.w) X.A (call f us) (EP X pins σ Q) X.xe s
/-- a value's truth -/
def TruR (X : Cx) (r : V → Hp → (Bool → Hp → Prop) → Prop) : Prop :=
  ∀ (pins : List (Addr × Obj)) (s : Shared) (σ : St) (H : Hp) (x : V) (v : Value) (Q : Bool → Hp → Prop), Inv X pins σ H s → RelV x v → r x H Q →
    wpAny (model X.prog X.w) X.A (truthy v) (TP X pins σ Q) X.xe s
def tOp (r : R2) (ta tb : TE) : TE := fun σ H Q => ta σ H fun x H1 => tb σ H1 fun y H2 => r x y H2 Q
def tUn (r : V → Hp → VK → Prop) (ta : TE) : TE := fun σ H Q => ta σ H fun x H1 => r x H1 Q
/-- ints in, under C, and a value out -/
def rI (C : Int → Int → Prop) (g : Int → Int → V) : R2 := fun x y H Q => ∃ i j, x = .int i ∧ y = .int j ∧ C i j ∧ Q (g i j) H
def rI0 (g : Int → Int → V) : R2 := fun x y H Q => ∃ i j, x = .int i ∧ y = .int j ∧ Q (g i j) H
def rU (g : Int → V) : V → Hp → VK → Prop := fun x H Q => ∃ i, x = .int i ∧ Q (g i) H
section
variable {X : Cx} {a b c : Expr} {ta tb tc : TE} {pos : Pos}
theorem binT (ha : PE X a ta) (hb : PE X b tb) {pins : List (Addr × Obj)} {s : Shared} {σ : St} {H : Hp} {R : V → V → Hp → Prop} (I : Inv X pins σ H s)
    (h : ta σ H fun x H1 => tb σ H1 fun y H2 => R x y H2) {Q : Value → Shared → Prop} {f : Value → Value → Sem Value}
    (hf : ∀ v u s2 x y H2, Inv X pins σ H2 s2 → RelV x v → RelV y u → R x y H2 → wpAny (model X.prog X.w) X.A (f v u) Q X.xe s2) :
    wpAny (model X.prog X.w) X.A (eval a X.env) (fun v s₁ => wpAny (model X.prog X.w) X.A (eval b X.env) (fun u s₂ => wpAny (model X.prog X.w) X.A (f v u) Q X.xe s₂) X.xe s₁) X.xe s := by
  refine thn (ha pins s σ H _ I h) fun v s1 ⟨x, H1, I1, r1, q1⟩ => ?_
  refine thn (hb pins s1 σ H1 _ I1 q1) fun u s2 ⟨y, H2, I2, r2, q2⟩ => ?_
  exact hf v u s2 x y H2 I2 r1 r2 q2
theorem pe_op {op : Operator} {r : R2} (ho : OpR X (binaryOp op) r) (ha : PE X a ta) (hb : PE X b tb) : PE X (.BinOp a op b pos) (tOp r ta tb) := by
  intro pins s σ H Q I h
  exact wpAny_BinOp (binT ha hb I h fun v u s2 x y H2 I2 rx ry q => ho pins s2 σ H2 x y v u Q I2 rx ry q)
theorem pe_un {op : UnaryOp} {r : V → Hp → VK → Prop} (ho : UnR X (unaryOp op) r) (ha : PE X a ta) : PE X (.UnaryOp op a pos) (tUn r ta) := by
  intro pins s σ H Q I h
  exact UnaryOp_ (thn (ha pins s σ H _ I h) fun v s1 ⟨x, H1, I1, r1, q1⟩ => ho pins s1 σ H1 x v Q I1 r1 q1)
/-! ### ints -/
theorem opI {f : Value → Value → Sem Value} {C : Int → Int → Prop} {g : Int → Int → Int}
    (rule : ∀ (i j : Int) (t u : Tok) (s : Shared) (Q : Value → Shared → Prop) (E : Value → Shared → Prop), C i j → Q (.int (g i j) s.toks) { s with toks := s.toks + 1 } → wpAny (model X.prog X.w) X.A (f (.int i t) (.int j u)) Q E s) :
    OpR X f (rI C fun i j => .int (g i j)) := by
  intro pins s σ H x y v u Q I rx ry h
  obtain ⟨i, j, rfl, rfl, hc, q⟩ := h
  obtain ⟨t, rfl⟩ := rx
  obtain ⟨t', rfl⟩ := ry
  exact rule i j t t' s _ _ hc ⟨.int (g i j), H, I.tok _, ⟨_, rfl⟩, q⟩
theorem opI0 {f : Value → Value → Sem Value} {g : Int → Int → Int}
    (rule : ∀ (i j : Int) (t u : Tok) (s : Shared) (Q : Value → Shared → Prop) (E : Value → Shared → Prop), Q (.int (g i j) s.toks) { s with toks := s.toks + 1 } → wpAny (model X.prog X.w) X.A (f (.int i t) (.int j u)) Q E s) :
    OpR X f (rI0 fun i j => .int (g i j)) := by
  intro pins s σ H x y v u Q I rx ry h
  obtain ⟨i, j, rfl, rfl, q⟩ := h
  obtain ⟨t, rfl⟩ := rx
  obtain ⟨t', rfl⟩ := ry
  exact rule i j t t' s _ _ ⟨.int (g i j), H, I.tok _, ⟨_, rfl⟩, q⟩
theorem opB0 {f : Value → Value → Sem Value} {g : Int → Int → Bool}
    (rule : ∀ (i j : Int) (t u : Tok) (s : Shared) (Q : Value → Shared → Prop) (E : Value → Shared → Prop), Q (.bool (g i j)) s → wpAny (model X.prog X.w) X.A (f (.int i t) (.int j u)) Q E s) :
    OpR X f (rI0 fun i j => .bl (g i j)) := by
  intro pins s σ H x y v u Q I rx ry h
  obtain ⟨i, j, rfl, rfl, q⟩ := h
  obtain ⟨t, rfl⟩ := rx
  obtain ⟨t', rfl⟩ := ry
  exact rule i j t t' s _ _ ⟨.bl (g i j), H, I, rfl, q⟩
def CDiv (i j : Int) : Prop := 0 < j ∧ j < 1073741824
def CPow (i j : Int) : Prop := 0 ≤ j ∧ j ≤ 1000000 ∧ i.natAbs < 2 ^ 64
def CMul (i j : Int) : Prop := (-(2 ^ 64) < i ∧ i < 2 ^ 64) ∨ (-(2 ^ 64) < j ∧ j < 2 ^ 64)
theorem CMul.ok {i j : Int} (h : CMul i j) : IntMulOk i j := by
  rcases h with ⟨h1, h2⟩ | ⟨h1, h2⟩
  · exact .of_left (intBits_le_64 h1 h2)
  · exact .of_right (intBits_le_64 h1 h2)
theorem two_pow_nn (k : Nat) : (0 : Int) ≤ 2 ^ k := by
  rw [two_pow_cast]
  exact Int.natCast_nonneg _
theorem op_add : OpR X (binaryOp .Add) (rI0 fun i j => .int (i + j)) := opI0 fun _ _ _ _ _ _ _ q => add_int q
theorem op_sub : OpR X (binaryOp .Sub) (rI0 fun i j => .int (i - j)) := opI0 fun _ _ _ _ _ _ _ q => sub_int q
theorem op_mul : OpR X (binaryOp .Mult) (rI CMul fun i j => .int (i * j)) := opI fun _ _ _ _ _ _ _ hc q => mul_int q hc.ok
/-- // by a positive divisor -/
theorem op_fdiv : OpR X (binaryOp .FloorDiv) (rI CDiv fun i j => .int (i / j)) := opI fun i j _ _ _ _ _ hc q => by
  have h1 : (0 : Int) < j := hc.1
  have h2 : j < 1073741824 := hc.2
  exact floordiv_int (by omega) (by rw [Int.fdiv_eq_ediv_of_nonneg i (by omega)]; exact q) (.inl (PyProof.noPylong_small (by omega)))
/-- % by a positive divisor of any size -/
theorem op_mod : OpR X (binaryOp .Mod) (rI (fun _ j => 0 < j) fun i j => .int (i % j)) := opI fun i j _ _ _ _ _ hc q => by
  have h1 : (0 : Int) < j := hc
  exact mod_int' (by omega) (by rw [Int.fmod_eq_emod_of_nonneg i (by omega)]; exact q)
theorem op_pow : OpR X (binaryOp .Pow) (rI CPow fun i j => .int (i ^ j.toNat)) := opI fun _ _ _ _ _ _ _ hc q => pow_int_small hc.1 hc.2.1 hc.2.2 q
theorem op_shr : OpR X (binaryOp .RShift) (rI (fun _ j => 0 ≤ j) fun i j => .int (i / 2 ^ j.toNat)) := opI fun i j _ _ _ _ _ hc q =>
  rshift_int hc (by rw [Int.fdiv_eq_ediv_of_nonneg i (two_pow_nn _)]; exact q)
end
/-! ### comparisons -/
/-- the scalars that == tells apart as data does -/
def scal : V → V → Bool
  | .non, .non => true | .non, .int _ => true | .int _, .non => true | .non, .bl _ => true | .bl _, .non => true | .non, .str _ => true | .str _, .non => true
  | .int _, .int _ => true | .bl _, .bl _ => true | .str _, .str _ => true | .byt _, .byt _ => true
  | .int _, .str _ => true | .str _, .int _ => true | .bl _, .str _ => true | .str _, .bl _ => true
  | _, _ => false
def rEq : R2 := fun x y H Q => scal x y = true ∧ Q (.bl (decide (x = y))) H
def rNe : R2 := fun x y H Q => scal x y = true ∧ Q (.bl (!decide (x = y))) H
theorem dec_int {i j : Int} : decide (V.int i = V.int j) = (i == j) := by
  rw [Bool.eq_iff_iff]
  simp
theorem dec_bl {i j : Bool} : decide (V.bl i = V.bl j) = (i == j) := by
  rw [Bool.eq_iff_iff]
  simp
theorem dec_str {i j : Str} : decide (V.str i = V.str j) = (i == j) := by
  rw [Bool.eq_iff_iff]
  simp
theorem dec_byt {i j : Array UInt8} : decide (V.byt i = V.byt j) = (i.toList == j.toList) := by
  rw [Bool.eq_iff_iff]
  cases i
  cases j
  simp
section
variable {X : Cx} {a b c : Expr} {ta tb tc : TE} {pos : Pos}
theorem fin_bl {pins : List (Addr × Obj)} {σ : St} {H : Hp} {s : Shared} {Q : VK} {k k' : Bool} (I : Inv X pins σ H s) (q : Q (.bl k) H) (e : k = k') : EP X pins σ Q (.bool k') s := by
  subst e
  exact ⟨.bl k, H, I, rfl, q⟩
theorem op_eq : OpR X (compareOp .Eq) rEq := by
  intro pins s σ H x y v u Q I rx ry h
  obtain ⟨hs, q⟩ := h
  cases x with
  | non =>
    cases rx
    cases y with
    | non => cases ry; exact PySem.EqNone.eq_none_none (fin_bl I q (by simp))
    | bl j => cases ry; exact PySem.EqNone.eq_none_bool (fin_bl I q (by simp))
    | int j => obtain ⟨t', rfl⟩ := ry; exact PySem.EqNone.eq_none_int (fin_bl I q (by simp))
    | str j => obtain ⟨t', rfl⟩ := ry; exact PySem.EqNone.eq_none_str (fin_bl I q (by simp))
    | _ => exact absurd (show false = true from hs) Bool.false_ne_true
  | bl i =>
    cases rx
    cases y with
    | non => cases ry; exact PySem.EqNone.eq_bool_none (fin_bl I q (by simp))
    | bl j => cases ry; exact eq_bool (fin_bl I q dec_bl)
    | str j => obtain ⟨t', rfl⟩ := ry; exact PySem.EqMixed.eq_bool_str (fin_bl I q (by simp))
    | _ => exact absurd (show false = true from hs) Bool.false_ne_true
  | int i =>
    obtain ⟨t, rfl⟩ := rx
    cases y with
    | non => cases ry; exact PySem.EqNone.eq_int_none (fin_bl I q (by simp))
    | int j => obtain ⟨t', rfl⟩ := ry; exact eq_int (fin_bl I q dec_int)
    | str j => obtain ⟨t', rfl⟩ := ry; exact PySem.EqMixed.eq_int_str (fin_bl I q (by simp))
    | _ => exact absurd (show false = true from hs) Bool.false_ne_true
  | str i =>
    obtain ⟨t, rfl⟩ := rx
    cases y with
    | non => cases ry; exact PySem.EqNone.eq_str_none (fin_bl I q (by simp))
    | bl j => cases ry; exact PySem.EqMixed.eq_str_bool (fin_bl I q (by simp))
    | int j => obtain ⟨t', rfl⟩ := ry; exact PySem.EqMixed.eq_str_int (fin_bl I q (by simp))
    | str j => obtain ⟨t', rfl⟩ := ry; exact eq_str (fin_bl I q dec_str)
    | _ => exact absurd (show false = true from hs) Bool.false_ne_true
  | byt i =>
    obtain ⟨t, rfl⟩ := rx
    cases y with
    | byt j => obtain ⟨t', rfl⟩ := ry; exact PySem.W.eq_bytes (fin_bl I q dec_byt)
    | _ => exact absurd (show false = true from hs) Bool.false_ne_true
  | _ => cases y <;> exact absurd (show false = true from hs) Bool.false_ne_true
theorem op_ne : OpR X (compareOp .NotEq) rNe := by
  intro pins s σ H x y v u Q I rx ry h
  obtain ⟨hs, q⟩ := h
  cases x with
  | non =>
    cases rx
    cases y with
    | non => cases ry; exact PySem.EqNone.ne_none_none (fin_bl I q (by simp))
    | bl j => cases ry; exact PySem.EqNone.ne_none_bool (fin_bl I q (by simp))
    | int j => obtain ⟨t', rfl⟩ := ry; exact PySem.EqNone.ne_none_int (fin_bl I q (by simp))
    | str j => obtain ⟨t', rfl⟩ := ry; exact PySem.EqNone.ne_none_str (fin_bl I q (by simp))
    | _ => exact absurd (show false = true from hs) Bool.false_ne_true
  | bl i =>
    cases rx
    cases y with
    | non => cases ry; exact PySem.EqNone.ne_bool_none (fin_bl I q (by simp))
    | bl j => cases ry; exact ne_bool (fin_bl I q (congrArg not dec_bl))
    | str j => obtain ⟨t', rfl⟩ := ry; exact PySem.EqMixed.ne_bool_str (fin_bl I q (by simp))
    | _ => exact absurd (show false = true from hs) Bool.false_ne_true
  | int i =>
    obtain ⟨t, rfl⟩ := rx
    cases y with
    | non => cases ry; exact PySem.EqNone.ne_int_none (fin_bl I q (by simp))
    | int j => obtain ⟨t', rfl⟩ := ry; exact ne_int (fin_bl I q (congrArg not dec_int))
    | str j => obtain ⟨t', rfl⟩ := ry; exact PySem.EqMixed.ne_int_str (fin_bl I q (by simp))
    | _ => exact absurd (show false = true from hs) Bool.false_ne_true
  | str i =>
    obtain ⟨t, rfl⟩ := rx
    cases y with
    | non => cases ry; exact PySem.EqNone.ne_str_none (fin_bl I q (by simp))
    | bl j => cases ry; exact PySem.EqMixed.ne_str_bool (fin_bl I q (by simp))
    | int j => obtain ⟨t', rfl⟩ := ry; exact PySem.EqMixed.ne_str_int (fin_bl I q (by simp))
    | str j => obtain ⟨t', rfl⟩ := ry; exact ne_str (fin_bl I q (congrArg not dec_str))
    | _ => exact absurd (show false = true from hs) Bool.false_ne_true
  | byt i =>
    obtain ⟨t, rfl⟩ := rx
    cases y with
    | byt j => obtain ⟨t', rfl⟩ := ry; exact PySem.W.ne_bytes (fin_bl I q (congrArg not dec_byt))
    | _ => exact absurd (show false = true from hs) Bool.false_ne_true
  | _ => cases y <;> exact absurd (show false = true from hs) Bool.false_ne_true
theorem op_lt : OpR X (compareOp .Lt) (rI0 fun i j => .bl (decide (i < j))) := opB0 fun _ _ _ _ _ _ _ q => lt_int q
theorem op_gt : OpR X (compareOp .Gt) (rI0 fun i j => .bl (decide (j < i))) := opB0 fun _ _ _ _ _ _ _ q => gt_int q
theorem op_ge : OpR X (compareOp .GtE) (rI0 fun i j => .bl (decide (j ≤ i))) := opB0 fun _ _ _ _ _ _ _ q => ge_int q
/-- is None, is not None: the right side a value none -/
theorem op_isN : OpR X (compareOp .Is) (fun x y H Q => y = .non ∧ Q (.bl (decide (x = .non))) H) := by
  intro pins s σ H x y v u Q I rx ry h
  obtain ⟨rfl, q⟩ := h
  cases ry
  refine is_none_gen (fin_bl I q ?_)
  cases x <;> first
    | (cases rx; rfl)
    | (obtain ⟨t, rfl⟩ := rx; rfl)
theorem op_notN : OpR X (compareOp .IsNot) (fun x y H Q => y = .non ∧ Q (.bl (!decide (x = .non))) H) := by
  intro pins s σ H x y v u Q I rx ry h
  obtain ⟨rfl, q⟩ := h
  cases ry
  refine isnot_none_gen (fin_bl I q ?_)
  cases x <;> first
    | (cases rx; rfl)
    | (obtain ⟨t, rfl⟩ := rx; rfl)
/-- two rules for one operation: by cases -/
theorem OpR.or {f : Value → Value → Sem Value} {r r' : R2} (h : OpR X f r) (h' : OpR X f r') : OpR X f (fun x y H Q => r x y H Q ∨ r' x y H Q) := by
  intro pins s σ H x y v u Q I rx ry q
  rcases q with q | q
  · exact h pins s σ H x y v u Q I rx ry q
  · exact h' pins s σ H x y v u Q I rx ry q
theorem nomark (b : Expr) {op : CmpOp} (h : op ≠ .In := by decide) (h2 : op ≠ .NotIn := by decide) : behindInMarks op b = false := by
  have e1 : (op == CmpOp.In) = false := by cases op <;> first | rfl | exact absurd rfl h
  have e2 : (op == CmpOp.NotIn) = false := by cases op <;> first | rfl | exact absurd rfl h2
  cases b <;> simp [behindInMarks, e1, e2]
/-- a comparison as a value; hm: nomark b, or (for in, not in) by with_unfolding_all rfl -/
theorem pe_cmpR {op : CmpOp} {r : R2} (ho : OpR X (compareOp op) r) (ha : PE X a ta) (hb : PE X b tb) (hm : behindInMarks op b = false) : PE X (.Compare a [op] [b] pos) (tOp r ta tb) := by
  intro pins s σ H Q I h
  exact wpAny_Compare1 (binT ha hb I h fun v u s2 x y H2 I2 rx ry q => ho pins s2 σ H2 x y v u Q I2 rx ry q) hm
/-- a reading of a value as a test -/
def tTest (t : TE) : TT := fun σ H Q => t σ H fun x H' => ∃ k, x = .bl k ∧ Q k H'
theorem pt_cmpR {op : CmpOp} {r : R2} (ho : OpR X (compareOp op) r) (ha : PE X a ta) (hb : PE X b tb) (hm : behindInMarks op b = false) : PT X (.Compare a [op] [b] pos) (tTest (tOp r ta tb)) := by
  intro pins s σ H Q I h
  refine wpAny_isTrue_Compare1 (thn (ha pins s σ H _ I h) fun v s1 ⟨x, H1, I1, r1, q1⟩ => thn (hb pins s1 σ H1 _ I1 q1) fun u s2 ⟨y, H2, I2, r2, q2⟩ =>
    thn (ho pins s2 σ H2 x y v u _ I2 r1 r2 q2) fun c s3 ⟨z, H3, I3, r3, k, e, q3⟩ => ?_) hm
  subst e
  cases r3
  exact wpAny_truthy_bool ⟨H3, I3, q3⟩
/-! ### truth -/
/-- a value's truth by the abstract heap -/
def TruV (K : PySem.W.Frag) (x : V) (H : Hp) (k : Bool) : Prop :=
  match x with
  | .non => k = false
  | .bl b => k = b
  | .int i => k = (i != 0)
  | .str y => y.length ≤ sizeLine ∧ k = ((y.length : Int) != 0)
  | .byt y => y.size ≤ sizeLine ∧ k = ((y.size : Int) != 0)
  | .ref p => (∃ xs, SqL K H p xs ∧ k = !xs.isEmpty) ∨ (∃ xs, SqT K H p xs ∧ k = !xs.isEmpty) ∨ ∃ kvs, H p = some (.dK kvs) ∧ k = !kvs.isEmpty
  | _ => False
theorem isEmpty_kv {κ : Type} {kvs : List (κ × V)} {vs : List (κ × Value)} (r : KV kvs vs) : (!vs.isEmpty) = !kvs.isEmpty := by
  cases r <;> rfl
theorem isEmpty_of {xs : List V} {its : List Value} (r : Vals xs its) : (!its.toArray.isEmpty) = !xs.isEmpty := by
  cases r <;> simp
theorem line63 : (sizeLine : Nat) < 2 ^ 63 := by rw [sizeLine_eq]; decide
theorem tru_ok : TruR X (fun x H Q => ∃ k, TruV X.K x H k ∧ Q k H) := by
  intro pins s σ H x v Q I rx h
  obtain ⟨k, e, q⟩ := h
  have hl := line63
  have hs : sizeLine = 16777216 := sizeLine_eq
  cases x with
  | non =>
    cases rx
    have e' : k = false := e
    subst e'
    exact truthy_none ⟨H, I, q⟩
  | bl b =>
    cases rx
    have e' : k = b := e
    subst e'
    exact wpAny_truthy_bool ⟨H, I, q⟩
  | int i =>
    obtain ⟨t, rfl⟩ := rx
    have e' : k = (i != 0) := e
    subst e'
    exact PySem.P.truthy_int ⟨H, I, q⟩
  | str y =>
    obtain ⟨t, rfl⟩ := rx
    obtain ⟨hy, e'⟩ : y.length ≤ sizeLine ∧ k = ((y.length : Int) != 0) := e
    subst e'
    exact PySem.P.truthy_str (by omega) ⟨H, I.tok _, q⟩
  | byt y =>
    obtain ⟨t, rfl⟩ := rx
    obtain ⟨hy, e'⟩ : y.size ≤ sizeLine ∧ k = ((y.size : Int) != 0) := e
    subst e'
    exact PySem.W.truthy_bytes (by omega) ⟨H, I.tok _, q⟩
  | ref p =>
    cases rx
    have e' : (∃ xs, SqL X.K H p xs ∧ k = !xs.isEmpty) ∨ (∃ xs, SqT X.K H p xs ∧ k = !xs.isEmpty) ∨ ∃ kvs, H p = some (.dK kvs) ∧ k = !kvs.isEmpty := e
    rcases e' with ⟨xs, hx, e'⟩ | ⟨xs, hx, e'⟩ | ⟨kvs, hx, e'⟩
    · subst e'
      obtain ⟨its, r, pl, hz⟩ := I.list hx
      have hlen := r.length
      exact wpAny_truthy_list pl.isList (by simp only [List.size_toArray]; omega) ⟨H, I.tok _, by rw [isEmpty_of r]; exact q⟩
    · subst e'
      obtain ⟨its, r, pl, hz⟩ := I.tuple hx
      have hlen := r.length
      exact truthy_tuple pl (by simp only [List.size_toArray]; omega) ⟨H, I.tok _, by rw [isEmpty_of r]; exact q⟩
    · subst e'
      obtain ⟨hz, hS, vs, r, m⟩ : kvs.length ≤ sizeLine ∧ (p == sysModules) = false ∧ ∃ vs, KV kvs vs ∧ s.heap.DictOf (mixKind X.prog X.w) p vs := I.hok p _ hx
      have hlen : kvs.length = vs.length := Paired.length r
      exact wpAny_truthy_dict hS m (by omega) ⟨H, I.tok _, by rw [isEmpty_kv r]; exact q⟩
  | _ => exact (show False from e).elim
/-! ### scalar builtins, by CallR -/
theorem vals1 {x : V} {us : List Value} (r : Vals [x] us) : ∃ u, us = [u] ∧ RelV x u := by
  cases r with
  | cons r1 r2 => cases r2; exact ⟨_, rfl, r1⟩
/-- len of a str, a bytes, a list, a tuple -/
def LenV (K : PySem.W.Frag) (x : V) (H : Hp) (n : Nat) : Prop :=
  match x with
  | .str y => y.length ≤ sizeLine ∧ n = y.length
  | .byt y => y.size ≤ sizeLine ∧ n = y.size
  | .ref p => (∃ xs, SqL K H p xs ∧ n = xs.length) ∨ ∃ xs, SqT K H p xs ∧ n = xs.length
  | _ => False
theorem call_len : CallR X (.builtin "len") (fun xs H Q => ∃ x n, xs = [x] ∧ LenV X.K x H n ∧ Q (.int n) H) := by
  intro pins s σ H xs us Q I r h
  obtain ⟨x, n, rfl, e, q⟩ := h
  obtain ⟨u, rfl, rx⟩ := vals1 r
  have hl := line63
  have hs : sizeLine = 16777216 := sizeLine_eq
  cases x with
  | str y =>
    obtain ⟨t, rfl⟩ := rx
    obtain ⟨hy, e'⟩ : y.length ≤ sizeLine ∧ n = y.length := e
    subst e'
    exact len_str (by omega) ⟨.int _, H, I.tok _, ⟨_, rfl⟩, q⟩
  | byt y =>
    obtain ⟨t, rfl⟩ := rx
    obtain ⟨hy, e'⟩ : y.size ≤ sizeLine ∧ n = y.size := e
    subst e'
    exact PySem.W.len_bytes (by omega) ⟨.int _, H, I.tok _, ⟨_, rfl⟩, q⟩
  | ref p =>
    cases rx
    have e' : (∃ xs, SqL X.K H p xs ∧ n = xs.length) ∨ ∃ xs, SqT X.K H p xs ∧ n = xs.length := e
    rcases e' with ⟨xs, hx, e'⟩ | ⟨xs, hx, e'⟩
    · subst e'
      obtain ⟨its, r', pl, hz⟩ := I.list hx
      have hlen := r'.length
      exact Calls.call_len_list pl.isList (by simp only [List.size_toArray]; omega) ⟨.int xs.length, H, I.tok _, ⟨_, by simp only [List.size_toArray]; rw [hlen]⟩, q⟩
    · subst e'
      obtain ⟨its, r', pl, hz⟩ := I.tuple hx
      have hlen := r'.length
      exact len_tuple pl (by simp only [List.size_toArray]; omega) ⟨.int xs.length, H, I.tok _, ⟨_, by simp only [List.size_toArray]; rw [hlen]⟩, q⟩
  | _ => exact (show False from e).elim
end
end L2
namespace L2
open PySem PySem.Spec PyProof.Rows
/-! ### an instance, its attributes a map -/
structure ObjM (h : Heap) (x dx C : Addr) (mA : Str → Option Value) : Prop where
  obj : h.get? x = some (PySem.W.instObj C dx)
  ns : h.Ns1 dx mA
  ne : dx ≠ x
theorem lookIn_ns {h : Heap} {dx : Addr} {mA : Str → Option Value} (n : h.Ns1 dx mA) : ∃ od, h.get? dx = some od ∧ ∀ name, PySem.W.lookIn name od = some (mA name) := by
  obtain ⟨o, es, ep, ho, hd, hk, _, hm⟩ := n
  refine ⟨o, ho, fun name => ?_⟩
  have e := hm name
  unfold nsFind findBy at e
  rw [← Array.find?_toList] at e
  unfold PySem.W.lookIn
  rw [hd]
  dsimp only
  split
  · rename_i y q
    rw [q] at e
    exact congrArg some e
  · rename_i q
    rw [q] at e
    have a : es.toList.any (·.refKey) = false := by
      rw [List.any_eq_false]
      intro y hy
      obtain ⟨z, t, hkey⟩ := hk y (Array.mem_toList_iff.mp hy)
      simp [DictEntry.refKey, hkey]
    have a' : ¬ es.toList.any (·.refKey) = true := by rw [a]; exact Bool.false_ne_true
    rw [if_neg a']
    exact congrArg some e
theorem ObjM.look {h : Heap} {x dx C : Addr} {mA : Str → Option Value} (I : ObjM h x dx C mA) : ∃ od, PySem.W.InstAt h x (PySem.W.instObj C dx) C (some od) ∧ ∀ name, PySem.W.lookIn name od = some (mA name) :=
  let ⟨od, ho, hl⟩ := lookIn_ns I.ns
  ⟨od, ⟨I.obj, rfl, rfl, ho⟩, hl⟩
section
variable {prog : Program} {w : World} {A : Around} {E : Value → Shared → Prop} {s : Shared} {K : PySem.W.Frag} {x dx C f : Addr} {mA : Str → Option Value} {name : Str} {v : Value}
theorem get_map {expr : Bool} {Q : Value → Shared → Prop} (X : K.In s.heap) (I : ObjM s.heap x dx C mA) (hg : PySem.W.plainGet K C name = true) (hh : PySem.W.hasDictIn K C = true)
    (ha : PySem.W.findIn K (.ref C) name = some none) (hv : mA name = some v) (hv' : PySem.W.handedIn v = true) (h : Q v { s with toks := s.toks + 1 }) :
    wpAny (model prog w) A (getAttr (.ref x) name expr) Q E s := by
  obtain ⟨od, J, hl⟩ := I.look
  exact PySem.W.get_value X J (PySem.W.plainGet_of hg).1 (PySem.W.findObj_own hh ha rfl (by rw [hl, hv])) hv' h
theorem get_meth {pl : Sem Bool} {Q : Value × List Value → Shared → Prop} (X : K.In s.heap) (I : ObjM s.heap x dx C mA) (hg : PySem.W.plainGet K C name = true)
    (hf : PySem.W.findIn K (.ref C) name = some (some (.ref f))) (ht : PySem.W.isFn K (.ref f) = true) (hv : mA name = none) (h : Q (.ref f, [.ref x]) s) :
    wpAny (model prog w) A (getMethod (.ref x) name pl) Q E s := by
  obtain ⟨od, J, hl⟩ := I.look
  exact PySem.W.method_fn X J (PySem.W.plainGet_of hg).1 (PySem.W.plainGet_of hg).2 hf (beq_iff_eq.mp ht) (by show (PySem.W.lookIn name od).map (·.isSome) = some false; rw [hl, hv]; rfl) h
theorem set_map {ns : List Str} {Q : Unit → Shared → Prop} (X : K.In s.heap) (I : ObjM s.heap x dx C mA)
    (hs : PySem.W.findIn K (.ref C) "__setattr__" = some (some (.builtin "object.__setattr__"))) (hp : PySem.W.plainOver K C = true) (ht : PySem.W.takerIn K C name = some none) (hh : PySem.W.hasDictIn K C = true)
    (hw : PySem.Within mA ns) (hsz : ns.length ≤ sizeLine)
    (h : ∀ h', ObjM h' x dx C (fun y => if y = name then some v else mA y) → Heap.SameBut dx s.heap h' → Q () { s with heap := h', toks := s.toks + 2 }) :
    wpAny (model prog w) A (setAttr (.ref x) name v) Q E s := by
  obtain ⟨od, J, hl⟩ := I.look
  refine PySem.W.set_plain X J hs (PySem.W.osa_open (s := { s with toks := s.toks + 1 }) (r := none) X J hp ht fun b => ?_)
  obtain ⟨cd, hc, hd'⟩ := PySem.W.any_some hh
  have hx : s.heap.get? x = some ⟨.ref C, some dx, .plain, #[]⟩ := I.obj
  refine wpAny_bind (wpAny_pure (wpAny_bind (wpAny_bind (wpAny_loadPart hx (wpAny_bind (PySem.W.Looks.here (s := { s with toks := s.toks + 1 }) (PySem.W.looks_clsIn X hc) ?_))))))
  rw [hd']
  refine wpAny_pure (a := some dx) (wpAny_bind (wpAny_pure (wpAny_bind ?_)))
  refine wpAny_nsSet1 (s := { s with toks := s.toks + 1 }) I.ns fun h' hn2 hs2 => ?_
  obtain ⟨oD, esD, epD, hoD, hdD, hcD⟩ := hn2.count (PySem.Within.cons name v hw)
  refine wpAny_bind (wpAny_lookBehind hoD (by rw [hdD]; exact pastItsLine_dict (Nat.le_trans hcD (by rw [List.length_cons]; omega))) ?_)
  exact wpAny_pure (h _ ⟨(hs2.2 _ (Ne.symm I.ne)).trans I.obj, hn2, I.ne⟩ hs2)
/-- C(..): the dict at the heap's end, the instance behind it; then its __init__ -/
theorem make_map {R : Result → Shared → Prop} {vs : List Value} {kw : List (Str × Value)} (X : K.In s.heap) (hm : PySem.W.makesIn K C = true)
    (hi : PySem.W.findIn K (.ref C) "__init__" = some (some (.ref f))) (hf : PySem.W.typeIn K (.ref f) = some (.type "function"))
    (h : codeAny (model prog w) (A.under (.builtin "type.__call__" ⟨.ref C :: vs, kw⟩)) (.call (.ref f) ⟨.ref (s.heap.objs.size + 1) :: vs, kw⟩) (PySem.W.InitBack (s.heap.objs.size + 1) R)
      { s with heap := (s.heap.push PySem.W.emptyDict).push (PySem.W.instObj C s.heap.objs.size) }) :
    codeAny (model prog w) A (.call (.ref C) ⟨vs, kw⟩) R s := by
  obtain ⟨hh, g, d, t, os⟩ := s
  exact PySem.W.make_core (PySem.W.makes_of X hm) (PySem.W.looks_findIn X hi) (fun self => PySem.W.bind_fn X self hf) (.inl rfl) h
end
/-! ### the attributes as a list of pairs -/
def putF (f : Str) (v : V) : List (Str × V) → List (Str × V)
  | [] => [(f, v)]
  | (g, x) :: r => if g = f then (g, v) :: r else (g, x) :: putF f v r
theorem lookup_putF (f g : Str) (v : V) : ∀ fs : List (Str × V), (putF f v fs).lookup g = if g = f then some v else fs.lookup g
  | [] => by
    show List.lookup g [(f, v)] = _
    by_cases h : g = f
    · have hb : (g == f) = true := beq_iff_eq.mpr h
      simp only [List.lookup, hb, if_pos h]
    · have hb : (g == f) = false := beq_eq_false_iff_ne.mpr h
      simp only [List.lookup, hb, if_neg h]
  | (k, x) :: r => by
    have ih := lookup_putF f g v r
    rw [show putF f v ((k, x) :: r) = (if k = f then (k, v) :: r else (k, x) :: putF f v r) from rfl]
    by_cases hk : k = f
    · rw [if_pos hk]
      by_cases h : g = k
      · have hb : (g == k) = true := beq_iff_eq.mpr h
        simp only [List.lookup, hb, if_pos (h.trans hk)]
      · have hb : (g == k) = false := beq_eq_false_iff_ne.mpr h
        simp only [List.lookup, hb, if_neg (fun e : g = f => h (e.trans hk.symm))]
    · rw [if_neg hk]
      by_cases h : g = k
      · have hb : (g == k) = true := beq_iff_eq.mpr h
        simp only [List.lookup, hb, if_neg (fun e : g = f => hk (h.symm.trans e))]
      · have hb : (g == k) = false := beq_eq_false_iff_ne.mpr h
        simp only [List.lookup, hb]
        exact ih
theorem keys_putF (f : Str) (v : V) : ∀ fs : List (Str × V), f ∈ (putF f v fs).map (·.1) ∧ ∀ g, g ∈ fs.map (·.1) → g ∈ (putF f v fs).map (·.1)
  | [] => ⟨by simp [putF], fun g h => by simp at h⟩
  | (k, x) :: r => by
    obtain ⟨i1, i2⟩ := keys_putF f v r
    rw [show putF f v ((k, x) :: r) = (if k = f then (k, v) :: r else (k, x) :: putF f v r) from rfl]
    by_cases hk : k = f
    · rw [if_pos hk]
      subst hk
      exact ⟨by simp, fun g h => by simpa using h⟩
    · rw [if_neg hk]
      refine ⟨?_, fun g h => ?_⟩
      · rw [List.map_cons]
        exact List.mem_cons_of_mem _ i1
      · rw [List.map_cons] at h ⊢
        rcases List.mem_cons.mp h with e | e
        · exact List.mem_cons.mpr (.inl e)
        · exact List.mem_cons_of_mem _ (i2 g e)
theorem length_putF (f : Str) (v : V) : ∀ fs : List (Str × V), (putF f v fs).length ≤ fs.length + 1
  | [] => by simp [putF]
  | (k, x) :: r => by
    have ih := length_putF f v r
    rw [show putF f v ((k, x) :: r) = (if k = f then (k, v) :: r else (k, x) :: putF f v r) from rfl]
    by_cases hk : k = f
    · rw [if_pos hk, List.length_cons, List.length_cons]; omega
    · rw [if_neg hk, List.length_cons, List.length_cons]; omega
theorem RelO.some_of {v : V} {o : Option Value} (r : RelO (some v) o) : ∃ u, o = some u ∧ RelV v u := by
  cases o with
  | none => exact (show False from r).elim
  | some u => exact ⟨u, rfl, r⟩
theorem RelO.none_of {o : Option Value} (r : RelO none o) : o = none := by
  cases o with
  | none => rfl
  | some u => exact (show False from r).elim
theorem handed_of {v : V} {u : Value} (r : RelV v u) : PySem.W.handedIn u = true := by
  cases v with
  | non => cases (show u = Value.none from r); rfl
  | bl b => cases (show u = Value.bool b from r); rfl
  | int i => obtain ⟨t, e⟩ := (show ∃ t, u = Value.int i t from r); cases e; rfl
  | str x => obtain ⟨t, e⟩ := (show ∃ t, u = Value.str x t from r); cases e; rfl
  | byt b => obtain ⟨t, e⟩ := (show ∃ t, u = Value.bytes b t from r); cases e; rfl
  | flt b => obtain ⟨t, e⟩ := (show ∃ t, u = Value.float b t from r); cases e; rfl
  | ref a => cases (show u = Value.ref a from r); rfl
  | ty n => cases (show u = Value.type n from r); rfl
section
variable {P : Program} {w : World} {H H' : Hp} {h h' : Heap} {a C dx : Addr} {fs fs' : List (Str × V)}
theorem ins_get (hok : HOk P w H h) (e : H a = some (.ins C dx fs)) : ∃ mA, ObjM h a dx C mA ∧ (∀ f, RelO (fs.lookup f) (mA f)) ∧ PySem.Within mA (fs.map (·.1)) ∧ fs.length ≤ 1000 ∧ H dx = some (.own a) := by
  obtain ⟨d, z, ne, ob, mA, n, r, q⟩ := (show ObjOk P w H h a (.ins C dx fs) from hok a _ e)
  exact ⟨mA, ⟨ob, n, ne⟩, r, q, z, d⟩
end
/-! ### what of the text a class must have -/
structure Cls (K : PySem.W.Frag) (C : Addr) : Prop where
  pg : PySem.W.plainGet K C Str.empty = true
  hd : PySem.W.hasDictIn K C = true
  po : PySem.W.plainOver K C = true
  sa : PySem.W.findIn K (.ref C) "__setattr__" = some (some (.builtin "object.__setattr__"))
theorem Cls.get {K : PySem.W.Frag} {C : Addr} (c : Cls K C) (f : Str) : PySem.W.plainGet K C f = true := c.pg
/-- no class of it has the name -/
def NoAttr (K : PySem.W.Frag) (C : Addr) (f : Str) : Prop := PySem.W.findIn K (.ref C) f = some none
theorem NoAttr.taker {K : PySem.W.Frag} {C : Addr} {f : Str} (n : NoAttr K C f) : PySem.W.takerIn K C f = some none := by
  unfold PySem.W.takerIn
  rw [show PySem.W.findIn K (.ref C) f = some none from n]
  rfl
/-- a method: a plain def of the class or of one above it -/
structure Meth (K : PySem.W.Frag) (C : Addr) (m : Str) (f : Addr) : Prop where
  at_ : PySem.W.findIn K (.ref C) m = some (some (.ref f))
  fn : PySem.W.isFn K (.ref f) = true
  kp : PySem.W.keepIn K (.ref f) = true
section
variable {X : Cx} {pins : List (Addr × Obj)} {σ : St} {H : Hp} {s : Shared} {a C dx : Addr} {fs : List (Str × V)} {f : Str} {v : V} {A : Around} {E : Value → Shared → Prop}
theorem getattr_ok {b : Bool} {Q : Value → Shared → Prop} (I : Inv X pins σ H s) (e : H a = some (.ins C dx fs)) (c : Cls X.K C) (n : NoAttr X.K C f) (l : fs.lookup f = some v)
    (h : ∀ u s', Inv X pins σ H s' → RelV v u → Q u s') : wpAny (model X.prog X.w) A (getAttr (.ref a) f b) Q E s := by
  obtain ⟨mA, O, r, _, _, _⟩ := ins_get I.hok e
  obtain ⟨u, hu, ru⟩ := RelO.some_of (v := v) (o := mA f) (by rw [← l]; exact r f)
  exact get_map I.kIn O (c.get f) c.hd n hu (handed_of ru) (h u _ (I.tok _) ru)
theorem getmeth_ok {m : Str} {g : Addr} {pl : Sem Bool} {Q : Value × List Value → Shared → Prop} (I : Inv X pins σ H s) (e : H a = some (.ins C dx fs)) (c : Cls X.K C) (k : Meth X.K C m g) (l : fs.lookup m = none)
    (h : Q (.ref g, [.ref a]) s) : wpAny (model X.prog X.w) A (getMethod (.ref a) m pl) Q E s := by
  obtain ⟨mA, O, r, _, _, _⟩ := ins_get I.hok e
  have hn : mA m = none := RelO.none_of (by rw [← l]; exact r m)
  exact get_meth I.kIn O (c.get m) k.at_ k.fn hn h
theorem setattr_ok {y : V} {u : Value} {Q : Unit → Shared → Prop} (I : Inv X pins σ H s) (e : H a = some (.ins C dx fs)) (c : Cls X.K C) (n : NoAttr X.K C f) (hl : fs.length < 1000) (ry : RelV y u)
    (h : ∀ s', Inv X pins σ (upd H a (.ins C dx (putF f y fs))) s' → Q () s') : wpAny (model X.prog X.w) A (setAttr (.ref a) f u) Q E s := by
  obtain ⟨mA, O, r, wi, _, ho⟩ := ins_get I.hok e
  have hz : (fs.map (·.1)).length ≤ sizeLine := by rw [List.length_map, sizeLine_eq]; omega
  refine set_map I.kIn O c.sa c.po n.taker c.hd wi hz fun h' O' sb => h _ ?_
  have hd : ∃ o, h'.get? dx = some o := let ⟨o, _, _, e', _⟩ := O'.ns; ⟨o, e'⟩
  refine I.write (x := a) (e := dx) (by rw [e]; exact True.intro) (.inr ho) (fun b q hb z => (sb.2 b hb).trans z) hd ?_
  refine ⟨by rw [upd_ne O.ne]; exact ho, ?_, O.ne, O'.obj, _, O'.ns, fun g => ?_, fun g hg => ?_⟩
  · have := length_putF f y fs; omega
  · show RelO ((putF f y fs).lookup g) (if g = f then some u else mA g)
    rw [lookup_putF]
    by_cases q : g = f
    · rw [if_pos q, if_pos q]; exact ry
    · rw [if_neg q, if_neg q]; exact r g
  · by_cases q : g = f
    · rw [q]; exact (keys_putF f y fs).1
    · refine (keys_putF f y fs).2 g (wi g fun z => hg ?_)
      show (if g = f then some u else mA g) = none
      rw [if_neg q]; exact z
/-- a new instance, tracked, without attributes -/
theorem Inv.made (I : Inv X pins σ H s) : Inv X pins σ (upd (upd H s.heap.objs.size (.own (s.heap.objs.size + 1))) (s.heap.objs.size + 1) (.ins C s.heap.objs.size []))
    { s with heap := (s.heap.push PySem.W.emptyDict).push (PySem.W.instObj C s.heap.objs.size) } := by
  have e1 : (s.heap.push PySem.W.emptyDict).get? s.heap.objs.size = some PySem.W.emptyDict := Heap.get?_push_size s.heap rfl
  have e2 : ((s.heap.push PySem.W.emptyDict).push (PySem.W.instObj C s.heap.objs.size)).get? (s.heap.objs.size + 1) = some (PySem.W.instObj C s.heap.objs.size) := by
    have := Heap.get?_push_size (s.heap.push PySem.W.emptyDict) (o := PySem.W.instObj C s.heap.objs.size) rfl
    rwa [Heap.size_push] at this
  have e3 : (s.heap.push PySem.W.emptyDict).Ns s.heap.objs.size (fun _ => none) := ⟨PySem.W.emptyDict, #[], _, e1, rfl, (fun e he => absurd he (by simp)), fun _ => rfl⟩
  have I1 := I.laid (a := s.heap.objs.size) (o := .own (s.heap.objs.size + 1)) (h' := s.heap.push PySem.W.emptyDict) (t' := s.toks) (fun b u q => Heap.get?_push_of_some _ q) (Nat.le_refl _) ⟨_, e1⟩
  refine I1.laid (a := s.heap.objs.size + 1) (o := .ins C s.heap.objs.size []) (t' := s.toks) (fun b u q => Heap.get?_push_of_some _ q) (Nat.le_of_eq (Heap.size_push _ _)) ?_
  have ne : s.heap.objs.size ≠ s.heap.objs.size + 1 := Nat.ne_of_lt (Nat.lt_succ_self _)
  refine ⟨by rw [upd_ne ne, upd_same], Nat.zero_le _, ne, e2, fun _ => none, (Heap.Ns1.of_empty e3).at fun o q => Heap.get?_push_of_some _ q, fun _ => True.intro, fun y hy => absurd rfl hy⟩
/-- e.f where nothing but the object is asked: through attributeBase (super) and the last hold -/
theorem attr_of {prog : Program} {w : World} {env : Env} {e : Expr} {f : Str} {pos : Pos} {s : Shared} {Q : Value → Shared → Prop} (hb : attributeBase e f env (eval e env) = eval e env)
    (h : wpAny (model prog w) A (eval e env) (fun o s₁ => wpAny (model prog w) A (getAttr o f true) Q E s₁) E s) : wpAny (model prog w) A (eval (.Attribute e f pos) env) Q E s :=
  Attribute_any_ h (by rw [arm_eval_Attribute, hb])
end
/-! ### readings and rules -/
/-- e.f, an attribute of the instance -/
def tFld (K : PySem.W.Frag) (ta : TE) (f : Str) : TE := fun σ H Q => ta σ H fun x H1 => ∃ a C dx fs v, x = .ref a ∧ H1 a = some (.ins C dx fs) ∧ Cls K C ∧ NoAttr K C f ∧ fs.lookup f = some v ∧ Q v H1
/-- e.f = value -/
def sFld (K : PySem.W.Frag) (ta tv : TE) (f : Str) : TS := fun D σ H => tv σ H fun y H1 => ta σ H1 fun x H2 => ∃ a C dx fs, x = .ref a ∧ H2 a = some (.ins C dx fs) ∧ Cls K C ∧ NoAttr K C f ∧ fs.length < 1000 ∧
  D.nx σ (upd H2 a (.ins C dx (putF f y fs)))
section
variable {X : Cx} {o e value : Expr} {f : Str} {pos pos' tpos : Pos} {ta tv : TE}
theorem pe_fld (he : PE X e ta) (hb : attributeBase e f X.env (eval e X.env) = eval e X.env) : PE X (.Attribute e f pos) (tFld X.K ta f) := by
  intro pins s σ H Q I h
  refine attr_of hb (thn (he pins s σ H _ I h) fun u s1 ⟨x, H1, I1, rx, a, C, dx, fs, v, ex, ea, c, n, l, q⟩ => ?_)
  subst ex
  obtain rfl : u = Value.ref a := rx
  exact getattr_ok I1 ea c n l fun u' s2 I2 ru => ⟨v, H1, I2, ru, q⟩
theorem ps_fld (ha : PE X o ta) (hv : PE X value tv) (hs : swapsWith value (some (.Attribute o f pos')) pos.line X.env = pure false) : PS X (.Assign [.Attribute o f pos'] value pos) (sFld X.K ta tv f) := by
  intro pins s σ H D I h
  refine plainObj_wpAny_Assign_Attribute (thn (hv pins s σ H _ I h) fun u s1 ⟨y, H1, I1, ry, q⟩ => thn (ha pins s1 σ H1 _ I1 q) fun ov s2 ⟨x, H2, I2, rx, a, C, dx, fs, ex, ea, c, n, l, q2⟩ => ?_) hs
  subst ex
  obtain rfl : ov = Value.ref a := rx
  exact setattr_ok I2 ea c n l ry fun s3 I3 => ⟨σ, _, I3, q2⟩
end
/-! ### isinstance -/
section
variable {X : Cx} {pins : List (Addr × Obj)} {σ : St} {H : Hp} {s : Shared} {A : Around} {E : Value → Shared → Prop} {Q : Value → Shared → Prop} {c : Value} {b : Bool}
/-- the type of a value, as the fragment's deciders take it; for an instance its class -/
inductive TyOf (K : PySem.W.Frag) (H : Hp) : V → Value → Prop where
  | non : TyOf K H .non (.type "NoneType")
  | bl (x : Bool) : TyOf K H (.bl x) (.type "bool")
  | int (i : Int) : TyOf K H (.int i) (.type "int")
  | str (x : Str) : TyOf K H (.str x) (.type "str")
  | flt (x : UInt64) : TyOf K H (.flt x) (.type "float")
  | lst {a : Addr} {xs : List V} (e : H a = some (.lst xs)) : TyOf K H (.ref a) (.type "list")
  | frz {a : Addr} {o : Obj} {xs : List V} (e : H a = some (.frz o (.lst xs))) : TyOf K H (.ref a) (.type "list")
  | tup {a : Addr} {xs : List V} (e : H a = some (.tup xs)) : TyOf K H (.ref a) (.type "tuple")
  | dK {a : Addr} {kvs : List (Key × V)} (e : H a = some (.dK kvs)) : TyOf K H (.ref a) (.type "dict")
  | dT {a : Addr} {kvs : List (List Key × V)} (e : H a = some (.dT kvs)) : TyOf K H (.ref a) (.type "dict")
  | ins {a C dx : Addr} {fs : List (Str × V)} (e : H a = some (.ins C dx fs)) (cl : Cls K C) (ha : PySem.W.findIn K (.ref C) "__class__" = some (some (.builtin "object.__class__")))
      (hn : PySem.W.specialIn K (.builtin "object.__class__") "__get__" = some (some (.builtin "getset_descriptor.__get__"))) (htk : PySem.W.takesIn K (.builtin "object.__class__") = some true)
      (hm : PySem.W.mroIn K C (.type "object") = some true) : TyOf K H (.ref a) (.ref C)
/-- isinstance(x, c) for one class c, a built-in or an own one: kitOne's answer -/
theorem isinst_ok {x : V} {u t : Value} (I : Inv X pins σ H s) (rx : RelV x u) (ty : TyOf X.K H x t) (e : PySem.W.kitOne X.K t c = some b) (h : ∀ tk, Q (.bool b) { s with toks := tk }) :
    wpAny (model X.prog X.w) A (call (.builtin "isinstance") [u, c]) Q E s := by
  cases ty with
  | non => cases (show u = Value.none from rx); exact PySem.W.kia_one PySem.W.kitx_none I.kIn True.intro e (fun z => nomatch z) h
  | bl y => cases (show u = Value.bool y from rx); exact PySem.W.kia_one PySem.W.kitx_bool I.kIn True.intro e (fun z => nomatch z) h
  | int i => obtain ⟨t, q⟩ := (show ∃ t, u = Value.int i t from rx); cases q; exact PySem.W.kia_one PySem.W.kitx_int I.kIn True.intro e (fun z => nomatch z) h
  | str y => obtain ⟨t, q⟩ := (show ∃ t, u = Value.str y t from rx); cases q; exact PySem.W.kia_one PySem.W.kitx_str I.kIn True.intro e (fun z => nomatch z) h
  | flt y => obtain ⟨t, q⟩ := (show ∃ t, u = Value.float y t from rx); cases q; exact PySem.W.kia_one PySem.W.kitx_float I.kIn True.intro e (fun z => nomatch z) h
  | @lst a xs ea =>
    cases (show u = Value.ref a from rx)
    obtain ⟨_, _, n, _, h1⟩ := (show ObjOk X.prog X.w H s.heap a (.lst xs) from I.hok a _ ea)
    exact PySem.W.kia_one PySem.W.kitx_list I.kIn ⟨_, h1, rfl⟩ e (fun z => nomatch z) h
  | @frz a ob xs ea =>
    cases (show u = Value.ref a from rx)
    obtain ⟨_, _, _, n, _, h1⟩ := (show ObjOk X.prog X.w H s.heap a (.frz ob (.lst xs)) from I.hok a _ ea)
    exact PySem.W.kia_one PySem.W.kitx_list I.kIn ⟨_, h1, rfl⟩ e (fun z => nomatch z) h
  | @tup a xs ea =>
    cases (show u = Value.ref a from rx)
    obtain ⟨_, _, _, p⟩ := (show ObjOk X.prog X.w H s.heap a (.tup xs) from I.hok a _ ea)
    obtain ⟨o, h1, h2, _⟩ := p
    exact PySem.W.kia_one PySem.W.kitx_tuple I.kIn ⟨o, h1, h2⟩ e (fun z => nomatch z) h
  | @dK a kvs ea =>
    cases (show u = Value.ref a from rx)
    obtain ⟨_, _, vs, _, p⟩ := (show ObjOk X.prog X.w H s.heap a (.dK kvs) from I.hok a _ ea)
    obtain ⟨o, es, ep, h1, h2, _⟩ := p
    exact PySem.W.kia_one PySem.W.kitx_dict I.kIn ⟨o, h1, h2.1⟩ e (fun z => nomatch z) h
  | @dT a kvs ea =>
    cases (show u = Value.ref a from rx)
    obtain ⟨_, _, xs, _, o, es, ep, h1, h2, _⟩ := (show ObjOk X.prog X.w H s.heap a (.dT kvs) from I.hok a _ ea)
    exact PySem.W.kia_one PySem.W.kitx_dict I.kIn ⟨o, h1, h2.1⟩ e (fun z => nomatch z) h
  | @ins a C dx fs ea cl ha hn htk hm =>
    cases (show u = Value.ref a from rx)
    obtain ⟨mA, O, _⟩ := ins_get I.hok ea
    obtain ⟨od, J, _⟩ := O.look
    exact PySem.W.kia_one (PySem.W.kitx_own (cl.get _) cl.hd ha hn htk hm) I.kIn J e (fun z => nomatch z) h
end
end L2
namespace L2
open PySem PySem.Spec PyProof.Rows
/-! ### room -/
structure Room (k : Nat) (A : Around) : Prop where
  hd : A.handled = none
  dp : A.depth + 3 * k + 5 < recursionLimit
  un : A.units + 16 * k + 200 < cLine
theorem Room.mono {j k : Nat} {A : Around} (r : Room k A) (h : j ≤ k) : Room j A := ⟨r.hd, by have := r.dp; omega, by have := r.un; omega⟩
theorem Room.deeper {k : Nat} {A : Around} (r : Room (k + 1) A) (env : Env) : Room k (A.deeper env) :=
  ⟨r.hd, by have := r.dp; show A.depth + 1 + 3 * k + 5 < _; omega, by have := r.un; show A.units + 3 + 16 * k + 200 < _; omega⟩
theorem make_depth {A : Around} {C : Addr} {us : List Value} {kw : List (Str × Value)} : (A.under (.builtin "type.__call__" ⟨.ref C :: us, kw⟩)).depth = A.depth + 1 := by
  first | rfl | simp [Around.under, Code.weight, Code.isCreation, Code.isGuard, Code.isCaller, Code.frames, Code.isFrame, guardIds]
theorem make_units {A : Around} {C : Addr} {us : List Value} {kw : List (Str × Value)} : (A.under (.builtin "type.__call__" ⟨.ref C :: us, kw⟩)).units = A.units + 1 := by
  first | rfl | simp [Around.under, Code.cUnits, Code.frames, Code.isFrame]
theorem Room.make {k : Nat} {A : Around} (r : Room (k + 1) A) (C : Addr) (us : List Value) (kw : List (Str × Value)) : Room k (A.under (.builtin "type.__call__" ⟨.ref C :: us, kw⟩)) :=
  ⟨r.hd, by have := r.dp; rw [make_depth]; omega, by have := r.un; rw [make_units]; omega⟩
theorem Room.depth {k : Nat} {A : Around} (r : Room k A) : A.depth < recursionLimit := by have := r.dp; omega
theorem Room.units {k : Nat} {A : Around} (r : Room k A) : A.units + 64 < cLine := by have := r.un; omega
/-! ### argument lists and displays -/
def tNil : TA := fun _ H Q => Q [] H
def tCons (ta : TE) (tr : TA) : TA := fun σ H Q => ta σ H fun x H1 => tr σ H1 fun xs H2 => Q (x :: xs) H2
section
variable {X : Cx} {e : Expr} {es : List Expr} {te : TE} {t : TA} {pos : Pos}
theorem pa_nil : PA X [] tNil := fun _ _ _ _ H Q I h => Calls.spliced_nil ⟨[], H, I, .nil, h⟩
theorem pa_cons (ha : PE X e te) (hr : PA X es t) (hs : starEach (e :: es) X.env = (false, eval e X.env) :: starEach es X.env := by rfl) : PA X (e :: es) (tCons te t) := by
  intro pos pins s σ H Q I h
  rw [hs]
  show wpAny _ _ (spliced ((false, eval e X.env) :: backTo pos (starEach es X.env))) _ _ s
  refine Calls.spliced_cons (thn (ha pins s σ H _ I h) fun u s1 ⟨x, H1, I1, r1, q1⟩ => ?_)
  exact thn (hr pos pins s1 σ H1 _ I1 q1) fun us s2 ⟨xs, H2, I2, r2, q2⟩ => ⟨x :: xs, H2, I2, .cons r1 r2, q2⟩
/-- a tuple, a list of written items -/
def tTup (t : TA) : TE := fun σ H Q => t σ H fun xs H1 => xs.length ≤ sizeLine ∧ ∀ p, H1 p = none → Q (.ref p) (upd H1 p (.tup xs))
def tLst (t : TA) : TE := fun σ H Q => t σ H fun xs H1 => xs.length ≤ sizeLine ∧ ∀ p, H1 p = none → Q (.ref p) (upd H1 p (.lst xs))
theorem pe_tup {x1} (h : PA X es t) : PE X (.Tuple es x1 pos) (tTup t) := by
  intro pins s σ H Q I hq
  refine wpAny_Tuple_spliced (thn (h pos pins s σ H _ I hq) fun us s1 ⟨xs, H1, I1, r, z, q⟩ => ⟨by rw [← r.length]; exact z, ?_⟩)
  have hf : H1 s1.heap.objs.size = none := I1.hok.fresh (Nat.le_refl _)
  refine ⟨.ref s1.heap.objs.size, upd H1 s1.heap.objs.size (.tup xs), I1.laid (t' := s1.toks) (fun b u e => Heap.get?_push_of_some _ e) (Nat.le_refl _) ?_, rfl, q _ hf⟩
  exact ⟨z, us, r, ⟨_, Heap.get?_push_size _ rfl, rfl, _, rfl⟩⟩
theorem pe_lst (h : PA X es t) : PE X (.List es pos) (tLst t) := by
  intro pins s σ H Q I hq
  refine wpAny_List_spliced (thn (h pos pins s σ H _ I hq) fun us s1 ⟨xs, H1, I1, r, z, q⟩ => ⟨by rw [← r.length]; exact z, ?_⟩)
  have hf : H1 s1.heap.objs.size = none := I1.hok.fresh (Nat.le_refl _)
  refine ⟨.ref s1.heap.objs.size, upd H1 s1.heap.objs.size (.lst xs), I1.laid (t' := s1.toks) (fun b u e => Heap.get?_push_of_some _ e) (Nat.le_refl _) ?_, rfl, q _ hf⟩
  exact ⟨z, us, 0, r, Heap.get?_push_size _ rfl⟩
end
/-! ### what a def promises -/
/-- a def's promise: the bound arguments in the parameters' order, the heap, the wanted end, the wanted exception -/
abbrev Sp := List V → Hp → VK → XK → Prop
/-- how an exception lies behind a call (file 08 gives it): the callers' frames, abstract heap and state ahead of the call, the wish, the exception, the state -/
abbrev CXT := List Env → Hp → Shared → XK → Value → Shared → Prop
/-- the state at a call -/
structure Env0 (P : Program) (w : World) (K : PySem.W.Frag) (mg : Str → Option Value) (base : Heap) (A : Around) (outer : List Env) (s : Shared) (H : Hp) : Prop where
  frames : A.frames = some outer
  mod : Mod K mg base
  bs : ∀ b o, base.get? b = some o → s.heap.get? b = some o ∧ H b = none
  bsz : base.objs.size ≤ s.heap.objs.size
  funs : s.heap.FunFrames base outer
  frf : ∀ b ∈ frs outer, H b = none
  hok : HOk P w H s.heap
  bare : AllBare s.gens
/-- a call's end -/
def CE (outer : List Env) (P : Program) (w : World) (H : Hp) (s : Shared) (Q : VK) (u : Value) (s' : Shared) : Prop :=
  ∃ v H', s'.os = s.os ∧ AllBare s'.gens ∧ Un (frs outer) [] H H' s.heap s'.heap ∧ HOk P w H' s'.heap ∧ RelV v u ∧ Q v H'
def CR (CX : CXT) (outer : List Env) (P : Program) (w : World) (H : Hp) (s : Shared) (Q : VK) (E : XK) (r : Result) (s' : Shared) : Prop :=
  match r with
  | .ok (.ret u) => CE outer P w H s Q u s'
  | .ok _ => False
  | .error e => CX outer H s E e s'
structure FnOk (P : Program) (w : World) (K : PySem.W.Frag) (mg : Str → Option Value) (base : Heap) (CX : CXT) (k : Nat) (f : Addr) (fd : FuncData) (ps : List Str) (sp : Sp) : Prop where
  len : ∀ vs H Q E, sp vs H Q E → vs.length = ps.length
  run : ∀ (A : Around) (outer : List Env) (s : Shared) (H : Hp) (args : Args) (us : List Value) (vs : List V) (Q : VK) (E : XK), Room k A → Env0 P w K mg base A outer s H → BindsTo s fd args (ps.zip us) → Vals vs us → sp vs H Q E →
    codeAny (model P w) A (.call (.ref f) args) (CR CX outer P w H s Q E) s
theorem Env0.make {P : Program} {w : World} {K : PySem.W.Frag} {mg : Str → Option Value} {base : Heap} {A : Around} {outer : List Env} {s : Shared} {H : Hp} (e : Env0 P w K mg base A outer s H) (C : Addr) (us : List Value) (kw : List (Str × Value)) :
    Env0 P w K mg base (A.under (.builtin "type.__call__" ⟨.ref C :: us, kw⟩)) outer s H := ⟨by first | exact e.frames | (simpa [Around.under, Code.envs, Code.isFrame, pushEnvs] using e.frames), e.mod, e.bs, e.bsz, e.funs, e.frf, e.hok, e.bare⟩
section
variable {X : Cx} {pins : List (Addr × Obj)} {σ : St} {H : Hp} {s s' : Shared}
/-- from a body: what a callee wants -/
theorem Inv.env0 (I : Inv X pins σ H s) : Env0 X.prog X.w X.K X.mg X.base X.A X.stack s H :=
  ⟨I.ok.frames, I.ok.mod, I.bs, Nat.le_trans I.ok.bsz I.sz, I.stack, I.stkFree, I.hok, I.bare⟩
/-- behind a call -/
theorem Inv.after {Q : VK} {u : Value} (I : Inv X pins σ H s) (h : CE X.stack X.prog X.w H s Q u s') : EP X pins σ Q u s' := by
  obtain ⟨v, H', os, bare, un, hok, r, q⟩ := h
  obtain ⟨hh, g, d, t, os'⟩ := s'
  obtain rfl : os' = s.os := os
  exact ⟨v, H', I.call (h' := hh) (g' := g) (d' := d) (t' := t) (ch := []) un hok bare (fun b z => absurd z (by simp)), r, q⟩
end
/-- how the parameters are bound: us the positional arguments, kw the keywords' values by name, ds the defaults that fill up -/
def Binds (K : PySem.W.Frag) (fd : FuncData) (ps : List Str) (ds : List Value) : Prop :=
  ∀ (s : Shared) (us : List Value), K.In s.heap → (us ++ ds).length = ps.length → BindsTo s fd ⟨us, []⟩ (ps.zip (us ++ ds))
/-- every parameter is given -/
theorem Binds.all {K : PySem.W.Frag} {fd : FuncData} {ps : List Str} (h : ∀ us : List Value, us.length = ps.length → bindArgs fd ⟨us, []⟩ = pure (ps.zip us)) : Binds K fd ps [] := fun s us _ hl => by
  rw [List.append_nil] at hl ⊢
  exact .of_eq (h us hl)
section
variable {X : Cx} {CX : CXT} {k : Nat} {f C : Addr} {fd : FuncData} {ps : List Str} {sp : Sp} {dvs : List V} {ds : List Value} {E : XK} {x m : Str} {p pos apos : Pos} {e o : Expr} {es : List Expr} {ta : TE} {t : TA}
/-- what a class must have to be made -/
structure Mk (K : PySem.W.Frag) (C f : Addr) : Prop where
  makes : PySem.W.makesIn K C = true
  init : PySem.W.findIn K (.ref C) "__init__" = some (some (.ref f))
  fn : PySem.W.isFn K (.ref f) = true
  kp : PySem.W.keepIn K (.ref C) = true
end
section
variable {X : Cx} {CX : CXT} {k : Nat} {f C : Addr} {fd : FuncData} {ps ks : List Str} {sp : Sp} {E : XK} {x m : Str} {p pos apos kpos : Pos} {e o : Expr} {es : List Expr} {kws : List Keyword} {te ta : TE} {t tk : TA} {nm : Option Str}
variable {g : List Value → List Value → List Value} {gV : List V → List V → List V}
end
/-! ### a def's body keeps its promise -/
/-- names: the parameters first -/
structure FnScope (N P : List Str) (sc : Scope) : Prop where
  kind : sc.kind = .function
  co : sc.isCoroutine = false
  gen : sc.isGenerator = false
  nd : N.Nodup
  pre : N.take P.length = P
  par : ∀ x ∈ P, sc.names.lookup x = some .local ∨ sc.names.lookup x = some .cell
  nofree : ∀ y ∈ sc.names, y.2 ≠ .free
theorem bindL_out {kindOf : Str → Option NameKind} {x : Str} : ∀ {binds : List (Str × Value)} {m : Str → Option Value}, (∀ v, (x, v) ∉ binds) → bindL kindOf binds m x = m x
  | [], _, _ => rfl
  | (n, v) :: r, m, h => by
    unfold bindL
    rw [bindL_out fun w hw => h w (List.mem_cons_of_mem _ hw)]
    split
    · have : x ≠ n := by rintro rfl; exact h v List.mem_cons_self
      simp [this]
    · rfl
theorem bindC_out {kindOf : Str → Option NameKind} {x : Str} : ∀ {binds : List (Str × Value)} {m : Str → Option Value}, (∀ v, (x, v) ∉ binds) → bindC kindOf binds m x = m x
  | [], _, _ => rfl
  | (n, v) :: r, m, h => by
    unfold bindC
    rw [bindC_out fun w hw => h w (List.mem_cons_of_mem _ hw)]
    split
    · rfl
    · have : x ≠ n := by rintro rfl; exact h v List.mem_cons_self
      simp [this]
theorem bindL_get {kindOf : Str → Option NameKind} {x : Str} {v : Value} : ∀ {P : List Str} {vs : List Value} {i : Nat} {m : Str → Option Value}, P.Nodup → P[i]? = some x → vs[i]? = some v → kindOf x = some .local →
    bindL kindOf (P.zip vs) m x = some v
  | [], _, _, _, _, h, _, _ => by simp at h
  | _ :: _, [], _, _, _, _, h, _ => by simp at h
  | p :: P, w :: vs, 0, m, nd, h1, h2, hk => by
    simp at h1 h2; subst h1; subst h2
    show bindL kindOf ((p, w) :: P.zip vs) m p = _
    unfold bindL
    rw [bindL_out fun v hv => (List.nodup_cons.mp nd).1 (List.of_mem_zip hv).1, if_pos hk]
    simp
  | p :: P, w :: vs, i + 1, m, nd, h1, h2, hk => by
    show bindL kindOf ((p, w) :: P.zip vs) m x = _
    unfold bindL
    exact bindL_get (i := i) (List.nodup_cons.mp nd).2 (by simpa using h1) (by simpa using h2) hk
theorem bindC_get {kindOf : Str → Option NameKind} {x : Str} {v : Value} : ∀ {P : List Str} {vs : List Value} {i : Nat} {m : Str → Option Value}, P.Nodup → P[i]? = some x → vs[i]? = some v → kindOf x ≠ some .local →
    bindC kindOf (P.zip vs) m x = some v
  | [], _, _, _, _, h, _, _ => by simp at h
  | _ :: _, [], _, _, _, _, h, _ => by simp at h
  | p :: P, w :: vs, 0, m, nd, h1, h2, hk => by
    simp at h1 h2; subst h1; subst h2
    show bindC kindOf ((p, w) :: P.zip vs) m p = _
    unfold bindC
    rw [bindC_out fun v hv => (List.nodup_cons.mp nd).1 (List.of_mem_zip hv).1, if_neg hk]
    simp
  | p :: P, w :: vs, i + 1, m, nd, h1, h2, hk => by
    show bindC kindOf ((p, w) :: P.zip vs) m x = _
    unfold bindC
    exact bindC_get (i := i) (List.nodup_cons.mp nd).2 (by simpa using h1) (by simpa using h2) hk
/-- the names' values at the entry -/
def start (N : List Str) (vs : List V) : St := vs.map some ++ List.replicate (N.length - vs.length) none
/-- the context of a def's body, at its entry; an exception leaves the frame, then lies as CX says -/
def cxOf (CX : CXT) (P : Program) (w : World) (K : PySem.W.Frag) (mg : Str → Option Value) (base : Heap) (N : List Str) (qual : Str) (scope : Scope) (f : Addr) (cd : Value) (A : Around) (outer : List Env) (s : Shared) (H : Hp) (E : XK) : Cx where
  prog := P
  w := w
  K := K
  mg := mg
  base := base
  A := A.deeper (envOfC qual scope s.heap.objs.size f cd)
  N := N
  s₀ := s
  H₀ := H
  env := envOfC qual scope s.heap.objs.size f cd
  outer := outer
  stack := envOfC qual scope s.heap.objs.size f cd :: outer
  ex := []
  calm := true
  fn := fun _ => true
  pn := []
  xe := fun e s' => wpAny (model P w) (A.deeper (envOfC qual scope s.heap.objs.size f cd)) (leaving (envOfC qual scope s.heap.objs.size f cd) e) (fun _ s'' => CX outer H s E e s'') (fun e' s'' => CX outer H s E e' s'') s'
theorem cell_has {sc : Scope} {n : Nat} {x : Str} (h : sc.names.lookup x = some .cell) : ∃ c, (cellsFrom n sc.names []).lookup x = some c := by
  have q := PySem.W.cellsFrom_some sc.names n [] (.inl h)
  exact Option.isSome_iff_exists.mp q
theorem inv_start {CX : CXT} {P : Program} {w : World} {K : PySem.W.Frag} {mg : Str → Option Value} {base : Heap} {N ps : List Str} {qual : Str} {scope : Scope} {f : Addr} {cd : Value} {A : Around} {outer : List Env} {s s1 : Shared} {H : Hp} {E : XK} {us : List Value} {vs : List V}
    (S : FnScope N ps scope) (hd : A.handled = none) (e0 : Env0 P w K mg base A outer s H) (hl : vs.length = ps.length) (r : Vals vs us)
    (x : InCallC s s.heap.objs.size (bindL (envOfC qual scope s.heap.objs.size f cd).kindOf (ps.zip us) fun _ => none) (cellsFrom (s.heap.objs.size + 1) scope.names []) (bindC (envOfC qual scope s.heap.objs.size f cd).kindOf (ps.zip us) fun _ => none) s1) :
    Inv (cxOf CX P w K mg base N qual scope f cd A outer s H E) [] (start N vs) H s1 := by
  have hpl : ps.length ≤ N.length := by have := congrArg List.length S.pre; rw [List.length_take] at this; omega
  obtain ⟨h1, tk, rfl, hk⟩ := x.done
  have noA : ∀ b : Addr, b ∉ (cxOf CX P w K mg base N qual scope f cd A outer s H E).ex := fun b z => absurd (show b ∈ ([] : List Addr) from z) (by simp)
  refine ⟨⟨e0.mod, S.kind, rfl, rfl, Nat.le_refl _, fun y z c h1 h2 => ?_, fun y hy => ?_, fun y c _ h => ?_, fun _ => hd, Around.frames_deeper e0.frames, .inr ⟨rfl, rfl⟩, fun b z => absurd z (noA b), e0.bs, e0.bsz, fun b _ _ => noA b, fun b z => absurd z (noA b), e0.funs, e0.frf⟩,
    rfl, e0.bare, Un.kept hk, ⟨_, x.toInCall.ns, fun i y v h1 h2 h3 => ?_⟩, fun y c h => ⟨_, x.cell y c h⟩, e0.hok.fresh (Nat.le_refl _), fun y c h => ?_, fun p hp => absurd (show p ∈ ([] : List (Addr × Obj)) from hp) (by simp), e0.hok.kept hk, ?_⟩
  · exact name_of_addr x.apart (PySem.mem_of_lookup h1) (PySem.mem_of_lookup h2)
  · have hy : scope.names.lookup y = some .cell ∨ scope.names.lookup y = some .free := hy
    rcases hy with hy | hy
    · exact cell_has hy
    · exact absurd rfl (S.nofree _ (PySem.mem_of_lookup hy))
  · exact Nat.le_of_lt (x.above y c (PySem.mem_of_lookup h))
  · have hi : i < vs.length := by
      unfold start at h2
      by_cases hi : i < vs.length
      · exact hi
      · rw [List.getElem?_append_right (by simpa using hi)] at h2
        rw [List.getElem?_replicate] at h2
        split at h2 <;> cases h2
    have ha : vs[i]? = some v := by
      unfold start at h2
      rw [List.getElem?_append_left (by simpa using hi), List.getElem?_map] at h2
      cases e : vs[i]? with
      | none => rw [e] at h2; cases h2
      | some a => rw [e] at h2; cases h2; rfl
    obtain ⟨u, hu, rv⟩ := r.get ha
    have hp : ps[i]? = some y := by
      rw [← S.pre, List.getElem?_take_of_lt (by omega)]; exact h1
    have ndP : ps.Nodup := by rw [← S.pre]; exact S.nd.sublist (List.take_sublist _ _)
    refine ⟨u, rv, ?_⟩
    rcases S.par y (List.mem_of_getElem? hp) with k | k
    · exact .inl ⟨k, bindL_get ndP hp hu k⟩
    · obtain ⟨c, e⟩ := cell_has (n := s.heap.objs.size + 1) k
      refine .inr ⟨.inl k, c, e, ?_⟩
      have q := x.cell y c e
      rw [bindC_get ndP hp hu (by show scope.names.lookup y ≠ _; rw [k]; decide)] at q
      exact q
  · exact e0.hok.fresh (Nat.le_of_lt (x.above y c (PySem.mem_of_lookup h)))
  · unfold start
    show _ = N.length
    rw [List.length_append, List.length_map, List.length_replicate]
    omega
/-- THE RULE: a def (or a method) of the text, by its body. The body's reading t is chosen for each entry; it is run at the parameters' values -/
theorem fn_of {CX : CXT} {P : Program} {w : World} {K : PySem.W.Frag} {mg : Str → Option Value} {base : Heap} {k : Nat} {f : Addr} {name qual : Str} {params : Arguments} {body : List Stmt} {scope : Scope} {dV kV doc pm cdv ct oc : Value} {an od : Option Addr}
    {osl : Array (Option Value)} {N ps : List Str} {sp : Sp} (lk : K.lookup f = some ⟨oc, od, .func (PySem.W.fnOf name qual params body scope dV kV doc pm an cdv ct), osl⟩) (hcd : PySem.W.codeIn K cdv qual = true) (S : FnScope N ps scope)
    (len : ∀ vs H Q E, sp vs H Q E → vs.length = ps.length)
    (hbody : ∀ (A : Around) (outer : List Env) (s : Shared) (H : Hp) (vs : List V) (Q : VK) (E : XK), Room k (A.deeper (envOfC qual scope s.heap.objs.size f cdv)) → sp vs H Q E →
      ∃ t, PSs (cxOf CX P w K mg base N qual scope f cdv A outer s H E) body t ∧ t { nx := fun _ H' => Q .non H', rt := Q } (start N vs) H) :
    FnOk P w K mg base CX (k + 1) f (PySem.W.fnOf name qual params body scope dV kV doc pm an cdv ct) ps sp := by
  refine ⟨len, fun A outer s H args us vs Q E hr e0 hb r hsp => ?_⟩
  have hl := len _ _ _ _ hsp
  have KX : K.In s.heap := e0.mod.kin.keeps fun b o e => (e0.bs b o e).1
  have lim : s.heap.NoLimit := e0.mod.nolimit.keeps fun b o e => (e0.bs b o e).1
  have hkind : ∀ y ∈ ps.zip us, scope.names.lookup y.1 = some .local ∨ (scope.names.lookup y.1 = some .cell ∧ ((cellsFrom (s.heap.objs.size + 1) scope.names []).lookup y.1).isSome = true) := fun ⟨n, v⟩ hy => by
    rcases S.par n (List.of_mem_zip hy).1 with q | q
    · exact .inl q
    · exact .inr ⟨q, PySem.W.cellsFrom_some _ _ _ (.inl q)⟩
  refine codeAny_call_function hr.depth (KX _ _ lk) rfl S.co S.gen rfl (PySem.W.codeRec_of KX hcd) (hb _ _ _ _ ?_)
  refine wpAny_newFunctionEnv_cells S.kind hkind fun env he s1 x => ?_
  subst he
  refine ⟨lim.keeps x.toInCall.keep, codeAny_func ?_⟩
  obtain ⟨t, ht, hq⟩ := hbody A outer s H vs Q E (hr.deeper _) hsp
  have I : Inv (cxOf CX P w K mg base N qual scope f cdv A outer s H E) [] (start N vs) H s1 := inv_start S hr.hd e0 hl r x
  refine wpAny_mono (ht [] s1 (start N vs) H _ I hq) (fun fl s' hs => ?_) fun e s' hs => hs
  have fin : ∀ {σ' : St} {H' : Hp} {v : V} {u : Value}, Inv (cxOf CX P w K mg base N qual scope f cdv A outer s H E) [] σ' H' s' → RelV v u → Q v H' → CE outer P w H s Q u s' :=
    fun {σ' H' v u} J rv q => ⟨v, H', J.os, J.bare, J.base, J.hok, rv, q⟩
  cases fl with
  | ret u =>
    obtain ⟨v, σ', H', J, rv, q⟩ := hs
    exact fin J rv q
  | next =>
    obtain ⟨σ', H', J, q⟩ := hs
    exact fin (v := V.non) (u := Value.none) J rfl q
  | brk =>
    obtain ⟨_, _, _, q⟩ := hs
    exact False.elim q
  | cont =>
    obtain ⟨_, _, _, q⟩ := hs
    exact False.elim q
end L2
namespace L2
open PySem PySem.Spec PyProof.Rows
section
variable {X : Cx} {x : Str} {p pos : Pos} {e : Expr} {es : List Expr} {t : TA} {id T : String} {r : List V → Hp → VK → Prop}
def tCB (r : List V → Hp → VK → Prop) (t : TA) : TE := fun σ H Q => t σ H fun vs H1 => r vs H1 Q
/-- f(e, ..), f a built-in function -/
theorem pe_callB (hc : CallR X (.builtin id) r) (hg : Gl X x) (hm : X.mg x = none) (hv : bootBuiltins x = some (.builtin id)) (ha : PA X (e :: es) t) (hn : x ≠ "__name__" := by decide) (hdb : (x == ("__debug__" : Str)) = false := by decide)
    (he : starEach (e :: es) X.env = (false, eval e X.env) :: starEach es X.env := by rfl) (hpl : (backTo pos (starEach es X.env)).any (·.1) = false := by rfl) : PE X (.Call (.Name x p) (e :: es) [] pos) (tCB r t) := by
  intro pins s σ H Q I h
  refine wpAny_Call_Name_kw (ld_blt I hg hm hv ?_ hn hdb)
  exact PyProof.Rows.callWith_builtin1 (thn (ha pos pins s σ H _ I h) fun us s1 ⟨vs, H1, I1, r1, q1⟩ => hc pins s1 σ H1 vs us Q I1 r1 q1) he hpl
/-- T(e, ..), T a built-in type -/
theorem pe_callTy (hc : CallR X (.type T) r) (hg : Gl X x) (hm : X.mg x = none) (hv : bootBuiltins x = some (.type T)) (ha : PA X (e :: es) t) (hn : x ≠ "__name__" := by decide) (hdb : (x == ("__debug__" : Str)) = false := by decide)
    (he : starEach (e :: es) X.env = (false, eval e X.env) :: starEach es X.env := by rfl) (hpl : (backTo pos (starEach es X.env)).any (·.1) = false := by rfl) : PE X (.Call (.Name x p) (e :: es) [] pos) (tCB r t) := by
  intro pins s σ H Q I h
  refine wpAny_Call_Name_kw (ld_blt I hg hm hv ?_ hn hdb)
  exact PyProof.Rows.callWith_type1 (thn (ha pos pins s σ H _ I h) fun us s1 ⟨vs, H1, I1, r1, q1⟩ => hc pins s1 σ H1 vs us Q I1 r1 q1) he hpl
end
end L2
namespace HT
open PySem PyProof.Rows
section
open PySem.SeqAt
open PySem.AutoSeq1 (wpAny_loadPart')
open PySem.MeetsSeq PySem.MeetsSeq2 PySem.MeetsSeq3
end
section
variable {prog : Program} {w : World} {A : Around} {E : Value → Shared → Prop} {s : Shared}
/-! ### t[a:b], not the whole -/
/-- a slice's bound as a place among n (d where it is left out) -/
def sIx (n d : Nat) : Option Int → Nat
  | none => d
  | some v => if v < 0 then (v + (n : Int)).toNat else min v.toNat n
end
end HT
namespace L2
open PySem PySem.Spec PyProof.Rows
/-! ### the parts of a slice -/
abbrev TO := St → Hp → (Option Int → Hp → Prop) → Prop
/-- a slice's part (left out, or an int) -/
def PO (X : Cx) (e : Option Expr) (t : TO) : Prop :=
  ∀ (pins : List (Addr × Obj)) (s : Shared) (σ : St) (H : Hp) (Q : Option Int → Hp → Prop), Inv X pins σ H s → t σ H Q →
    wpAny (model X.prog X.w) X.A (evalPart e X.env) (fun u s' => ∃ o H', Inv X pins σ H' s' ∧ IsPart u o ∧ Q o H') X.xe s
def tPart (t : TE) : TO := fun σ H Q => t σ H fun x H1 => ∃ i, x = .int i ∧ Q (some i) H1
section
variable {X : Cx} {e : Expr} {te : TE} {lo hi : Option Expr} {tl th : TO} {pos p2 : Pos}
theorem po_some (h : PE X e te) : PO X (some e) (tPart te) := by
  intro pins s σ H Q I hw
  rw [evalPart_some]
  refine thn (h pins s σ H _ I hw) fun u s1 ⟨x, H1, I1, r1, q1⟩ => ?_
  obtain ⟨i, rfl, q⟩ := q1
  obtain ⟨t, rfl⟩ := r1
  exact ⟨some i, H1, I1, .int i t, q⟩
/-- what a slice of a value is, by values: the slice object stands at sl -/
def SlR (X : Cx) (r : V → Option Int → Option Int → Hp → VK → Prop) : Prop :=
  ∀ (pins : List (Addr × Obj)) (s : Shared) (σ : St) (H : Hp) (x : V) (v vl vu : Value) (lo hi : Option Int) (sl : Addr) (Q : VK), Inv X pins σ H s → RelV x v → s.heap.IsSliceOf sl vl vu .none → IsPart vl lo → IsPart vu hi → r x lo hi H Q →
    ∃ T id, typeLookup (.type T) "__getitem__" = pure (some (.builtin id)) ∧ s.TypeIs v T ∧ wpAny (model X.prog X.w) X.A (getItem v (.ref sl)) (EP X pins σ Q) X.xe s
theorem SlR.or {r r' : V → Option Int → Option Int → Hp → VK → Prop} (h : SlR X r) (h' : SlR X r') : SlR X (fun x lo hi H Q => r x lo hi H Q ∨ r' x lo hi H Q) := by
  intro pins s σ H x v vl vu lo hi sl Q I rx hs pl pu q
  rcases q with q | q
  · exact h pins s σ H x v vl vu lo hi sl Q I rx hs pl pu q
  · exact h' pins s σ H x v vl vu lo hi sl Q I rx hs pl pu q
def tSl (r : V → Option Int → Option Int → Hp → VK → Prop) (te : TE) (tl th : TO) : TE := fun σ H Q => te σ H fun x H1 => tl σ H1 fun l H2 => th σ H2 fun u H3 => r x l u H3 Q
/-- a[lo:hi], any a -/
theorem pe_slice {r : V → Option Int → Option Int → Hp → VK → Prop} (hr : SlR X r) (he : PE X e te) (hl : PO X lo tl) (hu : PO X hi th) : PE X (.Subscript e (.Slice lo hi none p2) pos) (tSl r te tl th) := by
  intro pins s σ H Q I h
  refine Subscript_ (thn (he pins s σ H _ I h) fun v s1 ⟨x, H1, I1, r1, q1⟩ => ?_)
  refine wpAny_Slice (thn (hl pins s1 σ H1 _ I1 q1) fun vl s2 ⟨l, H2, I2, pl, q2⟩ => thn (hu pins s2 σ H2 _ I2 q2) fun vu s3 ⟨u, H3, I3, pu, q3⟩ => ?_)
  rw [evalPart_none]
  refine wpAny_pure ?_
  have I4 : Inv X pins σ H3 { s3 with heap := s3.heap.push { cls := .type "slice", data := .fields #[vl, vu, .none] } } := I3.kept (t' := s3.toks) fun b ob q => Heap.get?_push_of_some _ q
  obtain ⟨T, id, hT, ht, hg⟩ := hr pins { s3 with heap := s3.heap.push { cls := .type "slice", data := .fields #[vl, vu, .none] } } σ H3 x v vl vu l u s3.heap.objs.size Q I4 r1 (Heap.IsSliceOf.new ..) pl pu q3
  show wpAny (model X.prog X.w) X.A (subscriptTail e (.Slice lo hi none p2) v (.ref s3.heap.objs.size)) (EP X pins σ Q) X.xe { s3 with heap := s3.heap.push { cls := .type "slice", data := .fields #[vl, vu, .none] } }
  exact tail_any (ops := [.ref s3.heap.objs.size, v]) ht hT hg (by with_unfolding_all rfl)
/-- the items of xs[lo:hi] -/
def cutV (xs : List V) (lo hi : Option Int) : List V := (xs.drop (HT.sIx xs.length 0 lo)).take (HT.sIx xs.length xs.length hi - HT.sIx xs.length 0 lo)
theorem cutV_length (xs : List V) (lo hi : Option Int) : (cutV xs lo hi).length ≤ xs.length := by
  unfold cutV
  rw [List.length_take, List.length_drop]
  omega
end
end L2
namespace L2
open PySem PySem.Spec PyProof.Rows
/-! ### places -/
/-- the place that an index of any sign means -/
def ixN (n : Nat) (i : Int) : Option Nat := if 0 ≤ i then (if i < n then some i.toNat else none) else if -(n : Int) ≤ i then some (i + n).toNat else none
def atI {α : Type} (xs : List α) (i : Int) : Option α := (ixN xs.length i).bind fun j => xs[j]?
theorem ixN_seq {n : Nat} {i : Int} {j : Nat} (h : ixN n i = some j) : seqIndex? i n = some j ∧ j < n ∧ -(n : Int) ≤ i ∧ i < n := by
  unfold ixN at h
  by_cases h0 : 0 ≤ i
  · rw [if_pos h0] at h
    by_cases h1 : i < n
    · rw [if_pos h1] at h
      have e : i.toNat = j := Option.some.inj h
      exact ⟨by rw [seqIndex_of h0 h1, e], by omega, by omega, h1⟩
    · rw [if_neg h1] at h; cases h
  · rw [if_neg h0] at h
    by_cases h1 : -(n : Int) ≤ i
    · rw [if_pos h1] at h
      have e : (i + n).toNat = j := Option.some.inj h
      exact ⟨by rw [seqIndex_neg (by omega) h1, e], by omega, h1, by omega⟩
    · rw [if_neg h1] at h; cases h
theorem atI_get {α : Type} {xs : List α} {i : Int} {v : α} (h : atI xs i = some v) : ∃ j, seqIndex? i xs.length = some j ∧ xs[j]? = some v ∧ j < xs.length ∧ -(xs.length : Int) ≤ i ∧ i < xs.length := by
  unfold atI at h
  cases e : ixN xs.length i with
  | none => rw [e] at h; cases h
  | some j =>
    rw [e] at h
    obtain ⟨h1, h2, h3, h4⟩ := ixN_seq e
    exact ⟨j, h1, h, h2, h3, h4⟩
theorem atI_nat {α : Type} {xs : List α} {j : Nat} {v : α} (h : xs[j]? = some v) : atI xs (j : Int) = some v := by
  have hj : j < xs.length := (List.getElem?_eq_some_iff.mp h).1
  have e : ixN xs.length (j : Int) = some j := by
    unfold ixN
    rw [if_pos (by omega), if_pos (by omega)]; simp
  unfold atI; rw [e]; exact h
/-! ### what may be subscripted -/
/-- what stands as an index of a plain subscript -/
def PlainIx (b : Expr) : Prop := ∀ o i, subscripted b false o i = operate [o, i] (getItem o i)
/-- a subscript by values -/
def IxR (X : Cx) (r : R2) : Prop :=
  ∀ (value slice : Expr) (pins : List (Addr × Obj)) (s : Shared) (σ : St) (H : Hp) (x y : V) (v u : Value) (Q : VK), Inv X pins σ H s → RelV x v → RelV y u → r x y H Q →
    subscripted slice false v u = operate [v, u] (getItem v u) → wpAny (model X.prog X.w) X.A (subscriptTail value slice v u) (EP X pins σ Q) X.xe s
/-- a call of a builtin's method by values: the receiver, the arguments -/
def MtR (X : Cx) (id : String) (r : V → List V → Hp → VK → Prop) : Prop :=
  ∀ (pins : List (Addr × Obj)) (s : Shared) (σ : St) (H : Hp) (x : V) (xs : List V) (v : Value) (us : List Value) (Q : VK), Inv X pins σ H s → RelV x v → Vals xs us → r x xs H Q →
    wpAny (model X.prog X.w) X.A (call (.builtin id) (v :: us)) (EP X pins σ Q) X.xe s
section
variable {X : Cx} {a b : Expr} {ta tb : TE} {pos : Pos}
theorem IxR.or {r r' : R2} (h : IxR X r) (h' : IxR X r') : IxR X (fun x y H Q => r x y H Q ∨ r' x y H Q) := by
  intro value slice pins s σ H x y v u Q I rx ry q hs
  rcases q with q | q
  · exact h value slice pins s σ H x y v u Q I rx ry q hs
  · exact h' value slice pins s σ H x y v u Q I rx ry q hs
theorem MtR.or {id : String} {r r' : V → List V → Hp → VK → Prop} (h : MtR X id r) (h' : MtR X id r') : MtR X id (fun x xs H Q => r x xs H Q ∨ r' x xs H Q) := by
  intro pins s σ H x xs v us Q I rx rs q
  rcases q with q | q
  · exact h pins s σ H x xs v us Q I rx rs q
  · exact h' pins s σ H x xs v us Q I rx rs q
/-- a[b] -/
theorem pe_ix {r : R2} (hr : IxR X r) (ha : PE X a ta) (hb : PE X b tb) (hs : PlainIx b) : PE X (.Subscript a b pos) (tOp r ta tb) := by
  intro pins s σ H Q I h
  exact Subscript_ (binT ha hb I h fun v u s2 x y H2 I2 rx ry q => hr a b pins s2 σ H2 x y v u Q I2 rx ry q (hs _ _))
def rIxL (K : PySem.W.Frag) : R2 := fun x y H Q => ∃ p xs i v, x = .ref p ∧ y = .int i ∧ SqL K H p xs ∧ atI xs i = some v ∧ Q v H
def rIxT (K : PySem.W.Frag) : R2 := fun x y H Q => ∃ p xs i v, x = .ref p ∧ y = .int i ∧ SqT K H p xs ∧ atI xs i = some v ∧ Q v H
theorem ix_list : IxR X (rIxL X.K) := by
  intro value slice pins s σ H x y v u Q I rx ry h hs
  obtain ⟨p, xs, i, z, rfl, rfl, hq, he, q⟩ := h
  cases rx
  obtain ⟨t, rfl⟩ := ry
  obtain ⟨its, r, pl, hz⟩ := I.list hq
  obtain ⟨j, h1, h2, h3, h4, h5⟩ := atI_get he
  obtain ⟨w, ew, rw'⟩ := r.get h2
  have hl := r.length
  have hn := line63
  have fin : EP X pins σ Q w s := ⟨z, H, I, rw', q⟩
  by_cases h0 : 0 ≤ i
  · have hj : i.toNat = j := by
      rw [seqIndex_of h0 h5] at h1
      exact Option.some.inj h1
    exact item_listR pl.isList h0 (by omega) (by rw [hj]; simpa using ew) fin hs
  · have hj : (i + (its.toArray.size : Int)).toNat = j := by
      rw [seqIndex_neg (by omega) h4] at h1
      rw [List.size_toArray, ← hl]
      exact Option.some.inj h1
    exact subscriptTail_builtinR (x := w) pl.isList.typeIs slot_list_getitem.lookup
      (wpAny_getItem_list_neg (Q := fun r s' => r = w ∧ EP X pins σ Q r s') pl.isList (by omega) (by rw [List.size_toArray] <;> omega) (by omega) (by rw [hj]; simpa using ew) ⟨rfl, fin⟩) hs
theorem ix_tup : IxR X (rIxT X.K) := by
  intro value slice pins s σ H x y v u Q I rx ry h hs
  obtain ⟨p, xs, i, z, rfl, rfl, hq, he, q⟩ := h
  cases rx
  obtain ⟨t, rfl⟩ := ry
  obtain ⟨its, r, pl, hz⟩ := I.tuple hq
  obtain ⟨j, h1, h2, h3, h4, h5⟩ := atI_get he
  obtain ⟨w, ew, rw'⟩ := r.get h2
  have hl := r.length
  have hn := line63
  have fin : EP X pins σ Q w s := ⟨z, H, I, rw', q⟩
  exact subscriptTail_builtinR (x := w) pl.typeIs slot_tuple_getitem.lookup
    (getItem_tuple (j := j) (Q := fun r s' => r = w ∧ EP X pins σ Q r s') pl (by omega) (by omega) (by rw [List.size_toArray, ← hl]; exact h1) (by simpa using ew) ⟨rfl, fin⟩) hs
/-! ### xs[i] = v, any sign -/
/-- the list's object behind a store -/
theorem mapSeq_set (its : List Value) (n j : Nat) (u : Value) : Obj.mapSeq (·.setIfInBounds j u) { cls := .type "list", data := .seq its.toArray n } = { cls := .type "list", data := .seq (its.set j u).toArray n } := by
  simp [Obj.mapSeq]
theorem Inv.lst {pins : List (Addr × Obj)} {σ : St} {H : Hp} {s : Shared} {p : Addr} {xs : List V} (I : Inv X pins σ H s) (h : H p = some (.lst xs)) :
    ∃ (its : List Value) (n : Nat), Vals xs its ∧ s.heap.get? p = some { cls := .type "list", data := .seq its.toArray n } ∧ xs.length ≤ sizeLine := by
  obtain ⟨z, its, n, r, e⟩ := I.hok p _ h
  exact ⟨its, n, r, e, z⟩
/-- the list at p is written by an update of its object -/
theorem Inv.lstUpd {pins : List (Addr × Obj)} {σ : St} {H : Hp} {s : Shared} {p : Addr} {xs ys : List V} {its its' : List Value} {n n' : Nat} {f : Obj → Obj} (I : Inv X pins σ H s) (h : H p = some (.lst xs))
    (ho : s.heap.get? p = some { cls := .type "list", data := .seq its.toArray n }) (hf : f { cls := .type "list", data := .seq its.toArray n } = { cls := .type "list", data := .seq its'.toArray n' }) (r : Vals ys its') (hz : ys.length ≤ sizeLine) (t : Nat) :
    Inv X pins σ (upd H p (.lst ys)) { s with heap := s.heap.update p f, toks := t } := by
  have e : (s.heap.update p f).get? p = some { cls := .type "list", data := .seq its'.toArray n' } := by
    rw [Heap.get?_update_self f ho (by rw [hf] <;> rfl), hf]
  refine I.write (x := p) (e := p) (by rw [h]; trivial) (.inl rfl) (fun b u hb q => (Heap.get?_update_other _ _ (Ne.symm hb)).trans q) ⟨_, e⟩ ?_
  exact ⟨hz, its', n', r, e⟩
def rSetL : V → V → V → Hp → (Hp → Prop) → Prop := fun o i v H Q => ∃ p xs k j, o = .ref p ∧ i = .int k ∧ H p = some (.lst xs) ∧ ixN xs.length k = some j ∧ Q (upd H p (.lst (xs.set j v)))
theorem set_list : PSet X rSetL := by
  intro pins s σ H o i v ov iv u Q I ro ri rv h
  obtain ⟨p, xs, k, j, rfl, rfl, hp, hj, q⟩ := h
  cases ro
  obtain ⟨t, rfl⟩ := ri
  obtain ⟨its, n, r, ho, hz⟩ := I.lst hp
  obtain ⟨h1, h2, h3, h4⟩ := ixN_seq hj
  have hl := r.length
  have hn := line63
  have I' : Inv X pins σ (upd H p (.lst (xs.set j v))) { s with heap := s.heap.update p (Obj.mapSeq (·.setIfInBounds j u)) } :=
    I.lstUpd hp ho (mapSeq_set its n j u) (r.set rv j) (by rw [List.length_set]; exact hz) s.toks
  by_cases h0 : 0 ≤ k
  · have hk : k.toNat = j := by
      rw [seqIndex_of h0 h4] at h1
      exact Option.some.inj h1
    exact PySem.W.ki_setAt ho h0 (by omega) (by rw [List.size_toArray, ← hl]; exact h4) (by rw [hk]; exact ⟨_, I', q⟩)
  · have hk : (k + (its.toArray.size : Int)).toNat = j := by
      rw [seqIndex_neg (by omega) h3] at h1
      rw [List.size_toArray, ← hl]
      exact Option.some.inj h1
    exact PySem.W.ki_setBack ho (by omega) (by rw [List.size_toArray, ← hl]; exact h3) (by omega) (by rw [hk]; exact ⟨_, I', q⟩)
/-! ### slices -/
theorem slice_bounds (lo hi : Option Int) (n : Nat) : (sliceBounds lo hi none n).1 = ((HT.sIx n 0 lo : Nat) : Int) ∧ (sliceBounds lo hi none n).2.1 = ((HT.sIx n n hi : Nat) : Int) ∧ (sliceBounds lo hi none n).2.2 = 1 := by
  refine ⟨?_, ?_, rfl⟩
  · cases lo with
    | none => simp [sliceBounds, HT.sIx]
    | some i =>
      simp only [sliceBounds, HT.sIx, Option.getD_none, show (1 : Int) > 0 by decide, if_true]
      by_cases h : i < 0
      · simp only [h, if_true] <;> omega
      · simp only [h, if_false] <;> omega
  · cases hi with
    | none => simp [sliceBounds, HT.sIx]
    | some i =>
      simp only [sliceBounds, HT.sIx, Option.getD_none, show (1 : Int) > 0 by decide, if_true]
      by_cases h : i < 0
      · simp only [h, if_true] <;> omega
      · simp only [h, if_false] <;> omega
theorem slicePick_cut (its : List Value) (lo hi : Option Int) : slicePick its.toArray lo hi none = ((its.drop (HT.sIx its.length 0 lo)).take (HT.sIx its.length its.length hi - HT.sIx its.length 0 lo)).toArray := by
  obtain ⟨h1, h2, h3⟩ := slice_bounds lo hi its.toArray.size
  unfold slicePick
  rw [h1, h2, h3]
  simp only [sliceRange_one, pick_run, List.size_toArray] <;> rfl
/-- xs[lo:hi] of a list: a new list -/
def rSlL (K : PySem.W.Frag) : V → Option Int → Option Int → Hp → VK → Prop := fun x lo hi H Q => ∃ a xs, x = .ref a ∧ SqL K H a xs ∧ ∀ p, H p = none → Q (.ref p) (upd H p (.lst (cutV xs lo hi)))
theorem sl_list : SlR X (rSlL X.K) := by
  intro pins s σ H x v vl vu lo hi sl Q I rx hs pl pu h
  obtain ⟨a, xs, rfl, hx, q⟩ := h
  cases rx
  obtain ⟨its, r, ht, hz⟩ := I.list hx
  have hlen := r.length
  refine ⟨"list", _, slot_list_getitem.lookup, ht.isList.typeIs, ?_⟩
  refine wpAny_getItem_list_slice ht.isList hs pl pu .none (by simp) ?_ (by rw [List.size_toArray] <;> omega)
  rw [slicePick_cut, ← hlen]
  refine ⟨.ref s.heap.objs.size, _, I.laid (t' := s.toks) (o := .lst (cutV xs lo hi)) (fun b ob q => Heap.get?_push_of_some _ q) (Nat.le_refl _) ?_, rfl, q _ (I.hok.fresh (Nat.le_refl _))⟩
  exact ⟨Nat.le_trans (cutV_length xs lo hi) hz, _, 0, (r.drop (HT.sIx xs.length 0 lo)).take (HT.sIx xs.length xs.length hi - HT.sIx xs.length 0 lo), Heap.get?_push_size _ rfl⟩
/-! ### in, not in: flat items -/
def flatV : V → Bool
  | .non => true
  | .bl _ => true
  | .int _ => true
  | .str _ => true
  | _ => false
/-- == of flat values -/
def eqV : V → V → Bool
  | .non, .non => true
  | .bl a, .bl b => a == b
  | .bl a, .int b => (if a then 1 else 0) == b
  | .int a, .bl b => a == (if b then 1 else 0)
  | .int a, .int b => a == b
  | .str a, .str b => a == b
  | _, _ => false
theorem eqAt_V {A : Around} {s : Shared} {y x : V} {u v : Value} (ry : RelV y u) (rx : RelV x v) (fy : flatV y = true) (fx : flatV x = true) : SeqAt.EqAt A s u v (eqV y x) := by
  cases y with
  | non =>
    cases ry
    cases x with
    | non => cases rx; exact SeqAt.EqAt.same _
    | bl b => cases rx; exact SeqAt.EqAt.none_bool b
    | int b => obtain ⟨t, rfl⟩ := rx; exact SeqAt.EqAt.none_int b t
    | str b => obtain ⟨t, rfl⟩ := rx; exact SeqAt.EqAt.none_str b t
    | _ => exact absurd (show false = true from fx) Bool.false_ne_true
  | bl a =>
    cases ry
    cases x with
    | non => cases rx; exact SeqAt.EqAt.bool_none a
    | bl b => cases rx; exact SeqAt.EqAt.bool_bool a b
    | int b => obtain ⟨t, rfl⟩ := rx; exact SeqAt.EqAt.bool_int a b t
    | str b => obtain ⟨t, rfl⟩ := rx; exact SeqAt.EqAt.bool_str a b t
    | _ => exact absurd (show false = true from fx) Bool.false_ne_true
  | int a =>
    obtain ⟨t', rfl⟩ := ry
    cases x with
    | non => cases rx; exact SeqAt.EqAt.int_none a t'
    | bl b => cases rx; exact SeqAt.EqAt.int_bool a t' b
    | int b => obtain ⟨t, rfl⟩ := rx; exact SeqAt.EqAt.int_int a t' b t
    | str b => obtain ⟨t, rfl⟩ := rx; exact SeqAt.EqAt.int_str a t' b t
    | _ => exact absurd (show false = true from fx) Bool.false_ne_true
  | str a =>
    obtain ⟨t', rfl⟩ := ry
    cases x with
    | non => cases rx; exact SeqAt.EqAt.str_none a t'
    | bl b => cases rx; exact SeqAt.EqAt.str_bool a t' b
    | int b => obtain ⟨t, rfl⟩ := rx; exact SeqAt.EqAt.str_int a t' b t
    | str b => obtain ⟨t, rfl⟩ := rx; exact SeqAt.EqAt.str_str a t' b t
    | _ => exact absurd (show false = true from fx) Bool.false_ne_true
  | _ => exact absurd (show false = true from fy) Bool.false_ne_true
theorem CallR.or {f : Value} {r r' : List V → Hp → VK → Prop} (h : CallR X f r) (h' : CallR X f r') : CallR X f (fun xs H Q => r xs H Q ∨ r' xs H Q) := by
  intro pins s σ H xs us Q I rs q
  rcases q with q | q
  · exact h pins s σ H xs us Q I rs q
  · exact h' pins s σ H xs us Q I rs q
theorem call_list_of : CallR X (.type "list") (fun xs H Q => ∃ p ys, xs = [.ref p] ∧ (SqL X.K H p ys ∨ SqT X.K H p ys) ∧ ∀ l, H l = none → Q (.ref l) (upd H l (.lst ys))) := by
  intro pins s σ H xs us Q I r h
  obtain ⟨p, ys, rfl, hq, q⟩ := h
  obtain ⟨u, rfl, rx⟩ := vals1 r
  cases rx
  have fin : ∀ (its : List Value), Vals ys its → ys.length ≤ sizeLine → ∀ (h' : Heap) (c' : Nat), (∀ b o', s.heap.get? b = some o' → h'.get? b = some o') →
      h'.get? s.heap.objs.size = some { cls := .type "list", dict := none, data := .seq its.toArray c', slots := #[] } → EP X pins σ Q (.ref s.heap.objs.size) { s with heap := h' } := fun its r' hz h' c' kp e =>
    ⟨.ref s.heap.objs.size, _, I.laid (t' := s.toks) kp (Nat.le_refl _) (show ObjOk X.prog X.w _ h' _ (.lst ys) from ⟨hz, its, c', r', e⟩), rfl, q _ (I.hok.fresh (Nat.le_refl _))⟩
  rcases hq with hq | hq
  · obtain ⟨its, r', pl, hz⟩ := I.list hq
    have hlen := r'.length
    obtain ⟨o, ho, hc, n, hd⟩ := pl.isList
    exact call_list_seq p (.inl rfl) ho hc hd (fun h' c' kp e => fin its r' hz h' c' kp e) (by simp only [List.size_toArray] <;> omega)
  · obtain ⟨its, r', pl, hz⟩ := I.tuple hq
    have hlen := r'.length
    obtain ⟨o, ho, hc, n, hd⟩ := pl
    exact call_list_seq p (.inr rfl) ho hc hd (fun h' c' kp e => fin its r' hz h' c' kp e) (by simp only [List.size_toArray] <;> omega)
/-! ### the call of a builtin's method: o.m(..) -/
/-- the value is of that builtin type -/
def tyV (K : PySem.W.Frag) (T : String) (x : V) (H : Hp) : Prop := match x with
  | .str _ => T = "str"
  | .int _ => T = "int"
  | .ref p => (T = "list" ∧ ∃ xs, SqL K H p xs) ∨ (T = "tuple" ∧ ∃ o, K.lookup p = some o ∧ o.cls = .type "tuple" ∧ o.dict = none) ∨
      (T = "dict" ∧ ((∃ kvs, H p = some (.dK kvs)) ∨ ∃ kvs, H p = some (.dT kvs))) ∨ (T = "set" ∧ ∃ S n, H p = some (.set S n))
  | _ => False
theorem tyV_is {pins : List (Addr × Obj)} {σ : St} {H : Hp} {s : Shared} {T : String} {x : V} {v : Value} (I : Inv X pins σ H s) (r : RelV x v) (ty : tyV X.K T x H) :
    s.TypeIs v T ∧ ∀ a, v = .ref a → ∃ ob, s.heap.get? a = some ob ∧ ob.dict = none := by
  cases x with
  | str z =>
    obtain ⟨t, rfl⟩ := r
    cases (show T = "str" from ty)
    exact ⟨typeIs_str s z t, fun _ e => nomatch e⟩
  | int i =>
    obtain ⟨t, rfl⟩ := r
    cases (show T = "int" from ty)
    exact ⟨typeIs_int s i t, fun _ e => nomatch e⟩
  | ref p =>
    cases r
    rcases ty with ⟨rfl, xs, hq⟩ | ⟨rfl, o, hk, hc, hd⟩ | ⟨rfl, hk⟩ | ⟨rfl, S, n, hk⟩
    · obtain ⟨its, _, pl, _⟩ := I.list hq
      refine ⟨pl.isList.typeIs, fun a e => ?_⟩
      cases e
      obtain ⟨o, n, e, c, hd, _⟩ := pl
      exact ⟨o, e, hd⟩
    · refine ⟨⟨o, I.kIn p o hk, hc⟩, fun a e => ?_⟩
      cases e
      exact ⟨o, I.kIn _ o hk, hd⟩
    · have z : ∃ o, s.heap.get? p = some o ∧ o.ExactDict := by
        rcases hk with ⟨kvs, hk⟩ | ⟨kvs, hk⟩
        · obtain ⟨_, _, _, _, o, _, _, e, ex, _⟩ := I.hok p _ hk
          exact ⟨o, e, ex⟩
        · obtain ⟨_, _, _, _, o, _, _, e, ex, _⟩ := I.hok p _ hk
          exact ⟨o, e, ex⟩
      obtain ⟨o, e, ex⟩ := z
      refine ⟨⟨o, e, ex.1⟩, fun a e2 => ?_⟩
      cases e2
      exact ⟨o, e, ex.2.1⟩
    · obtain ⟨o, _, _, _, e, ex, _⟩ := I.hok p _ hk
      refine ⟨⟨o, e, ex.1⟩, fun a e2 => ?_⟩
      cases e2
      exact ⟨o, e, ex.2.1⟩
  | _ => exact False.elim ty
def tBM (K : PySem.W.Frag) (T : String) (r : V → List V → Hp → VK → Prop) (to : TE) (t : TA) : TE := fun σ H Q => to σ H fun x H1 => tyV K T x H1 ∧ t σ H1 fun xs H2 => r x xs H2 Q
variable {o e : Expr} {es : List Expr} {to : TE} {t : TA} {name : Str} {apos cpos : Pos} {T id : String} {r : V → List V → Hp → VK → Prop}
theorem pe_bm (pa : PlainAttrs T) (slot : Slot T name id) (hty : typeOf (.builtin id) = pure (.type "method_descriptor")) (hm : MtR X id r) (ho : PE X o to) (ha : PA X (e :: es) t)
    (hbase : attributeBase o name X.env (eval o X.env) = eval o X.env := by rfl)
    (hfew : ((backTo cpos (starEach (e :: es) X.env)).all (fun x => !x.1) && (backToKw cpos (keywordEach [] X.env)).all (fun x => x.1.isSome)
      && decide ((e :: es).length + ([] : List Keyword).length + (if ([] : List Keyword).isEmpty then 0 else 1) < 30)) = true := by rfl)
    (hline : (apos.endLine == cpos.line) = true := by rfl) (hs : starEach (e :: es) X.env = (false, eval e X.env) :: starEach es X.env := by rfl) (hplain : (backTo cpos (starEach es X.env)).any (·.1) = false := by rfl) :
    PE X (.Call (.Attribute o name apos) (e :: es) [] cpos) (tBM X.K T r to t) := by
  intro pins s σ H Q I h
  refine wpAny_Call_method_late hbase hfew hline rfl (thn (ho pins s σ H _ I h) fun v s1 ⟨x, H1, I1, r1, ty, q1⟩ => ?_)
  obtain ⟨h1, h2⟩ := tyV_is I1 r1 ty
  refine ⟨T, id, pa, slot, hty, h1, h2, ?_⟩
  have hA := ha cpos pins s1 σ H1 _ I1 q1
  rw [hs] at hA ⊢
  refine Calls.callWith_builtin (by show (false || (backTo cpos (starEach es X.env)).any (·.1)) = false; rw [hplain] <;> rfl) (Calls.evalArgs_plain ?_)
  exact thn hA fun us s2 ⟨vs, H2, I2, r2, q2⟩ => hm pins s2 σ H2 x vs v us Q I2 r1 r2 q2
/- xs.append(e), list.index on a module's tuple .. are MtR facts of 06m -/
end
end L2
namespace L2
open PySem PySem.Spec PyProof.Rows
def MtM (X : Cx) (id : String) (r : V → List V → Hp → VK → Prop) : Prop :=
  ∀ (pins : List (Addr × Obj)) (s : Shared) (σ : St) (H : Hp) (x : V) (xs : List V) (v : Value) (us : List Value) (Q : VK), Inv X pins σ H s → RelV x v → Vals xs us → r x xs H Q →
    wpAny (model X.prog X.w) X.A (call (.builtin id) (v :: us)) (EP X pins σ Q) X.xe s
/-! ### lists of values -/
theorem Vals.one : ∀ {x : V} {us : List Value}, Vals [x] us → ∃ u, us = [u] ∧ RelV x u
  | _, _, .cons r .nil => ⟨_, rfl, r⟩
theorem Vals.two : ∀ {x y : V} {us : List Value}, Vals [x, y] us → ∃ u v, us = [u, v] ∧ RelV x u ∧ RelV y v
  | _, _, _, .cons r (.cons q .nil) => ⟨_, _, rfl, r, q⟩
theorem Vals.rep {xs : List V} {us : List Value} (h : Vals xs us) : ∀ k : Nat, Vals (List.replicate k xs).flatten (List.replicate k us).flatten
  | 0 => .nil
  | k + 1 => by
    rw [List.replicate_succ, List.replicate_succ, List.flatten_cons, List.flatten_cons]
    exact Vals.append h (Vals.rep h k)
theorem foldl_rep (its : List Value) : ∀ (k : Nat) (acc : List Value),
    List.foldl (fun x1 x2 => x1 ++ x2) acc.toArray (List.replicate k its.toArray) = (acc ++ (List.replicate k its).flatten).toArray
  | 0, acc => by simp
  | k + 1, acc => by
    have e : acc.toArray ++ its.toArray = (acc ++ its).toArray := by simp
    have e2 : (acc ++ its) ++ (List.replicate k its).flatten = acc ++ (List.replicate (k + 1) its).flatten := by
      rw [List.replicate_succ, List.flatten_cons, List.append_assoc]
    rw [← e2, ← foldl_rep its k (acc ++ its), ← e, List.replicate_succ, List.foldl_cons]
section
variable {X : Cx} {pins : List (Addr × Obj)} {σ : St} {H : Hp} {s : Shared} {l b : Addr} {xs ys zs : List V}
/-! ### the two steps: a tracked list is rewritten, a new list is laid -/
theorem Inv.lset {its its' : List Value} {n : Nat} {f : Array Value → Array Value} {t' : Nat} (I : Inv X pins σ H s) (hH : H l = some (.lst xs))
    (e : s.heap.get? l = some { cls := .type "list", data := .seq its.toArray n }) (hf : f its.toArray = its'.toArray) (hv : Vals ys its') (hz : ys.length ≤ sizeLine) :
    Inv X pins σ (upd H l (.lst ys)) { s with heap := s.heap.update l (Obj.mapSeq f), toks := t' } := by
  have q := PySem.IsL.update e f
  rw [hf] at q
  refine I.write (x := l) (e := l) (by rw [hH]; exact trivial) (.inl rfl) (fun b' u hb hu => (Heap.get?_update_other s.heap (Obj.mapSeq f) (Ne.symm hb)).trans hu) ⟨_, q⟩ ?_
  exact ⟨hz, its', _, hv, q⟩
theorem Inv.lnew {its : List Value} {t' : Nat} (I : Inv X pins σ H s) (hv : Vals ys its) (hz : ys.length ≤ sizeLine) :
    Inv X pins σ (upd H s.heap.objs.size (.lst ys)) { s with heap := s.heap.push { cls := .type "list", data := .seq its.toArray }, toks := t' } :=
  I.laid (fun _ _ q => Heap.get?_push_of_some _ q) (Nat.le_refl _) ⟨hz, its, 0, hv, Heap.get?_push_size _ rfl⟩
theorem Inv.fresh (I : Inv X pins σ H s) : H s.heap.objs.size = none := I.hok.fresh (Nat.le_refl _)
theorem Inv.lstM (I : Inv X pins σ H s) (hH : H l = some (.lst xs)) : xs.length ≤ sizeLine ∧ ∃ (its : List Value) (n : Nat), Vals xs its ∧ xs.length = its.length ∧ s.heap.get? l = some { cls := .type "list", data := .seq its.toArray n } := by
  obtain ⟨z, its, n, r, e⟩ := I.hok l _ hH
  exact ⟨z, its, n, r, r.length, e⟩
theorem notLongL {n : Nat} (h : n ≤ sizeLine) : Builtin.List.listTooLong n = false := by
  unfold Builtin.List.listTooLong
  exact decide_eq_false (by omega)
end
section
variable {X : Cx}
/-! ### methods -/
def rAppend : V → List V → Hp → VK → Prop := fun x vs H Q => ∃ l xs y, x = .ref l ∧ vs = [y] ∧ H l = some (.lst xs) ∧ xs.length < sizeLine ∧ Q .non (upd H l (.lst (xs ++ [y])))
theorem mt_append : MtM X "list.append" rAppend := by
  intro pins s σ H x vs v us Q I rx rv h
  obtain ⟨l, xs, y, rfl, rfl, hH, hz, q⟩ := h
  cases rx
  obtain ⟨u, rfl, ru⟩ := rv.one
  obtain ⟨z, its, n, r, hl, e⟩ := I.lstM hH
  refine call_meets F.slot_list_append ⟨_, e, rfl⟩ F.entry_list_append (F.args_list_append_2 _ _) (PySem.list_append l its.toArray n u (by rw [List.size_toArray]; omega)) ⟨e, ?_⟩
  refine ⟨.non, _, I.lset (its' := its ++ [u]) hH e (by simp) (r.append (.cons ru .nil)) ?_, rfl, q⟩
  rw [List.length_append, List.length_singleton]
  omega
/-- a list times an int (a negative one is nothing) -/
def rRep : R2 := fun x y H Q => ∃ l k xs, x = .ref l ∧ y = .int k ∧ H l = some (.lst xs) ∧ -(2 ^ 63) ≤ k ∧ k < 2 ^ 63 ∧ xs.length * k.toNat ≤ sizeLine ∧
  ∀ p, H p = none → Q (.ref p) (upd H p (.lst (List.replicate k.toNat xs).flatten))
theorem len_rep {α : Type} (xs : List α) (k : Nat) : (List.replicate k xs).flatten.length = k * xs.length := by
  induction k with
  | zero => simp
  | succ k ih => rw [List.replicate_succ, List.flatten_cons, List.length_append, ih, Nat.succ_mul, Nat.add_comm]
theorem op_rep : OpR X (binaryOp .Mult) rRep := by
  intro pins s σ H x y v u Q I rx ry h
  obtain ⟨l, k, xs, rfl, rfl, hH, h1, h2, hz, q⟩ := h
  cases rx
  obtain ⟨t, rfl⟩ := ry
  obtain ⟨z, its, n, r, hl, e⟩ := I.lstM hH
  have hlen : its.toArray.size * k.toNat ≤ sizeLine := by rw [List.size_toArray, ← hl]; exact hz
  have hcap : ¬ its.toArray.size * k.toNat > (2 ^ 63 - 1) / 8 := by
    have : (sizeLine : Nat) ≤ (2 ^ 63 - 1) / 8 := by decide
    omega
  have hfit : ¬ (!Builtin.List.listFitsIndex k) = true := by
    rw [fitsIndex_both h1 h2]
    exact Bool.false_ne_true
  have hlong : ¬ Builtin.List.listTooLong (its.toArray.size * k.toNat) = true := by
    rw [notLongL hlen]
    exact Bool.false_ne_true
  have hnew : List.foldl (fun x1 x2 => x1 ++ x2) #[] (List.replicate (if its.toArray.isEmpty = true then 0 else k.toNat) its.toArray) = (List.replicate k.toNat its).flatten.toArray := by
    have f0 : ∀ m : Nat, List.foldl (fun x1 x2 => x1 ++ x2) #[] (List.replicate m its.toArray) = (List.replicate m its).flatten.toArray := fun m => by
      have := foldl_rep its m []
      rw [List.nil_append] at this
      exact this
    rw [f0]
    cases its with
    | nil => simp
    | cons a r' => rw [if_neg (by simp)]
  refine wpAny_binaryOp_repeat_ref (T := "list") (U := "int") (by decide) ⟨_, e, rfl⟩ (fun s' => typeIs_int s' k t) noFill_list_mul F.fills_int_mul F.slot_int_rmul repeat_list F.slot_int_index.lookup
    (call_meets F.slot_int_rmul (typeIs_int s k t) F.entry_int_rmul (F.args_int_rmul_2 _ _) (int___rmul___int_list k t l its.toArray n)
      ⟨e, rfl, ⟨_, e, rfl⟩, call_meets F.slot_list_mul ⟨_, e, rfl⟩ F.entry_list_mul (F.args_list_mul_2 _ _) (AutoListH.list___mul___list_int_3 l its.toArray n k t hfit hcap hlong) ⟨e, ?_⟩⟩)
  rw [hnew]
  exact ⟨.ref _, _, I.lnew (t' := s.toks) (r.rep k.toNat) (by rw [len_rep, Nat.mul_comm]; exact hz), rfl, q _ I.fresh⟩
end
/-! ### xs[a:b] = ys -/
section
variable {prog : Program} {w : World} {A : Around} {E : Value → Shared → Prop} {s : Shared}
end
section
variable {X : Cx}
end
end L2
namespace L2
open PySem PySem.Spec PyProof.Rows
/-! ### lists of pairs as tables -/
section
variable {κ : Type} [DecidableEq κ]
def valV (kvs : List (κ × V)) (k : κ) : Option V := (kvs.find? fun kv => decide (kv.1 = k)).map (·.2)
/-- in its place, or at the end -/
def putK (kvs : List (κ × V)) (k : κ) (v : V) : List (κ × V) :=
  if (kvs.any fun kv => decide (kv.1 = k)) = true then kvs.map (fun kv => if kv.1 = k then (kv.1, v) else kv) else kvs ++ [(k, v)]
def dropK (kvs : List (κ × V)) (k : κ) : List (κ × V) := kvs.filter fun kv => decide (kv.1 ≠ k)
theorem valV_pos {p : κ × V} {r : List (κ × V)} {k : κ} (e : p.1 = k) : valV (p :: r) k = some p.2 := by simp [valV, List.find?_cons, e]
theorem valV_neg {p : κ × V} {r : List (κ × V)} {k : κ} (e : ¬ p.1 = k) : valV (p :: r) k = valV r k := by simp [valV, List.find?_cons, e]
theorem KV.any {kvs : List (κ × V)} {vs : List (κ × Value)} (r : KV kvs vs) (k : κ) : (kvs.any fun kv => decide (kv.1 = k)) = vs.any fun kv => decide (kv.1 = k) := by
  unfold KV at r
  induction r with
  | nil => rfl
  | cons h t ih => rw [List.any_cons, List.any_cons, ih, h.1]
theorem KV.length {kvs : List (κ × V)} {vs : List (κ × Value)} (r : KV kvs vs) : kvs.length = vs.length := Paired.length r
theorem dropK_le (kvs : List (κ × V)) (k : κ) : (dropK kvs k).length ≤ kvs.length := List.length_filter_le _ _
end
/-! ### a tracked dict, its keys ints and texts or tuples of these -/
theorem kV_is {P : Program} {w : World} {k : Key} {u : Value} (r : RelV (kV k) u) : (mixKind P w).is k u = true := by
  cases k with
  | inl i => obtain ⟨t, e⟩ := (show ∃ t, u = Value.int i t from r); subst e; exact mixKind_int P w i t
  | inr x => obtain ⟨t, e⟩ := (show ∃ t, u = Value.str x t from r); subst e; exact mixKind_str P w x t
theorem items_are {P : Program} {w : World} : ∀ {ks : List Key} {us : List Value}, Vals (ks.map kV) us → ItemsAre (mixKind P w) ks us
  | [], _, r => by rw [List.map_nil] at r; cases r; exact .nil
  | k :: ks, _, r => by
    rw [List.map_cons] at r
    cases r with
    | cons h t => exact .cons (kV_is h) (items_are t)
/-- raw entries of a dict with tuple keys -/
abbrev KT (H : Hp) : List (List Key × V) → List (List Key × Addr × Value) → Prop := Paired fun p q => p.1 = q.1 ∧ H q.2.1 = some (.tup (p.1.map kV)) ∧ RelV p.2 q.2.2
theorem KT.keeps {H H' : Hp} {kvs : List (List Key × V)} {xs : List (List Key × Addr × Value)} (r : KT H kvs xs) (ht : ∀ b ys, H b = some (.tup ys) → H' b = some (.tup ys)) : KT H' kvs xs :=
  Paired.mapP r fun _ _ z => ⟨z.1, ht _ _ z.2.1, z.2.2⟩
section
variable {P : Program} {w : World} {H : Hp} {h : Heap} {a : Addr}
theorem rd_of {u : HO} (ok : HOk P w H h) (e : Rd H a u) : ObjOk P w H h a u := e.ok ok
theorem dk_rd {kvs : List (Key × V)} (ok : HOk P w H h) (e : Rd H a (.dK kvs)) : kvs.length ≤ sizeLine ∧ (a == sysModules) = false ∧ ∃ vs, KV kvs vs ∧ h.DictOf (mixKind P w) a vs :=
  show ObjOk P w H h a (.dK kvs) from rd_of ok e
/-- a tracked tuple of ints and texts is a key -/
theorem key_of {ks : List Key} (ok : HOk P w H h) (e : H a = some (.tup (ks.map kV))) : (tupleKind (mixKind P w)).is h ks a := by
  obtain ⟨_, its, r, o, h1, h2, n, h3⟩ := (show ObjOk P w H h a (.tup (ks.map kV)) from ok a _ e)
  exact ⟨o, its.toArray, n, h1, h2, h3, by simpa using items_are r⟩
theorem dt_rd {kvs : List (List Key × V)} (ok : HOk P w H h) (e : Rd H a (.dT kvs)) : kvs.length ≤ sizeLine ∧ (a == sysModules) = false ∧
    ∃ xs, KT H kvs xs ∧ h.DictOfH (tupleKind (mixKind P w)) a xs := by
  obtain ⟨z, y, xs, r, o, es, ep, h1, h2, h3, h4, h5⟩ := (show ObjOk P w H h a (.dT kvs) from rd_of ok e)
  refine ⟨z, y, xs, r, o, es, ep, h1, h2, h3, h4, fun x hx => ?_, h5⟩
  have all : ∀ {l : List (List Key × V)} {m : List (List Key × Addr × Value)}, KT H l m → ∀ x ∈ m, (tupleKind (mixKind P w)).is h x.1 x.2.1 := by
    intro l m q
    induction q with
    | nil => intro x hx; exact nomatch hx
    | @cons p q ps qs hq t ih =>
      intro x hx
      rcases List.mem_cons.mp hx with e | hx
      · subst e
        exact key_of ok (by rw [← hq.1]; exact hq.2.1)
      · exact ih x hx
  exact all r x hx
theorem dt_of {kvs : List (List Key × V)} (ok : HOk P w H h) (e : H a = some (.dT kvs)) : kvs.length ≤ sizeLine ∧ (a == sysModules) = false ∧
    ∃ xs, KT H kvs xs ∧ h.DictOfH (tupleKind (mixKind P w)) a xs := dt_rd ok (.inl e)
end
/-- what the dict at a holds at the key y -/
def DGet (H : Hp) (a : Addr) (y : V) (r : Option V) : Prop :=
  (∃ kvs k, Rd H a (.dK kvs) ∧ y = kV k ∧ r = valV kvs k) ∨ ∃ kvs k b, Rd H a (.dT kvs) ∧ y = .ref b ∧ H b = some (.tup (k.map kV)) ∧ r = valV kvs k
/-- the heap behind a[y] = v -/
def DPut (H : Hp) (a : Addr) (y v : V) (H' : Hp) : Prop :=
  (∃ kvs k, H a = some (.dK kvs) ∧ y = kV k ∧ kvs.length < sizeLine ∧ H' = upd H a (.dK (putK kvs k v))) ∨
  ∃ kvs k b, H a = some (.dT kvs) ∧ y = .ref b ∧ H b = some (.tup (k.map kV)) ∧ kvs.length < sizeLine ∧ H' = upd H a (.dT (putK kvs k v))
theorem DGet.k {H : Hp} {a : Addr} {kvs : List (Key × V)} {k : Key} (e : H a = some (.dK kvs)) : DGet H a (kV k) (valV kvs k) := .inl ⟨kvs, k, .inl e, rfl, rfl⟩
theorem DGet.t {H : Hp} {a b : Addr} {kvs : List (List Key × V)} {k : List Key} (e : H a = some (.dT kvs)) (eb : H b = some (.tup (k.map kV))) : DGet H a (.ref b) (valV kvs k) := .inr ⟨kvs, k, b, .inl e, rfl, eb, rfl⟩
theorem DPut.k {H : Hp} {a : Addr} {kvs : List (Key × V)} {k : Key} {v : V} (e : H a = some (.dK kvs)) (hl : kvs.length < sizeLine) : DPut H a (kV k) v (upd H a (.dK (putK kvs k v))) := .inl ⟨kvs, k, e, rfl, hl, rfl⟩
theorem DPut.t {H : Hp} {a b : Addr} {kvs : List (List Key × V)} {k : List Key} {v : V} (e : H a = some (.dT kvs)) (eb : H b = some (.tup (k.map kV))) (hl : kvs.length < sizeLine) :
    DPut H a (.ref b) v (upd H a (.dT (putK kvs k v))) := .inr ⟨kvs, k, b, e, rfl, eb, hl, rfl⟩
section
variable {X : Cx} {pins : List (Addr × Obj)} {σ : St} {H : Hp} {s : Shared} {a : Addr} {y v : V} {u r : Value} {o : Option V} {A : Around} {E : Value → Shared → Prop}
theorem Inv.big (I : Inv X pins σ H s) : sysModules < s.heap.objs.size := by
  have h : mainGlobals < s.heap.objs.size := (I.mod.glob.keeps I.bk).lt
  exact Nat.lt_trans (by decide) h
/-- a dict's object is replaced -/
theorem d_write {h' : Heap} {t' : Nat} {ob : HO} (I : Inv X pins σ H s) (mu : Mut (H a)) (hs : Heap.SameBut a s.heap h') (he : ∃ q, h'.get? a = some q) (new : ObjOk X.prog X.w (upd H a ob) h' a ob) :
    Inv X pins σ (upd H a ob) { s with heap := h', toks := t' } :=
  I.write (x := a) (e := a) mu (.inl rfl) (fun b q hb z => (hs.2 b hb).trans z) he new
end
section
variable {X : Cx} {pins : List (Addr × Obj)} {σ : St} {H : Hp} {s : Shared} {a : Addr} {kvs : List (Key × V)} {k : Key} {u : Value} {A : Around} {E : Value → Shared → Prop}
end
section
variable {X : Cx} {o i e value : Expr} {pos pos' tpos : Pos} {td ty tv : TE}
end
theorem dt_empty {P : Program} {w : World} {H : Hp} (h : Heap) (hb : sysModules < h.objs.size) : ObjOk P w H (h.push { cls := .type "dict", data := .dict #[] }) h.objs.size (.dT []) :=
  ⟨Nat.zero_le _, beq_eq_false_iff_ne.mpr (Ne.symm (Nat.ne_of_lt hb)), [], .nil, _, #[], 0, Heap.get?_push_size _ rfl, ⟨rfl, rfl, rfl⟩, rfl, rfl, List.nodup_nil⟩
section
variable {X : Cx} {pos : Pos}
end
/-! ### methods -/
/-- a method call o.m(e) of a built-in, with one argument: what must be seen of the text -/
structure M1 (X : Cx) (o : Expr) (m : Str) (apos : Pos) (e : Expr) (cpos : Pos) : Prop where
  base : attributeBase o m X.env (eval o X.env) = eval o X.env
  few : ((backTo cpos (starEach [e] X.env)).all (fun x => !x.1) && (backToKw cpos (keywordEach [] X.env)).all (fun x => x.1.isSome)
    && decide (([e] : List Expr).length + ([] : List Keyword).length + (if ([] : List Keyword).isEmpty then 0 else 1) < 30)) = true
  line : (apos.endLine == cpos.line) = true
  trees : backTo cpos (starEach [e] X.env) = [(false, eval e X.env)]
/-- a is a dict, whatever its keys -/
def IsD (H : Hp) (a : Addr) : Prop := (∃ kvs, Rd H a (.dK kvs)) ∨ ∃ kvs, Rd H a (.dT kvs)
theorem isD_at {X : Cx} {pins : List (Addr × Obj)} {σ : St} {H : Hp} {s : Shared} {a : Addr} (I : Inv X pins σ H s) (d : IsD H a) :
    s.TypeIs (.ref a) "dict" ∧ (∀ b, Value.ref a = .ref b → ∃ ob, s.heap.get? b = some ob ∧ ob.dict = none) ∧ (a == sysModules) = false := by
  rcases d with ⟨kvs, e⟩ | ⟨kvs, e⟩
  · obtain ⟨_, hd, vs, _, dd⟩ := dk_rd I.hok e
    refine ⟨dd.typeIs, fun b q => ?_, hd⟩
    cases q
    obtain ⟨ob, _, _, h1, h2, _⟩ := dd
    exact ⟨ob, h1, h2.2.1⟩
  · obtain ⟨_, hd, xs, _, dd⟩ := dt_rd I.hok e
    refine ⟨dd.typeIs, fun b q => ?_, hd⟩
    cases q
    obtain ⟨ob, _, _, h1, h2, _⟩ := dd
    exact ⟨ob, h1, h2.2.1⟩
section
variable {X : Cx} {pins : List (Addr × Obj)} {σ : St} {H : Hp} {s : Shared} {a : Addr} {y d : V} {u r : Value} {o : Option V} {A : Around} {E : Value → Shared → Prop}
end
section
variable {X : Cx} {o e f : Expr} {apos cpos : Pos} {td ty tx : TE}
end
/-! ### dict(d): a copy -/
section
variable {X : Cx} {pins : List (Addr × Obj)} {σ : St} {H : Hp} {s : Shared} {a : Addr} {kvs : List (Key × V)} {A : Around} {E : Value → Shared → Prop}
end
section
variable {X : Cx} {pins : List (Addr × Obj)} {σ : St} {H : Hp} {s : Shared} {a : Addr} {y : V} {u : Value} {A : Around} {E : Value → Shared → Prop}
end
end L2
namespace Att
open PySem PySem.W PySem.Calls PyProof.Rows
/-! ### the script -/
theorem ints_of_wellAll {P : Params} {h : Heap} : ∀ (ns : List Int) (vs : List Value), WellAll P h vs (ns.map WData.int) → IntsAre vs ns := by
  intro ns
  induction ns with
  | nil =>
    intro vs w
    rw [List.map_nil] at w
    cases w
    exact .nil
  | cons n ns ih =>
    intro vs w
    rw [List.map_cons] at w
    cases w with
    | cons a b =>
      cases a
      exact .cons _ _ (ih _ b)
theorem script_of {l : OpenLaw} {n : Nat} (hn : l.most = some n) {P : Params} {h : Heap} {args : List WData} {vals : List Value}
    (hpre : l.row.toRowW.claim.pre args = true) (hwl : WellAll P h vals args) :
    ∃ a vs ns, vals = [Value.ref a] ∧ args = [WData.list (ns.map WData.int)] ∧ h.get? a = some { cls := .type "list", data := .seq vs.toArray } ∧ IntsAre vs ns ∧ ns.length ≤ n := by
  have hsh : WShape.hasAll [] args [.list .int] = true := (pre_splitW hpre).1
  have hc : l.pre.holds [] { args := args } = true := (pre_splitW hpre).2
  obtain ⟨d, r, rfl, h1, h2⟩ := hasAllW_cons hsh
  obtain rfl := hasAllW_nil h2
  obtain ⟨xs, rfl, h3⟩ := hasW_list h1
  obtain ⟨ns, rfl⟩ := items_int h3
  have hlen : ns.length ≤ n := by
    unfold OpenLaw.pre at hc
    have h4 : (WTm.not (.lt (.lit (.int (n : Int))) (.len (.arg 0)))).holds [] { args := [.list (ns.map .int)] } = true := by
      have h4 := (holds_andW hc).1
      rw [hn] at h4
      exact h4
    have h5 := condW_of h4 (w_not (w_lt w_lit (w_len_list (w_arg rfl))))
    rw [List.length_map] at h5
    refine Nat.le_of_not_lt fun q => ?_
    have q' : (n : Int) < ((ns.length : Nat) : Int) := by omega
    first
      | (rw [decide_eq_true q'] at h5; exact absurd h5 (by decide))
      | (simp at h5; omega)
  cases hwl with
  | cons w1 w2 =>
    cases w2
    cases w1 with
    | list ho hall => exact ⟨_, _, ns, rfl, rfl, ho, ints_of_wellAll ns _ hall, hlen⟩
theorem post_true (l : OpenLaw) (args : List WData) : l.row.toRowW.claim.post args (.bool true) args = true :=
  postW_of (r := l.row.toRowW) (X := (true == true))
    (show WShape.has [] (.bool true) .bool = true by first | rfl | decide | simp [WShape.has, WShape.arms, WShape.armsAll])
    (show (WTm.eq .res (.lit (.bool true))).value [] { args := args, res := some (.bool true), after := args } = some (.bool (true == true)) from w_eq_bool (w_res rfl) w_lit) rfl
/-- the same from a codeAny of the CALL (for a layer whose function contracts speak of calls) -/
theorem attach_call {l : OpenLaw} {n : Nat} {q : Program} {loose : List Str} {XP : (Str → Option Value) → Heap → Prop} {YP : World → Heap → Prop} {d : DefRec}
    (hn : l.most = some n) (hdf : d.params.defaults = [])
    (call : ∀ (w : World) (s₀ s₁ : Shared) (mg mb : Str → Option Value) (fa : Addr) (o : Obj) (pm cd doc : Value) (a : Addr) (vs : List Value) (ns : List Int),
      Ground q loose [] XP w s₀ mg mb s₁.heap → YP w s₁.heap →
      s₁.heap.get? fa = some o → o.data = .func (docDef d.name d.params d.body d.scope pm cd doc) → s₁.heap.CodeRec cd d.name → mg d.name = some (.ref fa) →
      s₁.heap.get? a = some { cls := .type "list", data := .seq vs.toArray } → IntsAre vs ns → ns.length ≤ n → s₁.gens = #[] →
      codeAny (model l.prog w) callerA (.call (.ref fa) ⟨[.ref a], []⟩) (fun r s' => r = .ok (.ret (.bool true)) ∧ OldK s₁.heap s'.heap ∧ s'.os = s₁.os ∧ AllBare s'.gens) s₁) :
    WalkO q loose XP YP l.row.toRowW d [] (fun f vs => PySem.call f vs) := by
  intro w s₀ s₁ mg mb G Y fa o pm cd doc dV kV ho hd hcd hD hmg hg args vals as hpre hlay hrd hwl hlo
  obtain rfl : dV = .none := Dflts.none hD hdf
  obtain rfl : kV = .none := Dflts.noKw hD
  obtain ⟨a, vs, ns, rfl, rfl, hobj, hints, hlen⟩ := script_of hn hpre hwl
  refine enter_call (codeAny_mono (call w s₀ s₁ mg mb fa o pm cd doc a vs ns G Y ho (fd_plain hd) hcd hmg hobj hints hlen hg) fun r s' hq => ?_)
  obtain ⟨rfl, h2, h3, h4⟩ := hq
  exact ⟨.inl ⟨.bool true, .bool true, [], rfl, fun _ => rfl, .bool true, post_true l _, fun _ => ⟨List.Pairwise.nil, fun _ hm => (nomatch hm)⟩⟩, h2, h3, h4⟩
/-! ### rules over ANY heap (no ledger) from facts about the written part K: the library's own take a ledger (News) for what they write -/
section
variable {prog : Program} {w : World} {A : Around} {E : Value → Shared → Prop} {s : Shared} {K : Frag}
def ledger (h : Heap) (L d : Addr) : List (Addr × Obj) := (List.range h.objs.size).filterMap fun a => if a = L ∨ a = d then none else (h.get? a).map fun o => (a, o)
end
end Att
namespace L2
open PySem PySem.Spec PyProof.Rows
theorem vals_ints : ∀ {vs : List Value} {ns : List Int}, IntsAre vs ns → Vals (ns.map V.int) vs
  | _, _, .nil => .nil
  | _, _, .cons n t h => .cons ⟨t, rfl⟩ (vals_ints h)
/-- nothing is tracked but the script, known to the object (or it is an object of the module) -/
def Only (H : Hp) : Prop := ∀ b, H b = none ∨ ∃ o xs, H b = some (.frz o (.lst xs))
/-- THE HEAD: the law's promise, at the heap behind the top. F, the promise of the law's def, may use that base is part of the heap (so K.In base, base.Ns mainGlobals mg stand in Mod) -/
theorem law_call {P : Program} {w : World} {K : PySem.W.Frag} {mg mb : Str → Option Value} {CX : CXT} {k : Nat} {fa a : Addr} {fd : FuncData} {x : Str} {sp : Sp} {s₁ : Shared} {vs : List Value} {ns : List Int}
    (KX : K.In s₁.heap) (hns : s₁.heap.Ns mainGlobals mg) (hb : s₁.heap.Ns builtinsNs mb) (hbb : ∀ x : Str, x ≠ "__name__" → mb x = bootBuiltins x) (hlim : s₁.heap.NoLimit) (hg : s₁.gens = #[])
    (ha : s₁.heap.get? a = some { cls := .type "list", data := .seq vs.toArray }) (hi : IntsAre vs ns) (hl : ns.length ≤ sizeLine) (hr : Room k callerA)
    (F : ∀ base : Heap, K.In base → base.Ns mainGlobals mg → FnOk P w K mg base CX k fa fd [x] sp) (hbind : ∀ (s : Shared) (u : Value), BindsTo s fd ⟨[u], []⟩ [(x, u)])
    (hsp : ∀ H : Hp, Only H → SqL K H a (ns.map V.int) → sp [.ref a] H (fun v _ => v = .bl true) fun _ _ _ => False)
    (hCX : ∀ H e s', CX [] H s₁ (fun _ _ _ => False) e s' → False) :
    codeAny (model P w) callerA (.call (.ref fa) ⟨[.ref a], []⟩) (fun r s' => r = .ok (.ret (.bool true)) ∧ OldK s₁.heap s'.heap ∧ s'.os = s₁.os ∧ AllBare s'.gens) s₁ := by
  have rv := vals_ints hi
  have lenV := hi.length
  -- from an abstract heap in which nothing but the script may be tracked
  have core : ∀ H : Hp, Only H → SqL K H a (ns.map V.int) → HOk P w H s₁.heap → (∀ b, H b ≠ none → b = a) → (H a ≠ none → K.lookup a = none) →
      codeAny (model P w) callerA (.call (.ref fa) ⟨[.ref a], []⟩) (fun r s' => r = .ok (.ret (.bool true)) ∧ OldK s₁.heap s'.heap ∧ s'.os = s₁.os ∧ AllBare s'.gens) s₁ := by
    intro H hO hS hok hA hK
    have base_of : ∀ {b : Addr} {o : Obj}, s₁.heap.get? b = some o → H b = none → (hidT s₁.heap H).get? b = some o := fun e n => hidT_get e n
    have noA : ∀ {b : Addr} {o : Obj} {es : Array DictEntry} {ep : Nat}, s₁.heap.get? b = some o → o.data = .dict es ep → H b = none := fun {b o es ep} e d => by
      cases q : H b with
      | none => rfl
      | some u =>
        have e' : b = a := hA b (by rw [q]; simp)
        subst e'
        rw [ha] at e; cases e
        have d' : Data.seq vs.toArray _ = Data.dict es ep := d
        cases d'
    have nsK : ∀ {b : Addr} {m : Str → Option Value}, s₁.heap.Ns b m → (hidT s₁.heap H).Ns b m := fun {b m} ⟨o, es, ep, e, d, r⟩ => ⟨o, es, ep, base_of e (noA e d), d, r⟩
    have hKb : K.In (hidT s₁.heap H) := fun b o e => base_of (KX b o e) (by
      cases q : H b with
      | none => rfl
      | some u =>
        have e' : b = a := hA b (by rw [q]; simp)
        subst e'
        rw [hK (by rw [q]; simp)] at e; cases e)
    have hM : Mod K mg (hidT s₁.heap H) := ⟨hKb, nsK hns, ⟨mb, nsK hb, hbb⟩, let ⟨mc, h1, h2⟩ := hlim; ⟨mc, nsK h1, h2⟩⟩
    have e0 : Env0 P w K mg (hidT s₁.heap H) callerA [] s₁ H := ⟨rfl, hM, fun b o e => of_hidT e, Nat.le_of_eq (hidT_size _ _), trivial, fun b hb => absurd (show b ∈ ([] : List Addr) from hb) (by simp), hok, .of_eq hg⟩
    refine codeAny_mono ((F _ hKb (nsK hns)).run callerA [] s₁ H ⟨[.ref a], []⟩ [.ref a] [.ref a] _ _ hr e0 (hbind s₁ (.ref a)) (.cons rfl .nil) (hsp H hO hS)) fun r s' h => ?_
    cases r with
    | error e => exact (hCX H e s' h).elim
    | ok fl =>
      cases fl with
      | next => exact False.elim h
      | brk => exact False.elim h
      | cont => exact False.elim h
      | ret u =>
        obtain ⟨v, H', os, bare, un, hok', r', q⟩ := h
        have q' : v = .bl true := q
        subst q'
        obtain rfl : u = Value.bool true := r'
        refine ⟨rfl, OldK.of_keep fun b o e => ?_, os, bare⟩
        cases q : H b with
        | none => exact un.keep b o e q (by intro z; exact absurd (show b ∈ ([] : List Addr) from z) (by simp)) (by simp)
        | some u =>
          rcases hO b with z | ⟨ob, xs, z⟩
          · rw [q] at z; cases z
          · have z2 := un.frzs b ob _ z
            obtain ⟨e1, _⟩ := hok b _ z
            obtain ⟨e2, _⟩ := hok' b _ z2
            rw [e] at e1; cases e1
            exact e2
  cases hk : K.lookup a with
  | some o =>
    -- the script is one of the module's own objects
    have e := KX a o hk
    rw [ha] at e
    cases e
    refine core (fun _ => none) (fun _ => .inl rfl) (.inr ⟨_, vs.toArray, _, hk, rfl, rfl, rfl, by rw [List.size_toArray, lenV]; exact hl, by simpa using rv⟩) (fun b u z => by have z' : (none : Option HO) = some u := z; cases z') (fun b z => absurd rfl z) fun z => absurd rfl z
  | none =>
    refine core (fun b => if b = a then some (.frz { cls := .type "list", data := .seq vs.toArray } (.lst (ns.map V.int))) else none) (fun b => ?_) (.inl (.inr ⟨{ cls := .type "list", data := .seq vs.toArray }, if_pos rfl⟩)) (fun b u z => ?_) (fun b z => ?_) fun _ => hk
    · by_cases hb : b = a
      · exact .inr ⟨_, _, if_pos hb⟩
      · exact .inl (if_neg hb)
    · by_cases hb : b = a
      · have z' := (if_pos hb).symm.trans z
        cases z'
        subst hb
        exact ⟨ha, by rw [List.length_map]; exact hl, vs, _, rv, ha⟩
      · have z' := (if_neg hb).symm.trans z
        cases z'
    · by_cases hb : b = a
      · exact hb
      · exact absurd (if_neg hb) z
end L2
namespace L2
open PySem PySem.Spec PyProof.Rows
/-- the goal that k_head leaves (case hc), from the law's promise. F gives the function object fd (K's own) once, then the promise over every base -/
theorem walk_of {l : PySem.W.OpenLaw} {n k : Nat} {q : Program} {loose : List Str} {XP : (Str → Option Value) → Heap → Prop} {YP : World → Heap → Prop} {d : DefRec} {K : Params → PySem.W.Frag} {CX : World → CXT} {sp : World → Sp} {x : Str}
    (hn : l.most = some n) (hn2 : n ≤ sizeLine) (hdf : d.params.defaults = []) (hr : Room k callerA)
    (hY : ∀ (w : World) (h : Heap), YP w h → (K w.params).In h)
    (F : ∀ (w : World) (mg : Str → Option Value) (fa : Addr) (h : Heap), (K w.params).In h → h.Ns mainGlobals mg → mg d.name = some (.ref fa) →
      ∃ fd : FuncData, (∀ (s : Shared) (u : Value), BindsTo s fd ⟨[u], []⟩ [(x, u)]) ∧
        ∀ base : Heap, (K w.params).In base → base.Ns mainGlobals mg → FnOk l.prog w (K w.params) mg base (CX w) k fa fd [x] (sp w))
    (hsp : ∀ (w : World) (H : Hp) (a : Addr) (ns : List Int), ns.length ≤ n → Only H → SqL (K w.params) H a (ns.map V.int) → sp w [.ref a] H (fun v _ => v = .bl true) fun _ _ _ => False)
    (hCX : ∀ (w : World) (H : Hp) (s : Shared) (e : Value) (s' : Shared), CX w [] H s (fun _ _ _ => False) e s' → False) :
    PySem.W.WalkO q loose XP YP l.row.toRowW d [] (fun f vs => PySem.call f vs) := by
  refine Att.attach_call hn hdf fun w s₀ s₁ mg mb fa o pm cd doc a vs ns G Y ho hd hcd hmg hobj hints hlen hg => ?_
  have KX := hY w _ Y
  obtain ⟨fd, hb, hF⟩ := F w mg fa _ KX G.T.g hmg
  exact law_call KX G.T.g G.T.b G.T.builtins G.T.nolimit hg hobj hints (Nat.le_trans hlen hn2) hr hF hb (fun H hO hS => hsp w H a ns hlen hO hS) fun H e s' => hCX w H s₁ e s'
end L2
/-! SHORT WORDS over the layer: a def of the text, its body, what a loop and a test want. -/
namespace L2
open PySem PySem.Spec PyProof.Rows
/-! ### the text by places -/
/-- the j-th statement of a class's body -/
def inClass (s : Stmt) (j : Nat) : Stmt := match s with
  | .ClassDef _ _ _ body _ _ _ _ _ _ _ => body.getD j (.Pass ⟨0, 0, 0, 0⟩)
  | _ => .Pass ⟨0, 0, 0, 0⟩
def defArgs (s : Stmt) : Arguments := match s with
  | .FunctionDef _ a _ _ _ _ _ _ _ _ => a
  | _ => { posonlyargs := [], args := [], vararg := none, kwonlyargs := [], kw_defaults := [], kwarg := none, defaults := [] }
def defBody (s : Stmt) : List Stmt := match s with
  | .FunctionDef _ _ b _ _ _ _ _ _ _ => b
  | _ => []
def defScope (s : Stmt) : Scope := match s with
  | .FunctionDef _ _ _ _ _ _ sc _ _ _ => sc
  | _ => { kind := .function, names := [], isGenerator := false, isCoroutine := false }
/-! ### no exception leaves a def -/
abbrev CX0 : CXT := fun _ _ _ _ _ _ => False
/-! ### a def (or method) of the text as it stands behind the top -/
structure Fun (K : PySem.W.Frag) (x qual : Str) (st : Stmt) (f : Addr) (fd : FuncData) : Prop where
  ex : ∃ (oc : Value) (od : Option Addr) (kV doc pm : Value) (an : Option Addr) (cdv ct : Value) (osl : Array (Option Value)),
    fd = PySem.W.fnOf x qual (defArgs st) (defBody st) (defScope st) .none kV doc pm an cdv ct ∧ K.lookup f = some ⟨oc, od, .func fd, osl⟩ ∧ PySem.W.codeIn K cdv qual = true
  kp : PySem.W.keepIn K (.ref f) = true
section
variable {P : Program} {w : World} {K : PySem.W.Frag} {mg : Str → Option Value} {base : Heap}
/-- THE RULE for a def: its body as a term of rules, and the reading of that term -/
theorem Fun.ok {x qual : Str} {st : Stmt} {f : Addr} {fd : FuncData} {N ps : List Str} {k : Nat} {sp : Sp} (F : Fun K x qual st f fd) (S : FnScope N ps (defScope st)) (len : ∀ vs H Q E, sp vs H Q E → vs.length = ps.length)
    (hbody : ∀ (cdv : Value) (A : Around) (outer : List Env) (s : Shared) (H : Hp) (vs : List V) (Q : VK) (E : XK), Room k (A.deeper (envOfC qual (defScope st) s.heap.objs.size f cdv)) → sp vs H Q E →
      ∃ t, PSs (cxOf CX0 P w K mg base N qual (defScope st) f cdv A outer s H E).nox (defBody st) t ∧ t { nx := fun _ H' => Q .non H', rt := Q } (start N vs) H) : FnOk P w K mg base CX0 (k + 1) f fd ps sp := by
  obtain ⟨oc, od, kV, doc, pm, an, cdv, ct, osl, rfl, lk, hcd⟩ := F.ex
  refine fn_of lk hcd S len fun A outer s H vs Q E hr hsp => ?_
  obtain ⟨t, h, q⟩ := hbody cdv A outer s H vs Q E hr hsp
  exact ⟨t, h.nox, q⟩
/-- how its arguments bind (no defaults): h is «fun _ _ _ _ _ _ us hl => match us, hl with | [_, _], _ => rfl», one _ a parameter -/
theorem Fun.binds {x qual : Str} {st : Stmt} {f : Addr} {fd : FuncData} {ps : List Str} (F : Fun K x qual st f fd)
    (h : ∀ (kV doc pm : Value) (an : Option Addr) (cdv ct : Value) (us : List Value), us.length = ps.length → bindArgs (PySem.W.fnOf x qual (defArgs st) (defBody st) (defScope st) .none kV doc pm an cdv ct) ⟨us, []⟩ = pure (ps.zip us)) : Binds K fd ps [] := by
  obtain ⟨oc, od, kV, doc, pm, an, cdv, ct, osl, rfl, lk, hcd⟩ := F.ex
  exact .all (h kV doc pm an cdv ct)
theorem fun_mk {x qual : Str} {st : Stmt} {f : Addr} {oc : Value} {od an : Option Addr} {osl : Array (Option Value)} {kV doc pm cdv ct : Value} (l : K.lookup f = some ⟨oc, od, .func (PySem.W.fnOf x qual (defArgs st) (defBody st) (defScope st) .none kV doc pm an cdv ct), osl⟩)
    (c : PySem.W.codeIn K cdv qual = true) (k : PySem.W.keepIn K (.ref f) = true) : Fun K x qual st f (PySem.W.fnOf x qual (defArgs st) (defBody st) (defScope st) .none kV doc pm an cdv ct) := ⟨⟨oc, od, kV, doc, pm, an, cdv, ct, osl, rfl, l, c⟩, k⟩
end
theorem hu_of {A : Around} {k : Nat} (hr : Room k A) : A.units + 1 < cLine := Nat.lt_of_le_of_lt (Nat.add_le_add_left (by decide : 1 ≤ 64) _) hr.units
/-! ### expressions in short: the name that stands in the i-th slot -/
section
variable {X : Cx}
end
/-! ### tests -/
theorem iteF {A B : Prop} (h : B) : if false = true then A else B := by
  rw [if_neg Bool.false_ne_true]
  exact h
theorem iteT {A B : Prop} (h : A) : if true = true then A else B := by
  rw [if_pos rfl]
  exact h
theorem ite2 {c A B : Prop} [Decidable c] (h1 : c → A) (h2 : ¬ c → B) : if c then A else B := by
  by_cases h : c
  · rw [if_pos h]
    exact h1 h
  · rw [if_neg h]
    exact h2 h
/-! ### heaps -/
/-- all that was tracked is as it was -/
def Same (H H' : Hp) : Prop := ∀ b o, H b = some o → H' b = some o
theorem Same.trans {H H1 H2 : Hp} (a : Same H H1) (b : Same H1 H2) : Same H H2 := fun c o h => b c o (a c o h)
theorem Same.free {H H' : Hp} (e : Same H H') {l : Addr} (h : H' l = Option.none) : H l = Option.none := by
  cases q : H l with
  | none => rfl
  | some o =>
    rw [e l o q] at h
    cases h
theorem Same.seq {K : PySem.W.Frag} {H H' : Hp} {a : Addr} {xs : List V} (e : Same H H') (h : SqL K H a xs) : SqL K H' a xs := by
  rcases h with (h | ⟨o, h⟩) | h
  · exact .inl (.inl (e _ _ h))
  · exact .inl (.inr ⟨o, e _ _ h⟩)
  · exact .inr h
/-! ### a dict's pairs: keys that differ -/
section
variable {κ : Type} [DecidableEq κ]
end
end L2
set_option maxHeartbeats 4000000
/-! MY OWN LAYER over the hand layer: exceptions, packed promises -/
namespace L2
open PySem PySem.Spec PyProof.Rows

/-- an exception of class cls flies, its record at ea, over the frames l; B: all that stays whatever it passes -/
structure Fly (B : Heap) (l : List Env) (h : Heap) (H H' : Hp) (h' : Heap) (ea : Addr) (cls : Value) : Prop where
  fl : ∃ a0, Heap.FlyingW B l ea cls a0 h'
  trk : ∀ b u, H' b = some u → ∃ o, B.get? b = some o
  kept : ∀ b o, h.get? b = some o → H b = none → b ∉ frs l → B.get? b = some o
  alive : ∀ b o, h.get? b = some o → b ∉ frs l → ∃ o', B.get? b = some o'
/-- how an exception lies behind a call -/
def CXe (P : Program) (w : World) : CXT := fun outer H s E e s' => ∃ ea cls H' B, e = .ref ea ∧ s'.os = s.os ∧ AllBare s'.gens ∧ Un (frs outer) [] H H' s.heap s'.heap ∧ HOk P w H' s'.heap ∧ Fly B outer s.heap H H' s'.heap ea cls ∧ E cls none H'
/-- what a context wants of exceptions, in abstract words: class, frame, heap -/
abbrev XKs := Value → St → Hp → Prop
def XW (X : Cx) (K : XKs) : Prop := ∀ (pins : List (Addr × Obj)) (σ : St) (H : Hp) (s s' : Shared) (ea : Addr) (cls : Value) (H' : Hp) (B : Heap), Inv X pins σ H s → s'.os = s.os → AllBare s'.gens →
  Un (frs X.stack) [] H H' s.heap s'.heap → HOk X.prog X.w H' s'.heap → Fly B X.stack s.heap H H' s'.heap ea cls → K cls σ H' → X.xe (.ref ea) s'

theorem frs_cons {env : Env} {l : List Env} {L : Addr} (h : env.frame = some L) : frs (env :: l) = L :: frs l := by
  unfold frs; rw [List.filterMap_cons, h]

/-- tracked things stay where all that B holds stays -/
theorem HOk.flown {P : Program} {w : World} {H : Hp} {B h h' : Heap} (x : HOk P w H h) (t : ∀ b u, H b = some u → ∃ o, B.get? b = some o) (s : B.StaysIn h) (s' : B.StaysIn h') : HOk P w H h' := fun a o e =>
  (x a o e).stay (fun b u hb q => by
    have hB : ∃ o, B.get? b = some o := by
      rcases hb with rfl | hb
      · exact t _ _ e
      · exact t _ _ hb
    obtain ⟨o', ho⟩ := hB
    have e1 := s b o' ho
    rw [q] at e1; cases e1
    exact s' b _ ho) (fun _ q => q) fun _ _ q => q

/-- the wish of a def's body -/
theorem xw_def {P : Program} {w : World} {K : PySem.W.Frag} {mg : Str → Option Value} {base : Heap} {N : List Str} {qual : Str} {scope : Scope} {f : Addr} {cd : Value} {A : Around} {outer : List Env} {s0 : Shared} {H0 : Hp} {E : XK} :
    XW (cxOf (CXe P w) P w K mg base N qual scope f cd A outer s0 H0 E) (fun c _ H' => E c none H') := by
  intro pins σ H s s' ea cls H' B I os bare un hok fly hK
  have I' := I.call' (s' := s') (ch := []) os un hok bare (fun b z => absurd z (by simp))
  have hfr := I.ok.frames
  have hstk : (cxOf (CXe P w) P w K mg base N qual scope f cd A outer s0 H0 E).stack = envOfC qual scope s0.heap.objs.size f cd :: outer := rfl
  rw [hstk] at hfr
  obtain ⟨a0, hfl⟩ := fly.fl
  have hf : (envOfC qual scope s0.heap.objs.size f cd).frame = some s0.heap.objs.size := rfl
  show wpAny _ _ (leaving (envOfC qual scope s0.heap.objs.size f cd) (.ref ea)) _ _ s'
  refine wpAny_leaves_onW hfr hf hfl fun h' fl' up => ?_
  have hfs : frs (envOfC qual scope s0.heap.objs.size f cd :: outer) = s0.heap.objs.size :: frs outer := frs_cons hf
  have nf : ∀ b o, s0.heap.get? b = some o → b ∉ frs outer → b ∉ frs (envOfC qual scope s0.heap.objs.size f cd :: outer) := fun b o e n z => by
    rw [hfs] at z
    rcases List.mem_cons.mp z with z | z
    · exact absurd (Heap.lt_size e) (by rw [z]; exact Nat.lt_irrefl _)
    · exact n z
  have stay : ∀ b o, s0.heap.get? b = some o → H0 b = none → b ∉ frs outer → B.get? b = some o := fun b o e n hb =>
    fly.kept b o (I.base.keep b o e n hb (by intro z; exact absurd z (by simp [cxOf]))) (I.base.free b o e n (by intro z; exact absurd z (by simp [cxOf]))) (nf b o e hb)
  have live : ∀ b o, s0.heap.get? b = some o → b ∉ frs outer → ∃ o', B.get? b = some o' := fun b o e hb => by
    obtain ⟨o1, e1⟩ := I.base.there b o e (by intro z; exact absurd z (by simp [cxOf]))
    exact fly.alive b o1 e1 (nf b o e hb)
  refine ⟨ea, cls, H', B, rfl, I'.os, bare, ?_, hok.flown fly.trk hfl.1 fl'.1, ⟨⟨a0, fl'⟩, fly.trk, stay, live⟩, hK⟩
  have noA : ∀ b : Addr, b ∉ (cxOf (CXe P w) P w K mg base N qual scope f cd A outer s0 H0 E).ex := fun b z => absurd z (by simp [cxOf])
  have slotOf : ∀ b, b ∈ frs outer → ∀ o, s'.heap.get? b = some o → ∃ sl, h'.get? b = some { o with slots := sl } := fun b hb o e => by
    have hm : b ∈ frs (envOfC qual scope s0.heap.objs.size f cd :: outer) := by rw [hfs]; exact List.mem_cons_of_mem _ hb
    obtain ⟨_, o', ho', hd⟩ := hfl.2.2.1.mem hm
    rw [e] at ho'; cases ho'
    exact up b o e hd
  refine ⟨fun b o e n hb _ => fl'.1 b o (stay b o e n hb), fun b o e n hb _ => ?_, fun b o e n _ => I'.base.free b o e n (noA b), fun b o e _ => ?_, I'.base.tups, I'.base.frzs, I'.base.tbls⟩
  · obtain ⟨sl, e1⟩ := I'.base.slot b o e n hb (noA b)
    obtain ⟨sl', e2⟩ := slotOf b hb _ e1
    exact ⟨sl', e2⟩
  · by_cases hb : b ∈ frs outer
    · obtain ⟨o1, e1⟩ := I'.base.there b o e (noA b)
      obtain ⟨sl, e2⟩ := slotOf b hb _ e1
      exact ⟨_, e2⟩
    · obtain ⟨o1, e1⟩ := live b o e hb
      exact ⟨o1, fl'.1 b o1 e1⟩

/-! ### packed promises -/
/-- a def of the module: bound to x, its promise -/
def Have (P : Program) (w : World) (K : PySem.W.Frag) (mg : Str → Option Value) (base : Heap) (x : Str) (k : Nat) (ps : List Str) (dvs : List V) (sp : Sp) : Prop :=
  ∃ f fd ds, mg x = some (.ref f) ∧ PySem.W.keepIn K (.ref f) = true ∧ Binds K fd ps ds ∧ Vals dvs ds ∧ FnOk P w K mg base (CXe P w) k f fd ps sp
/-- a method -/
def HaveM (P : Program) (w : World) (K : PySem.W.Frag) (mg : Str → Option Value) (base : Heap) (C : Addr) (m : Str) (k : Nat) (ps : List Str) (dvs : List V) (sp : Sp) : Prop :=
  ∃ f fd ds, Meth K C m f ∧ Binds K fd ps ds ∧ Vals dvs ds ∧ FnOk P w K mg base (CXe P w) k f fd ps sp
/-- __init__ of the class at C, bound to x -/
def HaveI (P : Program) (w : World) (K : PySem.W.Frag) (mg : Str → Option Value) (base : Heap) (x : Str) (C : Addr) (k : Nat) (ps : List Str) (dvs : List V) (sp : Sp) : Prop :=
  ∃ f fd ds, mg x = some (.ref C) ∧ Mk K C f ∧ Binds K fd ps ds ∧ Vals dvs ds ∧ FnOk P w K mg base (CXe P w) k f fd ps sp
def tCallE (Kx : XKs) (sp : Sp) (dvs : List V) (t : TA) : TE := fun σ H Q => t σ H fun vs H1 => sp (vs ++ dvs) H1 Q (fun c _ H' => Kx c σ H')
def tMethE (Kx : XKs) (C : Addr) (m : Str) (sp : Sp) (dvs : List V) (ta : TE) (t : TA) : TE := fun σ H Q => ta σ H fun x H1 => ∃ a dx fs, x = .ref a ∧ H1 a = some (.ins C dx fs) ∧ fs.lookup m = none ∧
  t σ H1 fun vs H2 => sp (x :: (vs ++ dvs)) H2 Q (fun c _ H' => Kx c σ H')
def tMakeE (Kx : XKs) (C : Addr) (sp : Sp) (dvs : List V) (t : TA) : TE := fun σ H Q => t σ H fun vs H1 => ∀ x dx, H1 x = none → H1 dx = none → dx ≠ x →
  sp (.ref x :: (vs ++ dvs)) (upd (upd H1 dx (.own x)) x (.ins C dx [])) (fun v H2 => v = .non ∧ Q (.ref x) H2) (fun c _ H' => Kx c σ H')
section
variable {X : Cx} {Kx : XKs} {k : Nat} {f C : Addr} {fd : FuncData} {ps : List Str} {sp : Sp} {dvs : List V} {ds : List Value} {x m : Str} {p pos apos : Pos} {e o : Expr} {es : List Expr} {ta : TE} {t : TA}
theorem run_fnE {pins : List (Addr × Obj)} {σ : St} {H : Hp} {s : Shared} {Q : VK} {us : List Value} {vs : List V} (F : FnOk X.prog X.w X.K X.mg X.base (CXe X.prog X.w) k f fd ps sp) (hr : Room k X.A) (hb : Binds X.K fd ps ds) (hd : Vals dvs ds) (hx : XW X Kx)
    (I : Inv X pins σ H s) (r : Vals vs us) (h : sp (vs ++ dvs) H Q (fun c _ H' => Kx c σ H')) : wpAny (model X.prog X.w) X.A (call (.ref f) us) (EP X pins σ Q) X.xe s := by
  have r2 : Vals (vs ++ dvs) (us ++ ds) := r.append hd
  have hl : (us ++ ds).length = ps.length := by rw [← r2.length]; exact F.len _ _ _ _ h
  refine wpAny_call (codeAny_mono (F.run X.A X.stack s H ⟨us, []⟩ (us ++ ds) (vs ++ dvs) Q _ hr I.env0 (hb s us I.kIn hl) r2 h) fun r s' hq => ?_)
  cases r with
  | error e =>
    obtain ⟨ea, cls, H', B, rfl, os, bare, un, hok, fly, hK⟩ := hq
    exact hx pins σ H s s' ea cls H' B I os bare un hok fly hK
  | ok fl =>
    cases fl with
    | ret u => exact I.after hq
    | next => exact False.elim hq
    | brk => exact False.elim hq
    | cont => exact False.elim hq
theorem pe_callE (F : Have X.prog X.w X.K X.mg X.base x k ps dvs sp) (hr : Room k X.A) (hx : XW X Kx) (ha : PA X (e :: es) t) (hg : Gl X x := by rfl) (hdb : (x == ("__debug__" : Str)) = false := by decide)
    (he : starEach (e :: es) X.env = (false, eval e X.env) :: starEach es X.env := by rfl) (hpl : (backTo pos (starEach es X.env)).any (·.1) = false := by rfl) :
    PE X (.Call (.Name x p) (e :: es) [] pos) (tCallE Kx sp dvs t) := by
  obtain ⟨f, fd, ds, hm, hk, hb, hd, F⟩ := F
  intro pins s σ H Q I h
  refine wpAny_Call_Name_kw (ld_glob I hg hm ?_ hdb)
  refine PySem.W.callWith_K (h₀ := X.base) I.ok.mod.kin hk (thn (ha pos pins s σ H _ I h) fun us s1 ⟨vs, H1, I1, r, q⟩ => ⟨I1.kIn, ?_⟩) he hpl
  exact run_fnE F hr hb hd hx I1 r q
theorem pe_methE {pl : Sem Bool} (ho : PE X o ta) (c : Cls X.K C) (F : HaveM X.prog X.w X.K X.mg X.base C m k ps dvs sp) (hr : Room k X.A) (hx : XW X Kx) (ha : PA X (e :: es) t)
    (hst : starEach (e :: es) X.env = (false, eval e X.env) :: starEach es X.env := by rfl) (hpl : (backTo pos (starEach es X.env)).any (·.1) = false := by rfl)
    (ht : eval (.Call (.Attribute o m apos) (e :: es) [] pos) X.env = (do
      let ov ← eval o X.env
      standAt apos.atName
      let (f, first) ← holding [ov] (getMethod ov m pl)
      callWith pos f first (backTo pos (starEach (e :: es) X.env)) (backToKw pos (keywordEach [] X.env))) := by rfl) :
    PE X (.Call (.Attribute o m apos) (e :: es) [] pos) (tMethE Kx C m sp dvs ta t) := by
  obtain ⟨f, fd, ds, hm, hb, hd, F⟩ := F
  intro pins s σ H Q I h
  refine PySem.W.methodCall_KW (pl := pl) (thn (ho pins s σ H _ I h) fun u s1 ⟨x, H1, I1, rx, a, dx, fs, ex, ea, l, q⟩ => ?_) ht
  subst ex
  obtain rfl : u = Value.ref a := rx
  refine getmeth_ok I1 ea c hm l ?_
  refine PySem.W.callWith_K (first := [.ref a]) (h₀ := X.base) I.ok.mod.kin hm.kp (thn (ha pos pins s1 σ H1 _ I1 q) fun us s2 ⟨vs, H2, I2, r, q2⟩ => ⟨I2.kIn, ?_⟩) hst hpl
  exact run_fnE (us := .ref a :: us) (vs := .ref a :: vs) F hr hb hd hx I2 (.cons rfl r) q2
theorem pe_methE0 {pl : Sem Bool} (ho : PE X o ta) (c : Cls X.K C) (F : HaveM X.prog X.w X.K X.mg X.base C m k ps dvs sp) (hr : Room k X.A) (hx : XW X Kx)
    (ht : eval (.Call (.Attribute o m apos) [] [] pos) X.env = (do
      let ov ← eval o X.env
      standAt apos.atName
      let (f, first) ← holding [ov] (getMethod ov m pl)
      callWith pos f first (backTo pos (starEach [] X.env)) (backToKw pos (keywordEach [] X.env))) := by rfl) :
    PE X (.Call (.Attribute o m apos) [] [] pos) (tMethE Kx C m sp dvs ta tNil) := by
  obtain ⟨f, fd, ds, hm, hb, hd, F⟩ := F
  intro pins s σ H Q I h
  refine PySem.W.methodCall_KW (pl := pl) (thn (ho pins s σ H _ I h) fun u s1 ⟨x, H1, I1, rx, a, dx, fs, ex, ea, l, q⟩ => ?_) ht
  subst ex
  obtain rfl : u = Value.ref a := rx
  refine getmeth_ok I1 ea c hm l ?_
  exact PySem.W.callWith_K0 (first := [.ref a]) I1.kIn hm.kp (run_fnE (us := [.ref a]) (vs := [.ref a]) F hr hb hd hx I1 (.cons rfl .nil) q)
theorem run_makeE {pins : List (Addr × Obj)} {σ : St} {H : Hp} {s : Shared} {Q : VK} {us : List Value} {vs : List V} (M : Mk X.K C f) (F : FnOk X.prog X.w X.K X.mg X.base (CXe X.prog X.w) k f fd ps sp) (hr : Room (k + 1) X.A) (hb : Binds X.K fd ps ds) (hd : Vals dvs ds)
    (hx : XW X Kx) (I : Inv X pins σ H s) (r : Vals vs us)
    (h : ∀ x dx, H x = none → H dx = none → dx ≠ x → sp (.ref x :: (vs ++ dvs)) (upd (upd H dx (.own x)) x (.ins C dx [])) (fun v H2 => v = .non ∧ Q (.ref x) H2) (fun c _ H' => Kx c σ H')) :
    wpAny (model X.prog X.w) X.A (call (.ref C) us) (EP X pins σ Q) X.xe s := by
  have hq := h (s.heap.objs.size + 1) s.heap.objs.size (I.hok.fresh (Nat.le_succ _)) (I.hok.fresh (Nat.le_refl _)) (Nat.ne_of_lt (Nat.lt_succ_self _))
  have I2 := Inv.made (C := C) I
  have r2 : Vals (V.ref (s.heap.objs.size + 1) :: (vs ++ dvs)) (Value.ref (s.heap.objs.size + 1) :: (us ++ ds)) := .cons rfl (r.append hd)
  have hl : (Value.ref (s.heap.objs.size + 1) :: us ++ ds).length = ps.length := by
    have e := r2.length
    rw [F.len _ _ _ _ hq] at e
    exact e.symm
  refine wpAny_call (make_map (f := f) I.kIn M.makes M.init (beq_iff_eq.mp M.fn) (codeAny_mono (F.run _ X.stack _ _ ⟨Value.ref (s.heap.objs.size + 1) :: us, []⟩ (Value.ref (s.heap.objs.size + 1) :: (us ++ ds)) _ _ _ (hr.make C us [])
    (I2.env0.make C us []) (hb _ (Value.ref (s.heap.objs.size + 1) :: us) I2.kIn hl) r2 hq) fun r s' hq' => ?_))
  cases r with
  | error e =>
    obtain ⟨ea, cls, H', B, rfl, os, bare, un, hok, fly, hK⟩ := hq'
    exact hx pins σ _ _ s' ea cls H' B I2 os bare un hok fly hK
  | ok fl =>
    cases fl with
    | ret u =>
      obtain ⟨v, H', I3, rv, ev, q3⟩ := I2.after hq'
      subst ev
      exact ⟨rv, ⟨V.ref (s.heap.objs.size + 1), H', I3, rfl, q3⟩⟩
    | next => exact False.elim hq'
    | brk => exact False.elim hq'
    | cont => exact False.elim hq'
theorem pe_makeE (F : HaveI X.prog X.w X.K X.mg X.base x C k ps dvs sp) (hr : Room (k + 1) X.A) (hx : XW X Kx) (ha : PA X (e :: es) t) (hg : Gl X x := by rfl) (hdb : (x == ("__debug__" : Str)) = false := by decide)
    (he : starEach (e :: es) X.env = (false, eval e X.env) :: starEach es X.env := by rfl) (hpl : (backTo pos (starEach es X.env)).any (·.1) = false := by rfl) :
    PE X (.Call (.Name x p) (e :: es) [] pos) (tMakeE Kx C sp dvs t) := by
  obtain ⟨f, fd, ds, hm, M, hb, hd, F⟩ := F
  intro pins s σ H Q I h
  refine wpAny_Call_Name_kw (ld_glob I hg hm ?_ hdb)
  refine PySem.W.callWith_K (h₀ := X.base) I.ok.mod.kin M.kp (thn (ha pos pins s σ H _ I h) fun us s1 ⟨vs, H1, I1, r, q⟩ => ⟨I1.kIn, ?_⟩) he hpl
  exact run_makeE M F hr hb hd hx I1 r q
theorem pe_bltnE {n : String} (hg : Gl X x) (hm : X.mg x = none) (hv : bootBuiltins x = some (.type n)) (hn : x ≠ "__name__" := by decide) (hd : (x == ("__debug__" : Str)) = false := by decide) : PE X (.Name x pos) (tC (.ty n)) := pe_bltn hg hm hv rfl hn hd
end
/-! ### a def by its body -/
/-- a def (or method) of the text -/
def Raw (K : PySem.W.Frag) (mg : Str → Option Value) (x qual : Str) (st : Stmt) (ps : List Str) (dvs : List V) : Prop := ∃ f fd ds, mg x = some (.ref f) ∧ Fun K x qual st f fd ∧ Binds K fd ps ds ∧ Vals dvs ds
def RawM (K : PySem.W.Frag) (C : Addr) (m qual : Str) (st : Stmt) (ps : List Str) (dvs : List V) : Prop := ∃ f fd ds, Meth K C m f ∧ Fun K m qual st f fd ∧ Binds K fd ps ds ∧ Vals dvs ds
def RawI (K : PySem.W.Frag) (mg : Str → Option Value) (x : Str) (C : Addr) (qual : Str) (st : Stmt) (ps : List Str) (dvs : List V) : Prop := ∃ f fd ds, mg x = some (.ref C) ∧ Mk K C f ∧ Fun K "__init__" qual st f fd ∧ Binds K fd ps ds ∧ Vals dvs ds
section
variable {P : Program} {w : World} {K : PySem.W.Frag} {mg : Str → Option Value} {base : Heap}
/-- the body's duty -/
def Body (P : Program) (w : World) (K : PySem.W.Frag) (mg : Str → Option Value) (base : Heap) (qual : Str) (st : Stmt) (N : List Str) (k : Nat) (sp : Sp) : Prop :=
  ∀ (f : Addr) (cdv : Value) (A : Around) (outer : List Env) (s : Shared) (H : Hp) (vs : List V) (Q : VK) (E : XK), Room k (A.deeper (envOfC qual (defScope st) s.heap.objs.size f cdv)) → sp vs H Q E →
    ∃ t, PSs (cxOf (CXe P w) P w K mg base N qual (defScope st) f cdv A outer s H E) (defBody st) t ∧ t { nx := fun _ H' => Q .non H', rt := Q } (start N vs) H
theorem Fun.okE {x qual : Str} {st : Stmt} {f : Addr} {fd : FuncData} {N ps : List Str} {k : Nat} {sp : Sp} (F : Fun K x qual st f fd) (S : FnScope N ps (defScope st)) (len : ∀ vs H Q E, sp vs H Q E → vs.length = ps.length)
    (hbody : Body P w K mg base qual st N k sp) : FnOk P w K mg base (CXe P w) (k + 1) f fd ps sp := by
  obtain ⟨oc, od, kV, doc, pm, an, cdv, ct, osl, rfl, lk, hcd⟩ := F.ex
  exact fn_of lk hcd S len fun A outer s H vs Q E hr hsp => hbody f cdv A outer s H vs Q E hr hsp
theorem Raw.have {x qual : Str} {st : Stmt} {N ps : List Str} {dvs : List V} {k : Nat} {sp : Sp} (R : Raw K mg x qual st ps dvs) (S : FnScope N ps (defScope st)) (len : ∀ vs H Q E, sp vs H Q E → vs.length = ps.length)
    (hbody : Body P w K mg base qual st N k sp) : Have P w K mg base x (k + 1) ps dvs sp :=
  let ⟨f, fd, ds, hm, F, hb, hd⟩ := R
  ⟨f, fd, ds, hm, F.kp, hb, hd, F.okE S len hbody⟩
theorem RawM.have {C : Addr} {m qual : Str} {st : Stmt} {N ps : List Str} {dvs : List V} {k : Nat} {sp : Sp} (R : RawM K C m qual st ps dvs) (S : FnScope N ps (defScope st)) (len : ∀ vs H Q E, sp vs H Q E → vs.length = ps.length)
    (hbody : Body P w K mg base qual st N k sp) : HaveM P w K mg base C m (k + 1) ps dvs sp :=
  let ⟨f, fd, ds, hm, F, hb, hd⟩ := R
  ⟨f, fd, ds, hm, hb, hd, F.okE S len hbody⟩
theorem RawI.have {C : Addr} {x qual : Str} {st : Stmt} {N ps : List Str} {dvs : List V} {k : Nat} {sp : Sp} (R : RawI K mg x C qual st ps dvs) (S : FnScope N ps (defScope st)) (len : ∀ vs H Q E, sp vs H Q E → vs.length = ps.length)
    (hbody : Body P w K mg base qual st N k sp) : HaveI P w K mg base x C (k + 1) ps dvs sp :=
  let ⟨f, fd, ds, hm, M, F, hb, hd⟩ := R
  ⟨f, fd, ds, hm, M, hb, hd, F.okE S len hbody⟩
end
end L2
/-! ### exceptions: raised, caught -/
namespace L2
open PySem PySem.Spec PyProof.Rows

/-- the wish at a raise -/
def XR (X : Cx) (K : XKs) : Prop := ∀ (pins : List (Addr × Obj)) (σ : St) (H : Hp) (s : Shared) (h' : Heap) (e : Addr) (cls : Value) (args : List Value), Inv X pins σ H s → Heap.MadeExcOf s.heap h' e cls args → K cls σ H → X.xe (.ref e) { s with heap := h' }

theorem HOk.alive {P : Program} {w : World} {H : Hp} {h : Heap} (x : HOk P w H h) {b : Addr} {u : HO} (e : H b = some u) : ∃ o, h.get? b = some o := by
  have q := x b u e
  cases u with
  | lst xs => obtain ⟨_, _, _, _, e⟩ := q; exact ⟨_, e⟩
  | tup xs => obtain ⟨_, _, _, ⟨o, e, _⟩⟩ := q; exact ⟨_, e⟩
  | dK kvs => obtain ⟨_, _, _, _, o, _, _, e, _⟩ := q; exact ⟨_, e⟩
  | dT kvs => obtain ⟨_, _, _, _, o, _, _, e, _⟩ := q; exact ⟨_, e⟩
  | set S n => obtain ⟨o, _, _, _, e, _⟩ := q; exact ⟨_, e⟩
  | ins C dx fs => obtain ⟨_, _, _, e, _⟩ := q; exact ⟨_, e⟩
  | own y => exact q
  | xd fs => obtain ⟨_, ⟨_, _, _, e, _⟩, _⟩ := q; exact ⟨_, e⟩
  | rng lo hi => obtain ⟨_, _, _, e⟩ := q; exact ⟨_, e⟩
  | frz ob u => obtain ⟨e, _⟩ := q; exact ⟨_, e⟩
  | tbl ps => exact ⟨_, q⟩
  | met f y => exact ⟨_, q⟩
  | ext φ => obtain ⟨_, e, _⟩ := q; exact e

theorem xr_def {P : Program} {w : World} {K : PySem.W.Frag} {mg : Str → Option Value} {base : Heap} {N : List Str} {qual : Str} {scope : Scope} {f : Addr} {cd : Value} {A : Around} {outer : List Env} {s0 : Shared} {H0 : Hp} {E : XK} :
    XR (cxOf (CXe P w) P w K mg base N qual scope f cd A outer s0 H0 E) (fun c _ H' => E c none H') := by
  intro pins σ H s h1 ea cls args I mk hK
  have hfr := I.ok.frames
  have hstk : (cxOf (CXe P w) P w K mg base N qual scope f cd A outer s0 H0 E).stack = envOfC qual scope s0.heap.objs.size f cd :: outer := rfl
  have hfun := I.stack
  have hfree := I.stkFree
  rw [hstk] at hfr hfun hfree
  have hf : (envOfC qual scope s0.heap.objs.size f cd).frame = some s0.heap.objs.size := rfl
  have hfs : frs (envOfC qual scope s0.heap.objs.size f cd :: outer) = s0.heap.objs.size :: frs outer := frs_cons hf
  have noA : ∀ b : Addr, b ∉ (cxOf (CXe P w) P w K mg base N qual scope f cd A outer s0 H0 E).ex := fun b z => absurd z (by simp [cxOf])
  have nf : ∀ b o, s0.heap.get? b = some o → b ∉ frs outer → b ∉ frs (envOfC qual scope s0.heap.objs.size f cd :: outer) := fun b o e n z => by
    rw [hfs] at z
    rcases List.mem_cons.mp z with z | z
    · exact absurd (Heap.lt_size e) (by rw [z]; exact Nat.lt_irrefl _)
    · exact n z
  show wpAny _ _ (leaving (envOfC qual scope s0.heap.objs.size f cd) (.ref ea)) _ _ _
  refine wpAny_leaves_madeW (base := PySem.W.hideAll s.heap (frs (envOfC qual scope s0.heap.objs.size f cd :: outer))) (h := s.heap) hfr hf (fun b o q => PySem.W.of_hideAll _ q)
    (PySem.W.funFrames_hide hfun fun env he b hb => List.mem_filterMap.mpr ⟨env, he, hb⟩) mk fun h' t fl' _ _ up => ?_
  have inB : ∀ b o, s.heap.get? b = some o → b ∉ frs (envOfC qual scope s0.heap.objs.size f cd :: outer) → (PySem.W.hideAll s.heap (frs (envOfC qual scope s0.heap.objs.size f cd :: outer))).get? b = some o := fun b o e n => PySem.W.hideAll_get _ e n
  have stay : ∀ b o, s0.heap.get? b = some o → H0 b = none → b ∉ frs outer → (PySem.W.hideAll s.heap (frs (envOfC qual scope s0.heap.objs.size f cd :: outer))).get? b = some o := fun b o e n hb =>
    inB b o (I.base.keep b o e n hb (noA b)) (nf b o e hb)
  have live : ∀ b o, s0.heap.get? b = some o → b ∉ frs outer → ∃ o', (PySem.W.hideAll s.heap (frs (envOfC qual scope s0.heap.objs.size f cd :: outer))).get? b = some o' := fun b o e hb => by
    obtain ⟨o1, e1⟩ := I.base.there b o e (noA b)
    exact ⟨o1, inB b o1 e1 (nf b o e hb)⟩
  have trk : ∀ b u, H b = some u → ∃ o, (PySem.W.hideAll s.heap (frs (envOfC qual scope s0.heap.objs.size f cd :: outer))).get? b = some o := fun b u e => by
    obtain ⟨o, ho⟩ := I.hok.alive e
    exact ⟨o, inB b o ho fun z => by rw [hfree b z] at e; cases e⟩
  have slotOf : ∀ b, b ∈ frs outer → ∀ o, s.heap.get? b = some o → ∃ sl, h'.get? b = some { o with slots := sl } := fun b hb o e => by
    have hm : b ∈ frs (envOfC qual scope s0.heap.objs.size f cd :: outer) := by rw [hfs]; exact List.mem_cons_of_mem _ hb
    obtain ⟨_, o', ho', hd⟩ := hfun.mem hm
    rw [e] at ho'; cases ho'
    exact up b o (mk.keeps b o e) hd
  refine ⟨ea, cls, H, _, rfl, I.os, I.bare, ?_, I.hok.flown trk (fun b o q => PySem.W.of_hideAll _ q) fl'.1, ⟨⟨_, fl'⟩, trk, stay, live⟩, hK⟩
  refine ⟨fun b o e n hb _ => fl'.1 b o (stay b o e n hb), fun b o e n hb _ => ?_, fun b o e n _ => I.base.free b o e n (noA b), fun b o e _ => ?_, I.base.tups, I.base.frzs, I.base.tbls⟩
  · obtain ⟨sl, e1⟩ := I.base.slot b o e n hb (noA b)
    obtain ⟨sl', e2⟩ := slotOf b hb _ e1
    exact ⟨sl', e2⟩
  · by_cases hb : b ∈ frs outer
    · obtain ⟨o1, e1⟩ := I.base.there b o e (noA b)
      obtain ⟨sl, e2⟩ := slotOf b hb _ e1
      exact ⟨_, e2⟩
    · obtain ⟨o1, e1⟩ := live b o e hb
      exact ⟨o1, fl'.1 b o1 e1⟩

abbrev mroVE : List Value := [.type "ValueError", .type "Exception", .type "BaseException", .type "object"]
/-- an own error class under ValueError, bound to x -/
structure XC (K : PySem.W.Frag) (mg : Str → Option Value) (x : Str) (C : Addr) : Prop where
  m : mg x = some (.ref C)
  ex : PySem.W.excIn K C mroVE "ValueError.__new__" = true
theorem exc_obj {K : PySem.W.Frag} {h : Heap} {C : Addr} {l : List Value} {id : String} (hin : K.In h) (q : PySem.W.excIn K C l id = true) :
    ∃ bm N nm qn bs hdct sn sub ab col dd k0 k1 k2 k3 k5 mN, h.get? C = some (excClassObj nm qn C N bs bm hdct sn sub ab col dd k0 k1 k2 k3 k5 id) ∧ h.Ns N mN ∧ mN "__init__" = none ∧ OwnTail h l bm := by
  unfold PySem.W.excIn at q
  split at q
  case h_2 => cases q
  case h_1 dd cd sl ho =>
    split at q
    case h_2 => cases q
    case h_1 C' bm k0 k1 k2 k3 n k5 hm hs =>
      rw [Bool.and_eq_true, Bool.and_eq_true, Bool.and_eq_true, Bool.and_eq_true, Bool.and_eq_true] at q
      obtain ⟨⟨⟨⟨⟨q1, q2⟩, q3⟩, q4⟩, q5⟩, q6⟩ := q
      have e1 := beq_iff_eq.mp q1
      have e2 := beq_iff_eq.mp q2
      have e6 := beq_iff_eq.mp q6
      subst e1 e2
      obtain ⟨nm, bs, mro, ns, qn, hd, sn, sub, ab, col, del⟩ := cd
      have e3 : del = false := by
        cases del with
        | false => rfl
        | true => cases q3
      have hm' : mro = .ref C' :: bm := hm
      subst e3 hm'
      obtain ⟨l'⟩ := sl
      have hs' : l' = [k0, k1, k2, k3, some (.builtin n), k5] := hs
      subst hs'
      exact ⟨bm, ns, nm, qn, bs, hd, sn, sub, ab, col, dd, k0, k1, k2, k3, k5, _, hin _ _ ho, .of_isNs (PySem.W.isNs_of_in hin q5), PySem.W.nsMap_none_of_in hin q5 e6, PySem.W.tail_of_in hin q4⟩
def tRaise (Kx : XKs) (C : Addr) (t : TA) : TS := fun _ σ H => t σ H fun vs H1 => vs.length ≤ sizeLine ∧ Kx (.ref C) σ H1
theorem ps_raise {X : Cx} {Kx : XKs} {C : Addr} {x : Str} {np cpos pos : Pos} {e : Expr} {es : List Expr} {t : TA} (hx : XR X Kx) (hc : X.calm = true) (c : XC X.K X.mg x C) (ha : PA X (e :: es) t) (hg : Gl X x := by rfl) (hd : (x == ("__debug__" : Str)) = false := by decide)
    (he : starEach (e :: es) X.env = (false, eval e X.env) :: starEach es X.env := by rfl) (hpl : (backTo cpos (starEach es X.env)).any (·.1) = false := by rfl) :
    PS X (.Raise (some (.Call (.Name x np) (e :: es) [] cpos)) none pos) (tRaise Kx C t) := by
  intro pins s σ H D I h
  obtain ⟨bm, N, nm, qn, bs, hdct, sn, sub, ab, col, dd, k0, k1, k2, k3, k5, mN, hC, hN, hni, T⟩ := exc_obj I.mod.kin c.ex
  refine wpAny_Raise_call_subT (C := C) (nm := nm) (q := qn) (N := N) (bs := bs) (bm := bm) (hdct := hdct) (sn := sn) (sub := sub) (ab := ab) (col := col) (dd := dd) (k0 := k0) (k1 := k1) (k2 := k2) (k3 := k3) (k5 := k5) (mN := mN) PySem.F.excBase_ValueError (T.hasType PySem.F.excBase_ValueError.hasBase) (I.ok.hd hc) (by rw [he]; show (false || (backTo cpos (starEach es X.env)).any (·.1)) = false; rw [hpl]; rfl) hni
    (ld_glob I hg c.m ⟨rfl, ?_⟩ hd)
  have q := ha cpos pins s σ H _ I h
  rw [he] at q ⊢
  refine Calls.evalArgs_plain (wpAny_mono q (fun us s2 hq => ?_) fun _ _ y => y)
  obtain ⟨vs, H1, I1, r, hl, hk⟩ := hq
  exact ⟨rfl, by rw [← r.length]; exact hl, I1.bk _ _ hC, hN.keeps I1.bk, T.keeps I1.bk, fun h' ea mk => hx pins σ H1 s2 h' ea (.ref C) us I1 mk hk⟩

end L2
/-! ### kinds of values: isinstance with a built-in class; is True; == at any depth -/
namespace L2
open PySem PySem.Spec PyProof.Rows
/-- the kind of a value, by name ("" where it is not known) -/
def kdO : Option HO → String
  | some (.lst _) => "list"
  | some (.frz _ (.lst _)) => "list"
  | some (.tup _) => "tuple"
  | some (.dK _) => "dict"
  | some (.dT _) => "dict"
  | _ => ""
def kd (H : Hp) : V → String
  | .non => "NoneType"
  | .bl _ => "bool"
  | .int _ => "int"
  | .str _ => "str"
  | .ref a => kdO (H a)
  | _ => ""
def Kn (H : Hp) (x : V) : Prop := kd H x ≠ ""
def isTy (n : String) (H : Hp) (x : V) : Bool := kd H x == n || (kd H x == "bool" && n == "int")
theorem kd_ty {K : PySem.W.Frag} {H : Hp} {x : V} (h : Kn H x) : TyOf K H x (.type (kd H x)) := by
  cases x with
  | non => exact .non
  | bl b => exact .bl b
  | int i => exact .int i
  | str s => exact .str s
  | ref a =>
    have h : kdO (H a) ≠ "" := h
    show TyOf K H (.ref a) (.type (kdO (H a)))
    cases e : H a with
    | none => rw [e] at h; exact absurd rfl h
    | some o =>
      rw [e] at h
      cases o with
      | lst xs => exact .lst e
      | tup xs => exact .tup e
      | dK k => exact .dK e
      | dT k => exact .dT e
      | frz ob u =>
        cases u with
        | lst xs => exact .frz e
        | _ => exact absurd rfl h
      | _ => exact absurd rfl h
  | _ => exact absurd rfl h
theorem kdO_cases (o : Option HO) : kdO o = "" ∨ kdO o = "list" ∨ kdO o = "tuple" ∨ kdO o = "dict" := by
  unfold kdO
  split <;> simp
theorem Kn.cases {H : Hp} {x : V} (h : Kn H x) : kd H x = "NoneType" ∨ kd H x = "bool" ∨ kd H x = "int" ∨ kd H x = "str" ∨ kd H x = "list" ∨ kd H x = "tuple" ∨ kd H x = "dict" := by
  cases x with
  | ref a =>
    have h : kdO (H a) ≠ "" := h
    show kdO (H a) = _ ∨ kdO (H a) = _ ∨ kdO (H a) = _ ∨ kdO (H a) = _ ∨ kdO (H a) = _ ∨ kdO (H a) = _ ∨ kdO (H a) = _
    rcases kdO_cases (H a) with e | e | e | e
    · exact absurd e h
    · exact .inr (.inr (.inr (.inr (.inl e))))
    · exact .inr (.inr (.inr (.inr (.inr (.inl e)))))
    · exact .inr (.inr (.inr (.inr (.inr (.inr e)))))
  | non => exact .inl rfl
  | bl b => exact .inr (.inl rfl)
  | int i => exact .inr (.inr (.inl rfl))
  | str z => exact .inr (.inr (.inr (.inl rfl)))
  | _ => exact absurd rfl h
theorem kit_scal (K : PySem.W.Frag) : ∀ k ∈ ["NoneType", "bool", "int", "str", "list", "tuple", "dict"], ∀ n ∈ ["bool", "int", "str", "list", "tuple", "dict"], PySem.W.kitOne K (.type k) (.type n) = some (k == n || (k == "bool" && n == "int")) := by
  have e : ∀ k ∈ ["NoneType", "bool", "int", "str", "list", "tuple", "dict"], ∀ n ∈ ["bool", "int", "str", "list", "tuple", "dict"], (if (Value.type k == Value.type n) = true then some true else if PySem.W.kitMeta n = true then (fastBuiltinMro k).map (·.contains (.type n)) else none) = some (k == n || (k == "bool" && n == "int")) := by decide +kernel
  exact fun k hk n hn => e k hk n hn
theorem call_isi {X : Cx} : CallR X (.builtin "isinstance") (fun xs H Q => ∃ x n, xs = [x, .ty n] ∧ n ∈ ["bool", "int", "str", "list", "tuple", "dict"] ∧ Kn H x ∧ Q (.bl (isTy n H x)) H) := by
  intro pins s σ H xs us Q I r h
  obtain ⟨x, n, rfl, hn, hk, q⟩ := h
  cases r with
  | cons r1 rr =>
    cases rr with
    | cons r2 rr =>
      cases rr
      cases r2
      refine isinst_ok I r1 (kd_ty hk) (kit_scal X.K _ ?_ n hn) fun tk => ⟨.bl _, H, I.tok tk, rfl, q⟩
      rcases hk.cases with e | e | e | e | e | e | e <;> rw [e] <;> simp
/-- -x -/
theorem op_neg {X : Cx} : UnR X (unaryOp .USub) (rU fun i => .int (-i)) := by
  intro pins s σ H x v Q I rx h
  obtain ⟨i, rfl, q⟩ := h
  obtain ⟨t, rfl⟩ := rx
  exact neg_int ⟨.int _, H, I.tok _, ⟨_, rfl⟩, q⟩
end L2
namespace L2
open PySem PySem.Spec PyProof.Rows
theorem kn_int {H : Hp} {i : Int} : Kn H (.int i) ↔ True := ⟨fun _ => trivial, fun _ => (by decide : "int" ≠ "")⟩
theorem kn_bl {H : Hp} {i : Bool} : Kn H (.bl i) ↔ True := ⟨fun _ => trivial, fun _ => (by decide : "bool" ≠ "")⟩
theorem kn_str {H : Hp} {i : Str} : Kn H (.str i) ↔ True := ⟨fun _ => trivial, fun _ => (by decide : "str" ≠ "")⟩
theorem kn_lst {H : Hp} {a : Addr} {xs : List V} (h : H a = some (.lst xs)) : Kn H (.ref a) := fun z => by
  have z : kdO (H a) = "" := z
  rw [h] at z; exact absurd z (show "list" ≠ "" by decide)
theorem kn_tup {H : Hp} {a : Addr} {xs : List V} (h : H a = some (.tup xs)) : Kn H (.ref a) := fun z => by
  have z : kdO (H a) = "" := z
  rw [h] at z; exact absurd z (show "tuple" ≠ "" by decide)
theorem cxOf_K {CX : CXT} {P : Program} {w : World} {K : PySem.W.Frag} {mg : Str → Option Value} {base : Heap} {N : List Str} {qual : Str} {scope : Scope} {f : Addr} {cd : Value} {A : Around} {outer : List Env} {s : Shared} {H : Hp} {E : XK} :
    (cxOf CX P w K mg base N qual scope f cd A outer s H E).K = K := rfl
/-- whether a value is a whole number and no truth -/
def whole : V → Bool
  | .int _ => true
  | _ => false
def within (x : V) (l h : Int) : Bool := match x with
  | .int i => decide (l ≤ i) && decide (i ≤ h)
  | _ => false
end L2
namespace L2
open PySem PySem.Spec PyProof.Rows
/-! ### a word between two statements; lists that are tracked -/
/-- a mark whose kind names both parts: so they stand still while what is ahead of them is read -/
inductive Hid (t u : TS) : Type where
  | mk : Hid t u
def tCut (t u : TS) (_ : Hid t u) : TS := fun D σ H => ∃ M : St → Hp → Prop, t { D with nx := M } σ H ∧ ∀ σ' H', M σ' H' → u D σ' H'
theorem pss_cut {X : Cx} {st : Stmt} {rest : List Stmt} {t u : TS} (h1 : PS X st t) (h2 : PSs X rest u) : PSs X (st :: rest) (tCut t u .mk) := by
  intro pins s σ H D I h
  obtain ⟨M, h, hM⟩ := h
  refine wpAny_execs_cons (thn (h1 pins s σ H { D with nx := M } I h) fun f s1 q => ?_)
  cases f with
  | next =>
    obtain ⟨σ', H', I', q⟩ := q
    exact h2 pins s1 σ' H' D I' (hM σ' H' q)
  | ret v => exact q
  | brk => exact q
  | cont => exact q
def lstO : Option HO → Option (List V)
  | some (.lst xs) => some xs
  | some (.frz _ (.lst xs)) => some xs
  | _ => none
def tupO : Option HO → Option (List V)
  | some (.tup xs) => some xs
  | some (.frz _ (.tup xs)) => some xs
  | _ => none
theorem lstO_lst {xs : List V} : lstO (some (.lst xs)) = some xs := rfl
theorem tupO_tup {xs : List V} : tupO (some (.tup xs)) = some xs := rfl
theorem sq_lstO {K : PySem.W.Frag} {H : Hp} {a : Addr} {xs : List V} (h : lstO (H a) = some xs) : SqL K H a xs := by
  unfold lstO at h
  split at h
  · rename_i e; cases h; exact .inl (.inl e)
  · rename_i e; cases h; exact .inl (.inr ⟨_, e⟩)
  · cases h
def rIxH : R2 := fun x y H Q => ∃ p xs i v, x = .ref p ∧ y = .int i ∧ lstO (H p) = some xs ∧ atI xs i = some v ∧ Q v H
theorem ix_lst {X : Cx} : IxR X rIxH := by
  intro value slice pins s σ H x y v u Q I rx ry h hs
  obtain ⟨p, xs, i, w', e1, e2, e3, e4, q⟩ := h
  exact ix_list value slice pins s σ H x y v u Q I rx ry ⟨p, xs, i, w', e1, e2, sq_lstO e3, e4, q⟩ hs
theorem scal_ii {i j : Int} : scal (.int i) (.int j) = true := rfl
theorem scal_bb {i j : Bool} : scal (.bl i) (.bl j) = true := rfl
theorem scal_ss {i j : Str} : scal (.str i) (.str j) = true := rfl
theorem na10 : Int.natAbs 10 = 10 := rfl
theorem same_refl {H : Hp} : Same H H := fun _ _ h => h
theorem same_upd {H H' : Hp} {p : Addr} {o : HO} (s : Same H H') (h : H' p = none) : Same H (upd H' p o) := fun b u e => by
  have q := s b u e
  rw [upd_ne (ne_of_none q h)]
  exact q
end L2
namespace L2
open PySem PySem.Spec PyProof.Rows
end L2
namespace L2
open PySem PySem.Spec PyProof.Rows
/-! ### loops, their bodies standing still until a word is said -/
inductive HidF (g : TG) (tb : TS) : Type where
  | mk : HidF g tb
def Loop (g : TG) (tb : TS) (_ : HidF g tb) (J : It) : TS := fun D σ H => ∃ W : Nat → Nat → St → Hp → Prop, (∃ m, W 0 m σ H) ∧ ∀ i m σ H, W i m σ H →
  (J.stop i H ∧ D.nx σ H) ∨ (J.go i H ∧ ∃ N : St → Hp → Prop, (∀ σ' H', N σ' H' → ∃ m', m' < m ∧ W (i + 1) m' σ' H') ∧ ∀ x H', J.yld i H x H' → g x σ H' fun σ2 H2 => tb { D with nx := N, ct := N, bk := D.nx } σ2 H2)
def tForE (wi : TI) (g : TG) (tb : TS) (h : HidF g tb) : TS := fun D σ H => wi σ H fun J H1 => Loop g tb h J D σ H1
theorem ps_forE {X : Cx} {tg iter : Expr} {body : List Stmt} {wi : TI} {g : TG} {tb : TS} {pos : Pos} (hp : PassesOwn (model X.prog X.w) X.A X.env X.xe) (hc : X.calm = true) (hi : PI X tg iter wi) (hg : PG X tg g) (hb : PSs X body tb)
    (hs : ∀ x, foldedSetIterable iter X.env x = pure x := by intro _; rfl) : PS X (.For tg iter body [] pos) (tForE wi g tb .mk) := ps_for hp hc hi hg hb hs
theorem loop_range {lo : Int} {n : Nat} {g : TG} {tb : TS} {h : HidF g tb} {D : Ends} {σ : St} {H : Hp} (Pv : Nat → St → Hp → Prop) (h0 : Pv 0 σ H)
    (hs : ∀ i σ H, i < n → Pv i σ H → g (.int (lo + i)) σ H fun σ2 H2 => tb { D with nx := Pv (i + 1), ct := Pv (i + 1), bk := D.nx } σ2 H2) (hd : ∀ σ H, Pv n σ H → D.nx σ H) : Loop g tb h (Itr lo n) D σ H := for_range Pv h0 hs hd
end L2
namespace L2
open PySem PySem.Spec PyProof.Rows
end L2
namespace L2
open PySem PySem.Spec PyProof.Rows
theorem same_make {H : Hp} {x dx : Addr} {o : HO} (hx : H x = none) (hd : H dx = none) (hne : dx ≠ x) : Same H (upd (upd H dx (.own x)) x o) :=
  same_upd (same_upd same_refl hd) (by rw [upd_ne (Ne.symm hne)]; exact hx)
end L2
namespace L2
open PySem PySem.Spec PyProof.Rows
end L2
namespace L2
open PySem PySem.Spec PyProof.Rows
end L2
namespace L2
open PySem PySem.Spec PyProof.Rows
theorem isTy_tup {H : Hp} {a : Addr} {xs : List V} (h : H a = some (.tup xs)) : isTy "tuple" H (.ref a) = true := by
  unfold isTy
  rw [show kd H (.ref a) = kdO (H a) from rfl, h]; rfl
theorem isTy_lst {H : Hp} {a : Addr} {xs : List V} (h : H a = some (.lst xs)) : isTy "list" H (.ref a) = true := by
  unfold isTy
  rw [show kd H (.ref a) = kdO (H a) from rfl, h]; rfl
end L2
namespace L2
open PySem PySem.Spec PyProof.Rows
/-! ### try: .. except X as n: .. -/
section
variable {X : Cx} {pins pins2 : List (Addr × Obj)} {σ : St} {H : Hp} {s : Shared} {E' : Value → Shared → Prop}
end
end L2
/-! ### isinstance of an exception that was caught -/
namespace PySem.W
open PySem PySem.Spec PySem.Calls PyProof.Rows
open Builtin Builtin.ObjectAttr Builtin.Getset_descriptor
/-- a record of this class stands at e -/
def ExcAt (e C : Addr) (h : Heap) : Prop := ∃ o, h.get? e = some o ∧ o.cls = .ref C
section
variable {K : Frag} {e C : Addr}
theorem ExcAt.ty {M : Model} {h : Heap} (p : ExcAt e C h) : Looks M h (typeOf (.ref e)) (.ref C) := by
  obtain ⟨o, h1, h2⟩ := p
  exact h2 ▸ (Looks.ld h1).andThen .now
variable {prog : Program} {w : World} {A : Around} {E : Value → Shared → Prop} {s : Shared}
end
end PySem.W
namespace L2
open PySem PySem.Spec PyProof.Rows
def clsV : V → Value
  | .ref a => .ref a
  | .ty n => .type n
  | _ => .none
theorem clsV_ref {a : Addr} : clsV (.ref a) = .ref a := rfl
theorem clsV_ty {n : String} : clsV (.ty n) = .type n := rfl
end L2
namespace L2
open PySem PySem.Spec PyProof.Rows
/-! ### data seen through the heap; == at any depth -/
/-- data: a flat value, a list (false) or a tuple (true) of data -/
inductive Dv where
  | leaf (v : V)
  | seq (t : Bool) (ds : List Dv)
mutual
def Sees (K : PySem.W.Frag) (H : Hp) : Dv → V → Prop
  | .leaf v, x => x = v ∧ flatV v = true
  | .seq t ds, x => ∃ a xs, x = .ref a ∧ (if t = true then SqT K H a xs else SqL K H a xs) ∧ SeesL K H ds xs
def SeesL (K : PySem.W.Frag) (H : Hp) : List Dv → List V → Prop
  | [], xs => xs = []
  | d :: ds, xs => ∃ x r, xs = x :: r ∧ Sees K H d x ∧ SeesL K H ds r
end
mutual
/-- two data of the same make -/
def alike : Dv → Dv → Bool
  | .leaf _, .leaf _ => true
  | .seq t ds, .seq u es => t == u && alikeL ds es
  | _, _ => false
def alikeL : List Dv → List Dv → Bool
  | d :: ds, e :: es => alike d e && alikeL ds es
  | _, _ => true
end
mutual
def eqDv : Dv → Dv → Bool
  | .leaf v, .leaf w => eqV v w
  | .seq _ ds, .seq _ es => eqDvL ds es
  | _, _ => false
def eqDvL : List Dv → List Dv → Bool
  | [], [] => true
  | d :: ds, e :: es => eqDv d e && eqDvL ds es
  | _, _ => false
end
mutual
def deep : Dv → Nat
  | .leaf _ => 0
  | .seq _ ds => deepL ds + 1
def deepL : List Dv → Nat
  | [] => 0
  | d :: ds => max (deep d) (deepL ds)
end
theorem SeesL.length {K : PySem.W.Frag} {H : Hp} : ∀ {ds : List Dv} {xs : List V}, SeesL K H ds xs → ds.length = xs.length
  | [], xs, h => by unfold SeesL at h; subst h; rfl
  | d :: ds, xs, h => by
    unfold SeesL at h
    obtain ⟨x, r, rfl, _, h⟩ := h
    simp [h.length]
theorem all_range_succ (n : Nat) (f : Nat → Bool) : (List.range (n + 1)).all f = (f 0 && (List.range n).all fun j => f (j + 1)) := by
  rw [List.range_succ_eq_map, List.all_cons, List.all_map]; rfl
theorem eqDvL_eq : ∀ (ds es : List Dv), eqDvL ds es = (decide (ds.length = es.length) && (List.range (min ds.length es.length)).all fun j => eqDv (ds.getD j (.leaf .non)) (es.getD j (.leaf .non)))
  | [], [] => by simp [eqDvL]
  | [], e :: es => by simp [eqDvL]
  | d :: ds, [] => by simp [eqDvL]
  | d :: ds, e :: es => by
    have ih := eqDvL_eq ds es
    rw [eqDvL, ih]
    have hm : min (d :: ds).length (e :: es).length = min ds.length es.length + 1 := by simp [Nat.succ_min_succ]
    rw [hm, all_range_succ]
    simp only [List.length_cons, Nat.add_right_cancel_iff, List.getD_cons_zero, List.getD_cons_succ]
    cases eqDv d e <;> cases decide (ds.length = es.length) <;> simp
theorem eqV_self {v : V} (h : flatV v = true) : eqV v v = true := by
  cases v <;> first | rfl | (simp [eqV]; done) | exact absurd h (by simp [flatV])
mutual
theorem sees_same {X : Cx} {pins : List (Addr × Obj)} {σ : St} {H : Hp} {s : Shared} (I : Inv X pins σ H s) : ∀ (d e : Dv) (x : V), alike d e = true → Sees X.K H d x → Sees X.K H e x → eqDv d e = true
  | .leaf a, .leaf b, x, _, hx, hy => by
    unfold Sees at hx hy
    obtain ⟨rfl, fx⟩ := hx
    obtain ⟨rfl, fy⟩ := hy
    rw [eqDv]
    exact eqV_self fx
  | .leaf a, .seq t es, _, h, _, _ => by simp [alike] at h
  | .seq t ds, .leaf b, _, h, _, _ => by simp [alike] at h
  | .seq t ds, .seq t' es, x, h, hx, hy => by
    rw [alike, Bool.and_eq_true] at h
    have ht := beq_iff_eq.mp h.1
    subst ht
    unfold Sees at hx hy
    obtain ⟨a, xs, rfl, hsx, hL⟩ := hx
    obtain ⟨b, ys, e, hsy, hM⟩ := hy
    cases e
    rw [eqDv]
    have exy : xs = ys := by
      cases t with
      | true => exact I.tuple_inj (by simpa using hsx) (by simpa using hsy)
      | false => exact I.list_inj (by simpa using hsx) (by simpa using hsy)
    subst exy
    exact sees_sameL I ds es xs h.2 hL hM
theorem sees_sameL {X : Cx} {pins : List (Addr × Obj)} {σ : St} {H : Hp} {s : Shared} (I : Inv X pins σ H s) : ∀ (ds es : List Dv) (xs : List V), alikeL ds es = true → SeesL X.K H ds xs → SeesL X.K H es xs → eqDvL ds es = true
  | [], [], _, _, _, _ => by rw [eqDvL]
  | [], e :: es, xs, _, hx, hy => by
    unfold SeesL at hx hy
    obtain ⟨x, r, e1, _⟩ := hy
    rw [hx] at e1; cases e1
  | d :: ds, [], xs, _, hx, hy => by
    unfold SeesL at hx hy
    obtain ⟨x, r, e1, _⟩ := hx
    rw [hy] at e1; cases e1
  | d :: ds, e :: es, xs, h, hx, hy => by
    rw [alikeL, Bool.and_eq_true] at h
    unfold SeesL at hx hy
    obtain ⟨x, r, rfl, hx, hxr⟩ := hx
    obtain ⟨y, r', e1, hy, hyr⟩ := hy
    cases e1
    rw [eqDvL, sees_same I d e x h.1 hx hy, sees_sameL I ds es r h.2 hxr hyr]
    rfl
end
theorem rc_deep {X : Cx} {pins : List (Addr × Obj)} {σ : St} {H : Hp} {s : Shared} (I : Inv X pins σ H s) {A : Around} {t : Bool} {ds es : List Dv} {a b : Addr} {xs ys : List V} (hu : A.units < cLine)
    (hsx : if t = true then SqT X.K H a xs else SqL X.K H a xs) (hsy : if t = true then SqT X.K H b ys else SqL X.K H b ys) (l1 : ds.length = xs.length) (l2 : es.length = ys.length)
    (ih : ∀ (j : Nat) (u v : Value) (us vs : List Value), Vals xs us → Vals ys vs → us[j]? = some u → vs[j]? = some v → SeqAt.EqAt A.in1 s u v (eqDv (ds.getD j (.leaf .non)) (es.getD j (.leaf .non)))) :
    SeqAt.RcAt A s (.ref a) (.ref b) (eqDvL ds es) := by
  rw [eqDvL_eq]
  cases t with
  | false =>
    obtain ⟨its, rv, pl, _⟩ := I.list (show SqL X.K H a xs by simpa using hsx)
    obtain ⟨its2, rv2, pl2, _⟩ := I.list (show SqL X.K H b ys by simpa using hsy)
    have n1 := rv.length
    have n2 := rv2.length
    by_cases hl : ds.length = es.length
    · have q := SeqAt.RcAt.lists (e := fun j => eqDv (ds.getD j (.leaf .non)) (es.getD j (.leaf .non))) pl.isList pl2.isList (by simp; omega) (by omega : A.units < cLine) (fun j h1 h2 => by
        have h1 : j < its.length := by simpa using h1
        have h2 : j < its2.length := by simpa using h2
        have e := ih j (its[j]) (its2[j]) its its2 rv rv2 (by simp [h1]) (by simp [h2])
        simpa using e)
      rw [decide_eq_true hl, Bool.true_and]
      have em : min ds.length es.length = its.toArray.size := by simp; omega
      rw [em]
      exact q
    · have q := SeqAt.RcAt.lists_lengths (A := A) pl.isList pl2.isList (by simp; omega) (by omega : A.units < cLine)
      rw [decide_eq_false hl, Bool.false_and]
      exact q
  | true =>
    obtain ⟨its, rv, pl, _⟩ := I.tuple (show SqT X.K H a xs by simpa using hsx)
    obtain ⟨its2, rv2, pl2, _⟩ := I.tuple (show SqT X.K H b ys by simpa using hsy)
    have n1 := rv.length
    have n2 := rv2.length
    have q := SeqAt.RcAt.tuples (e := fun j => eqDv (ds.getD j (.leaf .non)) (es.getD j (.leaf .non))) (show s.heap.IsTuple a its.toArray from pl) (show s.heap.IsTuple b its2.toArray from pl2) (by omega : A.units < cLine) (fun j h1 h2 => by
        have h1 : j < its.length := by simpa using h1
        have h2 : j < its2.length := by simpa using h2
        have e := ih j (its[j]) (its2[j]) its its2 rv rv2 (by simp [h1]) (by simp [h2])
        simpa using e)
    have em : min its.toArray.size its2.toArray.size = min ds.length es.length := by simp; omega
    have eb : (its.toArray.size == its2.toArray.size) = decide (ds.length = es.length) := by
      rw [Bool.eq_iff_iff]; simp; omega
    rw [em, eb, Bool.and_comm] at q
    exact q
mutual
theorem eqAt_deep {X : Cx} {pins : List (Addr × Obj)} {σ : St} {H : Hp} {s : Shared} (I : Inv X pins σ H s) : ∀ (d e : Dv) (A : Around) (x y : V) (u v : Value), A.units + deep d < cLine → alike d e = true → Sees X.K H d x → Sees X.K H e y → RelV x u → RelV y v → SeqAt.EqAt A s u v (eqDv d e)
  | .leaf a, .leaf b, A, x, y, u, v, _, _, hx, hy, rx, ry => by
    unfold Sees at hx hy
    obtain ⟨rfl, fx⟩ := hx
    obtain ⟨rfl, fy⟩ := hy
    rw [eqDv]
    exact eqAt_V rx ry fx fy
  | .leaf a, .seq t es, A, x, y, u, v, _, h, _, _, _, _ => by simp [alike] at h
  | .seq t ds, .leaf b, A, x, y, u, v, _, h, _, _, _, _ => by simp [alike] at h
  | .seq t ds, .seq t' es, A, x, y, u, v, hu, h, hx, hy, rx, ry => by
    have h0 := h
    rw [alike, Bool.and_eq_true] at h
    have ht := beq_iff_eq.mp h.1
    subst ht
    have hx0 := hx
    have hy0 := hy
    unfold Sees at hx hy
    obtain ⟨a, xs, rfl, hsx, hL⟩ := hx
    obtain ⟨b, ys, rfl, hsy, hM⟩ := hy
    cases rx
    cases ry
    by_cases hab : a = b
    · subst hab
      rw [sees_same I _ _ _ h0 hx0 hy0]
      exact SeqAt.EqAt.same _
    · rw [deep] at hu
      have hu1 : A.in1.units + deepL ds < cLine := by show A.units + 1 + deepL ds < cLine; omega
      have ih := eqAt_deepL I ds es A.in1 xs ys hu1 h.2 hL hM
      rw [eqDv]
      exact SeqAt.EqAt.of_refs hab (rc_deep I (by omega) hsx hsy hL.length hM.length ih)
theorem eqAt_deepL {X : Cx} {pins : List (Addr × Obj)} {σ : St} {H : Hp} {s : Shared} (I : Inv X pins σ H s) : ∀ (ds es : List Dv) (A : Around) (xs ys : List V), A.units + deepL ds < cLine → alikeL ds es = true → SeesL X.K H ds xs → SeesL X.K H es ys →
    ∀ (j : Nat) (u v : Value) (us vs : List Value), Vals xs us → Vals ys vs → us[j]? = some u → vs[j]? = some v → SeqAt.EqAt A s u v (eqDv (ds.getD j (.leaf .non)) (es.getD j (.leaf .non)))
  | [], es, A, xs, ys, _, _, hx, hy, j, u, v, us, vs, rx, ry, e1, e2 => by
    unfold SeesL at hx
    subst hx
    cases rx
    simp at e1
  | d :: ds, [], A, xs, ys, _, _, hx, hy, j, u, v, us, vs, rx, ry, e1, e2 => by
    unfold SeesL at hy
    subst hy
    cases ry
    simp at e2
  | d :: ds, e :: es, A, xs, ys, hu, h, hx, hy, j, u, v, us, vs, rx, ry, e1, e2 => by
    rw [alikeL, Bool.and_eq_true] at h
    rw [deepL] at hu
    unfold SeesL at hx hy
    obtain ⟨x, r, rfl, hx, hxr⟩ := hx
    obtain ⟨y, r', rfl, hy, hyr⟩ := hy
    cases rx with
    | cons p1 p2 =>
      cases ry with
      | cons q1 q2 =>
        cases j with
        | zero =>
          simp at e1 e2
          subst e1 e2
          exact eqAt_deep I d e A x y _ _ (by omega) h.1 hx hy p1 q1
        | succ k =>
          have z := eqAt_deepL I ds es A r r' (by omega) h.2 hxr hyr k u v _ _ p2 q2 (by simpa using e1) (by simpa using e2)
          simpa using z
end
theorem hu6 {A : Around} {k : Nat} (hr : Room k A) : A.units + 4 + 2 < cLine := by have := hr.units; omega
def rEqD (K : PySem.W.Frag) (n : Nat) : R2 := fun x y H Q => ∃ t ds es, Sees K H (.seq t ds) x ∧ Sees K H (.seq t es) y ∧ alikeL ds es = true ∧ deepL ds ≤ n ∧ Q (.bl (eqDvL ds es)) H
def rNeD (K : PySem.W.Frag) (n : Nat) : R2 := fun x y H Q => ∃ t ds es, Sees K H (.seq t ds) x ∧ Sees K H (.seq t es) y ∧ alikeL ds es = true ∧ deepL ds ≤ n ∧ Q (.bl (!eqDvL ds es)) H
theorem rc_of {X : Cx} {pins : List (Addr × Obj)} {σ : St} {H : Hp} {s : Shared} (I : Inv X pins σ H s) {A : Around} {n : Nat} (hu : A.units + n + 2 < cLine) {t : Bool} {ds es : List Dv} {x y : V} {u v : Value} (hx : Sees X.K H (.seq t ds) x) (hy : Sees X.K H (.seq t es) y) (ha : alikeL ds es = true) (hd : deepL ds ≤ n)
    (rx : RelV x u) (ry : RelV y v) : SeqAt.RcAt A s u v (eqDvL ds es) := by
  unfold Sees at hx hy
  obtain ⟨a, xs, rfl, hsx, hL⟩ := hx
  obtain ⟨b, ys, rfl, hsy, hM⟩ := hy
  cases rx
  cases ry
  exact rc_deep I (by omega) hsx hsy hL.length hM.length (eqAt_deepL I ds es A.in1 xs ys (by show A.units + 1 + deepL ds < cLine; omega) ha hL hM)
theorem op_eqD {X : Cx} {n : Nat} (hu : X.A.units + n + 2 < cLine) : OpR X (compareOp .Eq) (rEqD X.K n) := by
  intro pins s σ H x y v u Q I rx ry h
  obtain ⟨t, ds, es, hx, hy, ha, hd, q⟩ := h
  exact rc_of I hu hx hy ha hd rx ry X.prog X.w X.xe _ ⟨.bl _, H, I, rfl, q⟩
theorem rcNe_deep {X : Cx} {pins : List (Addr × Obj)} {σ : St} {H : Hp} {s : Shared} (I : Inv X pins σ H s) {A : Around} {t : Bool} {ds es : List Dv} {a b : Addr} {xs ys : List V} (hu : A.units < cLine)
    (hsx : if t = true then SqT X.K H a xs else SqL X.K H a xs) (hsy : if t = true then SqT X.K H b ys else SqL X.K H b ys) (l1 : ds.length = xs.length) (l2 : es.length = ys.length)
    (ih : ∀ (j : Nat) (u v : Value) (us vs : List Value), Vals xs us → Vals ys vs → us[j]? = some u → vs[j]? = some v → SeqAt.EqAt A.in1 s u v (eqDv (ds.getD j (.leaf .non)) (es.getD j (.leaf .non)))) :
    SeqAt.RcNeAt A s (.ref a) (.ref b) (!eqDvL ds es) := by
  rw [eqDvL_eq]
  cases t with
  | false =>
    obtain ⟨its, rv, pl, _⟩ := I.list (show SqL X.K H a xs by simpa using hsx)
    obtain ⟨its2, rv2, pl2, _⟩ := I.list (show SqL X.K H b ys by simpa using hsy)
    have n1 := rv.length
    have n2 := rv2.length
    by_cases hl : ds.length = es.length
    · have q := SeqAt.RcNeAt.lists (e := fun j => eqDv (ds.getD j (.leaf .non)) (es.getD j (.leaf .non))) pl.isList pl2.isList (by simp; omega) (by omega : A.units < cLine) (fun j h1 h2 => by
        have h1 : j < its.length := by simpa using h1
        have h2 : j < its2.length := by simpa using h2
        have e := ih j (its[j]) (its2[j]) its its2 rv rv2 (by simp [h1]) (by simp [h2])
        simpa using e)
      rw [decide_eq_true hl, Bool.true_and]
      have em : min ds.length es.length = its.toArray.size := by simp; omega
      rw [em]
      exact q
    · have q := SeqAt.RcNeAt.lists_lengths (A := A) pl.isList pl2.isList (by simp; omega) (by omega : A.units < cLine)
      rw [decide_eq_false hl, Bool.false_and]
      exact q
  | true =>
    obtain ⟨its, rv, pl, _⟩ := I.tuple (show SqT X.K H a xs by simpa using hsx)
    obtain ⟨its2, rv2, pl2, _⟩ := I.tuple (show SqT X.K H b ys by simpa using hsy)
    have n1 := rv.length
    have n2 := rv2.length
    have q := SeqAt.RcNeAt.tuples (e := fun j => eqDv (ds.getD j (.leaf .non)) (es.getD j (.leaf .non))) (show s.heap.IsTuple a its.toArray from pl) (show s.heap.IsTuple b its2.toArray from pl2) (by omega : A.units < cLine) (fun j h1 h2 => by
        have h1 : j < its.length := by simpa using h1
        have h2 : j < its2.length := by simpa using h2
        have e := ih j (its[j]) (its2[j]) its its2 rv rv2 (by simp [h1]) (by simp [h2])
        simpa using e)
    have em : min its.toArray.size its2.toArray.size = min ds.length es.length := by simp; omega
    have eb : (its.toArray.size == its2.toArray.size) = decide (ds.length = es.length) := by
      rw [Bool.eq_iff_iff]; simp; omega
    rw [em, eb, Bool.and_comm] at q
    exact q
theorem op_neD {X : Cx} {n : Nat} (hu : X.A.units + n + 2 < cLine) : OpR X (compareOp .NotEq) (rNeD X.K n) := by
  intro pins s σ H x y v u Q I rx ry h
  obtain ⟨t, ds, es, hx, hy, ha, hd, q⟩ := h
  unfold Sees at hx hy
  obtain ⟨a, xs, rfl, hsx, hL⟩ := hx
  obtain ⟨b, ys, rfl, hsy, hM⟩ := hy
  cases rx
  cases ry
  exact rcNe_deep I (by omega) hsx hsy hL.length hM.length (eqAt_deepL I ds es X.A.in1 xs ys (by show X.A.units + 1 + deepL ds < cLine; omega) ha hL hM) X.prog X.w X.xe _ ⟨.bl _, H, I, rfl, q⟩
/-- lists and tuples of whole numbers -/
def dInts (ns : List Int) : List Dv := ns.map fun i => .leaf (.int i)
theorem seesL_ints {K : PySem.W.Frag} {H : Hp} : ∀ (ns : List Int), SeesL K H (dInts ns) (ns.map V.int)
  | [] => by unfold dInts SeesL; rfl
  | n :: ns => by
    show SeesL K H (.leaf (.int n) :: dInts ns) (.int n :: ns.map V.int)
    unfold SeesL
    exact ⟨_, _, rfl, by unfold Sees; exact ⟨rfl, rfl⟩, seesL_ints ns⟩
theorem sees_list {K : PySem.W.Frag} {H : Hp} {a : Addr} {ns : List Int} (h : SqL K H a (ns.map V.int)) : Sees K H (.seq false (dInts ns)) (.ref a) := by
  unfold Sees
  exact ⟨a, _, rfl, by simpa using h, seesL_ints ns⟩
theorem alike_ints : ∀ (ns ms : List Int), alikeL (dInts ns) (dInts ms) = true
  | [], _ => by unfold dInts; simp [alikeL]
  | _ :: _, [] => by unfold dInts; simp [alikeL]
  | n :: ns, m :: ms => by
    show alikeL (.leaf (.int n) :: dInts ns) (.leaf (.int m) :: dInts ms) = true
    rw [alikeL, alike, alike_ints ns ms]; rfl
theorem deep_ints : ∀ (ns : List Int), deepL (dInts ns) = 0
  | [] => by unfold dInts; simp [deepL]
  | n :: ns => by
    show deepL (.leaf (.int n) :: dInts ns) = 0
    rw [deepL, deep, deep_ints ns]; rfl
theorem eq_ints : ∀ (ns ms : List Int), eqDvL (dInts ns) (dInts ms) = decide (ns = ms)
  | [], [] => by unfold dInts; simp [eqDvL]
  | [], _ :: _ => by unfold dInts; simp [eqDvL]
  | _ :: _, [] => by unfold dInts; simp [eqDvL]
  | n :: ns, m :: ms => by
    show eqDvL (.leaf (.int n) :: dInts ns) (.leaf (.int m) :: dInts ms) = _
    rw [eqDvL, eqDv, eq_ints ns ms]
    show ((n == m) && decide (ns = ms)) = _
    rw [Bool.eq_iff_iff]; simp
end L2
namespace L2
open PySem PySem.Spec PyProof.Rows
/-! ### list comprehensions -/
/-- what a comprehension's scope must be, over the env that it stands in; x: its name, fs: the names that it takes from around -/
def compChk (sc : Scope) (env : Env) (x : Str) (fs : List Str) : Bool :=
  sc.kind == .function && sc.names.all (fun y => y.2 != .cell && (y.2 != .local || sc.names.lookup y.1 == some .local) && (y.2 != .free || env.kindOf y.1 == some .cell || env.kindOf y.1 == some .free)) &&
    sc.names.lookup x == some .local && fs.all (fun f => sc.names.lookup f == some .free)
structure CompSc (sc : Scope) (env : Env) (x : Str) (fs : List Str) : Prop where
  kind : sc.kind = .function
  nocell : ∀ y ∈ sc.names, y.2 ≠ .cell
  own : ∀ y ∈ sc.names, y.2 = .local → sc.names.lookup y.1 = some .local
  fr : ∀ y ∈ sc.names, y.2 = .free → env.kindOf y.1 = some .cell ∨ env.kindOf y.1 = some .free
  x : sc.names.lookup x = some .local
  fs : ∀ f ∈ fs, sc.names.lookup f = some .free
theorem CompSc.of {sc : Scope} {env : Env} {x : Str} {fs : List Str} (h : compChk sc env x fs = true) : CompSc sc env x fs := by
  unfold compChk at h
  simp only [Bool.and_eq_true, beq_iff_eq, List.all_eq_true, Bool.or_eq_true, bne_iff_ne, ne_eq] at h
  obtain ⟨⟨⟨h1, h2⟩, h3⟩, h4⟩ := h
  refine ⟨h1, fun y hy => (h2 y hy).1.1, fun y hy e => ?_, fun y hy e => ?_, h3, h4⟩
  · rcases (h2 y hy).1.2 with z | z
    · exact absurd e z
    · exact z
  · rcases (h2 y hy).2 with (z | z) | z
    · exact absurd e z
    · exact .inl z
    · exact .inr z
theorem closure_ex {env : Env} : ∀ (names : List (Str × NameKind)) (acc : List (Str × Addr)), (∀ n, (n, NameKind.free) ∈ names → ∃ c, env.cells.lookup n = some c) →
    ∃ cl, (forIn names acc fun y r => (do if (y.2 == NameKind.free) = true then do let c ← cellOf env y.1; pure (ForInStep.yield ((y.1, c) :: r)) else pure (ForInStep.yield r) : Sem (ForInStep (List (Str × Addr))))) = pure cl ∧
      (∀ n c, cl.lookup n = some c → acc.lookup n = some c ∨ env.cells.lookup n = some c) ∧ ∀ n, (∃ c, acc.lookup n = some c) ∨ (n, NameKind.free) ∈ names → ∃ c, cl.lookup n = some c
  | [], acc, _ => ⟨acc, rfl, fun _ _ e => .inl e, fun n h => h.elim id fun z => nomatch z⟩
  | (n, k) :: r, acc, h => by
    have hr : ∀ m, (m, NameKind.free) ∈ r → ∃ c, env.cells.lookup m = some c := fun m hm => h m (List.mem_cons_of_mem _ hm)
    by_cases hk : k = .free
    · subst hk
      obtain ⟨c, hc⟩ := h n List.mem_cons_self
      obtain ⟨cl, e, h1, h2⟩ := closure_ex r ((n, c) :: acc) hr
      refine ⟨cl, ?_, fun m c' hm => ?_, fun m hm => h2 m ?_⟩
      · rw [List.forIn_cons]
        simp only [beq_self_eq_true, if_true, cellOf, hc, pure_bind]
        exact e
      · rcases h1 m c' hm with z | z
        · rw [List.lookup_cons] at z
          cases q : m == n with
          | true =>
            rw [q] at z
            cases z
            rw [beq_iff_eq.mp q]
            exact .inr hc
          | false => rw [q] at z; exact .inl z
        · exact .inr z
      · rw [List.lookup_cons]
        rcases hm with ⟨c', z⟩ | hm
        · cases q : m == n with
          | true => exact .inl ⟨c, rfl⟩
          | false => exact .inl ⟨c', z⟩
        · rcases List.mem_cons.mp hm with z | z
          · cases z
            rw [beq_self_eq_true]
            exact .inl ⟨c, rfl⟩
          · exact .inr z
    · obtain ⟨cl, e, h1, h2⟩ := closure_ex r acc hr
      refine ⟨cl, ?_, h1, fun m hm => h2 m ?_⟩
      · rw [List.forIn_cons]
        have hb : (k == NameKind.free) = false := by simpa using hk
        simp only [hb, Bool.false_eq_true, if_false, pure_bind]
        exact e
      · rcases hm with z | hm
        · exact .inl z
        · rcases List.mem_cons.mp hm with z | z
          · cases z; exact absurd rfl hk
          · exact .inr z
theorem closure_of {env : Env} {sc : Scope} (h : ∀ n, (n, NameKind.free) ∈ sc.names → ∃ c, env.cells.lookup n = some c) :
    ∃ cl, closureFor sc env = pure cl ∧ (∀ n c, cl.lookup n = some c → env.cells.lookup n = some c) ∧ ∀ n, (n, NameKind.free) ∈ sc.names → ∃ c, cl.lookup n = some c := by
  obtain ⟨cl, e, h1, h2⟩ := closure_ex sc.names [] h
  refine ⟨cl, ?_, fun n c z => (h1 n c z).elim (fun q => nomatch q) id, fun n hn => h2 n (.inr hn)⟩
  unfold closureFor
  simp only [bind_pure]
  exact e
theorem relabel_kind {env : Env} : ∀ {names : List (Str × NameKind)} {x : Str} {k : NameKind}, (names.map fun (n, k) => if (k == NameKind.free && env.scope.kind == .function && env.kindOf n == some .cell) then (n, NameKind.cell) else (n, k)).lookup x = some k →
    k = .cell ∨ k = .free → names.lookup x = some .free ∨ names.lookup x = some .cell
  | [], _, _, h, _ => by simp at h
  | (n, k0) :: r, x, k, h, hk => by
    have ih := @relabel_kind env r x k
    have h : List.lookup x ((if (k0 == NameKind.free && env.scope.kind == .function && env.kindOf n == some .cell) = true then (n, NameKind.cell) else (n, k0)) :: (r.map fun (n, k) => if (k == NameKind.free && env.scope.kind == .function && env.kindOf n == some .cell) then (n, NameKind.cell) else (n, k))) = some k := h
    by_cases hc : (k0 == NameKind.free && env.scope.kind == .function && env.kindOf n == some .cell) = true
    · rw [if_pos hc] at h
      simp only [List.lookup_cons] at h ⊢
      cases hx : x == n with
      | true =>
        simp only [Bool.and_eq_true, beq_iff_eq] at hc
        rw [hc.1.1]
        exact .inl rfl
      | false => rw [hx] at h; exact ih h hk
    · rw [if_neg hc] at h
      simp only [List.lookup_cons] at h ⊢
      cases hx : x == n with
      | true =>
        rw [hx] at h
        cases h
        rcases hk with rfl | rfl
        · exact .inr rfl
        · exact .inl rfl
      | false => rw [hx] at h; exact ih h hk
theorem relabel_free {env : Env} : ∀ {names : List (Str × NameKind)} {x : Str}, names.lookup x = some .free →
    (names.map fun (n, k) => if (k == NameKind.free && env.scope.kind == .function && env.kindOf n == some .cell) then (n, NameKind.cell) else (n, k)).lookup x = some .cell ∨ (names.map fun (n, k) => if (k == NameKind.free && env.scope.kind == .function && env.kindOf n == some .cell) then (n, NameKind.cell) else (n, k)).lookup x = some .free
  | [], _, h => by simp at h
  | (n, k0) :: r, x, h => by
    have ih := @relabel_free env r x
    show List.lookup x ((if (k0 == NameKind.free && env.scope.kind == .function && env.kindOf n == some .cell) = true then (n, NameKind.cell) else (n, k0)) :: _) = _ ∨ List.lookup x ((if (k0 == NameKind.free && env.scope.kind == .function && env.kindOf n == some .cell) = true then (n, NameKind.cell) else (n, k0)) :: _) = _
    simp only [List.lookup_cons] at h
    by_cases hc : (k0 == NameKind.free && env.scope.kind == .function && env.kindOf n == some .cell) = true
    · rw [if_pos hc]
      simp only [List.lookup_cons]
      cases hx : x == n with
      | true => exact .inl rfl
      | false => rw [hx] at h; exact ih h
    · rw [if_neg hc]
      simp only [List.lookup_cons]
      cases hx : x == n with
      | true => rw [hx] at h; exact .inr h
      | false => rw [hx] at h; exact ih h
/-- the block's context -/
def cxComp (X : Cx) (scope : Scope) (cl : List (Str × Addr)) (C : Addr) (N : List Str) (s₀ : Shared) (H₀ : Hp) (fp : List Addr) (xe : Value → Shared → Prop) : Cx :=
  { X with N := N, s₀ := s₀, H₀ := H₀, env := compEnvC scope cl C X.env, outer := X.stack, stack := X.stack, ex := fp, fn := fun _ => false, pn := [], xe := xe }
theorem xw_no {X : Cx} : XW X (fun _ _ _ => False) := fun _ _ _ _ _ _ _ _ _ _ _ _ _ _ _ h => h.elim
inductive HidC (g : TG) (tt : TT) (te : TE) : Type where
  | mk : HidC g tt te
/-- the tests of a clause: none, or one -/
def PF (X : Cx) (ifs : List Expr) (tt : TT) : Prop :=
  ∀ (pins : List (Addr × Obj)) (s : Shared) (σ : St) (H : Hp) (Q : Bool → Hp → Prop), Inv X pins σ H s → tt σ H Q →
    wpAny (model X.prog X.w) X.A (forIn ifs true fun c r => if r = true then do let ok ← isTrue c X.env (eval c X.env); pure (ForInStep.yield ok) else pure (ForInStep.yield r)) (TP X pins σ Q) X.xe s
def tYes : TT := fun _ H Q => Q true H
theorem pf_nil {X : Cx} : PF X [] tYes := fun _ _ _ H _ I h => by
  simp only [List.forIn_nil]
  exact wpAny_pure ⟨H, I, h⟩
theorem pf_one {X : Cx} {c : Expr} {tt : TT} (h : PT X c tt) : PF X [c] tt := fun pins s σ H Q I hw => wpAny_tests_one (h pins s σ H Q I hw)
/-- the reading of the block: D is the new list -/
def Comp (g : TG) (tt : TT) (te : TE) (_ : HidC g tt te) (J : It) (σ0 : St) (D : Addr) (Q : Hp → Prop) (H : Hp) : Prop :=
  ∃ W : Nat → Nat → List V → St → Hp → Prop, (∃ m, W 0 m [] σ0 (upd H D (.lst []))) ∧ ∀ i m ys σ H, W i m ys σ H →
    (J.stop i H ∧ Q H) ∨ (J.go i H ∧ ∃ N : List V → St → Hp → Prop, (∀ ys σ H, N ys σ H → ∃ m', m' < m ∧ W (i + 1) m' ys σ H) ∧
      ∀ y H', J.yld i H y H' → g y σ H' fun σ2 H2 => tt σ2 H2 fun b H2' => if b = true then te σ2 H2' fun v H3 => H3 D = some (.lst ys) ∧ ys.length < sizeLine ∧ N (ys ++ [v]) σ2 (upd H3 D (.lst (ys ++ [v]))) else N ys σ2 H2')
def tComp (wi : TI) (ix : List Nat) (g : TG) (tt : TT) (te : TE) (h : HidC g tt te) : TE := fun σ H Q => wi σ H fun J H1 => ∀ D, H1 D = none → Comp g tt te h J (none :: ix.map fun i => (σ[i]?).join) D (fun H' => Q (.ref D) H') H1
theorem comp_range {lo : Int} {n : Nat} {g : TG} {tt : TT} {te : TE} {h : HidC g tt te} {σ0 : St} {D : Addr} {Q : Hp → Prop} {H : Hp} (Pv : Nat → List V → St → Hp → Prop) (h0 : Pv 0 [] σ0 (upd H D (.lst [])))
    (hs : ∀ i ys σ H, i < n → Pv i ys σ H → g (.int (lo + i)) σ H fun σ2 H2 => tt σ2 H2 fun b H2' => if b = true then te σ2 H2' fun v H3 => H3 D = some (.lst ys) ∧ ys.length < sizeLine ∧ Pv (i + 1) (ys ++ [v]) σ2 (upd H3 D (.lst (ys ++ [v]))) else Pv (i + 1) ys σ2 H2') (hd : ∀ ys σ H, Pv n ys σ H → Q H) :
    Comp g tt te h (Itr lo n) σ0 D Q H := by
  refine ⟨fun i m ys σ H => i + m = n ∧ Pv i ys σ H, ⟨n, Nat.zero_add n, h0⟩, fun i m ys σ H ⟨e, p⟩ => ?_⟩
  by_cases hi : i < n
  · refine .inr ⟨hi, Pv (i + 1), fun ys σ H q => ⟨m - 1, by omega, by omega, q⟩, ?_⟩
    rintro y H' ⟨rfl, rfl⟩
    exact hs i ys σ H' hi p
  · have e' : i = n := by omega
    subst e'
    exact .inl ⟨Nat.le_refl _, hd ys σ H p⟩
theorem comp_list {K : PySem.W.Frag} {a : Addr} {xs : List V} {g : TG} {tt : TT} {te : TE} {h : HidC g tt te} {σ0 : St} {D : Addr} {Q : Hp → Prop} {H : Hp} (Pv : Nat → List V → St → Hp → Prop) (h0 : Pv 0 [] σ0 (upd H D (.lst []))) (hl : ∀ i ys σ H, i ≤ xs.length → Pv i ys σ H → SqL K H a xs)
    (hs : ∀ i x ys σ H, xs[i]? = some x → Pv i ys σ H → g x σ H fun σ2 H2 => tt σ2 H2 fun b H2' => if b = true then te σ2 H2' fun v H3 => H3 D = some (.lst ys) ∧ ys.length < sizeLine ∧ Pv (i + 1) (ys ++ [v]) σ2 (upd H3 D (.lst (ys ++ [v]))) else Pv (i + 1) ys σ2 H2') (hd : ∀ ys σ H, Pv xs.length ys σ H → Q H) :
    Comp g tt te h (Itl K a) σ0 D Q H := by
  refine ⟨fun i m ys σ H => i + m = xs.length ∧ Pv i ys σ H, ⟨xs.length, Nat.zero_add _, h0⟩, fun i m ys σ H ⟨e, p⟩ => ?_⟩
  have hq := hl i ys σ H (by omega) p
  by_cases hi : i < xs.length
  · have ex : xs[i]? = some xs[i] := List.getElem?_eq_getElem hi
    refine .inr ⟨⟨xs, _, hq, ex⟩, Pv (i + 1), fun ys σ H q => ⟨m - 1, by omega, by omega, q⟩, ?_⟩
    rintro y H' ⟨rfl, hy⟩
    exact hs i y ys σ H' (hy xs hq) p
  · have e' : i = xs.length := by omega
    subst e'
    exact .inl ⟨⟨xs, hq, Nat.le_refl _⟩, hd ys σ H p⟩
/-- one turn of the block, whatever the target is -/
theorem compLoop_turn {prog : Program} {w : World} {A : Around} {R : Result → Shared → Prop} {s : Shared} {elt target iter : Expr} {ifs : List Expr} {scope : Scope} {pos : Pos} {it acc : Value} {env : Env} (I : Nat → Shared → Prop)
    (turn : ∀ n s, I n s → wpAny (model prog w) A (pyNext it) (fun r s₁ => match r with
      | none => R (.ok .next) s₁
      | some v => wpAny (model prog w) A (letOwnedTupleGo target it v) (fun _ s₁' => wpAny (model prog w) A (assign target env v) (fun _ s₂ =>
          wpAny (model prog w) A (forIn ifs true fun c r => if r = true then do let ok ← isTrue c env (eval c env); pure (ForInStep.yield ok) else pure (ForInStep.yield r)) (fun ok s₃ =>
            if ok = true then wpAny (model prog w) A (eval elt env) (fun x s₄ =>
              wpAny (model prog w) A (call (.builtin "list.append") [acc, x]) (fun _ s₅ => ∃ m, m < n ∧ I m s₅) (notedBy (model prog w) A env fun e s' => R (.error e) s') s₄) (notedBy (model prog w) A env fun e s' => R (.error e) s') s₃
            else ∃ m, m < n ∧ I m s₃) (notedBy (model prog w) A env fun e s' => R (.error e) s') s₂) (notedBy (model prog w) A env fun e s' => R (.error e) s') s₁') (notedBy (model prog w) A env fun e s' => R (.error e) s') s₁) (notedBy (model prog w) A env fun e s' => R (.error e) s') s)
    (n : Nat) (h : I n s) : codeAny (model prog w) A (.compLoop (.ListComp elt [⟨target, iter, ifs, 0⟩] scope pos) 0 it acc env) R s := by
  refine codeAny_loop rfl I (fun n s hI => ?_) n h
  show wpAny _ _ ((compTurn (.ListComp elt [⟨target, iter, ifs, 0⟩] scope pos) 0 it acc env).onRaise (fun x => do noteFrame x env; theTreesLotGoes x)) _ _ s
  refine wpAny_noted ?_
  rw [compTurn_list]
  refine wpAny_bind (wpAny_standAt (wpAny_bind (wpAny_mono (turn n s hI) (fun r s₁ h₁ => ?_) fun _ _ h' => h')))
  cases r with
  | none => exact wpAny_pure h₁
  | some v =>
    refine wpAny_bind (wpAny_mono h₁ (fun _ s₁' h₁' => ?_) fun _ _ h' => h')
    refine wpAny_bind (wpAny_mono h₁' (fun _ s₂ h₂ => wpAny_bind (wpAny_mono h₂ (fun ok s₃ h₃ => ?_) fun _ _ h' => h')) fun _ _ h' => h')
    cases ok with
    | false => exact wpAny_pure ⟨rfl, h₃⟩
    | true =>
      exact wpAny_bind (wpAny_bind (wpAny_mono h₃ (fun x s₄ h₄ => wpAny_bind (wpAny_mono h₄ (fun _ s₅ h₅ => wpAny_pure (wpAny_pure ⟨rfl, h₅⟩)) fun _ _ h' => h')) fun _ _ h' => h'))
section
variable {X : Cx}
theorem comp_block {pins : List (Addr × Obj)} {σ : St} {H2 : Hp} {s2 : Shared} {it : Addr} {fp : List Addr} {tn : Nat → Heap → Prop} {J : It} {tg iter elt : Expr} {ifs : List Expr} {scope : Scope} {cl : List (Str × Addr)} {pos : Pos} {x : Str} {fs : List Str} {ix : List Nat} {g : TG} {tt : TT} {te : TE}
    {Qf : Addr → Hp → Prop} {E : Value → Shared → Prop} {RR : Value → Addr → Result → Shared → Prop}
    (I2 : Inv X pins σ H2 s2) (T : Turn X.prog X.w X.K tg J fp it tn) (st2 : tn 0 s2.heap) (f2 : ∀ b ∈ fp, FpOk X pins H2 b) (hc : X.calm = true) (S : CompSc scope X.env x fs)
    (c1 : ∀ n c, cl.lookup n = some c → X.env.cells.lookup n = some c) (c2 : ∀ n, (n, NameKind.free) ∈ scope.names → ∃ c, cl.lookup n = some c) (hix : ix.map (X.N[·]?) = fs.map some)
    (hg : ∀ C s₀ H₀ xe, PG (cxComp X scope cl C (x :: fs) s₀ H₀ fp xe) tg g) (hf : ∀ C s₀ H₀ xe, PF (cxComp X scope cl C (x :: fs) s₀ H₀ fp xe) ifs tt) (he : ∀ C s₀ H₀ xe, PE (cxComp X scope cl C (x :: fs) s₀ H₀ fp xe) elt te)
    (h : ∀ D, H2 D = none → Comp g tt te .mk J (none :: ix.map fun i => (σ[i]?).join) D (Qf D) H2)
    (fin : ∀ D C H' s', Inv X pins σ H' s' → Qf D H' → (∃ m, s'.heap.Ns C m) → FpOk X pins H' C → RR (.ref D) C (.ok .next) s') :
    wpAny (model X.prog X.w) X.A (newList []) (fun acc s₃ => wpAny (model X.prog X.w) X.A (newFunctionEnv scope X.env.globals cl [] X.env.qual none .none (some X.env)) (fun cenv s₄ =>
      codeAny (model X.prog X.w) X.A (.compStart (.ListComp elt [⟨tg, iter, ifs, 0⟩] scope pos) 0 (.ref it) acc { cenv with scope := relabel scope X.env }) (RR acc cenv.locals) s₄) E s₃) E s2 := by
  have hD : H2 s2.heap.objs.size = none := I2.hok.fresh (Nat.le_refl _)
  obtain ⟨W, ⟨m0, w0⟩, turn⟩ := h _ hD
  refine wpAny_newObj_type (wpAny_newFunctionEnv S.nocell (by intro y hy; simp at hy) (fun h₁ hns₁ hsb₁ => ?_) S.kind)
  have I3 : Inv X pins σ (upd H2 s2.heap.objs.size (.lst [])) { s2 with heap := s2.heap.push { cls := .type "list", dict := none, data := .seq ([] : List Value).toArray } } :=
    I2.laid (t' := s2.toks) (fun b u e => Heap.get?_push_of_some _ e) (Nat.le_refl _) ⟨by decide, [], 0, .nil, Heap.get?_push_size _ rfl⟩
  obtain ⟨e3, he3⟩ : ∃ s3 : Shared, s3 = { s2 with heap := s2.heap.push { cls := .type "list", dict := none, data := .seq ([] : List Value).toArray } } := ⟨_, rfl⟩
  rw [← he3] at I3
  have hh3 : s2.heap.push { cls := .type "list", dict := none, data := .seq ([] : List Value).toArray } = e3.heap := by rw [he3]
  have sz3 : e3.heap.objs.size = s2.heap.objs.size + 1 := by rw [← hh3, Heap.size_push]
  dsimp only at hns₁ hsb₁ ⊢
  rw [hh3] at hns₁ hsb₁ ⊢
  generalize hH3 : upd H2 s2.heap.objs.size (.lst []) = H3 at *
  -- the iterator's objects: older than the list
  have live : ∀ b ∈ fp, b < s2.heap.objs.size := fun b hb => let ⟨_, e, _⟩ := T.obj _ _ st2 b hb; Heap.lt_size e
  have f3 : ∀ b ∈ fp, FpOk X pins H3 b := fun b hb => by
    refine ⟨?_, (f2 b hb).2⟩
    rw [← hH3, upd_ne (Nat.ne_of_lt (live b hb))]
    exact (f2 b hb).1
  have C0 : FpOk X pins H3 e3.heap.objs.size := I3.fpOk (Nat.le_refl _) (I3.hok.fresh (Nat.le_refl _))
  have old3 : ∀ b o, e3.heap.get? b = some o → h₁.get? b = some o := fun b o e => hsb₁.extBut b o (Nat.ne_of_lt (Heap.lt_size e)) (Heap.get?_push_of_some _ e)
  have nofs : ∀ b ∈ fp, b ∉ frs X.stack := fun b hb z => (List.mem_cons.mp (I3.stkSub b z)).elim (f3 b hb).2.1 (f3 b hb).2.2.1
  have hst1 : tn 0 h₁ := T.keep _ _ _ st2 fun b _ o e => old3 b o (by rw [← hh3]; exact Heap.get?_push_of_some _ e)
  have e0 := I3.env0
  have ok : ∀ xe, (cxComp X scope cl e3.heap.objs.size (x :: fs) e3 H3 fp xe).Ok := fun xe => by
    refine ⟨I3.ok.mod, S.kind, I3.ok.glob, I3.ok.blt, Nat.le_refl _, fun y z c h1 h2 => I3.ok.inj y z c (c1 _ _ h1) (c1 _ _ h2), fun y hy => ?_, fun y c z => ?_, I3.ok.hd, I3.ok.frames, .inl rfl, fun b hb => ⟨?_, fun y c e => (f3 b hb).2.2.2.2.1 y c (c1 _ _ e)⟩, e0.bs, e0.bsz, fun b o e hb => ?_, nofs, e0.funs, e0.frf⟩
    · have q : scope.names.lookup y = some .free ∨ scope.names.lookup y = some .cell := by
        rcases hy with hy | hy
        · exact relabel_kind hy (.inl rfl)
        · exact relabel_kind hy (.inr rfl)
      rcases q with q | q
      · exact c2 y (PySem.mem_of_lookup q)
      · exact absurd rfl (S.nocell _ (PySem.mem_of_lookup q))
    · cases z
    · exact Nat.ne_of_lt (Nat.lt_of_lt_of_le (live b hb) (by rw [sz3]; exact Nat.le_succ _))
    · rcases (f3 b hb).2.2.2.1 with z | z
      · exact I3.ok.noex b o e z
      · exact absurd (Nat.lt_of_lt_of_le (Heap.lt_size e) (Nat.le_trans I3.ok.bsz z)) (Nat.lt_irrefl _)
  have cellUp : ∀ c v, e3.heap.IsCell c v → h₁.IsCell c v := fun c v ⟨o, ho, hd⟩ => ⟨o, old3 _ _ ho, hd⟩
  have J0 : ∀ xe, Inv (cxComp X scope cl e3.heap.objs.size (x :: fs) e3 H3 fp xe) [] (none :: ix.map fun i => (σ[i]?).join) H3 { e3 with heap := h₁, toks := e3.toks + ([] : List (Str × Value)).length } := fun xe => by
    have hk : ∀ b o, e3.heap.get? b = some o → h₁.get? b = some o := old3
    refine ⟨ok xe, rfl, I3.bare, Un.kept hk, ⟨_, hns₁, fun i y v h1 h2 h3 => ?_⟩, fun y c e => ?_, I3.hok.fresh (Nat.le_refl _), fun y c e => I3.freeC y c (c1 _ _ e), fun p hp => absurd (show p ∈ ([] : List (Addr × Obj)) from hp) (by simp), I3.hok.kept hk, ?_⟩
    · cases i with
      | zero => cases h2
      | succ i =>
        have h1 : fs[i]? = some y := h1
        have h2 : (ix.map fun i => (σ[i]?).join)[i]? = some (some v) := h2
        have hy := S.fs y (List.mem_of_getElem? h1)
        rw [List.getElem?_map] at h2
        cases ej : ix[i]? with
        | none => rw [ej] at h2; cases h2
        | some j =>
          rw [ej] at h2
          have h2 : (σ[j]?).join = some v := Option.some.inj h2
          have hσ : σ[j]? = some (some v) := by
            cases q : σ[j]? with
            | none => rw [q] at h2; cases h2
            | some o => rw [q] at h2; cases o with
              | none => cases h2
              | some o => cases h2; rfl
          have hN : X.N[j]? = some y := by
            have z := congrArg (·[i]?) hix
            simp only [List.getElem?_map, ej, h1, Option.map_some] at z
            exact Option.some.inj z
          have kf := S.fr _ (PySem.mem_of_lookup hy) rfl
          obtain ⟨m, hn, hl⟩ := I3.loc
          obtain ⟨u, r, l⟩ := hl j y v hN hσ (by rcases kf with k | k; exact .inr (.inl k); exact .inr (.inr k))
          refine ⟨u, r, .inr ⟨relabel_free hy, ?_⟩⟩
          rcases l with ⟨l, _⟩ | ⟨_, c, e, z⟩
          · rcases kf with k | k <;> (rw [l] at k; cases k)
          · obtain ⟨c', e'⟩ := c2 y (PySem.mem_of_lookup hy)
            have q := c1 _ _ e'
            rw [e] at q; cases q
            exact ⟨c, e', cellUp _ _ z⟩
    · obtain ⟨v, z⟩ := I3.cell y c (c1 _ _ e)
      exact ⟨v, cellUp _ _ z⟩
    · have z := congrArg List.length hix
      simp only [List.length_map] at z
      show (none :: _ : St).length = (x :: fs).length
      simp only [List.length_cons, List.length_map, z]
  have back : ∀ {xe σ' H' s'}, Inv (cxComp X scope cl e3.heap.objs.size (x :: fs) e3 H3 fp xe) [] σ' H' s' → Inv X pins σ H' s' := fun {xe σ' H' s'} J =>
    I3.call' (s' := s') (ch := fp) J.os J.base J.hok J.bare fun b hb => ⟨(f3 b hb).2.2.2.1, (f3 b hb).2.1, (f3 b hb).2.2.2.2.1, (f3 b hb).2.2.2.2.2⟩
  have stat : ∀ {xe} {H' : Hp}, (∀ b ∈ fp, H' b = none) → ∀ b ∈ fp, FpOk (cxComp X scope cl e3.heap.objs.size (x :: fs) e3 H3 fp xe) [] H' b := fun {xe H'} hn b hb =>
    ⟨hn b hb, Nat.ne_of_lt (Nat.lt_of_lt_of_le (live b hb) (by rw [sz3]; exact Nat.le_succ _)), nofs b hb, .inl hb, fun y c e => (f3 b hb).2.2.2.2.1 y c (c1 _ _ e), fun p hp => absurd (show p ∈ ([] : List (Addr × Obj)) from hp) (by simp)⟩
  have loop : ∀ s4 : Shared, s4 = { e3 with heap := h₁, toks := e3.toks + ([] : List (Str × Value)).length } →
      codeAny (model X.prog X.w) X.A (.compLoop (.ListComp elt [⟨tg, iter, ifs, 0⟩] scope pos) 0 (.ref it) (.ref s2.heap.objs.size) (compEnvC scope cl e3.heap.objs.size X.env)) (RR (.ref s2.heap.objs.size) e3.heap.objs.size) s4 := by
    rintro s4 rfl
    let xe := notedBy (model X.prog X.w) X.A (compEnvC scope cl e3.heap.objs.size X.env) fun e s' => RR (.ref s2.heap.objs.size) e3.heap.objs.size (.error e) s'
    refine compLoop_turn (fun n s' => ∃ i ys σ' H', Inv (cxComp X scope cl e3.heap.objs.size (x :: fs) e3 H3 fp xe) [] σ' H' s' ∧ tn i s'.heap ∧ (∀ b ∈ fp, H' b = none) ∧ W i n ys σ' H') ?_ m0 ⟨0, [], _, _, J0 xe, hst1, fun b hb => (f3 b hb).1, w0⟩
    rintro n s5 ⟨i, ys, σ5, H5, J5, st5, fr5, w5⟩
    rcases turn i n ys σ5 H5 w5 with ⟨stop, qn⟩ | ⟨go, N, hN, step⟩
    · refine thn (T.done (cxComp X scope cl e3.heap.objs.size (x :: fs) e3 H3 fp xe) rfl rfl rfl hc i [] s5 σ5 H5 xe J5 (stat fr5) st5 stop) fun r s6 ⟨hr, J6⟩ => ?_
      subst hr
      obtain ⟨m, hn, _⟩ := J6.loc
      exact fin _ _ H5 s6 (back J6) qn ⟨m, hn⟩ ⟨J6.free, C0.2⟩
    · refine thn (T.item (cxComp X scope cl e3.heap.objs.size (x :: fs) e3 H3 fp xe) rfl rfl rfl hc i [] s5 σ5 H5 xe J5 (stat fr5) st5 go) fun r s6 ⟨u, hr, h6⟩ => ?_
      subst hr
      refine thn h6 fun _ s7 ⟨y, H7, J7, r7, y7, st7, fr7⟩ => ?_
      have J7' := J7.pinned (stat fr7) (T.obj _ _ st7)
      refine thn (hg _ _ _ xe _ s7 σ5 H7 y u _ J7' r7 (step y H7 y7)) fun _ s8 ⟨σ8, H8, J8, q8⟩ => ?_
      refine thn (hf _ _ _ xe _ s8 σ8 H8 _ J8 q8) fun ok s8' ⟨H8', J8', q8'⟩ => ?_
      cases ok with
      | false =>
        obtain ⟨m', hm', w9⟩ := hN _ _ _ (by simpa using q8')
        refine ⟨m', hm', i + 1, ys, σ8, _, J8'.unpinned, T.keep _ _ _ st7 fun b hb o e => (J8'.pin (b, o) (List.mem_append_right _ (List.mem_append_right _ (mem_pinsAt hb e)))).1, fun b hb => ?_, w9⟩
        obtain ⟨o, e, d⟩ := T.obj _ _ st7 b hb
        exact (J8'.pin (b, o) (List.mem_append_right _ (List.mem_append_right _ (mem_pinsAt hb e)))).2.1
      | true =>
      rw [if_pos rfl] at q8' ⊢
      refine thn (he _ _ _ xe _ s8' σ8 H8' _ J8' q8') fun uv s9 ⟨v, H9, J9, r9, hD9, hl9, n9⟩ => ?_
      obtain ⟨m', hm', w9⟩ := hN _ _ _ n9
      refine thn (mt_append (X := cxComp X scope cl e3.heap.objs.size (x :: fs) e3 H3 fp xe) _ s9 σ8 H9 (.ref s2.heap.objs.size) [v] _ [uv] (fun _ H' => H' = upd H9 s2.heap.objs.size (.lst (ys ++ [v]))) J9 rfl (.cons r9 .nil) ⟨_, ys, v, rfl, rfl, hD9, hl9, rfl⟩) fun _ s10 ⟨_, H10, J10, _, eH⟩ => ?_
      subst eH
      refine ⟨m', hm', i + 1, ys ++ [v], σ8, _, J10.unpinned, T.keep _ _ _ st7 fun b hb o e => (J10.pin (b, o) (List.mem_append_right _ (List.mem_append_right _ (mem_pinsAt hb e)))).1, fun b hb => ?_, w9⟩
      obtain ⟨o, e, d⟩ := T.obj _ _ st7 b hb
      exact (J10.pin (b, o) (List.mem_append_right _ (List.mem_append_right _ (mem_pinsAt hb e)))).2.1
  subst he3
  exact codeAny_compStart_list (loop _ rfl) (T.self X.A 0 _ _ _ hst1 (loop _ rfl))
theorem CompSc.clos {pins : List (Addr × Obj)} {σ : St} {H : Hp} {s : Shared} {scope : Scope} {x : Str} {fs : List Str} (S : CompSc scope X.env x fs) (I : Inv X pins σ H s) :
    ∃ cl, closureFor scope X.env = pure cl ∧ (∀ n c, cl.lookup n = some c → X.env.cells.lookup n = some c) ∧ ∀ n, (n, NameKind.free) ∈ scope.names → ∃ c, cl.lookup n = some c :=
  closure_of fun n hn => I.ok.has n (S.fr _ hn rfl)
/-- [elt for tg in iter], its value kept -/
theorem pe_comp {tg iter elt : Expr} {ifs : List Expr} {scope : Scope} {pos : Pos} {x : Str} {fs : List Str} {ix : List Nat} {wi : TI} {g : TG} {tt : TT} {te : TE} (hc : X.calm = true) (hi : PI X tg iter wi) (hk : compChk scope X.env x fs = true) (hix : ix.map (X.N[·]?) = fs.map some)
    (hg : ∀ cl C s₀ H₀ fp xe, PG (cxComp X scope cl C (x :: fs) s₀ H₀ fp xe) tg g) (hf : ∀ cl C s₀ H₀ fp xe, PF (cxComp X scope cl C (x :: fs) s₀ H₀ fp xe) ifs tt) (he : ∀ cl C s₀ H₀ fp xe, PE (cxComp X scope cl C (x :: fs) s₀ H₀ fp xe) elt te) (hs : ∀ x, foldedSetIterable iter X.env x = pure x := by intro _; rfl) :
    PE X (.ListComp elt [⟨tg, iter, ifs, 0⟩] scope pos) (tComp wi ix g tt te .mk) := by
  intro pins s σ H Q I h
  have S := CompSc.of hk
  obtain ⟨cl, hcl, c1, c2⟩ := S.clos I
  rw [eval_ListComp]
  refine wpAny_comprehension_free (use := none) rfl hs hcl S.kind S.own (thn (hi pins s σ H _ I h) fun v s1 h1 => thn h1 fun itv s2 h2 => ?_)
  obtain ⟨it, fp, tn, J, H2, e, I2, T, st2, f2, q⟩ := h2
  subst e
  refine comp_block (RR := fun acc C => compPost (model X.prog X.w) X.A X.xe none (EP X pins σ Q) acc C) I2 T st2 f2 hc S c1 c2 hix (fun C s₀ H₀ xe => hg cl C s₀ H₀ fp xe) (fun C s₀ H₀ xe => hf cl C s₀ H₀ fp xe) (fun C s₀ H₀ xe => he cl C s₀ H₀ fp xe) q fun D C H' s' I' q' ⟨m, hn⟩ ⟨f0, f1, _, f3, f4, f5⟩ => ?_
  exact ⟨m, hn, fun h' hs' => ⟨.ref D, H', I'.turned (t' := s'.toks) (fun b o hb e => (hs'.2 b hb).trans e) f0 f1 f3 f4 f5, rfl, q'⟩⟩
/-- y = [elt for tg in iter], y a local name of its own -/
theorem ps_setC {tg iter elt : Expr} {ifs : List Expr} {scope : Scope} {pos spos py : Pos} {x y : Str} {i : Nat} {fs : List Str} {ix : List Nat} {wi : TI} {g : TG} {tt : TT} {te : TE} (hN : X.N.Nodup) (hy : X.N[i]? = some y) (hl : X.env.kindOf y = some .local) (hc : X.calm = true) (hi : PI X tg iter wi)
    (hk : compChk scope X.env x fs = true) (hix : ix.map (X.N[·]?) = fs.map some)
    (hg : ∀ cl C s₀ H₀ fp xe, PG (cxComp X scope cl C (x :: fs) s₀ H₀ fp xe) tg g) (hf : ∀ cl C s₀ H₀ fp xe, PF (cxComp X scope cl C (x :: fs) s₀ H₀ fp xe) ifs tt) (he : ∀ cl C s₀ H₀ fp xe, PE (cxComp X scope cl C (x :: fs) s₀ H₀ fp xe) elt te)
    (hsw : swapsWith (.ListComp elt [⟨tg, iter, ifs, 0⟩] scope pos) (some (.Name y py)) spos.line X.env = pure true := by rfl) (hs : ∀ x, foldedSetIterable iter X.env x = pure x := by intro _; rfl) :
    PS X (.Assign [.Name y py] (.ListComp elt [⟨tg, iter, ifs, 0⟩] scope pos) spos) (tAsg (tComp wi ix g tt te .mk) (gName i)) := by
  intro pins s σ H D I h
  have S := CompSc.of hk
  obtain ⟨cl, hcl, c1, c2⟩ := S.clos I
  rw [exec_Assign_Name_used _ _ _ _ hsw]
  refine wpAny_bind (wpAny_standAt (wpAny_bind ?_))
  show wpAny _ X.A (do let _ ← comprehension (.ListComp elt [⟨tg, iter, ifs, 0⟩] scope pos) scope X.env _ (newList []) false (eval iter X.env) (some (assign (.Name y py) X.env))) _ _ s
  refine wpAny_bind (wpAny_mono (wpAny_comprehension_free (use := some (assign (.Name y py) X.env)) (Q := fun _ s' => SP X pins D .next s') rfl hs hcl S.kind S.own
    (thn (hi pins s σ H _ I h) fun v s1 h1 => thn h1 fun itv s2 h2 => ?_)) (fun _ s' hq => wpAny_pure (wpAny_pure hq)) fun _ _ e => e)
  obtain ⟨it, fp, tn, J, H2, e, I2, T, st2, f2, q⟩ := h2
  subst e
  refine comp_block (RR := fun acc C => compPost (model X.prog X.w) X.A X.xe (some (assign (.Name y py) X.env)) (fun _ s' => SP X pins D .next s') acc C) I2 T st2 f2 hc S c1 c2 hix (fun C s₀ H₀ xe => hg cl C s₀ H₀ fp xe) (fun C s₀ H₀ xe => hf cl C s₀ H₀ fp xe) (fun C s₀ H₀ xe => he cl C s₀ H₀ fp xe) q
    fun D' C H' s' I' q' ⟨m, hn⟩ ⟨f0, f1, _, f3, f4, f5⟩ => ?_
  show wpAny _ X.A (assign (.Name y py) X.env (.ref D')) _ _ _
  refine wpAny_assign_Name (store_ok2 (v := .ref D') I' hN hy (.inl hl) rfl (fun s'' I'' ⟨a, sb, ha⟩ => ?_) (.inr hl))
  have hne : C ≠ a := by
    rcases ha with ha | ha
    · rw [ha]; exact f1
    · exact fun z => f4 _ _ ha z.symm
  exact ⟨m, hn.sameBut sb hne, fun h' hs' => ⟨_, H', I''.turned (t' := s''.toks) (fun b o hb e => (hs'.2 b hb).trans e) f0 f1 f3 f4 f5, q'⟩⟩
end
end L2
namespace L2
open PySem PySem.Spec PyProof.Rows
/-! ### for i, x in enumerate(list) -/
section
variable {X : Cx} {pins : List (Addr × Obj)} {σ : List (Option V)} {H H' : Hp} {s : Shared} {h' : Heap}
/-- untracked records of ours have turned -/
theorem Inv.turnedL {t' : Nat} {ch : List Addr} (I : Inv X pins σ H s) (k : ∀ b o, b ∉ ch → s.heap.get? b = some o → h'.get? b = some o) (hf : ∀ b ∈ ch, FpOk X pins H b) : Inv X pins σ H { s with heap := h', toks := t' } := by
  have nit : ∀ b u, H b = some u → b ∉ ch := fun b u e z => by rw [(hf b z).1] at e; cases e
  refine I.step (g' := s.gens) (d' := s.drawn) (ch := ch) (fun b hb => ⟨(hf b hb).2.2.2.1, (hf b hb).2.1, (hf b hb).2.2.2.2.1, (hf b hb).2.2.2.2.2⟩) (fun b o _ _ hc e _ => k b o hc e) (fun b o _ _ hc e _ => ⟨o.slots, k b o hc e⟩) (fun _ _ _ _ n => n)
    (fun b o hc e => ⟨o, k b o hc e⟩) (fun _ _ e => e) (fun _ _ _ e => e) (fun b ps e => ⟨#[], by rw [e]; simp⟩) (fun m hm => ?_) (fun b u e => ?_) I.bare
  · obtain ⟨o, es, ep, ho, r⟩ := hm
    exact ⟨o, es, ep, k _ o (fun z => (hf _ z).2.1 rfl) ho, r⟩
  · refine (I.hok b u e).stay (fun c v hc q => k c v ?_ q) (fun _ q => q) fun _ _ q => q
    rcases hc with z | z
    · rw [z]; exact nit b u e
    · exact nit c _ z
end
def Ite (K : PySem.W.Frag) (a : Addr) : It :=
  ⟨fun i H => ∃ xs x, SqL K H a xs ∧ xs[i]? = some x, fun i H v H' => ∃ t x, v = .ref t ∧ H t = none ∧ H' = upd H t (.tup [.int i, x]) ∧ ∀ xs, SqL K H a xs → xs[i]? = some x, fun i H => ∃ xs, SqL K H a xs ∧ xs.length ≤ i⟩
theorem turn_enum {P : Program} {w : World} {K : PySem.W.Frag} {elts : List Expr} {x1} {pos : Pos} (a e it : Addr) (hne : e ≠ it) :
    Turn P w K (.Tuple elts x1 pos) (Ite K a) [e, it] e (fun i h => (∃ old, IsEnum h e it i old) ∧ h.IsListIter it a i) where
  mem := by simp
  obj := fun i h st b hb => by
    obtain ⟨⟨old, he⟩, o, ho, c, d⟩ := st
    have hb : b = e ∨ b = it := by simpa using hb
    rcases hb with rfl | rfl
    · exact ⟨_, he, fun v z => by
        have z' : Data.fields _ = Data.cell v := z
        cases z'⟩
    · exact ⟨o, ho, fun v z => by rw [d] at z; cases z⟩
  keep := fun i h h' st k => ⟨let ⟨old, he⟩ := st.1; ⟨old, k e (by simp) _ he⟩, st.2.at fun o q => k it (by simp) o q⟩
  item := by
    intro X hP hw hK hc i pins s σ H E I hf st hg
    subst hP hw hK
    obtain ⟨xs, x, hq, hx⟩ := hg
    obtain ⟨its, rv, p, hz⟩ := I.list hq
    obtain ⟨u, hu, ru⟩ := rv.get hx
    obtain ⟨⟨old, he⟩, hit⟩ := st
    refine wpAny_pyNext_enum_item he hit p.isList (x := u) (by simpa using hu) hne fun h1 eo hit1 ht hsz kk => ?_
    refine ⟨_, rfl, wpAny_letOwnedTupleGo_enum eo fun h2 en sb => ?_⟩
    have hT : H s.heap.objs.size = none := I.hok.fresh (Nat.le_refl _)
    have hef : e ≠ s.heap.objs.size := Nat.ne_of_lt (Heap.lt_size he)
    have hif : it ≠ s.heap.objs.size := Nat.ne_of_lt (let ⟨_, ho, _⟩ := hit; Heap.lt_size ho)
    have ht2 : h2.get? s.heap.objs.size = some { cls := .type "tuple", data := .seq #[.int i s.toks, u] } := (sb.2 _ (Ne.symm hef)).trans ht
    have I1 : Inv X pins σ (upd H s.heap.objs.size (.tup [.int i, x])) { s with heap := s.heap.push { cls := .type "tuple", data := .seq #[.int i s.toks, u] } } :=
      I.laid (t' := s.toks) (fun b o q => Heap.get?_push_of_some _ q) (Nat.le_refl _) ⟨by show 2 ≤ sizeLine; decide, [.int i s.toks, u], .cons ⟨_, rfl⟩ (.cons ru .nil), ⟨_, Heap.get?_push_size _ rfl, rfl, _, rfl⟩⟩
    have hf1 : ∀ b ∈ [e, it], FpOk X pins (upd H s.heap.objs.size (.tup [.int i, x])) b := fun b hb => by
      refine ⟨?_, (hf b hb).2⟩
      have hb' : b = e ∨ b = it := by simpa using hb
      rw [upd_ne (by rcases hb' with rfl | rfl; exact hef; exact hif)]
      exact (hf b hb).1
    have I2 : Inv X pins σ (upd H s.heap.objs.size (.tup [.int i, x])) { s with heap := h2, toks := s.toks + 1 } := by
      have J := Inv.turnedL (t' := s.toks + 1) (h' := h2) (ch := [e, it]) I1 ?k hf1
      · exact J
      intro b o hb q
      dsimp only at q
      have hb1 : b ≠ e := fun z => hb (by simp [z])
      have hb2 : b ≠ it := fun z => hb (by simp [z])
      rcases PySem.Heap.get?_push_cases q with ⟨rfl, rfl⟩ | q
      · exact ht2
      · exact (sb.2 b hb1).trans (kk b o hb1 hb2 q)
    refine ⟨.ref s.heap.objs.size, _, I2, rfl, ⟨_, x, rfl, hT, rfl, fun ys hy => by rw [I.list_inj hy hq]; exact hx⟩, ⟨⟨_, en⟩, hit1.extBut sb.extBut (Ne.symm hne)⟩, fun b hb => (hf1 b hb).1⟩
  done := by
    intro X hP hw hK hc i pins s σ H E I hf st hg
    subst hP hw hK
    obtain ⟨xs, hq, hx⟩ := hg
    obtain ⟨its, rv, p, hz⟩ := I.list hq
    obtain ⟨⟨old, he⟩, hit⟩ := st
    obtain ⟨f0, f1, f2, f3, f4, f5⟩ := hf it (by simp)
    have hl := rv.length
    exact wpAny_pyNext_enum_end (I.ok.hd hc) he hit p.isList (by simp; omega) fun h' eb => ⟨rfl, I.turned (t' := s.toks) (fun b o hb e => eb b o hb e) f0 f1 f3 f4 f5⟩
  self := fun _ _ _ _ _ st h => let ⟨_, he⟩ := st.1; wpAny_pyIter_enum he h
section
variable {X : Cx}
def iEnum (K : PySem.W.Frag) (ta : TA) : TI := fun σ H R => ta σ H fun vs H1 => ∃ a, vs = [.ref a] ∧ (∃ xs, SqL K H1 a xs) ∧ R (Ite K a) H1
theorem boot_enum : bootBuiltins "enumerate" = some (.type "enumerate") := by decide +kernel
theorem pi_enum {e : Expr} {ta : TA} {p pos tpos : Pos} {elts : List Expr} {x1} (hg : Gl X "enumerate") (hm : X.mg "enumerate" = none) (ha : PA X [e] ta) (hs : starEach [e] X.env = [(false, eval e X.env)] := by rfl) :
    PI X (.Tuple elts x1 tpos) (.Call (.Name "enumerate" p) [e] [] pos) (iEnum X.K ta) := by
  intro pins s σ H R I h
  refine Call_ (ld_blt I hg hm boot_enum (PyProof.Rows.callWith_type1 (thn (ha pos pins s σ H _ I h) fun us s1 ⟨vs, H1, I1, r1, q1⟩ => ?_) hs rfl))
  obtain ⟨a, ev, ⟨xs, hq⟩, q⟩ := q1
  subst ev
  cases r1 with
  | cons r rr =>
    cases rr
    cases r
    obtain ⟨its, rv, pl, hz⟩ := I1.list hq
    refine call_enumerate_list pl.isList fun h' he hit hsz kk => wpAny_pyIter_enum he ?_
    have I2 : Inv X pins σ H1 { s1 with heap := h' } := I1.kept (t' := s1.toks) kk
    refine ⟨s1.heap.objs.size + 1, [s1.heap.objs.size + 1, s1.heap.objs.size], _, _, H1, rfl, I2, turn_enum a _ _ (Nat.ne_of_gt (Nat.lt_succ_self _)), ⟨⟨_, he⟩, hit⟩, fun b hb => ?_, q⟩
    have hb : b = s1.heap.objs.size + 1 ∨ b = s1.heap.objs.size := by simpa using hb
    have hle : s1.heap.objs.size ≤ b := by rcases hb with rfl | rfl; exact Nat.le_succ _; exact Nat.le_refl _
    exact I1.fpOk hle (I1.hok.fresh hle)
end
theorem loop_enum {K : PySem.W.Frag} {a : Addr} {xs : List V} {g : TG} {tb : TS} {h : HidF g tb} {D : Ends} {σ : St} {H : Hp} (Pv : Nat → St → Hp → Prop) (h0 : Pv 0 σ H) (hl : ∀ i σ H, i ≤ xs.length → Pv i σ H → SqL K H a xs)
    (hs : ∀ i x t σ H, xs[i]? = some x → Pv i σ H → H t = none → g (.ref t) σ (upd H t (.tup [.int i, x])) fun σ2 H2 => tb { D with nx := Pv (i + 1), ct := Pv (i + 1), bk := D.nx } σ2 H2) (hd : ∀ σ H, Pv xs.length σ H → D.nx σ H) : Loop g tb h (Ite K a) D σ H := by
  refine ⟨fun i m σ H => i + m = xs.length ∧ Pv i σ H, ⟨xs.length, Nat.zero_add _, h0⟩, fun i m σ H ⟨e, p⟩ => ?_⟩
  have hq := hl i σ H (by omega) p
  by_cases hi : i < xs.length
  · have ex : xs[i]? = some xs[i] := List.getElem?_eq_getElem hi
    refine .inr ⟨⟨xs, _, hq, ex⟩, Pv (i + 1), fun σ H q => ⟨m - 1, by omega, by omega, q⟩, ?_⟩
    rintro y H' ⟨t, x, rfl, ht, rfl, hy⟩
    exact hs i x t σ H (hy xs hq) p ht
  · have e' : i = xs.length := by omega
    subst e'
    exact .inl ⟨⟨xs, hq, Nat.le_refl _⟩, hd σ H p⟩
end L2
namespace L2
open PySem PySem.Spec PyProof.Rows
/-! ### d.setdefault(k, x) -/
section
variable {X : Cx} {pins : List (Addr × Obj)} {σ : St} {H : Hp} {s : Shared} {a : Addr} {kvs : List (Key × V)} {k : Key} {u r : Value} {z : V} {A : Around} {E : Value → Shared → Prop}
end
section
variable {X : Cx} {o e f : Expr} {apos cpos : Pos} {td ty tx : TE}
end
end L2
namespace L2
open PySem PySem.Spec PyProof.Rows
/-! ### a dict walked: it stands still meanwhile, and is thawed behind -/
section
variable {X : Cx} {pins : List (Addr × Obj)} {σ : List (Option V)} {H : Hp} {s : Shared} {a : Addr}
end
end L2
namespace L2
open PySem PySem.Spec PyProof.Rows
end L2
namespace L2
open PySem PySem.Spec PyProof.Rows
end L2
namespace L2
open PySem PySem.Spec PyProof.Rows
end L2
namespace L2
open PySem PySem.Spec PyProof.Rows
end L2
/-! MY LAYER, l: defs whose last parameters have defaults -/
namespace L2
open PySem PySem.Spec PyProof.Rows
structure FunD (K : PySem.W.Frag) (x qual : Str) (st : Stmt) (f : Addr) (fd : FuncData) : Prop where
  ex : ∃ (oc : Value) (od : Option Addr) (dV kV doc pm : Value) (an : Option Addr) (cdv ct : Value) (osl : Array (Option Value)),
    fd = PySem.W.fnOf x qual (defArgs st) (defBody st) (defScope st) dV kV doc pm an cdv ct ∧ K.lookup f = some ⟨oc, od, .func fd, osl⟩ ∧ PySem.W.codeIn K cdv qual = true
  kp : PySem.W.keepIn K (.ref f) = true
section
variable {P : Program} {w : World} {K : PySem.W.Frag} {mg : Str → Option Value} {base : Heap}
theorem FunD.okE {x qual : Str} {st : Stmt} {f : Addr} {fd : FuncData} {N ps : List Str} {k : Nat} {sp : Sp} (F : FunD K x qual st f fd) (S : FnScope N ps (defScope st)) (len : ∀ vs H Q E, sp vs H Q E → vs.length = ps.length)
    (hbody : Body P w K mg base qual st N k sp) : FnOk P w K mg base (CXe P w) (k + 1) f fd ps sp := by
  obtain ⟨oc, od, dV, kV, doc, pm, an, cdv, ct, osl, rfl, lk, hcd⟩ := F.ex
  exact fn_of lk hcd S len fun A outer s H vs Q E hr hsp => hbody f cdv A outer s H vs Q E hr hsp
def RawMD (K : PySem.W.Frag) (C : Addr) (m qual : Str) (st : Stmt) (ps : List Str) (dvs : List V) : Prop := ∃ f fd ds, Meth K C m f ∧ FunD K m qual st f fd ∧ Binds K fd ps ds ∧ Vals dvs ds
def RawID (K : PySem.W.Frag) (mg : Str → Option Value) (x : Str) (C : Addr) (qual : Str) (st : Stmt) (ps : List Str) (dvs : List V) : Prop := ∃ f fd ds, mg x = some (.ref C) ∧ Mk K C f ∧ FunD K "__init__" qual st f fd ∧ Binds K fd ps ds ∧ Vals dvs ds
theorem RawMD.have {C : Addr} {m qual : Str} {st : Stmt} {N ps : List Str} {dvs : List V} {k : Nat} {sp : Sp} (R : RawMD K C m qual st ps dvs) (S : FnScope N ps (defScope st)) (len : ∀ vs H Q E, sp vs H Q E → vs.length = ps.length)
    (hbody : Body P w K mg base qual st N k sp) : HaveM P w K mg base C m (k + 1) ps dvs sp :=
  let ⟨f, fd, ds, hm, F, hb, hd⟩ := R
  ⟨f, fd, ds, hm, hb, hd, F.okE S len hbody⟩
theorem RawID.have {C : Addr} {x qual : Str} {st : Stmt} {N ps : List Str} {dvs : List V} {k : Nat} {sp : Sp} (R : RawID K mg x C qual st ps dvs) (S : FnScope N ps (defScope st)) (len : ∀ vs H Q E, sp vs H Q E → vs.length = ps.length)
    (hbody : Body P w K mg base qual st N k sp) : HaveI P w K mg base x C (k + 1) ps dvs sp :=
  let ⟨f, fd, ds, hm, M, F, hb, hd⟩ := R
  ⟨f, fd, ds, hm, M, hb, hd, F.okE S len hbody⟩
end
end L2
namespace L2
open PySem PySem.Spec PyProof.Rows
end L2
namespace L2
open PySem PySem.Spec PyProof.Rows
end L2
namespace L2
open PySem PySem.Spec PyProof.Rows
/-! ### a list or a tuple read at a place, within a comprehension -/
def rIx2 (K : PySem.W.Frag) : R2 := fun x y H Q => rIxL K x y H Q ∨ rIxT K x y H Q
theorem ix_two {X : Cx} : IxR X (rIx2 X.K) := ix_list.or ix_tup
section
variable {X : Cx}
end
theorem Vals.at {xs : List V} {us : List Value} (r : Vals xs us) (m : Nat) (h1 : m < xs.length) (h2 : m < us.length) : RelV xs[m] us[m] := by
  obtain ⟨u, hu, ru⟩ := r.get (List.getElem?_eq_getElem h1)
  rw [List.getElem?_eq_getElem h2] at hu
  cases hu
  exact ru
end L2
namespace L2
open PySem PySem.Spec PyProof.Rows
/-! ### None in a list of None and tuples; its place -/
def isN : V → Bool
  | .non => true
  | _ => false
def NTup (K : PySem.W.Frag) (H : Hp) (x : V) : Prop := x = .non ∨ ∃ a xs, x = .ref a ∧ SqT K H a xs
def nU : Value → Bool
  | .none => true
  | _ => false
theorem nU_of {K : PySem.W.Frag} {H : Hp} {x : V} {u : Value} (h : NTup K H x) (r : RelV x u) : nU u = isN x := by
  rcases h with rfl | ⟨a, xs, rfl, _⟩
  · cases r; rfl
  · cases r; rfl
theorem nU_eqAt {X : Cx} {pins : List (Addr × Obj)} {σ : St} {H : Hp} {s : Shared} (I : Inv X pins σ H s) {A : Around} (hu : A.units < cLine) : ∀ {xs : List V} {us : List Value}, Vals xs us → (∀ x ∈ xs, NTup X.K H x) → ∀ u ∈ us, SeqAt.EqAt A s u .none (nU u)
  | _, _, .nil, _ => fun u hu => by cases hu
  | x :: xs, u :: us, .cons r t, h => fun u' hu' => by
    rcases List.mem_cons.mp hu' with rfl | hu'
    · rcases h x (List.mem_cons_self ..) with rfl | ⟨a, ys, rfl, hs⟩
      · cases r
        exact SeqAt.EqAt.same _
      · cases r
        obtain ⟨its, r, p, hz⟩ := I.tuple hs
        intro prog w E Q hq
        unfold eqBool
        refine wpAny_holding ?_
        refine wpAny_ite_split (fun hab => absurd (eq_of_beq hab) (fun z => nomatch z)) (fun _ => ?_)
        exact wpAny_bind (SeqAt.RcAt.tuple_none (A := A) (s := s) (show s.heap.IsTuple a its.toArray from p) hu prog w E _ (wpAny_truthy_bool hq))
    · exact nU_eqAt I hu t (fun z hz => h z (List.mem_cons_of_mem _ hz)) u' hu'
def rIndexN (K : PySem.W.Frag) : V → List V → Hp → VK → Prop := fun x vs H Q => ∃ l xs j, x = .ref l ∧ vs = [.non] ∧ SqL K H l xs ∧ (∀ z ∈ xs, NTup K H z) ∧ xs.findIdx? isN = some j ∧ Q (.int j) H
theorem mt_indexN {X : Cx} (hu : X.A.units + 4 + 2 < cLine) : MtR X "list.index" (rIndexN X.K) := by
  intro pins s σ H x vs v us Q I rx rv h
  obtain ⟨l, xs, j, rfl, rfl, hq, hn, hj, q⟩ := h
  cases rx
  obtain ⟨u, rfl, ru⟩ := rv.one
  cases ru
  obtain ⟨its, r, pl, hz⟩ := I.list hq
  obtain ⟨⟨cls, dd, data, sl⟩, ho, hc, n, hd⟩ := pl.isList
  simp only at hc hd
  subst hc hd
  obtain ⟨hjl, hit, hno⟩ := List.findIdx?_eq_some_iff_getElem.mp hj
  have hl := r.length
  have eqx : ∀ m (h1 : m < xs.length) (h2 : m < its.length), nU its[m] = isN xs[m] := fun m h1 h2 => nU_of (hn _ (List.getElem_mem h1)) (r.at m h1 h2)
  refine call_meets F.slot_list_index ⟨_, ho, rfl⟩ F.entry_list_index (F.args_list_index_2 _ _) (SeqAt.list_indexAt l its.toArray n dd sl .none nU j (by simp; omega) (by have := line63; omega) ?_ ?_) ⟨ho, fun w hw => nU_eqAt I ?_ r hn w (by simpa using hw), ⟨.int j, H, I.tok _, ⟨_, rfl⟩, q⟩⟩
  · simp only [List.getElem_toArray]
    rw [eqx j hjl (by omega)]
    exact hit
  · intro m hm hmj
    simp only [List.size_toArray] at hm
    simp only [List.getElem_toArray]
    rw [eqx m (by omega) hm]
    simpa using hno m hmj
  · show X.A.units + 1 < cLine
    omega
/-! ### len of a dict with keys that are tuples -/
theorem meets_lenE {prog : Program} {w : World} {d : Addr} (hd : (d == sysModules) = false) : MeetsIn prog w (Builtin.«dict.__len__» ⟨[.ref d], []⟩) (fun _ R s => ∃ o es ep, s.heap.get? d = some o ∧ o.data = .dict es ep ∧ R (.ok (.ret (.int es.size s.toks))) { s with toks := s.toks + 1 }) :=
  .of_wp fun A R s ⟨o, es, ep, ho, hdat, h⟩ => by
    show wpAny _ _ (dictSize d >>= _) _ _ s
    unfold dictSize
    refine wpAny_bind (wpAny_bind (wpAny_dictEntries ho hdat (wpAny_pure ?_)))
    show wpAny _ _ (Builtin.Dict.pendingCount d >>= _) _ _ s
    refine wpAny_bind (wpAny_pendingCount_other hd ?_)
    refine wpAny_ret_mkInt ?_
    rw [Nat.add_zero]; exact h
theorem call_lenE {prog : Program} {w : World} {A : Around} {E : Value → Shared → Prop} {s : Shared} {d : Addr} {o : Obj} {es : Array DictEntry} {ep : Nat} {Q : Value → Shared → Prop} (hd : (d == sysModules) = false) (ho : s.heap.get? d = some o) (hc : o.cls = .type "dict") (hdat : o.data = .dict es ep) (hfit : (es.size : Int) < 2 ^ 63)
    (h : Q (.int es.size (s.toks + 1)) { s with toks := s.toks + 1 + 1 }) : wpAny (model prog w) A (call (.builtin "len") [.ref d]) Q E s := by
  have hT : s.TypeIs (.ref d) "dict" := ⟨o, ho, hc⟩
  refine Calls.call_function_entry kind_len plain_len entry_len (args_len1 _) ?_
  unfold Builtin.«len»
  refine wpAny_bind (m := oneArg "len" _) (wpAny_pure ?_)
  refine wpAny_bind (m := callSpecial? (.ref d) (Str.ofString "__len__")) (wpAny_callSpecial?_slot (name := Str.ofString "__len__") hT F.slot_dict_len
    (call_meetsIn F.slot_dict_len hT F.entry_dict_len (F.args_dict_len_1 _) (meets_lenE hd) ⟨o, es, ep, ho, hdat, ?_⟩))
  show wpAny _ _ _ _ _ { s with toks := s.toks + 1 }
  refine wpAny_bind (wpAny_holding (wpAny_pure ?_))
  refine wpAny_bind (wpAny_letGo ?_)
  show wpAny _ _ (if ((es.size : Nat) : Int) < 0 then _ else _) _ _ _
  rw [if_neg (by omega)]
  show wpAny _ _ (if ((es.size : Nat) : Int) ≥ 2 ^ 63 then _ else _) _ _ _
  rw [if_neg (by omega)]
  exact wpAny_bind (wpAny_mkInt (wpAny_pure ⟨_, rfl, h⟩))
theorem call_lenDT {X : Cx} : CallR X (.builtin "len") (fun xs H Q => ∃ a kvs, xs = [V.ref a] ∧ H a = some (.dT kvs) ∧ Q (.int kvs.length) H) := by
  intro pins s σ H xs us Q I r h
  obtain ⟨a, kvs, rfl, ha, q⟩ := h
  obtain ⟨u, rfl, ru⟩ := vals1 r
  cases ru
  obtain ⟨z, hd, xs, rel, o, es, ep, ho, hc, hdat, he, _⟩ := dt_of I.hok ha
  have hs : es.size = kvs.length := by
    have e1 : es.size = xs.length := by rw [← Array.length_toList, he, List.length_map]
    rw [e1, ← rel.length]
  refine call_lenE hd ho hc.1 hdat (by rw [sizeLine_eq] at z; omega) ?_
  rw [hs]
  exact ⟨.int kvs.length, H, I.tok _, ⟨_, rfl⟩, q⟩
end L2
namespace L2
open PySem PySem.Spec PyProof.Rows
/-! ### d.pop(k) of a dict whose keys are tuples -/
theorem map_erase {α β : Type} {f : α → β} : ∀ {l : List α} {j : Nat}, (l.map f).eraseIdx j = (l.eraseIdx j).map f
  | [], _ => rfl
  | _ :: _, 0 => rfl
  | x :: l, j + 1 => congrArg (f x :: ·) (map_erase (l := l) (j := j))
section
variable {prog : Program} {w : World} {K : Type} [DecidableEq K] {knd : HeapKind prog w K} {A : Around} {E : Value → Shared → Prop} {s : Shared}
theorem takeOut_heap {d a : Addr} {xs : List (K × Addr × Value)} {k : K} {j : Nat} {p : Addr × Value} {Q : Option DictEntry → Shared → Prop} (hu : knd.room A) (hkey : knd.is s.heap k a) (hm : s.heap.DictOfH knd d xs) (hj : xs[j]? = some (k, p)) (hsz : xs.length ≤ sizeLine)
    (hQ : ∀ e h', e.val = p.2 → h'.DictOfH knd d (xs.eraseIdx j) → Heap.SameBut d s.heap h' → Q (some e) { s with heap := h', toks := s.toks + knd.draws k }) : wpAny (model prog w) A (Builtin.Dict.takeOut d (.ref a)) Q E s := by
  obtain ⟨o, es, ep, ho, hc, hd, he, his, hn⟩ := hm
  have hes := size_of_entries he
  unfold Builtin.Dict.takeOut
  try with_reducible refine wpAny_holding ?_
  refine wpAny_bind (knd.pyHash hu hkey ?_)
  refine wpAny_bind (wpAny_dictFind_heap (s := { s with toks := s.toks + knd.draws k }) hu hkey ho hd he his hn (fun hno => absurd hj (hno j p)) fun j' p' hj' => ?_)
  have ej : j' = j := idxH_unique hn hj' hj
  subst ej
  refine wpAny_bind (wpAny_dictEntries (s := { s with toks := s.toks + knd.draws k }) ho hd ?_)
  have ee : es[j']? = some (entryOfKey knd (k, p)) := by rw [entry_at he, hj]; rfl
  rw [ee]
  refine wpAny_bind (wpAny_updateDictKeys (hz := by omega) (s := { s with toks := s.toks + knd.draws k }) ho hd (wpAny_pure (hQ (entryOfKey knd (k, p)) _ rfl ⟨_, _, ep + 1, Heap.get?_update_self _ ho (Obj.isFreed_of_dict (Obj.data_mapDictKeys hd _)), hc.mapDictKeys _, Obj.data_mapDictKeys hd _, ?_, ?_, ?_⟩ (Heap.SameBut.update ..))))
  · have hlt : j' < es.size := by rw [hes]; exact (List.getElem?_eq_some_iff.mp hj).1
    simp [Array.eraseIdxIfInBounds, hlt, he, map_erase]
  · intro x hx
    exact knd.keeps (his x ((List.eraseIdx_sublist ..).subset hx)) ho hd (Heap.SameBut.update ..)
  · exact hn.sublist ((List.eraseIdx_sublist ..).map _)
theorem meets_popH {d a : Addr} : MeetsIn prog w (Builtin.«dict.pop» ⟨[.ref d, .ref a], []⟩) (fun A R s => knd.room A.in1 ∧ ∃ k xs j p, knd.is s.heap k a ∧ s.heap.DictOfH knd d xs ∧ xs.length ≤ sizeLine ∧ xs[j]? = some (k, p) ∧
      ∀ h', h'.DictOfH knd d (xs.eraseIdx j) → Heap.SameBut d s.heap h' → R (.ok (.ret p.2)) { s with heap := h', toks := s.toks + knd.draws k }) :=
  .of_wp fun A R s ⟨hu, k, xs, j, p, hkey, hm, hsz, hj, h⟩ => by
    unfold Builtin.«dict.pop»
    refine wpAny_bind ?_
    unfold Builtin.Dict.keyAndDefault
    refine wpAny_bind (wpAny_notOrdered_dict hm.typeIs ?_)
    show wpAny _ _ (pure (d, Value.ref a, none)) _ _ s
    refine wpAny_pure ?_
    obtain ⟨o, es, ep, ho, hc, hd, he, his, hn⟩ := id hm
    have hes := size_of_entries he
    have hne : es.isEmpty = false := by
      have hlt := (List.getElem?_eq_some_iff.mp hj).1
      cases hE : es.isEmpty with
      | false => rfl
      | true =>
        rw [Array.isEmpty_iff.mp hE] at hes
        have h0 : xs.length = 0 := by simpa using hes.symm
        omega
    have hk : (keyPart (.ref a)).isSome = false := rfl
    simp only [hk, Bool.false_eq_true, if_false]
    refine wpAny_bind (wpAny_dictEntries ho hd ?_)
    refine wpAny_bind (wpAny_pure ?_)
    rw [hne]
    simp only [Bool.false_eq_true, if_false]
    refine wpAny_bind (takeOut_heap hu hkey hm hj hsz fun e h' ev hm' hs' => ?_)
    simp only [Option.isNone_some, Bool.false_eq_true, if_false]
    exact wpAny_bind (wpAny_letGo (wpAny_pure ⟨e.val, rfl, by rw [ev]; exact h h' hm' hs'⟩))
end
theorem KT.erase {H : Hp} : ∀ {kvs : List (List Key × V)} {xs : List (List Key × Addr × Value)} (j : Nat), KT H kvs xs → KT H (kvs.eraseIdx j) (xs.eraseIdx j)
  | _, _, _, .nil => .nil
  | _, _, 0, .cons _ t => t
  | _, _, j + 1, .cons r t => .cons r (KT.erase j t)
theorem KT.find {H : Hp} {k : List Key} {v : V} : ∀ {kvs : List (List Key × V)} {xs : List (List Key × Addr × Value)}, KT H kvs xs → (xs.map (·.1)).Nodup → valV kvs k = some v → ∃ (j : Nat) (p : Addr × Value), xs[j]? = some (k, p) ∧ RelV v p.2 ∧ dropK kvs k = kvs.eraseIdx j
  | _, _, .nil, _, h => by cases h
  | kv :: kvs, x :: xs, .cons r t, hn, h => by
    obtain ⟨h1, h2⟩ := List.nodup_cons.mp hn
    by_cases c : kv.1 = k
    · rw [valV_pos c] at h
      refine ⟨0, x.2, ?_, ?_, ?_⟩
      · show some x = some (k, x.2)
        rw [← c, r.1]
      · cases h; exact r.2.2
      · have hk : ∀ y ∈ kvs, y.1 ≠ k := fun y hy e => by
          have hx : k ∈ xs.map (·.1) := by
            have : xs.map (·.1) = kvs.map (·.1) := by
              have aux : ∀ {a : List (List Key × V)} {b : List (List Key × Addr × Value)}, KT H a b → b.map (·.1) = a.map (·.1) := fun q => by
                induction q with
                | nil => rfl
                | cons r _ ih => rw [List.map_cons, List.map_cons, ih, r.1]
              exact aux t
            rw [this]
            exact List.mem_map.mpr ⟨y, hy, e⟩
          exact h1 (by show x.1 ∈ _; rw [← r.1, c]; exact hx)
        show (kv :: kvs).filter _ = kvs
        rw [List.filter_cons, if_neg (by simp [c]), List.filter_eq_self.mpr fun y hy => by simpa using hk y hy]
    · rw [valV_neg c] at h
      obtain ⟨j, p, e1, e2, e3⟩ := KT.find t h2 h
      refine ⟨j + 1, p, by simpa using e1, e2, ?_⟩
      show (kv :: kvs).filter _ = kv :: kvs.eraseIdx j
      rw [List.filter_cons, if_pos (by simp [c]), ← e3]
      rfl
theorem d_popT {X : Cx} {pins : List (Addr × Obj)} {σ : St} {H : Hp} {s : Shared} {a b : Addr} {kvs : List (List Key × V)} {k : List Key} {A : Around} {E : Value → Shared → Prop} {v : V} {Q : Value → Shared → Prop} (hu : A.units + 1 < cLine) (I : Inv X pins σ H s) (e : H a = some (.dT kvs)) (eb : H b = some (.tup (k.map kV))) (l : valV kvs k = some v)
    (h : ∀ w' s', Inv X pins σ (upd H a (.dT (dropK kvs k))) s' → RelV v w' → Q w' s') : wpAny (model X.prog X.w) A (call (.builtin "dict.pop") [.ref a, .ref b]) Q E s := by
  obtain ⟨z, hd, xs, rel, dd⟩ := dt_of I.hok e
  have hz : xs.length ≤ sizeLine := by rw [← Paired.length rel]; exact z
  have hn : (xs.map (·.1)).Nodup := let ⟨_, _, _, _, _, _, _, _, q⟩ := dd; q
  obtain ⟨j, p, hj, rv, ed⟩ := KT.find rel hn l
  refine call_meetsIn PySem.F.slot_dict_pop dd.typeIs PySem.F.entry_dict_pop (PySem.F.args_dict_pop_2 _ _) (meets_popH (knd := tupleKind (mixKind X.prog X.w))) ⟨tupleKind_room_in1 hu, k, xs, j, p, key_of I.hok eb, dd, hz, hj, fun h' dd' hs => h _ _ ?_ rv⟩
  obtain ⟨q, es, ep, hq, h2, h3, h4, _, h5⟩ := dd'
  refine d_write I (by rw [e]; exact True.intro) hs ⟨q, hq⟩ ⟨?_, hd, _, KT.keeps (ed ▸ KT.erase j rel) fun c ys ec => ?_, q, es, ep, hq, h2, h3, h4, h5⟩
  · exact Nat.le_trans (dropK_le kvs k) z
  · rw [upd_ne (ne_of ec e (fun z => nomatch z))]
    exact ec
def tDPopT (td ty : TE) : TE := fun σ H Q => td σ H fun x H1 => ∃ a, x = .ref a ∧ IsD H1 a ∧ ty σ H1 fun y H2 => ∃ kvs k v b, H2 a = some (.dT kvs) ∧ y = .ref b ∧ H2 b = some (.tup (k.map kV)) ∧ valV kvs k = some v ∧ Q v (upd H2 a (.dT (dropK kvs k)))
theorem pe_dpopT {X : Cx} {o e : Expr} {apos cpos : Pos} {td ty : TE} (hu : X.A.units + 1 < cLine) (ho : PE X o td) (he : PE X e ty) (m : M1 X o "pop" apos e cpos) : PE X (.Call (.Attribute o "pop" apos) [e] [] cpos) (tDPopT td ty) := by
  intro pins s σ H Q I h
  refine wpAny_Call_method m.base m.few m.line PySem.F.plainAttrs_dict PySem.F.slot_dict_pop PySem.F.type_dict_pop (thn (ho pins s σ H _ I h) fun u s1 ⟨x, H1, I1, rx, a, ex, d, q1⟩ => ?_)
  subst ex
  obtain rfl : u = Value.ref a := rx
  obtain ⟨t1, t2, _⟩ := isD_at I1 d
  refine ⟨t1, t2, ?_⟩
  rw [m.trees]
  refine Calls.callWith_builtin rfl (Calls.evalArgs_plain (Calls.spliced_cons (thn (he pins s1 σ H1 _ I1 q1) fun iv s2 ⟨y, H2, I2, ry, kvs, k, v, b, ea, ey, eb, l, q2⟩ => Calls.spliced_nil ?_)))
  subst ey
  cases ry
  exact d_popT hu I2 ea eb l fun w' s3 I3 rw' => ⟨v, _, I3, rw', q2⟩
end L2
namespace L2
open PySem PySem.Spec PyProof.Rows
/-! ### list(d) of a dict whose keys are tuples -/
def RawD (h : Heap) (d : Addr) (es : Array DictEntry) (ep : Nat) : Prop := ∃ o, h.get? d = some o ∧ o.ExactDict ∧ o.data = .dict es ep
theorem RawD.ty {s : Shared} {d : Addr} {es : Array DictEntry} {ep : Nat} (r : RawD s.heap d es ep) : s.TypeIs (.ref d) "dict" := let ⟨o, ho, hc, _⟩ := r; ⟨o, ho, hc.1⟩
theorem RawD.lt {h : Heap} {d : Addr} {es : Array DictEntry} {ep : Nat} (r : RawD h d es ep) : d < h.objs.size := let ⟨_, ho, _⟩ := r; Heap.lt_size ho
theorem RawD.kept {h h' : Heap} {d : Addr} {es : Array DictEntry} {ep : Nat} (r : RawD h d es ep) (k : ∀ o, h.get? d = some o → h'.get? d = some o) : RawD h' d es ep := let ⟨o, ho, q⟩ := r; ⟨o, k _ ho, q⟩
section
variable {prog : Program} {w : World} {A : Around} {E : Value → Shared → Prop} {s : Shared} {d it : Addr} {es : Array DictEntry} {ep i : Nat}
theorem raw_iter {Q : Value → Shared → Prop} (nd : (d == sysModules) = false) (r : RawD s.heap d es ep)
    (q : Q (.ref s.heap.objs.size) { s with heap := s.heap.push { cls := .type "dict_keyiterator", data := .fields #[.ref d, .int 0 0, .int es.size 0, .int ep 0] } }) : wpAny (model prog w) A (pyIter (.ref d)) Q E s := by
  obtain ⟨o, e0, ec, ed⟩ := id r
  refine wpAny_pyIter_slot r.ty PySem.F.slot_dict_iter (wpAny_call_entry PySem.F.slot_dict_iter r.ty PySem.F.entry_dict_iter ?_ (PySem.F.args_dict_iter_1 _))
  unfold Builtin.«dict.__iter__» Builtin.Dict.dictSlotNone Builtin.Dict.showsAll
  refine wpAny_bind (wpAny_bind (wpAny_notOrdered_dict r.ty (wpAny_pure ?_)))
  refine wpAny_bind (m := if d == sysModules then _ else _) ?_
  rw [if_neg (by rw [nd]; exact Bool.false_ne_true)]
  refine wpAny_pure (wpAny_bind (wpAny_dictEntries e0 ed (wpAny_bind (wpAny_dictEpoch e0 ed ?_))))
  exact wpAny_bind (wpAny_newObj_type (wpAny_pure ⟨_, rfl, "dict_keyiterator", _, ⟨_, Heap.get?_push_size _ rfl, rfl⟩, PySem.F.slot_dict_keyiterator_next.lookup, by simpa [rawInt] using q⟩))
theorem raw_next {Q : Option Value → Shared → Prop} (t : s.heap.IsKeyIter it d i es.size ep) (r : RawD s.heap d es ep) (hi : i < es.size)
    (q : ∀ h', h'.IsKeyIter it d (i + 1) es.size ep → Heap.SameBut it s.heap h' → Q (some es[i].key) { s with heap := h' }) : wpAny (model prog w) A (pyNext (.ref it)) Q E s := by
  obtain ⟨b, b0, bc, bd⟩ := id t
  obtain ⟨o, e0, ec, ed⟩ := id r
  unfold pyNext
  refine wpAny_bind (wpAny_attempt (wpAny_callSpecial?_slot (name := Str.ofString "__next__") t.typeIs PySem.F.slot_dict_keyiterator_next (wpAny_call_entry PySem.F.slot_dict_keyiterator_next t.typeIs PySem.F.entry_dict_keyiterator_next ?_ (PySem.F.args_dict_keyiterator_next_1 _))))
  refine wpAny_bind (wpAny_pure (wpAny_bind (wpAny_bind (wpAny_bind (wpAny_typeNameOfWhole_keyiter t.typeIs (wpAny_pure (wpAny_bind (wpAny_fieldsOf b0 bd ?_))))))))
  simp only [show Builtin.Dict_items.ownsTuple "dict_keyiterator" = false by decide, Bool.false_eq_true, if_false]
  show wpAny _ _ (if (Value.ref d == Value.none) = true then _ else _) _ _ s
  rw [if_neg (show ¬ ((Value.ref d == Value.none) = true) from Bool.false_ne_true)]
  refine wpAny_bind (wpAny_pure (wpAny_bind (wpAny_dictEntries e0 ed ?_)))
  rw [if_neg (by simp)]
  refine wpAny_bind (wpAny_pure (wpAny_bind (wpAny_dictEpoch e0 ed ?_)))
  rw [if_neg (by simp)]
  refine wpAny_pure ?_
  simp only [show ¬ ((i : Int) < 0) from by omega, if_false, Int.toNat_natCast, Array.getElem?_eq_getElem hi]
  refine wpAny_bind (wpAny_bind (wpAny_typeNameOfWhole_keyiter t.typeIs (wpAny_pure (wpAny_bind (wpAny_isOneOf_keyiter t.typeIs ?_)))))
  show wpAny _ _ (setField (.ref it) 1 (rawInt ((i : Int) + 1)) >>= _) _ _ s
  refine wpAny_bind (wpAny_setField b0 bd (by simp) ?_)
  have t2 : (s.heap.update it (Obj.mapFields (·.setIfInBounds 1 (rawInt ((i : Int) + 1))))).IsKeyIter it d (i + 1) es.size ep := ⟨_, Heap.get?_update_self _ b0 (Obj.isFreed_of_fields (Obj.data_mapFields bd _)), (Obj.cls_mapFields ..).trans bc, by rw [Obj.data_mapFields bd]; simp [rawInt]⟩
  refine wpAny_bind (wpAny_holding (wpAny_bind (wpAny_isOneOf_keyiter (s := { s with heap := s.heap.update it (Obj.mapFields (·.setIfInBounds 1 (rawInt ((i : Int) + 1)))) }) t2.typeIs ?_)))
  show wpAny _ _ (pure es[i].key) _ _ _
  exact wpAny_pure (wpAny_pure ⟨_, rfl, wpAny_pure (q _ t2 (Heap.SameBut.update ..))⟩)
theorem raw_end {Q : Option Value → Shared → Prop} (hh : A.handled = none) (t : s.heap.IsKeyIter it d es.size es.size ep) (r : RawD s.heap d es ep)
    (q : ∀ h', Heap.ExtBut it s.heap h' → Q none { s with heap := h' }) : wpAny (model prog w) A (pyNext (.ref it)) Q E s := by
  obtain ⟨b, b0, bc, bd⟩ := id t
  obtain ⟨o, e0, ec, ed⟩ := id r
  unfold pyNext
  refine wpAny_bind (wpAny_attempt (wpAny_callSpecial?_slot (name := Str.ofString "__next__") t.typeIs PySem.F.slot_dict_keyiterator_next (wpAny_call_entry PySem.F.slot_dict_keyiterator_next t.typeIs PySem.F.entry_dict_keyiterator_next ?_ (PySem.F.args_dict_keyiterator_next_1 _))))
  refine wpAny_bind (wpAny_pure (wpAny_bind (wpAny_bind (wpAny_bind (wpAny_typeNameOfWhole_keyiter t.typeIs (wpAny_pure (wpAny_bind (wpAny_fieldsOf b0 bd ?_))))))))
  simp only [show Builtin.Dict_items.ownsTuple "dict_keyiterator" = false by decide, Bool.false_eq_true, if_false]
  show wpAny _ _ (if (Value.ref d == Value.none) = true then _ else _) _ _ s
  rw [if_neg (show ¬ ((Value.ref d == Value.none) = true) from Bool.false_ne_true)]
  refine wpAny_bind (wpAny_pure (wpAny_bind (wpAny_dictEntries e0 ed ?_)))
  rw [if_neg (by simp)]
  refine wpAny_bind (wpAny_pure (wpAny_bind (wpAny_dictEpoch e0 ed ?_)))
  rw [if_neg (by simp)]
  refine wpAny_pure ?_
  simp only [show ¬ ((es.size : Int) < 0) from by omega, if_false, Int.toNat_natCast, Array.getElem?_eq_none (Nat.le_refl es.size)]
  refine wpAny_bind (wpAny_bind (wpAny_typeNameOfWhole_keyiter t.typeIs (wpAny_pure ?_)))
  show wpAny _ _ (setField (.ref it) 0 .none >>= _) _ _ s
  refine wpAny_bind (wpAny_setField b0 bd (by simp) ?_)
  show wpAny _ _ (newExc (.type "StopIteration") [] >>= _) _ _ _
  refine wpAny_bind ?_
  simp only [newExc, newTuple]
  refine wpAny_bind (wpAny_newObj_type (wpAny_bind (m := firstArgMember _ _) (wpAny_of_eq (a := Value.none) (by first | rfl | (simp only [firstArgMember]; rfl)) (wpAny_newObj_type ?_ (by size_fits)))) (by size_fits))
  simp only [raiseNew]
  refine wpAny_bind (wpAny_handled ?_)
  rw [show A.in1.handled = none from hh]
  refine wpAny_bind (wpAny_pure (wpAny_throw ?_))
  refine wpAny_bind (m := isInstance _ _) (wpAny_isInstance (b := true) (T := "StopIteration") ⟨_, Heap.get?_push_size _ rfl, rfl⟩ isSubtype_stop ?_)
  exact wpAny_pure (q _ (((Heap.SameBut.update ..).extBut.push _).push _))
theorem raw_walks (hh : A.handled = none) (I : Addr) (ne : d ≠ I) : Walks prog w A I [I, d] [I] es.size (fun i v => ∃ h : i < es.size, v = es[i].key) (fun i h => h.IsKeyIter I d i es.size ep ∧ RawD h d es ep) where
  sub := fun b hb => List.mem_cons.mpr (.inl (List.mem_singleton.mp hb))
  frame := fun _ _ _ x k => ⟨x.1.at fun o e => k I (List.mem_cons_self ..) o e, x.2.kept fun o e => k d (List.mem_cons_of_mem _ (List.mem_cons_self ..)) o e⟩
  item := fun i s Q E hi x q => raw_next x.1 x.2 hi fun h' t2 sb => q _ h' s.toks ⟨hi, rfl⟩ ⟨t2, x.2.kept fun o e => (sb.2 d ne).trans e⟩ fun b o hb e => (sb.2 b fun z => hb (List.mem_singleton.mpr z)).trans e
  done := fun s Q E x q => raw_end hh x.1 x.2 fun h' eb => q h' s.toks fun b o hb e => eb b o (fun z => hb (List.mem_singleton.mpr z)) e
  self := fun _ _ _ _ x q => wpAny_pyIter_keyiter x.1 q
theorem raw_src (nd : (d == sysModules) = false) : PySem.W.KdlSrc prog w "dict" d d es.size (fun i v => ∃ h : i < es.size, v = es[i].key) (fun h => RawD h d es ep) where
  type := fun _ r => r.ty
  there := fun _ r => ⟨r.lt, r.lt⟩
  keep := fun _ _ r k => r.kept fun o e => k d (.inl rfl) o e
  notList := by decide
  notTuple := by decide
  hint := fun _ _ _ _ r q => PySem.W.kdl_hint_dict r.ty q
  iter := fun _ _ hh r => ⟨_, _, (fun _ _ q => raw_iter nd r q), raw_walks hh _ (Nat.ne_of_lt r.lt), ⟨⟨_, Heap.get?_push_size _ rfl, rfl, rfl⟩, r.kept fun o e => Heap.get?_push_of_some _ e⟩⟩
end
end L2
namespace L2
open PySem PySem.Spec PyProof.Rows
section
variable {X : Cx}
end
end L2
namespace L2
open PySem PySem.Spec PyProof.Rows
end L2
namespace L2
open PySem PySem.Spec PyProof.Rows
end L2
namespace L2
open PySem PySem.Spec PyProof.Rows
/-! ### {k: v} where k is a tuple -/
def tDispT (tk tv : TE) : TE := fun σ H Q => ∀ p, H p = none → tk σ (upd H p (.dT [])) fun x H1 => tv σ H1 fun y H2 => H2 p = some (.dT []) ∧ ∃ b k, x = .ref b ∧ H2 b = some (.tup (k.map kV)) ∧ Q (.ref p) (upd H2 p (.dT [(k, y)]))
theorem pe_dispT {X : Cx} {pos : Pos} {k v : Expr} {tk tv : TE} (hu : X.A.units + 1 < cLine) (hk : PE X k tk) (hv : PE X v tv) : PE X (.Dict [some k] [v] pos) (tDispT tk tv) := by
  intro pins s σ H Q I q
  have hn := I.hok.fresh (Nat.le_refl s.heap.objs.size)
  have I1 := I.laid (a := s.heap.objs.size) (o := .dT []) (h' := s.heap.push { cls := .type "dict", data := .dict #[] }) (t' := s.toks) (fun _ _ q => Heap.get?_push_of_some _ q) (Nat.le_refl _) (dt_empty s.heap I.big)
  rw [arm_eval_Dict, zip_pairTrees [some k] [v] X.env pos rfl rfl, dictDisplay_pairs (pairTrees [some k] [v] X.env pos) (by intro z; cases z) (by show (1 : Nat) < 17; decide)]
  refine wpAny_bind (wpAny_standAt (wpAny_bind ?_))
  unfold subDict
  refine wpAny_bind (wpAny_alloc ?_)
  refine wpAny_bind (wpAny_holding ?_)
  rw [if_pos (by show (1 : Nat) ≤ 15; decide)]
  refine wpAny_bind (pairTrees_cons_walk (thn (hk pins _ σ _ _ I1 (q _ hn)) fun u s1 ⟨x, H1, I2, rx, q1⟩ => thn (hv pins s1 σ H1 _ I2 q1) fun w2 s2 ⟨y, H2, I3, ry, hp, b, kk, ex, hb, q2⟩ => pairTrees_nil_walk ?_))
  subst ex
  cases (show u = Value.ref b from rx)
  refine wpAny_holding ?_
  obtain ⟨z, hd, xs, rel, dd⟩ := dt_of I3.hok hp
  cases rel
  rw [List.forIn_cons]
  dsimp only
  refine wpAny_bind (wpAny_bind (wpAny_bind (wpAny_dictSet_heap (hsz := by rw [sizeLine_eq]; exact Nat.zero_le _) (show (tupleKind (mixKind X.prog X.w)).room X.A from (by omega : X.A.units < cLine)) (key_of I3.hok hb) dd fun h' dd' hs => wpAny_pure ?_)))
  dsimp only
  rw [List.forIn_nil]
  refine wpAny_pure (wpAny_pure ?_)
  obtain ⟨o, es, ep, hq, h2, h3, h4, _, h5⟩ := dd'
  refine wpAny_pure (wpAny_pure ⟨.ref s.heap.objs.size, _, d_write (ob := .dT [(kk, y)]) I3 (by rw [hp]; exact True.intro) hs ⟨o, hq⟩ ⟨by rw [sizeLine_eq]; show (1 : Nat) ≤ _; decide, hd, [(kk, b, w2)], .cons ⟨rfl, by rw [upd_ne (ne_of hb hp (fun z => nomatch z))]; exact hb, ry⟩ .nil, o, es, ep, hq, h2, h3, h4, h5⟩, rfl, q2⟩)
/-! ### sorted(d), one key, a tuple -/
section
variable {prog : Program} {w : World} {A : Around} {E : Value → Shared → Prop} {s : Shared}
theorem list_sort_one {a : Addr} {v : Value} {n : Nat} {P : Fin → Shared → Prop} (ho : s.heap.get? a = some (seqObj "list" [v].toArray n))
    (h : P (.done (.ret .none)) { s with heap := sortedHeap s.heap a [v] #[v] }) : wpAny (model prog w) A (Builtin.«list.sort» ⟨[.ref a], []⟩) P E s := by
  rw [list_sort_plain]
  have ha : a < s.heap.objs.size := Heap.lt_size ho
  refine wpAny_bind (listItems_at ho rfl ?_)
  refine wpAny_bind (listUpdate_at ho rfl ?_)
  obtain ⟨e1, ho1⟩ : ∃ e1, (s.heap.update a (Obj.mapSeq fun _ => #[])).get? a = some (seqObj "list" #[] e1) := ⟨_, get?_update_seq ho (fun _ => #[])⟩
  refine wpAny_bind (seqEpoch_at ho1 rfl ?_)
  refine wpAny_bind (wpAny_newTuple ?_)
  refine wpAny_bind (wpAny_newList ?_)
  refine wpAny_holding ?_
  have ho6 : (((s.heap.update a (Obj.mapSeq fun _ => #[])).push (seqObj "tuple" [v].toArray 0)).push (seqObj "list" #[] 0)).get? a = some (seqObj "list" #[] e1) := by
    rw [Heap.get?_push_ne _ _ _ (by rw [size_push', Heap.size_update]; exact Nat.ne_of_lt (Nat.lt_succ_of_lt ha)), Heap.get?_push_ne _ _ _ (by rw [Heap.size_update]; exact Nat.ne_of_lt ha)]
    exact ho1
  show wpAny (model prog w) A _ P E { s with heap := ((s.heap.update a (Obj.mapSeq fun _ => #[])).push (seqObj "tuple" [v].toArray 0)).push (seqObj "list" #[] 0) }
  dsimp only
  have h2 : [v].toArray.size < 2 := by show (1 : Nat) < 2; decide
  rw [if_pos h2, if_pos h2]
  refine wpAny_bind (wpAny_pure ?_)
  rw [StateT.run_pure]
  refine wpAny_bind (wpAny_pure ?_)
  dsimp only
  refine wpAny_bind (seqEpoch_at ho6 rfl ?_)
  have hm : Array.map (fun x => x.snd) (arrOf (SortSt.mk' general' (#[v].zip #[v]) #[] 7 none)) = #[v] := by
    show (#[v].zip #[v]).map (fun x => x.snd) = #[v]
    simp
  show wpAny _ _ (Builtin.List.listUpdate (.ref a) (fun _ => Array.map (fun x => x.snd) (arrOf (SortSt.mk' general' (#[v].zip #[v]) #[] 7 none))) >>= _) _ _ _
  rw [hm]
  refine wpAny_bind (listUpdate_at ho6 rfl ?_ (hsz2 := by rw [sizeLine_eq]; show (1 : Nat) ≤ _; decide))
  simp only [bne_self_eq_false, Bool.false_eq_true, if_false]
  exact wpAny_pure h
end
theorem call_sortedT1 {X : Cx} (hc : X.calm = true) : CallR X (.builtin "sorted") (fun xs H Q => ∃ p k v, xs = [.ref p] ∧ H p = some (.dT [(k, v)]) ∧ ∀ l a, H l = none → H a = some (.tup (k.map kV)) → Q (.ref l) (upd H l (.lst [.ref a]))) := by
  intro pins s σ H xs us Q I r h
  obtain ⟨p, k, v, rfl, hp, q⟩ := h
  obtain ⟨u, rfl, ru⟩ := vals1 r
  cases ru
  obtain ⟨z, nd, ys, rel, o, es, ep, e0, ec, ed, he, _⟩ := dt_of I.hok hp
  have hsz := size_of_entries he
  have hlen := Paired.length rel
  obtain ⟨y, rfl, hy⟩ : ∃ y, ys = [y] ∧ H y.2.1 = some (.tup (k.map kV)) := by
    cases rel with
    | cons r t =>
      cases t
      exact ⟨_, rfl, r.2.1⟩
  have h1 : es.size = 1 := hsz
  refine Calls.call_function_entry kind_sorted plain_sorted entry_sorted (args_sorted1 _) ?_
  unfold Builtin.«sorted»
  refine wpAny_bind (m := checkCount "sorted" 1 1 _) (wpAny_pure ?_)
  refine wpAny_bind (PySem.W.kdu_collect (A := X.A.in1) (raw_src (es := es) (ep := ep) nd) (I.ok.hd hc) ⟨o, e0, ec, ed⟩ (by rw [h1, sizeLine_eq]; decide) fun h' tk acc hk hacc => ?_)
  have ea : acc.toList = [Value.ref y.2.1] := by
    refine List.ext_getElem? fun j => ?_
    match j with
    | 0 =>
      have hj : 0 < acc.toList.length := by rw [Array.length_toList, hacc.1, h1]; decide
      obtain ⟨c, e⟩ := hacc.2 0 _ (by rw [← Array.getElem?_toList]; exact List.getElem?_eq_getElem hj)
      rw [List.getElem?_eq_getElem hj, e]
      have e3 := entry_at he 0
      rw [Array.getElem?_eq_getElem c] at e3
      have e3 := Option.some.inj e3
      rw [e3]
      rfl
    | j + 1 => rw [List.getElem?_eq_none (by rw [Array.length_toList, hacc.1, h1]; omega)]; rfl
  rw [ea]
  refine wpAny_bind (wpAny_newList ?_ (by rw [sizeLine_eq]; show (1 : Nat) ≤ _; decide))
  have hoL : (h'.push (seqObj "list" [Value.ref y.2.1].toArray 0)).get? h'.objs.size = some (seqObj "list" [Value.ref y.2.1].toArray 0) := Heap.get?_push_size _ rfl
  refine wpAny_bind (wpAny_holding (wpAny_call_entry slot_list_sort ⟨_, hoL, rfl⟩ entry_list_sort (list_sort_one hoL ⟨_, rfl, ?_⟩) (args_list_sort _)))
  obtain ⟨e, he2⟩ := sortedHeap_at (out := #[Value.ref y.2.1]) hoL
  have I1 : Inv X pins σ H { s with heap := h', toks := tk } := I.kept (t' := tk) hk
  refine wpAny_pure ⟨_, rfl, ⟨.ref h'.objs.size, _, I1.laid (t' := tk) (fun b o hb => ?_) (Nat.le_refl _) (show ObjOk X.prog X.w _ _ _ (.lst [.ref y.2.1]) from ⟨by rw [sizeLine_eq]; show (1 : Nat) ≤ _; decide, [Value.ref y.2.1], e, .cons rfl .nil, he2⟩), rfl, q _ _ (I1.hok.fresh (Nat.le_refl _)) hy⟩⟩
  have hlt := Heap.lt_size hb
  rw [sortedHeap_old (Nat.ne_of_lt hlt) (by rw [size_push']; exact Nat.lt_succ_of_lt hlt)]
  exact Heap.get?_push_of_some _ hb
end L2
namespace L2
open PySem PySem.Spec PyProof.Rows
/-! ### a name read: by a match, that reduces without a trace in the proof -/
def tVarM (i : Nat) : TE := fun σ H Q => match σ[i]? with
  | some (some v) => Q v H
  | _ => False
theorem tVarM_le {i : Nat} {σ : St} {H : Hp} {Q : VK} (h : tVarM i σ H Q) : tVar i σ H Q := by
  unfold tVarM at h
  split at h
  · rename_i v e; exact ⟨v, e, h⟩
  · exact h.elim
theorem pvM {X : Cx} (i : Nat) {x : Str} {pos : Pos} (hN : X.N[i]? = some x := by rfl) (hv : Vis X.env.scope x := by first | exact Or.inl rfl | exact Or.inr (Or.inl rfl) | exact Or.inr (Or.inr rfl)) (hd : (x == ("__debug__" : Str)) = false := by decide)
    (hcd : (x == ("__classdict__" : Str)) = false := by decide) : PE X (.Name x pos) (tVarM i) := fun pins s σ H Q I h => pe_var hN hv hd hcd pins s σ H Q I (tVarM_le h)
theorem rI0_ii {g : Int → Int → V} {i j : Int} {H : Hp} {Q : VK} : rI0 g (.int i) (.int j) H Q = Q (g i j) H := propext ⟨fun ⟨_, _, e1, e2, h⟩ => by cases e1; cases e2; exact h, fun h => ⟨_, _, rfl, rfl, h⟩⟩
theorem rI_ii {C : Int → Int → Prop} {g : Int → Int → V} {i j : Int} {H : Hp} {Q : VK} : rI C g (.int i) (.int j) H Q = (C i j ∧ Q (g i j) H) := propext ⟨fun ⟨_, _, e1, e2, h⟩ => by cases e1; cases e2; exact h, fun h => ⟨_, _, rfl, rfl, h⟩⟩
theorem ex_int {c : Int} {P : Int → Prop} : (∃ i, V.int c = V.int i ∧ P i) = P c := propext ⟨fun ⟨_, e, h⟩ => by cases e; exact h, fun h => ⟨_, rfl, h⟩⟩
theorem ex_bl {c : Bool} {P : Bool → Prop} : (∃ i, V.bl c = V.bl i ∧ P i) = P c := propext ⟨fun ⟨_, e, h⟩ => by cases e; exact h, fun h => ⟨_, rfl, h⟩⟩
theorem ex_ref {c : Addr} {P : Addr → Prop} : (∃ i, V.ref c = V.ref i ∧ P i) = P c := propext ⟨fun ⟨_, e, h⟩ => by cases e; exact h, fun h => ⟨_, rfl, h⟩⟩
end L2
namespace L2
open PySem PySem.Spec PyProof.Rows
section
open PySem.Builtin PySem.Builtin.Str
end
end L2
namespace Hd
open PySem PySem.W PySem.Calls PyProof.Rows
/-- the top's run over a heap that is a tree -/
def runT (tb : String → Option Builtin) (p : Program) (w : World) (n0 : Nat) (ann : Option Value) : Nat → SharedT → Thread → Option SharedT
  | 0, _, _ => none
  | n + 1, s, t => match through t with
    | true => some s
    | false => match stepOk n0 ann t with
      | false => none
      | true => match stepT (denote tb) p w s t with
        | some (s', t') => runT tb p w n0 ann n s' t'
        | none => none
theorem runT_of {tb : String → Option Builtin} {p : Program} {w : World} {n0 : Nat} {ann : Option Value} : ∀ {n : Nat} {s r : SharedT} {t : Thread}, runT tb p w n0 ann n s t = some r → topRun tb p w n0 ann n s.abs t = some r.abs
  | 0, _, _, _, h => by cases h
  | n + 1, s, r, t, h => by
    unfold runT at h
    unfold topRun
    cases he : through t with
    | true => rw [he] at h; cases h; rfl
    | false =>
      rw [he] at h
      cases hk : stepOk n0 ann t with
      | false => rw [hk] at h; cases h
      | true =>
        rw [hk] at h
        cases hs : stepT (denote tb) p w s t with
        | none => rw [hs] at h; cases h
        | some x => obtain ⟨s2, t2⟩ := x; rw [hs] at h; rw [stepT_spec hs]; exact runT_of h
def grow : List Obj → Nat → BT → BT
  | [], _, t => t
  | o :: l, n, t => grow l (n + 1) (t.ins n o)
noncomputable def bootT (P : Params) : BT := grow (boot_heap P).objs.toList 0 .nil
noncomputable def bootS (w : World) (os : OsState) : SharedT := ⟨bootT w.params, (boot_heap w.params).objs.size, (boot_heap w.params).life, #[], boot_drawn, boot_toks, os⟩
theorem boot_abs (w : World) (os : OsState) : (bootS w os).abs = ⟨boot_heap w.params, #[], boot_drawn, boot_toks, os⟩ := by kernel_rfl
theorem boot_size (w : World) : ((boot_heap w.params).isNs mainGlobals && (#[] : Array GenState).size == 0) = true := by kernel_rfl
noncomputable abbrev ann0 (w : World) : Option Value := (boot_heap w.params).nsMap mainGlobals "__annotations__"
def look {α : Type} (p q : Program) (loose : List Str) (Xt : Shared → Bool) (Yf : Shared → α) (H0 : Heap) (s : Shared) :=
  (staticsOk (importedModules p.main.body) H0 s.heap && namesBound p s.heap && gensDone s && laidKept H0 s.heap, openSeen q loose (importedModules p.main.body) Xt true s, Yf s)
noncomputable def once {α : Type} (p q : Program) (loose : List Str) (Xt : Shared → Bool) (Yf : Shared → α) (N : Nat) (w : World) (os : OsState) :=
  (runT treeTable p w (boot_heap w.params).objs.size (ann0 w) N (bootS w os) (topStub p)).map fun s => look p q loose Xt Yf (boot_heap w.params) s.abs
theorem left_once {p q : Program} {loose : List Str} {Xt : Shared → Bool} {α : Type} {Yf : Shared → α} {Ya : World → α} {N : Nat}
    (e : opening p = plainProg p.main.scope.names) (hN : Nat.ble 600 N = true) (f : ∀ s, fenceModules? p s = some s)
    (all : ∀ (w : World) (os : OsState), once p q loose Xt Yf N w os = some (true, openGood q loose, Ya w)) : LeftO p q loose Xt Yf Ya N := fun w => by
  obtain ⟨⟨h, gs, d, k, os⟩, e1, e2⟩ := Option.map_eq_some_iff.mp (boot_open e hN f w)
  obtain ⟨rfl, rfl, rfl, rfl⟩ : h = boot_heap w.params ∧ gs = #[] ∧ d = boot_drawn ∧ k = boot_toks := by simpa using e2
  obtain ⟨sT, r, l⟩ := Option.map_eq_some_iff.mp (all w os)
  have r := runT_of r
  rw [boot_abs] at r
  obtain ⟨l1, l2, l3⟩ : _ ∧ _ ∧ _ := by simpa only [look, Prod.mk.injEq] using l
  have t : topFrom treeTable p w N ⟨boot_heap w.params, #[], boot_drawn, boot_toks, os⟩ = some sT.abs := by
    unfold topFrom
    dsimp only
    rw [boot_size w, r]
    show (match staticsOk (importedModules p.main.body) (boot_heap w.params) sT.abs.heap && namesBound p sT.abs.heap && gensDone sT.abs && laidKept (boot_heap w.params) sT.abs.heap with | true => _ | false => _) = _
    rw [l1]
  unfold openEnds
  rw [e1]
  show (topFrom treeTable p w N _).map _ = _
  rw [t]
  exact congrArg some (Prod.ext l2 l3)
end Hd
namespace Hd
open PySem PySem.W
/-- a text by one number: its signs as digits of 256, each one more -/
def dig : Nat → Nat → List Nat
  | 0, _ => []
  | k + 1, n => match Nat.beq n 0 with
    | true => []
    | false => Nat.sub (n % 256) 1 :: dig k (n / 256)
def S (n : Nat) : Str := ⟨⟨dig 200 n⟩⟩
def ent (P : Params) (x : Str) (t : Nat) (v : Value) : DictEntry := ⟨PyData.keyHash P x, .str x t, v⟩
def dO (n : Nat) (l : List DictEntry) : Obj := ⟨.type "dict", none, .dict ⟨l⟩ n, #[]⟩
def tO (l : List Value) : Obj := ⟨.type "tuple", none, .seq ⟨l⟩ 0, #[]⟩
def cO (l : List Value) : Obj := ⟨.type "code", none, .fields ⟨l⟩, #[]⟩
end Hd
set_option hygiene false in
local macro_rules | `(tactic| walk_at "wp") => `(tactic| simp only [↓L2.rI0_ii, ↓L2.rI_ii, ↓L2.ex_int, ↓L2.ex_bl, ↓L2.ex_ref, L2.tSeq, L2.tNext, L2.tAsg, L2.gName, L2.tRet, L2.tDrop, L2.tIfS, L2.tIf, L2.tTest, L2.tB, L2.tOp, L2.tUn, L2.tVar, L2.tVarM, L2.tC, L2.rI, L2.rI0, L2.rU, L2.tAnd, L2.tOr, L2.tNot, L2.tAndV, L2.tNotV, L2.tCallE, L2.tMethE, L2.tMakeE, L2.tCB, L2.tCons, L2.tNil, L2.tLst, L2.tTup, L2.rIxL, L2.rIxT, L2.rIx2, L2.tFld, L2.sFld, L2.tRaise, L2.rEq, L2.rNe, L2.start, L2.CDiv, L2.CPow, L2.CMul, L2.kn_int, L2.kn_bl, L2.kn_str, L2.cxOf_K, L2.scal_ii, L2.scal_bb, L2.scal_ss, L2.rIxH, L2.lstO_lst, L2.tupO_tup, L2.upd_same, L2.upd_upd, L2.HO.ins.injEq, L2.rSlL, L2.tSl, L2.tPart, L2.clsV_ref, L2.clsV_ty, L2.tForE, L2.iRng1, L2.iRng2, L2.iList, L2.iEnum, L2.gTup, L2.gNil, L2.gCons, L2.tBM, L2.rAppend, L2.gSub, L2.rSetL, L2.tComp, L2.tYes, Option.join_some, Option.join_none, PySem.sizeLine_eq, Nat.reduceLeDiff, eq_self, decide_eq_true_eq, 
  List.map_cons, List.map_nil, List.length_cons, List.length_nil, List.cons_append, List.nil_append, List.append_nil, List.replicate, Nat.reduceSub, Nat.reduceAdd, List.getElem?_cons_zero, List.getElem?_cons_succ, List.set_cons_zero, List.set_cons_succ,
  Option.some.injEq, List.cons.injEq, L2.V.int.injEq, L2.V.bl.injEq, L2.V.ref.injEq, L2.V.ty.injEq, L2.V.str.injEq, exists_eq_left, exists_eq_left', exists_and_left, exists_eq', exists_const, and_assoc, and_true, true_and, ↓reduceIte, Int.reduceLE, Int.reduceLT, Nat.reducePow, Int.reducePow, Int.reduceNeg, L2.na10, Nat.reduceLT, Int.reduceToNat, Int.reduceAdd, Int.reduceMul, Int.reduceSub, true_or, or_true, decide_true, decide_false])
namespace Pf
open PySem L2
def top (i : Nat) : Stmt := PySem.Challenge.pw_frameland_k61_empty_frames_first.main.body.getD i (.Pass ⟨0, 0, 0, 0⟩)
abbrev s_swept : Stmt := top 5
theorem sc_swept : FnScope ["marks", "hand", "passed", "place"] ["marks", "hand"] (defScope s_swept) := ⟨rfl, rfl, rfl, by decide +kernel, rfl, by decide +kernel, by decide +kernel⟩
abbrev s_Sheets_put_out : Stmt := inClass (top 10) 24
theorem sc_Sheets_put_out : FnScope ["self", "frame", "coming_from", "sheet", "slot"] ["self", "frame", "coming_from"] (defScope s_Sheets_put_out) := ⟨rfl, rfl, rfl, by decide +kernel, rfl, by decide +kernel, by decide +kernel⟩
abbrev s_Sheet_init : Stmt := inClass (top 7) 0
theorem sc_Sheet_init : FnScope ["self", "boxes", "holder"] ["self", "boxes", "holder"] (defScope s_Sheet_init) := ⟨rfl, rfl, rfl, by decide +kernel, rfl, by decide +kernel, by decide +kernel⟩
abbrev s_Sheet_told_holders : Stmt := inClass (top 7) 1
theorem sc_Sheet_told_holders : FnScope ["self"] ["self"] (defScope s_Sheet_told_holders) := ⟨rfl, rfl, rfl, by decide +kernel, rfl, by decide +kernel, by decide +kernel⟩
abbrev s_Spots_init : Stmt := inClass (top 8) 0
theorem sc_Spots_init : FnScope ["self", "many"] ["self", "many"] (defScope s_Spots_init) := ⟨rfl, rfl, rfl, by decide +kernel, rfl, by decide +kernel, by decide +kernel⟩
abbrev s_Spots_first_empty : Stmt := inClass (top 8) 1
theorem sc_Spots_first_empty : FnScope ["self", "place", "sheet"] ["self"] (defScope s_Spots_first_empty) := ⟨rfl, rfl, rfl, by decide +kernel, rfl, by decide +kernel, by decide +kernel⟩
abbrev s_Spots_live_count : Stmt := inClass (top 8) 3
theorem sc_Spots_live_count : FnScope ["self"] ["self"] (defScope s_Spots_live_count) := ⟨rfl, rfl, rfl, by decide +kernel, rfl, by decide +kernel, by decide +kernel⟩
abbrev s_Sheets_init : Stmt := inClass (top 10) 0
theorem sc_Sheets_init : FnScope ["self", "frames", "slots", "size"] ["self", "frames", "slots", "size"] (defScope s_Sheets_init) := ⟨rfl, rfl, rfl, by decide +kernel, rfl, by decide +kernel, by decide +kernel⟩
abbrev s_Sheets_fresh : Stmt := inClass (top 10) 1
theorem sc_Sheets_fresh : FnScope ["self", "sheet", "holder", "marks", "way"] ["self", "sheet", "holder", "marks"] (defScope s_Sheets_fresh) := ⟨rfl, rfl, rfl, by decide +kernel, rfl, by decide +kernel, by decide +kernel⟩
abbrev s_Sheets_let_go : Stmt := inClass (top 10) 4
theorem sc_Sheets_let_go : FnScope ["self", "spot", "holder", "sheet"] ["self", "spot", "holder"] (defScope s_Sheets_let_go) := ⟨rfl, rfl, rfl, by decide +kernel, rfl, by decide +kernel, by decide +kernel⟩
abbrev s_Sheets_holders_of : Stmt := inClass (top 10) 5
theorem sc_Sheets_holders_of : FnScope ["self", "spot", "sheet"] ["self", "spot"] (defScope s_Sheets_holders_of) := ⟨rfl, rfl, rfl, by decide +kernel, rfl, by decide +kernel, by decide +kernel⟩
abbrev s_Sheets_sheet_at : Stmt := inClass (top 10) 7
theorem sc_Sheets_sheet_at : FnScope ["self", "spot", "sheet"] ["self", "spot"] (defScope s_Sheets_sheet_at) := ⟨rfl, rfl, rfl, by decide +kernel, rfl, by decide +kernel, by decide +kernel⟩
abbrev s_Sheets_box_of : Stmt := inClass (top 10) 8
theorem sc_Sheets_box_of : FnScope ["self", "frame", "box"] ["self", "frame", "box"] (defScope s_Sheets_box_of) := ⟨rfl, rfl, rfl, by decide +kernel, rfl, by decide +kernel, by decide +kernel⟩
abbrev s_Sheets_live_sheets : Stmt := inClass (top 10) 11
theorem sc_Sheets_live_sheets : FnScope ["self"] ["self"] (defScope s_Sheets_live_sheets) := ⟨rfl, rfl, rfl, by decide +kernel, rfl, by decide +kernel, by decide +kernel⟩
abbrev s_Sheets_is_full : Stmt := inClass (top 10) 12
theorem sc_Sheets_is_full : FnScope ["self"] ["self"] (defScope s_Sheets_is_full) := ⟨rfl, rfl, rfl, by decide +kernel, rfl, by decide +kernel, by decide +kernel⟩
abbrev s_Sheets_hand_at : Stmt := inClass (top 10) 13
theorem sc_Sheets_hand_at : FnScope ["self"] ["self"] (defScope s_Sheets_hand_at) := ⟨rfl, rfl, rfl, by decide +kernel, rfl, by decide +kernel, by decide +kernel⟩
abbrev s_Sheets_told_frames : Stmt := inClass (top 10) 14
theorem sc_Sheets_told_frames : FnScope ["self", "told", "frame", "sheet"] ["self"] (defScope s_Sheets_told_frames) := ⟨rfl, rfl, rfl, by decide +kernel, rfl, by decide +kernel, by decide +kernel⟩
abbrev s_Sheets_told_slots : Stmt := inClass (top 10) 15
theorem sc_Sheets_told_slots : FnScope ["self"] ["self"] (defScope s_Sheets_told_slots) := ⟨rfl, rfl, rfl, by decide +kernel, rfl, by decide +kernel, by decide +kernel⟩
abbrev s_Sheets_moved : Stmt := inClass (top 10) 16
theorem sc_Sheets_moved : FnScope ["self"] ["self"] (defScope s_Sheets_moved) := ⟨rfl, rfl, rfl, by decide +kernel, rfl, by decide +kernel, by decide +kernel⟩
abbrev s_Sheets_lying_at : Stmt := inClass (top 10) 17
theorem sc_Sheets_lying_at : FnScope ["self", "spot", "spots"] ["self", "spot"] (defScope s_Sheets_lying_at) := ⟨rfl, rfl, rfl, by decide +kernel, rfl, by decide +kernel, by decide +kernel⟩
abbrev s_Sheets_told_slot : Stmt := inClass (top 10) 19
theorem sc_Sheets_told_slot : FnScope ["self", "slot", "sheet", "frame"] ["self", "slot"] (defScope s_Sheets_told_slot) := ⟨rfl, rfl, rfl, by decide +kernel, rfl, by decide +kernel, by decide +kernel⟩
abbrev s_Sheets_make_empty : Stmt := inClass (top 10) 21
theorem sc_Sheets_make_empty : FnScope ["self", "spot"] ["self", "spot"] (defScope s_Sheets_make_empty) := ⟨rfl, rfl, rfl, by decide +kernel, rfl, by decide +kernel, by decide +kernel⟩
abbrev s_Sheets_lose_twin : Stmt := inClass (top 10) 22
theorem sc_Sheets_lose_twin : FnScope ["self", "frame", "slot"] ["self", "frame"] (defScope s_Sheets_lose_twin) := ⟨rfl, rfl, rfl, by decide +kernel, rfl, by decide +kernel, by decide +kernel⟩
abbrev s_Sheets_frame_for : Stmt := inClass (top 10) 23
theorem sc_Sheets_frame_for : FnScope ["self", "coming_from", "marks", "frame", "choice"] ["self", "coming_from", "marks"] (defScope s_Sheets_frame_for) := ⟨rfl, rfl, rfl, by decide +kernel, rfl, by decide +kernel, by decide +kernel⟩
abbrev s_l_cell : Stmt := top 12
theorem sc_l_cell : FnScope ["_law_script", "_law_k"] ["_law_script", "_law_k"] (defScope s_l_cell) := ⟨rfl, rfl, rfl, by decide +kernel, rfl, by decide +kernel, by decide +kernel⟩
abbrev s_l_like : Stmt := top 13
theorem sc_l_like : FnScope ["_law_found", "_law_due", "_law_k"] ["_law_found", "_law_due"] (defScope s_l_like) := ⟨rfl, rfl, rfl, by decide +kernel, rfl, by decide +kernel, by decide +kernel⟩
abbrev s_l_size : Stmt := top 14
theorem sc_l_size : FnScope ["_law_cell_here", "_law_low", "_law_many"] ["_law_cell_here", "_law_low", "_law_many"] (defScope s_l_size) := ⟨rfl, rfl, rfl, by decide +kernel, rfl, by decide +kernel, by decide +kernel⟩
abbrev s_l_sheet : Stmt := top 15
theorem sc_l_sheet : FnScope ["_law_cell_here", "_law_number", "_law_size_here"] ["_law_cell_here", "_law_number", "_law_size_here"] (defScope s_l_sheet) := ⟨rfl, rfl, rfl, by decide +kernel, rfl, by decide +kernel, by decide +kernel⟩
abbrev s_l_fresh : Stmt := top 16
theorem sc_l_fresh : FnScope ["_law_sheets", "_law_plain", "_law_sheet_here", "_law_holder", "_law_marks", "_law_first", "_law_handed", "_law_found"] ["_law_sheets", "_law_plain", "_law_sheet_here", "_law_holder", "_law_marks"] (defScope s_l_fresh) := ⟨rfl, rfl, rfl, by decide +kernel, rfl, by decide +kernel, by decide +kernel⟩
abbrev s_l_let_go : Stmt := top 17
theorem sc_l_let_go : FnScope ["_law_sheets", "_law_plain", "_law_at", "_law_k", "_law_place"] ["_law_sheets", "_law_plain", "_law_at"] (defScope s_l_let_go) := ⟨rfl, rfl, rfl, by decide +kernel, rfl, by decide +kernel, by decide +kernel⟩
abbrev s_law : Stmt := top 18
theorem sc_law : FnScope ["_law_script", "_law_frames", "_law_slots", "_law_size_here", "_law_sheets", "_law_plain", "_law_k", "_law_cell_here", "_law_number", "_law_many", "_law_holder", "_law_marks"] ["_law_script"] (defScope s_law) := ⟨rfl, rfl, rfl, by decide +kernel, rfl, by decide +kernel, by decide +kernel⟩
structure Adr where
  C_Sheet : Addr
  C_Spots : Addr
  C_Sheets : Addr
  C_FrameError : Addr
  C_NoRoom : Addr
/-- what the top has made -/
structure Txt (K : PySem.W.Frag) (mg : Str → Option Value) (A : Adr) : Prop where
  b_bool : mg "bool" = none
  b_enumerate : mg "enumerate" = none
  b_int : mg "int" = none
  b_isinstance : mg "isinstance" = none
  b_len : mg "len" = none
  b_list : mg "list" = none
  b_range : mg "range" = none
  b_sorted : mg "sorted" = none
  b_str : mg "str" = none
  b_tuple : mg "tuple" = none
  r_swept : Raw K mg "swept" "swept" s_swept ["marks", "hand"] []
  r_l_cell : Raw K mg "_law_cell" "_law_cell" s_l_cell ["_law_script", "_law_k"] []
  r_l_like : Raw K mg "_law_like" "_law_like" s_l_like ["_law_found", "_law_due"] []
  r_l_size : Raw K mg "_law_size" "_law_size" s_l_size ["_law_cell_here", "_law_low", "_law_many"] []
  r_l_sheet : Raw K mg "_law_sheet" "_law_sheet" s_l_sheet ["_law_cell_here", "_law_number", "_law_size_here"] []
  r_l_fresh : Raw K mg "_law_fresh" "_law_fresh" s_l_fresh ["_law_sheets", "_law_plain", "_law_sheet_here", "_law_holder", "_law_marks"] []
  r_l_let_go : Raw K mg "_law_let_go" "_law_let_go" s_l_let_go ["_law_sheets", "_law_plain", "_law_at"] []
  cl_Sheet : Cls K A.C_Sheet
  na_Sheet_boxes : NoAttr K A.C_Sheet "boxes"
  na_Sheet_holders : NoAttr K A.C_Sheet "holders"
  r_Sheet_init : RawI K mg "Sheet" A.C_Sheet "Sheet.__init__" s_Sheet_init ["self", "boxes", "holder"] []
  r_Sheet_told_holders : RawM K A.C_Sheet "told_holders" "Sheet.told_holders" s_Sheet_told_holders ["self"] []
  cl_Spots : Cls K A.C_Spots
  na_Spots_lying : NoAttr K A.C_Spots "lying"
  na_Spots_twins : NoAttr K A.C_Spots "twins"
  r_Spots_init : RawI K mg "Spots" A.C_Spots "Spots.__init__" s_Spots_init ["self", "many"] []
  r_Spots_first_empty : RawM K A.C_Spots "first_empty" "Spots.first_empty" s_Spots_first_empty ["self"] []
  r_Spots_live_count : RawM K A.C_Spots "live_count" "Spots.live_count" s_Spots_live_count ["self"] []
  cl_Sheets : Cls K A.C_Sheets
  na_Sheets_size : NoAttr K A.C_Sheets "size"
  na_Sheets_frames : NoAttr K A.C_Sheets "frames"
  na_Sheets_slots : NoAttr K A.C_Sheets "slots"
  na_Sheets_hand : NoAttr K A.C_Sheets "hand"
  na_Sheets_gone_out : NoAttr K A.C_Sheets "gone_out"
  na_Sheets_gone_astray : NoAttr K A.C_Sheets "gone_astray"
  na_Sheets_come_back : NoAttr K A.C_Sheets "come_back"
  r_Sheets_put_out : RawM K A.C_Sheets "put_out" "Sheets.put_out" s_Sheets_put_out ["self", "frame", "coming_from"] []
  r_Sheets_init : RawI K mg "Sheets" A.C_Sheets "Sheets.__init__" s_Sheets_init ["self", "frames", "slots", "size"] []
  r_Sheets_fresh : RawM K A.C_Sheets "fresh" "Sheets.fresh" s_Sheets_fresh ["self", "sheet", "holder", "marks"] []
  r_Sheets_let_go : RawM K A.C_Sheets "let_go" "Sheets.let_go" s_Sheets_let_go ["self", "spot", "holder"] []
  r_Sheets_holders_of : RawM K A.C_Sheets "holders_of" "Sheets.holders_of" s_Sheets_holders_of ["self", "spot"] []
  r_Sheets_sheet_at : RawM K A.C_Sheets "sheet_at" "Sheets.sheet_at" s_Sheets_sheet_at ["self", "spot"] []
  r_Sheets_box_of : RawM K A.C_Sheets "box_of" "Sheets.box_of" s_Sheets_box_of ["self", "frame", "box"] []
  r_Sheets_live_sheets : RawM K A.C_Sheets "live_sheets" "Sheets.live_sheets" s_Sheets_live_sheets ["self"] []
  r_Sheets_is_full : RawM K A.C_Sheets "is_full" "Sheets.is_full" s_Sheets_is_full ["self"] []
  r_Sheets_hand_at : RawM K A.C_Sheets "hand_at" "Sheets.hand_at" s_Sheets_hand_at ["self"] []
  r_Sheets_told_frames : RawM K A.C_Sheets "told_frames" "Sheets.told_frames" s_Sheets_told_frames ["self"] []
  r_Sheets_told_slots : RawM K A.C_Sheets "told_slots" "Sheets.told_slots" s_Sheets_told_slots ["self"] []
  r_Sheets_moved : RawM K A.C_Sheets "moved" "Sheets.moved" s_Sheets_moved ["self"] []
  r_Sheets_lying_at : RawM K A.C_Sheets "lying_at" "Sheets.lying_at" s_Sheets_lying_at ["self", "spot"] []
  r_Sheets_told_slot : RawM K A.C_Sheets "told_slot" "Sheets.told_slot" s_Sheets_told_slot ["self", "slot"] []
  r_Sheets_make_empty : RawM K A.C_Sheets "make_empty" "Sheets.make_empty" s_Sheets_make_empty ["self", "spot"] []
  r_Sheets_lose_twin : RawM K A.C_Sheets "lose_twin" "Sheets.lose_twin" s_Sheets_lose_twin ["self", "frame"] []
  r_Sheets_frame_for : RawM K A.C_Sheets "frame_for" "Sheets.frame_for" s_Sheets_frame_for ["self", "coming_from", "marks"] []
  m_FrameError : ∃ u, mg "FrameError" = some u ∧ RelV (.ref A.C_FrameError) u
  m_NoRoom : ∃ u, mg "NoRoom" = some u ∧ RelV (.ref A.C_NoRoom) u
  x_NoRoom : XC K mg "NoRoom" A.C_NoRoom
  r_law : ∃ f fd, mg "law" = some (.ref f) ∧ Fun K "law" "law" s_law f fd ∧ ∀ (s : Shared) (u : Value), BindsTo s fd ⟨[u], []⟩ [("_law_script", u)]
theorem el1 {P : List Value → Prop} (h : ∀ a0, P [a0]) : ∀ us : List Value, us.length = 1 → P us
  | [a0], _ => h a0
theorem el2 {P : List Value → Prop} (h : ∀ a0 a1, P [a0, a1]) : ∀ us : List Value, us.length = 2 → P us
  | [a0, a1], _ => h a0 a1
theorem el3 {P : List Value → Prop} (h : ∀ a0 a1 a2, P [a0, a1, a2]) : ∀ us : List Value, us.length = 3 → P us
  | [a0, a1, a2], _ => h a0 a1 a2
theorem el4 {P : List Value → Prop} (h : ∀ a0 a1 a2 a3, P [a0, a1, a2, a3]) : ∀ us : List Value, us.length = 4 → P us
  | [a0, a1, a2, a3], _ => h a0 a1 a2 a3
theorem el5 {P : List Value → Prop} (h : ∀ a0 a1 a2 a3 a4, P [a0, a1, a2, a3, a4]) : ∀ us : List Value, us.length = 5 → P us
  | [a0, a1, a2, a3, a4], _ => h a0 a1 a2 a3 a4
theorem txt_mk {K : PySem.W.Frag} {h : Heap} {mg : Str → Option Value} (X : K.In h) (G : h.Ns mainGlobals mg)
    {C_NoRoom : Addr}
    {C_FrameError : Addr}
    {C_Sheets : Addr}
    {C_Spots : Addr}
    {C_Sheet : Addr}
    {f_swept : Addr} {od_swept an_swept : Option Addr} {sl_swept : Array (Option Value)} {oc_swept kV_swept dc_swept pm_swept cd_swept ct_swept : Value}
    {f_l_cell : Addr} {od_l_cell an_l_cell : Option Addr} {sl_l_cell : Array (Option Value)} {oc_l_cell kV_l_cell dc_l_cell pm_l_cell cd_l_cell ct_l_cell : Value}
    {f_l_like : Addr} {od_l_like an_l_like : Option Addr} {sl_l_like : Array (Option Value)} {oc_l_like kV_l_like dc_l_like pm_l_like cd_l_like ct_l_like : Value}
    {f_l_size : Addr} {od_l_size an_l_size : Option Addr} {sl_l_size : Array (Option Value)} {oc_l_size kV_l_size dc_l_size pm_l_size cd_l_size ct_l_size : Value}
    {f_l_sheet : Addr} {od_l_sheet an_l_sheet : Option Addr} {sl_l_sheet : Array (Option Value)} {oc_l_sheet kV_l_sheet dc_l_sheet pm_l_sheet cd_l_sheet ct_l_sheet : Value}
    {f_l_fresh : Addr} {od_l_fresh an_l_fresh : Option Addr} {sl_l_fresh : Array (Option Value)} {oc_l_fresh kV_l_fresh dc_l_fresh pm_l_fresh cd_l_fresh ct_l_fresh : Value}
    {f_l_let_go : Addr} {od_l_let_go an_l_let_go : Option Addr} {sl_l_let_go : Array (Option Value)} {oc_l_let_go kV_l_let_go dc_l_let_go pm_l_let_go cd_l_let_go ct_l_let_go : Value}
    {f_Sheet_init : Addr} {od_Sheet_init an_Sheet_init : Option Addr} {sl_Sheet_init : Array (Option Value)} {oc_Sheet_init kV_Sheet_init dc_Sheet_init pm_Sheet_init cd_Sheet_init ct_Sheet_init : Value}
    {f_Sheet_told_holders : Addr} {od_Sheet_told_holders an_Sheet_told_holders : Option Addr} {sl_Sheet_told_holders : Array (Option Value)} {oc_Sheet_told_holders kV_Sheet_told_holders dc_Sheet_told_holders pm_Sheet_told_holders cd_Sheet_told_holders ct_Sheet_told_holders : Value}
    {f_Spots_init : Addr} {od_Spots_init an_Spots_init : Option Addr} {sl_Spots_init : Array (Option Value)} {oc_Spots_init kV_Spots_init dc_Spots_init pm_Spots_init cd_Spots_init ct_Spots_init : Value}
    {f_Spots_first_empty : Addr} {od_Spots_first_empty an_Spots_first_empty : Option Addr} {sl_Spots_first_empty : Array (Option Value)} {oc_Spots_first_empty kV_Spots_first_empty dc_Spots_first_empty pm_Spots_first_empty cd_Spots_first_empty ct_Spots_first_empty : Value}
    {f_Spots_live_count : Addr} {od_Spots_live_count an_Spots_live_count : Option Addr} {sl_Spots_live_count : Array (Option Value)} {oc_Spots_live_count kV_Spots_live_count dc_Spots_live_count pm_Spots_live_count cd_Spots_live_count ct_Spots_live_count : Value}
    {f_Sheets_put_out : Addr} {od_Sheets_put_out an_Sheets_put_out : Option Addr} {sl_Sheets_put_out : Array (Option Value)} {oc_Sheets_put_out kV_Sheets_put_out dc_Sheets_put_out pm_Sheets_put_out cd_Sheets_put_out ct_Sheets_put_out : Value}
    {f_Sheets_init : Addr} {od_Sheets_init an_Sheets_init : Option Addr} {sl_Sheets_init : Array (Option Value)} {oc_Sheets_init kV_Sheets_init dc_Sheets_init pm_Sheets_init cd_Sheets_init ct_Sheets_init : Value}
    {f_Sheets_fresh : Addr} {od_Sheets_fresh an_Sheets_fresh : Option Addr} {sl_Sheets_fresh : Array (Option Value)} {oc_Sheets_fresh kV_Sheets_fresh dc_Sheets_fresh pm_Sheets_fresh cd_Sheets_fresh ct_Sheets_fresh : Value}
    {f_Sheets_let_go : Addr} {od_Sheets_let_go an_Sheets_let_go : Option Addr} {sl_Sheets_let_go : Array (Option Value)} {oc_Sheets_let_go kV_Sheets_let_go dc_Sheets_let_go pm_Sheets_let_go cd_Sheets_let_go ct_Sheets_let_go : Value}
    {f_Sheets_holders_of : Addr} {od_Sheets_holders_of an_Sheets_holders_of : Option Addr} {sl_Sheets_holders_of : Array (Option Value)} {oc_Sheets_holders_of kV_Sheets_holders_of dc_Sheets_holders_of pm_Sheets_holders_of cd_Sheets_holders_of ct_Sheets_holders_of : Value}
    {f_Sheets_sheet_at : Addr} {od_Sheets_sheet_at an_Sheets_sheet_at : Option Addr} {sl_Sheets_sheet_at : Array (Option Value)} {oc_Sheets_sheet_at kV_Sheets_sheet_at dc_Sheets_sheet_at pm_Sheets_sheet_at cd_Sheets_sheet_at ct_Sheets_sheet_at : Value}
    {f_Sheets_box_of : Addr} {od_Sheets_box_of an_Sheets_box_of : Option Addr} {sl_Sheets_box_of : Array (Option Value)} {oc_Sheets_box_of kV_Sheets_box_of dc_Sheets_box_of pm_Sheets_box_of cd_Sheets_box_of ct_Sheets_box_of : Value}
    {f_Sheets_live_sheets : Addr} {od_Sheets_live_sheets an_Sheets_live_sheets : Option Addr} {sl_Sheets_live_sheets : Array (Option Value)} {oc_Sheets_live_sheets kV_Sheets_live_sheets dc_Sheets_live_sheets pm_Sheets_live_sheets cd_Sheets_live_sheets ct_Sheets_live_sheets : Value}
    {f_Sheets_is_full : Addr} {od_Sheets_is_full an_Sheets_is_full : Option Addr} {sl_Sheets_is_full : Array (Option Value)} {oc_Sheets_is_full kV_Sheets_is_full dc_Sheets_is_full pm_Sheets_is_full cd_Sheets_is_full ct_Sheets_is_full : Value}
    {f_Sheets_hand_at : Addr} {od_Sheets_hand_at an_Sheets_hand_at : Option Addr} {sl_Sheets_hand_at : Array (Option Value)} {oc_Sheets_hand_at kV_Sheets_hand_at dc_Sheets_hand_at pm_Sheets_hand_at cd_Sheets_hand_at ct_Sheets_hand_at : Value}
    {f_Sheets_told_frames : Addr} {od_Sheets_told_frames an_Sheets_told_frames : Option Addr} {sl_Sheets_told_frames : Array (Option Value)} {oc_Sheets_told_frames kV_Sheets_told_frames dc_Sheets_told_frames pm_Sheets_told_frames cd_Sheets_told_frames ct_Sheets_told_frames : Value}
    {f_Sheets_told_slots : Addr} {od_Sheets_told_slots an_Sheets_told_slots : Option Addr} {sl_Sheets_told_slots : Array (Option Value)} {oc_Sheets_told_slots kV_Sheets_told_slots dc_Sheets_told_slots pm_Sheets_told_slots cd_Sheets_told_slots ct_Sheets_told_slots : Value}
    {f_Sheets_moved : Addr} {od_Sheets_moved an_Sheets_moved : Option Addr} {sl_Sheets_moved : Array (Option Value)} {oc_Sheets_moved kV_Sheets_moved dc_Sheets_moved pm_Sheets_moved cd_Sheets_moved ct_Sheets_moved : Value}
    {f_Sheets_lying_at : Addr} {od_Sheets_lying_at an_Sheets_lying_at : Option Addr} {sl_Sheets_lying_at : Array (Option Value)} {oc_Sheets_lying_at kV_Sheets_lying_at dc_Sheets_lying_at pm_Sheets_lying_at cd_Sheets_lying_at ct_Sheets_lying_at : Value}
    {f_Sheets_told_slot : Addr} {od_Sheets_told_slot an_Sheets_told_slot : Option Addr} {sl_Sheets_told_slot : Array (Option Value)} {oc_Sheets_told_slot kV_Sheets_told_slot dc_Sheets_told_slot pm_Sheets_told_slot cd_Sheets_told_slot ct_Sheets_told_slot : Value}
    {f_Sheets_make_empty : Addr} {od_Sheets_make_empty an_Sheets_make_empty : Option Addr} {sl_Sheets_make_empty : Array (Option Value)} {oc_Sheets_make_empty kV_Sheets_make_empty dc_Sheets_make_empty pm_Sheets_make_empty cd_Sheets_make_empty ct_Sheets_make_empty : Value}
    {f_Sheets_lose_twin : Addr} {od_Sheets_lose_twin an_Sheets_lose_twin : Option Addr} {sl_Sheets_lose_twin : Array (Option Value)} {oc_Sheets_lose_twin kV_Sheets_lose_twin dc_Sheets_lose_twin pm_Sheets_lose_twin cd_Sheets_lose_twin ct_Sheets_lose_twin : Value}
    {f_Sheets_frame_for : Addr} {od_Sheets_frame_for an_Sheets_frame_for : Option Addr} {sl_Sheets_frame_for : Array (Option Value)} {oc_Sheets_frame_for kV_Sheets_frame_for dc_Sheets_frame_for pm_Sheets_frame_for cd_Sheets_frame_for ct_Sheets_frame_for : Value}
    {f_law : Addr} {od_law an_law : Option Addr} {sl_law : Array (Option Value)} {oc_law kV_law dc_law pm_law cd_law ct_law : Value}
    (a_NoRoom : PySem.W.nsIn K mainGlobals "NoRoom" = some (some (.ref C_NoRoom)))
    (a_FrameError : PySem.W.nsIn K mainGlobals "FrameError" = some (some (.ref C_FrameError)))
    (a_Sheets : PySem.W.nsIn K mainGlobals "Sheets" = some (some (.ref C_Sheets)))
    (a_Spots : PySem.W.nsIn K mainGlobals "Spots" = some (some (.ref C_Spots)))
    (a_Sheet : PySem.W.nsIn K mainGlobals "Sheet" = some (some (.ref C_Sheet)))
    (zb_bool : PySem.W.nsIn K mainGlobals "bool" = some none)
    (zb_enumerate : PySem.W.nsIn K mainGlobals "enumerate" = some none)
    (zb_int : PySem.W.nsIn K mainGlobals "int" = some none)
    (zb_isinstance : PySem.W.nsIn K mainGlobals "isinstance" = some none)
    (zb_len : PySem.W.nsIn K mainGlobals "len" = some none)
    (zb_list : PySem.W.nsIn K mainGlobals "list" = some none)
    (zb_range : PySem.W.nsIn K mainGlobals "range" = some none)
    (zb_sorted : PySem.W.nsIn K mainGlobals "sorted" = some none)
    (zb_str : PySem.W.nsIn K mainGlobals "str" = some none)
    (zb_tuple : PySem.W.nsIn K mainGlobals "tuple" = some none)
    (a_swept_ : PySem.W.nsIn K mainGlobals "swept" = some (some (.ref f_swept)))
    (l_swept_ : K.lookup f_swept = some ⟨oc_swept, od_swept, .func (PySem.W.fnOf "swept" "swept" (defArgs s_swept) (defBody s_swept) (defScope s_swept) .none kV_swept dc_swept pm_swept an_swept cd_swept ct_swept), sl_swept⟩)
    (c_swept_ : PySem.W.codeIn K cd_swept "swept" = true)
    (k_swept_ : PySem.W.keepIn K (.ref f_swept) = true)
    (a_l_cell_ : PySem.W.nsIn K mainGlobals "_law_cell" = some (some (.ref f_l_cell)))
    (l_l_cell_ : K.lookup f_l_cell = some ⟨oc_l_cell, od_l_cell, .func (PySem.W.fnOf "_law_cell" "_law_cell" (defArgs s_l_cell) (defBody s_l_cell) (defScope s_l_cell) .none kV_l_cell dc_l_cell pm_l_cell an_l_cell cd_l_cell ct_l_cell), sl_l_cell⟩)
    (c_l_cell_ : PySem.W.codeIn K cd_l_cell "_law_cell" = true)
    (k_l_cell_ : PySem.W.keepIn K (.ref f_l_cell) = true)
    (a_l_like_ : PySem.W.nsIn K mainGlobals "_law_like" = some (some (.ref f_l_like)))
    (l_l_like_ : K.lookup f_l_like = some ⟨oc_l_like, od_l_like, .func (PySem.W.fnOf "_law_like" "_law_like" (defArgs s_l_like) (defBody s_l_like) (defScope s_l_like) .none kV_l_like dc_l_like pm_l_like an_l_like cd_l_like ct_l_like), sl_l_like⟩)
    (c_l_like_ : PySem.W.codeIn K cd_l_like "_law_like" = true)
    (k_l_like_ : PySem.W.keepIn K (.ref f_l_like) = true)
    (a_l_size_ : PySem.W.nsIn K mainGlobals "_law_size" = some (some (.ref f_l_size)))
    (l_l_size_ : K.lookup f_l_size = some ⟨oc_l_size, od_l_size, .func (PySem.W.fnOf "_law_size" "_law_size" (defArgs s_l_size) (defBody s_l_size) (defScope s_l_size) .none kV_l_size dc_l_size pm_l_size an_l_size cd_l_size ct_l_size), sl_l_size⟩)
    (c_l_size_ : PySem.W.codeIn K cd_l_size "_law_size" = true)
    (k_l_size_ : PySem.W.keepIn K (.ref f_l_size) = true)
    (a_l_sheet_ : PySem.W.nsIn K mainGlobals "_law_sheet" = some (some (.ref f_l_sheet)))
    (l_l_sheet_ : K.lookup f_l_sheet = some ⟨oc_l_sheet, od_l_sheet, .func (PySem.W.fnOf "_law_sheet" "_law_sheet" (defArgs s_l_sheet) (defBody s_l_sheet) (defScope s_l_sheet) .none kV_l_sheet dc_l_sheet pm_l_sheet an_l_sheet cd_l_sheet ct_l_sheet), sl_l_sheet⟩)
    (c_l_sheet_ : PySem.W.codeIn K cd_l_sheet "_law_sheet" = true)
    (k_l_sheet_ : PySem.W.keepIn K (.ref f_l_sheet) = true)
    (a_l_fresh_ : PySem.W.nsIn K mainGlobals "_law_fresh" = some (some (.ref f_l_fresh)))
    (l_l_fresh_ : K.lookup f_l_fresh = some ⟨oc_l_fresh, od_l_fresh, .func (PySem.W.fnOf "_law_fresh" "_law_fresh" (defArgs s_l_fresh) (defBody s_l_fresh) (defScope s_l_fresh) .none kV_l_fresh dc_l_fresh pm_l_fresh an_l_fresh cd_l_fresh ct_l_fresh), sl_l_fresh⟩)
    (c_l_fresh_ : PySem.W.codeIn K cd_l_fresh "_law_fresh" = true)
    (k_l_fresh_ : PySem.W.keepIn K (.ref f_l_fresh) = true)
    (a_l_let_go_ : PySem.W.nsIn K mainGlobals "_law_let_go" = some (some (.ref f_l_let_go)))
    (l_l_let_go_ : K.lookup f_l_let_go = some ⟨oc_l_let_go, od_l_let_go, .func (PySem.W.fnOf "_law_let_go" "_law_let_go" (defArgs s_l_let_go) (defBody s_l_let_go) (defScope s_l_let_go) .none kV_l_let_go dc_l_let_go pm_l_let_go an_l_let_go cd_l_let_go ct_l_let_go), sl_l_let_go⟩)
    (c_l_let_go_ : PySem.W.codeIn K cd_l_let_go "_law_let_go" = true)
    (k_l_let_go_ : PySem.W.keepIn K (.ref f_l_let_go) = true)
    (pg_Sheet : PySem.W.plainGet K C_Sheet Str.empty = true)
    (hd_Sheet : PySem.W.hasDictIn K C_Sheet = true)
    (po_Sheet : PySem.W.plainOver K C_Sheet = true)
    (sa_Sheet : PySem.W.findIn K (.ref C_Sheet) "__setattr__" = some (some (.builtin "object.__setattr__")))
    (zn_Sheet_boxes : PySem.W.findIn K (.ref C_Sheet) "boxes" = some none)
    (zn_Sheet_holders : PySem.W.findIn K (.ref C_Sheet) "holders" = some none)
    (mk_Sheet : PySem.W.makesIn K C_Sheet = true)
    (kc_Sheet : PySem.W.keepIn K (.ref C_Sheet) = true)
    (a_Sheet_init_ : PySem.W.findIn K (.ref C_Sheet) "__init__" = some (some (.ref f_Sheet_init)))
    (i_Sheet_init_ : PySem.W.isFn K (.ref f_Sheet_init) = true)
    (l_Sheet_init_ : K.lookup f_Sheet_init = some ⟨oc_Sheet_init, od_Sheet_init, .func (PySem.W.fnOf "__init__" "Sheet.__init__" (defArgs s_Sheet_init) (defBody s_Sheet_init) (defScope s_Sheet_init) .none kV_Sheet_init dc_Sheet_init pm_Sheet_init an_Sheet_init cd_Sheet_init ct_Sheet_init), sl_Sheet_init⟩)
    (c_Sheet_init_ : PySem.W.codeIn K cd_Sheet_init "Sheet.__init__" = true)
    (k_Sheet_init_ : PySem.W.keepIn K (.ref f_Sheet_init) = true)
    (a_Sheet_told_holders_ : PySem.W.findIn K (.ref C_Sheet) "told_holders" = some (some (.ref f_Sheet_told_holders)))
    (i_Sheet_told_holders_ : PySem.W.isFn K (.ref f_Sheet_told_holders) = true)
    (l_Sheet_told_holders_ : K.lookup f_Sheet_told_holders = some ⟨oc_Sheet_told_holders, od_Sheet_told_holders, .func (PySem.W.fnOf "told_holders" "Sheet.told_holders" (defArgs s_Sheet_told_holders) (defBody s_Sheet_told_holders) (defScope s_Sheet_told_holders) .none kV_Sheet_told_holders dc_Sheet_told_holders pm_Sheet_told_holders an_Sheet_told_holders cd_Sheet_told_holders ct_Sheet_told_holders), sl_Sheet_told_holders⟩)
    (c_Sheet_told_holders_ : PySem.W.codeIn K cd_Sheet_told_holders "Sheet.told_holders" = true)
    (k_Sheet_told_holders_ : PySem.W.keepIn K (.ref f_Sheet_told_holders) = true)
    (pg_Spots : PySem.W.plainGet K C_Spots Str.empty = true)
    (hd_Spots : PySem.W.hasDictIn K C_Spots = true)
    (po_Spots : PySem.W.plainOver K C_Spots = true)
    (sa_Spots : PySem.W.findIn K (.ref C_Spots) "__setattr__" = some (some (.builtin "object.__setattr__")))
    (zn_Spots_lying : PySem.W.findIn K (.ref C_Spots) "lying" = some none)
    (zn_Spots_twins : PySem.W.findIn K (.ref C_Spots) "twins" = some none)
    (mk_Spots : PySem.W.makesIn K C_Spots = true)
    (kc_Spots : PySem.W.keepIn K (.ref C_Spots) = true)
    (a_Spots_init_ : PySem.W.findIn K (.ref C_Spots) "__init__" = some (some (.ref f_Spots_init)))
    (i_Spots_init_ : PySem.W.isFn K (.ref f_Spots_init) = true)
    (l_Spots_init_ : K.lookup f_Spots_init = some ⟨oc_Spots_init, od_Spots_init, .func (PySem.W.fnOf "__init__" "Spots.__init__" (defArgs s_Spots_init) (defBody s_Spots_init) (defScope s_Spots_init) .none kV_Spots_init dc_Spots_init pm_Spots_init an_Spots_init cd_Spots_init ct_Spots_init), sl_Spots_init⟩)
    (c_Spots_init_ : PySem.W.codeIn K cd_Spots_init "Spots.__init__" = true)
    (k_Spots_init_ : PySem.W.keepIn K (.ref f_Spots_init) = true)
    (a_Spots_first_empty_ : PySem.W.findIn K (.ref C_Spots) "first_empty" = some (some (.ref f_Spots_first_empty)))
    (i_Spots_first_empty_ : PySem.W.isFn K (.ref f_Spots_first_empty) = true)
    (l_Spots_first_empty_ : K.lookup f_Spots_first_empty = some ⟨oc_Spots_first_empty, od_Spots_first_empty, .func (PySem.W.fnOf "first_empty" "Spots.first_empty" (defArgs s_Spots_first_empty) (defBody s_Spots_first_empty) (defScope s_Spots_first_empty) .none kV_Spots_first_empty dc_Spots_first_empty pm_Spots_first_empty an_Spots_first_empty cd_Spots_first_empty ct_Spots_first_empty), sl_Spots_first_empty⟩)
    (c_Spots_first_empty_ : PySem.W.codeIn K cd_Spots_first_empty "Spots.first_empty" = true)
    (k_Spots_first_empty_ : PySem.W.keepIn K (.ref f_Spots_first_empty) = true)
    (a_Spots_live_count_ : PySem.W.findIn K (.ref C_Spots) "live_count" = some (some (.ref f_Spots_live_count)))
    (i_Spots_live_count_ : PySem.W.isFn K (.ref f_Spots_live_count) = true)
    (l_Spots_live_count_ : K.lookup f_Spots_live_count = some ⟨oc_Spots_live_count, od_Spots_live_count, .func (PySem.W.fnOf "live_count" "Spots.live_count" (defArgs s_Spots_live_count) (defBody s_Spots_live_count) (defScope s_Spots_live_count) .none kV_Spots_live_count dc_Spots_live_count pm_Spots_live_count an_Spots_live_count cd_Spots_live_count ct_Spots_live_count), sl_Spots_live_count⟩)
    (c_Spots_live_count_ : PySem.W.codeIn K cd_Spots_live_count "Spots.live_count" = true)
    (k_Spots_live_count_ : PySem.W.keepIn K (.ref f_Spots_live_count) = true)
    (pg_Sheets : PySem.W.plainGet K C_Sheets Str.empty = true)
    (hd_Sheets : PySem.W.hasDictIn K C_Sheets = true)
    (po_Sheets : PySem.W.plainOver K C_Sheets = true)
    (sa_Sheets : PySem.W.findIn K (.ref C_Sheets) "__setattr__" = some (some (.builtin "object.__setattr__")))
    (zn_Sheets_size : PySem.W.findIn K (.ref C_Sheets) "size" = some none)
    (zn_Sheets_frames : PySem.W.findIn K (.ref C_Sheets) "frames" = some none)
    (zn_Sheets_slots : PySem.W.findIn K (.ref C_Sheets) "slots" = some none)
    (zn_Sheets_hand : PySem.W.findIn K (.ref C_Sheets) "hand" = some none)
    (zn_Sheets_gone_out : PySem.W.findIn K (.ref C_Sheets) "gone_out" = some none)
    (zn_Sheets_gone_astray : PySem.W.findIn K (.ref C_Sheets) "gone_astray" = some none)
    (zn_Sheets_come_back : PySem.W.findIn K (.ref C_Sheets) "come_back" = some none)
    (a_Sheets_put_out_ : PySem.W.findIn K (.ref C_Sheets) "put_out" = some (some (.ref f_Sheets_put_out)))
    (i_Sheets_put_out_ : PySem.W.isFn K (.ref f_Sheets_put_out) = true)
    (l_Sheets_put_out_ : K.lookup f_Sheets_put_out = some ⟨oc_Sheets_put_out, od_Sheets_put_out, .func (PySem.W.fnOf "put_out" "Sheets.put_out" (defArgs s_Sheets_put_out) (defBody s_Sheets_put_out) (defScope s_Sheets_put_out) .none kV_Sheets_put_out dc_Sheets_put_out pm_Sheets_put_out an_Sheets_put_out cd_Sheets_put_out ct_Sheets_put_out), sl_Sheets_put_out⟩)
    (c_Sheets_put_out_ : PySem.W.codeIn K cd_Sheets_put_out "Sheets.put_out" = true)
    (k_Sheets_put_out_ : PySem.W.keepIn K (.ref f_Sheets_put_out) = true)
    (mk_Sheets : PySem.W.makesIn K C_Sheets = true)
    (kc_Sheets : PySem.W.keepIn K (.ref C_Sheets) = true)
    (a_Sheets_init_ : PySem.W.findIn K (.ref C_Sheets) "__init__" = some (some (.ref f_Sheets_init)))
    (i_Sheets_init_ : PySem.W.isFn K (.ref f_Sheets_init) = true)
    (l_Sheets_init_ : K.lookup f_Sheets_init = some ⟨oc_Sheets_init, od_Sheets_init, .func (PySem.W.fnOf "__init__" "Sheets.__init__" (defArgs s_Sheets_init) (defBody s_Sheets_init) (defScope s_Sheets_init) .none kV_Sheets_init dc_Sheets_init pm_Sheets_init an_Sheets_init cd_Sheets_init ct_Sheets_init), sl_Sheets_init⟩)
    (c_Sheets_init_ : PySem.W.codeIn K cd_Sheets_init "Sheets.__init__" = true)
    (k_Sheets_init_ : PySem.W.keepIn K (.ref f_Sheets_init) = true)
    (a_Sheets_fresh_ : PySem.W.findIn K (.ref C_Sheets) "fresh" = some (some (.ref f_Sheets_fresh)))
    (i_Sheets_fresh_ : PySem.W.isFn K (.ref f_Sheets_fresh) = true)
    (l_Sheets_fresh_ : K.lookup f_Sheets_fresh = some ⟨oc_Sheets_fresh, od_Sheets_fresh, .func (PySem.W.fnOf "fresh" "Sheets.fresh" (defArgs s_Sheets_fresh) (defBody s_Sheets_fresh) (defScope s_Sheets_fresh) .none kV_Sheets_fresh dc_Sheets_fresh pm_Sheets_fresh an_Sheets_fresh cd_Sheets_fresh ct_Sheets_fresh), sl_Sheets_fresh⟩)
    (c_Sheets_fresh_ : PySem.W.codeIn K cd_Sheets_fresh "Sheets.fresh" = true)
    (k_Sheets_fresh_ : PySem.W.keepIn K (.ref f_Sheets_fresh) = true)
    (a_Sheets_let_go_ : PySem.W.findIn K (.ref C_Sheets) "let_go" = some (some (.ref f_Sheets_let_go)))
    (i_Sheets_let_go_ : PySem.W.isFn K (.ref f_Sheets_let_go) = true)
    (l_Sheets_let_go_ : K.lookup f_Sheets_let_go = some ⟨oc_Sheets_let_go, od_Sheets_let_go, .func (PySem.W.fnOf "let_go" "Sheets.let_go" (defArgs s_Sheets_let_go) (defBody s_Sheets_let_go) (defScope s_Sheets_let_go) .none kV_Sheets_let_go dc_Sheets_let_go pm_Sheets_let_go an_Sheets_let_go cd_Sheets_let_go ct_Sheets_let_go), sl_Sheets_let_go⟩)
    (c_Sheets_let_go_ : PySem.W.codeIn K cd_Sheets_let_go "Sheets.let_go" = true)
    (k_Sheets_let_go_ : PySem.W.keepIn K (.ref f_Sheets_let_go) = true)
    (a_Sheets_holders_of_ : PySem.W.findIn K (.ref C_Sheets) "holders_of" = some (some (.ref f_Sheets_holders_of)))
    (i_Sheets_holders_of_ : PySem.W.isFn K (.ref f_Sheets_holders_of) = true)
    (l_Sheets_holders_of_ : K.lookup f_Sheets_holders_of = some ⟨oc_Sheets_holders_of, od_Sheets_holders_of, .func (PySem.W.fnOf "holders_of" "Sheets.holders_of" (defArgs s_Sheets_holders_of) (defBody s_Sheets_holders_of) (defScope s_Sheets_holders_of) .none kV_Sheets_holders_of dc_Sheets_holders_of pm_Sheets_holders_of an_Sheets_holders_of cd_Sheets_holders_of ct_Sheets_holders_of), sl_Sheets_holders_of⟩)
    (c_Sheets_holders_of_ : PySem.W.codeIn K cd_Sheets_holders_of "Sheets.holders_of" = true)
    (k_Sheets_holders_of_ : PySem.W.keepIn K (.ref f_Sheets_holders_of) = true)
    (a_Sheets_sheet_at_ : PySem.W.findIn K (.ref C_Sheets) "sheet_at" = some (some (.ref f_Sheets_sheet_at)))
    (i_Sheets_sheet_at_ : PySem.W.isFn K (.ref f_Sheets_sheet_at) = true)
    (l_Sheets_sheet_at_ : K.lookup f_Sheets_sheet_at = some ⟨oc_Sheets_sheet_at, od_Sheets_sheet_at, .func (PySem.W.fnOf "sheet_at" "Sheets.sheet_at" (defArgs s_Sheets_sheet_at) (defBody s_Sheets_sheet_at) (defScope s_Sheets_sheet_at) .none kV_Sheets_sheet_at dc_Sheets_sheet_at pm_Sheets_sheet_at an_Sheets_sheet_at cd_Sheets_sheet_at ct_Sheets_sheet_at), sl_Sheets_sheet_at⟩)
    (c_Sheets_sheet_at_ : PySem.W.codeIn K cd_Sheets_sheet_at "Sheets.sheet_at" = true)
    (k_Sheets_sheet_at_ : PySem.W.keepIn K (.ref f_Sheets_sheet_at) = true)
    (a_Sheets_box_of_ : PySem.W.findIn K (.ref C_Sheets) "box_of" = some (some (.ref f_Sheets_box_of)))
    (i_Sheets_box_of_ : PySem.W.isFn K (.ref f_Sheets_box_of) = true)
    (l_Sheets_box_of_ : K.lookup f_Sheets_box_of = some ⟨oc_Sheets_box_of, od_Sheets_box_of, .func (PySem.W.fnOf "box_of" "Sheets.box_of" (defArgs s_Sheets_box_of) (defBody s_Sheets_box_of) (defScope s_Sheets_box_of) .none kV_Sheets_box_of dc_Sheets_box_of pm_Sheets_box_of an_Sheets_box_of cd_Sheets_box_of ct_Sheets_box_of), sl_Sheets_box_of⟩)
    (c_Sheets_box_of_ : PySem.W.codeIn K cd_Sheets_box_of "Sheets.box_of" = true)
    (k_Sheets_box_of_ : PySem.W.keepIn K (.ref f_Sheets_box_of) = true)
    (a_Sheets_live_sheets_ : PySem.W.findIn K (.ref C_Sheets) "live_sheets" = some (some (.ref f_Sheets_live_sheets)))
    (i_Sheets_live_sheets_ : PySem.W.isFn K (.ref f_Sheets_live_sheets) = true)
    (l_Sheets_live_sheets_ : K.lookup f_Sheets_live_sheets = some ⟨oc_Sheets_live_sheets, od_Sheets_live_sheets, .func (PySem.W.fnOf "live_sheets" "Sheets.live_sheets" (defArgs s_Sheets_live_sheets) (defBody s_Sheets_live_sheets) (defScope s_Sheets_live_sheets) .none kV_Sheets_live_sheets dc_Sheets_live_sheets pm_Sheets_live_sheets an_Sheets_live_sheets cd_Sheets_live_sheets ct_Sheets_live_sheets), sl_Sheets_live_sheets⟩)
    (c_Sheets_live_sheets_ : PySem.W.codeIn K cd_Sheets_live_sheets "Sheets.live_sheets" = true)
    (k_Sheets_live_sheets_ : PySem.W.keepIn K (.ref f_Sheets_live_sheets) = true)
    (a_Sheets_is_full_ : PySem.W.findIn K (.ref C_Sheets) "is_full" = some (some (.ref f_Sheets_is_full)))
    (i_Sheets_is_full_ : PySem.W.isFn K (.ref f_Sheets_is_full) = true)
    (l_Sheets_is_full_ : K.lookup f_Sheets_is_full = some ⟨oc_Sheets_is_full, od_Sheets_is_full, .func (PySem.W.fnOf "is_full" "Sheets.is_full" (defArgs s_Sheets_is_full) (defBody s_Sheets_is_full) (defScope s_Sheets_is_full) .none kV_Sheets_is_full dc_Sheets_is_full pm_Sheets_is_full an_Sheets_is_full cd_Sheets_is_full ct_Sheets_is_full), sl_Sheets_is_full⟩)
    (c_Sheets_is_full_ : PySem.W.codeIn K cd_Sheets_is_full "Sheets.is_full" = true)
    (k_Sheets_is_full_ : PySem.W.keepIn K (.ref f_Sheets_is_full) = true)
    (a_Sheets_hand_at_ : PySem.W.findIn K (.ref C_Sheets) "hand_at" = some (some (.ref f_Sheets_hand_at)))
    (i_Sheets_hand_at_ : PySem.W.isFn K (.ref f_Sheets_hand_at) = true)
    (l_Sheets_hand_at_ : K.lookup f_Sheets_hand_at = some ⟨oc_Sheets_hand_at, od_Sheets_hand_at, .func (PySem.W.fnOf "hand_at" "Sheets.hand_at" (defArgs s_Sheets_hand_at) (defBody s_Sheets_hand_at) (defScope s_Sheets_hand_at) .none kV_Sheets_hand_at dc_Sheets_hand_at pm_Sheets_hand_at an_Sheets_hand_at cd_Sheets_hand_at ct_Sheets_hand_at), sl_Sheets_hand_at⟩)
    (c_Sheets_hand_at_ : PySem.W.codeIn K cd_Sheets_hand_at "Sheets.hand_at" = true)
    (k_Sheets_hand_at_ : PySem.W.keepIn K (.ref f_Sheets_hand_at) = true)
    (a_Sheets_told_frames_ : PySem.W.findIn K (.ref C_Sheets) "told_frames" = some (some (.ref f_Sheets_told_frames)))
    (i_Sheets_told_frames_ : PySem.W.isFn K (.ref f_Sheets_told_frames) = true)
    (l_Sheets_told_frames_ : K.lookup f_Sheets_told_frames = some ⟨oc_Sheets_told_frames, od_Sheets_told_frames, .func (PySem.W.fnOf "told_frames" "Sheets.told_frames" (defArgs s_Sheets_told_frames) (defBody s_Sheets_told_frames) (defScope s_Sheets_told_frames) .none kV_Sheets_told_frames dc_Sheets_told_frames pm_Sheets_told_frames an_Sheets_told_frames cd_Sheets_told_frames ct_Sheets_told_frames), sl_Sheets_told_frames⟩)
    (c_Sheets_told_frames_ : PySem.W.codeIn K cd_Sheets_told_frames "Sheets.told_frames" = true)
    (k_Sheets_told_frames_ : PySem.W.keepIn K (.ref f_Sheets_told_frames) = true)
    (a_Sheets_told_slots_ : PySem.W.findIn K (.ref C_Sheets) "told_slots" = some (some (.ref f_Sheets_told_slots)))
    (i_Sheets_told_slots_ : PySem.W.isFn K (.ref f_Sheets_told_slots) = true)
    (l_Sheets_told_slots_ : K.lookup f_Sheets_told_slots = some ⟨oc_Sheets_told_slots, od_Sheets_told_slots, .func (PySem.W.fnOf "told_slots" "Sheets.told_slots" (defArgs s_Sheets_told_slots) (defBody s_Sheets_told_slots) (defScope s_Sheets_told_slots) .none kV_Sheets_told_slots dc_Sheets_told_slots pm_Sheets_told_slots an_Sheets_told_slots cd_Sheets_told_slots ct_Sheets_told_slots), sl_Sheets_told_slots⟩)
    (c_Sheets_told_slots_ : PySem.W.codeIn K cd_Sheets_told_slots "Sheets.told_slots" = true)
    (k_Sheets_told_slots_ : PySem.W.keepIn K (.ref f_Sheets_told_slots) = true)
    (a_Sheets_moved_ : PySem.W.findIn K (.ref C_Sheets) "moved" = some (some (.ref f_Sheets_moved)))
    (i_Sheets_moved_ : PySem.W.isFn K (.ref f_Sheets_moved) = true)
    (l_Sheets_moved_ : K.lookup f_Sheets_moved = some ⟨oc_Sheets_moved, od_Sheets_moved, .func (PySem.W.fnOf "moved" "Sheets.moved" (defArgs s_Sheets_moved) (defBody s_Sheets_moved) (defScope s_Sheets_moved) .none kV_Sheets_moved dc_Sheets_moved pm_Sheets_moved an_Sheets_moved cd_Sheets_moved ct_Sheets_moved), sl_Sheets_moved⟩)
    (c_Sheets_moved_ : PySem.W.codeIn K cd_Sheets_moved "Sheets.moved" = true)
    (k_Sheets_moved_ : PySem.W.keepIn K (.ref f_Sheets_moved) = true)
    (a_Sheets_lying_at_ : PySem.W.findIn K (.ref C_Sheets) "lying_at" = some (some (.ref f_Sheets_lying_at)))
    (i_Sheets_lying_at_ : PySem.W.isFn K (.ref f_Sheets_lying_at) = true)
    (l_Sheets_lying_at_ : K.lookup f_Sheets_lying_at = some ⟨oc_Sheets_lying_at, od_Sheets_lying_at, .func (PySem.W.fnOf "lying_at" "Sheets.lying_at" (defArgs s_Sheets_lying_at) (defBody s_Sheets_lying_at) (defScope s_Sheets_lying_at) .none kV_Sheets_lying_at dc_Sheets_lying_at pm_Sheets_lying_at an_Sheets_lying_at cd_Sheets_lying_at ct_Sheets_lying_at), sl_Sheets_lying_at⟩)
    (c_Sheets_lying_at_ : PySem.W.codeIn K cd_Sheets_lying_at "Sheets.lying_at" = true)
    (k_Sheets_lying_at_ : PySem.W.keepIn K (.ref f_Sheets_lying_at) = true)
    (a_Sheets_told_slot_ : PySem.W.findIn K (.ref C_Sheets) "told_slot" = some (some (.ref f_Sheets_told_slot)))
    (i_Sheets_told_slot_ : PySem.W.isFn K (.ref f_Sheets_told_slot) = true)
    (l_Sheets_told_slot_ : K.lookup f_Sheets_told_slot = some ⟨oc_Sheets_told_slot, od_Sheets_told_slot, .func (PySem.W.fnOf "told_slot" "Sheets.told_slot" (defArgs s_Sheets_told_slot) (defBody s_Sheets_told_slot) (defScope s_Sheets_told_slot) .none kV_Sheets_told_slot dc_Sheets_told_slot pm_Sheets_told_slot an_Sheets_told_slot cd_Sheets_told_slot ct_Sheets_told_slot), sl_Sheets_told_slot⟩)
    (c_Sheets_told_slot_ : PySem.W.codeIn K cd_Sheets_told_slot "Sheets.told_slot" = true)
    (k_Sheets_told_slot_ : PySem.W.keepIn K (.ref f_Sheets_told_slot) = true)
    (a_Sheets_make_empty_ : PySem.W.findIn K (.ref C_Sheets) "make_empty" = some (some (.ref f_Sheets_make_empty)))
    (i_Sheets_make_empty_ : PySem.W.isFn K (.ref f_Sheets_make_empty) = true)
    (l_Sheets_make_empty_ : K.lookup f_Sheets_make_empty = some ⟨oc_Sheets_make_empty, od_Sheets_make_empty, .func (PySem.W.fnOf "make_empty" "Sheets.make_empty" (defArgs s_Sheets_make_empty) (defBody s_Sheets_make_empty) (defScope s_Sheets_make_empty) .none kV_Sheets_make_empty dc_Sheets_make_empty pm_Sheets_make_empty an_Sheets_make_empty cd_Sheets_make_empty ct_Sheets_make_empty), sl_Sheets_make_empty⟩)
    (c_Sheets_make_empty_ : PySem.W.codeIn K cd_Sheets_make_empty "Sheets.make_empty" = true)
    (k_Sheets_make_empty_ : PySem.W.keepIn K (.ref f_Sheets_make_empty) = true)
    (a_Sheets_lose_twin_ : PySem.W.findIn K (.ref C_Sheets) "lose_twin" = some (some (.ref f_Sheets_lose_twin)))
    (i_Sheets_lose_twin_ : PySem.W.isFn K (.ref f_Sheets_lose_twin) = true)
    (l_Sheets_lose_twin_ : K.lookup f_Sheets_lose_twin = some ⟨oc_Sheets_lose_twin, od_Sheets_lose_twin, .func (PySem.W.fnOf "lose_twin" "Sheets.lose_twin" (defArgs s_Sheets_lose_twin) (defBody s_Sheets_lose_twin) (defScope s_Sheets_lose_twin) .none kV_Sheets_lose_twin dc_Sheets_lose_twin pm_Sheets_lose_twin an_Sheets_lose_twin cd_Sheets_lose_twin ct_Sheets_lose_twin), sl_Sheets_lose_twin⟩)
    (c_Sheets_lose_twin_ : PySem.W.codeIn K cd_Sheets_lose_twin "Sheets.lose_twin" = true)
    (k_Sheets_lose_twin_ : PySem.W.keepIn K (.ref f_Sheets_lose_twin) = true)
    (a_Sheets_frame_for_ : PySem.W.findIn K (.ref C_Sheets) "frame_for" = some (some (.ref f_Sheets_frame_for)))
    (i_Sheets_frame_for_ : PySem.W.isFn K (.ref f_Sheets_frame_for) = true)
    (l_Sheets_frame_for_ : K.lookup f_Sheets_frame_for = some ⟨oc_Sheets_frame_for, od_Sheets_frame_for, .func (PySem.W.fnOf "frame_for" "Sheets.frame_for" (defArgs s_Sheets_frame_for) (defBody s_Sheets_frame_for) (defScope s_Sheets_frame_for) .none kV_Sheets_frame_for dc_Sheets_frame_for pm_Sheets_frame_for an_Sheets_frame_for cd_Sheets_frame_for ct_Sheets_frame_for), sl_Sheets_frame_for⟩)
    (c_Sheets_frame_for_ : PySem.W.codeIn K cd_Sheets_frame_for "Sheets.frame_for" = true)
    (k_Sheets_frame_for_ : PySem.W.keepIn K (.ref f_Sheets_frame_for) = true)
    (ze_NoRoom : PySem.W.excIn K C_NoRoom mroVE "ValueError.__new__" = true)
    (a_law_ : PySem.W.nsIn K mainGlobals "law" = some (some (.ref f_law)))
    (l_law_ : K.lookup f_law = some ⟨oc_law, od_law, .func (PySem.W.fnOf "law" "law" (defArgs s_law) (defBody s_law) (defScope s_law) .none kV_law dc_law pm_law an_law cd_law ct_law), sl_law⟩)
    (c_law_ : PySem.W.codeIn K cd_law "law" = true)
    (k_law_ : PySem.W.keepIn K (.ref f_law) = true)
    : ∃ A : Adr, Txt K mg A := ⟨⟨C_Sheet, C_Spots, C_Sheets, C_FrameError, C_NoRoom⟩, {
      b_bool := PySem.W.mg_none_of X G zb_bool
      b_enumerate := PySem.W.mg_none_of X G zb_enumerate
      b_int := PySem.W.mg_none_of X G zb_int
      b_isinstance := PySem.W.mg_none_of X G zb_isinstance
      b_len := PySem.W.mg_none_of X G zb_len
      b_list := PySem.W.mg_none_of X G zb_list
      b_range := PySem.W.mg_none_of X G zb_range
      b_sorted := PySem.W.mg_none_of X G zb_sorted
      b_str := PySem.W.mg_none_of X G zb_str
      b_tuple := PySem.W.mg_none_of X G zb_tuple
      r_swept := ⟨_, _, _, PySem.W.mg_of X G a_swept_, fun_mk (st := s_swept) l_swept_ c_swept_ k_swept_, (fun_mk (st := s_swept) l_swept_ c_swept_ k_swept_).binds (ps := ["marks", "hand"]) fun _ _ _ _ _ _ => el2 (fun _ _ => rfl), .nil⟩
      r_l_cell := ⟨_, _, _, PySem.W.mg_of X G a_l_cell_, fun_mk (st := s_l_cell) l_l_cell_ c_l_cell_ k_l_cell_, (fun_mk (st := s_l_cell) l_l_cell_ c_l_cell_ k_l_cell_).binds (ps := ["_law_script", "_law_k"]) fun _ _ _ _ _ _ => el2 (fun _ _ => rfl), .nil⟩
      r_l_like := ⟨_, _, _, PySem.W.mg_of X G a_l_like_, fun_mk (st := s_l_like) l_l_like_ c_l_like_ k_l_like_, (fun_mk (st := s_l_like) l_l_like_ c_l_like_ k_l_like_).binds (ps := ["_law_found", "_law_due"]) fun _ _ _ _ _ _ => el2 (fun _ _ => rfl), .nil⟩
      r_l_size := ⟨_, _, _, PySem.W.mg_of X G a_l_size_, fun_mk (st := s_l_size) l_l_size_ c_l_size_ k_l_size_, (fun_mk (st := s_l_size) l_l_size_ c_l_size_ k_l_size_).binds (ps := ["_law_cell_here", "_law_low", "_law_many"]) fun _ _ _ _ _ _ => el3 (fun _ _ _ => rfl), .nil⟩
      r_l_sheet := ⟨_, _, _, PySem.W.mg_of X G a_l_sheet_, fun_mk (st := s_l_sheet) l_l_sheet_ c_l_sheet_ k_l_sheet_, (fun_mk (st := s_l_sheet) l_l_sheet_ c_l_sheet_ k_l_sheet_).binds (ps := ["_law_cell_here", "_law_number", "_law_size_here"]) fun _ _ _ _ _ _ => el3 (fun _ _ _ => rfl), .nil⟩
      r_l_fresh := ⟨_, _, _, PySem.W.mg_of X G a_l_fresh_, fun_mk (st := s_l_fresh) l_l_fresh_ c_l_fresh_ k_l_fresh_, (fun_mk (st := s_l_fresh) l_l_fresh_ c_l_fresh_ k_l_fresh_).binds (ps := ["_law_sheets", "_law_plain", "_law_sheet_here", "_law_holder", "_law_marks"]) fun _ _ _ _ _ _ => el5 (fun _ _ _ _ _ => rfl), .nil⟩
      r_l_let_go := ⟨_, _, _, PySem.W.mg_of X G a_l_let_go_, fun_mk (st := s_l_let_go) l_l_let_go_ c_l_let_go_ k_l_let_go_, (fun_mk (st := s_l_let_go) l_l_let_go_ c_l_let_go_ k_l_let_go_).binds (ps := ["_law_sheets", "_law_plain", "_law_at"]) fun _ _ _ _ _ _ => el3 (fun _ _ _ => rfl), .nil⟩
      cl_Sheet := ⟨pg_Sheet, hd_Sheet, po_Sheet, sa_Sheet⟩
      na_Sheet_boxes := zn_Sheet_boxes
      na_Sheet_holders := zn_Sheet_holders
      r_Sheet_init := ⟨_, _, _, PySem.W.mg_of X G a_Sheet, ⟨mk_Sheet, a_Sheet_init_, i_Sheet_init_, kc_Sheet⟩, fun_mk (st := s_Sheet_init) l_Sheet_init_ c_Sheet_init_ k_Sheet_init_, (fun_mk (st := s_Sheet_init) l_Sheet_init_ c_Sheet_init_ k_Sheet_init_).binds (ps := ["self", "boxes", "holder"]) fun _ _ _ _ _ _ => el3 (fun _ _ _ => rfl), .nil⟩
      r_Sheet_told_holders := ⟨_, _, _, ⟨a_Sheet_told_holders_, i_Sheet_told_holders_, k_Sheet_told_holders_⟩, fun_mk (st := s_Sheet_told_holders) l_Sheet_told_holders_ c_Sheet_told_holders_ k_Sheet_told_holders_, (fun_mk (st := s_Sheet_told_holders) l_Sheet_told_holders_ c_Sheet_told_holders_ k_Sheet_told_holders_).binds (ps := ["self"]) fun _ _ _ _ _ _ => el1 (fun _ => rfl), .nil⟩
      cl_Spots := ⟨pg_Spots, hd_Spots, po_Spots, sa_Spots⟩
      na_Spots_lying := zn_Spots_lying
      na_Spots_twins := zn_Spots_twins
      r_Spots_init := ⟨_, _, _, PySem.W.mg_of X G a_Spots, ⟨mk_Spots, a_Spots_init_, i_Spots_init_, kc_Spots⟩, fun_mk (st := s_Spots_init) l_Spots_init_ c_Spots_init_ k_Spots_init_, (fun_mk (st := s_Spots_init) l_Spots_init_ c_Spots_init_ k_Spots_init_).binds (ps := ["self", "many"]) fun _ _ _ _ _ _ => el2 (fun _ _ => rfl), .nil⟩
      r_Spots_first_empty := ⟨_, _, _, ⟨a_Spots_first_empty_, i_Spots_first_empty_, k_Spots_first_empty_⟩, fun_mk (st := s_Spots_first_empty) l_Spots_first_empty_ c_Spots_first_empty_ k_Spots_first_empty_, (fun_mk (st := s_Spots_first_empty) l_Spots_first_empty_ c_Spots_first_empty_ k_Spots_first_empty_).binds (ps := ["self"]) fun _ _ _ _ _ _ => el1 (fun _ => rfl), .nil⟩
      r_Spots_live_count := ⟨_, _, _, ⟨a_Spots_live_count_, i_Spots_live_count_, k_Spots_live_count_⟩, fun_mk (st := s_Spots_live_count) l_Spots_live_count_ c_Spots_live_count_ k_Spots_live_count_, (fun_mk (st := s_Spots_live_count) l_Spots_live_count_ c_Spots_live_count_ k_Spots_live_count_).binds (ps := ["self"]) fun _ _ _ _ _ _ => el1 (fun _ => rfl), .nil⟩
      cl_Sheets := ⟨pg_Sheets, hd_Sheets, po_Sheets, sa_Sheets⟩
      na_Sheets_size := zn_Sheets_size
      na_Sheets_frames := zn_Sheets_frames
      na_Sheets_slots := zn_Sheets_slots
      na_Sheets_hand := zn_Sheets_hand
      na_Sheets_gone_out := zn_Sheets_gone_out
      na_Sheets_gone_astray := zn_Sheets_gone_astray
      na_Sheets_come_back := zn_Sheets_come_back
      r_Sheets_put_out := ⟨_, _, _, ⟨a_Sheets_put_out_, i_Sheets_put_out_, k_Sheets_put_out_⟩, fun_mk (st := s_Sheets_put_out) l_Sheets_put_out_ c_Sheets_put_out_ k_Sheets_put_out_, (fun_mk (st := s_Sheets_put_out) l_Sheets_put_out_ c_Sheets_put_out_ k_Sheets_put_out_).binds (ps := ["self", "frame", "coming_from"]) fun _ _ _ _ _ _ => el3 (fun _ _ _ => rfl), .nil⟩
      r_Sheets_init := ⟨_, _, _, PySem.W.mg_of X G a_Sheets, ⟨mk_Sheets, a_Sheets_init_, i_Sheets_init_, kc_Sheets⟩, fun_mk (st := s_Sheets_init) l_Sheets_init_ c_Sheets_init_ k_Sheets_init_, (fun_mk (st := s_Sheets_init) l_Sheets_init_ c_Sheets_init_ k_Sheets_init_).binds (ps := ["self", "frames", "slots", "size"]) fun _ _ _ _ _ _ => el4 (fun _ _ _ _ => rfl), .nil⟩
      r_Sheets_fresh := ⟨_, _, _, ⟨a_Sheets_fresh_, i_Sheets_fresh_, k_Sheets_fresh_⟩, fun_mk (st := s_Sheets_fresh) l_Sheets_fresh_ c_Sheets_fresh_ k_Sheets_fresh_, (fun_mk (st := s_Sheets_fresh) l_Sheets_fresh_ c_Sheets_fresh_ k_Sheets_fresh_).binds (ps := ["self", "sheet", "holder", "marks"]) fun _ _ _ _ _ _ => el4 (fun _ _ _ _ => rfl), .nil⟩
      r_Sheets_let_go := ⟨_, _, _, ⟨a_Sheets_let_go_, i_Sheets_let_go_, k_Sheets_let_go_⟩, fun_mk (st := s_Sheets_let_go) l_Sheets_let_go_ c_Sheets_let_go_ k_Sheets_let_go_, (fun_mk (st := s_Sheets_let_go) l_Sheets_let_go_ c_Sheets_let_go_ k_Sheets_let_go_).binds (ps := ["self", "spot", "holder"]) fun _ _ _ _ _ _ => el3 (fun _ _ _ => rfl), .nil⟩
      r_Sheets_holders_of := ⟨_, _, _, ⟨a_Sheets_holders_of_, i_Sheets_holders_of_, k_Sheets_holders_of_⟩, fun_mk (st := s_Sheets_holders_of) l_Sheets_holders_of_ c_Sheets_holders_of_ k_Sheets_holders_of_, (fun_mk (st := s_Sheets_holders_of) l_Sheets_holders_of_ c_Sheets_holders_of_ k_Sheets_holders_of_).binds (ps := ["self", "spot"]) fun _ _ _ _ _ _ => el2 (fun _ _ => rfl), .nil⟩
      r_Sheets_sheet_at := ⟨_, _, _, ⟨a_Sheets_sheet_at_, i_Sheets_sheet_at_, k_Sheets_sheet_at_⟩, fun_mk (st := s_Sheets_sheet_at) l_Sheets_sheet_at_ c_Sheets_sheet_at_ k_Sheets_sheet_at_, (fun_mk (st := s_Sheets_sheet_at) l_Sheets_sheet_at_ c_Sheets_sheet_at_ k_Sheets_sheet_at_).binds (ps := ["self", "spot"]) fun _ _ _ _ _ _ => el2 (fun _ _ => rfl), .nil⟩
      r_Sheets_box_of := ⟨_, _, _, ⟨a_Sheets_box_of_, i_Sheets_box_of_, k_Sheets_box_of_⟩, fun_mk (st := s_Sheets_box_of) l_Sheets_box_of_ c_Sheets_box_of_ k_Sheets_box_of_, (fun_mk (st := s_Sheets_box_of) l_Sheets_box_of_ c_Sheets_box_of_ k_Sheets_box_of_).binds (ps := ["self", "frame", "box"]) fun _ _ _ _ _ _ => el3 (fun _ _ _ => rfl), .nil⟩
      r_Sheets_live_sheets := ⟨_, _, _, ⟨a_Sheets_live_sheets_, i_Sheets_live_sheets_, k_Sheets_live_sheets_⟩, fun_mk (st := s_Sheets_live_sheets) l_Sheets_live_sheets_ c_Sheets_live_sheets_ k_Sheets_live_sheets_, (fun_mk (st := s_Sheets_live_sheets) l_Sheets_live_sheets_ c_Sheets_live_sheets_ k_Sheets_live_sheets_).binds (ps := ["self"]) fun _ _ _ _ _ _ => el1 (fun _ => rfl), .nil⟩
      r_Sheets_is_full := ⟨_, _, _, ⟨a_Sheets_is_full_, i_Sheets_is_full_, k_Sheets_is_full_⟩, fun_mk (st := s_Sheets_is_full) l_Sheets_is_full_ c_Sheets_is_full_ k_Sheets_is_full_, (fun_mk (st := s_Sheets_is_full) l_Sheets_is_full_ c_Sheets_is_full_ k_Sheets_is_full_).binds (ps := ["self"]) fun _ _ _ _ _ _ => el1 (fun _ => rfl), .nil⟩
      r_Sheets_hand_at := ⟨_, _, _, ⟨a_Sheets_hand_at_, i_Sheets_hand_at_, k_Sheets_hand_at_⟩, fun_mk (st := s_Sheets_hand_at) l_Sheets_hand_at_ c_Sheets_hand_at_ k_Sheets_hand_at_, (fun_mk (st := s_Sheets_hand_at) l_Sheets_hand_at_ c_Sheets_hand_at_ k_Sheets_hand_at_).binds (ps := ["self"]) fun _ _ _ _ _ _ => el1 (fun _ => rfl), .nil⟩
      r_Sheets_told_frames := ⟨_, _, _, ⟨a_Sheets_told_frames_, i_Sheets_told_frames_, k_Sheets_told_frames_⟩, fun_mk (st := s_Sheets_told_frames) l_Sheets_told_frames_ c_Sheets_told_frames_ k_Sheets_told_frames_, (fun_mk (st := s_Sheets_told_frames) l_Sheets_told_frames_ c_Sheets_told_frames_ k_Sheets_told_frames_).binds (ps := ["self"]) fun _ _ _ _ _ _ => el1 (fun _ => rfl), .nil⟩
      r_Sheets_told_slots := ⟨_, _, _, ⟨a_Sheets_told_slots_, i_Sheets_told_slots_, k_Sheets_told_slots_⟩, fun_mk (st := s_Sheets_told_slots) l_Sheets_told_slots_ c_Sheets_told_slots_ k_Sheets_told_slots_, (fun_mk (st := s_Sheets_told_slots) l_Sheets_told_slots_ c_Sheets_told_slots_ k_Sheets_told_slots_).binds (ps := ["self"]) fun _ _ _ _ _ _ => el1 (fun _ => rfl), .nil⟩
      r_Sheets_moved := ⟨_, _, _, ⟨a_Sheets_moved_, i_Sheets_moved_, k_Sheets_moved_⟩, fun_mk (st := s_Sheets_moved) l_Sheets_moved_ c_Sheets_moved_ k_Sheets_moved_, (fun_mk (st := s_Sheets_moved) l_Sheets_moved_ c_Sheets_moved_ k_Sheets_moved_).binds (ps := ["self"]) fun _ _ _ _ _ _ => el1 (fun _ => rfl), .nil⟩
      r_Sheets_lying_at := ⟨_, _, _, ⟨a_Sheets_lying_at_, i_Sheets_lying_at_, k_Sheets_lying_at_⟩, fun_mk (st := s_Sheets_lying_at) l_Sheets_lying_at_ c_Sheets_lying_at_ k_Sheets_lying_at_, (fun_mk (st := s_Sheets_lying_at) l_Sheets_lying_at_ c_Sheets_lying_at_ k_Sheets_lying_at_).binds (ps := ["self", "spot"]) fun _ _ _ _ _ _ => el2 (fun _ _ => rfl), .nil⟩
      r_Sheets_told_slot := ⟨_, _, _, ⟨a_Sheets_told_slot_, i_Sheets_told_slot_, k_Sheets_told_slot_⟩, fun_mk (st := s_Sheets_told_slot) l_Sheets_told_slot_ c_Sheets_told_slot_ k_Sheets_told_slot_, (fun_mk (st := s_Sheets_told_slot) l_Sheets_told_slot_ c_Sheets_told_slot_ k_Sheets_told_slot_).binds (ps := ["self", "slot"]) fun _ _ _ _ _ _ => el2 (fun _ _ => rfl), .nil⟩
      r_Sheets_make_empty := ⟨_, _, _, ⟨a_Sheets_make_empty_, i_Sheets_make_empty_, k_Sheets_make_empty_⟩, fun_mk (st := s_Sheets_make_empty) l_Sheets_make_empty_ c_Sheets_make_empty_ k_Sheets_make_empty_, (fun_mk (st := s_Sheets_make_empty) l_Sheets_make_empty_ c_Sheets_make_empty_ k_Sheets_make_empty_).binds (ps := ["self", "spot"]) fun _ _ _ _ _ _ => el2 (fun _ _ => rfl), .nil⟩
      r_Sheets_lose_twin := ⟨_, _, _, ⟨a_Sheets_lose_twin_, i_Sheets_lose_twin_, k_Sheets_lose_twin_⟩, fun_mk (st := s_Sheets_lose_twin) l_Sheets_lose_twin_ c_Sheets_lose_twin_ k_Sheets_lose_twin_, (fun_mk (st := s_Sheets_lose_twin) l_Sheets_lose_twin_ c_Sheets_lose_twin_ k_Sheets_lose_twin_).binds (ps := ["self", "frame"]) fun _ _ _ _ _ _ => el2 (fun _ _ => rfl), .nil⟩
      r_Sheets_frame_for := ⟨_, _, _, ⟨a_Sheets_frame_for_, i_Sheets_frame_for_, k_Sheets_frame_for_⟩, fun_mk (st := s_Sheets_frame_for) l_Sheets_frame_for_ c_Sheets_frame_for_ k_Sheets_frame_for_, (fun_mk (st := s_Sheets_frame_for) l_Sheets_frame_for_ c_Sheets_frame_for_ k_Sheets_frame_for_).binds (ps := ["self", "coming_from", "marks"]) fun _ _ _ _ _ _ => el3 (fun _ _ _ => rfl), .nil⟩
      m_FrameError := ⟨_, PySem.W.mg_of X G a_FrameError, rfl⟩
      m_NoRoom := ⟨_, PySem.W.mg_of X G a_NoRoom, rfl⟩
      x_NoRoom := ⟨PySem.W.mg_of X G a_NoRoom, ze_NoRoom⟩
      r_law := ⟨_, _, PySem.W.mg_of X G a_law_, fun_mk (st := s_law) l_law_ c_law_ k_law_, fun _ _ => .of_eq rfl⟩
    }⟩

section
variable {P : Program} {w : World} {K : PySem.W.Frag} {mg : Str → Option Value} {base : Heap} {A : Adr}
theorem same_put {H H' : Hp} {t : Addr} {o : HO} (s : Same H H') (h : H t = none) : Same H (upd H' t o) := fun b u e => by
  rw [upd_ne (ne_of_none e h)]; exact s b u e

theorem same_none {H H' : Hp} {p : Addr} (s : Same H H') (h : H' p = none) : H p = none := by
  cases e : H p with
  | none => rfl
  | some o => rw [s p o e] at h; cases h

def sp_cell (K : PySem.W.Frag) (a : Addr) (ns : List Int) : Sp := fun vs H Q _ => ∃ (k : Int), vs = [.ref a, .int k] ∧ SqL K H a (ns.map V.int) ∧ 0 ≤ k ∧ Q (.int (ns.getD k.toNat 0)) H
theorem h_cell (T : Txt K mg A) (a : Addr) (ns : List Int) : Have P w K mg base "_law_cell" 1 ["_law_script", "_law_k"] [] (sp_cell K a ns) := by
  refine T.r_l_cell.have sc_l_cell (fun vs H Q E z => ?_) ?_
  · obtain ⟨k, rfl, _⟩ := z; rfl
  · intro f cdv A' outer s H vs Q E hr z
    obtain ⟨k, rfl, hs, hk, q⟩ := z
    refine ⟨_, (pss_cons (ps_if (pt_cmpR op_lt (pvM 1) (pe_callB call_len rfl T.b_len PySem.boot_len (pa_cons (pvM 0) pa_nil)) (nomark _)) (pss_one (ps_ret (pe_ix ix_list (pvM 0) (pvM 1) (fun _ _ => rfl)))) pss_nil)
      (pss_one (ps_ret pe_int))), ?_⟩
    walk_at "wp"
    refine ⟨ns.length, .inl ⟨_, hs, by simp⟩, ?_⟩
    by_cases c : k < (ns.length : Int)
    · rw [if_pos c]
      refine ⟨_, hs, .int (ns.getD k.toNat 0), ?_, q⟩
      have hlt : k.toNat < ns.length := by omega
      have e : atI (ns.map V.int) ((k.toNat : Nat) : Int) = some (.int (ns.getD k.toNat 0)) := atI_nat (by simp [hlt])
      rw [show ((k.toNat : Nat) : Int) = k by omega] at e
      exact e
    · rw [if_neg c]
      have hge : ns.length ≤ k.toNat := by omega
      rw [show ns.getD k.toNat 0 = 0 by simp [List.getD, hge]] at q
      exact q

def lfV : V → Bool
  | .non => true
  | .bl _ => true
  | .int _ => true
  | .str _ => true
  | _ => false
mutual
def Lks (H : Hp) : Dv → V → Prop
  | .leaf v, x => x = v ∧ lfV v = true
  | .seq t ds, x => ∃ a xs, x = .ref a ∧ H a = some (if t = true then .tup xs else .lst xs) ∧ ds.length < 16777216 ∧ LksL H ds xs
def LksL (H : Hp) : List Dv → List V → Prop
  | [], xs => xs = []
  | d :: ds, xs => ∃ x r, xs = x :: r ∧ Lks H d x ∧ LksL H ds r
end
theorem LksL.len {H : Hp} : ∀ {ds : List Dv} {xs : List V}, LksL H ds xs → xs.length = ds.length
  | [], xs, h => by unfold LksL at h; subst h; rfl
  | d :: ds, xs, h => by
    unfold LksL at h
    obtain ⟨x, r, rfl, _, h⟩ := h
    simp [h.len]
theorem LksL.at {H : Hp} : ∀ {ds : List Dv} {xs : List V} {i : Nat} {d : Dv}, LksL H ds xs → ds[i]? = some d → ∃ x, xs[i]? = some x ∧ Lks H d x
  | [], _, _, _, _, h => by simp at h
  | d :: ds, xs, 0, e, h, hi => by
    unfold LksL at h
    obtain ⟨x, r, rfl, hx, _⟩ := h
    simp at hi
    subst hi
    exact ⟨x, rfl, hx⟩
  | d :: ds, xs, i + 1, e, h, hi => by
    unfold LksL at h
    obtain ⟨x, r, rfl, _, h⟩ := h
    simp at hi
    obtain ⟨y, hy, hl⟩ := h.at hi
    exact ⟨y, by simpa using hy, hl⟩
theorem deepL_at : ∀ {ds : List Dv} {i : Nat} {d : Dv}, ds[i]? = some d → deep d ≤ deepL ds
  | [], _, _, h => by simp at h
  | d :: ds, 0, e, h => by
    simp at h
    subst h
    rw [deepL]; exact Nat.le_max_left ..
  | d :: ds, i + 1, e, h => by
    simp at h
    rw [deepL]; exact Nat.le_trans (deepL_at h) (Nat.le_max_right ..)
mutual
theorem Lks.same {H H' : Hp} : ∀ {d : Dv} {x : V}, Lks H d x → Same H H' → Lks H' d x
  | .leaf v, x, h, _ => by unfold Lks at h ⊢; exact h
  | .seq t ds, x, h, s => by
    unfold Lks at h ⊢
    obtain ⟨a, xs, e, ha, hz, hl⟩ := h
    exact ⟨a, xs, e, s _ _ ha, hz, hl.same s⟩
theorem LksL.same {H H' : Hp} : ∀ {ds : List Dv} {xs : List V}, LksL H ds xs → Same H H' → LksL H' ds xs
  | [], xs, h, _ => by unfold LksL at h ⊢; exact h
  | d :: ds, xs, h, s => by
    unfold LksL at h ⊢
    obtain ⟨x, r, e, hx, hl⟩ := h
    exact ⟨x, r, e, hx.same s, hl.same s⟩
end
def sp_like : Nat → Sp
  | 0 => fun _ _ _ _ => False
  | n + 1 => fun vs H Q _ => ∃ (x y : V) (d : Dv), vs = [x, y] ∧ Lks H d x ∧ Lks H d y ∧ deep d ≤ n ∧ ∀ H', Same H H' → Q (.bl true) H'
theorem ty_no {H : Hp} {a : Addr} {o : HO} {n : String} (h : H a = some o) (e : (kdO (some o) == n || (kdO (some o) == "bool" && n == "int")) = false) : isTy n H (.ref a) = false := by
  unfold isTy
  rw [show kd H (.ref a) = kdO (H a) from rfl, h]; exact e
theorem h_like (T : Txt K mg A) : ∀ n, Have P w K mg base "_law_like" (n + 1) ["_law_found", "_law_due"] [] (sp_like n) := by
  intro n
  induction n with
  | zero => exact T.r_l_like.have sc_l_like (fun vs H Q E z => z.elim) (fun _ _ _ _ _ _ _ _ _ _ z => z.elim)
  | succ n ih =>
    have H_l_like := ih
    refine T.r_l_like.have sc_l_like (fun vs H Q E z => ?_) ?_
    · obtain ⟨x, y, d, rfl, _⟩ := z; rfl
    · intro f cdv A' outer s H vs Q E hr z
      obtain ⟨x, y, d, rfl, hx, hy, hd, q⟩ := z
      refine ⟨_, (pss_cons (ps_if (pt_cmpR op_isN (pvM 1) pe_non (nomark _)) (pss_one (ps_ret (pe_cmpR op_isN (pvM 0) pe_non (nomark _)))) pss_nil)
      (pss_cons (ps_if (pt_val (pe_callB call_isi rfl T.b_isinstance PyProof.Rows.boot_isinstance (pa_cons (pvM 1) (pa_cons (pe_bltnE (n := "bool") rfl T.b_bool PyProof.Rows.boot_bool) pa_nil)))) (pss_one (ps_ret (pe_and (pe_callB call_isi rfl T.b_isinstance PyProof.Rows.boot_isinstance (pa_cons (pvM 0) (pa_cons (pe_bltnE (n := "bool") rfl T.b_bool PyProof.Rows.boot_bool) pa_nil))) (pe_one (pe_cmpR op_eq (pvM 0) (pvM 1) (nomark _)))))) pss_nil)
      (pss_cons (ps_if (pt_val (pe_callB call_isi rfl T.b_isinstance PyProof.Rows.boot_isinstance (pa_cons (pvM 1) (pa_cons (pe_bltnE (n := "int") rfl T.b_int PyProof.Rows.boot_int) pa_nil)))) (pss_one (ps_ret (pe_and (pe_callB call_isi rfl T.b_isinstance PyProof.Rows.boot_isinstance (pa_cons (pvM 0) (pa_cons (pe_bltnE (n := "int") rfl T.b_int PyProof.Rows.boot_int) pa_nil))) (pe_and (pe_not (pe_callB call_isi rfl T.b_isinstance PyProof.Rows.boot_isinstance (pa_cons (pvM 0) (pa_cons (pe_bltnE (n := "bool") rfl T.b_bool PyProof.Rows.boot_bool) pa_nil)))) (pe_one (pe_cmpR op_eq (pvM 0) (pvM 1) (nomark _))))))) pss_nil)
      (pss_cons (ps_if (pt_val (pe_callB call_isi rfl T.b_isinstance PyProof.Rows.boot_isinstance (pa_cons (pvM 1) (pa_cons (pe_bltnE (n := "str") rfl T.b_str PyProof.Rows.boot_str) pa_nil)))) (pss_one (ps_ret (pe_and (pe_callB call_isi rfl T.b_isinstance PyProof.Rows.boot_isinstance (pa_cons (pvM 0) (pa_cons (pe_bltnE (n := "str") rfl T.b_str PyProof.Rows.boot_str) pa_nil))) (pe_one (pe_cmpR op_eq (pvM 0) (pvM 1) (nomark _)))))) pss_nil)
      (pss_cut (ps_if (PW.pt (pw_and (pt_val (pe_callB call_isi rfl T.b_isinstance PyProof.Rows.boot_isinstance (pa_cons (pvM 1) (pa_cons (pe_bltnE (n := "list") rfl T.b_list PyProof.Rows.boot_list) pa_nil)))) (pw_and1 (pt_not (pt_val (pe_callB call_isi rfl T.b_isinstance PyProof.Rows.boot_isinstance (pa_cons (pvM 0) (pa_cons (pe_bltnE (n := "list") rfl T.b_list PyProof.Rows.boot_list) pa_nil)))))))) (pss_one (ps_ret pe_bl)) pss_nil)
      (pss_cut (ps_if (PW.pt (pw_and (pt_val (pe_callB call_isi rfl T.b_isinstance PyProof.Rows.boot_isinstance (pa_cons (pvM 1) (pa_cons (pe_bltnE (n := "tuple") rfl T.b_tuple PyProof.Rows.boot_tuple) pa_nil)))) (pw_and1 (pt_not (pt_val (pe_callB call_isi rfl T.b_isinstance PyProof.Rows.boot_isinstance (pa_cons (pvM 0) (pa_cons (pe_bltnE (n := "tuple") rfl T.b_tuple PyProof.Rows.boot_tuple) pa_nil)))))))) (pss_one (ps_ret pe_bl)) pss_nil)
      (pss_cons (ps_if (pt_cmpR op_ne (pe_callB call_len rfl T.b_len PySem.boot_len (pa_cons (pvM 0) pa_nil)) (pe_callB call_len rfl T.b_len PySem.boot_len (pa_cons (pvM 1) pa_nil)) (nomark _)) (pss_one (ps_ret pe_bl)) pss_nil)
      (pss_cons (ps_forE PassesOwn.leaving rfl (pi_range1 rfl T.b_range (pa_cons (pe_callB call_len rfl T.b_len PySem.boot_len (pa_cons (pvM 1) pa_nil)) pa_nil)) (pg_name (i := 2) sc_l_like.nd rfl (Or.inl rfl)) (pss_one (ps_if (pt_not (pt_val (pe_callE H_l_like (hr.mono (by omega)) xw_def (pa_cons (pe_ix ix_two (pvM 0) (pvM 2) (fun _ _ => rfl)) (pa_cons (pe_ix ix_two (pvM 1) (pvM 2) (fun _ _ => rfl)) pa_nil))))) (pss_one (ps_ret pe_bl)) pss_nil)))
      (pss_one (ps_ret pe_bl)))))))))), ?_⟩
      cases d with
      | leaf v =>
        unfold Lks at hx hy
        obtain ⟨ex, hv⟩ := hx
        obtain ⟨ey, _⟩ := hy
        subst ex
        subst ey
        cases y with
        | non =>
          walk_at "wp"
          exact q _ same_refl
        | bl b =>
          walk_at "wp"
          rw [if_neg (fun z => nomatch z)]
          exact ⟨by decide, iteT ⟨by decide, iteT (q _ same_refl)⟩⟩
        | int i =>
          walk_at "wp"
          rw [if_neg (fun z => nomatch z)]
          exact ⟨by decide, iteF ⟨by decide, iteT ⟨by decide, iteT ⟨by decide, iteT (q _ same_refl)⟩⟩⟩⟩
        | str t =>
          walk_at "wp"
          rw [if_neg (fun z => nomatch z)]
          exact ⟨by decide, iteF ⟨by decide, iteF ⟨by decide, iteT ⟨by decide, iteT (q _ same_refl)⟩⟩⟩⟩
        | _ => cases hv
      | seq t ds =>
        unfold Lks at hx hy
        obtain ⟨a, xs, rfl, ha, hzl, hxs⟩ := hx
        obtain ⟨b, ys, rfl, hb, _, hys⟩ := hy
        have hlx := hxs.len
        have hly := hys.len
        have hdl : deepL ds + 1 ≤ n := by rw [deep] at hd; exact hd
        have step : ∀ (i : Nat) (H' : Hp) (Q' : VK) (E' : XK), i < ds.length → Same H H' → (∀ H'', Same H H'' → Q' (.bl true) H'') → ∃ x y, xs[i]? = some x ∧ ys[i]? = some y ∧ sp_like n [x, y] H' Q' E' := fun i H' Q' E' hi s1 hq => by
          obtain ⟨x, hx1, hx2⟩ := hxs.at (List.getElem?_eq_getElem hi)
          obtain ⟨y, hy1, hy2⟩ := hys.at (List.getElem?_eq_getElem hi)
          refine ⟨x, y, hx1, hy1, ?_⟩
          cases n with
          | zero => omega
          | succ n => exact ⟨x, y, ds[i], rfl, hx2.same s1, hy2.same s1, by have := deepL_at (List.getElem?_eq_getElem hi); omega, fun H'' s2 => hq _ (s1.trans s2)⟩
        walk_at "wp"
        rw [if_neg (fun z => nomatch z)]
        cases t with
        | false =>
          have ha : H a = some (.lst xs) := ha
          have hb : H b = some (.lst ys) := hb
          rw [ty_no hb rfl, ty_no hb rfl, ty_no hb rfl]
          refine ⟨by decide, kn_lst hb, iteF ⟨by decide, kn_lst hb, iteF ⟨by decide, kn_lst hb, iteF ⟨fun σ H' => σ = [some (.ref a), some (.ref b), none] ∧ H' = H, ?_, fun σ' H' => ?_⟩⟩⟩⟩
          · walk_at "wp"
            rw [isTy_lst hb, isTy_lst ha]
            exact ⟨by decide, kn_lst hb, iteT ⟨by decide, kn_lst ha, iteF trivial⟩⟩
          rintro ⟨rfl, rfl⟩
          refine ⟨fun σ H'' => σ = [some (.ref a), some (.ref b), none] ∧ H'' = H', ?_, fun σ' H'' => ?_⟩
          · walk_at "wp"
            rw [ty_no hb rfl]
            exact ⟨by decide, kn_lst hb, iteF (iteF trivial)⟩
          rintro ⟨rfl, rfl⟩
          walk_at "wp"
          refine ⟨_, .inl ⟨_, SqL.of ha, rfl⟩, _, .inl ⟨_, SqL.of hb, rfl⟩, ?_⟩
          rw [decide_eq_true (by omega)]
          refine iteF ⟨_, .inl ⟨_, SqL.of hb, rfl⟩, by omega, by omega, ?_⟩
          refine loop_range (fun i σ H1 => ∃ v2, σ = [some (.ref a), some (.ref b), v2] ∧ Same H'' H1) ⟨_, rfl, same_refl⟩ (fun i σ H1 hi => ?_) (fun σ H1 => ?_)
          · rintro ⟨v2, rfl, s1⟩
            walk_at "wp"
            obtain ⟨x, y, hx1, hy1, hsp⟩ := step i H1 (fun x H2 => ∃ c, x = V.bl c ∧ if (!c) = true then Q (V.bl false) H2 else Same H'' H2) (fun c x H' => E c none H') (by omega) s1 (fun H'' s2 => ⟨true, rfl, iteF s2⟩)
            exact .inl ⟨_, SqL.of (s1 _ _ ha), x, by rw [Int.zero_add]; exact atI_nat hx1, .inl ⟨_, SqL.of (s1 _ _ hb), y, by rw [Int.zero_add]; exact atI_nat hy1, hsp⟩⟩
          · rintro ⟨v2, rfl, s1⟩
            walk_at "wp"
            exact q _ s1
        | true =>
          have ha : H a = some (.tup xs) := ha
          have hb : H b = some (.tup ys) := hb
          rw [ty_no hb rfl, ty_no hb rfl, ty_no hb rfl]
          refine ⟨by decide, kn_tup hb, iteF ⟨by decide, kn_tup hb, iteF ⟨by decide, kn_tup hb, iteF ⟨fun σ H' => σ = [some (.ref a), some (.ref b), none] ∧ H' = H, ?_, fun σ' H' => ?_⟩⟩⟩⟩
          · walk_at "wp"
            rw [ty_no hb rfl]
            exact ⟨by decide, kn_tup hb, iteF (iteF trivial)⟩
          rintro ⟨rfl, rfl⟩
          refine ⟨fun σ H'' => σ = [some (.ref a), some (.ref b), none] ∧ H'' = H', ?_, fun σ' H'' => ?_⟩
          · walk_at "wp"
            rw [isTy_tup hb, isTy_tup ha]
            exact ⟨by decide, kn_tup hb, iteT ⟨by decide, kn_tup ha, iteF trivial⟩⟩
          rintro ⟨rfl, rfl⟩
          walk_at "wp"
          refine ⟨_, .inr ⟨_, SqT.of ha, rfl⟩, _, .inr ⟨_, SqT.of hb, rfl⟩, ?_⟩
          rw [decide_eq_true (by omega)]
          refine iteF ⟨_, .inr ⟨_, SqT.of hb, rfl⟩, by omega, by omega, ?_⟩
          refine loop_range (fun i σ H1 => ∃ v2, σ = [some (.ref a), some (.ref b), v2] ∧ Same H'' H1) ⟨_, rfl, same_refl⟩ (fun i σ H1 hi => ?_) (fun σ H1 => ?_)
          · rintro ⟨v2, rfl, s1⟩
            walk_at "wp"
            obtain ⟨x, y, hx1, hy1, hsp⟩ := step i H1 (fun x H2 => ∃ c, x = V.bl c ∧ if (!c) = true then Q (V.bl false) H2 else Same H'' H2) (fun c x H' => E c none H') (by omega) s1 (fun H'' s2 => ⟨true, rfl, iteF s2⟩)
            exact .inr ⟨_, SqT.of (s1 _ _ ha), x, by rw [Int.zero_add]; exact atI_nat hx1, .inr ⟨_, SqT.of (s1 _ _ hb), y, by rw [Int.zero_add]; exact atI_nat hy1, hsp⟩⟩
          · rintro ⟨v2, rfl, s1⟩
            walk_at "wp"
            exact q _ s1

theorem prd_get {α β : Type} {F : α → β → Prop} : ∀ {xs : List α} {ys : List β} {i : Nat} {x : α}, Paired F xs ys → xs[i]? = some x → ∃ y, ys[i]? = some y ∧ F x y
  | _, _, _, _, .nil, e => by simp at e
  | _, _, 0, _, .cons r _, e => by simp at e; subst e; exact ⟨_, rfl, r⟩
  | _, _, i + 1, x, .cons _ t, e => by
    obtain ⟨u, h1, h2⟩ := prd_get (i := i) (x := x) t (by simpa using e)
    exact ⟨u, by simpa using h1, h2⟩
theorem prd_get2 {α β : Type} {F : α → β → Prop} : ∀ {xs : List α} {ys : List β} {i : Nat} {y : β}, Paired F xs ys → ys[i]? = some y → ∃ x, xs[i]? = some x ∧ F x y
  | _, _, _, _, .nil, e => by simp at e
  | _, _, 0, _, .cons r _, e => by simp at e; subst e; exact ⟨_, rfl, r⟩
  | _, _, i + 1, y, .cons _ t, e => by
    obtain ⟨u, h1, h2⟩ := prd_get2 (i := i) (y := y) t (by simpa using e)
    exact ⟨u, by simpa using h1, h2⟩
theorem prd_set {α β : Type} {F : α → β → Prop} {x : α} {y : β} (hxy : F x y) : ∀ {xs : List α} {ys : List β} (i : Nat), Paired F xs ys → Paired F (xs.set i x) (ys.set i y)
  | _, _, _, .nil => .nil
  | _, _, 0, .cons _ t => .cons hxy t
  | _, _, i + 1, .cons r t => .cons r (prd_set hxy i t)
structure Sh where
  b : List Int
  k : List Key
  sh : Addr
  bx : Addr
  hd : Addr
def Kp (ex : List Addr) (H H' : Hp) : Prop := ∀ c o, H c = some o → c ∉ ex → H' c = some o
def Kq (ly : Addr) (H H' : Hp) : Prop := ∀ c o, H c = some o → c ≠ ly → (∀ kvs, o ≠ .dT kvs) → H' c = some o
theorem Kq.of {ly : Addr} {H H' : Hp} (s : Same H H') : Kq ly H H' := fun c o h _ _ => s c o h
theorem Kq.kp {ly : Addr} {H H' : Hp} (s : Kp [ly] H H') : Kq ly H H' := fun c o h hn _ => s c o h (fun z => hn (List.mem_singleton.mp z))
def shF (bx hd : Addr) : List (Str × V) := putF "holders" (.ref hd) (putF "boxes" (.ref bx) [])
theorem shF_boxes {bx hd : Addr} : (shF bx hd).lookup ("boxes" : Str) = some (.ref bx) := by rfl
theorem shF_holders {bx hd : Addr} : (shF bx hd).lookup ("holders" : Str) = some (.ref hd) := by rfl
theorem shF_no {bx hd : Addr} {m : Str} (h : ¬ m ∈ (["boxes", "holders"] : List Str)) : (shF bx hd).lookup m = none := by
  simp only [List.mem_cons, List.not_mem_nil, or_false, not_or] at h
  unfold shF
  simp only [lookup_putF, h.1, h.2, if_false]
  rfl
def spF (ly tw : Addr) : List (Str × V) := putF "twins" (.ref tw) (putF "lying" (.ref ly) [])
theorem spF_lying {ly tw : Addr} : (spF ly tw).lookup ("lying" : Str) = some (.ref ly) := by rfl
theorem spF_twins {ly tw : Addr} : (spF ly tw).lookup ("twins" : Str) = some (.ref tw) := by rfl
theorem spF_no {ly tw : Addr} {m : Str} (h : ¬ m ∈ (["lying", "twins"] : List Str)) : (spF ly tw).lookup m = none := by
  simp only [List.mem_cons, List.not_mem_nil, or_false, not_or] at h
  unfold spF
  simp only [lookup_putF, h.1, h.2, if_false]
  rfl
def ssF (n : Int) (fp sq : Addr) : List (Str × V) := putF "come_back" (.int 0) (putF "gone_astray" (.int 0) (putF "gone_out" (.int 0) (putF "hand" (.int 0) (putF "slots" (.ref sq) (putF "frames" (.ref fp) (putF "size" (.int n) []))))))
theorem ssF_frames {n : Int} {fp sq : Addr} : (ssF n fp sq).lookup ("frames" : Str) = some (.ref fp) := by rfl
theorem ssF_slots {n : Int} {fp sq : Addr} : (ssF n fp sq).lookup ("slots" : Str) = some (.ref sq) := by rfl
theorem ssF_hand {n : Int} {fp sq : Addr} : (ssF n fp sq).lookup ("hand" : Str) = some (.int 0) := by rfl
theorem ssF_out {n : Int} {fp sq : Addr} : (ssF n fp sq).lookup ("gone_out" : Str) = some (.int 0) := by rfl
theorem ssF_astray {n : Int} {fp sq : Addr} : (ssF n fp sq).lookup ("gone_astray" : Str) = some (.int 0) := by rfl
theorem ssF_back {n : Int} {fp sq : Addr} : (ssF n fp sq).lookup ("come_back" : Str) = some (.int 0) := by rfl
theorem ssF_no {n : Int} {fp sq : Addr} {m : Str} (h : ¬ m ∈ (["size", "frames", "slots", "hand", "gone_out", "gone_astray", "come_back"] : List Str)) : (ssF n fp sq).lookup m = none := by
  simp only [List.mem_cons, List.not_mem_nil, or_false, not_or] at h
  obtain ⟨a1, a2, a3, a4, a5, a6, a7⟩ := h
  unfold ssF
  simp only [lookup_putF, a1, a2, a3, a4, a5, a6, a7, if_false]
  rfl
def ShAt (C : Addr) (H : Hp) (v : V) : Option Sh → Prop
  | none => v = .non
  | some r => v = .ref r.sh ∧ (∃ dx, H r.sh = some (.ins C dx (shF r.bx r.hd))) ∧ H r.bx = some (.lst (r.b.map V.int)) ∧ H r.hd = some (.dT [(r.k, .bl true)])
abbrev LyAt (C : Addr) (H : Hp) : List V → List (Option Sh) → Prop := Paired (ShAt C H)
theorem ShAt.same {C : Addr} {H H' : Hp} (s : Same H H') {v : V} : ∀ {r : Option Sh}, ShAt C H v r → ShAt C H' v r
  | none, h => h
  | some _, ⟨e, ⟨dx, h1⟩, h2, h3⟩ => ⟨e, ⟨dx, s _ _ h1⟩, s _ _ h2, s _ _ h3⟩
theorem LyAt.same {C : Addr} {H H' : Hp} (s : Same H H') {vs : List V} {rs : List (Option Sh)} (h : LyAt C H vs rs) : LyAt C H' vs rs := Paired.mapP h fun _ _ q => q.same s
/-- one row of frames or slots -/
def SpAt (C S : Addr) (H : Hp) (p ly tw : Addr) (rows : List (Option Sh)) : Prop := ∃ dx vs, H p = some (.ins C dx (spF ly tw)) ∧ H ly = some (.lst vs) ∧ LyAt S H vs rows ∧ H tw = some (.lst (List.replicate rows.length V.non))
theorem SpAt.same {C S : Addr} {H H' : Hp} {p ly tw : Addr} {rows : List (Option Sh)} (h : SpAt C S H p ly tw rows) (s : Same H H') : SpAt C S H' p ly tw rows := let ⟨dx, vs, h1, h2, h3, h4⟩ := h; ⟨dx, vs, s _ _ h1, s _ _ h2, h3.same s, s _ _ h4⟩
structure Ss where
  p : Addr
  fp : Addr
  ly : Addr
  tw : Addr
  sq : Addr
  ls : Addr
  ts : Addr
  n : Int
  m : Nat
def hds (rows : List (Option Sh)) : List Addr := rows.filterMap fun r => r.map Sh.hd
structure SsAt (C P S : Addr) (H : Hp) (z : Ss) (rows : List (Option Sh)) : Prop where
  me : ∃ dx, H z.p = some (.ins C dx (ssF z.n z.fp z.sq))
  fr : SpAt P S H z.fp z.ly z.tw rows
  sl : SpAt P S H z.sq z.ls z.ts (List.replicate z.m none)
  n1 : z.tw ≠ z.ly
  n2 : z.ls ≠ z.ly
  n3 : z.ts ≠ z.ly
  bx : ∀ r, some r ∈ rows → r.bx ≠ z.ly
  nd : (hds rows).Nodup
  len : rows.length ≤ 64 ∧ z.m ≤ 64
theorem SsAt.same {C P S : Addr} {H H' : Hp} {z : Ss} {rows : List (Option Sh)} (h : SsAt C P S H z rows) (s : Same H H') : SsAt C P S H' z rows :=
  ⟨let ⟨dx, e⟩ := h.me; ⟨dx, s _ _ e⟩, h.fr.same s, h.sl.same s, h.n1, h.n2, h.n3, h.bx, h.nd, h.len⟩

def sp_no : Sp := fun _ _ _ _ => False
def sp_shi (C : Addr) : Sp := fun vs H Q _ => ∃ (s dx l h : Addr) (bs : List Int) (k : List Key), vs = [.ref s, .ref l, .ref h] ∧ H s = some (.ins C dx []) ∧ H l = some (.lst (bs.map V.int)) ∧ H h = some (.tup (k.map kV)) ∧
  ∀ bx hd H', H bx = none → H hd = none → Kp [s] H H' → H' s = some (.ins C dx (shF bx hd)) → H' bx = some (.lst (bs.map V.int)) → H' hd = some (.dT [(k, .bl true)]) → Q .non H'
theorem h_shi (T : Txt K mg A) : HaveI P w K mg base "Sheet" A.C_Sheet 1 ["self", "boxes", "holder"] [] (sp_shi A.C_Sheet) := by
  refine T.r_Sheet_init.have sc_Sheet_init (fun vs H Q E z => ?_) ?_
  · obtain ⟨s, dx, l, h, bs, k, rfl, _⟩ := z; rfl
  · intro f cdv A' outer s H vs Q E hr z
    obtain ⟨s, dx, l, h, bs, k, rfl, hs, hl, hh, q⟩ := z
    refine ⟨_, (pss_cons (ps_fld (pvM 0) (pe_callTy call_list_of rfl T.b_list PyProof.Rows.boot_list (pa_cons (pvM 1) pa_nil)) rfl)
      (pss_one (ps_fld (pvM 0) (pe_dispT (hu_of hr) (pvM 2) pe_bl) rfl))), ?_⟩
    unfold tDispT
    walk_at "wp"
    refine ⟨_, .inl (SqL.of hl), fun bx hbx => ?_⟩
    have b1 := same_upd (o := .lst (bs.map V.int)) (same_refl (H := H)) hbx
    have nsb : s ≠ bx := ne_of_none hs hbx
    refine ⟨A.C_Sheet, dx, [], b1 _ _ hs, T.cl_Sheet, T.na_Sheet_boxes, by decide, fun hd hhd => ?_⟩
    have nhs : hd ≠ s := fun z => by rw [z, upd_same] at hhd; cases hhd
    have nhb : hd ≠ bx := fun z => by rw [z, upd_ne nsb.symm, upd_same] at hhd; cases hhd
    have hhd0 : H hd = none := by rw [upd_ne nhs] at hhd; exact same_none b1 hhd
    have nhh : h ≠ hd := ne_of_none hh hhd0
    have nhs2 : h ≠ s := ne_of hh hs (fun z => nomatch z)
    refine ⟨k, by rw [upd_ne nhh, upd_ne nhs2]; exact b1 _ _ hh, A.C_Sheet, dx, putF "boxes" (.ref bx) [], by rw [upd_ne nhs.symm, upd_same], T.cl_Sheet, T.na_Sheet_holders, by show 1 < 1000; decide, ?_⟩
    refine q bx hd _ hbx hhd0 (fun c o hc hx => ?_) upd_same ?_ ?_
    · have ncs : c ≠ s := fun z => hx (by simp [z])
      rw [upd_ne ncs, upd_ne (ne_of_none hc hhd0), upd_ne ncs]; exact b1 _ _ hc
    · rw [upd_ne nsb.symm, upd_ne nhb.symm, upd_ne nsb.symm, upd_same]
    · rw [upd_ne nhs, upd_same]
def sp_told (C : Addr) : Sp := fun vs H Q _ => ∃ (v : V) (r : Sh), vs = [v] ∧ ShAt C H v (some r) ∧ ∀ l a H', H l = none → Same H H' → H' l = some (.lst [.ref a]) → H' a = some (.tup (r.k.map kV)) → Q (.ref l) H'
theorem h_told (T : Txt K mg A) : HaveM P w K mg base A.C_Sheet "told_holders" 1 ["self"] [] (sp_told A.C_Sheet) := by
  refine T.r_Sheet_told_holders.have sc_Sheet_told_holders (fun vs H Q E z => ?_) ?_
  · obtain ⟨v, r, rfl, _⟩ := z; rfl
  · intro f cdv A' outer s H vs Q E hr z
    obtain ⟨v, r, rfl, ⟨rfl, ⟨dx, h1⟩, h2, h3⟩, q⟩ := z
    refine ⟨_, (pss_one (ps_ret (pe_callB (call_sortedT1 rfl) rfl T.b_sorted PyProof.Rows.boot_sorted (pa_cons (pe_fld (pvM 0) rfl) pa_nil)))), ?_⟩
    walk_at "wp"
    simp only [h1]
    walk_at "wp"
    exact ⟨T.cl_Sheet, T.na_Sheet_holders, _, shF_holders, r.hd, rfl, r.k, .bl true, h3, fun l a hl ha => q l a _ hl (same_upd same_refl hl) upd_same ((same_upd same_refl hl) _ _ ha)⟩
def sp_spi (C : Addr) : Sp := fun vs H Q _ => ∃ (s dx : Addr) (n : Nat), vs = [.ref s, .int n] ∧ H s = some (.ins C dx []) ∧ n ≤ 64 ∧
  ∀ ly tw H', H ly = none → H tw = none → ly ≠ tw → Kp [s] H H' → H' s = some (.ins C dx (spF ly tw)) → H' ly = some (.lst (List.replicate n V.non)) → H' tw = some (.lst (List.replicate n V.non)) → Q .non H'
theorem h_spi (T : Txt K mg A) : HaveI P w K mg base "Spots" A.C_Spots 1 ["self", "many"] [] (sp_spi A.C_Spots) := by
  refine T.r_Spots_init.have sc_Spots_init (fun vs H Q E z => ?_) ?_
  · obtain ⟨s, dx, n, rfl, _⟩ := z; rfl
  · intro f cdv A' outer s H vs Q E hr z
    obtain ⟨s, dx, n, rfl, hs, hn, q⟩ := z
    refine ⟨_, (pss_cons (ps_fld (pvM 0) (pe_op op_rep (pe_lst (pa_cons pe_non pa_nil)) (pvM 1)) rfl)
      (pss_one (ps_fld (pvM 0) (pe_op op_rep (pe_lst (pa_cons pe_non pa_nil)) (pvM 1)) rfl))), ?_⟩
    unfold rRep
    walk_at "wp"
    have e : ∀ k : Nat, (List.replicate k [V.non]).flatten = List.replicate k V.non := fun k => by
      induction k with
      | zero => rfl
      | succ k ih => rw [List.replicate_succ, List.flatten_cons, ih]; rfl
    intro l1 hl1
    have b1 := same_upd (o := .lst [V.non]) (same_refl (H := H)) hl1
    refine ⟨[.non], rfl, by omega, by omega, by show 1 * n ≤ 16777216; omega, fun ly hly => ?_⟩
    rw [Int.toNat_natCast, e]
    have hly0 := same_none b1 hly
    have b2 := same_upd (o := .lst (List.replicate n V.non)) b1 hly
    have nsl : s ≠ ly := ne_of_none hs hly0
    refine ⟨A.C_Spots, dx, [], b2 _ _ hs, T.cl_Spots, T.na_Spots_lying, by decide, fun l2 hl2 => ?_⟩
    have k3 : ∀ c o, H c = some o → c ≠ s → upd (upd (upd H l1 (.lst [V.non])) ly (.lst (List.replicate n V.non))) s (.ins A.C_Spots dx (putF "lying" (.ref ly) [])) c = some o := fun c o hc hn => by rw [upd_ne hn]; exact b2 _ _ hc
    have hs3 : upd (upd (upd H l1 (.lst [V.non])) ly (.lst (List.replicate n V.non))) s (.ins A.C_Spots dx (putF "lying" (.ref ly) [])) s = some (.ins A.C_Spots dx (putF "lying" (.ref ly) [])) := upd_same
    have hly3 : upd (upd (upd H l1 (.lst [V.non])) ly (.lst (List.replicate n V.non))) s (.ins A.C_Spots dx (putF "lying" (.ref ly) [])) ly = some (.lst (List.replicate n V.non)) := by rw [upd_ne nsl.symm, upd_same]
    have n3 : ∀ c, upd (upd (upd H l1 (.lst [V.non])) ly (.lst (List.replicate n V.non))) s (.ins A.C_Spots dx (putF "lying" (.ref ly) [])) c = none → H c = none ∧ c ≠ s := fun c hc => by
      have ncs : c ≠ s := fun z => by rw [z, upd_same] at hc; cases hc
      rw [upd_ne ncs] at hc
      exact ⟨same_none b2 hc, ncs⟩
    generalize upd (upd (upd H l1 (.lst [V.non])) ly (.lst (List.replicate n V.non))) s (.ins A.C_Spots dx (putF "lying" (.ref ly) [])) = H3 at *
    have c4 := same_upd (o := .lst [V.non]) (same_refl (H := H3)) hl2
    refine ⟨[.non], rfl, by omega, by omega, by show 1 * n ≤ 16777216; omega, fun tw htw => ?_⟩
    rw [e]
    have c5 := same_upd (o := .lst (List.replicate n V.non)) c4 htw
    have htw3 := same_none c4 htw
    refine ⟨A.C_Spots, dx, putF "lying" (.ref ly) [], c5 _ _ hs3, T.cl_Spots, T.na_Spots_twins, by show 1 < 1000; decide, ?_⟩
    have nts := (n3 tw htw3).2
    refine q ly tw _ hly0 (n3 tw htw3).1 (ne_of_none hly3 htw3) (fun c o hc hx => ?_) upd_same (by rw [upd_ne nsl.symm]; exact c5 _ _ hly3) (by rw [upd_ne nts, upd_same])
    have ncs : c ≠ s := fun z => hx (by simp [z])
    rw [upd_ne ncs]
    exact c5 _ _ (k3 c o hc ncs)
def fe (rows : List (Option Sh)) : V := match rows.findIdx? Option.isNone with
  | none => .non
  | some j => .int (j : Int)
def sp_fe (C S : Addr) : Sp := fun vs H Q _ => ∃ (p ly tw : Addr) (rows : List (Option Sh)), vs = [.ref p] ∧ SpAt C S H p ly tw rows ∧ ∀ H', Same H H' → Q (fe rows) H'
theorem h_fe (T : Txt K mg A) : HaveM P w K mg base A.C_Spots "first_empty" 1 ["self"] [] (sp_fe A.C_Spots A.C_Sheet) := by
  refine T.r_Spots_first_empty.have sc_Spots_first_empty (fun vs H Q E z => ?_) ?_
  · obtain ⟨p, ly, tw, rows, rfl, _⟩ := z; rfl
  · intro f cdv A' outer s H vs Q E hr z
    obtain ⟨p, ly, tw, rows, rfl, ⟨dx, us, h1, h2, h3, h4⟩, q⟩ := z
    refine ⟨_, (pss_cons (ps_forE PassesOwn.leaving rfl (pi_enum rfl T.b_enumerate (pa_cons (pe_fld (pvM 0) rfl) pa_nil)) (pg_tup rfl (pgs_cons (pg_name (i := 1) sc_Spots_first_empty.nd rfl (Or.inl rfl)) (pgs_cons (pg_name (i := 2) sc_Spots_first_empty.nd rfl (Or.inl rfl)) pgs_nil))) (pss_one (ps_if (PW.pt (pw_and (pt_cmpR op_isN (pvM 2) pe_non (nomark _)) (pw_and1 (pt_cmpR op_isN (pe_ix ix_list (pe_fld (pvM 0) rfl) (pvM 1) (fun _ _ => rfl)) pe_non (nomark _))))) (pss_one (ps_ret (pvM 1))) pss_nil)))
      (pss_one (ps_ret pe_non))), ?_⟩
    walk_at "wp"
    simp only [h1]
    walk_at "wp"
    have hul := Paired.length h3
    refine ⟨T.cl_Spots, T.na_Spots_lying, _, spF_lying, ly, rfl, ⟨_, SqL.of h2⟩, loop_enum (xs := us) (fun i σ H' => ∃ v1 v2, σ = [some (.ref p), v1, v2] ∧ Same H H' ∧ ∀ (j : Nat) y, j < i → rows[j]? = some y → y.isNone = false) ⟨_, _, rfl, same_refl, fun j r h => absurd h (Nat.not_lt_zero _)⟩ (fun i σ H' _ ⟨_, _, _, e, _⟩ => SqL.of (e _ _ h2)) (fun i x tt σ H' hi => ?_) (fun σ H1 => ?_)⟩
    · rintro ⟨v1, v2, rfl, s1, hno⟩ ht
      obtain ⟨y, hy1, hy2⟩ := prd_get h3 hi
      have b1 := same_upd (o := .tup [V.int i, x]) s1 ht
      have hil : i < rows.length := (List.getElem?_eq_some_iff.mp hy1).1
      cases y with
      | none =>
        obtain rfl : x = .non := hy2
        walk_at "wp"
        refine ⟨_, SqT.of upd_same, rfl, _, _, rfl, _, _, rfl, rfl, ?_⟩
        rw [if_pos rfl]
        refine ⟨A.C_Spots, dx, _, b1 _ _ h1, T.cl_Spots, T.na_Spots_twins, _, spF_twins, tw, rfl, _, _, rfl, SqL.of (b1 _ _ h4), .non, atI_nat (by rw [List.getElem?_replicate, if_pos hil]), ?_⟩
        rw [if_pos rfl]
        have e : fe rows = .int (i : Int) := by
          have e : rows.findIdx? Option.isNone = some i := List.findIdx?_eq_some_iff_getElem.mpr ⟨hil, by rw [(List.getElem?_eq_some_iff.mp hy1).2]; rfl, fun j hj => by
            rw [hno j _ hj (List.getElem?_eq_getElem (by omega))]
            decide⟩
          unfold fe
          rw [e]
        have hq := q _ b1
        rw [e] at hq
        exact hq
      | some r =>
        obtain ⟨rfl, _⟩ := hy2
        walk_at "wp"
        refine ⟨_, SqT.of upd_same, rfl, _, _, rfl, _, _, rfl, rfl, ?_⟩
        rw [if_neg (fun z => nomatch z)]
        refine iteF ⟨b1, fun j y hj hy => ?_⟩
        rcases (by omega : j < i ∨ j = i) with h | rfl
        · exact hno j y h hy
        · rw [hy1] at hy
          cases hy
          rfl
    rintro ⟨v1, v2, rfl, s1, hno⟩
    walk_at "wp"
    have e : fe rows = .non := by
      have e : rows.findIdx? Option.isNone = none := List.findIdx?_eq_none_iff.mpr fun y hy => by
        obtain ⟨j, hj⟩ := List.mem_iff_getElem?.mp hy
        exact hno j y (by rw [hul]; exact (List.getElem?_eq_some_iff.mp hj).1) hj
      unfold fe
      rw [e]
    rw [← e]
    exact q _ s1
def cnt (rows : List (Option Sh)) : Nat := (rows.filter Option.isSome).length
def sp_lc (C S : Addr) : Sp := fun vs H Q _ => ∃ (p ly tw : Addr) (rows : List (Option Sh)), vs = [.ref p] ∧ SpAt C S H p ly tw rows ∧ rows.length ≤ 64 ∧ ∀ H', Same H H' → Q (.int (cnt rows : Nat)) H'
theorem h_lc (T : Txt K mg A) : HaveM P w K mg base A.C_Spots "live_count" 1 ["self"] [] (sp_lc A.C_Spots A.C_Sheet) := by
  refine T.r_Spots_live_count.have sc_Spots_live_count (fun vs H Q E z => ?_) ?_
  · obtain ⟨p, ly, tw, rows, rfl, _⟩ := z; rfl
  · intro f cdv A' outer s H vs Q E hr z
    obtain ⟨p, ly, tw, rows, rfl, ⟨dx, us, h1, h2, h3, h4⟩, hlen, q⟩ := z
    refine ⟨_, (pss_one (ps_ret (pe_callB call_len rfl T.b_len PySem.boot_len (pa_cons (pe_comp rfl (pi_list (pe_fld (pvM 0) rfl)) (x := "sheet") (fs := []) (ix := []) rfl rfl (fun _ _ _ _ _ _ => (pg_name (i := 0) (show (["sheet"] : List Str).Nodup by decide +kernel) rfl (Or.inl rfl))) (fun _ _ _ _ _ _ => (pf_one (pt_cmpR op_notN (pvM 0) pe_non (nomark _)))) (fun _ _ _ _ _ _ => (pvM 0))) pa_nil)))), ?_⟩
    walk_at "wp"
    simp only [h1]
    walk_at "wp"
    have hul := Paired.length h3
    refine ⟨T.cl_Spots, T.na_Spots_lying, _, spF_lying, ly, rfl, ⟨_, SqL.of h2⟩, fun D hD => comp_list (xs := us) (fun i ys σ H' => ∃ v, σ = [v] ∧ Same H H' ∧ H' D = some (.lst ys) ∧ ys.length = cnt (rows.take i)) ⟨_, rfl, same_upd same_refl hD, upd_same, rfl⟩ (fun i ys σ H' _ ⟨_, _, s2, _⟩ => SqL.of (s2 _ _ h2)) (fun i v ys σ H' hi => ?_) (fun ys σ H' => ?_)⟩
    · rintro ⟨v0, rfl, s1, hD1, hy⟩
      obtain ⟨y, hy1, hy2⟩ := prd_get h3 hi
      have htk : rows.take (i + 1) = rows.take i ++ [y] := by rw [List.take_add_one, hy1]; rfl
      have hc : cnt (rows.take (i + 1)) = cnt (rows.take i) + (if y.isSome = true then 1 else 0) := by
        unfold cnt
        rw [htk, List.filter_append, List.length_append]
        cases y <;> rfl
      have hle : cnt (rows.take i) ≤ 64 := by
        unfold cnt
        exact Nat.le_trans (List.length_filter_le _ _) (by rw [List.length_take]; omega)
      have hz := PySem.sizeLine_eq
      cases y with
      | none =>
        obtain rfl : v = .non := hy2
        walk_at "wp"
        exact iteF ⟨s1, hD1, by rw [hc]; exact hy⟩
      | some r =>
        obtain ⟨rfl, _⟩ := hy2
        walk_at "wp"
        exact iteT ⟨hD1, by omega, same_put s1 hD, by rw [List.length_append, hc, hy]; rfl⟩
    · rintro ⟨v0, rfl, s1, hD1, hy⟩
      rw [hul, List.take_length] at hy
      refine ⟨_, .inl ⟨_, SqL.of hD1, rfl⟩, ?_⟩
      rw [hy]
      exact q _ s1

theorem fe_cnt {rows : List (Option Sh)} {j : Nat} (h : rows.findIdx? Option.isNone = some j) : cnt rows < rows.length := by
  obtain ⟨hj, h1, _⟩ := List.findIdx?_eq_some_iff_getElem.mp h
  unfold cnt
  refine Nat.lt_of_le_of_ne (List.length_filter_le _ _) fun e => ?_
  have := List.filter_eq_self.mp (List.Sublist.eq_of_length (List.filter_sublist ..) e) _ (List.getElem_mem hj)
  cases e2 : rows[j] with
  | none => rw [e2] at this; cases this
  | some r => rw [e2] at h1; cases h1
theorem ly_upd {S ly : Addr} {H : Hp} {us : List V} {o : HO} (hl : H ly = some (.lst us)) {vs : List V} {rows : List (Option Sh)} (h : LyAt S H vs rows) (hb : ∀ r, some r ∈ rows → r.bx ≠ ly) : LyAt S (upd H ly o) vs rows := by
  induction h with
  | nil => exact .nil
  | @cons x y _ _ h t ih =>
    refine .cons ?_ (ih fun r hr => hb r (List.mem_cons_of_mem _ hr))
    cases y with
    | none => exact h
    | some r =>
      obtain ⟨e, ⟨dx, h1⟩, h2, h3⟩ := h
      exact ⟨e, ⟨dx, by rw [upd_ne (ne_of h1 hl (fun z => nomatch z))]; exact h1⟩, by rw [upd_ne (hb r (List.mem_cons_self ..))]; exact h2, by rw [upd_ne (ne_of h3 hl (fun z => nomatch z))]; exact h3⟩
theorem hds_mem {rows : List (Option Sh)} {a : Addr} : a ∈ hds rows ↔ ∃ r, some r ∈ rows ∧ r.hd = a := by
  unfold hds
  rw [List.mem_filterMap]
  refine ⟨fun ⟨x, hx, e⟩ => ?_, fun ⟨r, hr, e⟩ => ⟨some r, hr, by rw [← e]; rfl⟩⟩
  cases x with
  | none => cases e
  | some r => exact ⟨r, hx, Option.some.inj e⟩
theorem hds_put : ∀ {rows : List (Option Sh)} {j : Nat} {r : Sh}, rows[j]? = some none → (hds rows).Nodup → r.hd ∉ hds rows → (hds (rows.set j (some r))).Nodup := by
  have key : ∀ {rows : List (Option Sh)} {j : Nat} {r : Sh}, rows[j]? = some none → (hds (rows.set j (some r))).Perm (r.hd :: hds rows) := by
    intro rows
    induction rows with
    | nil => intro j r h; simp at h
    | cons x l ih =>
      intro j r h
      cases j with
      | zero =>
        simp at h
        subst h
        exact List.Perm.refl _
      | succ j =>
        have := ih (j := j) (r := r) (by simpa using h)
        cases x with
        | none => exact this
        | some y => exact (List.Perm.cons y.hd this).trans (List.Perm.swap ..)
  intro rows j r h nd hn
  exact (key h).nodup_iff.mpr (List.nodup_cons.mpr ⟨hn, nd⟩)
theorem hds_clr : ∀ {rows : List (Option Sh)} {j : Nat}, (hds (rows.set j none)).Sublist (hds rows)
  | [], _ => List.Sublist.refl _
  | x :: l, 0 => by
    cases x with
    | none => exact List.Sublist.refl _
    | some y => exact List.Sublist.cons _ (List.Sublist.refl _)
  | x :: l, j + 1 => by
    cases x with
    | none => exact hds_clr (rows := l) (j := j)
    | some y => exact List.Sublist.cons₂ _ (hds_clr (rows := l) (j := j))
theorem ly_hd {S hd : Addr} {H : Hp} {kvs : List (List Key × V)} {o : HO} (hl : H hd = some (.dT kvs)) {vs : List V} {rows : List (Option Sh)} (h : LyAt S H vs rows) (hb : ∀ r, some r ∈ rows → r.hd ≠ hd) : LyAt S (upd H hd o) vs rows := by
  induction h with
  | nil => exact .nil
  | @cons x y _ _ h t ih =>
    refine .cons ?_ (ih fun r hr => hb r (List.mem_cons_of_mem _ hr))
    cases y with
    | none => exact h
    | some r =>
      obtain ⟨e, ⟨dx, h1⟩, h2, h3⟩ := h
      exact ⟨e, ⟨dx, by rw [upd_ne (ne_of h1 hl (fun z => nomatch z))]; exact h1⟩, by rw [upd_ne (ne_of h2 hl (fun z => nomatch z))]; exact h2, by rw [upd_ne (hb r (List.mem_cons_self ..))]; exact h3⟩
theorem ly_clr {S hd : Addr} {H : Hp} {kvs : List (List Key × V)} {o : HO} (hl : H hd = some (.dT kvs)) {vs : List V} {rows : List (Option Sh)} (h : LyAt S H vs rows) : ∀ {j : Nat}, (∀ (i : Nat) r, i ≠ j → rows[i]? = some (some r) → r.hd ≠ hd) → LyAt S (upd H hd o) (vs.set j .non) (rows.set j none) := by
  induction h with
  | nil => intro j _; exact .nil
  | @cons x y xs ys h t ih =>
    intro j hb
    cases j with
    | zero =>
      refine .cons rfl (ly_hd hl t fun r hr => ?_)
      obtain ⟨i, hi⟩ := List.mem_iff_getElem?.mp hr
      exact hb (i + 1) r (by omega) (by simpa using hi)
    | succ j =>
      refine .cons ?_ (ih fun i r hi hr => hb (i + 1) r (by omega) (by simpa using hr))
      cases y with
      | none => exact h
      | some r =>
        obtain ⟨e, ⟨dx, h1⟩, h2, h3⟩ := h
        exact ⟨e, ⟨dx, by rw [upd_ne (ne_of h1 hl (fun z => nomatch z))]; exact h1⟩, by rw [upd_ne (ne_of h2 hl (fun z => nomatch z))]; exact h2, by rw [upd_ne (hb 0 r (by omega) rfl)]; exact h3⟩
theorem hds_ne : ∀ {rows : List (Option Sh)} {i j : Nat} {r r' : Sh}, (hds rows).Nodup → rows[j]? = some (some r) → rows[i]? = some (some r') → i ≠ j → r'.hd ≠ r.hd
  | [], _, _, _, _, _, h, _, _ => by simp at h
  | x :: l, 0, 0, _, _, _, _, _, h => absurd rfl h
  | x :: l, 0, j + 1, r, r', nd, h1, h2, _ => by
    simp at h1 h2
    subst h2
    have nd : (r'.hd :: hds l).Nodup := nd
    exact fun e => (List.nodup_cons.mp nd).1 (hds_mem.mpr ⟨r, List.mem_of_getElem? h1, e.symm⟩)
  | x :: l, i + 1, 0, r, r', nd, h1, h2, _ => by
    simp at h1 h2
    subst h1
    have nd : (r.hd :: hds l).Nodup := nd
    exact fun e => (List.nodup_cons.mp nd).1 (hds_mem.mpr ⟨r', List.mem_of_getElem? h2, e⟩)
  | x :: l, i + 1, j + 1, r, r', nd, h1, h2, hn => by
    have nd : (hds l).Nodup := by
      cases x with
      | none => exact nd
      | some y => exact (List.nodup_cons.mp (show (y.hd :: hds l).Nodup from nd)).2
    exact hds_ne nd (by simpa using h1) (by simpa using h2) (by omega)
theorem prd_app {α β : Type} {F : α → β → Prop} {xs : List α} {ys : List β} {x : α} {y : β} (h : Paired F xs ys) (hx : F x y) : Paired F (xs ++ [x]) (ys ++ [y]) := by
  induction h with
  | nil => exact .cons hx .nil
  | cons r t ih => exact .cons r ih
theorem ixn {n j : Nat} (h : j < n) : ixN n (j : Int) = some j := by
  unfold ixN
  rw [if_pos (by omega), if_pos (by omega)]; rfl
theorem SsAt.pl {C P S : Addr} {H : Hp} {z : Ss} {rows : List (Option Sh)} {pl : Addr} {us ws : List V} (h : SsAt C P S H z rows) (hp : H pl = some (.lst us)) (n4 : pl ∉ [z.ly, z.tw, z.ls, z.ts]) (nb : ∀ r, some r ∈ rows → r.bx ≠ pl) : SsAt C P S (upd H pl (.lst ws)) z rows := by
  obtain ⟨⟨dx, h1⟩, ⟨dx1, vs1, f1, f2, f3, f4⟩, ⟨dx2, vs2, g1, g2, g3, g4⟩, n1, n2, n3, bx, nd, len⟩ := h
  simp only [List.mem_cons, List.not_mem_nil, or_false, not_or] at n4
  have ni : ∀ {c o}, H c = some o → (∀ us, o ≠ .lst us) → upd H pl (.lst ws) c = some o := fun {c o} hc ho => by rw [upd_ne (fun z => by rw [z, hp] at hc; exact ho _ (Option.some.inj hc).symm)]; exact hc
  have nl : ∀ {c o}, H c = some o → c ≠ pl → upd H pl (.lst ws) c = some o := fun {c o} hc hn => by rw [upd_ne hn]; exact hc
  exact ⟨⟨dx, ni h1 (fun _ z => nomatch z)⟩, ⟨dx1, vs1, ni f1 (fun _ z => nomatch z), nl f2 (Ne.symm n4.1), ly_upd hp f3 nb, nl f4 (Ne.symm n4.2.1)⟩, ⟨dx2, vs2, ni g1 (fun _ z => nomatch z), nl g2 (Ne.symm n4.2.2.1), ly_upd hp g3 (fun r hr => nomatch (List.eq_of_mem_replicate hr)), nl g4 (Ne.symm n4.2.2.2)⟩, n1, n2, n3, bx, nd, len⟩
theorem cnt_none {m : Nat} : cnt (List.replicate m none) = 0 := by
  unfold cnt
  rw [List.filter_replicate_of_neg (by decide)]; rfl
def sp_ssi (C P S : Addr) : Sp := fun vs H Q _ => ∃ (s dx : Addr) (n m : Nat) (z : Int), vs = [.ref s, .int n, .int m, .int z] ∧ H s = some (.ins C dx []) ∧ n ≤ 64 ∧ m ≤ 64 ∧
  ∀ H' y, SsAt C P S H' y (List.replicate n none) → y.p = s → y.m = m → H y.ly = none → Kp [s] H H' → Q .non H'
theorem h_ssi (T : Txt K mg A) : HaveI P w K mg base "Sheets" A.C_Sheets 3 ["self", "frames", "slots", "size"] [] (sp_ssi A.C_Sheets A.C_Spots A.C_Sheet) := by
  have H_Spots_init := h_spi (P := P) (w := w) (base := base) T
  refine T.r_Sheets_init.have sc_Sheets_init (fun vs H Q E z => ?_) ?_
  · obtain ⟨s, dx, n, m, z, rfl, _⟩ := z; rfl
  · intro f cdv A' outer s H vs Q E hr z
    obtain ⟨s, dx, n, m, z, rfl, hs, hn, hm, q⟩ := z
    refine ⟨_, (pss_cons (ps_fld (pvM 0) (pvM 3) rfl)
      (pss_cut (ps_fld (pvM 0) (pe_makeE H_Spots_init (hr.mono (by decide)) xw_def (pa_cons (pvM 1) pa_nil)) rfl)
      (pss_cons (ps_fld (pvM 0) (pe_makeE H_Spots_init (hr.mono (by decide)) xw_def (pa_cons (pvM 2) pa_nil)) rfl)
      (pss_cons (ps_fld (pvM 0) pe_int rfl)
      (pss_cons (ps_fld (pvM 0) pe_int rfl)
      (pss_cons (ps_fld (pvM 0) pe_int rfl)
      (pss_one (ps_fld (pvM 0) pe_int rfl)))))))), ?_⟩
    unfold sp_spi
    walk_at "wp"
    refine ⟨A.C_Sheets, dx, [], hs, T.cl_Sheets, T.na_Sheets_size, by decide, ?_⟩
    have hs1 : upd H s (.ins A.C_Sheets dx (putF "size" (.int z) [])) s = some (.ins A.C_Sheets dx (putF "size" (.int z) [])) := upd_same
    have k1 : ∀ c o, H c = some o → c ≠ s → upd H s (.ins A.C_Sheets dx (putF "size" (.int z) [])) c = some o := fun c o hc hn => by rw [upd_ne hn]; exact hc
    have n1 : ∀ c, upd H s (.ins A.C_Sheets dx (putF "size" (.int z) [])) c = none → H c = none ∧ c ≠ s := fun c hc => by
      have ncs : c ≠ s := fun z => by rw [z, upd_same] at hc; cases hc
      rw [upd_ne ncs] at hc
      exact ⟨hc, ncs⟩
    generalize upd H s (.ins A.C_Sheets dx (putF "size" (.int z) [])) = H1 at *
    refine ⟨fun σ H' => ∃ fp fdx ly tw H2, σ = [some (.ref s), some (.int (n : Int)), some (.int (m : Int)), some (.int z)] ∧ H1 fp = none ∧ H1 ly = none ∧ H1 tw = none ∧ ly ≠ tw ∧ Same H1 H2 ∧ H2 fp = some (.ins A.C_Spots fdx (spF ly tw)) ∧ H2 ly = some (.lst (List.replicate n V.non)) ∧ H2 tw = some (.lst (List.replicate n V.non)) ∧ H' = upd H2 s (.ins A.C_Sheets dx (putF "frames" (.ref fp) (putF "size" (.int z) []))), ?_, fun σ' H' => ?_⟩
    · walk_at "wp"
      intro fp fdx hfp hfdx hne
      refine ⟨fdx, n, rfl, rfl, hn, fun ly tw H2 hly htw hlt kp2 a1 a2 a3 => ?_⟩
      have sm := same_make (o := .ins A.C_Spots fdx []) hfp hfdx hne
      have s12 : Same H1 H2 := fun c o hc => kp2 c o (sm c o hc) (fun z => ne_of_none hc hfp (List.mem_singleton.mp z))
      exact ⟨A.C_Sheets, dx, _, s12 _ _ hs1, T.cl_Sheets, T.na_Sheets_frames, by show 1 < 1000; decide, fp, hfp, fdx, ly, same_none sm hly, tw, same_none sm htw, hlt, H2, s12, a1, a2, a3, rfl⟩
    rintro ⟨fp, fdx, ly, tw, H2, rfl, hfp, hly1, htw1, hlt, s12, a1, a2, a3, rfl⟩
    walk_at "wp"
    have k3 : ∀ c o, H2 c = some o → c ≠ s → upd H2 s (.ins A.C_Sheets dx (putF "frames" (.ref fp) (putF "size" (.int z) []))) c = some o := fun c o hc hn => by rw [upd_ne hn]; exact hc
    have hs3 : upd H2 s (.ins A.C_Sheets dx (putF "frames" (.ref fp) (putF "size" (.int z) []))) s = some (.ins A.C_Sheets dx (putF "frames" (.ref fp) (putF "size" (.int z) []))) := upd_same
    have n3 : ∀ c, upd H2 s (.ins A.C_Sheets dx (putF "frames" (.ref fp) (putF "size" (.int z) []))) c = none → H2 c = none := fun c hc => by
      have ncs : c ≠ s := fun z => by rw [z, upd_same] at hc; cases hc
      rw [upd_ne ncs] at hc
      exact hc
    generalize upd H2 s (.ins A.C_Sheets dx (putF "frames" (.ref fp) (putF "size" (.int z) []))) = H3 at *
    intro sq sdx hsq hsdx hne2
    refine ⟨sdx, m, rfl, rfl, hm, fun ls ts H4 hls hts hlt2 kp4 c1 c2 c3 => ?_⟩
    have sm2 := same_make (o := .ins A.C_Spots sdx []) hsq hsdx hne2
    have s34 : Same H3 H4 := fun c o hc => kp4 c o (sm2 c o hc) (fun z => ne_of_none hc hsq (List.mem_singleton.mp z))
    refine ⟨A.C_Sheets, dx, _, s34 _ _ hs3, T.cl_Sheets, T.na_Sheets_slots, by show 2 < 1000; decide, T.cl_Sheets, T.na_Sheets_hand, by show 3 < 1000; decide, T.cl_Sheets, T.na_Sheets_gone_out, by show 4 < 1000; decide, T.cl_Sheets, T.na_Sheets_gone_astray, by show 5 < 1000; decide, T.cl_Sheets, T.na_Sheets_come_back, by show 6 < 1000; decide, ?_⟩
    have nfs := (n1 fp hfp).2
    have nls := (n1 ly hly1).2
    have nts := (n1 tw htw1).2
    have g1 := s34 _ _ (k3 _ _ a1 nfs)
    have g2 := s34 _ _ (k3 _ _ a2 nls)
    have g3 := s34 _ _ (k3 _ _ a3 nts)
    have hls3 := same_none sm2 hls
    have hts3 := same_none sm2 hts
    have nls2 : ls ≠ s := fun z => by rw [z, hs3] at hls3; cases hls3
    have nts2 : ts ≠ s := fun z => by rw [z, hs3] at hts3; cases hts3
    have nsq : sq ≠ s := fun z => by rw [z, hs3] at hsq; cases hsq
    have e1 : ∀ (kk : Nat) (HH : Hp), LyAt A.C_Sheet HH (List.replicate kk V.non) (List.replicate kk none) := fun kk HH => by
      induction kk with
      | zero => exact .nil
      | succ k ih => exact .cons rfl ih
    refine q _ ⟨s, fp, ly, tw, sq, ls, ts, z, m⟩ ⟨⟨dx, upd_same⟩, ⟨fdx, _, by rw [upd_ne nfs]; exact g1, by rw [upd_ne nls]; exact g2, e1 n _, by rw [upd_ne nts, List.length_replicate]; exact g3⟩, ⟨sdx, _, by rw [upd_ne nsq]; exact c1, by rw [upd_ne nls2]; exact c2, e1 m _, by rw [upd_ne nts2, List.length_replicate]; exact c3⟩, hlt.symm, (ne_of_none (k3 _ _ a2 nls) hls3).symm, (ne_of_none (k3 _ _ a2 nls) hts3).symm, fun r hr => absurd (List.eq_of_mem_replicate hr) (fun z => nomatch z), ?_, by rw [List.length_replicate]; exact ⟨hn, hm⟩⟩ rfl rfl (n1 ly hly1).1 (fun c o hc hx => ?_)
    · unfold hds
      rw [List.filterMap_eq_nil_iff.mpr (fun a ha => by rw [List.eq_of_mem_replicate ha]; rfl)]
      exact List.nodup_nil
    · have ncs : c ≠ s := fun z => hx (by simp [z])
      rw [upd_ne ncs]
      exact s34 _ _ (k3 _ _ (s12 _ _ (k1 c o hc ncs)) ncs)
def sp_live (C P S : Addr) : Sp := fun vs H Q _ => ∃ (z : Ss) (rows : List (Option Sh)), vs = [.ref z.p] ∧ SsAt C P S H z rows ∧ ∀ H', Same H H' → Q (.int (cnt rows : Nat)) H'
theorem h_live (T : Txt K mg A) : HaveM P w K mg base A.C_Sheets "live_sheets" 2 ["self"] [] (sp_live A.C_Sheets A.C_Spots A.C_Sheet) := by
  have H_Spots_live_count := h_lc (P := P) (w := w) (base := base) T
  refine T.r_Sheets_live_sheets.have sc_Sheets_live_sheets (fun vs H Q E z => ?_) ?_
  · obtain ⟨z, rows, rfl, _⟩ := z; rfl
  · intro f cdv A' outer s H vs Q E hr z
    obtain ⟨z, rows, rfl, hS, q⟩ := z
    obtain ⟨dx, h1⟩ := hS.me
    refine ⟨_, (pss_one (ps_ret (pe_op op_add (pe_methE0 (pe_fld (pvM 0) rfl) T.cl_Spots H_Spots_live_count (hr.mono (by decide)) xw_def) (pe_methE0 (pe_fld (pvM 0) rfl) T.cl_Spots H_Spots_live_count (hr.mono (by decide)) xw_def)))), ?_⟩
    unfold sp_lc
    walk_at "wp"
    simp only [h1]
    walk_at "wp"
    obtain ⟨dx1, vs1, f1, _⟩ := id hS.fr
    refine ⟨T.cl_Sheets, T.na_Sheets_frames, _, ssF_frames, z.fp, rfl, dx1, _, f1, spF_no (by decide +kernel), z.fp, rfl, z.ly, z.tw, rows, hS.fr, hS.len.1, fun H1 s1 => ?_⟩
    obtain ⟨dx2, vs2, f2, _⟩ := id hS.sl
    refine ⟨_, dx, _, s1 _ _ h1, T.cl_Sheets, T.na_Sheets_slots, _, ssF_slots, z.sq, rfl, dx2, _, s1 _ _ f2, spF_no (by decide +kernel), z.sq, rfl, z.ls, z.ts, _, hS.sl.same s1, by rw [List.length_replicate]; exact hS.len.2, fun H2 s2 => ?_⟩
    rw [cnt_none]
    exact q _ (s1.trans s2)
def sp_full (C P S : Addr) : Sp := fun vs H Q _ => ∃ (z : Ss) (rows : List (Option Sh)), vs = [.ref z.p] ∧ SsAt C P S H z rows ∧ ∀ H', Same H H' → Q (.bl (decide ((cnt rows : Int) ≥ (rows.length : Int) + (z.m : Int)))) H'
theorem h_full (T : Txt K mg A) : HaveM P w K mg base A.C_Sheets "is_full" 3 ["self"] [] (sp_full A.C_Sheets A.C_Spots A.C_Sheet) := by
  have H_Sheets_live_sheets := h_live (P := P) (w := w) (base := base) T
  refine T.r_Sheets_is_full.have sc_Sheets_is_full (fun vs H Q E z => ?_) ?_
  · obtain ⟨z, rows, rfl, _⟩ := z; rfl
  · intro f cdv A' outer s H vs Q E hr z
    obtain ⟨z, rows, rfl, hS, q⟩ := z
    obtain ⟨dx, h1⟩ := hS.me
    refine ⟨_, (pss_one (ps_ret (pe_cmpR op_ge (pe_methE0 (pvM 0) T.cl_Sheets H_Sheets_live_sheets (hr.mono (by decide)) xw_def) (pe_op op_add (pe_callB call_len rfl T.b_len PySem.boot_len (pa_cons (pe_fld (pe_fld (pvM 0) rfl) rfl) pa_nil)) (pe_callB call_len rfl T.b_len PySem.boot_len (pa_cons (pe_fld (pe_fld (pvM 0) rfl) rfl) pa_nil))) (nomark _)))), ?_⟩
    unfold sp_live
    walk_at "wp"
    simp only [h1]
    walk_at "wp"
    obtain ⟨dx1, vs1, f1, f2, f3, f4⟩ := id hS.fr
    obtain ⟨dx2, vs2, g1, g2, g3, g4⟩ := id hS.sl
    have l1 := Paired.length f3
    have l2 := Paired.length g3
    rw [List.length_replicate] at l2
    refine ⟨ssF_no (by decide +kernel), z, rfl, rows, hS, fun H1 s1 => ⟨_, dx, _, s1 _ _ h1, T.cl_Sheets, T.na_Sheets_frames, _, ssF_frames, z.fp, rfl, _, dx1, _, s1 _ _ f1, T.cl_Spots, T.na_Spots_lying, _, spF_lying, _, .inl ⟨_, SqL.of (s1 _ _ f2), rfl⟩, _, dx, _, s1 _ _ h1, T.cl_Sheets, T.na_Sheets_slots, _, ssF_slots, z.sq, rfl, _, dx2, _, s1 _ _ g1, T.cl_Spots, T.na_Spots_lying, _, spF_lying, _, .inl ⟨_, SqL.of (s1 _ _ g2), rfl⟩, ?_⟩⟩
    rw [l1, l2]
    exact q _ s1
def sp_ff (C P S : Addr) : Sp := fun vs H Q _ => ∃ (z : Ss) (rows : List (Option Sh)) (v : V) (j : Nat), vs = [.ref z.p, .non, v] ∧ SsAt C P S H z rows ∧ rows.findIdx? Option.isNone = some j ∧ ∀ H' e t, H t = none → H e = none → Same H H' → H' e = some (.lst []) → H' t = some (.tup [.int j, .ref e, .non]) → Q (.ref t) H'
theorem h_swept (T : Txt K mg A) : Have P w K mg base "swept" 1 ["marks", "hand"] [] sp_no := T.r_swept.have sc_swept (fun vs H Q E z => False.elim z) (fun _ _ _ _ _ _ _ _ _ _ z => False.elim z)
theorem h_out (T : Txt K mg A) : HaveM P w K mg base A.C_Sheets "put_out" 1 ["self", "frame", "coming_from"] [] sp_no := T.r_Sheets_put_out.have sc_Sheets_put_out (fun vs H Q E z => False.elim z) (fun _ _ _ _ _ _ _ _ _ _ z => False.elim z)
theorem h_ff (T : Txt K mg A) : HaveM P w K mg base A.C_Sheets "frame_for" 2 ["self", "coming_from", "marks"] [] (sp_ff A.C_Sheets A.C_Spots A.C_Sheet) := by
  have H_Spots_first_empty := h_fe (P := P) (w := w) (base := base) T
  have H_swept := h_swept (P := P) (w := w) (base := base) T
  have H_Sheets_put_out := h_out (P := P) (w := w) (base := base) T
  refine T.r_Sheets_frame_for.have sc_Sheets_frame_for (fun vs H Q E z => ?_) ?_
  · obtain ⟨z, rows, v, j, rfl, _⟩ := z; rfl
  · intro f cdv A' outer s H vs Q E hr z
    obtain ⟨z, rows, v, j, rfl, hS, hj, q⟩ := z
    obtain ⟨dx, h1⟩ := hS.me
    refine ⟨_, (pss_cons (ps_set (i := 3) sc_Sheets_frame_for.nd rfl (Or.inl rfl) (pe_methE0 (pe_fld (pvM 0) rfl) T.cl_Spots H_Spots_first_empty (hr.mono (by decide)) xw_def))
      (pss_cons (ps_if (pt_cmpR op_notN (pvM 3) pe_non (nomark _)) (pss_one (ps_ret (pe_tup (pa_cons (pvM 3) (pa_cons (pe_lst pa_nil) (pa_cons pe_non pa_nil)))))) pss_nil)
      (pss_cons (ps_set (i := 4) sc_Sheets_frame_for.nd rfl (Or.inl rfl) (pe_callE H_swept (hr.mono (by decide)) xw_def (pa_cons (pvM 2) (pa_cons (pe_fld (pvM 0) rfl) pa_nil))))
      (pss_cons (ps_fld (pvM 0) (pe_op op_mod (pe_op op_add (pe_ix ix_tup (pvM 4) pe_int (fun _ _ => rfl)) pe_int) (pe_callB call_len rfl T.b_len PySem.boot_len (pa_cons (pe_fld (pe_fld (pvM 0) rfl) rfl) pa_nil))) rfl)
      (pss_one (ps_ret (pe_tup (pa_cons (pe_ix ix_tup (pvM 4) pe_int (fun _ _ => rfl)) (pa_cons (pe_ix ix_tup (pvM 4) pe_int (fun _ _ => rfl)) (pa_cons (pe_methE (pvM 0) T.cl_Sheets H_Sheets_put_out (hr.mono (by decide)) xw_def (pa_cons (pe_ix ix_tup (pvM 4) pe_int (fun _ _ => rfl)) (pa_cons (pvM 1) pa_nil))) pa_nil)))))))))), ?_⟩
    unfold sp_fe sp_no
    walk_at "wp"
    simp only [h1]
    walk_at "wp"
    obtain ⟨dx1, vs1, f1, _⟩ := id hS.fr
    refine ⟨T.cl_Sheets, T.na_Sheets_frames, _, ssF_frames, z.fp, rfl, dx1, _, f1, spF_no (by decide +kernel), z.fp, rfl, z.ly, z.tw, rows, hS.fr, fun H1 s1 => ?_⟩
    have e : fe rows = .int (j : Int) := by unfold fe; rw [hj]
    rw [e, decide_eq_false (fun z => nomatch z)]
    refine iteT fun e1 he1 t1 ht1 => ?_
    have b1 := same_upd (o := .lst []) (same_refl (H := H1)) he1
    have b2 := same_upd (o := .tup [V.int (j : Int), V.ref e1, V.non]) (same_refl (H := upd H1 e1 (.lst []))) ht1
    exact q _ e1 t1 (same_none (s1.trans b1) ht1) (same_none s1 he1) ((s1.trans b1).trans b2) (b2 _ _ upd_same) upd_same
def sp_fresh (C P S : Addr) : Sp := fun vs H Q _ => ∃ (z : Ss) (rows : List (Option Sh)) (l h : Addr) (bs : List Int) (k : List Key) (v : V) (j : Nat), vs = [.ref z.p, .ref l, .ref h, v] ∧ SsAt C P S H z rows ∧ H l = some (.lst (bs.map V.int)) ∧ H h = some (.tup (k.map kV)) ∧ rows.findIdx? Option.isNone = some j ∧
  ∀ H' r e t, SsAt C P S H' z (rows.set j (some r)) → r.b = bs → r.k = k → H r.bx = none → H' e = some (.lst []) → H' t = some (.tup [.int j, .ref e, .non]) → Kp [z.ly] H H' → Q (.ref t) H'
theorem h_fresh (T : Txt K mg A) : HaveM P w K mg base A.C_Sheets "fresh" 4 ["self", "sheet", "holder", "marks"] [] (sp_fresh A.C_Sheets A.C_Spots A.C_Sheet) := by
  have H_Sheets_is_full := h_full (P := P) (w := w) (base := base) T
  have H_Sheets_frame_for := h_ff (P := P) (w := w) (base := base) T
  have H_Sheet_init := h_shi (P := P) (w := w) (base := base) T
  refine T.r_Sheets_fresh.have sc_Sheets_fresh (fun vs H Q E z => ?_) ?_
  · obtain ⟨z, rows, l, h, bs, k, v, j, rfl, _⟩ := z; rfl
  · intro f cdv A' outer s H vs Q E hr z
    obtain ⟨z, rows, l, h, bs, k, v, j, rfl, hS, hl, hh, hj, q⟩ := z
    obtain ⟨dx, h1⟩ := hS.me
    refine ⟨_, (pss_cons (ps_if (pt_val (pe_methE0 (pvM 0) T.cl_Sheets H_Sheets_is_full (hr.mono (by decide)) xw_def)) (pss_one (ps_raise xr_def rfl T.x_NoRoom (pa_cons pe_str pa_nil))) pss_nil)
      (pss_cut (ps_set (i := 4) sc_Sheets_fresh.nd rfl (Or.inl rfl) (pe_methE (pvM 0) T.cl_Sheets H_Sheets_frame_for (hr.mono (by decide)) xw_def (pa_cons pe_non (pa_cons (pvM 3) pa_nil))))
      (pss_cons (ps_asg (pe_makeE H_Sheet_init (hr.mono (by decide)) xw_def (pa_cons (pvM 1) (pa_cons (pvM 2) pa_nil))) (pg_sub (pe_fld (pe_fld (pvM 0) rfl) rfl) (pe_ix ix_tup (pvM 4) pe_int (fun _ _ => rfl)) set_list))
      (pss_one (ps_ret (pvM 4)))))), ?_⟩
    unfold sp_full sp_ff sp_shi
    walk_at "wp"
    simp only [h1]
    walk_at "wp"
    refine ⟨ssF_no (by decide +kernel), z, rfl, rows, hS, fun H1 s1 => ?_⟩
    rw [if_neg (by have := fe_cnt hj; omega)]
    refine ⟨fun σ H' => ∃ e t, σ = [some (.ref z.p), some (.ref l), some (.ref h), some v, some (.ref t)] ∧ H1 t = none ∧ H1 e = none ∧ Same H1 H' ∧ H' e = some (.lst []) ∧ H' t = some (.tup [.int (j : Int), .ref e, .non]), ?_, fun σ' H2 => ?_⟩
    · walk_at "wp"
      exact ⟨dx, _, s1 _ _ h1, ssF_no (by decide +kernel), z, rfl, rows, hS.same s1, j, hj, fun H2 e t ht0 he0 s2 he ht => ⟨ht0, e, he0, s2, he, ht⟩⟩
    rintro ⟨e, t, rfl, ht0, he0, s2, he, ht⟩
    walk_at "wp"
    intro sh sdx hsh hsdx hne
    have sm := same_make (o := .ins A.C_Sheet sdx []) hsh hsdx hne
    have s02 := s1.trans s2
    refine ⟨bs, sm _ _ (s02 _ _ hl), k, sm _ _ (s02 _ _ hh), fun bx hd H3 hbx hhd kp3 a1 a2 a3 => ?_⟩
    have s23 : Same H2 H3 := fun c o hc => kp3 c o (sm c o hc) (fun z => ne_of_none hc hsh (List.mem_singleton.mp z))
    obtain ⟨dx1, vs, f1, f2, f3, f4⟩ := id (hS.fr.same (s02.trans s23))
    obtain ⟨hjl, hjn, _⟩ := List.findIdx?_eq_some_iff_getElem.mp hj
    have hrj : rows[j]? = some none := by
      rw [List.getElem?_eq_getElem hjl]
      cases e : rows[j] with
      | none => rfl
      | some r => rw [e] at hjn; cases hjn
    have hvl := Paired.length f3
    refine ⟨_, dx, _, s23 _ _ (s02 _ _ h1), T.cl_Sheets, T.na_Sheets_frames, _, ssF_frames, z.fp, rfl, _, dx1, _, f1, T.cl_Spots, T.na_Spots_lying, _, spF_lying, _, SqT.of (s23 _ _ ht), _, rfl, z.ly, rfl, vs, j, rfl, f2, j, by unfold ixN; rw [if_pos (by omega), if_pos (by omega)]; rfl, ?_⟩
    have hly2 : ∃ us, H2 z.ly = some (.lst us) := let ⟨_, us, _, g, _⟩ := hS.fr; ⟨us, s02 _ _ g⟩
    obtain ⟨us2, hly2⟩ := hly2
    have hbx2 := same_none sm hbx
    have hhd2 := same_none sm hhd
    have nsl : sh ≠ z.ly := (ne_of_none hly2 hsh).symm
    have nbl : bx ≠ z.ly := (ne_of_none hly2 hbx2).symm
    have nhl : hd ≠ z.ly := (ne_of_none hly2 hhd2).symm
    have net : e ≠ z.ly := fun ez => by
      obtain ⟨_, us, _, g, _⟩ := hS.fr
      rw [ez, s1 _ _ g] at he0; cases he0
    have ntl : t ≠ z.ly := fun ez => by
      obtain ⟨_, us, _, g, _⟩ := hS.fr
      rw [ez, s1 _ _ g] at ht0; cases ht0
    have hS3 := hS.same (s02.trans s23)
    obtain ⟨dx2, vs2, g1, g2, g3, g4⟩ := id hS3.sl
    refine q _ ⟨bs, k, sh, bx, hd⟩ e t ⟨⟨dx, by rw [upd_ne (ne_of (s23 _ _ (s02 _ _ h1)) f2 (fun z => nomatch z))]; exact s23 _ _ (s02 _ _ h1)⟩, ⟨dx1, vs.set j (.ref sh), by rw [upd_ne (ne_of f1 f2 (fun z => nomatch z))]; exact f1, upd_same, prd_set (show ShAt A.C_Sheet _ (V.ref sh) (some ⟨bs, k, sh, bx, hd⟩) from ⟨rfl, ⟨sdx, by rw [upd_ne nsl]; exact a1⟩, by rw [upd_ne nbl]; exact a2, by rw [upd_ne nhl]; exact a3⟩) j (ly_upd f2 f3 hS.bx), by rw [upd_ne hS.n1, List.length_set]; exact f4⟩,
      ⟨dx2, vs2, by rw [upd_ne (ne_of g1 f2 (fun z => nomatch z))]; exact g1, by rw [upd_ne hS.n2]; exact g2, ly_upd f2 g3 (fun r hr => absurd (List.eq_of_mem_replicate hr) (fun z => nomatch z)), by rw [upd_ne hS.n3]; exact g4⟩, hS.n1, hS.n2, hS.n3, fun r hr => ?_, hds_put hrj hS.nd (fun hm => ?_), by rw [List.length_set]; exact hS.len⟩ rfl rfl (same_none s02 hbx2) (by rw [upd_ne net]; exact s23 _ _ he) (by rw [upd_ne ntl]; exact s23 _ _ ht) (fun c o hc hx => ?_)
    · rcases List.mem_or_eq_of_mem_set hr with h | h
      · exact hS.bx r h
      · cases h; exact nbl
    · obtain ⟨r, hr, e2⟩ := hds_mem.mp hm
      obtain ⟨dx9, us, _, _, g, _⟩ := hS.fr.same s02
      obtain ⟨i, hi⟩ := List.mem_iff_getElem?.mp hr
      obtain ⟨_, _, _, _, _, g9⟩ := prd_get2 g hi
      have e2 : r.hd = hd := e2
      rw [e2, hhd2] at g9; cases g9
    · rw [upd_ne (fun z => hx (by simp [z]))]
      exact s23 _ _ (s02 _ _ hc)

/-- where a spot lies: 'frame' -/
def sp_la (C P S : Addr) : Sp := fun vs H Q _ => ∃ (z : Ss) (rows : List (Option Sh)) (t : Addr) (j : Nat) (v : V), vs = [.ref z.p, .ref t] ∧ SsAt C P S H z rows ∧ H t = some (.tup [.str "frame", .int j]) ∧ (∃ us, H z.ly = some (.lst us) ∧ us[j]? = some v) ∧ Q v H
theorem h_la (T : Txt K mg A) : HaveM P w K mg base A.C_Sheets "lying_at" 1 ["self", "spot"] [] (sp_la A.C_Sheets A.C_Spots A.C_Sheet) := by
  refine T.r_Sheets_lying_at.have sc_Sheets_lying_at (fun vs H Q E z => ?_) ?_
  · obtain ⟨z, rows, t, j, v, rfl, _⟩ := z; rfl
  · intro f cdv A' outer s H vs Q E hr z
    obtain ⟨z, rows, t, j, v, rfl, hS, ht, ⟨us, hl, hv⟩, q⟩ := z
    obtain ⟨dx, h1⟩ := hS.me
    refine ⟨_, (pss_cons (ps_set (i := 2) sc_Sheets_lying_at.nd rfl (Or.inl rfl) (pe_ifExp (pt_cmpR op_eq (pe_ix ix_tup (pvM 1) pe_int (fun _ _ => rfl)) pe_str (nomark _)) (pe_fld (pvM 0) rfl) (pe_fld (pvM 0) rfl)))
      (pss_one (ps_ret (pe_ix ix_list (pe_fld (pvM 2) rfl) (pe_ix ix_tup (pvM 1) pe_int (fun _ _ => rfl)) (fun _ _ => rfl))))), ?_⟩
    walk_at "wp"
    simp only [h1]
    walk_at "wp"
    obtain ⟨dx1, vs1, f1, f2, f3, f4⟩ := id hS.fr
    refine ⟨_, SqT.of ht, _, rfl, rfl, ?_⟩
    rw [if_pos rfl]
    exact ⟨T.cl_Sheets, T.na_Sheets_frames, _, ssF_frames, z.fp, rfl, _, dx1, _, f1, T.cl_Spots, T.na_Spots_lying, _, spF_lying, _, SqT.of ht, _, rfl, z.ly, rfl, us, j, rfl, SqL.of hl, v, atI_nat hv, q⟩
def sp_lose (C P : Addr) : Sp := fun vs H Q _ => ∃ (p fp ly tw sq : Addr) (n : Int) (dx dx1 : Addr) (ts : List V) (j : Nat), vs = [.ref p, .int j] ∧ H p = some (.ins C dx (ssF n fp sq)) ∧ H fp = some (.ins P dx1 (spF ly tw)) ∧ H tw = some (.lst ts) ∧ ts[j]? = some .non ∧ Q .non H
theorem h_lose (T : Txt K mg A) : HaveM P w K mg base A.C_Sheets "lose_twin" 1 ["self", "frame"] [] (sp_lose A.C_Sheets A.C_Spots) := by
  refine T.r_Sheets_lose_twin.have sc_Sheets_lose_twin (fun vs H Q E z => ?_) ?_
  · obtain ⟨p, fp, ly, tw, sq, n, dx, dx1, ts, j, rfl, _⟩ := z; rfl
  · intro f cdv A' outer s H vs Q E hr z
    obtain ⟨p, fp, ly, tw, sq, n, dx, dx1, ts, j, rfl, h1, h2, h3, h4, q⟩ := z
    refine ⟨_, (pss_cons (ps_set (i := 2) sc_Sheets_lose_twin.nd rfl (Or.inl rfl) (pe_ix ix_list (pe_fld (pe_fld (pvM 0) rfl) rfl) (pvM 1) (fun _ _ => rfl)))
      (pss_one (ps_if (pt_cmpR op_notN (pvM 2) pe_non (nomark _)) (pss_cons (ps_asg pe_non (pg_sub (pe_fld (pe_fld (pvM 0) rfl) rfl) (pvM 1) set_list))
      (pss_one (ps_asg pe_non (pg_sub (pe_fld (pe_fld (pvM 0) rfl) rfl) (pvM 2) set_list)))) pss_nil))), ?_⟩
    walk_at "wp"
    simp only [h1]
    walk_at "wp"
    exact ⟨T.cl_Sheets, T.na_Sheets_frames, _, ssF_frames, fp, rfl, _, dx1, _, h2, T.cl_Spots, T.na_Spots_twins, _, spF_twins, tw, rfl, ts, SqL.of h3, .non, atI_nat h4, by rw [decide_eq_true rfl]; exact iteF q⟩
def sp_me (C P : Addr) : Sp := fun vs H Q _ => ∃ (p fp ly tw sq t : Addr) (n : Int) (dx dx1 : Addr) (us ts : List V) (j : Nat), vs = [.ref p, .ref t] ∧ H t = some (.tup [.str "frame", .int j]) ∧ H p = some (.ins C dx (ssF n fp sq)) ∧ H fp = some (.ins P dx1 (spF ly tw)) ∧ H ly = some (.lst us) ∧ j < us.length ∧ H tw = some (.lst ts) ∧ ts[j]? = some .non ∧ tw ≠ ly ∧ Q .non (upd H ly (.lst (us.set j .non)))
theorem h_me (T : Txt K mg A) : HaveM P w K mg base A.C_Sheets "make_empty" 2 ["self", "spot"] [] (sp_me A.C_Sheets A.C_Spots) := by
  have H_Sheets_lose_twin := h_lose (P := P) (w := w) (base := base) T
  refine T.r_Sheets_make_empty.have sc_Sheets_make_empty (fun vs H Q E z => ?_) ?_
  · obtain ⟨p, fp, ly, tw, sq, t, n, dx, dx1, us, ts, j, rfl, _⟩ := z; rfl
  · intro f cdv A' outer s H vs Q E hr z
    obtain ⟨p, fp, ly, tw, sq, t, n, dx, dx1, us, ts, j, rfl, ht, h1, h2, h3, hj, h4, h5, nt, q⟩ := z
    refine ⟨_, (pss_one (ps_if (pt_cmpR op_eq (pe_ix ix_tup (pvM 1) pe_int (fun _ _ => rfl)) pe_str (nomark _)) (pss_cons (ps_asg pe_non (pg_sub (pe_fld (pe_fld (pvM 0) rfl) rfl) (pe_ix ix_tup (pvM 1) pe_int (fun _ _ => rfl)) set_list))
      (pss_one (ps_expr (pe_methE (pvM 0) T.cl_Sheets H_Sheets_lose_twin (hr.mono (by decide)) xw_def (pa_cons (pe_ix ix_tup (pvM 1) pe_int (fun _ _ => rfl)) pa_nil))))) (pss_one (ps_asg pe_non (pg_sub (pe_fld (pe_fld (pvM 0) rfl) rfl) (pe_ix ix_tup (pvM 1) pe_int (fun _ _ => rfl)) set_list))))), ?_⟩
    unfold sp_lose
    walk_at "wp"
    simp only [h1]
    walk_at "wp"
    refine ⟨_, SqT.of ht, _, rfl, rfl, ?_⟩
    rw [if_pos rfl]
    refine ⟨T.cl_Sheets, T.na_Sheets_frames, _, ssF_frames, fp, rfl, _, dx1, _, h2, T.cl_Spots, T.na_Spots_lying, _, spF_lying, _, SqT.of ht, _, rfl, ly, rfl, us, j, rfl, h3, j, by unfold ixN; rw [if_pos (by omega), if_pos (by omega)]; rfl, ?_⟩
    have np : ∀ {c o}, H c = some o → (∀ us, o ≠ .lst us) → upd H ly (.lst (us.set j .non)) c = some o := fun {c o} hc ho => by rw [upd_ne (fun z => by rw [z, h3] at hc; exact ho _ (Option.some.inj hc).symm)]; exact hc
    have h1' := np h1 (fun _ z => nomatch z)
    have ht' := np ht (fun _ z => nomatch z)
    exact ⟨dx, _, h1', ssF_no (by decide +kernel), _, SqT.of ht', _, rfl, fp, ly, tw, sq, n, dx, dx1, ts, j, rfl, h1', np h2 (fun _ z => nomatch z), by rw [upd_ne nt]; exact h4, h5, q⟩
def sp_lg (C P S : Addr) : Sp := fun vs H Q _ => ∃ (z : Ss) (rows : List (Option Sh)) (t h : Addr) (j : Nat) (r : Sh), vs = [.ref z.p, .ref t, .ref h] ∧ SsAt C P S H z rows ∧ H t = some (.tup [.str "frame", .int j]) ∧ rows[j]? = some (some r) ∧ H h = some (.tup (r.k.map kV)) ∧
  ∀ H', SsAt C P S H' z (rows.set j none) → Kq z.ly H H' → Q .non H'
theorem h_lg (T : Txt K mg A) : HaveM P w K mg base A.C_Sheets "let_go" 3 ["self", "spot", "holder"] [] (sp_lg A.C_Sheets A.C_Spots A.C_Sheet) := by
  have H_Sheets_lying_at := h_la (P := P) (w := w) (base := base) T
  have H_Sheets_make_empty := h_me (P := P) (w := w) (base := base) T
  refine T.r_Sheets_let_go.have sc_Sheets_let_go (fun vs H Q E z => ?_) ?_
  · obtain ⟨z, rows, t, h, j, r, rfl, _⟩ := z; rfl
  · intro f cdv A' outer s H vs Q E hr z
    obtain ⟨z, rows, t, h, j, r, rfl, hS, ht, hrj, hh, q⟩ := z
    obtain ⟨dx, h1⟩ := hS.me
    refine ⟨_, (pss_cons (ps_set (i := 3) sc_Sheets_let_go.nd rfl (Or.inl rfl) (pe_methE (pvM 0) T.cl_Sheets H_Sheets_lying_at (hr.mono (by decide)) xw_def (pa_cons (pvM 1) pa_nil)))
      (pss_cons (ps_expr (pe_dpopT (hu_of hr) (pe_fld (pvM 3) rfl) (pvM 2) ⟨rfl, rfl, rfl, rfl⟩))
      (pss_one (ps_if (pt_cmpR op_eq (pe_callB call_lenDT rfl T.b_len PySem.boot_len (pa_cons (pe_fld (pvM 3) rfl) pa_nil)) pe_int (nomark _)) (pss_one (ps_expr (pe_methE (pvM 0) T.cl_Sheets H_Sheets_make_empty (hr.mono (by decide)) xw_def (pa_cons (pvM 1) pa_nil)))) pss_nil)))), ?_⟩
    obtain ⟨dx1, vs1, f1, f2, f3, f4⟩ := id hS.fr
    obtain ⟨v, hv1, rfl, ⟨dx2, g1⟩, g2, g3⟩ := prd_get2 f3 hrj
    unfold sp_la sp_me tDPopT
    walk_at "wp"
    simp only [h1]
    walk_at "wp"
    refine ⟨ssF_no (by decide +kernel), z, rfl, rows, hS, j, ht, .ref r.sh, ⟨vs1, f2, hv1⟩, ?_⟩
    have ed : dropK [(r.k, V.bl true)] r.k = [] := by unfold dropK; simp
    have np : ∀ {c o}, H c = some o → (∀ us, o ≠ .dT us) → upd H r.hd (.dT []) c = some o := fun {c o} hc ho => by rw [upd_ne (fun z => by rw [z, g3] at hc; exact ho _ (Option.some.inj hc).symm)]; exact hc
    refine ⟨r.sh, rfl, _, dx2, _, g1, T.cl_Sheet, T.na_Sheet_holders, _, shF_holders, r.hd, rfl, .inr ⟨_, .inl g3⟩, _, g3, r.k, hh, .bl true, valV_pos rfl, ?_⟩
    rw [ed]
    refine ⟨r.sh, rfl, _, dx2, _, np g1 (fun _ z => nomatch z), T.cl_Sheet, T.na_Sheet_holders, _, shF_holders, r.hd, rfl, _, upd_same, ?_⟩
    rw [if_pos (show ((([] : List (List Key × V)).length : Nat) : Int) = 0 from rfl)]
    have hjl : j < vs1.length := (List.getElem?_eq_some_iff.mp hv1).1
    have hrl : j < rows.length := (List.getElem?_eq_some_iff.mp hrj).1
    have h1' := np h1 (fun _ z => nomatch z)
    have f1' := np f1 (fun _ z => nomatch z)
    have f2' := np f2 (fun _ z => nomatch z)
    have f4' := np f4 (fun _ z => nomatch z)
    have ht' := np ht (fun _ z => nomatch z)
    refine ⟨dx, _, h1', ssF_no (by decide +kernel), z.fp, z.ly, z.tw, z.sq, z.n, dx, dx1, vs1, _, j, ht', h1', f1', f2', hjl, f4', by rw [List.getElem?_replicate, if_pos hrl], hS.n1, ?_⟩
    obtain ⟨dx3, vs3, k1, k2, k3, k4⟩ := id hS.sl
    have no : ∀ r, some r ∈ List.replicate z.m (none : Option Sh) → False := fun r hr => nomatch (List.eq_of_mem_replicate hr)
    have ng : ∀ {c o}, upd H r.hd (.dT []) c = some o → c ≠ z.ly → upd (upd H r.hd (.dT [])) z.ly (.lst (vs1.set j .non)) c = some o := fun {c o} hc hn => by rw [upd_ne hn]; exact hc
    have nl : ∀ {c o}, upd H r.hd (.dT []) c = some o → (∀ us, o ≠ .lst us) → c ≠ z.ly := fun {c o} hc ho z => by rw [z, f2'] at hc; exact ho _ (Option.some.inj hc).symm
    refine q _ ⟨⟨dx, ng h1' (nl h1' (fun _ z => nomatch z))⟩, ⟨dx1, vs1.set j .non, ng f1' (nl f1' (fun _ z => nomatch z)), upd_same, ly_upd f2' (ly_clr g3 f3 fun i r' hi hr' => hds_ne hS.nd hrj hr' hi) (fun r' hr' => ?_), by rw [List.length_set]; exact ng f4' hS.n1⟩, ⟨dx3, vs3, ng (np k1 (fun _ z => nomatch z)) (nl (np k1 (fun _ z => nomatch z)) (fun _ z => nomatch z)), ng (np k2 (fun _ z => nomatch z)) hS.n2, ly_upd f2' (ly_hd g3 k3 fun r' hr' => (no r' hr').elim) (fun r' hr' => (no r' hr').elim), ng (np k4 (fun _ z => nomatch z)) hS.n3⟩, hS.n1, hS.n2, hS.n3, fun r' hr' => ?_, hS.nd.sublist hds_clr, by rw [List.length_set]; exact hS.len⟩ (fun c o hc hn hk => ng (np hc hk) hn)
    all_goals
      rcases List.mem_or_eq_of_mem_set hr' with h | h
      · exact hS.bx r' h
      · cases h
def sp_sat (C P S : Addr) : Sp := fun vs H Q _ => ∃ (z : Ss) (rows : List (Option Sh)) (t : Addr) (j : Nat), vs = [.ref z.p, .ref t] ∧ SsAt C P S H z rows ∧ H t = some (.tup [.str "frame", .int j]) ∧ rows[j]? = some none ∧ Q .non H
theorem h_sat (T : Txt K mg A) : HaveM P w K mg base A.C_Sheets "sheet_at" 2 ["self", "spot"] [] (sp_sat A.C_Sheets A.C_Spots A.C_Sheet) := by
  have H_Sheets_lying_at := h_la (P := P) (w := w) (base := base) T
  refine T.r_Sheets_sheet_at.have sc_Sheets_sheet_at (fun vs H Q E z => ?_) ?_
  · obtain ⟨z, rows, t, j, rfl, _⟩ := z; rfl
  · intro f cdv A' outer s H vs Q E hr z
    obtain ⟨z, rows, t, j, rfl, hS, ht, hrj, q⟩ := z
    obtain ⟨dx, h1⟩ := hS.me
    obtain ⟨dx1, vs1, f1, f2, f3, f4⟩ := id hS.fr
    obtain ⟨v, hv1, hv2⟩ := prd_get2 f3 hrj
    obtain rfl : v = .non := hv2
    refine ⟨_, (pss_cons (ps_set (i := 2) sc_Sheets_sheet_at.nd rfl (Or.inl rfl) (pe_methE (pvM 0) T.cl_Sheets H_Sheets_lying_at (hr.mono (by decide)) xw_def (pa_cons (pvM 1) pa_nil)))
      (pss_one (ps_ret (pe_ifExp (pt_cmpR op_isN (pvM 2) pe_non (nomark _)) pe_non (pe_callTy call_list_of rfl T.b_list PyProof.Rows.boot_list (pa_cons (pe_fld (pvM 2) rfl) pa_nil)))))), ?_⟩
    unfold sp_la
    walk_at "wp"
    simp only [h1]
    walk_at "wp"
    exact ⟨ssF_no (by decide +kernel), z, rfl, rows, hS, j, ht, .non, ⟨vs1, f2, hv1⟩, by rw [if_pos rfl]; exact q⟩
def sp_ho (C P S : Addr) : Sp := fun vs H Q _ => ∃ (z : Ss) (rows : List (Option Sh)) (t : Addr) (j : Nat), vs = [.ref z.p, .ref t] ∧ SsAt C P S H z rows ∧ H t = some (.tup [.str "frame", .int j]) ∧ rows[j]? = some none ∧ ∀ l, H l = none → Q (.ref l) (upd H l (.lst []))
theorem h_ho (T : Txt K mg A) : HaveM P w K mg base A.C_Sheets "holders_of" 2 ["self", "spot"] [] (sp_ho A.C_Sheets A.C_Spots A.C_Sheet) := by
  have H_Sheets_lying_at := h_la (P := P) (w := w) (base := base) T
  have H_Sheet_told_holders := h_told (P := P) (w := w) (base := base) T
  refine T.r_Sheets_holders_of.have sc_Sheets_holders_of (fun vs H Q E z => ?_) ?_
  · obtain ⟨z, rows, t, j, rfl, _⟩ := z; rfl
  · intro f cdv A' outer s H vs Q E hr z
    obtain ⟨z, rows, t, j, rfl, hS, ht, hrj, q⟩ := z
    obtain ⟨dx, h1⟩ := hS.me
    obtain ⟨dx1, vs1, f1, f2, f3, f4⟩ := id hS.fr
    obtain ⟨v, hv1, hv2⟩ := prd_get2 f3 hrj
    obtain rfl : v = .non := hv2
    refine ⟨_, (pss_cons (ps_set (i := 2) sc_Sheets_holders_of.nd rfl (Or.inl rfl) (pe_methE (pvM 0) T.cl_Sheets H_Sheets_lying_at (hr.mono (by decide)) xw_def (pa_cons (pvM 1) pa_nil)))
      (pss_one (ps_ret (pe_ifExp (pt_cmpR op_isN (pvM 2) pe_non (nomark _)) (pe_lst pa_nil) (pe_methE0 (pvM 2) T.cl_Sheet H_Sheet_told_holders (hr.mono (by decide)) xw_def))))), ?_⟩
    unfold sp_la sp_told
    walk_at "wp"
    simp only [h1]
    walk_at "wp"
    exact ⟨ssF_no (by decide +kernel), z, rfl, rows, hS, j, ht, .non, ⟨vs1, f2, hv1⟩, by rw [if_pos rfl]; exact q⟩
def sp_box (C P S : Addr) : Sp := fun vs H Q _ => ∃ (z : Ss) (rows : List (Option Sh)) (j b : Nat) (r : Sh) (x : Int), vs = [.ref z.p, .int j, .int b] ∧ SsAt C P S H z rows ∧ rows[j]? = some (some r) ∧ r.b[b]? = some x ∧ Q (.int x) H
theorem h_box (T : Txt K mg A) : HaveM P w K mg base A.C_Sheets "box_of" 1 ["self", "frame", "box"] [] (sp_box A.C_Sheets A.C_Spots A.C_Sheet) := by
  refine T.r_Sheets_box_of.have sc_Sheets_box_of (fun vs H Q E z => ?_) ?_
  · obtain ⟨z, rows, j, b, r, x, rfl, _⟩ := z; rfl
  · intro f cdv A' outer s H vs Q E hr z
    obtain ⟨z, rows, j, b, r, x, rfl, hS, hrj, hb, q⟩ := z
    obtain ⟨dx, h1⟩ := hS.me
    obtain ⟨dx1, vs1, f1, f2, f3, f4⟩ := id hS.fr
    obtain ⟨v, hv1, rfl, ⟨dx2, g1⟩, g2, g3⟩ := prd_get2 f3 hrj
    refine ⟨_, (pss_one (ps_ret (pe_ix ix_list (pe_fld (pe_ix ix_list (pe_fld (pe_fld (pvM 0) rfl) rfl) (pvM 1) (fun _ _ => rfl)) rfl) (pvM 2) (fun _ _ => rfl)))), ?_⟩
    walk_at "wp"
    simp only [h1]
    walk_at "wp"
    exact ⟨T.cl_Sheets, T.na_Sheets_frames, _, ssF_frames, z.fp, rfl, _, dx1, _, f1, T.cl_Spots, T.na_Spots_lying, _, spF_lying, z.ly, rfl, _, SqL.of f2, _, atI_nat hv1, r.sh, rfl, _, dx2, _, g1, T.cl_Sheet, T.na_Sheet_boxes, _, shF_boxes, r.bx, rfl, _, SqL.of g2, _, atI_nat (by rw [List.getElem?_map, hb]; rfl), q⟩
def sp_hand (C P S : Addr) : Sp := fun vs H Q _ => ∃ (z : Ss) (rows : List (Option Sh)), vs = [.ref z.p] ∧ SsAt C P S H z rows ∧ Q (.int 0) H
theorem h_hand (T : Txt K mg A) : HaveM P w K mg base A.C_Sheets "hand_at" 1 ["self"] [] (sp_hand A.C_Sheets A.C_Spots A.C_Sheet) := by
  refine T.r_Sheets_hand_at.have sc_Sheets_hand_at (fun vs H Q E z => ?_) ?_
  · obtain ⟨z, rows, rfl, _⟩ := z; rfl
  · intro f cdv A' outer s H vs Q E hr z
    obtain ⟨z, rows, rfl, hS, q⟩ := z
    obtain ⟨dx, h1⟩ := hS.me
    refine ⟨_, (pss_one (ps_ret (pe_fld (pvM 0) rfl))), ?_⟩
    walk_at "wp"
    simp only [h1]
    walk_at "wp"
    exact ⟨T.cl_Sheets, T.na_Sheets_hand, _, ssF_hand, q⟩
def sp_moved (C P S : Addr) : Sp := fun vs H Q _ => ∃ (z : Ss) (rows : List (Option Sh)), vs = [.ref z.p] ∧ SsAt C P S H z rows ∧ ∀ t, H t = none → Q (.ref t) (upd H t (.tup [.int 0, .int 0, .int 0]))
theorem h_moved (T : Txt K mg A) : HaveM P w K mg base A.C_Sheets "moved" 1 ["self"] [] (sp_moved A.C_Sheets A.C_Spots A.C_Sheet) := by
  refine T.r_Sheets_moved.have sc_Sheets_moved (fun vs H Q E z => ?_) ?_
  · obtain ⟨z, rows, rfl, _⟩ := z; rfl
  · intro f cdv A' outer s H vs Q E hr z
    obtain ⟨z, rows, rfl, hS, q⟩ := z
    obtain ⟨dx, h1⟩ := hS.me
    refine ⟨_, (pss_one (ps_ret (pe_tup (pa_cons (pe_fld (pvM 0) rfl) (pa_cons (pe_fld (pvM 0) rfl) (pa_cons (pe_fld (pvM 0) rfl) pa_nil)))))), ?_⟩
    walk_at "wp"
    simp only [h1]
    walk_at "wp"
    exact ⟨T.cl_Sheets, T.na_Sheets_gone_out, _, ssF_out, T.cl_Sheets, T.na_Sheets_gone_astray, _, ssF_astray, T.cl_Sheets, T.na_Sheets_come_back, _, ssF_back, q⟩
/-- a row told: (boxes, holders, None) -/
def RwT (H : Hp) (xs : List Addr) (v : V) : Option Sh → Prop
  | none => v = .non
  | some r => ∃ t bl hl kt, v = .ref t ∧ H t = some (.tup [.ref bl, .ref hl, .non]) ∧ H bl = some (.lst (r.b.map V.int)) ∧ H hl = some (.lst [.ref kt]) ∧ H kt = some (.tup (r.k.map kV)) ∧ bl ∉ xs ∧ hl ∉ xs
theorem RwT.keep {H H' : Hp} {xs : List Addr} (hx : ∀ x ∈ xs, ∃ us, H x = some (.lst us)) (k : ∀ c o, H c = some o → c ∉ xs → (∀ kvs, o ≠ .dT kvs) → H' c = some o) {v : V} : ∀ {r : Option Sh}, RwT H xs v r → RwT H' xs v r
  | none, h => h
  | some _, ⟨t, bl, hl, kt, e, h1, h2, h3, h4, n1, n2⟩ => by
    have nt : ∀ {c us}, H c = some (.tup us) → c ∉ xs := fun {c us} hc z => by
      obtain ⟨vs, e⟩ := hx c z
      rw [hc] at e; cases e
    exact ⟨t, bl, hl, kt, e, k _ _ h1 (nt h1) (fun _ z => nomatch z), k _ _ h2 n1 (fun _ z => nomatch z), k _ _ h3 n2 (fun _ z => nomatch z), k _ _ h4 (nt h4) (fun _ z => nomatch z), n1, n2⟩
def dvK (k : List Key) : Dv := .seq true (k.map fun x => .leaf (kV x))
def dvS : Option Sh → Dv
  | none => .leaf .non
  | some r => .seq true [.seq false (r.b.map fun x => .leaf (.int x)), .seq false [dvK r.k], .leaf .non]
theorem lks_ints {H : Hp} : ∀ {bs : List Int}, LksL H (bs.map fun x => .leaf (.int x)) (bs.map V.int)
  | [] => by unfold LksL; rfl
  | b :: bs => by
    rw [List.map_cons, List.map_cons]
    unfold LksL
    exact ⟨_, _, rfl, by unfold Lks; exact ⟨rfl, rfl⟩, lks_ints⟩
theorem lks_keys {H : Hp} : ∀ {k : List Key}, LksL H (k.map fun x => .leaf (kV x)) (k.map kV)
  | [] => by unfold LksL; rfl
  | b :: bs => by
    rw [List.map_cons, List.map_cons]
    unfold LksL
    exact ⟨_, _, rfl, by unfold Lks; exact ⟨rfl, by cases b <;> rfl⟩, lks_keys⟩
def okS (rows : List (Option Sh)) : Prop := ∀ r, some r ∈ rows → r.b.length ≤ 64 ∧ r.k.length ≤ 64
theorem RwT.lks {H : Hp} {xs : List Addr} {v : V} : ∀ {r : Option Sh}, RwT H xs v r → (∀ s, r = some s → s.b.length ≤ 64 ∧ s.k.length ≤ 64) → Lks H (dvS r) v
  | none, h, _ => by unfold dvS Lks; exact ⟨h, rfl⟩
  | some s, ⟨t, bl, hl, kt, e, h1, h2, h3, h4, n1, n2⟩, hb => by
    obtain ⟨b1, b2⟩ := hb s rfl
    unfold dvS Lks
    refine ⟨t, _, e, h1, by show (3 : Nat) < 16777216; decide, ?_⟩
    unfold LksL
    refine ⟨_, _, rfl, ?_, ?_⟩
    · unfold Lks
      exact ⟨bl, _, rfl, h2, by rw [List.length_map]; omega, lks_ints⟩
    unfold LksL
    refine ⟨_, _, rfl, ?_, ?_⟩
    · unfold Lks
      refine ⟨hl, _, rfl, h3, by show (1 : Nat) < 16777216; decide, ?_⟩
      unfold LksL
      refine ⟨_, _, rfl, ?_, by unfold LksL; rfl⟩
      unfold dvK Lks
      exact ⟨kt, _, rfl, h4, by rw [List.length_map]; omega, lks_keys⟩
    unfold LksL
    exact ⟨_, _, rfl, by unfold Lks; exact ⟨rfl, rfl⟩, by unfold LksL; rfl⟩
theorem rws_lks {H : Hp} {xs : List Addr} {vs : List V} {rows : List (Option Sh)} (h : Paired (RwT H xs) vs rows) (ok : okS rows) : LksL H (rows.map dvS) vs := by
  induction h with
  | nil => unfold LksL; rfl
  | cons r t ih =>
    rw [List.map_cons]
    unfold LksL
    exact ⟨_, _, rfl, r.lks (fun s e => ok s (by rw [e]; exact List.mem_cons_self ..)), ih fun r hr => ok r (List.mem_cons_of_mem _ hr)⟩
def sp_tf (C P S : Addr) : Sp := fun vs H Q _ => ∃ (z : Ss) (rows : List (Option Sh)), vs = [.ref z.p] ∧ SsAt C P S H z rows ∧ okS rows ∧ ∀ H' l, Same H H' → Lks H' (.seq false (rows.map dvS)) (.ref l) → Q (.ref l) H'
theorem h_tf (T : Txt K mg A) : HaveM P w K mg base A.C_Sheets "told_frames" 2 ["self"] [] (sp_tf A.C_Sheets A.C_Spots A.C_Sheet) := by
  have H_Sheet_told_holders := h_told (P := P) (w := w) (base := base) T
  refine T.r_Sheets_told_frames.have sc_Sheets_told_frames (fun vs H Q E z => ?_) ?_
  · obtain ⟨z, rows, rfl, _⟩ := z; rfl
  · intro f cdv A' outer s H vs Q E hr z
    obtain ⟨z, rows, rfl, hS, ok, q⟩ := z
    obtain ⟨dx, h1⟩ := hS.me
    obtain ⟨dx1, us, f1, f2, f3, f4⟩ := id hS.fr
    have hul := Paired.length f3
    refine ⟨_, (pss_cons (ps_set (i := 1) sc_Sheets_told_frames.nd rfl (Or.inl rfl) (pe_lst pa_nil))
      (pss_cons (ps_forE PassesOwn.leaving rfl (pi_enum rfl T.b_enumerate (pa_cons (pe_fld (pe_fld (pvM 0) rfl) rfl) pa_nil)) (pg_tup rfl (pgs_cons (pg_name (i := 2) sc_Sheets_told_frames.nd rfl (Or.inl rfl)) (pgs_cons (pg_name (i := 3) sc_Sheets_told_frames.nd rfl (Or.inl rfl)) pgs_nil))) (pss_one (ps_if (pt_cmpR op_isN (pvM 3) pe_non (nomark _)) (pss_one (ps_expr (pe_bm PySem.F.plainAttrs_list PySem.F.slot_list_append PySem.F.type_list_append mt_append (pvM 1) (pa_cons pe_non pa_nil)))) (pss_one (ps_expr (pe_bm PySem.F.plainAttrs_list PySem.F.slot_list_append PySem.F.type_list_append mt_append (pvM 1) (pa_cons (pe_tup (pa_cons (pe_callTy call_list_of rfl T.b_list PyProof.Rows.boot_list (pa_cons (pe_fld (pvM 3) rfl) pa_nil)) (pa_cons (pe_methE0 (pvM 3) T.cl_Sheet H_Sheet_told_holders (hr.mono (by decide)) xw_def) (pa_cons (pe_ix ix_list (pe_fld (pe_fld (pvM 0) rfl) rfl) (pvM 2) (fun _ _ => rfl)) pa_nil)))) pa_nil)))))))
      (pss_one (ps_ret (pvM 1))))), ?_⟩
    unfold sp_told
    walk_at "wp"
    intro tl htl
    have b1 := same_upd (o := .lst []) (same_refl (H := H)) htl
    refine ⟨_, dx, _, b1 _ _ h1, T.cl_Sheets, T.na_Sheets_frames, _, ssF_frames, z.fp, rfl, _, dx1, _, b1 _ _ f1, T.cl_Spots, T.na_Spots_lying, _, spF_lying, z.ly, rfl, ⟨_, SqL.of (b1 _ _ f2)⟩, loop_enum (xs := us) (fun i σ H' => ∃ ys v2 v3, σ = [some (.ref z.p), some (.ref tl), v2, v3] ∧ Same H H' ∧ H' tl = some (.lst ys) ∧ Paired (RwT H' [tl]) ys (rows.take i)) ⟨[], _, _, rfl, b1, upd_same, .nil⟩ (fun i σ H' _ ⟨_, _, _, _, e, _⟩ => SqL.of (e _ _ f2)) (fun i x tt σ H' hi => ?_) (fun σ H1 => ?_)⟩
    · rintro ⟨ys, v2, v3, rfl, s1, hy, hP⟩ htt
      obtain ⟨y, hy1, hy2⟩ := prd_get f3 hi
      have b2 := same_upd (o := .tup [V.int i, x]) (same_refl (H := H')) htt
      have htt' : upd H' tt (.tup [V.int i, x]) tt = some (.tup [V.int i, x]) := upd_same
      have htk : rows.take (i + 1) = rows.take i ++ [y] := by rw [List.take_add_one, hy1]; rfl
      walk_at "wp"
      generalize upd H' tt (.tup [V.int i, x]) = H2 at *
      refine ⟨_, SqT.of htt', rfl, _, _, rfl, _, _, rfl, rfl, ?_⟩
      have hyl := Paired.length hP
      rw [List.length_take] at hyl
      have hl64 := hS.len.1
      have s2 := s1.trans b2
      have hy2' := b2 _ _ hy
      have hk : ∀ {H3 H4 : Hp} {ws : List V}, Same H2 H3 → H4 = upd H3 tl (.lst ws) → Paired (RwT H4 [tl]) ys (rows.take i) := fun {H3 H4 ws} s3 e => Paired.mapP hP fun _ _ q => q.keep (xs := [tl]) (fun x hx => ⟨ys, by rw [List.mem_singleton.mp hx]; exact hy⟩) (fun c o hc hn _ => by rw [e, upd_ne (fun z => hn (by simp [z]))]; exact s3 _ _ (b2 _ _ hc))
      cases y with
      | none =>
        obtain rfl : x = .non := hy2
        rw [if_pos rfl]
        refine ⟨.inl ⟨rfl, _, SqL.of hy2'⟩, ys, hy2', by omega, same_put s2 htl, _, rfl, ?_⟩
        rw [htk]
        exact prd_app (hk same_refl rfl) rfl
      | some r =>
        obtain ⟨rfl, ⟨dxr, g1⟩, g2, g3⟩ := id hy2
        rw [if_neg (fun z => nomatch z)]
        refine ⟨.inl ⟨rfl, _, SqL.of hy2'⟩, r.sh, rfl, _, dxr, _, s2 _ _ g1, T.cl_Sheet, T.na_Sheet_boxes, _, shF_boxes, r.bx, rfl, _, .inl (SqL.of (s2 _ _ g2)), fun bl hbl => ?_⟩
        have b3 := same_upd (o := .lst (r.b.map V.int)) (same_refl (H := H2)) hbl
        have hbl3 : upd H2 bl (.lst (r.b.map V.int)) bl = some (.lst (r.b.map V.int)) := upd_same
        generalize upd H2 bl (.lst (r.b.map V.int)) = H3 at *
        have s3 := s2.trans b3
        refine ⟨r.sh, rfl, dxr, _, s3 _ _ g1, shF_no (by decide +kernel), r, ShAt.same s3 hy2, fun hl kt H4 hhl s4 a1 a2 => ?_⟩
        have s5 := s3.trans s4
        have hbl4 := s4 _ _ hbl3
        have hil : i < rows.length := (List.getElem?_eq_some_iff.mp hy1).1
        refine ⟨_, dx, _, s5 _ _ h1, T.cl_Sheets, T.na_Sheets_frames, _, ssF_frames, z.fp, rfl, _, dx1, _, s5 _ _ f1, T.cl_Spots, T.na_Spots_twins, _, spF_twins, z.tw, rfl, _, _, rfl, SqL.of (s5 _ _ f4), .non, atI_nat (by rw [List.getElem?_replicate, if_pos hil]), fun np hnp => ?_⟩
        have b5 := same_upd (o := .tup [V.ref bl, V.ref hl, V.non]) (same_refl (H := H4)) hnp
        have s24 : Same H2 H4 := b3.trans s4
        have htl5 := b5 _ _ (s24 _ _ hy2')
        refine ⟨ys, htl5, by omega, same_put (s5.trans b5) htl, _, rfl, ?_⟩
        rw [htk]
        have nb : bl ≠ tl := (ne_of_none hy2' hbl).symm
        have nh : hl ≠ tl := (ne_of_none (b3 _ _ hy2') hhl).symm
        have nn : np ≠ tl := (ne_of_none (s24 _ _ hy2') hnp).symm
        exact prd_app (hk (s24.trans b5) rfl) ⟨np, bl, hl, kt, rfl, by rw [upd_ne nn, upd_same], by rw [upd_ne nb]; exact b5 _ _ hbl4, by rw [upd_ne nh]; exact b5 _ _ a1, by rw [upd_ne (ne_of a2 (s24 _ _ hy2') (fun z => nomatch z))]; exact b5 _ _ a2, by simpa using nb, by simpa using nh⟩
    rintro ⟨ys, v2, v3, rfl, s1, hy, hP⟩
    walk_at "wp"
    rw [hul, List.take_length] at hP
    refine q _ tl s1 ?_
    unfold Lks
    exact ⟨tl, ys, rfl, hy, by rw [List.length_map]; have := hS.len.1; omega, rws_lks hP ok⟩
def sp_ts (C P S : Addr) : Sp := fun vs H Q _ => ∃ (z : Ss) (rows : List (Option Sh)) (j : Nat), vs = [.ref z.p, .int j] ∧ SsAt C P S H z rows ∧ j < z.m ∧ Q .non H
theorem h_ts (T : Txt K mg A) : HaveM P w K mg base A.C_Sheets "told_slot" 3 ["self", "slot"] [] (sp_ts A.C_Sheets A.C_Spots A.C_Sheet) := by
  have H_Sheet_told_holders := h_told (P := P) (w := w) (base := base) T
  have H_Sheets_sheet_at := h_sat (P := P) (w := w) (base := base) T
  refine T.r_Sheets_told_slot.have sc_Sheets_told_slot (fun vs H Q E z => ?_) ?_
  · obtain ⟨z, rows, j, rfl, _⟩ := z; rfl
  · intro f cdv A' outer s H vs Q E hr z
    obtain ⟨z, rows, j, rfl, hS, hj, q⟩ := z
    obtain ⟨dx, h1⟩ := hS.me
    obtain ⟨dx1, us, f1, f2, f3, f4⟩ := id hS.sl
    obtain ⟨v, hv1, hv2⟩ := prd_get2 f3 (i := j) (y := none) (by rw [List.getElem?_replicate, if_pos hj])
    obtain rfl : v = .non := hv2
    rw [List.length_replicate] at f4
    refine ⟨_, (pss_cons (ps_set (i := 2) sc_Sheets_told_slot.nd rfl (Or.inl rfl) (pe_ix ix_list (pe_fld (pe_fld (pvM 0) rfl) rfl) (pvM 1) (fun _ _ => rfl)))
      (pss_cut (ps_set (i := 3) sc_Sheets_told_slot.nd rfl (Or.inl rfl) (pe_ix ix_list (pe_fld (pe_fld (pvM 0) rfl) rfl) (pvM 1) (fun _ _ => rfl)))
      (pss_cons (ps_if (pt_cmpR op_notN (pvM 2) pe_non (nomark _)) (pss_one (ps_ret (pe_tup (pa_cons (pe_callTy call_list_of rfl T.b_list PyProof.Rows.boot_list (pa_cons (pe_fld (pvM 2) rfl) pa_nil)) (pa_cons (pe_methE0 (pvM 2) T.cl_Sheet H_Sheet_told_holders (hr.mono (by decide)) xw_def) (pa_cons pe_non pa_nil)))))) pss_nil)
      (pss_cons (ps_if (pt_cmpR op_notN (pvM 3) pe_non (nomark _)) (pss_one (ps_ret (pe_tup (pa_cons (pe_methE (pvM 0) T.cl_Sheets H_Sheets_sheet_at (hr.mono (by decide)) xw_def (pa_cons (pe_tup (pa_cons pe_str (pa_cons (pvM 3) pa_nil))) pa_nil)) (pa_cons (pe_lst pa_nil) (pa_cons (pvM 3) pa_nil)))))) pss_nil)
      (pss_one (ps_ret pe_non)))))), ?_⟩
    walk_at "wp"
    simp only [h1]
    walk_at "wp"
    refine ⟨T.cl_Sheets, T.na_Sheets_slots, _, ssF_slots, z.sq, rfl, _, dx1, _, f1, T.cl_Spots, T.na_Spots_lying, _, spF_lying, z.ls, rfl, us, SqL.of f2, .non, atI_nat hv1, ?_⟩
    refine ⟨fun σ H' => σ = [some (.ref z.p), some (.int (j : Int)), some .non, some .non] ∧ H' = H, ?_, fun σ' H' => ?_⟩
    · walk_at "wp"
      simp only [h1]
      walk_at "wp"
      exact ⟨T.cl_Sheets, T.na_Sheets_slots, _, ssF_slots, z.sq, rfl, _, dx1, _, f1, T.cl_Spots, T.na_Spots_twins, _, spF_twins, z.ts, rfl, _, SqL.of f4, .non, atI_nat (by rw [List.getElem?_replicate, if_pos hj]), rfl⟩
    rintro ⟨rfl, rfl⟩
    walk_at "wp"
    exact iteF (iteF q)
def sp_tss (C P S : Addr) : Sp := fun vs H Q _ => ∃ (z : Ss) (rows : List (Option Sh)), vs = [.ref z.p] ∧ SsAt C P S H z rows ∧ ∀ H' l, Same H H' → H' l = some (.lst (List.replicate z.m V.non)) → Q (.ref l) H'
theorem h_tss (T : Txt K mg A) : HaveM P w K mg base A.C_Sheets "told_slots" 4 ["self"] [] (sp_tss A.C_Sheets A.C_Spots A.C_Sheet) := by
  have H_Sheets_told_slot := h_ts (P := P) (w := w) (base := base) T
  refine T.r_Sheets_told_slots.have sc_Sheets_told_slots (fun vs H Q E z => ?_) ?_
  · obtain ⟨z, rows, rfl, _⟩ := z; rfl
  · intro f cdv A' outer s H vs Q E hr z
    obtain ⟨z, rows, rfl, hS, q⟩ := z
    obtain ⟨dx, h1⟩ := hS.me
    obtain ⟨dx1, us, f1, f2, f3, f4⟩ := id hS.sl
    refine ⟨_, (pss_one (ps_ret (pe_comp rfl (pi_range1 rfl T.b_range (pa_cons (pe_callB call_len rfl T.b_len PySem.boot_len (pa_cons (pe_fld (pe_fld (pvM 0) rfl) rfl) pa_nil)) pa_nil)) (x := "slot") (fs := ["self"]) (ix := [0]) rfl rfl (fun _ _ _ _ _ _ => (pg_name (i := 0) (show (["slot", "self"] : List Str).Nodup by decide +kernel) rfl (Or.inl rfl))) (fun _ _ _ _ _ _ => pf_nil) (fun _ _ _ _ _ _ => (pe_methE (pvM 1) T.cl_Sheets H_Sheets_told_slot (hr.mono (by decide)) xw_no (pa_cons (pvM 0) pa_nil)))))), ?_⟩
    unfold sp_ts
    walk_at "wp"
    simp only [h1]
    walk_at "wp"
    have hul := Paired.length f3
    rw [List.length_replicate] at hul
    have hm := hS.len.2
    have hz := PySem.sizeLine_eq
    refine ⟨T.cl_Sheets, T.na_Sheets_slots, _, ssF_slots, z.sq, rfl, _, dx1, _, f1, T.cl_Spots, T.na_Spots_lying, _, spF_lying, _, .inl ⟨_, SqL.of f2, rfl⟩, by omega, by omega, fun D hD => ?_⟩
    refine comp_range (fun i ys σ H' => ∃ v, σ = [v, some (.ref z.p)] ∧ Same H H' ∧ H' D = some (.lst ys) ∧ ys = List.replicate i V.non) ⟨_, rfl, same_upd same_refl hD, upd_same, rfl⟩ (fun i ys σ H' hi => ?_) (fun ys σ H5 => ?_)
    · rintro ⟨v, rfl, s1, hD1, rfl⟩
      walk_at "wp"
      exact ⟨dx, _, s1 _ _ h1, ssF_no (by decide +kernel), z, rfl, rows, i, by omega, hS.same s1, by omega, hD1, by rw [List.length_replicate]; omega, same_put s1 hD, by rw [← List.replicate_succ']; rfl⟩
    · rintro ⟨v, rfl, s1, hD1, rfl⟩
      refine q _ D s1 ?_
      rw [hD1, hul, Int.toNat_natCast]

def sp_size : Sp := fun vs H Q _ => ∃ (c : Int), vs = [.int c, .int 1, .int 6] ∧ ∀ z : Nat, 1 ≤ z → z ≤ 64 → Q (.int z) H
theorem h_size (T : Txt K mg A) : Have P w K mg base "_law_size" 1 ["_law_cell_here", "_law_low", "_law_many"] [] sp_size := by
  refine T.r_l_size.have sc_l_size (fun vs H Q E z => ?_) ?_
  · obtain ⟨c, rfl, _⟩ := z; rfl
  · intro f cdv A' outer s H vs Q E hr z
    obtain ⟨c, rfl, q⟩ := z
    refine ⟨_, (pss_cons (ps_if (pt_cmpR op_eq (pe_op op_mod (pe_op op_fdiv (pvM 0) (pvM 2)) pe_int) pe_int (nomark _)) (pss_one (ps_ret (pe_op op_add pe_int (pe_op op_mod (pe_op op_fdiv (pe_op op_fdiv (pvM 0) pe_int) (pvM 2)) pe_int)))) pss_nil)
      (pss_one (ps_ret (pe_op op_add (pvM 1) (pe_op op_mod (pvM 0) (pvM 2)))))), ?_⟩
    walk_at "wp"
    have fin : ∀ z : Int, 1 ≤ z → z ≤ 64 → Q (.int z) H := fun z h0 h1 => by
      have := q z.toNat (by omega) (by omega)
      rwa [show ((z.toNat : Nat) : Int) = z by omega] at this
    exact ite2 (fun _ => fin _ (by omega) (by omega)) (fun _ => fin _ (by omega) (by omega))
def sp_sheet : Sp := fun vs H Q _ => ∃ (c m : Int) (n : Nat), vs = [.int c, .int m, .int n] ∧ n ≤ 64 ∧ ∀ H' l (bs : List Int), bs.length = n → H l = none → Same H H' → H' l = some (.lst (bs.map V.int)) → Q (.ref l) H'
theorem h_sheet (T : Txt K mg A) : Have P w K mg base "_law_sheet" 1 ["_law_cell_here", "_law_number", "_law_size_here"] [] sp_sheet := by
  refine T.r_l_sheet.have sc_l_sheet (fun vs H Q E z => ?_) ?_
  · obtain ⟨c, m, n, rfl, _⟩ := z; rfl
  · intro f cdv A' outer s H vs Q E hr z
    obtain ⟨c, m, n, rfl, hn, q⟩ := z
    refine ⟨_, (pss_one (ps_ret (pe_comp rfl (pi_range1 rfl T.b_range (pa_cons (pvM 2) pa_nil)) (x := "_law_k") (fs := ["_law_cell_here", "_law_number"]) (ix := [0, 1]) rfl rfl (fun _ _ _ _ _ _ => (pg_name (i := 0) (show (["_law_k", "_law_cell_here", "_law_number"] : List Str).Nodup by decide +kernel) rfl (Or.inl rfl))) (fun _ _ _ _ _ _ => pf_nil) (fun _ _ _ _ _ _ => (pe_op op_mul (pe_op op_mod (pe_op op_add (pvM 1) (pe_op op_mul (pvM 2) (pvM 0))) (pe_op op_pow pe_int pe_int)) (pe_op op_sub pe_int (pe_op op_mul pe_int (pe_op op_mod (pe_op op_add (pvM 2) (pvM 0)) pe_int)))))))), ?_⟩
    walk_at "wp"
    have hz := PySem.sizeLine_eq
    refine ⟨by omega, by omega, fun D hD => ?_⟩
    refine comp_range (fun i ys σ H' => ∃ (v : Option V) (bs : List Int), σ = [v, some (.int c), some (.int m)] ∧ Same H H' ∧ H' D = some (.lst ys) ∧ ys = bs.map V.int ∧ bs.length = i) ⟨_, [], rfl, same_upd same_refl hD, upd_same, rfl, rfl⟩ (fun i ys σ H' hi => ?_) (fun ys σ H5 => ?_)
    · rintro ⟨v, bs, rfl, s1, hD1, rfl, hb⟩
      walk_at "wp"
      exact ⟨.inr ⟨by omega, by omega⟩, .inr ⟨by omega, by omega⟩, hD1, by rw [List.length_map]; omega, same_put s1 hD, bs ++ [_], by rw [List.map_append]; rfl, by rw [List.length_append, hb]; rfl⟩
    · rintro ⟨v, bs, rfl, s1, hD1, rfl, hb⟩
      exact q _ D bs (by omega) hD s1 hD1
def Kx (xs : List Addr) (H H' : Hp) : Prop := ∀ c o, H c = some o → c ∉ xs → (∀ kvs, o ≠ .dT kvs) → H' c = some o
structure Pv (C P S : Addr) (H : Hp) (z : Ss) (pl : Addr) (rows : List (Option Sh)) : Prop where
  ss : SsAt C P S H z rows
  ok : okS rows
  ne : pl ∉ [z.ly, z.tw, z.ls, z.ts]
  nb : ∀ r, some r ∈ rows → r.bx ≠ pl
  pl : ∃ us, H pl = some (.lst us) ∧ Paired (RwT H [pl, z.ly]) us rows
theorem Pv.us {C P S : Addr} {H : Hp} {z : Ss} {pl : Addr} {rows : List (Option Sh)} (h : Pv C P S H z pl rows) : ∀ x ∈ [pl, z.ly], ∃ us, H x = some (.lst us) := fun x hx => by
  simp only [List.mem_cons, List.not_mem_nil, or_false] at hx
  rcases hx with rfl | rfl
  · obtain ⟨us, hu, _⟩ := h.pl
    exact ⟨us, hu⟩
  · obtain ⟨_, us, _, g, _⟩ := h.ss.fr
    exact ⟨us, g⟩
theorem Pv.same {C P S : Addr} {H H' : Hp} {z : Ss} {pl : Addr} {rows : List (Option Sh)} (h : Pv C P S H z pl rows) (s : Same H H') : Pv C P S H' z pl rows := by
  obtain ⟨us, hu, hU⟩ := h.pl
  exact ⟨h.ss.same s, h.ok, h.ne, h.nb, us, s _ _ hu, Paired.mapP hU fun _ _ q => q.keep h.us (fun c o hc _ _ => s _ _ hc)⟩
theorem ite_ao {A B C X Y : Prop} [Decidable A] [Decidable B] [Decidable C] (h1 : A → (B ∨ C) → X) (h2 : ¬ (A ∧ (B ∨ C)) → Y) : if A then (if B then X else if C then X else Y) else Y := by
  by_cases a : A
  · rw [if_pos a]
    by_cases b : B
    · rw [if_pos b]; exact h1 a (.inl b)
    · rw [if_neg b]
      by_cases c : C
      · rw [if_pos c]; exact h1 a (.inr c)
      · rw [if_neg c]; exact h2 fun h => h.2.elim b c
  · rw [if_neg a]; exact h2 fun h => a h.1
theorem cnt_ex {rows : List (Option Sh)} (h : cnt rows < rows.length) : ∃ j, rows.findIdx? Option.isNone = some j := by
  cases e : rows.findIdx? Option.isNone with
  | some j => exact ⟨j, rfl⟩
  | none =>
    exfalso
    have : rows.filter Option.isSome = rows := List.filter_eq_self.mpr fun x hx => by
      have := List.findIdx?_eq_none_iff.mp e x hx
      cases x with
      | none => cases this
      | some r => rfl
    unfold cnt at h
    rw [this] at h
    omega
theorem lks_non {H : Hp} : ∀ {m : Nat}, LksL H (List.replicate m (.leaf .non)) (List.replicate m V.non)
  | 0 => by unfold LksL; rfl
  | m + 1 => by
    rw [List.replicate_succ, List.replicate_succ]
    unfold LksL
    exact ⟨_, _, rfl, by unfold Lks; exact ⟨rfl, rfl⟩, lks_non⟩
theorem deep_leaf {α : Type} {g : α → V} : ∀ {l : List α}, deepL (l.map fun x => .leaf (g x)) = 0
  | [] => by simp [deepL]
  | x :: l => by rw [List.map_cons, deepL, deep_leaf, deep]; rfl
theorem deep_non {m : Nat} : deep (.seq false (List.replicate m (.leaf .non))) ≤ 4 := by
  rw [deep]
  have : deepL (List.replicate m (.leaf V.non)) = 0 := by
    induction m with
    | zero => simp [deepL]
    | succ m ih => rw [List.replicate_succ, deepL, ih, deep]; rfl
  omega
theorem deep_rows {rows : List (Option Sh)} : deep (.seq false (rows.map dvS)) ≤ 4 := by
  rw [deep]
  have : deepL (rows.map dvS) ≤ 3 := by
    induction rows with
    | nil => simp [deepL]
    | cons x l ih =>
      rw [List.map_cons, deepL]
      have hx : deep (dvS x) ≤ 3 := by
        cases x with
        | none => unfold dvS; simp [deep]
        | some r =>
          unfold dvS dvK
          simp only [deep, deepL, deep_leaf]
          decide
      omega
  omega
theorem cnt_cons {x : Option Sh} {l : List (Option Sh)} : cnt (x :: l) = (if x.isSome = true then 1 else 0) + cnt l := by
  unfold cnt
  cases x with
  | none => rw [List.filter_cons_of_neg (by decide)]; exact (Nat.zero_add _).symm
  | some r => rw [List.filter_cons_of_pos rfl, List.length_cons, Nat.add_comm]; rfl
theorem cnt_clr : ∀ {rows : List (Option Sh)} {j : Nat} {r : Sh}, rows[j]? = some (some r) → cnt (rows.set j none) + 1 = cnt rows
  | [], _, _, h => by simp at h
  | x :: l, 0, r, h => by
    simp at h
    subst h
    rw [List.set_cons_zero, cnt_cons, cnt_cons]
    simp
    omega
  | x :: l, j + 1, r, h => by
    have := cnt_clr (rows := l) (j := j) (r := r) (by simpa using h)
    rw [List.set_cons_succ, cnt_cons, cnt_cons]
    omega
theorem cnt_put : ∀ {rows : List (Option Sh)} {j : Nat} {r : Sh}, rows[j]? = some none → cnt (rows.set j (some r)) = cnt rows + 1
  | [], _, _, h => by simp at h
  | x :: l, 0, r, h => by
    simp at h
    subst h
    rw [List.set_cons_zero, cnt_cons, cnt_cons]
    simp
    omega
  | x :: l, j + 1, r, h => by
    have := cnt_put (rows := l) (j := j) (r := r) (by simpa using h)
    rw [List.set_cons_succ, cnt_cons, cnt_cons]
    omega
theorem idx_none {H : Hp} {xs : List Addr} {vs : List V} {rows : List (Option Sh)} (h : Paired (RwT H xs) vs rows) : vs.findIdx? isN = rows.findIdx? Option.isNone := by
  induction h with
  | nil => rfl
  | @cons x y _ _ r t ih =>
    rw [List.findIdx?_cons, List.findIdx?_cons, ih]
    have : isN x = y.isNone := by
      cases y with
      | none => have r : x = .non := r; rw [r]; rfl
      | some y => obtain ⟨t, _, _, _, e, _⟩ := r; rw [e]; rfl
    rw [this]
def sp_lfresh (C P S : Addr) : Sp := fun vs H Q _ => ∃ (z : Ss) (rows : List (Option Sh)) (pl sl h : Addr) (bs : List Int) (k : List Key) (v : V) (j : Nat), vs = [.ref z.p, .ref pl, .ref sl, .ref h, v] ∧ Pv C P S H z pl rows ∧ H sl = some (.lst (bs.map V.int)) ∧ 1 ≤ bs.length ∧ bs.length ≤ 64 ∧ H h = some (.tup (k.map kV)) ∧ k.length ≤ 64 ∧ sl ≠ z.ly ∧ sl ≠ pl ∧ rows.findIdx? Option.isNone = some j ∧
  ∀ H' r, Pv C P S H' z pl (rows.set j (some r)) → Kx [pl, z.ly] H H' → Q (.bl true) H'
theorem h_lfresh (T : Txt K mg A) : Have P w K mg base "_law_fresh" 7 ["_law_sheets", "_law_plain", "_law_sheet_here", "_law_holder", "_law_marks"] [] (sp_lfresh A.C_Sheets A.C_Spots A.C_Sheet) := by
  have H_Sheets_fresh := h_fresh (P := P) (w := w) (base := base) T
  have H_Sheets_box_of := h_box (P := P) (w := w) (base := base) T
  have H_l_like := h_like (P := P) (w := w) (base := base) T 5
  refine T.r_l_fresh.have sc_l_fresh (fun vs H Q E z => ?_) ?_
  · obtain ⟨z, rows, pl, sl, h, bs, k, v, j, rfl, _⟩ := z; rfl
  · intro f cdv A' outer s H vs Q E hr z
    obtain ⟨z, rows, pl, sl, h, bs, k, v, j, rfl, hP, hsl, b1, b2, hh, hk, n1, n2, hj, q⟩ := z
    obtain ⟨us, hu, hU⟩ := hP.pl
    obtain ⟨dx, h1⟩ := hP.ss.me
    refine ⟨_, (pss_cons (ps_set (i := 5) sc_l_fresh.nd rfl (Or.inl rfl) (pe_bm PySem.F.plainAttrs_list PySem.F.slot_list_index PySem.F.type_list_index (mt_indexN (hu6 hr)) (pvM 1) (pa_cons pe_non pa_nil)))
      (pss_cons (ps_set (i := 6) sc_l_fresh.nd rfl (Or.inl rfl) (pe_callTy call_list_of rfl T.b_list PyProof.Rows.boot_list (pa_cons (pvM 2) pa_nil)))
      (pss_cons (ps_set (i := 7) sc_l_fresh.nd rfl (Or.inl rfl) (pe_methE (pvM 0) T.cl_Sheets H_Sheets_fresh (hr.mono (by decide)) xw_def (pa_cons (pvM 6) (pa_cons (pvM 3) (pa_cons (pvM 4) pa_nil)))))
      (pss_cut (ps_if (PW.pt (pw_or (pt_cmpR (op_neD (n := 4) (hu6 hr)) (pvM 6) (pvM 2) (nomark _)) (pw_or1 (pt_not (pt_val (pe_callE H_l_like (hr.mono (by decide)) xw_def (pa_cons (pvM 7) (pa_cons (pe_tup (pa_cons (pvM 5) (pa_cons (pe_lst pa_nil) (pa_cons pe_non pa_nil)))) pa_nil)))))))) (pss_one (ps_ret pe_bl)) pss_nil)
      (pss_cons (ps_asg (pe_op op_add (pe_ix ix_list (pvM 6) pe_int (fun _ _ => rfl)) pe_int) (pg_sub (pvM 6) pe_int set_list))
      (pss_cons (ps_asg (pe_tup (pa_cons (pvM 2) (pa_cons (pe_lst (pa_cons (pvM 3) pa_nil)) (pa_cons pe_non pa_nil)))) (pg_sub (pvM 1) (pvM 5) set_list))
      (pss_one (ps_ret (pe_callE H_l_like (hr.mono (by decide)) xw_def (pa_cons (pe_methE (pvM 0) T.cl_Sheets H_Sheets_box_of (hr.mono (by decide)) xw_def (pa_cons (pvM 5) (pa_cons (pe_op op_sub (pe_callB call_len rfl T.b_len PySem.boot_len (pa_cons (pvM 2) pa_nil)) pe_int) pa_nil))) (pa_cons (pe_ix ix_list (pvM 2) (pe_un op_neg pe_int) (fun _ _ => rfl)) pa_nil))))))))))), ?_⟩
    unfold sp_fresh rIndexN rNeD
    walk_at "wp"
    have hn : ∀ z ∈ us, NTup K H z := fun y hy => by
      obtain ⟨i, hi⟩ := List.mem_iff_getElem?.mp hy
      obtain ⟨r, _, hr⟩ := prd_get hU hi
      cases r with
      | none => exact .inl hr
      | some r => obtain ⟨t, _, _, _, e, h, _⟩ := hr; exact .inr ⟨t, _, e, SqT.of h⟩
    have ej : us.findIdx? isN = some j := (idx_none hU).trans hj
    refine ⟨.inl ⟨rfl, _, SqL.of hu⟩, us, SqL.of hu, hn, j, ej, _, .inl (SqL.of hsl), fun l hl => ?_⟩
    have c1 := same_upd (o := .lst (bs.map V.int)) (same_refl (H := H)) hl
    have hl1 : upd H l (.lst (bs.map V.int)) l = some (.lst (bs.map V.int)) := upd_same
    have hS1 := hP.ss.same c1
    generalize upd H l (.lst (bs.map V.int)) = H1 at *
    refine ⟨dx, _, c1 _ _ h1, ssF_no (by decide +kernel), z, rfl, rows, hS1, bs, rfl, k, c1 _ _ hh, j, hj, fun H2 r e t hS2 eb ek hbx0 he ht kp2 => ?_⟩
    obtain ⟨us1, hly⟩ : ∃ us1, H z.ly = some (.lst us1) := let ⟨_, us1, _, g, _⟩ := hP.ss.fr; ⟨us1, g⟩
    have nly : l ≠ z.ly := (ne_of_none hly hl).symm
    have hl2 := kp2 _ _ hl1 (by simpa using nly)
    have hsl2 := kp2 _ _ (c1 _ _ hsl) (by simpa using n1)
    refine ⟨fun σ H' => σ = [some (.ref z.p), some (.ref pl), some (.ref sl), some (.ref h), some v, some (.int (j : Int)), some (.ref l), some (.ref t)] ∧ Same H2 H', ?_, fun σ' H4 => ?_⟩
    · walk_at "wp"
      refine ⟨false, dInts bs, sees_list (SqL.of hl2), dInts bs, sees_list (SqL.of hsl2), alike_ints _ _, by rw [deep_ints]; decide, ?_⟩
      rw [eq_ints, decide_eq_true rfl]
      refine iteF fun p hp p1 hp1 => ?_
      have d1 := same_upd (o := .lst []) (same_refl (H := H2)) hp
      have d2 := same_upd (o := .tup [V.int (j : Int), V.ref p, V.non]) (same_refl (H := upd H2 p (.lst []))) hp1
      have s23 := d1.trans d2
      have hp3 : upd (upd H2 p (.lst [])) p1 (.tup [V.int (j : Int), V.ref p, V.non]) p = some (.lst []) := d2 _ _ upd_same
      have hp13 : upd (upd H2 p (.lst [])) p1 (.tup [V.int (j : Int), V.ref p, V.non]) p1 = some (.tup [V.int (j : Int), V.ref p, V.non]) := upd_same
      clear d1 d2
      generalize upd (upd H2 p (.lst [])) p1 (.tup [V.int (j : Int), V.ref p, V.non]) = H3 at *
      have lk : ∀ {c e : Addr}, H3 c = some (.tup [V.int (j : Int), V.ref e, V.non]) → H3 e = some (.lst []) → Lks H3 (.seq true [.leaf (.int (j : Int)), .seq false [], .leaf .non]) (.ref c) := fun {c e} hc he => by
        unfold Lks
        refine ⟨c, _, rfl, hc, by show (3 : Nat) < 16777216; decide, ?_⟩
        unfold LksL
        refine ⟨_, _, rfl, by unfold Lks; exact ⟨rfl, rfl⟩, ?_⟩
        unfold LksL
        refine ⟨_, _, rfl, ?_, ?_⟩
        · unfold Lks
          exact ⟨e, [], rfl, he, by decide, by unfold LksL; rfl⟩
        unfold LksL
        exact ⟨_, _, rfl, by unfold Lks; exact ⟨rfl, rfl⟩, by unfold LksL; rfl⟩
      exact ⟨.ref t, .ref p1, _, rfl, lk (s23 _ _ ht) (s23 _ _ he), lk hp13 hp3, by simp [deep, deepL], fun H4 s4 => ⟨true, rfl, iteF (s23.trans s4)⟩⟩
    rintro ⟨rfl, s24⟩
    walk_at "wp"
    have hl4 := s24 _ _ hl2
    obtain ⟨b0, bs', rfl⟩ : ∃ b0 bs', bs = b0 :: bs' := by
      cases bs with
      | nil => simp at b1
      | cons x l => exact ⟨x, l, rfl⟩
    refine ⟨_, SqL.of hl4, V.int b0, atI_nat (j := 0) rfl, b0, rfl, _, hl4, 0, ixn (j := 0) (by simp), ?_⟩
    have hS4 := hS2.same s24
    have nl4 : l ∉ [z.ly, z.tw, z.ls, z.ts] := by
      obtain ⟨_, _, _, g1, _, g2⟩ := hP.ss.fr
      obtain ⟨_, _, _, g3, _, g4⟩ := hP.ss.sl
      simp only [List.mem_cons, List.not_mem_nil, or_false, not_or]
      exact ⟨(ne_of_none g1 hl).symm, (ne_of_none g2 hl).symm, (ne_of_none g3 hl).symm, (ne_of_none g4 hl).symm⟩
    have nbl : ∀ r', some r' ∈ rows.set j (some r) → r'.bx ≠ l := fun r' hr' => by
      rcases List.mem_or_eq_of_mem_set hr' with h | h
      · obtain ⟨_, vs9, _, _, g, _⟩ := hP.ss.fr
        obtain ⟨i, hi⟩ := List.mem_iff_getElem?.mp h
        obtain ⟨_, _, _, _, g9, _⟩ := prd_get2 g hi
        exact ne_of_none g9 hl
      · cases h; exact (ne_of_none hl1 hbx0).symm
    have nbp : ∀ r', some r' ∈ rows.set j (some r) → r'.bx ≠ pl := fun r' hr' => by
      rcases List.mem_or_eq_of_mem_set hr' with h | h
      · exact hP.nb r' h
      · cases h; exact (ne_of_none (c1 _ _ hu) hbx0).symm
    have hS5 := hS4.pl (ws := (List.map V.int (b0 :: bs')).set 0 (V.int (b0 + 1))) hl4 nl4 nbl
    have k5 : ∀ c o, H c = some o → c ≠ z.ly → upd H4 l (.lst ((List.map V.int (b0 :: bs')).set 0 (V.int (b0 + 1)))) c = some o := fun c o hc hn => by rw [upd_ne (ne_of_none hc hl)]; exact s24 _ _ (kp2 _ _ (c1 _ _ hc) (by simpa using hn))
    generalize upd H4 l (.lst ((List.map V.int (b0 :: bs')).set 0 (V.int (b0 + 1)))) = H5 at *
    intro q1 hq1 q2 hq2
    have e1 := same_upd (o := .lst [V.ref h]) (same_refl (H := H5)) hq1
    have e2 := same_upd (o := .tup [V.ref sl, V.ref q1, V.non]) (same_refl (H := upd H5 q1 (.lst [V.ref h]))) hq2
    have hq17 : upd (upd H5 q1 (.lst [V.ref h])) q2 (.tup [V.ref sl, V.ref q1, V.non]) q1 = some (.lst [V.ref h]) := e2 _ _ upd_same
    have hq27 : upd (upd H5 q1 (.lst [V.ref h])) q2 (.tup [V.ref sl, V.ref q1, V.non]) q2 = some (.tup [V.ref sl, V.ref q1, V.non]) := upd_same
    have s57 := e1.trans e2
    clear e1 e2
    generalize upd (upd H5 q1 (.lst [V.ref h])) q2 (.tup [V.ref sl, V.ref q1, V.non]) = H7 at *
    have hS7 := hS5.same s57
    have npl : pl ≠ z.ly := fun e => hP.ne (by rw [e]; exact List.mem_cons_self ..)
    have hu5 := k5 _ _ hu npl
    have hu7 := s57 _ _ hu5
    have hS8 := hS7.pl (ws := us.set j (.ref q2)) hu7 hP.ne nbp
    have hjl : j < us.length := (List.findIdx?_eq_some_iff_getElem.mp ej).1
    have hjr : j < rows.length := (List.findIdx?_eq_some_iff_getElem.mp hj).1
    refine ⟨us, hu7, j, ixn hjl, ?_⟩
    have hu8 : upd H7 pl (.lst (us.set j (.ref q2))) pl = some (.lst (us.set j (.ref q2))) := upd_same
    have k8 : ∀ c o, H7 c = some o → c ≠ pl → upd H7 pl (.lst (us.set j (.ref q2))) c = some o := fun c o hc hn => by rw [upd_ne hn]; exact hc
    generalize upd H7 pl (.lst (us.set j (.ref q2))) = H8 at *
    obtain ⟨dx8, h8⟩ := hS8.me
    have hsl8 := k8 _ _ (s57 _ _ (k5 _ _ hsl n1)) n2
    obtain ⟨x, hx⟩ : ∃ x, (b0 :: bs')[bs'.length]? = some x := ⟨_, List.getElem?_eq_getElem (by simp)⟩
    refine ⟨dx8, _, h8, ssF_no (by decide +kernel), _, .inl ⟨_, SqL.of hsl8, rfl⟩, ?_⟩
    refine ⟨z, rows.set j (some r), j, bs'.length, r, x, by simp, hS8, List.getElem?_set_self hjr, by rw [eb]; exact hx, _, SqL.of hsl8, .int x, ?_, ?_⟩
    · have e : ixN ((b0 :: bs').map V.int).length (-1) = some bs'.length := by
        unfold ixN
        rw [if_neg (by decide), if_pos (by rw [List.length_map, List.length_cons]; omega), List.length_map, List.length_cons]
        congr 1
        omega
      unfold atI
      rw [e]
      show ((b0 :: bs').map V.int)[bs'.length]? = _
      rw [List.getElem?_map, hx]; rfl
    refine ⟨.int x, .int x, .leaf (.int x), rfl, by unfold Lks; exact ⟨rfl, rfl⟩, by unfold Lks; exact ⟨rfl, rfl⟩, by simp [deep], fun H9 s9 => ?_⟩
    have kx9 : Kx [pl, z.ly] H H9 := fun c o hc hn _ => by
      simp only [List.mem_cons, List.not_mem_nil, or_false, not_or] at hn
      exact s9 _ _ (k8 _ _ (s57 _ _ (k5 c o hc hn.2)) hn.1)
    obtain ⟨_, uly, _, hly5, _⟩ := hS5.fr
    have nq1 : q1 ∉ [pl, z.ly] := by
      simp only [List.mem_cons, List.not_mem_nil, or_false, not_or]
      exact ⟨(ne_of_none hu5 hq1).symm, (ne_of_none hly5 hq1).symm⟩
    have nsl : sl ∉ [pl, z.ly] := by
      simp only [List.mem_cons, List.not_mem_nil, or_false, not_or]
      exact ⟨n2, n1⟩
    have hh9 : H9 h = some (.tup (k.map kV)) := kx9 _ _ hh (by
      simp only [List.mem_cons, List.not_mem_nil, or_false, not_or]
      exact ⟨ne_of hh hu (fun z => nomatch z), ne_of hh hly (fun z => nomatch z)⟩) (fun _ z => nomatch z)
    refine q H9 r ⟨hS8.same s9, fun r' hr' => ?_, hP.ne, nbp, us.set j (.ref q2), s9 _ _ hu8, prd_set (show RwT H9 [pl, z.ly] (.ref q2) (some r) from ⟨q2, sl, q1, h, rfl, s9 _ _ (k8 _ _ hq27 (ne_of hq27 hu7 (fun z => nomatch z))), by rw [eb]; exact s9 _ _ hsl8, s9 _ _ (k8 _ _ hq17 (ne_of_none hu5 hq1).symm), by rw [ek]; exact hh9, nsl, nq1⟩) j (Paired.mapP hU fun _ _ q => q.keep hP.us kx9)⟩ kx9
    rcases List.mem_or_eq_of_mem_set hr' with h | h
    · exact hP.ok r' h
    · cases h; rw [eb, ek]; exact ⟨b2, hk⟩
def sp_llg (C P S : Addr) : Sp := fun vs H Q _ => ∃ (z : Ss) (rows : List (Option Sh)) (pl : Addr) (a : Int), vs = [.ref z.p, .ref pl, .int a] ∧ Pv C P S H z pl rows ∧ 0 < cnt rows ∧ 0 ≤ a ∧ a < 64 ∧
  ∀ H' rows', Pv C P S H' z pl rows' → rows'.length = rows.length → cnt rows' + 1 = cnt rows → Kx [pl, z.ly] H H' → Q (.bl true) H'
theorem h_llg (T : Txt K mg A) : Have P w K mg base "_law_let_go" 4 ["_law_sheets", "_law_plain", "_law_at"] [] (sp_llg A.C_Sheets A.C_Spots A.C_Sheet) := by
  have H_Sheets_let_go := h_lg (P := P) (w := w) (base := base) T
  have H_Sheets_sheet_at := h_sat (P := P) (w := w) (base := base) T
  have H_Sheets_holders_of := h_ho (P := P) (w := w) (base := base) T
  refine T.r_l_let_go.have sc_l_let_go (fun vs H Q E z => ?_) ?_
  · obtain ⟨z, rows, pl, a, rfl, _⟩ := z; rfl
  · intro f cdv A' outer s H vs Q E hr z
    obtain ⟨z, rows, pl, a, rfl, hP, hl0, a0, a1, q⟩ := z
    obtain ⟨us, hu, hU⟩ := hP.pl
    obtain ⟨dx, h1⟩ := hP.ss.me
    have hul := Paired.length hU
    have hl64 := hP.ss.len.1
    have hc0 := hl0
    have hl0 : 0 < rows.length := Nat.lt_of_lt_of_le hc0 (by unfold cnt; exact List.length_filter_le _ _)
    refine ⟨_, (pss_cons (ps_forE PassesOwn.leaving rfl (pi_range2 rfl T.b_range (pa_cons (pvM 2) (pa_cons (pe_op op_add (pvM 2) (pe_callB call_len rfl T.b_len PySem.boot_len (pa_cons (pvM 1) pa_nil))) pa_nil))) (pg_name (i := 3) sc_l_let_go.nd rfl (Or.inl rfl)) (pss_cons (ps_set (i := 4) sc_l_let_go.nd rfl (Or.inl rfl) (pe_op op_mod (pvM 3) (pe_callB call_len rfl T.b_len PySem.boot_len (pa_cons (pvM 1) pa_nil))))
      (pss_one (ps_if (pt_cmpR op_notN (pe_ix ix_list (pvM 1) (pvM 4) (fun _ _ => rfl)) pe_non (nomark _)) (pss_cons (ps_expr (pe_methE (pvM 0) T.cl_Sheets H_Sheets_let_go (hr.mono (by decide)) xw_def (pa_cons (pe_tup (pa_cons pe_str (pa_cons (pvM 4) pa_nil))) (pa_cons (pe_ix ix_list (pe_ix ix_tup (pe_ix ix_list (pvM 1) (pvM 4) (fun _ _ => rfl)) pe_int (fun _ _ => rfl)) pe_int (fun _ _ => rfl)) pa_nil))))
      (pss_cut (ps_asg pe_non (pg_sub (pvM 1) (pvM 4) set_list))
      (pss_one (ps_ret (pe_and (pe_cmpR op_isN (pe_methE (pvM 0) T.cl_Sheets H_Sheets_sheet_at (hr.mono (by decide)) xw_def (pa_cons (pe_tup (pa_cons pe_str (pa_cons (pvM 4) pa_nil))) pa_nil)) pe_non (nomark _)) (pe_one (pe_cmpR (op_eqD (n := 4) (hu6 hr)) (pe_methE (pvM 0) T.cl_Sheets H_Sheets_holders_of (hr.mono (by decide)) xw_def (pa_cons (pe_tup (pa_cons pe_str (pa_cons (pvM 4) pa_nil))) pa_nil)) (pe_lst pa_nil) (nomark _)))))))) pss_nil))))
      (pss_one (ps_ret pe_bl))), ?_⟩
    walk_at "wp"
    refine ⟨us.length, .inl ⟨_, SqL.of hu, rfl⟩, by omega, by omega, by omega, by omega, ?_⟩
    refine loop_range (fun i σ H' => ∃ v3 v4, σ = [some (.ref z.p), some (.ref pl), some (.int a), v3, v4] ∧ Same H H' ∧ ∀ i' : Nat, i' < i → rows[((a + i') % (rows.length : Int)).toNat]? = some none) ⟨_, _, rfl, same_refl, fun i' h => absurd h (Nat.not_lt_zero _)⟩ (fun i σ H' hi => ?_) (fun σ H' => ?_)
    · rintro ⟨v3, v4, rfl, s1, hno⟩
      unfold sp_lg sp_sat sp_ho rEqD
      walk_at "wp"
      have hm0 := Int.emod_nonneg (a + i) (show ((us.length : Nat) : Int) ≠ 0 by omega)
      have hm1 := Int.emod_lt_of_pos (a + i) (show (0 : Int) < (us.length : Nat) by omega)
      obtain ⟨J, hJ⟩ : ∃ J : Nat, (a + (i : Int)) % ((us.length : Nat) : Int) = (J : Int) := ⟨_, (Int.toNat_of_nonneg hm0).symm⟩
      have hJl : J < us.length := by omega
      have hu1 := s1 _ _ hu
      have hvJ : us[J]? = some us[J] := List.getElem?_eq_getElem hJl
      obtain ⟨y, hy1, hy2⟩ := prd_get hU hvJ
      refine ⟨us.length, .inl ⟨_, SqL.of hu1, rfl⟩, by omega, us, SqL.of hu1, us[J], by rw [hJ]; exact atI_nat hvJ, ?_⟩
      rw [hJ]
      cases y with
      | none =>
        have e : us[J] = .non := hy2
        rw [e, decide_eq_true rfl]
        refine iteF ⟨s1, fun i' hi' => ?_⟩
        rcases (by omega : i' < i ∨ i' = i) with h | rfl
        · exact hno i' h
        · rw [← hul, hJ, Int.toNat_natCast]; exact hy1
      | some r =>
        obtain ⟨t, bl, hl, kt, e, g1, g2, g3, g4, n1, n2⟩ := hy2
        rw [e, decide_eq_false (fun z => nomatch z)]
        refine iteT ⟨dx, _, s1 _ _ h1, ssF_no (by decide +kernel), fun p hp => ?_⟩
        have b2 := same_upd (o := .tup [V.str "frame", V.int (J : Int)]) (same_refl (H := H')) hp
        have hp2 : upd H' p (.tup [V.str "frame", V.int (J : Int)]) p = some (.tup [V.str "frame", V.int (J : Int)]) := upd_same
        generalize upd H' p (.tup [V.str "frame", V.int (J : Int)]) = H2 at *
        have s2 := s1.trans b2
        refine ⟨us, SqL.of (s2 _ _ hu), us[J], atI_nat hvJ, t, e, _, SqT.of (s2 _ _ g1), _, rfl, hl, rfl, _, SqL.of (s2 _ _ g3), _, rfl, z, rfl, ?_⟩
        have hS2 := hP.ss.same s2
        have npl : pl ≠ z.ly := fun e => hP.ne (by rw [e]; exact List.mem_cons_self ..)
        refine ⟨rows, kt, rfl, hS2, J, rfl, r, hy1, s2 _ _ g4, fun H3 hS3 kq => ?_⟩
        have hu3 := kq _ _ (s2 _ _ hu) npl (fun _ z => nomatch z)
        have hnb' : ∀ r', some r' ∈ rows.set J none → r'.bx ≠ pl := fun r' hr' => (List.mem_or_eq_of_mem_set hr').elim (hP.nb r') (fun h => nomatch h)
        have hJr : J < rows.length := by omega
        have hset : (rows.set J none)[J]? = some none := by rw [List.getElem?_set_self hJr]
        have hS4 := hS3.pl (ws := us.set J .non) hu3 hP.ne hnb'
        have kx4 : Kx [pl, z.ly] H (upd H3 pl (.lst (us.set J .non))) := fun c o hc hn hk => by
          simp only [List.mem_cons, List.not_mem_nil, or_false, not_or] at hn
          rw [upd_ne hn.1]
          exact kq _ _ (s2 _ _ hc) hn.2 hk
        have hu4 : upd H3 pl (.lst (us.set J .non)) pl = some (.lst (us.set J .non)) := upd_same
        refine ⟨fun σ H'' => σ = [some (.ref z.p), some (.ref pl), some (.int a), some (.int (a + (i : Int))), some (.int (J : Int))] ∧ H'' = upd H3 pl (.lst (us.set J .non)), ?_, fun σ' H'' => ?_⟩
        · walk_at "wp"
          exact ⟨us, hu3, J, ixn hJl, rfl⟩
        rintro ⟨rfl, rfl⟩
        walk_at "wp"
        generalize upd H3 pl (.lst (us.set J .non)) = H4 at *
        obtain ⟨dx4, h4⟩ := hS4.me
        refine ⟨dx4, _, h4, ssF_no (by decide +kernel), fun p4 hp4 => ?_⟩
        have c5 := same_upd (o := .tup [V.str "frame", V.int (J : Int)]) (same_refl (H := H4)) hp4
        refine ⟨z, rfl, rows.set J none, hS4.same c5, J, rfl, hset, dx4, _, c5 _ _ h4, ssF_no (by decide +kernel), fun p5 hp5 => ?_⟩
        have c6 := same_upd (o := .tup [V.str "frame", V.int (J : Int)]) c5 hp5
        refine ⟨z, rfl, rows.set J none, hS4.same c6, J, rfl, hset, ?_⟩
        generalize upd (upd H4 p4 (.tup [V.str "frame", V.int (J : Int)])) p5 (.tup [V.str "frame", V.int (J : Int)]) = H6 at *
        intro l7 hl7 p8 hp8
        have c7 := same_upd (o := .lst []) (same_refl (H := H6)) hl7
        have c8 := same_upd (o := .lst []) (same_refl (H := upd H6 l7 (.lst []))) hp8
        have s8 := (c6.trans c7).trans c8
        refine ⟨false, dInts [], sees_list (SqL.of (c8 _ _ upd_same)), dInts [], sees_list (SqL.of upd_same), alike_ints _ _, by rw [deep_ints]; decide, ?_⟩
        rw [eq_ints, decide_eq_true rfl]
        have kx8 : Kx [pl, z.ly] H (upd (upd H6 l7 (.lst [])) p8 (.lst [])) := fun c o hc hn hk => s8 _ _ (kx4 c o hc hn hk)
        exact q _ (rows.set J none) ⟨hS4.same s8, fun r' hr' => (List.mem_or_eq_of_mem_set hr').elim (hP.ok r') (fun h => nomatch h), hP.ne, hnb', us.set J .non, s8 _ _ hu4, prd_set (show RwT (upd (upd H6 l7 (.lst [])) p8 (.lst [])) [pl, z.ly] V.non none from rfl) J (Paired.mapP hU fun _ _ q => q.keep hP.us kx8)⟩ (List.length_set ..) (cnt_clr hy1) kx8
    rintro ⟨v3, v4, rfl, s1, hno⟩
    exfalso
    have : cnt rows = 0 := by
      unfold cnt
      rw [List.length_eq_zero_iff, List.filter_eq_nil_iff]
      intro y hy
      obtain ⟨J, hJ⟩ := List.mem_iff_getElem?.mp hy
      have hJl := (List.getElem?_eq_some_iff.mp hJ).1
      have e1 := hno ((J - a) % (rows.length : Int)).toNat (by
        have := Int.emod_lt_of_pos (J - a) (show (0 : Int) < (rows.length : Int) by omega)
        have := Int.emod_nonneg (J - a) (show (rows.length : Int) ≠ 0 by omega)
        omega)
      rw [Int.toNat_of_nonneg (Int.emod_nonneg _ (by omega)), Int.add_emod_emod, show a + ((J : Int) - a) = J by omega, Int.emod_eq_of_lt (by omega) (by omega), Int.toNat_natCast, hJ] at e1
      cases e1
      decide
    omega
theorem cut_ints {ns : List Int} {lo hi : Option Int} : ∃ ms : List Int, cutV (ns.map V.int) lo hi = ms.map V.int ∧ ms.length ≤ ns.length := by
  unfold cutV
  rw [← List.map_drop, ← List.map_take]
  refine ⟨_, rfl, ?_⟩
  rw [List.length_take, List.length_drop]
  omega

def spLaw (K : PySem.W.Frag) : Sp := fun vs H Q _ => ∃ (a : Addr) (ns : List Int), vs = [.ref a] ∧ SqL K H a (ns.map V.int) ∧ ns.length ≤ 63 ∧ ∀ H', Q (.bl true) H'
theorem body_law (T : Txt K mg A) : Body P w K mg base "law" s_law ["_law_script", "_law_frames", "_law_slots", "_law_size_here", "_law_sheets", "_law_plain", "_law_k", "_law_cell_here", "_law_number", "_law_many", "_law_holder", "_law_marks"] 9 (spLaw K) := by
  have H_Sheets_init := h_ssi (P := P) (w := w) (base := base) T
  have H_Sheets_live_sheets := h_live (P := P) (w := w) (base := base) T
  have H_Sheets_hand_at := h_hand (P := P) (w := w) (base := base) T
  have H_Sheets_told_slots := h_tss (P := P) (w := w) (base := base) T
  have H_Sheets_told_frames := h_tf (P := P) (w := w) (base := base) T
  have H_Sheets_moved := h_moved (P := P) (w := w) (base := base) T
  have H_l_size := h_size (P := P) (w := w) (base := base) T
  have H_l_sheet := h_sheet (P := P) (w := w) (base := base) T
  have H_l_fresh := h_lfresh (P := P) (w := w) (base := base) T
  have H_l_let_go := h_llg (P := P) (w := w) (base := base) T
  have H_l_like := h_like (P := P) (w := w) (base := base) T 5
  intro f cdv A' outer s H vs Q E hr z
  obtain ⟨a, ns, rfl, hs, hlen, q⟩ := z
  have H_l_cell := h_cell (P := P) (w := w) (base := base) T a ns
  refine ⟨_, (pss_cons (ps_set (i := 1) sc_law.nd rfl (Or.inl rfl) (pe_callE H_l_size (hr.mono (by decide)) xw_def (pa_cons (pe_callE H_l_cell (hr.mono (by decide)) xw_def (pa_cons (pvM 0) (pa_cons pe_int pa_nil))) (pa_cons pe_int (pa_cons pe_int pa_nil)))))
      (pss_cons (ps_set (i := 2) sc_law.nd rfl (Or.inl rfl) (pe_op op_mod (pe_callE H_l_cell (hr.mono (by decide)) xw_def (pa_cons (pvM 0) (pa_cons pe_int pa_nil))) pe_int))
      (pss_cons (ps_set (i := 3) sc_law.nd rfl (Or.inl rfl) (pe_op op_add pe_int (pe_op op_mod (pe_op op_fdiv (pe_callE H_l_cell (hr.mono (by decide)) xw_def (pa_cons (pvM 0) (pa_cons pe_int pa_nil))) pe_int) pe_int)))
      (pss_cut (ps_if (pt_cmpR op_eq (pe_op op_mod (pe_op op_fdiv (pe_callE H_l_cell (hr.mono (by decide)) xw_def (pa_cons (pvM 0) (pa_cons pe_int pa_nil))) pe_int) pe_int) pe_int (nomark _)) (pss_one (ps_set (i := 3) sc_law.nd rfl (Or.inl rfl) pe_int)) pss_nil)
      (pss_cons (ps_set (i := 4) sc_law.nd rfl (Or.inl rfl) (pe_makeE H_Sheets_init (hr.mono (by decide)) xw_def (pa_cons (pvM 1) (pa_cons (pvM 2) (pa_cons (pvM 3) pa_nil)))))
      (pss_cons (ps_setC (i := 5) sc_law.nd rfl rfl rfl (pi_range1 rfl T.b_range (pa_cons (pvM 1) pa_nil)) (x := "_law_k") (fs := []) (ix := []) rfl rfl (fun _ _ _ _ _ _ => (pg_name (i := 0) (show (["_law_k"] : List Str).Nodup by decide +kernel) rfl (Or.inl rfl))) (fun _ _ _ _ _ _ => pf_nil) (fun _ _ _ _ _ _ => pe_non))
      (pss_cons (ps_forE PassesOwn.leaving rfl (pi_enum rfl T.b_enumerate (pa_cons (pe_slice sl_list (pvM 0) (po_some pe_int) (po_some pe_int)) pa_nil)) (pg_tup rfl (pgs_cons (pg_name (i := 6) sc_law.nd rfl (Or.inl rfl)) (pgs_cons (pg_name (i := 7) sc_law.nd rfl (Or.inl rfl)) pgs_nil))) (pss_cons (ps_set (i := 8) sc_law.nd rfl (Or.inr rfl) (pe_op op_mod (pe_op op_add (pe_op op_mul (pvM 7) pe_int) (pe_op op_mul (pvM 6) pe_int)) pe_int))
      (pss_cons (ps_set (i := 9) sc_law.nd rfl (Or.inl rfl) (pe_callB call_len rfl T.b_len PySem.boot_len (pa_cons (pe_comp rfl (pi_list (pvM 5)) (x := "_law_one") (fs := []) (ix := []) rfl rfl (fun _ _ _ _ _ _ => (pg_name (i := 0) (show (["_law_one"] : List Str).Nodup by decide +kernel) rfl (Or.inl rfl))) (fun _ _ _ _ _ _ => (pf_one (pt_cmpR op_notN (pvM 0) pe_non (nomark _)))) (fun _ _ _ _ _ _ => (pvM 0))) pa_nil)))
      (pss_cut (ps_if (PW.pt (pw_and (pt_cmpR op_lt (pvM 9) (pvM 1) (nomark _)) (pw_and1 (PW.pt (pw_or (pt_cmpR op_eq (pvM 9) pe_int (nomark _)) (pw_or1 (pt_cmpR op_gt (pe_op op_mod (pvM 8) pe_int) pe_int (nomark _)))))))) (pss_cut (ps_set (i := 10) sc_law.nd rfl (Or.inl rfl) (pe_tup (pa_cons (pe_ix ix_lst (pe_lst (pa_cons pe_str (pa_cons pe_str (pa_cons pe_str pa_nil)))) (pe_op op_mod (pe_op op_fdiv (pvM 8) pe_int) pe_int) (fun _ _ => rfl)) (pa_cons (pe_op op_fdiv (pvM 8) pe_int) (pa_cons (pvM 6) pa_nil)))))
      (pss_cut (ps_setC (i := 11) sc_law.nd rfl rfl rfl (pi_range1 rfl T.b_range (pa_cons (pvM 1) pa_nil)) (x := "_law_j") (fs := ["_law_number"]) (ix := [8]) rfl rfl (fun _ _ _ _ _ _ => (pg_name (i := 0) (show (["_law_j", "_law_number"] : List Str).Nodup by decide +kernel) rfl (Or.inl rfl))) (fun _ _ _ _ _ _ => pf_nil) (fun _ _ _ _ _ _ => (pe_cmpR op_eq (pe_op op_mod (pe_op op_shr (pvM 1) (pe_op op_mod (pvM 0) pe_int)) pe_int) pe_int (nomark _))))
      (pss_cons (ps_if (pt_not (pt_val (pe_callE H_l_fresh (hr.mono (by decide)) xw_def (pa_cons (pvM 4) (pa_cons (pvM 5) (pa_cons (pe_callE H_l_sheet (hr.mono (by decide)) xw_def (pa_cons (pvM 7) (pa_cons (pvM 8) (pa_cons (pvM 3) pa_nil)))) (pa_cons (pvM 10) (pa_cons (pvM 11) pa_nil)))))))) (pss_one (ps_ret pe_bl)) pss_nil)
      (pss_one (ps_set (i := 9) sc_law.nd rfl (Or.inl rfl) (pe_op op_add (pvM 9) pe_int)))))) (pss_cons (ps_if (pt_not (pt_val (pe_callE H_l_let_go (hr.mono (by decide)) xw_def (pa_cons (pvM 4) (pa_cons (pvM 5) (pa_cons (pe_op op_mod (pe_op op_fdiv (pvM 8) pe_int) (pvM 1)) pa_nil)))))) (pss_one (ps_ret pe_bl)) pss_nil)
      (pss_one (ps_set (i := 9) sc_law.nd rfl (Or.inl rfl) (pe_op op_sub (pvM 9) pe_int)))))
      (pss_one (ps_if (PW.pt (pw_or (pt_not (pt_val (pe_callE H_l_like (hr.mono (by decide)) xw_def (pa_cons (pe_methE0 (pvM 4) T.cl_Sheets H_Sheets_live_sheets (hr.mono (by decide)) xw_def) (pa_cons (pvM 9) pa_nil))))) (pw_or1 (pt_not (pt_val (pe_callE H_l_like (hr.mono (by decide)) xw_def (pa_cons (pe_methE0 (pvM 4) T.cl_Sheets H_Sheets_hand_at (hr.mono (by decide)) xw_def) (pa_cons pe_int pa_nil)))))))) (pss_one (ps_ret pe_bl)) pss_nil))))))
      (pss_cons (ps_if (pt_not (pt_val (pe_callE H_l_like (hr.mono (by decide)) xw_def (pa_cons (pe_methE0 (pvM 4) T.cl_Sheets H_Sheets_told_slots (hr.mono (by decide)) xw_def) (pa_cons (pe_comp rfl (pi_range1 rfl T.b_range (pa_cons (pvM 2) pa_nil)) (x := "_law_k") (fs := []) (ix := []) rfl rfl (fun _ _ _ _ _ _ => (pg_name (i := 0) (show (["_law_k"] : List Str).Nodup by decide +kernel) rfl (Or.inl rfl))) (fun _ _ _ _ _ _ => pf_nil) (fun _ _ _ _ _ _ => pe_non)) pa_nil))))) (pss_one (ps_ret pe_bl)) pss_nil)
      (pss_one (ps_ret (pe_and (pe_callE H_l_like (hr.mono (by decide)) xw_def (pa_cons (pe_methE0 (pvM 4) T.cl_Sheets H_Sheets_told_frames (hr.mono (by decide)) xw_def) (pa_cons (pvM 5) pa_nil))) (pe_one (pe_callE H_l_like (hr.mono (by decide)) xw_def (pa_cons (pe_methE0 (pvM 4) T.cl_Sheets H_Sheets_moved (hr.mono (by decide)) xw_def) (pa_cons (pe_tup (pa_cons pe_int (pa_cons pe_int (pa_cons pe_int pa_nil)))) pa_nil))))))))))))))), ?_⟩
  unfold sp_cell sp_size
  walk_at "wp"
  simp only [hs, true_and]
  intro n n1 n64
  obtain ⟨m, hm, hm5⟩ : ∃ m : Nat, ns.getD 1 0 % 6 = (m : Int) ∧ m ≤ 5 := ⟨(ns.getD 1 0 % 6).toNat, by omega, by omega⟩
  rw [hm]
  refine ⟨fun σ H' => ∃ sz : Nat, σ = [some (.ref a), some (.int n), some (.int m), some (.int sz), none, none, none, none, none, none, none, none] ∧ H' = H ∧ 1 ≤ sz ∧ sz ≤ 64, ?_, fun σ' H1 => ?_⟩
  · walk_at "wp"
    refine ⟨hs, ite2 (fun _ => ⟨16, rfl, by decide, by decide⟩) (fun _ => ⟨(1 + ns.getD 1 0 / 6 % 3).toNat, by omega, by omega, by omega⟩)⟩
  rintro ⟨sz, rfl, rfl, hsz1, hsz2⟩
  unfold sp_ssi
  walk_at "wp"
  intro p dx hp hdx hne
  refine ⟨dx, n, rfl, m, rfl, rfl, n64, by omega, fun H2 z hS2 ezp ezm hly kp2 => ?_⟩
  have sm := same_make (o := .ins A.C_Sheets dx []) hp hdx hne
  have s12 : Same H1 H2 := fun c o hc => kp2 c o (sm c o hc) (fun z => ne_of_none hc hp (List.mem_singleton.mp z))
  subst ezp
  have hs2 := s12.seq hs
  refine ⟨by omega, by omega, fun D hD => ?_⟩
  refine comp_range (fun i ys σ H' => ∃ v, σ = [v] ∧ Same H2 H' ∧ H' D = some (.lst ys) ∧ ys = List.replicate i V.non) ⟨_, rfl, same_upd same_refl hD, upd_same, rfl⟩ (fun i ys σ H' hi => ?_) (fun ys σ H3 => ?_)
  · rintro ⟨v, rfl, s1, h1, rfl⟩
    walk_at "wp"
    exact ⟨h1, by rw [List.length_replicate]; have : sizeLine = 16777216 := PySem.sizeLine_eq; omega, same_put s1 hD, by rw [← List.replicate_succ']; rfl⟩
  rintro ⟨v, rfl, s23, hD3, rfl⟩
  rw [Int.toNat_natCast] at hD3
  have hs3 := s23.seq hs2
  obtain ⟨ms, hms, hml⟩ := cut_ints (ns := ns) (lo := some 2) (hi := some 72)
  refine ⟨_, hs3, fun sl hsl => ?_⟩
  rw [hms]
  have b4 := same_upd (o := .lst (ms.map V.int)) (same_refl (H := H3)) hsl
  have hsl4 : upd H3 sl (.lst (ms.map V.int)) sl = some (.lst (ms.map V.int)) := upd_same
  have s24 := s23.trans b4
  have hD4 := b4 _ _ hD3
  have nsl : sl ∉ [D, z.ly] := by
    obtain ⟨_, _, _, g1, _⟩ := hS2.fr
    simp only [List.mem_cons, List.not_mem_nil, or_false, not_or]
    exact ⟨(ne_of_none hD3 hsl).symm, (ne_of_none (s23 _ _ g1) hsl).symm⟩
  generalize upd H3 sl (.lst (ms.map V.int)) = H4 at *
  have P0 : Pv A.C_Sheets A.C_Spots A.C_Sheet H4 z D (List.replicate n none) := by
    refine ⟨hS2.same s24, (fun r hr => nomatch (List.eq_of_mem_replicate hr)), ?_, (fun r hr => nomatch (List.eq_of_mem_replicate hr)), _, hD4, ?_⟩
    · obtain ⟨_, _, _, g1, _, g2⟩ := hS2.fr
      obtain ⟨_, _, _, g3, _, g4⟩ := hS2.sl
      simp only [List.mem_cons, List.not_mem_nil, or_false, not_or]
      exact ⟨(ne_of_none g1 hD).symm, (ne_of_none g2 hD).symm, (ne_of_none g3 hD).symm, (ne_of_none g4 hD).symm⟩
    · clear hD4 hD3 hS2 n64 n1
      induction n with
      | zero => exact .nil
      | succ k ih => exact .cons rfl ih
  refine ⟨⟨_, SqL.of hsl4⟩, loop_enum (xs := ms.map V.int) (fun i σ H' => ∃ (rows : List (Option Sh)) (v6 v7 v8 v9 v10 v11 : Option V), σ = [some (.ref a), some (.int n), some (.int m), some (.int sz), some (.ref z.p), some (.ref D), v6, v7, v8, v9, v10, v11] ∧ Pv A.C_Sheets A.C_Spots A.C_Sheet H' z D rows ∧ rows.length = n ∧ Kx [D, z.ly] H4 H') ⟨_, _, _, _, _, _, _, rfl, P0, List.length_replicate .., fun _ _ h _ _ => h⟩ (fun i σ H' _ ⟨_, _, _, _, _, _, _, _, _, _, k⟩ => SqL.of (k _ _ hsl4 nsl fun _ z => nomatch z)) (fun i x tt σ H' hi => ?_) (fun σ H' => ?_)⟩
  · rintro ⟨rows, v6, v7, v8, v9, v10, v11, rfl, hP, hrn, kx⟩ htt
    obtain ⟨c0, hc0, rfl⟩ : ∃ z, z ∈ ms ∧ V.int z = x := List.mem_map.mp (List.mem_of_getElem? hi)
    have b5 := same_upd (o := .tup [V.int i, V.int c0]) (same_refl (H := H')) htt
    have htt' : upd H' tt (.tup [V.int i, V.int c0]) tt = some (.tup [V.int i, V.int c0]) := upd_same
    have hil : i < 64 := by
      have := (List.getElem?_eq_some_iff.mp hi).1
      rw [List.length_map] at this
      omega
    walk_at "wp"
    generalize upd H' tt (.tup [V.int i, V.int c0]) = H5 at *
    have hP5 := hP.same b5
    obtain ⟨us, hu, hU⟩ := hP5.pl
    have hul := Paired.length hU
    refine ⟨_, SqT.of htt', rfl, _, _, rfl, _, _, rfl, rfl, c0, rfl, i, rfl, ?_⟩
    obtain ⟨num, hnum, hnum0, hnum1⟩ : ∃ num : Int, (c0 * 48271 + (i : Int) * 16807) % 2147483647 = num ∧ 0 ≤ num ∧ num < 2147483647 := ⟨_, rfl, by omega, by omega⟩
    rw [hnum]
    have hz := PySem.sizeLine_eq
    refine ⟨⟨_, SqL.of hu⟩, fun D1 hD1 => comp_list (xs := us) (fun i ys σ H' => ∃ v, σ = [v] ∧ Same H5 H' ∧ H' D1 = some (.lst ys) ∧ ys.length = cnt (rows.take i)) ⟨_, rfl, same_upd same_refl hD1, upd_same, rfl⟩ (fun i ys σ H' _ ⟨_, _, s2, _⟩ => SqL.of (s2 _ _ hu)) (fun i v ys σ H' hi => ?_) (fun ys σ H6 => ?_)⟩
    · rintro ⟨v0, rfl, s1, hD2, hy⟩
      obtain ⟨y, hy1, hy2⟩ := prd_get hU hi
      have htk : rows.take (i + 1) = rows.take i ++ [y] := by rw [List.take_add_one, hy1]; rfl
      have hc : cnt (rows.take (i + 1)) = cnt (rows.take i) + (if y.isSome = true then 1 else 0) := by
        unfold cnt
        rw [htk, List.filter_append, List.length_append]
        cases y <;> rfl
      have hle : cnt (rows.take i) ≤ 64 := by
        unfold cnt
        exact Nat.le_trans (List.length_filter_le _ _) (by rw [List.length_take]; omega)
      cases y with
      | none =>
        obtain rfl : v = .non := hy2
        walk_at "wp"
        exact iteF ⟨s1, hD2, by rw [hc]; exact hy⟩
      | some r =>
        obtain ⟨t, _, _, _, rfl, _⟩ := hy2
        walk_at "wp"
        exact iteT ⟨hD2, by omega, same_put s1 hD1, by rw [List.length_append, hc, hy]; rfl⟩
    rintro ⟨v0, rfl, s56, hD2, hy⟩
    rw [hul, List.take_length] at hy
    refine ⟨_, .inl ⟨_, SqL.of hD2, rfl⟩, ?_⟩
    rw [hy]
    have hP6 := hP5.same s56
    have kx6 : Kx [D, z.ly] H4 H6 := fun c o hc hn hk => s56 _ _ (b5 _ _ (kx c o hc hn hk))
    refine ⟨fun σ H'' => ∃ (rows' : List (Option Sh)) (v10 v11 : Option V), σ = [some (.ref a), some (.int n), some (.int m), some (.int sz), some (.ref z.p), some (.ref D), some (.int i), some (.int c0), some (.int num), some (.int (cnt rows' : Nat)), v10, v11] ∧ Pv A.C_Sheets A.C_Spots A.C_Sheet H'' z D rows' ∧ rows'.length = n ∧ Kx [D, z.ly] H4 H'', ?_, fun σ' H7 => ?_⟩
    · unfold sp_sheet sp_lfresh sp_llg
      walk_at "wp"
      refine ite_ao (fun hA _ => ?_) (fun hn => ?_)
      · obtain ⟨wd, hwd⟩ : ∃ wd : Str, atI [V.str "task", V.str "bank", V.str "t"] (num / 3 % 3) = some (V.str wd) := by
          rcases (by omega : num / 3 % 3 = 0 ∨ num / 3 % 3 = 1 ∨ num / 3 % 3 = 2) with h | h | h <;> rw [h] <;> exact ⟨_, rfl⟩
        refine ⟨fun σ H'' => ∃ p1 : Addr, σ = [some (.ref a), some (.int n), some (.int m), some (.int sz), some (.ref z.p), some (.ref D), some (.int i), some (.int c0), some (.int num), some (.int (cnt rows : Nat)), some (.ref p1), v11] ∧ Same H6 H'' ∧ H'' p1 = some (.tup [V.str wd, V.int (num / 9), V.int i]), ?_, fun σ' H8 => ?_⟩
        · walk_at "wp"
          exact fun p hp => ⟨_, hwd, fun p1 hp1 => ⟨same_upd (same_upd same_refl hp) hp1, rfl⟩⟩
        rintro ⟨p1, rfl, b8, hp18⟩
        refine ⟨fun σ H'' => ∃ D3 : Addr, σ = [some (.ref a), some (.int n), some (.int m), some (.int sz), some (.ref z.p), some (.ref D), some (.int i), some (.int c0), some (.int num), some (.int (cnt rows : Nat)), some (.ref p1), some (.ref D3)] ∧ Same H8 H'', ?_, fun σ' H9 => ?_⟩
        · walk_at "wp"
          refine ⟨by omega, by omega, fun D3 hD3 => ?_⟩
          refine comp_range (fun q ys σ H' => ∃ (v : Option V), σ = [v, some (.int num)] ∧ Same H8 H' ∧ H' D3 = some (.lst ys) ∧ ys.length = q) ⟨_, rfl, same_upd same_refl hD3, upd_same, rfl⟩ (fun q ys σ H' hi => ?_) (fun ys σ H9 => ?_)
          · rintro ⟨v, rfl, s1, h1, hy⟩
            walk_at "wp"
            exact ⟨by omega, h1, by omega, same_put s1 hD3, by rw [List.length_append, hy]; rfl⟩
          rintro ⟨v, rfl, s89, _, _⟩
          exact s89
        rintro ⟨D3, rfl, s89⟩
        walk_at "wp"
        refine ⟨sz, rfl, hsz2, fun H10 l bs hbl hl s10 hl10 => ?_⟩
        have s610 := (b8.trans s89).trans s10
        have hP10 := hP6.same s610
        obtain ⟨j, hj⟩ := cnt_ex (rows := rows) (by omega)
        have hrj : rows[j]? = some none := by
          obtain ⟨hjl, hjn, _⟩ := List.findIdx?_eq_some_iff_getElem.mp hj
          rw [List.getElem?_eq_getElem hjl]
          cases e : rows[j] with
          | none => rfl
          | some r => rw [e] at hjn; cases hjn
        obtain ⟨_, uly, _, hly6, _⟩ := (hP6.same (b8.trans s89)).ss.fr
        obtain ⟨uD, hD9, _⟩ := (hP6.same (b8.trans s89)).pl
        refine ⟨z, rfl, rows, hP10, bs, hl10, by omega, by omega, [.inr wd, .inl (num / 9), .inl i], s10 _ _ (s89 _ _ hp18), by show (3 : Nat) ≤ 64; decide, (ne_of_none hly6 hl).symm, (ne_of_none hD9 hl).symm, j, hj, fun H11 r hP11 kx11 => iteF ?_⟩
        exact ⟨rows.set j (some r), by rw [cnt_put hrj]; omega, hP11, by rw [List.length_set]; exact hrn, fun c o hc hn hk => kx11 c o (s610 _ _ (kx6 c o hc hn hk)) hn hk⟩
      · have hem := Int.emod_lt_of_pos (num / 3) (show (0 : Int) < (n : Int) by omega)
        exact ⟨by omega, z, rfl, rows, hP6, by omega, Int.emod_nonneg _ (by omega), by omega, fun H8 rows8 hP8 hl8 hc8 kx8 => iteF ⟨rows8, by omega, hP8, by omega, fun c o hc hn hk => kx8 c o (kx6 c o hc hn hk) hn hk⟩⟩
    rintro ⟨rows', v10', v11', rfl, hP7, hrn7, kx7⟩
    unfold sp_live sp_hand
    walk_at "wp"
    obtain ⟨dx7, h7⟩ := hP7.ss.me
    have lf : ∀ {H : Hp} {x : Int}, Lks H (.leaf (.int x)) (.int x) := fun {H x} => by unfold Lks; exact ⟨rfl, rfl⟩
    refine ⟨dx7, _, h7, ssF_no (by decide +kernel), z, rfl, rows', hP7.ss, fun H8 s8 => ⟨_, _, .leaf (.int _), rfl, lf, lf, by simp [deep], fun H9 s9 => ⟨true, rfl, iteF ?_⟩⟩⟩
    refine ⟨dx7, _, (s8.trans s9) _ _ h7, ssF_no (by decide +kernel), z, rfl, rows', hP7.ss.same (s8.trans s9), _, _, .leaf (.int _), rfl, lf, lf, by simp [deep], fun H10 s10 => ⟨true, rfl, iteF ?_⟩⟩
    exact ⟨rows', hP7.same ((s8.trans s9).trans s10), hrn7, fun c o hc hn hk => ((s8.trans s9).trans s10) _ _ (kx7 c o hc hn hk)⟩
  rintro ⟨rows, v6, v7, v8, v9, v10, v11, rfl, hP, hrn, kx⟩
  unfold sp_tss sp_tf sp_moved
  walk_at "wp"
  obtain ⟨dx5, h5⟩ := hP.ss.me
  obtain ⟨us, hu, hU⟩ := hP.pl
  have hl64 := hP.ss.len.1
  have hz := PySem.sizeLine_eq
  refine ⟨dx5, _, h5, ssF_no (by decide +kernel), z, rfl, rows, hP.ss, fun H5 l s5 hl5 => ⟨by omega, by omega, fun D1 hD1 => ?_⟩⟩
  refine comp_range (fun i ys σ H' => ∃ v, σ = [v] ∧ Same H5 H' ∧ H' D1 = some (.lst ys) ∧ ys = List.replicate i V.non) ⟨_, rfl, same_upd same_refl hD1, upd_same, rfl⟩ (fun i ys σ H' hi => ?_) (fun ys σ H6 => ?_)
  · rintro ⟨v, rfl, s1, h1, rfl⟩
    walk_at "wp"
    exact ⟨h1, by rw [List.length_replicate]; omega, same_put s1 hD1, by rw [← List.replicate_succ']; rfl⟩
  rintro ⟨v, rfl, s56, hD6, rfl⟩
  rw [Int.toNat_natCast] at hD6
  rw [ezm] at hl5
  have lkn : ∀ {c : Addr}, H6 c = some (.lst (List.replicate m V.non)) → Lks H6 (.seq false (List.replicate m (.leaf .non))) (.ref c) := fun {c} hc => by
    unfold Lks
    exact ⟨c, _, rfl, hc, by rw [List.length_replicate]; omega, lks_non⟩
  refine ⟨.ref l, .ref D1, _, rfl, lkn (s56 _ _ hl5), lkn hD6, deep_non, fun H7 s7 => ⟨true, rfl, iteF ?_⟩⟩
  have s07 := (s5.trans s56).trans s7
  refine ⟨dx5, _, s07 _ _ h5, ssF_no (by decide +kernel), z, rfl, rows, hP.ss.same s07, hP.ok, fun H8 l8 s8 hl8 => ?_⟩
  have s08 := s07.trans s8
  obtain ⟨us8, hu8, hU8⟩ := (hP.same s08).pl
  have lkD : Lks H8 (.seq false (rows.map dvS)) (.ref D) := by
    unfold Lks
    exact ⟨D, us8, rfl, hu8, by rw [List.length_map]; omega, rws_lks hU8 hP.ok⟩
  refine ⟨.ref l8, .ref D, _, rfl, hl8, lkD, deep_rows, fun H9 s9 => ⟨true, rfl, ?_⟩⟩
  refine iteT ⟨dx5, _, (s08.trans s9) _ _ h5, ssF_no (by decide +kernel), z, rfl, rows, hP.ss.same (s08.trans s9), fun t ht p hp => ?_⟩
  have c1 := same_upd (o := .tup [V.int 0, V.int 0, V.int 0]) (same_refl (H := upd H9 t (.tup [V.int 0, V.int 0, V.int 0]))) hp
  have lk3 : ∀ {H : Hp} {c : Addr}, H c = some (.tup [V.int 0, V.int 0, V.int 0]) → Lks H (.seq true ([0, 0, 0].map fun x => .leaf (.int x))) (.ref c) := fun {H c} hc => by
    unfold Lks
    exact ⟨c, _, rfl, hc, by show (3 : Nat) < 16777216; decide, lks_ints (bs := [0, 0, 0])⟩
  exact ⟨.ref t, .ref p, _, rfl, lk3 (c1 _ _ upd_same), lk3 upd_same, by rw [deep, deep_leaf]; decide, fun H10 _ => q _⟩
end

theorem walk {l : PySem.W.OpenLaw} {q : Program} {loose : List Str} {XP : (Str → Option Value) → Heap → Prop} {YP : World → Heap → Prop} {d : DefRec} {K : Params → PySem.W.Frag} (hn : l.most = some 63) (hdf : d.params.defaults = []) (hdn : d.name = "law")
    (hY : ∀ (w : World) (h : Heap), YP w h → (K w.params).In h)
    (F : ∀ (w : World) (mg : Str → Option Value) (h : Heap), (K w.params).In h → h.Ns mainGlobals mg → ∃ A : Adr, Txt (K w.params) mg A) :
    PySem.W.WalkO q loose XP YP l.row.toRowW d [] (fun f vs => PySem.call f vs) := by
  refine L2.walk_of (n := 63) (k := 9 + 1) (x := "_law_script") (CX := fun w => CXe l.prog w) (sp := fun w => spLaw (K w.params)) hn (by decide) hdf ⟨rfl, by decide, by decide⟩ hY ?_ (fun _ _ a ns hl _ hS => ⟨a, ns, rfl, hS, hl, fun _ => rfl⟩) fun _ _ _ _ _ ⟨_, _, _, _, _, _, _, _, _, _, z⟩ => z
  intro w mg fa h KX G hmg
  rw [hdn] at hmg
  obtain ⟨A, T⟩ := F w mg h KX G
  obtain ⟨f, fd, e, Fn, hb⟩ := T.r_law
  have e0 := hmg.symm.trans e
  cases e0
  exact ⟨fd, hb, fun base _ _ => Fn.okE sc_law (fun vs H Q E z => by obtain ⟨a, ns, rfl, _⟩ := z; rfl) (body_law (P := l.prog) (w := w) (base := base) T)⟩

section
open Hd
noncomputable def o2 (_ : Params) : Obj := ⟨.none, none, .dict ⟨[]⟩ 0, #[]⟩
noncomputable def o3 (P : Params) : Obj := dO 23 [ent P (S 6944663249689206880) 165 (.str (S 228175953472027334613558212148039043305495223970977184829022546331595881686433904747117) 601), ent P (S 27127582262911072) 166 .none, ent P (S 116512114954948911152848992) 167 .none, ent P (S 455126385231797511086176) 168 (.builtin "__main__.__loader__#opaque"), ent P (S 6944661016558198880) 169 .none, ent P (S 500416834696884185539869749159288928) 170 (.ref 6), ent P (S 29827167671303893903271485536) 171 (.ref 4), ent P (S 6944663245527933024) 173 (.str (S 9700865007064396754801562313776) 172), ent P (S 455125376429887381069920) 174 .none, ent P (S 469986605152) 193 (.ref 21), ent P (S 545146499936607105348423) 213 (.ref 31), ent P (S 121429199908943) 229 (.ref 44), ent P (S 504413714548) 241 (.ref 53), ent P (S 504229161300) 288 (.ref 84), ent P (S 500186509652) 341 (.ref 124), ent P (S 128047577983316) 600 (.ref 318), ent P (S 2018578202597599112544) 610 (.ref 329), ent P (S 1889380072283105815904) 619 (.ref 336), ent P (S 1890460943890256129376) 628 (.ref 343), ent P (S 554405825948688972934496) 634 (.ref 348), ent P (S 497995685371741280038240) 648 (.ref 355), ent P (S 135892597258057197952331104) 659 (.ref 362), ent P (S 7889517) 665 (.ref 367)]
noncomputable def o15 (_ : Params) : Obj := tO []
noncomputable def o17 (_ : Params) : Obj := tO [(.str (S 108) 190)]
noncomputable def o18 (_ : Params) : Obj := tO []
noncomputable def o20 (_ : Params) : Obj := cO [(.str (S 469986605152) 187), (.str (S 469986605152) 188), (.str (S 9700865007064396754801562313776) 189), (.int (1) 0), (.int (1) 0), (.int (0) 0), (.int (0) 0), (.int (3) 0), (.ref 15), (.bool true), (.int (181) 0), (.ref 16), .none, (.ref 17), (.ref 18), (.ref 19), (.int (191) 0), (.int (1) 0), (.str (S 9700865007064396754801562313776) 192)]
noncomputable def o21 (_ : Params) : Obj := ⟨(.type "function"), none, .func (PySem.W.fnOf (Str.ofString "_wall") (Str.ofString "_wall") (defArgs (top 0)) (defBody (top 0)) (defScope (top 0)) .none .none .none (.str (S 6944673128113922144) 164) none (.ref 20) .none), #[]⟩
noncomputable def o22 (_ : Params) : Obj := ⟨(.type "tuple"), none, .seq #[(.type "ValueError")] 0, #[]⟩
noncomputable def o29 (_ : Params) : Obj := ⟨(.type "tuple"), none, .seq #[] 0, #[]⟩
noncomputable def o30 (P : Params) : Obj := dO 3 [ent P (S 455125450472104437637216) 203 (.str (S 154789842426610354947036250589871895399) 194), ent P (S 500416517772168279997240570217455712) 207 (.int (5) 206), ent P (S 140854816109632365363434125429399349832812124725344) 208 (.ref 29), ent P (S 116512133262362862868258912) 210 (.ref 32), ent P (S 27127582262911072) 211 .none]
noncomputable def o31 (_ : Params) : Obj := ⟨(.type "type"), none, .cls { name := (Str.ofString "FrameError"), bases := [(.type "ValueError")], mro := [(.ref 31), (.type "ValueError"), (.type "Exception"), (.type "BaseException"), (.type "object")], ns := 30, qualname := (Str.ofString "FrameError"), hasDict := true, slotNames := [], subclasses := [(.ref 44)], abstract := false, collection := none, hasDel := false }, #[(some (.ref 22)), none, (some (.str (S 545146499936607105348423) 196)), (some (.str (S 545146499936607105348423) 204)), (some (.builtin "ValueError.__new__")), (some (.bool true))]⟩
noncomputable def o32 (_ : Params) : Obj := ⟨(.type "getset_descriptor"), none, .fields ⟨[(.str (S 116512133262362862868258912) 209), (.ref 31), (.builtin "ExceptionGroup.__weakref__"), .none]⟩, #[]⟩
noncomputable def o35 (_ : Params) : Obj := ⟨(.type "tuple"), none, .seq #[(.ref 31)] 0, #[]⟩
noncomputable def o42 (_ : Params) : Obj := ⟨(.type "tuple"), none, .seq #[] 0, #[]⟩
noncomputable def o43 (P : Params) : Obj := dO 2 [ent P (S 455125450472104437637216) 221 (.str (S 154789842426610354947036250589871895399) 194), ent P (S 500416517772168279997240570217455712) 225 (.int (7) 224), ent P (S 140854816109632365363434125429399349832812124725344) 226 (.ref 42), ent P (S 27127582262911072) 227 .none]
noncomputable def o44 (_ : Params) : Obj := ⟨(.type "type"), none, .cls { name := (Str.ofString "NoRoom"), bases := [(.ref 31)], mro := [(.ref 44), (.ref 31), (.type "ValueError"), (.type "Exception"), (.type "BaseException"), (.type "object")], ns := 43, qualname := (Str.ofString "NoRoom"), hasDict := true, slotNames := [], subclasses := [], abstract := false, collection := none, hasDel := false }, #[(some (.ref 35)), none, (some (.str (S 121429199908943) 214)), (some (.str (S 121429199908943) 222)), (some (.builtin "ValueError.__new__")), (some (.bool true))]⟩
noncomputable def o47 (_ : Params) : Obj := tO []
noncomputable def o49 (_ : Params) : Obj := tO [(.str (S 500035707502) 235), (.str (S 1701798505) 236), (.str (S 111490714854001) 237), (.str (S 439770836337) 238)]
noncomputable def o50 (_ : Params) : Obj := tO []
noncomputable def o52 (_ : Params) : Obj := cO [(.str (S 504413714548) 232), (.str (S 504413714548) 233), (.str (S 9700865007064396754801562313776) 234), (.int (10) 0), (.int (2) 0), (.int (0) 0), (.int (0) 0), (.int (3) 0), (.ref 47), (.bool true), (.int (181) 0), (.ref 48), .none, (.ref 49), (.ref 50), (.ref 51), (.int (239) 0), (.int (10) 0), (.str (S 9700865007064396754801562313776) 240)]
noncomputable def o53 (_ : Params) : Obj := ⟨(.type "function"), none, .func (PySem.W.fnOf (Str.ofString "swept") (Str.ofString "swept") (defArgs (top 5)) (defBody (top 5)) (defScope (top 5)) .none .none .none (.str (S 604424633459520194665304702243205991) 230) none (.ref 52) .none), #[]⟩
noncomputable def o61 (_ : Params) : Obj := tO []
noncomputable def o63 (_ : Params) : Obj := tO [(.str (S 1735222900) 259), (.str (S 499935440995) 260), (.str (S 126883625529449) 261)]
noncomputable def o64 (_ : Params) : Obj := tO []
noncomputable def o66 (_ : Params) : Obj := cO [(.str (S 6944679725401530464) 256), (.str (S 1954753563970360692704800173091156) 257), (.str (S 9700865007064396754801562313776) 258), (.int (20) 0), (.int (3) 0), (.int (0) 0), (.int (0) 0), (.int (3) 0), (.ref 61), (.bool true), (.int (181) 0), (.ref 62), .none, (.ref 63), (.ref 64), (.ref 65), (.int (262) 0), (.int (20) 0), (.str (S 9700865007064396754801562313776) 263)]
noncomputable def o67 (_ : Params) : Obj := ⟨(.type "function"), none, .func (PySem.W.fnOf (Str.ofString "__init__") (Str.ofString "Sheet.__init__") (defArgs (inClass (top 7) 0)) (defBody (inClass (top 7) 0)) (defScope (inClass (top 7) 0)) .none .none .none (.str (S 604688386180134175214183720302048103) 242) none (.ref 66) .none), #[]⟩
noncomputable def o68 (_ : Params) : Obj := tO []
noncomputable def o70 (_ : Params) : Obj := tO [(.str (S 1735222900) 268)]
noncomputable def o71 (_ : Params) : Obj := tO []
noncomputable def o73 (_ : Params) : Obj := cO [(.str (S 36039771160920033285907509365) 265), (.str (S 10144293748177338121204804511615218490960212) 266), (.str (S 9700865007064396754801562313776) 267), (.int (24) 0), (.int (1) 0), (.int (0) 0), (.int (0) 0), (.int (3) 0), (.ref 68), (.bool true), (.int (181) 0), (.ref 69), .none, (.ref 70), (.ref 71), (.ref 72), (.int (269) 0), (.int (24) 0), (.str (S 9700865007064396754801562313776) 270)]
noncomputable def o74 (_ : Params) : Obj := ⟨(.type "function"), none, .func (PySem.W.fnOf (Str.ofString "told_holders") (Str.ofString "Sheet.told_holders") (defArgs (inClass (top 7) 1)) (defBody (inClass (top 7) 1)) (defScope (inClass (top 7) 1)) .none .none .none (.str (S 604688386180134175214183720302048103) 242) none (.ref 73) .none), #[]⟩
noncomputable def o75 (_ : Params) : Obj := tO []
noncomputable def o77 (_ : Params) : Obj := tO [(.str (S 1735222900) 275)]
noncomputable def o78 (_ : Params) : Obj := tO []
noncomputable def o80 (_ : Params) : Obj := cO [(.str (S 1870501547802382857322) 272), (.str (S 526499379604921715462623747400690004) 273), (.str (S 9700865007064396754801562313776) 274), (.int (27) 0), (.int (1) 0), (.int (0) 0), (.int (0) 0), (.int (3) 0), (.ref 75), (.bool true), (.int (181) 0), (.ref 76), .none, (.ref 77), (.ref 78), (.ref 79), (.int (276) 0), (.int (27) 0), (.str (S 9700865007064396754801562313776) 277)]
noncomputable def o81 (_ : Params) : Obj := ⟨(.type "function"), none, .func (PySem.W.fnOf (Str.ofString "is_banked") (Str.ofString "Sheet.is_banked") (defArgs (inClass (top 7) 2)) (defBody (inClass (top 7) 2)) (defScope (inClass (top 7) 2)) .none .none .none (.str (S 604688386180134175214183720302048103) 242) none (.ref 80) .none), #[]⟩
noncomputable def o82 (_ : Params) : Obj := ⟨(.type "tuple"), none, .seq #[(.str (Str.ofString "boxes") 279), (.str (Str.ofString "holders") 280)] 0, #[]⟩
noncomputable def o83 (P : Params) : Obj := dO 4 [ent P (S 455125450472104437637216) 251 (.str (S 604688386180134175214183720302048103) 242), ent P (S 500416517772168279997240570217455712) 255 (.int (18) 254), ent P (S 6944679725401530464) 264 (.ref 67), ent P (S 36039771160920033285907509365) 271 (.ref 74), ent P (S 1870501547802382857322) 278 (.ref 81), ent P (S 140854816109632365363434125429399349832812124725344) 281 (.ref 82), ent P (S 6944679699547512928) 283 (.ref 85), ent P (S 116512133262362862868258912) 285 (.ref 86), ent P (S 27127582262911072) 286 .none]
noncomputable def o84 (_ : Params) : Obj := ⟨(.type "type"), none, .cls { name := (Str.ofString "Sheet"), bases := [(.type "object")], mro := [(.ref 84), (.type "object")], ns := 83, qualname := (Str.ofString "Sheet"), hasDict := true, slotNames := [], subclasses := [], abstract := false, collection := none, hasDel := false }, #[none, none, (some (.str (S 504229161300) 244)), (some (.str (S 504229161300) 252)), (some (.builtin "object.__new__")), (some (.bool true))]⟩
noncomputable def o85 (_ : Params) : Obj := ⟨(.type "getset_descriptor"), none, .fields ⟨[(.str (S 6944679699547512928) 282), (.ref 84), (.builtin "function.__dict__"), (.builtin "function.__dict__#set")]⟩, #[]⟩
noncomputable def o86 (_ : Params) : Obj := ⟨(.type "getset_descriptor"), none, .fields ⟨[(.str (S 116512133262362862868258912) 284), (.ref 84), (.builtin "ExceptionGroup.__weakref__"), .none]⟩, #[]⟩
noncomputable def o96 (_ : Params) : Obj := tO []
noncomputable def o98 (_ : Params) : Obj := tO [(.str (S 1735222900) 304), (.str (S 2054120046) 305)]
noncomputable def o99 (_ : Params) : Obj := tO []
noncomputable def o101 (_ : Params) : Obj := cO [(.str (S 6944679725401530464) 301), (.str (S 1954753563970360692704796130439508) 302), (.str (S 9700865007064396754801562313776) 303), (.int (31) 0), (.int (2) 0), (.int (0) 0), (.int (0) 0), (.int (3) 0), (.ref 96), (.bool true), (.int (181) 0), (.ref 97), .none, (.ref 98), (.ref 99), (.ref 100), (.int (306) 0), (.int (31) 0), (.str (S 9700865007064396754801562313776) 307)]
noncomputable def o102 (_ : Params) : Obj := ⟨(.type "function"), none, .func (PySem.W.fnOf (Str.ofString "__init__") (Str.ofString "Spots.__init__") (defArgs (inClass (top 8) 0)) (defBody (inClass (top 8) 0)) (defScope (inClass (top 8) 0)) .none .none .none (.str (S 604688386180134175214183720302048103) 242) none (.ref 101) .none), #[]⟩
noncomputable def o103 (_ : Params) : Obj := tO []
noncomputable def o105 (_ : Params) : Obj := tO [(.str (S 1735222900) 312), (.str (S 439770836337) 313), (.str (S 504229161332) 314)]
noncomputable def o106 (_ : Params) : Obj := tO []
noncomputable def o108 (_ : Params) : Obj := cO [(.str (S 148043559308712686361209447) 309), (.str (S 41670557408582523668509479316187165782356) 310), (.str (S 9700865007064396754801562313776) 311), (.int (35) 0), (.int (1) 0), (.int (0) 0), (.int (0) 0), (.int (3) 0), (.ref 103), (.bool true), (.int (181) 0), (.ref 104), .none, (.ref 105), (.ref 106), (.ref 107), (.int (315) 0), (.int (35) 0), (.str (S 9700865007064396754801562313776) 316)]
noncomputable def o109 (_ : Params) : Obj := ⟨(.type "function"), none, .func (PySem.W.fnOf (Str.ofString "first_empty") (Str.ofString "Spots.first_empty") (defArgs (inClass (top 8) 1)) (defBody (inClass (top 8) 1)) (defScope (inClass (top 8) 1)) .none .none .none (.str (S 604688386180134175214183720302048103) 242) none (.ref 108) .none), #[]⟩
noncomputable def o110 (_ : Params) : Obj := tO []
noncomputable def o112 (_ : Params) : Obj := tO [(.str (S 1735222900) 321), (.str (S 1869248629) 322)]
noncomputable def o113 (_ : Params) : Obj := tO []
noncomputable def o115 (_ : Params) : Obj := cO [(.str (S 526146714420258238851687) 318), (.str (S 148097134187830361177623957051129491796) 319), (.str (S 9700865007064396754801562313776) 320), (.int (41) 0), (.int (1) 0), (.int (0) 0), (.int (0) 0), (.int (3) 0), (.ref 110), (.bool true), (.int (181) 0), (.ref 111), .none, (.ref 112), (.ref 113), (.ref 114), (.int (323) 0), (.int (41) 0), (.str (S 9700865007064396754801562313776) 324)]
noncomputable def o116 (_ : Params) : Obj := ⟨(.type "function"), none, .func (PySem.W.fnOf (Str.ofString "first_twin") (Str.ofString "Spots.first_twin") (defArgs (inClass (top 8) 2)) (defBody (inClass (top 8) 2)) (defScope (inClass (top 8) 2)) .none .none .none (.str (S 604688386180134175214183720302048103) 242) none (.ref 115) .none), #[]⟩
noncomputable def o117 (_ : Params) : Obj := tO []
noncomputable def o120 (_ : Params) : Obj := cO [(.str (S 554573001519589316061805) 326), (.str (S 156098422687084997236258294064131109204) 327), (.str (S 9700865007064396754801562313776) 328), (.int (47) 0), (.int (1) 0), (.int (0) 0), (.int (0) 0), (.int (3) 0), (.ref 117), (.bool true), (.int (181) 0), (.ref 118), .none, .none, .none, (.ref 119), (.int (329) 0), (.int (47) 0), (.str (S 9700865007064396754801562313776) 330)]
noncomputable def o121 (_ : Params) : Obj := ⟨(.type "function"), none, .func (PySem.W.fnOf (Str.ofString "live_count") (Str.ofString "Spots.live_count") (defArgs (inClass (top 8) 3)) (defBody (inClass (top 8) 3)) (defScope (inClass (top 8) 3)) .none .none .none (.str (S 604688386180134175214183720302048103) 242) none (.ref 120) .none), #[]⟩
noncomputable def o122 (_ : Params) : Obj := ⟨(.type "tuple"), none, .seq #[(.str (Str.ofString "lying") 332), (.str (Str.ofString "twins") 333)] 0, #[]⟩
noncomputable def o123 (P : Params) : Obj := dO 4 [ent P (S 455125450472104437637216) 296 (.str (S 604688386180134175214183720302048103) 242), ent P (S 500416517772168279997240570217455712) 300 (.int (29) 299), ent P (S 6944679725401530464) 308 (.ref 102), ent P (S 148043559308712686361209447) 317 (.ref 109), ent P (S 526146714420258238851687) 325 (.ref 116), ent P (S 554573001519589316061805) 331 (.ref 121), ent P (S 140854816109632365363434125429399349832812124725344) 334 (.ref 122), ent P (S 6944679699547512928) 336 (.ref 125), ent P (S 116512133262362862868258912) 338 (.ref 126), ent P (S 27127582262911072) 339 .none]
noncomputable def o124 (_ : Params) : Obj := ⟨(.type "type"), none, .cls { name := (Str.ofString "Spots"), bases := [(.type "object")], mro := [(.ref 124), (.type "object")], ns := 123, qualname := (Str.ofString "Spots"), hasDict := true, slotNames := [], subclasses := [], abstract := false, collection := none, hasDel := false }, #[none, none, (some (.str (S 500186509652) 289)), (some (.str (S 500186509652) 297)), (some (.builtin "object.__new__")), (some (.bool true))]⟩
noncomputable def o125 (_ : Params) : Obj := ⟨(.type "getset_descriptor"), none, .fields ⟨[(.str (S 6944679699547512928) 335), (.ref 124), (.builtin "function.__dict__"), (.builtin "function.__dict__#set")]⟩, #[]⟩
noncomputable def o126 (_ : Params) : Obj := ⟨(.type "getset_descriptor"), none, .fields ⟨[(.str (S 116512133262362862868258912) 337), (.ref 124), (.builtin "ExceptionGroup.__weakref__"), .none]⟩, #[]⟩
noncomputable def o136 (_ : Params) : Obj := tO []
noncomputable def o138 (_ : Params) : Obj := tO [(.str (S 1735222900) 359), (.str (S 127983287432039) 360), (.str (S 500186508660) 361), (.str (S 1719364212) 362)]
noncomputable def o139 (_ : Params) : Obj := tO []
noncomputable def o141 (_ : Params) : Obj := cO [(.str (S 6944679725401530464) 356), (.str (S 500416912376412337332427809224026452) 357), (.str (S 9700865007064396754801562313776) 358), (.int (52) 0), (.int (4) 0), (.int (0) 0), (.int (0) 0), (.int (3) 0), (.ref 136), (.bool true), (.int (181) 0), (.ref 137), .none, (.ref 138), (.ref 139), (.ref 140), (.int (363) 0), (.int (52) 0), (.str (S 9700865007064396754801562313776) 364)]
noncomputable def o142 (_ : Params) : Obj := ⟨(.type "function"), none, .func (PySem.W.fnOf (Str.ofString "__init__") (Str.ofString "Sheets.__init__") (defArgs (inClass (top 10) 0)) (defBody (inClass (top 10) 0)) (defScope (inClass (top 10) 0)) .none .none .none (.str (S 154800023163187350263413837515144196967) 342) none (.ref 141) .none), #[]⟩
noncomputable def o143 (_ : Params) : Obj := tO []
noncomputable def o145 (_ : Params) : Obj := tO [(.str (S 1735222900) 369), (.str (S 504229161332) 370), (.str (S 126883625529449) 371), (.str (S 500035707502) 372), (.str (S 8020600) 373)]
noncomputable def o146 (_ : Params) : Obj := tO []
noncomputable def o148 (_ : Params) : Obj := cO [(.str (S 452924437351) 366), (.str (S 32636645236508639938168121684) 367), (.str (S 9700865007064396754801562313776) 368), (.int (61) 0), (.int (4) 0), (.int (0) 0), (.int (0) 0), (.int (3) 0), (.ref 143), (.bool true), (.int (181) 0), (.ref 144), .none, (.ref 145), (.ref 146), (.ref 147), (.int (374) 0), (.int (61) 0), (.str (S 9700865007064396754801562313776) 375)]
noncomputable def o149 (_ : Params) : Obj := ⟨(.type "function"), none, .func (PySem.W.fnOf (Str.ofString "fresh") (Str.ofString "Sheets.fresh") (defArgs (inClass (top 10) 1)) (defBody (inClass (top 10) 1)) (defScope (inClass (top 10) 1)) .none .none .none (.str (S 154800023163187350263413837515144196967) 342) none (.ref 148) .none), #[]⟩
noncomputable def o150 (_ : Params) : Obj := tO []
noncomputable def o152 (_ : Params) : Obj := tO [(.str (S 1735222900) 380), (.str (S 1970302324) 381), (.str (S 500035707502) 382)]
noncomputable def o153 (_ : Params) : Obj := tO []
noncomputable def o155 (_ : Params) : Obj := cO [(.str (S 1818518115) 377), (.str (S 131038040094645320163944788) 378), (.str (S 9700865007064396754801562313776) 379), (.int (68) 0), (.int (3) 0), (.int (0) 0), (.int (0) 0), (.int (3) 0), (.ref 150), (.bool true), (.int (181) 0), (.ref 151), .none, (.ref 152), (.ref 153), (.ref 154), (.int (383) 0), (.int (68) 0), (.str (S 9700865007064396754801562313776) 384)]
noncomputable def o156 (_ : Params) : Obj := ⟨(.type "function"), none, .func (PySem.W.fnOf (Str.ofString "back") (Str.ofString "Sheets.back") (defArgs (inClass (top 10) 2)) (defBody (inClass (top 10) 2)) (defScope (inClass (top 10) 2)) .none .none .none (.str (S 154800023163187350263413837515144196967) 342) none (.ref 155) .none), #[]⟩
noncomputable def o157 (_ : Params) : Obj := tO []
noncomputable def o159 (_ : Params) : Obj := tO [(.str (S 1735222900) 389), (.str (S 1970303348) 390), (.str (S 126883625529449) 391)]
noncomputable def o160 (_ : Params) : Obj := tO []
noncomputable def o162 (_ : Params) : Obj := cO [(.str (S 1701671017) 386), (.str (S 122618319342451338909215060) 387), (.str (S 9700865007064396754801562313776) 388), (.int (71) 0), (.int (3) 0), (.int (0) 0), (.int (0) 0), (.int (3) 0), (.ref 157), (.bool true), (.int (181) 0), (.ref 158), .none, (.ref 159), (.ref 160), (.ref 161), (.int (392) 0), (.int (71) 0), (.str (S 9700865007064396754801562313776) 393)]
noncomputable def o163 (_ : Params) : Obj := ⟨(.type "function"), none, .func (PySem.W.fnOf (Str.ofString "hold") (Str.ofString "Sheets.hold") (defArgs (inClass (top 10) 3)) (defBody (inClass (top 10) 3)) (defScope (inClass (top 10) 3)) .none .none .none (.str (S 154800023163187350263413837515144196967) 342) none (.ref 162) .none), #[]⟩
noncomputable def o164 (_ : Params) : Obj := tO []
noncomputable def o166 (_ : Params) : Obj := tO [(.str (S 1735222900) 398), (.str (S 1970303348) 399), (.str (S 126883625529449) 400), (.str (S 504229161332) 401)]
noncomputable def o167 (_ : Params) : Obj := tO []
noncomputable def o169 (_ : Params) : Obj := cO [(.str (S 123593597216365) 395), (.str (S 8905857253904022728413553256788) 396), (.str (S 9700865007064396754801562313776) 397), (.int (74) 0), (.int (3) 0), (.int (0) 0), (.int (0) 0), (.int (3) 0), (.ref 164), (.bool true), (.int (181) 0), (.ref 165), .none, (.ref 166), (.ref 167), (.ref 168), (.int (402) 0), (.int (74) 0), (.str (S 9700865007064396754801562313776) 403)]
noncomputable def o170 (_ : Params) : Obj := ⟨(.type "function"), none, .func (PySem.W.fnOf (Str.ofString "let_go") (Str.ofString "Sheets.let_go") (defArgs (inClass (top 10) 4)) (defBody (inClass (top 10) 4)) (defScope (inClass (top 10) 4)) .none .none .none (.str (S 154800023163187350263413837515144196967) 342) none (.ref 169) .none), #[]⟩
noncomputable def o171 (_ : Params) : Obj := tO []
noncomputable def o173 (_ : Params) : Obj := tO [(.str (S 1735222900) 408), (.str (S 1970303348) 409), (.str (S 504229161332) 410)]
noncomputable def o174 (_ : Params) : Obj := tO []
noncomputable def o176 (_ : Params) : Obj := cO [(.str (S 488476733378837491839081) 405), (.str (S 35198458150785434460000437533358669850964) 406), (.str (S 9700865007064396754801562313776) 407), (.int (80) 0), (.int (2) 0), (.int (0) 0), (.int (0) 0), (.int (3) 0), (.ref 171), (.bool true), (.int (181) 0), (.ref 172), .none, (.ref 173), (.ref 174), (.ref 175), (.int (411) 0), (.int (80) 0), (.str (S 9700865007064396754801562313776) 412)]
noncomputable def o177 (_ : Params) : Obj := ⟨(.type "function"), none, .func (PySem.W.fnOf (Str.ofString "holders_of") (Str.ofString "Sheets.holders_of") (defArgs (inClass (top 10) 5)) (defBody (inClass (top 10) 5)) (defScope (inClass (top 10) 5)) .none .none .none (.str (S 154800023163187350263413837515144196967) 342) none (.ref 176) .none), #[]⟩
noncomputable def o178 (_ : Params) : Obj := tO []
noncomputable def o180 (_ : Params) : Obj := tO [(.str (S 1735222900) 417), (.str (S 1970303348) 418)]
noncomputable def o181 (_ : Params) : Obj := tO []
noncomputable def o183 (_ : Params) : Obj := cO [(.str (S 36344496227587819637979312233) 414), (.str (S 2618896954680526433690932518906927297180625236) 415), (.str (S 9700865007064396754801562313776) 416), (.int (84) 0), (.int (2) 0), (.int (0) 0), (.int (0) 0), (.int (3) 0), (.ref 178), (.bool true), (.int (181) 0), (.ref 179), .none, (.ref 180), (.ref 181), (.ref 182), (.int (419) 0), (.int (84) 0), (.str (S 9700865007064396754801562313776) 420)]
noncomputable def o184 (_ : Params) : Obj := ⟨(.type "function"), none, .func (PySem.W.fnOf (Str.ofString "holder_count") (Str.ofString "Sheets.holder_count") (defArgs (inClass (top 10) 6)) (defBody (inClass (top 10) 6)) (defScope (inClass (top 10) 6)) .none .none .none (.str (S 154800023163187350263413837515144196967) 342) none (.ref 183) .none), #[]⟩
noncomputable def o185 (_ : Params) : Obj := tO []
noncomputable def o187 (_ : Params) : Obj := tO [(.str (S 1735222900) 425), (.str (S 1970303348) 426), (.str (S 504229161332) 427)]
noncomputable def o188 (_ : Params) : Obj := tO []
noncomputable def o190 (_ : Params) : Obj := cO [(.str (S 8458429107500640628) 422), (.str (S 609494050826874274975507821181167956) 423), (.str (S 9700865007064396754801562313776) 424), (.int (87) 0), (.int (2) 0), (.int (0) 0), (.int (0) 0), (.int (3) 0), (.ref 185), (.bool true), (.int (181) 0), (.ref 186), .none, (.ref 187), (.ref 188), (.ref 189), (.int (428) 0), (.int (87) 0), (.str (S 9700865007064396754801562313776) 429)]
noncomputable def o191 (_ : Params) : Obj := ⟨(.type "function"), none, .func (PySem.W.fnOf (Str.ofString "sheet_at") (Str.ofString "Sheets.sheet_at") (defArgs (inClass (top 10) 7)) (defBody (inClass (top 10) 7)) (defScope (inClass (top 10) 7)) .none .none .none (.str (S 154800023163187350263413837515144196967) 342) none (.ref 190) .none), #[]⟩
noncomputable def o192 (_ : Params) : Obj := tO []
noncomputable def o194 (_ : Params) : Obj := tO [(.str (S 1735222900) 434), (.str (S 439938610023) 435), (.str (S 7958627) 436)]
noncomputable def o195 (_ : Params) : Obj := tO []
noncomputable def o197 (_ : Params) : Obj := cO [(.str (S 113732352569443) 431), (.str (S 8195279690427427246896753043796) 432), (.str (S 9700865007064396754801562313776) 433), (.int (91) 0), (.int (3) 0), (.int (0) 0), (.int (0) 0), (.int (3) 0), (.ref 192), (.bool true), (.int (181) 0), (.ref 193), .none, (.ref 194), (.ref 195), (.ref 196), (.int (437) 0), (.int (91) 0), (.str (S 9700865007064396754801562313776) 438)]
noncomputable def o198 (_ : Params) : Obj := ⟨(.type "function"), none, .func (PySem.W.fnOf (Str.ofString "box_of") (Str.ofString "Sheets.box_of") (defArgs (inClass (top 10) 8)) (defBody (inClass (top 10) 8)) (defScope (inClass (top 10) 8)) .none .none .none (.str (S 154800023163187350263413837515144196967) 342) none (.ref 197) .none), #[]⟩
noncomputable def o199 (_ : Params) : Obj := tO []
noncomputable def o201 (_ : Params) : Obj := tO [(.str (S 1735222900) 443), (.str (S 439938610023) 444), (.str (S 7958627) 445), (.str (S 440073544311) 446)]
noncomputable def o202 (_ : Params) : Obj := tO []
noncomputable def o204 (_ : Params) : Obj := cO [(.str (S 34182044304369268) 440), (.str (S 2463075871870707541703845600454996) 441), (.str (S 9700865007064396754801562313776) 442), (.int (94) 0), (.int (4) 0), (.int (0) 0), (.int (0) 0), (.int (3) 0), (.ref 199), (.bool true), (.int (181) 0), (.ref 200), .none, (.ref 201), (.ref 202), (.ref 203), (.int (447) 0), (.int (94) 0), (.str (S 9700865007064396754801562313776) 448)]
noncomputable def o205 (_ : Params) : Obj := ⟨(.type "function"), none, .func (PySem.W.fnOf (Str.ofString "set_box") (Str.ofString "Sheets.set_box") (defArgs (inClass (top 10) 9)) (defBody (inClass (top 10) 9)) (defScope (inClass (top 10) 9)) .none .none .none (.str (S 154800023163187350263413837515144196967) 342) none (.ref 204) .none), #[]⟩
noncomputable def o206 (_ : Params) : Obj := tO []
noncomputable def o208 (_ : Params) : Obj := tO [(.str (S 1735222900) 453)]
noncomputable def o209 (_ : Params) : Obj := tO []
noncomputable def o211 (_ : Params) : Obj := cO [(.str (S 1701671015) 450), (.str (S 122618319198336150833359188) 451), (.str (S 9700865007064396754801562313776) 452), (.int (97) 0), (.int (1) 0), (.int (0) 0), (.int (0) 0), (.int (3) 0), (.ref 206), (.bool true), (.int (181) 0), (.ref 207), .none, (.ref 208), (.ref 209), (.ref 210), (.int (454) 0), (.int (97) 0), (.str (S 9700865007064396754801562313776) 455)]
noncomputable def o212 (_ : Params) : Obj := ⟨(.type "function"), none, .func (PySem.W.fnOf (Str.ofString "fold") (Str.ofString "Sheets.fold") (defArgs (inClass (top 10) 10)) (defBody (inClass (top 10) 10)) (defScope (inClass (top 10) 10)) .none .none .none (.str (S 154800023163187350263413837515144196967) 342) none (.ref 211) .none), #[]⟩
noncomputable def o213 (_ : Params) : Obj := tO []
noncomputable def o215 (_ : Params) : Obj := tO [(.str (S 1735222900) 460)]
noncomputable def o216 (_ : Params) : Obj := tO []
noncomputable def o218 (_ : Params) : Obj := cO [(.str (S 140789800901245672938236525) 457), (.str (S 10144974318022661352875422811256588356446548) 458), (.str (S 9700865007064396754801562313776) 459), (.int (100) 0), (.int (1) 0), (.int (0) 0), (.int (0) 0), (.int (3) 0), (.ref 213), (.bool true), (.int (181) 0), (.ref 214), .none, (.ref 215), (.ref 216), (.ref 217), (.int (461) 0), (.int (100) 0), (.str (S 9700865007064396754801562313776) 462)]
noncomputable def o219 (_ : Params) : Obj := ⟨(.type "function"), none, .func (PySem.W.fnOf (Str.ofString "live_sheets") (Str.ofString "Sheets.live_sheets") (defArgs (inClass (top 10) 11)) (defBody (inClass (top 10) 11)) (defScope (inClass (top 10) 11)) .none .none .none (.str (S 154800023163187350263413837515144196967) 342) none (.ref 218) .none), #[]⟩
noncomputable def o220 (_ : Params) : Obj := tO []
noncomputable def o222 (_ : Params) : Obj := tO [(.str (S 1735222900) 467)]
noncomputable def o223 (_ : Params) : Obj := tO []
noncomputable def o225 (_ : Params) : Obj := cO [(.str (S 30801127769404522) 464), (.str (S 2219455160718099884163236951910740) 465), (.str (S 9700865007064396754801562313776) 466), (.int (103) 0), (.int (1) 0), (.int (0) 0), (.int (0) 0), (.int (3) 0), (.ref 220), (.bool true), (.int (181) 0), (.ref 221), .none, (.ref 222), (.ref 223), (.ref 224), (.int (468) 0), (.int (103) 0), (.str (S 9700865007064396754801562313776) 469)]
noncomputable def o226 (_ : Params) : Obj := ⟨(.type "function"), none, .func (PySem.W.fnOf (Str.ofString "is_full") (Str.ofString "Sheets.is_full") (defArgs (inClass (top 10) 12)) (defBody (inClass (top 10) 12)) (defScope (inClass (top 10) 12)) .none .none .none (.str (S 154800023163187350263413837515144196967) 342) none (.ref 225) .none), #[]⟩
noncomputable def o227 (_ : Params) : Obj := tO []
noncomputable def o229 (_ : Params) : Obj := tO [(.str (S 1735222900) 474)]
noncomputable def o230 (_ : Params) : Obj := tO []
noncomputable def o232 (_ : Params) : Obj := cO [(.str (S 33040738433327721) 471), (.str (S 2380836116742092014812639552498004) 472), (.str (S 9700865007064396754801562313776) 473), (.int (106) 0), (.int (1) 0), (.int (0) 0), (.int (0) 0), (.int (3) 0), (.ref 227), (.bool true), (.int (181) 0), (.ref 228), .none, (.ref 229), (.ref 230), (.ref 231), (.int (475) 0), (.int (106) 0), (.str (S 9700865007064396754801562313776) 476)]
noncomputable def o233 (_ : Params) : Obj := ⟨(.type "function"), none, .func (PySem.W.fnOf (Str.ofString "hand_at") (Str.ofString "Sheets.hand_at") (defArgs (inClass (top 10) 13)) (defBody (inClass (top 10) 13)) (defScope (inClass (top 10) 13)) .none .none .none (.str (S 154800023163187350263413837515144196967) 342) none (.ref 232) .none), #[]⟩
noncomputable def o234 (_ : Params) : Obj := tO []
noncomputable def o236 (_ : Params) : Obj := tO [(.str (S 1735222900) 481), (.str (S 1701671029) 482), (.str (S 439938610023) 483), (.str (S 504229161332) 484)]
noncomputable def o237 (_ : Params) : Obj := tO []
noncomputable def o239 (_ : Params) : Obj := cO [(.str (S 140719112692525297883246709) 478), (.str (S 10139880695775420249778937948812234134546772) 479), (.str (S 9700865007064396754801562313776) 480), (.int (109) 0), (.int (1) 0), (.int (0) 0), (.int (0) 0), (.int (3) 0), (.ref 234), (.bool true), (.int (181) 0), (.ref 235), .none, (.ref 236), (.ref 237), (.ref 238), (.int (485) 0), (.int (109) 0), (.str (S 9700865007064396754801562313776) 486)]
noncomputable def o240 (_ : Params) : Obj := ⟨(.type "function"), none, .func (PySem.W.fnOf (Str.ofString "told_frames") (Str.ofString "Sheets.told_frames") (defArgs (inClass (top 10) 14)) (defBody (inClass (top 10) 14)) (defScope (inClass (top 10) 14)) .none .none .none (.str (S 154800023163187350263413837515144196967) 342) none (.ref 239) .none), #[]⟩
noncomputable def o241 (_ : Params) : Obj := tO []
noncomputable def o244 (_ : Params) : Obj := cO [(.str (S 549960882328764939071605) 488), (.str (S 39628857995586799648525390943893217241428) 489), (.str (S 9700865007064396754801562313776) 490), (.int (118) 0), (.int (1) 0), (.int (0) 0), (.int (0) 0), (.int (3) 0), (.ref 241), (.bool true), (.int (181) 0), (.ref 242), .none, .none, .none, (.ref 243), (.int (491) 0), (.int (118) 0), (.str (S 9700865007064396754801562313776) 492)]
noncomputable def o245 (_ : Params) : Obj := ⟨(.type "function"), none, .func (PySem.W.fnOf (Str.ofString "told_slots") (Str.ofString "Sheets.told_slots") (defArgs (inClass (top 10) 15)) (defBody (inClass (top 10) 15)) (defScope (inClass (top 10) 15)) .none .none .none (.str (S 154800023163187350263413837515144196967) 342) none (.ref 244) .none), #[]⟩
noncomputable def o246 (_ : Params) : Obj := tO []
noncomputable def o248 (_ : Params) : Obj := tO [(.str (S 1735222900) 497)]
noncomputable def o249 (_ : Params) : Obj := tO []
noncomputable def o251 (_ : Params) : Obj := cO [(.str (S 435510800494) 494), (.str (S 31381860461143034575928584532) 495), (.str (S 9700865007064396754801562313776) 496), (.int (121) 0), (.int (1) 0), (.int (0) 0), (.int (0) 0), (.int (3) 0), (.ref 246), (.bool true), (.int (181) 0), (.ref 247), .none, (.ref 248), (.ref 249), (.ref 250), (.int (498) 0), (.int (121) 0), (.str (S 9700865007064396754801562313776) 499)]
noncomputable def o252 (_ : Params) : Obj := ⟨(.type "function"), none, .func (PySem.W.fnOf (Str.ofString "moved") (Str.ofString "Sheets.moved") (defArgs (inClass (top 10) 16)) (defBody (inClass (top 10) 16)) (defScope (inClass (top 10) 16)) .none .none .none (.str (S 154800023163187350263413837515144196967) 342) none (.ref 251) .none), #[]⟩
noncomputable def o253 (_ : Params) : Obj := tO []
noncomputable def o255 (_ : Params) : Obj := tO [(.str (S 1735222900) 504), (.str (S 1970303348) 505), (.str (S 500186509684) 506)]
noncomputable def o256 (_ : Params) : Obj := tO []
noncomputable def o258 (_ : Params) : Obj := cO [(.str (S 8458429051817327213) 501), (.str (S 609494046814468682230731163709106516) 502), (.str (S 9700865007064396754801562313776) 503), (.int (124) 0), (.int (2) 0), (.int (0) 0), (.int (0) 0), (.int (3) 0), (.ref 253), (.bool true), (.int (181) 0), (.ref 254), .none, (.ref 255), (.ref 256), (.ref 257), (.int (507) 0), (.int (124) 0), (.str (S 9700865007064396754801562313776) 508)]
noncomputable def o259 (_ : Params) : Obj := ⟨(.type "function"), none, .func (PySem.W.fnOf (Str.ofString "lying_at") (Str.ofString "Sheets.lying_at") (defArgs (inClass (top 10) 17)) (defBody (inClass (top 10) 17)) (defScope (inClass (top 10) 17)) .none .none .none (.str (S 154800023163187350263413837515144196967) 342) none (.ref 258) .none), #[]⟩
noncomputable def o260 (_ : Params) : Obj := tO []
noncomputable def o262 (_ : Params) : Obj := tO [(.str (S 1735222900) 513)]
noncomputable def o263 (_ : Params) : Obj := tO []
noncomputable def o265 (_ : Params) : Obj := cO [(.str (S 2148284700994785078626) 510), (.str (S 154800226862173623962013088011365280084) 511), (.str (S 9700865007064396754801562313776) 512), (.int (128) 0), (.int (1) 0), (.int (0) 0), (.int (0) 0), (.int (3) 0), (.ref 260), (.bool true), (.int (181) 0), (.ref 261), .none, (.ref 262), (.ref 263), (.ref 264), (.int (514) 0), (.int (128) 0), (.str (S 9700865007064396754801562313776) 515)]
noncomputable def o266 (_ : Params) : Obj := ⟨(.type "function"), none, .func (PySem.W.fnOf (Str.ofString "all_spots") (Str.ofString "Sheets.all_spots") (defArgs (inClass (top 10) 18)) (defBody (inClass (top 10) 18)) (defScope (inClass (top 10) 18)) .none .none .none (.str (S 154800023163187350263413837515144196967) 342) none (.ref 265) .none), #[]⟩
noncomputable def o267 (_ : Params) : Obj := tO []
noncomputable def o269 (_ : Params) : Obj := tO [(.str (S 1735222900) 520), (.str (S 1970302324) 521), (.str (S 504229161332) 522), (.str (S 439938610023) 523)]
noncomputable def o270 (_ : Params) : Obj := tO []
noncomputable def o272 (_ : Params) : Obj := cO [(.str (S 2166370315886094282869) 517), (.str (S 156103432757937886773936481808104712532) 518), (.str (S 9700865007064396754801562313776) 519), (.int (131) 0), (.int (2) 0), (.int (0) 0), (.int (0) 0), (.int (3) 0), (.ref 267), (.bool true), (.int (181) 0), (.ref 268), .none, (.ref 269), (.ref 270), (.ref 271), (.int (524) 0), (.int (131) 0), (.str (S 9700865007064396754801562313776) 525)]
noncomputable def o273 (_ : Params) : Obj := ⟨(.type "function"), none, .func (PySem.W.fnOf (Str.ofString "told_slot") (Str.ofString "Sheets.told_slot") (defArgs (inClass (top 10) 19)) (defBody (inClass (top 10) 19)) (defScope (inClass (top 10) 19)) .none .none .none (.str (S 154800023163187350263413837515144196967) 342) none (.ref 272) .none), #[]⟩
noncomputable def o274 (_ : Params) : Obj := tO []
noncomputable def o276 (_ : Params) : Obj := tO [(.str (S 1735222900) 530), (.str (S 1970303348) 531), (.str (S 495639426416) 532)]
noncomputable def o277 (_ : Params) : Obj := tO []
noncomputable def o279 (_ : Params) : Obj := cO [(.str (S 2128759062150016623209) 527), (.str (S 153393256304966102397104309401490450772) 528), (.str (S 9700865007064396754801562313776) 529), (.int (140) 0), (.int (3) 0), (.int (0) 0), (.int (0) 0), (.int (3) 0), (.ref 274), (.bool true), (.int (181) 0), (.ref 275), .none, (.ref 276), (.ref 277), (.ref 278), (.int (533) 0), (.int (140) 0), (.str (S 9700865007064396754801562313776) 534)]
noncomputable def o280 (_ : Params) : Obj := ⟨(.type "function"), none, .func (PySem.W.fnOf (Str.ofString "hand_over") (Str.ofString "Sheets.hand_over") (defArgs (inClass (top 10) 20)) (defBody (inClass (top 10) 20)) (defScope (inClass (top 10) 20)) .none .none .none (.str (S 154800023163187350263413837515144196967) 342) none (.ref 279) .none), #[]⟩
noncomputable def o281 (_ : Params) : Obj := tO []
noncomputable def o283 (_ : Params) : Obj := tO [(.str (S 1735222900) 539), (.str (S 1970303348) 540)]
noncomputable def o284 (_ : Params) : Obj := tO []
noncomputable def o286 (_ : Params) : Obj := cO [(.str (S 578295153549658678911598) 536), (.str (S 41670557408582505496529931128187121985876) 537), (.str (S 9700865007064396754801562313776) 538), (.int (143) 0), (.int (2) 0), (.int (0) 0), (.int (0) 0), (.int (3) 0), (.ref 281), (.bool true), (.int (181) 0), (.ref 282), .none, (.ref 283), (.ref 284), (.ref 285), (.int (541) 0), (.int (143) 0), (.str (S 9700865007064396754801562313776) 542)]
noncomputable def o287 (_ : Params) : Obj := ⟨(.type "function"), none, .func (PySem.W.fnOf (Str.ofString "make_empty") (Str.ofString "Sheets.make_empty") (defArgs (inClass (top 10) 21)) (defBody (inClass (top 10) 21)) (defScope (inClass (top 10) 21)) .none .none .none (.str (S 154800023163187350263413837515144196967) 342) none (.ref 286) .none), #[]⟩
noncomputable def o288 (_ : Params) : Obj := tO []
noncomputable def o290 (_ : Params) : Obj := tO [(.str (S 1735222900) 547), (.str (S 439938610023) 548), (.str (S 1970302324) 549)]
noncomputable def o291 (_ : Params) : Obj := tO []
noncomputable def o293 (_ : Params) : Obj := cO [(.str (S 2055260603203882086509) 544), (.str (S 148097134187812227235189991446143199572) 545), (.str (S 9700865007064396754801562313776) 546), (.int (150) 0), (.int (2) 0), (.int (0) 0), (.int (0) 0), (.int (3) 0), (.ref 288), (.bool true), (.int (181) 0), (.ref 289), .none, (.ref 290), (.ref 291), (.ref 292), (.int (550) 0), (.int (150) 0), (.str (S 9700865007064396754801562313776) 551)]
noncomputable def o294 (_ : Params) : Obj := ⟨(.type "function"), none, .func (PySem.W.fnOf (Str.ofString "lose_twin") (Str.ofString "Sheets.lose_twin") (defArgs (inClass (top 10) 22)) (defBody (inClass (top 10) 22)) (defScope (inClass (top 10) 22)) .none .none .none (.str (S 154800023163187350263413837515144196967) 342) none (.ref 293) .none), #[]⟩
noncomputable def o295 (_ : Params) : Obj := tO []
noncomputable def o297 (_ : Params) : Obj := tO [(.str (S 1735222900) 556), (.str (S 133512874028327697487130724) 557), (.str (S 500035707502) 558), (.str (S 439938610023) 559), (.str (S 112581468514660) 560)]
noncomputable def o298 (_ : Params) : Obj := tO []
noncomputable def o300 (_ : Params) : Obj := cO [(.str (S 2129475116924502438759) 553), (.str (S 153444853489214921332424288546578655572) 554), (.str (S 9700865007064396754801562313776) 555), (.int (156) 0), (.int (3) 0), (.int (0) 0), (.int (0) 0), (.int (3) 0), (.ref 295), (.bool true), (.int (181) 0), (.ref 296), .none, (.ref 297), (.ref 298), (.ref 299), (.int (561) 0), (.int (156) 0), (.str (S 9700865007064396754801562313776) 562)]
noncomputable def o301 (_ : Params) : Obj := ⟨(.type "function"), none, .func (PySem.W.fnOf (Str.ofString "frame_for") (Str.ofString "Sheets.frame_for") (defArgs (inClass (top 10) 23)) (defBody (inClass (top 10) 23)) (defScope (inClass (top 10) 23)) .none .none .none (.str (S 154800023163187350263413837515144196967) 342) none (.ref 300) .none), #[]⟩
noncomputable def o302 (_ : Params) : Obj := tO []
noncomputable def o304 (_ : Params) : Obj := tO [(.str (S 1735222900) 567), (.str (S 439938610023) 568), (.str (S 133512874028327697487130724) 569), (.str (S 504229161332) 570), (.str (S 1970302324) 571)]
noncomputable def o305 (_ : Params) : Obj := tO []
noncomputable def o307 (_ : Params) : Obj := cO [(.str (S 33062797301872241) 564), (.str (S 2382425625736609055251908520208724) 565), (.str (S 9700865007064396754801562313776) 566), (.int (164) 0), (.int (3) 0), (.int (0) 0), (.int (0) 0), (.int (3) 0), (.ref 302), (.bool true), (.int (181) 0), (.ref 303), .none, (.ref 304), (.ref 305), (.ref 306), (.int (572) 0), (.int (164) 0), (.str (S 9700865007064396754801562313776) 573)]
noncomputable def o308 (_ : Params) : Obj := ⟨(.type "function"), none, .func (PySem.W.fnOf (Str.ofString "put_out") (Str.ofString "Sheets.put_out") (defArgs (inClass (top 10) 24)) (defBody (inClass (top 10) 24)) (defScope (inClass (top 10) 24)) .none .none .none (.str (S 154800023163187350263413837515144196967) 342) none (.ref 307) .none), #[]⟩
noncomputable def o309 (_ : Params) : Obj := tO []
noncomputable def o311 (_ : Params) : Obj := tO [(.str (S 1735222900) 578), (.str (S 439938610023) 579), (.str (S 133512874028327697487130724) 580), (.str (S 525956378214) 581), (.str (S 1869248629) 582)]
noncomputable def o312 (_ : Params) : Obj := tO []
noncomputable def o314 (_ : Params) : Obj := cO [(.str (S 8318262175738129780) 575), (.str (S 599393958960389321452523230538918228) 576), (.str (S 9700865007064396754801562313776) 577), (.int (176) 0), (.int (3) 0), (.int (0) 0), (.int (0) 0), (.int (3) 0), (.ref 309), (.bool true), (.int (181) 0), (.ref 310), .none, (.ref 311), (.ref 312), (.ref 313), (.int (583) 0), (.int (176) 0), (.str (S 9700865007064396754801562313776) 584)]
noncomputable def o315 (_ : Params) : Obj := ⟨(.type "function"), none, .func (PySem.W.fnOf (Str.ofString "slot_for") (Str.ofString "Sheets.slot_for") (defArgs (inClass (top 10) 25)) (defBody (inClass (top 10) 25)) (defScope (inClass (top 10) 25)) .none .none .none (.str (S 154800023163187350263413837515144196967) 342) none (.ref 314) .none), #[]⟩
noncomputable def o316 (_ : Params) : Obj := ⟨(.type "tuple"), none, .seq #[(.str (Str.ofString "come_back") 586), (.str (Str.ofString "frames") 587), (.str (Str.ofString "gone_astray") 588), (.str (Str.ofString "gone_out") 589), (.str (Str.ofString "hand") 590), (.str (Str.ofString "size") 591), (.str (Str.ofString "slots") 592)] 0, #[]⟩
noncomputable def o317 (P : Params) : Obj := dO 4 [ent P (S 455125450472104437637216) 351 (.str (S 154800023163187350263413837515144196967) 342), ent P (S 500416517772168279997240570217455712) 355 (.int (50) 354), ent P (S 6944679725401530464) 365 (.ref 142), ent P (S 452924437351) 376 (.ref 149), ent P (S 1818518115) 385 (.ref 156), ent P (S 1701671017) 394 (.ref 163), ent P (S 123593597216365) 404 (.ref 170), ent P (S 488476733378837491839081) 413 (.ref 177), ent P (S 36344496227587819637979312233) 421 (.ref 184), ent P (S 8458429107500640628) 430 (.ref 191), ent P (S 113732352569443) 439 (.ref 198), ent P (S 34182044304369268) 449 (.ref 205), ent P (S 1701671015) 456 (.ref 212), ent P (S 140789800901245672938236525) 463 (.ref 219), ent P (S 30801127769404522) 470 (.ref 226), ent P (S 33040738433327721) 477 (.ref 233), ent P (S 140719112692525297883246709) 487 (.ref 240), ent P (S 549960882328764939071605) 493 (.ref 245), ent P (S 435510800494) 500 (.ref 252), ent P (S 8458429051817327213) 509 (.ref 259), ent P (S 2148284700994785078626) 516 (.ref 266), ent P (S 2166370315886094282869) 526 (.ref 273), ent P (S 2128759062150016623209) 535 (.ref 280), ent P (S 578295153549658678911598) 543 (.ref 287), ent P (S 2055260603203882086509) 552 (.ref 294), ent P (S 2129475116924502438759) 563 (.ref 301), ent P (S 33062797301872241) 574 (.ref 308), ent P (S 8318262175738129780) 585 (.ref 315), ent P (S 140854816109632365363434125429399349832812124725344) 593 (.ref 316), ent P (S 6944679699547512928) 595 (.ref 319), ent P (S 116512133262362862868258912) 597 (.ref 320), ent P (S 27127582262911072) 598 .none]
noncomputable def o318 (_ : Params) : Obj := ⟨(.type "type"), none, .cls { name := (Str.ofString "Sheets"), bases := [(.type "object")], mro := [(.ref 318), (.type "object")], ns := 317, qualname := (Str.ofString "Sheets"), hasDict := true, slotNames := [], subclasses := [], abstract := false, collection := none, hasDel := false }, #[none, none, (some (.str (S 128047577983316) 344)), (some (.str (S 128047577983316) 352)), (some (.builtin "object.__new__")), (some (.bool true))]⟩
noncomputable def o319 (_ : Params) : Obj := ⟨(.type "getset_descriptor"), none, .fields ⟨[(.str (S 6944679699547512928) 594), (.ref 318), (.builtin "function.__dict__"), (.builtin "function.__dict__#set")]⟩, #[]⟩
noncomputable def o320 (_ : Params) : Obj := ⟨(.type "getset_descriptor"), none, .fields ⟨[(.str (S 116512133262362862868258912) 596), (.ref 318), (.builtin "ExceptionGroup.__weakref__"), .none]⟩, #[]⟩
noncomputable def o323 (_ : Params) : Obj := tO []
noncomputable def o325 (_ : Params) : Obj := tO [(.str (S 141979911977246466280418656) 606), (.str (S 119161592376672) 607)]
noncomputable def o326 (_ : Params) : Obj := tO []
noncomputable def o328 (_ : Params) : Obj := cO [(.str (S 2018578202597599112544) 603), (.str (S 2018578202597599112544) 604), (.str (S 9700865007064396754801562313776) 605), (.int (185) 0), (.int (2) 0), (.int (0) 0), (.int (0) 0), (.int (3) 0), (.ref 323), (.bool true), (.int (181) 0), (.ref 324), .none, (.ref 325), (.ref 326), (.ref 327), (.int (608) 0), (.int (185) 0), (.str (S 9700865007064396754801562313776) 609)]
noncomputable def o329 (_ : Params) : Obj := ⟨(.type "function"), none, .func (PySem.W.fnOf (Str.ofString "_law_cell") (Str.ofString "_law_cell") (defArgs (top 12)) (defBody (top 12)) (defScope (top 12)) .none .none .none (.str (S 228175953472027334613558212148039043305495223970977184829022546331595881686433904747117) 601) none (.ref 328) .none), #[]⟩
noncomputable def o330 (_ : Params) : Obj := tO []
noncomputable def o332 (_ : Params) : Obj := tO [(.str (S 479015137796973828140384) 614), (.str (S 7383200104131489120) 615), (.str (S 119161592376672) 616)]
noncomputable def o333 (_ : Params) : Obj := tO []
noncomputable def o335 (_ : Params) : Obj := cO [(.str (S 1889380072283105815904) 611), (.str (S 1889380072283105815904) 612), (.str (S 9700865007064396754801562313776) 613), (.int (189) 0), (.int (2) 0), (.int (0) 0), (.int (0) 0), (.int (3) 0), (.ref 330), (.bool true), (.int (181) 0), (.ref 331), .none, (.ref 332), (.ref 333), (.ref 334), (.int (617) 0), (.int (189) 0), (.str (S 9700865007064396754801562313776) 618)]
noncomputable def o336 (_ : Params) : Obj := ⟨(.type "function"), none, .func (PySem.W.fnOf (Str.ofString "_law_like") (Str.ofString "_law_like") (defArgs (top 13)) (defBody (top 13)) (defScope (top 13)) .none .none .none (.str (S 228175953472027334613558212148039043305495223970977184829022546331595881686433904747117) 601) none (.ref 335) .none), #[]⟩
noncomputable def o337 (_ : Params) : Obj := tO []
noncomputable def o339 (_ : Params) : Obj := tO [(.str (S 2077948713125189379357033996905824) 623), (.str (S 8678556743046950240) 624), (.str (S 2258528875839108574560) 625)]
noncomputable def o340 (_ : Params) : Obj := tO []
noncomputable def o342 (_ : Params) : Obj := cO [(.str (S 1890460943890256129376) 620), (.str (S 1890460943890256129376) 621), (.str (S 9700865007064396754801562313776) 622), (.int (208) 0), (.int (3) 0), (.int (0) 0), (.int (0) 0), (.int (3) 0), (.ref 337), (.bool true), (.int (181) 0), (.ref 338), .none, (.ref 339), (.ref 340), (.ref 341), (.int (626) 0), (.int (208) 0), (.str (S 9700865007064396754801562313776) 627)]
noncomputable def o343 (_ : Params) : Obj := ⟨(.type "function"), none, .func (PySem.W.fnOf (Str.ofString "_law_size") (Str.ofString "_law_size") (defArgs (top 14)) (defBody (top 14)) (defScope (top 14)) .none .none .none (.str (S 228175953472027334613558212148039043305495223970977184829022546331595881686433904747117) 601) none (.ref 342) .none), #[]⟩
noncomputable def o344 (_ : Params) : Obj := tO []
noncomputable def o347 (_ : Params) : Obj := cO [(.str (S 554405825948688972934496) 629), (.str (S 554405825948688972934496) 630), (.str (S 9700865007064396754801562313776) 631), (.int (212) 0), (.int (3) 0), (.int (0) 0), (.int (0) 0), (.int (3) 0), (.ref 344), (.bool true), (.int (181) 0), (.ref 345), .none, .none, .none, (.ref 346), (.int (632) 0), (.int (212) 0), (.str (S 9700865007064396754801562313776) 633)]
noncomputable def o348 (_ : Params) : Obj := ⟨(.type "function"), none, .func (PySem.W.fnOf (Str.ofString "_law_sheet") (Str.ofString "_law_sheet") (defArgs (top 15)) (defBody (top 15)) (defScope (top 15)) .none .none .none (.str (S 228175953472027334613558212148039043305495223970977184829022546331595881686433904747117) 601) none (.ref 347) .none), #[]⟩
noncomputable def o349 (_ : Params) : Obj := tO []
noncomputable def o351 (_ : Params) : Obj := tO [(.str (S 140789800901245673238850912) 638), (.str (S 526145126919991160106336) 639), (.str (S 531954870560086130921484406808014176) 640), (.str (S 139510021644005314150952288) 641), (.str (S 549795074702062171352416) 642), (.str (S 554665017381624725269856) 643), (.str (S 122585060309575044106972512) 644), (.str (S 479015137796973828140384) 645)]
noncomputable def o352 (_ : Params) : Obj := tO []
noncomputable def o354 (_ : Params) : Obj := cO [(.str (S 497995685371741280038240) 635), (.str (S 497995685371741280038240) 636), (.str (S 9700865007064396754801562313776) 637), (.int (214) 0), (.int (5) 0), (.int (0) 0), (.int (0) 0), (.int (3) 0), (.ref 349), (.bool true), (.int (181) 0), (.ref 350), .none, (.ref 351), (.ref 352), (.ref 353), (.int (646) 0), (.int (214) 0), (.str (S 9700865007064396754801562313776) 647)]
noncomputable def o355 (_ : Params) : Obj := ⟨(.type "function"), none, .func (PySem.W.fnOf (Str.ofString "_law_fresh") (Str.ofString "_law_fresh") (defArgs (top 16)) (defBody (top 16)) (defScope (top 16)) .none .none .none (.str (S 228175953472027334613558212148039043305495223970977184829022546331595881686433904747117) 601) none (.ref 354) .none), #[]⟩
noncomputable def o356 (_ : Params) : Obj := tO []
noncomputable def o358 (_ : Params) : Obj := tO [(.str (S 140789800901245673238850912) 652), (.str (S 526145126919991160106336) 653), (.str (S 33040738751245664) 654), (.str (S 119161592376672) 655), (.str (S 483533148109722095873376) 656)]
noncomputable def o359 (_ : Params) : Obj := tO []
noncomputable def o361 (_ : Params) : Obj := cO [(.str (S 135892597258057197952331104) 649), (.str (S 135892597258057197952331104) 650), (.str (S 9700865007064396754801562313776) 651), (.int (223) 0), (.int (3) 0), (.int (0) 0), (.int (0) 0), (.int (3) 0), (.ref 356), (.bool true), (.int (181) 0), (.ref 357), .none, (.ref 358), (.ref 359), (.ref 360), (.int (657) 0), (.int (223) 0), (.str (S 9700865007064396754801562313776) 658)]
noncomputable def o362 (_ : Params) : Obj := ⟨(.type "function"), none, .func (PySem.W.fnOf (Str.ofString "_law_let_go") (Str.ofString "_law_let_go") (defArgs (top 17)) (defBody (top 17)) (defScope (top 17)) .none .none .none (.str (S 228175953472027334613558212148039043305495223970977184829022546331595881686433904747117) 601) none (.ref 361) .none), #[]⟩
noncomputable def o363 (_ : Params) : Obj := tO []
noncomputable def o366 (_ : Params) : Obj := cO [(.str (S 7889517) 660), (.str (S 7889517) 661), (.str (S 9700865007064396754801562313776) 662), (.int (231) 0), (.int (1) 0), (.int (0) 0), (.int (0) 0), (.int (3) 0), (.ref 363), (.bool true), (.int (181) 0), (.ref 364), .none, .none, .none, (.ref 365), (.int (663) 0), (.int (231) 0), (.str (S 9700865007064396754801562313776) 664)]
noncomputable def o367 (_ : Params) : Obj := ⟨(.type "function"), none, .func (PySem.W.fnOf (Str.ofString "law") (Str.ofString "law") (defArgs (top 18)) (defBody (top 18)) (defScope (top 18)) .none .none .none (.str (S 228175953472027334613558212148039043305495223970977184829022546331595881686433904747117) 601) none (.ref 366) .none), #[]⟩
noncomputable def Kf : Params → PySem.W.Frag := fun P => (nat_lit 2, o2 P) :: (nat_lit 3, o3 P) :: (nat_lit 15, o15 P) :: (nat_lit 17, o17 P) :: (nat_lit 18, o18 P) :: (nat_lit 20, o20 P) :: (nat_lit 21, o21 P) :: (nat_lit 22, o22 P) :: (nat_lit 29, o29 P) :: (nat_lit 30, o30 P) :: (nat_lit 31, o31 P) :: (nat_lit 32, o32 P) :: (nat_lit 35, o35 P) :: (nat_lit 42, o42 P) :: (nat_lit 43, o43 P) :: (nat_lit 44, o44 P) :: (nat_lit 47, o47 P) :: (nat_lit 49, o49 P) :: (nat_lit 50, o50 P) :: (nat_lit 52, o52 P) :: (nat_lit 53, o53 P) :: (nat_lit 61, o61 P) :: (nat_lit 63, o63 P) :: (nat_lit 64, o64 P) :: (nat_lit 66, o66 P) :: (nat_lit 67, o67 P) :: (nat_lit 68, o68 P) :: (nat_lit 70, o70 P) :: (nat_lit 71, o71 P) :: (nat_lit 73, o73 P) :: (nat_lit 74, o74 P) :: (nat_lit 75, o75 P) :: (nat_lit 77, o77 P) :: (nat_lit 78, o78 P) :: (nat_lit 80, o80 P) :: (nat_lit 81, o81 P) :: (nat_lit 82, o82 P) :: (nat_lit 83, o83 P) :: (nat_lit 84, o84 P) :: (nat_lit 85, o85 P) :: (nat_lit 86, o86 P) :: (nat_lit 96, o96 P) :: (nat_lit 98, o98 P) :: (nat_lit 99, o99 P) :: (nat_lit 101, o101 P) :: (nat_lit 102, o102 P) :: (nat_lit 103, o103 P) :: (nat_lit 105, o105 P) :: (nat_lit 106, o106 P) :: (nat_lit 108, o108 P) :: (nat_lit 109, o109 P) :: (nat_lit 110, o110 P) :: (nat_lit 112, o112 P) :: (nat_lit 113, o113 P) :: (nat_lit 115, o115 P) :: (nat_lit 116, o116 P) :: (nat_lit 117, o117 P) :: (nat_lit 120, o120 P) :: (nat_lit 121, o121 P) :: (nat_lit 122, o122 P) :: (nat_lit 123, o123 P) :: (nat_lit 124, o124 P) :: (nat_lit 125, o125 P) :: (nat_lit 126, o126 P) :: (nat_lit 136, o136 P) :: (nat_lit 138, o138 P) :: (nat_lit 139, o139 P) :: (nat_lit 141, o141 P) :: (nat_lit 142, o142 P) :: (nat_lit 143, o143 P) :: (nat_lit 145, o145 P) :: (nat_lit 146, o146 P) :: (nat_lit 148, o148 P) :: (nat_lit 149, o149 P) :: (nat_lit 150, o150 P) :: (nat_lit 152, o152 P) :: (nat_lit 153, o153 P) :: (nat_lit 155, o155 P) :: (nat_lit 156, o156 P) :: (nat_lit 157, o157 P) :: (nat_lit 159, o159 P) :: (nat_lit 160, o160 P) :: (nat_lit 162, o162 P) :: (nat_lit 163, o163 P) :: (nat_lit 164, o164 P) :: (nat_lit 166, o166 P) :: (nat_lit 167, o167 P) :: (nat_lit 169, o169 P) :: (nat_lit 170, o170 P) :: (nat_lit 171, o171 P) :: (nat_lit 173, o173 P) :: (nat_lit 174, o174 P) :: (nat_lit 176, o176 P) :: (nat_lit 177, o177 P) :: (nat_lit 178, o178 P) :: (nat_lit 180, o180 P) :: (nat_lit 181, o181 P) :: (nat_lit 183, o183 P) :: (nat_lit 184, o184 P) :: (nat_lit 185, o185 P) :: (nat_lit 187, o187 P) :: (nat_lit 188, o188 P) :: (nat_lit 190, o190 P) :: (nat_lit 191, o191 P) :: (nat_lit 192, o192 P) :: (nat_lit 194, o194 P) :: (nat_lit 195, o195 P) :: (nat_lit 197, o197 P) :: (nat_lit 198, o198 P) :: (nat_lit 199, o199 P) :: (nat_lit 201, o201 P) :: (nat_lit 202, o202 P) :: (nat_lit 204, o204 P) :: (nat_lit 205, o205 P) :: (nat_lit 206, o206 P) :: (nat_lit 208, o208 P) :: (nat_lit 209, o209 P) :: (nat_lit 211, o211 P) :: (nat_lit 212, o212 P) :: (nat_lit 213, o213 P) :: (nat_lit 215, o215 P) :: (nat_lit 216, o216 P) :: (nat_lit 218, o218 P) :: (nat_lit 219, o219 P) :: (nat_lit 220, o220 P) :: (nat_lit 222, o222 P) :: (nat_lit 223, o223 P) :: (nat_lit 225, o225 P) :: (nat_lit 226, o226 P) :: (nat_lit 227, o227 P) :: (nat_lit 229, o229 P) :: (nat_lit 230, o230 P) :: (nat_lit 232, o232 P) :: (nat_lit 233, o233 P) :: (nat_lit 234, o234 P) :: (nat_lit 236, o236 P) :: (nat_lit 237, o237 P) :: (nat_lit 239, o239 P) :: (nat_lit 240, o240 P) :: (nat_lit 241, o241 P) :: (nat_lit 244, o244 P) :: (nat_lit 245, o245 P) :: (nat_lit 246, o246 P) :: (nat_lit 248, o248 P) :: (nat_lit 249, o249 P) :: (nat_lit 251, o251 P) :: (nat_lit 252, o252 P) :: (nat_lit 253, o253 P) :: (nat_lit 255, o255 P) :: (nat_lit 256, o256 P) :: (nat_lit 258, o258 P) :: (nat_lit 259, o259 P) :: (nat_lit 260, o260 P) :: (nat_lit 262, o262 P) :: (nat_lit 263, o263 P) :: (nat_lit 265, o265 P) :: (nat_lit 266, o266 P) :: (nat_lit 267, o267 P) :: (nat_lit 269, o269 P) :: (nat_lit 270, o270 P) :: (nat_lit 272, o272 P) :: (nat_lit 273, o273 P) :: (nat_lit 274, o274 P) :: (nat_lit 276, o276 P) :: (nat_lit 277, o277 P) :: (nat_lit 279, o279 P) :: (nat_lit 280, o280 P) :: (nat_lit 281, o281 P) :: (nat_lit 283, o283 P) :: (nat_lit 284, o284 P) :: (nat_lit 286, o286 P) :: (nat_lit 287, o287 P) :: (nat_lit 288, o288 P) :: (nat_lit 290, o290 P) :: (nat_lit 291, o291 P) :: (nat_lit 293, o293 P) :: (nat_lit 294, o294 P) :: (nat_lit 295, o295 P) :: (nat_lit 297, o297 P) :: (nat_lit 298, o298 P) :: (nat_lit 300, o300 P) :: (nat_lit 301, o301 P) :: (nat_lit 302, o302 P) :: (nat_lit 304, o304 P) :: (nat_lit 305, o305 P) :: (nat_lit 307, o307 P) :: (nat_lit 308, o308 P) :: (nat_lit 309, o309 P) :: (nat_lit 311, o311 P) :: (nat_lit 312, o312 P) :: (nat_lit 314, o314 P) :: (nat_lit 315, o315 P) :: (nat_lit 316, o316 P) :: (nat_lit 317, o317 P) :: (nat_lit 318, o318 P) :: (nat_lit 319, o319 P) :: (nat_lit 320, o320 P) :: (nat_lit 323, o323 P) :: (nat_lit 325, o325 P) :: (nat_lit 326, o326 P) :: (nat_lit 328, o328 P) :: (nat_lit 329, o329 P) :: (nat_lit 330, o330 P) :: (nat_lit 332, o332 P) :: (nat_lit 333, o333 P) :: (nat_lit 335, o335 P) :: (nat_lit 336, o336 P) :: (nat_lit 337, o337 P) :: (nat_lit 339, o339 P) :: (nat_lit 340, o340 P) :: (nat_lit 342, o342 P) :: (nat_lit 343, o343 P) :: (nat_lit 344, o344 P) :: (nat_lit 347, o347 P) :: (nat_lit 348, o348 P) :: (nat_lit 349, o349 P) :: (nat_lit 351, o351 P) :: (nat_lit 352, o352 P) :: (nat_lit 354, o354 P) :: (nat_lit 355, o355 P) :: (nat_lit 356, o356 P) :: (nat_lit 358, o358 P) :: (nat_lit 359, o359 P) :: (nat_lit 361, o361 P) :: (nat_lit 362, o362 P) :: (nat_lit 363, o363 P) :: (nat_lit 366, o366 P) :: (nat_lit 367, o367 P) :: []
noncomputable def Kc0 (P : Params) : List (Option Obj) := [some (o2 P), some (o3 P), some (o15 P), some (o17 P), some (o18 P), some (o20 P), some (o21 P), some (o22 P), some (o29 P), some (o30 P), some (o31 P), some (o32 P), some (o35 P), some (o42 P)]
noncomputable def Kc1 (P : Params) : List (Option Obj) := [some (o43 P), some (o44 P), some (o47 P), some (o49 P), some (o50 P), some (o52 P), some (o53 P), some (o61 P), some (o63 P), some (o64 P), some (o66 P), some (o67 P), some (o68 P), some (o70 P)]
noncomputable def Kc2 (P : Params) : List (Option Obj) := [some (o71 P), some (o73 P), some (o74 P), some (o75 P), some (o77 P), some (o78 P), some (o80 P), some (o81 P), some (o82 P), some (o83 P), some (o84 P), some (o85 P), some (o86 P), some (o96 P)]
noncomputable def Kc3 (P : Params) : List (Option Obj) := [some (o98 P), some (o99 P), some (o101 P), some (o102 P), some (o103 P), some (o105 P), some (o106 P), some (o108 P), some (o109 P), some (o110 P), some (o112 P), some (o113 P), some (o115 P), some (o116 P)]
noncomputable def Kc4 (P : Params) : List (Option Obj) := [some (o117 P), some (o120 P), some (o121 P), some (o122 P), some (o123 P), some (o124 P), some (o125 P), some (o126 P), some (o136 P), some (o138 P), some (o139 P), some (o141 P), some (o142 P), some (o143 P)]
noncomputable def Kc5 (P : Params) : List (Option Obj) := [some (o145 P), some (o146 P), some (o148 P), some (o149 P), some (o150 P), some (o152 P), some (o153 P), some (o155 P), some (o156 P), some (o157 P), some (o159 P), some (o160 P), some (o162 P), some (o163 P)]
noncomputable def Kc6 (P : Params) : List (Option Obj) := [some (o164 P), some (o166 P), some (o167 P), some (o169 P), some (o170 P), some (o171 P), some (o173 P), some (o174 P), some (o176 P), some (o177 P), some (o178 P), some (o180 P), some (o181 P), some (o183 P)]
noncomputable def Kc7 (P : Params) : List (Option Obj) := [some (o184 P), some (o185 P), some (o187 P), some (o188 P), some (o190 P), some (o191 P), some (o192 P), some (o194 P), some (o195 P), some (o197 P), some (o198 P), some (o199 P), some (o201 P), some (o202 P)]
noncomputable def Kc8 (P : Params) : List (Option Obj) := [some (o204 P), some (o205 P), some (o206 P), some (o208 P), some (o209 P), some (o211 P), some (o212 P), some (o213 P), some (o215 P), some (o216 P), some (o218 P), some (o219 P), some (o220 P), some (o222 P)]
noncomputable def Kc9 (P : Params) : List (Option Obj) := [some (o223 P), some (o225 P), some (o226 P), some (o227 P), some (o229 P), some (o230 P), some (o232 P), some (o233 P), some (o234 P), some (o236 P), some (o237 P), some (o239 P), some (o240 P), some (o241 P)]
noncomputable def Kc10 (P : Params) : List (Option Obj) := [some (o244 P), some (o245 P), some (o246 P), some (o248 P), some (o249 P), some (o251 P), some (o252 P), some (o253 P), some (o255 P), some (o256 P), some (o258 P), some (o259 P), some (o260 P), some (o262 P)]
noncomputable def Kc11 (P : Params) : List (Option Obj) := [some (o263 P), some (o265 P), some (o266 P), some (o267 P), some (o269 P), some (o270 P), some (o272 P), some (o273 P), some (o274 P), some (o276 P), some (o277 P), some (o279 P), some (o280 P), some (o281 P)]
noncomputable def Kc12 (P : Params) : List (Option Obj) := [some (o283 P), some (o284 P), some (o286 P), some (o287 P), some (o288 P), some (o290 P), some (o291 P), some (o293 P), some (o294 P), some (o295 P), some (o297 P), some (o298 P), some (o300 P), some (o301 P)]
noncomputable def Kc13 (P : Params) : List (Option Obj) := [some (o302 P), some (o304 P), some (o305 P), some (o307 P), some (o308 P), some (o309 P), some (o311 P), some (o312 P), some (o314 P), some (o315 P), some (o316 P), some (o317 P), some (o318 P), some (o319 P)]
noncomputable def Kc14 (P : Params) : List (Option Obj) := [some (o320 P), some (o323 P), some (o325 P), some (o326 P), some (o328 P), some (o329 P), some (o330 P), some (o332 P), some (o333 P), some (o335 P), some (o336 P), some (o337 P), some (o339 P), some (o340 P)]
noncomputable def Kc15 (P : Params) : List (Option Obj) := [some (o342 P), some (o343 P), some (o344 P), some (o347 P), some (o348 P), some (o349 P), some (o351 P), some (o352 P), some (o354 P), some (o355 P), some (o356 P), some (o358 P), some (o359 P), some (o361 P)]
noncomputable def Kc16 (P : Params) : List (Option Obj) := [some (o362 P), some (o363 P), some (o366 P), some (o367 P)]
noncomputable def Kc (P : Params) : List (Option Obj) := Kc0 P ++ (Kc1 P ++ (Kc2 P ++ (Kc3 P ++ (Kc4 P ++ (Kc5 P ++ (Kc6 P ++ (Kc7 P ++ (Kc8 P ++ (Kc9 P ++ (Kc10 P ++ (Kc11 P ++ (Kc12 P ++ (Kc13 P ++ (Kc14 P ++ (Kc15 P ++ (Kc16 P))))))))))))))))
def adr : List Addr := nat_lit 2 :: nat_lit 3 :: nat_lit 15 :: nat_lit 17 :: nat_lit 18 :: nat_lit 20 :: nat_lit 21 :: nat_lit 22 :: nat_lit 29 :: nat_lit 30 :: nat_lit 31 :: nat_lit 32 :: nat_lit 35 :: nat_lit 42 :: nat_lit 43 :: nat_lit 44 :: nat_lit 47 :: nat_lit 49 :: nat_lit 50 :: nat_lit 52 :: nat_lit 53 :: nat_lit 61 :: nat_lit 63 :: nat_lit 64 :: nat_lit 66 :: nat_lit 67 :: nat_lit 68 :: nat_lit 70 :: nat_lit 71 :: nat_lit 73 :: nat_lit 74 :: nat_lit 75 :: nat_lit 77 :: nat_lit 78 :: nat_lit 80 :: nat_lit 81 :: nat_lit 82 :: nat_lit 83 :: nat_lit 84 :: nat_lit 85 :: nat_lit 86 :: nat_lit 96 :: nat_lit 98 :: nat_lit 99 :: nat_lit 101 :: nat_lit 102 :: nat_lit 103 :: nat_lit 105 :: nat_lit 106 :: nat_lit 108 :: nat_lit 109 :: nat_lit 110 :: nat_lit 112 :: nat_lit 113 :: nat_lit 115 :: nat_lit 116 :: nat_lit 117 :: nat_lit 120 :: nat_lit 121 :: nat_lit 122 :: nat_lit 123 :: nat_lit 124 :: nat_lit 125 :: nat_lit 126 :: nat_lit 136 :: nat_lit 138 :: nat_lit 139 :: nat_lit 141 :: nat_lit 142 :: nat_lit 143 :: nat_lit 145 :: nat_lit 146 :: nat_lit 148 :: nat_lit 149 :: nat_lit 150 :: nat_lit 152 :: nat_lit 153 :: nat_lit 155 :: nat_lit 156 :: nat_lit 157 :: nat_lit 159 :: nat_lit 160 :: nat_lit 162 :: nat_lit 163 :: nat_lit 164 :: nat_lit 166 :: nat_lit 167 :: nat_lit 169 :: nat_lit 170 :: nat_lit 171 :: nat_lit 173 :: nat_lit 174 :: nat_lit 176 :: nat_lit 177 :: nat_lit 178 :: nat_lit 180 :: nat_lit 181 :: nat_lit 183 :: nat_lit 184 :: nat_lit 185 :: nat_lit 187 :: nat_lit 188 :: nat_lit 190 :: nat_lit 191 :: nat_lit 192 :: nat_lit 194 :: nat_lit 195 :: nat_lit 197 :: nat_lit 198 :: nat_lit 199 :: nat_lit 201 :: nat_lit 202 :: nat_lit 204 :: nat_lit 205 :: nat_lit 206 :: nat_lit 208 :: nat_lit 209 :: nat_lit 211 :: nat_lit 212 :: nat_lit 213 :: nat_lit 215 :: nat_lit 216 :: nat_lit 218 :: nat_lit 219 :: nat_lit 220 :: nat_lit 222 :: nat_lit 223 :: nat_lit 225 :: nat_lit 226 :: nat_lit 227 :: nat_lit 229 :: nat_lit 230 :: nat_lit 232 :: nat_lit 233 :: nat_lit 234 :: nat_lit 236 :: nat_lit 237 :: nat_lit 239 :: nat_lit 240 :: nat_lit 241 :: nat_lit 244 :: nat_lit 245 :: nat_lit 246 :: nat_lit 248 :: nat_lit 249 :: nat_lit 251 :: nat_lit 252 :: nat_lit 253 :: nat_lit 255 :: nat_lit 256 :: nat_lit 258 :: nat_lit 259 :: nat_lit 260 :: nat_lit 262 :: nat_lit 263 :: nat_lit 265 :: nat_lit 266 :: nat_lit 267 :: nat_lit 269 :: nat_lit 270 :: nat_lit 272 :: nat_lit 273 :: nat_lit 274 :: nat_lit 276 :: nat_lit 277 :: nat_lit 279 :: nat_lit 280 :: nat_lit 281 :: nat_lit 283 :: nat_lit 284 :: nat_lit 286 :: nat_lit 287 :: nat_lit 288 :: nat_lit 290 :: nat_lit 291 :: nat_lit 293 :: nat_lit 294 :: nat_lit 295 :: nat_lit 297 :: nat_lit 298 :: nat_lit 300 :: nat_lit 301 :: nat_lit 302 :: nat_lit 304 :: nat_lit 305 :: nat_lit 307 :: nat_lit 308 :: nat_lit 309 :: nat_lit 311 :: nat_lit 312 :: nat_lit 314 :: nat_lit 315 :: nat_lit 316 :: nat_lit 317 :: nat_lit 318 :: nat_lit 319 :: nat_lit 320 :: nat_lit 323 :: nat_lit 325 :: nat_lit 326 :: nat_lit 328 :: nat_lit 329 :: nat_lit 330 :: nat_lit 332 :: nat_lit 333 :: nat_lit 335 :: nat_lit 336 :: nat_lit 337 :: nat_lit 339 :: nat_lit 340 :: nat_lit 342 :: nat_lit 343 :: nat_lit 344 :: nat_lit 347 :: nat_lit 348 :: nat_lit 349 :: nat_lit 351 :: nat_lit 352 :: nat_lit 354 :: nat_lit 355 :: nat_lit 356 :: nat_lit 358 :: nat_lit 359 :: nat_lit 361 :: nat_lit 362 :: nat_lit 363 :: nat_lit 366 :: nat_lit 367 :: []
theorem adr_eq (P : Params) : adr = (Kf P).map (·.1) := by kernel_rfl
theorem kc_eq (P : Params) : Kc P = (Kf P).map fun p => some p.2 := by kernel_rfl
noncomputable def vw : Program := PySem.W.view PySem.Challenge.pw_frameland_k61_empty_frames_first [0, 2, 3, 5, 7, 8, 10, 12, 13, 14, 15, 16, 17, 18]
noncomputable def lhs := once PySem.Challenge.pw_frameland_k61_empty_frames_first vw [] (fun s => PySem.W.xlAt vw [] s && PySem.W.recOk (PySem.W.RowW.records (PySem.Challenge.rw_frameland_k61_empty_frames_first).row.toRowW) s) (fun s => adr.map s.heap.get?) 4862
noncomputable def rhs (w : World) := some (true, PySem.W.openGood vw [], Kc w.params)
theorem twins : (fun (_ : World → OsState → _) (_ : World → _) => true) lhs rhs = true := by k_qdec
theorem run_all : ∀ (w : World) (os : OsState), PySem.W.Fast.tw7128866508377749982 w os = PySem.W.Fast.tw12590348191598281069 w := by intro w os; kernel_rfl
theorem left : PySem.W.LeftO PySem.Challenge.pw_frameland_k61_empty_frames_first vw [] (fun s => PySem.W.xlAt vw [] s && PySem.W.recOk (PySem.W.RowW.records (PySem.Challenge.rw_frameland_k61_empty_frames_first).row.toRowW) s) (fun s => adr.map s.heap.get?) (fun w => (Kf w.params).map fun p => some p.2) 4862 :=
  left_once (by kernel_rfl) (by kernel_rfl) (by intro s; kernel_rfl) fun w os => by
    rw [← kc_eq]; exact (congrFun (congrFun PySem.W.Fast.te7128866508377749982 w) os).trans ((run_all w os).trans (congrFun PySem.W.Fast.te12590348191598281069 w).symm)
end

end Pf
open PySem PySem.W PyProof.Rows
set_option maxRecDepth 100000 in
set_option maxHeartbeats 0 in
theorem PySem.Challenge.cw_frameland_k61_empty_frames_first_holds : PySem.Challenge.rw_frameland_k61_empty_frames_first.Holds := by
  w_on; o_law
  refine holds_open (q := Pf.vw) (loose := []) (Xt := fun s => xlAt Pf.vw [] s && recOk (RowW.records (PySem.Challenge.rw_frameland_k61_empty_frames_first).row.toRowW) s) (XP := XL Pf.vw []) (Yf := Hook.obs (kHook Pf.Kf Pf.adr Pf.adr_eq)) (Ya := Hook.val (kHook Pf.Kf Pf.adr Pf.adr_eq)) (YP := Hook.says (kHook Pf.Kf Pf.adr Pf.adr_eq)) (N := 4862) Pf.left (Hook.of (kHook Pf.Kf Pf.adr Pf.adr_eq)) (Hook.keeps (kHook Pf.Kf Pf.adr Pf.adr_eq)) (fun s e => xl_of s (Bool.and_eq_true_iff.mp e).1) XL.keeps (by rfl) (by rfl) (by rfl) (fun s e => recFacts_of (Bool.and_eq_true_iff.mp e).2) (by rfl) (by first | assumption | decide +kernel) (by decide +kernel) ⟨rfl, rfl, rfl, rfl, rfl, by decide +kernel⟩ ?hw ?hc
  case hw => w_witness2
  k_fill
  refine Pf.walk (l := PySem.Challenge.rw_frameland_k61_empty_frames_first) rfl rfl rfl (fun w h Y => PySem.W.kIn_of Y) ?F
  case F =>
    intro w mg h KX G
    refine' Pf.txt_mk KX G ?a_NoRoom ?a_FrameError ?a_Sheets ?a_Spots ?a_Sheet ?zb_bool ?zb_enumerate ?zb_int ?zb_isinstance ?zb_len ?zb_list ?zb_range ?zb_sorted ?zb_str ?zb_tuple ?a_swept_ ?l_swept_ ?c_swept_ ?k_swept_ ?a_l_cell_ ?l_l_cell_ ?c_l_cell_ ?k_l_cell_ ?a_l_like_ ?l_l_like_ ?c_l_like_ ?k_l_like_ ?a_l_size_ ?l_l_size_ ?c_l_size_ ?k_l_size_ ?a_l_sheet_ ?l_l_sheet_ ?c_l_sheet_ ?k_l_sheet_ ?a_l_fresh_ ?l_l_fresh_ ?c_l_fresh_ ?k_l_fresh_ ?a_l_let_go_ ?l_l_let_go_ ?c_l_let_go_ ?k_l_let_go_ ?pg_Sheet ?hd_Sheet ?po_Sheet ?sa_Sheet ?zn_Sheet_boxes ?zn_Sheet_holders ?mk_Sheet ?kc_Sheet ?a_Sheet_init_ ?i_Sheet_init_ ?l_Sheet_init_ ?c_Sheet_init_ ?k_Sheet_init_ ?a_Sheet_told_holders_ ?i_Sheet_told_holders_ ?l_Sheet_told_holders_ ?c_Sheet_told_holders_ ?k_Sheet_told_holders_ ?pg_Spots ?hd_Spots ?po_Spots ?sa_Spots ?zn_Spots_lying ?zn_Spots_twins ?mk_Spots ?kc_Spots ?a_Spots_init_ ?i_Spots_init_ ?l_Spots_init_ ?c_Spots_init_ ?k_Spots_init_ ?a_Spots_first_empty_ ?i_Spots_first_empty_ ?l_Spots_first_empty_ ?c_Spots_first_empty_ ?k_Spots_first_empty_ ?a_Spots_live_count_ ?i_Spots_live_count_ ?l_Spots_live_count_ ?c_Spots_live_count_ ?k_Spots_live_count_ ?pg_Sheets ?hd_Sheets ?po_Sheets ?sa_Sheets ?zn_Sheets_size ?zn_Sheets_frames ?zn_Sheets_slots ?zn_Sheets_hand ?zn_Sheets_gone_out ?zn_Sheets_gone_astray ?zn_Sheets_come_back ?a_Sheets_put_out_ ?i_Sheets_put_out_ ?l_Sheets_put_out_ ?c_Sheets_put_out_ ?k_Sheets_put_out_ ?mk_Sheets ?kc_Sheets ?a_Sheets_init_ ?i_Sheets_init_ ?l_Sheets_init_ ?c_Sheets_init_ ?k_Sheets_init_ ?a_Sheets_fresh_ ?i_Sheets_fresh_ ?l_Sheets_fresh_ ?c_Sheets_fresh_ ?k_Sheets_fresh_ ?a_Sheets_let_go_ ?i_Sheets_let_go_ ?l_Sheets_let_go_ ?c_Sheets_let_go_ ?k_Sheets_let_go_ ?a_Sheets_holders_of_ ?i_Sheets_holders_of_ ?l_Sheets_holders_of_ ?c_Sheets_holders_of_ ?k_Sheets_holders_of_ ?a_Sheets_sheet_at_ ?i_Sheets_sheet_at_ ?l_Sheets_sheet_at_ ?c_Sheets_sheet_at_ ?k_Sheets_sheet_at_ ?a_Sheets_box_of_ ?i_Sheets_box_of_ ?l_Sheets_box_of_ ?c_Sheets_box_of_ ?k_Sheets_box_of_ ?a_Sheets_live_sheets_ ?i_Sheets_live_sheets_ ?l_Sheets_live_sheets_ ?c_Sheets_live_sheets_ ?k_Sheets_live_sheets_ ?a_Sheets_is_full_ ?i_Sheets_is_full_ ?l_Sheets_is_full_ ?c_Sheets_is_full_ ?k_Sheets_is_full_ ?a_Sheets_hand_at_ ?i_Sheets_hand_at_ ?l_Sheets_hand_at_ ?c_Sheets_hand_at_ ?k_Sheets_hand_at_ ?a_Sheets_told_frames_ ?i_Sheets_told_frames_ ?l_Sheets_told_frames_ ?c_Sheets_told_frames_ ?k_Sheets_told_frames_ ?a_Sheets_told_slots_ ?i_Sheets_told_slots_ ?l_Sheets_told_slots_ ?c_Sheets_told_slots_ ?k_Sheets_told_slots_ ?a_Sheets_moved_ ?i_Sheets_moved_ ?l_Sheets_moved_ ?c_Sheets_moved_ ?k_Sheets_moved_ ?a_Sheets_lying_at_ ?i_Sheets_lying_at_ ?l_Sheets_lying_at_ ?c_Sheets_lying_at_ ?k_Sheets_lying_at_ ?a_Sheets_told_slot_ ?i_Sheets_told_slot_ ?l_Sheets_told_slot_ ?c_Sheets_told_slot_ ?k_Sheets_told_slot_ ?a_Sheets_make_empty_ ?i_Sheets_make_empty_ ?l_Sheets_make_empty_ ?c_Sheets_make_empty_ ?k_Sheets_make_empty_ ?a_Sheets_lose_twin_ ?i_Sheets_lose_twin_ ?l_Sheets_lose_twin_ ?c_Sheets_lose_twin_ ?k_Sheets_lose_twin_ ?a_Sheets_frame_for_ ?i_Sheets_frame_for_ ?l_Sheets_frame_for_ ?c_Sheets_frame_for_ ?k_Sheets_frame_for_ ?ze_NoRoom ?a_law_ ?l_law_ ?c_law_ ?k_law_
    (case a_NoRoom => k_is); (case a_FrameError => k_is); (case a_Sheets => k_is); (case a_Spots => k_is); (case a_Sheet => k_is); (case zb_bool => k_is)
    (case zb_enumerate => k_is); (case zb_int => k_is); (case zb_isinstance => k_is); (case zb_len => k_is); (case zb_list => k_is); (case zb_range => k_is)
    (case zb_sorted => k_is); (case zb_str => k_is); (case zb_tuple => k_is); (case a_swept_ => k_is); (case l_swept_ => k_is); (case c_swept_ => k_is)
    (case k_swept_ => k_is); (case a_l_cell_ => k_is); (case l_l_cell_ => k_is); (case c_l_cell_ => k_is); (case k_l_cell_ => k_is); (case a_l_like_ => k_is)
    (case l_l_like_ => k_is); (case c_l_like_ => k_is); (case k_l_like_ => k_is); (case a_l_size_ => k_is); (case l_l_size_ => k_is); (case c_l_size_ => k_is)
    (case k_l_size_ => k_is); (case a_l_sheet_ => k_is); (case l_l_sheet_ => k_is); (case c_l_sheet_ => k_is); (case k_l_sheet_ => k_is); (case a_l_fresh_ => k_is)
    (case l_l_fresh_ => k_is); (case c_l_fresh_ => k_is); (case k_l_fresh_ => k_is); (case a_l_let_go_ => k_is); (case l_l_let_go_ => k_is); (case c_l_let_go_ => k_is)
    (case k_l_let_go_ => k_is); (case pg_Sheet => k_is); (case hd_Sheet => k_is); (case po_Sheet => k_is); (case sa_Sheet => k_is); (case zn_Sheet_boxes => k_is)
    (case zn_Sheet_holders => k_is); (case mk_Sheet => k_is); (case kc_Sheet => k_is); (case a_Sheet_init_ => k_is); (case i_Sheet_init_ => k_is); (case l_Sheet_init_ => k_is)
    (case c_Sheet_init_ => k_is); (case k_Sheet_init_ => k_is); (case a_Sheet_told_holders_ => k_is); (case i_Sheet_told_holders_ => k_is); (case l_Sheet_told_holders_ => k_is); (case c_Sheet_told_holders_ => k_is)
    (case k_Sheet_told_holders_ => k_is); (case pg_Spots => k_is); (case hd_Spots => k_is); (case po_Spots => k_is); (case sa_Spots => k_is); (case zn_Spots_lying => k_is)
    (case zn_Spots_twins => k_is); (case mk_Spots => k_is); (case kc_Spots => k_is); (case a_Spots_init_ => k_is); (case i_Spots_init_ => k_is); (case l_Spots_init_ => k_is)
    (case c_Spots_init_ => k_is); (case k_Spots_init_ => k_is); (case a_Spots_first_empty_ => k_is); (case i_Spots_first_empty_ => k_is); (case l_Spots_first_empty_ => k_is); (case c_Spots_first_empty_ => k_is)
    (case k_Spots_first_empty_ => k_is); (case a_Spots_live_count_ => k_is); (case i_Spots_live_count_ => k_is); (case l_Spots_live_count_ => k_is); (case c_Spots_live_count_ => k_is); (case k_Spots_live_count_ => k_is)
    (case pg_Sheets => k_is); (case hd_Sheets => k_is); (case po_Sheets => k_is); (case sa_Sheets => k_is); (case zn_Sheets_size => k_is); (case zn_Sheets_frames => k_is)
    (case zn_Sheets_slots => k_is); (case zn_Sheets_hand => k_is); (case zn_Sheets_gone_out => k_is); (case zn_Sheets_gone_astray => k_is); (case zn_Sheets_come_back => k_is); (case a_Sheets_put_out_ => k_is)
    (case i_Sheets_put_out_ => k_is); (case l_Sheets_put_out_ => k_is); (case c_Sheets_put_out_ => k_is); (case k_Sheets_put_out_ => k_is); (case mk_Sheets => k_is); (case kc_Sheets => k_is)
    (case a_Sheets_init_ => k_is); (case i_Sheets_init_ => k_is); (case l_Sheets_init_ => k_is); (case c_Sheets_init_ => k_is); (case k_Sheets_init_ => k_is); (case a_Sheets_fresh_ => k_is)
    (case i_Sheets_fresh_ => k_is); (case l_Sheets_fresh_ => k_is); (case c_Sheets_fresh_ => k_is); (case k_Sheets_fresh_ => k_is); (case a_Sheets_let_go_ => k_is); (case i_Sheets_let_go_ => k_is)
    (case l_Sheets_let_go_ => k_is); (case c_Sheets_let_go_ => k_is); (case k_Sheets_let_go_ => k_is); (case a_Sheets_holders_of_ => k_is); (case i_Sheets_holders_of_ => k_is); (case l_Sheets_holders_of_ => k_is)
    (case c_Sheets_holders_of_ => k_is); (case k_Sheets_holders_of_ => k_is); (case a_Sheets_sheet_at_ => k_is); (case i_Sheets_sheet_at_ => k_is); (case l_Sheets_sheet_at_ => k_is); (case c_Sheets_sheet_at_ => k_is)
    (case k_Sheets_sheet_at_ => k_is); (case a_Sheets_box_of_ => k_is); (case i_Sheets_box_of_ => k_is); (case l_Sheets_box_of_ => k_is); (case c_Sheets_box_of_ => k_is); (case k_Sheets_box_of_ => k_is)
    (case a_Sheets_live_sheets_ => k_is); (case i_Sheets_live_sheets_ => k_is); (case l_Sheets_live_sheets_ => k_is); (case c_Sheets_live_sheets_ => k_is); (case k_Sheets_live_sheets_ => k_is); (case a_Sheets_is_full_ => k_is)
    (case i_Sheets_is_full_ => k_is); (case l_Sheets_is_full_ => k_is); (case c_Sheets_is_full_ => k_is); (case k_Sheets_is_full_ => k_is); (case a_Sheets_hand_at_ => k_is); (case i_Sheets_hand_at_ => k_is)
    (case l_Sheets_hand_at_ => k_is); (case c_Sheets_hand_at_ => k_is); (case k_Sheets_hand_at_ => k_is); (case a_Sheets_told_frames_ => k_is); (case i_Sheets_told_frames_ => k_is); (case l_Sheets_told_frames_ => k_is)
    (case c_Sheets_told_frames_ => k_is); (case k_Sheets_told_frames_ => k_is); (case a_Sheets_told_slots_ => k_is); (case i_Sheets_told_slots_ => k_is); (case l_Sheets_told_slots_ => k_is); (case c_Sheets_told_slots_ => k_is)
    (case k_Sheets_told_slots_ => k_is); (case a_Sheets_moved_ => k_is); (case i_Sheets_moved_ => k_is); (case l_Sheets_moved_ => k_is); (case c_Sheets_moved_ => k_is); (case k_Sheets_moved_ => k_is)
    (case a_Sheets_lying_at_ => k_is); (case i_Sheets_lying_at_ => k_is); (case l_Sheets_lying_at_ => k_is); (case c_Sheets_lying_at_ => k_is); (case k_Sheets_lying_at_ => k_is); (case a_Sheets_told_slot_ => k_is)
    (case i_Sheets_told_slot_ => k_is); (case l_Sheets_told_slot_ => k_is); (case c_Sheets_told_slot_ => k_is); (case k_Sheets_told_slot_ => k_is); (case a_Sheets_make_empty_ => k_is); (case i_Sheets_make_empty_ => k_is)
    (case l_Sheets_make_empty_ => k_is); (case c_Sheets_make_empty_ => k_is); (case k_Sheets_make_empty_ => k_is); (case a_Sheets_lose_twin_ => k_is); (case i_Sheets_lose_twin_ => k_is); (case l_Sheets_lose_twin_ => k_is)
    (case c_Sheets_lose_twin_ => k_is); (case k_Sheets_lose_twin_ => k_is); (case a_Sheets_frame_for_ => k_is); (case i_Sheets_frame_for_ => k_is); (case l_Sheets_frame_for_ => k_is); (case c_Sheets_frame_for_ => k_is)
    (case k_Sheets_frame_for_ => k_is); (case ze_NoRoom => k_exc); (case a_law_ => k_is); (case l_law_ => k_is); (case c_law_ => k_is); (case k_law_ => k_is)
