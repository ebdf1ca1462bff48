import PyProof.Rows.All
import Wide.All
import OpenK.AllK
import Wide.FinOn
import Lean
import PyProof.EqAt
import PyProof.EqKinds
import PyProof.TupleCall
import PyProof.NeKinds
import PyProof.EnumMake
import PyProof.EnumStmt
import PyProof.LayNew
import KE.KDictLaws
import KE.KDictSum
import KE.LcSums
import PyProof.Rows.SumAny
import PyProof.Rows.SortWalk
import PyProof.DictWalks
import PyProof.Rows.SortRev
import KE.KRevIter
import KE.KIntText
import PyProof.CallStr
import PyProof.StrCalls2
import PyProof.Rows.StrJoin2
import PyProof.StrWalks
import PyProof.Rows.Range3
import PySem.Challenge.RW_frameland_k46_busy_banks
set_option Elab.async false
set_option linter.all false
set_option maxRecDepth 100000
namespace L2
open PySem PySem.Spec PyProof.Rows
abbrev Key := Sum Int Str
def keyIs : Key → Value → Bool
  | .inl k, v => Value.isInt k v
  | .inr x, v => Value.isStrOf x v
def keyH (w : World) : Key → Int
  | .inl k => hashInt k
  | .inr x => hashStr w x
theorem keyIs_shape : ∀ {k : Key} {v : Value}, keyIs k v = true → (∃ i t, k = Sum.inl i ∧ v = Value.int i t) ∨ (∃ x t, k = Sum.inr x ∧ v = Value.str x t)
  | .inl i, v, h => by
    obtain ⟨t, e⟩ := Value.isInt_shape (k := i) (v := v) h
    exact .inl ⟨i, t, rfl, e⟩
  | .inr x, v, h => by
    obtain ⟨t, e⟩ := Value.isStrOf_shape (x := x) (v := v) h
    exact .inr ⟨x, t, rfl, e⟩
theorem keyIs_int (i : Int) (t : Tok) : keyIs (.inl i) (.int i t) = true := by simp [keyIs, Value.isInt]
theorem keyIs_str (x : Str) (t : Tok) : keyIs (.inr x) (.str x t) = true := by simp [keyIs, Value.isStrOf]
theorem key_ll (a b : Int) : decide ((Sum.inl a : Key) = Sum.inl b) = (a == b) := by
  by_cases e : a = b
  · subst e; simp
  · have h : ¬ (Sum.inl a : Key) = Sum.inl b := fun q => e (Sum.inl.inj q)
    rw [decide_eq_false h]
    exact (beq_eq_false_iff_ne.mpr e).symm
theorem key_rr (a b : Str) : decide ((Sum.inr a : Key) = Sum.inr b) = decide (a = b) := by
  by_cases e : a = b
  · subst e; simp
  · have h : ¬ (Sum.inr a : Key) = Sum.inr b := fun q => e (Sum.inr.inj q)
    rw [decide_eq_false h, decide_eq_false e]
theorem key_lr (a : Int) (b : Str) : decide ((Sum.inl a : Key) = Sum.inr b) = false := decide_eq_false (fun q => nomatch q)
theorem key_rl (a : Str) (b : Int) : decide ((Sum.inr a : Key) = Sum.inl b) = false := decide_eq_false (fun q => nomatch q)
def mixKind (prog : Program) (w : World) : PySem.KeyKind prog w Key where
  is := keyIs
  hash := keyH w
  inj := fun v a b ha hb => by
    rcases keyIs_shape ha with ⟨i, t, rfl, rfl⟩ | ⟨x, t, rfl, rfl⟩
    · rcases keyIs_shape hb with ⟨j, u, rfl, e⟩ | ⟨y, u, rfl, e⟩
      · injection e with e1 _; rw [e1]
      · exact nomatch e
    · rcases keyIs_shape hb with ⟨j, u, rfl, e⟩ | ⟨y, u, rfl, e⟩
      · exact nomatch e
      · injection e with e1 _; rw [e1]
  byValue := fun k v h => by
    rcases keyIs_shape h with ⟨i, t, rfl, rfl⟩ | ⟨x, t, rfl, rfl⟩ <;> rfl
  pyHash := fun hv h => by
    rcases keyIs_shape hv with ⟨i, t, rfl, rfl⟩ | ⟨x, t, rfl, rfl⟩
    · exact wpAny_pyHash_int h
    · exact wpAny_pyHash_str h
  eqBool := fun hu hv h => by
    rcases keyIs_shape hu with ⟨i, t, rfl, rfl⟩ | ⟨x, t, rfl, rfl⟩
    · rcases keyIs_shape hv with ⟨j, u, rfl, rfl⟩ | ⟨y, u, rfl, rfl⟩
      · rw [key_ll] at h; exact wpAny_eqBool_int h
      · rw [key_lr] at h; exact SeqAt.EqAt.int_str i t y u _ _ _ _ h
    · rcases keyIs_shape hv with ⟨j, u, rfl, rfl⟩ | ⟨y, u, rfl, rfl⟩
      · rw [key_rl] at h; exact SeqAt.EqAt.str_int x t j u _ _ _ _ h
      · rw [key_rr] at h; exact wpAny_eqBool_str h
  «strs» := fun k x t v h => by
    rcases keyIs_shape h with ⟨i, u, rfl, e⟩ | ⟨y, u, rfl, e⟩
    · exact nomatch e
    · injection e with e1 _
      subst e1
      cases v <;> rfl
theorem mixKind_int (prog : Program) (w : World) (i : Int) (t : Tok) : (mixKind prog w).is (.inl i) (.int i t) = true := keyIs_int i t
theorem mixKind_str (prog : Program) (w : World) (x : Str) (t : Tok) : (mixKind prog w).is (.inr x) (.str x t) = true := keyIs_str x t
end L2
namespace L2
open PySem PySem.Spec PyProof.Rows
inductive V where
  | non | bl (b : Bool) | int (i : Int) | str (x : Str) | byt (b : Array UInt8) | flt (b : UInt64) | ref (a : Addr) | ty (n : String)
  deriving DecidableEq
def RelV : V → Value → Prop
  | .non, u => u = Value.none
  | .bl b, u => u = Value.bool b
  | .int i, u => ∃ t, u = Value.int i t
  | .str x, u => ∃ t, u = Value.str x t
  | .byt b, u => ∃ t, u = Value.bytes b t
  | .flt b, u => ∃ t, u = Value.float b t
  | .ref a, u => u = Value.ref a
  | .ty n, u => u = Value.type n
abbrev Vals : List V → List Value → Prop := Paired RelV
theorem Vals.length {xs : List V} {us : List Value} (r : Vals xs us) : xs.length = us.length := Paired.length r
theorem Vals.get : ∀ {xs : List V} {us : List Value} {i : Nat} {x : V}, Vals xs us → xs[i]? = some x → ∃ u, us[i]? = some u ∧ RelV x u
  | _, _, _, _, .nil, e => by simp at e
  | _, _, 0, _, .cons r _, e => by simp at e; subst e; exact ⟨_, rfl, r⟩
  | _, _, i + 1, x, .cons _ t, e => by
    obtain ⟨u, h1, h2⟩ := Vals.get (i := i) (x := x) t (by simpa using e)
    exact ⟨u, by simpa using h1, h2⟩
theorem Vals.set {x : V} {u : Value} (r : RelV x u) : ∀ {xs : List V} {us : List Value} (i : Nat), Vals xs us → Vals (xs.set i x) (us.set i u)
  | _, _, _, .nil => .nil
  | _, _, 0, .cons _ t => .cons r t
  | _, _, i + 1, .cons q t => .cons q (Vals.set r i t)
theorem Vals.append : ∀ {xs ys : List V} {us ws : List Value}, Vals xs us → Vals ys ws → Vals (xs ++ ys) (us ++ ws)
  | _, _, _, _, .nil, s => s
  | _, _, _, _, .cons r t, s => .cons r (Vals.append t s)
theorem Vals.take : ∀ {xs : List V} {us : List Value} (n : Nat), Vals xs us → Vals (xs.take n) (us.take n)
  | _, _, 0, _ => .nil
  | _, _, _ + 1, .nil => .nil
  | _, _, n + 1, .cons r t => .cons r (Vals.take n t)
theorem Vals.drop : ∀ {xs : List V} {us : List Value} (n : Nat), Vals xs us → Vals (xs.drop n) (us.drop n)
  | _, _, 0, r => r
  | _, _, _ + 1, .nil => .nil
  | _, _, n + 1, .cons _ t => Vals.drop n t
def RelO : Option V → Option Value → Prop
  | some v, some u => RelV v u
  | none, none => True
  | _, _ => False
def KV {κ : Type} : List (κ × V) → List (κ × Value) → Prop := Paired fun (p : κ × V) (q : κ × Value) => p.1 = q.1 ∧ RelV p.2 q.2
def kV : Key → V
  | .inl i => .int i
  | .inr x => .str x
inductive HO where
    | lst (xs : List V)
    | tup (xs : List V)
    | dK (kvs : List (Key × V)) | dT (kvs : List (List Key × V))
    | set (S : Int → Bool) (n : Nat)
    | ins (C dx : Addr) (fs : List (Str × V))
    | own (x : Addr)
    | xd (fs : List (Str × V))
    | met (f x : Addr)
    | rng (lo hi : Int)
    | frz (o : Obj) (u : HO)
    | tbl (ps : Array Value)
    | ext (φ : Heap → Prop)
abbrev Hp := Addr → Option HO
def upd (H : Hp) (a : Addr) (o : HO) : Hp := fun b => if b = a then some o else H b
theorem upd_same {H : Hp} {a : Addr} {o : HO} : upd H a o a = some o := by unfold upd; rw [if_pos rfl]
theorem upd_ne {H : Hp} {a b : Addr} {o : HO} (h : b ≠ a) : upd H a o b = H b := by unfold upd; rw [if_neg h]
theorem upd_upd {H : Hp} {a : Addr} {o u : HO} : upd (upd H a o) a u = upd H a u := by
  funext b; unfold upd; split <;> rfl
theorem ne_of {H : Hp} {a b : Addr} {o u : HO} (h : H a = some o) (h' : H b = some u) (d : o ≠ u) : a ≠ b := by
  intro e; subst e; rw [h] at h'; exact d (Option.some.inj h')
theorem ne_of_none {H : Hp} {a b : Addr} {o : HO} (h : H a = some o) (h' : H b = none) : a ≠ b := by
  intro e; subst e; rw [h] at h'; cases h'
section
variable (P : Program) (w : World)
def ObjOk (H : Hp) (h : Heap) (a : Addr) : HO → Prop
  | .lst xs => xs.length ≤ sizeLine ∧ ∃ (its : List Value) (n : Nat), Vals xs its ∧ h.get? a = some { cls := .type "list", data := .seq its.toArray n }
  | .tup xs => xs.length ≤ sizeLine ∧ ∃ its : List Value, Vals xs its ∧ IsTup h a its.toArray
  | .dK kvs => kvs.length ≤ sizeLine ∧ (a == sysModules) = false ∧ ∃ vs, KV kvs vs ∧ h.DictOf (mixKind P w) a vs
  | .dT kvs => kvs.length ≤ sizeLine ∧ (a == sysModules) = false ∧ ∃ xs : List (List Key × Addr × Value),
      Paired (fun (p : List Key × V) (q : List Key × Addr × Value) => p.1 = q.1 ∧ H q.2.1 = some (.tup (p.1.map kV)) ∧ RelV p.2 q.2.2) kvs xs ∧
      ∃ o es ep, h.get? a = some o ∧ o.ExactDict ∧ o.data = .dict es ep ∧ es.toList = xs.map (entryOfKey (tupleKind (mixKind P w))) ∧ (xs.map (·.1)).Nodup
  | .set S n => h.SetOf (intKind P w) a S n
  | .ins C dx fs => H dx = some (.own a) ∧ fs.length ≤ 1000 ∧ dx ≠ a ∧ h.get? a = some (PySem.W.instObj C dx) ∧
      ∃ mA, h.Ns1 dx mA ∧ (∀ f, RelO (fs.lookup f) (mA f)) ∧ PySem.Within mA (fs.map (·.1))
  | .own _ => ∃ o, h.get? a = some o
  | .xd fs => ∃ mA, h.Ns1 a mA ∧ ∀ f, RelO (fs.lookup f) (mA f)
  | .rng lo hi => ∃ t u v, h.get? a = some { cls := .type "range", data := .fields #[.int lo t, .int hi u, .int 1 v] }
  | .frz o u => h.get? a = some o ∧ ObjOk H h a u
  | .tbl ps => h.get? a = some { cls := .none, data := .fields ps }
  | .met f x => h.get? a = some (PySem.W.methodObj (.ref f) (.ref x))
  | .ext φ => φ h ∧ (∃ o, h.get? a = some o) ∧ ∀ h1 h2 : Heap, φ h1 → (∀ o, h1.get? a = some o → h2.get? a = some o) → φ h2
def HOk (H : Hp) (h : Heap) : Prop := ∀ a o, H a = some o → ObjOk P w H h a o
end
section
variable {P : Program} {w : World} {H H' : Hp} {h h' : Heap} {a : Addr} {o : HO}
theorem ObjOk.lt (x : ObjOk P w H h a o) : a < h.objs.size := by
  cases o with
  | lst xs => obtain ⟨_, _, _, _, e⟩ := x; exact Heap.lt_size e
  | tup xs => obtain ⟨_, _, _, p⟩ := x; exact p.lt
  | dK kvs => obtain ⟨_, _, _, _, o, _, _, e, _⟩ := x; exact Heap.lt_size e
  | dT kvs => obtain ⟨_, _, _, _, o, _, _, e, _⟩ := x; exact Heap.lt_size e
  | set S n => obtain ⟨o, _, _, _, e, _⟩ := x; exact Heap.lt_size e
  | ins C dx fs => obtain ⟨_, _, _, e, _⟩ := x; exact Heap.lt_size e
  | own y => obtain ⟨_, e⟩ := x; exact Heap.lt_size e
  | xd fs => obtain ⟨_, ⟨_, _, _, e, _⟩, _⟩ := x; exact Heap.lt_size e
  | rng lo hi => obtain ⟨_, _, _, e⟩ := x; exact Heap.lt_size e
  | frz ob u => obtain ⟨e, _⟩ := x; exact Heap.lt_size e
  | tbl ps => exact Heap.lt_size (show h.get? a = some _ from x)
  | met f y => exact Heap.lt_size (show h.get? a = some _ from x)
  | ext φ => obtain ⟨_, ⟨_, e⟩, _⟩ := x; exact Heap.lt_size e
theorem Paired.mapP {α β : Type} {F G : α → β → Prop} : ∀ {l₁ : List α} {l₂ : List β}, Paired F l₁ l₂ → (∀ a b, F a b → G a b) → Paired G l₁ l₂
  | _, _, .nil, _ => .nil
  | _, _, .cons r t, f => .cons (f _ _ r) (Paired.mapP t f)
theorem ObjOk.stay (x : ObjOk P w H h a o) (k : ∀ b u, (b = a ∨ H b = some (.own a)) → h.get? b = some u → h'.get? b = some u)
    (ho : ∀ b, H b = some (.own a) → H' b = some (.own a)) (ht : ∀ b xs, H b = some (.tup xs) → H' b = some (.tup xs)) : ObjOk P w H' h' a o := by
  induction o with
  | lst xs => obtain ⟨z, its, n, r, e⟩ := x; exact ⟨z, its, n, r, k _ _ (.inl rfl) e⟩
  | tup xs => obtain ⟨z, its, r, ob, e, c⟩ := x; exact ⟨z, its, r, ob, k _ _ (.inl rfl) e, c⟩
  | dK kvs => obtain ⟨z, y, vs, r, ob, es, ep, e, c⟩ := x; exact ⟨z, y, vs, r, ob, es, ep, k _ _ (.inl rfl) e, c⟩
  | dT kvs =>
    obtain ⟨z, y, xs, r, ob, es, ep, e, c⟩ := x
    exact ⟨z, y, xs, Paired.mapP r fun p q z => ⟨z.1, ht _ _ z.2.1, z.2.2⟩, ob, es, ep, k _ _ (.inl rfl) e, c⟩
  | set S n => obtain ⟨ob, es, ep, t, e, c⟩ := x; exact ⟨ob, es, ep, t, k _ _ (.inl rfl) e, c⟩
  | ins C dx fs =>
    obtain ⟨d, z, ne, e, mA, ⟨od, es, ep, e2, c⟩, r⟩ := x
    exact ⟨ho _ d, z, ne, k _ _ (.inl rfl) e, mA, ⟨od, es, ep, k _ _ (.inr d) e2, c⟩, r⟩
  | own y => obtain ⟨ob, e⟩ := x; exact ⟨ob, k _ _ (.inl rfl) e⟩
  | xd fs => obtain ⟨mA, ⟨od, es, ep, e, c⟩, r⟩ := x; exact ⟨mA, ⟨od, es, ep, k _ _ (.inl rfl) e, c⟩, r⟩
  | rng lo hi => obtain ⟨t, u, v, e⟩ := x; exact ⟨t, u, v, k _ _ (.inl rfl) e⟩
  | frz ob u ih => obtain ⟨e, q⟩ := x; exact ⟨k _ _ (.inl rfl) e, ih q⟩
  | tbl ps =>
    have e : h.get? a = some { cls := .none, data := .fields ps } := x
    show h'.get? a = some { cls := .none, data := .fields ps }
    exact k a _ (.inl rfl) e
  | met f y =>
    have e : h.get? a = some (PySem.W.methodObj (.ref f) (.ref y)) := x
    show h'.get? a = some (PySem.W.methodObj (.ref f) (.ref y))
    exact k a _ (.inl rfl) e
  | ext φ => obtain ⟨p, ⟨o, e⟩, st⟩ := x; exact ⟨st _ _ p fun o q => k _ _ (.inl rfl) q, ⟨o, k _ _ (.inl rfl) e⟩, st⟩
theorem HOk.lt (x : HOk P w H h) (e : H a = some o) : a < h.objs.size := (x a o e).lt
theorem HOk.fresh (x : HOk P w H h) (e : h.objs.size ≤ a) : H a = none := by
  cases q : H a with
  | none => rfl
  | some u => exact absurd (Nat.lt_of_lt_of_le (x.lt q) e) (Nat.lt_irrefl _)
theorem HOk.kept (x : HOk P w H h) (k : ∀ b u, h.get? b = some u → h'.get? b = some u) : HOk P w H h' := fun a o e =>
  (x a o e).stay (fun b u _ q => k b u q) (fun _ q => q) fun _ _ q => q
theorem HOk.laid (x : HOk P w H h) (k : ∀ b u, h.get? b = some u → h'.get? b = some u) (hp : h.objs.size ≤ a) (new : ObjOk P w (upd H a o) h' a o) : HOk P w (upd H a o) h' := fun b u e => by
  have hn := x.fresh hp
  by_cases hb : b = a
  · subst hb; rw [upd_same] at e; cases e; exact new
  · rw [upd_ne hb] at e
    exact (x b u e).stay (fun c v _ q => k c v q) (fun c q => by rw [upd_ne (ne_of_none q hn)]; exact q) fun c xs q => by rw [upd_ne (ne_of_none q hn)]; exact q
end
def Rd (H : Hp) (a : Addr) (u : HO) : Prop := H a = some u ∨ ∃ o, H a = some (.frz o u)
theorem Rd.of {H : Hp} {a : Addr} {u : HO} (h : H a = some u) : Rd H a u := .inl h
theorem Rd.ok {P : Program} {w : World} {H : Hp} {h : Heap} {a : Addr} {u : HO} (r : Rd H a u) (x : HOk P w H h) : ObjOk P w H h a u := by
  rcases r with r | ⟨o, r⟩
  · exact x a u r
  · obtain ⟨_, q⟩ := x a _ r
    exact q
def Mut : Option HO → Prop
  | some (.lst _) => True
  | some (.dK _) => True
  | some (.dT _) => True
  | some (.set _ _) => True
  | some (.ins _ _ _) => True
  | some (.ext _) => True
  | _ => False
section
variable {P : Program} {w : World} {H : Hp} {h h' : Heap} {x e : Addr} {o' : HO}
theorem HOk.write (ok : HOk P w H h) (mu : Mut (H x)) (he : e = x ∨ H e = some (.own x)) (k : ∀ b u, b ≠ e → h.get? b = some u → h'.get? b = some u) (heo : ∃ u, h'.get? e = some u)
    (new : ObjOk P w (upd H x o') h' x o') : HOk P w (upd H x o') h' := fun b u q => by
  have nown : ∀ c y, H c = some (.own y) → c ≠ x := fun c y r z => by subst z; rw [r] at mu; exact mu
  have ntup : ∀ c xs, H c = some (.tup xs) → c ≠ x := fun c xs r z => by subst z; rw [r] at mu; exact mu
  by_cases hb : b = x
  · subst hb; rw [upd_same] at q; cases q; exact new
  · rw [upd_ne hb] at q
    by_cases hbe : b = e
    · have q' : H b = some (.own x) := by
        rcases he with z | z
        · exact absurd (hbe.trans z) hb
        · rw [hbe]; exact z
      rw [q] at q'; cases q'
      obtain ⟨v, hv⟩ := heo
      exact ⟨v, by rw [hbe]; exact hv⟩
    · refine (ok b u q).stay (fun c v hc r => k c v ?_ r) (fun c r => by rw [upd_ne (nown c b r)]; exact r) fun c xs r => by rw [upd_ne (ntup c xs r)]; exact r
      rcases hc with rfl | hc
      · exact hbe
      · rintro rfl
        rcases he with z | z
        · exact nown c b hc z
        · rw [hc] at z; cases z; exact hb rfl
end
structure Un (fs ex : List Addr) (H H' : Hp) (h h' : Heap) : Prop where
  keep : ∀ b o, h.get? b = some o → H b = none → b ∉ fs → b ∉ ex → h'.get? b = some o
  slot : ∀ b o, h.get? b = some o → H b = none → b ∈ fs → b ∉ ex → ∃ sl, h'.get? b = some { o with slots := sl }
  free : ∀ b o, h.get? b = some o → H b = none → b ∉ ex → H' b = none
  there : ∀ b o, h.get? b = some o → b ∉ ex → ∃ o', h'.get? b = some o'
  tups : ∀ b xs, H b = some (.tup xs) → H' b = some (.tup xs)
  frzs : ∀ b o u, H b = some (.frz o u) → H' b = some (.frz o u)
  tbls : ∀ b ps, H b = some (.tbl ps) → ∃ more, H' b = some (.tbl (ps ++ more))
section
variable {fs fs' ex ex' : List Addr} {H H1 H2 : Hp} {h h1 h2 h' : Heap} {a x e : Addr} {o : HO}
theorem Un.any (u : Un fs ex H H1 h h1) {b : Addr} {ob : Obj} (q : h.get? b = some ob) (n : H b = none) (hx : b ∉ ex) : ∃ sl, h1.get? b = some { ob with slots := sl } := by
  by_cases hb : b ∈ fs
  · exact u.slot b ob q n hb hx
  · exact ⟨ob.slots, u.keep b ob q n hb hx⟩
theorem Un.kept (k : ∀ b u, h.get? b = some u → h'.get? b = some u) : Un fs ex H H h h' :=
  ⟨fun b ob q _ _ _ => k b ob q, fun b ob q _ _ _ => ⟨ob.slots, k b ob q⟩, fun _ _ _ n _ => n, fun b ob q _ => ⟨ob, k b ob q⟩, fun _ _ q => q, fun _ _ _ q => q, fun _ ps q => ⟨#[], by rw [q]; simp⟩⟩
theorem Un.refl : Un fs ex H H h h := Un.kept fun _ _ q => q
theorem Un.laid (k : ∀ b u, h.get? b = some u → h'.get? b = some u) (hp : h.objs.size ≤ a) (hn : H a = none) : Un fs ex H (upd H a o) h h' where
  keep := fun b u q _ _ _ => k b u q
  slot := fun b u q _ _ _ => ⟨u.slots, k b u q⟩
  free := fun b u q n _ => by rw [upd_ne (Nat.ne_of_lt (Nat.lt_of_lt_of_le (Heap.lt_size q) hp))]; exact n
  there := fun b u q _ => ⟨u, k b u q⟩
  tups := fun b xs q => by rw [upd_ne (ne_of_none q hn)]; exact q
  frzs := fun b u xs q => by rw [upd_ne (ne_of_none q hn)]; exact q
  tbls := fun b ps q => ⟨#[], by rw [upd_ne (ne_of_none q hn), q]; simp⟩
theorem Un.write (mu : Mut (H x)) (he : e = x ∨ H e = some (.own x)) (k : ∀ b u, b ≠ e → h.get? b = some u → h'.get? b = some u) (heo : ∃ u, h'.get? e = some u) : Un fs ex H (upd H x o) h h' := by
  have hx : ∀ b, H b = none → b ≠ x := fun b n z => by subst z; rw [n] at mu; exact mu
  have hb : ∀ b, H b = none → b ≠ e := fun b n z => by
    subst z
    rcases he with r | r
    · exact hx b n r
    · rw [n] at r; cases r
  have hm : ∀ b u, H b = some u → ¬ Mut (some u) → b ≠ x := fun b u q nm z => by subst z; rw [q] at mu; exact nm mu
  refine ⟨fun b u q n _ _ => k b u (hb b n) q, fun b u q n _ _ => ⟨u.slots, k b u (hb b n) q⟩, fun b u q n _ => by rw [upd_ne (hx b n)]; exact n, fun b u q _ => ?_,
    fun b xs q => by rw [upd_ne (hm b _ q fun z => z)]; exact q, fun b u xs q => by rw [upd_ne (hm b _ q fun z => z)]; exact q, fun b ps q => ⟨#[], by rw [upd_ne (hm b _ q fun z => z), q]; simp⟩⟩
  by_cases hbe : b = e
  · subst hbe; exact heo
  · exact ⟨u, k b u hbe q⟩
end
def trk (h : Heap) (H : Hp) : List Addr := (List.range h.objs.size).filter fun a => (H a).isSome
def hidT (h : Heap) (H : Hp) : Heap := PySem.W.hideAll h (trk h H)
theorem hidT_size (h : Heap) (H : Hp) : (hidT h H).objs.size = h.objs.size := PySem.W.hideAll_size _ _
theorem hidT_get {h : Heap} {H : Hp} {b : Addr} {o : Obj} (e : h.get? b = some o) (n : H b = none) : (hidT h H).get? b = some o :=
  PySem.W.hideAll_get _ e fun hm => by
    have q : (H b).isSome = true := (List.mem_filter.mp hm).2
    rw [n] at q; simp at q
theorem of_hidT {h : Heap} {H : Hp} {b : Addr} {o : Obj} (e : (hidT h H).get? b = some o) : h.get? b = some o ∧ H b = none := by
  have e' : h.get? b = some o := PySem.W.of_hideAll (trk h H) e
  refine ⟨e', ?_⟩
  cases q : H b with
  | none => rfl
  | some x =>
    have hm : b ∈ trk h H := List.mem_filter.mpr ⟨List.mem_range.mpr (Heap.lt_size e'), by simp [q]⟩
    have z : (hidT h H).get? b = none := PySem.W.hideAll_none (trk h H) hm
    rw [z] at e; cases e
def allNews (g h : Heap) (L : Addr) : List (Addr × Obj) := (List.range h.objs.size).filterMap fun a => if a = L ∨ (g.get? a).isSome = true then none else (h.get? a).map fun o => (a, o)
def rest (g h : Heap) (L d : Addr) : List (Addr × Obj) := (allNews g h L).filter fun p => decide (p.1 ≠ d)
end L2
namespace L2
open PySem PySem.Spec PyProof.Rows
structure Mod (K : PySem.W.Frag) (mg : Str → Option Value) (base : Heap) : Prop where
  kin : K.In base
  glob : base.Ns mainGlobals mg
  blt : ∃ mb, base.Ns builtinsNs mb ∧ ∀ x : Str, x ≠ "__name__" → mb x = bootBuiltins x
  nolimit : base.NoLimit
structure Cx where
  prog : Program
  w : World
  K : PySem.W.Frag
  mg : Str → Option Value
  base : Heap
  A : Around
  N : List Str
  s₀ : Shared
  H₀ : Hp
  env : Env
  outer : List Env
  stack : List Env
  ex : List Addr
  fn : Str → Bool
  calm : Bool
  pn : List (Addr × Obj)
  xe : Value → Shared → Prop
def frs (l : List Env) : List Addr := l.filterMap (·.frame)
abbrev Cx.fs (X : Cx) : List Addr := frs X.outer
def Vis (sc : Scope) (x : Str) : Prop := sc.names.lookup x = some .local ∨ sc.names.lookup x = some .cell ∨ sc.names.lookup x = some .free
def Loc (sc : Scope) (x : Str) : Prop := sc.names.lookup x = some .local ∨ sc.names.lookup x = some .cell
def Look (env : Env) (h : Heap) (m : Str → Option Value) (x : Str) (u : Value) : Prop :=
  (env.kindOf x = some .local ∧ m x = some u) ∨ ((env.kindOf x = some .cell ∨ env.kindOf x = some .free) ∧ ∃ c, env.cells.lookup x = some c ∧ h.IsCell c (some u))
structure Cx.Ok (X : Cx) : Prop where
  mod : Mod X.K X.mg X.base
  kind : X.env.scope.kind = .function
  glob : X.env.globals = mainGlobals
  blt : X.env.builtins = builtinsNs
  above : X.s₀.heap.objs.size ≤ X.env.locals
  inj : ∀ x y c, X.env.cells.lookup x = some c → X.env.cells.lookup y = some c → x = y
  has : ∀ x, (X.env.kindOf x = some .cell ∨ X.env.kindOf x = some .free) → ∃ c, X.env.cells.lookup x = some c
  cab : ∀ x c, X.fn x = true → X.env.cells.lookup x = some c → X.s₀.heap.objs.size ≤ c
  hd : X.calm = true → X.A.handled = none
  frames : X.A.frames = some X.stack
  stk : X.stack = X.outer ∨ (X.stack = X.env :: X.outer ∧ X.env.frame = some X.env.locals)
  exf : ∀ b ∈ X.ex, b ≠ X.env.locals ∧ ∀ x c, X.env.cells.lookup x = some c → c ≠ b
  bs : ∀ b o, X.base.get? b = some o → X.s₀.heap.get? b = some o ∧ X.H₀ b = none
  bsz : X.base.objs.size ≤ X.s₀.heap.objs.size
  noex : ∀ b o, X.base.get? b = some o → b ∉ X.ex
  exfs : ∀ b ∈ X.ex, b ∉ X.fs
  funs : X.s₀.heap.FunFrames X.base X.outer
  frf : ∀ b ∈ X.fs, X.H₀ b = none
structure Inv (X : Cx) (pins : List (Addr × Obj)) (σ : List (Option V)) (H : Hp) (s : Shared) : Prop where
  ok : X.Ok
  os : s.os = X.s₀.os
  bare : AllBare s.gens
  base : Un X.fs X.ex X.H₀ H X.s₀.heap s.heap
  loc : ∃ m, s.heap.Ns X.env.locals m ∧ ∀ (i : Nat) (x : Str) (v : V), X.N[i]? = some x → σ[i]? = some (some v) → Vis X.env.scope x → ∃ u, RelV v u ∧ Look X.env s.heap m x u
  cell : ∀ x c, X.env.cells.lookup x = some c → ∃ v, s.heap.IsCell c v
  free : H X.env.locals = none
  freeC : ∀ x c, X.env.cells.lookup x = some c → H c = none
  pin : ∀ p ∈ X.pn ++ pins, s.heap.get? p.1 = some p.2 ∧ H p.1 = none ∧ p.1 ≠ X.env.locals ∧ p.1 ∉ X.fs ∧ ∀ v, p.2.data ≠ .cell v
  hok : HOk X.prog X.w H s.heap
  len : σ.length = X.N.length
section
variable {X : Cx} {pins : List (Addr × Obj)} {σ : List (Option V)} {H H' : Hp} {s : Shared} {h' : Heap}
theorem Cx.Ok.nofr (ok : X.Ok) {b : Addr} {o : Obj} (e : X.base.get? b = some o) : b ∉ X.fs := fun hb => by
  have := (ok.funs.mem hb).1
  rw [e] at this; cases this
theorem Inv.bs (I : Inv X pins σ H s) : ∀ b o, X.base.get? b = some o → s.heap.get? b = some o ∧ H b = none := fun b o e =>
  ⟨I.base.keep b o (I.ok.bs b o e).1 (I.ok.bs b o e).2 (I.ok.nofr e) (I.ok.noex b o e), I.base.free b o (I.ok.bs b o e).1 (I.ok.bs b o e).2 (I.ok.noex b o e)⟩
theorem Inv.bk (I : Inv X pins σ H s) : ∀ b o, X.base.get? b = some o → s.heap.get? b = some o := fun b o e => (I.bs b o e).1
theorem Inv.mod (I : Inv X pins σ H s) : Mod X.K X.mg X.base := I.ok.mod
theorem Inv.kIn (I : Inv X pins σ H s) : X.K.In s.heap := I.ok.mod.kin.keeps I.bk
theorem Inv.fr (I : Inv X pins σ H s) : ∃ m, Fr X.base X.env.locals s.heap m :=
  let ⟨m, hn, _⟩ := I.loc
  ⟨m, hn, I.bk, Nat.le_trans I.ok.bsz I.ok.above⟩
theorem Inv.lt (I : Inv X pins σ H s) : X.env.locals < s.heap.objs.size := let ⟨_, hn, _⟩ := I.loc; hn.lt
theorem Inv.sz (I : Inv X pins σ H s) : X.s₀.heap.objs.size ≤ s.heap.objs.size := Nat.le_trans I.ok.above (Nat.le_of_lt I.lt)
theorem Inv.nofs (I : Inv X pins σ H s) {a : Addr} (h : s.heap.objs.size ≤ a) : a ∉ X.fs := fun hb => by
  obtain ⟨_, o, ho, _⟩ := I.ok.funs.mem hb
  exact absurd (Nat.lt_of_lt_of_le (Heap.lt_size ho) (Nat.le_trans I.sz h)) (Nat.lt_irrefl _)
theorem Inv.cne (I : Inv X pins σ H s) : ∀ x c, X.env.cells.lookup x = some c → c ≠ X.env.locals := fun x c e z => by
  obtain ⟨v, o, ho, hd⟩ := I.cell x c e
  obtain ⟨m, ⟨o', es, ep, ho', hd', _⟩, _⟩ := I.loc
  rw [z, ho'] at ho; cases ho; rw [hd'] at hd; cases hd
theorem Inv.funs (I : Inv X pins σ H s) : s.heap.FunFrames X.base X.outer := by
  have all : ∀ (l : List Env), (∀ b ∈ frs l, b ∈ X.fs) → X.s₀.heap.FunFrames X.base l → s.heap.FunFrames X.base l := by
    intro l
    induction l with
    | nil => intro _ _; trivial
    | cons env r ih =>
      intro hs hl
      obtain ⟨hk, ⟨L, o, hf, hn, ho, hd⟩, hr⟩ := hl
      have hL : L ∈ X.fs := hs L (by unfold frs; rw [List.filterMap_cons, hf]; exact List.mem_cons_self)
      obtain ⟨sl, e⟩ := I.base.slot L o ho (I.ok.frf L hL) hL fun z => I.ok.exfs L z hL
      exact ⟨hk, ⟨L, _, hf, hn, e, hd⟩, ih (fun b hb => hs b (by unfold frs; rw [List.filterMap_cons, hf]; exact List.mem_cons_of_mem _ hb)) hr⟩
  exact all X.outer (fun _ hb => hb) I.ok.funs
theorem Inv.stack (I : Inv X pins σ H s) : s.heap.FunFrames X.base X.stack := by
  rcases I.ok.stk with e | ⟨e, hf⟩
  · rw [e]; exact I.funs
  · rw [e]
    obtain ⟨m, hn, _⟩ := I.loc
    refine .cons (by rw [I.ok.kind]; decide) hf hn ?_ I.funs
    exact Heap.get?_none_of_le (Nat.le_trans I.ok.bsz I.ok.above)
theorem Inv.stkSub (I : Inv X pins σ H s) : ∀ b ∈ frs X.stack, b ∈ X.env.locals :: X.fs := fun b hb => by
  rcases I.ok.stk with e | ⟨e, hf⟩
  · rw [e] at hb; exact List.mem_cons_of_mem _ hb
  · rw [e] at hb
    unfold frs at hb
    rw [List.filterMap_cons, hf] at hb
    exact hb
theorem Inv.stkFree (I : Inv X pins σ H s) : ∀ b ∈ frs X.stack, H b = none := fun b hb => by
  rcases List.mem_cons.mp (I.stkSub b hb) with e | hb
  · rw [e]; exact I.free
  · obtain ⟨_, o, ho, _⟩ := I.ok.funs.mem hb
    exact I.base.free b o ho (I.ok.frf b hb) fun z => I.ok.exfs b z hb
theorem Inv.step {g' : Array GenState} {t' : Nat} {d' : Drawn} {ch : List Addr} (I : Inv X pins σ H s)
    (hch : ∀ b ∈ ch, (b ∈ X.ex ∨ X.s₀.heap.objs.size ≤ b) ∧ b ≠ X.env.locals ∧ (∀ x c, X.env.cells.lookup x = some c → c ≠ b) ∧ ∀ p ∈ X.pn ++ pins, p.1 ≠ b)
    (keep : ∀ b o, b ≠ X.env.locals → b ∉ X.fs → b ∉ ch → s.heap.get? b = some o → H b = none → h'.get? b = some o)
    (slot : ∀ b o, b ≠ X.env.locals → b ∈ X.fs → b ∉ ch → s.heap.get? b = some o → H b = none → ∃ sl, h'.get? b = some { o with slots := sl }) (free : ∀ b o, b ∉ ch → s.heap.get? b = some o → H b = none → H' b = none)
    (there : ∀ b o, b ∉ ch → s.heap.get? b = some o → ∃ o', h'.get? b = some o')
    (tups : ∀ b xs, H b = some (.tup xs) → H' b = some (.tup xs)) (frzs : ∀ b o u, H b = some (.frz o u) → H' b = some (.frz o u)) (tbls : ∀ b ps, H b = some (.tbl ps) → ∃ more, H' b = some (.tbl (ps ++ more)))
    (ns : ∀ m, s.heap.Ns X.env.locals m → h'.Ns X.env.locals m) (hok : HOk X.prog X.w H' h') (hg : AllBare g') :
    Inv X pins σ H' { s with heap := h', gens := g', drawn := d', toks := t' } := by
  have neL : ∀ b o, X.s₀.heap.get? b = some o → b ≠ X.env.locals := fun b o e => Nat.ne_of_lt (Nat.lt_of_lt_of_le (Heap.lt_size e) I.ok.above)
  have neC : ∀ b o, X.s₀.heap.get? b = some o → b ∉ X.ex → b ∉ ch := fun b o e hx hb => by
    rcases (hch b hb).1 with z | z
    · exact hx z
    · exact absurd (Nat.lt_of_lt_of_le (Heap.lt_size e) z) (Nat.lt_irrefl _)
  have cellK : ∀ x c, X.env.cells.lookup x = some c → ∀ v, s.heap.IsCell c v → h'.IsCell c v := fun x c e v ⟨o, ho, hd⟩ => by
    have nch : c ∉ ch := fun z => (hch c z).2.2.1 x c e rfl
    by_cases hc : c ∈ X.fs
    · obtain ⟨sl, q⟩ := slot c o (I.cne x c e) hc nch ho (I.freeC x c e)
      exact ⟨_, q, hd⟩
    · exact ⟨o, keep c o (I.cne x c e) hc nch ho (I.freeC x c e), hd⟩
  refine ⟨I.ok, I.os, hg, ⟨fun b o e n hb hx => ?_, fun b o e n hb hx => ?_, fun b o e n hx => ?_, fun b o e hx => ?_, fun b xs e => tups b xs (I.base.tups b xs e), fun b o xs e => frzs b o xs (I.base.frzs b o xs e), fun b ps e => ?_⟩, ?_, fun x c e => ?_, ?_, fun x c e => ?_, fun p hp => ?_, hok, I.len⟩
  · exact keep b o (neL b o e) hb (neC b o e hx) (I.base.keep b o e n hb hx) (I.base.free b o e n hx)
  · obtain ⟨sl, e1⟩ := I.base.slot b o e n hb hx
    obtain ⟨sl', e2⟩ := slot b _ (neL b o e) hb (neC b o e hx) e1 (I.base.free b o e n hx)
    exact ⟨sl', e2⟩
  · obtain ⟨o', e1⟩ := I.base.there b o e hx
    exact free b o' (neC b o e hx) e1 (I.base.free b o e n hx)
  · obtain ⟨o', e1⟩ := I.base.there b o e hx
    exact there b o' (neC b o e hx) e1
  · obtain ⟨m1, e1⟩ := I.base.tbls b ps e
    obtain ⟨m2, e2⟩ := tbls b _ e1
    exact ⟨m1 ++ m2, by rw [e2, Array.append_assoc]⟩
  · obtain ⟨m, hn, hl⟩ := I.loc
    refine ⟨m, ns m hn, fun i x v e1 e2 e3 => ?_⟩
    obtain ⟨u, r, l⟩ := hl i x v e1 e2 e3
    refine ⟨u, r, ?_⟩
    rcases l with l | ⟨k, c, e, z⟩
    · exact .inl l
    · exact .inr ⟨k, c, e, cellK x c e _ z⟩
  · obtain ⟨v, z⟩ := I.cell x c e
    exact ⟨v, cellK x c e v z⟩
  · obtain ⟨m, ⟨o, _, _, ho, _⟩, _⟩ := I.loc
    exact free _ o (fun z => (hch _ z).2.1 rfl) ho I.free
  · obtain ⟨v, o, ho, hd⟩ := I.cell x c e
    exact free c o (fun z => (hch c z).2.2.1 x c e rfl) ho (I.freeC x c e)
  · obtain ⟨e, n, ne, nf, d⟩ := I.pin p hp
    have nch : p.1 ∉ ch := fun z => (hch p.1 z).2.2.2 p hp rfl
    exact ⟨keep p.1 p.2 ne nf nch e n, free p.1 p.2 nch e n, ne, nf, d⟩
theorem Inv.un {t' : Nat} (I : Inv X pins σ H s) (u : Un X.fs [] H H' s.heap h') (hok : HOk X.prog X.w H' h') : Inv X pins σ H' { s with heap := h', toks := t' } := by
  obtain ⟨m, ⟨o, es, ep, ho, r⟩, _⟩ := id I.loc
  obtain ⟨sl, hL⟩ := u.any ho I.free (by simp)
  exact I.step (g' := s.gens) (d' := s.drawn) (ch := []) (fun _ z => nomatch z) (fun b o _ hb _ e n => u.keep b o e n hb (by simp)) (fun b o _ hb _ e n => u.slot b o e n hb (by simp)) (fun b o _ e n => u.free b o e n (by simp)) (fun b o _ e => u.there b o e (by simp)) u.tups u.frzs u.tbls (fun m' hm => by
    obtain ⟨o', es', ep', ho', r'⟩ := hm
    rw [ho] at ho'; cases ho'
    exact ⟨_, es', ep', hL, r'⟩) hok I.bare
theorem Inv.call {g' : Array GenState} {t' : Nat} {d' : Drawn} {ch : List Addr} (I : Inv X pins σ H s) (u : Un (frs X.stack) ch H H' s.heap h') (hok : HOk X.prog X.w H' h') (hg : AllBare g')
    (hch : ∀ b ∈ ch, (b ∈ X.ex ∨ X.s₀.heap.objs.size ≤ b) ∧ b ≠ X.env.locals ∧ (∀ x c, X.env.cells.lookup x = some c → c ≠ b) ∧ ∀ p ∈ X.pn ++ pins, p.1 ≠ b) :
    Inv X pins σ H' { s with heap := h', gens := g', drawn := d', toks := t' } := by
  obtain ⟨m, ⟨o, es, ep, ho, r⟩, _⟩ := id I.loc
  obtain ⟨sl, hL⟩ := u.any ho I.free fun z => (hch _ z).2.1 rfl
  exact I.step (ch := ch) hch (fun b o hL hb hc e n => u.keep b o e n (fun z => (List.mem_cons.mp (I.stkSub b z)).elim hL hb) hc) (fun b o _ _ hc e n => u.any e n hc) (fun b o hc e n => u.free b o e n hc) (fun b o hc e => u.there b o e hc) u.tups u.frzs u.tbls (fun m' hm => by
    obtain ⟨o', es', ep', ho', r'⟩ := hm
    rw [ho] at ho'; cases ho'
    exact ⟨_, es', ep', hL, r'⟩) hok hg
theorem Inv.turned {t' : Nat} {it : Addr} (I : Inv X pins σ H s) (k : ∀ b o, b ≠ it → s.heap.get? b = some o → h'.get? b = some o) (hn : H it = none) (hL : it ≠ X.env.locals)
    (h1 : it ∈ X.ex ∨ X.s₀.heap.objs.size ≤ it) (h2 : ∀ x c, X.env.cells.lookup x = some c → c ≠ it) (h3 : ∀ p ∈ X.pn ++ pins, p.1 ≠ it) : Inv X pins σ H { s with heap := h', toks := t' } := by
  have nit : ∀ b u, H b = some u → b ≠ it := fun b u e z => by rw [z, hn] at e; cases e
  refine I.step (g' := s.gens) (d' := s.drawn) (ch := [it]) (fun b hb => ?_) (fun b o _ _ hc e _ => k b o (fun z => hc (by simp [z])) e) (fun b o _ _ hc e _ => ⟨o.slots, k b o (fun z => hc (by simp [z])) e⟩) (fun _ _ _ _ n => n)
    (fun b o hc e => ⟨o, k b o (fun z => hc (by simp [z])) e⟩) (fun _ _ e => e) (fun _ _ _ e => e) (fun b ps e => ⟨#[], by rw [e]; simp⟩) (fun m hm => ?_) (fun b u e => ?_) I.bare
  · have e : b = it := by simpa using hb
    subst e
    exact ⟨h1, hL, h2, h3⟩
  · obtain ⟨o, es, ep, ho, r⟩ := hm
    exact ⟨o, es, ep, k _ o (Ne.symm hL) ho, r⟩
  · refine (I.hok b u e).stay (fun c v hc q => k c v ?_ q) (fun _ q => q) fun _ _ q => q
    rcases hc with z | z
    · rw [z]; exact nit b u e
    · exact nit c _ z
theorem Inv.tok (I : Inv X pins σ H s) (t : Nat) : Inv X pins σ H { s with toks := t } := I.un (h' := s.heap) (t' := t) Un.refl I.hok
theorem Inv.kept {t' : Nat} (I : Inv X pins σ H s) (k : ∀ b u, s.heap.get? b = some u → h'.get? b = some u) : Inv X pins σ H { s with heap := h', toks := t' } := I.un (Un.kept k) (I.hok.kept k)
theorem Inv.laid {a : Addr} {o : HO} {t' : Nat} (I : Inv X pins σ H s) (k : ∀ b u, s.heap.get? b = some u → h'.get? b = some u) (hp : s.heap.objs.size ≤ a) (new : ObjOk X.prog X.w (upd H a o) h' a o) :
    Inv X pins σ (upd H a o) { s with heap := h', toks := t' } := I.un (Un.laid k hp (I.hok.fresh hp)) (I.hok.laid k hp new)
theorem Inv.write {x e : Addr} {o : HO} {t' : Nat} (I : Inv X pins σ H s) (mu : Mut (H x)) (he : e = x ∨ H e = some (.own x)) (k : ∀ b u, b ≠ e → s.heap.get? b = some u → h'.get? b = some u) (heo : ∃ u, h'.get? e = some u)
    (new : ObjOk X.prog X.w (upd H x o) h' x o) : Inv X pins σ (upd H x o) { s with heap := h', toks := t' } := I.un (Un.write mu he k heo) (I.hok.write mu he k heo new)
theorem Inv.pins_of {pins' : List (Addr × Obj)} (I : Inv X pins σ H s) (h : ∀ p ∈ pins', s.heap.get? p.1 = some p.2 ∧ H p.1 = none ∧ p.1 ≠ X.env.locals ∧ p.1 ∉ X.fs ∧ ∀ v, p.2.data ≠ .cell v) : Inv X pins' σ H s :=
  ⟨I.ok, I.os, I.bare, I.base, I.loc, I.cell, I.free, I.freeC, fun p hp => (List.mem_append.mp hp).elim (fun z => I.pin p (List.mem_append_left _ z)) (h p), I.hok, I.len⟩
theorem nodup_ix {N : List Str} (hN : N.Nodup) {i j : Nat} {x : Str} (a : N[i]? = some x) (b : N[j]? = some x) : i = j := by
  obtain ⟨h1, e1⟩ := List.getElem?_eq_some_iff.mp a
  obtain ⟨h2, e2⟩ := List.getElem?_eq_some_iff.mp b
  exact (List.getElem_inj hN).mp (e1.trans e2.symm)
theorem store_ok2 {M : Model} {A : Around} {E : Value → Shared → Prop} {i : Nat} {x : Str} {v : V} {u : Value} {Q : Unit → Shared → Prop} (I : Inv X pins σ H s) (hN : X.N.Nodup) (hi : X.N[i]? = some x) (hx : Loc X.env.scope x) (r : RelV v u)
    (h : ∀ s', Inv X pins (σ.set i (some v)) H s' → (∃ a, Heap.SameBut a s.heap s'.heap ∧ (a = X.env.locals ∨ X.env.cells.lookup x = some a)) → Q () s') (hf : X.fn x = true ∨ X.env.scope.names.lookup x = some .local := by first | exact .inl rfl | exact .inr rfl | assumption) : wpAny M A (storeName X.env x u) Q E s := by
  obtain ⟨m, hn, hl⟩ := id I.loc
  have hcls : (X.env.scope.kind == .class || (X.env.scope.kind == .module && X.env.locals != X.env.globals)) = false := by rw [I.ok.kind]; rfl
  have hiσ : i < σ.length := by rw [I.len]; exact (List.getElem?_eq_some_iff.mp hi).1
  have cne := I.cne
  have tracked : ∀ {a : Addr} {h' : Heap}, (∃ o, s.heap.get? a = some o ∧ H a = none) → Heap.SameBut a s.heap h' → HOk X.prog X.w H h' := fun {a h'} ha hs b ob e => by
    obtain ⟨_, _, hfree⟩ := ha
    refine (I.hok b ob e).stay (fun c w' hc q => (hs.2 c ?_).trans q) (fun _ q => q) fun _ _ q => q
    rintro rfl
    rcases hc with rfl | hc
    · rw [hfree] at e; cases e
    · rw [hfree] at hc; cases hc
  rcases hx with hk | hk
  · refine wpAny_storeName_local hk hn (fun h' hn' hs => ?_) hcls
    obtain ⟨oL, _, _, hoL, _⟩ := id hn
    refine h _ ⟨I.ok, I.os, I.bare, ⟨fun b o e n hb hx => ?_, fun b o e n hb hx => ?_, I.base.free, fun b o e hx => ?_, I.base.tups, I.base.frzs, I.base.tbls⟩, ⟨_, hn', fun j y v' e1 e2 e3 => ?_⟩, fun y c e => ?_, I.free, I.freeC, fun p hp => ?_, tracked ⟨oL, hoL, I.free⟩ hs, by simpa using I.len⟩ ⟨_, hs, .inl rfl⟩
    · exact (hs.2 b (Nat.ne_of_lt (Nat.lt_of_lt_of_le (Heap.lt_size e) I.ok.above))).trans (I.base.keep b o e n hb hx)
    · obtain ⟨sl, e1⟩ := I.base.slot b o e n hb hx
      exact ⟨sl, (hs.2 b (Nat.ne_of_lt (Nat.lt_of_lt_of_le (Heap.lt_size e) I.ok.above))).trans e1⟩
    · obtain ⟨o', e1⟩ := I.base.there b o e hx
      exact ⟨o', (hs.2 b (Nat.ne_of_lt (Nat.lt_of_lt_of_le (Heap.lt_size e) I.ok.above))).trans e1⟩
    · by_cases hj : j = i
      · subst hj
        rw [hi] at e1; cases e1
        rw [List.getElem?_set_self hiσ] at e2
        cases e2
        exact ⟨u, r, .inl ⟨hk, by simp⟩⟩
      · rw [List.getElem?_set_ne (Ne.symm hj)] at e2
        obtain ⟨u', r', q⟩ := hl j y v' e1 e2 e3
        refine ⟨u', r', ?_⟩
        rcases q with ⟨k, e⟩ | ⟨k, c, e, z⟩
        · refine .inl ⟨k, ?_⟩
          have : y ≠ x := fun e => hj (nodup_ix hN e1 (e ▸ hi))
          simp [this, e]
        · exact .inr ⟨k, c, e, z.sameBut hs (cne y c e)⟩
    · obtain ⟨w', z⟩ := I.cell y c e
      exact ⟨w', z.sameBut hs (cne y c e)⟩
    · obtain ⟨e, n, ne, nf, d⟩ := I.pin p hp
      exact ⟨(hs.2 p.1 ne).trans e, n, ne, nf, d⟩
  · have hfn : X.fn x = true := by
      rcases hf with z | z
      · exact z
      · rw [z] at hk; cases hk
    obtain ⟨c, hc⟩ := I.ok.has x (.inl hk)
    obtain ⟨w', z⟩ := I.cell x c hc
    refine wpAny_storeName_cell I.ok.kind hk hc z (fun h' hc' hs => ?_)
    obtain ⟨oc, hoc, hocd⟩ := id z
    refine h { s with heap := h' } ⟨I.ok, I.os, I.bare, ⟨fun b o e n hb hx => ?_, fun b o e n hb hx => ?_, I.base.free, fun b o e hx => ?_, I.base.tups, I.base.frzs, I.base.tbls⟩, ⟨m, hn.sameBut hs (Ne.symm (cne x c hc)), fun j y v' e1 e2 e3 => ?_⟩, fun y c' e => ?_, I.free, I.freeC, fun p hp => ?_, tracked ⟨oc, hoc, I.freeC x c hc⟩ hs, by simpa using I.len⟩ ⟨c, hs, .inr hc⟩
    · exact (hs.2 b (Nat.ne_of_lt (Nat.lt_of_lt_of_le (Heap.lt_size e) (I.ok.cab x c hfn hc)))).trans (I.base.keep b o e n hb hx)
    · obtain ⟨sl, e1⟩ := I.base.slot b o e n hb hx
      exact ⟨sl, (hs.2 b (Nat.ne_of_lt (Nat.lt_of_lt_of_le (Heap.lt_size e) (I.ok.cab x c hfn hc)))).trans e1⟩
    · obtain ⟨o', e1⟩ := I.base.there b o e hx
      exact ⟨o', (hs.2 b (Nat.ne_of_lt (Nat.lt_of_lt_of_le (Heap.lt_size e) (I.ok.cab x c hfn hc)))).trans e1⟩
    · by_cases hj : j = i
      · subst hj
        rw [hi] at e1; cases e1
        rw [List.getElem?_set_self hiσ] at e2
        cases e2
        exact ⟨u, r, .inr ⟨.inl hk, c, hc, hc'⟩⟩
      · rw [List.getElem?_set_ne (Ne.symm hj)] at e2
        obtain ⟨u', r', q⟩ := hl j y v' e1 e2 e3
        refine ⟨u', r', ?_⟩
        rcases q with q | ⟨k, c', e, z'⟩
        · exact .inl q
        · refine .inr ⟨k, c', e, z'.sameBut hs ?_⟩
          rintro rfl
          exact hj (nodup_ix hN e1 (I.ok.inj _ _ _ e hc ▸ hi))
    · by_cases hcc : c' = c
      · subst hcc; exact ⟨_, hc'⟩
      · obtain ⟨w2, z2⟩ := I.cell y c' e
        exact ⟨w2, z2.sameBut hs hcc⟩
    · obtain ⟨e, n, ne, nf, d⟩ := I.pin p hp
      refine ⟨(hs.2 p.1 ?_).trans e, n, ne, nf, d⟩
      intro q
      rw [q, hoc] at e
      have q' : oc = p.2 := Option.some.inj e
      exact d w' (by rw [← q']; exact hocd)
theorem store_ok {M : Model} {A : Around} {E : Value → Shared → Prop} {i : Nat} {x : Str} {v : V} {u : Value} {Q : Unit → Shared → Prop} (I : Inv X pins σ H s) (hN : X.N.Nodup) (hi : X.N[i]? = some x) (hx : Loc X.env.scope x) (r : RelV v u)
    (h : ∀ s', Inv X pins (σ.set i (some v)) H s' → Q () s') (hf : X.fn x = true ∨ X.env.scope.names.lookup x = some .local := by first | exact .inl rfl | exact .inr rfl | assumption) : wpAny M A (storeName X.env x u) Q E s :=
  store_ok2 I hN hi hx r (fun s' I' _ => h s' I') hf
theorem Inv.call' {s' : Shared} {ch : List Addr} (I : Inv X pins σ H s) (ho : s'.os = s.os) (u : Un (frs X.stack) ch H H' s.heap s'.heap) (hok : HOk X.prog X.w H' s'.heap) (hg : AllBare s'.gens)
    (hch : ∀ b ∈ ch, (b ∈ X.ex ∨ X.s₀.heap.objs.size ≤ b) ∧ b ≠ X.env.locals ∧ (∀ x c, X.env.cells.lookup x = some c → c ≠ b) ∧ ∀ p ∈ X.pn ++ pins, p.1 ≠ b) : Inv X pins σ H' s' := by
  obtain ⟨h', g', d', t', o'⟩ := s'
  have e : o' = s.os := ho
  subst e
  exact I.call (g' := g') (t' := t') (d' := d') u hok hg hch
end
abbrev XK := Value → Option Addr → Hp → Prop
abbrev St := List (Option V)
abbrev VK := V → Hp → Prop
abbrev TE := St → Hp → VK → Prop
abbrev TT := St → Hp → (Bool → Hp → Prop) → Prop
abbrev TA := St → Hp → (List V → Hp → Prop) → Prop
structure Ends where
  nx : St → Hp → Prop
  rt : VK
  bk : St → Hp → Prop := fun _ _ => False
  ct : St → Hp → Prop := fun _ _ => False
abbrev TS := Ends → St → Hp → Prop
def EP (X : Cx) (pins : List (Addr × Obj)) (σ : St) (Q : VK) (u : Value) (s' : Shared) : Prop := ∃ v H', Inv X pins σ H' s' ∧ RelV v u ∧ Q v H'
def TP (X : Cx) (pins : List (Addr × Obj)) (σ : St) (Q : Bool → Hp → Prop) (b : Bool) (s' : Shared) : Prop := ∃ H', Inv X pins σ H' s' ∧ Q b H'
def AP (X : Cx) (pins : List (Addr × Obj)) (σ : St) (Q : List V → Hp → Prop) (us : List Value) (s' : Shared) : Prop := ∃ vs H', Inv X pins σ H' s' ∧ Vals vs us ∧ Q vs H'
def SP (X : Cx) (pins : List (Addr × Obj)) (D : Ends) (f : Flow) (s' : Shared) : Prop :=
  match f with
  | .next => ∃ σ' H', Inv X pins σ' H' s' ∧ D.nx σ' H'
  | .brk => ∃ σ' H', Inv X pins σ' H' s' ∧ D.bk σ' H'
  | .cont => ∃ σ' H', Inv X pins σ' H' s' ∧ D.ct σ' H'
  | .ret u => ∃ v σ' H', Inv X pins σ' H' s' ∧ RelV v u ∧ D.rt v H'
def PE (X : Cx) (e : Expr) (t : TE) : Prop :=
  ∀ (pins : List (Addr × Obj)) (s : Shared) (σ : St) (H : Hp) (Q : VK), Inv X pins σ H s → t σ H Q → wpAny (model X.prog X.w) X.A (eval e X.env) (EP X pins σ Q) X.xe s
def PT (X : Cx) (e : Expr) (t : TT) : Prop :=
  ∀ (pins : List (Addr × Obj)) (s : Shared) (σ : St) (H : Hp) (Q : Bool → Hp → Prop), Inv X pins σ H s → t σ H Q → wpAny (model X.prog X.w) X.A (isTrue e X.env (eval e X.env)) (TP X pins σ Q) X.xe s
def PW (X : Cx) (e : Expr) (t : TT) : Prop :=
  ∀ (whole : Sem Value) (pins : List (Addr × Obj)) (s : Shared) (σ : St) (H : Hp) (Q : Bool → Hp → Prop), Inv X pins σ H s → t σ H Q → wpAny (model X.prog X.w) X.A (isTrue e X.env whole) (TP X pins σ Q) X.xe s
theorem PW.pt {X : Cx} {e : Expr} {t : TT} (h : PW X e t) : PT X e t := h _
def PA (X : Cx) (es : List Expr) (t : TA) : Prop :=
  ∀ (pos : Pos) (pins : List (Addr × Obj)) (s : Shared) (σ : St) (H : Hp) (Q : List V → Hp → Prop), Inv X pins σ H s → t σ H Q → wpAny (model X.prog X.w) X.A (spliced (backTo pos (starEach es X.env))) (AP X pins σ Q) X.xe s
def PS (X : Cx) (st : Stmt) (t : TS) : Prop :=
  ∀ (pins : List (Addr × Obj)) (s : Shared) (σ : St) (H : Hp) (D : Ends), Inv X pins σ H s → t D σ H → wpAny (model X.prog X.w) X.A (exec st X.env) (SP X pins D) X.xe s
def PSs (X : Cx) (st : List Stmt) (t : TS) : Prop :=
  ∀ (pins : List (Addr × Obj)) (s : Shared) (σ : St) (H : Hp) (D : Ends), Inv X pins σ H s → t D σ H → wpAny (model X.prog X.w) X.A (execs st X.env) (SP X pins D) X.xe s
theorem thn {α : Type} {t : Sem α} {Q Q' : α → Shared → Prop} {M : Model} {A : Around} {E : Value → Shared → Prop} {s : Shared} (h : wpAny M A t Q E s) (hQ : ∀ a s, Q a s → Q' a s) : wpAny M A t Q' E s := wpAny_mono h hQ fun _ _ x => x
end L2
namespace L2
open PySem PySem.Spec PyProof.Rows
section
variable {X : Cx}
theorem bin {a b : Expr} {ta tb : TE} (ha : PE X a ta) (hb : PE X b tb) {pins : List (Addr × Obj)} {s : Shared} {σ : St} {H : Hp} {R : V → V → Hp → Prop} (I : Inv X pins σ H s) (h : ta σ H fun x H1 => tb σ H1 fun y H2 => R x y H2)
    {α : Type} {Q : α → Shared → Prop} {f : Value → Value → Sem α}
    (hf : ∀ v u s2 x y H2, Inv X pins σ H2 s2 → RelV x v → RelV y u → R x y H2 → wpAny (model X.prog X.w) X.A (f v u) Q X.xe s2) :
    wpAny (model X.prog X.w) X.A (eval a X.env) (fun v s₁ => wpAny (model X.prog X.w) X.A (eval b X.env) (fun u s₂ => wpAny (model X.prog X.w) X.A (f v u) Q X.xe s₂) X.xe s₁) X.xe s := by
  refine thn (ha pins s σ H _ I h) fun v s1 ⟨x, H1, I1, r1, q1⟩ => ?_
  refine thn (hb pins s1 σ H1 _ I1 q1) fun u s2 ⟨y, H2, I2, r2, q2⟩ => ?_
  exact hf v u s2 x y H2 I2 r1 r2 q2
def tVar (i : Nat) : TE := fun σ H Q => ∃ v, σ[i]? = some (some v) ∧ Q v H
def tC (v : V) : TE := fun _ H Q => Q v H
theorem pe_var {i : Nat} {x : Str} {pos : Pos} (hN : X.N[i]? = some x) (hv : Vis X.env.scope x) (hd : (x == ("__debug__" : Str)) = false := by decide) (hcd : (x == ("__classdict__" : Str)) = false := by decide) : PE X (.Name x pos) (tVar i) := by
  intro pins s σ H Q I h
  obtain ⟨v, e, h⟩ := h
  obtain ⟨m, hn, hl⟩ := I.loc
  obtain ⟨u, r, l⟩ := hl i x v hN e hv
  have fin : EP X pins σ Q u s := ⟨v, H, I, r, h⟩
  rcases l with ⟨hk, hm⟩ | ⟨hk, c, hc, hcell⟩
  · exact wpAny_Name (wpAny_loadName_local I.ok.kind hk hn hm fin) hd
  · rcases hk with hk | hk
    · exact wpAny_Name (wpAny_loadName_cell I.ok.kind hk hc hcell fin) hd
    · exact wpAny_Name (wpAny_loadName_free I.ok.kind hk hc hcell fin hcd) hd
theorem pe_int {i j pos} : PE X (.Constant (.int i) j pos) (tC (.int i)) := fun _ _ _ H _ I h => wpAny_Constant_int ⟨.int i, H, I.tok _, ⟨_, rfl⟩, h⟩
theorem pe_bl {b j pos} : PE X (.Constant (.bool b) j pos) (tC (.bl b)) := fun _ _ _ H _ I h => Constant_bool ⟨.bl b, H, I, rfl, h⟩
theorem pe_non {j pos} : PE X (.Constant .none j pos) (tC .non) := fun _ _ _ H _ I h => Constant_none ⟨.non, H, I, rfl, h⟩
theorem pe_str {x j pos} : PE X (.Constant (.str x) j pos) (tC (.str x)) := fun _ _ _ H _ I h => Calls.Constant_str ⟨.str x, H, I.tok _, ⟨_, rfl⟩, h⟩
def Gl (X : Cx) (x : Str) : Prop := X.env.kindOf x = some .globalImplicit
theorem ld_glob {E : Value → Shared → Prop} {pins : List (Addr × Obj)} {s : Shared} {σ : St} {H : Hp} {x : Str} {u : Value} {pos : Pos} {Q : Value → Shared → Prop} (I : Inv X pins σ H s) (hg : Gl X x) (hm : X.mg x = some u) (h : Q u s)
    (hd : (x == ("__debug__" : Str)) = false := by decide) : wpAny (model X.prog X.w) X.A (eval (.Name x pos) X.env) Q E s :=
  Calls.Name_function_global I.ok.kind hg (Calls.loadGlobal_global (by rw [I.ok.glob]; exact I.mod.glob.keeps I.bk) hm h) hd
theorem ld_blt {E : Value → Shared → Prop} {pins : List (Addr × Obj)} {s : Shared} {σ : St} {H : Hp} {x : Str} {u : Value} {pos : Pos} {Q : Value → Shared → Prop} (I : Inv X pins σ H s) (hg : Gl X x) (hm : X.mg x = none) (hv : bootBuiltins x = some u) (h : Q u s)
    (hn : x ≠ "__name__" := by decide) (hd : (x == ("__debug__" : Str)) = false := by decide) : wpAny (model X.prog X.w) X.A (eval (.Name x pos) X.env) Q E s := by
  obtain ⟨mb, h1, h2⟩ := I.mod.blt
  exact Calls.Name_function_global I.ok.kind hg (Calls.loadGlobal_builtin (by rw [I.ok.glob]; exact I.mod.glob.keeps I.bk) hm (by rw [I.ok.blt]; exact h1.keeps I.bk) ((h2 x hn).trans hv) h) hd
theorem pe_glob {x : Str} {v : V} {u : Value} {pos : Pos} (hg : Gl X x) (hm : X.mg x = some u) (r : RelV v u) (hd : (x == ("__debug__" : Str)) = false := by decide) : PE X (.Name x pos) (tC v) :=
  fun _ _ _ H _ I h => ld_glob I hg hm ⟨v, H, I, r, h⟩ hd
theorem pe_bltn {x : Str} {v : V} {u : Value} {pos : Pos} (hg : Gl X x) (hm : X.mg x = none) (hv : bootBuiltins x = some u) (r : RelV v u) (hn : x ≠ "__name__" := by decide) (hd : (x == ("__debug__" : Str)) = false := by decide) : PE X (.Name x pos) (tC v) :=
  fun _ _ _ H _ I h => ld_blt I hg hm hv ⟨v, H, I, r, h⟩ hn hd
variable {a b : Expr} {ta tb : TE} {pos : Pos}
def PC (X : Cx) (op : CmpOp) (a b : Expr) (t : TE) : Prop :=
  ∀ (pins : List (Addr × Obj)) (s : Shared) (σ : St) (H : Hp) (Q : VK), Inv X pins σ H s → t σ H Q →
    wpAny (model X.prog X.w) X.A (eval a X.env) (fun v s₁ => wpAny (model X.prog X.w) X.A (eval b X.env) (fun u s₂ => wpAny (model X.prog X.w) X.A (compareOp op v u) (EP X pins σ Q) X.xe s₂) X.xe s₁) X.xe s
theorem nobehind (b : Expr) {op : CmpOp} (h : op ≠ .In) (h2 : op ≠ .NotIn) : behindInMarks op b = false := by
  have e1 : (op == CmpOp.In) = false := by cases op <;> first | rfl | exact absurd rfl h
  have e2 : (op == CmpOp.NotIn) = false := by cases op <;> first | rfl | exact absurd rfl h2
  cases b <;> simp [behindInMarks, e1, e2]
def tB (t : TE) : TT := fun σ H Q => t σ H fun x H1 => ∃ c, x = .bl c ∧ Q c H1
theorem pt_cmp {op : CmpOp} {t : TE} (h : PC X op a b t) (h1 : behindInMarks op b = false := by first | exact nobehind _ (by decide) (by decide) | rfl) : PT X (.Compare a [op] [b] pos) (tB t) := by
  intro pins s σ H Q I hw
  refine wpAny_isTrue_Compare1 (thn (h pins s σ H _ I hw) fun v s1 h1 => thn h1 fun u s2 h2 => thn h2 fun c s3 ⟨x, H1, I1, r1, q1⟩ => ?_) h1
  obtain ⟨d, rfl, q⟩ := q1
  cases r1
  exact wpAny_truthy_bool ⟨H1, I1, q⟩
theorem pt_val {e : Expr} {t : TE} (h : PE X e t) (he : ∀ whole, isTrue e X.env whole = (do let v ← whole; standAt e.pos; holding [v] (truthy v)) := by intro _; rfl) : PT X e (tB t) := by
  intro pins s σ H Q I hw
  refine isTrue_plain (thn (h pins s σ H _ I hw) fun v s1 ⟨x, H1, I1, r1, q1⟩ => ?_) (he _)
  obtain ⟨d, rfl, q⟩ := q1
  cases r1
  exact wpAny_truthy_bool ⟨H1, I1, q⟩
variable {tA tB' : TT} {rest : List Expr}
def tAnd (t u : TT) : TT := fun σ H Q => t σ H fun c H1 => if c = true then u σ H1 Q else Q false H1
def tNot (t : TT) : TT := fun σ H Q => t σ H fun c H1 => Q (!c) H1
theorem pw_and1 (ha : PT X a tA) : PW X (.BoolOp .And [a] pos) tA := by
  intro wh pins s σ H Q I h
  refine isTrue_and (thn (ha pins s σ H Q I h) fun c s1 e => ?_)
  cases c with
  | true => exact isTrue_and_nil e
  | false => exact e
theorem pw_and (ha : PT X a tA) (hb : PW X (.BoolOp .And (b :: rest) pos) tB') : PW X (.BoolOp .And (a :: b :: rest) pos) (tAnd tA tB') := by
  intro wh pins s σ H Q I h
  refine isTrue_and (thn (ha pins s σ H _ I h) fun c s1 ⟨H1, I1, q1⟩ => ?_)
  cases c with
  | true => exact hb wh pins s1 σ H1 Q I1 q1
  | false => exact ⟨H1, I1, q1⟩
theorem pt_not (ha : PT X a tA) : PT X (.UnaryOp .Not a pos) (tNot tA) := by
  intro pins s σ H Q I h
  exact isTrue_not (ha pins s σ H (fun c H1 => Q (!c) H1) I h)
def tAndV (ta tb : TE) : TE := fun σ H Q => ta σ H fun x H1 => ∃ c, x = .bl c ∧ if c = true then tb σ H1 Q else Q (.bl false) H1
def tNotV (ta : TE) : TE := fun σ H Q => ta σ H fun x H1 => ∃ c, x = .bl c ∧ Q (.bl (!c)) H1
theorem pe_one {op} {t : TE} (h : PE X a t) : PE X (.BoolOp op [a] pos) t := fun pins s σ H Q I hw => BoolOp_one (h pins s σ H Q I hw)
theorem pe_and (ha : PE X a ta) (hb : PE X (.BoolOp .And (b :: rest) pos) tb) : PE X (.BoolOp .And (a :: b :: rest) pos) (tAndV ta tb) := by
  intro pins s σ H Q I h
  refine BoolOp_and (thn (ha pins s σ H _ I h) fun v s1 ⟨x, H1, I1, r1, q1⟩ => ?_)
  obtain ⟨c, rfl, q1⟩ := q1
  cases r1
  refine wpAny_truthy_bool ?_
  cases c with
  | true => exact hb pins s1 σ H1 Q I1 q1
  | false => exact ⟨.bl false, H1, I1, rfl, q1⟩
theorem pe_not (ha : PE X a ta) : PE X (.UnaryOp .Not a pos) (tNotV ta) := by
  intro pins s σ H Q I h
  refine UnaryOp_ (thn (ha pins s σ H _ I h) fun v s1 ⟨x, H1, I1, r1, q1⟩ => ?_)
  obtain ⟨c, rfl, q1⟩ := q1
  cases r1
  exact not_of (wpAny_truthy_bool ⟨.bl (!c), H1, I1, rfl, q1⟩)
end
end L2
namespace L2
open PySem PySem.Spec PyProof.Rows
def SqL (K : PySem.W.Frag) (H : Hp) (a : Addr) (xs : List V) : Prop :=
  Rd H a (.lst xs) ∨
    ∃ (o : Obj) (its : Array Value) (n : Nat), K.lookup a = some o ∧ o.cls = .type "list" ∧ o.dict = none ∧ o.data = .seq its n ∧ its.size ≤ sizeLine ∧ Vals xs its.toList
def SqT (K : PySem.W.Frag) (H : Hp) (a : Addr) (xs : List V) : Prop :=
  Rd H a (.tup xs) ∨
    ∃ (o : Obj) (its : Array Value) (n : Nat), K.lookup a = some o ∧ o.cls = .type "tuple" ∧ o.data = .seq its n ∧ its.size ≤ sizeLine ∧ Vals xs its.toList
def absV : Value → Option V
  | .none => some .non
  | .bool b => some (.bl b)
  | .int i _ => some (.int i)
  | .str x _ => some (.str x)
  | .bytes b _ => some (.byt b)
  | .float b _ => some (.flt b)
  | .ref a => some (.ref a)
  | .type n => some (.ty n)
  | _ => none
theorem RelV.abs {x : V} {u : Value} (r : RelV x u) : absV u = some x := by
  cases x with
  | non => cases r; rfl
  | bl _ => cases r; rfl
  | int _ => obtain ⟨t, rfl⟩ := r; rfl
  | str _ => obtain ⟨t, rfl⟩ := r; rfl
  | byt _ => obtain ⟨t, rfl⟩ := r; rfl
  | flt _ => obtain ⟨t, rfl⟩ := r; rfl
  | ref _ => cases r; rfl
  | ty _ => cases r; rfl
theorem RelV.inj {x y : V} {u : Value} (r : RelV x u) (q : RelV y u) : x = y := Option.some.inj (r.abs.symm.trans q.abs)
theorem Vals.inj : ∀ {xs ys : List V} {us : List Value}, Vals xs us → Vals ys us → xs = ys
  | _, _, _, .nil, .nil => rfl
  | _, _, _, .cons r t, .cons r' t' => by rw [r.inj r', Vals.inj t t']
section
variable {X : Cx} {pins : List (Addr × Obj)} {σ : St} {H : Hp} {s : Shared} {a : Addr} {xs ys : List V}
theorem SqL.of {K : PySem.W.Frag} (h : H a = some (.lst xs)) : SqL K H a xs := .inl (.inl h)
theorem SqT.of {K : PySem.W.Frag} (h : H a = some (.tup xs)) : SqT K H a xs := .inl (.inl h)
theorem Inv.list (I : Inv X pins σ H s) (h : SqL X.K H a xs) : ∃ its : List Value, Vals xs its ∧ PlainL s.heap a its.toArray ∧ xs.length ≤ sizeLine := by
  rcases h with h | ⟨o, its, n, hk, hc, hd, hs, hz, r⟩
  · obtain ⟨z, its, n, r, e⟩ := h.ok I.hok
    exact ⟨its, r, ⟨_, n, e, rfl, rfl, rfl⟩, z⟩
  · refine ⟨its.toList, r, ⟨o, n, I.kIn a o hk, hc, hd, by simpa using hs⟩, ?_⟩
    have e := r.length
    simp only [Array.length_toList] at e
    omega
theorem Inv.tuple (I : Inv X pins σ H s) (h : SqT X.K H a xs) : ∃ its : List Value, Vals xs its ∧ IsTup s.heap a its.toArray ∧ xs.length ≤ sizeLine := by
  rcases h with h | ⟨o, its, n, hk, hc, hs, hz, r⟩
  · obtain ⟨z, its, r, p⟩ := h.ok I.hok
    exact ⟨its, r, p, z⟩
  · refine ⟨its.toList, r, ⟨o, I.kIn a o hk, hc, n, by simpa using hs⟩, ?_⟩
    have e := r.length
    simp only [Array.length_toList] at e
    omega
theorem Inv.list_inj (I : Inv X pins σ H s) (h : SqL X.K H a xs) (h' : SqL X.K H a ys) : xs = ys := by
  obtain ⟨its, r, ⟨o, n, e, _, _, d⟩, _⟩ := I.list h
  obtain ⟨its', r', ⟨o', n', e', _, _, d'⟩, _⟩ := I.list h'
  rw [e] at e'; cases e'
  rw [d] at d'
  injection d' with d1 _
  have : its = its' := by simpa using congrArg Array.toList d1
  subst this
  exact r.inj r'
theorem Inv.tuple_inj (I : Inv X pins σ H s) (h : SqT X.K H a xs) (h' : SqT X.K H a ys) : xs = ys := by
  obtain ⟨its, r, ⟨o, e, _, n, d⟩, _⟩ := I.tuple h
  obtain ⟨its', r', ⟨o', e', _, n', d'⟩, _⟩ := I.tuple h'
  rw [e] at e'; cases e'
  rw [d] at d'
  injection d' with d1 _
  have : its = its' := by simpa using congrArg Array.toList d1
  subst this
  exact r.inj r'
end
abbrev Cx.wish (X : Cx) (E : Value → Shared → Prop) : Cx := { X with xe := E }
abbrev Cx.nox (X : Cx) : Cx := X.wish fun _ _ => False
theorem Cx.Ok.wish {X : Cx} (ok : X.Ok) (E : Value → Shared → Prop) : (X.wish E).Ok :=
  ⟨ok.mod, ok.kind, ok.glob, ok.blt, ok.above, ok.inj, ok.has, ok.cab, ok.hd, ok.frames, ok.stk, ok.exf, ok.bs, ok.bsz, ok.noex, ok.exfs, ok.funs, ok.frf⟩
theorem Cx.Ok.unwish {X : Cx} {E : Value → Shared → Prop} (ok : (X.wish E).Ok) : X.Ok :=
  ⟨ok.mod, ok.kind, ok.glob, ok.blt, ok.above, ok.inj, ok.has, ok.cab, ok.hd, ok.frames, ok.stk, ok.exf, ok.bs, ok.bsz, ok.noex, ok.exfs, ok.funs, ok.frf⟩
section
variable {X : Cx} {pins : List (Addr × Obj)} {σ : St} {H : Hp} {s : Shared} {E : Value → Shared → Prop}
theorem Inv.wish (I : Inv X pins σ H s) (E : Value → Shared → Prop) : Inv (X.wish E) pins σ H s := ⟨I.ok.wish E, I.os, I.bare, I.base, I.loc, I.cell, I.free, I.freeC, I.pin, I.hok, I.len⟩
theorem Inv.unwish (I : Inv (X.wish E) pins σ H s) : Inv X pins σ H s := ⟨I.ok.unwish, I.os, I.bare, I.base, I.loc, I.cell, I.free, I.freeC, I.pin, I.hok, I.len⟩
theorem SP.unwish {D : Ends} {f : Flow} {s' : Shared} (h : SP (X.wish E) pins D f s') : SP X pins D f s' := by
  cases f with
  | next => obtain ⟨σ', H', I, q⟩ := h; exact ⟨σ', H', I.unwish, q⟩
  | brk => obtain ⟨σ', H', I, q⟩ := h; exact ⟨σ', H', I.unwish, q⟩
  | cont => obtain ⟨σ', H', I, q⟩ := h; exact ⟨σ', H', I.unwish, q⟩
  | ret u => obtain ⟨v, σ', H', I, r, q⟩ := h; exact ⟨v, σ', H', I.unwish, r, q⟩
theorem PE.nox {e : Expr} {t : TE} (h : PE X.nox e t) : PE X e t := fun pins s σ H Q I hw =>
  wpAny_mono (h pins s σ H Q (I.wish _) hw) (fun _ _ ⟨v, H', I', r, q⟩ => ⟨v, H', I'.unwish, r, q⟩) fun _ _ z => False.elim z
theorem PT.nox {e : Expr} {t : TT} (h : PT X.nox e t) : PT X e t := fun pins s σ H Q I hw =>
  wpAny_mono (h pins s σ H Q (I.wish _) hw) (fun _ _ ⟨H', I', q⟩ => ⟨H', I'.unwish, q⟩) fun _ _ z => False.elim z
theorem PSs.nox {st : List Stmt} {t : TS} (h : PSs X.nox st t) : PSs X st t := fun pins s σ H D I hw =>
  wpAny_mono (h pins s σ H D (I.wish _) hw) (fun _ _ q => q.unwish) fun _ _ z => False.elim z
end
section
variable {X : Cx} {st : Stmt} {rest : List Stmt} {t u : TS} {e : Expr} {te : TE} {pos : Pos}
def tNext : TS := fun D σ H => D.nx σ H
def tSeq (t u : TS) : TS := fun D σ H => t { D with nx := u D } σ H
theorem pss_nil : PSs X [] tNext := fun _ _ σ H _ I h => wpAny_execs_nil ⟨σ, H, I, h⟩
theorem pss_cons (h1 : PS X st t) (h2 : PSs X rest u) : PSs X (st :: rest) (tSeq t u) := by
  intro pins s σ H D I h
  refine wpAny_execs_cons (thn (h1 pins s σ H { D with nx := u D } I h) fun f s1 q => ?_)
  cases f with
  | next =>
    obtain ⟨σ', H', I', q⟩ := q
    exact h2 pins s1 σ' H' D I' q
  | ret v => exact q
  | brk => exact q
  | cont => exact q
theorem pss_one (h1 : PS X st t) : PSs X [st] t := by
  intro pins s σ H D I h
  refine wpAny_execs_cons (thn (h1 pins s σ H D I h) fun f s1 q => ?_)
  cases f with
  | next => exact wpAny_execs_nil q
  | ret v => exact q
  | brk => exact q
  | cont => exact q
theorem Inv.quiet {pins : List (Addr × Obj)} {σ : St} {H : Hp} {s : Shared} (I : Inv X pins σ H s) : interactive X.env = false := by simp [interactive, I.ok.kind]
def tDrop (te : TE) : TS := fun D σ H => te σ H fun _ H1 => D.nx σ H1
theorem ps_expr (he : PE X e te) (hs : swapsWith e none pos.line X.env = pure false := by rfl) : PS X (.Expr e pos) (tDrop te) := by
  intro pins s σ H D I h
  exact wpAny_Expr_any (thn (he pins s σ H _ I h) fun v s1 ⟨x, H1, I1, r1, q1⟩ => ⟨σ, H1, I1, q1⟩) I.quiet hs
def tRet (te : TE) : TS := fun D σ H => te σ H D.rt
theorem ps_ret (he : PE X e te) : PS X (.Return (some e) pos) (tRet te) := by
  intro pins s σ H D I h
  exact wpAny_Return_some (thn (he pins s σ H _ I h) fun v s1 ⟨x, H1, I1, r1, q1⟩ => ⟨x, σ, H1, I1, r1, q1⟩)
def tIfS (c : TT) (t u : TS) : TS := fun D σ H => c σ H fun b H1 => if b = true then t D σ H1 else u D σ H1
theorem ps_if {c : Expr} {a b : List Stmt} {tc : TT} (hc : PT X c tc) (ha : PSs X a t) (hb : PSs X b u) : PS X (.If c a b pos) (tIfS tc t u) := by
  intro pins s σ H D I h
  refine wpAny_If (thn (hc pins s σ H _ I h) fun d s1 ⟨H1, I1, q1⟩ => ?_)
  cases d with
  | true => exact ha pins s1 σ H1 D I1 q1
  | false => exact hb pins s1 σ H1 D I1 q1
end
abbrev TG := V → St → Hp → (St → Hp → Prop) → Prop
def PG (X : Cx) (target : Expr) (t : TG) : Prop :=
  ∀ (pins : List (Addr × Obj)) (s : Shared) (σ : St) (H : Hp) (v : V) (u : Value) (Q : St → Hp → Prop), Inv X pins σ H s → RelV v u → t v σ H Q →
    wpAny (model X.prog X.w) X.A (assign target X.env u) (fun _ s' => ∃ σ' H', Inv X pins σ' H' s' ∧ Q σ' H') X.xe s
section
variable {X : Cx} {pos : Pos}
def gName (i : Nat) : TG := fun v σ H Q => Q (σ.set i (some v)) H
theorem pg_name {i : Nat} {x : Str} (hN : X.N.Nodup) (hi : X.N[i]? = some x) (hx : Loc X.env.scope x) (hf : X.fn x = true ∨ X.env.scope.names.lookup x = some .local := by first | exact .inl rfl | exact .inr rfl | assumption) : PG X (.Name x pos) (gName i) := by
  intro pins s σ H v u Q I r h
  exact wpAny_assign_Name (store_ok I hN hi hx r (fun s' I' => ⟨_, H, I', h⟩) hf)
def tAsg (te : TE) (g : TG) : TS := fun D σ H => te σ H fun x H1 => g x σ H1 D.nx
theorem ps_set {i : Nat} {x : Str} {e : Expr} {te : TE} {pos' : Pos} (hN : X.N.Nodup) (hi : X.N[i]? = some x) (hx : Loc X.env.scope x) (he : PE X e te) (hs : swapsWith e (some (.Name x pos')) pos.line X.env = pure false := by rfl) (hf : X.fn x = true ∨ X.env.scope.names.lookup x = some .local := by first | exact .inl rfl | exact .inr rfl | assumption) :
    PS X (.Assign [.Name x pos'] e pos) (tAsg te (gName i)) := by
  intro pins s σ H D I h
  refine wpAny_Assign_Name (thn (he pins s σ H _ I h) fun v s1 ⟨y, H1, I1, r1, q1⟩ => ?_) hs
  exact store_ok I1 hN hi hx r1 (fun s2 I2 => ⟨_, H1, I2, q1⟩) hf
end
section
variable {X : Cx} {pos : Pos}
def tWhile (c : TT) (tb : TS) : TS := fun D σ H => ∃ W : Nat → St → Hp → Prop, (∃ m, W m σ H) ∧ ∀ m σ H, W m σ H →
  c σ H fun b H1 => if b = true then ∃ N : St → Hp → Prop, (∀ σ' H', N σ' H' → ∃ m', m' < m ∧ W m' σ' H') ∧ tb { D with nx := N, ct := N, bk := D.nx } σ H1 else D.nx σ H1
theorem ps_while {c : Expr} {body : List Stmt} {tc : TT} {tb : TS} (hp : PassesOwn (model X.prog X.w) X.A X.env X.xe) (hc : PT X c tc) (hb : PSs X body tb) : PS X (.While c body [] pos) (tWhile tc tb) := by
  intro pins s σ H D I h
  obtain ⟨W, ⟨m0, w0⟩, turn⟩ := h
  refine wpAny_While (codeAny_whileLoop (fun n s' => ∃ σ' H', Inv X pins σ' H' s' ∧ W n σ' H') ?_ m0 ⟨σ, H, I, w0⟩)
  rintro n s1 ⟨σ1, H1, I1, w1⟩
  refine wpAny_passesOwn hp (thn (hc pins s1 σ1 H1 _ I1 (turn n σ1 H1 w1)) fun b s2 ⟨H2, I2, q2⟩ => ?_)
  cases b with
  | true =>
    obtain ⟨N, hN, q2⟩ := q2
    rw [if_pos rfl]
    refine wpAny_passesOwn hp (thn (hb pins s2 σ1 H2 _ I2 q2) fun f s3 q3 => ?_)
    cases f with
    | next =>
      obtain ⟨σ3, H3, I3, n3⟩ := q3
      obtain ⟨m', hm, w3⟩ := hN σ3 H3 n3
      exact ⟨m', hm, σ3, H3, I3, w3⟩
    | cont =>
      obtain ⟨σ3, H3, I3, n3⟩ := q3
      obtain ⟨m', hm, w3⟩ := hN σ3 H3 n3
      exact ⟨m', hm, σ3, H3, I3, w3⟩
    | brk => exact q3
    | ret v => exact q3
  | false =>
    rw [if_neg Bool.false_ne_true]
    exact wpAny_execs_nil ⟨σ1, H2, I2, q2⟩
end
structure It where
  go : Nat → Hp → Prop
  yld : Nat → Hp → V → Hp → Prop
  stop : Nat → Hp → Prop
def FpOk (X : Cx) (pins : List (Addr × Obj)) (H : Hp) (b : Addr) : Prop :=
  H b = none ∧ b ≠ X.env.locals ∧ b ∉ X.fs ∧ (b ∈ X.ex ∨ X.s₀.heap.objs.size ≤ b) ∧ (∀ x c, X.env.cells.lookup x = some c → c ≠ b) ∧ ∀ p ∈ X.pn ++ pins, p.1 ≠ b
theorem Inv.fpOk {X : Cx} {pins : List (Addr × Obj)} {σ : St} {H H' : Hp} {s : Shared} {b : Addr} (I : Inv X pins σ H s) (hb : s.heap.objs.size ≤ b) (hn : H' b = none) : FpOk X pins H' b := by
  refine ⟨hn, Nat.ne_of_gt (Nat.lt_of_lt_of_le I.lt hb), I.nofs hb, .inr (Nat.le_trans I.sz hb), fun x c e z => ?_, fun p hp z => ?_⟩
  · obtain ⟨v, q⟩ := I.cell x c e
    exact absurd (Nat.lt_of_lt_of_le q.lt (by rw [z]; exact hb)) (Nat.lt_irrefl _)
  · exact absurd (Nat.lt_of_lt_of_le (Heap.lt_size (I.pin p hp).1) (by rw [z]; exact hb)) (Nat.lt_irrefl _)
structure Turn (P : Program) (w : World) (K : PySem.W.Frag) (tg : Expr) (J : It) (fp : List Addr) (it : Addr) (tn : Nat → Heap → Prop) : Prop where
  mem : it ∈ fp
  obj : ∀ i h, tn i h → ∀ b ∈ fp, ∃ o, h.get? b = some o ∧ ∀ v, o.data ≠ .cell v
  keep : ∀ i h h', tn i h → (∀ b ∈ fp, ∀ o, h.get? b = some o → h'.get? b = some o) → tn i h'
  item : ∀ (X : Cx), X.prog = P → X.w = w → X.K = K → X.calm = true → ∀ (i : Nat) (pins : List (Addr × Obj)) (s : Shared) (σ : St) (H : Hp) (E : Value → Shared → Prop), Inv X pins σ H s → (∀ b ∈ fp, FpOk X pins H b) → tn i s.heap → J.go i H →
    wpAny (model P w) X.A (pyNext (.ref it)) (fun r s1 => ∃ u, r = some u ∧
      wpAny (model P w) X.A (letOwnedTupleGo tg (.ref it) u) (fun _ s2 => ∃ x H', Inv X pins σ H' s2 ∧ RelV x u ∧ J.yld i H x H' ∧ tn (i + 1) s2.heap ∧ ∀ b ∈ fp, H' b = none) E s1) E s
  done : ∀ (X : Cx), X.prog = P → X.w = w → X.K = K → X.calm = true → ∀ (i : Nat) (pins : List (Addr × Obj)) (s : Shared) (σ : St) (H : Hp) (E : Value → Shared → Prop), Inv X pins σ H s → (∀ b ∈ fp, FpOk X pins H b) → tn i s.heap → J.stop i H →
    wpAny (model P w) X.A (pyNext (.ref it)) (fun r s1 => r = none ∧ Inv X pins σ H s1) E s
  self : ∀ (A : Around) (i : Nat) (s : Shared) (Q : Value → Shared → Prop) (E : Value → Shared → Prop), tn i s.heap → Q (.ref it) s → wpAny (model P w) A (pyIter (.ref it)) Q E s
abbrev TI := St → Hp → (It → Hp → Prop) → Prop
def PIE (X : Cx) (pins : List (Addr × Obj)) (σ : St) (tg : Expr) (R : It → Hp → Prop) (itv : Value) (s2 : Shared) : Prop :=
  ∃ (it : Addr) (fp : List Addr) (tn : Nat → Heap → Prop) (J : It) (H' : Hp), itv = .ref it ∧ Inv X pins σ H' s2 ∧ Turn X.prog X.w X.K tg J fp it tn ∧ tn 0 s2.heap ∧ (∀ b ∈ fp, FpOk X pins H' b) ∧ R J H'
def PI (X : Cx) (tg iter : Expr) (wi : TI) : Prop :=
  ∀ (pins : List (Addr × Obj)) (s : Shared) (σ : St) (H : Hp) (R : It → Hp → Prop), Inv X pins σ H s → wi σ H R →
    wpAny (model X.prog X.w) X.A (eval iter X.env) (fun v s1 => wpAny (model X.prog X.w) X.A (pyIter v) (PIE X pins σ tg R) X.xe s1) X.xe s
theorem go_of {M : Model} {A : Around} {E : Value → Shared → Prop} {s : Shared} {tg : Expr} {it : Addr} {u : Value} {o : Obj} {n : String} {vs : Array Value} {Q : Unit → Shared → Prop} (ho : s.heap.get? it = some o) (hc : o.cls = .type n) (hd : o.data = .fields vs)
    (hn : ["enumerate", "zip", "dict_itemiterator", "dict_reverseitemiterator", "odict_iterator", "itertools.zip_longest", "itertools.pairwise"].contains n = false) (hQ : Q () s) : wpAny M A (letOwnedTupleGo tg (.ref it) u) Q E s := by
  unfold letOwnedTupleGo
  cases tg <;> first
    | exact wpAny_pure hQ
    | (cases u <;> first
        | exact wpAny_pure hQ
        | (refine wpAny_bind (wpAny_load ho ?_)
           rw [hc, hd]
           show wpAny M A (if (["enumerate", "zip", "dict_itemiterator", "dict_reverseitemiterator", "odict_iterator", "itertools.zip_longest", "itertools.pairwise"].contains n && vs[0]? == some (rawInt _)) = true then _ else _) Q E s
           rw [if_neg (by intro h; rw [hn, Bool.false_and] at h; cases h)]
           exact wpAny_pure hQ))
def Itl (K : PySem.W.Frag) (a : Addr) : It :=
  ⟨fun i H => ∃ xs x, SqL K H a xs ∧ xs[i]? = some x, fun i H x H' => H' = H ∧ ∀ xs, SqL K H a xs → xs[i]? = some x, fun i H => ∃ xs, SqL K H a xs ∧ xs.length ≤ i⟩
def Itr (lo : Int) (n : Nat) : It := ⟨fun i _ => i < n, fun i H x H' => H' = H ∧ x = .int (lo + i), fun i _ => n ≤ i⟩
theorem turn_list {P : Program} {w : World} {K : PySem.W.Frag} {tg : Expr} (a it : Addr) : Turn P w K tg (Itl K a) [it] it (fun i h => h.IsListIter it a i) where
  mem := by simp
  obj := fun i h st b hb => by
    have e : b = it := by simpa using hb
    subst e
    obtain ⟨o, e, c, d⟩ := st
    exact ⟨o, e, fun v z => by rw [d] at z; cases z⟩
  keep := fun i h h' st k => st.at fun o e => k it (by simp) o e
  item := by
    intro X hP hw hK hc i pins s σ H E I hf st hg
    subst hP hw hK
    obtain ⟨xs, x, hq, hx⟩ := hg
    obtain ⟨its, rv, p, hz⟩ := I.list hq
    obtain ⟨u, hu, ru⟩ := rv.get hx
    obtain ⟨f0, f1, f2, f3, f4, f5⟩ := hf it (by simp)
    refine wpAny_pyNext_list_item st p.isList (x := u) (by simpa using hu) fun h' st' sb => ?_
    have I1 : Inv X pins σ H { s with heap := h' } := I.turned (t' := s.toks) (fun b o hb e => (sb.2 b hb).trans e) f0 f1 f3 f4 f5
    obtain ⟨o, e, c, d⟩ := id st'
    exact ⟨u, rfl, go_of (s := { s with heap := h' }) e c d (by decide) ⟨x, H, I1, ru, ⟨rfl, fun ys hy => by rw [I.list_inj hy hq]; exact hx⟩, st', fun b hb => (hf b hb).1⟩⟩
  done := by
    intro X hP hw hK hc i pins s σ H E I hf st hg
    subst hP hw hK
    obtain ⟨xs, hq, hx⟩ := hg
    obtain ⟨its, rv, p, hz⟩ := I.list hq
    obtain ⟨f0, f1, f2, f3, f4, f5⟩ := hf it (by simp)
    have hl := rv.length
    exact wpAny_pyNext_list_end (I.ok.hd hc) st p.isList (by simp; omega) fun h' eb => ⟨rfl, I.turned (t' := s.toks) (fun b o hb e => eb b o hb e) f0 f1 f3 f4 f5⟩
  self := fun _ _ _ _ _ st h => wpAny_pyIter_listiter st h
theorem turn_range {P : Program} {w : World} {K : PySem.W.Frag} {tg : Expr} (it : Addr) (lo : Int) (n : Nat) : Turn P w K tg (Itr lo n) [it] it (fun i h => IsRangeIter h it (lo + (i : Nat) * 1) ((n : Int) - (i : Nat)) 1) where
  mem := by simp
  obj := fun i h st b hb => by
    have e : b = it := by simpa using hb
    subst e
    exact ⟨_, st, fun v z => by
      have z' : Data.fields _ = Data.cell v := z
      cases z'⟩
  keep := fun i h h' st k => k it (by simp) _ st
  item := by
    intro X hP hw hK hc i pins s σ H E I hf st hg
    subst hP hw hK
    obtain ⟨f0, f1, f2, f3, f4, f5⟩ := hf it (by simp)
    have W := Walks.range (prog := X.prog) (w := X.w) (I.ok.hd hc) it lo 1 n
    refine W.item i s _ _ hg st fun v h' tk hv st' kk => ?_
    obtain ⟨t, rfl⟩ := hv
    have I1 : Inv X pins σ H { s with heap := h', toks := tk } := I.turned (fun b o hb e => kk b o (by simpa using hb) e) f0 f1 f3 f4 f5
    refine ⟨_, rfl, go_of (s := { s with heap := h', toks := tk }) (n := "range_iterator") st' rfl rfl (by decide) ⟨.int (lo + i), H, I1, ⟨t, ?_⟩, ⟨rfl, rfl⟩, st', fun b hb => (hf b hb).1⟩⟩
    rw [Int.mul_one]
  done := by
    intro X hP hw hK hc i pins s σ H E I hf st hg
    subst hP hw hK
    obtain ⟨f0, f1, f2, f3, f4, f5⟩ := hf it (by simp)
    exact wpAny_pyNext_range_end (I.ok.hd hc) st (by have : n ≤ i := hg; omega) fun h' eb => ⟨rfl, I.turned (t' := s.toks) (fun b o hb e => eb b o hb e) f0 f1 f3 f4 f5⟩
  self := fun _ _ _ _ _ st h => wpAny_pyIter_rangeiter st h
end L2
namespace L2
open PySem PySem.Spec PyProof.Rows
section
variable {X : Cx} {tg : Expr}
def iList (K : PySem.W.Frag) (tl : TE) : TI := fun σ H R => tl σ H fun x H1 => ∃ a, x = .ref a ∧ (∃ xs, SqL K H1 a xs) ∧ R (Itl K a) H1
theorem pi_list {l : Expr} {tl : TE} (hl : PE X l tl) : PI X tg l (iList X.K tl) := by
  intro pins s σ H R I h
  refine thn (hl pins s σ H _ I h) fun v s1 ⟨x, H1, I1, r1, q1⟩ => ?_
  obtain ⟨a, e, ⟨xs, hq⟩, q⟩ := q1
  subst e
  cases r1
  obtain ⟨its, rv, p, hz⟩ := I1.list hq
  refine wpAny_pyIter_list p.isList ?_
  refine ⟨s1.heap.objs.size, [s1.heap.objs.size], _, _, H1, rfl, I1.kept (t' := s1.toks) fun b o e => Heap.get?_push_of_some _ e, turn_list a _, ⟨_, Heap.get?_push_size _ rfl, rfl, rfl⟩, fun b hb => ?_, q⟩
  have e : b = s1.heap.objs.size := by simpa using hb
  subst e
  exact I1.fpOk (Nat.le_refl _) (I1.hok.fresh (Nat.le_refl _))
theorem range_it {pins : List (Addr × Obj)} {σ : St} {H : Hp} {s : Shared} {R : It → Hp → Prop} {E : Value → Shared → Prop} {lo hi : Int} {t u v : Tok} {tk : Nat} (I : Inv X pins σ H s) (h1 : -(2 ^ 62) ≤ lo) (h2 : lo < 2 ^ 62) (h3 : -(2 ^ 62) ≤ hi) (h4 : hi < 2 ^ 62)
    (q : R (Itr lo (hi - lo).toNat) H) : wpAny (model X.prog X.w) X.A (pyIter (.ref s.heap.objs.size)) (PIE X pins σ tg R) E { s with heap := s.heap.push { cls := .type "range", data := .fields #[.int lo t, .int hi u, .int 1 v] }, toks := tk } := by
  refine wpAny_pyIter_range (IsRange.new ..) (small_one h1 h2 h3 h4) ?_
  have I1 : Inv X pins σ H { s with heap := s.heap.push { cls := .type "range", data := .fields #[.int lo t, .int hi u, .int 1 v] }, toks := tk } := I.kept fun b o e => Heap.get?_push_of_some _ e
  refine ⟨(s.heap.push { cls := .type "range", data := .fields #[.int lo t, .int hi u, .int 1 v] }).objs.size, [(s.heap.push { cls := .type "range", data := .fields #[.int lo t, .int hi u, .int 1 v] }).objs.size], _, _, H, rfl,
    I1.kept (t' := tk) fun b o e => Heap.get?_push_of_some _ e, turn_range _ lo (hi - lo).toNat, ?_, fun b hb => ?_, q⟩
  · have e1 : lo + ((0 : Nat) : Int) * 1 = lo := by simp
    have e2 : (((hi - lo).toNat : Nat) : Int) - ((0 : Nat) : Int) = Builtin.Range.rangeSize lo hi 1 := by rw [rangeSize_one]; split <;> omega
    show IsRangeIter _ _ (lo + ((0 : Nat) : Int) * 1) ((((hi - lo).toNat : Nat) : Int) - ((0 : Nat) : Int)) 1
    rw [e1, e2]
    exact Heap.get?_push_size _ rfl
  · have e : b = (s.heap.push { cls := .type "range", data := .fields #[.int lo t, .int hi u, .int 1 v] }).objs.size := by simpa using hb
    subst e
    exact I1.fpOk (Nat.le_refl _) (I1.hok.fresh (Nat.le_refl _))
def iRng1 (ta : TA) : TI := fun σ H R => ta σ H fun vs H1 => ∃ j : Int, vs = [.int j] ∧ -(2 ^ 62) ≤ j ∧ j < 2 ^ 62 ∧ R (Itr 0 j.toNat) H1
def iRng2 (ta : TA) : TI := fun σ H R => ta σ H fun vs H1 => ∃ i j : Int, vs = [.int i, .int j] ∧ (-(2 ^ 62) ≤ i ∧ i < 2 ^ 62 ∧ -(2 ^ 62) ≤ j ∧ j < 2 ^ 62) ∧ R (Itr i (j - i).toNat) H1
theorem pi_range1 {a : Expr} {ta : TA} {p pos : Pos} (hg : Gl X "range") (hm : X.mg "range" = none) (ha : PA X [a] ta) (hs : starEach [a] X.env = [(false, eval a X.env)] := by rfl) : PI X tg (.Call (.Name "range" p) [a] [] pos) (iRng1 ta) := by
  intro pins s σ H R I h
  refine Call_ (ld_blt I hg hm boot_range (PyProof.Rows.callWith_type1 (thn (ha pos pins s σ H _ I h) fun us s1 ⟨vs, H1, I1, r1, q1⟩ => ?_) hs rfl))
  obtain ⟨j, e, q1, q2, q⟩ := q1
  subst e
  cases r1 with
  | cons r rr =>
    cases rr
    obtain ⟨t, rfl⟩ := r
    exact call_range_1 (range_it I1 (by omega) (by omega) q1 q2 (by simpa using q))
theorem pi_range2 {a b : Expr} {ta : TA} {p pos : Pos} (hg : Gl X "range") (hm : X.mg "range" = none) (ha : PA X [a, b] ta) (hs : starEach [a, b] X.env = [(false, eval a X.env), (false, eval b X.env)] := by rfl) (hs2 : starEach [b] X.env = [(false, eval b X.env)] := by rfl) :
    PI X tg (.Call (.Name "range" p) [a, b] [] pos) (iRng2 ta) := by
  intro pins s σ H R I h
  refine Call_ (ld_blt I hg hm boot_range (PyProof.Rows.callWith_type1 (thn (ha pos pins s σ H _ I h) fun us s1 ⟨vs, H1, I1, r1, q1⟩ => ?_) (by rw [hs, hs2]) (by rw [hs2]; rfl)))
  obtain ⟨i, j, e, ⟨q1, q2, q3, q4⟩, q⟩ := q1
  subst e
  cases r1 with
  | cons r rr =>
    cases rr with
    | cons r' rr =>
      cases rr
      obtain ⟨t, rfl⟩ := r
      obtain ⟨t', rfl⟩ := r'
      exact call_range_2 (range_it I1 q1 q2 q3 q4 q)
def tFor (wi : TI) (g : TG) (tb : TS) : TS := fun D σ H => wi σ H fun J H1 => ∃ W : Nat → Nat → St → Hp → Prop, (∃ m, W 0 m σ H1) ∧ ∀ i m σ H, W i m σ H →
  (J.stop i H ∧ D.nx σ H) ∨ (J.go i H ∧ ∃ N : St → Hp → Prop, (∀ σ' H', N σ' H' → ∃ m', m' < m ∧ W (i + 1) m' σ' H') ∧ ∀ x H', J.yld i H x H' → g x σ H' fun σ2 H2 => tb { D with nx := N, ct := N, bk := D.nx } σ2 H2)
def pinsAt (fp : List Addr) (h : Heap) : List (Addr × Obj) := fp.filterMap fun b => (h.get? b).map fun o => (b, o)
theorem mem_pinsAt {fp : List Addr} {h : Heap} {b : Addr} {o : Obj} (hb : b ∈ fp) (e : h.get? b = some o) : (b, o) ∈ pinsAt fp h := List.mem_filterMap.mpr ⟨b, hb, by rw [e]; rfl⟩
theorem of_pinsAt {fp : List Addr} {h : Heap} {p : Addr × Obj} (hp : p ∈ pinsAt fp h) : p.1 ∈ fp ∧ h.get? p.1 = some p.2 := by
  obtain ⟨b, hb, e⟩ := List.mem_filterMap.mp hp
  cases q : h.get? b with
  | none => rw [q] at e; cases e
  | some o =>
    rw [q] at e
    have e' : (b, o) = p := Option.some.inj e
    subst e'
    exact ⟨hb, q⟩
theorem Inv.pinned {pins : List (Addr × Obj)} {σ : St} {H : Hp} {s : Shared} {fp : List Addr} (I : Inv X pins σ H s) (hf : ∀ b ∈ fp, FpOk X pins H b) (ho : ∀ b ∈ fp, ∃ o, s.heap.get? b = some o ∧ ∀ v, o.data ≠ .cell v) : Inv X (pins ++ pinsAt fp s.heap) σ H s :=
  I.pins_of fun p hp => (List.mem_append.mp hp).elim (fun z => I.pin p (List.mem_append_right _ z)) fun z => by
    obtain ⟨hb, e⟩ := of_pinsAt z
    obtain ⟨f0, f1, f2, _⟩ := hf p.1 hb
    obtain ⟨o, e', d⟩ := ho p.1 hb
    rw [e] at e'; cases e'
    exact ⟨e, f0, f1, f2, d⟩
theorem Inv.unpinned {pins pl : List (Addr × Obj)} {σ : St} {H : Hp} {s : Shared} (I : Inv X (pins ++ pl) σ H s) : Inv X pins σ H s := I.pins_of fun p hp => I.pin p (List.mem_append_right _ (List.mem_append_left _ hp))
theorem ps_for {iter : Expr} {body : List Stmt} {wi : TI} {g : TG} {tb : TS} {pos : Pos} (hp : PassesOwn (model X.prog X.w) X.A X.env X.xe) (hc : X.calm = true) (hi : PI X tg iter wi) (hg : PG X tg g) (hb : PSs X body tb)
    (hs : ∀ x, foldedSetIterable iter X.env x = pure x := by intro _; rfl) : PS X (.For tg iter body [] pos) (tFor wi g tb) := by
  intro pins s σ H D I h
  refine wpAny_For (thn (hi pins s σ H _ I h) fun v s1 h1 => thn h1 fun itv s2 h2 => ?_) hs
  obtain ⟨it, fp, tn, J, H2, e, I2, T, st2, f2, W, ⟨m0, w0⟩, turn⟩ := h2
  subst e
  have stat : ∀ {H' : Hp}, (∀ b ∈ fp, H' b = none) → ∀ b ∈ fp, FpOk X pins H' b := fun hn b hb => ⟨hn b hb, (f2 b hb).2⟩
  refine codeAny_forLoop_any (fun n s' => ∃ i σ' H', Inv X pins σ' H' s' ∧ tn i s'.heap ∧ (∀ b ∈ fp, H' b = none) ∧ W i n σ' H') ?_ m0 ⟨0, σ, H2, I2, st2, fun b hb => (f2 b hb).1, w0⟩
  rintro n s3 ⟨i, σ3, H3, I3, st3, fr3, w3⟩
  rcases turn i n σ3 H3 w3 with ⟨stop, qn⟩ | ⟨go, N, hN, step⟩
  · refine wpAny_passesOwn hp (thn (T.done X rfl rfl rfl hc i pins s3 σ3 H3 X.xe I3 (stat fr3) st3 stop) fun r s4 ⟨hr, I4⟩ => ?_)
    subst hr
    exact wpAny_execs_nil ⟨σ3, H3, I4, qn⟩
  · refine wpAny_passesOwn hp (thn (T.item X rfl rfl rfl hc i pins s3 σ3 H3 X.xe I3 (stat fr3) st3 go) fun r s4 ⟨u, hr, h4⟩ => ?_)
    subst hr
    refine wpAny_passesOwn hp (thn h4 fun _ s5 ⟨x, H5, I5, r5, y5, st5, fr5⟩ => ?_)
    have I5' := I5.pinned (stat fr5) (T.obj _ _ st5)
    refine wpAny_passesOwn hp (thn (hg _ s5 σ3 H5 x u _ I5' r5 (step x H5 y5)) fun _ s6 ⟨σ6, H6, I6, q6⟩ => ?_)
    refine wpAny_passesOwn hp (thn (hb _ s6 σ6 H6 _ I6 q6) fun f s7 q7 => ?_)
    have again : ∀ {σ7 : St} {H7 : Hp}, Inv X (pins ++ pinsAt fp s5.heap) σ7 H7 s7 → N σ7 H7 → ∃ m, m < n ∧ ∃ i σ' H', Inv X pins σ' H' s7 ∧ tn i s7.heap ∧ (∀ b ∈ fp, H' b = none) ∧ W i m σ' H' := fun {σ7 H7} I7 n7 => by
      obtain ⟨m', hm, w7⟩ := hN σ7 H7 n7
      refine ⟨m', hm, i + 1, σ7, H7, I7.unpinned, T.keep _ _ _ st5 fun b hb o e => (I7.pin (b, o) (List.mem_append_right _ (List.mem_append_right _ (mem_pinsAt hb e)))).1, fun b hb => ?_, w7⟩
      obtain ⟨o, e, d⟩ := T.obj _ _ st5 b hb
      exact (I7.pin (b, o) (List.mem_append_right _ (List.mem_append_right _ (mem_pinsAt hb e)))).2.1
    cases f with
    | next => obtain ⟨σ7, H7, I7, n7⟩ := q7; exact again I7 n7
    | cont => obtain ⟨σ7, H7, I7, n7⟩ := q7; exact again I7 n7
    | brk => obtain ⟨σ7, H7, I7, q7⟩ := q7; exact ⟨σ7, H7, I7.unpinned, q7⟩
    | ret v => obtain ⟨x7, σ7, H7, I7, r7, q7⟩ := q7; exact ⟨x7, σ7, H7, I7.unpinned, r7, q7⟩
end
theorem for_list {K : PySem.W.Frag} {a : Addr} {xs : List V} {g : TG} {tb : TS} {D : Ends} {σ : St} {H : Hp} (Pv : Nat → St → Hp → Prop) (h0 : Pv 0 σ H) (hl : ∀ i σ H, i ≤ xs.length → Pv i σ H → SqL K H a xs)
    (hs : ∀ i x σ H, xs[i]? = some x → Pv i σ H → g x σ H fun σ2 H2 => tb { D with nx := Pv (i + 1), ct := Pv (i + 1), bk := D.nx } σ2 H2) (hd : ∀ σ H, Pv xs.length σ H → D.nx σ H) :
    ∃ W : Nat → Nat → St → Hp → Prop, (∃ m, W 0 m σ H) ∧ ∀ i m σ H, W i m σ H →
      ((Itl K a).stop i H ∧ D.nx σ H) ∨ ((Itl K a).go i H ∧ ∃ N : St → Hp → Prop, (∀ σ' H', N σ' H' → ∃ m', m' < m ∧ W (i + 1) m' σ' H') ∧ ∀ x H', (Itl K a).yld i H x H' → g x σ H' fun σ2 H2 => tb { D with nx := N, ct := N, bk := D.nx } σ2 H2) := by
  refine ⟨fun i m σ H => m = xs.length - i ∧ i ≤ xs.length ∧ Pv i σ H, ⟨xs.length, by simp, Nat.zero_le _, h0⟩, ?_⟩
  rintro i m σ H ⟨rfl, hi, p⟩
  have q := hl i σ H hi p
  by_cases hlt : i < xs.length
  · refine .inr ⟨⟨xs, xs[i], q, by simp [hlt]⟩, Pv (i + 1), fun σ' H' p' => ⟨xs.length - (i + 1), by omega, rfl, hlt, p'⟩, fun x H' y => ?_⟩
    obtain ⟨e, y⟩ := y
    subst e
    exact hs i x σ _ (y xs q) p
  · have e : i = xs.length := by omega
    subst e
    exact .inl ⟨⟨xs, q, Nat.le_refl _⟩, hd σ H p⟩
theorem for_range {lo : Int} {n : Nat} {g : TG} {tb : TS} {D : Ends} {σ : St} {H : Hp} (Pv : Nat → St → Hp → Prop) (h0 : Pv 0 σ H)
    (hs : ∀ i σ H, i < n → Pv i σ H → g (.int (lo + i)) σ H fun σ2 H2 => tb { D with nx := Pv (i + 1), ct := Pv (i + 1), bk := D.nx } σ2 H2) (hd : ∀ σ H, Pv n σ H → D.nx σ H) :
    ∃ W : Nat → Nat → St → Hp → Prop, (∃ m, W 0 m σ H) ∧ ∀ i m σ H, W i m σ H →
      ((Itr lo n).stop i H ∧ D.nx σ H) ∨ ((Itr lo n).go i H ∧ ∃ N : St → Hp → Prop, (∀ σ' H', N σ' H' → ∃ m', m' < m ∧ W (i + 1) m' σ' H') ∧ ∀ x H', (Itr lo n).yld i H x H' → g x σ H' fun σ2 H2 => tb { D with nx := N, ct := N, bk := D.nx } σ2 H2) := by
  refine ⟨fun i m σ H => m = n - i ∧ i ≤ n ∧ Pv i σ H, ⟨n, by simp, Nat.zero_le _, h0⟩, ?_⟩
  rintro i m σ H ⟨rfl, hi, p⟩
  by_cases hlt : i < n
  · refine .inr ⟨hlt, Pv (i + 1), fun σ' H' p' => ⟨n - (i + 1), by omega, rfl, hlt, p'⟩, fun x H' y => ?_⟩
    obtain ⟨e, y⟩ := y
    subst e y
    exact hs i σ _ hlt p
  · have e : i = n := by omega
    subst e
    exact .inl ⟨Nat.le_refl _, hd σ H p⟩
end L2
namespace L2
open PySem PySem.Spec PyProof.Rows
abbrev R2 := V → V → Hp → VK → Prop
def OpR (X : Cx) (f : Value → Value → Sem Value) (r : R2) : Prop :=
  ∀ (pins : List (Addr × Obj)) (s : Shared) (σ : St) (H : Hp) (x y : V) (v u : Value) (Q : VK), Inv X pins σ H s → RelV x v → RelV y u → r x y H Q →
    wpAny (model X.prog X.w) X.A (f v u) (EP X pins σ Q) X.xe s
def UnR (X : Cx) (f : Value → Sem Value) (r : V → Hp → VK → Prop) : Prop :=
  ∀ (pins : List (Addr × Obj)) (s : Shared) (σ : St) (H : Hp) (x : V) (v : Value) (Q : VK), Inv X pins σ H s → RelV x v → r x H Q →
    wpAny (model X.prog X.w) X.A (f v) (EP X pins σ Q) X.xe s
def CallR (X : Cx) (f : Value) (r : List V → Hp → VK → Prop) : Prop :=
  ∀ (pins : List (Addr × Obj)) (s : Shared) (σ : St) (H : Hp) (xs : List V) (us : List Value) (Q : VK), Inv X pins σ H s → Vals xs us → r xs H Q →
    wpAny (model X.prog X.w) X.A (call f us) (EP X pins σ Q) X.xe s
def TruR (X : Cx) (r : V → Hp → (Bool → Hp → Prop) → Prop) : Prop :=
  ∀ (pins : List (Addr × Obj)) (s : Shared) (σ : St) (H : Hp) (x : V) (v : Value) (Q : Bool → Hp → Prop), Inv X pins σ H s → RelV x v → r x H Q →
    wpAny (model X.prog X.w) X.A (truthy v) (TP X pins σ Q) X.xe s
def tOp (r : R2) (ta tb : TE) : TE := fun σ H Q => ta σ H fun x H1 => tb σ H1 fun y H2 => r x y H2 Q
def tUn (r : V → Hp → VK → Prop) (ta : TE) : TE := fun σ H Q => ta σ H fun x H1 => r x H1 Q
def rI (C : Int → Int → Prop) (g : Int → Int → V) : R2 := fun x y H Q => ∃ i j, x = .int i ∧ y = .int j ∧ C i j ∧ Q (g i j) H
def rI0 (g : Int → Int → V) : R2 := fun x y H Q => ∃ i j, x = .int i ∧ y = .int j ∧ Q (g i j) H
def rU (g : Int → V) : V → Hp → VK → Prop := fun x H Q => ∃ i, x = .int i ∧ Q (g i) H
section
variable {X : Cx} {a b c : Expr} {ta tb tc : TE} {pos : Pos}
theorem binT (ha : PE X a ta) (hb : PE X b tb) {pins : List (Addr × Obj)} {s : Shared} {σ : St} {H : Hp} {R : V → V → Hp → Prop} (I : Inv X pins σ H s)
    (h : ta σ H fun x H1 => tb σ H1 fun y H2 => R x y H2) {Q : Value → Shared → Prop} {f : Value → Value → Sem Value}
    (hf : ∀ v u s2 x y H2, Inv X pins σ H2 s2 → RelV x v → RelV y u → R x y H2 → wpAny (model X.prog X.w) X.A (f v u) Q X.xe s2) :
    wpAny (model X.prog X.w) X.A (eval a X.env) (fun v s₁ => wpAny (model X.prog X.w) X.A (eval b X.env) (fun u s₂ => wpAny (model X.prog X.w) X.A (f v u) Q X.xe s₂) X.xe s₁) X.xe s := by
  refine thn (ha pins s σ H _ I h) fun v s1 ⟨x, H1, I1, r1, q1⟩ => ?_
  refine thn (hb pins s1 σ H1 _ I1 q1) fun u s2 ⟨y, H2, I2, r2, q2⟩ => ?_
  exact hf v u s2 x y H2 I2 r1 r2 q2
theorem pe_op {op : Operator} {r : R2} (ho : OpR X (binaryOp op) r) (ha : PE X a ta) (hb : PE X b tb) : PE X (.BinOp a op b pos) (tOp r ta tb) := by
  intro pins s σ H Q I h
  exact wpAny_BinOp (binT ha hb I h fun v u s2 x y H2 I2 rx ry q => ho pins s2 σ H2 x y v u Q I2 rx ry q)
theorem pe_un {op : UnaryOp} {r : V → Hp → VK → Prop} (ho : UnR X (unaryOp op) r) (ha : PE X a ta) : PE X (.UnaryOp op a pos) (tUn r ta) := by
  intro pins s σ H Q I h
  exact UnaryOp_ (thn (ha pins s σ H _ I h) fun v s1 ⟨x, H1, I1, r1, q1⟩ => ho pins s1 σ H1 x v Q I1 r1 q1)
theorem opI {f : Value → Value → Sem Value} {C : Int → Int → Prop} {g : Int → Int → Int}
    (rule : ∀ (i j : Int) (t u : Tok) (s : Shared) (Q : Value → Shared → Prop) (E : Value → Shared → Prop), C i j → Q (.int (g i j) s.toks) { s with toks := s.toks + 1 } → wpAny (model X.prog X.w) X.A (f (.int i t) (.int j u)) Q E s) :
    OpR X f (rI C fun i j => .int (g i j)) := by
  intro pins s σ H x y v u Q I rx ry h
  obtain ⟨i, j, rfl, rfl, hc, q⟩ := h
  obtain ⟨t, rfl⟩ := rx
  obtain ⟨t', rfl⟩ := ry
  exact rule i j t t' s _ _ hc ⟨.int (g i j), H, I.tok _, ⟨_, rfl⟩, q⟩
theorem opI0 {f : Value → Value → Sem Value} {g : Int → Int → Int}
    (rule : ∀ (i j : Int) (t u : Tok) (s : Shared) (Q : Value → Shared → Prop) (E : Value → Shared → Prop), Q (.int (g i j) s.toks) { s with toks := s.toks + 1 } → wpAny (model X.prog X.w) X.A (f (.int i t) (.int j u)) Q E s) :
    OpR X f (rI0 fun i j => .int (g i j)) := by
  intro pins s σ H x y v u Q I rx ry h
  obtain ⟨i, j, rfl, rfl, q⟩ := h
  obtain ⟨t, rfl⟩ := rx
  obtain ⟨t', rfl⟩ := ry
  exact rule i j t t' s _ _ ⟨.int (g i j), H, I.tok _, ⟨_, rfl⟩, q⟩
theorem opB0 {f : Value → Value → Sem Value} {g : Int → Int → Bool}
    (rule : ∀ (i j : Int) (t u : Tok) (s : Shared) (Q : Value → Shared → Prop) (E : Value → Shared → Prop), Q (.bool (g i j)) s → wpAny (model X.prog X.w) X.A (f (.int i t) (.int j u)) Q E s) :
    OpR X f (rI0 fun i j => .bl (g i j)) := by
  intro pins s σ H x y v u Q I rx ry h
  obtain ⟨i, j, rfl, rfl, q⟩ := h
  obtain ⟨t, rfl⟩ := rx
  obtain ⟨t', rfl⟩ := ry
  exact rule i j t t' s _ _ ⟨.bl (g i j), H, I, rfl, q⟩
def CDiv (i j : Int) : Prop := 0 < j ∧ j < 1073741824
def CMul (i j : Int) : Prop := (-(2 ^ 64) < i ∧ i < 2 ^ 64) ∨ (-(2 ^ 64) < j ∧ j < 2 ^ 64)
theorem CMul.ok {i j : Int} (h : CMul i j) : IntMulOk i j := by
  rcases h with ⟨h1, h2⟩ | ⟨h1, h2⟩
  · exact .of_left (intBits_le_64 h1 h2)
  · exact .of_right (intBits_le_64 h1 h2)
theorem op_add : OpR X (binaryOp .Add) (rI0 fun i j => .int (i + j)) := opI0 fun _ _ _ _ _ _ _ q => add_int q
theorem op_sub : OpR X (binaryOp .Sub) (rI0 fun i j => .int (i - j)) := opI0 fun _ _ _ _ _ _ _ q => sub_int q
theorem op_mul : OpR X (binaryOp .Mult) (rI CMul fun i j => .int (i * j)) := opI fun _ _ _ _ _ _ _ hc q => mul_int q hc.ok
theorem op_fdiv : OpR X (binaryOp .FloorDiv) (rI CDiv fun i j => .int (i / j)) := opI fun i j _ _ _ _ _ hc q => by
  have h1 : (0 : Int) < j := hc.1
  have h2 : j < 1073741824 := hc.2
  exact floordiv_int (by omega) (by rw [Int.fdiv_eq_ediv_of_nonneg i (by omega)]; exact q) (.inl (PyProof.noPylong_small (by omega)))
theorem op_mod : OpR X (binaryOp .Mod) (rI (fun _ j => 0 < j) fun i j => .int (i % j)) := opI fun i j _ _ _ _ _ hc q => by
  have h1 : (0 : Int) < j := hc
  exact mod_int' (by omega) (by rw [Int.fmod_eq_emod_of_nonneg i (by omega)]; exact q)
end
def scal : V → V → Bool
  | .non, .non => true | .non, .int _ => true | .int _, .non => true | .non, .bl _ => true | .bl _, .non => true | .non, .str _ => true | .str _, .non => true
  | .int _, .int _ => true | .bl _, .bl _ => true | .str _, .str _ => true | .byt _, .byt _ => true
  | .int _, .str _ => true | .str _, .int _ => true | .bl _, .str _ => true | .str _, .bl _ => true
  | _, _ => false
def rEq : R2 := fun x y H Q => scal x y = true ∧ Q (.bl (decide (x = y))) H
def rNe : R2 := fun x y H Q => scal x y = true ∧ Q (.bl (!decide (x = y))) H
theorem dec_int {i j : Int} : decide (V.int i = V.int j) = (i == j) := by
  rw [Bool.eq_iff_iff]
  simp
theorem dec_bl {i j : Bool} : decide (V.bl i = V.bl j) = (i == j) := by
  rw [Bool.eq_iff_iff]
  simp
theorem dec_str {i j : Str} : decide (V.str i = V.str j) = (i == j) := by
  rw [Bool.eq_iff_iff]
  simp
theorem dec_byt {i j : Array UInt8} : decide (V.byt i = V.byt j) = (i.toList == j.toList) := by
  rw [Bool.eq_iff_iff]
  cases i
  cases j
  simp
section
variable {X : Cx} {a b c : Expr} {ta tb tc : TE} {pos : Pos}
theorem fin_bl {pins : List (Addr × Obj)} {σ : St} {H : Hp} {s : Shared} {Q : VK} {k k' : Bool} (I : Inv X pins σ H s) (q : Q (.bl k) H) (e : k = k') : EP X pins σ Q (.bool k') s := by
  subst e
  exact ⟨.bl k, H, I, rfl, q⟩
theorem op_eq : OpR X (compareOp .Eq) rEq := by
  intro pins s σ H x y v u Q I rx ry h
  obtain ⟨hs, q⟩ := h
  cases x with
  | non =>
    cases rx
    cases y with
    | non => cases ry; exact PySem.EqNone.eq_none_none (fin_bl I q (by simp))
    | bl j => cases ry; exact PySem.EqNone.eq_none_bool (fin_bl I q (by simp))
    | int j => obtain ⟨t', rfl⟩ := ry; exact PySem.EqNone.eq_none_int (fin_bl I q (by simp))
    | str j => obtain ⟨t', rfl⟩ := ry; exact PySem.EqNone.eq_none_str (fin_bl I q (by simp))
    | _ => exact absurd (show false = true from hs) Bool.false_ne_true
  | bl i =>
    cases rx
    cases y with
    | non => cases ry; exact PySem.EqNone.eq_bool_none (fin_bl I q (by simp))
    | bl j => cases ry; exact eq_bool (fin_bl I q dec_bl)
    | str j => obtain ⟨t', rfl⟩ := ry; exact PySem.EqMixed.eq_bool_str (fin_bl I q (by simp))
    | _ => exact absurd (show false = true from hs) Bool.false_ne_true
  | int i =>
    obtain ⟨t, rfl⟩ := rx
    cases y with
    | non => cases ry; exact PySem.EqNone.eq_int_none (fin_bl I q (by simp))
    | int j => obtain ⟨t', rfl⟩ := ry; exact eq_int (fin_bl I q dec_int)
    | str j => obtain ⟨t', rfl⟩ := ry; exact PySem.EqMixed.eq_int_str (fin_bl I q (by simp))
    | _ => exact absurd (show false = true from hs) Bool.false_ne_true
  | str i =>
    obtain ⟨t, rfl⟩ := rx
    cases y with
    | non => cases ry; exact PySem.EqNone.eq_str_none (fin_bl I q (by simp))
    | bl j => cases ry; exact PySem.EqMixed.eq_str_bool (fin_bl I q (by simp))
    | int j => obtain ⟨t', rfl⟩ := ry; exact PySem.EqMixed.eq_str_int (fin_bl I q (by simp))
    | str j => obtain ⟨t', rfl⟩ := ry; exact eq_str (fin_bl I q dec_str)
    | _ => exact absurd (show false = true from hs) Bool.false_ne_true
  | byt i =>
    obtain ⟨t, rfl⟩ := rx
    cases y with
    | byt j => obtain ⟨t', rfl⟩ := ry; exact PySem.W.eq_bytes (fin_bl I q dec_byt)
    | _ => exact absurd (show false = true from hs) Bool.false_ne_true
  | _ => cases y <;> exact absurd (show false = true from hs) Bool.false_ne_true
theorem op_ne : OpR X (compareOp .NotEq) rNe := by
  intro pins s σ H x y v u Q I rx ry h
  obtain ⟨hs, q⟩ := h
  cases x with
  | non =>
    cases rx
    cases y with
    | non => cases ry; exact PySem.EqNone.ne_none_none (fin_bl I q (by simp))
    | bl j => cases ry; exact PySem.EqNone.ne_none_bool (fin_bl I q (by simp))
    | int j => obtain ⟨t', rfl⟩ := ry; exact PySem.EqNone.ne_none_int (fin_bl I q (by simp))
    | str j => obtain ⟨t', rfl⟩ := ry; exact PySem.EqNone.ne_none_str (fin_bl I q (by simp))
    | _ => exact absurd (show false = true from hs) Bool.false_ne_true
  | bl i =>
    cases rx
    cases y with
    | non => cases ry; exact PySem.EqNone.ne_bool_none (fin_bl I q (by simp))
    | bl j => cases ry; exact ne_bool (fin_bl I q (congrArg not dec_bl))
    | str j => obtain ⟨t', rfl⟩ := ry; exact PySem.EqMixed.ne_bool_str (fin_bl I q (by simp))
    | _ => exact absurd (show false = true from hs) Bool.false_ne_true
  | int i =>
    obtain ⟨t, rfl⟩ := rx
    cases y with
    | non => cases ry; exact PySem.EqNone.ne_int_none (fin_bl I q (by simp))
    | int j => obtain ⟨t', rfl⟩ := ry; exact ne_int (fin_bl I q (congrArg not dec_int))
    | str j => obtain ⟨t', rfl⟩ := ry; exact PySem.EqMixed.ne_int_str (fin_bl I q (by simp))
    | _ => exact absurd (show false = true from hs) Bool.false_ne_true
  | str i =>
    obtain ⟨t, rfl⟩ := rx
    cases y with
    | non => cases ry; exact PySem.EqNone.ne_str_none (fin_bl I q (by simp))
    | bl j => cases ry; exact PySem.EqMixed.ne_str_bool (fin_bl I q (by simp))
    | int j => obtain ⟨t', rfl⟩ := ry; exact PySem.EqMixed.ne_str_int (fin_bl I q (by simp))
    | str j => obtain ⟨t', rfl⟩ := ry; exact ne_str (fin_bl I q (congrArg not dec_str))
    | _ => exact absurd (show false = true from hs) Bool.false_ne_true
  | byt i =>
    obtain ⟨t, rfl⟩ := rx
    cases y with
    | byt j => obtain ⟨t', rfl⟩ := ry; exact PySem.W.ne_bytes (fin_bl I q (congrArg not dec_byt))
    | _ => exact absurd (show false = true from hs) Bool.false_ne_true
  | _ => cases y <;> exact absurd (show false = true from hs) Bool.false_ne_true
theorem op_lt : OpR X (compareOp .Lt) (rI0 fun i j => .bl (decide (i < j))) := opB0 fun _ _ _ _ _ _ _ q => lt_int q
theorem op_le : OpR X (compareOp .LtE) (rI0 fun i j => .bl (decide (i ≤ j))) := opB0 fun _ _ _ _ _ _ _ q => le_int q
theorem op_gt : OpR X (compareOp .Gt) (rI0 fun i j => .bl (decide (j < i))) := opB0 fun _ _ _ _ _ _ _ q => gt_int q
theorem op_isN : OpR X (compareOp .Is) (fun x y H Q => y = .non ∧ Q (.bl (decide (x = .non))) H) := by
  intro pins s σ H x y v u Q I rx ry h
  obtain ⟨rfl, q⟩ := h
  cases ry
  refine is_none_gen (fin_bl I q ?_)
  cases x <;> first
    | (cases rx; rfl)
    | (obtain ⟨t, rfl⟩ := rx; rfl)
theorem op_notN : OpR X (compareOp .IsNot) (fun x y H Q => y = .non ∧ Q (.bl (!decide (x = .non))) H) := by
  intro pins s σ H x y v u Q I rx ry h
  obtain ⟨rfl, q⟩ := h
  cases ry
  refine isnot_none_gen (fin_bl I q ?_)
  cases x <;> first
    | (cases rx; rfl)
    | (obtain ⟨t, rfl⟩ := rx; rfl)
theorem nomark (b : Expr) {op : CmpOp} (h : op ≠ .In := by decide) (h2 : op ≠ .NotIn := by decide) : behindInMarks op b = false := by
  have e1 : (op == CmpOp.In) = false := by cases op <;> first | rfl | exact absurd rfl h
  have e2 : (op == CmpOp.NotIn) = false := by cases op <;> first | rfl | exact absurd rfl h2
  cases b <;> simp [behindInMarks, e1, e2]
theorem pe_cmpR {op : CmpOp} {r : R2} (ho : OpR X (compareOp op) r) (ha : PE X a ta) (hb : PE X b tb) (hm : behindInMarks op b = false) : PE X (.Compare a [op] [b] pos) (tOp r ta tb) := by
  intro pins s σ H Q I h
  exact wpAny_Compare1 (binT ha hb I h fun v u s2 x y H2 I2 rx ry q => ho pins s2 σ H2 x y v u Q I2 rx ry q) hm
def tTest (t : TE) : TT := fun σ H Q => t σ H fun x H' => ∃ k, x = .bl k ∧ Q k H'
theorem pt_cmpR {op : CmpOp} {r : R2} (ho : OpR X (compareOp op) r) (ha : PE X a ta) (hb : PE X b tb) (hm : behindInMarks op b = false) : PT X (.Compare a [op] [b] pos) (tTest (tOp r ta tb)) := by
  intro pins s σ H Q I h
  refine wpAny_isTrue_Compare1 (thn (ha pins s σ H _ I h) fun v s1 ⟨x, H1, I1, r1, q1⟩ => thn (hb pins s1 σ H1 _ I1 q1) fun u s2 ⟨y, H2, I2, r2, q2⟩ =>
    thn (ho pins s2 σ H2 x y v u _ I2 r1 r2 q2) fun c s3 ⟨z, H3, I3, r3, k, e, q3⟩ => ?_) hm
  subst e
  cases r3
  exact wpAny_truthy_bool ⟨H3, I3, q3⟩
def tChain (r r' : R2) (ta tb tc : TE) : TE := fun σ H Q => ta σ H fun x H1 => tb σ H1 fun y H2 => r x y H2 fun z H3 => ∃ k, z = .bl k ∧
  (if k = true then tc σ H3 fun w' H4 => r' y w' H4 Q else Q (.bl false) H3)
theorem pe_chain {op op' : CmpOp} {r r' : R2} (ho : OpR X (compareOp op) r) (ho' : OpR X (compareOp op') r') (ha : PE X a ta) (hb : PE X b tb) (hc : PE X c tc)
    (hm : lastMarks [op, op'] [b, c] = false := by with_unfolding_all rfl) : PE X (.Compare a [op, op'] [b, c] pos) (tChain r r' ta tb tc) := by
  intro pins s σ H Q I h
  refine Compare_chain (thn (ha pins s σ H _ I h) fun v s1 ⟨x, H1, I1, r1, q1⟩ => chain_link (thn (hb pins s1 σ H1 _ I1 q1) fun u s2 ⟨y, H2, I2, r2, q2⟩ =>
    thn (ho pins s2 σ H2 x y v u _ I2 r1 r2 q2) fun d s3 ⟨z, H3, I3, r3, k, e, q3⟩ => ?_)) hm
  subst e
  cases r3
  refine wpAny_truthy_bool ?_
  cases k with
  | false => exact ite_ff ⟨.bl false, H3, I3, rfl, q3⟩
  | true => exact ite_tt (chain_last (thn (hc pins s3 σ H3 _ I3 q3) fun w' s4 ⟨z', H4, I4, r4, q4⟩ => ho' pins s4 σ H4 y z' u w' Q I4 r2 r4 q4))
def TruV (K : PySem.W.Frag) (x : V) (H : Hp) (k : Bool) : Prop :=
  match x with
  | .non => k = false
  | .bl b => k = b
  | .int i => k = (i != 0)
  | .str y => y.length ≤ sizeLine ∧ k = ((y.length : Int) != 0)
  | .byt y => y.size ≤ sizeLine ∧ k = ((y.size : Int) != 0)
  | .ref p => (∃ xs, SqL K H p xs ∧ k = !xs.isEmpty) ∨ (∃ xs, SqT K H p xs ∧ k = !xs.isEmpty) ∨ ∃ kvs, H p = some (.dK kvs) ∧ k = !kvs.isEmpty
  | _ => False
theorem isEmpty_kv {κ : Type} {kvs : List (κ × V)} {vs : List (κ × Value)} (r : KV kvs vs) : (!vs.isEmpty) = !kvs.isEmpty := by
  cases r <;> rfl
theorem isEmpty_of {xs : List V} {its : List Value} (r : Vals xs its) : (!its.toArray.isEmpty) = !xs.isEmpty := by
  cases r <;> simp
theorem line63 : (sizeLine : Nat) < 2 ^ 63 := by rw [sizeLine_eq]; decide
theorem tru_ok : TruR X (fun x H Q => ∃ k, TruV X.K x H k ∧ Q k H) := by
  intro pins s σ H x v Q I rx h
  obtain ⟨k, e, q⟩ := h
  have hl := line63
  have hs : sizeLine = 16777216 := sizeLine_eq
  cases x with
  | non =>
    cases rx
    have e' : k = false := e
    subst e'
    exact truthy_none ⟨H, I, q⟩
  | bl b =>
    cases rx
    have e' : k = b := e
    subst e'
    exact wpAny_truthy_bool ⟨H, I, q⟩
  | int i =>
    obtain ⟨t, rfl⟩ := rx
    have e' : k = (i != 0) := e
    subst e'
    exact PySem.P.truthy_int ⟨H, I, q⟩
  | str y =>
    obtain ⟨t, rfl⟩ := rx
    obtain ⟨hy, e'⟩ : y.length ≤ sizeLine ∧ k = ((y.length : Int) != 0) := e
    subst e'
    exact PySem.P.truthy_str (by omega) ⟨H, I.tok _, q⟩
  | byt y =>
    obtain ⟨t, rfl⟩ := rx
    obtain ⟨hy, e'⟩ : y.size ≤ sizeLine ∧ k = ((y.size : Int) != 0) := e
    subst e'
    exact PySem.W.truthy_bytes (by omega) ⟨H, I.tok _, q⟩
  | ref p =>
    cases rx
    have e' : (∃ xs, SqL X.K H p xs ∧ k = !xs.isEmpty) ∨ (∃ xs, SqT X.K H p xs ∧ k = !xs.isEmpty) ∨ ∃ kvs, H p = some (.dK kvs) ∧ k = !kvs.isEmpty := e
    rcases e' with ⟨xs, hx, e'⟩ | ⟨xs, hx, e'⟩ | ⟨kvs, hx, e'⟩
    · subst e'
      obtain ⟨its, r, pl, hz⟩ := I.list hx
      have hlen := r.length
      exact wpAny_truthy_list pl.isList (by simp only [List.size_toArray]; omega) ⟨H, I.tok _, by rw [isEmpty_of r]; exact q⟩
    · subst e'
      obtain ⟨its, r, pl, hz⟩ := I.tuple hx
      have hlen := r.length
      exact truthy_tuple pl (by simp only [List.size_toArray]; omega) ⟨H, I.tok _, by rw [isEmpty_of r]; exact q⟩
    · subst e'
      obtain ⟨hz, hS, vs, r, m⟩ : kvs.length ≤ sizeLine ∧ (p == sysModules) = false ∧ ∃ vs, KV kvs vs ∧ s.heap.DictOf (mixKind X.prog X.w) p vs := I.hok p _ hx
      have hlen : kvs.length = vs.length := Paired.length r
      exact wpAny_truthy_dict hS m (by omega) ⟨H, I.tok _, by rw [isEmpty_kv r]; exact q⟩
  | _ => exact (show False from e).elim
theorem vals1 {x : V} {us : List Value} (r : Vals [x] us) : ∃ u, us = [u] ∧ RelV x u := by
  cases r with
  | cons r1 r2 => cases r2; exact ⟨_, rfl, r1⟩
theorem vals2 {x y : V} {us : List Value} (r : Vals [x, y] us) : ∃ u w', us = [u, w'] ∧ RelV x u ∧ RelV y w' := by
  cases r with
  | cons r1 r2 =>
    cases r2 with
    | cons r3 r4 => cases r4; exact ⟨_, _, rfl, r1, r3⟩
theorem call_max2 (hc : X.calm = true) : CallR X (.builtin "max") (fun xs H Q => ∃ i j, xs = [.int i, .int j] ∧ Q (.int (if j > i then j else i)) H) := by
  intro pins s σ H xs us Q I r h
  obtain ⟨i, j, rfl, q⟩ := h
  obtain ⟨u, w', rfl, ⟨t, rfl⟩, ⟨t', rfl⟩⟩ := vals2 r
  refine max_two_ints (I.ok.hd hc) fun h' tk k => ⟨_, H, I.kept k, ?_, q⟩
  by_cases hj : j > i
  · rw [if_pos hj, if_pos hj]; exact ⟨_, rfl⟩
  · rw [if_neg hj, if_neg hj]; exact ⟨_, rfl⟩
theorem call_min2 (hc : X.calm = true) : CallR X (.builtin "min") (fun xs H Q => ∃ i j, xs = [.int i, .int j] ∧ Q (.int (if j < i then j else i)) H) := by
  intro pins s σ H xs us Q I r h
  obtain ⟨i, j, rfl, q⟩ := h
  obtain ⟨u, w', rfl, ⟨t, rfl⟩, ⟨t', rfl⟩⟩ := vals2 r
  refine min_two_ints (I.ok.hd hc) fun h' tk k => ⟨_, H, I.kept k, ?_, q⟩
  by_cases hj : j < i
  · rw [if_pos hj, if_pos hj]; exact ⟨_, rfl⟩
  · rw [if_neg hj, if_neg hj]; exact ⟨_, rfl⟩
def LenV (K : PySem.W.Frag) (x : V) (H : Hp) (n : Nat) : Prop :=
  match x with
  | .str y => y.length ≤ sizeLine ∧ n = y.length
  | .byt y => y.size ≤ sizeLine ∧ n = y.size
  | .ref p => (∃ xs, SqL K H p xs ∧ n = xs.length) ∨ ∃ xs, SqT K H p xs ∧ n = xs.length
  | _ => False
theorem call_len : CallR X (.builtin "len") (fun xs H Q => ∃ x n, xs = [x] ∧ LenV X.K x H n ∧ Q (.int n) H) := by
  intro pins s σ H xs us Q I r h
  obtain ⟨x, n, rfl, e, q⟩ := h
  obtain ⟨u, rfl, rx⟩ := vals1 r
  have hl := line63
  have hs : sizeLine = 16777216 := sizeLine_eq
  cases x with
  | str y =>
    obtain ⟨t, rfl⟩ := rx
    obtain ⟨hy, e'⟩ : y.length ≤ sizeLine ∧ n = y.length := e
    subst e'
    exact len_str (by omega) ⟨.int _, H, I.tok _, ⟨_, rfl⟩, q⟩
  | byt y =>
    obtain ⟨t, rfl⟩ := rx
    obtain ⟨hy, e'⟩ : y.size ≤ sizeLine ∧ n = y.size := e
    subst e'
    exact PySem.W.len_bytes (by omega) ⟨.int _, H, I.tok _, ⟨_, rfl⟩, q⟩
  | ref p =>
    cases rx
    have e' : (∃ xs, SqL X.K H p xs ∧ n = xs.length) ∨ ∃ xs, SqT X.K H p xs ∧ n = xs.length := e
    rcases e' with ⟨xs, hx, e'⟩ | ⟨xs, hx, e'⟩
    · subst e'
      obtain ⟨its, r', pl, hz⟩ := I.list hx
      have hlen := r'.length
      exact Calls.call_len_list pl.isList (by simp only [List.size_toArray]; omega) ⟨.int xs.length, H, I.tok _, ⟨_, by simp only [List.size_toArray]; rw [hlen]⟩, q⟩
    · subst e'
      obtain ⟨its, r', pl, hz⟩ := I.tuple hx
      have hlen := r'.length
      exact len_tuple pl (by simp only [List.size_toArray]; omega) ⟨.int xs.length, H, I.tok _, ⟨_, by simp only [List.size_toArray]; rw [hlen]⟩, q⟩
  | _ => exact (show False from e).elim
end
end L2
namespace L2
open PySem PySem.Spec PyProof.Rows
structure ObjM (h : Heap) (x dx C : Addr) (mA : Str → Option Value) : Prop where
  obj : h.get? x = some (PySem.W.instObj C dx)
  ns : h.Ns1 dx mA
  ne : dx ≠ x
theorem lookIn_ns {h : Heap} {dx : Addr} {mA : Str → Option Value} (n : h.Ns1 dx mA) : ∃ od, h.get? dx = some od ∧ ∀ name, PySem.W.lookIn name od = some (mA name) := by
  obtain ⟨o, es, ep, ho, hd, hk, _, hm⟩ := n
  refine ⟨o, ho, fun name => ?_⟩
  have e := hm name
  unfold nsFind findBy at e
  rw [← Array.find?_toList] at e
  unfold PySem.W.lookIn
  rw [hd]
  dsimp only
  split
  · rename_i y q
    rw [q] at e
    exact congrArg some e
  · rename_i q
    rw [q] at e
    have a : es.toList.any (·.refKey) = false := by
      rw [List.any_eq_false]
      intro y hy
      obtain ⟨z, t, hkey⟩ := hk y (Array.mem_toList_iff.mp hy)
      simp [DictEntry.refKey, hkey]
    have a' : ¬ es.toList.any (·.refKey) = true := by rw [a]; exact Bool.false_ne_true
    rw [if_neg a']
    exact congrArg some e
theorem ObjM.look {h : Heap} {x dx C : Addr} {mA : Str → Option Value} (I : ObjM h x dx C mA) : ∃ od, PySem.W.InstAt h x (PySem.W.instObj C dx) C (some od) ∧ ∀ name, PySem.W.lookIn name od = some (mA name) :=
  let ⟨od, ho, hl⟩ := lookIn_ns I.ns
  ⟨od, ⟨I.obj, rfl, rfl, ho⟩, hl⟩
section
variable {prog : Program} {w : World} {A : Around} {E : Value → Shared → Prop} {s : Shared} {K : PySem.W.Frag} {x dx C f : Addr} {mA : Str → Option Value} {name : Str} {v : Value}
theorem get_map {expr : Bool} {Q : Value → Shared → Prop} (X : K.In s.heap) (I : ObjM s.heap x dx C mA) (hg : PySem.W.plainGet K C name = true) (hh : PySem.W.hasDictIn K C = true)
    (ha : PySem.W.findIn K (.ref C) name = some none) (hv : mA name = some v) (hv' : PySem.W.handedIn v = true) (h : Q v { s with toks := s.toks + 1 }) :
    wpAny (model prog w) A (getAttr (.ref x) name expr) Q E s := by
  obtain ⟨od, J, hl⟩ := I.look
  exact PySem.W.get_value X J (PySem.W.plainGet_of hg).1 (PySem.W.findObj_own hh ha rfl (by rw [hl, hv])) hv' h
theorem get_meth {pl : Sem Bool} {Q : Value × List Value → Shared → Prop} (X : K.In s.heap) (I : ObjM s.heap x dx C mA) (hg : PySem.W.plainGet K C name = true)
    (hf : PySem.W.findIn K (.ref C) name = some (some (.ref f))) (ht : PySem.W.isFn K (.ref f) = true) (hv : mA name = none) (h : Q (.ref f, [.ref x]) s) :
    wpAny (model prog w) A (getMethod (.ref x) name pl) Q E s := by
  obtain ⟨od, J, hl⟩ := I.look
  exact PySem.W.method_fn X J (PySem.W.plainGet_of hg).1 (PySem.W.plainGet_of hg).2 hf (beq_iff_eq.mp ht) (by show (PySem.W.lookIn name od).map (·.isSome) = some false; rw [hl, hv]; rfl) h
theorem set_map {ns : List Str} {Q : Unit → Shared → Prop} (X : K.In s.heap) (I : ObjM s.heap x dx C mA)
    (hs : PySem.W.findIn K (.ref C) "__setattr__" = some (some (.builtin "object.__setattr__"))) (hp : PySem.W.plainOver K C = true) (ht : PySem.W.takerIn K C name = some none) (hh : PySem.W.hasDictIn K C = true)
    (hw : PySem.Within mA ns) (hsz : ns.length ≤ sizeLine)
    (h : ∀ h', ObjM h' x dx C (fun y => if y = name then some v else mA y) → Heap.SameBut dx s.heap h' → Q () { s with heap := h', toks := s.toks + 2 }) :
    wpAny (model prog w) A (setAttr (.ref x) name v) Q E s := by
  obtain ⟨od, J, hl⟩ := I.look
  refine PySem.W.set_plain X J hs (PySem.W.osa_open (s := { s with toks := s.toks + 1 }) (r := none) X J hp ht fun b => ?_)
  obtain ⟨cd, hc, hd'⟩ := PySem.W.any_some hh
  have hx : s.heap.get? x = some ⟨.ref C, some dx, .plain, #[]⟩ := I.obj
  refine wpAny_bind (wpAny_pure (wpAny_bind (wpAny_bind (wpAny_loadPart hx (wpAny_bind (PySem.W.Looks.here (s := { s with toks := s.toks + 1 }) (PySem.W.looks_clsIn X hc) ?_))))))
  rw [hd']
  refine wpAny_pure (a := some dx) (wpAny_bind (wpAny_pure (wpAny_bind ?_)))
  refine wpAny_nsSet1 (s := { s with toks := s.toks + 1 }) I.ns fun h' hn2 hs2 => ?_
  obtain ⟨oD, esD, epD, hoD, hdD, hcD⟩ := hn2.count (PySem.Within.cons name v hw)
  refine wpAny_bind (wpAny_lookBehind hoD (by rw [hdD]; exact pastItsLine_dict (Nat.le_trans hcD (by rw [List.length_cons]; omega))) ?_)
  exact wpAny_pure (h _ ⟨(hs2.2 _ (Ne.symm I.ne)).trans I.obj, hn2, I.ne⟩ hs2)
theorem make_map {R : Result → Shared → Prop} {vs : List Value} {kw : List (Str × Value)} (X : K.In s.heap) (hm : PySem.W.makesIn K C = true)
    (hi : PySem.W.findIn K (.ref C) "__init__" = some (some (.ref f))) (hf : PySem.W.typeIn K (.ref f) = some (.type "function"))
    (h : codeAny (model prog w) (A.under (.builtin "type.__call__" ⟨.ref C :: vs, kw⟩)) (.call (.ref f) ⟨.ref (s.heap.objs.size + 1) :: vs, kw⟩) (PySem.W.InitBack (s.heap.objs.size + 1) R)
      { s with heap := (s.heap.push PySem.W.emptyDict).push (PySem.W.instObj C s.heap.objs.size) }) :
    codeAny (model prog w) A (.call (.ref C) ⟨vs, kw⟩) R s := by
  obtain ⟨hh, g, d, t, os⟩ := s
  exact PySem.W.make_core (PySem.W.makes_of X hm) (PySem.W.looks_findIn X hi) (fun self => PySem.W.bind_fn X self hf) (.inl rfl) h
end
def putF (f : Str) (v : V) : List (Str × V) → List (Str × V)
  | [] => [(f, v)]
  | (g, x) :: r => if g = f then (g, v) :: r else (g, x) :: putF f v r
theorem lookup_putF (f g : Str) (v : V) : ∀ fs : List (Str × V), (putF f v fs).lookup g = if g = f then some v else fs.lookup g
  | [] => by
    show List.lookup g [(f, v)] = _
    by_cases h : g = f
    · have hb : (g == f) = true := beq_iff_eq.mpr h
      simp only [List.lookup, hb, if_pos h]
    · have hb : (g == f) = false := beq_eq_false_iff_ne.mpr h
      simp only [List.lookup, hb, if_neg h]
  | (k, x) :: r => by
    have ih := lookup_putF f g v r
    rw [show putF f v ((k, x) :: r) = (if k = f then (k, v) :: r else (k, x) :: putF f v r) from rfl]
    by_cases hk : k = f
    · rw [if_pos hk]
      by_cases h : g = k
      · have hb : (g == k) = true := beq_iff_eq.mpr h
        simp only [List.lookup, hb, if_pos (h.trans hk)]
      · have hb : (g == k) = false := beq_eq_false_iff_ne.mpr h
        simp only [List.lookup, hb, if_neg (fun e : g = f => h (e.trans hk.symm))]
    · rw [if_neg hk]
      by_cases h : g = k
      · have hb : (g == k) = true := beq_iff_eq.mpr h
        simp only [List.lookup, hb, if_neg (fun e : g = f => hk (h.symm.trans e))]
      · have hb : (g == k) = false := beq_eq_false_iff_ne.mpr h
        simp only [List.lookup, hb]
        exact ih
theorem keys_putF (f : Str) (v : V) : ∀ fs : List (Str × V), f ∈ (putF f v fs).map (·.1) ∧ ∀ g, g ∈ fs.map (·.1) → g ∈ (putF f v fs).map (·.1)
  | [] => ⟨by simp [putF], fun g h => by simp at h⟩
  | (k, x) :: r => by
    obtain ⟨i1, i2⟩ := keys_putF f v r
    rw [show putF f v ((k, x) :: r) = (if k = f then (k, v) :: r else (k, x) :: putF f v r) from rfl]
    by_cases hk : k = f
    · rw [if_pos hk]
      subst hk
      exact ⟨by simp, fun g h => by simpa using h⟩
    · rw [if_neg hk]
      refine ⟨?_, fun g h => ?_⟩
      · rw [List.map_cons]
        exact List.mem_cons_of_mem _ i1
      · rw [List.map_cons] at h ⊢
        rcases List.mem_cons.mp h with e | e
        · exact List.mem_cons.mpr (.inl e)
        · exact List.mem_cons_of_mem _ (i2 g e)
theorem length_putF (f : Str) (v : V) : ∀ fs : List (Str × V), (putF f v fs).length ≤ fs.length + 1
  | [] => by simp [putF]
  | (k, x) :: r => by
    have ih := length_putF f v r
    rw [show putF f v ((k, x) :: r) = (if k = f then (k, v) :: r else (k, x) :: putF f v r) from rfl]
    by_cases hk : k = f
    · rw [if_pos hk, List.length_cons, List.length_cons]; omega
    · rw [if_neg hk, List.length_cons, List.length_cons]; omega
theorem RelO.some_of {v : V} {o : Option Value} (r : RelO (some v) o) : ∃ u, o = some u ∧ RelV v u := by
  cases o with
  | none => exact (show False from r).elim
  | some u => exact ⟨u, rfl, r⟩
theorem RelO.none_of {o : Option Value} (r : RelO none o) : o = none := by
  cases o with
  | none => rfl
  | some u => exact (show False from r).elim
theorem handed_of {v : V} {u : Value} (r : RelV v u) : PySem.W.handedIn u = true := by
  cases v with
  | non => cases (show u = Value.none from r); rfl
  | bl b => cases (show u = Value.bool b from r); rfl
  | int i => obtain ⟨t, e⟩ := (show ∃ t, u = Value.int i t from r); cases e; rfl
  | str x => obtain ⟨t, e⟩ := (show ∃ t, u = Value.str x t from r); cases e; rfl
  | byt b => obtain ⟨t, e⟩ := (show ∃ t, u = Value.bytes b t from r); cases e; rfl
  | flt b => obtain ⟨t, e⟩ := (show ∃ t, u = Value.float b t from r); cases e; rfl
  | ref a => cases (show u = Value.ref a from r); rfl
  | ty n => cases (show u = Value.type n from r); rfl
section
variable {P : Program} {w : World} {H H' : Hp} {h h' : Heap} {a C dx : Addr} {fs fs' : List (Str × V)}
theorem ins_get (hok : HOk P w H h) (e : H a = some (.ins C dx fs)) : ∃ mA, ObjM h a dx C mA ∧ (∀ f, RelO (fs.lookup f) (mA f)) ∧ PySem.Within mA (fs.map (·.1)) ∧ fs.length ≤ 1000 ∧ H dx = some (.own a) := by
  obtain ⟨d, z, ne, ob, mA, n, r, q⟩ := (show ObjOk P w H h a (.ins C dx fs) from hok a _ e)
  exact ⟨mA, ⟨ob, n, ne⟩, r, q, z, d⟩
end
structure Cls (K : PySem.W.Frag) (C : Addr) : Prop where
  pg : PySem.W.plainGet K C Str.empty = true
  hd : PySem.W.hasDictIn K C = true
  po : PySem.W.plainOver K C = true
  sa : PySem.W.findIn K (.ref C) "__setattr__" = some (some (.builtin "object.__setattr__"))
theorem Cls.get {K : PySem.W.Frag} {C : Addr} (c : Cls K C) (f : Str) : PySem.W.plainGet K C f = true := c.pg
def NoAttr (K : PySem.W.Frag) (C : Addr) (f : Str) : Prop := PySem.W.findIn K (.ref C) f = some none
theorem NoAttr.taker {K : PySem.W.Frag} {C : Addr} {f : Str} (n : NoAttr K C f) : PySem.W.takerIn K C f = some none := by
  unfold PySem.W.takerIn
  rw [show PySem.W.findIn K (.ref C) f = some none from n]
  rfl
structure Meth (K : PySem.W.Frag) (C : Addr) (m : Str) (f : Addr) : Prop where
  at_ : PySem.W.findIn K (.ref C) m = some (some (.ref f))
  fn : PySem.W.isFn K (.ref f) = true
  kp : PySem.W.keepIn K (.ref f) = true
section
variable {X : Cx} {pins : List (Addr × Obj)} {σ : St} {H : Hp} {s : Shared} {a C dx : Addr} {fs : List (Str × V)} {f : Str} {v : V} {A : Around} {E : Value → Shared → Prop}
theorem getattr_ok {b : Bool} {Q : Value → Shared → Prop} (I : Inv X pins σ H s) (e : H a = some (.ins C dx fs)) (c : Cls X.K C) (n : NoAttr X.K C f) (l : fs.lookup f = some v)
    (h : ∀ u s', Inv X pins σ H s' → RelV v u → Q u s') : wpAny (model X.prog X.w) A (getAttr (.ref a) f b) Q E s := by
  obtain ⟨mA, O, r, _, _, _⟩ := ins_get I.hok e
  obtain ⟨u, hu, ru⟩ := RelO.some_of (v := v) (o := mA f) (by rw [← l]; exact r f)
  exact get_map I.kIn O (c.get f) c.hd n hu (handed_of ru) (h u _ (I.tok _) ru)
theorem getmeth_ok {m : Str} {g : Addr} {pl : Sem Bool} {Q : Value × List Value → Shared → Prop} (I : Inv X pins σ H s) (e : H a = some (.ins C dx fs)) (c : Cls X.K C) (k : Meth X.K C m g) (l : fs.lookup m = none)
    (h : Q (.ref g, [.ref a]) s) : wpAny (model X.prog X.w) A (getMethod (.ref a) m pl) Q E s := by
  obtain ⟨mA, O, r, _, _, _⟩ := ins_get I.hok e
  have hn : mA m = none := RelO.none_of (by rw [← l]; exact r m)
  exact get_meth I.kIn O (c.get m) k.at_ k.fn hn h
theorem setattr_ok {y : V} {u : Value} {Q : Unit → Shared → Prop} (I : Inv X pins σ H s) (e : H a = some (.ins C dx fs)) (c : Cls X.K C) (n : NoAttr X.K C f) (hl : fs.length < 1000) (ry : RelV y u)
    (h : ∀ s', Inv X pins σ (upd H a (.ins C dx (putF f y fs))) s' → Q () s') : wpAny (model X.prog X.w) A (setAttr (.ref a) f u) Q E s := by
  obtain ⟨mA, O, r, wi, _, ho⟩ := ins_get I.hok e
  have hz : (fs.map (·.1)).length ≤ sizeLine := by rw [List.length_map, sizeLine_eq]; omega
  refine set_map I.kIn O c.sa c.po n.taker c.hd wi hz fun h' O' sb => h _ ?_
  have hd : ∃ o, h'.get? dx = some o := let ⟨o, _, _, e', _⟩ := O'.ns; ⟨o, e'⟩
  refine I.write (x := a) (e := dx) (by rw [e]; exact True.intro) (.inr ho) (fun b q hb z => (sb.2 b hb).trans z) hd ?_
  refine ⟨by rw [upd_ne O.ne]; exact ho, ?_, O.ne, O'.obj, _, O'.ns, fun g => ?_, fun g hg => ?_⟩
  · have := length_putF f y fs; omega
  · show RelO ((putF f y fs).lookup g) (if g = f then some u else mA g)
    rw [lookup_putF]
    by_cases q : g = f
    · rw [if_pos q, if_pos q]; exact ry
    · rw [if_neg q, if_neg q]; exact r g
  · by_cases q : g = f
    · rw [q]; exact (keys_putF f y fs).1
    · refine (keys_putF f y fs).2 g (wi g fun z => hg ?_)
      show (if g = f then some u else mA g) = none
      rw [if_neg q]; exact z
theorem Inv.made (I : Inv X pins σ H s) : Inv X pins σ (upd (upd H s.heap.objs.size (.own (s.heap.objs.size + 1))) (s.heap.objs.size + 1) (.ins C s.heap.objs.size []))
    { s with heap := (s.heap.push PySem.W.emptyDict).push (PySem.W.instObj C s.heap.objs.size) } := by
  have e1 : (s.heap.push PySem.W.emptyDict).get? s.heap.objs.size = some PySem.W.emptyDict := Heap.get?_push_size s.heap rfl
  have e2 : ((s.heap.push PySem.W.emptyDict).push (PySem.W.instObj C s.heap.objs.size)).get? (s.heap.objs.size + 1) = some (PySem.W.instObj C s.heap.objs.size) := by
    have := Heap.get?_push_size (s.heap.push PySem.W.emptyDict) (o := PySem.W.instObj C s.heap.objs.size) rfl
    rwa [Heap.size_push] at this
  have e3 : (s.heap.push PySem.W.emptyDict).Ns s.heap.objs.size (fun _ => none) := ⟨PySem.W.emptyDict, #[], _, e1, rfl, (fun e he => absurd he (by simp)), fun _ => rfl⟩
  have I1 := I.laid (a := s.heap.objs.size) (o := .own (s.heap.objs.size + 1)) (h' := s.heap.push PySem.W.emptyDict) (t' := s.toks) (fun b u q => Heap.get?_push_of_some _ q) (Nat.le_refl _) ⟨_, e1⟩
  refine I1.laid (a := s.heap.objs.size + 1) (o := .ins C s.heap.objs.size []) (t' := s.toks) (fun b u q => Heap.get?_push_of_some _ q) (Nat.le_of_eq (Heap.size_push _ _)) ?_
  have ne : s.heap.objs.size ≠ s.heap.objs.size + 1 := Nat.ne_of_lt (Nat.lt_succ_self _)
  refine ⟨by rw [upd_ne ne, upd_same], Nat.zero_le _, ne, e2, fun _ => none, (Heap.Ns1.of_empty e3).at fun o q => Heap.get?_push_of_some _ q, fun _ => True.intro, fun y hy => absurd rfl hy⟩
theorem attr_of {prog : Program} {w : World} {env : Env} {e : Expr} {f : Str} {pos : Pos} {s : Shared} {Q : Value → Shared → Prop} (hb : attributeBase e f env (eval e env) = eval e env)
    (h : wpAny (model prog w) A (eval e env) (fun o s₁ => wpAny (model prog w) A (getAttr o f true) Q E s₁) E s) : wpAny (model prog w) A (eval (.Attribute e f pos) env) Q E s :=
  Attribute_any_ h (by rw [arm_eval_Attribute, hb])
end
def tFld (K : PySem.W.Frag) (ta : TE) (f : Str) : TE := fun σ H Q => ta σ H fun x H1 => ∃ a C dx fs v, x = .ref a ∧ H1 a = some (.ins C dx fs) ∧ Cls K C ∧ NoAttr K C f ∧ fs.lookup f = some v ∧ Q v H1
def sFld (K : PySem.W.Frag) (ta tv : TE) (f : Str) : TS := fun D σ H => tv σ H fun y H1 => ta σ H1 fun x H2 => ∃ a C dx fs, x = .ref a ∧ H2 a = some (.ins C dx fs) ∧ Cls K C ∧ NoAttr K C f ∧ fs.length < 1000 ∧
  D.nx σ (upd H2 a (.ins C dx (putF f y fs)))
section
variable {X : Cx} {o e value : Expr} {f : Str} {pos pos' tpos : Pos} {ta tv : TE}
theorem pe_fld (he : PE X e ta) (hb : attributeBase e f X.env (eval e X.env) = eval e X.env) : PE X (.Attribute e f pos) (tFld X.K ta f) := by
  intro pins s σ H Q I h
  refine attr_of hb (thn (he pins s σ H _ I h) fun u s1 ⟨x, H1, I1, rx, a, C, dx, fs, v, ex, ea, c, n, l, q⟩ => ?_)
  subst ex
  obtain rfl : u = Value.ref a := rx
  exact getattr_ok I1 ea c n l fun u' s2 I2 ru => ⟨v, H1, I2, ru, q⟩
theorem ps_fld (ha : PE X o ta) (hv : PE X value tv) (hs : swapsWith value (some (.Attribute o f pos')) pos.line X.env = pure false) : PS X (.Assign [.Attribute o f pos'] value pos) (sFld X.K ta tv f) := by
  intro pins s σ H D I h
  refine plainObj_wpAny_Assign_Attribute (thn (hv pins s σ H _ I h) fun u s1 ⟨y, H1, I1, ry, q⟩ => thn (ha pins s1 σ H1 _ I1 q) fun ov s2 ⟨x, H2, I2, rx, a, C, dx, fs, ex, ea, c, n, l, q2⟩ => ?_) hs
  subst ex
  obtain rfl : ov = Value.ref a := rx
  exact setattr_ok I2 ea c n l ry fun s3 I3 => ⟨σ, _, I3, q2⟩
end
section
variable {X : Cx} {pins : List (Addr × Obj)} {σ : St} {H : Hp} {s : Shared} {A : Around} {E : Value → Shared → Prop} {Q : Value → Shared → Prop} {c : Value} {b : Bool}
inductive TyOf (K : PySem.W.Frag) (H : Hp) : V → Value → Prop where
  | non : TyOf K H .non (.type "NoneType")
  | bl (x : Bool) : TyOf K H (.bl x) (.type "bool")
  | int (i : Int) : TyOf K H (.int i) (.type "int")
  | str (x : Str) : TyOf K H (.str x) (.type "str")
  | flt (x : UInt64) : TyOf K H (.flt x) (.type "float")
  | lst {a : Addr} {xs : List V} (e : H a = some (.lst xs)) : TyOf K H (.ref a) (.type "list")
  | frz {a : Addr} {o : Obj} {xs : List V} (e : H a = some (.frz o (.lst xs))) : TyOf K H (.ref a) (.type "list")
  | tup {a : Addr} {xs : List V} (e : H a = some (.tup xs)) : TyOf K H (.ref a) (.type "tuple")
  | dK {a : Addr} {kvs : List (Key × V)} (e : H a = some (.dK kvs)) : TyOf K H (.ref a) (.type "dict")
  | dT {a : Addr} {kvs : List (List Key × V)} (e : H a = some (.dT kvs)) : TyOf K H (.ref a) (.type "dict")
  | ins {a C dx : Addr} {fs : List (Str × V)} (e : H a = some (.ins C dx fs)) (cl : Cls K C) (ha : PySem.W.findIn K (.ref C) "__class__" = some (some (.builtin "object.__class__")))
      (hn : PySem.W.specialIn K (.builtin "object.__class__") "__get__" = some (some (.builtin "getset_descriptor.__get__"))) (htk : PySem.W.takesIn K (.builtin "object.__class__") = some true)
      (hm : PySem.W.mroIn K C (.type "object") = some true) : TyOf K H (.ref a) (.ref C)
theorem isinst_ok {x : V} {u t : Value} (I : Inv X pins σ H s) (rx : RelV x u) (ty : TyOf X.K H x t) (e : PySem.W.kitOne X.K t c = some b) (h : ∀ tk, Q (.bool b) { s with toks := tk }) :
    wpAny (model X.prog X.w) A (call (.builtin "isinstance") [u, c]) Q E s := by
  cases ty with
  | non => cases (show u = Value.none from rx); exact PySem.W.kia_one PySem.W.kitx_none I.kIn True.intro e (fun z => nomatch z) h
  | bl y => cases (show u = Value.bool y from rx); exact PySem.W.kia_one PySem.W.kitx_bool I.kIn True.intro e (fun z => nomatch z) h
  | int i => obtain ⟨t, q⟩ := (show ∃ t, u = Value.int i t from rx); cases q; exact PySem.W.kia_one PySem.W.kitx_int I.kIn True.intro e (fun z => nomatch z) h
  | str y => obtain ⟨t, q⟩ := (show ∃ t, u = Value.str y t from rx); cases q; exact PySem.W.kia_one PySem.W.kitx_str I.kIn True.intro e (fun z => nomatch z) h
  | flt y => obtain ⟨t, q⟩ := (show ∃ t, u = Value.float y t from rx); cases q; exact PySem.W.kia_one PySem.W.kitx_float I.kIn True.intro e (fun z => nomatch z) h
  | @lst a xs ea =>
    cases (show u = Value.ref a from rx)
    obtain ⟨_, _, n, _, h1⟩ := (show ObjOk X.prog X.w H s.heap a (.lst xs) from I.hok a _ ea)
    exact PySem.W.kia_one PySem.W.kitx_list I.kIn ⟨_, h1, rfl⟩ e (fun z => nomatch z) h
  | @frz a ob xs ea =>
    cases (show u = Value.ref a from rx)
    obtain ⟨_, _, _, n, _, h1⟩ := (show ObjOk X.prog X.w H s.heap a (.frz ob (.lst xs)) from I.hok a _ ea)
    exact PySem.W.kia_one PySem.W.kitx_list I.kIn ⟨_, h1, rfl⟩ e (fun z => nomatch z) h
  | @tup a xs ea =>
    cases (show u = Value.ref a from rx)
    obtain ⟨_, _, _, p⟩ := (show ObjOk X.prog X.w H s.heap a (.tup xs) from I.hok a _ ea)
    obtain ⟨o, h1, h2, _⟩ := p
    exact PySem.W.kia_one PySem.W.kitx_tuple I.kIn ⟨o, h1, h2⟩ e (fun z => nomatch z) h
  | @dK a kvs ea =>
    cases (show u = Value.ref a from rx)
    obtain ⟨_, _, vs, _, p⟩ := (show ObjOk X.prog X.w H s.heap a (.dK kvs) from I.hok a _ ea)
    obtain ⟨o, es, ep, h1, h2, _⟩ := p
    exact PySem.W.kia_one PySem.W.kitx_dict I.kIn ⟨o, h1, h2.1⟩ e (fun z => nomatch z) h
  | @dT a kvs ea =>
    cases (show u = Value.ref a from rx)
    obtain ⟨_, _, xs, _, o, es, ep, h1, h2, _⟩ := (show ObjOk X.prog X.w H s.heap a (.dT kvs) from I.hok a _ ea)
    exact PySem.W.kia_one PySem.W.kitx_dict I.kIn ⟨o, h1, h2.1⟩ e (fun z => nomatch z) h
  | @ins a C dx fs ea cl ha hn htk hm =>
    cases (show u = Value.ref a from rx)
    obtain ⟨mA, O, _⟩ := ins_get I.hok ea
    obtain ⟨od, J, _⟩ := O.look
    exact PySem.W.kia_one (PySem.W.kitx_own (cl.get _) cl.hd ha hn htk hm) I.kIn J e (fun z => nomatch z) h
end
end L2
namespace L2
open PySem PySem.Spec PyProof.Rows
structure Room (k : Nat) (A : Around) : Prop where
  hd : A.handled = none
  dp : A.depth + 3 * k + 5 < recursionLimit
  un : A.units + 16 * k + 200 < cLine
theorem Room.mono {j k : Nat} {A : Around} (r : Room k A) (h : j ≤ k) : Room j A := ⟨r.hd, by have := r.dp; omega, by have := r.un; omega⟩
theorem Room.deeper {k : Nat} {A : Around} (r : Room (k + 1) A) (env : Env) : Room k (A.deeper env) :=
  ⟨r.hd, by have := r.dp; show A.depth + 1 + 3 * k + 5 < _; omega, by have := r.un; show A.units + 3 + 16 * k + 200 < _; omega⟩
theorem make_depth {A : Around} {C : Addr} {us : List Value} {kw : List (Str × Value)} : (A.under (.builtin "type.__call__" ⟨.ref C :: us, kw⟩)).depth = A.depth + 1 := by
  first | rfl | simp [Around.under, Code.weight, Code.isCreation, Code.isGuard, Code.isCaller, Code.frames, Code.isFrame, guardIds]
theorem make_units {A : Around} {C : Addr} {us : List Value} {kw : List (Str × Value)} : (A.under (.builtin "type.__call__" ⟨.ref C :: us, kw⟩)).units = A.units + 1 := by
  first | rfl | simp [Around.under, Code.cUnits, Code.frames, Code.isFrame]
theorem Room.make {k : Nat} {A : Around} (r : Room (k + 1) A) (C : Addr) (us : List Value) (kw : List (Str × Value)) : Room k (A.under (.builtin "type.__call__" ⟨.ref C :: us, kw⟩)) :=
  ⟨r.hd, by have := r.dp; rw [make_depth]; omega, by have := r.un; rw [make_units]; omega⟩
theorem Room.depth {k : Nat} {A : Around} (r : Room k A) : A.depth < recursionLimit := by have := r.dp; omega
theorem Room.units {k : Nat} {A : Around} (r : Room k A) : A.units + 64 < cLine := by have := r.un; omega
def tNil : TA := fun _ H Q => Q [] H
def tCons (ta : TE) (tr : TA) : TA := fun σ H Q => ta σ H fun x H1 => tr σ H1 fun xs H2 => Q (x :: xs) H2
section
variable {X : Cx} {e : Expr} {es : List Expr} {te : TE} {t : TA} {pos : Pos}
theorem pa_nil : PA X [] tNil := fun _ _ _ _ H Q I h => Calls.spliced_nil ⟨[], H, I, .nil, h⟩
theorem pa_cons (ha : PE X e te) (hr : PA X es t) (hs : starEach (e :: es) X.env = (false, eval e X.env) :: starEach es X.env := by rfl) : PA X (e :: es) (tCons te t) := by
  intro pos pins s σ H Q I h
  rw [hs]
  show wpAny _ _ (spliced ((false, eval e X.env) :: backTo pos (starEach es X.env))) _ _ s
  refine Calls.spliced_cons (thn (ha pins s σ H _ I h) fun u s1 ⟨x, H1, I1, r1, q1⟩ => ?_)
  exact thn (hr pos pins s1 σ H1 _ I1 q1) fun us s2 ⟨xs, H2, I2, r2, q2⟩ => ⟨x :: xs, H2, I2, .cons r1 r2, q2⟩
def tTup (t : TA) : TE := fun σ H Q => t σ H fun xs H1 => xs.length ≤ sizeLine ∧ ∀ p, H1 p = none → Q (.ref p) (upd H1 p (.tup xs))
def tLst (t : TA) : TE := fun σ H Q => t σ H fun xs H1 => xs.length ≤ sizeLine ∧ ∀ p, H1 p = none → Q (.ref p) (upd H1 p (.lst xs))
theorem pe_tup {x1} (h : PA X es t) : PE X (.Tuple es x1 pos) (tTup t) := by
  intro pins s σ H Q I hq
  refine wpAny_Tuple_spliced (thn (h pos pins s σ H _ I hq) fun us s1 ⟨xs, H1, I1, r, z, q⟩ => ⟨by rw [← r.length]; exact z, ?_⟩)
  have hf : H1 s1.heap.objs.size = none := I1.hok.fresh (Nat.le_refl _)
  refine ⟨.ref s1.heap.objs.size, upd H1 s1.heap.objs.size (.tup xs), I1.laid (t' := s1.toks) (fun b u e => Heap.get?_push_of_some _ e) (Nat.le_refl _) ?_, rfl, q _ hf⟩
  exact ⟨z, us, r, ⟨_, Heap.get?_push_size _ rfl, rfl, _, rfl⟩⟩
theorem pe_lst (h : PA X es t) : PE X (.List es pos) (tLst t) := by
  intro pins s σ H Q I hq
  refine wpAny_List_spliced (thn (h pos pins s σ H _ I hq) fun us s1 ⟨xs, H1, I1, r, z, q⟩ => ⟨by rw [← r.length]; exact z, ?_⟩)
  have hf : H1 s1.heap.objs.size = none := I1.hok.fresh (Nat.le_refl _)
  refine ⟨.ref s1.heap.objs.size, upd H1 s1.heap.objs.size (.lst xs), I1.laid (t' := s1.toks) (fun b u e => Heap.get?_push_of_some _ e) (Nat.le_refl _) ?_, rfl, q _ hf⟩
  exact ⟨z, us, 0, r, Heap.get?_push_size _ rfl⟩
end
abbrev Sp := List V → Hp → VK → XK → Prop
abbrev CXT := List Env → Hp → Shared → XK → Value → Shared → Prop
structure Env0 (P : Program) (w : World) (K : PySem.W.Frag) (mg : Str → Option Value) (base : Heap) (A : Around) (outer : List Env) (s : Shared) (H : Hp) : Prop where
  frames : A.frames = some outer
  mod : Mod K mg base
  bs : ∀ b o, base.get? b = some o → s.heap.get? b = some o ∧ H b = none
  bsz : base.objs.size ≤ s.heap.objs.size
  funs : s.heap.FunFrames base outer
  frf : ∀ b ∈ frs outer, H b = none
  hok : HOk P w H s.heap
  bare : AllBare s.gens
def CE (outer : List Env) (P : Program) (w : World) (H : Hp) (s : Shared) (Q : VK) (u : Value) (s' : Shared) : Prop :=
  ∃ v H', s'.os = s.os ∧ AllBare s'.gens ∧ Un (frs outer) [] H H' s.heap s'.heap ∧ HOk P w H' s'.heap ∧ RelV v u ∧ Q v H'
def CR (CX : CXT) (outer : List Env) (P : Program) (w : World) (H : Hp) (s : Shared) (Q : VK) (E : XK) (r : Result) (s' : Shared) : Prop :=
  match r with
  | .ok (.ret u) => CE outer P w H s Q u s'
  | .ok _ => False
  | .error e => CX outer H s E e s'
structure FnOk (P : Program) (w : World) (K : PySem.W.Frag) (mg : Str → Option Value) (base : Heap) (CX : CXT) (k : Nat) (f : Addr) (fd : FuncData) (ps : List Str) (sp : Sp) : Prop where
  len : ∀ vs H Q E, sp vs H Q E → vs.length = ps.length
  run : ∀ (A : Around) (outer : List Env) (s : Shared) (H : Hp) (args : Args) (us : List Value) (vs : List V) (Q : VK) (E : XK), Room k A → Env0 P w K mg base A outer s H → BindsTo s fd args (ps.zip us) → Vals vs us → sp vs H Q E →
    codeAny (model P w) A (.call (.ref f) args) (CR CX outer P w H s Q E) s
theorem Env0.make {P : Program} {w : World} {K : PySem.W.Frag} {mg : Str → Option Value} {base : Heap} {A : Around} {outer : List Env} {s : Shared} {H : Hp} (e : Env0 P w K mg base A outer s H) (C : Addr) (us : List Value) (kw : List (Str × Value)) :
    Env0 P w K mg base (A.under (.builtin "type.__call__" ⟨.ref C :: us, kw⟩)) outer s H := ⟨by first | exact e.frames | (simpa [Around.under, Code.envs, Code.isFrame, pushEnvs] using e.frames), e.mod, e.bs, e.bsz, e.funs, e.frf, e.hok, e.bare⟩
section
variable {X : Cx} {pins : List (Addr × Obj)} {σ : St} {H : Hp} {s s' : Shared}
theorem Inv.env0 (I : Inv X pins σ H s) : Env0 X.prog X.w X.K X.mg X.base X.A X.stack s H :=
  ⟨I.ok.frames, I.ok.mod, I.bs, Nat.le_trans I.ok.bsz I.sz, I.stack, I.stkFree, I.hok, I.bare⟩
theorem Inv.after {Q : VK} {u : Value} (I : Inv X pins σ H s) (h : CE X.stack X.prog X.w H s Q u s') : EP X pins σ Q u s' := by
  obtain ⟨v, H', os, bare, un, hok, r, q⟩ := h
  obtain ⟨hh, g, d, t, os'⟩ := s'
  obtain rfl : os' = s.os := os
  exact ⟨v, H', I.call (h' := hh) (g' := g) (d' := d) (t' := t) (ch := []) un hok bare (fun b z => absurd z (by simp)), r, q⟩
end
def Binds (K : PySem.W.Frag) (fd : FuncData) (ps : List Str) (ds : List Value) : Prop :=
  ∀ (s : Shared) (us : List Value), K.In s.heap → (us ++ ds).length = ps.length → BindsTo s fd ⟨us, []⟩ (ps.zip (us ++ ds))
theorem Binds.all {K : PySem.W.Frag} {fd : FuncData} {ps : List Str} (h : ∀ us : List Value, us.length = ps.length → bindArgs fd ⟨us, []⟩ = pure (ps.zip us)) : Binds K fd ps [] := fun s us _ hl => by
  rw [List.append_nil] at hl ⊢
  exact .of_eq (h us hl)
section
variable {X : Cx} {CX : CXT} {k : Nat} {f C : Addr} {fd : FuncData} {ps : List Str} {sp : Sp} {dvs : List V} {ds : List Value} {E : XK} {x m : Str} {p pos apos : Pos} {e o : Expr} {es : List Expr} {ta : TE} {t : TA}
structure Mk (K : PySem.W.Frag) (C f : Addr) : Prop where
  makes : PySem.W.makesIn K C = true
  init : PySem.W.findIn K (.ref C) "__init__" = some (some (.ref f))
  fn : PySem.W.isFn K (.ref f) = true
  kp : PySem.W.keepIn K (.ref C) = true
end
section
variable {X : Cx} {CX : CXT} {k : Nat} {f C : Addr} {fd : FuncData} {ps ks : List Str} {sp : Sp} {E : XK} {x m : Str} {p pos apos kpos : Pos} {e o : Expr} {es : List Expr} {kws : List Keyword} {te ta : TE} {t tk : TA} {nm : Option Str}
variable {g : List Value → List Value → List Value} {gV : List V → List V → List V}
end
structure FnScope (N P : List Str) (sc : Scope) : Prop where
  kind : sc.kind = .function
  co : sc.isCoroutine = false
  gen : sc.isGenerator = false
  nd : N.Nodup
  pre : N.take P.length = P
  par : ∀ x ∈ P, sc.names.lookup x = some .local ∨ sc.names.lookup x = some .cell
  nofree : ∀ y ∈ sc.names, y.2 ≠ .free
theorem bindL_out {kindOf : Str → Option NameKind} {x : Str} : ∀ {binds : List (Str × Value)} {m : Str → Option Value}, (∀ v, (x, v) ∉ binds) → bindL kindOf binds m x = m x
  | [], _, _ => rfl
  | (n, v) :: r, m, h => by
    unfold bindL
    rw [bindL_out fun w hw => h w (List.mem_cons_of_mem _ hw)]
    split
    · have : x ≠ n := by rintro rfl; exact h v List.mem_cons_self
      simp [this]
    · rfl
theorem bindC_out {kindOf : Str → Option NameKind} {x : Str} : ∀ {binds : List (Str × Value)} {m : Str → Option Value}, (∀ v, (x, v) ∉ binds) → bindC kindOf binds m x = m x
  | [], _, _ => rfl
  | (n, v) :: r, m, h => by
    unfold bindC
    rw [bindC_out fun w hw => h w (List.mem_cons_of_mem _ hw)]
    split
    · rfl
    · have : x ≠ n := by rintro rfl; exact h v List.mem_cons_self
      simp [this]
theorem bindL_get {kindOf : Str → Option NameKind} {x : Str} {v : Value} : ∀ {P : List Str} {vs : List Value} {i : Nat} {m : Str → Option Value}, P.Nodup → P[i]? = some x → vs[i]? = some v → kindOf x = some .local →
    bindL kindOf (P.zip vs) m x = some v
  | [], _, _, _, _, h, _, _ => by simp at h
  | _ :: _, [], _, _, _, _, h, _ => by simp at h
  | p :: P, w :: vs, 0, m, nd, h1, h2, hk => by
    simp at h1 h2; subst h1; subst h2
    show bindL kindOf ((p, w) :: P.zip vs) m p = _
    unfold bindL
    rw [bindL_out fun v hv => (List.nodup_cons.mp nd).1 (List.of_mem_zip hv).1, if_pos hk]
    simp
  | p :: P, w :: vs, i + 1, m, nd, h1, h2, hk => by
    show bindL kindOf ((p, w) :: P.zip vs) m x = _
    unfold bindL
    exact bindL_get (i := i) (List.nodup_cons.mp nd).2 (by simpa using h1) (by simpa using h2) hk
theorem bindC_get {kindOf : Str → Option NameKind} {x : Str} {v : Value} : ∀ {P : List Str} {vs : List Value} {i : Nat} {m : Str → Option Value}, P.Nodup → P[i]? = some x → vs[i]? = some v → kindOf x ≠ some .local →
    bindC kindOf (P.zip vs) m x = some v
  | [], _, _, _, _, h, _, _ => by simp at h
  | _ :: _, [], _, _, _, _, h, _ => by simp at h
  | p :: P, w :: vs, 0, m, nd, h1, h2, hk => by
    simp at h1 h2; subst h1; subst h2
    show bindC kindOf ((p, w) :: P.zip vs) m p = _
    unfold bindC
    rw [bindC_out fun v hv => (List.nodup_cons.mp nd).1 (List.of_mem_zip hv).1, if_neg hk]
    simp
  | p :: P, w :: vs, i + 1, m, nd, h1, h2, hk => by
    show bindC kindOf ((p, w) :: P.zip vs) m x = _
    unfold bindC
    exact bindC_get (i := i) (List.nodup_cons.mp nd).2 (by simpa using h1) (by simpa using h2) hk
def start (N : List Str) (vs : List V) : St := vs.map some ++ List.replicate (N.length - vs.length) none
def cxOf (CX : CXT) (P : Program) (w : World) (K : PySem.W.Frag) (mg : Str → Option Value) (base : Heap) (N : List Str) (qual : Str) (scope : Scope) (f : Addr) (cd : Value) (A : Around) (outer : List Env) (s : Shared) (H : Hp) (E : XK) : Cx where
  prog := P
  w := w
  K := K
  mg := mg
  base := base
  A := A.deeper (envOfC qual scope s.heap.objs.size f cd)
  N := N
  s₀ := s
  H₀ := H
  env := envOfC qual scope s.heap.objs.size f cd
  outer := outer
  stack := envOfC qual scope s.heap.objs.size f cd :: outer
  ex := []
  calm := true
  fn := fun _ => true
  pn := []
  xe := fun e s' => wpAny (model P w) (A.deeper (envOfC qual scope s.heap.objs.size f cd)) (leaving (envOfC qual scope s.heap.objs.size f cd) e) (fun _ s'' => CX outer H s E e s'') (fun e' s'' => CX outer H s E e' s'') s'
theorem cell_has {sc : Scope} {n : Nat} {x : Str} (h : sc.names.lookup x = some .cell) : ∃ c, (cellsFrom n sc.names []).lookup x = some c := by
  have q := PySem.W.cellsFrom_some sc.names n [] (.inl h)
  exact Option.isSome_iff_exists.mp q
theorem inv_start {CX : CXT} {P : Program} {w : World} {K : PySem.W.Frag} {mg : Str → Option Value} {base : Heap} {N ps : List Str} {qual : Str} {scope : Scope} {f : Addr} {cd : Value} {A : Around} {outer : List Env} {s s1 : Shared} {H : Hp} {E : XK} {us : List Value} {vs : List V}
    (S : FnScope N ps scope) (hd : A.handled = none) (e0 : Env0 P w K mg base A outer s H) (hl : vs.length = ps.length) (r : Vals vs us)
    (x : InCallC s s.heap.objs.size (bindL (envOfC qual scope s.heap.objs.size f cd).kindOf (ps.zip us) fun _ => none) (cellsFrom (s.heap.objs.size + 1) scope.names []) (bindC (envOfC qual scope s.heap.objs.size f cd).kindOf (ps.zip us) fun _ => none) s1) :
    Inv (cxOf CX P w K mg base N qual scope f cd A outer s H E) [] (start N vs) H s1 := by
  have hpl : ps.length ≤ N.length := by have := congrArg List.length S.pre; rw [List.length_take] at this; omega
  obtain ⟨h1, tk, rfl, hk⟩ := x.done
  have noA : ∀ b : Addr, b ∉ (cxOf CX P w K mg base N qual scope f cd A outer s H E).ex := fun b z => absurd (show b ∈ ([] : List Addr) from z) (by simp)
  refine ⟨⟨e0.mod, S.kind, rfl, rfl, Nat.le_refl _, fun y z c h1 h2 => ?_, fun y hy => ?_, fun y c _ h => ?_, fun _ => hd, Around.frames_deeper e0.frames, .inr ⟨rfl, rfl⟩, fun b z => absurd z (noA b), e0.bs, e0.bsz, fun b _ _ => noA b, fun b z => absurd z (noA b), e0.funs, e0.frf⟩,
    rfl, e0.bare, Un.kept hk, ⟨_, x.toInCall.ns, fun i y v h1 h2 h3 => ?_⟩, fun y c h => ⟨_, x.cell y c h⟩, e0.hok.fresh (Nat.le_refl _), fun y c h => ?_, fun p hp => absurd (show p ∈ ([] : List (Addr × Obj)) from hp) (by simp), e0.hok.kept hk, ?_⟩
  · exact name_of_addr x.apart (PySem.mem_of_lookup h1) (PySem.mem_of_lookup h2)
  · have hy : scope.names.lookup y = some .cell ∨ scope.names.lookup y = some .free := hy
    rcases hy with hy | hy
    · exact cell_has hy
    · exact absurd rfl (S.nofree _ (PySem.mem_of_lookup hy))
  · exact Nat.le_of_lt (x.above y c (PySem.mem_of_lookup h))
  · have hi : i < vs.length := by
      unfold start at h2
      by_cases hi : i < vs.length
      · exact hi
      · rw [List.getElem?_append_right (by simpa using hi)] at h2
        rw [List.getElem?_replicate] at h2
        split at h2 <;> cases h2
    have ha : vs[i]? = some v := by
      unfold start at h2
      rw [List.getElem?_append_left (by simpa using hi), List.getElem?_map] at h2
      cases e : vs[i]? with
      | none => rw [e] at h2; cases h2
      | some a => rw [e] at h2; cases h2; rfl
    obtain ⟨u, hu, rv⟩ := r.get ha
    have hp : ps[i]? = some y := by
      rw [← S.pre, List.getElem?_take_of_lt (by omega)]; exact h1
    have ndP : ps.Nodup := by rw [← S.pre]; exact S.nd.sublist (List.take_sublist _ _)
    refine ⟨u, rv, ?_⟩
    rcases S.par y (List.mem_of_getElem? hp) with k | k
    · exact .inl ⟨k, bindL_get ndP hp hu k⟩
    · obtain ⟨c, e⟩ := cell_has (n := s.heap.objs.size + 1) k
      refine .inr ⟨.inl k, c, e, ?_⟩
      have q := x.cell y c e
      rw [bindC_get ndP hp hu (by show scope.names.lookup y ≠ _; rw [k]; decide)] at q
      exact q
  · exact e0.hok.fresh (Nat.le_of_lt (x.above y c (PySem.mem_of_lookup h)))
  · unfold start
    show _ = N.length
    rw [List.length_append, List.length_map, List.length_replicate]
    omega
theorem fn_of {CX : CXT} {P : Program} {w : World} {K : PySem.W.Frag} {mg : Str → Option Value} {base : Heap} {k : Nat} {f : Addr} {name qual : Str} {params : Arguments} {body : List Stmt} {scope : Scope} {dV kV doc pm cdv ct oc : Value} {an od : Option Addr}
    {osl : Array (Option Value)} {N ps : List Str} {sp : Sp} (lk : K.lookup f = some ⟨oc, od, .func (PySem.W.fnOf name qual params body scope dV kV doc pm an cdv ct), osl⟩) (hcd : PySem.W.codeIn K cdv qual = true) (S : FnScope N ps scope)
    (len : ∀ vs H Q E, sp vs H Q E → vs.length = ps.length)
    (hbody : ∀ (A : Around) (outer : List Env) (s : Shared) (H : Hp) (vs : List V) (Q : VK) (E : XK), Room k (A.deeper (envOfC qual scope s.heap.objs.size f cdv)) → sp vs H Q E →
      ∃ t, PSs (cxOf CX P w K mg base N qual scope f cdv A outer s H E) body t ∧ t { nx := fun _ H' => Q .non H', rt := Q } (start N vs) H) :
    FnOk P w K mg base CX (k + 1) f (PySem.W.fnOf name qual params body scope dV kV doc pm an cdv ct) ps sp := by
  refine ⟨len, fun A outer s H args us vs Q E hr e0 hb r hsp => ?_⟩
  have hl := len _ _ _ _ hsp
  have KX : K.In s.heap := e0.mod.kin.keeps fun b o e => (e0.bs b o e).1
  have lim : s.heap.NoLimit := e0.mod.nolimit.keeps fun b o e => (e0.bs b o e).1
  have hkind : ∀ y ∈ ps.zip us, scope.names.lookup y.1 = some .local ∨ (scope.names.lookup y.1 = some .cell ∧ ((cellsFrom (s.heap.objs.size + 1) scope.names []).lookup y.1).isSome = true) := fun ⟨n, v⟩ hy => by
    rcases S.par n (List.of_mem_zip hy).1 with q | q
    · exact .inl q
    · exact .inr ⟨q, PySem.W.cellsFrom_some _ _ _ (.inl q)⟩
  refine codeAny_call_function hr.depth (KX _ _ lk) rfl S.co S.gen rfl (PySem.W.codeRec_of KX hcd) (hb _ _ _ _ ?_)
  refine wpAny_newFunctionEnv_cells S.kind hkind fun env he s1 x => ?_
  subst he
  refine ⟨lim.keeps x.toInCall.keep, codeAny_func ?_⟩
  obtain ⟨t, ht, hq⟩ := hbody A outer s H vs Q E (hr.deeper _) hsp
  have I : Inv (cxOf CX P w K mg base N qual scope f cdv A outer s H E) [] (start N vs) H s1 := inv_start S hr.hd e0 hl r x
  refine wpAny_mono (ht [] s1 (start N vs) H _ I hq) (fun fl s' hs => ?_) fun e s' hs => hs
  have fin : ∀ {σ' : St} {H' : Hp} {v : V} {u : Value}, Inv (cxOf CX P w K mg base N qual scope f cdv A outer s H E) [] σ' H' s' → RelV v u → Q v H' → CE outer P w H s Q u s' :=
    fun {σ' H' v u} J rv q => ⟨v, H', J.os, J.bare, J.base, J.hok, rv, q⟩
  cases fl with
  | ret u =>
    obtain ⟨v, σ', H', J, rv, q⟩ := hs
    exact fin J rv q
  | next =>
    obtain ⟨σ', H', J, q⟩ := hs
    exact fin (v := V.non) (u := Value.none) J rfl q
  | brk =>
    obtain ⟨_, _, _, q⟩ := hs
    exact False.elim q
  | cont =>
    obtain ⟨_, _, _, q⟩ := hs
    exact False.elim q
end L2
namespace L2
open PySem PySem.Spec PyProof.Rows
section
variable {X : Cx} {x : Str} {p pos : Pos} {e : Expr} {es : List Expr} {t : TA} {id T : String} {r : List V → Hp → VK → Prop}
def tCB (r : List V → Hp → VK → Prop) (t : TA) : TE := fun σ H Q => t σ H fun vs H1 => r vs H1 Q
theorem pe_callB (hc : CallR X (.builtin id) r) (hg : Gl X x) (hm : X.mg x = none) (hv : bootBuiltins x = some (.builtin id)) (ha : PA X (e :: es) t) (hn : x ≠ "__name__" := by decide) (hdb : (x == ("__debug__" : Str)) = false := by decide)
    (he : starEach (e :: es) X.env = (false, eval e X.env) :: starEach es X.env := by rfl) (hpl : (backTo pos (starEach es X.env)).any (·.1) = false := by rfl) : PE X (.Call (.Name x p) (e :: es) [] pos) (tCB r t) := by
  intro pins s σ H Q I h
  refine wpAny_Call_Name_kw (ld_blt I hg hm hv ?_ hn hdb)
  exact PyProof.Rows.callWith_builtin1 (thn (ha pos pins s σ H _ I h) fun us s1 ⟨vs, H1, I1, r1, q1⟩ => hc pins s1 σ H1 vs us Q I1 r1 q1) he hpl
theorem pe_callTy (hc : CallR X (.type T) r) (hg : Gl X x) (hm : X.mg x = none) (hv : bootBuiltins x = some (.type T)) (ha : PA X (e :: es) t) (hn : x ≠ "__name__" := by decide) (hdb : (x == ("__debug__" : Str)) = false := by decide)
    (he : starEach (e :: es) X.env = (false, eval e X.env) :: starEach es X.env := by rfl) (hpl : (backTo pos (starEach es X.env)).any (·.1) = false := by rfl) : PE X (.Call (.Name x p) (e :: es) [] pos) (tCB r t) := by
  intro pins s σ H Q I h
  refine wpAny_Call_Name_kw (ld_blt I hg hm hv ?_ hn hdb)
  exact PyProof.Rows.callWith_type1 (thn (ha pos pins s σ H _ I h) fun us s1 ⟨vs, H1, I1, r1, q1⟩ => hc pins s1 σ H1 vs us Q I1 r1 q1) he hpl
end
end L2
namespace HT
open PySem PyProof.Rows
section
open PySem.SeqAt
open PySem.AutoSeq1 (wpAny_loadPart')
open PySem.MeetsSeq PySem.MeetsSeq2 PySem.MeetsSeq3
end
section
variable {prog : Program} {w : World} {A : Around} {E : Value → Shared → Prop} {s : Shared}
def sIx (n d : Nat) : Option Int → Nat
  | none => d
  | some v => if v < 0 then (v + (n : Int)).toNat else min v.toNat n
end
end HT
namespace L2
open PySem PySem.Spec PyProof.Rows
abbrev TO := St → Hp → (Option Int → Hp → Prop) → Prop
def PO (X : Cx) (e : Option Expr) (t : TO) : Prop :=
  ∀ (pins : List (Addr × Obj)) (s : Shared) (σ : St) (H : Hp) (Q : Option Int → Hp → Prop), Inv X pins σ H s → t σ H Q →
    wpAny (model X.prog X.w) X.A (evalPart e X.env) (fun u s' => ∃ o H', Inv X pins σ H' s' ∧ IsPart u o ∧ Q o H') X.xe s
def tNoPart : TO := fun _ H Q => Q none H
def tPart (t : TE) : TO := fun σ H Q => t σ H fun x H1 => ∃ i, x = .int i ∧ Q (some i) H1
section
variable {X : Cx} {e : Expr} {te : TE} {lo hi : Option Expr} {tl th : TO} {pos p2 : Pos}
theorem po_none : PO X none tNoPart := by
  intro pins s σ H Q I h
  rw [evalPart_none]
  exact wpAny_pure ⟨none, H, I, .none, h⟩
theorem po_some (h : PE X e te) : PO X (some e) (tPart te) := by
  intro pins s σ H Q I hw
  rw [evalPart_some]
  refine thn (h pins s σ H _ I hw) fun u s1 ⟨x, H1, I1, r1, q1⟩ => ?_
  obtain ⟨i, rfl, q⟩ := q1
  obtain ⟨t, rfl⟩ := r1
  exact ⟨some i, H1, I1, .int i t, q⟩
def SlR (X : Cx) (r : V → Option Int → Option Int → Hp → VK → Prop) : Prop :=
  ∀ (pins : List (Addr × Obj)) (s : Shared) (σ : St) (H : Hp) (x : V) (v vl vu : Value) (lo hi : Option Int) (sl : Addr) (Q : VK), Inv X pins σ H s → RelV x v → s.heap.IsSliceOf sl vl vu .none → IsPart vl lo → IsPart vu hi → r x lo hi H Q →
    ∃ T id, typeLookup (.type T) "__getitem__" = pure (some (.builtin id)) ∧ s.TypeIs v T ∧ wpAny (model X.prog X.w) X.A (getItem v (.ref sl)) (EP X pins σ Q) X.xe s
def tSl (r : V → Option Int → Option Int → Hp → VK → Prop) (te : TE) (tl th : TO) : TE := fun σ H Q => te σ H fun x H1 => tl σ H1 fun l H2 => th σ H2 fun u H3 => r x l u H3 Q
theorem pe_slice {r : V → Option Int → Option Int → Hp → VK → Prop} (hr : SlR X r) (he : PE X e te) (hl : PO X lo tl) (hu : PO X hi th) : PE X (.Subscript e (.Slice lo hi none p2) pos) (tSl r te tl th) := by
  intro pins s σ H Q I h
  refine Subscript_ (thn (he pins s σ H _ I h) fun v s1 ⟨x, H1, I1, r1, q1⟩ => ?_)
  refine wpAny_Slice (thn (hl pins s1 σ H1 _ I1 q1) fun vl s2 ⟨l, H2, I2, pl, q2⟩ => thn (hu pins s2 σ H2 _ I2 q2) fun vu s3 ⟨u, H3, I3, pu, q3⟩ => ?_)
  rw [evalPart_none]
  refine wpAny_pure ?_
  have I4 : Inv X pins σ H3 { s3 with heap := s3.heap.push { cls := .type "slice", data := .fields #[vl, vu, .none] } } := I3.kept (t' := s3.toks) fun b ob q => Heap.get?_push_of_some _ q
  obtain ⟨T, id, hT, ht, hg⟩ := hr pins { s3 with heap := s3.heap.push { cls := .type "slice", data := .fields #[vl, vu, .none] } } σ H3 x v vl vu l u s3.heap.objs.size Q I4 r1 (Heap.IsSliceOf.new ..) pl pu q3
  show wpAny (model X.prog X.w) X.A (subscriptTail e (.Slice lo hi none p2) v (.ref s3.heap.objs.size)) (EP X pins σ Q) X.xe { s3 with heap := s3.heap.push { cls := .type "slice", data := .fields #[vl, vu, .none] } }
  exact tail_any (ops := [.ref s3.heap.objs.size, v]) ht hT hg (by with_unfolding_all rfl)
def cutV (xs : List V) (lo hi : Option Int) : List V := (xs.drop (HT.sIx xs.length 0 lo)).take (HT.sIx xs.length xs.length hi - HT.sIx xs.length 0 lo)
theorem cutV_length (xs : List V) (lo hi : Option Int) : (cutV xs lo hi).length ≤ xs.length := by
  unfold cutV
  rw [List.length_take, List.length_drop]
  omega
end
end L2
namespace L2
open PySem PySem.Spec PyProof.Rows
def ixN (n : Nat) (i : Int) : Option Nat := if 0 ≤ i then (if i < n then some i.toNat else none) else if -(n : Int) ≤ i then some (i + n).toNat else none
def atI {α : Type} (xs : List α) (i : Int) : Option α := (ixN xs.length i).bind fun j => xs[j]?
theorem ixN_seq {n : Nat} {i : Int} {j : Nat} (h : ixN n i = some j) : seqIndex? i n = some j ∧ j < n ∧ -(n : Int) ≤ i ∧ i < n := by
  unfold ixN at h
  by_cases h0 : 0 ≤ i
  · rw [if_pos h0] at h
    by_cases h1 : i < n
    · rw [if_pos h1] at h
      have e : i.toNat = j := Option.some.inj h
      exact ⟨by rw [seqIndex_of h0 h1, e], by omega, by omega, h1⟩
    · rw [if_neg h1] at h; cases h
  · rw [if_neg h0] at h
    by_cases h1 : -(n : Int) ≤ i
    · rw [if_pos h1] at h
      have e : (i + n).toNat = j := Option.some.inj h
      exact ⟨by rw [seqIndex_neg (by omega) h1, e], by omega, h1, by omega⟩
    · rw [if_neg h1] at h; cases h
theorem atI_get {α : Type} {xs : List α} {i : Int} {v : α} (h : atI xs i = some v) : ∃ j, seqIndex? i xs.length = some j ∧ xs[j]? = some v ∧ j < xs.length ∧ -(xs.length : Int) ≤ i ∧ i < xs.length := by
  unfold atI at h
  cases e : ixN xs.length i with
  | none => rw [e] at h; cases h
  | some j =>
    rw [e] at h
    obtain ⟨h1, h2, h3, h4⟩ := ixN_seq e
    exact ⟨j, h1, h, h2, h3, h4⟩
theorem atI_nat {α : Type} {xs : List α} {j : Nat} {v : α} (h : xs[j]? = some v) : atI xs (j : Int) = some v := by
  have hj : j < xs.length := (List.getElem?_eq_some_iff.mp h).1
  have e : ixN xs.length (j : Int) = some j := by
    unfold ixN
    rw [if_pos (by omega), if_pos (by omega)]; simp
  unfold atI; rw [e]; exact h
def PlainIx (b : Expr) : Prop := ∀ o i, subscripted b false o i = operate [o, i] (getItem o i)
def IxR (X : Cx) (r : R2) : Prop :=
  ∀ (value slice : Expr) (pins : List (Addr × Obj)) (s : Shared) (σ : St) (H : Hp) (x y : V) (v u : Value) (Q : VK), Inv X pins σ H s → RelV x v → RelV y u → r x y H Q →
    subscripted slice false v u = operate [v, u] (getItem v u) → wpAny (model X.prog X.w) X.A (subscriptTail value slice v u) (EP X pins σ Q) X.xe s
def MtR (X : Cx) (id : String) (r : V → List V → Hp → VK → Prop) : Prop :=
  ∀ (pins : List (Addr × Obj)) (s : Shared) (σ : St) (H : Hp) (x : V) (xs : List V) (v : Value) (us : List Value) (Q : VK), Inv X pins σ H s → RelV x v → Vals xs us → r x xs H Q →
    wpAny (model X.prog X.w) X.A (call (.builtin id) (v :: us)) (EP X pins σ Q) X.xe s
section
variable {X : Cx} {a b : Expr} {ta tb : TE} {pos : Pos}
theorem pe_ix {r : R2} (hr : IxR X r) (ha : PE X a ta) (hb : PE X b tb) (hs : PlainIx b) : PE X (.Subscript a b pos) (tOp r ta tb) := by
  intro pins s σ H Q I h
  exact Subscript_ (binT ha hb I h fun v u s2 x y H2 I2 rx ry q => hr a b pins s2 σ H2 x y v u Q I2 rx ry q (hs _ _))
def rIxL (K : PySem.W.Frag) : R2 := fun x y H Q => ∃ p xs i v, x = .ref p ∧ y = .int i ∧ SqL K H p xs ∧ atI xs i = some v ∧ Q v H
def rIxT (K : PySem.W.Frag) : R2 := fun x y H Q => ∃ p xs i v, x = .ref p ∧ y = .int i ∧ SqT K H p xs ∧ atI xs i = some v ∧ Q v H
theorem ix_list : IxR X (rIxL X.K) := by
  intro value slice pins s σ H x y v u Q I rx ry h hs
  obtain ⟨p, xs, i, z, rfl, rfl, hq, he, q⟩ := h
  cases rx
  obtain ⟨t, rfl⟩ := ry
  obtain ⟨its, r, pl, hz⟩ := I.list hq
  obtain ⟨j, h1, h2, h3, h4, h5⟩ := atI_get he
  obtain ⟨w, ew, rw'⟩ := r.get h2
  have hl := r.length
  have hn := line63
  have fin : EP X pins σ Q w s := ⟨z, H, I, rw', q⟩
  by_cases h0 : 0 ≤ i
  · have hj : i.toNat = j := by
      rw [seqIndex_of h0 h5] at h1
      exact Option.some.inj h1
    exact item_listR pl.isList h0 (by omega) (by rw [hj]; simpa using ew) fin hs
  · have hj : (i + (its.toArray.size : Int)).toNat = j := by
      rw [seqIndex_neg (by omega) h4] at h1
      rw [List.size_toArray, ← hl]
      exact Option.some.inj h1
    exact subscriptTail_builtinR (x := w) pl.isList.typeIs slot_list_getitem.lookup
      (wpAny_getItem_list_neg (Q := fun r s' => r = w ∧ EP X pins σ Q r s') pl.isList (by omega) (by rw [List.size_toArray] <;> omega) (by omega) (by rw [hj]; simpa using ew) ⟨rfl, fin⟩) hs
theorem ix_tup : IxR X (rIxT X.K) := by
  intro value slice pins s σ H x y v u Q I rx ry h hs
  obtain ⟨p, xs, i, z, rfl, rfl, hq, he, q⟩ := h
  cases rx
  obtain ⟨t, rfl⟩ := ry
  obtain ⟨its, r, pl, hz⟩ := I.tuple hq
  obtain ⟨j, h1, h2, h3, h4, h5⟩ := atI_get he
  obtain ⟨w, ew, rw'⟩ := r.get h2
  have hl := r.length
  have hn := line63
  have fin : EP X pins σ Q w s := ⟨z, H, I, rw', q⟩
  exact subscriptTail_builtinR (x := w) pl.typeIs slot_tuple_getitem.lookup
    (getItem_tuple (j := j) (Q := fun r s' => r = w ∧ EP X pins σ Q r s') pl (by omega) (by omega) (by rw [List.size_toArray, ← hl]; exact h1) (by simpa using ew) ⟨rfl, fin⟩) hs
theorem Inv.lst {pins : List (Addr × Obj)} {σ : St} {H : Hp} {s : Shared} {p : Addr} {xs : List V} (I : Inv X pins σ H s) (h : H p = some (.lst xs)) :
    ∃ (its : List Value) (n : Nat), Vals xs its ∧ s.heap.get? p = some { cls := .type "list", data := .seq its.toArray n } ∧ xs.length ≤ sizeLine := by
  obtain ⟨z, its, n, r, e⟩ := I.hok p _ h
  exact ⟨its, n, r, e, z⟩
theorem slice_bounds (lo hi : Option Int) (n : Nat) : (sliceBounds lo hi none n).1 = ((HT.sIx n 0 lo : Nat) : Int) ∧ (sliceBounds lo hi none n).2.1 = ((HT.sIx n n hi : Nat) : Int) ∧ (sliceBounds lo hi none n).2.2 = 1 := by
  refine ⟨?_, ?_, rfl⟩
  · cases lo with
    | none => simp [sliceBounds, HT.sIx]
    | some i =>
      simp only [sliceBounds, HT.sIx, Option.getD_none, show (1 : Int) > 0 by decide, if_true]
      by_cases h : i < 0
      · simp only [h, if_true] <;> omega
      · simp only [h, if_false] <;> omega
  · cases hi with
    | none => simp [sliceBounds, HT.sIx]
    | some i =>
      simp only [sliceBounds, HT.sIx, Option.getD_none, show (1 : Int) > 0 by decide, if_true]
      by_cases h : i < 0
      · simp only [h, if_true] <;> omega
      · simp only [h, if_false] <;> omega
theorem slicePick_cut (its : List Value) (lo hi : Option Int) : slicePick its.toArray lo hi none = ((its.drop (HT.sIx its.length 0 lo)).take (HT.sIx its.length its.length hi - HT.sIx its.length 0 lo)).toArray := by
  obtain ⟨h1, h2, h3⟩ := slice_bounds lo hi its.toArray.size
  unfold slicePick
  rw [h1, h2, h3]
  simp only [sliceRange_one, pick_run, List.size_toArray] <;> rfl
def rSlL (K : PySem.W.Frag) : V → Option Int → Option Int → Hp → VK → Prop := fun x lo hi H Q => ∃ a xs, x = .ref a ∧ SqL K H a xs ∧ ∀ p, H p = none → Q (.ref p) (upd H p (.lst (cutV xs lo hi)))
theorem sl_list : SlR X (rSlL X.K) := by
  intro pins s σ H x v vl vu lo hi sl Q I rx hs pl pu h
  obtain ⟨a, xs, rfl, hx, q⟩ := h
  cases rx
  obtain ⟨its, r, ht, hz⟩ := I.list hx
  have hlen := r.length
  refine ⟨"list", _, slot_list_getitem.lookup, ht.isList.typeIs, ?_⟩
  refine wpAny_getItem_list_slice ht.isList hs pl pu .none (by simp) ?_ (by rw [List.size_toArray] <;> omega)
  rw [slicePick_cut, ← hlen]
  refine ⟨.ref s.heap.objs.size, _, I.laid (t' := s.toks) (o := .lst (cutV xs lo hi)) (fun b ob q => Heap.get?_push_of_some _ q) (Nat.le_refl _) ?_, rfl, q _ (I.hok.fresh (Nat.le_refl _))⟩
  exact ⟨Nat.le_trans (cutV_length xs lo hi) hz, _, 0, (r.drop (HT.sIx xs.length 0 lo)).take (HT.sIx xs.length xs.length hi - HT.sIx xs.length 0 lo), Heap.get?_push_size _ rfl⟩
def flatV : V → Bool
  | .non => true
  | .bl _ => true
  | .int _ => true
  | .str _ => true
  | _ => false
def eqV : V → V → Bool
  | .non, .non => true
  | .bl a, .bl b => a == b
  | .bl a, .int b => (if a then 1 else 0) == b
  | .int a, .bl b => a == (if b then 1 else 0)
  | .int a, .int b => a == b
  | .str a, .str b => a == b
  | _, _ => false
theorem eqAt_V {A : Around} {s : Shared} {y x : V} {u v : Value} (ry : RelV y u) (rx : RelV x v) (fy : flatV y = true) (fx : flatV x = true) : SeqAt.EqAt A s u v (eqV y x) := by
  cases y with
  | non =>
    cases ry
    cases x with
    | non => cases rx; exact SeqAt.EqAt.same _
    | bl b => cases rx; exact SeqAt.EqAt.none_bool b
    | int b => obtain ⟨t, rfl⟩ := rx; exact SeqAt.EqAt.none_int b t
    | str b => obtain ⟨t, rfl⟩ := rx; exact SeqAt.EqAt.none_str b t
    | _ => exact absurd (show false = true from fx) Bool.false_ne_true
  | bl a =>
    cases ry
    cases x with
    | non => cases rx; exact SeqAt.EqAt.bool_none a
    | bl b => cases rx; exact SeqAt.EqAt.bool_bool a b
    | int b => obtain ⟨t, rfl⟩ := rx; exact SeqAt.EqAt.bool_int a b t
    | str b => obtain ⟨t, rfl⟩ := rx; exact SeqAt.EqAt.bool_str a b t
    | _ => exact absurd (show false = true from fx) Bool.false_ne_true
  | int a =>
    obtain ⟨t', rfl⟩ := ry
    cases x with
    | non => cases rx; exact SeqAt.EqAt.int_none a t'
    | bl b => cases rx; exact SeqAt.EqAt.int_bool a t' b
    | int b => obtain ⟨t, rfl⟩ := rx; exact SeqAt.EqAt.int_int a t' b t
    | str b => obtain ⟨t, rfl⟩ := rx; exact SeqAt.EqAt.int_str a t' b t
    | _ => exact absurd (show false = true from fx) Bool.false_ne_true
  | str a =>
    obtain ⟨t', rfl⟩ := ry
    cases x with
    | non => cases rx; exact SeqAt.EqAt.str_none a t'
    | bl b => cases rx; exact SeqAt.EqAt.str_bool a t' b
    | int b => obtain ⟨t, rfl⟩ := rx; exact SeqAt.EqAt.str_int a t' b t
    | str b => obtain ⟨t, rfl⟩ := rx; exact SeqAt.EqAt.str_str a t' b t
    | _ => exact absurd (show false = true from fx) Bool.false_ne_true
  | _ => exact absurd (show false = true from fy) Bool.false_ne_true
theorem call_list_of : CallR X (.type "list") (fun xs H Q => ∃ p ys, xs = [.ref p] ∧ (SqL X.K H p ys ∨ SqT X.K H p ys) ∧ ∀ l, H l = none → Q (.ref l) (upd H l (.lst ys))) := by
  intro pins s σ H xs us Q I r h
  obtain ⟨p, ys, rfl, hq, q⟩ := h
  obtain ⟨u, rfl, rx⟩ := vals1 r
  cases rx
  have fin : ∀ (its : List Value), Vals ys its → ys.length ≤ sizeLine → ∀ (h' : Heap) (c' : Nat), (∀ b o', s.heap.get? b = some o' → h'.get? b = some o') →
      h'.get? s.heap.objs.size = some { cls := .type "list", dict := none, data := .seq its.toArray c', slots := #[] } → EP X pins σ Q (.ref s.heap.objs.size) { s with heap := h' } := fun its r' hz h' c' kp e =>
    ⟨.ref s.heap.objs.size, _, I.laid (t' := s.toks) kp (Nat.le_refl _) (show ObjOk X.prog X.w _ h' _ (.lst ys) from ⟨hz, its, c', r', e⟩), rfl, q _ (I.hok.fresh (Nat.le_refl _))⟩
  rcases hq with hq | hq
  · obtain ⟨its, r', pl, hz⟩ := I.list hq
    have hlen := r'.length
    obtain ⟨o, ho, hc, n, hd⟩ := pl.isList
    exact call_list_seq p (.inl rfl) ho hc hd (fun h' c' kp e => fin its r' hz h' c' kp e) (by simp only [List.size_toArray] <;> omega)
  · obtain ⟨its, r', pl, hz⟩ := I.tuple hq
    have hlen := r'.length
    obtain ⟨o, ho, hc, n, hd⟩ := pl
    exact call_list_seq p (.inr rfl) ho hc hd (fun h' c' kp e => fin its r' hz h' c' kp e) (by simp only [List.size_toArray] <;> omega)
def tyV (K : PySem.W.Frag) (T : String) (x : V) (H : Hp) : Prop := match x with
  | .str _ => T = "str"
  | .int _ => T = "int"
  | .ref p => (T = "list" ∧ ∃ xs, SqL K H p xs) ∨ (T = "tuple" ∧ ∃ o, K.lookup p = some o ∧ o.cls = .type "tuple" ∧ o.dict = none) ∨
      (T = "dict" ∧ ((∃ kvs, H p = some (.dK kvs)) ∨ ∃ kvs, H p = some (.dT kvs))) ∨ (T = "set" ∧ ∃ S n, H p = some (.set S n))
  | _ => False
theorem tyV_is {pins : List (Addr × Obj)} {σ : St} {H : Hp} {s : Shared} {T : String} {x : V} {v : Value} (I : Inv X pins σ H s) (r : RelV x v) (ty : tyV X.K T x H) :
    s.TypeIs v T ∧ ∀ a, v = .ref a → ∃ ob, s.heap.get? a = some ob ∧ ob.dict = none := by
  cases x with
  | str z =>
    obtain ⟨t, rfl⟩ := r
    cases (show T = "str" from ty)
    exact ⟨typeIs_str s z t, fun _ e => nomatch e⟩
  | int i =>
    obtain ⟨t, rfl⟩ := r
    cases (show T = "int" from ty)
    exact ⟨typeIs_int s i t, fun _ e => nomatch e⟩
  | ref p =>
    cases r
    rcases ty with ⟨rfl, xs, hq⟩ | ⟨rfl, o, hk, hc, hd⟩ | ⟨rfl, hk⟩ | ⟨rfl, S, n, hk⟩
    · obtain ⟨its, _, pl, _⟩ := I.list hq
      refine ⟨pl.isList.typeIs, fun a e => ?_⟩
      cases e
      obtain ⟨o, n, e, c, hd, _⟩ := pl
      exact ⟨o, e, hd⟩
    · refine ⟨⟨o, I.kIn p o hk, hc⟩, fun a e => ?_⟩
      cases e
      exact ⟨o, I.kIn _ o hk, hd⟩
    · have z : ∃ o, s.heap.get? p = some o ∧ o.ExactDict := by
        rcases hk with ⟨kvs, hk⟩ | ⟨kvs, hk⟩
        · obtain ⟨_, _, _, _, o, _, _, e, ex, _⟩ := I.hok p _ hk
          exact ⟨o, e, ex⟩
        · obtain ⟨_, _, _, _, o, _, _, e, ex, _⟩ := I.hok p _ hk
          exact ⟨o, e, ex⟩
      obtain ⟨o, e, ex⟩ := z
      refine ⟨⟨o, e, ex.1⟩, fun a e2 => ?_⟩
      cases e2
      exact ⟨o, e, ex.2.1⟩
    · obtain ⟨o, _, _, _, e, ex, _⟩ := I.hok p _ hk
      refine ⟨⟨o, e, ex.1⟩, fun a e2 => ?_⟩
      cases e2
      exact ⟨o, e, ex.2.1⟩
  | _ => exact False.elim ty
def tBM0 (K : PySem.W.Frag) (T : String) (r : V → List V → Hp → VK → Prop) (to : TE) : TE := fun σ H Q => to σ H fun x H1 => tyV K T x H1 ∧ r x [] H1 Q
def tBM (K : PySem.W.Frag) (T : String) (r : V → List V → Hp → VK → Prop) (to : TE) (t : TA) : TE := fun σ H Q => to σ H fun x H1 => tyV K T x H1 ∧ t σ H1 fun xs H2 => r x xs H2 Q
variable {o e : Expr} {es : List Expr} {to : TE} {t : TA} {name : Str} {apos cpos : Pos} {T id : String} {r : V → List V → Hp → VK → Prop}
theorem pe_bm0 (pa : PlainAttrs T) (slot : Slot T name id) (hty : typeOf (.builtin id) = pure (.type "method_descriptor")) (hm : MtR X id r) (ho : PE X o to)
    (hbase : attributeBase o name X.env (eval o X.env) = eval o X.env := by rfl) (hline : (apos.endLine == cpos.line) = true := by rfl) : PE X (.Call (.Attribute o name apos) [] [] cpos) (tBM0 X.K T r to) := by
  intro pins s σ H Q I h
  refine wpAny_Call_method0_late hbase hline (thn (ho pins s σ H _ I h) fun v s1 ⟨x, H1, I1, r1, ty, q1⟩ => ?_)
  obtain ⟨h1, h2⟩ := tyV_is I1 r1 ty
  exact ⟨T, id, pa, slot, hty, h1, h2, Calls.callWith_builtin rfl (PySem.evalArgs_none (hm pins s1 σ H1 x [] v [] Q I1 r1 .nil q1))⟩
theorem pe_bm (pa : PlainAttrs T) (slot : Slot T name id) (hty : typeOf (.builtin id) = pure (.type "method_descriptor")) (hm : MtR X id r) (ho : PE X o to) (ha : PA X (e :: es) t)
    (hbase : attributeBase o name X.env (eval o X.env) = eval o X.env := by rfl)
    (hfew : ((backTo cpos (starEach (e :: es) X.env)).all (fun x => !x.1) && (backToKw cpos (keywordEach [] X.env)).all (fun x => x.1.isSome)
      && decide ((e :: es).length + ([] : List Keyword).length + (if ([] : List Keyword).isEmpty then 0 else 1) < 30)) = true := by rfl)
    (hline : (apos.endLine == cpos.line) = true := by rfl) (hs : starEach (e :: es) X.env = (false, eval e X.env) :: starEach es X.env := by rfl) (hplain : (backTo cpos (starEach es X.env)).any (·.1) = false := by rfl) :
    PE X (.Call (.Attribute o name apos) (e :: es) [] cpos) (tBM X.K T r to t) := by
  intro pins s σ H Q I h
  refine wpAny_Call_method_late hbase hfew hline rfl (thn (ho pins s σ H _ I h) fun v s1 ⟨x, H1, I1, r1, ty, q1⟩ => ?_)
  obtain ⟨h1, h2⟩ := tyV_is I1 r1 ty
  refine ⟨T, id, pa, slot, hty, h1, h2, ?_⟩
  have hA := ha cpos pins s1 σ H1 _ I1 q1
  rw [hs] at hA ⊢
  refine Calls.callWith_builtin (by show (false || (backTo cpos (starEach es X.env)).any (·.1)) = false; rw [hplain] <;> rfl) (Calls.evalArgs_plain ?_)
  exact thn hA fun us s2 ⟨vs, H2, I2, r2, q2⟩ => hm pins s2 σ H2 x vs v us Q I2 r1 r2 q2
end
end L2
namespace L2
open PySem PySem.Spec PyProof.Rows
def MtM (X : Cx) (id : String) (r : V → List V → Hp → VK → Prop) : Prop :=
  ∀ (pins : List (Addr × Obj)) (s : Shared) (σ : St) (H : Hp) (x : V) (xs : List V) (v : Value) (us : List Value) (Q : VK), Inv X pins σ H s → RelV x v → Vals xs us → r x xs H Q →
    wpAny (model X.prog X.w) X.A (call (.builtin id) (v :: us)) (EP X pins σ Q) X.xe s
theorem Vals.one : ∀ {x : V} {us : List Value}, Vals [x] us → ∃ u, us = [u] ∧ RelV x u
  | _, _, .cons r .nil => ⟨_, rfl, r⟩
theorem Vals.two : ∀ {x y : V} {us : List Value}, Vals [x, y] us → ∃ u v, us = [u, v] ∧ RelV x u ∧ RelV y v
  | _, _, _, .cons r (.cons q .nil) => ⟨_, _, rfl, r, q⟩
theorem Vals.zero : ∀ {us : List Value}, Vals [] us → us = []
  | _, .nil => rfl
theorem Vals.dropLast {xs : List V} {us : List Value} (h : Vals xs us) : Vals xs.dropLast us.dropLast := by
  induction h with
  | nil => exact .nil
  | cons r t ih =>
    cases t with
    | nil => exact .nil
    | cons q t' => exact .cons r ih
theorem erase_last {α : Type} (l : List α) : l.eraseIdx (l.length - 1) = l.dropLast := by
  induction l with
  | nil => rfl
  | cons a r ih =>
    cases r with
    | nil => rfl
    | cons b r =>
      have e : (a :: b :: r).length - 1 = ((b :: r).length - 1) + 1 := by
        have h1 : (a :: b :: r).length = r.length + 2 := rfl
        have h2 : (b :: r).length = r.length + 1 := rfl
        omega
      rw [e, List.eraseIdx_cons_succ, ih]
      all_goals rfl
section
variable {X : Cx} {pins : List (Addr × Obj)} {σ : St} {H : Hp} {s : Shared} {l b : Addr} {xs ys zs : List V}
theorem Inv.lset {its its' : List Value} {n : Nat} {f : Array Value → Array Value} {t' : Nat} (I : Inv X pins σ H s) (hH : H l = some (.lst xs))
    (e : s.heap.get? l = some { cls := .type "list", data := .seq its.toArray n }) (hf : f its.toArray = its'.toArray) (hv : Vals ys its') (hz : ys.length ≤ sizeLine) :
    Inv X pins σ (upd H l (.lst ys)) { s with heap := s.heap.update l (Obj.mapSeq f), toks := t' } := by
  have q := PySem.IsL.update e f
  rw [hf] at q
  refine I.write (x := l) (e := l) (by rw [hH]; exact trivial) (.inl rfl) (fun b' u hb hu => (Heap.get?_update_other s.heap (Obj.mapSeq f) (Ne.symm hb)).trans hu) ⟨_, q⟩ ?_
  exact ⟨hz, its', _, hv, q⟩
theorem Inv.lnew {its : List Value} {t' : Nat} (I : Inv X pins σ H s) (hv : Vals ys its) (hz : ys.length ≤ sizeLine) :
    Inv X pins σ (upd H s.heap.objs.size (.lst ys)) { s with heap := s.heap.push { cls := .type "list", data := .seq its.toArray }, toks := t' } :=
  I.laid (fun _ _ q => Heap.get?_push_of_some _ q) (Nat.le_refl _) ⟨hz, its, 0, hv, Heap.get?_push_size _ rfl⟩
theorem Inv.fresh (I : Inv X pins σ H s) : H s.heap.objs.size = none := I.hok.fresh (Nat.le_refl _)
theorem Inv.lstM (I : Inv X pins σ H s) (hH : H l = some (.lst xs)) : xs.length ≤ sizeLine ∧ ∃ (its : List Value) (n : Nat), Vals xs its ∧ xs.length = its.length ∧ s.heap.get? l = some { cls := .type "list", data := .seq its.toArray n } := by
  obtain ⟨z, its, n, r, e⟩ := I.hok l _ hH
  exact ⟨z, its, n, r, r.length, e⟩
theorem notLongL {n : Nat} (h : n ≤ sizeLine) : Builtin.List.listTooLong n = false := by
  unfold Builtin.List.listTooLong
  exact decide_eq_false (by omega)
end
section
variable {X : Cx}
def rAppend : V → List V → Hp → VK → Prop := fun x vs H Q => ∃ l xs y, x = .ref l ∧ vs = [y] ∧ H l = some (.lst xs) ∧ xs.length < sizeLine ∧ Q .non (upd H l (.lst (xs ++ [y])))
theorem mt_append : MtM X "list.append" rAppend := by
  intro pins s σ H x vs v us Q I rx rv h
  obtain ⟨l, xs, y, rfl, rfl, hH, hz, q⟩ := h
  cases rx
  obtain ⟨u, rfl, ru⟩ := rv.one
  obtain ⟨z, its, n, r, hl, e⟩ := I.lstM hH
  refine call_meets F.slot_list_append ⟨_, e, rfl⟩ F.entry_list_append (F.args_list_append_2 _ _) (PySem.list_append l its.toArray n u (by rw [List.size_toArray]; omega)) ⟨e, ?_⟩
  refine ⟨.non, _, I.lset (its' := its ++ [u]) hH e (by simp) (r.append (.cons ru .nil)) ?_, rfl, q⟩
  rw [List.length_append, List.length_singleton]
  omega
def rExtend : V → List V → Hp → VK → Prop := fun x vs H Q => ∃ l b xs zs, x = .ref l ∧ vs = [.ref b] ∧ H l = some (.lst xs) ∧ H b = some (.lst zs) ∧ xs.length + zs.length ≤ sizeLine ∧ Q .non (upd H l (.lst (xs ++ zs)))
theorem mt_extend : MtM X "list.extend" rExtend := by
  intro pins s σ H x vs v us Q I rx rv h
  obtain ⟨l, b, xs, zs, rfl, rfl, hH, hB, hz, q⟩ := h
  cases rx
  obtain ⟨u, rfl, ru⟩ := rv.one
  cases ru
  obtain ⟨z, its, n, r, hl, e⟩ := I.lstM hH
  obtain ⟨z2, its2, n2, r2, hl2, e2⟩ := I.lstM hB
  have hsz : its.toArray.size + its2.toArray.size ≤ sizeLine := by rw [List.size_toArray, List.size_toArray]; omega
  have hlong : ¬ (!its.toArray.isEmpty && Builtin.List.listTooLong (its.toArray.size + its2.toArray.size)) = true := by
    rw [notLongL hsz, Bool.and_false]
    exact Bool.false_ne_true
  refine call_meets F.slot_list_extend ⟨_, e, rfl⟩ F.entry_list_extend (F.args_list_extend_2 _ _)
    (AutoSeq1.list_extend_list_list_0 l its.toArray n b its2.toArray n2 hlong (by rw [List.size_toArray]; omega) (by omega)) ⟨e, e2, ?_⟩
  refine ⟨.non, _, I.lset (its' := its ++ its2) hH e (by simp) (r.append r2) ?_, rfl, q⟩
  rw [List.length_append]
  omega
def rPop : V → List V → Hp → VK → Prop := fun x vs H Q => ∃ l xs y, x = .ref l ∧ vs = [] ∧ H l = some (.lst xs) ∧ xs[xs.length - 1]? = some y ∧ Q y (upd H l (.lst xs.dropLast))
theorem mt_pop : MtM X "list.pop" rPop := by
  intro pins s σ H x vs v us Q I rx rv h
  obtain ⟨l, xs, y, rfl, rfl, hH, hy, q⟩ := h
  cases rx
  have hus := rv.zero
  subst hus
  obtain ⟨z, its, n, r, hl, e⟩ := I.lstM hH
  obtain ⟨u, hu, ru⟩ := r.get hy
  have hy' : its.toArray[its.toArray.size - 1]? = some u := by
    show its.toArray[its.length - 1]? = some u
    rw [← Array.getElem?_toList, ← hl]
    exact hu
  refine call_meets F.slot_list_pop ⟨_, e, rfl⟩ F.entry_list_pop (F.args_list_pop_1 _) (MeetsSeq.list_pop_last l its.toArray n u hy' (by rw [List.size_toArray]; omega)) ⟨e, ?_⟩
  refine ⟨y, _, I.lset (its' := its.dropLast) hH e ?_ r.dropLast ?_, ru, q⟩
  · show its.toArray.eraseIdxIfInBounds (its.toArray.size - 1) = its.dropLast.toArray
    rw [List.size_toArray, List.eraseIdxIfInBounds_toArray, erase_last]
  · rw [List.length_dropLast]
    omega
def rCat : R2 := fun x y H Q => ∃ l b xs zs, x = .ref l ∧ y = .ref b ∧ H l = some (.lst xs) ∧ H b = some (.lst zs) ∧ xs.length + zs.length ≤ sizeLine ∧ ∀ p, H p = none → Q (.ref p) (upd H p (.lst (xs ++ zs)))
theorem op_cat : OpR X (binaryOp .Add) rCat := by
  intro pins s σ H x y v u Q I rx ry h
  obtain ⟨l, b, xs, zs, rfl, rfl, hH, hB, hz, q⟩ := h
  cases rx
  cases ry
  obtain ⟨z, its, n, r, hl, e⟩ := I.lstM hH
  obtain ⟨z2, its2, n2, r2, hl2, e2⟩ := I.lstM hB
  refine PySem.P.add_list e e2 ?_ (by rw [List.size_toArray, List.size_toArray]; omega)
  have ea : its.toArray ++ its2.toArray = (its ++ its2).toArray := by simp
  rw [ea]
  exact ⟨.ref _, _, I.lnew (t' := s.toks) (r.append r2) (by rw [List.length_append]; omega), rfl, q _ I.fresh⟩
end
section
variable {prog : Program} {w : World} {A : Around} {E : Value → Shared → Prop} {s : Shared}
end
section
variable {X : Cx}
end
end L2
namespace L2
open PySem PySem.Spec PyProof.Rows
section
variable {κ : Type} [DecidableEq κ]
def valV (kvs : List (κ × V)) (k : κ) : Option V := (kvs.find? fun kv => decide (kv.1 = k)).map (·.2)
def putK (kvs : List (κ × V)) (k : κ) (v : V) : List (κ × V) :=
  if (kvs.any fun kv => decide (kv.1 = k)) = true then kvs.map (fun kv => if kv.1 = k then (kv.1, v) else kv) else kvs ++ [(k, v)]
def dropK (kvs : List (κ × V)) (k : κ) : List (κ × V) := kvs.filter fun kv => decide (kv.1 ≠ k)
theorem valV_pos {p : κ × V} {r : List (κ × V)} {k : κ} (e : p.1 = k) : valV (p :: r) k = some p.2 := by simp [valV, List.find?_cons, e]
theorem valV_neg {p : κ × V} {r : List (κ × V)} {k : κ} (e : ¬ p.1 = k) : valV (p :: r) k = valV r k := by simp [valV, List.find?_cons, e]
theorem valV_any (k : κ) : ∀ kvs : List (κ × V), (kvs.any fun kv => decide (kv.1 = k)) = (valV kvs k).isSome
  | [] => rfl
  | p :: r => by
    rw [List.any_cons]
    by_cases e : p.1 = k
    · simp only [valV_pos e, decide_eq_true e, Bool.true_or, Option.isSome_some]
    · rw [valV_neg e, decide_eq_false e, Bool.false_or]; exact valV_any k r
theorem valV_map (k j : κ) (y : V) : ∀ kvs : List (κ × V), valV (kvs.map fun kv => if kv.1 = k then (kv.1, y) else kv) j = (valV kvs j).map fun x => if j = k then y else x
  | [] => rfl
  | p :: r => by
    have ih := valV_map k j y r
    rw [List.map_cons]
    by_cases h : p.1 = k
    · rw [if_pos h]
      by_cases e : p.1 = j
      · rw [valV_pos (p := (p.1, y)) e, valV_pos e, Option.map_some, if_pos (e.symm.trans h)]
      · rw [valV_neg (p := (p.1, y)) e, valV_neg e, ih]
    · rw [if_neg h]
      by_cases e : p.1 = j
      · rw [valV_pos (p := p) e, valV_pos e, Option.map_some, if_neg (fun z => h (e.trans z))]
      · rw [valV_neg (p := p) e, valV_neg e, ih]
theorem valV_snoc (k j : κ) (y : V) : ∀ kvs : List (κ × V), valV kvs k = none → valV (kvs ++ [(k, y)]) j = if j = k then some y else valV kvs j
  | [], _ => by
    by_cases e : k = j
    · rw [if_pos e.symm]; exact valV_pos (p := (k, y)) e
    · rw [if_neg (fun z => e z.symm)]; exact valV_neg (p := (k, y)) e
  | p :: r, hn => by
    rw [List.cons_append]
    have hk : ¬ p.1 = k := fun z => by rw [valV_pos z] at hn; cases hn
    rw [valV_neg hk] at hn
    have ih := valV_snoc k j y r hn
    by_cases e : p.1 = j
    · rw [valV_pos e, valV_pos e, if_neg (fun z => hk (e.trans z))]
    · rw [valV_neg e, valV_neg e, ih]
theorem valV_put (kvs : List (κ × V)) (k j : κ) (y : V) : valV (putK kvs k y) j = if j = k then some y else valV kvs j := by
  unfold putK
  by_cases a : (kvs.any fun kv => decide (kv.1 = k)) = true
  · rw [if_pos a, valV_map]
    rw [valV_any] at a
    by_cases e : j = k
    · obtain ⟨x, hx⟩ := Option.isSome_iff_exists.mp a
      rw [if_pos e, e, hx, Option.map_some, if_pos rfl]
    · rw [if_neg e]
      cases valV kvs j with
      | none => rfl
      | some x => rw [Option.map_some, if_neg e]
  · rw [if_neg a]
    refine valV_snoc k j y kvs ?_
    rw [valV_any] at a
    cases q : valV kvs k with
    | none => rfl
    | some x => rw [q] at a; exact (a rfl).elim
theorem length_putK (kvs : List (κ × V)) (k : κ) (v : V) : (putK kvs k v).length ≤ kvs.length + 1 := by
  unfold putK
  split
  · rw [List.length_map]; omega
  · rw [List.length_append, List.length_cons, List.length_nil]; omega
theorem putK_new {kvs : List (κ × V)} {k : κ} (v : V) (h : valV kvs k = none) : putK kvs k v = kvs ++ [(k, v)] := by
  unfold putK
  rw [valV_any, h]
  exact if_neg (by decide)
theorem RelO.isSome_eq {o : Option V} {u : Option Value} (r : RelO o u) : o.isSome = u.isSome := by
  cases o with
  | none => cases u with
    | none => rfl
    | some _ => exact (show False from r).elim
  | some _ => cases u with
    | none => exact (show False from r).elim
    | some _ => rfl
theorem KV.val {kvs : List (κ × V)} {vs : List (κ × Value)} (r : KV kvs vs) (k : κ) : RelO (valV kvs k) (valueAt vs k) := by
  unfold KV at r
  induction r with
  | nil => exact True.intro
  | @cons p q ps qs h t ih =>
    obtain ⟨h1, h2⟩ := h
    by_cases e : p.1 = k
    · have e' : q.1 = k := h1.symm.trans e
      have b : valueAt (q :: qs) k = some q.2 := by simp [valueAt, List.find?_cons, e']
      rw [valV_pos e, b]; exact h2
    · have e' : ¬ q.1 = k := fun z => e (h1.trans z)
      have b : valueAt (q :: qs) k = valueAt qs k := by simp [valueAt, List.find?_cons, e']
      rw [valV_neg e, b]; exact ih
theorem KV.any {kvs : List (κ × V)} {vs : List (κ × Value)} (r : KV kvs vs) (k : κ) : (kvs.any fun kv => decide (kv.1 = k)) = vs.any fun kv => decide (kv.1 = k) := by
  unfold KV at r
  induction r with
  | nil => rfl
  | cons h t ih => rw [List.any_cons, List.any_cons, ih, h.1]
theorem KV.repl {kvs : List (κ × V)} {vs : List (κ × Value)} (r : KV kvs vs) (k : κ) {y : V} {u : Value} (ry : RelV y u) :
    KV (kvs.map fun kv => if kv.1 = k then (kv.1, y) else kv) (vs.map fun kv => if kv.1 = k then (kv.1, u) else kv) := by
  unfold KV at r ⊢
  induction r with
  | nil => exact .nil
  | @cons p q ps qs h t ih =>
    rw [List.map_cons, List.map_cons]
    refine .cons ?_ ih
    obtain ⟨h1, h2⟩ := h
    by_cases e : p.1 = k
    · rw [if_pos e, if_pos (h1.symm.trans e)]; exact ⟨h1, ry⟩
    · rw [if_neg e, if_neg (fun z => e (h1.trans z))]; exact ⟨h1, h2⟩
theorem KV.put {kvs : List (κ × V)} {vs : List (κ × Value)} (r : KV kvs vs) (k : κ) {y : V} {u : Value} (ry : RelV y u) : KV (putK kvs k y) (stored vs k u) := by
  unfold putK stored
  rw [r.any k]
  by_cases e : (vs.any fun kv => decide (kv.1 = k)) = true
  · rw [if_pos e, if_pos e]; exact r.repl k ry
  · rw [if_neg e, if_neg e]; exact Paired.snoc r ⟨rfl, ry⟩
theorem KV.drop {kvs : List (κ × V)} {vs : List (κ × Value)} (r : KV kvs vs) (k : κ) : KV (dropK kvs k) (without vs k) := by
  unfold KV at r ⊢
  unfold dropK without
  induction r with
  | nil => exact .nil
  | @cons p q ps qs h t ih =>
    obtain ⟨h1, h2⟩ := h
    rw [List.filter_cons, List.filter_cons]
    by_cases e : p.1 = k
    · have a : ¬ decide (p.1 ≠ k) = true := by simp [e]
      have b : ¬ decide (q.1 ≠ k) = true := by simp [h1.symm.trans e]
      rw [if_neg a, if_neg b]; exact ih
    · have e' : ¬ q.1 = k := fun z => e (h1.trans z)
      have a : decide (p.1 ≠ k) = true := by simp [e]
      have b : decide (q.1 ≠ k) = true := by simp [e']
      rw [if_pos a, if_pos b]; exact .cons ⟨h1, h2⟩ ih
theorem KV.keys {kvs : List (κ × V)} {vs : List (κ × Value)} (r : KV kvs vs) : kvs.map (·.1) = vs.map (·.1) := by
  unfold KV at r
  induction r with
  | nil => rfl
  | cons h t ih => rw [List.map_cons, List.map_cons, ih, h.1]
theorem KV.length {kvs : List (κ × V)} {vs : List (κ × Value)} (r : KV kvs vs) : kvs.length = vs.length := Paired.length r
theorem dropK_le (kvs : List (κ × V)) (k : κ) : (dropK kvs k).length ≤ kvs.length := List.length_filter_le _ _
end
theorem kV_is {P : Program} {w : World} {k : Key} {u : Value} (r : RelV (kV k) u) : (mixKind P w).is k u = true := by
  cases k with
  | inl i => obtain ⟨t, e⟩ := (show ∃ t, u = Value.int i t from r); subst e; exact mixKind_int P w i t
  | inr x => obtain ⟨t, e⟩ := (show ∃ t, u = Value.str x t from r); subst e; exact mixKind_str P w x t
theorem items_are {P : Program} {w : World} : ∀ {ks : List Key} {us : List Value}, Vals (ks.map kV) us → ItemsAre (mixKind P w) ks us
  | [], _, r => by rw [List.map_nil] at r; cases r; exact .nil
  | k :: ks, _, r => by
    rw [List.map_cons] at r
    cases r with
    | cons h t => exact .cons (kV_is h) (items_are t)
abbrev KT (H : Hp) : List (List Key × V) → List (List Key × Addr × Value) → Prop := Paired fun p q => p.1 = q.1 ∧ H q.2.1 = some (.tup (p.1.map kV)) ∧ RelV p.2 q.2.2
theorem KT.val {H : Hp} {kvs : List (List Key × V)} {xs : List (List Key × Addr × Value)} (r : KT H kvs xs) (k : List Key) : RelO (valV kvs k) ((atKey xs k).map (·.2)) := by
  induction r with
  | nil => exact True.intro
  | @cons p q ps qs h t ih =>
    obtain ⟨h1, _, h2⟩ := h
    by_cases e : p.1 = k
    · have e' : q.1 = k := h1.symm.trans e
      have b : atKey (q :: qs) k = some q.2 := by simp [atKey, List.find?_cons, e']
      rw [valV_pos e, b]; exact h2
    · have e' : ¬ q.1 = k := fun z => e (h1.trans z)
      have b : atKey (q :: qs) k = atKey qs k := by simp [atKey, List.find?_cons, e']
      rw [valV_neg e, b]; exact ih
theorem KT.repl {H : Hp} {kvs : List (List Key × V)} {xs : List (List Key × Addr × Value)} (r : KT H kvs xs) (k : List Key) {y : V} {u : Value} (ry : RelV y u) :
    KT H (kvs.map fun kv => if kv.1 = k then (kv.1, y) else kv) (xs.map (putAt k u)) := by
  induction r with
  | nil => exact .nil
  | @cons p q ps qs h t ih =>
    rw [List.map_cons, List.map_cons]
    refine .cons ?_ ih
    obtain ⟨h1, h2, h3⟩ := h
    unfold putAt
    by_cases e : p.1 = k
    · rw [if_pos e, if_pos (h1.symm.trans e)]; exact ⟨h1, h2, ry⟩
    · rw [if_neg e, if_neg (fun z => e (h1.trans z))]; exact ⟨h1, h2, h3⟩
theorem KT.put {H : Hp} {kvs : List (List Key × V)} {xs : List (List Key × Addr × Value)} (r : KT H kvs xs) (k : List Key) {b : Addr} {y : V} {u : Value} (hb : H b = some (.tup (k.map kV))) (ry : RelV y u) :
    KT H (putK kvs k y) (storedH xs k b u) := by
  have e : (kvs.any fun kv => decide (kv.1 = k)) = (atKey xs k).isSome := by
    rw [valV_any, (r.val k).isSome_eq, Option.isSome_map]
  unfold putK storedH
  rw [e]
  by_cases q : (atKey xs k).isSome = true
  · rw [if_pos q, if_pos q]; exact r.repl k ry
  · rw [if_neg q, if_neg q]; exact Paired.snoc r ⟨rfl, hb, ry⟩
theorem KT.keeps {H H' : Hp} {kvs : List (List Key × V)} {xs : List (List Key × Addr × Value)} (r : KT H kvs xs) (ht : ∀ b ys, H b = some (.tup ys) → H' b = some (.tup ys)) : KT H' kvs xs :=
  Paired.mapP r fun _ _ z => ⟨z.1, ht _ _ z.2.1, z.2.2⟩
section
variable {P : Program} {w : World} {H : Hp} {h : Heap} {a : Addr}
theorem rd_of {u : HO} (ok : HOk P w H h) (e : Rd H a u) : ObjOk P w H h a u := e.ok ok
theorem dk_rd {kvs : List (Key × V)} (ok : HOk P w H h) (e : Rd H a (.dK kvs)) : kvs.length ≤ sizeLine ∧ (a == sysModules) = false ∧ ∃ vs, KV kvs vs ∧ h.DictOf (mixKind P w) a vs :=
  show ObjOk P w H h a (.dK kvs) from rd_of ok e
theorem dk_of {kvs : List (Key × V)} (ok : HOk P w H h) (e : H a = some (.dK kvs)) : kvs.length ≤ sizeLine ∧ (a == sysModules) = false ∧ ∃ vs, KV kvs vs ∧ h.DictOf (mixKind P w) a vs := dk_rd ok (.inl e)
theorem key_of {ks : List Key} (ok : HOk P w H h) (e : H a = some (.tup (ks.map kV))) : (tupleKind (mixKind P w)).is h ks a := by
  obtain ⟨_, its, r, o, h1, h2, n, h3⟩ := (show ObjOk P w H h a (.tup (ks.map kV)) from ok a _ e)
  exact ⟨o, its.toArray, n, h1, h2, h3, by simpa using items_are r⟩
theorem dt_rd {kvs : List (List Key × V)} (ok : HOk P w H h) (e : Rd H a (.dT kvs)) : kvs.length ≤ sizeLine ∧ (a == sysModules) = false ∧
    ∃ xs, KT H kvs xs ∧ h.DictOfH (tupleKind (mixKind P w)) a xs := by
  obtain ⟨z, y, xs, r, o, es, ep, h1, h2, h3, h4, h5⟩ := (show ObjOk P w H h a (.dT kvs) from rd_of ok e)
  refine ⟨z, y, xs, r, o, es, ep, h1, h2, h3, h4, fun x hx => ?_, h5⟩
  have all : ∀ {l : List (List Key × V)} {m : List (List Key × Addr × Value)}, KT H l m → ∀ x ∈ m, (tupleKind (mixKind P w)).is h x.1 x.2.1 := by
    intro l m q
    induction q with
    | nil => intro x hx; exact nomatch hx
    | @cons p q ps qs hq t ih =>
      intro x hx
      rcases List.mem_cons.mp hx with e | hx
      · subst e
        exact key_of ok (by rw [← hq.1]; exact hq.2.1)
      · exact ih x hx
  exact all r x hx
theorem dt_of {kvs : List (List Key × V)} (ok : HOk P w H h) (e : H a = some (.dT kvs)) : kvs.length ≤ sizeLine ∧ (a == sysModules) = false ∧
    ∃ xs, KT H kvs xs ∧ h.DictOfH (tupleKind (mixKind P w)) a xs := dt_rd ok (.inl e)
end
def DGet (H : Hp) (a : Addr) (y : V) (r : Option V) : Prop :=
  (∃ kvs k, Rd H a (.dK kvs) ∧ y = kV k ∧ r = valV kvs k) ∨ ∃ kvs k b, Rd H a (.dT kvs) ∧ y = .ref b ∧ H b = some (.tup (k.map kV)) ∧ r = valV kvs k
def DPut (H : Hp) (a : Addr) (y v : V) (H' : Hp) : Prop :=
  (∃ kvs k, H a = some (.dK kvs) ∧ y = kV k ∧ kvs.length < sizeLine ∧ H' = upd H a (.dK (putK kvs k v))) ∨
  ∃ kvs k b, H a = some (.dT kvs) ∧ y = .ref b ∧ H b = some (.tup (k.map kV)) ∧ kvs.length < sizeLine ∧ H' = upd H a (.dT (putK kvs k v))
theorem DGet.k {H : Hp} {a : Addr} {kvs : List (Key × V)} {k : Key} (e : H a = some (.dK kvs)) : DGet H a (kV k) (valV kvs k) := .inl ⟨kvs, k, .inl e, rfl, rfl⟩
theorem DGet.t {H : Hp} {a b : Addr} {kvs : List (List Key × V)} {k : List Key} (e : H a = some (.dT kvs)) (eb : H b = some (.tup (k.map kV))) : DGet H a (.ref b) (valV kvs k) := .inr ⟨kvs, k, b, .inl e, rfl, eb, rfl⟩
theorem DPut.k {H : Hp} {a : Addr} {kvs : List (Key × V)} {k : Key} {v : V} (e : H a = some (.dK kvs)) (hl : kvs.length < sizeLine) : DPut H a (kV k) v (upd H a (.dK (putK kvs k v))) := .inl ⟨kvs, k, e, rfl, hl, rfl⟩
theorem DPut.t {H : Hp} {a b : Addr} {kvs : List (List Key × V)} {k : List Key} {v : V} (e : H a = some (.dT kvs)) (eb : H b = some (.tup (k.map kV))) (hl : kvs.length < sizeLine) :
    DPut H a (.ref b) v (upd H a (.dT (putK kvs k v))) := .inr ⟨kvs, k, b, e, rfl, eb, hl, rfl⟩
section
variable {X : Cx} {pins : List (Addr × Obj)} {σ : St} {H : Hp} {s : Shared} {a : Addr} {y v : V} {u r : Value} {o : Option V} {A : Around} {E : Value → Shared → Prop}
theorem Inv.big (I : Inv X pins σ H s) : sysModules < s.heap.objs.size := by
  have h : mainGlobals < s.heap.objs.size := (I.mod.glob.keeps I.bk).lt
  exact Nat.lt_trans (by decide) h
theorem d_getItem {Q : Value → Shared → Prop} (hu : A.units + 1 < cLine) (I : Inv X pins σ H s) (g : DGet H a y (some v)) (ry : RelV y u) (h : ∀ w' s', Inv X pins σ H s' → RelV v w' → Q w' s') :
    wpAny (model X.prog X.w) A (getItem (.ref a) u) Q E s := by
  rcases g with ⟨kvs, k, e, ey, l⟩ | ⟨kvs, k, b, e, ey, eb, l⟩
  · subst ey
    obtain ⟨z, hd, vs, rel, dd⟩ := dk_rd I.hok e
    obtain ⟨w', hw, rw'⟩ := RelO.some_of (v := v) (o := valueAt vs k) (by rw [l]; exact rel.val k)
    exact wpAny_getItem_of (kV_is ry) dd.mapOf hw (h w' _ (I.tok _) rw')
  · subst ey
    cases (show u = Value.ref b from ry)
    obtain ⟨z, hd, xs, rel, dd⟩ := dt_rd I.hok e
    obtain ⟨w', hw, rw'⟩ := RelO.some_of (v := v) (o := (atKey xs k).map (·.2)) (by rw [l]; exact rel.val k)
    obtain ⟨p, hp, hp2⟩ := Option.map_eq_some_iff.mp hw
    refine wpAny_getItem_heap (tupleKind_room_in1 hu) (key_of I.hok eb) dd hp ?_
    rw [hp2]
    exact h w' _ (I.tok _) rw'
theorem d_in {Q : Value → Shared → Prop} (hu : A.units + 1 < cLine) (I : Inv X pins σ H s) (g : DGet H a y o) (ry : RelV y u) (h : ∀ s', Inv X pins σ H s' → Q (.bool o.isSome) s') :
    wpAny (model X.prog X.w) A (compareOp .In u (.ref a)) Q E s := by
  rcases g with ⟨kvs, k, e, ey, l⟩ | ⟨kvs, k, b, e, ey, eb, l⟩
  · subst ey
    obtain ⟨z, hd, vs, rel, dd⟩ := dk_rd I.hok e
    refine wpAny_in_of (kV_is ry) hd dd.mapOf ?_
    rw [← (rel.val k).isSome_eq, ← l]
    exact h _ (I.tok _)
  · subst ey
    cases (show u = Value.ref b from ry)
    obtain ⟨z, hd, xs, rel, dd⟩ := dt_rd I.hok e
    refine wpAny_in_heap (tupleKind_room_in1 hu) (key_of I.hok eb) hd dd ?_
    have q := (rel.val k).isSome_eq
    rw [Option.isSome_map] at q
    rw [← q, ← l]
    exact h _ (I.tok _)
theorem d_notIn {Q : Value → Shared → Prop} (hu : A.units + 1 < cLine) (I : Inv X pins σ H s) (g : DGet H a y o) (ry : RelV y u) (h : ∀ s', Inv X pins σ H s' → Q (.bool (!o.isSome)) s') :
    wpAny (model X.prog X.w) A (compareOp .NotIn u (.ref a)) Q E s := by
  rcases g with ⟨kvs, k, e, ey, l⟩ | ⟨kvs, k, b, e, ey, eb, l⟩
  · subst ey
    obtain ⟨z, hd, vs, rel, dd⟩ := dk_rd I.hok e
    refine wpAny_notIn_of (kV_is ry) hd dd.mapOf ?_
    rw [← (rel.val k).isSome_eq, ← l]
    exact h _ (I.tok _)
  · subst ey
    cases (show u = Value.ref b from ry)
    obtain ⟨z, hd, xs, rel, dd⟩ := dt_rd I.hok e
    refine wpAny_notIn_heap (tupleKind_room_in1 hu) (key_of I.hok eb) hd dd ?_
    have q := (rel.val k).isSome_eq
    rw [Option.isSome_map] at q
    rw [← q, ← l]
    exact h _ (I.tok _)
theorem d_write {h' : Heap} {t' : Nat} {ob : HO} (I : Inv X pins σ H s) (mu : Mut (H a)) (hs : Heap.SameBut a s.heap h') (he : ∃ q, h'.get? a = some q) (new : ObjOk X.prog X.w (upd H a ob) h' a ob) :
    Inv X pins σ (upd H a ob) { s with heap := h', toks := t' } :=
  I.write (x := a) (e := a) mu (.inl rfl) (fun b q hb z => (hs.2 b hb).trans z) he new
theorem dk_new {P : Program} {w : World} {H' : Hp} {h' : Heap} {kvs : List (Key × V)} {vs : List (Key × Value)} (z : kvs.length ≤ sizeLine) (hd : (a == sysModules) = false) (rel : KV kvs vs) (dd : h'.DictOf (mixKind P w) a vs) :
    ObjOk P w H' h' a (.dK kvs) := ⟨z, hd, vs, rel, dd⟩
theorem d_setItem {H' : Hp} {Q : Unit → Shared → Prop} (hu : A.units + 1 < cLine) (I : Inv X pins σ H s) (g : DPut H a y v H') (ry : RelV y u) (rv : RelV v r) (h : ∀ s', Inv X pins σ H' s' → Q () s') :
    wpAny (model X.prog X.w) A (setItem (.ref a) u r) Q E s := by
  rcases g with ⟨kvs, k, e, ey, l, eH⟩ | ⟨kvs, k, b, e, ey, eb, l, eH⟩
  · subst ey eH
    obtain ⟨z, hd, vs, rel, dd⟩ := dk_of I.hok e
    have hz : vs.length ≤ sizeLine := by rw [← rel.length]; exact z
    have hl : (putK kvs k v).length ≤ sizeLine := by have := length_putK kvs k v; omega
    refine wpAny_setItem_pairs (hsz := hz) (kV_is ry) dd fun h' dd' hs => h _ ?_
    have he : ∃ q, h'.get? a = some q := let ⟨q, _, _, hq, _⟩ := dd'; ⟨q, hq⟩
    exact d_write I (by rw [e]; exact True.intro) hs he (dk_new hl hd (rel.put k rv) dd')
  · subst ey eH
    cases (show u = Value.ref b from ry)
    obtain ⟨z, hd, xs, rel, dd⟩ := dt_of I.hok e
    have hz : xs.length ≤ sizeLine := by rw [← Paired.length rel]; exact z
    have hl : (putK kvs k v).length ≤ sizeLine := by have := length_putK kvs k v; omega
    refine wpAny_setItem_heap (hsz := hz) (tupleKind_room_in1 hu) (key_of I.hok eb) dd fun h' dd' hs => h _ ?_
    obtain ⟨q, es, ep, hq, h2, h3, h4, _, h5⟩ := dd'
    refine d_write I (by rw [e]; exact True.intro) hs ⟨q, hq⟩ ⟨hl, hd, _, (rel.put k eb rv).keeps fun c ys ec => ?_, q, es, ep, hq, h2, h3, h4, h5⟩
    rw [upd_ne (ne_of ec e (fun z => nomatch z))]
    exact ec
end
section
variable {X : Cx} {pins : List (Addr × Obj)} {σ : St} {H : Hp} {s : Shared} {a : Addr} {kvs : List (Key × V)} {k : Key} {u : Value} {A : Around} {E : Value → Shared → Prop}
theorem d_delItem {Q : Unit → Shared → Prop} (I : Inv X pins σ H s) (e : H a = some (.dK kvs)) (ry : RelV (kV k) u) (l : (valV kvs k).isSome = true) (h : ∀ s', Inv X pins σ (upd H a (.dK (dropK kvs k))) s' → Q () s') :
    wpAny (model X.prog X.w) A (delItem (.ref a) u) Q E s := by
  obtain ⟨z, hd, vs, rel, dd⟩ := dk_of I.hok e
  refine wpAny_delItem_slot dd.typeIs (by decide) PySem.F.slot_dict_delitem
    (call_meetsIn PySem.F.slot_dict_delitem dd.typeIs PySem.F.entry_dict_delitem (PySem.F.args_dict_delitem_2 _ _) (meets_dict_delitem_pairs (mixKind X.prog X.w) a (kV_is ry)) ⟨vs, dd, by rw [← rel.length]; exact z, by rw [← (rel.val k).isSome_eq]; exact l, fun h' dd' hs => h _ ?_⟩)
  have he : ∃ q, h'.get? a = some q := let ⟨q, _, _, hq, _⟩ := dd'; ⟨q, hq⟩
  exact d_write I (by rw [e]; exact True.intro) hs he (dk_new (Nat.le_trans (dropK_le kvs k) z) hd (rel.drop k) dd')
theorem d_pop {v : V} {more : List Value} {Q : Value → Shared → Prop} (I : Inv X pins σ H s) (e : H a = some (.dK kvs)) (ry : RelV (kV k) u) (l : valV kvs k = some v) (hm : more = [] ∨ ∃ x, more = [x])
    (h : ∀ w' s', Inv X pins σ (upd H a (.dK (dropK kvs k))) s' → RelV v w' → Q w' s') : wpAny (model X.prog X.w) A (call (.builtin "dict.pop") (.ref a :: u :: more)) Q E s := by
  obtain ⟨z, hd, vs, rel, dd⟩ := dk_of I.hok e
  obtain ⟨w', hw, rw'⟩ := RelO.some_of (v := v) (o := valueAt vs k) (by rw [← l]; exact rel.val k)
  have hp : (keyPart u).isSome = true := by
    cases k with
    | inl i => obtain ⟨t, q⟩ := (show ∃ t, u = Value.int i t from ry); subst q; rfl
    | inr x => obtain ⟨t, q⟩ := (show ∃ t, u = Value.str x t from ry); subst q; rfl
  have ha : argsOk "dict.pop" ⟨.ref a :: u :: more, []⟩ := by
    rcases hm with q | ⟨x, q⟩
    · subst q; exact PySem.F.args_dict_pop_2 _ _
    · subst q; exact PySem.F.args_dict_pop_3 _ _ _
  refine call_meetsIn PySem.F.slot_dict_pop dd.typeIs PySem.F.entry_dict_pop ha (meets_dict_pop_there (mixKind X.prog X.w) a (kV_is ry) more hm hp)
    ⟨vs, w', dd, by rw [← rel.length]; exact z, hw, fun h' dd' hs => h w' _ ?_ rw'⟩
  have he : ∃ q, h'.get? a = some q := let ⟨q, _, _, hq, _⟩ := dd'; ⟨q, hq⟩
  exact d_write I (by rw [e]; exact True.intro) hs he (dk_new (Nat.le_trans (dropK_le kvs k) z) hd (rel.drop k) dd')
theorem d_len {Q : Value → Shared → Prop} (I : Inv X pins σ H s) (e : Rd H a (.dK kvs)) (h : ∀ t s', Inv X pins σ H s' → Q (.int kvs.length t) s') : wpAny (model X.prog X.w) A (call (.builtin "len") [.ref a]) Q E s := by
  obtain ⟨z, hd, vs, rel, dd⟩ := dk_rd I.hok e
  refine call_len_dict hd dd (by rw [← rel.length]; rw [sizeLine_eq] at z; omega) ?_
  rw [← rel.length]
  exact h _ _ (I.tok _)
end
def NoSl (i : Expr) : Prop := ∀ ov iv, subscripted i false ov iv = operate [ov, iv] (getItem ov iv)
theorem subD_of {prog : Program} {w : World} {A : Around} {E : Value → Shared → Prop} {s : Shared} {env : Env} {value slice : Expr} {pos : Pos} {T id : String} {Q : Value → Shared → Prop}
    (hl : typeLookup (.type T) "__getitem__" = pure (some (.builtin id))) (hs : NoSl slice)
    (h : wpAny (model prog w) A (eval value env) (fun o s₁ => wpAny (model prog w) A (eval slice env) (fun i s₂ => s₂.TypeIs o T ∧ wpAny (model prog w) A (getItem o i) Q E s₂) E s₁) E s) :
    wpAny (model prog w) A (eval (.Subscript value slice pos) env) Q E s := by
  refine Subscript_ (wpAny_mono h (fun o s₁ h₁ => wpAny_mono h₁ (fun i s₂ h₂ => ?_) fun _ _ x => x) fun _ _ x => x)
  obtain ⟨hT, h₂⟩ := h₂
  unfold subscriptTail
  refine wpAny_bind ?_
  rw [getitemInPython_of_ne hT.not_modules]
  refine wpAny_bind (wpAny_specialOf hT hl ?_)
  have fin : wpAny (model prog w) A (subscripted slice false o i) (fun r s₃ => wpAny (model prog w) A (letTemporaryGo value o r >>= fun _ => pure r) Q E s₃) E s₂ := by
    rw [hs o i]
    exact wpAny_operating (wpAny_mono h₂ (fun r s₃ h₃ => wpAny_bind (wpAny_letTemporaryGo (wpAny_pure h₃))) fun _ _ x => x)
  first
    | exact wpAny_pure (wpAny_bind fin)
    | exact wpAny_bind (wpAny_pure (wpAny_bind fin))
    | exact wpAny_bind fin
theorem dict_typeIs {X : Cx} {pins : List (Addr × Obj)} {σ : St} {H : Hp} {s : Shared} {a : Addr} {y : V} {o : Option V} (I : Inv X pins σ H s) (g : DGet H a y o) : s.TypeIs (.ref a) "dict" := by
  rcases g with ⟨kvs, k, e, _, _⟩ | ⟨kvs, k, b, e, _, _, _⟩
  · obtain ⟨_, _, vs, _, dd⟩ := dk_rd I.hok e
    exact dd.typeIs
  · obtain ⟨_, _, xs, _, dd⟩ := dt_rd I.hok e
    exact dd.typeIs
def tDGet (td ty : TE) : TE := fun σ H Q => td σ H fun x H1 => ty σ H1 fun y H2 => ∃ a v, x = .ref a ∧ DGet H2 a y (some v) ∧ Q v H2
def tDIn (ty td : TE) : TE := fun σ H Q => ty σ H fun y H1 => td σ H1 fun x H2 => ∃ a o, x = .ref a ∧ DGet H2 a y o ∧ Q (.bl o.isSome) H2
def tDNotIn (ty td : TE) : TE := fun σ H Q => ty σ H fun y H1 => td σ H1 fun x H2 => ∃ a o, x = .ref a ∧ DGet H2 a y o ∧ Q (.bl (!o.isSome)) H2
def sDPut (td ty tv : TE) : TS := fun D σ H => tv σ H fun v H1 => td σ H1 fun x H2 => ty σ H2 fun y H3 => ∃ a H4, x = .ref a ∧ DPut H3 a y v H4 ∧ D.nx σ H4
section
variable {X : Cx} {o i e value : Expr} {pos pos' tpos : Pos} {td ty tv : TE}
theorem pe_dget (hu : X.A.units + 1 < cLine) (ho : PE X o td) (hi : PE X i ty) (hs : NoSl i) : PE X (.Subscript o i pos) (tDGet td ty) := by
  intro pins s σ H Q I h
  refine subD_of PySem.F.slot_dict_getitem.lookup hs (thn (ho pins s σ H _ I h) fun u s1 ⟨x, H1, I1, rx, q1⟩ => thn (hi pins s1 σ H1 _ I1 q1) fun iv s2 ⟨y, H2, I2, ry, a, v, ex, g, q2⟩ => ?_)
  subst ex
  obtain rfl : u = Value.ref a := rx
  exact ⟨dict_typeIs I2 g, d_getItem hu I2 g ry fun w' s3 I3 rw' => ⟨v, H2, I3, rw', q2⟩⟩
theorem pc_din (hu : X.A.units + 1 < cLine) (hi : PE X i ty) (ho : PE X o td) : PC X .In i o (tDIn ty td) := by
  intro pins s σ H Q I h
  refine thn (hi pins s σ H _ I h) fun iv s1 ⟨y, H1, I1, ry, q1⟩ => thn (ho pins s1 σ H1 _ I1 q1) fun u s2 ⟨x, H2, I2, rx, a, ov, ex, g, q2⟩ => ?_
  subst ex
  obtain rfl : u = Value.ref a := rx
  exact d_in hu I2 g ry fun s3 I3 => ⟨.bl ov.isSome, H2, I3, rfl, q2⟩
theorem pc_dnotin (hu : X.A.units + 1 < cLine) (hi : PE X i ty) (ho : PE X o td) : PC X .NotIn i o (tDNotIn ty td) := by
  intro pins s σ H Q I h
  refine thn (hi pins s σ H _ I h) fun iv s1 ⟨y, H1, I1, ry, q1⟩ => thn (ho pins s1 σ H1 _ I1 q1) fun u s2 ⟨x, H2, I2, rx, a, ov, ex, g, q2⟩ => ?_
  subst ex
  obtain rfl : u = Value.ref a := rx
  exact d_notIn hu I2 g ry fun s3 I3 => ⟨.bl (!ov.isSome), H2, I3, rfl, q2⟩
theorem ps_dput (hu : X.A.units + 1 < cLine) (ho : PE X o td) (hi : PE X i ty) (hv : PE X value tv) (hs : swapsWith value (some (.Subscript o i pos')) pos.line X.env = pure false) :
    PS X (.Assign [.Subscript o i pos'] value pos) (sDPut td ty tv) := by
  intro pins s σ H D I h
  refine wpAny_Assign_Subscript (thn (hv pins s σ H _ I h) fun r s1 ⟨v, H1, I1, rv, q1⟩ => thn (ho pins s1 σ H1 _ I1 q1) fun u s2 ⟨x, H2, I2, rx, q2⟩ => thn (hi pins s2 σ H2 _ I2 q2) fun iv s3 ⟨y, H3, I3, ry, a, H4, ex, g, q3⟩ => ?_) hs
  subst ex
  obtain rfl : u = Value.ref a := rx
  exact d_setItem hu I3 g ry rv fun s4 I4 => ⟨σ, H4, I4, q3⟩
end
theorem dk_empty {P : Program} {w : World} {H : Hp} (h : Heap) (hb : sysModules < h.objs.size) : ObjOk P w H (h.push { cls := .type "dict", data := .dict #[] }) h.objs.size (.dK []) :=
  ⟨Nat.zero_le _, beq_eq_false_iff_ne.mpr (Ne.symm (Nat.ne_of_lt hb)), [], .nil, Heap.DictOf.new h⟩
def tDNewK : TE := fun _ H Q => ∀ p, H p = none → Q (.ref p) (upd H p (.dK []))
section
variable {X : Cx} {pos : Pos}
theorem pe_dnewK : PE X (.Dict [] [] pos) tDNewK := fun pins s σ H Q I h =>
  wpAny_Dict_empty ⟨.ref s.heap.objs.size, _, I.laid (a := s.heap.objs.size) (o := .dK []) (t' := s.toks) (fun _ _ q => Heap.get?_push_of_some _ q) (Nat.le_refl _) (dk_empty s.heap I.big), rfl, h _ (I.hok.fresh (Nat.le_refl _))⟩
end
def tPairs : List (TE × TE) → St → Hp → (List (V × V) → Hp → Prop) → Prop
  | [], _, H, Q => Q [] H
  | (tk, tv) :: r, σ, H, Q => tk σ H fun x H1 => tv σ H1 fun y H2 => tPairs r σ H2 fun ps H3 => Q ((x, y) :: ps) H3
abbrev VV : List (V × V) → List (Value × Value) → Prop := Paired fun p q => RelV p.1 q.1 ∧ RelV p.2 q.2
def PPs (X : Cx) (pos : Pos) (keys : List (Option Expr)) (values : List Expr) (trs : List (TE × TE)) : Prop :=
  ∀ (pins : List (Addr × Obj)) (s : Shared) (σ : St) (H : Hp) (Q : List (V × V) → Hp → Prop), Inv X pins σ H s → tPairs trs σ H Q →
    wpAny (model X.prog X.w) X.A (evalPairs (pairTrees keys values X.env pos)) (fun vs s' => ∃ ps H', Inv X pins σ H' s' ∧ VV ps vs ∧ Q ps H') X.xe s
theorem pps_nil {X : Cx} {pos : Pos} : PPs X pos [] [] [] := fun pins s σ H Q I h => pairTrees_nil_walk ⟨[], H, I, .nil, h⟩
theorem pps_cons {X : Cx} {pos : Pos} {k v : Expr} {ks : List (Option Expr)} {vs : List Expr} {tk tv : TE} {trs : List (TE × TE)} (hk : PE X k tk) (hv : PE X v tv) (hr : PPs X pos ks vs trs) :
    PPs X pos (some k :: ks) (v :: vs) ((tk, tv) :: trs) := fun pins s σ H Q I h =>
  pairTrees_cons_walk (thn (hk pins s σ H _ I h) fun u s1 ⟨x, H1, I1, rx, q1⟩ => thn (hv pins s1 σ H1 _ I1 q1) fun w2 s2 ⟨y, H2, I2, ry, q2⟩ =>
    thn (hr pins s2 σ H2 _ I2 q2) fun ws s3 ⟨ps, H3, I3, rel, q3⟩ => ⟨(x, y) :: ps, H3, I3, .cons ⟨rx, ry⟩ rel, q3⟩)
def mergeK (kvs more : List (Key × V)) : List (Key × V) := more.foldl (fun acc kv => putK acc kv.1 kv.2) kvs
theorem KV.merge : ∀ {more : List (Key × V)} {rs : List (Key × Value)} {kvs : List (Key × V)} {vs : List (Key × Value)}, KV more rs → KV kvs vs → KV (mergeK kvs more) (merged vs rs) := by
  intro more rs kvs vs r
  unfold KV at r
  induction r generalizing kvs vs with
  | nil => intro q; exact q
  | @cons p q ps qs h t ih =>
    intro r0
    have e : KV (putK kvs p.1 p.2) (stored vs q.1 q.2) := by
      have := r0.put p.1 h.2
      rw [← h.1]; exact this
    exact ih e
theorem length_mergeK : ∀ (more kvs : List (Key × V)), (mergeK kvs more).length ≤ kvs.length + more.length
  | [], kvs => by show kvs.length ≤ kvs.length + 0; omega
  | p :: r, kvs => by
    have h1 := length_mergeK r (putK kvs p.1 p.2)
    have h2 := length_putK kvs p.1 p.2
    show (mergeK (putK kvs p.1 p.2) r).length ≤ _
    rw [List.length_cons]; omega
theorem carries_of {P : Program} {w : World} : ∀ {kvs : List (Key × V)} {ws : List (Value × Value)}, VV (kvs.map fun kv => (kV kv.1, kv.2)) ws → ∃ rs, Carries (mixKind P w) ws rs ∧ KV kvs rs
  | [], _, r => by rw [List.map_nil] at r; cases r; exact ⟨[], True.intro, .nil⟩
  | p :: kvs, _, r => by
    rw [List.map_cons] at r
    cases r with
    | @cons a b as bs h t =>
      obtain ⟨rs, c, q⟩ := carries_of (P := P) (w := w) t
      obtain ⟨b1, b2⟩ := b
      exact ⟨(p.1, b2) :: rs, ⟨kV_is h.1, rfl, c⟩, .cons ⟨rfl, h.2⟩ q⟩
def tDisp (trs : List (TE × TE)) : TE := fun σ H Q => ∀ p, H p = none → tPairs trs σ (upd H p (.dK [])) fun ps H2 => H2 p = some (.dK []) ∧ ∃ kvs : List (Key × V), ps = kvs.map (fun kv => (kV kv.1, kv.2)) ∧ kvs.length ≤ 15 ∧ Q (.ref p) (upd H2 p (.dK (mergeK [] kvs)))
theorem pe_disp {X : Cx} {pos : Pos} {keys : List (Option Expr)} {values : List Expr} {trs : List (TE × TE)} (h : PPs X pos keys values trs) (hall : keys.all (·.isSome) = true) (hl : keys.length = values.length) (h0 : keys ≠ [])
    (h15 : keys.length ≤ 15) : PE X (.Dict keys values pos) (tDisp trs) := by
  intro pins s σ H Q I q
  have hn := I.hok.fresh (Nat.le_refl s.heap.objs.size)
  have I1 := I.laid (a := s.heap.objs.size) (o := .dK []) (h' := s.heap.push { cls := .type "dict", data := .dict #[] }) (t' := s.toks) (fun _ _ q => Heap.get?_push_of_some _ q) (Nat.le_refl _) (dk_empty s.heap I.big)
  refine wpAny_Dict_walk (knd := mixKind X.prog X.w) hall hl h0 h15 (thn (h pins _ σ _ _ I1 (q _ hn)) fun ws s2 ⟨ps, H2, I2, rel, e, kvs, ep, lk, q2⟩ => ?_)
  subst ep
  obtain ⟨rs, c, rk⟩ := carries_of (P := X.prog) (w := X.w) rel
  obtain ⟨z, hd, vs0, r0, dd⟩ := dk_of I2.hok e
  cases r0
  refine ⟨rs, c, dd, fun h' dd' hs => ⟨.ref s.heap.objs.size, _, ?_, rfl, q2⟩⟩
  have hz : (mergeK [] kvs).length ≤ sizeLine := by
    have h1 := length_mergeK kvs []
    rw [List.length_nil] at h1
    rw [sizeLine_eq]; omega
  have he : ∃ q, h'.get? s.heap.objs.size = some q := let ⟨q, _, _, hq, _⟩ := dd'; ⟨q, hq⟩
  exact d_write I2 (by rw [e]; exact True.intro) hs he (dk_new hz hd (rk.merge .nil) dd')
structure M1 (X : Cx) (o : Expr) (m : Str) (apos : Pos) (e : Expr) (cpos : Pos) : Prop where
  base : attributeBase o m X.env (eval o X.env) = eval o X.env
  few : ((backTo cpos (starEach [e] X.env)).all (fun x => !x.1) && (backToKw cpos (keywordEach [] X.env)).all (fun x => x.1.isSome)
    && decide (([e] : List Expr).length + ([] : List Keyword).length + (if ([] : List Keyword).isEmpty then 0 else 1) < 30)) = true
  line : (apos.endLine == cpos.line) = true
  trees : backTo cpos (starEach [e] X.env) = [(false, eval e X.env)]
structure M2 (X : Cx) (o : Expr) (m : Str) (apos : Pos) (e f : Expr) (cpos : Pos) : Prop where
  base : attributeBase o m X.env (eval o X.env) = eval o X.env
  few : ((backTo cpos (starEach [e, f] X.env)).all (fun x => !x.1) && (backToKw cpos (keywordEach [] X.env)).all (fun x => x.1.isSome)
    && decide (([e, f] : List Expr).length + ([] : List Keyword).length + (if ([] : List Keyword).isEmpty then 0 else 1) < 30)) = true
  line : (apos.endLine == cpos.line) = true
  trees : backTo cpos (starEach [e, f] X.env) = [(false, eval e X.env), (false, eval f X.env)]
def IsD (H : Hp) (a : Addr) : Prop := (∃ kvs, Rd H a (.dK kvs)) ∨ ∃ kvs, Rd H a (.dT kvs)
theorem isD_at {X : Cx} {pins : List (Addr × Obj)} {σ : St} {H : Hp} {s : Shared} {a : Addr} (I : Inv X pins σ H s) (d : IsD H a) :
    s.TypeIs (.ref a) "dict" ∧ (∀ b, Value.ref a = .ref b → ∃ ob, s.heap.get? b = some ob ∧ ob.dict = none) ∧ (a == sysModules) = false := by
  rcases d with ⟨kvs, e⟩ | ⟨kvs, e⟩
  · obtain ⟨_, hd, vs, _, dd⟩ := dk_rd I.hok e
    refine ⟨dd.typeIs, fun b q => ?_, hd⟩
    cases q
    obtain ⟨ob, _, _, h1, h2, _⟩ := dd
    exact ⟨ob, h1, h2.2.1⟩
  · obtain ⟨_, hd, xs, _, dd⟩ := dt_rd I.hok e
    refine ⟨dd.typeIs, fun b q => ?_, hd⟩
    cases q
    obtain ⟨ob, _, _, h1, h2, _⟩ := dd
    exact ⟨ob, h1, h2.2.1⟩
section
variable {X : Cx} {pins : List (Addr × Obj)} {σ : St} {H : Hp} {s : Shared} {a : Addr} {y d : V} {u r : Value} {o : Option V} {A : Around} {E : Value → Shared → Prop}
end
def tDPop1 (td ty : TE) : TE := fun σ H Q => td σ H fun x H1 => ∃ a, x = .ref a ∧ IsD H1 a ∧ ty σ H1 fun y H2 => ∃ kvs k v, H2 a = some (.dK kvs) ∧ y = kV k ∧ valV kvs k = some v ∧ Q v (upd H2 a (.dK (dropK kvs k)))
section
variable {X : Cx} {o e f : Expr} {apos cpos : Pos} {td ty tx : TE}
theorem pe_dpop1 (ho : PE X o td) (he : PE X e ty) (m : M1 X o "pop" apos e cpos) : PE X (.Call (.Attribute o "pop" apos) [e] [] cpos) (tDPop1 td ty) := by
  intro pins s σ H Q I h
  refine wpAny_Call_method m.base m.few m.line PySem.F.plainAttrs_dict PySem.F.slot_dict_pop PySem.F.type_dict_pop (thn (ho pins s σ H _ I h) fun u s1 ⟨x, H1, I1, rx, a, ex, d, q1⟩ => ?_)
  subst ex
  obtain rfl : u = Value.ref a := rx
  obtain ⟨t1, t2, _⟩ := isD_at I1 d
  refine ⟨t1, t2, ?_⟩
  rw [m.trees]
  refine Calls.callWith_builtin rfl (Calls.evalArgs_plain (Calls.spliced_cons (thn (he pins s1 σ H1 _ I1 q1) fun iv s2 ⟨y, H2, I2, ry, kvs, k, v, ea, ey, l, q2⟩ => Calls.spliced_nil ?_)))
  subst ey
  exact d_pop I2 ea ry l (.inl rfl) fun w' s3 I3 rw' => ⟨v, _, I3, rw', q2⟩
end
section
variable {X : Cx} {pins : List (Addr × Obj)} {σ : St} {H : Hp} {s : Shared} {a : Addr} {kvs : List (Key × V)} {A : Around} {E : Value → Shared → Prop}
theorem d_copyOf {Q : Value → Shared → Prop} (I : Inv X pins σ H s) (e : Rd H a (.dK kvs)) (h : ∀ p s', H p = none → Inv X pins σ (upd H p (.dK kvs)) s' → Q (.ref p) s') : wpAny (model X.prog X.w) A (call (.type "dict") [.ref a]) Q E s := by
  obtain ⟨z, hd, vs, rel, dd⟩ := dk_rd I.hok e
  refine kt_call_dict hd dd (by rw [← rel.length]; exact z) fun h' dd' hs => ?_
  refine h _ _ (I.hok.fresh (Nat.le_refl _)) (I.laid (a := s.heap.objs.size) (o := .dK kvs) (t' := s.toks) (fun b q hq => ?_) (Nat.le_refl _) (dk_new z (beq_eq_false_iff_ne.mpr (Ne.symm (Nat.ne_of_lt I.big))) rel dd'))
  exact (hs.2 b (Nat.ne_of_lt (Heap.lt_size hq))).trans (Heap.get?_push_of_some _ hq)
end
section
variable {X : Cx} {pins : List (Addr × Obj)} {σ : St} {H : Hp} {s : Shared} {a : Addr} {y : V} {u : Value} {A : Around} {E : Value → Shared → Prop}
end
end L2
namespace Att
open PySem PySem.W PySem.Calls PyProof.Rows
theorem ints_of_wellAll {P : Params} {h : Heap} : ∀ (ns : List Int) (vs : List Value), WellAll P h vs (ns.map WData.int) → IntsAre vs ns := by
  intro ns
  induction ns with
  | nil =>
    intro vs w
    rw [List.map_nil] at w
    cases w
    exact .nil
  | cons n ns ih =>
    intro vs w
    rw [List.map_cons] at w
    cases w with
    | cons a b =>
      cases a
      exact .cons _ _ (ih _ b)
theorem script_of {l : OpenLaw} {n : Nat} (hn : l.most = some n) {P : Params} {h : Heap} {args : List WData} {vals : List Value}
    (hpre : l.row.toRowW.claim.pre args = true) (hwl : WellAll P h vals args) :
    ∃ a vs ns, vals = [Value.ref a] ∧ args = [WData.list (ns.map WData.int)] ∧ h.get? a = some { cls := .type "list", data := .seq vs.toArray } ∧ IntsAre vs ns ∧ ns.length ≤ n := by
  have hsh : WShape.hasAll [] args [.list .int] = true := (pre_splitW hpre).1
  have hc : l.pre.holds [] { args := args } = true := (pre_splitW hpre).2
  obtain ⟨d, r, rfl, h1, h2⟩ := hasAllW_cons hsh
  obtain rfl := hasAllW_nil h2
  obtain ⟨xs, rfl, h3⟩ := hasW_list h1
  obtain ⟨ns, rfl⟩ := items_int h3
  have hlen : ns.length ≤ n := by
    unfold OpenLaw.pre at hc
    have h4 : (WTm.not (.lt (.lit (.int (n : Int))) (.len (.arg 0)))).holds [] { args := [.list (ns.map .int)] } = true := by
      have h4 := (holds_andW hc).1
      rw [hn] at h4
      exact h4
    have h5 := condW_of h4 (w_not (w_lt w_lit (w_len_list (w_arg rfl))))
    rw [List.length_map] at h5
    refine Nat.le_of_not_lt fun q => ?_
    have q' : (n : Int) < ((ns.length : Nat) : Int) := by omega
    first
      | (rw [decide_eq_true q'] at h5; exact absurd h5 (by decide))
      | (simp at h5; omega)
  cases hwl with
  | cons w1 w2 =>
    cases w2
    cases w1 with
    | list ho hall => exact ⟨_, _, ns, rfl, rfl, ho, ints_of_wellAll ns _ hall, hlen⟩
theorem post_true (l : OpenLaw) (args : List WData) : l.row.toRowW.claim.post args (.bool true) args = true :=
  postW_of (r := l.row.toRowW) (X := (true == true))
    (show WShape.has [] (.bool true) .bool = true by first | rfl | decide | simp [WShape.has, WShape.arms, WShape.armsAll])
    (show (WTm.eq .res (.lit (.bool true))).value [] { args := args, res := some (.bool true), after := args } = some (.bool (true == true)) from w_eq_bool (w_res rfl) w_lit) rfl
theorem attach_call {l : OpenLaw} {n : Nat} {q : Program} {loose : List Str} {XP : (Str → Option Value) → Heap → Prop} {YP : World → Heap → Prop} {d : DefRec}
    (hn : l.most = some n) (hdf : d.params.defaults = [])
    (call : ∀ (w : World) (s₀ s₁ : Shared) (mg mb : Str → Option Value) (fa : Addr) (o : Obj) (pm cd doc : Value) (a : Addr) (vs : List Value) (ns : List Int),
      Ground q loose [] XP w s₀ mg mb s₁.heap → YP w s₁.heap →
      s₁.heap.get? fa = some o → o.data = .func (docDef d.name d.params d.body d.scope pm cd doc) → s₁.heap.CodeRec cd d.name → mg d.name = some (.ref fa) →
      s₁.heap.get? a = some { cls := .type "list", data := .seq vs.toArray } → IntsAre vs ns → ns.length ≤ n → s₁.gens = #[] →
      codeAny (model l.prog w) callerA (.call (.ref fa) ⟨[.ref a], []⟩) (fun r s' => r = .ok (.ret (.bool true)) ∧ OldK s₁.heap s'.heap ∧ s'.os = s₁.os ∧ AllBare s'.gens) s₁) :
    WalkO q loose XP YP l.row.toRowW d [] (fun f vs => PySem.call f vs) := by
  intro w s₀ s₁ mg mb G Y fa o pm cd doc dV kV ho hd hcd hD hmg hg args vals as hpre hlay hrd hwl hlo
  obtain rfl : dV = .none := Dflts.none hD hdf
  obtain rfl : kV = .none := Dflts.noKw hD
  obtain ⟨a, vs, ns, rfl, rfl, hobj, hints, hlen⟩ := script_of hn hpre hwl
  refine enter_call (codeAny_mono (call w s₀ s₁ mg mb fa o pm cd doc a vs ns G Y ho (fd_plain hd) hcd hmg hobj hints hlen hg) fun r s' hq => ?_)
  obtain ⟨rfl, h2, h3, h4⟩ := hq
  exact ⟨.inl ⟨.bool true, .bool true, [], rfl, fun _ => rfl, .bool true, post_true l _, fun _ => ⟨List.Pairwise.nil, fun _ hm => (nomatch hm)⟩⟩, h2, h3, h4⟩
section
variable {prog : Program} {w : World} {A : Around} {E : Value → Shared → Prop} {s : Shared} {K : Frag}
def ledger (h : Heap) (L d : Addr) : List (Addr × Obj) := (List.range h.objs.size).filterMap fun a => if a = L ∨ a = d then none else (h.get? a).map fun o => (a, o)
end
end Att
namespace L2
open PySem PySem.Spec PyProof.Rows
theorem vals_ints : ∀ {vs : List Value} {ns : List Int}, IntsAre vs ns → Vals (ns.map V.int) vs
  | _, _, .nil => .nil
  | _, _, .cons n t h => .cons ⟨t, rfl⟩ (vals_ints h)
def Only (H : Hp) : Prop := ∀ b, H b = none ∨ ∃ o xs, H b = some (.frz o (.lst xs))
theorem law_call {P : Program} {w : World} {K : PySem.W.Frag} {mg mb : Str → Option Value} {CX : CXT} {k : Nat} {fa a : Addr} {fd : FuncData} {x : Str} {sp : Sp} {s₁ : Shared} {vs : List Value} {ns : List Int}
    (KX : K.In s₁.heap) (hns : s₁.heap.Ns mainGlobals mg) (hb : s₁.heap.Ns builtinsNs mb) (hbb : ∀ x : Str, x ≠ "__name__" → mb x = bootBuiltins x) (hlim : s₁.heap.NoLimit) (hg : s₁.gens = #[])
    (ha : s₁.heap.get? a = some { cls := .type "list", data := .seq vs.toArray }) (hi : IntsAre vs ns) (hl : ns.length ≤ sizeLine) (hr : Room k callerA)
    (F : ∀ base : Heap, K.In base → base.Ns mainGlobals mg → FnOk P w K mg base CX k fa fd [x] sp) (hbind : ∀ (s : Shared) (u : Value), BindsTo s fd ⟨[u], []⟩ [(x, u)])
    (hsp : ∀ H : Hp, Only H → SqL K H a (ns.map V.int) → sp [.ref a] H (fun v _ => v = .bl true) fun _ _ _ => False)
    (hCX : ∀ H e s', CX [] H s₁ (fun _ _ _ => False) e s' → False) :
    codeAny (model P w) callerA (.call (.ref fa) ⟨[.ref a], []⟩) (fun r s' => r = .ok (.ret (.bool true)) ∧ OldK s₁.heap s'.heap ∧ s'.os = s₁.os ∧ AllBare s'.gens) s₁ := by
  have rv := vals_ints hi
  have lenV := hi.length
  have core : ∀ H : Hp, Only H → SqL K H a (ns.map V.int) → HOk P w H s₁.heap → (∀ b, H b ≠ none → b = a) → (H a ≠ none → K.lookup a = none) →
      codeAny (model P w) callerA (.call (.ref fa) ⟨[.ref a], []⟩) (fun r s' => r = .ok (.ret (.bool true)) ∧ OldK s₁.heap s'.heap ∧ s'.os = s₁.os ∧ AllBare s'.gens) s₁ := by
    intro H hO hS hok hA hK
    have base_of : ∀ {b : Addr} {o : Obj}, s₁.heap.get? b = some o → H b = none → (hidT s₁.heap H).get? b = some o := fun e n => hidT_get e n
    have noA : ∀ {b : Addr} {o : Obj} {es : Array DictEntry} {ep : Nat}, s₁.heap.get? b = some o → o.data = .dict es ep → H b = none := fun {b o es ep} e d => by
      cases q : H b with
      | none => rfl
      | some u =>
        have e' : b = a := hA b (by rw [q]; simp)
        subst e'
        rw [ha] at e; cases e
        have d' : Data.seq vs.toArray _ = Data.dict es ep := d
        cases d'
    have nsK : ∀ {b : Addr} {m : Str → Option Value}, s₁.heap.Ns b m → (hidT s₁.heap H).Ns b m := fun {b m} ⟨o, es, ep, e, d, r⟩ => ⟨o, es, ep, base_of e (noA e d), d, r⟩
    have hKb : K.In (hidT s₁.heap H) := fun b o e => base_of (KX b o e) (by
      cases q : H b with
      | none => rfl
      | some u =>
        have e' : b = a := hA b (by rw [q]; simp)
        subst e'
        rw [hK (by rw [q]; simp)] at e; cases e)
    have hM : Mod K mg (hidT s₁.heap H) := ⟨hKb, nsK hns, ⟨mb, nsK hb, hbb⟩, let ⟨mc, h1, h2⟩ := hlim; ⟨mc, nsK h1, h2⟩⟩
    have e0 : Env0 P w K mg (hidT s₁.heap H) callerA [] s₁ H := ⟨rfl, hM, fun b o e => of_hidT e, Nat.le_of_eq (hidT_size _ _), trivial, fun b hb => absurd (show b ∈ ([] : List Addr) from hb) (by simp), hok, .of_eq hg⟩
    refine codeAny_mono ((F _ hKb (nsK hns)).run callerA [] s₁ H ⟨[.ref a], []⟩ [.ref a] [.ref a] _ _ hr e0 (hbind s₁ (.ref a)) (.cons rfl .nil) (hsp H hO hS)) fun r s' h => ?_
    cases r with
    | error e => exact (hCX H e s' h).elim
    | ok fl =>
      cases fl with
      | next => exact False.elim h
      | brk => exact False.elim h
      | cont => exact False.elim h
      | ret u =>
        obtain ⟨v, H', os, bare, un, hok', r', q⟩ := h
        have q' : v = .bl true := q
        subst q'
        obtain rfl : u = Value.bool true := r'
        refine ⟨rfl, OldK.of_keep fun b o e => ?_, os, bare⟩
        cases q : H b with
        | none => exact un.keep b o e q (by intro z; exact absurd (show b ∈ ([] : List Addr) from z) (by simp)) (by simp)
        | some u =>
          rcases hO b with z | ⟨ob, xs, z⟩
          · rw [q] at z; cases z
          · have z2 := un.frzs b ob _ z
            obtain ⟨e1, _⟩ := hok b _ z
            obtain ⟨e2, _⟩ := hok' b _ z2
            rw [e] at e1; cases e1
            exact e2
  cases hk : K.lookup a with
  | some o =>
    have e := KX a o hk
    rw [ha] at e
    cases e
    refine core (fun _ => none) (fun _ => .inl rfl) (.inr ⟨_, vs.toArray, _, hk, rfl, rfl, rfl, by rw [List.size_toArray, lenV]; exact hl, by simpa using rv⟩) (fun b u z => by have z' : (none : Option HO) = some u := z; cases z') (fun b z => absurd rfl z) fun z => absurd rfl z
  | none =>
    refine core (fun b => if b = a then some (.frz { cls := .type "list", data := .seq vs.toArray } (.lst (ns.map V.int))) else none) (fun b => ?_) (.inl (.inr ⟨{ cls := .type "list", data := .seq vs.toArray }, if_pos rfl⟩)) (fun b u z => ?_) (fun b z => ?_) fun _ => hk
    · by_cases hb : b = a
      · exact .inr ⟨_, _, if_pos hb⟩
      · exact .inl (if_neg hb)
    · by_cases hb : b = a
      · have z' := (if_pos hb).symm.trans z
        cases z'
        subst hb
        exact ⟨ha, by rw [List.length_map]; exact hl, vs, _, rv, ha⟩
      · have z' := (if_neg hb).symm.trans z
        cases z'
    · by_cases hb : b = a
      · exact hb
      · exact absurd (if_neg hb) z
end L2
namespace L2
open PySem PySem.Spec PyProof.Rows
theorem walk_of {l : PySem.W.OpenLaw} {n k : Nat} {q : Program} {loose : List Str} {XP : (Str → Option Value) → Heap → Prop} {YP : World → Heap → Prop} {d : DefRec} {K : Params → PySem.W.Frag} {CX : World → CXT} {sp : World → Sp} {x : Str}
    (hn : l.most = some n) (hn2 : n ≤ sizeLine) (hdf : d.params.defaults = []) (hr : Room k callerA)
    (hY : ∀ (w : World) (h : Heap), YP w h → (K w.params).In h)
    (F : ∀ (w : World) (mg : Str → Option Value) (fa : Addr) (h : Heap), (K w.params).In h → h.Ns mainGlobals mg → mg d.name = some (.ref fa) →
      ∃ fd : FuncData, (∀ (s : Shared) (u : Value), BindsTo s fd ⟨[u], []⟩ [(x, u)]) ∧
        ∀ base : Heap, (K w.params).In base → base.Ns mainGlobals mg → FnOk l.prog w (K w.params) mg base (CX w) k fa fd [x] (sp w))
    (hsp : ∀ (w : World) (H : Hp) (a : Addr) (ns : List Int), ns.length ≤ n → Only H → SqL (K w.params) H a (ns.map V.int) → sp w [.ref a] H (fun v _ => v = .bl true) fun _ _ _ => False)
    (hCX : ∀ (w : World) (H : Hp) (s : Shared) (e : Value) (s' : Shared), CX w [] H s (fun _ _ _ => False) e s' → False) :
    PySem.W.WalkO q loose XP YP l.row.toRowW d [] (fun f vs => PySem.call f vs) := by
  refine Att.attach_call hn hdf fun w s₀ s₁ mg mb fa o pm cd doc a vs ns G Y ho hd hcd hmg hobj hints hlen hg => ?_
  have KX := hY w _ Y
  obtain ⟨fd, hb, hF⟩ := F w mg fa _ KX G.T.g hmg
  exact law_call KX G.T.g G.T.b G.T.builtins G.T.nolimit hg hobj hints (Nat.le_trans hlen hn2) hr hF hb (fun H hO hS => hsp w H a ns hlen hO hS) fun H e s' => hCX w H s₁ e s'
end L2
namespace L2
open PySem PySem.Spec PyProof.Rows
def inClass (s : Stmt) (j : Nat) : Stmt := match s with
  | .ClassDef _ _ _ body _ _ _ _ _ _ _ => body.getD j (.Pass ⟨0, 0, 0, 0⟩)
  | _ => .Pass ⟨0, 0, 0, 0⟩
def defArgs (s : Stmt) : Arguments := match s with
  | .FunctionDef _ a _ _ _ _ _ _ _ _ => a
  | _ => { posonlyargs := [], args := [], vararg := none, kwonlyargs := [], kw_defaults := [], kwarg := none, defaults := [] }
def defBody (s : Stmt) : List Stmt := match s with
  | .FunctionDef _ _ b _ _ _ _ _ _ _ => b
  | _ => []
def defScope (s : Stmt) : Scope := match s with
  | .FunctionDef _ _ _ _ _ _ sc _ _ _ => sc
  | _ => { kind := .function, names := [], isGenerator := false, isCoroutine := false }
abbrev CX0 : CXT := fun _ _ _ _ _ _ => False
structure Fun (K : PySem.W.Frag) (x qual : Str) (st : Stmt) (f : Addr) (fd : FuncData) : Prop where
  ex : ∃ (oc : Value) (od : Option Addr) (kV doc pm : Value) (an : Option Addr) (cdv ct : Value) (osl : Array (Option Value)),
    fd = PySem.W.fnOf x qual (defArgs st) (defBody st) (defScope st) .none kV doc pm an cdv ct ∧ K.lookup f = some ⟨oc, od, .func fd, osl⟩ ∧ PySem.W.codeIn K cdv qual = true
  kp : PySem.W.keepIn K (.ref f) = true
section
variable {P : Program} {w : World} {K : PySem.W.Frag} {mg : Str → Option Value} {base : Heap}
theorem Fun.ok {x qual : Str} {st : Stmt} {f : Addr} {fd : FuncData} {N ps : List Str} {k : Nat} {sp : Sp} (F : Fun K x qual st f fd) (S : FnScope N ps (defScope st)) (len : ∀ vs H Q E, sp vs H Q E → vs.length = ps.length)
    (hbody : ∀ (cdv : Value) (A : Around) (outer : List Env) (s : Shared) (H : Hp) (vs : List V) (Q : VK) (E : XK), Room k (A.deeper (envOfC qual (defScope st) s.heap.objs.size f cdv)) → sp vs H Q E →
      ∃ t, PSs (cxOf CX0 P w K mg base N qual (defScope st) f cdv A outer s H E).nox (defBody st) t ∧ t { nx := fun _ H' => Q .non H', rt := Q } (start N vs) H) : FnOk P w K mg base CX0 (k + 1) f fd ps sp := by
  obtain ⟨oc, od, kV, doc, pm, an, cdv, ct, osl, rfl, lk, hcd⟩ := F.ex
  refine fn_of lk hcd S len fun A outer s H vs Q E hr hsp => ?_
  obtain ⟨t, h, q⟩ := hbody cdv A outer s H vs Q E hr hsp
  exact ⟨t, h.nox, q⟩
theorem Fun.binds {x qual : Str} {st : Stmt} {f : Addr} {fd : FuncData} {ps : List Str} (F : Fun K x qual st f fd)
    (h : ∀ (kV doc pm : Value) (an : Option Addr) (cdv ct : Value) (us : List Value), us.length = ps.length → bindArgs (PySem.W.fnOf x qual (defArgs st) (defBody st) (defScope st) .none kV doc pm an cdv ct) ⟨us, []⟩ = pure (ps.zip us)) : Binds K fd ps [] := by
  obtain ⟨oc, od, kV, doc, pm, an, cdv, ct, osl, rfl, lk, hcd⟩ := F.ex
  exact .all (h kV doc pm an cdv ct)
theorem fun_mk {x qual : Str} {st : Stmt} {f : Addr} {oc : Value} {od an : Option Addr} {osl : Array (Option Value)} {kV doc pm cdv ct : Value} (l : K.lookup f = some ⟨oc, od, .func (PySem.W.fnOf x qual (defArgs st) (defBody st) (defScope st) .none kV doc pm an cdv ct), osl⟩)
    (c : PySem.W.codeIn K cdv qual = true) (k : PySem.W.keepIn K (.ref f) = true) : Fun K x qual st f (PySem.W.fnOf x qual (defArgs st) (defBody st) (defScope st) .none kV doc pm an cdv ct) := ⟨⟨oc, od, kV, doc, pm, an, cdv, ct, osl, rfl, l, c⟩, k⟩
end
theorem hu_of {A : Around} {k : Nat} (hr : Room k A) : A.units + 1 < cLine := Nat.lt_of_le_of_lt (Nat.add_le_add_left (by decide : 1 ≤ 64) _) hr.units
section
variable {X : Cx}
theorem call_lenD : CallR X (.builtin "len") (fun xs H Q => ∃ a kvs, xs = [V.ref a] ∧ H a = some (.dK kvs) ∧ Q (.int kvs.length) H) := by
  intro pins s σ H xs us Q I r h
  obtain ⟨a, kvs, rfl, ha, q⟩ := h
  obtain ⟨u, rfl, ru⟩ := vals1 r
  cases ru
  exact d_len I (.inl ha) fun t s' I' => ⟨.int kvs.length, H, I', ⟨t, rfl⟩, q⟩
end
theorem iteF {A B : Prop} (h : B) : if false = true then A else B := by
  rw [if_neg Bool.false_ne_true]
  exact h
theorem iteT {A B : Prop} (h : A) : if true = true then A else B := by
  rw [if_pos rfl]
  exact h
theorem ite2 {c A B : Prop} [Decidable c] (h1 : c → A) (h2 : ¬ c → B) : if c then A else B := by
  by_cases h : c
  · rw [if_pos h]
    exact h1 h
  · rw [if_neg h]
    exact h2 h
def Same (H H' : Hp) : Prop := ∀ b o, H b = some o → H' b = some o
theorem Same.trans {H H1 H2 : Hp} (a : Same H H1) (b : Same H1 H2) : Same H H2 := fun c o h => b c o (a c o h)
theorem Same.free {H H' : Hp} (e : Same H H') {l : Addr} (h : H' l = Option.none) : H l = Option.none := by
  cases q : H l with
  | none => rfl
  | some o =>
    rw [e l o q] at h
    cases h
theorem Same.seq {K : PySem.W.Frag} {H H' : Hp} {a : Addr} {xs : List V} (e : Same H H') (h : SqL K H a xs) : SqL K H' a xs := by
  rcases h with (h | ⟨o, h⟩) | h
  · exact .inl (.inl (e _ _ h))
  · exact .inl (.inr ⟨o, e _ _ h⟩)
  · exact .inr h
section
variable {κ : Type} [DecidableEq κ]
theorem valV_not {kvs : List (κ × V)} {k : κ} (h : valV kvs k = none) : ¬ k ∈ kvs.map (·.1) := by
  intro m
  obtain ⟨p, hp, e⟩ := List.mem_map.mp m
  have q : (kvs.any fun kv => decide (kv.1 = k)) = true := List.any_eq_true.mpr ⟨p, hp, decide_eq_true e⟩
  rw [valV_any, h] at q
  exact absurd q (by simp)
theorem valV_in {kvs : List (κ × V)} {k : κ} {v : V} (h : valV kvs k = some v) : k ∈ kvs.map (·.1) := by
  have q : (kvs.any fun kv => decide (kv.1 = k)) = true := by
    rw [valV_any, h]
    all_goals rfl
  obtain ⟨p, hp, e⟩ := List.any_eq_true.mp q
  exact List.mem_map.mpr ⟨p, hp, of_decide_eq_true e⟩
theorem dropK_pos {p : κ × V} {r : List (κ × V)} {k : κ} (e : p.1 = k) : dropK (p :: r) k = dropK r k := by
  unfold dropK
  rw [List.filter_cons, if_neg (by simp [e])]
theorem dropK_neg {p : κ × V} {r : List (κ × V)} {k : κ} (e : ¬ p.1 = k) : dropK (p :: r) k = p :: dropK r k := by
  unfold dropK
  rw [List.filter_cons, if_pos (by simp [e])]
theorem dropK_mem {kvs : List (κ × V)} {k : κ} {p : κ × V} (h : p ∈ dropK kvs k) : p ∈ kvs := (List.mem_filter.mp h).1
end
end L2
set_option maxHeartbeats 4000000
namespace L2
open PySem PySem.Spec PyProof.Rows

structure Fly (B : Heap) (l : List Env) (h : Heap) (H H' : Hp) (h' : Heap) (ea : Addr) (cls : Value) : Prop where
  fl : ∃ a0, Heap.FlyingW B l ea cls a0 h'
  trk : ∀ b u, H' b = some u → ∃ o, B.get? b = some o
  kept : ∀ b o, h.get? b = some o → H b = none → b ∉ frs l → B.get? b = some o
  alive : ∀ b o, h.get? b = some o → b ∉ frs l → ∃ o', B.get? b = some o'
def CXe (P : Program) (w : World) : CXT := fun outer H s E e s' => ∃ ea cls H' B, e = .ref ea ∧ s'.os = s.os ∧ AllBare s'.gens ∧ Un (frs outer) [] H H' s.heap s'.heap ∧ HOk P w H' s'.heap ∧ Fly B outer s.heap H H' s'.heap ea cls ∧ E cls none H'
abbrev XKs := Value → St → Hp → Prop
def XW (X : Cx) (K : XKs) : Prop := ∀ (pins : List (Addr × Obj)) (σ : St) (H : Hp) (s s' : Shared) (ea : Addr) (cls : Value) (H' : Hp) (B : Heap), Inv X pins σ H s → s'.os = s.os → AllBare s'.gens →
  Un (frs X.stack) [] H H' s.heap s'.heap → HOk X.prog X.w H' s'.heap → Fly B X.stack s.heap H H' s'.heap ea cls → K cls σ H' → X.xe (.ref ea) s'

theorem frs_cons {env : Env} {l : List Env} {L : Addr} (h : env.frame = some L) : frs (env :: l) = L :: frs l := by
  unfold frs; rw [List.filterMap_cons, h]

theorem HOk.flown {P : Program} {w : World} {H : Hp} {B h h' : Heap} (x : HOk P w H h) (t : ∀ b u, H b = some u → ∃ o, B.get? b = some o) (s : B.StaysIn h) (s' : B.StaysIn h') : HOk P w H h' := fun a o e =>
  (x a o e).stay (fun b u hb q => by
    have hB : ∃ o, B.get? b = some o := by
      rcases hb with rfl | hb
      · exact t _ _ e
      · exact t _ _ hb
    obtain ⟨o', ho⟩ := hB
    have e1 := s b o' ho
    rw [q] at e1; cases e1
    exact s' b _ ho) (fun _ q => q) fun _ _ q => q

theorem xw_def {P : Program} {w : World} {K : PySem.W.Frag} {mg : Str → Option Value} {base : Heap} {N : List Str} {qual : Str} {scope : Scope} {f : Addr} {cd : Value} {A : Around} {outer : List Env} {s0 : Shared} {H0 : Hp} {E : XK} :
    XW (cxOf (CXe P w) P w K mg base N qual scope f cd A outer s0 H0 E) (fun c _ H' => E c none H') := by
  intro pins σ H s s' ea cls H' B I os bare un hok fly hK
  have I' := I.call' (s' := s') (ch := []) os un hok bare (fun b z => absurd z (by simp))
  have hfr := I.ok.frames
  have hstk : (cxOf (CXe P w) P w K mg base N qual scope f cd A outer s0 H0 E).stack = envOfC qual scope s0.heap.objs.size f cd :: outer := rfl
  rw [hstk] at hfr
  obtain ⟨a0, hfl⟩ := fly.fl
  have hf : (envOfC qual scope s0.heap.objs.size f cd).frame = some s0.heap.objs.size := rfl
  show wpAny _ _ (leaving (envOfC qual scope s0.heap.objs.size f cd) (.ref ea)) _ _ s'
  refine wpAny_leaves_onW hfr hf hfl fun h' fl' up => ?_
  have hfs : frs (envOfC qual scope s0.heap.objs.size f cd :: outer) = s0.heap.objs.size :: frs outer := frs_cons hf
  have nf : ∀ b o, s0.heap.get? b = some o → b ∉ frs outer → b ∉ frs (envOfC qual scope s0.heap.objs.size f cd :: outer) := fun b o e n z => by
    rw [hfs] at z
    rcases List.mem_cons.mp z with z | z
    · exact absurd (Heap.lt_size e) (by rw [z]; exact Nat.lt_irrefl _)
    · exact n z
  have stay : ∀ b o, s0.heap.get? b = some o → H0 b = none → b ∉ frs outer → B.get? b = some o := fun b o e n hb =>
    fly.kept b o (I.base.keep b o e n hb (by intro z; exact absurd z (by simp [cxOf]))) (I.base.free b o e n (by intro z; exact absurd z (by simp [cxOf]))) (nf b o e hb)
  have live : ∀ b o, s0.heap.get? b = some o → b ∉ frs outer → ∃ o', B.get? b = some o' := fun b o e hb => by
    obtain ⟨o1, e1⟩ := I.base.there b o e (by intro z; exact absurd z (by simp [cxOf]))
    exact fly.alive b o1 e1 (nf b o e hb)
  refine ⟨ea, cls, H', B, rfl, I'.os, bare, ?_, hok.flown fly.trk hfl.1 fl'.1, ⟨⟨a0, fl'⟩, fly.trk, stay, live⟩, hK⟩
  have noA : ∀ b : Addr, b ∉ (cxOf (CXe P w) P w K mg base N qual scope f cd A outer s0 H0 E).ex := fun b z => absurd z (by simp [cxOf])
  have slotOf : ∀ b, b ∈ frs outer → ∀ o, s'.heap.get? b = some o → ∃ sl, h'.get? b = some { o with slots := sl } := fun b hb o e => by
    have hm : b ∈ frs (envOfC qual scope s0.heap.objs.size f cd :: outer) := by rw [hfs]; exact List.mem_cons_of_mem _ hb
    obtain ⟨_, o', ho', hd⟩ := hfl.2.2.1.mem hm
    rw [e] at ho'; cases ho'
    exact up b o e hd
  refine ⟨fun b o e n hb _ => fl'.1 b o (stay b o e n hb), fun b o e n hb _ => ?_, fun b o e n _ => I'.base.free b o e n (noA b), fun b o e _ => ?_, I'.base.tups, I'.base.frzs, I'.base.tbls⟩
  · obtain ⟨sl, e1⟩ := I'.base.slot b o e n hb (noA b)
    obtain ⟨sl', e2⟩ := slotOf b hb _ e1
    exact ⟨sl', e2⟩
  · by_cases hb : b ∈ frs outer
    · obtain ⟨o1, e1⟩ := I'.base.there b o e (noA b)
      obtain ⟨sl, e2⟩ := slotOf b hb _ e1
      exact ⟨_, e2⟩
    · obtain ⟨o1, e1⟩ := live b o e hb
      exact ⟨o1, fl'.1 b o1 e1⟩

def Have (P : Program) (w : World) (K : PySem.W.Frag) (mg : Str → Option Value) (base : Heap) (x : Str) (k : Nat) (ps : List Str) (dvs : List V) (sp : Sp) : Prop :=
  ∃ f fd ds, mg x = some (.ref f) ∧ PySem.W.keepIn K (.ref f) = true ∧ Binds K fd ps ds ∧ Vals dvs ds ∧ FnOk P w K mg base (CXe P w) k f fd ps sp
def HaveM (P : Program) (w : World) (K : PySem.W.Frag) (mg : Str → Option Value) (base : Heap) (C : Addr) (m : Str) (k : Nat) (ps : List Str) (dvs : List V) (sp : Sp) : Prop :=
  ∃ f fd ds, Meth K C m f ∧ Binds K fd ps ds ∧ Vals dvs ds ∧ FnOk P w K mg base (CXe P w) k f fd ps sp
def HaveI (P : Program) (w : World) (K : PySem.W.Frag) (mg : Str → Option Value) (base : Heap) (x : Str) (C : Addr) (k : Nat) (ps : List Str) (dvs : List V) (sp : Sp) : Prop :=
  ∃ f fd ds, mg x = some (.ref C) ∧ Mk K C f ∧ Binds K fd ps ds ∧ Vals dvs ds ∧ FnOk P w K mg base (CXe P w) k f fd ps sp
def tCallE (Kx : XKs) (sp : Sp) (dvs : List V) (t : TA) : TE := fun σ H Q => t σ H fun vs H1 => sp (vs ++ dvs) H1 Q (fun c _ H' => Kx c σ H')
def tMethE (Kx : XKs) (C : Addr) (m : Str) (sp : Sp) (dvs : List V) (ta : TE) (t : TA) : TE := fun σ H Q => ta σ H fun x H1 => ∃ a dx fs, x = .ref a ∧ H1 a = some (.ins C dx fs) ∧ fs.lookup m = none ∧
  t σ H1 fun vs H2 => sp (x :: (vs ++ dvs)) H2 Q (fun c _ H' => Kx c σ H')
def tMakeE (Kx : XKs) (C : Addr) (sp : Sp) (dvs : List V) (t : TA) : TE := fun σ H Q => t σ H fun vs H1 => ∀ x dx, H1 x = none → H1 dx = none → dx ≠ x →
  sp (.ref x :: (vs ++ dvs)) (upd (upd H1 dx (.own x)) x (.ins C dx [])) (fun v H2 => v = .non ∧ Q (.ref x) H2) (fun c _ H' => Kx c σ H')
section
variable {X : Cx} {Kx : XKs} {k : Nat} {f C : Addr} {fd : FuncData} {ps : List Str} {sp : Sp} {dvs : List V} {ds : List Value} {x m : Str} {p pos apos : Pos} {e o : Expr} {es : List Expr} {ta : TE} {t : TA}
theorem run_fnE {pins : List (Addr × Obj)} {σ : St} {H : Hp} {s : Shared} {Q : VK} {us : List Value} {vs : List V} (F : FnOk X.prog X.w X.K X.mg X.base (CXe X.prog X.w) k f fd ps sp) (hr : Room k X.A) (hb : Binds X.K fd ps ds) (hd : Vals dvs ds) (hx : XW X Kx)
    (I : Inv X pins σ H s) (r : Vals vs us) (h : sp (vs ++ dvs) H Q (fun c _ H' => Kx c σ H')) : wpAny (model X.prog X.w) X.A (call (.ref f) us) (EP X pins σ Q) X.xe s := by
  have r2 : Vals (vs ++ dvs) (us ++ ds) := r.append hd
  have hl : (us ++ ds).length = ps.length := by rw [← r2.length]; exact F.len _ _ _ _ h
  refine wpAny_call (codeAny_mono (F.run X.A X.stack s H ⟨us, []⟩ (us ++ ds) (vs ++ dvs) Q _ hr I.env0 (hb s us I.kIn hl) r2 h) fun r s' hq => ?_)
  cases r with
  | error e =>
    obtain ⟨ea, cls, H', B, rfl, os, bare, un, hok, fly, hK⟩ := hq
    exact hx pins σ H s s' ea cls H' B I os bare un hok fly hK
  | ok fl =>
    cases fl with
    | ret u => exact I.after hq
    | next => exact False.elim hq
    | brk => exact False.elim hq
    | cont => exact False.elim hq
theorem pe_callE (F : Have X.prog X.w X.K X.mg X.base x k ps dvs sp) (hr : Room k X.A) (hx : XW X Kx) (ha : PA X (e :: es) t) (hg : Gl X x := by rfl) (hdb : (x == ("__debug__" : Str)) = false := by decide)
    (he : starEach (e :: es) X.env = (false, eval e X.env) :: starEach es X.env := by rfl) (hpl : (backTo pos (starEach es X.env)).any (·.1) = false := by rfl) :
    PE X (.Call (.Name x p) (e :: es) [] pos) (tCallE Kx sp dvs t) := by
  obtain ⟨f, fd, ds, hm, hk, hb, hd, F⟩ := F
  intro pins s σ H Q I h
  refine wpAny_Call_Name_kw (ld_glob I hg hm ?_ hdb)
  refine PySem.W.callWith_K (h₀ := X.base) I.ok.mod.kin hk (thn (ha pos pins s σ H _ I h) fun us s1 ⟨vs, H1, I1, r, q⟩ => ⟨I1.kIn, ?_⟩) he hpl
  exact run_fnE F hr hb hd hx I1 r q
theorem pe_methE {pl : Sem Bool} (ho : PE X o ta) (c : Cls X.K C) (F : HaveM X.prog X.w X.K X.mg X.base C m k ps dvs sp) (hr : Room k X.A) (hx : XW X Kx) (ha : PA X (e :: es) t)
    (hst : starEach (e :: es) X.env = (false, eval e X.env) :: starEach es X.env := by rfl) (hpl : (backTo pos (starEach es X.env)).any (·.1) = false := by rfl)
    (ht : eval (.Call (.Attribute o m apos) (e :: es) [] pos) X.env = (do
      let ov ← eval o X.env
      standAt apos.atName
      let (f, first) ← holding [ov] (getMethod ov m pl)
      callWith pos f first (backTo pos (starEach (e :: es) X.env)) (backToKw pos (keywordEach [] X.env))) := by rfl) :
    PE X (.Call (.Attribute o m apos) (e :: es) [] pos) (tMethE Kx C m sp dvs ta t) := by
  obtain ⟨f, fd, ds, hm, hb, hd, F⟩ := F
  intro pins s σ H Q I h
  refine PySem.W.methodCall_KW (pl := pl) (thn (ho pins s σ H _ I h) fun u s1 ⟨x, H1, I1, rx, a, dx, fs, ex, ea, l, q⟩ => ?_) ht
  subst ex
  obtain rfl : u = Value.ref a := rx
  refine getmeth_ok I1 ea c hm l ?_
  refine PySem.W.callWith_K (first := [.ref a]) (h₀ := X.base) I.ok.mod.kin hm.kp (thn (ha pos pins s1 σ H1 _ I1 q) fun us s2 ⟨vs, H2, I2, r, q2⟩ => ⟨I2.kIn, ?_⟩) hst hpl
  exact run_fnE (us := .ref a :: us) (vs := .ref a :: vs) F hr hb hd hx I2 (.cons rfl r) q2
theorem pe_methE0 {pl : Sem Bool} (ho : PE X o ta) (c : Cls X.K C) (F : HaveM X.prog X.w X.K X.mg X.base C m k ps dvs sp) (hr : Room k X.A) (hx : XW X Kx)
    (ht : eval (.Call (.Attribute o m apos) [] [] pos) X.env = (do
      let ov ← eval o X.env
      standAt apos.atName
      let (f, first) ← holding [ov] (getMethod ov m pl)
      callWith pos f first (backTo pos (starEach [] X.env)) (backToKw pos (keywordEach [] X.env))) := by rfl) :
    PE X (.Call (.Attribute o m apos) [] [] pos) (tMethE Kx C m sp dvs ta tNil) := by
  obtain ⟨f, fd, ds, hm, hb, hd, F⟩ := F
  intro pins s σ H Q I h
  refine PySem.W.methodCall_KW (pl := pl) (thn (ho pins s σ H _ I h) fun u s1 ⟨x, H1, I1, rx, a, dx, fs, ex, ea, l, q⟩ => ?_) ht
  subst ex
  obtain rfl : u = Value.ref a := rx
  refine getmeth_ok I1 ea c hm l ?_
  exact PySem.W.callWith_K0 (first := [.ref a]) I1.kIn hm.kp (run_fnE (us := [.ref a]) (vs := [.ref a]) F hr hb hd hx I1 (.cons rfl .nil) q)
theorem run_makeE {pins : List (Addr × Obj)} {σ : St} {H : Hp} {s : Shared} {Q : VK} {us : List Value} {vs : List V} (M : Mk X.K C f) (F : FnOk X.prog X.w X.K X.mg X.base (CXe X.prog X.w) k f fd ps sp) (hr : Room (k + 1) X.A) (hb : Binds X.K fd ps ds) (hd : Vals dvs ds)
    (hx : XW X Kx) (I : Inv X pins σ H s) (r : Vals vs us)
    (h : ∀ x dx, H x = none → H dx = none → dx ≠ x → sp (.ref x :: (vs ++ dvs)) (upd (upd H dx (.own x)) x (.ins C dx [])) (fun v H2 => v = .non ∧ Q (.ref x) H2) (fun c _ H' => Kx c σ H')) :
    wpAny (model X.prog X.w) X.A (call (.ref C) us) (EP X pins σ Q) X.xe s := by
  have hq := h (s.heap.objs.size + 1) s.heap.objs.size (I.hok.fresh (Nat.le_succ _)) (I.hok.fresh (Nat.le_refl _)) (Nat.ne_of_lt (Nat.lt_succ_self _))
  have I2 := Inv.made (C := C) I
  have r2 : Vals (V.ref (s.heap.objs.size + 1) :: (vs ++ dvs)) (Value.ref (s.heap.objs.size + 1) :: (us ++ ds)) := .cons rfl (r.append hd)
  have hl : (Value.ref (s.heap.objs.size + 1) :: us ++ ds).length = ps.length := by
    have e := r2.length
    rw [F.len _ _ _ _ hq] at e
    exact e.symm
  refine wpAny_call (make_map (f := f) I.kIn M.makes M.init (beq_iff_eq.mp M.fn) (codeAny_mono (F.run _ X.stack _ _ ⟨Value.ref (s.heap.objs.size + 1) :: us, []⟩ (Value.ref (s.heap.objs.size + 1) :: (us ++ ds)) _ _ _ (hr.make C us [])
    (I2.env0.make C us []) (hb _ (Value.ref (s.heap.objs.size + 1) :: us) I2.kIn hl) r2 hq) fun r s' hq' => ?_))
  cases r with
  | error e =>
    obtain ⟨ea, cls, H', B, rfl, os, bare, un, hok, fly, hK⟩ := hq'
    exact hx pins σ _ _ s' ea cls H' B I2 os bare un hok fly hK
  | ok fl =>
    cases fl with
    | ret u =>
      obtain ⟨v, H', I3, rv, ev, q3⟩ := I2.after hq'
      subst ev
      exact ⟨rv, ⟨V.ref (s.heap.objs.size + 1), H', I3, rfl, q3⟩⟩
    | next => exact False.elim hq'
    | brk => exact False.elim hq'
    | cont => exact False.elim hq'
theorem pe_makeE (F : HaveI X.prog X.w X.K X.mg X.base x C k ps dvs sp) (hr : Room (k + 1) X.A) (hx : XW X Kx) (ha : PA X (e :: es) t) (hg : Gl X x := by rfl) (hdb : (x == ("__debug__" : Str)) = false := by decide)
    (he : starEach (e :: es) X.env = (false, eval e X.env) :: starEach es X.env := by rfl) (hpl : (backTo pos (starEach es X.env)).any (·.1) = false := by rfl) :
    PE X (.Call (.Name x p) (e :: es) [] pos) (tMakeE Kx C sp dvs t) := by
  obtain ⟨f, fd, ds, hm, M, hb, hd, F⟩ := F
  intro pins s σ H Q I h
  refine wpAny_Call_Name_kw (ld_glob I hg hm ?_ hdb)
  refine PySem.W.callWith_K (h₀ := X.base) I.ok.mod.kin M.kp (thn (ha pos pins s σ H _ I h) fun us s1 ⟨vs, H1, I1, r, q⟩ => ⟨I1.kIn, ?_⟩) he hpl
  exact run_makeE M F hr hb hd hx I1 r q
theorem pe_makeE0 (F : HaveI X.prog X.w X.K X.mg X.base x C k ps dvs sp) (hr : Room (k + 1) X.A) (hx : XW X Kx) (hg : Gl X x := by rfl) (hdb : (x == ("__debug__" : Str)) = false := by decide) :
    PE X (.Call (.Name x p) [] [] pos) (tMakeE Kx C sp dvs tNil) := by
  obtain ⟨f, fd, ds, hm, M, hb, hd, F⟩ := F
  intro pins s σ H Q I h
  refine wpAny_Call_Name_kw (ld_glob I hg hm ?_ hdb)
  exact PySem.W.callWith_K0 I.kIn M.kp (run_makeE (us := []) M F hr hb hd hx I .nil h)
theorem pe_globE {v : V} (hg : Gl X x) (hm : ∃ u, X.mg x = some u ∧ RelV v u) (hd : (x == ("__debug__" : Str)) = false := by decide) : PE X (.Name x pos) (tC v) := by
  obtain ⟨u, hm, r⟩ := hm
  exact pe_glob hg hm r hd
theorem pe_bltnE {n : String} (hg : Gl X x) (hm : X.mg x = none) (hv : bootBuiltins x = some (.type n)) (hn : x ≠ "__name__" := by decide) (hd : (x == ("__debug__" : Str)) = false := by decide) : PE X (.Name x pos) (tC (.ty n)) := pe_bltn hg hm hv rfl hn hd
end
def Raw (K : PySem.W.Frag) (mg : Str → Option Value) (x qual : Str) (st : Stmt) (ps : List Str) (dvs : List V) : Prop := ∃ f fd ds, mg x = some (.ref f) ∧ Fun K x qual st f fd ∧ Binds K fd ps ds ∧ Vals dvs ds
def RawM (K : PySem.W.Frag) (C : Addr) (m qual : Str) (st : Stmt) (ps : List Str) (dvs : List V) : Prop := ∃ f fd ds, Meth K C m f ∧ Fun K m qual st f fd ∧ Binds K fd ps ds ∧ Vals dvs ds
def RawI (K : PySem.W.Frag) (mg : Str → Option Value) (x : Str) (C : Addr) (qual : Str) (st : Stmt) (ps : List Str) (dvs : List V) : Prop := ∃ f fd ds, mg x = some (.ref C) ∧ Mk K C f ∧ Fun K "__init__" qual st f fd ∧ Binds K fd ps ds ∧ Vals dvs ds
section
variable {P : Program} {w : World} {K : PySem.W.Frag} {mg : Str → Option Value} {base : Heap}
def Body (P : Program) (w : World) (K : PySem.W.Frag) (mg : Str → Option Value) (base : Heap) (qual : Str) (st : Stmt) (N : List Str) (k : Nat) (sp : Sp) : Prop :=
  ∀ (f : Addr) (cdv : Value) (A : Around) (outer : List Env) (s : Shared) (H : Hp) (vs : List V) (Q : VK) (E : XK), Room k (A.deeper (envOfC qual (defScope st) s.heap.objs.size f cdv)) → sp vs H Q E →
    ∃ t, PSs (cxOf (CXe P w) P w K mg base N qual (defScope st) f cdv A outer s H E) (defBody st) t ∧ t { nx := fun _ H' => Q .non H', rt := Q } (start N vs) H
theorem Fun.okE {x qual : Str} {st : Stmt} {f : Addr} {fd : FuncData} {N ps : List Str} {k : Nat} {sp : Sp} (F : Fun K x qual st f fd) (S : FnScope N ps (defScope st)) (len : ∀ vs H Q E, sp vs H Q E → vs.length = ps.length)
    (hbody : Body P w K mg base qual st N k sp) : FnOk P w K mg base (CXe P w) (k + 1) f fd ps sp := by
  obtain ⟨oc, od, kV, doc, pm, an, cdv, ct, osl, rfl, lk, hcd⟩ := F.ex
  exact fn_of lk hcd S len fun A outer s H vs Q E hr hsp => hbody f cdv A outer s H vs Q E hr hsp
theorem Raw.have {x qual : Str} {st : Stmt} {N ps : List Str} {dvs : List V} {k : Nat} {sp : Sp} (R : Raw K mg x qual st ps dvs) (S : FnScope N ps (defScope st)) (len : ∀ vs H Q E, sp vs H Q E → vs.length = ps.length)
    (hbody : Body P w K mg base qual st N k sp) : Have P w K mg base x (k + 1) ps dvs sp :=
  let ⟨f, fd, ds, hm, F, hb, hd⟩ := R
  ⟨f, fd, ds, hm, F.kp, hb, hd, F.okE S len hbody⟩
theorem RawM.have {C : Addr} {m qual : Str} {st : Stmt} {N ps : List Str} {dvs : List V} {k : Nat} {sp : Sp} (R : RawM K C m qual st ps dvs) (S : FnScope N ps (defScope st)) (len : ∀ vs H Q E, sp vs H Q E → vs.length = ps.length)
    (hbody : Body P w K mg base qual st N k sp) : HaveM P w K mg base C m (k + 1) ps dvs sp :=
  let ⟨f, fd, ds, hm, F, hb, hd⟩ := R
  ⟨f, fd, ds, hm, hb, hd, F.okE S len hbody⟩
theorem RawI.have {C : Addr} {x qual : Str} {st : Stmt} {N ps : List Str} {dvs : List V} {k : Nat} {sp : Sp} (R : RawI K mg x C qual st ps dvs) (S : FnScope N ps (defScope st)) (len : ∀ vs H Q E, sp vs H Q E → vs.length = ps.length)
    (hbody : Body P w K mg base qual st N k sp) : HaveI P w K mg base x C (k + 1) ps dvs sp :=
  let ⟨f, fd, ds, hm, M, F, hb, hd⟩ := R
  ⟨f, fd, ds, hm, M, hb, hd, F.okE S len hbody⟩
end
end L2
namespace L2
open PySem PySem.Spec PyProof.Rows

def XR (X : Cx) (K : XKs) : Prop := ∀ (pins : List (Addr × Obj)) (σ : St) (H : Hp) (s : Shared) (h' : Heap) (e : Addr) (cls : Value) (args : List Value), Inv X pins σ H s → Heap.MadeExcOf s.heap h' e cls args → K cls σ H → X.xe (.ref e) { s with heap := h' }

theorem HOk.alive {P : Program} {w : World} {H : Hp} {h : Heap} (x : HOk P w H h) {b : Addr} {u : HO} (e : H b = some u) : ∃ o, h.get? b = some o := by
  have q := x b u e
  cases u with
  | lst xs => obtain ⟨_, _, _, _, e⟩ := q; exact ⟨_, e⟩
  | tup xs => obtain ⟨_, _, _, ⟨o, e, _⟩⟩ := q; exact ⟨_, e⟩
  | dK kvs => obtain ⟨_, _, _, _, o, _, _, e, _⟩ := q; exact ⟨_, e⟩
  | dT kvs => obtain ⟨_, _, _, _, o, _, _, e, _⟩ := q; exact ⟨_, e⟩
  | set S n => obtain ⟨o, _, _, _, e, _⟩ := q; exact ⟨_, e⟩
  | ins C dx fs => obtain ⟨_, _, _, e, _⟩ := q; exact ⟨_, e⟩
  | own y => exact q
  | xd fs => obtain ⟨_, ⟨_, _, _, e, _⟩, _⟩ := q; exact ⟨_, e⟩
  | rng lo hi => obtain ⟨_, _, _, e⟩ := q; exact ⟨_, e⟩
  | frz ob u => obtain ⟨e, _⟩ := q; exact ⟨_, e⟩
  | tbl ps => exact ⟨_, q⟩
  | met f y => exact ⟨_, q⟩
  | ext φ => obtain ⟨_, e, _⟩ := q; exact e

theorem xr_def {P : Program} {w : World} {K : PySem.W.Frag} {mg : Str → Option Value} {base : Heap} {N : List Str} {qual : Str} {scope : Scope} {f : Addr} {cd : Value} {A : Around} {outer : List Env} {s0 : Shared} {H0 : Hp} {E : XK} :
    XR (cxOf (CXe P w) P w K mg base N qual scope f cd A outer s0 H0 E) (fun c _ H' => E c none H') := by
  intro pins σ H s h1 ea cls args I mk hK
  have hfr := I.ok.frames
  have hstk : (cxOf (CXe P w) P w K mg base N qual scope f cd A outer s0 H0 E).stack = envOfC qual scope s0.heap.objs.size f cd :: outer := rfl
  have hfun := I.stack
  have hfree := I.stkFree
  rw [hstk] at hfr hfun hfree
  have hf : (envOfC qual scope s0.heap.objs.size f cd).frame = some s0.heap.objs.size := rfl
  have hfs : frs (envOfC qual scope s0.heap.objs.size f cd :: outer) = s0.heap.objs.size :: frs outer := frs_cons hf
  have noA : ∀ b : Addr, b ∉ (cxOf (CXe P w) P w K mg base N qual scope f cd A outer s0 H0 E).ex := fun b z => absurd z (by simp [cxOf])
  have nf : ∀ b o, s0.heap.get? b = some o → b ∉ frs outer → b ∉ frs (envOfC qual scope s0.heap.objs.size f cd :: outer) := fun b o e n z => by
    rw [hfs] at z
    rcases List.mem_cons.mp z with z | z
    · exact absurd (Heap.lt_size e) (by rw [z]; exact Nat.lt_irrefl _)
    · exact n z
  show wpAny _ _ (leaving (envOfC qual scope s0.heap.objs.size f cd) (.ref ea)) _ _ _
  refine wpAny_leaves_madeW (base := PySem.W.hideAll s.heap (frs (envOfC qual scope s0.heap.objs.size f cd :: outer))) (h := s.heap) hfr hf (fun b o q => PySem.W.of_hideAll _ q)
    (PySem.W.funFrames_hide hfun fun env he b hb => List.mem_filterMap.mpr ⟨env, he, hb⟩) mk fun h' t fl' _ _ up => ?_
  have inB : ∀ b o, s.heap.get? b = some o → b ∉ frs (envOfC qual scope s0.heap.objs.size f cd :: outer) → (PySem.W.hideAll s.heap (frs (envOfC qual scope s0.heap.objs.size f cd :: outer))).get? b = some o := fun b o e n => PySem.W.hideAll_get _ e n
  have stay : ∀ b o, s0.heap.get? b = some o → H0 b = none → b ∉ frs outer → (PySem.W.hideAll s.heap (frs (envOfC qual scope s0.heap.objs.size f cd :: outer))).get? b = some o := fun b o e n hb =>
    inB b o (I.base.keep b o e n hb (noA b)) (nf b o e hb)
  have live : ∀ b o, s0.heap.get? b = some o → b ∉ frs outer → ∃ o', (PySem.W.hideAll s.heap (frs (envOfC qual scope s0.heap.objs.size f cd :: outer))).get? b = some o' := fun b o e hb => by
    obtain ⟨o1, e1⟩ := I.base.there b o e (noA b)
    exact ⟨o1, inB b o1 e1 (nf b o e hb)⟩
  have trk : ∀ b u, H b = some u → ∃ o, (PySem.W.hideAll s.heap (frs (envOfC qual scope s0.heap.objs.size f cd :: outer))).get? b = some o := fun b u e => by
    obtain ⟨o, ho⟩ := I.hok.alive e
    exact ⟨o, inB b o ho fun z => by rw [hfree b z] at e; cases e⟩
  have slotOf : ∀ b, b ∈ frs outer → ∀ o, s.heap.get? b = some o → ∃ sl, h'.get? b = some { o with slots := sl } := fun b hb o e => by
    have hm : b ∈ frs (envOfC qual scope s0.heap.objs.size f cd :: outer) := by rw [hfs]; exact List.mem_cons_of_mem _ hb
    obtain ⟨_, o', ho', hd⟩ := hfun.mem hm
    rw [e] at ho'; cases ho'
    exact up b o (mk.keeps b o e) hd
  refine ⟨ea, cls, H, _, rfl, I.os, I.bare, ?_, I.hok.flown trk (fun b o q => PySem.W.of_hideAll _ q) fl'.1, ⟨⟨_, fl'⟩, trk, stay, live⟩, hK⟩
  refine ⟨fun b o e n hb _ => fl'.1 b o (stay b o e n hb), fun b o e n hb _ => ?_, fun b o e n _ => I.base.free b o e n (noA b), fun b o e _ => ?_, I.base.tups, I.base.frzs, I.base.tbls⟩
  · obtain ⟨sl, e1⟩ := I.base.slot b o e n hb (noA b)
    obtain ⟨sl', e2⟩ := slotOf b hb _ e1
    exact ⟨sl', e2⟩
  · by_cases hb : b ∈ frs outer
    · obtain ⟨o1, e1⟩ := I.base.there b o e (noA b)
      obtain ⟨sl, e2⟩ := slotOf b hb _ e1
      exact ⟨_, e2⟩
    · obtain ⟨o1, e1⟩ := live b o e hb
      exact ⟨o1, fl'.1 b o1 e1⟩

abbrev mroVE : List Value := [.type "ValueError", .type "Exception", .type "BaseException", .type "object"]
structure XC (K : PySem.W.Frag) (mg : Str → Option Value) (x : Str) (C : Addr) : Prop where
  m : mg x = some (.ref C)
  ex : PySem.W.excIn K C mroVE "ValueError.__new__" = true
theorem exc_obj {K : PySem.W.Frag} {h : Heap} {C : Addr} {l : List Value} {id : String} (hin : K.In h) (q : PySem.W.excIn K C l id = true) :
    ∃ bm N nm qn bs hdct sn sub ab col dd k0 k1 k2 k3 k5 mN, h.get? C = some (excClassObj nm qn C N bs bm hdct sn sub ab col dd k0 k1 k2 k3 k5 id) ∧ h.Ns N mN ∧ mN "__init__" = none ∧ OwnTail h l bm := by
  unfold PySem.W.excIn at q
  split at q
  case h_2 => cases q
  case h_1 dd cd sl ho =>
    split at q
    case h_2 => cases q
    case h_1 C' bm k0 k1 k2 k3 n k5 hm hs =>
      rw [Bool.and_eq_true, Bool.and_eq_true, Bool.and_eq_true, Bool.and_eq_true, Bool.and_eq_true] at q
      obtain ⟨⟨⟨⟨⟨q1, q2⟩, q3⟩, q4⟩, q5⟩, q6⟩ := q
      have e1 := beq_iff_eq.mp q1
      have e2 := beq_iff_eq.mp q2
      have e6 := beq_iff_eq.mp q6
      subst e1 e2
      obtain ⟨nm, bs, mro, ns, qn, hd, sn, sub, ab, col, del⟩ := cd
      have e3 : del = false := by
        cases del with
        | false => rfl
        | true => cases q3
      have hm' : mro = .ref C' :: bm := hm
      subst e3 hm'
      obtain ⟨l'⟩ := sl
      have hs' : l' = [k0, k1, k2, k3, some (.builtin n), k5] := hs
      subst hs'
      exact ⟨bm, ns, nm, qn, bs, hd, sn, sub, ab, col, dd, k0, k1, k2, k3, k5, _, hin _ _ ho, .of_isNs (PySem.W.isNs_of_in hin q5), PySem.W.nsMap_none_of_in hin q5 e6, PySem.W.tail_of_in hin q4⟩
def tRaise (Kx : XKs) (C : Addr) (t : TA) : TS := fun _ σ H => t σ H fun vs H1 => vs.length ≤ sizeLine ∧ Kx (.ref C) σ H1
theorem ps_raise {X : Cx} {Kx : XKs} {C : Addr} {x : Str} {np cpos pos : Pos} {e : Expr} {es : List Expr} {t : TA} (hx : XR X Kx) (hc : X.calm = true) (c : XC X.K X.mg x C) (ha : PA X (e :: es) t) (hg : Gl X x := by rfl) (hd : (x == ("__debug__" : Str)) = false := by decide)
    (he : starEach (e :: es) X.env = (false, eval e X.env) :: starEach es X.env := by rfl) (hpl : (backTo cpos (starEach es X.env)).any (·.1) = false := by rfl) :
    PS X (.Raise (some (.Call (.Name x np) (e :: es) [] cpos)) none pos) (tRaise Kx C t) := by
  intro pins s σ H D I h
  obtain ⟨bm, N, nm, qn, bs, hdct, sn, sub, ab, col, dd, k0, k1, k2, k3, k5, mN, hC, hN, hni, T⟩ := exc_obj I.mod.kin c.ex
  refine wpAny_Raise_call_subT (C := C) (nm := nm) (q := qn) (N := N) (bs := bs) (bm := bm) (hdct := hdct) (sn := sn) (sub := sub) (ab := ab) (col := col) (dd := dd) (k0 := k0) (k1 := k1) (k2 := k2) (k3 := k3) (k5 := k5) (mN := mN) PySem.F.excBase_ValueError (T.hasType PySem.F.excBase_ValueError.hasBase) (I.ok.hd hc) (by rw [he]; show (false || (backTo cpos (starEach es X.env)).any (·.1)) = false; rw [hpl]; rfl) hni
    (ld_glob I hg c.m ⟨rfl, ?_⟩ hd)
  have q := ha cpos pins s σ H _ I h
  rw [he] at q ⊢
  refine Calls.evalArgs_plain (wpAny_mono q (fun us s2 hq => ?_) fun _ _ y => y)
  obtain ⟨vs, H1, I1, r, hl, hk⟩ := hq
  exact ⟨rfl, by rw [← r.length]; exact hl, I1.bk _ _ hC, hN.keeps I1.bk, T.keeps I1.bk, fun h' ea mk => hx pins σ H1 s2 h' ea (.ref C) us I1 mk hk⟩

theorem Inv.flown {X : Cx} {pins : List (Addr × Obj)} {σ : St} {H H' : Hp} {s s' : Shared} {B h5 : Heap} {ea : Addr} {cls : Value} (I : Inv X pins σ H s) (I' : Inv X pins σ H' s') (fly : Fly B X.stack s.heap H H' s'.heap ea cls)
    (st : B.StaysIn h5) (up : s'.heap.UpToSlots h5) : Inv X pins σ H' { s' with heap := h5 } := by
  obtain ⟨a0, hfl⟩ := fly.fl
  have nf : ∀ b, b ∉ X.fs → b ≠ X.env.locals → b ∉ frs X.stack := fun b h1 h2 z => by
    rcases List.mem_cons.mp (I.stkSub b z) with q | q
    · exact h2 q
    · exact h1 q
  have lt0 : ∀ b o, X.s₀.heap.get? b = some o → b ≠ X.env.locals := fun b o e => Nat.ne_of_lt (Nat.lt_of_lt_of_le (Heap.lt_size e) I.ok.above)
  have cellK : ∀ {c : Addr} {v : Option Value}, s'.heap.IsCell c v → h5.IsCell c v := fun {c v} ⟨o, ho, hd⟩ => by
    obtain ⟨sl, e⟩ := up c o ho fun vs z => by rw [hd] at z; cases z
    exact ⟨_, e, hd⟩
  have slotOf : ∀ b, b ∈ X.fs → ∀ o, s'.heap.get? b = some o → ∃ sl, h5.get? b = some { o with slots := sl } := fun b hb o e => by
    obtain ⟨_, o', ho', hd⟩ := I'.funs.mem hb
    rw [e] at ho'; cases ho'
    exact up b o e hd
  refine ⟨I'.ok, I'.os, I'.bare, ⟨fun b o e n hb hx => ?_, fun b o e n hb hx => ?_, I'.base.free, fun b o e hx => ?_, I'.base.tups, I'.base.frzs, I'.base.tbls⟩, ?_, fun x c e => ?_, I'.free, I'.freeC, fun p hp => ?_, I'.hok.flown fly.trk hfl.1 st, I'.len⟩
  · exact st b o (fly.kept b o (I.base.keep b o e n hb hx) (I.base.free b o e n hx) (nf b hb (lt0 b o e)))
  · obtain ⟨sl, e1⟩ := I'.base.slot b o e n hb hx
    obtain ⟨sl', e2⟩ := slotOf b hb _ e1
    exact ⟨sl', e2⟩
  · by_cases hb : b ∈ X.fs
    · obtain ⟨o1, e1⟩ := I'.base.there b o e hx
      obtain ⟨sl, e2⟩ := slotOf b hb _ e1
      exact ⟨_, e2⟩
    · obtain ⟨o1, e1⟩ := I.base.there b o e hx
      obtain ⟨o2, e2⟩ := fly.alive b o1 e1 (nf b hb (lt0 b o e))
      exact ⟨o2, st b o2 e2⟩
  · obtain ⟨m, hn, hl⟩ := I'.loc
    refine ⟨m, up.ns hn, fun i x v e1 e2 e3 => ?_⟩
    obtain ⟨u, r, l⟩ := hl i x v e1 e2 e3
    refine ⟨u, r, ?_⟩
    rcases l with l | ⟨k, c, e, z⟩
    · exact .inl l
    · exact .inr ⟨k, c, e, cellK z⟩
  · obtain ⟨v, z⟩ := I'.cell x c e
    exact ⟨v, cellK z⟩
  · obtain ⟨e, n, ne, nfs, d⟩ := I.pin p hp
    obtain ⟨_, n', _, _, _⟩ := I'.pin p hp
    exact ⟨st _ _ (fly.kept p.1 p.2 e n (nf p.1 nfs ne)), n', ne, nfs, d⟩

def excO (a : Addr) (C : Addr) : HO := .ext fun h => ∃ o vs, h.get? a = some o ∧ o.cls = .ref C ∧ o.data = .fields vs
theorem Inv.track {X : Cx} {pins : List (Addr × Obj)} {σ : St} {H : Hp} {s : Shared} {a : Addr} {u : HO} (I : Inv X pins σ H s) (hn : H a = none) (hL : a ≠ X.env.locals) (h0 : ∀ o, X.s₀.heap.get? a = some o → a ∈ X.ex)
    (hc : ∀ x c, X.env.cells.lookup x = some c → c ≠ a) (hp : ∀ p ∈ X.pn ++ pins, p.1 ≠ a) (ok : ∀ H', ObjOk X.prog X.w H' s.heap a u) : Inv X pins σ (upd H a u) s := by
  refine ⟨I.ok, I.os, I.bare, ⟨I.base.keep, I.base.slot, fun b o e n hx => ?_, I.base.there, fun b xs e => ?_, fun b o xs e => ?_, fun b ps e => ?_⟩, I.loc, I.cell, ?_, fun x c e => ?_, fun p hq => ?_, fun b o e => ?_, I.len⟩
  · have hb : b ≠ a := fun z => hx (by rw [z] at e ⊢; exact h0 o e)
    rw [upd_ne hb]
    exact I.base.free b o e n hx
  · have q := I.base.tups b xs e
    rw [upd_ne (ne_of_none q hn)]
    exact q
  · have q := I.base.frzs b o xs e
    rw [upd_ne (ne_of_none q hn)]
    exact q
  · obtain ⟨more, q⟩ := I.base.tbls b ps e
    exact ⟨more, by rw [upd_ne (ne_of_none q hn)]; exact q⟩
  · rw [upd_ne (Ne.symm hL)]
    exact I.free
  · rw [upd_ne (hc x c e)]
    exact I.freeC x c e
  · obtain ⟨e, n, r⟩ := I.pin p hq
    exact ⟨e, by rw [upd_ne (hp p hq)]; exact n, r⟩
  · by_cases hb : b = a
    · subst hb; rw [upd_same] at e; cases e; exact ok _
    · rw [upd_ne hb] at e
      exact (I.hok b o e).stay (fun c v _ q => q) (fun c q => by rw [upd_ne (ne_of_none q hn)]; exact q) fun c xs q => by rw [upd_ne (ne_of_none q hn)]; exact q
theorem Inv.nameGone {X : Cx} {pins : List (Addr × Obj)} {σ : St} {H : Hp} {s : Shared} {i : Nat} {n : Str} {pos : Pos} {M : Model} {A : Around} {E : Value → Shared → Prop} {Q : Unit → Shared → Prop} (I : Inv X pins σ H s) (hN : X.N.Nodup) (hi : X.N[i]? = some n)
    (hl : X.env.kindOf n = some .local) (h : ∀ s', Inv X pins (σ.set i none) H s' → Q () s') : wpAny M A (do bindName X.env n .none; unbindBehindTheSuite X.env n pos) Q E s := by
  obtain ⟨m, hn, hv⟩ := id I.loc
  have hcls : (X.env.scope.kind == .class || (X.env.scope.kind == .module && X.env.locals != X.env.globals)) = false := by rw [I.ok.kind]; rfl
  have cne := I.cne
  have hiσ : i < σ.length := by rw [I.len]; exact (List.getElem?_eq_some_iff.mp hi).1
  refine wpAny_nameGoes_keeps hl hn hcls fun h' v hn' hs => ?_
  obtain ⟨oL, _, _, hoL, _⟩ := id hn
  refine h _ ⟨I.ok, I.os, I.bare, ⟨fun b o e n hb hx => ?_, fun b o e n hb hx => ?_, I.base.free, fun b o e hx => ?_, I.base.tups, I.base.frzs, I.base.tbls⟩, ⟨_, hn', fun j y v' e1 e2 e3 => ?_⟩, fun y c e => ?_, I.free, I.freeC, fun p hp => ?_, fun b ob e => ?_, by simpa using I.len⟩
  · exact (hs.2 b (Nat.ne_of_lt (Nat.lt_of_lt_of_le (Heap.lt_size e) I.ok.above))).trans (I.base.keep b o e n hb hx)
  · obtain ⟨sl, e1⟩ := I.base.slot b o e n hb hx
    exact ⟨sl, (hs.2 b (Nat.ne_of_lt (Nat.lt_of_lt_of_le (Heap.lt_size e) I.ok.above))).trans e1⟩
  · obtain ⟨o', e1⟩ := I.base.there b o e hx
    exact ⟨o', (hs.2 b (Nat.ne_of_lt (Nat.lt_of_lt_of_le (Heap.lt_size e) I.ok.above))).trans e1⟩
  · by_cases hj : j = i
    · subst hj
      rw [List.getElem?_set_self hiσ] at e2
      cases e2
    · rw [List.getElem?_set_ne (Ne.symm hj)] at e2
      obtain ⟨u', r', q⟩ := hv j y v' e1 e2 e3
      refine ⟨u', r', ?_⟩
      rcases q with ⟨k, e⟩ | ⟨k, c, e, z⟩
      · refine .inl ⟨k, ?_⟩
        have : y ≠ n := fun e => hj (nodup_ix hN e1 (e ▸ hi))
        simp [this, e]
      · exact .inr ⟨k, c, e, z.sameBut hs (cne y c e)⟩
  · obtain ⟨w', z⟩ := I.cell y c e
    exact ⟨w', z.sameBut hs (cne y c e)⟩
  · obtain ⟨e, n, ne, nf, d⟩ := I.pin p hp
    exact ⟨(hs.2 p.1 ne).trans e, n, ne, nf, d⟩
  · refine (I.hok b ob e).stay (fun c w' hc q => (hs.2 c ?_).trans q) (fun _ q => q) fun _ _ q => q
    rintro rfl
    rcases hc with rfl | hc
    · rw [I.free] at e; cases e
    · rw [I.free] at hc; cases hc

structure XH (K : PySem.W.Frag) (mg : Str → Option Value) (x : Str) (D : Addr) : Prop where
  m : mg x = some (.ref D)
  ty : PySem.W.typeIn K (.ref D) = some (.type "type")
  cl : ∃ cd, PySem.W.clsIn K D = some cd
  be : PySem.W.mroIn K D (.type "BaseException") = some true
def XSub (K : PySem.W.Frag) (C D : Addr) : Prop := PySem.W.mroIn K C (.ref D) = some true
theorem exc_match {K : PySem.W.Frag} {M : Model} {A : Around} {E : Value → Shared → Prop} {Q : Bool → Shared → Prop} {s : Shared} {mg : Str → Option Value} {x : Str} {ea C D : Addr} {o : Obj} (hin : K.In s.heap) (c : XH K mg x D) (sub : XSub K C D)
    (ho : s.heap.get? ea = some o) (hcl : o.cls = .ref C) (q : Q true s) : wpAny M A (excMatches (.ref ea) (.ref D)) Q E s := by
  obtain ⟨cd, hcd⟩ := c.cl
  have L1 := PySem.W.looks_typeIn (M := M) hin c.ty
  have L2' := PySem.W.looks_mroIn (M := M) hin c.be
  have L3 := PySem.W.looks_mroIn (M := M) hin sub
  have L4 : PySem.W.Looks M s.heap (typeOf (.ref ea)) (.ref C) := hcl ▸ (PySem.W.Looks.ld ho).andThen .now
  have L5 : PySem.W.Looks M s.heap (isType (.ref D)) true := by
    unfold PySem.W.clsIn at hcd
    split at hcd
    · rename_i ho'
      intro A' Q' E' s' k q'
      unfold isType loadHead
      exact wpAny_bind (wpAny_loadPart (k _ _ (hin _ _ ho')) (wpAny_pure q'))
    · cases hcd
  have L6 : PySem.W.Looks M s.heap (isExcClass (.ref D)) true := L5.andThen L2'
  obtain ⟨h, g, d, t, os⟩ := s
  have f := tc_notTuple
  unfold excMatches isInstance
  refine wpAny_bind (wpAny_bind (L1.at ?_))
  rw [f]
  refine wpAny_pure ?_
  simp only [Bool.false_eq_true, if_false]
  refine wpAny_bind (wpAny_pure ?_)
  rw [List.forIn_cons]
  refine wpAny_bind (wpAny_bind (wpAny_bind (L6.at ?_)))
  simp only [Bool.not_true, Bool.false_eq_true, if_false]
  refine wpAny_pure ?_
  dsimp only
  rw [List.forIn_nil]
  refine wpAny_pure ?_
  refine wpAny_bind (L4.at ?_)
  rw [List.forIn_cons]
  refine wpAny_bind (wpAny_bind (wpAny_bind (L3.at ?_)))
  simp only [if_true]
  refine wpAny_pure ?_
  dsimp only
  refine wpAny_pure ?_
  exact wpAny_pure q
end L2
namespace L2
open PySem PySem.Spec PyProof.Rows
def kdO : Option HO → String
  | some (.lst _) => "list"
  | some (.frz _ (.lst _)) => "list"
  | some (.tup _) => "tuple"
  | some (.dK _) => "dict"
  | some (.dT _) => "dict"
  | _ => ""
def kd (H : Hp) : V → String
  | .non => "NoneType"
  | .bl _ => "bool"
  | .int _ => "int"
  | .str _ => "str"
  | .ref a => kdO (H a)
  | _ => ""
def Kn (H : Hp) (x : V) : Prop := kd H x ≠ ""
def isTy (n : String) (H : Hp) (x : V) : Bool := kd H x == n || (kd H x == "bool" && n == "int")
theorem kd_ty {K : PySem.W.Frag} {H : Hp} {x : V} (h : Kn H x) : TyOf K H x (.type (kd H x)) := by
  cases x with
  | non => exact .non
  | bl b => exact .bl b
  | int i => exact .int i
  | str s => exact .str s
  | ref a =>
    have h : kdO (H a) ≠ "" := h
    show TyOf K H (.ref a) (.type (kdO (H a)))
    cases e : H a with
    | none => rw [e] at h; exact absurd rfl h
    | some o =>
      rw [e] at h
      cases o with
      | lst xs => exact .lst e
      | tup xs => exact .tup e
      | dK k => exact .dK e
      | dT k => exact .dT e
      | frz ob u =>
        cases u with
        | lst xs => exact .frz e
        | _ => exact absurd rfl h
      | _ => exact absurd rfl h
  | _ => exact absurd rfl h
theorem kdO_cases (o : Option HO) : kdO o = "" ∨ kdO o = "list" ∨ kdO o = "tuple" ∨ kdO o = "dict" := by
  unfold kdO
  split <;> simp
theorem Kn.cases {H : Hp} {x : V} (h : Kn H x) : kd H x = "NoneType" ∨ kd H x = "bool" ∨ kd H x = "int" ∨ kd H x = "str" ∨ kd H x = "list" ∨ kd H x = "tuple" ∨ kd H x = "dict" := by
  cases x with
  | ref a =>
    have h : kdO (H a) ≠ "" := h
    show kdO (H a) = _ ∨ kdO (H a) = _ ∨ kdO (H a) = _ ∨ kdO (H a) = _ ∨ kdO (H a) = _ ∨ kdO (H a) = _ ∨ kdO (H a) = _
    rcases kdO_cases (H a) with e | e | e | e
    · exact absurd e h
    · exact .inr (.inr (.inr (.inr (.inl e))))
    · exact .inr (.inr (.inr (.inr (.inr (.inl e)))))
    · exact .inr (.inr (.inr (.inr (.inr (.inr e)))))
  | non => exact .inl rfl
  | bl b => exact .inr (.inl rfl)
  | int i => exact .inr (.inr (.inl rfl))
  | str z => exact .inr (.inr (.inr (.inl rfl)))
  | _ => exact absurd rfl h
theorem kit_scal (K : PySem.W.Frag) : ∀ k ∈ ["NoneType", "bool", "int", "str", "list", "tuple", "dict"], ∀ n ∈ ["bool", "int", "str", "list", "tuple", "dict"], PySem.W.kitOne K (.type k) (.type n) = some (k == n || (k == "bool" && n == "int")) := by
  have e : ∀ k ∈ ["NoneType", "bool", "int", "str", "list", "tuple", "dict"], ∀ n ∈ ["bool", "int", "str", "list", "tuple", "dict"], (if (Value.type k == Value.type n) = true then some true else if PySem.W.kitMeta n = true then (fastBuiltinMro k).map (·.contains (.type n)) else none) = some (k == n || (k == "bool" && n == "int")) := by decide +kernel
  exact fun k hk n hn => e k hk n hn
theorem call_isi {X : Cx} : CallR X (.builtin "isinstance") (fun xs H Q => ∃ x n, xs = [x, .ty n] ∧ n ∈ ["bool", "int", "str", "list", "tuple", "dict"] ∧ Kn H x ∧ Q (.bl (isTy n H x)) H) := by
  intro pins s σ H xs us Q I r h
  obtain ⟨x, n, rfl, hn, hk, q⟩ := h
  cases r with
  | cons r1 rr =>
    cases rr with
    | cons r2 rr =>
      cases rr
      cases r2
      refine isinst_ok I r1 (kd_ty hk) (kit_scal X.K _ ?_ n hn) fun tk => ⟨.bl _, H, I.tok tk, rfl, q⟩
      rcases hk.cases with e | e | e | e | e | e | e <;> rw [e] <;> simp
theorem op_neg {X : Cx} : UnR X (unaryOp .USub) (rU fun i => .int (-i)) := by
  intro pins s σ H x v Q I rx h
  obtain ⟨i, rfl, q⟩ := h
  obtain ⟨t, rfl⟩ := rx
  exact neg_int ⟨.int _, H, I.tok _, ⟨_, rfl⟩, q⟩
end L2
namespace L2
open PySem PySem.Spec PyProof.Rows
theorem pe_dispE {X : Cx} {pos : Pos} {keys : List (Option Expr)} {values : List Expr} {trs : List (TE × TE)} (h : PPs X pos keys values trs) (h1 : (keys.all (·.isSome)) = true := by rfl) (h2 : keys.length = values.length := by rfl) (h3 : keys ≠ [] := by exact (fun z => nomatch z))
    (h4 : keys.length ≤ 15 := by decide) : PE X (.Dict keys values pos) (tDisp trs) := pe_disp h h1 h2 h3 h4
theorem kn_int {H : Hp} {i : Int} : Kn H (.int i) ↔ True := ⟨fun _ => trivial, fun _ => (by decide : "int" ≠ "")⟩
theorem cxOf_K {CX : CXT} {P : Program} {w : World} {K : PySem.W.Frag} {mg : Str → Option Value} {base : Heap} {N : List Str} {qual : Str} {scope : Scope} {f : Addr} {cd : Value} {A : Around} {outer : List Env} {s : Shared} {H : Hp} {E : XK} :
    (cxOf CX P w K mg base N qual scope f cd A outer s H E).K = K := rfl
def whole : V → Bool
  | .int _ => true
  | _ => false
def within (x : V) (l h : Int) : Bool := match x with
  | .int i => decide (l ≤ i) && decide (i ≤ h)
  | _ => false
theorem within_int {i l h : Int} : within (.int i) l h = (decide (l ≤ i) && decide (i ≤ h)) := rfl
theorem isTy_whole {H : Hp} {x : V} (h : Kn H x) : (isTy "int" H x && !isTy "bool" H x) = whole x := by
  cases x with
  | ref a =>
    have h : kdO (H a) ≠ "" := h
    have e : kd H (.ref a) = kdO (H a) := rfl
    unfold isTy
    rw [e]
    rcases kdO_cases (H a) with e | e | e | e <;> rw [e] <;> first | rfl | exact absurd e h
  | _ => first | rfl | exact absurd rfl h
end L2
namespace L2
open PySem PySem.Spec PyProof.Rows
inductive Hid (t u : TS) : Type where
  | mk : Hid t u
def tCut (t u : TS) (_ : Hid t u) : TS := fun D σ H => ∃ M : St → Hp → Prop, t { D with nx := M } σ H ∧ ∀ σ' H', M σ' H' → u D σ' H'
theorem pss_cut {X : Cx} {st : Stmt} {rest : List Stmt} {t u : TS} (h1 : PS X st t) (h2 : PSs X rest u) : PSs X (st :: rest) (tCut t u .mk) := by
  intro pins s σ H D I h
  obtain ⟨M, h, hM⟩ := h
  refine wpAny_execs_cons (thn (h1 pins s σ H { D with nx := M } I h) fun f s1 q => ?_)
  cases f with
  | next =>
    obtain ⟨σ', H', I', q⟩ := q
    exact h2 pins s1 σ' H' D I' (hM σ' H' q)
  | ret v => exact q
  | brk => exact q
  | cont => exact q
def lstO : Option HO → Option (List V)
  | some (.lst xs) => some xs
  | some (.frz _ (.lst xs)) => some xs
  | _ => none
def tupO : Option HO → Option (List V)
  | some (.tup xs) => some xs
  | some (.frz _ (.tup xs)) => some xs
  | _ => none
theorem lstO_lst {xs : List V} : lstO (some (.lst xs)) = some xs := rfl
theorem tupO_tup {xs : List V} : tupO (some (.tup xs)) = some xs := rfl
theorem scal_ii {i j : Int} : scal (.int i) (.int j) = true := rfl
theorem scal_bb {i j : Bool} : scal (.bl i) (.bl j) = true := rfl
theorem scal_ss {i j : Str} : scal (.str i) (.str j) = true := rfl
theorem na10 : Int.natAbs 10 = 10 := rfl
theorem same_refl {H : Hp} : Same H H := fun _ _ h => h
theorem same_upd {H H' : Hp} {p : Addr} {o : HO} (s : Same H H') (h : H' p = none) : Same H (upd H' p o) := fun b u e => by
  have q := s b u e
  rw [upd_ne (ne_of_none q h)]
  exact q
end L2
namespace L2
open PySem PySem.Spec PyProof.Rows
end L2
namespace L2
open PySem PySem.Spec PyProof.Rows
inductive HidF (g : TG) (tb : TS) : Type where
  | mk : HidF g tb
def Loop (g : TG) (tb : TS) (_ : HidF g tb) (J : It) : TS := fun D σ H => ∃ W : Nat → Nat → St → Hp → Prop, (∃ m, W 0 m σ H) ∧ ∀ i m σ H, W i m σ H →
  (J.stop i H ∧ D.nx σ H) ∨ (J.go i H ∧ ∃ N : St → Hp → Prop, (∀ σ' H', N σ' H' → ∃ m', m' < m ∧ W (i + 1) m' σ' H') ∧ ∀ x H', J.yld i H x H' → g x σ H' fun σ2 H2 => tb { D with nx := N, ct := N, bk := D.nx } σ2 H2)
def tForE (wi : TI) (g : TG) (tb : TS) (h : HidF g tb) : TS := fun D σ H => wi σ H fun J H1 => Loop g tb h J D σ H1
theorem ps_forE {X : Cx} {tg iter : Expr} {body : List Stmt} {wi : TI} {g : TG} {tb : TS} {pos : Pos} (hp : PassesOwn (model X.prog X.w) X.A X.env X.xe) (hc : X.calm = true) (hi : PI X tg iter wi) (hg : PG X tg g) (hb : PSs X body tb)
    (hs : ∀ x, foldedSetIterable iter X.env x = pure x := by intro _; rfl) : PS X (.For tg iter body [] pos) (tForE wi g tb .mk) := ps_for hp hc hi hg hb hs
theorem loop_range {lo : Int} {n : Nat} {g : TG} {tb : TS} {h : HidF g tb} {D : Ends} {σ : St} {H : Hp} (Pv : Nat → St → Hp → Prop) (h0 : Pv 0 σ H)
    (hs : ∀ i σ H, i < n → Pv i σ H → g (.int (lo + i)) σ H fun σ2 H2 => tb { D with nx := Pv (i + 1), ct := Pv (i + 1), bk := D.nx } σ2 H2) (hd : ∀ σ H, Pv n σ H → D.nx σ H) : Loop g tb h (Itr lo n) D σ H := for_range Pv h0 hs hd
theorem loop_list {K : PySem.W.Frag} {a : Addr} {xs : List V} {g : TG} {tb : TS} {h : HidF g tb} {D : Ends} {σ : St} {H : Hp} (Pv : Nat → St → Hp → Prop) (h0 : Pv 0 σ H) (hl : ∀ i σ H, i ≤ xs.length → Pv i σ H → SqL K H a xs)
    (hs : ∀ i x σ H, xs[i]? = some x → Pv i σ H → g x σ H fun σ2 H2 => tb { D with nx := Pv (i + 1), ct := Pv (i + 1), bk := D.nx } σ2 H2) (hd : ∀ σ H, Pv xs.length σ H → D.nx σ H) : Loop g tb h (Itl K a) D σ H := for_list Pv h0 hl hs hd
def pw (n : Int) : Int := 2 ^ n.toNat
theorem pw_nat (n : Nat) : pw (n : Int) = 2 ^ n := by unfold pw; rw [Int.toNat_natCast]
theorem pw_succ (n : Nat) : pw ((n + 1 : Nat) : Int) = pw (n : Int) * 2 := by rw [pw_nat, pw_nat, Int.pow_succ]
theorem pw_pos (n : Int) : 1 ≤ pw n := by
  unfold pw
  generalize n.toNat = k
  induction k with
  | zero => decide
  | succ k ih => rw [Int.pow_succ]; omega
theorem pwN_le {n m : Nat} (h : n ≤ m) : pw (n : Int) ≤ pw (m : Int) := by
  induction m with
  | zero => have : n = 0 := by omega
            subst this; exact Int.le_refl _
  | succ k ih =>
    rcases (by omega : n ≤ k ∨ n = k + 1) with e | e
    · have := ih e; have := pw_pos k; rw [pw_succ]; omega
    · subst e; exact Int.le_refl _
theorem mul_24 {x y : Int} (h1 : 2 ≤ x) (h2 : x ≤ 3) (h3 : 1 ≤ y) (h4 : y ≤ 8) : 2 ≤ x * y ∧ x * y ≤ 24 := by
  rcases (by omega : x = 2 ∨ x = 3) with e | e <;> subst e <;> omega
end L2
namespace L2
open PySem PySem.Spec PyProof.Rows
theorem lt_putF {f : Str} {v : V} {n : Nat} : ∀ {fs : List (Str × V)}, fs.length < n → (putF f v fs).length < n + 1
  | [], _ => by show 1 < n + 1; rename_i h; simp at h; omega
  | (g, x) :: r, h => by
    unfold putF
    split
    · exact Nat.lt_succ_of_lt h
    · cases n with
      | zero => exact absurd h (Nat.not_lt_zero _)
      | succ m => exact Nat.succ_lt_succ (lt_putF (Nat.lt_of_succ_lt_succ h))
end L2
namespace L2
open PySem PySem.Spec PyProof.Rows
end L2
namespace L2
open PySem PySem.Spec PyProof.Rows
end L2
namespace L2
open PySem PySem.Spec PyProof.Rows
end L2
namespace L2
open PySem PySem.Spec PyProof.Rows
end L2
namespace L2
open PySem PySem.Spec PyProof.Rows
section
variable {X : Cx} {pins pins2 : List (Addr × Obj)} {σ : St} {H : Hp} {s : Shared} {E' : Value → Shared → Prop}
theorem Cx.Ok.re {pn : List (Addr × Obj)} (ok : X.Ok) : ({ X with xe := E', pn := pn } : Cx).Ok :=
  ⟨ok.mod, ok.kind, ok.glob, ok.blt, ok.above, ok.inj, ok.has, ok.cab, ok.hd, ok.frames, ok.stk, ok.exf, ok.bs, ok.bsz, ok.noex, ok.exfs, ok.funs, ok.frf⟩
theorem Inv.re (I : Inv X pins σ H s) : Inv { X with xe := E', pn := X.pn ++ pins } [] σ H s :=
  ⟨I.ok.re, I.os, I.bare, I.base, I.loc, I.cell, I.free, I.freeC, fun p hp => I.pin p (by rw [List.append_nil] at hp; exact hp), I.hok, I.len⟩
theorem Inv.unre (ok : X.Ok) (I : Inv { X with xe := E', pn := X.pn ++ pins } pins2 σ H s) : Inv X pins σ H s :=
  ⟨ok, I.os, I.bare, I.base, I.loc, I.cell, I.free, I.freeC, fun p hp => I.pin p (List.mem_append_left _ hp), I.hok, I.len⟩
theorem Inv.marked {v : Option Value} (I : Inv X pins σ H s) : Inv { X with A := X.A.mark v, calm := false, xe := E' } pins σ H s :=
  ⟨⟨I.ok.mod, I.ok.kind, I.ok.glob, I.ok.blt, I.ok.above, I.ok.inj, I.ok.has, I.ok.cab, fun z => Bool.noConfusion z, I.ok.frames, I.ok.stk, I.ok.exf, I.ok.bs, I.ok.bsz, I.ok.noex, I.ok.exfs, I.ok.funs, I.ok.frf⟩,
    I.os, I.bare, I.base, I.loc, I.cell, I.free, I.freeC, I.pin, I.hok, I.len⟩
theorem Inv.unmarked {v : Option Value} (ok : X.Ok) (I : Inv { X with A := X.A.mark v, calm := false, xe := E' } pins σ H s) : Inv X pins σ H s :=
  ⟨ok, I.os, I.bare, I.base, I.loc, I.cell, I.free, I.freeC, I.pin, I.hok, I.len⟩
end
def tTryAs (K : PySem.W.Frag) (D : Addr) (i : Nat) (tb : XKs → TS) (to th : TS) : TS := fun Dn σ H =>
  tb (fun cls σ' H' => ∃ C, cls = .ref C ∧ XSub K C D ∧ ∀ ea, H' ea = none → th { nx := fun σ2 H2 => Dn.nx (σ2.set i none) H2, rt := Dn.rt, bk := fun σ2 H2 => Dn.bk (σ2.set i none) H2, ct := fun σ2 H2 => Dn.ct (σ2.set i none) H2 }
    (σ'.set i (some (.ref ea))) (upd H' ea (excO ea C))) { Dn with nx := to Dn } σ H
theorem ps_try_as {X : Cx} {i : Nat} {n x : Str} {D : Addr} {body orelse : List Stmt} {b₀ : Stmt} {suite : List Stmt} {np hpos pos : Pos} {tb : XKs → TS} {to th : TS}
    (hN : X.N.Nodup) (hi : X.N[i]? = some n) (hlo : X.env.kindOf n = some .local) (c : XH X.K X.mg x D)
    (hb : ∀ (E' : Value → Shared → Prop) (pn : List (Addr × Obj)) (Kx : XKs), PassesOwn (model X.prog X.w) X.A X.env E' → XW { X with xe := E', pn := pn } Kx → PSs { X with xe := E', pn := pn } body (tb Kx))
    (ho : PSs X orelse to) (hh : ∀ ea : Addr, PSs { X with A := X.A.mark (some (.ref ea)), calm := false, xe := fun _ _ => False } (b₀ :: suite) th)
    (hg : Gl X x := by rfl) (hst : X.stack = X.env :: X.outer := by rfl) (hfm : X.env.frame = some X.env.locals := by rfl) (hd : (x == ("__debug__" : Str)) = false := by decide) :
    PS X (.Try body [.ExceptHandler (some (.Name x np)) (some n) (b₀ :: suite) hpos] orelse [] pos) (tTryAs X.K D i tb to th) := by
  intro pins s σ H Dn I h
  refine wpAny_Try_except ?_
  have xw : XW { X with xe := (fun e s₁ => wpAny (model X.prog X.w) X.A (noteFrame e X.env) (fun _ s₂ => wpAny (model X.prog X.w) X.A (setFlight e none) (fun _ s₃ =>
      wpAny (model X.prog X.w) X.A (handleBy e X.env [.ExceptHandler (some (.Name x np)) (some n) (b₀ :: suite) hpos]) (SP X pins Dn) X.xe s₃) X.xe s₂) X.xe s₁), pn := X.pn ++ pins }
      (fun cls σ' H' => ∃ C, cls = .ref C ∧ XSub X.K C D ∧ ∀ ea, H' ea = none → th { nx := fun σ2 H2 => Dn.nx (σ2.set i none) H2, rt := Dn.rt, bk := fun σ2 H2 => Dn.bk (σ2.set i none) H2, ct := fun σ2 H2 => Dn.ct (σ2.set i none) H2 }
        (σ'.set i (some (.ref ea))) (upd H' ea (excO ea C))) := by
    intro pins2 σ2 H2 s2 s' ea cls H' B I2 os bare un hok fly hK
    obtain ⟨C, rfl, hsub, hK⟩ := hK
    have J2 : Inv X pins σ2 H2 s2 := I2.unre I.ok
    have J' : Inv X pins σ2 H' s' := J2.call' (s' := s') (ch := []) os un hok bare (fun b z => absurd z (by simp))
    have fly : Fly B X.stack s2.heap H2 H' s'.heap ea (.ref C) := fly
    obtain ⟨a0, hfl⟩ := id fly.fl
    have hfr := I.ok.frames
    rw [hst] at hfr hfl
    show wpAny (model X.prog X.w) X.A (noteFrame (.ref ea) X.env) _ X.xe s'
    refine wpAny_looks_onW hfr hfm hfl fun h4 held4 up4 => ?_
    refine wpAny_landsW held4 fun h5 fl5 up5 => ?_
    have J5 : Inv X pins σ2 H' { s' with heap := h5 } := Inv.flown J2 J' fly fl5.1 (up4.trans up5)
    obtain ⟨oe, vs5, hoe, hoc, hod, _⟩ := fl5.first
    refine wpAny_handleBy_cons (codeAny_handlers_test (ld_glob (X := { X with A := X.A.mark (some (.ref ea)), calm := false, xe := fun _ _ => False }) (J5.marked (v := some (.ref ea))) hg c.m ?_ hd)) (by intro q; cases q)
    refine exc_match (x := x) (mg := X.mg) J5.kIn c hsub hoe hoc ?_
    refine codeAny_handlers_suite_as ?_
    refine lands_againW fl5 fun h6 fl6 up6 => ?_
    have J6 : Inv X pins σ2 H' { s' with heap := h6 } := Inv.flown J2 J' fly fl6.1 ((up4.trans up5).trans up6)
    obtain ⟨o6, vs6, ho6, hc6, hd6, _⟩ := fl6.first
    have hne : H' ea = none := by
      cases z : H' ea with
      | none => rfl
      | some u =>
        obtain ⟨o, e⟩ := fly.trk ea u z
        rw [fl6.2.1] at e; cases e
    have nB : ∀ b o, B.get? b = some o → b ≠ ea := fun b o e z => by rw [z, fl6.2.1] at e; cases e
    have J7 : Inv X pins σ2 (upd H' ea (excO ea C)) { s' with heap := h6 } := by
      refine J6.track hne ?_ ?_ ?_ ?_ ?_
      · intro z
        obtain ⟨m, ⟨oL, es, ep, hoL, hdL, _⟩, _⟩ := J6.loc
        rw [← z] at hoL
        have e := ho6.symm.trans hoL
        cases e
        rw [hd6] at hdL; cases hdL
      · intro o e
        by_cases hx : ea ∈ X.ex
        · exact hx
        · exfalso
          by_cases hf : ea ∈ X.fs
          · obtain ⟨_, o', ho', hnf⟩ := J6.funs.mem hf
            have e := ho6.symm.trans ho'
            cases e
            exact hnf _ hd6
          · obtain ⟨o1, e1⟩ := J2.base.there ea o e hx
            have hl : ea ≠ X.env.locals := Nat.ne_of_lt (Nat.lt_of_lt_of_le (Heap.lt_size e) I.ok.above)
            obtain ⟨o2, e2⟩ := fly.alive ea o1 e1 fun z => by
              rcases List.mem_cons.mp (J2.stkSub ea z) with q | q
              · exact hl q
              · exact hf q
            exact nB ea o2 e2 rfl
      · intro x' c' e z
        obtain ⟨v, o, ho, hdc⟩ := J6.cell x' c' e
        rw [z] at ho
        have e := ho6.symm.trans ho
        cases e
        rw [hd6] at hdc; cases hdc
      · intro p hp
        obtain ⟨e, nn, ne, nfs, _⟩ := J2.pin p hp
        exact nB p.1 p.2 (fly.kept p.1 p.2 e nn fun z => by
          rcases List.mem_cons.mp (J2.stkSub p.1 z) with q | q
          · exact ne q
          · exact nfs q)
      · intro H0
        exact ⟨⟨o6, vs6, ho6, hc6, hd6⟩, ⟨o6, ho6⟩, fun h1 h2 ⟨o, vs, a1, a2, a3⟩ k => ⟨o, vs, k o a1, a2, a3⟩⟩
    refine store_ok J7 hN hi (Or.inl hlo) (v := .ref ea) rfl (fun s7 J8 => ?_) (.inr hlo)
    refine wpAny_mono (hh ea pins s7 _ _ _ (J8.marked (v := some (.ref ea))) (hK ea hne)) (fun f s8 hq => ?_) (fun _ _ z => z.elim)
    show wpAny (model X.prog X.w) X.A (do bindName X.env n .none; unbindBehindTheSuite X.env n hpos) (fun _ s₃ => SP X pins Dn f s₃) X.xe s8
    cases f with
    | next =>
      obtain ⟨σ', H2', I3, q⟩ := hq
      exact (I3.unmarked I.ok).nameGone hN hi hlo fun s9 I9 => ⟨_, H2', I9, q⟩
    | brk =>
      obtain ⟨σ', H2', I3, q⟩ := hq
      exact (I3.unmarked I.ok).nameGone hN hi hlo fun s9 I9 => ⟨_, H2', I9, q⟩
    | cont =>
      obtain ⟨σ', H2', I3, q⟩ := hq
      exact (I3.unmarked I.ok).nameGone hN hi hlo fun s9 I9 => ⟨_, H2', I9, q⟩
    | ret u =>
      obtain ⟨v, σ', H2', I3, r, q⟩ := hq
      exact (I3.unmarked I.ok).nameGone hN hi hlo fun s9 I9 => ⟨v, _, H2', I9, r, q⟩
  have q := hb _ (X.pn ++ pins) _ PassesOwn.looking xw [] s σ H { Dn with nx := to Dn } I.re h
  refine wpAny_mono q (fun f s1 hq => ?_) (fun e s1 hq => hq)
  cases f with
  | next =>
    obtain ⟨σ', H', I1, q1⟩ := hq
    exact ho pins s1 σ' H' Dn (I1.unre I.ok) q1
  | brk => obtain ⟨σ', H', I1, q1⟩ := hq; exact ⟨σ', H', I1.unre I.ok, q1⟩
  | cont => obtain ⟨σ', H', I1, q1⟩ := hq; exact ⟨σ', H', I1.unre I.ok, q1⟩
  | ret u => obtain ⟨v, σ', H', I1, r, q1⟩ := hq; exact ⟨v, σ', H', I1.unre I.ok, r, q1⟩
end L2
namespace PySem.W
open PySem PySem.Spec PySem.Calls PyProof.Rows
open Builtin Builtin.ObjectAttr Builtin.Getset_descriptor
structure XIs (K : Frag) (C : Addr) : Prop where
  g : findIn K (.ref C) "__getattribute__" = some (some (.builtin "BaseException.__getattribute__"))
  h : findIn K (.ref C) "__getattr__" = some none
  b : mroIn K C (.type "BaseException") = some true
  d : hasDictIn K C = true
  a : findIn K (.ref C) "__class__" = some (some (.builtin "object.__class__"))
  n : specialIn K (.builtin "object.__class__") "__get__" = some (some (.builtin "getset_descriptor.__get__"))
  t : takesIn K (.builtin "object.__class__") = some true
  m : mroIn K C (.type "object") = some true
def ExcAt (e C : Addr) (h : Heap) : Prop := ∃ o, h.get? e = some o ∧ o.cls = .ref C
section
variable {K : Frag} {e C : Addr}
theorem ExcAt.ty {M : Model} {h : Heap} (p : ExcAt e C h) : Looks M h (typeOf (.ref e)) (.ref C) := by
  obtain ⟨o, h1, h2⟩ := p
  exact h2 ▸ (Looks.ld h1).andThen .now
theorem xcl {M : Model} {h : Heap} (hin : K.In h) (x : XIs K C) : Looks M h (isType (.ref C)) true := by
  obtain ⟨cd, hcd, _⟩ := any_some x.d
  unfold clsIn at hcd
  split at hcd
  · rename_i ho'
    intro A' Q' E' s' k q'
    unfold isType loadHead
    exact wpAny_bind (wpAny_loadPart (k _ _ (hin _ _ ho')) (wpAny_pure q'))
  · cases hcd
theorem xfind {M : Model} {h : Heap} (hin : K.In h) (x : XIs K C) : Looks M h (find (.ref e) (.ref C) "__class__") (.bind (.builtin "getset_descriptor.__get__") (.builtin "object.__class__")) := by
  have A1 := looks_findIn (M := M) hin x.a
  have A2 : Looks M h (getOf (some (.builtin "object.__class__"))) (some (.builtin "getset_descriptor.__get__")) := looks_specialIn hin x.n
  have A3 := looks_takesIn (M := M) hin x.t
  exact A1.andThen (A2.andThen ((show Looks M h (dataDescriptor? (some (.builtin "object.__class__")) (some (.builtin "getset_descriptor.__get__"))) (some _) from A3.andThen .now).andThen (Looks.tag .now)))
variable {prog : Program} {w : World} {A : Around} {E : Value → Shared → Prop} {s : Shared}
theorem xget {R : Result → Shared → Prop} {tp : Value} (hin : K.In s.heap) (p : ExcAt e C s.heap) (x : XIs K C) (h : R (.ok (.ret (.ref C))) s) :
    codeAny (model prog w) A (.call (.builtin "getset_descriptor.__get__") ⟨[.builtin "object.__class__", .ref e, tp], []⟩) R s := by
  obtain ⟨hh, g, dr, t, os⟩ := s
  have B0 := p.ty (M := model prog w)
  have B1 := looks_mroIn (M := model prog w) hin x.m
  refine codeAny_call_builtin KF.slot_gs.plain KF.entry_gs (KF.slot_gs.check _ _ _ _ _ _ _ _ KF.type_class (KF.args_gs _ _ _) ?_)
  unfold Builtin.«getset_descriptor.__get__» descrGet
  rw [dga_obj]
  refine wpAny_bind (wpAny_pure ?_)
  unfold descrGetter descrCheckInstance descrNameAndClass isInstance
  simp only [KF.owner_class]
  repeat lk
  refine ⟨Code.quiet_builtin _ (by decide +kernel), codeAny_builtin KF.entry_class ?_⟩
  unfold Builtin.«object.__class__» shownTypeOf
  repeat lk
  exact h
theorem xcheck {M : Model} {nameV : Value} {Q : Unit → Shared → Prop} (hin : K.In s.heap) (p : ExcAt e C s.heap) (x : XIs K C) (hq : Q () s) : wpAny M A (checkBuiltinCall "BaseException.__getattribute__" ⟨[.ref e, nameV], []⟩) Q E s := by
  have c1 : builtinKind "BaseException.__getattribute__" = some .slot := by decide +kernel
  have c2 : splitId "BaseException.__getattribute__" = some ("BaseException", "__getattribute__") := by decide +kernel
  have c3 := F.args_bexc_ga (.ref e) nameV
  obtain ⟨hh, g, d, t, os⟩ := s
  have B0 := p.ty (M := M)
  have B1 := looks_mroIn (M := M) hin x.b
  have B2 : Looks M hh (isInstance (.ref e) (.type "BaseException")) true := B0.andThen B1
  simp only [checkBuiltinCall, c1, c2]
  refine wpAny_bind (B2.at ?_)
  simp only [Bool.not_true, Bool.false_eq_true, if_false]
  exact wpAny_of_eq c3 hq
theorem xentry {tk : Tok} {Q : Fin → Shared → Prop} (hin : K.In s.heap) (p : ExcAt e C s.heap) (x : XIs K C) (hq : Q (.done (.ret (.ref C))) s) : wpAny (model prog w) A (Builtin.«object.__getattribute__» ⟨[.ref e, .str "__class__" tk], []⟩) Q E s := by
  obtain ⟨hh, g, d, t, os⟩ := s
  have B0 := p.ty (M := model prog w)
  have B2 := xfind (M := model prog w) (e := e) hin x
  unfold Builtin.«object.__getattribute__»
  refine wpAny_bind (wpAny_pure (a := (Value.ref e, [Value.str "__class__" tk])) ?_)
  refine wpAny_bind (wpAny_pure (a := ("__class__" : Str)) ?_)
  refine wpAny_bind (B0.at (wpAny_bind (B2.at ?_)))
  show wpAny _ _ (bindTo (Value.builtin "getset_descriptor.__get__") (Value.builtin "object.__class__") (Value.ref e) (Value.ref C)) _ _ _
  unfold bindTo
  dsimp only
  refine wpAny_bind (wpAny_holding (wpAny_call (xget (s := ⟨hh, g, d, t, os⟩) hin p x ?_)))
  exact wpAny_pure hq
theorem xca {Q : Option Value → Shared → Prop} (hin : K.In s.heap) (p : ExcAt e C s.heap) (x : XIs K C) (h : Q (some (.ref C)) { s with toks := s.toks + 1 }) : wpAny (model prog w) A (getAttr? (.ref e) "__class__") Q E s := by
  obtain ⟨hh, g, d, t, os⟩ := s
  have B0 := p.ty (M := model prog w)
  have B1 := looks_findIn (M := model prog w) hin x.g
  have B3 := looks_findIn (M := model prog w) hin x.h
  unfold getAttr? getAttrBy? getAttrBy
  refine wpAny_bind (wpAny_mkText (wpAny_bind (wpAny_attempt (wpAny_holding (wpAny_bind (B0.at (wpAny_bind (B1.at ?_))))))))
  have c2 : (Value.builtin "BaseException.__getattribute__" == Value.builtin "object.__getattribute__") = false := by decide +kernel
  simp only [c2, Bool.and_false, Bool.false_eq_true, if_false]
  unfold getAttrByItsOwn hookBefore
  rw [if_pos (show onTheHeap (Value.ref C) = true from rfl)]
  refine wpAny_bind (B3.at (wpAny_bind (wpAny_attempt (wpAny_holding ?_))))
  unfold callGetattribute boundAndCalled
  simp only [Bool.false_and, Bool.false_eq_true, if_false]
  refine wpAny_bind (wpAny_of_eq (PySem.F.attr_ValueError.ga.bind (.ref e)) ?_)
  refine wpAny_call (codeAny_call_builtin PySem.F.attr_ValueError.ga.plain F.entry_bexc_ga (xcheck (s := ⟨hh, g, d, t + 1, os⟩) hin p x (xentry (s := ⟨hh, g, d, t + 1, os⟩) hin p x ?_)))
  exact handed_on rfl (wpAny_pure h)
theorem kitx_exc (x : XIs K C) : KitX K (.ref e) (.ref C) (ExcAt e C) where
  ty := fun _ _ _ p => p.ty
  it := fun _ _ hin _ => xcl hin x
  ne := fun h tp dd its n sl hin htp => by
    refine Bool.eq_false_iff.mpr fun q => ?_
    obtain ⟨cd, hcd, _⟩ := any_some x.d
    have e1 : C = tp := Value.ref.inj (beq_iff_eq.mp q)
    rw [← e1] at htp
    unfold clsIn at hcd
    split at hcd
    · rename_i ho'
      have z := (hin _ _ ho').symm.trans htp
      cases z
    · cases hcd
  ca := fun hin p k => xca hin p x k
end
end PySem.W
namespace L2
open PySem PySem.Spec PyProof.Rows
abbrev XI (K : PySem.W.Frag) (C : Addr) : Prop := PySem.W.XIs K C
theorem heap_sized : ∀ n : Nat, ∃ h : Heap, h.objs.size = n
  | 0 => ⟨{ ({} : Heap) with objs := #[] }, rfl⟩
  | n + 1 => by
    obtain ⟨h, e⟩ := heap_sized n
    exact ⟨h.push { cls := .none, data := .fields #[] }, by rw [Heap.size_push, e]⟩
theorem excO_inj {a C C' : Addr} : excO a C = excO a C' ↔ C = C' := by
  constructor
  · intro z
    unfold excO at z
    have f := HO.ext.inj z
    obtain ⟨h, e⟩ := heap_sized a
    have g := congrFun f (h.push { cls := .ref C, data := .fields #[] })
    have k : (h.push { cls := .ref C, data := .fields #[] }).get? a = some { cls := .ref C, data := .fields #[] } := by
      rw [← e]; exact Heap.get?_push_size h rfl
    have g2 := g.mp ⟨_, _, k, rfl, rfl⟩
    obtain ⟨o, vs, k', c, _⟩ := g2
    rw [k] at k'; cases k'
    cases c; rfl
  · intro z; rw [z]
def clsV : V → Value
  | .ref a => .ref a
  | .ty n => .type n
  | _ => .none
theorem clsV_ref {a : Addr} : clsV (.ref a) = .ref a := rfl
theorem clsV_ty {n : String} : clsV (.ty n) = .type n := rfl
theorem excAt {X : Cx} {pins : List (Addr × Obj)} {σ : St} {H : Hp} {s : Shared} {a C : Addr} (I : Inv X pins σ H s) (e : H a = some (excO a C)) : PySem.W.ExcAt a C s.heap := by
  obtain ⟨⟨o, vs, h1, h2, _⟩, _⟩ := (show ObjOk X.prog X.w H s.heap a (excO a C) from I.hok a _ e)
  exact ⟨o, h1, h2⟩
theorem call_isxC {X : Cx} {K : PySem.W.Frag} (hK : X.K = K := by rfl) : CallR X (.builtin "isinstance") (fun xs H Q => ∃ a y C b, xs = [.ref a, y] ∧ H a = some (excO a C) ∧ XI K C ∧ PySem.W.kitOne K (.ref C) (clsV y) = some b ∧ Q (.bl b) H) := by
  subst hK
  intro pins s σ H xs us Q I r h
  obtain ⟨a, y, C, b, rfl, e, x, k, q⟩ := h
  cases r with
  | cons r1 rr =>
    cases rr with
    | cons r2 rr =>
      cases rr
      cases r1
      have c2 : ∀ u, RelV y u → PySem.W.kitOne X.K (.ref C) (clsV y) = some b → PySem.W.kitOne X.K (.ref C) u = some b := fun u ru k => by
        cases y with
        | ref a => cases ru; exact k
        | ty n => cases ru; exact k
        | _ => exact absurd k (by unfold clsV PySem.W.kitOne PySem.W.kitCls; simp)
      exact PySem.W.kia_one (PySem.W.kitx_exc x) I.kIn (excAt I e) (c2 _ r2 k) (fun z => nomatch z) fun tk => ⟨.bl b, H, I.tok tk, rfl, q⟩
end L2
namespace L2
open PySem PySem.Spec PyProof.Rows
inductive Dv where
  | leaf (v : V)
  | seq (t : Bool) (ds : List Dv)
mutual
def Sees (K : PySem.W.Frag) (H : Hp) : Dv → V → Prop
  | .leaf v, x => x = v ∧ flatV v = true
  | .seq t ds, x => ∃ a xs, x = .ref a ∧ (if t = true then SqT K H a xs else SqL K H a xs) ∧ SeesL K H ds xs
def SeesL (K : PySem.W.Frag) (H : Hp) : List Dv → List V → Prop
  | [], xs => xs = []
  | d :: ds, xs => ∃ x r, xs = x :: r ∧ Sees K H d x ∧ SeesL K H ds r
end
mutual
def alike : Dv → Dv → Bool
  | .leaf _, .leaf _ => true
  | .seq t ds, .seq u es => t == u && alikeL ds es
  | _, _ => false
def alikeL : List Dv → List Dv → Bool
  | d :: ds, e :: es => alike d e && alikeL ds es
  | _, _ => true
end
mutual
def eqDv : Dv → Dv → Bool
  | .leaf v, .leaf w => eqV v w
  | .seq _ ds, .seq _ es => eqDvL ds es
  | _, _ => false
def eqDvL : List Dv → List Dv → Bool
  | [], [] => true
  | d :: ds, e :: es => eqDv d e && eqDvL ds es
  | _, _ => false
end
mutual
def deep : Dv → Nat
  | .leaf _ => 0
  | .seq _ ds => deepL ds + 1
def deepL : List Dv → Nat
  | [] => 0
  | d :: ds => max (deep d) (deepL ds)
end
theorem SeesL.length {K : PySem.W.Frag} {H : Hp} : ∀ {ds : List Dv} {xs : List V}, SeesL K H ds xs → ds.length = xs.length
  | [], xs, h => by unfold SeesL at h; subst h; rfl
  | d :: ds, xs, h => by
    unfold SeesL at h
    obtain ⟨x, r, rfl, _, h⟩ := h
    simp [h.length]
theorem SeesL.get {K : PySem.W.Frag} {H : Hp} : ∀ {ds : List Dv} {xs : List V} {j : Nat} {d : Dv}, SeesL K H ds xs → ds[j]? = some d → ∃ x, xs[j]? = some x ∧ Sees K H d x
  | [], xs, j, d, h, e => by simp at e
  | d' :: ds, xs, 0, d, h, e => by
    unfold SeesL at h
    obtain ⟨x, r, rfl, hx, h⟩ := h
    simp at e; subst e
    exact ⟨x, rfl, hx⟩
  | d' :: ds, xs, j + 1, d, h, e => by
    unfold SeesL at h
    obtain ⟨x, r, rfl, hx, h⟩ := h
    obtain ⟨y, e1, e2⟩ := SeesL.get (j := j) h (by simpa using e)
    exact ⟨y, by simpa using e1, e2⟩
theorem all_range_succ (n : Nat) (f : Nat → Bool) : (List.range (n + 1)).all f = (f 0 && (List.range n).all fun j => f (j + 1)) := by
  rw [List.range_succ_eq_map, List.all_cons, List.all_map]; rfl
theorem eqDvL_eq : ∀ (ds es : List Dv), eqDvL ds es = (decide (ds.length = es.length) && (List.range (min ds.length es.length)).all fun j => eqDv (ds.getD j (.leaf .non)) (es.getD j (.leaf .non)))
  | [], [] => by simp [eqDvL]
  | [], e :: es => by simp [eqDvL]
  | d :: ds, [] => by simp [eqDvL]
  | d :: ds, e :: es => by
    have ih := eqDvL_eq ds es
    rw [eqDvL, ih]
    have hm : min (d :: ds).length (e :: es).length = min ds.length es.length + 1 := by simp [Nat.succ_min_succ]
    rw [hm, all_range_succ]
    simp only [List.length_cons, Nat.add_right_cancel_iff, List.getD_cons_zero, List.getD_cons_succ]
    cases eqDv d e <;> cases decide (ds.length = es.length) <;> simp
theorem eqV_self {v : V} (h : flatV v = true) : eqV v v = true := by
  cases v <;> first | rfl | (simp [eqV]; done) | exact absurd h (by simp [flatV])
mutual
theorem sees_same {X : Cx} {pins : List (Addr × Obj)} {σ : St} {H : Hp} {s : Shared} (I : Inv X pins σ H s) : ∀ (d e : Dv) (x : V), alike d e = true → Sees X.K H d x → Sees X.K H e x → eqDv d e = true
  | .leaf a, .leaf b, x, _, hx, hy => by
    unfold Sees at hx hy
    obtain ⟨rfl, fx⟩ := hx
    obtain ⟨rfl, fy⟩ := hy
    rw [eqDv]
    exact eqV_self fx
  | .leaf a, .seq t es, _, h, _, _ => by simp [alike] at h
  | .seq t ds, .leaf b, _, h, _, _ => by simp [alike] at h
  | .seq t ds, .seq t' es, x, h, hx, hy => by
    rw [alike, Bool.and_eq_true] at h
    have ht := beq_iff_eq.mp h.1
    subst ht
    unfold Sees at hx hy
    obtain ⟨a, xs, rfl, hsx, hL⟩ := hx
    obtain ⟨b, ys, e, hsy, hM⟩ := hy
    cases e
    rw [eqDv]
    have exy : xs = ys := by
      cases t with
      | true => exact I.tuple_inj (by simpa using hsx) (by simpa using hsy)
      | false => exact I.list_inj (by simpa using hsx) (by simpa using hsy)
    subst exy
    exact sees_sameL I ds es xs h.2 hL hM
theorem sees_sameL {X : Cx} {pins : List (Addr × Obj)} {σ : St} {H : Hp} {s : Shared} (I : Inv X pins σ H s) : ∀ (ds es : List Dv) (xs : List V), alikeL ds es = true → SeesL X.K H ds xs → SeesL X.K H es xs → eqDvL ds es = true
  | [], [], _, _, _, _ => by rw [eqDvL]
  | [], e :: es, xs, _, hx, hy => by
    unfold SeesL at hx hy
    obtain ⟨x, r, e1, _⟩ := hy
    rw [hx] at e1; cases e1
  | d :: ds, [], xs, _, hx, hy => by
    unfold SeesL at hx hy
    obtain ⟨x, r, e1, _⟩ := hx
    rw [hy] at e1; cases e1
  | d :: ds, e :: es, xs, h, hx, hy => by
    rw [alikeL, Bool.and_eq_true] at h
    unfold SeesL at hx hy
    obtain ⟨x, r, rfl, hx, hxr⟩ := hx
    obtain ⟨y, r', e1, hy, hyr⟩ := hy
    cases e1
    rw [eqDvL, sees_same I d e x h.1 hx hy, sees_sameL I ds es r h.2 hxr hyr]
    rfl
end
theorem rc_deep {X : Cx} {pins : List (Addr × Obj)} {σ : St} {H : Hp} {s : Shared} (I : Inv X pins σ H s) {A : Around} {t : Bool} {ds es : List Dv} {a b : Addr} {xs ys : List V} (hu : A.units < cLine)
    (hsx : if t = true then SqT X.K H a xs else SqL X.K H a xs) (hsy : if t = true then SqT X.K H b ys else SqL X.K H b ys) (l1 : ds.length = xs.length) (l2 : es.length = ys.length)
    (ih : ∀ (j : Nat) (u v : Value) (us vs : List Value), Vals xs us → Vals ys vs → us[j]? = some u → vs[j]? = some v → SeqAt.EqAt A.in1 s u v (eqDv (ds.getD j (.leaf .non)) (es.getD j (.leaf .non)))) :
    SeqAt.RcAt A s (.ref a) (.ref b) (eqDvL ds es) := by
  rw [eqDvL_eq]
  cases t with
  | false =>
    obtain ⟨its, rv, pl, _⟩ := I.list (show SqL X.K H a xs by simpa using hsx)
    obtain ⟨its2, rv2, pl2, _⟩ := I.list (show SqL X.K H b ys by simpa using hsy)
    have n1 := rv.length
    have n2 := rv2.length
    by_cases hl : ds.length = es.length
    · have q := SeqAt.RcAt.lists (e := fun j => eqDv (ds.getD j (.leaf .non)) (es.getD j (.leaf .non))) pl.isList pl2.isList (by simp; omega) (by omega : A.units < cLine) (fun j h1 h2 => by
        have h1 : j < its.length := by simpa using h1
        have h2 : j < its2.length := by simpa using h2
        have e := ih j (its[j]) (its2[j]) its its2 rv rv2 (by simp [h1]) (by simp [h2])
        simpa using e)
      rw [decide_eq_true hl, Bool.true_and]
      have em : min ds.length es.length = its.toArray.size := by simp; omega
      rw [em]
      exact q
    · have q := SeqAt.RcAt.lists_lengths (A := A) pl.isList pl2.isList (by simp; omega) (by omega : A.units < cLine)
      rw [decide_eq_false hl, Bool.false_and]
      exact q
  | true =>
    obtain ⟨its, rv, pl, _⟩ := I.tuple (show SqT X.K H a xs by simpa using hsx)
    obtain ⟨its2, rv2, pl2, _⟩ := I.tuple (show SqT X.K H b ys by simpa using hsy)
    have n1 := rv.length
    have n2 := rv2.length
    have q := SeqAt.RcAt.tuples (e := fun j => eqDv (ds.getD j (.leaf .non)) (es.getD j (.leaf .non))) (show s.heap.IsTuple a its.toArray from pl) (show s.heap.IsTuple b its2.toArray from pl2) (by omega : A.units < cLine) (fun j h1 h2 => by
        have h1 : j < its.length := by simpa using h1
        have h2 : j < its2.length := by simpa using h2
        have e := ih j (its[j]) (its2[j]) its its2 rv rv2 (by simp [h1]) (by simp [h2])
        simpa using e)
    have em : min its.toArray.size its2.toArray.size = min ds.length es.length := by simp; omega
    have eb : (its.toArray.size == its2.toArray.size) = decide (ds.length = es.length) := by
      rw [Bool.eq_iff_iff]; simp; omega
    rw [em, eb, Bool.and_comm] at q
    exact q
mutual
theorem eqAt_deep {X : Cx} {pins : List (Addr × Obj)} {σ : St} {H : Hp} {s : Shared} (I : Inv X pins σ H s) : ∀ (d e : Dv) (A : Around) (x y : V) (u v : Value), A.units + deep d < cLine → alike d e = true → Sees X.K H d x → Sees X.K H e y → RelV x u → RelV y v → SeqAt.EqAt A s u v (eqDv d e)
  | .leaf a, .leaf b, A, x, y, u, v, _, _, hx, hy, rx, ry => by
    unfold Sees at hx hy
    obtain ⟨rfl, fx⟩ := hx
    obtain ⟨rfl, fy⟩ := hy
    rw [eqDv]
    exact eqAt_V rx ry fx fy
  | .leaf a, .seq t es, A, x, y, u, v, _, h, _, _, _, _ => by simp [alike] at h
  | .seq t ds, .leaf b, A, x, y, u, v, _, h, _, _, _, _ => by simp [alike] at h
  | .seq t ds, .seq t' es, A, x, y, u, v, hu, h, hx, hy, rx, ry => by
    have h0 := h
    rw [alike, Bool.and_eq_true] at h
    have ht := beq_iff_eq.mp h.1
    subst ht
    have hx0 := hx
    have hy0 := hy
    unfold Sees at hx hy
    obtain ⟨a, xs, rfl, hsx, hL⟩ := hx
    obtain ⟨b, ys, rfl, hsy, hM⟩ := hy
    cases rx
    cases ry
    by_cases hab : a = b
    · subst hab
      rw [sees_same I _ _ _ h0 hx0 hy0]
      exact SeqAt.EqAt.same _
    · rw [deep] at hu
      have hu1 : A.in1.units + deepL ds < cLine := by show A.units + 1 + deepL ds < cLine; omega
      have ih := eqAt_deepL I ds es A.in1 xs ys hu1 h.2 hL hM
      rw [eqDv]
      exact SeqAt.EqAt.of_refs hab (rc_deep I (by omega) hsx hsy hL.length hM.length ih)
theorem eqAt_deepL {X : Cx} {pins : List (Addr × Obj)} {σ : St} {H : Hp} {s : Shared} (I : Inv X pins σ H s) : ∀ (ds es : List Dv) (A : Around) (xs ys : List V), A.units + deepL ds < cLine → alikeL ds es = true → SeesL X.K H ds xs → SeesL X.K H es ys →
    ∀ (j : Nat) (u v : Value) (us vs : List Value), Vals xs us → Vals ys vs → us[j]? = some u → vs[j]? = some v → SeqAt.EqAt A s u v (eqDv (ds.getD j (.leaf .non)) (es.getD j (.leaf .non)))
  | [], es, A, xs, ys, _, _, hx, hy, j, u, v, us, vs, rx, ry, e1, e2 => by
    unfold SeesL at hx
    subst hx
    cases rx
    simp at e1
  | d :: ds, [], A, xs, ys, _, _, hx, hy, j, u, v, us, vs, rx, ry, e1, e2 => by
    unfold SeesL at hy
    subst hy
    cases ry
    simp at e2
  | d :: ds, e :: es, A, xs, ys, hu, h, hx, hy, j, u, v, us, vs, rx, ry, e1, e2 => by
    rw [alikeL, Bool.and_eq_true] at h
    rw [deepL] at hu
    unfold SeesL at hx hy
    obtain ⟨x, r, rfl, hx, hxr⟩ := hx
    obtain ⟨y, r', rfl, hy, hyr⟩ := hy
    cases rx with
    | cons p1 p2 =>
      cases ry with
      | cons q1 q2 =>
        cases j with
        | zero =>
          simp at e1 e2
          subst e1 e2
          exact eqAt_deep I d e A x y _ _ (by omega) h.1 hx hy p1 q1
        | succ k =>
          have z := eqAt_deepL I ds es A r r' (by omega) h.2 hxr hyr k u v _ _ p2 q2 (by simpa using e1) (by simpa using e2)
          simpa using z
end
theorem hu6 {A : Around} {k : Nat} (hr : Room k A) : A.units + 4 + 2 < cLine := by have := hr.units; omega
def rEqD (K : PySem.W.Frag) (n : Nat) : R2 := fun x y H Q => ∃ t ds es, Sees K H (.seq t ds) x ∧ Sees K H (.seq t es) y ∧ alikeL ds es = true ∧ deepL ds ≤ n ∧ Q (.bl (eqDvL ds es)) H
theorem rc_of {X : Cx} {pins : List (Addr × Obj)} {σ : St} {H : Hp} {s : Shared} (I : Inv X pins σ H s) {A : Around} {n : Nat} (hu : A.units + n + 2 < cLine) {t : Bool} {ds es : List Dv} {x y : V} {u v : Value} (hx : Sees X.K H (.seq t ds) x) (hy : Sees X.K H (.seq t es) y) (ha : alikeL ds es = true) (hd : deepL ds ≤ n)
    (rx : RelV x u) (ry : RelV y v) : SeqAt.RcAt A s u v (eqDvL ds es) := by
  unfold Sees at hx hy
  obtain ⟨a, xs, rfl, hsx, hL⟩ := hx
  obtain ⟨b, ys, rfl, hsy, hM⟩ := hy
  cases rx
  cases ry
  exact rc_deep I (by omega) hsx hsy hL.length hM.length (eqAt_deepL I ds es A.in1 xs ys (by show A.units + 1 + deepL ds < cLine; omega) ha hL hM)
theorem op_eqD {X : Cx} {n : Nat} (hu : X.A.units + n + 2 < cLine) : OpR X (compareOp .Eq) (rEqD X.K n) := by
  intro pins s σ H x y v u Q I rx ry h
  obtain ⟨t, ds, es, hx, hy, ha, hd, q⟩ := h
  exact rc_of I hu hx hy ha hd rx ry X.prog X.w X.xe _ ⟨.bl _, H, I, rfl, q⟩
def dInts (ns : List Int) : List Dv := ns.map fun i => .leaf (.int i)
theorem seesL_ints {K : PySem.W.Frag} {H : Hp} : ∀ (ns : List Int), SeesL K H (dInts ns) (ns.map V.int)
  | [] => by unfold dInts SeesL; rfl
  | n :: ns => by
    show SeesL K H (.leaf (.int n) :: dInts ns) (.int n :: ns.map V.int)
    unfold SeesL
    exact ⟨_, _, rfl, by unfold Sees; exact ⟨rfl, rfl⟩, seesL_ints ns⟩
theorem sees_tup {K : PySem.W.Frag} {H : Hp} {a : Addr} {ns : List Int} (h : SqT K H a (ns.map V.int)) : Sees K H (.seq true (dInts ns)) (.ref a) := by
  unfold Sees
  exact ⟨a, _, rfl, by simpa using h, seesL_ints ns⟩
theorem alike_ints : ∀ (ns ms : List Int), alikeL (dInts ns) (dInts ms) = true
  | [], _ => by unfold dInts; simp [alikeL]
  | _ :: _, [] => by unfold dInts; simp [alikeL]
  | n :: ns, m :: ms => by
    show alikeL (.leaf (.int n) :: dInts ns) (.leaf (.int m) :: dInts ms) = true
    rw [alikeL, alike, alike_ints ns ms]; rfl
theorem deep_ints : ∀ (ns : List Int), deepL (dInts ns) = 0
  | [] => by unfold dInts; simp [deepL]
  | n :: ns => by
    show deepL (.leaf (.int n) :: dInts ns) = 0
    rw [deepL, deep, deep_ints ns]; rfl
theorem eq_ints : ∀ (ns ms : List Int), eqDvL (dInts ns) (dInts ms) = decide (ns = ms)
  | [], [] => by unfold dInts; simp [eqDvL]
  | [], _ :: _ => by unfold dInts; simp [eqDvL]
  | _ :: _, [] => by unfold dInts; simp [eqDvL]
  | n :: ns, m :: ms => by
    show eqDvL (.leaf (.int n) :: dInts ns) (.leaf (.int m) :: dInts ms) = _
    rw [eqDvL, eqDv, eq_ints ns ms]
    show ((n == m) && decide (ns = ms)) = _
    rw [Bool.eq_iff_iff]; simp
end L2
namespace L2
open PySem PySem.Spec PyProof.Rows
def compChk (sc : Scope) (env : Env) (x : Str) (fs : List Str) : Bool :=
  sc.kind == .function && sc.names.all (fun y => y.2 != .cell && (y.2 != .local || sc.names.lookup y.1 == some .local) && (y.2 != .free || env.kindOf y.1 == some .cell || env.kindOf y.1 == some .free)) &&
    sc.names.lookup x == some .local && fs.all (fun f => sc.names.lookup f == some .free)
structure CompSc (sc : Scope) (env : Env) (x : Str) (fs : List Str) : Prop where
  kind : sc.kind = .function
  nocell : ∀ y ∈ sc.names, y.2 ≠ .cell
  own : ∀ y ∈ sc.names, y.2 = .local → sc.names.lookup y.1 = some .local
  fr : ∀ y ∈ sc.names, y.2 = .free → env.kindOf y.1 = some .cell ∨ env.kindOf y.1 = some .free
  x : sc.names.lookup x = some .local
  fs : ∀ f ∈ fs, sc.names.lookup f = some .free
theorem CompSc.of {sc : Scope} {env : Env} {x : Str} {fs : List Str} (h : compChk sc env x fs = true) : CompSc sc env x fs := by
  unfold compChk at h
  simp only [Bool.and_eq_true, beq_iff_eq, List.all_eq_true, Bool.or_eq_true, bne_iff_ne, ne_eq] at h
  obtain ⟨⟨⟨h1, h2⟩, h3⟩, h4⟩ := h
  refine ⟨h1, fun y hy => (h2 y hy).1.1, fun y hy e => ?_, fun y hy e => ?_, h3, h4⟩
  · rcases (h2 y hy).1.2 with z | z
    · exact absurd e z
    · exact z
  · rcases (h2 y hy).2 with (z | z) | z
    · exact absurd e z
    · exact .inl z
    · exact .inr z
theorem closure_ex {env : Env} : ∀ (names : List (Str × NameKind)) (acc : List (Str × Addr)), (∀ n, (n, NameKind.free) ∈ names → ∃ c, env.cells.lookup n = some c) →
    ∃ cl, (forIn names acc fun y r => (do if (y.2 == NameKind.free) = true then do let c ← cellOf env y.1; pure (ForInStep.yield ((y.1, c) :: r)) else pure (ForInStep.yield r) : Sem (ForInStep (List (Str × Addr))))) = pure cl ∧
      (∀ n c, cl.lookup n = some c → acc.lookup n = some c ∨ env.cells.lookup n = some c) ∧ ∀ n, (∃ c, acc.lookup n = some c) ∨ (n, NameKind.free) ∈ names → ∃ c, cl.lookup n = some c
  | [], acc, _ => ⟨acc, rfl, fun _ _ e => .inl e, fun n h => h.elim id fun z => nomatch z⟩
  | (n, k) :: r, acc, h => by
    have hr : ∀ m, (m, NameKind.free) ∈ r → ∃ c, env.cells.lookup m = some c := fun m hm => h m (List.mem_cons_of_mem _ hm)
    by_cases hk : k = .free
    · subst hk
      obtain ⟨c, hc⟩ := h n List.mem_cons_self
      obtain ⟨cl, e, h1, h2⟩ := closure_ex r ((n, c) :: acc) hr
      refine ⟨cl, ?_, fun m c' hm => ?_, fun m hm => h2 m ?_⟩
      · rw [List.forIn_cons]
        simp only [beq_self_eq_true, if_true, cellOf, hc, pure_bind]
        exact e
      · rcases h1 m c' hm with z | z
        · rw [List.lookup_cons] at z
          cases q : m == n with
          | true =>
            rw [q] at z
            cases z
            rw [beq_iff_eq.mp q]
            exact .inr hc
          | false => rw [q] at z; exact .inl z
        · exact .inr z
      · rw [List.lookup_cons]
        rcases hm with ⟨c', z⟩ | hm
        · cases q : m == n with
          | true => exact .inl ⟨c, rfl⟩
          | false => exact .inl ⟨c', z⟩
        · rcases List.mem_cons.mp hm with z | z
          · cases z
            rw [beq_self_eq_true]
            exact .inl ⟨c, rfl⟩
          · exact .inr z
    · obtain ⟨cl, e, h1, h2⟩ := closure_ex r acc hr
      refine ⟨cl, ?_, h1, fun m hm => h2 m ?_⟩
      · rw [List.forIn_cons]
        have hb : (k == NameKind.free) = false := by simpa using hk
        simp only [hb, Bool.false_eq_true, if_false, pure_bind]
        exact e
      · rcases hm with z | hm
        · exact .inl z
        · rcases List.mem_cons.mp hm with z | z
          · cases z; exact absurd rfl hk
          · exact .inr z
theorem closure_of {env : Env} {sc : Scope} (h : ∀ n, (n, NameKind.free) ∈ sc.names → ∃ c, env.cells.lookup n = some c) :
    ∃ cl, closureFor sc env = pure cl ∧ (∀ n c, cl.lookup n = some c → env.cells.lookup n = some c) ∧ ∀ n, (n, NameKind.free) ∈ sc.names → ∃ c, cl.lookup n = some c := by
  obtain ⟨cl, e, h1, h2⟩ := closure_ex sc.names [] h
  refine ⟨cl, ?_, fun n c z => (h1 n c z).elim (fun q => nomatch q) id, fun n hn => h2 n (.inr hn)⟩
  unfold closureFor
  simp only [bind_pure]
  exact e
theorem relabel_kind {env : Env} : ∀ {names : List (Str × NameKind)} {x : Str} {k : NameKind}, (names.map fun (n, k) => if (k == NameKind.free && env.scope.kind == .function && env.kindOf n == some .cell) then (n, NameKind.cell) else (n, k)).lookup x = some k →
    k = .cell ∨ k = .free → names.lookup x = some .free ∨ names.lookup x = some .cell
  | [], _, _, h, _ => by simp at h
  | (n, k0) :: r, x, k, h, hk => by
    have ih := @relabel_kind env r x k
    have h : List.lookup x ((if (k0 == NameKind.free && env.scope.kind == .function && env.kindOf n == some .cell) = true then (n, NameKind.cell) else (n, k0)) :: (r.map fun (n, k) => if (k == NameKind.free && env.scope.kind == .function && env.kindOf n == some .cell) then (n, NameKind.cell) else (n, k))) = some k := h
    by_cases hc : (k0 == NameKind.free && env.scope.kind == .function && env.kindOf n == some .cell) = true
    · rw [if_pos hc] at h
      simp only [List.lookup_cons] at h ⊢
      cases hx : x == n with
      | true =>
        simp only [Bool.and_eq_true, beq_iff_eq] at hc
        rw [hc.1.1]
        exact .inl rfl
      | false => rw [hx] at h; exact ih h hk
    · rw [if_neg hc] at h
      simp only [List.lookup_cons] at h ⊢
      cases hx : x == n with
      | true =>
        rw [hx] at h
        cases h
        rcases hk with rfl | rfl
        · exact .inr rfl
        · exact .inl rfl
      | false => rw [hx] at h; exact ih h hk
theorem relabel_free {env : Env} : ∀ {names : List (Str × NameKind)} {x : Str}, names.lookup x = some .free →
    (names.map fun (n, k) => if (k == NameKind.free && env.scope.kind == .function && env.kindOf n == some .cell) then (n, NameKind.cell) else (n, k)).lookup x = some .cell ∨ (names.map fun (n, k) => if (k == NameKind.free && env.scope.kind == .function && env.kindOf n == some .cell) then (n, NameKind.cell) else (n, k)).lookup x = some .free
  | [], _, h => by simp at h
  | (n, k0) :: r, x, h => by
    have ih := @relabel_free env r x
    show List.lookup x ((if (k0 == NameKind.free && env.scope.kind == .function && env.kindOf n == some .cell) = true then (n, NameKind.cell) else (n, k0)) :: _) = _ ∨ List.lookup x ((if (k0 == NameKind.free && env.scope.kind == .function && env.kindOf n == some .cell) = true then (n, NameKind.cell) else (n, k0)) :: _) = _
    simp only [List.lookup_cons] at h
    by_cases hc : (k0 == NameKind.free && env.scope.kind == .function && env.kindOf n == some .cell) = true
    · rw [if_pos hc]
      simp only [List.lookup_cons]
      cases hx : x == n with
      | true => exact .inl rfl
      | false => rw [hx] at h; exact ih h
    · rw [if_neg hc]
      simp only [List.lookup_cons]
      cases hx : x == n with
      | true => rw [hx] at h; exact .inr h
      | false => rw [hx] at h; exact ih h
def cxComp (X : Cx) (scope : Scope) (cl : List (Str × Addr)) (C : Addr) (N : List Str) (s₀ : Shared) (H₀ : Hp) (fp : List Addr) (xe : Value → Shared → Prop) : Cx :=
  { X with N := N, s₀ := s₀, H₀ := H₀, env := compEnvC scope cl C X.env, outer := X.stack, stack := X.stack, ex := fp, fn := fun _ => false, pn := [], xe := xe }
theorem xw_no {X : Cx} : XW X (fun _ _ _ => False) := fun _ _ _ _ _ _ _ _ _ _ _ _ _ _ _ h => h.elim
inductive HidC (g : TG) (tt : TT) (te : TE) : Type where
  | mk : HidC g tt te
def PF (X : Cx) (ifs : List Expr) (tt : TT) : Prop :=
  ∀ (pins : List (Addr × Obj)) (s : Shared) (σ : St) (H : Hp) (Q : Bool → Hp → Prop), Inv X pins σ H s → tt σ H Q →
    wpAny (model X.prog X.w) X.A (forIn ifs true fun c r => if r = true then do let ok ← isTrue c X.env (eval c X.env); pure (ForInStep.yield ok) else pure (ForInStep.yield r)) (TP X pins σ Q) X.xe s
def tYes : TT := fun _ H Q => Q true H
theorem pf_nil {X : Cx} : PF X [] tYes := fun _ _ _ H _ I h => by
  simp only [List.forIn_nil]
  exact wpAny_pure ⟨H, I, h⟩
theorem pf_one {X : Cx} {c : Expr} {tt : TT} (h : PT X c tt) : PF X [c] tt := fun pins s σ H Q I hw => wpAny_tests_one (h pins s σ H Q I hw)
def Comp (g : TG) (tt : TT) (te : TE) (_ : HidC g tt te) (J : It) (σ0 : St) (D : Addr) (Q : Hp → Prop) (H : Hp) : Prop :=
  ∃ W : Nat → Nat → List V → St → Hp → Prop, (∃ m, W 0 m [] σ0 (upd H D (.lst []))) ∧ ∀ i m ys σ H, W i m ys σ H →
    (J.stop i H ∧ Q H) ∨ (J.go i H ∧ ∃ N : List V → St → Hp → Prop, (∀ ys σ H, N ys σ H → ∃ m', m' < m ∧ W (i + 1) m' ys σ H) ∧
      ∀ y H', J.yld i H y H' → g y σ H' fun σ2 H2 => tt σ2 H2 fun b H2' => if b = true then te σ2 H2' fun v H3 => H3 D = some (.lst ys) ∧ ys.length < sizeLine ∧ N (ys ++ [v]) σ2 (upd H3 D (.lst (ys ++ [v]))) else N ys σ2 H2')
def tComp (wi : TI) (ix : List Nat) (g : TG) (tt : TT) (te : TE) (h : HidC g tt te) : TE := fun σ H Q => wi σ H fun J H1 => ∀ D, H1 D = none → Comp g tt te h J (none :: ix.map fun i => (σ[i]?).join) D (fun H' => Q (.ref D) H') H1
theorem comp_range {lo : Int} {n : Nat} {g : TG} {tt : TT} {te : TE} {h : HidC g tt te} {σ0 : St} {D : Addr} {Q : Hp → Prop} {H : Hp} (Pv : Nat → List V → St → Hp → Prop) (h0 : Pv 0 [] σ0 (upd H D (.lst [])))
    (hs : ∀ i ys σ H, i < n → Pv i ys σ H → g (.int (lo + i)) σ H fun σ2 H2 => tt σ2 H2 fun b H2' => if b = true then te σ2 H2' fun v H3 => H3 D = some (.lst ys) ∧ ys.length < sizeLine ∧ Pv (i + 1) (ys ++ [v]) σ2 (upd H3 D (.lst (ys ++ [v]))) else Pv (i + 1) ys σ2 H2') (hd : ∀ ys σ H, Pv n ys σ H → Q H) :
    Comp g tt te h (Itr lo n) σ0 D Q H := by
  refine ⟨fun i m ys σ H => i + m = n ∧ Pv i ys σ H, ⟨n, Nat.zero_add n, h0⟩, fun i m ys σ H ⟨e, p⟩ => ?_⟩
  by_cases hi : i < n
  · refine .inr ⟨hi, Pv (i + 1), fun ys σ H q => ⟨m - 1, by omega, by omega, q⟩, ?_⟩
    rintro y H' ⟨rfl, rfl⟩
    exact hs i ys σ H' hi p
  · have e' : i = n := by omega
    subst e'
    exact .inl ⟨Nat.le_refl _, hd ys σ H p⟩
theorem comp_list {K : PySem.W.Frag} {a : Addr} {xs : List V} {g : TG} {tt : TT} {te : TE} {h : HidC g tt te} {σ0 : St} {D : Addr} {Q : Hp → Prop} {H : Hp} (Pv : Nat → List V → St → Hp → Prop) (h0 : Pv 0 [] σ0 (upd H D (.lst []))) (hl : ∀ i ys σ H, i ≤ xs.length → Pv i ys σ H → SqL K H a xs)
    (hs : ∀ i x ys σ H, xs[i]? = some x → Pv i ys σ H → g x σ H fun σ2 H2 => tt σ2 H2 fun b H2' => if b = true then te σ2 H2' fun v H3 => H3 D = some (.lst ys) ∧ ys.length < sizeLine ∧ Pv (i + 1) (ys ++ [v]) σ2 (upd H3 D (.lst (ys ++ [v]))) else Pv (i + 1) ys σ2 H2') (hd : ∀ ys σ H, Pv xs.length ys σ H → Q H) :
    Comp g tt te h (Itl K a) σ0 D Q H := by
  refine ⟨fun i m ys σ H => i + m = xs.length ∧ Pv i ys σ H, ⟨xs.length, Nat.zero_add _, h0⟩, fun i m ys σ H ⟨e, p⟩ => ?_⟩
  have hq := hl i ys σ H (by omega) p
  by_cases hi : i < xs.length
  · have ex : xs[i]? = some xs[i] := List.getElem?_eq_getElem hi
    refine .inr ⟨⟨xs, _, hq, ex⟩, Pv (i + 1), fun ys σ H q => ⟨m - 1, by omega, by omega, q⟩, ?_⟩
    rintro y H' ⟨rfl, hy⟩
    exact hs i y ys σ H' (hy xs hq) p
  · have e' : i = xs.length := by omega
    subst e'
    exact .inl ⟨⟨xs, hq, Nat.le_refl _⟩, hd ys σ H p⟩
theorem compLoop_turn {prog : Program} {w : World} {A : Around} {R : Result → Shared → Prop} {s : Shared} {elt target iter : Expr} {ifs : List Expr} {scope : Scope} {pos : Pos} {it acc : Value} {env : Env} (I : Nat → Shared → Prop)
    (turn : ∀ n s, I n s → wpAny (model prog w) A (pyNext it) (fun r s₁ => match r with
      | none => R (.ok .next) s₁
      | some v => wpAny (model prog w) A (letOwnedTupleGo target it v) (fun _ s₁' => wpAny (model prog w) A (assign target env v) (fun _ s₂ =>
          wpAny (model prog w) A (forIn ifs true fun c r => if r = true then do let ok ← isTrue c env (eval c env); pure (ForInStep.yield ok) else pure (ForInStep.yield r)) (fun ok s₃ =>
            if ok = true then wpAny (model prog w) A (eval elt env) (fun x s₄ =>
              wpAny (model prog w) A (call (.builtin "list.append") [acc, x]) (fun _ s₅ => ∃ m, m < n ∧ I m s₅) (notedBy (model prog w) A env fun e s' => R (.error e) s') s₄) (notedBy (model prog w) A env fun e s' => R (.error e) s') s₃
            else ∃ m, m < n ∧ I m s₃) (notedBy (model prog w) A env fun e s' => R (.error e) s') s₂) (notedBy (model prog w) A env fun e s' => R (.error e) s') s₁') (notedBy (model prog w) A env fun e s' => R (.error e) s') s₁) (notedBy (model prog w) A env fun e s' => R (.error e) s') s)
    (n : Nat) (h : I n s) : codeAny (model prog w) A (.compLoop (.ListComp elt [⟨target, iter, ifs, 0⟩] scope pos) 0 it acc env) R s := by
  refine codeAny_loop rfl I (fun n s hI => ?_) n h
  show wpAny _ _ ((compTurn (.ListComp elt [⟨target, iter, ifs, 0⟩] scope pos) 0 it acc env).onRaise (fun x => do noteFrame x env; theTreesLotGoes x)) _ _ s
  refine wpAny_noted ?_
  rw [compTurn_list]
  refine wpAny_bind (wpAny_standAt (wpAny_bind (wpAny_mono (turn n s hI) (fun r s₁ h₁ => ?_) fun _ _ h' => h')))
  cases r with
  | none => exact wpAny_pure h₁
  | some v =>
    refine wpAny_bind (wpAny_mono h₁ (fun _ s₁' h₁' => ?_) fun _ _ h' => h')
    refine wpAny_bind (wpAny_mono h₁' (fun _ s₂ h₂ => wpAny_bind (wpAny_mono h₂ (fun ok s₃ h₃ => ?_) fun _ _ h' => h')) fun _ _ h' => h')
    cases ok with
    | false => exact wpAny_pure ⟨rfl, h₃⟩
    | true =>
      exact wpAny_bind (wpAny_bind (wpAny_mono h₃ (fun x s₄ h₄ => wpAny_bind (wpAny_mono h₄ (fun _ s₅ h₅ => wpAny_pure (wpAny_pure ⟨rfl, h₅⟩)) fun _ _ h' => h')) fun _ _ h' => h'))
section
variable {X : Cx}
theorem comp_block {pins : List (Addr × Obj)} {σ : St} {H2 : Hp} {s2 : Shared} {it : Addr} {fp : List Addr} {tn : Nat → Heap → Prop} {J : It} {tg iter elt : Expr} {ifs : List Expr} {scope : Scope} {cl : List (Str × Addr)} {pos : Pos} {x : Str} {fs : List Str} {ix : List Nat} {g : TG} {tt : TT} {te : TE}
    {Qf : Addr → Hp → Prop} {E : Value → Shared → Prop} {RR : Value → Addr → Result → Shared → Prop}
    (I2 : Inv X pins σ H2 s2) (T : Turn X.prog X.w X.K tg J fp it tn) (st2 : tn 0 s2.heap) (f2 : ∀ b ∈ fp, FpOk X pins H2 b) (hc : X.calm = true) (S : CompSc scope X.env x fs)
    (c1 : ∀ n c, cl.lookup n = some c → X.env.cells.lookup n = some c) (c2 : ∀ n, (n, NameKind.free) ∈ scope.names → ∃ c, cl.lookup n = some c) (hix : ix.map (X.N[·]?) = fs.map some)
    (hg : ∀ C s₀ H₀ xe, PG (cxComp X scope cl C (x :: fs) s₀ H₀ fp xe) tg g) (hf : ∀ C s₀ H₀ xe, PF (cxComp X scope cl C (x :: fs) s₀ H₀ fp xe) ifs tt) (he : ∀ C s₀ H₀ xe, PE (cxComp X scope cl C (x :: fs) s₀ H₀ fp xe) elt te)
    (h : ∀ D, H2 D = none → Comp g tt te .mk J (none :: ix.map fun i => (σ[i]?).join) D (Qf D) H2)
    (fin : ∀ D C H' s', Inv X pins σ H' s' → Qf D H' → (∃ m, s'.heap.Ns C m) → FpOk X pins H' C → RR (.ref D) C (.ok .next) s') :
    wpAny (model X.prog X.w) X.A (newList []) (fun acc s₃ => wpAny (model X.prog X.w) X.A (newFunctionEnv scope X.env.globals cl [] X.env.qual none .none (some X.env)) (fun cenv s₄ =>
      codeAny (model X.prog X.w) X.A (.compStart (.ListComp elt [⟨tg, iter, ifs, 0⟩] scope pos) 0 (.ref it) acc { cenv with scope := relabel scope X.env }) (RR acc cenv.locals) s₄) E s₃) E s2 := by
  have hD : H2 s2.heap.objs.size = none := I2.hok.fresh (Nat.le_refl _)
  obtain ⟨W, ⟨m0, w0⟩, turn⟩ := h _ hD
  refine wpAny_newObj_type (wpAny_newFunctionEnv S.nocell (by intro y hy; simp at hy) (fun h₁ hns₁ hsb₁ => ?_) S.kind)
  have I3 : Inv X pins σ (upd H2 s2.heap.objs.size (.lst [])) { s2 with heap := s2.heap.push { cls := .type "list", dict := none, data := .seq ([] : List Value).toArray } } :=
    I2.laid (t' := s2.toks) (fun b u e => Heap.get?_push_of_some _ e) (Nat.le_refl _) ⟨by decide, [], 0, .nil, Heap.get?_push_size _ rfl⟩
  obtain ⟨e3, he3⟩ : ∃ s3 : Shared, s3 = { s2 with heap := s2.heap.push { cls := .type "list", dict := none, data := .seq ([] : List Value).toArray } } := ⟨_, rfl⟩
  rw [← he3] at I3
  have hh3 : s2.heap.push { cls := .type "list", dict := none, data := .seq ([] : List Value).toArray } = e3.heap := by rw [he3]
  have sz3 : e3.heap.objs.size = s2.heap.objs.size + 1 := by rw [← hh3, Heap.size_push]
  dsimp only at hns₁ hsb₁ ⊢
  rw [hh3] at hns₁ hsb₁ ⊢
  generalize hH3 : upd H2 s2.heap.objs.size (.lst []) = H3 at *
  have live : ∀ b ∈ fp, b < s2.heap.objs.size := fun b hb => let ⟨_, e, _⟩ := T.obj _ _ st2 b hb; Heap.lt_size e
  have f3 : ∀ b ∈ fp, FpOk X pins H3 b := fun b hb => by
    refine ⟨?_, (f2 b hb).2⟩
    rw [← hH3, upd_ne (Nat.ne_of_lt (live b hb))]
    exact (f2 b hb).1
  have C0 : FpOk X pins H3 e3.heap.objs.size := I3.fpOk (Nat.le_refl _) (I3.hok.fresh (Nat.le_refl _))
  have old3 : ∀ b o, e3.heap.get? b = some o → h₁.get? b = some o := fun b o e => hsb₁.extBut b o (Nat.ne_of_lt (Heap.lt_size e)) (Heap.get?_push_of_some _ e)
  have nofs : ∀ b ∈ fp, b ∉ frs X.stack := fun b hb z => (List.mem_cons.mp (I3.stkSub b z)).elim (f3 b hb).2.1 (f3 b hb).2.2.1
  have hst1 : tn 0 h₁ := T.keep _ _ _ st2 fun b _ o e => old3 b o (by rw [← hh3]; exact Heap.get?_push_of_some _ e)
  have e0 := I3.env0
  have ok : ∀ xe, (cxComp X scope cl e3.heap.objs.size (x :: fs) e3 H3 fp xe).Ok := fun xe => by
    refine ⟨I3.ok.mod, S.kind, I3.ok.glob, I3.ok.blt, Nat.le_refl _, fun y z c h1 h2 => I3.ok.inj y z c (c1 _ _ h1) (c1 _ _ h2), fun y hy => ?_, fun y c z => ?_, I3.ok.hd, I3.ok.frames, .inl rfl, fun b hb => ⟨?_, fun y c e => (f3 b hb).2.2.2.2.1 y c (c1 _ _ e)⟩, e0.bs, e0.bsz, fun b o e hb => ?_, nofs, e0.funs, e0.frf⟩
    · have q : scope.names.lookup y = some .free ∨ scope.names.lookup y = some .cell := by
        rcases hy with hy | hy
        · exact relabel_kind hy (.inl rfl)
        · exact relabel_kind hy (.inr rfl)
      rcases q with q | q
      · exact c2 y (PySem.mem_of_lookup q)
      · exact absurd rfl (S.nocell _ (PySem.mem_of_lookup q))
    · cases z
    · exact Nat.ne_of_lt (Nat.lt_of_lt_of_le (live b hb) (by rw [sz3]; exact Nat.le_succ _))
    · rcases (f3 b hb).2.2.2.1 with z | z
      · exact I3.ok.noex b o e z
      · exact absurd (Nat.lt_of_lt_of_le (Heap.lt_size e) (Nat.le_trans I3.ok.bsz z)) (Nat.lt_irrefl _)
  have cellUp : ∀ c v, e3.heap.IsCell c v → h₁.IsCell c v := fun c v ⟨o, ho, hd⟩ => ⟨o, old3 _ _ ho, hd⟩
  have J0 : ∀ xe, Inv (cxComp X scope cl e3.heap.objs.size (x :: fs) e3 H3 fp xe) [] (none :: ix.map fun i => (σ[i]?).join) H3 { e3 with heap := h₁, toks := e3.toks + ([] : List (Str × Value)).length } := fun xe => by
    have hk : ∀ b o, e3.heap.get? b = some o → h₁.get? b = some o := old3
    refine ⟨ok xe, rfl, I3.bare, Un.kept hk, ⟨_, hns₁, fun i y v h1 h2 h3 => ?_⟩, fun y c e => ?_, I3.hok.fresh (Nat.le_refl _), fun y c e => I3.freeC y c (c1 _ _ e), fun p hp => absurd (show p ∈ ([] : List (Addr × Obj)) from hp) (by simp), I3.hok.kept hk, ?_⟩
    · cases i with
      | zero => cases h2
      | succ i =>
        have h1 : fs[i]? = some y := h1
        have h2 : (ix.map fun i => (σ[i]?).join)[i]? = some (some v) := h2
        have hy := S.fs y (List.mem_of_getElem? h1)
        rw [List.getElem?_map] at h2
        cases ej : ix[i]? with
        | none => rw [ej] at h2; cases h2
        | some j =>
          rw [ej] at h2
          have h2 : (σ[j]?).join = some v := Option.some.inj h2
          have hσ : σ[j]? = some (some v) := by
            cases q : σ[j]? with
            | none => rw [q] at h2; cases h2
            | some o => rw [q] at h2; cases o with
              | none => cases h2
              | some o => cases h2; rfl
          have hN : X.N[j]? = some y := by
            have z := congrArg (·[i]?) hix
            simp only [List.getElem?_map, ej, h1, Option.map_some] at z
            exact Option.some.inj z
          have kf := S.fr _ (PySem.mem_of_lookup hy) rfl
          obtain ⟨m, hn, hl⟩ := I3.loc
          obtain ⟨u, r, l⟩ := hl j y v hN hσ (by rcases kf with k | k; exact .inr (.inl k); exact .inr (.inr k))
          refine ⟨u, r, .inr ⟨relabel_free hy, ?_⟩⟩
          rcases l with ⟨l, _⟩ | ⟨_, c, e, z⟩
          · rcases kf with k | k <;> (rw [l] at k; cases k)
          · obtain ⟨c', e'⟩ := c2 y (PySem.mem_of_lookup hy)
            have q := c1 _ _ e'
            rw [e] at q; cases q
            exact ⟨c, e', cellUp _ _ z⟩
    · obtain ⟨v, z⟩ := I3.cell y c (c1 _ _ e)
      exact ⟨v, cellUp _ _ z⟩
    · have z := congrArg List.length hix
      simp only [List.length_map] at z
      show (none :: _ : St).length = (x :: fs).length
      simp only [List.length_cons, List.length_map, z]
  have back : ∀ {xe σ' H' s'}, Inv (cxComp X scope cl e3.heap.objs.size (x :: fs) e3 H3 fp xe) [] σ' H' s' → Inv X pins σ H' s' := fun {xe σ' H' s'} J =>
    I3.call' (s' := s') (ch := fp) J.os J.base J.hok J.bare fun b hb => ⟨(f3 b hb).2.2.2.1, (f3 b hb).2.1, (f3 b hb).2.2.2.2.1, (f3 b hb).2.2.2.2.2⟩
  have stat : ∀ {xe} {H' : Hp}, (∀ b ∈ fp, H' b = none) → ∀ b ∈ fp, FpOk (cxComp X scope cl e3.heap.objs.size (x :: fs) e3 H3 fp xe) [] H' b := fun {xe H'} hn b hb =>
    ⟨hn b hb, Nat.ne_of_lt (Nat.lt_of_lt_of_le (live b hb) (by rw [sz3]; exact Nat.le_succ _)), nofs b hb, .inl hb, fun y c e => (f3 b hb).2.2.2.2.1 y c (c1 _ _ e), fun p hp => absurd (show p ∈ ([] : List (Addr × Obj)) from hp) (by simp)⟩
  have loop : ∀ s4 : Shared, s4 = { e3 with heap := h₁, toks := e3.toks + ([] : List (Str × Value)).length } →
      codeAny (model X.prog X.w) X.A (.compLoop (.ListComp elt [⟨tg, iter, ifs, 0⟩] scope pos) 0 (.ref it) (.ref s2.heap.objs.size) (compEnvC scope cl e3.heap.objs.size X.env)) (RR (.ref s2.heap.objs.size) e3.heap.objs.size) s4 := by
    rintro s4 rfl
    let xe := notedBy (model X.prog X.w) X.A (compEnvC scope cl e3.heap.objs.size X.env) fun e s' => RR (.ref s2.heap.objs.size) e3.heap.objs.size (.error e) s'
    refine compLoop_turn (fun n s' => ∃ i ys σ' H', Inv (cxComp X scope cl e3.heap.objs.size (x :: fs) e3 H3 fp xe) [] σ' H' s' ∧ tn i s'.heap ∧ (∀ b ∈ fp, H' b = none) ∧ W i n ys σ' H') ?_ m0 ⟨0, [], _, _, J0 xe, hst1, fun b hb => (f3 b hb).1, w0⟩
    rintro n s5 ⟨i, ys, σ5, H5, J5, st5, fr5, w5⟩
    rcases turn i n ys σ5 H5 w5 with ⟨stop, qn⟩ | ⟨go, N, hN, step⟩
    · refine thn (T.done (cxComp X scope cl e3.heap.objs.size (x :: fs) e3 H3 fp xe) rfl rfl rfl hc i [] s5 σ5 H5 xe J5 (stat fr5) st5 stop) fun r s6 ⟨hr, J6⟩ => ?_
      subst hr
      obtain ⟨m, hn, _⟩ := J6.loc
      exact fin _ _ H5 s6 (back J6) qn ⟨m, hn⟩ ⟨J6.free, C0.2⟩
    · refine thn (T.item (cxComp X scope cl e3.heap.objs.size (x :: fs) e3 H3 fp xe) rfl rfl rfl hc i [] s5 σ5 H5 xe J5 (stat fr5) st5 go) fun r s6 ⟨u, hr, h6⟩ => ?_
      subst hr
      refine thn h6 fun _ s7 ⟨y, H7, J7, r7, y7, st7, fr7⟩ => ?_
      have J7' := J7.pinned (stat fr7) (T.obj _ _ st7)
      refine thn (hg _ _ _ xe _ s7 σ5 H7 y u _ J7' r7 (step y H7 y7)) fun _ s8 ⟨σ8, H8, J8, q8⟩ => ?_
      refine thn (hf _ _ _ xe _ s8 σ8 H8 _ J8 q8) fun ok s8' ⟨H8', J8', q8'⟩ => ?_
      cases ok with
      | false =>
        obtain ⟨m', hm', w9⟩ := hN _ _ _ (by simpa using q8')
        refine ⟨m', hm', i + 1, ys, σ8, _, J8'.unpinned, T.keep _ _ _ st7 fun b hb o e => (J8'.pin (b, o) (List.mem_append_right _ (List.mem_append_right _ (mem_pinsAt hb e)))).1, fun b hb => ?_, w9⟩
        obtain ⟨o, e, d⟩ := T.obj _ _ st7 b hb
        exact (J8'.pin (b, o) (List.mem_append_right _ (List.mem_append_right _ (mem_pinsAt hb e)))).2.1
      | true =>
      rw [if_pos rfl] at q8' ⊢
      refine thn (he _ _ _ xe _ s8' σ8 H8' _ J8' q8') fun uv s9 ⟨v, H9, J9, r9, hD9, hl9, n9⟩ => ?_
      obtain ⟨m', hm', w9⟩ := hN _ _ _ n9
      refine thn (mt_append (X := cxComp X scope cl e3.heap.objs.size (x :: fs) e3 H3 fp xe) _ s9 σ8 H9 (.ref s2.heap.objs.size) [v] _ [uv] (fun _ H' => H' = upd H9 s2.heap.objs.size (.lst (ys ++ [v]))) J9 rfl (.cons r9 .nil) ⟨_, ys, v, rfl, rfl, hD9, hl9, rfl⟩) fun _ s10 ⟨_, H10, J10, _, eH⟩ => ?_
      subst eH
      refine ⟨m', hm', i + 1, ys ++ [v], σ8, _, J10.unpinned, T.keep _ _ _ st7 fun b hb o e => (J10.pin (b, o) (List.mem_append_right _ (List.mem_append_right _ (mem_pinsAt hb e)))).1, fun b hb => ?_, w9⟩
      obtain ⟨o, e, d⟩ := T.obj _ _ st7 b hb
      exact (J10.pin (b, o) (List.mem_append_right _ (List.mem_append_right _ (mem_pinsAt hb e)))).2.1
  subst he3
  exact codeAny_compStart_list (loop _ rfl) (T.self X.A 0 _ _ _ hst1 (loop _ rfl))
theorem CompSc.clos {pins : List (Addr × Obj)} {σ : St} {H : Hp} {s : Shared} {scope : Scope} {x : Str} {fs : List Str} (S : CompSc scope X.env x fs) (I : Inv X pins σ H s) :
    ∃ cl, closureFor scope X.env = pure cl ∧ (∀ n c, cl.lookup n = some c → X.env.cells.lookup n = some c) ∧ ∀ n, (n, NameKind.free) ∈ scope.names → ∃ c, cl.lookup n = some c :=
  closure_of fun n hn => I.ok.has n (S.fr _ hn rfl)
theorem pe_comp {tg iter elt : Expr} {ifs : List Expr} {scope : Scope} {pos : Pos} {x : Str} {fs : List Str} {ix : List Nat} {wi : TI} {g : TG} {tt : TT} {te : TE} (hc : X.calm = true) (hi : PI X tg iter wi) (hk : compChk scope X.env x fs = true) (hix : ix.map (X.N[·]?) = fs.map some)
    (hg : ∀ cl C s₀ H₀ fp xe, PG (cxComp X scope cl C (x :: fs) s₀ H₀ fp xe) tg g) (hf : ∀ cl C s₀ H₀ fp xe, PF (cxComp X scope cl C (x :: fs) s₀ H₀ fp xe) ifs tt) (he : ∀ cl C s₀ H₀ fp xe, PE (cxComp X scope cl C (x :: fs) s₀ H₀ fp xe) elt te) (hs : ∀ x, foldedSetIterable iter X.env x = pure x := by intro _; rfl) :
    PE X (.ListComp elt [⟨tg, iter, ifs, 0⟩] scope pos) (tComp wi ix g tt te .mk) := by
  intro pins s σ H Q I h
  have S := CompSc.of hk
  obtain ⟨cl, hcl, c1, c2⟩ := S.clos I
  rw [eval_ListComp]
  refine wpAny_comprehension_free (use := none) rfl hs hcl S.kind S.own (thn (hi pins s σ H _ I h) fun v s1 h1 => thn h1 fun itv s2 h2 => ?_)
  obtain ⟨it, fp, tn, J, H2, e, I2, T, st2, f2, q⟩ := h2
  subst e
  refine comp_block (RR := fun acc C => compPost (model X.prog X.w) X.A X.xe none (EP X pins σ Q) acc C) I2 T st2 f2 hc S c1 c2 hix (fun C s₀ H₀ xe => hg cl C s₀ H₀ fp xe) (fun C s₀ H₀ xe => hf cl C s₀ H₀ fp xe) (fun C s₀ H₀ xe => he cl C s₀ H₀ fp xe) q fun D C H' s' I' q' ⟨m, hn⟩ ⟨f0, f1, _, f3, f4, f5⟩ => ?_
  exact ⟨m, hn, fun h' hs' => ⟨.ref D, H', I'.turned (t' := s'.toks) (fun b o hb e => (hs'.2 b hb).trans e) f0 f1 f3 f4 f5, rfl, q'⟩⟩
theorem ps_setC {tg iter elt : Expr} {ifs : List Expr} {scope : Scope} {pos spos py : Pos} {x y : Str} {i : Nat} {fs : List Str} {ix : List Nat} {wi : TI} {g : TG} {tt : TT} {te : TE} (hN : X.N.Nodup) (hy : X.N[i]? = some y) (hl : X.env.kindOf y = some .local) (hc : X.calm = true) (hi : PI X tg iter wi)
    (hk : compChk scope X.env x fs = true) (hix : ix.map (X.N[·]?) = fs.map some)
    (hg : ∀ cl C s₀ H₀ fp xe, PG (cxComp X scope cl C (x :: fs) s₀ H₀ fp xe) tg g) (hf : ∀ cl C s₀ H₀ fp xe, PF (cxComp X scope cl C (x :: fs) s₀ H₀ fp xe) ifs tt) (he : ∀ cl C s₀ H₀ fp xe, PE (cxComp X scope cl C (x :: fs) s₀ H₀ fp xe) elt te)
    (hsw : swapsWith (.ListComp elt [⟨tg, iter, ifs, 0⟩] scope pos) (some (.Name y py)) spos.line X.env = pure true := by rfl) (hs : ∀ x, foldedSetIterable iter X.env x = pure x := by intro _; rfl) :
    PS X (.Assign [.Name y py] (.ListComp elt [⟨tg, iter, ifs, 0⟩] scope pos) spos) (tAsg (tComp wi ix g tt te .mk) (gName i)) := by
  intro pins s σ H D I h
  have S := CompSc.of hk
  obtain ⟨cl, hcl, c1, c2⟩ := S.clos I
  rw [exec_Assign_Name_used _ _ _ _ hsw]
  refine wpAny_bind (wpAny_standAt (wpAny_bind ?_))
  show wpAny _ X.A (do let _ ← comprehension (.ListComp elt [⟨tg, iter, ifs, 0⟩] scope pos) scope X.env _ (newList []) false (eval iter X.env) (some (assign (.Name y py) X.env))) _ _ s
  refine wpAny_bind (wpAny_mono (wpAny_comprehension_free (use := some (assign (.Name y py) X.env)) (Q := fun _ s' => SP X pins D .next s') rfl hs hcl S.kind S.own
    (thn (hi pins s σ H _ I h) fun v s1 h1 => thn h1 fun itv s2 h2 => ?_)) (fun _ s' hq => wpAny_pure (wpAny_pure hq)) fun _ _ e => e)
  obtain ⟨it, fp, tn, J, H2, e, I2, T, st2, f2, q⟩ := h2
  subst e
  refine comp_block (RR := fun acc C => compPost (model X.prog X.w) X.A X.xe (some (assign (.Name y py) X.env)) (fun _ s' => SP X pins D .next s') acc C) I2 T st2 f2 hc S c1 c2 hix (fun C s₀ H₀ xe => hg cl C s₀ H₀ fp xe) (fun C s₀ H₀ xe => hf cl C s₀ H₀ fp xe) (fun C s₀ H₀ xe => he cl C s₀ H₀ fp xe) q
    fun D' C H' s' I' q' ⟨m, hn⟩ ⟨f0, f1, _, f3, f4, f5⟩ => ?_
  show wpAny _ X.A (assign (.Name y py) X.env (.ref D')) _ _ _
  refine wpAny_assign_Name (store_ok2 (v := .ref D') I' hN hy (.inl hl) rfl (fun s'' I'' ⟨a, sb, ha⟩ => ?_) (.inr hl))
  have hne : C ≠ a := by
    rcases ha with ha | ha
    · rw [ha]; exact f1
    · exact fun z => f4 _ _ ha z.symm
  exact ⟨m, hn.sameBut sb hne, fun h' hs' => ⟨_, H', I''.turned (t' := s''.toks) (fun b o hb e => (hs'.2 b hb).trans e) f0 f1 f3 f4 f5, q'⟩⟩
end
end L2
namespace L2
open PySem PySem.Spec PyProof.Rows
section
variable {X : Cx} {pins : List (Addr × Obj)} {σ : List (Option V)} {H H' : Hp} {s : Shared} {h' : Heap}
end
section
variable {X : Cx}
end
theorem ints_of : ∀ {ns : List Int} {us : List Value}, Vals (ns.map V.int) us → IntsAre us ns
  | [], _, h => by cases h; exact .nil
  | n :: ns, _, h => by
    cases h with
    | cons r rr =>
      obtain ⟨t, rfl⟩ := r
      exact .cons _ _ (ints_of rr)
theorem of_ints : ∀ {ns : List Int} {us : List Value}, IntsAre us ns → Vals (ns.map V.int) us
  | [], [], _ => .nil
  | _ :: _, _ :: _, .cons _ t h => .cons ⟨t, rfl⟩ (of_ints h)
end L2
namespace L2
open PySem PySem.Spec PyProof.Rows
section
variable {X : Cx} {pins : List (Addr × Obj)} {σ : St} {H : Hp} {s : Shared} {a : Addr} {kvs : List (Key × V)} {k : Key} {u r : Value} {z : V} {A : Around} {E : Value → Shared → Prop}
end
section
variable {X : Cx} {o e f : Expr} {apos cpos : Pos} {td ty tx : TE}
end
theorem call_sum {X : Cx} (hc : X.calm = true) : CallR X (.builtin "sum") (fun xs H Q => ∃ (p : Addr) (ns : List Int), xs = [.ref p] ∧ SqL X.K H p (ns.map V.int) ∧ Q (.int ns.sum) H) := by
  intro pins s σ H xs us Q I r h
  obtain ⟨p, ns, rfl, hq, q⟩ := h
  obtain ⟨u, rfl, rx⟩ := vals1 r
  cases rx
  obtain ⟨its, r', pl, hz⟩ := I.list hq
  have hi := ints_of r'
  obtain ⟨ps, hx⟩ := hi.allInts.items
  have e : preSum (numAt ps) ps.size = ns.sum := by
    have h1 := hi.numsOf
    rw [preSum_eq, List.take_of_length_le (by simp), ← h1, ← nums_intItems, ← hx]
  have hl := pl.isList
  rw [hx] at hl
  refine sum_intListG (I.ok.hd hc) hl fun h' tk t' hk => ?_
  rw [e]
  exact ⟨.int ns.sum, H, I.kept (t' := tk) hk, ⟨t', rfl⟩, q⟩
theorem bools_of : ∀ {bs : List Bool} {us : List Value}, Vals (bs.map V.bl) us → LSm.BoolsAre us bs
  | [], _, h => by cases h; exact .nil
  | b :: bs, _, h => by
    cases h with
    | cons r rr =>
      cases r
      exact .cons _ (bools_of rr)
theorem call_any {X : Cx} (hc : X.calm = true) : CallR X (.builtin "any") (fun xs H Q => ∃ (p : Addr) (bs : List Bool), xs = [.ref p] ∧ SqL X.K H p (bs.map V.bl) ∧ Q (.bl (bs.any id)) H) := by
  intro pins s σ H xs us Q I r h
  obtain ⟨p, bs, rfl, hq, q⟩ := h
  obtain ⟨u, rfl, rx⟩ := vals1 r
  cases rx
  obtain ⟨its, r', pl, hz⟩ := I.list hq
  have hb := bools_of r'
  have hl := pl.isList
  have hlt : p < s.heap.objs.size := by obtain ⟨_, e, _⟩ := id hl; exact Heap.lt_size e
  refine call_any_walk (wpAny_pyIter_list hl ?_)
  refine ⟨s.heap.objs.size, [s.heap.objs.size, p], [s.heap.objs.size], its.toArray.size, _, _, fun i => (bs[i]?).getD false, rfl, Walks.list (A := X.A.in1) (I.ok.hd hc) _ p (Nat.ne_of_lt hlt) its.toArray,
    ⟨⟨_, Heap.get?_push_size _ rfl, rfl, rfl⟩, hl.push _⟩, fun i v s' Q' E' hP hQ => ?_, fun h' tk hk => ?_⟩
  · obtain ⟨b, e, rfl⟩ := hb.get i v (by simpa using hP)
    simp only [e, Option.getD_some] at hQ
    exact wpAny_truthy_bool hQ
  · have e : ((List.range its.toArray.size).any fun i => (bs[i]?).getD false) = bs.any id := by
      rw [List.size_toArray, hb.length]; exact LSm.range_any bs
    rw [e]
    exact ⟨.bl (bs.any id), H, I.kept (t' := tk) (LSm.kept_iter hk), rfl, q⟩
theorem ints_at : ∀ {ns : List Int} {us : List Value}, us.length = ns.length → (∀ (j : Nat) v, us[j]? = some v → ∃ t i, ns[j]? = some i ∧ v = Value.int i t) → IntsAre us ns
  | [], [], _, _ => .nil
  | _ :: _, [], h, _ => by cases h
  | [], _ :: _, h, _ => by cases h
  | n :: ns, u :: us, hl, h => by
    obtain ⟨t, i, e1, e2⟩ := h 0 u rfl
    have e1 : n = i := by simpa using e1
    subst e1 e2
    exact .cons _ _ (ints_at (by simpa using hl) fun j v e => by simpa using h (j + 1) v (by simpa using e))
theorem sorted_src {prog : Program} {w : World} {A : Around} {E : Value → Shared → Prop} {s : Shared} {T : String} {r d : Addr} {n : Nat} {P : Nat → Value → Prop} {OK : Heap → Prop} {Q : Value → Shared → Prop}
    (K : PySem.W.KdlSrc prog w T r d n P OK) (hh : A.handled = none) (hok : OK s.heap) (ns : List Int) (hn : n = ns.length) (h64 : ns.length < 64)
    (hP : ∀ j v, P j v → ∃ t i, ns[j]? = some i ∧ v = Value.int i t)
    (h : ∀ (h1 h' : Heap) (l : Addr) (tk : Nat) (out : Array Value) (e : Nat) (ms : List Int), (∀ b o, s.heap.get? b = some o → h1.get? b = some o) → (∀ b o, h1.get? b = some o → h'.get? b = some o) → h1.objs.size ≤ l → h'.get? l = some (seqObj "list" out e) →
      IntsAre out.toList ms → ms.Perm ns → ms.Pairwise (· ≤ ·) → Q (.ref l) { s with heap := h', toks := tk }) :
    wpAny (model prog w) A (call (.builtin "sorted") [.ref r]) Q E s := by
  have hsz : n ≤ sizeLine := by rw [sizeLine_eq]; omega
  refine Calls.call_function_entry kind_sorted plain_sorted entry_sorted (args_sorted1 _) ?_
  unfold Builtin.«sorted»
  refine wpAny_bind (m := checkCount "sorted" 1 1 _) (wpAny_pure ?_)
  refine wpAny_bind (PySem.W.kdu_collect (A := A.in1) K hh hok hsz fun h' tk acc hk hacc => ?_)
  have hl : acc.toList.length = n := by rw [Array.length_toList]; exact hacc.1
  have hI : IntsAre acc.toList ns := ints_at (by rw [hl, hn]) fun j v e => hP j v (hacc.2 j v (by rw [← Array.getElem?_toList]; exact e))
  refine wpAny_bind (wpAny_newList ?_ (by rw [hl]; exact hsz))
  have hoL : (h'.push (seqObj "list" acc.toList.toArray 0)).get? h'.objs.size = some (seqObj "list" acc.toList.toArray 0) := Heap.get?_push_size _ rfl
  refine wpAny_bind (wpAny_holding (wpAny_call_entry slot_list_sort ⟨_, hoL, rfl⟩ entry_list_sort (list_sort_tree hoL hI (by rw [hl, hn]; exact h64) fun out ns' a1 a2 a3 => ⟨_, rfl, ?_⟩) (args_list_sort _)))
  obtain ⟨e, he⟩ := sortedHeap_at (out := out) hoL
  refine wpAny_pure ⟨_, rfl, h h' _ _ _ out e ns' hk (fun b o hb => ?_) (Nat.le_refl _) he a1 a2 a3⟩
  have hlt := Heap.lt_size hb
  rw [sortedHeap_old (Nat.ne_of_lt hlt) (by rw [size_push']; exact Nat.lt_succ_of_lt hlt)]
  exact Heap.get?_push_of_some _ hb
theorem kv_at {κ : Type} {kvs : List (κ × V)} {vs : List (κ × Value)} (r : KV kvs vs) : ∀ (j : Nat) (k : κ) (x : Value), vs[j]? = some (k, x) → ∃ v, kvs[j]? = some (k, v) ∧ RelV v x := by
  unfold KV at r
  induction r with
  | nil => intro j k x e; simp at e
  | cons q _ ih =>
    intro j k x e
    cases j with
    | zero =>
      simp at e
      subst e
      exact ⟨_, by simp; exact Prod.ext q.1 rfl, q.2⟩
    | succ j => simpa using ih j k x (by simpa using e)
theorem call_sortedD {X : Cx} (hc : X.calm = true) : CallR X (.builtin "sorted") (fun xs H Q => ∃ (p : Addr) (kvs : List (Key × V)) (ns : List Int), xs = [.ref p] ∧ Rd H p (.dK kvs) ∧ kvs.map (·.1) = ns.map Sum.inl ∧ ns.length < 64 ∧
    ∀ l ms, H l = none → List.Perm ms ns → ms.Pairwise (· ≤ ·) → Q (.ref l) (upd H l (.lst (ms.map V.int)))) := by
  intro pins s σ H xs us Q I r h
  obtain ⟨p, kvs, ns, rfl, hq, hk, h64, q⟩ := h
  obtain ⟨u, rfl, rx⟩ := vals1 r
  cases rx
  obtain ⟨z, hd, vs, rel, dd⟩ := dk_rd I.hok hq
  obtain ⟨ep, hat⟩ := dd.dictAt
  have hlen : vs.length = ns.length := by
    have := congrArg List.length hk
    rw [List.length_map, List.length_map] at this
    rw [← rel.length, this]
  refine sorted_src (PySem.W.kdl_dict (knd := mixKind X.prog X.w) (kvs := vs) (ep := ep) hd) (I.ok.hd hc) hat ns hlen h64 (fun j v hv => ?_) fun h1 h' l tk out e ms k0 k1 k2 k3 a1 a2 a3 => ?_
  · obtain ⟨k, x, hx, hk2⟩ := hv
    obtain ⟨v2, hv2, _⟩ := kv_at rel j k x hx
    have e1 : (kvs.map (·.1))[j]? = some k := by rw [List.getElem?_map, hv2]; rfl
    rw [hk, List.getElem?_map] at e1
    cases e2 : ns[j]? with
    | none => rw [e2] at e1; cases e1
    | some i =>
      rw [e2] at e1
      cases e1
      obtain ⟨t, ev⟩ := Value.isInt_shape (k := i) (v := v) hk2
      exact ⟨t, i, rfl, ev⟩
  · have hl := a2.length_eq
    have I1 : Inv X pins σ H { s with heap := h1, toks := tk } := I.kept (t' := tk) k0
    exact ⟨.ref l, _, I1.laid (t' := tk) k1 k2 (show ObjOk X.prog X.w _ _ _ (.lst (ms.map V.int)) from ⟨by rw [List.length_map, hl, sizeLine_eq]; omega, out.toList, e, of_ints a1, k3⟩), rfl, q _ _ (I1.hok.fresh k2) a2 a3⟩
inductive HidW (c : TT) (tb : TS) : Type where
  | mk : HidW c tb
inductive HidB (tb : TS) : Type where
  | mk : HidB tb
def LoopW (c : TT) (tb : TS) (_ : HidW c tb) : TS := tWhile c tb
def TurnW (tb : TS) (_ : HidB tb) (Pv : Nat → St → Hp → Prop) (m : Nat) (D : Ends) (σ : St) (H : Hp) : Prop :=
  ∃ N : St → Hp → Prop, (∀ σ' H', N σ' H' → ∃ m', m' < m ∧ Pv m' σ' H') ∧ tb { D with nx := N, ct := N, bk := D.nx } σ H
theorem ps_whileE {X : Cx} {c : Expr} {body : List Stmt} {tc : TT} {tb : TS} {pos : Pos} (hp : PassesOwn (model X.prog X.w) X.A X.env X.xe) (hc : PT X c tc) (hb : PSs X body tb) : PS X (.While c body [] pos) (LoopW tc tb .mk) := ps_while hp hc hb
theorem loop_while {c : TT} {tb : TS} {h : HidW c tb} {D : Ends} {σ : St} {H : Hp} (Pv : Nat → St → Hp → Prop) (m0 : Nat) (h0 : Pv m0 σ H)
    (hs : ∀ m σ H, Pv m σ H → c σ H fun b H1 => if b = true then TurnW tb .mk Pv m D σ H1 else D.nx σ H1) : LoopW c tb h D σ H := ⟨Pv, ⟨m0, h0⟩, hs⟩
theorem turnW {tb : TS} {h : HidB tb} {Pv : Nat → St → Hp → Prop} {m : Nat} {D : Ends} {σ : St} {H : Hp}
    (q : tb { D with nx := fun σ' H' => ∃ m', m' < m ∧ Pv m' σ' H', ct := fun σ' H' => ∃ m', m' < m ∧ Pv m' σ' H', bk := D.nx } σ H) : TurnW tb h Pv m D σ H := ⟨_, fun _ _ h => h, q⟩
end L2
namespace L2
open PySem PySem.Spec PyProof.Rows
section
variable {X : Cx} {pins : List (Addr × Obj)} {σ : List (Option V)} {H : Hp} {s : Shared} {a : Addr}
theorem Inv.rewrite {u v : HO} (I : Inv X pins σ H s) (e : H a = some u) (hn : ∀ b, u ≠ .own b) (ht : ∀ xs, u ≠ .tup xs) (h0 : ∀ w, X.H₀ a = some w → (∃ o z, w = .frz o z) ∨ (∃ xs, w = .tup xs) ∨ (∃ ps, w = .tbl ps) → False) (new : ObjOk X.prog X.w (upd H a v) s.heap a v) :
    Inv X pins σ (upd H a v) s where
  ok := I.ok
  os := I.os
  bare := I.bare
  base := ⟨I.base.keep, I.base.slot, fun b o q n hx => by
      have := I.base.free b o q n hx
      rw [upd_ne (fun z => by rw [z, e] at this; cases this)]; exact this, I.base.there,
    fun b xs q => by
      have hb : b ≠ a := fun z => h0 _ (z ▸ q) (.inr (.inl ⟨_, rfl⟩))
      rw [upd_ne hb]; exact I.base.tups b xs q,
    fun b o z q => by
      have hb : b ≠ a := fun z => h0 _ (z ▸ q) (.inl ⟨_, _, rfl⟩)
      rw [upd_ne hb]; exact I.base.frzs b o z q,
    fun b ps q => by
      have hb : b ≠ a := fun z => h0 _ (z ▸ q) (.inr (.inr ⟨_, rfl⟩))
      rw [upd_ne hb]; exact I.base.tbls b ps q⟩
  loc := I.loc
  cell := I.cell
  free := by rw [upd_ne (Ne.symm (ne_of_none e I.free))]; exact I.free
  freeC := fun x c q => by
    have := I.freeC x c q
    rw [upd_ne (Ne.symm (ne_of_none e this))]; exact this
  pin := fun p hp => by
    obtain ⟨p1, p2, p3⟩ := I.pin p hp
    exact ⟨p1, by rw [upd_ne (Ne.symm (ne_of_none e p2))]; exact p2, p3⟩
  hok := fun b w q => by
    by_cases hb : b = a
    · subst hb; rw [upd_same] at q; cases q; exact new
    · rw [upd_ne hb] at q
      refine (I.hok b w q).stay (fun _ _ _ q => q) (fun c q => ?_) fun c xs q => ?_
      · rw [upd_ne (fun z => by rw [z, e] at q; exact hn _ (Option.some.inj q))]; exact q
      · rw [upd_ne (fun z => by rw [z, e] at q; exact ht _ (Option.some.inj q))]; exact q
  len := I.len
theorem Inv.still {w : HO} (I : Inv X pins σ H s) (h : X.H₀ a = some w) (hw : (∃ o z, w = .frz o z) ∨ (∃ xs, w = .tup xs) ∨ (∃ ps, w = .tbl ps)) : (∃ o z, H a = some (.frz o z)) ∨ (∃ xs, H a = some (.tup xs)) ∨ (∃ ps, H a = some (.tbl ps)) := by
  rcases hw with ⟨o, z, rfl⟩ | ⟨xs, rfl⟩ | ⟨ps, rfl⟩
  · exact .inl ⟨o, z, I.base.frzs a o z h⟩
  · exact .inr (.inl ⟨xs, I.base.tups a xs h⟩)
  · obtain ⟨m, e⟩ := I.base.tbls a ps h
    exact .inr (.inr ⟨_, e⟩)
theorem Inv.freeze {kvs : List (Key × V)} (I : Inv X pins σ H s) (e : H a = some (.dK kvs)) : ∃ o, s.heap.get? a = some o ∧ Inv X pins σ (upd H a (.frz o (.dK kvs))) s := by
  obtain ⟨z, hd, vs, rel, o, es, ep, ho, r⟩ := I.hok a _ e
  refine ⟨o, ho, I.rewrite e (fun _ z => by cases z) (fun _ z => by cases z) (fun w hw h => ?_) ⟨ho, z, hd, vs, rel, o, es, ep, ho, r⟩⟩
  rcases I.still hw h with ⟨_, _, q⟩ | ⟨_, q⟩ | ⟨_, q⟩ <;> (rw [e] at q; cases q)
theorem Inv.thaw {kvs : List (Key × V)} {o : Obj} (I : Inv X pins σ H s) (e : H a = some (.frz o (.dK kvs))) (h0 : ∀ o u, X.H₀ a ≠ some (.frz o u)) : Inv X pins σ (upd H a (.dK kvs)) s := by
  obtain ⟨ho, z, hd, vs, rel, dd⟩ := I.hok a _ e
  refine I.rewrite e (fun _ z => by cases z) (fun _ z => by cases z) (fun w hw h => ?_) ⟨z, hd, vs, rel, dd⟩
  rcases h with ⟨_, _, rfl⟩ | h
  · exact h0 _ _ hw
  · rcases I.still hw (.inr h) with ⟨o', z', q⟩ | ⟨_, q⟩ | ⟨_, q⟩
    · rcases h with ⟨xs, rfl⟩ | ⟨ps, rfl⟩
      · have := I.base.tups a xs hw; rw [e] at this; cases this
      · obtain ⟨m, this⟩ := I.base.tbls a ps hw; rw [e] at this; cases this
    · rw [e] at q; cases q
    · rw [e] at q; cases q
end
def thawH (a : Addr) (H : Hp) : Hp := match H a with
  | some (.frz _ (.dK kvs)) => upd H a (.dK kvs)
  | _ => H
theorem thawH_of {a : Addr} {H : Hp} {o : Obj} {kvs : List (Key × V)} (h : H a = some (.frz o (.dK kvs))) : thawH a H = upd H a (.dK kvs) := by unfold thawH; rw [h]
theorem Inv.thawed {X : Cx} {pins : List (Addr × Obj)} {σ : List (Option V)} {H : Hp} {s : Shared} {a : Addr} (I : Inv X pins σ H s) (h0 : ∀ o u, X.H₀ a ≠ some (.frz o u)) : Inv X pins σ (thawH a H) s := by
  unfold thawH
  split
  · rename_i h; exact I.thaw h h0
  · exact I
def thawD (a : Addr) (D : Ends) : Ends := { D with nx := fun σ H => D.nx σ (thawH a H), bk := fun σ H => D.bk σ (thawH a H), ct := fun σ H => D.ct σ (thawH a H), rt := fun v H => D.rt v (thawH a H) }
def tThaw (X : Cx) (t : TS) : TS := fun D σ H => ∃ a, (∀ o u, X.H₀ a ≠ some (.frz o u)) ∧ t (thawD a D) σ H
theorem ps_thaw {X : Cx} {st : Stmt} {t : TS} (h : PS X st t) : PS X st (tThaw X t) := by
  intro pins s σ H D I hh
  obtain ⟨a, h0, hh⟩ := hh
  refine wpAny_mono (h pins s σ H (thawD a D) I hh) (fun f s' q => ?_) fun _ _ e => e
  unfold SP at q ⊢
  cases f with
  | next => obtain ⟨σ', H', I', q⟩ := q; exact ⟨σ', _, I'.thawed h0, q⟩
  | brk => obtain ⟨σ', H', I', q⟩ := q; exact ⟨σ', _, I'.thawed h0, q⟩
  | cont => obtain ⟨σ', H', I', q⟩ := q; exact ⟨σ', _, I'.thawed h0, q⟩
  | ret u => obtain ⟨v, σ', H', I', r, q⟩ := q; exact ⟨v, σ', _, I'.thawed h0, r, q⟩
theorem frz_at {X : Cx} {pins : List (Addr × Obj)} {σ : List (Option V)} {H : Hp} {s : Shared} {a : Addr} {o : Obj} {kvs : List (Key × V)} {ep : Nat} {es} (I : Inv X pins σ H s) (e : H a = some (.frz o (.dK kvs))) (he : o.data = .dict es ep) :
    ∃ vs, KV kvs vs ∧ s.heap.DictAt (mixKind X.prog X.w) a vs ep ∧ (a == sysModules) = false := by
  obtain ⟨ho, z, hd, vs, rel, o', es', ep', ho', c, d, r⟩ := I.hok a _ e
  rw [ho] at ho'
  cases ho'
  rw [he] at d
  cases d
  exact ⟨vs, rel, ⟨o, es, ho, c, he, r⟩, hd⟩
end L2
namespace L2
open PySem PySem.Spec PyProof.Rows
def rEqN (K : PySem.W.Frag) (n : Nat) : R2 := fun x y H Q => (x = .non ∧ y = .non ∧ Q (.bl true) H) ∨ (x = .non ∧ (∃ a xs, y = .ref a ∧ SqT K H a xs) ∧ Q (.bl false) H) ∨ ((∃ a xs, x = .ref a ∧ SqT K H a xs) ∧ y = .non ∧ Q (.bl false) H) ∨ rEqD K n x y H Q
theorem op_eqN {X : Cx} {n : Nat} (hu : X.A.units + n + 2 < cLine) : OpR X (compareOp .Eq) (rEqN X.K n) := by
  intro pins s σ H x y u v Q I rx ry h
  rcases h with ⟨rfl, rfl, q⟩ | ⟨rfl, ⟨a, xs, rfl, hy⟩, q⟩ | ⟨⟨a, xs, rfl, hx⟩, rfl, q⟩ | h
  · cases rx; cases ry
    exact SeqAt.RcAt.none_none X.prog X.w X.xe _ ⟨.bl true, H, I, rfl, q⟩
  · cases rx; cases ry
    obtain ⟨its, r, p, hz⟩ := I.tuple hy
    exact SeqAt.RcAt.none_tuple (A := X.A) (s := s) (show s.heap.IsTuple a its.toArray from p) (by omega) X.prog X.w X.xe _ ⟨.bl false, H, I, rfl, q⟩
  · cases rx; cases ry
    obtain ⟨its, r, p, hz⟩ := I.tuple hx
    exact SeqAt.RcAt.tuple_none (A := X.A) (s := s) (show s.heap.IsTuple a its.toArray from p) (by omega) X.prog X.w X.xe _ ⟨.bl false, H, I, rfl, q⟩
  · exact op_eqD hu pins s σ H x y u v Q I rx ry h
end L2
namespace L2
open PySem PySem.Spec PyProof.Rows
end L2
namespace L2
open PySem PySem.Spec PyProof.Rows
end L2
namespace L2
open PySem PySem.Spec PyProof.Rows
theorem ix_tupC {X : Cx} {K : PySem.W.Frag} (h : X.K = K) : IxR X (rIxT K) := h ▸ ix_tup
end L2
namespace L2
open PySem PySem.Spec PyProof.Rows
structure FunD (K : PySem.W.Frag) (x qual : Str) (st : Stmt) (f : Addr) (fd : FuncData) : Prop where
  ex : ∃ (oc : Value) (od : Option Addr) (dV kV doc pm : Value) (an : Option Addr) (cdv ct : Value) (osl : Array (Option Value)),
    fd = PySem.W.fnOf x qual (defArgs st) (defBody st) (defScope st) dV kV doc pm an cdv ct ∧ K.lookup f = some ⟨oc, od, .func fd, osl⟩ ∧ PySem.W.codeIn K cdv qual = true
  kp : PySem.W.keepIn K (.ref f) = true
section
variable {P : Program} {w : World} {K : PySem.W.Frag} {mg : Str → Option Value} {base : Heap}
theorem fund_mk {x qual : Str} {st : Stmt} {f : Addr} {oc : Value} {od an : Option Addr} {osl : Array (Option Value)} {dV kV doc pm cdv ct : Value} (l : K.lookup f = some ⟨oc, od, .func (PySem.W.fnOf x qual (defArgs st) (defBody st) (defScope st) dV kV doc pm an cdv ct), osl⟩)
    (c : PySem.W.codeIn K cdv qual = true) (k : PySem.W.keepIn K (.ref f) = true) : FunD K x qual st f (PySem.W.fnOf x qual (defArgs st) (defBody st) (defScope st) dV kV doc pm an cdv ct) := ⟨⟨oc, od, dV, kV, doc, pm, an, cdv, ct, osl, rfl, l, c⟩, k⟩
theorem FunD.okE {x qual : Str} {st : Stmt} {f : Addr} {fd : FuncData} {N ps : List Str} {k : Nat} {sp : Sp} (F : FunD K x qual st f fd) (S : FnScope N ps (defScope st)) (len : ∀ vs H Q E, sp vs H Q E → vs.length = ps.length)
    (hbody : Body P w K mg base qual st N k sp) : FnOk P w K mg base (CXe P w) (k + 1) f fd ps sp := by
  obtain ⟨oc, od, dV, kV, doc, pm, an, cdv, ct, osl, rfl, lk, hcd⟩ := F.ex
  exact fn_of lk hcd S len fun A outer s H vs Q E hr hsp => hbody f cdv A outer s H vs Q E hr hsp
def RawMD (K : PySem.W.Frag) (C : Addr) (m qual : Str) (st : Stmt) (ps : List Str) (dvs : List V) : Prop := ∃ f fd ds, Meth K C m f ∧ FunD K m qual st f fd ∧ Binds K fd ps ds ∧ Vals dvs ds
def RawID (K : PySem.W.Frag) (mg : Str → Option Value) (x : Str) (C : Addr) (qual : Str) (st : Stmt) (ps : List Str) (dvs : List V) : Prop := ∃ f fd ds, mg x = some (.ref C) ∧ Mk K C f ∧ FunD K "__init__" qual st f fd ∧ Binds K fd ps ds ∧ Vals dvs ds
theorem RawMD.have {C : Addr} {m qual : Str} {st : Stmt} {N ps : List Str} {dvs : List V} {k : Nat} {sp : Sp} (R : RawMD K C m qual st ps dvs) (S : FnScope N ps (defScope st)) (len : ∀ vs H Q E, sp vs H Q E → vs.length = ps.length)
    (hbody : Body P w K mg base qual st N k sp) : HaveM P w K mg base C m (k + 1) ps dvs sp :=
  let ⟨f, fd, ds, hm, F, hb, hd⟩ := R
  ⟨f, fd, ds, hm, hb, hd, F.okE S len hbody⟩
theorem RawID.have {C : Addr} {x qual : Str} {st : Stmt} {N ps : List Str} {dvs : List V} {k : Nat} {sp : Sp} (R : RawID K mg x C qual st ps dvs) (S : FnScope N ps (defScope st)) (len : ∀ vs H Q E, sp vs H Q E → vs.length = ps.length)
    (hbody : Body P w K mg base qual st N k sp) : HaveI P w K mg base x C (k + 1) ps dvs sp :=
  let ⟨f, fd, ds, hm, M, F, hb, hd⟩ := R
  ⟨f, fd, ds, hm, M, hb, hd, F.okE S len hbody⟩
end
end L2
namespace L2
open PySem PySem.Spec PyProof.Rows
theorem binds_d {K : PySem.W.Frag} {fd : FuncData} {ps : List Str} {ds : List Value} (n : Nat) (hn : ps.length = n + ds.length) (h : ∀ (s : Shared) (us : List Value), K.In s.heap → us.length = n → BindsTo s fd ⟨us, []⟩ (ps.zip (us ++ ds))) : Binds K fd ps ds :=
  fun s us X hl => h s us X (by rw [List.length_append, hn] at hl; omega)
end L2
namespace L2
open PySem PySem.Spec PyProof.Rows
end L2
namespace L2
open PySem PySem.Spec PyProof.Rows
section
variable {X : Cx}
end
theorem Vals.at {xs : List V} {us : List Value} (r : Vals xs us) (m : Nat) (h1 : m < xs.length) (h2 : m < us.length) : RelV xs[m] us[m] := by
  obtain ⟨u, hu, ru⟩ := r.get (List.getElem?_eq_getElem h1)
  rw [List.getElem?_eq_getElem h2] at hu
  cases hu
  exact ru
end L2
namespace L2
open PySem PySem.Spec PyProof.Rows
def isN : V → Bool
  | .non => true
  | _ => false
end L2
namespace L2
open PySem PySem.Spec PyProof.Rows
section
variable {prog : Program} {w : World} {K : Type} [DecidableEq K] {knd : HeapKind prog w K} {A : Around} {E : Value → Shared → Prop} {s : Shared}
end
end L2
namespace L2
open PySem PySem.Spec PyProof.Rows
def RawD (h : Heap) (d : Addr) (es : Array DictEntry) (ep : Nat) : Prop := ∃ o, h.get? d = some o ∧ o.ExactDict ∧ o.data = .dict es ep
theorem RawD.ty {s : Shared} {d : Addr} {es : Array DictEntry} {ep : Nat} (r : RawD s.heap d es ep) : s.TypeIs (.ref d) "dict" := let ⟨o, ho, hc, _⟩ := r; ⟨o, ho, hc.1⟩
section
variable {prog : Program} {w : World} {A : Around} {E : Value → Shared → Prop} {s : Shared} {d it : Addr} {es : Array DictEntry} {ep i : Nat}
end
end L2
namespace L2
open PySem PySem.Spec PyProof.Rows
section
variable {X : Cx}
end
end L2
namespace L2
open PySem PySem.Spec PyProof.Rows
def valsO (v d : Addr) : HO := .ext fun h => h.IsValuesView v d
def tVals (td : TE) : TE := fun σ H Q => td σ H fun x H1 => ∃ a kvs, x = .ref a ∧ H1 a = some (.dK kvs) ∧ ∀ v, H1 v = none → Q (.ref v) (upd H1 v (valsO v a))
theorem pe_dvals {X : Cx} {o : Expr} {td : TE} {apos cpos : Pos} (ho : PE X o td) (hbase : attributeBase o "values" X.env (eval o X.env) = eval o X.env := by rfl) (hline : (apos.endLine == cpos.line) = true := by rfl) : PE X (.Call (.Attribute o "values" apos) [] [] cpos) (tVals td) := by
  intro pins s σ H Q I h
  refine wpAny_Call_method0_late hbase hline (thn (ho pins s σ H _ I h) fun u s1 ⟨x, H1, I1, rx, a, kvs, ex, hd, q⟩ => ?_)
  subst ex
  obtain rfl : u = Value.ref a := rx
  obtain ⟨t1, t2, _⟩ := isD_at I1 (.inl ⟨kvs, .inl hd⟩)
  obtain ⟨_, nd, vs, _, dd⟩ := dk_rd I1.hok (.inl hd)
  refine ⟨"dict", "dict.values", PySem.F.plainAttrs_dict, PySem.F.slot_dict_values, PySem.F.type_dict_values, t1, t2, Calls.callWith_builtin rfl (PySem.evalArgs_none ?_)⟩
  refine call_meetsIn PySem.F.slot_dict_values dd.typeIs PySem.F.entry_dict_values (PySem.F.args_dict_values_1 _) (meets_dict_values (mixKind X.prog X.w) a nd) ⟨⟨vs, dd⟩, ?_⟩
  refine ⟨.ref s1.heap.objs.size, _, I1.laid (t' := s1.toks) (fun b u e => Heap.get?_push_of_some _ e) (Nat.le_refl _) (o := valsO s1.heap.objs.size a) ⟨⟨_, Heap.get?_push_size _ rfl, rfl, rfl⟩, ⟨_, Heap.get?_push_size _ rfl⟩, fun h1 h2 ⟨o, e, c, d⟩ k => ⟨o, k o e, c, d⟩⟩, rfl, q _ (I1.hok.fresh (Nat.le_refl _))⟩
def Itw (a : Addr) (o : Obj) (kvs : List (Key × V)) : It :=
  ⟨fun i H => H a = some (.frz o (.dK kvs)) ∧ i < kvs.length, fun i H x H' => H' = H ∧ ∃ k, kvs[i]? = some (k, x), fun i H => H a = some (.frz o (.dK kvs)) ∧ kvs.length ≤ i⟩
theorem turn_vals {P : Program} {w : World} {K : PySem.W.Frag} {tg : Expr} (a it : Addr) (o : Obj) (kvs : List (Key × V)) (ep : Nat) {es} (he : o.data = .dict es ep) : Turn P w K tg (Itw a o kvs) [it] it (fun i h => h.IsValIter it a i kvs.length ep) where
  mem := by simp
  obj := fun i h st b hb => by
    have e : b = it := by simpa using hb
    subst e
    obtain ⟨o, e, c, d⟩ := st
    exact ⟨o, e, fun v z => by rw [d] at z; cases z⟩
  keep := fun i h h' st k => st.at fun o e => k it (by simp) o e
  item := by
    intro X hP hw hK hc i pins s σ H E I hf st hg
    subst hP hw hK
    obtain ⟨hg, hi⟩ := hg
    obtain ⟨vs, rel, dat, _⟩ := frz_at I hg he
    obtain ⟨f0, f1, f2, f3, f4, f5⟩ := hf it (by simp)
    have hl := rel.length
    have hi2 : i < vs.length := by rw [← hl]; exact hi
    obtain ⟨⟨k, x⟩, hx⟩ : ∃ p, vs[i]? = some p := ⟨_, List.getElem?_eq_getElem hi2⟩
    obtain ⟨v, hv, rv⟩ := kv_at rel i k x hx
    rw [hl] at st
    refine wpAny_pyNext_values_item st dat hx fun h' st' sb => ?_
    have I1 : Inv X pins σ H { s with heap := h' } := I.turned (t' := s.toks) (fun b o hb e => (sb.2 b hb).trans e) f0 f1 f3 f4 f5
    obtain ⟨ob, e, c, d⟩ := id st'
    rw [← hl] at st'
    exact ⟨x, rfl, go_of (s := { s with heap := h' }) e c d (by decide) ⟨v, H, I1, rv, ⟨rfl, k, hv⟩, st', fun b hb => (hf b hb).1⟩⟩
  done := by
    intro X hP hw hK hc i pins s σ H E I hf st hg
    subst hP hw hK
    obtain ⟨hg, hi⟩ := hg
    obtain ⟨vs, rel, dat, _⟩ := frz_at I hg he
    obtain ⟨f0, f1, f2, f3, f4, f5⟩ := hf it (by simp)
    have hl := rel.length
    rw [hl] at st
    exact wpAny_pyNext_values_end (I.ok.hd hc) st dat (List.getElem?_eq_none_iff.mpr (by rw [← hl]; exact hi)) fun h' eb => ⟨rfl, I.turned (t' := s.toks) (fun b o hb e => eb b o hb e) f0 f1 f3 f4 f5⟩
  self := fun _ _ _ _ _ st h => wpAny_pyIter_valiter st h
def iVals (tl : TE) : TI := fun σ H R => tl σ H fun x H1 => ∃ v a kvs, x = .ref v ∧ H1 v = some (valsO v a) ∧ H1 a = some (.dK kvs) ∧ ∀ o, R (Itw a o kvs) (upd H1 a (.frz o (.dK kvs)))
theorem pi_vals {X : Cx} {tg l : Expr} {tl : TE} (hl : PE X l tl) : PI X tg l (iVals tl) := by
  intro pins s σ H R I h
  refine thn (hl pins s σ H _ I h) fun v s1 ⟨x, H1, I1, r1, q1⟩ => ?_
  obtain ⟨vw, a, kvs, e, hv, hq, q⟩ := q1
  subst e
  cases r1
  obtain ⟨o, ho, I2⟩ := I1.freeze hq
  obtain ⟨_, _, vs, rel, o', es, ep, ho', c, d, r⟩ := I1.hok a _ hq
  rw [ho] at ho'
  cases ho'
  obtain ⟨vs, rel, dat, hd⟩ := frz_at I2 upd_same d
  have hvw : s1.heap.IsValuesView vw a := (I1.hok vw _ hv).1
  refine wpAny_pyIter_values hvw dat ?_
  have hlen : kvs.length = vs.length := rel.length
  have hfr : upd H1 a (.frz o (.dK kvs)) s1.heap.objs.size = none := I2.hok.fresh (Nat.le_refl _)
  refine ⟨s1.heap.objs.size, [s1.heap.objs.size], _, _, upd H1 a (.frz o (.dK kvs)), rfl, I2.kept (t' := s1.toks) fun b o e => Heap.get?_push_of_some _ e, turn_vals a _ o kvs ep d, ⟨_, Heap.get?_push_size _ rfl, rfl, by rw [hlen]; rfl⟩, fun b hb => ?_, q o⟩
  have e : b = s1.heap.objs.size := by simpa using hb
  subst e
  exact I2.fpOk (Nat.le_refl _) hfr
theorem comp_vals {a : Addr} {o : Obj} {kvs : List (Key × V)} {g : TG} {tt : TT} {te : TE} {h : HidC g tt te} {σ0 : St} {D : Addr} {Q : Hp → Prop} {H : Hp} (Pv : Nat → List V → St → Hp → Prop) (h0 : Pv 0 [] σ0 (upd H D (.lst []))) (hl : ∀ i ys σ H, i ≤ kvs.length → Pv i ys σ H → H a = some (.frz o (.dK kvs)))
    (hs : ∀ i k x ys σ H, kvs[i]? = some (k, x) → Pv i ys σ H → g x σ H fun σ2 H2 => tt σ2 H2 fun b H2' => if b = true then te σ2 H2' fun v H3 => H3 D = some (.lst ys) ∧ ys.length < sizeLine ∧ Pv (i + 1) (ys ++ [v]) σ2 (upd H3 D (.lst (ys ++ [v]))) else Pv (i + 1) ys σ2 H2') (hd : ∀ ys σ H, Pv kvs.length ys σ H → Q H) :
    Comp g tt te h (Itw a o kvs) σ0 D Q H := by
  refine ⟨fun i m ys σ H => i + m = kvs.length ∧ Pv i ys σ H, ⟨kvs.length, Nat.zero_add _, h0⟩, fun i m ys σ H ⟨e, p⟩ => ?_⟩
  have hq := hl i ys σ H (by omega) p
  by_cases hi : i < kvs.length
  · refine .inr ⟨⟨hq, hi⟩, Pv (i + 1), fun ys σ H q => ⟨m - 1, by omega, by omega, q⟩, ?_⟩
    rintro y H' ⟨rfl, k, hy⟩
    exact hs i k y ys σ _ hy p
  · have e' : i = kvs.length := by omega
    subst e'
    exact .inl ⟨⟨hq, Nat.le_refl _⟩, hd ys σ H p⟩
end L2
namespace L2
open PySem PySem.Spec PyProof.Rows
end L2
namespace L2
open PySem PySem.Spec PyProof.Rows
section
variable {prog : Program} {w : World} {A : Around} {E : Value → Shared → Prop} {s : Shared}
end
end L2
namespace L2
open PySem PySem.Spec PyProof.Rows
def tVarM (i : Nat) : TE := fun σ H Q => match σ[i]? with
  | some (some v) => Q v H
  | _ => False
theorem tVarM_le {i : Nat} {σ : St} {H : Hp} {Q : VK} (h : tVarM i σ H Q) : tVar i σ H Q := by
  unfold tVarM at h
  split at h
  · rename_i v e; exact ⟨v, e, h⟩
  · exact h.elim
theorem pvM {X : Cx} (i : Nat) {x : Str} {pos : Pos} (hN : X.N[i]? = some x := by rfl) (hv : Vis X.env.scope x := by first | exact Or.inl rfl | exact Or.inr (Or.inl rfl) | exact Or.inr (Or.inr rfl)) (hd : (x == ("__debug__" : Str)) = false := by decide)
    (hcd : (x == ("__classdict__" : Str)) = false := by decide) : PE X (.Name x pos) (tVarM i) := fun pins s σ H Q I h => pe_var hN hv hd hcd pins s σ H Q I (tVarM_le h)
theorem rI0_ii {g : Int → Int → V} {i j : Int} {H : Hp} {Q : VK} : rI0 g (.int i) (.int j) H Q = Q (g i j) H := propext ⟨fun ⟨_, _, e1, e2, h⟩ => by cases e1; cases e2; exact h, fun h => ⟨_, _, rfl, rfl, h⟩⟩
theorem rI_ii {C : Int → Int → Prop} {g : Int → Int → V} {i j : Int} {H : Hp} {Q : VK} : rI C g (.int i) (.int j) H Q = (C i j ∧ Q (g i j) H) := propext ⟨fun ⟨_, _, e1, e2, h⟩ => by cases e1; cases e2; exact h, fun h => ⟨_, _, rfl, rfl, h⟩⟩
theorem ex_int {c : Int} {P : Int → Prop} : (∃ i, V.int c = V.int i ∧ P i) = P c := propext ⟨fun ⟨_, e, h⟩ => by cases e; exact h, fun h => ⟨_, rfl, h⟩⟩
theorem ex_bl {c : Bool} {P : Bool → Prop} : (∃ i, V.bl c = V.bl i ∧ P i) = P c := propext ⟨fun ⟨_, e, h⟩ => by cases e; exact h, fun h => ⟨_, rfl, h⟩⟩
theorem ex_ref {c : Addr} {P : Addr → Prop} : (∃ i, V.ref c = V.ref i ∧ P i) = P c := propext ⟨fun ⟨_, e, h⟩ => by cases e; exact h, fun h => ⟨_, rfl, h⟩⟩
end L2
namespace L2
open PySem PySem.Spec PyProof.Rows
section
open PySem.Builtin PySem.Builtin.Str
end
end L2
namespace Hd
open PySem PySem.W PySem.Calls PyProof.Rows
def runT (tb : String → Option Builtin) (p : Program) (w : World) (n0 : Nat) (ann : Option Value) : Nat → SharedT → Thread → Option SharedT
  | 0, _, _ => none
  | n + 1, s, t => match through t with
    | true => some s
    | false => match stepOk n0 ann t with
      | false => none
      | true => match stepT (denote tb) p w s t with
        | some (s', t') => runT tb p w n0 ann n s' t'
        | none => none
theorem runT_of {tb : String → Option Builtin} {p : Program} {w : World} {n0 : Nat} {ann : Option Value} : ∀ {n : Nat} {s r : SharedT} {t : Thread}, runT tb p w n0 ann n s t = some r → topRun tb p w n0 ann n s.abs t = some r.abs
  | 0, _, _, _, h => by cases h
  | n + 1, s, r, t, h => by
    unfold runT at h
    unfold topRun
    cases he : through t with
    | true => rw [he] at h; cases h; rfl
    | false =>
      rw [he] at h
      cases hk : stepOk n0 ann t with
      | false => rw [hk] at h; cases h
      | true =>
        rw [hk] at h
        cases hs : stepT (denote tb) p w s t with
        | none => rw [hs] at h; cases h
        | some x => obtain ⟨s2, t2⟩ := x; rw [hs] at h; rw [stepT_spec hs]; exact runT_of h
def grow : List Obj → Nat → BT → BT
  | [], _, t => t
  | o :: l, n, t => grow l (n + 1) (t.ins n o)
noncomputable def bootT (P : Params) : BT := grow (boot_heap P).objs.toList 0 .nil
noncomputable def bootS (w : World) (os : OsState) : SharedT := ⟨bootT w.params, (boot_heap w.params).objs.size, (boot_heap w.params).life, #[], boot_drawn, boot_toks, os⟩
theorem boot_abs (w : World) (os : OsState) : (bootS w os).abs = ⟨boot_heap w.params, #[], boot_drawn, boot_toks, os⟩ := by kernel_rfl
theorem boot_size (w : World) : ((boot_heap w.params).isNs mainGlobals && (#[] : Array GenState).size == 0) = true := by kernel_rfl
noncomputable abbrev ann0 (w : World) : Option Value := (boot_heap w.params).nsMap mainGlobals "__annotations__"
def look {α : Type} (p : Program) (Yf : Shared → α) (H0 : Heap) (s : Shared) : Bool × α :=
  (staticsOk (importedModules p.main.body) H0 s.heap && namesBound p s.heap && gensDone s && laidKept H0 s.heap, Yf s)
noncomputable def ran (p : Program) (N : Nat) (w : World) (os : OsState) : Option SharedT := runT treeTable p w (boot_heap w.params).objs.size (ann0 w) N (bootS w os) (topStub p)
noncomputable def once {α : Type} (p : Program) (Yf : Shared → α) (N : Nat) (w : World) (os : OsState) := (ran p N w os).map fun s => look p Yf (boot_heap w.params) s.abs
noncomputable def seen (p q : Program) (loose : List Str) (Xt : Shared → Bool) (N : Nat) (w : World) (os : OsState) := (ran p N w os).map fun s => openSeen q loose (importedModules p.main.body) Xt true s.abs
end Hd
namespace Hd
open PySem PySem.W
def dig : Nat → Nat → List Nat
  | 0, _ => []
  | k + 1, n => match Nat.beq n 0 with
    | true => []
    | false => Nat.sub (n % 256) 1 :: dig k (n / 256)
def S (n : Nat) : Str := ⟨⟨dig 200 n⟩⟩
def ent (P : Params) (x : Str) (t : Nat) (v : Value) : DictEntry := ⟨PyData.keyHash P x, .str x t, v⟩
def dO (n : Nat) (l : List DictEntry) : Obj := ⟨.type "dict", none, .dict ⟨l⟩ n, #[]⟩
def tO (l : List Value) : Obj := ⟨.type "tuple", none, .seq ⟨l⟩ 0, #[]⟩
def cO (l : List Value) : Obj := ⟨.type "code", none, .fields ⟨l⟩, #[]⟩
end Hd
namespace Hd
open PySem PySem.W PySem.Calls PyProof.Rows
def goT (tb : String → Option Builtin) (p : Program) (w : World) (n0 : Nat) (ann : Option Value) : Nat → SharedT → Thread → Option (SharedT × Thread)
  | 0, s, t => some (s, t)
  | n + 1, s, t => match through t with
    | true => none
    | false => match stepOk n0 ann t with
      | false => none
      | true => match stepT (denote tb) p w s t with
        | some (s', t') => goT tb p w n0 ann n s' t'
        | none => none
theorem goT_of {tb : String → Option Builtin} {p : Program} {w : World} {n0 : Nat} {ann : Option Value} : ∀ {n : Nat} {s s' : SharedT} {t t' : Thread}, goT tb p w n0 ann n s t = some (s', t') → topGo tb p w n0 ann n s.abs t = some (s'.abs, t')
  | 0, _, _, _, _, h => by cases h; rfl
  | n + 1, s, s', t, t', h => by
    unfold goT at h
    unfold topGo
    cases he : through t with
    | true => rw [he] at h; cases h
    | false =>
      rw [he] at h
      cases hk : stepOk n0 ann t with
      | false => rw [hk] at h; cases h
      | true =>
        rw [hk] at h
        cases hs : stepT (denote tb) p w s t with
        | none => rw [hs] at h; cases h
        | some x => obtain ⟨s2, t2⟩ := x; rw [hs] at h; rw [stepT_spec hs]; exact goT_of h
theorem seg_on {tb : String → Option Builtin} {p : Program} {w : World} {n0 : Nat} {ann : Option Value} {env : Env} {q : Pos} {n N i : Nat} {s s' : SharedT} {r : Shared} {l : List Stmt} {c : Code} {pos p' : Pos} (h : segRunT tb p w n0 ann 1 n s (piecesOf (l.take i) env c pos [topFrame q]) = some (.next, s', c, p'))
    (k : topRun tb p w n0 ann N s'.abs (restOf (l.drop i) env c p' [topFrame q]) = some r) : topRun tb p w n0 ann (n + N) s.abs (restOf l env c pos [topFrame q]) = some r := by
  have := piece_app (segRun_of h) k
  rwa [List.take_append_drop] at this
theorem left_lead {p q : Program} {loose : List Str} {Xt : Shared → Bool} {α : Type} {Yf : Shared → α} {Ya : World → α} {N Nl : Nat} {S : World → OsState → SharedT} {t : Thread}
    (e : opening p = plainProg p.main.scope.names) (hN : Nat.ble 600 N = true) (f : ∀ s, fenceModules? p s = some s)
    (lead : ∀ (w : World) (os : OsState) (r : Shared), topRun treeTable p w (boot_heap w.params).objs.size (ann0 w) Nl (S w os).abs t = some r → topRun treeTable p w (boot_heap w.params).objs.size (ann0 w) N (bootS w os).abs (topStub p) = some r)
    (one : ∀ (w : World) (os : OsState), (runT treeTable p w (boot_heap w.params).objs.size (ann0 w) Nl (S w os) t).map (fun s => look p Yf (boot_heap w.params) s.abs) = some (true, Ya w))
    (two : ∀ (w : World) (os : OsState), (runT treeTable p w (boot_heap w.params).objs.size (ann0 w) Nl (S w os) t).map (fun s => openSeen q loose (importedModules p.main.body) Xt true s.abs) = some (openGood q loose)) : LeftO p q loose Xt Yf Ya N := fun w => by
  obtain ⟨⟨h, gs, d, k, os⟩, e1, e2⟩ := Option.map_eq_some_iff.mp (boot_open e hN f w)
  obtain ⟨rfl, rfl, rfl, rfl⟩ : h = boot_heap w.params ∧ gs = #[] ∧ d = boot_drawn ∧ k = boot_toks := by simpa using e2
  obtain ⟨sT, r, l⟩ := Option.map_eq_some_iff.mp (one w os)
  obtain ⟨sT', r', l2⟩ := Option.map_eq_some_iff.mp (two w os)
  obtain rfl : sT = sT' := Option.some.inj (r.symm.trans r')
  have r := lead w os _ (runT_of r)
  rw [boot_abs] at r
  obtain ⟨l1, l3⟩ : _ ∧ _ := by simpa only [look, Prod.mk.injEq] using l
  have t : topFrom treeTable p w N ⟨boot_heap w.params, #[], boot_drawn, boot_toks, os⟩ = some sT.abs := by
    unfold topFrom
    dsimp only
    rw [boot_size w, r]
    show (match staticsOk (importedModules p.main.body) (boot_heap w.params) sT.abs.heap && namesBound p sT.abs.heap && gensDone sT.abs && laidKept (boot_heap w.params) sT.abs.heap with | true => _ | false => _) = _
    rw [l1]
  unfold openEnds
  rw [e1]
  show (topFrom treeTable p w N _).map _ = _
  rw [t]
  exact congrArg some (Prod.ext l2 l3)
end Hd
namespace Hd
open PySem PySem.W PySem.Calls PyProof.Rows
theorem tw_run : (fun (_ : (String → Option Builtin) → Program → World → Nat → Option Value → Nat → SharedT → Thread → Option SharedT) => true) runT = true := by k_qdec
theorem tw_go : (fun (_ : (String → Option Builtin) → Program → World → Nat → Option Value → Nat → SharedT → Thread → Option (SharedT × Thread)) => true) goT = true := by k_qdec
theorem tw_boot : (fun (_ : World → OsState → SharedT) (_ : World → Option Value) => true) bootS ann0 = true := by k_qdec
theorem tw_look : (fun (_ : {α : Type} → Program → (Shared → α) → Heap → Shared → Bool × α) => true) @look = true := by k_qdec
theorem tw_once : (fun (_ : {α : Type} → Program → (Shared → α) → Nat → World → OsState → Option (Bool × α)) => true) @once = true := by k_qdec
theorem tw_seen : (fun (_ : Program → Program → List Str → (Shared → Bool) → Nat → World → OsState → Option _) => true) seen = true := by k_qdec
end Hd
namespace L2
open PySem PySem.Spec PyProof.Rows
structure RoomH (k : Nat) (A : Around) : Prop where
  dp : A.depth + 3 * k + 5 < recursionLimit
  un : A.units + 16 * k + 200 < cLine
theorem Room.h {k : Nat} {A : Around} (r : Room k A) : RoomH k A := ⟨r.dp, r.un⟩
theorem RoomH.deeper {k : Nat} {A : Around} (r : RoomH (k + 1) A) (env : Env) : RoomH k (A.deeper env) :=
  ⟨by have := r.dp; show A.depth + 1 + 3 * k + 5 < _; omega, by have := r.un; show A.units + 3 + 16 * k + 200 < _; omega⟩
def cxOfH (P : Program) (w : World) (K : PySem.W.Frag) (mg : Str → Option Value) (base : Heap) (N : List Str) (qual : Str) (scope : Scope) (f : Addr) (cd : Value) (A : Around) (outer : List Env) (s : Shared) (H : Hp) (E : XK) : Cx :=
  { cxOf (CXe P w) P w K mg base N qual scope f cd A outer s H E with calm := false }
def rCatS : R2 := fun x y H Q => ∃ a b, x = .str a ∧ y = .str b ∧ a.length + b.length ≤ 16777216 ∧ Q (.str (a ++ b)) H
theorem op_catS {X : Cx} : OpR X (binaryOp .Add) rCatS := by
  intro pins s σ H x y v u Q I rx ry h
  obtain ⟨a, b, rfl, rfl, hz, q⟩ := h
  obtain ⟨t, rfl⟩ := rx
  obtain ⟨t2, rfl⟩ := ry
  exact add_str (fun t' tk => ⟨.str (a ++ b), H, I.tok _, ⟨_, rfl⟩, q⟩) (by rw [sizeLine_eq]; omega)
theorem cxOfH_K {P : Program} {w : World} {K : PySem.W.Frag} {mg : Str → Option Value} {base : Heap} {N : List Str} {qual : Str} {scope : Scope} {f : Addr} {cd : Value} {A : Around} {outer : List Env} {s : Shared} {H : Hp} {E : XK} : (cxOfH P w K mg base N qual scope f cd A outer s H E).K = K := rfl
end L2
namespace L2
open PySem PySem.Spec PyProof.Rows
def BindsK (K : PySem.W.Frag) (fd : FuncData) (ps ks : List Str) : Prop := ∀ (s : Shared) (us : List Value) (a b : Value), K.In s.heap → us.length + 2 = ps.length → BindsTo s fd ⟨us, ks.zip [a, b]⟩ (ps.zip (us ++ [b, a]))
def RawMK (K : PySem.W.Frag) (C : Addr) (m qual : Str) (st : Stmt) (ps ks : List Str) : Prop := ∃ f fd, Meth K C m f ∧ FunD K m qual st f fd ∧ BindsK K fd ps ks
def HaveMK (P : Program) (w : World) (K : PySem.W.Frag) (mg : Str → Option Value) (base : Heap) (C : Addr) (m : Str) (k : Nat) (ps ks : List Str) (sp : Sp) : Prop :=
  ∃ f fd, Meth K C m f ∧ BindsK K fd ps ks ∧ FnOk P w K mg base (CXe P w) k f fd ps sp
theorem RawMK.have {P : Program} {w : World} {K : PySem.W.Frag} {mg : Str → Option Value} {base : Heap} {C : Addr} {m qual : Str} {st : Stmt} {N ps ks : List Str} {k : Nat} {sp : Sp} (R : RawMK K C m qual st ps ks) (S : FnScope N ps (defScope st)) (len : ∀ vs H Q E, sp vs H Q E → vs.length = ps.length)
    (hbody : Body P w K mg base qual st N k sp) : HaveMK P w K mg base C m (k + 1) ps ks sp :=
  let ⟨f, fd, hm, F, hb⟩ := R
  ⟨f, fd, hm, hb, F.okE S len hbody⟩
end L2
namespace L2
open PySem PySem.Spec PyProof.Rows
end L2
namespace L2
open PySem PySem.Spec PyProof.Rows
theorem call_dictOf {X : Cx} : CallR X (.type "dict") (fun xs H Q => ∃ p kvs, xs = [.ref p] ∧ Rd H p (.dK kvs) ∧ ∀ l, H l = none → Q (.ref l) (upd H l (.dK kvs))) := by
  intro pins s σ H xs us Q I r h
  obtain ⟨p, kvs, rfl, hp, q⟩ := h
  obtain ⟨u, rfl, ru⟩ := vals1 r
  cases ru
  exact d_copyOf I hp fun l s' hl I' => ⟨.ref l, _, I', rfl, q l hl⟩
def tThawE (X : Cx) (t : TE) : TE := fun σ H Q => ∃ a, (∀ o u, X.H₀ a ≠ some (.frz o u)) ∧ t σ H fun v H' => Q v (thawH a H')
theorem pe_thaw {X : Cx} {e : Expr} {t : TE} (h : PE X e t) : PE X e (tThawE X t) := by
  intro pins s σ H Q I hh
  obtain ⟨a, h0, hh⟩ := hh
  exact wpAny_mono (h pins s σ H _ I hh) (fun v s' ⟨x, H', I', r, q⟩ => ⟨x, _, I'.thawed h0, r, q⟩) fun _ _ e => e
theorem loop_vals {a : Addr} {o : Obj} {kvs : List (Key × V)} {g : TG} {tb : TS} {h : HidF g tb} {D : Ends} {σ : St} {H : Hp} (Pv : Nat → St → Hp → Prop) (h0 : Pv 0 σ H) (hl : ∀ i σ H, i ≤ kvs.length → Pv i σ H → H a = some (.frz o (.dK kvs)))
    (hs : ∀ i k v σ H, kvs[i]? = some (k, v) → Pv i σ H → g v σ H fun σ2 H2 => tb { D with nx := Pv (i + 1), ct := Pv (i + 1), bk := D.nx } σ2 H2) (hd : ∀ σ H, Pv kvs.length σ H → D.nx σ H) : Loop g tb h (Itw a o kvs) D σ H := by
  refine ⟨fun i m σ H => i + m = kvs.length ∧ Pv i σ H, ⟨kvs.length, Nat.zero_add _, h0⟩, fun i m σ H ⟨e, p⟩ => ?_⟩
  have hq := hl i σ H (by omega) p
  by_cases hi : i < kvs.length
  · refine .inr ⟨⟨hq, hi⟩, Pv (i + 1), fun σ H q => ⟨m - 1, by omega, by omega, q⟩, ?_⟩
    rintro y H' ⟨rfl, k, hk⟩
    exact hs i k y σ _ hk p
  · have e' : i = kvs.length := by omega
    subst e'
    exact .inl ⟨⟨hq, Nat.le_refl _⟩, hd σ H p⟩
end L2
set_option hygiene false in
local macro_rules | `(tactic| walk_at "wp") => `(tactic| simp only [↓L2.rI0_ii, ↓L2.rI_ii, ↓L2.ex_int, ↓L2.ex_bl, ↓L2.ex_ref, L2.tSeq, L2.tNext, L2.tAsg, L2.gName, L2.tRet, L2.tDrop, L2.tIfS, L2.tTest, L2.tB, L2.tOp, L2.tUn, L2.tVar, L2.tVarM, L2.tC, L2.rI, L2.rI0, L2.rU, L2.tAnd, L2.tNot, L2.tAndV, L2.tNotV, L2.tCallE, L2.tMethE, L2.tMakeE, L2.tCB, L2.tCons, L2.tNil, L2.tChain, L2.tLst, L2.tTup, L2.rIxL, L2.rIxT, L2.tFld, L2.sFld, L2.tRaise, L2.rEq, L2.rNe, L2.start, L2.CDiv, L2.CMul, L2.kn_int, L2.cxOf_K, L2.cxOfH_K, L2.rCatS, L2.scal_ii, L2.scal_bb, L2.scal_ss, L2.lstO_lst, L2.tupO_tup, L2.upd_same, L2.upd_upd, L2.HO.ins.injEq, L2.tTryAs, L2.rCat, L2.rSlL, L2.tSl, L2.tPart, L2.tNoPart, L2.excO_inj, L2.clsV_ref, L2.clsV_ty, L2.tForE, L2.iRng1, L2.iRng2, L2.iList, L2.tDisp, L2.tPairs, L2.tDNewK, L2.tBM, L2.tBM0, L2.rAppend, L2.rPop, L2.tComp, L2.tVals, L2.iVals, L2.tYes, Option.join_some, Option.join_none, PySem.sizeLine_eq, Nat.reduceLeDiff, eq_self, decide_eq_true_eq, 
  List.map_cons, List.map_nil, List.length_cons, List.length_nil, List.cons_append, List.nil_append, List.append_nil, List.replicate, Nat.reduceSub, Nat.reduceAdd, List.getElem?_cons_zero, List.getElem?_cons_succ, List.set_cons_zero, List.set_cons_succ,
  Option.some.injEq, List.cons.injEq, L2.V.int.injEq, L2.V.bl.injEq, L2.V.ref.injEq, L2.V.ty.injEq, L2.V.str.injEq, exists_eq_left, exists_eq_left', exists_and_left, exists_eq', exists_const, and_assoc, and_true, true_and, ↓reduceIte, Int.reduceLE, Int.reduceLT, Nat.reducePow, Int.reducePow, Int.reduceNeg, L2.na10, Nat.reduceLT, Int.reduceToNat, Int.reduceAdd, Int.reduceMul, Int.reduceSub, true_or, or_true, decide_true, decide_false])
namespace Pf
open PySem L2
def top (i : Nat) : Stmt := PySem.Challenge.pw_frameland_k46_busy_banks.main.body.getD i (.Pass ⟨0, 0, 0, 0⟩)
abbrev s_is_whole : Stmt := top 13
theorem sc_is_whole : FnScope ["thing"] ["thing"] (defScope s_is_whole) := ⟨rfl, rfl, rfl, by decide +kernel, rfl, by decide +kernel, by decide +kernel⟩
abbrev s_is_within : Stmt := top 14
theorem sc_is_within : FnScope ["thing", "low", "high"] ["thing", "low", "high"] (defScope s_is_within) := ⟨rfl, rfl, rfl, by decide +kernel, rfl, by decide +kernel, by decide +kernel⟩
abbrev s_power_of_two : Stmt := top 30
theorem sc_power_of_two : FnScope ["exponent", "power", "doubling"] ["exponent"] (defScope s_power_of_two) := ⟨rfl, rfl, rfl, by decide +kernel, rfl, by decide +kernel, by decide +kernel⟩
abbrev s_check_measures : Stmt := top 31
theorem sc_check_measures : FnScope ["levels", "fan", "grain"] ["levels", "fan", "grain"] (defScope s_check_measures) := ⟨rfl, rfl, rfl, by decide +kernel, rfl, by decide +kernel, by decide +kernel⟩
abbrev s_Shape_init : Stmt := inClass (top 32) 0
theorem sc_Shape_init : FnScope ["self", "levels", "fan", "grain"] ["self", "levels", "fan", "grain"] (defScope s_Shape_init) := ⟨rfl, rfl, rfl, by decide +kernel, rfl, by decide +kernel, by decide +kernel⟩
abbrev s_Shape_has_page : Stmt := inClass (top 32) 3
theorem sc_Shape_has_page : FnScope ["self", "page"] ["self", "page"] (defScope s_Shape_has_page) := ⟨rfl, rfl, rfl, by decide +kernel, rfl, by decide +kernel, by decide +kernel⟩
abbrev s_Shape_fits : Stmt := inClass (top 32) 10
theorem sc_Shape_fits : FnScope ["self", "first", "many"] ["self", "first", "many"] (defScope s_Shape_fits) := ⟨rfl, rfl, rfl, by decide +kernel, rfl, by decide +kernel, by decide +kernel⟩
abbrev s_check_rights : Stmt := top 17
theorem sc_check_rights : FnScope ["rights"] ["rights"] (defScope s_check_rights) := ⟨rfl, rfl, rfl, by decide +kernel, rfl, by decide +kernel, by decide +kernel⟩
abbrev s_end_of : Stmt := top 18
theorem sc_end_of : FnScope ["run"] ["run"] (defScope s_end_of) := ⟨rfl, rfl, rfl, by decide +kernel, rfl, by decide +kernel, by decide +kernel⟩
abbrev s_tie_from : Stmt := top 19
theorem sc_tie_from : FnScope ["run", "page", "tie"] ["run", "page"] (defScope s_tie_from) := ⟨rfl, rfl, rfl, by decide +kernel, rfl, by decide +kernel, by decide +kernel⟩
abbrev s_part_of : Stmt := top 20
theorem sc_part_of : FnScope ["run", "low", "high", "first"] ["run", "low", "high"] (defScope s_part_of) := ⟨rfl, rfl, rfl, by decide +kernel, rfl, by decide +kernel, by decide +kernel⟩
abbrev s_goes_on : Stmt := top 21
theorem sc_goes_on : FnScope ["run", "later"] ["run", "later"] (defScope s_goes_on) := ⟨rfl, rfl, rfl, by decide +kernel, rfl, by decide +kernel, by decide +kernel⟩
abbrev s_joined : Stmt := top 22
theorem sc_joined : FnScope ["runs", "fewer", "run", "last"] ["runs"] (defScope s_joined) := ⟨rfl, rfl, rfl, by decide +kernel, rfl, by decide +kernel, by decide +kernel⟩
abbrev s_Stretches_init : Stmt := inClass (top 23) 0
theorem sc_Stretches_init : FnScope ["self"] ["self"] (defScope s_Stretches_init) := ⟨rfl, rfl, rfl, by decide +kernel, rfl, by decide +kernel, by decide +kernel⟩
abbrev s_Stretches_put : Stmt := inClass (top 23) 1
theorem sc_Stretches_put : FnScope ["self", "first", "many", "rights", "tie"] ["self", "first", "many", "rights", "tie"] (defScope s_Stretches_put) := ⟨rfl, rfl, rfl, by decide +kernel, rfl, by decide +kernel, by decide +kernel⟩
abbrev s_Stretches_cut : Stmt := inClass (top 23) 2
theorem sc_Stretches_cut : FnScope ["self", "first", "many"] ["self", "first", "many"] (defScope s_Stretches_cut) := ⟨rfl, rfl, rfl, by decide +kernel, rfl, by decide +kernel, by decide +kernel⟩
abbrev s_Stretches_check_full : Stmt := inClass (top 23) 4
theorem sc_Stretches_check_full : FnScope ["self", "first", "many"] ["self", "first", "many"] (defScope s_Stretches_check_full) := ⟨rfl, rfl, rfl, by decide +kernel, rfl, by decide +kernel, by decide +kernel⟩
abbrev s_Stretches_is_free : Stmt := inClass (top 23) 7
theorem sc_Stretches_is_free : FnScope ["self", "first", "many"] ["self", "first", "many"] (defScope s_Stretches_is_free) := ⟨rfl, rfl, rfl, by decide +kernel, rfl, by decide +kernel, by decide +kernel⟩
abbrev s_Stretches_is_full : Stmt := inClass (top 23) 8
theorem sc_Stretches_is_full : FnScope ["self", "first", "many"] ["self", "first", "many"] (defScope s_Stretches_is_full) := ⟨rfl, rfl, rfl, by decide +kernel, rfl, by decide +kernel, by decide +kernel⟩
abbrev s_Stretches_is_tied : Stmt := inClass (top 23) 9
theorem sc_Stretches_is_tied : FnScope ["self", "bank"] ["self", "bank"] (defScope s_Stretches_is_tied) := ⟨rfl, rfl, rfl, by decide +kernel, rfl, by decide +kernel, by decide +kernel⟩
abbrev s_Stretches_place_behind : Stmt := inClass (top 23) 12
theorem sc_Stretches_place_behind : FnScope ["self", "page", "low", "high", "middle"] ["self", "page"] (defScope s_Stretches_place_behind) := ⟨rfl, rfl, rfl, by decide +kernel, rfl, by decide +kernel, by decide +kernel⟩
abbrev s_Stretches_parts_amid : Stmt := inClass (top 23) 13
theorem sc_Stretches_parts_amid : FnScope ["self", "first", "many", "end", "near"] ["self", "first", "many"] (defScope s_Stretches_parts_amid) := ⟨rfl, rfl, rfl, by decide +kernel, rfl, by decide +kernel, by decide +kernel⟩
abbrev s_Stretches_lay_amid : Stmt := inClass (top 23) 15
theorem sc_Stretches_lay_amid : FnScope ["self", "first", "many", "parts", "end", "low", "high", "near", "ahead", "behind"] ["self", "first", "many", "parts"] (defScope s_Stretches_lay_amid) := ⟨rfl, rfl, rfl, by decide +kernel, rfl, by decide +kernel, by decide +kernel⟩
abbrev s_Stretches_copied : Stmt := inClass (top 23) 11
theorem sc_Stretches_copied : FnScope ["self", "other"] ["self"] (defScope s_Stretches_copied) := ⟨rfl, rfl, rfl, by decide +kernel, rfl, by decide +kernel, by decide +kernel⟩
abbrev s_least_free : Stmt := top 26
theorem sc_least_free : FnScope ["numbers", "number"] ["numbers"] (defScope s_least_free) := ⟨rfl, rfl, rfl, by decide +kernel, rfl, by decide +kernel, by decide +kernel⟩
abbrev s_House_init : Stmt := inClass (top 27) 0
theorem sc_House_init : FnScope ["self", "shape"] ["self", "shape"] (defScope s_House_init) := ⟨rfl, rfl, rfl, by decide +kernel, rfl, by decide +kernel, by decide +kernel⟩
abbrev s_House_new_task : Stmt := inClass (top 27) 1
theorem sc_House_new_task : FnScope ["self", "task"] ["self"] (defScope s_House_new_task) := ⟨rfl, rfl, rfl, by decide +kernel, rfl, by decide +kernel, by decide +kernel⟩
abbrev s_House_new_bank : Stmt := inClass (top 27) 4
theorem sc_House_new_bank : FnScope ["self", "many", "bank"] ["self", "many"] (defScope s_House_new_bank) := ⟨rfl, rfl, rfl, by decide +kernel, rfl, by decide +kernel, by decide +kernel⟩
abbrev s_House_drop_bank : Stmt := inClass (top 27) 5
theorem sc_House_drop_bank : FnScope ["self", "bank"] ["self", "bank"] (defScope s_House_drop_bank) := ⟨rfl, rfl, rfl, by decide +kernel, rfl, by decide +kernel, by decide +kernel⟩
abbrev s_House_fork : Stmt := inClass (top 27) 2
theorem sc_House_fork : FnScope ["self", "task", "other"] ["self", "task"] (defScope s_House_fork) := ⟨rfl, rfl, rfl, by decide +kernel, rfl, by decide +kernel, by decide +kernel⟩
abbrev s_House_end_task : Stmt := inClass (top 27) 3
theorem sc_House_end_task : FnScope ["self", "task"] ["self", "task"] (defScope s_House_end_task) := ⟨rfl, rfl, rfl, by decide +kernel, rfl, by decide +kernel, by decide +kernel⟩
abbrev s_House_lay : Stmt := inClass (top 27) 6
theorem sc_House_lay : FnScope ["self", "task", "first", "many", "rights", "bank", "start", "tie"] ["self", "task", "first", "many", "rights", "bank", "start"] (defScope s_House_lay) := ⟨rfl, rfl, rfl, by decide +kernel, rfl, by decide +kernel, by decide +kernel⟩
abbrev s_House_lift : Stmt := inClass (top 27) 7
theorem sc_House_lift : FnScope ["self", "task", "first", "many"] ["self", "task", "first", "many"] (defScope s_House_lift) := ⟨rfl, rfl, rfl, by decide +kernel, rfl, by decide +kernel, by decide +kernel⟩
abbrev s_House_check_task : Stmt := inClass (top 27) 17
theorem sc_House_check_task : FnScope ["self", "task"] ["self", "task"] (defScope s_House_check_task) := ⟨rfl, rfl, rfl, by decide +kernel, rfl, by decide +kernel, by decide +kernel⟩
abbrev s_House_check_bank : Stmt := inClass (top 27) 18
theorem sc_House_check_bank : FnScope ["self", "bank"] ["self", "bank"] (defScope s_House_check_bank) := ⟨rfl, rfl, rfl, by decide +kernel, rfl, by decide +kernel, by decide +kernel⟩
abbrev s_House_check_stretch : Stmt := inClass (top 27) 19
theorem sc_House_check_stretch : FnScope ["self", "task", "first", "many"] ["self", "task", "first", "many"] (defScope s_House_check_stretch) := ⟨rfl, rfl, rfl, by decide +kernel, rfl, by decide +kernel, by decide +kernel⟩
abbrev s_House_check_part_of_bank : Stmt := inClass (top 27) 20
theorem sc_House_check_part_of_bank : FnScope ["self", "bank", "start", "many"] ["self", "bank", "start", "many"] (defScope s_House_check_part_of_bank) := ⟨rfl, rfl, rfl, by decide +kernel, rfl, by decide +kernel, by decide +kernel⟩
abbrev s_l_cell_at : Stmt := top 34
theorem sc_l_cell_at : FnScope ["_law_script", "_law_k"] ["_law_script", "_law_k"] (defScope s_l_cell_at) := ⟨rfl, rfl, rfl, by decide +kernel, rfl, by decide +kernel, by decide +kernel⟩
abbrev s_l_drop : Stmt := top 35
theorem sc_l_drop : FnScope ["_law_house", "_law_bank", "_law_word", "_law_found", "e"] ["_law_house", "_law_bank"] (defScope s_l_drop) := ⟨rfl, rfl, rfl, by decide +kernel, rfl, by decide +kernel, by decide +kernel⟩
abbrev s_l_tied : Stmt := top 36
theorem sc_l_tied : FnScope ["_law_rooms", "_law_bank", "_law_mine", "_law_one"] ["_law_rooms", "_law_bank"] (defScope s_l_tied) := ⟨rfl, rfl, rfl, by decide +kernel, rfl, by decide +kernel, by decide +kernel⟩
abbrev s_l_asked : Stmt := top 37
theorem sc_l_asked : FnScope ["_law_house", "_law_rooms", "_law_banks", "_law_bank", "_law_due"] ["_law_house", "_law_rooms", "_law_banks"] (defScope s_l_asked) := ⟨rfl, rfl, rfl, by decide +kernel, rfl, by decide +kernel, by decide +kernel⟩
abbrev s_l_laid_all : Stmt := top 38
theorem sc_l_laid_all : FnScope ["_law_house", "_law_sizes", "_law_cells", "_law_off", "_law_rooms", "_law_at", "_law_cell", "_law_bank", "_law_many", "_law_task", "_law_page"] ["_law_house", "_law_sizes", "_law_cells", "_law_off"] (defScope s_l_laid_all) := ⟨rfl, rfl, rfl, by decide +kernel, rfl, by decide +kernel, by decide +kernel⟩
abbrev s_law : Stmt := top 39
theorem sc_law : FnScope ["_law_script", "_law_house", "_law_sizes", "_law_banks", "_law_bank", "_law_rooms", "_law_some", "_law_task", "_law_pair"] ["_law_script"] (defScope s_law) := ⟨rfl, rfl, rfl, by decide +kernel, rfl, by decide +kernel, by decide +kernel⟩
structure Adr where
  C_Stretches : Addr
  C_House : Addr
  C_Shape : Addr
  C_FrameError : Addr
  C_NoShape : Addr
  C_OutOfRoom : Addr
  C_BadRights : Addr
  C_NoTask : Addr
  C_OutOfBank : Addr
  C_Taken : Addr
  C_NotMapped : Addr
  C_NoBank : Addr
  C_Busy : Addr
structure Txt (K : PySem.W.Frag) (mg : Str → Option Value) (A : Adr) : Prop where
  b_any : mg "any" = none
  b_bool : mg "bool" = none
  b_dict : mg "dict" = none
  b_int : mg "int" = none
  b_isinstance : mg "isinstance" = none
  b_len : mg "len" = none
  b_list : mg "list" = none
  b_max : mg "max" = none
  b_min : mg "min" = none
  b_range : mg "range" = none
  b_sorted : mg "sorted" = none
  b_sum : mg "sum" = none
  c_MOST_RIGHTS : ∃ u, mg "MOST_RIGHTS" = some u ∧ RelV (.int 3) u
  c_MOST_IN_BANK : ∃ u, mg "MOST_IN_BANK" = some u ∧ RelV (.int 64) u
  c_MOST_IN_STRETCH : ∃ u, mg "MOST_IN_STRETCH" = some u ∧ RelV (.int 64) u
  r_is_whole : Raw K mg "is_whole" "is_whole" s_is_whole ["thing"] []
  r_is_within : Raw K mg "is_within" "is_within" s_is_within ["thing", "low", "high"] []
  r_power_of_two : Raw K mg "power_of_two" "power_of_two" s_power_of_two ["exponent"] []
  r_check_measures : Raw K mg "check_measures" "check_measures" s_check_measures ["levels", "fan", "grain"] []
  r_check_rights : Raw K mg "check_rights" "check_rights" s_check_rights ["rights"] []
  r_end_of : Raw K mg "end_of" "end_of" s_end_of ["run"] []
  r_tie_from : Raw K mg "tie_from" "tie_from" s_tie_from ["run", "page"] []
  r_part_of : Raw K mg "part_of" "part_of" s_part_of ["run", "low", "high"] []
  r_goes_on : Raw K mg "goes_on" "goes_on" s_goes_on ["run", "later"] []
  r_joined : Raw K mg "joined" "joined" s_joined ["runs"] []
  r_least_free : Raw K mg "least_free" "least_free" s_least_free ["numbers"] []
  r_l_cell_at : Raw K mg "_law_cell_at" "_law_cell_at" s_l_cell_at ["_law_script", "_law_k"] []
  r_l_drop : Raw K mg "_law_drop" "_law_drop" s_l_drop ["_law_house", "_law_bank"] []
  r_l_tied : Raw K mg "_law_tied" "_law_tied" s_l_tied ["_law_rooms", "_law_bank"] []
  r_l_asked : Raw K mg "_law_asked" "_law_asked" s_l_asked ["_law_house", "_law_rooms", "_law_banks"] []
  r_l_laid_all : Raw K mg "_law_laid_all" "_law_laid_all" s_l_laid_all ["_law_house", "_law_sizes", "_law_cells", "_law_off"] []
  cl_Stretches : Cls K A.C_Stretches
  na_Stretches_runs : NoAttr K A.C_Stretches "runs"
  r_Stretches_init : RawI K mg "Stretches" A.C_Stretches "Stretches.__init__" s_Stretches_init ["self"] []
  r_Stretches_put : RawMD K A.C_Stretches "put" "Stretches.put" s_Stretches_put ["self", "first", "many", "rights", "tie"] []
  r1_Stretches_put : RawMD K A.C_Stretches "put" "Stretches.put" s_Stretches_put ["self", "first", "many", "rights", "tie"] [.non]
  r_Stretches_cut : RawM K A.C_Stretches "cut" "Stretches.cut" s_Stretches_cut ["self", "first", "many"] []
  r_Stretches_check_full : RawM K A.C_Stretches "check_full" "Stretches.check_full" s_Stretches_check_full ["self", "first", "many"] []
  r_Stretches_is_free : RawM K A.C_Stretches "is_free" "Stretches.is_free" s_Stretches_is_free ["self", "first", "many"] []
  r_Stretches_is_full : RawM K A.C_Stretches "is_full" "Stretches.is_full" s_Stretches_is_full ["self", "first", "many"] []
  r_Stretches_is_tied : RawM K A.C_Stretches "is_tied" "Stretches.is_tied" s_Stretches_is_tied ["self", "bank"] []
  r_Stretches_place_behind : RawM K A.C_Stretches "place_behind" "Stretches.place_behind" s_Stretches_place_behind ["self", "page"] []
  r_Stretches_parts_amid : RawM K A.C_Stretches "parts_amid" "Stretches.parts_amid" s_Stretches_parts_amid ["self", "first", "many"] []
  r_Stretches_lay_amid : RawM K A.C_Stretches "lay_amid" "Stretches.lay_amid" s_Stretches_lay_amid ["self", "first", "many", "parts"] []
  r_Stretches_copied : RawM K A.C_Stretches "copied" "Stretches.copied" s_Stretches_copied ["self"] []
  cl_House : Cls K A.C_House
  na_House_shape : NoAttr K A.C_House "shape"
  na_House_tasks : NoAttr K A.C_House "tasks"
  na_House_banks : NoAttr K A.C_House "banks"
  r_House_init : RawI K mg "House" A.C_House "House.__init__" s_House_init ["self", "shape"] []
  r_House_new_task : RawM K A.C_House "new_task" "House.new_task" s_House_new_task ["self"] []
  r_House_new_bank : RawM K A.C_House "new_bank" "House.new_bank" s_House_new_bank ["self", "many"] []
  r_House_drop_bank : RawM K A.C_House "drop_bank" "House.drop_bank" s_House_drop_bank ["self", "bank"] []
  r_House_fork : RawM K A.C_House "fork" "House.fork" s_House_fork ["self", "task"] []
  r_House_end_task : RawM K A.C_House "end_task" "House.end_task" s_House_end_task ["self", "task"] []
  r_House_lay : RawMD K A.C_House "lay" "House.lay" s_House_lay ["self", "task", "first", "many", "rights", "bank", "start"] []
  r1_House_lay : RawMD K A.C_House "lay" "House.lay" s_House_lay ["self", "task", "first", "many", "rights", "bank", "start"] [.int 0]
  r2_House_lay : RawMD K A.C_House "lay" "House.lay" s_House_lay ["self", "task", "first", "many", "rights", "bank", "start"] [.non, .int 0]
  r_House_lift : RawM K A.C_House "lift" "House.lift" s_House_lift ["self", "task", "first", "many"] []
  r_House_check_task : RawM K A.C_House "check_task" "House.check_task" s_House_check_task ["self", "task"] []
  r_House_check_bank : RawM K A.C_House "check_bank" "House.check_bank" s_House_check_bank ["self", "bank"] []
  r_House_check_stretch : RawM K A.C_House "check_stretch" "House.check_stretch" s_House_check_stretch ["self", "task", "first", "many"] []
  r_House_check_part_of_bank : RawM K A.C_House "check_part_of_bank" "House.check_part_of_bank" s_House_check_part_of_bank ["self", "bank", "start", "many"] []
  cl_Shape : Cls K A.C_Shape
  na_Shape_levels : NoAttr K A.C_Shape "levels"
  na_Shape_fan : NoAttr K A.C_Shape "fan"
  na_Shape_grain : NoAttr K A.C_Shape "grain"
  na_Shape_ways : NoAttr K A.C_Shape "ways"
  na_Shape_boxes : NoAttr K A.C_Shape "boxes"
  na_Shape_pages : NoAttr K A.C_Shape "pages"
  r_Shape_init : RawI K mg "Shape" A.C_Shape "Shape.__init__" s_Shape_init ["self", "levels", "fan", "grain"] []
  r_Shape_has_page : RawM K A.C_Shape "has_page" "Shape.has_page" s_Shape_has_page ["self", "page"] []
  r_Shape_fits : RawM K A.C_Shape "fits" "Shape.fits" s_Shape_fits ["self", "first", "many"] []
  m_FrameError : ∃ u, mg "FrameError" = some u ∧ RelV (.ref A.C_FrameError) u
  h_FrameError : XH K mg "FrameError" A.C_FrameError
  m_NoShape : ∃ u, mg "NoShape" = some u ∧ RelV (.ref A.C_NoShape) u
  x_NoShape : XC K mg "NoShape" A.C_NoShape
  m_OutOfRoom : ∃ u, mg "OutOfRoom" = some u ∧ RelV (.ref A.C_OutOfRoom) u
  x_OutOfRoom : XC K mg "OutOfRoom" A.C_OutOfRoom
  m_BadRights : ∃ u, mg "BadRights" = some u ∧ RelV (.ref A.C_BadRights) u
  x_BadRights : XC K mg "BadRights" A.C_BadRights
  m_NoTask : ∃ u, mg "NoTask" = some u ∧ RelV (.ref A.C_NoTask) u
  x_NoTask : XC K mg "NoTask" A.C_NoTask
  m_OutOfBank : ∃ u, mg "OutOfBank" = some u ∧ RelV (.ref A.C_OutOfBank) u
  x_OutOfBank : XC K mg "OutOfBank" A.C_OutOfBank
  m_Taken : ∃ u, mg "Taken" = some u ∧ RelV (.ref A.C_Taken) u
  x_Taken : XC K mg "Taken" A.C_Taken
  m_NotMapped : ∃ u, mg "NotMapped" = some u ∧ RelV (.ref A.C_NotMapped) u
  x_NotMapped : XC K mg "NotMapped" A.C_NotMapped
  m_NoBank : ∃ u, mg "NoBank" = some u ∧ RelV (.ref A.C_NoBank) u
  x_NoBank : XC K mg "NoBank" A.C_NoBank
  xi_NoBank : XI K A.C_NoBank
  m_Busy : ∃ u, mg "Busy" = some u ∧ RelV (.ref A.C_Busy) u
  x_Busy : XC K mg "Busy" A.C_Busy
  xi_Busy : XI K A.C_Busy
  sub_NoBank_FrameError : XSub K A.C_NoBank A.C_FrameError
  sub_Busy_FrameError : XSub K A.C_Busy A.C_FrameError
  kit_NoBank_NoBank : PySem.W.kitOne K (.ref A.C_NoBank) (.ref A.C_NoBank) = some true
  kit_NoBank_Busy : PySem.W.kitOne K (.ref A.C_NoBank) (.ref A.C_Busy) = some false
  kit_Busy_NoBank : PySem.W.kitOne K (.ref A.C_Busy) (.ref A.C_NoBank) = some false
  kit_Busy_Busy : PySem.W.kitOne K (.ref A.C_Busy) (.ref A.C_Busy) = some true
  r_law : ∃ f fd, mg "law" = some (.ref f) ∧ Fun K "law" "law" s_law f fd ∧ ∀ (s : Shared) (u : Value), BindsTo s fd ⟨[u], []⟩ [("_law_script", u)]
theorem el1 {P : List Value → Prop} (h : ∀ a0, P [a0]) : ∀ us : List Value, us.length = 1 → P us
  | [a0], _ => h a0
theorem el2 {P : List Value → Prop} (h : ∀ a0 a1, P [a0, a1]) : ∀ us : List Value, us.length = 2 → P us
  | [a0, a1], _ => h a0 a1
theorem el3 {P : List Value → Prop} (h : ∀ a0 a1 a2, P [a0, a1, a2]) : ∀ us : List Value, us.length = 3 → P us
  | [a0, a1, a2], _ => h a0 a1 a2
theorem el4 {P : List Value → Prop} (h : ∀ a0 a1 a2 a3, P [a0, a1, a2, a3]) : ∀ us : List Value, us.length = 4 → P us
  | [a0, a1, a2, a3], _ => h a0 a1 a2 a3
theorem txt_mk {K : PySem.W.Frag} {h : Heap} {mg : Str → Option Value} (X : K.In h) (G : h.Ns mainGlobals mg)
    {C_Busy : Addr}
    {C_NoBank : Addr}
    {C_NotMapped : Addr}
    {C_Taken : Addr}
    {C_OutOfBank : Addr}
    {C_NoTask : Addr}
    {C_BadRights : Addr}
    {C_OutOfRoom : Addr}
    {C_NoShape : Addr}
    {C_FrameError : Addr}
    {C_Shape : Addr}
    {C_House : Addr}
    {C_Stretches : Addr}
    {t_MOST_RIGHTS : Tok}
    {t_MOST_IN_BANK : Tok}
    {t_MOST_IN_STRETCH : Tok}
    {f_0 : Addr} {od_0 an_0 : Option Addr} {sl_0 : Array (Option Value)} {oc_0 kV_0 dc_0 pm_0 cd_0 ct_0 : Value}
    {f_1 : Addr} {od_1 an_1 : Option Addr} {sl_1 : Array (Option Value)} {oc_1 kV_1 dc_1 pm_1 cd_1 ct_1 : Value}
    {f_2 : Addr} {od_2 an_2 : Option Addr} {sl_2 : Array (Option Value)} {oc_2 kV_2 dc_2 pm_2 cd_2 ct_2 : Value}
    {f_3 : Addr} {od_3 an_3 : Option Addr} {sl_3 : Array (Option Value)} {oc_3 kV_3 dc_3 pm_3 cd_3 ct_3 : Value}
    {f_4 : Addr} {od_4 an_4 : Option Addr} {sl_4 : Array (Option Value)} {oc_4 kV_4 dc_4 pm_4 cd_4 ct_4 : Value}
    {f_5 : Addr} {od_5 an_5 : Option Addr} {sl_5 : Array (Option Value)} {oc_5 kV_5 dc_5 pm_5 cd_5 ct_5 : Value}
    {f_6 : Addr} {od_6 an_6 : Option Addr} {sl_6 : Array (Option Value)} {oc_6 kV_6 dc_6 pm_6 cd_6 ct_6 : Value}
    {f_7 : Addr} {od_7 an_7 : Option Addr} {sl_7 : Array (Option Value)} {oc_7 kV_7 dc_7 pm_7 cd_7 ct_7 : Value}
    {f_8 : Addr} {od_8 an_8 : Option Addr} {sl_8 : Array (Option Value)} {oc_8 kV_8 dc_8 pm_8 cd_8 ct_8 : Value}
    {f_9 : Addr} {od_9 an_9 : Option Addr} {sl_9 : Array (Option Value)} {oc_9 kV_9 dc_9 pm_9 cd_9 ct_9 : Value}
    {f_10 : Addr} {od_10 an_10 : Option Addr} {sl_10 : Array (Option Value)} {oc_10 kV_10 dc_10 pm_10 cd_10 ct_10 : Value}
    {f_11 : Addr} {od_11 an_11 : Option Addr} {sl_11 : Array (Option Value)} {oc_11 kV_11 dc_11 pm_11 cd_11 ct_11 : Value}
    {f_12 : Addr} {od_12 an_12 : Option Addr} {sl_12 : Array (Option Value)} {oc_12 kV_12 dc_12 pm_12 cd_12 ct_12 : Value}
    {f_13 : Addr} {od_13 an_13 : Option Addr} {sl_13 : Array (Option Value)} {oc_13 kV_13 dc_13 pm_13 cd_13 ct_13 : Value}
    {f_14 : Addr} {od_14 an_14 : Option Addr} {sl_14 : Array (Option Value)} {oc_14 kV_14 dc_14 pm_14 cd_14 ct_14 : Value}
    {f_15 : Addr} {od_15 an_15 : Option Addr} {sl_15 : Array (Option Value)} {oc_15 kV_15 dc_15 pm_15 cd_15 ct_15 : Value}
    {f_16 : Addr} {od_16 an_16 : Option Addr} {sl_16 : Array (Option Value)} {oc_16 kV_16 dc_16 pm_16 cd_16 ct_16 : Value}
    {f_17 tu_17 : Addr} {od_17 an_17 ud_17 : Option Addr} {sl_17 us_17 : Array (Option Value)} {oc_17 kV_17 dc_17 pm_17 cd_17 ct_17 uo_17 : Value} {un_17 : Nat}
    {f_18 : Addr} {od_18 an_18 : Option Addr} {sl_18 : Array (Option Value)} {oc_18 kV_18 dc_18 pm_18 cd_18 ct_18 : Value}
    {f_19 : Addr} {od_19 an_19 : Option Addr} {sl_19 : Array (Option Value)} {oc_19 kV_19 dc_19 pm_19 cd_19 ct_19 : Value}
    {f_20 : Addr} {od_20 an_20 : Option Addr} {sl_20 : Array (Option Value)} {oc_20 kV_20 dc_20 pm_20 cd_20 ct_20 : Value}
    {f_21 : Addr} {od_21 an_21 : Option Addr} {sl_21 : Array (Option Value)} {oc_21 kV_21 dc_21 pm_21 cd_21 ct_21 : Value}
    {f_22 : Addr} {od_22 an_22 : Option Addr} {sl_22 : Array (Option Value)} {oc_22 kV_22 dc_22 pm_22 cd_22 ct_22 : Value}
    {f_23 : Addr} {od_23 an_23 : Option Addr} {sl_23 : Array (Option Value)} {oc_23 kV_23 dc_23 pm_23 cd_23 ct_23 : Value}
    {f_24 : Addr} {od_24 an_24 : Option Addr} {sl_24 : Array (Option Value)} {oc_24 kV_24 dc_24 pm_24 cd_24 ct_24 : Value}
    {f_25 : Addr} {od_25 an_25 : Option Addr} {sl_25 : Array (Option Value)} {oc_25 kV_25 dc_25 pm_25 cd_25 ct_25 : Value}
    {f_26 : Addr} {od_26 an_26 : Option Addr} {sl_26 : Array (Option Value)} {oc_26 kV_26 dc_26 pm_26 cd_26 ct_26 : Value}
    {f_27 : Addr} {od_27 an_27 : Option Addr} {sl_27 : Array (Option Value)} {oc_27 kV_27 dc_27 pm_27 cd_27 ct_27 : Value}
    {f_28 : Addr} {od_28 an_28 : Option Addr} {sl_28 : Array (Option Value)} {oc_28 kV_28 dc_28 pm_28 cd_28 ct_28 : Value}
    {f_29 : Addr} {od_29 an_29 : Option Addr} {sl_29 : Array (Option Value)} {oc_29 kV_29 dc_29 pm_29 cd_29 ct_29 : Value}
    {f_30 : Addr} {od_30 an_30 : Option Addr} {sl_30 : Array (Option Value)} {oc_30 kV_30 dc_30 pm_30 cd_30 ct_30 : Value}
    {f_31 : Addr} {od_31 an_31 : Option Addr} {sl_31 : Array (Option Value)} {oc_31 kV_31 dc_31 pm_31 cd_31 ct_31 : Value}
    {f_32 : Addr} {od_32 an_32 : Option Addr} {sl_32 : Array (Option Value)} {oc_32 kV_32 dc_32 pm_32 cd_32 ct_32 : Value}
    {f_33 tu_33 : Addr} {od_33 an_33 ud_33 : Option Addr} {sl_33 us_33 : Array (Option Value)} {oc_33 kV_33 dc_33 pm_33 cd_33 ct_33 uo_33 : Value} {un_33 : Nat} {td1_House_lay : Tok}
    {f_34 : Addr} {od_34 an_34 : Option Addr} {sl_34 : Array (Option Value)} {oc_34 kV_34 dc_34 pm_34 cd_34 ct_34 : Value}
    {f_35 : Addr} {od_35 an_35 : Option Addr} {sl_35 : Array (Option Value)} {oc_35 kV_35 dc_35 pm_35 cd_35 ct_35 : Value}
    {f_36 : Addr} {od_36 an_36 : Option Addr} {sl_36 : Array (Option Value)} {oc_36 kV_36 dc_36 pm_36 cd_36 ct_36 : Value}
    {f_37 : Addr} {od_37 an_37 : Option Addr} {sl_37 : Array (Option Value)} {oc_37 kV_37 dc_37 pm_37 cd_37 ct_37 : Value}
    {f_38 : Addr} {od_38 an_38 : Option Addr} {sl_38 : Array (Option Value)} {oc_38 kV_38 dc_38 pm_38 cd_38 ct_38 : Value}
    {f_39 : Addr} {od_39 an_39 : Option Addr} {sl_39 : Array (Option Value)} {oc_39 kV_39 dc_39 pm_39 cd_39 ct_39 : Value}
    {f_40 : Addr} {od_40 an_40 : Option Addr} {sl_40 : Array (Option Value)} {oc_40 kV_40 dc_40 pm_40 cd_40 ct_40 : Value}
    {f_41 : Addr} {od_41 an_41 : Option Addr} {sl_41 : Array (Option Value)} {oc_41 kV_41 dc_41 pm_41 cd_41 ct_41 : Value}
    {cd_FrameError : ClassData}
    {f_42 : Addr} {od_42 an_42 : Option Addr} {sl_42 : Array (Option Value)} {oc_42 kV_42 dc_42 pm_42 cd_42 ct_42 : Value}
    (a_Busy : PySem.W.nsIn K mainGlobals "Busy" = some (some (.ref C_Busy)))
    (a_NoBank : PySem.W.nsIn K mainGlobals "NoBank" = some (some (.ref C_NoBank)))
    (a_NotMapped : PySem.W.nsIn K mainGlobals "NotMapped" = some (some (.ref C_NotMapped)))
    (a_Taken : PySem.W.nsIn K mainGlobals "Taken" = some (some (.ref C_Taken)))
    (a_OutOfBank : PySem.W.nsIn K mainGlobals "OutOfBank" = some (some (.ref C_OutOfBank)))
    (a_NoTask : PySem.W.nsIn K mainGlobals "NoTask" = some (some (.ref C_NoTask)))
    (a_BadRights : PySem.W.nsIn K mainGlobals "BadRights" = some (some (.ref C_BadRights)))
    (a_OutOfRoom : PySem.W.nsIn K mainGlobals "OutOfRoom" = some (some (.ref C_OutOfRoom)))
    (a_NoShape : PySem.W.nsIn K mainGlobals "NoShape" = some (some (.ref C_NoShape)))
    (a_FrameError : PySem.W.nsIn K mainGlobals "FrameError" = some (some (.ref C_FrameError)))
    (a_Shape : PySem.W.nsIn K mainGlobals "Shape" = some (some (.ref C_Shape)))
    (a_House : PySem.W.nsIn K mainGlobals "House" = some (some (.ref C_House)))
    (a_Stretches : PySem.W.nsIn K mainGlobals "Stretches" = some (some (.ref C_Stretches)))
    (zb_any : PySem.W.nsIn K mainGlobals "any" = some none)
    (zb_bool : PySem.W.nsIn K mainGlobals "bool" = some none)
    (zb_dict : PySem.W.nsIn K mainGlobals "dict" = some none)
    (zb_int : PySem.W.nsIn K mainGlobals "int" = some none)
    (zb_isinstance : PySem.W.nsIn K mainGlobals "isinstance" = some none)
    (zb_len : PySem.W.nsIn K mainGlobals "len" = some none)
    (zb_list : PySem.W.nsIn K mainGlobals "list" = some none)
    (zb_max : PySem.W.nsIn K mainGlobals "max" = some none)
    (zb_min : PySem.W.nsIn K mainGlobals "min" = some none)
    (zb_range : PySem.W.nsIn K mainGlobals "range" = some none)
    (zb_sorted : PySem.W.nsIn K mainGlobals "sorted" = some none)
    (zb_sum : PySem.W.nsIn K mainGlobals "sum" = some none)
    (zc_MOST_RIGHTS : PySem.W.nsIn K mainGlobals "MOST_RIGHTS" = some (some (.int 3 t_MOST_RIGHTS)))
    (zc_MOST_IN_BANK : PySem.W.nsIn K mainGlobals "MOST_IN_BANK" = some (some (.int 64 t_MOST_IN_BANK)))
    (zc_MOST_IN_STRETCH : PySem.W.nsIn K mainGlobals "MOST_IN_STRETCH" = some (some (.int 64 t_MOST_IN_STRETCH)))
    (a_0_ : PySem.W.nsIn K mainGlobals "is_whole" = some (some (.ref f_0)))
    (l_0_ : K.lookup f_0 = some ⟨oc_0, od_0, .func (PySem.W.fnOf "is_whole" "is_whole" (defArgs s_is_whole) (defBody s_is_whole) (defScope s_is_whole) .none kV_0 dc_0 pm_0 an_0 cd_0 ct_0), sl_0⟩)
    (c_0_ : PySem.W.codeIn K cd_0 "is_whole" = true)
    (k_0_ : PySem.W.keepIn K (.ref f_0) = true)
    (a_1_ : PySem.W.nsIn K mainGlobals "is_within" = some (some (.ref f_1)))
    (l_1_ : K.lookup f_1 = some ⟨oc_1, od_1, .func (PySem.W.fnOf "is_within" "is_within" (defArgs s_is_within) (defBody s_is_within) (defScope s_is_within) .none kV_1 dc_1 pm_1 an_1 cd_1 ct_1), sl_1⟩)
    (c_1_ : PySem.W.codeIn K cd_1 "is_within" = true)
    (k_1_ : PySem.W.keepIn K (.ref f_1) = true)
    (a_2_ : PySem.W.nsIn K mainGlobals "power_of_two" = some (some (.ref f_2)))
    (l_2_ : K.lookup f_2 = some ⟨oc_2, od_2, .func (PySem.W.fnOf "power_of_two" "power_of_two" (defArgs s_power_of_two) (defBody s_power_of_two) (defScope s_power_of_two) .none kV_2 dc_2 pm_2 an_2 cd_2 ct_2), sl_2⟩)
    (c_2_ : PySem.W.codeIn K cd_2 "power_of_two" = true)
    (k_2_ : PySem.W.keepIn K (.ref f_2) = true)
    (a_3_ : PySem.W.nsIn K mainGlobals "check_measures" = some (some (.ref f_3)))
    (l_3_ : K.lookup f_3 = some ⟨oc_3, od_3, .func (PySem.W.fnOf "check_measures" "check_measures" (defArgs s_check_measures) (defBody s_check_measures) (defScope s_check_measures) .none kV_3 dc_3 pm_3 an_3 cd_3 ct_3), sl_3⟩)
    (c_3_ : PySem.W.codeIn K cd_3 "check_measures" = true)
    (k_3_ : PySem.W.keepIn K (.ref f_3) = true)
    (a_4_ : PySem.W.nsIn K mainGlobals "check_rights" = some (some (.ref f_4)))
    (l_4_ : K.lookup f_4 = some ⟨oc_4, od_4, .func (PySem.W.fnOf "check_rights" "check_rights" (defArgs s_check_rights) (defBody s_check_rights) (defScope s_check_rights) .none kV_4 dc_4 pm_4 an_4 cd_4 ct_4), sl_4⟩)
    (c_4_ : PySem.W.codeIn K cd_4 "check_rights" = true)
    (k_4_ : PySem.W.keepIn K (.ref f_4) = true)
    (a_5_ : PySem.W.nsIn K mainGlobals "end_of" = some (some (.ref f_5)))
    (l_5_ : K.lookup f_5 = some ⟨oc_5, od_5, .func (PySem.W.fnOf "end_of" "end_of" (defArgs s_end_of) (defBody s_end_of) (defScope s_end_of) .none kV_5 dc_5 pm_5 an_5 cd_5 ct_5), sl_5⟩)
    (c_5_ : PySem.W.codeIn K cd_5 "end_of" = true)
    (k_5_ : PySem.W.keepIn K (.ref f_5) = true)
    (a_6_ : PySem.W.nsIn K mainGlobals "tie_from" = some (some (.ref f_6)))
    (l_6_ : K.lookup f_6 = some ⟨oc_6, od_6, .func (PySem.W.fnOf "tie_from" "tie_from" (defArgs s_tie_from) (defBody s_tie_from) (defScope s_tie_from) .none kV_6 dc_6 pm_6 an_6 cd_6 ct_6), sl_6⟩)
    (c_6_ : PySem.W.codeIn K cd_6 "tie_from" = true)
    (k_6_ : PySem.W.keepIn K (.ref f_6) = true)
    (a_7_ : PySem.W.nsIn K mainGlobals "part_of" = some (some (.ref f_7)))
    (l_7_ : K.lookup f_7 = some ⟨oc_7, od_7, .func (PySem.W.fnOf "part_of" "part_of" (defArgs s_part_of) (defBody s_part_of) (defScope s_part_of) .none kV_7 dc_7 pm_7 an_7 cd_7 ct_7), sl_7⟩)
    (c_7_ : PySem.W.codeIn K cd_7 "part_of" = true)
    (k_7_ : PySem.W.keepIn K (.ref f_7) = true)
    (a_8_ : PySem.W.nsIn K mainGlobals "goes_on" = some (some (.ref f_8)))
    (l_8_ : K.lookup f_8 = some ⟨oc_8, od_8, .func (PySem.W.fnOf "goes_on" "goes_on" (defArgs s_goes_on) (defBody s_goes_on) (defScope s_goes_on) .none kV_8 dc_8 pm_8 an_8 cd_8 ct_8), sl_8⟩)
    (c_8_ : PySem.W.codeIn K cd_8 "goes_on" = true)
    (k_8_ : PySem.W.keepIn K (.ref f_8) = true)
    (a_9_ : PySem.W.nsIn K mainGlobals "joined" = some (some (.ref f_9)))
    (l_9_ : K.lookup f_9 = some ⟨oc_9, od_9, .func (PySem.W.fnOf "joined" "joined" (defArgs s_joined) (defBody s_joined) (defScope s_joined) .none kV_9 dc_9 pm_9 an_9 cd_9 ct_9), sl_9⟩)
    (c_9_ : PySem.W.codeIn K cd_9 "joined" = true)
    (k_9_ : PySem.W.keepIn K (.ref f_9) = true)
    (a_10_ : PySem.W.nsIn K mainGlobals "least_free" = some (some (.ref f_10)))
    (l_10_ : K.lookup f_10 = some ⟨oc_10, od_10, .func (PySem.W.fnOf "least_free" "least_free" (defArgs s_least_free) (defBody s_least_free) (defScope s_least_free) .none kV_10 dc_10 pm_10 an_10 cd_10 ct_10), sl_10⟩)
    (c_10_ : PySem.W.codeIn K cd_10 "least_free" = true)
    (k_10_ : PySem.W.keepIn K (.ref f_10) = true)
    (a_11_ : PySem.W.nsIn K mainGlobals "_law_cell_at" = some (some (.ref f_11)))
    (l_11_ : K.lookup f_11 = some ⟨oc_11, od_11, .func (PySem.W.fnOf "_law_cell_at" "_law_cell_at" (defArgs s_l_cell_at) (defBody s_l_cell_at) (defScope s_l_cell_at) .none kV_11 dc_11 pm_11 an_11 cd_11 ct_11), sl_11⟩)
    (c_11_ : PySem.W.codeIn K cd_11 "_law_cell_at" = true)
    (k_11_ : PySem.W.keepIn K (.ref f_11) = true)
    (a_12_ : PySem.W.nsIn K mainGlobals "_law_drop" = some (some (.ref f_12)))
    (l_12_ : K.lookup f_12 = some ⟨oc_12, od_12, .func (PySem.W.fnOf "_law_drop" "_law_drop" (defArgs s_l_drop) (defBody s_l_drop) (defScope s_l_drop) .none kV_12 dc_12 pm_12 an_12 cd_12 ct_12), sl_12⟩)
    (c_12_ : PySem.W.codeIn K cd_12 "_law_drop" = true)
    (k_12_ : PySem.W.keepIn K (.ref f_12) = true)
    (a_13_ : PySem.W.nsIn K mainGlobals "_law_tied" = some (some (.ref f_13)))
    (l_13_ : K.lookup f_13 = some ⟨oc_13, od_13, .func (PySem.W.fnOf "_law_tied" "_law_tied" (defArgs s_l_tied) (defBody s_l_tied) (defScope s_l_tied) .none kV_13 dc_13 pm_13 an_13 cd_13 ct_13), sl_13⟩)
    (c_13_ : PySem.W.codeIn K cd_13 "_law_tied" = true)
    (k_13_ : PySem.W.keepIn K (.ref f_13) = true)
    (a_14_ : PySem.W.nsIn K mainGlobals "_law_asked" = some (some (.ref f_14)))
    (l_14_ : K.lookup f_14 = some ⟨oc_14, od_14, .func (PySem.W.fnOf "_law_asked" "_law_asked" (defArgs s_l_asked) (defBody s_l_asked) (defScope s_l_asked) .none kV_14 dc_14 pm_14 an_14 cd_14 ct_14), sl_14⟩)
    (c_14_ : PySem.W.codeIn K cd_14 "_law_asked" = true)
    (k_14_ : PySem.W.keepIn K (.ref f_14) = true)
    (a_15_ : PySem.W.nsIn K mainGlobals "_law_laid_all" = some (some (.ref f_15)))
    (l_15_ : K.lookup f_15 = some ⟨oc_15, od_15, .func (PySem.W.fnOf "_law_laid_all" "_law_laid_all" (defArgs s_l_laid_all) (defBody s_l_laid_all) (defScope s_l_laid_all) .none kV_15 dc_15 pm_15 an_15 cd_15 ct_15), sl_15⟩)
    (c_15_ : PySem.W.codeIn K cd_15 "_law_laid_all" = true)
    (k_15_ : PySem.W.keepIn K (.ref f_15) = true)
    (pg_Stretches : PySem.W.plainGet K C_Stretches Str.empty = true)
    (hd_Stretches : PySem.W.hasDictIn K C_Stretches = true)
    (po_Stretches : PySem.W.plainOver K C_Stretches = true)
    (sa_Stretches : PySem.W.findIn K (.ref C_Stretches) "__setattr__" = some (some (.builtin "object.__setattr__")))
    (zn_Stretches_runs : PySem.W.findIn K (.ref C_Stretches) "runs" = some none)
    (mk_Stretches : PySem.W.makesIn K C_Stretches = true)
    (kc_Stretches : PySem.W.keepIn K (.ref C_Stretches) = true)
    (a_16_ : PySem.W.findIn K (.ref C_Stretches) "__init__" = some (some (.ref f_16)))
    (i_16_ : PySem.W.isFn K (.ref f_16) = true)
    (l_16_ : K.lookup f_16 = some ⟨oc_16, od_16, .func (PySem.W.fnOf "__init__" "Stretches.__init__" (defArgs s_Stretches_init) (defBody s_Stretches_init) (defScope s_Stretches_init) .none kV_16 dc_16 pm_16 an_16 cd_16 ct_16), sl_16⟩)
    (c_16_ : PySem.W.codeIn K cd_16 "Stretches.__init__" = true)
    (k_16_ : PySem.W.keepIn K (.ref f_16) = true)
    (a_17_ : PySem.W.findIn K (.ref C_Stretches) "put" = some (some (.ref f_17)))
    (i_17_ : PySem.W.isFn K (.ref f_17) = true)
    (l_17_ : K.lookup f_17 = some ⟨oc_17, od_17, .func (PySem.W.fnOf "put" "Stretches.put" (defArgs s_Stretches_put) (defBody s_Stretches_put) (defScope s_Stretches_put) (.ref tu_17) kV_17 dc_17 pm_17 an_17 cd_17 ct_17), sl_17⟩)
    (u_17_ : K.lookup tu_17 = some ⟨uo_17, ud_17, .seq #[.none] un_17, us_17⟩)
    (c_17_ : PySem.W.codeIn K cd_17 "Stretches.put" = true)
    (k_17_ : PySem.W.keepIn K (.ref f_17) = true)
    (a_18_ : PySem.W.findIn K (.ref C_Stretches) "cut" = some (some (.ref f_18)))
    (i_18_ : PySem.W.isFn K (.ref f_18) = true)
    (l_18_ : K.lookup f_18 = some ⟨oc_18, od_18, .func (PySem.W.fnOf "cut" "Stretches.cut" (defArgs s_Stretches_cut) (defBody s_Stretches_cut) (defScope s_Stretches_cut) .none kV_18 dc_18 pm_18 an_18 cd_18 ct_18), sl_18⟩)
    (c_18_ : PySem.W.codeIn K cd_18 "Stretches.cut" = true)
    (k_18_ : PySem.W.keepIn K (.ref f_18) = true)
    (a_19_ : PySem.W.findIn K (.ref C_Stretches) "check_full" = some (some (.ref f_19)))
    (i_19_ : PySem.W.isFn K (.ref f_19) = true)
    (l_19_ : K.lookup f_19 = some ⟨oc_19, od_19, .func (PySem.W.fnOf "check_full" "Stretches.check_full" (defArgs s_Stretches_check_full) (defBody s_Stretches_check_full) (defScope s_Stretches_check_full) .none kV_19 dc_19 pm_19 an_19 cd_19 ct_19), sl_19⟩)
    (c_19_ : PySem.W.codeIn K cd_19 "Stretches.check_full" = true)
    (k_19_ : PySem.W.keepIn K (.ref f_19) = true)
    (a_20_ : PySem.W.findIn K (.ref C_Stretches) "is_free" = some (some (.ref f_20)))
    (i_20_ : PySem.W.isFn K (.ref f_20) = true)
    (l_20_ : K.lookup f_20 = some ⟨oc_20, od_20, .func (PySem.W.fnOf "is_free" "Stretches.is_free" (defArgs s_Stretches_is_free) (defBody s_Stretches_is_free) (defScope s_Stretches_is_free) .none kV_20 dc_20 pm_20 an_20 cd_20 ct_20), sl_20⟩)
    (c_20_ : PySem.W.codeIn K cd_20 "Stretches.is_free" = true)
    (k_20_ : PySem.W.keepIn K (.ref f_20) = true)
    (a_21_ : PySem.W.findIn K (.ref C_Stretches) "is_full" = some (some (.ref f_21)))
    (i_21_ : PySem.W.isFn K (.ref f_21) = true)
    (l_21_ : K.lookup f_21 = some ⟨oc_21, od_21, .func (PySem.W.fnOf "is_full" "Stretches.is_full" (defArgs s_Stretches_is_full) (defBody s_Stretches_is_full) (defScope s_Stretches_is_full) .none kV_21 dc_21 pm_21 an_21 cd_21 ct_21), sl_21⟩)
    (c_21_ : PySem.W.codeIn K cd_21 "Stretches.is_full" = true)
    (k_21_ : PySem.W.keepIn K (.ref f_21) = true)
    (a_22_ : PySem.W.findIn K (.ref C_Stretches) "is_tied" = some (some (.ref f_22)))
    (i_22_ : PySem.W.isFn K (.ref f_22) = true)
    (l_22_ : K.lookup f_22 = some ⟨oc_22, od_22, .func (PySem.W.fnOf "is_tied" "Stretches.is_tied" (defArgs s_Stretches_is_tied) (defBody s_Stretches_is_tied) (defScope s_Stretches_is_tied) .none kV_22 dc_22 pm_22 an_22 cd_22 ct_22), sl_22⟩)
    (c_22_ : PySem.W.codeIn K cd_22 "Stretches.is_tied" = true)
    (k_22_ : PySem.W.keepIn K (.ref f_22) = true)
    (a_23_ : PySem.W.findIn K (.ref C_Stretches) "place_behind" = some (some (.ref f_23)))
    (i_23_ : PySem.W.isFn K (.ref f_23) = true)
    (l_23_ : K.lookup f_23 = some ⟨oc_23, od_23, .func (PySem.W.fnOf "place_behind" "Stretches.place_behind" (defArgs s_Stretches_place_behind) (defBody s_Stretches_place_behind) (defScope s_Stretches_place_behind) .none kV_23 dc_23 pm_23 an_23 cd_23 ct_23), sl_23⟩)
    (c_23_ : PySem.W.codeIn K cd_23 "Stretches.place_behind" = true)
    (k_23_ : PySem.W.keepIn K (.ref f_23) = true)
    (a_24_ : PySem.W.findIn K (.ref C_Stretches) "parts_amid" = some (some (.ref f_24)))
    (i_24_ : PySem.W.isFn K (.ref f_24) = true)
    (l_24_ : K.lookup f_24 = some ⟨oc_24, od_24, .func (PySem.W.fnOf "parts_amid" "Stretches.parts_amid" (defArgs s_Stretches_parts_amid) (defBody s_Stretches_parts_amid) (defScope s_Stretches_parts_amid) .none kV_24 dc_24 pm_24 an_24 cd_24 ct_24), sl_24⟩)
    (c_24_ : PySem.W.codeIn K cd_24 "Stretches.parts_amid" = true)
    (k_24_ : PySem.W.keepIn K (.ref f_24) = true)
    (a_25_ : PySem.W.findIn K (.ref C_Stretches) "lay_amid" = some (some (.ref f_25)))
    (i_25_ : PySem.W.isFn K (.ref f_25) = true)
    (l_25_ : K.lookup f_25 = some ⟨oc_25, od_25, .func (PySem.W.fnOf "lay_amid" "Stretches.lay_amid" (defArgs s_Stretches_lay_amid) (defBody s_Stretches_lay_amid) (defScope s_Stretches_lay_amid) .none kV_25 dc_25 pm_25 an_25 cd_25 ct_25), sl_25⟩)
    (c_25_ : PySem.W.codeIn K cd_25 "Stretches.lay_amid" = true)
    (k_25_ : PySem.W.keepIn K (.ref f_25) = true)
    (a_26_ : PySem.W.findIn K (.ref C_Stretches) "copied" = some (some (.ref f_26)))
    (i_26_ : PySem.W.isFn K (.ref f_26) = true)
    (l_26_ : K.lookup f_26 = some ⟨oc_26, od_26, .func (PySem.W.fnOf "copied" "Stretches.copied" (defArgs s_Stretches_copied) (defBody s_Stretches_copied) (defScope s_Stretches_copied) .none kV_26 dc_26 pm_26 an_26 cd_26 ct_26), sl_26⟩)
    (c_26_ : PySem.W.codeIn K cd_26 "Stretches.copied" = true)
    (k_26_ : PySem.W.keepIn K (.ref f_26) = true)
    (pg_House : PySem.W.plainGet K C_House Str.empty = true)
    (hd_House : PySem.W.hasDictIn K C_House = true)
    (po_House : PySem.W.plainOver K C_House = true)
    (sa_House : PySem.W.findIn K (.ref C_House) "__setattr__" = some (some (.builtin "object.__setattr__")))
    (zn_House_shape : PySem.W.findIn K (.ref C_House) "shape" = some none)
    (zn_House_tasks : PySem.W.findIn K (.ref C_House) "tasks" = some none)
    (zn_House_banks : PySem.W.findIn K (.ref C_House) "banks" = some none)
    (mk_House : PySem.W.makesIn K C_House = true)
    (kc_House : PySem.W.keepIn K (.ref C_House) = true)
    (a_27_ : PySem.W.findIn K (.ref C_House) "__init__" = some (some (.ref f_27)))
    (i_27_ : PySem.W.isFn K (.ref f_27) = true)
    (l_27_ : K.lookup f_27 = some ⟨oc_27, od_27, .func (PySem.W.fnOf "__init__" "House.__init__" (defArgs s_House_init) (defBody s_House_init) (defScope s_House_init) .none kV_27 dc_27 pm_27 an_27 cd_27 ct_27), sl_27⟩)
    (c_27_ : PySem.W.codeIn K cd_27 "House.__init__" = true)
    (k_27_ : PySem.W.keepIn K (.ref f_27) = true)
    (a_28_ : PySem.W.findIn K (.ref C_House) "new_task" = some (some (.ref f_28)))
    (i_28_ : PySem.W.isFn K (.ref f_28) = true)
    (l_28_ : K.lookup f_28 = some ⟨oc_28, od_28, .func (PySem.W.fnOf "new_task" "House.new_task" (defArgs s_House_new_task) (defBody s_House_new_task) (defScope s_House_new_task) .none kV_28 dc_28 pm_28 an_28 cd_28 ct_28), sl_28⟩)
    (c_28_ : PySem.W.codeIn K cd_28 "House.new_task" = true)
    (k_28_ : PySem.W.keepIn K (.ref f_28) = true)
    (a_29_ : PySem.W.findIn K (.ref C_House) "new_bank" = some (some (.ref f_29)))
    (i_29_ : PySem.W.isFn K (.ref f_29) = true)
    (l_29_ : K.lookup f_29 = some ⟨oc_29, od_29, .func (PySem.W.fnOf "new_bank" "House.new_bank" (defArgs s_House_new_bank) (defBody s_House_new_bank) (defScope s_House_new_bank) .none kV_29 dc_29 pm_29 an_29 cd_29 ct_29), sl_29⟩)
    (c_29_ : PySem.W.codeIn K cd_29 "House.new_bank" = true)
    (k_29_ : PySem.W.keepIn K (.ref f_29) = true)
    (a_30_ : PySem.W.findIn K (.ref C_House) "drop_bank" = some (some (.ref f_30)))
    (i_30_ : PySem.W.isFn K (.ref f_30) = true)
    (l_30_ : K.lookup f_30 = some ⟨oc_30, od_30, .func (PySem.W.fnOf "drop_bank" "House.drop_bank" (defArgs s_House_drop_bank) (defBody s_House_drop_bank) (defScope s_House_drop_bank) .none kV_30 dc_30 pm_30 an_30 cd_30 ct_30), sl_30⟩)
    (c_30_ : PySem.W.codeIn K cd_30 "House.drop_bank" = true)
    (k_30_ : PySem.W.keepIn K (.ref f_30) = true)
    (a_31_ : PySem.W.findIn K (.ref C_House) "fork" = some (some (.ref f_31)))
    (i_31_ : PySem.W.isFn K (.ref f_31) = true)
    (l_31_ : K.lookup f_31 = some ⟨oc_31, od_31, .func (PySem.W.fnOf "fork" "House.fork" (defArgs s_House_fork) (defBody s_House_fork) (defScope s_House_fork) .none kV_31 dc_31 pm_31 an_31 cd_31 ct_31), sl_31⟩)
    (c_31_ : PySem.W.codeIn K cd_31 "House.fork" = true)
    (k_31_ : PySem.W.keepIn K (.ref f_31) = true)
    (a_32_ : PySem.W.findIn K (.ref C_House) "end_task" = some (some (.ref f_32)))
    (i_32_ : PySem.W.isFn K (.ref f_32) = true)
    (l_32_ : K.lookup f_32 = some ⟨oc_32, od_32, .func (PySem.W.fnOf "end_task" "House.end_task" (defArgs s_House_end_task) (defBody s_House_end_task) (defScope s_House_end_task) .none kV_32 dc_32 pm_32 an_32 cd_32 ct_32), sl_32⟩)
    (c_32_ : PySem.W.codeIn K cd_32 "House.end_task" = true)
    (k_32_ : PySem.W.keepIn K (.ref f_32) = true)
    (a_33_ : PySem.W.findIn K (.ref C_House) "lay" = some (some (.ref f_33)))
    (i_33_ : PySem.W.isFn K (.ref f_33) = true)
    (l_33_ : K.lookup f_33 = some ⟨oc_33, od_33, .func (PySem.W.fnOf "lay" "House.lay" (defArgs s_House_lay) (defBody s_House_lay) (defScope s_House_lay) (.ref tu_33) kV_33 dc_33 pm_33 an_33 cd_33 ct_33), sl_33⟩)
    (u_33_ : K.lookup tu_33 = some ⟨uo_33, ud_33, .seq #[.none, (.int 0 td1_House_lay)] un_33, us_33⟩)
    (c_33_ : PySem.W.codeIn K cd_33 "House.lay" = true)
    (k_33_ : PySem.W.keepIn K (.ref f_33) = true)
    (a_34_ : PySem.W.findIn K (.ref C_House) "lift" = some (some (.ref f_34)))
    (i_34_ : PySem.W.isFn K (.ref f_34) = true)
    (l_34_ : K.lookup f_34 = some ⟨oc_34, od_34, .func (PySem.W.fnOf "lift" "House.lift" (defArgs s_House_lift) (defBody s_House_lift) (defScope s_House_lift) .none kV_34 dc_34 pm_34 an_34 cd_34 ct_34), sl_34⟩)
    (c_34_ : PySem.W.codeIn K cd_34 "House.lift" = true)
    (k_34_ : PySem.W.keepIn K (.ref f_34) = true)
    (a_35_ : PySem.W.findIn K (.ref C_House) "check_task" = some (some (.ref f_35)))
    (i_35_ : PySem.W.isFn K (.ref f_35) = true)
    (l_35_ : K.lookup f_35 = some ⟨oc_35, od_35, .func (PySem.W.fnOf "check_task" "House.check_task" (defArgs s_House_check_task) (defBody s_House_check_task) (defScope s_House_check_task) .none kV_35 dc_35 pm_35 an_35 cd_35 ct_35), sl_35⟩)
    (c_35_ : PySem.W.codeIn K cd_35 "House.check_task" = true)
    (k_35_ : PySem.W.keepIn K (.ref f_35) = true)
    (a_36_ : PySem.W.findIn K (.ref C_House) "check_bank" = some (some (.ref f_36)))
    (i_36_ : PySem.W.isFn K (.ref f_36) = true)
    (l_36_ : K.lookup f_36 = some ⟨oc_36, od_36, .func (PySem.W.fnOf "check_bank" "House.check_bank" (defArgs s_House_check_bank) (defBody s_House_check_bank) (defScope s_House_check_bank) .none kV_36 dc_36 pm_36 an_36 cd_36 ct_36), sl_36⟩)
    (c_36_ : PySem.W.codeIn K cd_36 "House.check_bank" = true)
    (k_36_ : PySem.W.keepIn K (.ref f_36) = true)
    (a_37_ : PySem.W.findIn K (.ref C_House) "check_stretch" = some (some (.ref f_37)))
    (i_37_ : PySem.W.isFn K (.ref f_37) = true)
    (l_37_ : K.lookup f_37 = some ⟨oc_37, od_37, .func (PySem.W.fnOf "check_stretch" "House.check_stretch" (defArgs s_House_check_stretch) (defBody s_House_check_stretch) (defScope s_House_check_stretch) .none kV_37 dc_37 pm_37 an_37 cd_37 ct_37), sl_37⟩)
    (c_37_ : PySem.W.codeIn K cd_37 "House.check_stretch" = true)
    (k_37_ : PySem.W.keepIn K (.ref f_37) = true)
    (a_38_ : PySem.W.findIn K (.ref C_House) "check_part_of_bank" = some (some (.ref f_38)))
    (i_38_ : PySem.W.isFn K (.ref f_38) = true)
    (l_38_ : K.lookup f_38 = some ⟨oc_38, od_38, .func (PySem.W.fnOf "check_part_of_bank" "House.check_part_of_bank" (defArgs s_House_check_part_of_bank) (defBody s_House_check_part_of_bank) (defScope s_House_check_part_of_bank) .none kV_38 dc_38 pm_38 an_38 cd_38 ct_38), sl_38⟩)
    (c_38_ : PySem.W.codeIn K cd_38 "House.check_part_of_bank" = true)
    (k_38_ : PySem.W.keepIn K (.ref f_38) = true)
    (pg_Shape : PySem.W.plainGet K C_Shape Str.empty = true)
    (hd_Shape : PySem.W.hasDictIn K C_Shape = true)
    (po_Shape : PySem.W.plainOver K C_Shape = true)
    (sa_Shape : PySem.W.findIn K (.ref C_Shape) "__setattr__" = some (some (.builtin "object.__setattr__")))
    (zn_Shape_levels : PySem.W.findIn K (.ref C_Shape) "levels" = some none)
    (zn_Shape_fan : PySem.W.findIn K (.ref C_Shape) "fan" = some none)
    (zn_Shape_grain : PySem.W.findIn K (.ref C_Shape) "grain" = some none)
    (zn_Shape_ways : PySem.W.findIn K (.ref C_Shape) "ways" = some none)
    (zn_Shape_boxes : PySem.W.findIn K (.ref C_Shape) "boxes" = some none)
    (zn_Shape_pages : PySem.W.findIn K (.ref C_Shape) "pages" = some none)
    (mk_Shape : PySem.W.makesIn K C_Shape = true)
    (kc_Shape : PySem.W.keepIn K (.ref C_Shape) = true)
    (a_39_ : PySem.W.findIn K (.ref C_Shape) "__init__" = some (some (.ref f_39)))
    (i_39_ : PySem.W.isFn K (.ref f_39) = true)
    (l_39_ : K.lookup f_39 = some ⟨oc_39, od_39, .func (PySem.W.fnOf "__init__" "Shape.__init__" (defArgs s_Shape_init) (defBody s_Shape_init) (defScope s_Shape_init) .none kV_39 dc_39 pm_39 an_39 cd_39 ct_39), sl_39⟩)
    (c_39_ : PySem.W.codeIn K cd_39 "Shape.__init__" = true)
    (k_39_ : PySem.W.keepIn K (.ref f_39) = true)
    (a_40_ : PySem.W.findIn K (.ref C_Shape) "has_page" = some (some (.ref f_40)))
    (i_40_ : PySem.W.isFn K (.ref f_40) = true)
    (l_40_ : K.lookup f_40 = some ⟨oc_40, od_40, .func (PySem.W.fnOf "has_page" "Shape.has_page" (defArgs s_Shape_has_page) (defBody s_Shape_has_page) (defScope s_Shape_has_page) .none kV_40 dc_40 pm_40 an_40 cd_40 ct_40), sl_40⟩)
    (c_40_ : PySem.W.codeIn K cd_40 "Shape.has_page" = true)
    (k_40_ : PySem.W.keepIn K (.ref f_40) = true)
    (a_41_ : PySem.W.findIn K (.ref C_Shape) "fits" = some (some (.ref f_41)))
    (i_41_ : PySem.W.isFn K (.ref f_41) = true)
    (l_41_ : K.lookup f_41 = some ⟨oc_41, od_41, .func (PySem.W.fnOf "fits" "Shape.fits" (defArgs s_Shape_fits) (defBody s_Shape_fits) (defScope s_Shape_fits) .none kV_41 dc_41 pm_41 an_41 cd_41 ct_41), sl_41⟩)
    (c_41_ : PySem.W.codeIn K cd_41 "Shape.fits" = true)
    (k_41_ : PySem.W.keepIn K (.ref f_41) = true)
    (zt_FrameError : PySem.W.typeIn K (.ref C_FrameError) = some (.type "type"))
    (zl_FrameError : PySem.W.clsIn K C_FrameError = some cd_FrameError)
    (zm_FrameError : PySem.W.mroIn K C_FrameError (.type "BaseException") = some true)
    (ze_NoShape : PySem.W.excIn K C_NoShape mroVE "ValueError.__new__" = true)
    (ze_OutOfRoom : PySem.W.excIn K C_OutOfRoom mroVE "ValueError.__new__" = true)
    (ze_BadRights : PySem.W.excIn K C_BadRights mroVE "ValueError.__new__" = true)
    (ze_NoTask : PySem.W.excIn K C_NoTask mroVE "ValueError.__new__" = true)
    (ze_OutOfBank : PySem.W.excIn K C_OutOfBank mroVE "ValueError.__new__" = true)
    (ze_Taken : PySem.W.excIn K C_Taken mroVE "ValueError.__new__" = true)
    (ze_NotMapped : PySem.W.excIn K C_NotMapped mroVE "ValueError.__new__" = true)
    (ze_NoBank : PySem.W.excIn K C_NoBank mroVE "ValueError.__new__" = true)
    (xg_NoBank : PySem.W.findIn K (.ref C_NoBank) "__getattribute__" = some (some (.builtin "BaseException.__getattribute__")))
    (xq_NoBank : PySem.W.findIn K (.ref C_NoBank) "__getattr__" = some none)
    (xb_NoBank : PySem.W.mroIn K C_NoBank (.type "BaseException") = some true)
    (xh_NoBank : PySem.W.hasDictIn K C_NoBank = true)
    (xa_NoBank : PySem.W.findIn K (.ref C_NoBank) "__class__" = some (some (.builtin "object.__class__")))
    (xn_NoBank : PySem.W.specialIn K (.builtin "object.__class__") "__get__" = some (some (.builtin "getset_descriptor.__get__")))
    (xt_NoBank : PySem.W.takesIn K (.builtin "object.__class__") = some true)
    (xm_NoBank : PySem.W.mroIn K C_NoBank (.type "object") = some true)
    (ze_Busy : PySem.W.excIn K C_Busy mroVE "ValueError.__new__" = true)
    (xg_Busy : PySem.W.findIn K (.ref C_Busy) "__getattribute__" = some (some (.builtin "BaseException.__getattribute__")))
    (xq_Busy : PySem.W.findIn K (.ref C_Busy) "__getattr__" = some none)
    (xb_Busy : PySem.W.mroIn K C_Busy (.type "BaseException") = some true)
    (xh_Busy : PySem.W.hasDictIn K C_Busy = true)
    (xa_Busy : PySem.W.findIn K (.ref C_Busy) "__class__" = some (some (.builtin "object.__class__")))
    (xn_Busy : PySem.W.specialIn K (.builtin "object.__class__") "__get__" = some (some (.builtin "getset_descriptor.__get__")))
    (xt_Busy : PySem.W.takesIn K (.builtin "object.__class__") = some true)
    (xm_Busy : PySem.W.mroIn K C_Busy (.type "object") = some true)
    (zs_NoBank_FrameError : PySem.W.mroIn K C_NoBank (.ref C_FrameError) = some true)
    (zs_Busy_FrameError : PySem.W.mroIn K C_Busy (.ref C_FrameError) = some true)
    (zk_NoBank_NoBank : PySem.W.kitOne K (.ref C_NoBank) (.ref C_NoBank) = some true)
    (zk_NoBank_Busy : PySem.W.kitOne K (.ref C_NoBank) (.ref C_Busy) = some false)
    (zk_Busy_NoBank : PySem.W.kitOne K (.ref C_Busy) (.ref C_NoBank) = some false)
    (zk_Busy_Busy : PySem.W.kitOne K (.ref C_Busy) (.ref C_Busy) = some true)
    (a_42_ : PySem.W.nsIn K mainGlobals "law" = some (some (.ref f_42)))
    (l_42_ : K.lookup f_42 = some ⟨oc_42, od_42, .func (PySem.W.fnOf "law" "law" (defArgs s_law) (defBody s_law) (defScope s_law) .none kV_42 dc_42 pm_42 an_42 cd_42 ct_42), sl_42⟩)
    (c_42_ : PySem.W.codeIn K cd_42 "law" = true)
    (k_42_ : PySem.W.keepIn K (.ref f_42) = true)
    : ∃ A : Adr, Txt K mg A := ⟨⟨C_Stretches, C_House, C_Shape, C_FrameError, C_NoShape, C_OutOfRoom, C_BadRights, C_NoTask, C_OutOfBank, C_Taken, C_NotMapped, C_NoBank, C_Busy⟩, {
      b_any := PySem.W.mg_none_of X G zb_any
      b_bool := PySem.W.mg_none_of X G zb_bool
      b_dict := PySem.W.mg_none_of X G zb_dict
      b_int := PySem.W.mg_none_of X G zb_int
      b_isinstance := PySem.W.mg_none_of X G zb_isinstance
      b_len := PySem.W.mg_none_of X G zb_len
      b_list := PySem.W.mg_none_of X G zb_list
      b_max := PySem.W.mg_none_of X G zb_max
      b_min := PySem.W.mg_none_of X G zb_min
      b_range := PySem.W.mg_none_of X G zb_range
      b_sorted := PySem.W.mg_none_of X G zb_sorted
      b_sum := PySem.W.mg_none_of X G zb_sum
      c_MOST_RIGHTS := ⟨_, PySem.W.mg_of X G zc_MOST_RIGHTS, ⟨_, rfl⟩⟩
      c_MOST_IN_BANK := ⟨_, PySem.W.mg_of X G zc_MOST_IN_BANK, ⟨_, rfl⟩⟩
      c_MOST_IN_STRETCH := ⟨_, PySem.W.mg_of X G zc_MOST_IN_STRETCH, ⟨_, rfl⟩⟩
      r_is_whole := ⟨_, _, _, PySem.W.mg_of X G a_0_, fun_mk (st := s_is_whole) l_0_ c_0_ k_0_, (fun_mk (st := s_is_whole) l_0_ c_0_ k_0_).binds (ps := ["thing"]) fun _ _ _ _ _ _ => el1 (fun _ => rfl), .nil⟩
      r_is_within := ⟨_, _, _, PySem.W.mg_of X G a_1_, fun_mk (st := s_is_within) l_1_ c_1_ k_1_, (fun_mk (st := s_is_within) l_1_ c_1_ k_1_).binds (ps := ["thing", "low", "high"]) fun _ _ _ _ _ _ => el3 (fun _ _ _ => rfl), .nil⟩
      r_power_of_two := ⟨_, _, _, PySem.W.mg_of X G a_2_, fun_mk (st := s_power_of_two) l_2_ c_2_ k_2_, (fun_mk (st := s_power_of_two) l_2_ c_2_ k_2_).binds (ps := ["exponent"]) fun _ _ _ _ _ _ => el1 (fun _ => rfl), .nil⟩
      r_check_measures := ⟨_, _, _, PySem.W.mg_of X G a_3_, fun_mk (st := s_check_measures) l_3_ c_3_ k_3_, (fun_mk (st := s_check_measures) l_3_ c_3_ k_3_).binds (ps := ["levels", "fan", "grain"]) fun _ _ _ _ _ _ => el3 (fun _ _ _ => rfl), .nil⟩
      r_check_rights := ⟨_, _, _, PySem.W.mg_of X G a_4_, fun_mk (st := s_check_rights) l_4_ c_4_ k_4_, (fun_mk (st := s_check_rights) l_4_ c_4_ k_4_).binds (ps := ["rights"]) fun _ _ _ _ _ _ => el1 (fun _ => rfl), .nil⟩
      r_end_of := ⟨_, _, _, PySem.W.mg_of X G a_5_, fun_mk (st := s_end_of) l_5_ c_5_ k_5_, (fun_mk (st := s_end_of) l_5_ c_5_ k_5_).binds (ps := ["run"]) fun _ _ _ _ _ _ => el1 (fun _ => rfl), .nil⟩
      r_tie_from := ⟨_, _, _, PySem.W.mg_of X G a_6_, fun_mk (st := s_tie_from) l_6_ c_6_ k_6_, (fun_mk (st := s_tie_from) l_6_ c_6_ k_6_).binds (ps := ["run", "page"]) fun _ _ _ _ _ _ => el2 (fun _ _ => rfl), .nil⟩
      r_part_of := ⟨_, _, _, PySem.W.mg_of X G a_7_, fun_mk (st := s_part_of) l_7_ c_7_ k_7_, (fun_mk (st := s_part_of) l_7_ c_7_ k_7_).binds (ps := ["run", "low", "high"]) fun _ _ _ _ _ _ => el3 (fun _ _ _ => rfl), .nil⟩
      r_goes_on := ⟨_, _, _, PySem.W.mg_of X G a_8_, fun_mk (st := s_goes_on) l_8_ c_8_ k_8_, (fun_mk (st := s_goes_on) l_8_ c_8_ k_8_).binds (ps := ["run", "later"]) fun _ _ _ _ _ _ => el2 (fun _ _ => rfl), .nil⟩
      r_joined := ⟨_, _, _, PySem.W.mg_of X G a_9_, fun_mk (st := s_joined) l_9_ c_9_ k_9_, (fun_mk (st := s_joined) l_9_ c_9_ k_9_).binds (ps := ["runs"]) fun _ _ _ _ _ _ => el1 (fun _ => rfl), .nil⟩
      r_least_free := ⟨_, _, _, PySem.W.mg_of X G a_10_, fun_mk (st := s_least_free) l_10_ c_10_ k_10_, (fun_mk (st := s_least_free) l_10_ c_10_ k_10_).binds (ps := ["numbers"]) fun _ _ _ _ _ _ => el1 (fun _ => rfl), .nil⟩
      r_l_cell_at := ⟨_, _, _, PySem.W.mg_of X G a_11_, fun_mk (st := s_l_cell_at) l_11_ c_11_ k_11_, (fun_mk (st := s_l_cell_at) l_11_ c_11_ k_11_).binds (ps := ["_law_script", "_law_k"]) fun _ _ _ _ _ _ => el2 (fun _ _ => rfl), .nil⟩
      r_l_drop := ⟨_, _, _, PySem.W.mg_of X G a_12_, fun_mk (st := s_l_drop) l_12_ c_12_ k_12_, (fun_mk (st := s_l_drop) l_12_ c_12_ k_12_).binds (ps := ["_law_house", "_law_bank"]) fun _ _ _ _ _ _ => el2 (fun _ _ => rfl), .nil⟩
      r_l_tied := ⟨_, _, _, PySem.W.mg_of X G a_13_, fun_mk (st := s_l_tied) l_13_ c_13_ k_13_, (fun_mk (st := s_l_tied) l_13_ c_13_ k_13_).binds (ps := ["_law_rooms", "_law_bank"]) fun _ _ _ _ _ _ => el2 (fun _ _ => rfl), .nil⟩
      r_l_asked := ⟨_, _, _, PySem.W.mg_of X G a_14_, fun_mk (st := s_l_asked) l_14_ c_14_ k_14_, (fun_mk (st := s_l_asked) l_14_ c_14_ k_14_).binds (ps := ["_law_house", "_law_rooms", "_law_banks"]) fun _ _ _ _ _ _ => el3 (fun _ _ _ => rfl), .nil⟩
      r_l_laid_all := ⟨_, _, _, PySem.W.mg_of X G a_15_, fun_mk (st := s_l_laid_all) l_15_ c_15_ k_15_, (fun_mk (st := s_l_laid_all) l_15_ c_15_ k_15_).binds (ps := ["_law_house", "_law_sizes", "_law_cells", "_law_off"]) fun _ _ _ _ _ _ => el4 (fun _ _ _ _ => rfl), .nil⟩
      cl_Stretches := ⟨pg_Stretches, hd_Stretches, po_Stretches, sa_Stretches⟩
      na_Stretches_runs := zn_Stretches_runs
      r_Stretches_init := ⟨_, _, _, PySem.W.mg_of X G a_Stretches, ⟨mk_Stretches, a_16_, i_16_, kc_Stretches⟩, fun_mk (st := s_Stretches_init) l_16_ c_16_ k_16_, (fun_mk (st := s_Stretches_init) l_16_ c_16_ k_16_).binds (ps := ["self"]) fun _ _ _ _ _ _ => el1 (fun _ => rfl), .nil⟩
      r_Stretches_put := ⟨_, _, _, ⟨a_17_, i_17_, k_17_⟩, fund_mk (st := s_Stretches_put) l_17_ c_17_ k_17_, (binds_d 5 rfl fun _ us X_ hl => match us, hl with | [_, _, _, _, _], _ => BindsTo.of_defaults rfl (X_ _ _ u_17_) rfl rfl rfl), .nil⟩
      r1_Stretches_put := ⟨_, _, _, ⟨a_17_, i_17_, k_17_⟩, fund_mk (st := s_Stretches_put) l_17_ c_17_ k_17_, (binds_d 4 rfl fun _ us X_ hl => match us, hl with | [_, _, _, _], _ => BindsTo.of_defaults rfl (X_ _ _ u_17_) rfl rfl rfl), .cons rfl (.nil)⟩
      r_Stretches_cut := ⟨_, _, _, ⟨a_18_, i_18_, k_18_⟩, fun_mk (st := s_Stretches_cut) l_18_ c_18_ k_18_, (fun_mk (st := s_Stretches_cut) l_18_ c_18_ k_18_).binds (ps := ["self", "first", "many"]) fun _ _ _ _ _ _ => el3 (fun _ _ _ => rfl), .nil⟩
      r_Stretches_check_full := ⟨_, _, _, ⟨a_19_, i_19_, k_19_⟩, fun_mk (st := s_Stretches_check_full) l_19_ c_19_ k_19_, (fun_mk (st := s_Stretches_check_full) l_19_ c_19_ k_19_).binds (ps := ["self", "first", "many"]) fun _ _ _ _ _ _ => el3 (fun _ _ _ => rfl), .nil⟩
      r_Stretches_is_free := ⟨_, _, _, ⟨a_20_, i_20_, k_20_⟩, fun_mk (st := s_Stretches_is_free) l_20_ c_20_ k_20_, (fun_mk (st := s_Stretches_is_free) l_20_ c_20_ k_20_).binds (ps := ["self", "first", "many"]) fun _ _ _ _ _ _ => el3 (fun _ _ _ => rfl), .nil⟩
      r_Stretches_is_full := ⟨_, _, _, ⟨a_21_, i_21_, k_21_⟩, fun_mk (st := s_Stretches_is_full) l_21_ c_21_ k_21_, (fun_mk (st := s_Stretches_is_full) l_21_ c_21_ k_21_).binds (ps := ["self", "first", "many"]) fun _ _ _ _ _ _ => el3 (fun _ _ _ => rfl), .nil⟩
      r_Stretches_is_tied := ⟨_, _, _, ⟨a_22_, i_22_, k_22_⟩, fun_mk (st := s_Stretches_is_tied) l_22_ c_22_ k_22_, (fun_mk (st := s_Stretches_is_tied) l_22_ c_22_ k_22_).binds (ps := ["self", "bank"]) fun _ _ _ _ _ _ => el2 (fun _ _ => rfl), .nil⟩
      r_Stretches_place_behind := ⟨_, _, _, ⟨a_23_, i_23_, k_23_⟩, fun_mk (st := s_Stretches_place_behind) l_23_ c_23_ k_23_, (fun_mk (st := s_Stretches_place_behind) l_23_ c_23_ k_23_).binds (ps := ["self", "page"]) fun _ _ _ _ _ _ => el2 (fun _ _ => rfl), .nil⟩
      r_Stretches_parts_amid := ⟨_, _, _, ⟨a_24_, i_24_, k_24_⟩, fun_mk (st := s_Stretches_parts_amid) l_24_ c_24_ k_24_, (fun_mk (st := s_Stretches_parts_amid) l_24_ c_24_ k_24_).binds (ps := ["self", "first", "many"]) fun _ _ _ _ _ _ => el3 (fun _ _ _ => rfl), .nil⟩
      r_Stretches_lay_amid := ⟨_, _, _, ⟨a_25_, i_25_, k_25_⟩, fun_mk (st := s_Stretches_lay_amid) l_25_ c_25_ k_25_, (fun_mk (st := s_Stretches_lay_amid) l_25_ c_25_ k_25_).binds (ps := ["self", "first", "many", "parts"]) fun _ _ _ _ _ _ => el4 (fun _ _ _ _ => rfl), .nil⟩
      r_Stretches_copied := ⟨_, _, _, ⟨a_26_, i_26_, k_26_⟩, fun_mk (st := s_Stretches_copied) l_26_ c_26_ k_26_, (fun_mk (st := s_Stretches_copied) l_26_ c_26_ k_26_).binds (ps := ["self"]) fun _ _ _ _ _ _ => el1 (fun _ => rfl), .nil⟩
      cl_House := ⟨pg_House, hd_House, po_House, sa_House⟩
      na_House_shape := zn_House_shape
      na_House_tasks := zn_House_tasks
      na_House_banks := zn_House_banks
      r_House_init := ⟨_, _, _, PySem.W.mg_of X G a_House, ⟨mk_House, a_27_, i_27_, kc_House⟩, fun_mk (st := s_House_init) l_27_ c_27_ k_27_, (fun_mk (st := s_House_init) l_27_ c_27_ k_27_).binds (ps := ["self", "shape"]) fun _ _ _ _ _ _ => el2 (fun _ _ => rfl), .nil⟩
      r_House_new_task := ⟨_, _, _, ⟨a_28_, i_28_, k_28_⟩, fun_mk (st := s_House_new_task) l_28_ c_28_ k_28_, (fun_mk (st := s_House_new_task) l_28_ c_28_ k_28_).binds (ps := ["self"]) fun _ _ _ _ _ _ => el1 (fun _ => rfl), .nil⟩
      r_House_new_bank := ⟨_, _, _, ⟨a_29_, i_29_, k_29_⟩, fun_mk (st := s_House_new_bank) l_29_ c_29_ k_29_, (fun_mk (st := s_House_new_bank) l_29_ c_29_ k_29_).binds (ps := ["self", "many"]) fun _ _ _ _ _ _ => el2 (fun _ _ => rfl), .nil⟩
      r_House_drop_bank := ⟨_, _, _, ⟨a_30_, i_30_, k_30_⟩, fun_mk (st := s_House_drop_bank) l_30_ c_30_ k_30_, (fun_mk (st := s_House_drop_bank) l_30_ c_30_ k_30_).binds (ps := ["self", "bank"]) fun _ _ _ _ _ _ => el2 (fun _ _ => rfl), .nil⟩
      r_House_fork := ⟨_, _, _, ⟨a_31_, i_31_, k_31_⟩, fun_mk (st := s_House_fork) l_31_ c_31_ k_31_, (fun_mk (st := s_House_fork) l_31_ c_31_ k_31_).binds (ps := ["self", "task"]) fun _ _ _ _ _ _ => el2 (fun _ _ => rfl), .nil⟩
      r_House_end_task := ⟨_, _, _, ⟨a_32_, i_32_, k_32_⟩, fun_mk (st := s_House_end_task) l_32_ c_32_ k_32_, (fun_mk (st := s_House_end_task) l_32_ c_32_ k_32_).binds (ps := ["self", "task"]) fun _ _ _ _ _ _ => el2 (fun _ _ => rfl), .nil⟩
      r_House_lay := ⟨_, _, _, ⟨a_33_, i_33_, k_33_⟩, fund_mk (st := s_House_lay) l_33_ c_33_ k_33_, (binds_d 7 rfl fun _ us X_ hl => match us, hl with | [_, _, _, _, _, _, _], _ => BindsTo.of_defaults rfl (X_ _ _ u_33_) rfl rfl rfl), .nil⟩
      r1_House_lay := ⟨_, _, _, ⟨a_33_, i_33_, k_33_⟩, fund_mk (st := s_House_lay) l_33_ c_33_ k_33_, (binds_d 6 rfl fun _ us X_ hl => match us, hl with | [_, _, _, _, _, _], _ => BindsTo.of_defaults rfl (X_ _ _ u_33_) rfl rfl rfl), .cons ⟨_, rfl⟩ (.nil)⟩
      r2_House_lay := ⟨_, _, _, ⟨a_33_, i_33_, k_33_⟩, fund_mk (st := s_House_lay) l_33_ c_33_ k_33_, (binds_d 5 rfl fun _ us X_ hl => match us, hl with | [_, _, _, _, _], _ => BindsTo.of_defaults rfl (X_ _ _ u_33_) rfl rfl rfl), .cons rfl (.cons ⟨_, rfl⟩ (.nil))⟩
      r_House_lift := ⟨_, _, _, ⟨a_34_, i_34_, k_34_⟩, fun_mk (st := s_House_lift) l_34_ c_34_ k_34_, (fun_mk (st := s_House_lift) l_34_ c_34_ k_34_).binds (ps := ["self", "task", "first", "many"]) fun _ _ _ _ _ _ => el4 (fun _ _ _ _ => rfl), .nil⟩
      r_House_check_task := ⟨_, _, _, ⟨a_35_, i_35_, k_35_⟩, fun_mk (st := s_House_check_task) l_35_ c_35_ k_35_, (fun_mk (st := s_House_check_task) l_35_ c_35_ k_35_).binds (ps := ["self", "task"]) fun _ _ _ _ _ _ => el2 (fun _ _ => rfl), .nil⟩
      r_House_check_bank := ⟨_, _, _, ⟨a_36_, i_36_, k_36_⟩, fun_mk (st := s_House_check_bank) l_36_ c_36_ k_36_, (fun_mk (st := s_House_check_bank) l_36_ c_36_ k_36_).binds (ps := ["self", "bank"]) fun _ _ _ _ _ _ => el2 (fun _ _ => rfl), .nil⟩
      r_House_check_stretch := ⟨_, _, _, ⟨a_37_, i_37_, k_37_⟩, fun_mk (st := s_House_check_stretch) l_37_ c_37_ k_37_, (fun_mk (st := s_House_check_stretch) l_37_ c_37_ k_37_).binds (ps := ["self", "task", "first", "many"]) fun _ _ _ _ _ _ => el4 (fun _ _ _ _ => rfl), .nil⟩
      r_House_check_part_of_bank := ⟨_, _, _, ⟨a_38_, i_38_, k_38_⟩, fun_mk (st := s_House_check_part_of_bank) l_38_ c_38_ k_38_, (fun_mk (st := s_House_check_part_of_bank) l_38_ c_38_ k_38_).binds (ps := ["self", "bank", "start", "many"]) fun _ _ _ _ _ _ => el4 (fun _ _ _ _ => rfl), .nil⟩
      cl_Shape := ⟨pg_Shape, hd_Shape, po_Shape, sa_Shape⟩
      na_Shape_levels := zn_Shape_levels
      na_Shape_fan := zn_Shape_fan
      na_Shape_grain := zn_Shape_grain
      na_Shape_ways := zn_Shape_ways
      na_Shape_boxes := zn_Shape_boxes
      na_Shape_pages := zn_Shape_pages
      r_Shape_init := ⟨_, _, _, PySem.W.mg_of X G a_Shape, ⟨mk_Shape, a_39_, i_39_, kc_Shape⟩, fun_mk (st := s_Shape_init) l_39_ c_39_ k_39_, (fun_mk (st := s_Shape_init) l_39_ c_39_ k_39_).binds (ps := ["self", "levels", "fan", "grain"]) fun _ _ _ _ _ _ => el4 (fun _ _ _ _ => rfl), .nil⟩
      r_Shape_has_page := ⟨_, _, _, ⟨a_40_, i_40_, k_40_⟩, fun_mk (st := s_Shape_has_page) l_40_ c_40_ k_40_, (fun_mk (st := s_Shape_has_page) l_40_ c_40_ k_40_).binds (ps := ["self", "page"]) fun _ _ _ _ _ _ => el2 (fun _ _ => rfl), .nil⟩
      r_Shape_fits := ⟨_, _, _, ⟨a_41_, i_41_, k_41_⟩, fun_mk (st := s_Shape_fits) l_41_ c_41_ k_41_, (fun_mk (st := s_Shape_fits) l_41_ c_41_ k_41_).binds (ps := ["self", "first", "many"]) fun _ _ _ _ _ _ => el3 (fun _ _ _ => rfl), .nil⟩
      m_FrameError := ⟨_, PySem.W.mg_of X G a_FrameError, rfl⟩
      h_FrameError := ⟨PySem.W.mg_of X G a_FrameError, zt_FrameError, ⟨_, zl_FrameError⟩, zm_FrameError⟩
      m_NoShape := ⟨_, PySem.W.mg_of X G a_NoShape, rfl⟩
      x_NoShape := ⟨PySem.W.mg_of X G a_NoShape, ze_NoShape⟩
      m_OutOfRoom := ⟨_, PySem.W.mg_of X G a_OutOfRoom, rfl⟩
      x_OutOfRoom := ⟨PySem.W.mg_of X G a_OutOfRoom, ze_OutOfRoom⟩
      m_BadRights := ⟨_, PySem.W.mg_of X G a_BadRights, rfl⟩
      x_BadRights := ⟨PySem.W.mg_of X G a_BadRights, ze_BadRights⟩
      m_NoTask := ⟨_, PySem.W.mg_of X G a_NoTask, rfl⟩
      x_NoTask := ⟨PySem.W.mg_of X G a_NoTask, ze_NoTask⟩
      m_OutOfBank := ⟨_, PySem.W.mg_of X G a_OutOfBank, rfl⟩
      x_OutOfBank := ⟨PySem.W.mg_of X G a_OutOfBank, ze_OutOfBank⟩
      m_Taken := ⟨_, PySem.W.mg_of X G a_Taken, rfl⟩
      x_Taken := ⟨PySem.W.mg_of X G a_Taken, ze_Taken⟩
      m_NotMapped := ⟨_, PySem.W.mg_of X G a_NotMapped, rfl⟩
      x_NotMapped := ⟨PySem.W.mg_of X G a_NotMapped, ze_NotMapped⟩
      m_NoBank := ⟨_, PySem.W.mg_of X G a_NoBank, rfl⟩
      x_NoBank := ⟨PySem.W.mg_of X G a_NoBank, ze_NoBank⟩
      xi_NoBank := ⟨xg_NoBank, xq_NoBank, xb_NoBank, xh_NoBank, xa_NoBank, xn_NoBank, xt_NoBank, xm_NoBank⟩
      m_Busy := ⟨_, PySem.W.mg_of X G a_Busy, rfl⟩
      x_Busy := ⟨PySem.W.mg_of X G a_Busy, ze_Busy⟩
      xi_Busy := ⟨xg_Busy, xq_Busy, xb_Busy, xh_Busy, xa_Busy, xn_Busy, xt_Busy, xm_Busy⟩
      sub_NoBank_FrameError := zs_NoBank_FrameError
      sub_Busy_FrameError := zs_Busy_FrameError
      kit_NoBank_NoBank := zk_NoBank_NoBank
      kit_NoBank_Busy := zk_NoBank_Busy
      kit_Busy_NoBank := zk_Busy_NoBank
      kit_Busy_Busy := zk_Busy_Busy
      r_law := ⟨_, _, PySem.W.mg_of X G a_42_, fun_mk (st := s_law) l_42_ c_42_ k_42_, fun _ _ => .of_eq rfl⟩
    }⟩

section
variable {P : Program} {w : World} {K : PySem.W.Frag} {mg : Str → Option Value} {base : Heap} {A : Adr}

def sp_is_whole : Sp := fun vs H Q _ => ∃ x, vs = [x] ∧ Kn H x ∧ Q (.bl (whole x)) H
theorem h_is_whole (T : Txt K mg A) : Have P w K mg base "is_whole" 1 ["thing"] [] sp_is_whole := by
  refine T.r_is_whole.have sc_is_whole (fun vs H Q E z => ?_) ?_
  · obtain ⟨x, rfl, _⟩ := z; rfl
  · intro f cdv A' outer s H vs Q E hr z
    obtain ⟨x, rfl, hk, q⟩ := z
    refine ⟨_, (pss_one (ps_ret (pe_and (pe_callB call_isi rfl T.b_isinstance PyProof.Rows.boot_isinstance (pa_cons (pvM 0) (pa_cons (pe_bltnE (n := "int") rfl T.b_int PyProof.Rows.boot_int) pa_nil))) (pe_one (pe_not (pe_callB call_isi rfl T.b_isinstance PyProof.Rows.boot_isinstance (pa_cons (pvM 0) (pa_cons (pe_bltnE (n := "bool") rfl T.b_bool PyProof.Rows.boot_bool) pa_nil)))))))), ?_⟩
    walk_at "wp"
    rw [← isTy_whole hk] at q
    refine ⟨by decide, hk, ?_⟩
    cases e : isTy "int" H x with
    | true => rw [e] at q; exact iteT ⟨by decide, hk, q⟩
    | false => rw [e] at q; exact iteF q

def sp_is_within : Sp := fun vs H Q _ => ∃ x l h, vs = [x, .int l, .int h] ∧ Kn H x ∧ Q (.bl (within x l h)) H
theorem h_is_within (T : Txt K mg A) : Have P w K mg base "is_within" 2 ["thing", "low", "high"] [] sp_is_within := by
  have H_is_whole := h_is_whole (P := P) (w := w) (base := base) T
  refine T.r_is_within.have sc_is_within (fun vs H Q E z => ?_) ?_
  · obtain ⟨x, l, h, rfl, _⟩ := z; rfl
  · intro f cdv A' outer s H vs Q E hr z
    obtain ⟨x, l, h, rfl, hk, q⟩ := z
    refine ⟨_, (pss_one (ps_ret (pe_and (pe_callE H_is_whole (hr.mono (by decide)) xw_def (pa_cons (pvM 0) pa_nil)) (pe_one (pe_chain op_le op_le (pvM 1) (pvM 0) (pvM 2)))))), ?_⟩
    unfold sp_is_whole
    walk_at "wp"
    refine ⟨hk, ?_⟩
    cases x with
    | int i =>
      refine iteT ⟨i, rfl, ?_⟩
      rw [within_int] at q
      by_cases c : l ≤ i
      · rw [decide_eq_true c] at q
        rw [if_pos c]
        exact ⟨i, rfl, q⟩
      · rw [decide_eq_false c] at q
        rw [if_neg c]
        exact q
    | _ => exact iteF q

def sp_power_of_two : Sp := fun vs H Q _ => ∃ e : Int, vs = [.int e] ∧ 0 ≤ e ∧ e ≤ 62 ∧ Q (.int (pw e)) H
theorem h_power_of_two (T : Txt K mg A) : Have P w K mg base "power_of_two" 1 ["exponent"] [] sp_power_of_two := by
  refine T.r_power_of_two.have sc_power_of_two (fun vs H Q E z => ?_) ?_
  · obtain ⟨e, rfl, _⟩ := z; rfl
  · intro f cdv A' outer s H vs Q E hr z
    obtain ⟨e, rfl, h0, h1, q⟩ := z
    refine ⟨_, (pss_cons (ps_set (i := 1) sc_power_of_two.nd rfl (Or.inl rfl) pe_int)
      (pss_cons (ps_forE PassesOwn.leaving rfl (pi_range1 rfl T.b_range (pa_cons (pvM 0) pa_nil)) (pg_name (i := 2) sc_power_of_two.nd rfl (Or.inl rfl)) (pss_one (ps_set (i := 1) sc_power_of_two.nd rfl (Or.inl rfl) (pe_op op_mul (pvM 1) pe_int))))
      (pss_one (ps_ret (pvM 1))))), ?_⟩
    walk_at "wp"
    refine ⟨by omega, by omega, loop_range (fun i σ H' => ∃ v, σ = [some (.int e), some (.int (pw (i : Int))), v] ∧ H' = H) ⟨_, rfl, rfl⟩ (fun i σ H' hi => ?_) (fun σ H' => ?_)⟩
    · rintro ⟨v, rfl, rfl⟩
      walk_at "wp"
      have hb := pwN_le (n := i) (m := 62) (by omega)
      have hp := pw_pos i
      have e62 : pw ((62 : Nat) : Int) = 4611686018427387904 := by decide
      refine by first | exact (pw_succ i).symm | exact ⟨by omega, (pw_succ i).symm⟩ | (rw [pw_succ]; omega) | (trace_state; omega)
    · rintro ⟨v, rfl, rfl⟩
      walk_at "wp"
      rw [show ((e.toNat : Nat) : Int) = e by omega]
      exact q

def good (x y z : V) : Bool := within x 2 3 && within y 1 8 && within z 0 4
theorem good_ints {l f g : Int} (h : good (.int l) (.int f) (.int g) = true) : 2 ≤ l ∧ l ≤ 3 ∧ 1 ≤ f ∧ f ≤ 8 ∧ 0 ≤ g ∧ g ≤ 4 := by
  unfold good at h
  simp only [within_int, Bool.and_eq_true, decide_eq_true_eq] at h
  omega
theorem good_of {l f g : Int} (h : 2 ≤ l ∧ l ≤ 3 ∧ 1 ≤ f ∧ f ≤ 8 ∧ 0 ≤ g ∧ g ≤ 4) : good (.int l) (.int f) (.int g) = true := by
  unfold good
  simp only [within_int, Bool.and_eq_true, decide_eq_true_eq]
  omega
def sp_check (N : Addr) : Sp := fun vs H Q E => ∃ x y z, vs = [x, y, z] ∧ Kn H x ∧ Kn H y ∧ Kn H z ∧ if good x y z = true then Q .non H else E (.ref N) none H
theorem h_check (T : Txt K mg A) : Have P w K mg base "check_measures" 3 ["levels", "fan", "grain"] [] (sp_check A.C_NoShape) := by
  have H_is_within := h_is_within (P := P) (w := w) (base := base) T
  refine T.r_check_measures.have sc_check_measures (fun vs H Q E z => ?_) ?_
  · obtain ⟨x, y, z, rfl, _⟩ := z; rfl
  · intro f cdv A' outer s H vs Q E hr z
    obtain ⟨x, y, z, rfl, hx, hy, hz, q⟩ := z
    refine ⟨_, (pss_cons (ps_if (pt_not (pt_val (pe_callE H_is_within (hr.mono (by decide)) xw_def (pa_cons (pvM 0) (pa_cons pe_int (pa_cons pe_int pa_nil)))))) (pss_one (ps_raise xr_def rfl T.x_NoShape (pa_cons pe_str pa_nil))) pss_nil)
      (pss_cons (ps_if (pt_not (pt_val (pe_callE H_is_within (hr.mono (by decide)) xw_def (pa_cons (pvM 1) (pa_cons pe_int (pa_cons pe_int pa_nil)))))) (pss_one (ps_raise xr_def rfl T.x_NoShape (pa_cons pe_str pa_nil))) pss_nil)
      (pss_one (ps_if (pt_not (pt_val (pe_callE H_is_within (hr.mono (by decide)) xw_def (pa_cons (pvM 2) (pa_cons pe_int (pa_cons pe_int pa_nil)))))) (pss_one (ps_raise xr_def rfl T.x_NoShape (pa_cons pe_str pa_nil))) pss_nil)))), ?_⟩
    unfold sp_is_within
    walk_at "wp"
    unfold good at q
    simp only [hx, hy, hz, true_and]
    cases e1 : within x 2 3 <;> cases e2 : within y 1 8 <;> cases e3 : within z 0 4 <;> simp only [e1, e2, e3, Bool.and_true, Bool.and_false, Bool.true_and, Bool.false_and, Bool.not_true, Bool.not_false, if_true, if_false, Bool.false_eq_true, ↓reduceIte] at q ⊢ <;> exact q

def shF (l f g : Int) : List (Str × V) := putF "pages" (.int (pw (l * f))) (putF "boxes" (.int (pw g)) (putF "ways" (.int (pw f)) (putF "grain" (.int g) (putF "fan" (.int f) (putF "levels" (.int l) [])))))
def spInit (C N : Addr) : Sp := fun vs H Q E => ∃ (p dx : Addr) (x y z : V), vs = [.ref p, x, y, z] ∧ H p = some (.ins C dx []) ∧ Kn H x ∧ Kn H y ∧ Kn H z ∧
  if good x y z = true then ∃ l f g : Int, x = .int l ∧ y = .int f ∧ z = .int g ∧ Q .non (upd H p (.ins C dx (shF l f g))) else E (.ref N) none H
theorem h_init (T : Txt K mg A) : HaveI P w K mg base "Shape" A.C_Shape 4 ["self", "levels", "fan", "grain"] [] (spInit A.C_Shape A.C_NoShape) := by
  have H_check_measures := h_check (P := P) (w := w) (base := base) T
  have H_power_of_two := h_power_of_two (P := P) (w := w) (base := base) T
  refine T.r_Shape_init.have sc_Shape_init (fun vs H Q E z => ?_) ?_
  · obtain ⟨p, dx, x, y, z, rfl, _⟩ := z; rfl
  · intro f cdv A' outer s H vs Q E hr z
    obtain ⟨p, dx, x, y, z, rfl, hp, hx, hy, hz, q⟩ := z
    refine ⟨_, (pss_cons (ps_expr (pe_callE H_check_measures (hr.mono (by decide)) xw_def (pa_cons (pvM 1) (pa_cons (pvM 2) (pa_cons (pvM 3) pa_nil)))))
      (pss_cons (ps_fld (pvM 0) (pvM 1) rfl)
      (pss_cons (ps_fld (pvM 0) (pvM 2) rfl)
      (pss_cons (ps_fld (pvM 0) (pvM 3) rfl)
      (pss_cons (ps_fld (pvM 0) (pe_callE H_power_of_two (hr.mono (by decide)) xw_def (pa_cons (pvM 2) pa_nil)) rfl)
      (pss_cons (ps_fld (pvM 0) (pe_callE H_power_of_two (hr.mono (by decide)) xw_def (pa_cons (pvM 3) pa_nil)) rfl)
      (pss_one (ps_fld (pvM 0) (pe_callE H_power_of_two (hr.mono (by decide)) xw_def (pa_cons (pe_op op_mul (pvM 1) (pvM 2)) pa_nil)) rfl)))))))), ?_⟩
    unfold sp_check sp_power_of_two
    walk_at "wp"
    simp only [hx, hy, hz, hp, T.cl_Shape, T.na_Shape_levels, T.na_Shape_fan, T.na_Shape_grain, T.na_Shape_ways, T.na_Shape_boxes, T.na_Shape_pages, true_and]
    walk_at "wp"
    simp only [T.cl_Shape, T.na_Shape_levels, T.na_Shape_fan, T.na_Shape_grain, T.na_Shape_ways, T.na_Shape_boxes, T.na_Shape_pages, true_and]
    refine ite2 (fun hg => ?_) (fun hg => ?_)
    · rw [if_pos hg] at q
      obtain ⟨l, f', g, rfl, rfl, rfl, q⟩ := q
      have b := good_ints hg
      have m := mul_24 b.1 b.2.1 b.2.2.1 b.2.2.2.1
      walk_at "wp"
      repeat' (refine And.intro ?_ ?_)
      all_goals first | omega | exact q | (refine Nat.lt_of_lt_of_le (?_ : _ < 9) (by decide); repeat (first | exact Nat.zero_lt_succ _ | refine lt_putF ?_))
    · rw [if_neg hg] at q
      exact q
theorem shF_pages {l f g : Int} : (shF l f g).lookup ("pages" : Str) = some (.int (pw (l * f))) := by rfl
theorem shF_no {l f g : Int} {m : Str} (h : ¬ m ∈ (["levels", "fan", "grain", "ways", "boxes", "pages"] : List Str)) : (shF l f g).lookup m = none := by
  simp only [List.mem_cons, List.not_mem_nil, or_false, not_or] at h
  unfold shF
  simp only [lookup_putF, h, if_false]
  rfl
def ShapeAt (C : Addr) (H : Hp) (p : Addr) (l f g : Int) : Prop := ∃ dx, H p = some (.ins C dx (shF l f g))
theorem ShapeAt.same {C : Addr} {H H' : Hp} {p : Addr} {l f g : Int} (h : ShapeAt C H p l f g) (s : Same H H') : ShapeAt C H' p l f g := let ⟨dx, e⟩ := h; ⟨dx, s _ _ e⟩

def sp_has (C : Addr) : Sp := fun vs H Q _ => ∃ (p : Addr) (x l f g : Int), vs = [.ref p, .int x] ∧ ShapeAt C H p l f g ∧ Q (.bl (decide (0 ≤ x) && decide (x ≤ pw (l * f) - 1))) H
theorem h_has (T : Txt K mg A) : HaveM P w K mg base A.C_Shape "has_page" 3 ["self", "page"] [] (sp_has A.C_Shape) := by
  have H_is_within := h_is_within (P := P) (w := w) (base := base) T
  refine T.r_Shape_has_page.have sc_Shape_has_page (fun vs H Q E z => ?_) ?_
  · obtain ⟨p, x, l, f, g, rfl, _⟩ := z; rfl
  · intro f cdv A' outer s H vs Q E hr z
    obtain ⟨p, x, l, f', g, rfl, ⟨dx, hp⟩, q⟩ := z
    refine ⟨_, (pss_one (ps_ret (pe_callE H_is_within (hr.mono (by decide)) xw_def (pa_cons (pvM 1) (pa_cons pe_int (pa_cons (pe_op op_sub (pe_fld (pvM 0) rfl) pe_int) pa_nil)))))), ?_⟩
    unfold sp_is_within
    walk_at "wp"
    simp only [hp, T.cl_Shape, T.na_Shape_pages, true_and]
    walk_at "wp"
    simp only [T.cl_Shape, T.na_Shape_pages, shF_pages, true_and]
    walk_at "wp"
    exact q
def fitsB (x m p : Int) : Bool := decide (0 ≤ x ∧ x < p ∧ 1 ≤ m ∧ m ≤ 64 ∧ x + m - 1 < p)
def sp_fits (C : Addr) : Sp := fun vs H Q _ => ∃ (p : Addr) (x m l f g : Int), vs = [.ref p, .int x, .int m] ∧ ShapeAt C H p l f g ∧ Q (.bl (fitsB x m (pw (l * f)))) H
theorem h_fits (T : Txt K mg A) : HaveM P w K mg base A.C_Shape "fits" 4 ["self", "first", "many"] [] (sp_fits A.C_Shape) := by
  have H_is_within := h_is_within (P := P) (w := w) (base := base) T
  have H_Shape_has_page := h_has (P := P) (w := w) (base := base) T
  refine T.r_Shape_fits.have sc_Shape_fits (fun vs H Q E z => ?_) ?_
  · obtain ⟨p, x, m, l, f, g, rfl, _⟩ := z; rfl
  · intro f cdv A' outer s H vs Q E hr z
    obtain ⟨p, x, m, l, f', g, rfl, hS, q⟩ := z
    refine ⟨_, (pss_one (ps_ret (pe_and (pe_methE (pvM 0) T.cl_Shape H_Shape_has_page (hr.mono (by decide)) xw_def (pa_cons (pvM 1) pa_nil)) (pe_and (pe_callE H_is_within (hr.mono (by decide)) xw_def (pa_cons (pvM 2) (pa_cons pe_int (pa_cons (pe_globE rfl T.c_MOST_IN_STRETCH) pa_nil)))) (pe_one (pe_methE (pvM 0) T.cl_Shape H_Shape_has_page (hr.mono (by decide)) xw_def (pa_cons (pe_op op_sub (pe_op op_add (pvM 1) (pvM 2)) pe_int) pa_nil))))))), ?_⟩
    unfold sp_is_within sp_has
    walk_at "wp"
    obtain ⟨dx, hp⟩ := id hS
    simp only [hp]
    walk_at "wp"
    refine ⟨shF_no (by decide +kernel), l, f', g, hS, ?_⟩
    generalize hN : pw (l * f') = N at q ⊢
    by_cases c : 0 ≤ x ∧ x ≤ N - 1
    · rw [decide_eq_true c.1, decide_eq_true c.2]
      refine iteT ?_
      rw [within_int]
      by_cases d : 1 ≤ m ∧ m ≤ 64
      · rw [decide_eq_true d.1, decide_eq_true d.2]
        refine iteT ⟨shF_no (by decide +kernel), l, f', g, hS, ?_⟩
        have e2 : (decide (0 ≤ x + m - 1) && decide (x + m - 1 ≤ pw (l * f') - 1)) = fitsB x m N := by
          unfold fitsB
          rw [Bool.eq_iff_iff]; simp only [Bool.and_eq_true, decide_eq_true_eq]; omega
        rw [e2]
        exact q
      · have e : (decide (1 ≤ m) && decide (m ≤ 64)) = false := by
          rw [Bool.eq_false_iff]; simp only [ne_eq, Bool.and_eq_true, decide_eq_true_eq]; exact d
        rw [e]
        refine iteF ?_
        have e2 : fitsB x m N = false := decide_eq_false (by omega)
        rw [e2] at q
        exact q
    · have e : (decide (0 ≤ x) && decide (x ≤ N - 1)) = false := by
        rw [Bool.eq_false_iff]; simp only [ne_eq, Bool.and_eq_true, decide_eq_true_eq]; exact c
      rw [e]
      refine iteF ?_
      have e2 : fitsB x m N = false := decide_eq_false (by omega)
      rw [e2] at q
      exact q

def sp_cell (K : PySem.W.Frag) (a : Addr) (ns : List Int) : Sp := fun vs H Q _ => ∃ (k : Int), vs = [.ref a, .int k] ∧ SqL K H a (ns.map V.int) ∧ 0 ≤ k ∧ Q (.int (ns.getD k.toNat 0)) H
theorem h_cell (T : Txt K mg A) (a : Addr) (ns : List Int) : Have P w K mg base "_law_cell_at" 1 ["_law_script", "_law_k"] [] (sp_cell K a ns) := by
  refine T.r_l_cell_at.have sc_l_cell_at (fun vs H Q E z => ?_) ?_
  · obtain ⟨k, rfl, _⟩ := z; rfl
  · intro f cdv A' outer s H vs Q E hr z
    obtain ⟨k, rfl, hs, hk, q⟩ := z
    refine ⟨_, (pss_cons (ps_if (pt_cmpR op_lt (pvM 1) (pe_callB call_len rfl T.b_len PySem.boot_len (pa_cons (pvM 0) pa_nil)) (nomark _)) (pss_one (ps_ret (pe_ix ix_list (pvM 0) (pvM 1) (fun _ _ => rfl)))) pss_nil)
      (pss_one (ps_ret pe_int))), ?_⟩
    walk_at "wp"
    refine ⟨ns.length, .inl ⟨_, hs, by simp⟩, ?_⟩
    by_cases c : k < (ns.length : Int)
    · rw [if_pos c]
      refine ⟨_, hs, .int (ns.getD k.toNat 0), ?_, q⟩
      have hlt : k.toNat < ns.length := by omega
      have e : atI (ns.map V.int) ((k.toNat : Nat) : Int) = some (.int (ns.getD k.toNat 0)) := atI_nat (by simp [hlt])
      rw [show ((k.toNat : Nat) : Int) = k by omega] at e
      exact e
    · rw [if_neg c]
      have hge : ns.length ≤ k.toNat := by omega
      rw [show ns.getD k.toNat 0 = 0 by simp [List.getD, hge]] at q
      exact q
theorem same_put {H H' : Hp} {t : Addr} {o : HO} (s : Same H H') (h : H t = none) : Same H (upd H' t o) := fun b u e => by
  rw [upd_ne (ne_of_none e h)]; exact s b u e

theorem same_none {H H' : Hp} {p : Addr} (s : Same H H') (h : H' p = none) : H p = none := by
  cases e : H p with
  | none => rfl
  | some o => rw [s p o e] at h; cases h
structure Rn where
  f : Int
  m : Int
  r : Int
  t : Option (Int × Int)
  deriving DecidableEq
def enR (r : Rn) : Int := r.f + r.m
def tf (r : Rn) (p : Int) : Option (Int × Int) := r.t.map fun t => (t.1, t.2 + p - r.f)
def poR (r : Rn) (lo hi : Int) : Rn := ⟨max r.f lo, min (enR r) hi - max r.f lo, r.r, tf r (max r.f lo)⟩
def go (r s : Rn) : Bool := decide (enR r = s.f) && decide (r.r = s.r) && decide (tf r s.f = s.t)
def jstep (acc : List Rn) (r : Rn) : List Rn :=
  match acc.getLast? with
  | none => acc ++ [r]
  | some l => if go l r = true then acc.dropLast ++ [⟨l.f, l.m + r.m, l.r, l.t⟩] else acc ++ [r]
def jn (rs : List Rn) : List Rn := rs.foldl jstep []
def pb (rs : List Rn) (p : Int) : Nat := (rs.takeWhile fun r => decide (enR r ≤ p)).length
def cutR (rs : List Rn) (lo hi : Nat) : List Rn := (rs.take hi).drop lo
def pam (rs : List Rn) (a n : Int) : List Rn := ((cutR rs (pb rs a) (pb rs (a + n) + 1)).filter fun r => decide (r.f < a + n)).map fun r => poR r a (a + n)
def layR (rs : List Rn) (a n : Int) (parts : List Rn) : List Rn :=
  let near := cutR rs (pb rs (a - 1)) (pb rs (a + n) + 1)
  rs.take (pb rs (a - 1)) ++ jn ((near.filter fun r => decide (r.f < a)).map (fun r => poR r r.f a) ++ parts ++ (near.filter fun r => decide (enR r > a + n)).map (fun r => poR r (a + n) (enR r))) ++ rs.drop (pb rs (a + n) + 1)
def pm : List Rn → Int → Option (Int × Option (Int × Int))
  | [], _ => none
  | r :: rs, p => if r.f ≤ p ∧ p < enR r then some (r.r, tf r p) else pm rs p
def OrdR (rs : List Rn) : Prop := rs.Pairwise (fun a b => enR a ≤ b.f) ∧ ∀ r ∈ rs, 0 < r.m
def LstR : List Rn → Prop
  | [] => True
  | [_] => True
  | a :: b :: r => go a b = false ∧ LstR (b :: r)
theorem OrdR.tail {r : Rn} {rs : List Rn} (h : OrdR (r :: rs)) : OrdR rs := ⟨(List.pairwise_cons.mp h.1).2, fun x hx => h.2 x (List.mem_cons_of_mem _ hx)⟩
theorem OrdR.head {r : Rn} {rs : List Rn} (h : OrdR (r :: rs)) : ∀ s ∈ rs, enR r ≤ s.f := (List.pairwise_cons.mp h.1).1
theorem LstR.tail {r : Rn} {rs : List Rn} (h : LstR (r :: rs)) : LstR rs := by
  cases rs with
  | nil => exact True.intro
  | cons s rs => exact h.2
theorem pm_none {p : Int} : ∀ {rs : List Rn}, (∀ r ∈ rs, ¬ (r.f ≤ p ∧ p < enR r)) → pm rs p = none
  | [], _ => rfl
  | r :: rs, h => by
    unfold pm
    rw [if_neg (h r List.mem_cons_self)]
    exact pm_none fun s hs => h s (List.mem_cons_of_mem _ hs)
theorem pm_below {p : Int} {rs : List Rn} (h : ∀ r ∈ rs, p < r.f) : pm rs p = none := pm_none fun r hr z => by have := h r hr; omega
theorem pm_above {p : Int} {rs : List Rn} (h : ∀ r ∈ rs, enR r ≤ p) : pm rs p = none := pm_none fun r hr z => by have := h r hr; omega
theorem pm_mem {p : Int} : ∀ {rs : List Rn} {r : Rn}, OrdR rs → r ∈ rs → r.f ≤ p → p < enR r → pm rs p = some (r.r, tf r p)
  | [], _, _, h, _, _ => by cases h
  | s :: rs, r, o, h, h1, h2 => by
    unfold pm
    rcases List.mem_cons.mp h with rfl | h
    · rw [if_pos ⟨h1, h2⟩]
    · have := o.head r h
      rw [if_neg (by omega)]
      exact pm_mem o.tail h h1 h2
theorem pm_some {p : Int} {x : Int × Option (Int × Int)} : ∀ {rs : List Rn}, pm rs p = some x → ∃ r ∈ rs, r.f ≤ p ∧ p < enR r ∧ x = (r.r, tf r p)
  | [], h => by cases h
  | s :: rs, h => by
    unfold pm at h
    by_cases c : s.f ≤ p ∧ p < enR s
    · rw [if_pos c] at h
      exact ⟨s, List.mem_cons_self, c.1, c.2, (Option.some.inj h).symm⟩
    · rw [if_neg c] at h
      obtain ⟨r, h1, h2⟩ := pm_some h
      exact ⟨r, List.mem_cons_of_mem _ h1, h2⟩
theorem pm_append {p : Int} : ∀ {rs ss : List Rn}, pm (rs ++ ss) p = (pm rs p).or (pm ss p)
  | [], ss => by rw [List.nil_append]; rfl
  | r :: rs, ss => by
    show (if r.f ≤ p ∧ p < enR r then some (r.r, tf r p) else pm (rs ++ ss) p) = (if r.f ≤ p ∧ p < enR r then some (r.r, tf r p) else pm rs p).or (pm ss p)
    by_cases c : r.f ≤ p ∧ p < enR r
    · rw [if_pos c, if_pos c]; rfl
    · rw [if_neg c, if_neg c]; exact pm_append
theorem tf_at {r : Rn} : tf r r.f = r.t := by
  unfold tf
  cases r.t with
  | none => rfl
  | some t => simp
theorem tf_shift {r : Rn} {p q : Int} {m x : Int} : tf ⟨p, m, x, tf r p⟩ q = tf r q := by
  unfold tf
  cases r.t with
  | none => rfl
  | some t => simp; omega
def sHd (a b : Rn) : Prop := a.f = b.f ∧ a.r = b.r ∧ a.t = b.t
def sLs (a b : Rn) : Prop := enR a = enR b ∧ a.r = b.r ∧ ∀ p, tf a p = tf b p
theorem go_hd {l a b : Rn} (h : sHd a b) : go l a = go l b := by unfold go; rw [h.1, h.2.1, h.2.2]
theorem go_ls {l a b : Rn} (h : sLs a b) : go a l = go b l := by unfold go; rw [h.1, h.2.1, h.2.2]
theorem lst_app : ∀ {xs ys : List Rn}, LstR xs → LstR ys → (∀ a b, xs.getLast? = some a → ys.head? = some b → go a b = false) → LstR (xs ++ ys)
  | [], ys, _, h, _ => h
  | [a], [], h, _, _ => h
  | [a], b :: ys, _, h, g => ⟨g a b rfl rfl, h⟩
  | a :: b :: xs, ys, h, h2, g => ⟨h.1, lst_app (xs := b :: xs) h.2 h2 fun x y e1 e2 => g x y (by rw [List.getLast?_cons_cons]; exact e1) e2⟩
theorem lst_left : ∀ {xs ys : List Rn}, LstR (xs ++ ys) → LstR xs
  | [], _, _ => True.intro
  | [a], _, _ => True.intro
  | a :: b :: xs, ys, h => ⟨h.1, lst_left (xs := b :: xs) (ys := ys) h.2⟩
theorem lst_right : ∀ {xs ys : List Rn}, LstR (xs ++ ys) → LstR ys
  | [], _, h => h
  | a :: xs, ys, h => lst_right (xs := xs) (LstR.tail (r := a) h)
theorem lst_amid : ∀ {xs ys : List Rn} {a b : Rn}, LstR (xs ++ ys) → xs.getLast? = some a → ys.head? = some b → go a b = false
  | [], _, _, _, _, h, _ => by cases h
  | [x], [], _, _, _, _, h => by cases h
  | [x], y :: ys, a, b, h, h1, h2 => by
    cases h1; cases h2; exact h.1
  | x :: z :: xs, ys, a, b, h, h1, h2 => lst_amid (xs := z :: xs) h.2 (by rw [List.getLast?_cons_cons] at h1; exact h1) h2
theorem lst_same : ∀ {xs : List Rn} {a b : Rn}, sHd a b → LstR (xs ++ [b]) → LstR (xs ++ [a])
  | [], _, _, _, _ => True.intro
  | [x], a, b, h, l => ⟨by rw [go_hd h]; exact l.1, True.intro⟩
  | x :: z :: xs, a, b, h, l => ⟨l.1, lst_same (xs := z :: xs) h l.2⟩
theorem ord_app {xs ys : List Rn} (h1 : OrdR xs) (h2 : OrdR ys) (h : ∀ x ∈ xs, ∀ y ∈ ys, enR x ≤ y.f) : OrdR (xs ++ ys) :=
  ⟨List.pairwise_append.mpr ⟨h1.1, h2.1, h⟩, fun r hr => (List.mem_append.mp hr).elim (h1.2 r) (h2.2 r)⟩
theorem ord_left {xs ys : List Rn} (h : OrdR (xs ++ ys)) : OrdR xs := ⟨(List.pairwise_append.mp h.1).1, fun r hr => h.2 r (List.mem_append_left _ hr)⟩
theorem ord_right {xs ys : List Rn} (h : OrdR (xs ++ ys)) : OrdR ys := ⟨(List.pairwise_append.mp h.1).2.1, fun r hr => h.2 r (List.mem_append_right _ hr)⟩
theorem ord_amid {xs ys : List Rn} (h : OrdR (xs ++ ys)) : ∀ x ∈ xs, ∀ y ∈ ys, enR x ≤ y.f := (List.pairwise_append.mp h.1).2.2
theorem ord_one {r : Rn} (h : 0 < r.m) : OrdR [r] := ⟨by simp, fun x hx => by rw [List.mem_singleton.mp hx]; exact h⟩
structure Jn (c acc : List Rn) : Prop where
  ord : OrdR acc
  lst : LstR acc
  pg : ∀ p, pm acc p = pm c p
  hd : ∀ b, c.head? = some b → ∃ a, acc.head? = some a ∧ sHd a b
  ls : ∀ b, c.getLast? = some b → ∃ a, acc.getLast? = some a ∧ sLs a b
  lo : ∀ z, (∀ y ∈ c, z ≤ y.f) → ∀ x ∈ acc, z ≤ x.f
  hi : ∀ z, (∀ y ∈ c, enR y ≤ z) → ∀ x ∈ acc, enR x ≤ z
  no : c = [] → acc = []
theorem snoc_of {α : Type} : ∀ {l : List α} {a : α}, l.getLast? = some a → ∃ i, l = i ++ [a]
  | [], _, h => by cases h
  | [x], a, h => ⟨[], by cases h; rfl⟩
  | x :: y :: l, a, h => by
    rw [List.getLast?_cons_cons] at h
    obtain ⟨i, e⟩ := snoc_of h
    exact ⟨x :: i, by rw [e]; rfl⟩
theorem Jn.step {c acc : List Rn} {r : Rn} (J : Jn c acc) (o : OrdR (c ++ [r])) : Jn (c ++ [r]) (jstep acc r) := by
  have hr : 0 < r.m := o.2 r (List.mem_append_right _ List.mem_cons_self)
  have hcr : ∀ y ∈ c, enR y ≤ r.f := fun y hy => ord_amid o y hy r List.mem_cons_self
  rcases hc : c.getLast? with _ | d
  · have : c = [] := List.getLast?_eq_none_iff.mp hc
    subst this
    have := J.no rfl
    subst this
    exact ⟨ord_one hr, True.intro, fun _ => rfl, fun b h => ⟨r, rfl, by cases h; exact ⟨rfl, rfl, rfl⟩⟩, fun b h => ⟨r, rfl, by cases h; exact ⟨rfl, rfl, fun _ => rfl⟩⟩, fun z h => h, fun z h => h, fun h => by cases h⟩
  · obtain ⟨l, hl, sl⟩ := J.ls d hc
    obtain ⟨i, rfl⟩ := snoc_of hl
    have hcne : c ≠ [] := fun e => by rw [e] at hc; cases hc
    have hlr : enR l ≤ r.f := J.hi r.f hcr l (by simp)
    have hil : ∀ x ∈ i, enR x ≤ l.f := fun x hx => ord_amid J.ord x hx l List.mem_cons_self
    have hlm : 0 < l.m := J.ord.2 l (by simp)
    have hhd : ∀ {b : Rn} {x : List Rn}, (c ++ x).head? = some b → c.head? = some b := fun {b x} h => by
      cases c with
      | nil => exact absurd rfl hcne
      | cons y c => exact h
    unfold jstep
    rw [hl]
    show Jn (c ++ [r]) (if go l r = true then (i ++ [l]).dropLast ++ [⟨l.f, l.m + r.m, l.r, l.t⟩] else (i ++ [l]) ++ [r])
    cases g : go l r with
    | true =>
      rw [if_pos rfl, List.dropLast_concat]
      unfold go at g
      simp only [Bool.and_eq_true, decide_eq_true_eq] at g
      obtain ⟨⟨g1, g2⟩, g3⟩ := g
      have etf : ∀ p, tf r p = tf l p := fun p => by
        unfold tf at g3 ⊢
        rw [← g3]
        cases l.t with
        | none => rfl
        | some t => simp; omega
      have etl : ∀ p, tf (⟨l.f, l.m + r.m, l.r, l.t⟩ : Rn) p = tf l p := fun p => rfl
      refine ⟨?_, ?_, ?_, ?_, ?_, ?_, ?_, ?_⟩
      · refine ord_app (ord_left J.ord) (ord_one (by show 0 < l.m + r.m; omega)) fun x hx y hy => ?_
        rw [List.mem_singleton.mp hy]
        exact hil x hx
      · exact lst_same (b := l) ⟨rfl, rfl, rfl⟩ J.lst
      · intro p
        rw [pm_append, pm_append, ← J.pg p, pm_append]
        cases pm i p with
        | some x => rfl
        | none =>
          show (if l.f ≤ p ∧ p < l.f + (l.m + r.m) then some (l.r, tf l p) else none) = ((if l.f ≤ p ∧ p < enR l then some (l.r, tf l p) else none).or (if r.f ≤ p ∧ p < enR r then some (r.r, tf r p) else none))
          unfold enR at *
          by_cases c1 : l.f ≤ p ∧ p < l.f + l.m
          · rw [if_pos c1, if_pos (by omega)]; rfl
          · rw [if_neg c1]
            by_cases c2 : r.f ≤ p ∧ p < r.f + r.m
            · rw [if_pos c2, if_pos (by omega), etf, g2]; rfl
            · rw [if_neg c2, if_neg (by omega)]; rfl
      · intro b hb
        obtain ⟨a, ha, sa⟩ := J.hd b (hhd hb)
        cases i with
        | nil =>
          cases ha
          exact ⟨_, rfl, sa.1, sa.2.1, sa.2.2⟩
        | cons x i => exact ⟨a, ha, sa⟩
      · intro b hb
        rw [List.getLast?_concat] at hb
        cases hb
        exact ⟨⟨l.f, l.m + r.m, l.r, l.t⟩, by rw [List.getLast?_concat], by show l.f + (l.m + r.m) = enR r; unfold enR at *; omega, g2, fun p => (etl p).trans (etf p).symm⟩
      · intro z hz x hx
        have hz' : ∀ y ∈ c, z ≤ y.f := fun y hy => hz y (List.mem_append_left _ hy)
        rcases List.mem_append.mp hx with hx | hx
        · exact J.lo z hz' x (List.mem_append_left _ hx)
        · rw [List.mem_singleton.mp hx]; exact J.lo z hz' l (by simp)
      · intro z hz x hx
        have hz' : ∀ y ∈ c, enR y ≤ z := fun y hy => hz y (List.mem_append_left _ hy)
        rcases List.mem_append.mp hx with hx | hx
        · exact J.hi z hz' x (List.mem_append_left _ hx)
        · rw [List.mem_singleton.mp hx]
          have := hz r (by simp)
          show l.f + (l.m + r.m) ≤ z
          unfold enR at *
          omega
      · intro h; simp at h
    | false =>
      rw [if_neg Bool.false_ne_true]
      refine ⟨?_, ?_, ?_, ?_, ?_, ?_, ?_, ?_⟩
      · refine ord_app J.ord (ord_one hr) fun x hx y hy => ?_
        rw [List.mem_singleton.mp hy]
        exact J.hi r.f hcr x hx
      · refine lst_app J.lst True.intro fun a b ha hb => ?_
        rw [List.getLast?_concat] at ha
        cases ha; cases hb; exact g
      · intro p
        rw [pm_append, pm_append (rs := c), J.pg p]
      · intro b hb
        obtain ⟨a, ha, sa⟩ := J.hd b (hhd hb)
        refine ⟨a, ?_, sa⟩
        rw [List.head?_append, ha]; rfl
      · intro b hb
        rw [List.getLast?_concat] at hb
        cases hb
        exact ⟨_, by rw [List.getLast?_concat], rfl, rfl, fun _ => rfl⟩
      · intro z hz x hx
        rcases List.mem_append.mp hx with hx | hx
        · exact J.lo z (fun y hy => hz y (List.mem_append_left _ hy)) x hx
        · exact hz x (List.mem_append_right _ hx)
      · intro z hz x hx
        rcases List.mem_append.mp hx with hx | hx
        · exact J.hi z (fun y hy => hz y (List.mem_append_left _ hy)) x hx
        · exact hz x (List.mem_append_right _ hx)
      · intro h; simp at h
theorem Jn.fold : ∀ {rs c acc : List Rn}, Jn c acc → OrdR (c ++ rs) → Jn (c ++ rs) (rs.foldl jstep acc)
  | [], c, acc, J, _ => by rw [List.append_nil]; exact J
  | r :: rs, c, acc, J, o => by
    have e : c ++ r :: rs = (c ++ [r]) ++ rs := by simp
    rw [e] at o ⊢
    exact Jn.fold (J.step (ord_left o)) o
theorem jn_ok {rs : List Rn} (o : OrdR rs) : Jn rs (jn rs) := by
  have := Jn.fold (rs := rs) (c := []) (acc := []) ⟨⟨by simp, fun _ h => by simp at h⟩, True.intro, fun _ => rfl, fun _ h => by simp at h, fun _ h => by simp at h, fun _ _ _ h => by simp at h, fun _ _ _ h => by simp at h, fun _ => rfl⟩ o
  exact this

theorem pb_part {rs : List Rn} (o : OrdR rs) (p : Int) : ∃ A R, rs = A ++ R ∧ pb rs p = A.length ∧ (∀ x ∈ A, enR x ≤ p) ∧ (∀ x ∈ R, p < enR x) := by
  refine ⟨rs.takeWhile fun r => decide (enR r ≤ p), rs.dropWhile fun r => decide (enR r ≤ p), (List.takeWhile_append_dropWhile).symm, rfl, fun x hx => ?_, fun x hx => ?_⟩
  · induction rs with
    | nil => cases hx
    | cons y rs ih =>
      rw [List.takeWhile_cons] at hx
      by_cases c : enR y ≤ p
      · rw [decide_eq_true c] at hx
        simp only [if_true] at hx
        rcases List.mem_cons.mp hx with rfl | hx
        · exact c
        · exact ih o.tail hx
      · rw [decide_eq_false c] at hx
        simp at hx
  · induction rs with
    | nil => cases hx
    | cons y rs ih =>
      rw [List.dropWhile_cons] at hx
      by_cases c : enR y ≤ p
      · rw [decide_eq_true c] at hx
        simp only [if_true] at hx
        exact ih o.tail hx
      · rw [decide_eq_false c] at hx
        simp only [Bool.false_eq_true, if_false] at hx
        rcases List.mem_cons.mp hx with rfl | hx
        · omega
        · have h1 := o.head x hx
          have h2 := o.2 x (List.mem_cons_of_mem _ hx)
          unfold enR at *
          omega
theorem pb_two {rs : List Rn} (o : OrdR rs) {p q : Int} (h : p ≤ q) : ∃ A M R, rs = A ++ M ++ R ∧ pb rs p = A.length ∧ pb rs q = A.length + M.length ∧ (∀ x ∈ A, enR x ≤ p) ∧ (∀ x ∈ M, p < enR x ∧ enR x ≤ q) ∧ (∀ x ∈ R, q < enR x) := by
  obtain ⟨A, R1, e1, h1, h2, h3⟩ := pb_part o p
  obtain ⟨M, R, e2, h4, h5, h6⟩ := pb_part (rs := R1) (by rw [e1] at o; exact ord_right o) q
  refine ⟨A, M, R, by rw [e1, e2, List.append_assoc], h1, ?_, h2, fun x hx => ⟨h3 x (by rw [e2]; exact List.mem_append_left _ hx), h5 x hx⟩, h6⟩
  have : pb rs q = A.length + pb R1 q := by
    rw [e1]
    clear e1 h1 e2 h4 o
    induction A with
    | nil => simp
    | cons y A ih =>
      have hy := h2 y List.mem_cons_self
      unfold pb at *
      rw [List.cons_append, List.takeWhile_cons, decide_eq_true (by omega)]
      simp only [if_true, List.length_cons]
      rw [ih fun x hx => h2 x (List.mem_cons_of_mem _ hx)]
      omega
  rw [this, h4]
theorem cut_is {A M R : List Rn} {n m : Nat} (hn : n = A.length) (hm : m = A.length + M.length + 1) : cutR (A ++ M ++ R) n m = M ++ R.take 1 := by
  unfold cutR
  rw [hn, hm, List.append_assoc, List.take_append, List.take_of_length_le (by omega), List.drop_append, List.drop_length, Nat.sub_self, List.drop_zero, List.nil_append,
    List.take_append, List.take_of_length_le (by omega)]
  congr 2
  omega
theorem drop_is {A M R : List Rn} {m : Nat} (hm : m = A.length + M.length + 1) : (A ++ M ++ R).drop m = R.drop 1 := by
  rw [hm, ← List.length_append, List.drop_append, List.drop_eq_nil_of_le (by omega), List.nil_append]
  congr 1
  omega
theorem po_ahead {r : Rn} {a : Int} (h1 : a ≤ enR r) : poR r r.f a = ⟨r.f, a - r.f, r.r, r.t⟩ := by
  unfold poR
  rw [Int.max_self, Int.min_eq_right h1, tf_at]
theorem pm_ahead {a p : Int} : ∀ {N : List Rn}, (∀ x ∈ N, a ≤ enR x) → pm ((N.filter fun r => decide (r.f < a)).map fun r => poR r r.f a) p = if p < a then pm N p else none
  | [], _ => by simp [pm]
  | x :: N, h => by
    have ih := pm_ahead (p := p) (N := N) fun y hy => h y (List.mem_cons_of_mem _ hy)
    have hx := h x List.mem_cons_self
    rw [List.filter_cons]
    by_cases c : x.f < a
    · rw [decide_eq_true c]
      simp only [if_true, List.map_cons]
      rw [po_ahead hx]
      show (if x.f ≤ p ∧ p < x.f + (a - x.f) then some (x.r, tf ⟨x.f, a - x.f, x.r, x.t⟩ p) else pm _ p) = if p < a then (if x.f ≤ p ∧ p < enR x then some (x.r, tf x p) else pm N p) else none
      rw [ih]
      have et : tf ⟨x.f, a - x.f, x.r, x.t⟩ p = tf x p := rfl
      rw [et]
      by_cases c2 : p < a
      · rw [if_pos c2, if_pos c2]
        by_cases c3 : x.f ≤ p
        · rw [if_pos (by omega), if_pos (by omega)]
        · rw [if_neg (by omega), if_neg (by omega)]
      · rw [if_neg c2, if_neg c2, if_neg (by omega)]
    · rw [decide_eq_false c]
      simp only [Bool.false_eq_true, if_false]
      rw [ih]
      show _ = if p < a then (if x.f ≤ p ∧ p < enR x then some (x.r, tf x p) else pm N p) else none
      by_cases c2 : p < a
      · rw [if_pos c2, if_pos c2, if_neg (by omega)]
      · rw [if_neg c2, if_neg c2]
theorem pm_behind {e p : Int} : ∀ {N : List Rn}, pm ((N.filter fun r => decide (enR r > e)).map fun r => poR r e (enR r)) p = if e ≤ p then pm N p else none
  | [] => by simp [pm]
  | x :: N => by
    have ih := pm_behind (e := e) (p := p) (N := N)
    rw [List.filter_cons]
    by_cases c : enR x > e
    · rw [decide_eq_true c]
      simp only [if_true, List.map_cons]
      show (if max x.f e ≤ p ∧ p < max x.f e + (min (enR x) (enR x) - max x.f e) then some (x.r, tf ⟨_, _, _, tf x (max x.f e)⟩ p) else pm _ p) = if e ≤ p then (if x.f ≤ p ∧ p < enR x then some (x.r, tf x p) else pm N p) else none
      rw [ih, tf_shift, Int.min_self]
      by_cases c2 : e ≤ p
      · rw [if_pos c2, if_pos c2]
        by_cases c3 : x.f ≤ p ∧ p < enR x
        · rw [if_pos c3, if_pos (by omega)]
        · rw [if_neg c3, if_neg (by omega)]
      · rw [if_neg c2, if_neg c2, if_neg (by omega)]
    · rw [decide_eq_false c]
      simp only [Bool.false_eq_true, if_false]
      rw [ih]
      show _ = if e ≤ p then (if x.f ≤ p ∧ p < enR x then some (x.r, tf x p) else pm N p) else none
      by_cases c2 : e ≤ p
      · rw [if_pos c2, if_pos c2, if_neg (by omega)]
      · rw [if_neg c2, if_neg c2]
theorem ord_map {N : List Rn} {q : Rn → Bool} {g : Rn → Rn} (o : OrdR N) (h1 : ∀ x ∈ N, q x = true → 0 < (g x).m) (h2 : ∀ x ∈ N, ∀ y ∈ N, q x = true → q y = true → enR x ≤ y.f → enR (g x) ≤ (g y).f) : OrdR ((N.filter q).map g) := by
  refine ⟨?_, fun r hr => ?_⟩
  · rw [List.pairwise_map]
    have h3 : ((N.filter q)).Pairwise fun a b => enR a ≤ b.f := o.1.filter q
    refine List.Pairwise.imp_of_mem (fun {x y} hx hy h => ?_) h3
    have hx := List.mem_filter.mp hx
    have hy := List.mem_filter.mp hy
    exact h2 x hx.1 y hy.1 hx.2 hy.2 h
  · obtain ⟨x, hx, rfl⟩ := List.mem_map.mp hr
    have hx := List.mem_filter.mp hx
    exact h1 x hx.1 hx.2
theorem lay_ok {rs parts : List Rn} {a n : Int} (o : OrdR rs) (l : LstR rs) (hn : 0 < n) (op : OrdR parts) (hb : ∀ x ∈ parts, a ≤ x.f ∧ enR x ≤ a + n) :
    OrdR (layR rs a n parts) ∧ LstR (layR rs a n parts) ∧ ∀ p, pm (layR rs a n parts) p = if a ≤ p ∧ p < a + n then pm parts p else pm rs p := by
  obtain ⟨A, M, R, e, h1, h2, hA, hM, hR⟩ := pb_two o (p := a - 1) (q := a + n) (by omega)
  have eN : cutR rs (pb rs (a - 1)) (pb rs (a + n) + 1) = M ++ R.take 1 := by rw [h1, h2]; conv => lhs; rw [e]
                                                                              exact cut_is rfl rfl
  have eB : rs.drop (pb rs (a + n) + 1) = R.drop 1 := by rw [h2]; conv => lhs; rw [e]
                                                         exact drop_is rfl
  have eA : rs.take (pb rs (a - 1)) = A := by rw [h1]; conv => lhs; rw [e, List.append_assoc, List.take_left]
  unfold layR
  simp only []
  rw [eN, eB, eA]
  have hRs : R = R.take 1 ++ R.drop 1 := (List.take_append_drop 1 R).symm
  have o3 : OrdR (A ++ ((M ++ R.take 1) ++ R.drop 1)) := by rw [List.append_assoc M, ← hRs, ← List.append_assoc, ← e]; exact o
  have l3 : LstR (A ++ ((M ++ R.take 1) ++ R.drop 1)) := by rw [List.append_assoc M, ← hRs, ← List.append_assoc, ← e]; exact l
  have hN : ∀ x ∈ M ++ R.take 1, a ≤ enR x := fun x hx => by
    rcases List.mem_append.mp hx with hx | hx
    · have := hM x hx; omega
    · have := hR x (List.mem_of_mem_take hx); omega
  have hB : ∀ x ∈ R.drop 1, a + n < x.f := fun x hx => by
    cases R with
    | nil => cases hx
    | cons z B =>
      have h4 : enR z ≤ x.f := (ord_right (ord_right o3)) |> fun _ => by
        have h5 := ord_amid (ord_right o3) z (by simp) x hx
        exact h5
      have := hR z List.mem_cons_self
      omega
  have hz : R.drop 1 ≠ [] → ∃ z, (M ++ R.take 1).getLast? = some z ∧ a + n < enR z := fun h => by
    cases R with
    | nil => exact absurd rfl h
    | cons z B => exact ⟨z, by simp, hR z List.mem_cons_self⟩
  have oN : OrdR (M ++ R.take 1) := ord_left (ord_right o3)
  have oB : OrdR (R.drop 1) := ord_right (ord_right o3)
  have oA : OrdR A := ord_left o3
  have ep : ∀ p, pm rs p = (pm A p).or ((pm (M ++ R.take 1) p).or (pm (R.drop 1) p)) := fun p => by
    rw [← pm_append, ← pm_append, List.append_assoc M, ← hRs, ← List.append_assoc, ← e]
  generalize hNN : M ++ R.take 1 = N at *
  generalize R.drop 1 = B at *
  have oa : OrdR ((N.filter fun r => decide (r.f < a)).map fun r => poR r r.f a) := ord_map oN (fun x hx c => by
      have c : x.f < a := by simpa using c
      rw [po_ahead (hN x hx)]; show 0 < a - x.f; omega) fun x hx y hy c1 c2 h => by
    have c2 : y.f < a := by simpa using c2
    have := hN x hx
    omega
  have ob : OrdR ((N.filter fun r => decide (enR r > a + n)).map fun r => poR r (a + n) (enR r)) := ord_map oN (fun x hx c => by
      have c : enR x > a + n := by simpa using c
      have := oN.2 x hx
      show 0 < min (enR x) (enR x) - max x.f (a + n)
      rw [Int.min_self]
      unfold enR at *
      omega) fun x hx y hy c1 c2 h => by
    have c1 : enR x > a + n := by simpa using c1
    have := oN.2 x hx
    show max x.f (a + n) + (min (enR x) (enR x) - max x.f (a + n)) ≤ max y.f (a + n)
    rw [Int.min_self]
    omega
  have ahd : ∀ x ∈ (N.filter fun r => decide (r.f < a)).map fun r => poR r r.f a, enR x = a ∧ ∃ y ∈ N, y.f < a ∧ sHd x y := fun x hx => by
    obtain ⟨y, hy, rfl⟩ := List.mem_map.mp hx
    have hy := List.mem_filter.mp hy
    have c : y.f < a := by simpa using hy.2
    rw [po_ahead (hN y hy.1)]
    exact ⟨by show y.f + (a - y.f) = a; omega, y, hy.1, c, rfl, rfl, rfl⟩
  have bhd : ∀ x ∈ (N.filter fun r => decide (enR r > a + n)).map fun r => poR r (a + n) (enR r), a + n ≤ x.f ∧ ∃ y ∈ N, enR x = enR y := fun x hx => by
    obtain ⟨y, hy, rfl⟩ := List.mem_map.mp hx
    have hy := List.mem_filter.mp hy
    refine ⟨by show a + n ≤ max y.f (a + n); omega, y, hy.1, ?_⟩
    show max y.f (a + n) + (min (enR y) (enR y) - max y.f (a + n)) = enR y
    rw [Int.min_self]; omega
  generalize hAH : (N.filter fun r => decide (r.f < a)).map (fun r => poR r r.f a) = ah at *
  generalize hBH : (N.filter fun r => decide (enR r > a + n)).map (fun r => poR r (a + n) (enR r)) = bh at *
  have oX : OrdR (ah ++ parts ++ bh) := by
    refine ord_app (ord_app oa op fun x hx y hy => ?_) ob fun x hx y hy => ?_
    · have := (ahd x hx).1; have := (hb y hy).1; omega
    · have h4 := (bhd y hy).1
      rcases List.mem_append.mp hx with hx | hx
      · have := (ahd x hx).1; omega
      · have := (hb x hx).2; omega
  have J := jn_ok oX
  have hXB : ∀ x ∈ jn (ah ++ parts ++ bh), ∀ y ∈ B, enR x ≤ y.f := fun x hx y hy => by
    refine J.hi y.f (fun w hw => ?_) x hx
    rcases List.mem_append.mp hw with hw | hw
    · rcases List.mem_append.mp hw with hw | hw
      · have := (ahd w hw).1; have := hB y hy; omega
      · have := (hb w hw).2; have := hB y hy; omega
    · obtain ⟨z, hz1, hz2⟩ := (bhd w hw).2
      rw [hz2]
      exact ord_amid (ord_right o3) z hz1 y hy
  have hAX : ∀ x ∈ A, ∀ y ∈ jn (ah ++ parts ++ bh), enR x ≤ y.f := fun x hx y hy => by
    refine J.lo (enR x) (fun w hw => ?_) y hy
    have hx2 := hA x hx
    rcases List.mem_append.mp hw with hw | hw
    · rcases List.mem_append.mp hw with hw | hw
      · obtain ⟨z, hz1, _, hz2⟩ := (ahd w hw).2
        rw [hz2.1]
        exact ord_amid o3 x hx z (List.mem_append_left _ hz1)
      · have := (hb w hw).1; omega
    · have := (bhd w hw).1; omega
  refine ⟨?_, ?_, ?_⟩
  · refine ord_app (ord_app oA J.ord hAX) oB fun x hx y hy => ?_
    rcases List.mem_append.mp hx with hx | hx
    · exact ord_amid o3 x hx y (List.mem_append_right _ hy)
    · exact hXB x hx y hy
  · have lA : LstR A := lst_left l3
    have lB : LstR B := lst_right (lst_right l3)
    have lAX : LstR (A ++ jn (ah ++ parts ++ bh)) := lst_app lA J.lst fun u v hu hv => by
      cases hX : (ah ++ parts ++ bh).head? with
      | none =>
        have hX := List.head?_eq_none_iff.mp hX
        rw [hX, show jn [] = [] from rfl] at hv
        cases hv
      | some w =>
        obtain ⟨v', hv', sv⟩ := J.hd w hX
        rw [hv] at hv'
        cases hv'
        rw [go_hd sv]
        have hu2 := hA u (List.mem_of_getLast? hu)
        by_cases cw : a ≤ w.f
        · unfold go
          rw [decide_eq_false (by omega)]; rfl
        · cases ah with
          | nil =>
            exfalso
            have hw : w ∈ parts ++ bh := by
              rw [List.nil_append] at hX
              exact List.mem_of_head? hX
            rcases List.mem_append.mp hw with hw | hw
            · exact cw (hb w hw).1
            · have := (bhd w hw).1; omega
          | cons w' ah' =>
            obtain rfl : w' = w := by simpa using hX
            obtain ⟨y, hy, hya, sy⟩ := (ahd w' List.mem_cons_self).2
            rw [go_hd sy]
            refine lst_amid l3 hu ?_
            rw [List.head?_append]
            cases N with
            | nil => cases hy
            | cons y0 N =>
              rcases List.mem_cons.mp hy with rfl | hy
              · rfl
              · have h5 := oN.head y hy
                have h6 := hN y0 List.mem_cons_self
                omega
    refine lst_app lAX lB fun u v hu hv => ?_
    have hBne : B ≠ [] := fun z => by rw [z] at hv; cases hv
    obtain ⟨z, hz1, hz2⟩ := hz hBne
    obtain ⟨N0, rfl⟩ := snoc_of hz1
    have hlast : (ah ++ parts ++ bh).getLast? = some (poR z (a + n) (enR z)) := by
      rw [← hBH, List.filter_append, List.map_append]
      have : ([z].filter fun r => decide (enR r > a + n)) = [z] := by rw [List.filter_cons, decide_eq_true hz2]; rfl
      rw [this, ← List.append_assoc, List.map_cons, List.map_nil, List.getLast?_concat]
    obtain ⟨u', hu', su⟩ := J.ls _ hlast
    have hne : jn (ah ++ parts ++ bh) ≠ [] := fun z => by rw [z] at hu'; cases hu'
    rw [List.getLast?_append, hu'] at hu
    obtain rfl : u' = u := by simpa using hu
    rw [go_ls su]
    have sz : sLs (poR z (a + n) (enR z)) z := by
      refine ⟨?_, rfl, fun p => ?_⟩
      · show max z.f (a + n) + (min (enR z) (enR z) - max z.f (a + n)) = enR z
        rw [Int.min_self]; omega
      · exact tf_shift
    rw [go_ls sz]
    exact lst_amid (lst_right l3) hz1 hv
  · intro p
    rw [pm_append, pm_append, J.pg, pm_append, pm_append, ep p]
    have e1 : pm ah p = if p < a then pm N p else none := by rw [← hAH]; exact pm_ahead hN
    have e2 : pm bh p = if a + n ≤ p then pm N p else none := by rw [← hBH]; exact pm_behind
    rw [e1, e2]
    by_cases c : a ≤ p ∧ p < a + n
    · rw [if_pos c, if_neg (by omega), if_neg (by omega), pm_above (rs := A) fun r hr => by have := hA r hr; omega, pm_below (rs := B) fun r hr => by have := hB r hr; omega]
      cases pm parts p <;> rfl
    · rw [if_neg c, pm_none (rs := parts) fun r hr z => by have := hb r hr; omega]
      by_cases c2 : p < a
      · rw [if_pos c2, if_neg (by omega)]
        cases pm A p <;> cases pm N p <;> rfl
      · rw [if_neg c2, if_pos (by omega)]
        cases pm A p <;> cases pm N p <;> rfl

theorem po_amid {r : Rn} {a e : Int} (h1 : a < enR r) (h2 : r.f < e) (h3 : a < e) (h0 : 0 < r.m) : a ≤ (poR r a e).f ∧ enR (poR r a e) ≤ e ∧ 0 < (poR r a e).m := by
  have e1 : (poR r a e).f = max r.f a := rfl
  have e2 : (poR r a e).m = min (enR r) e - max r.f a := rfl
  have e3 : enR (poR r a e) = max r.f a + (min (enR r) e - max r.f a) := rfl
  rw [e3, e2, e1]
  unfold enR at *
  omega
theorem pm_po {a e p : Int} : ∀ {N : List Rn}, (∀ x ∈ N, 0 < x.m) → pm ((N.filter fun r => decide (r.f < e)).map fun r => poR r a e) p = if a ≤ p ∧ p < e then pm N p else none
  | [], _ => by simp [pm]
  | x :: N, h => by
    have ih := pm_po (a := a) (e := e) (p := p) (N := N) fun y hy => h y (List.mem_cons_of_mem _ hy)
    have hx := h x List.mem_cons_self
    rw [List.filter_cons]
    by_cases c : x.f < e
    · rw [decide_eq_true c]
      simp only [if_true, List.map_cons]
      show (if max x.f a ≤ p ∧ p < max x.f a + (min (enR x) e - max x.f a) then some (x.r, tf ⟨_, _, _, tf x (max x.f a)⟩ p) else pm _ p) = if a ≤ p ∧ p < e then (if x.f ≤ p ∧ p < enR x then some (x.r, tf x p) else pm N p) else none
      rw [ih, tf_shift]
      by_cases c2 : a ≤ p ∧ p < e
      · rw [if_pos c2, if_pos c2]
        by_cases c3 : x.f ≤ p ∧ p < enR x
        · rw [if_pos c3, if_pos (by omega)]
        · rw [if_neg c3, if_neg (by omega)]
      · rw [if_neg c2, if_neg c2, if_neg (by omega)]
    · rw [decide_eq_false c]
      simp only [Bool.false_eq_true, if_false]
      rw [ih]
      show _ = if a ≤ p ∧ p < e then (if x.f ≤ p ∧ p < enR x then some (x.r, tf x p) else pm N p) else none
      by_cases c2 : a ≤ p ∧ p < e
      · rw [if_pos c2, if_pos c2, if_neg (by omega)]
      · rw [if_neg c2, if_neg c2]
theorem pam_ok {rs : List Rn} {a n : Int} (o : OrdR rs) (hn : 0 < n) : OrdR (pam rs a n) ∧ (∀ x ∈ pam rs a n, a ≤ x.f ∧ enR x ≤ a + n) ∧ ∀ p, pm (pam rs a n) p = if a ≤ p ∧ p < a + n then pm rs p else none := by
  obtain ⟨A, M, R, e, h1, h2, hA, hM, hR⟩ := pb_two o (p := a) (q := a + n) (by omega)
  have eN : cutR rs (pb rs a) (pb rs (a + n) + 1) = M ++ R.take 1 := by rw [h1, h2]; conv => lhs; rw [e]
                                                                        exact cut_is rfl rfl
  unfold pam
  rw [eN]
  have hRs : R = R.take 1 ++ R.drop 1 := (List.take_append_drop 1 R).symm
  have o3 : OrdR (A ++ ((M ++ R.take 1) ++ R.drop 1)) := by rw [List.append_assoc M, ← hRs, ← List.append_assoc, ← e]; exact o
  have hN : ∀ x ∈ M ++ R.take 1, a < enR x := fun x hx => by
    rcases List.mem_append.mp hx with hx | hx
    · exact (hM x hx).1
    · have := hR x (List.mem_of_mem_take hx); omega
  have hB : ∀ x ∈ R.drop 1, a + n < x.f := fun x hx => by
    cases R with
    | nil => cases hx
    | cons z B =>
      have h5 := ord_amid (ord_right o3) z (by simp) x hx
      have := hR z List.mem_cons_self
      omega
  have oN : OrdR (M ++ R.take 1) := ord_left (ord_right o3)
  have ep : ∀ p, pm rs p = (pm A p).or ((pm (M ++ R.take 1) p).or (pm (R.drop 1) p)) := fun p => by
    rw [← pm_append, ← pm_append, List.append_assoc M, ← hRs, ← List.append_assoc, ← e]
  generalize M ++ R.take 1 = N at *
  generalize R.drop 1 = B at *
  refine ⟨ord_map oN (fun x hx c => ?_) (fun x hx y hy c1 c2 h => ?_), fun x hx => ?_, fun p => ?_⟩
  · exact (po_amid (hN x hx) (by simpa using c) (by omega) (oN.2 x hx)).2.2
  · show max x.f a + (min (enR x) (a + n) - max x.f a) ≤ max y.f a
    omega
  · obtain ⟨y, hy, rfl⟩ := List.mem_map.mp hx
    have hy := List.mem_filter.mp hy
    have := po_amid (hN y hy.1) (by simpa using hy.2) (show a < a + n by omega) (oN.2 y hy.1)
    exact ⟨this.1, this.2.1⟩
  · rw [pm_po fun x hx => oN.2 x hx, ep p]
    by_cases c : a ≤ p ∧ p < a + n
    · rw [if_pos c, if_pos c, pm_above (rs := A) fun r hr => by have := hA r hr; omega, pm_below (rs := B) fun r hr => by have := hB r hr; omega]
      cases pm N p <;> rfl
    · rw [if_neg c, if_neg c]
theorem sum_le : ∀ {L : List Rn} {a e : Int}, OrdR L → a ≤ e → (∀ x ∈ L, a ≤ x.f ∧ enR x ≤ e) → 0 ≤ (L.map (·.m)).sum ∧ (L.map (·.m)).sum ≤ e - a ∧ ((L.map (·.m)).sum = e - a ↔ ∀ p, a ≤ p → p < e → pm L p ≠ none)
  | [], a, e, _, h, _ => by
    refine ⟨by simp, by simp; omega, ?_⟩
    constructor
    · intro h1 p h2 h3
      simp at h1
      omega
    · intro h1
      simp
      rcases (by omega : a < e ∨ e ≤ a) with h2 | h2
      · exact absurd rfl (h1 a (Int.le_refl _) h2)
      · omega
  | x :: L, a, e, o, h, hb => by
    have hx := hb x List.mem_cons_self
    have pos := o.2 x List.mem_cons_self
    have ih := sum_le (L := L) (a := enR x) (e := e) o.tail hx.2 fun y hy => ⟨o.head y hy, (hb y (List.mem_cons_of_mem _ hy)).2⟩
    rw [List.map_cons, List.sum_cons]
    have ex : enR x = x.f + x.m := rfl
    refine ⟨by omega, by omega, ?_⟩
    constructor
    · intro h1 p h2 h3
      have h4 : (L.map (·.m)).sum = e - enR x := by omega
      have h5 : x.f = a := by omega
      show (if x.f ≤ p ∧ p < enR x then some (x.r, tf x p) else pm L p) ≠ none
      by_cases c : p < enR x
      · rw [if_pos (by omega)]; exact fun z => by cases z
      · rw [if_neg (by omega)]
        exact ih.2.2.mp h4 p (by omega) h3
    · intro h1
      have h5 : x.f = a := by
        rcases (by omega : a < x.f ∨ x.f ≤ a) with h2 | h2
        · refine absurd (pm_below (p := a) (rs := x :: L) fun r hr => ?_) (h1 a (Int.le_refl _) (by omega))
          rcases List.mem_cons.mp hr with rfl | hr
          · exact h2
          · have := o.head r hr; omega
        · omega
      have h4 := ih.2.2.mpr fun p h2 h3 => by
        have := h1 p (by omega) h3
        intro z
        apply this
        show (if x.f ≤ p ∧ p < enR x then some (x.r, tf x p) else pm L p) = none
        rw [if_neg (by omega)]; exact z
      omega
theorem full_iff {rs : List Rn} {a n : Int} (o : OrdR rs) (hn : 0 < n) : ((pam rs a n).map (·.m)).sum = n ↔ ∀ p, a ≤ p → p < a + n → pm rs p ≠ none := by
  obtain ⟨h1, h2, h3⟩ := pam_ok (a := a) o hn
  have := (sum_le h1 (show a ≤ a + n by omega) h2).2.2
  rw [show a + n - a = n by omega] at this
  rw [this]
  refine ⟨fun h p x y => ?_, fun h p x y => ?_⟩
  · have := h p x y; rw [h3, if_pos ⟨x, y⟩] at this; exact this
  · rw [h3, if_pos ⟨x, y⟩]; exact h p x y
theorem free_iff {rs : List Rn} {a n : Int} (o : OrdR rs) (hn : 0 < n) : pam rs a n = [] ↔ ∀ p, a ≤ p → p < a + n → pm rs p = none := by
  obtain ⟨h1, h2, h3⟩ := pam_ok (a := a) o hn
  refine ⟨fun h p x y => ?_, fun h => ?_⟩
  · have := h3 p
    rw [h, if_pos ⟨x, y⟩] at this
    exact this.symm
  · cases e : pam rs a n with
    | nil => rfl
    | cons z L =>
      rw [e] at h1 h2 h3
      have hz := h2 z List.mem_cons_self
      have hp := h1.2 z List.mem_cons_self
      have ez : enR z = z.f + z.m := rfl
      have h4 := pm_mem h1 (p := z.f) List.mem_cons_self (Int.le_refl _) (by omega)
      rw [h3, if_pos (by omega), h z.f hz.1 (by omega)] at h4
      cases h4
theorem tied_iff {rs : List Rn} {b : Int} (o : OrdR rs) : (rs.any fun x => match x.t with | none => false | some t => decide (t.1 = b)) = true ↔ ∃ p x k, pm rs p = some (x, some (b, k)) := by
  rw [List.any_eq_true]
  constructor
  · rintro ⟨x, hx, h⟩
    have px := o.2 x hx
    have ex : enR x = x.f + x.m := rfl
    cases ht : x.t with
    | none => rw [ht] at h; cases h
    | some t =>
      rw [ht] at h
      have h : t.1 = b := by simpa using h
      refine ⟨x.f, x.r, t.2, ?_⟩
      rw [pm_mem o hx (Int.le_refl _) (by omega), tf_at, ht, ← h]
  · rintro ⟨p, y, k, h⟩
    obtain ⟨x, hx, h1, h2, h3⟩ := pm_some h
    refine ⟨x, hx, ?_⟩
    have h4 := congrArg Prod.snd h3
    simp only at h4
    unfold tf at h4
    cases ht : x.t with
    | none => rw [ht] at h4; cases h4
    | some t =>
      rw [ht] at h4
      have h5 := Option.some.inj h4
      have h6 := congrArg Prod.fst h5
      simp only at h6
      simp [h6]
theorem pb_le {rs : List Rn} {p : Int} : pb rs p ≤ rs.length := by unfold pb; exact (List.takeWhile_prefix _).length_le
theorem pb_at {rs : List Rn} (o : OrdR rs) {p : Int} {i : Nat} {x : Rn} (h : rs[i]? = some x) : i < pb rs p ↔ enR x ≤ p := by
  obtain ⟨A, R, e, h1, h2, h3⟩ := pb_part o p
  rw [h1]
  rw [e] at h
  constructor
  · intro hi
    rw [List.getElem?_append_left hi] at h
    exact h2 x (List.mem_of_getElem? h)
  · intro hx
    rcases Nat.lt_or_ge i A.length with hi | hi
    · exact hi
    · rw [List.getElem?_append_right hi] at h
      have := h3 x (List.mem_of_getElem? h)
      omega

def TieAt (H : Hp) (v : V) : Option (Int × Int) → Prop
  | none => v = .non
  | some (b, k) => ∃ a, v = .ref a ∧ H a = some (.tup [.int b, .int k])
def RunAt (H : Hp) (v : V) (r : Rn) : Prop := ∃ a tv, v = .ref a ∧ H a = some (.tup [.int r.f, .int r.m, .int r.r, tv]) ∧ TieAt H tv r.t
theorem TieAt.same {H H' : Hp} {v : V} : ∀ {t : Option (Int × Int)}, TieAt H v t → Same H H' → TieAt H' v t
  | none, h, _ => h
  | some (b, k), ⟨a, e, h⟩, s => ⟨a, e, s _ _ h⟩
theorem RunAt.same {H H' : Hp} {v : V} {r : Rn} (h : RunAt H v r) (s : Same H H') : RunAt H' v r := let ⟨a, tv, e, h1, h2⟩ := h; ⟨a, tv, e, s _ _ h1, h2.same s⟩
theorem TieAt.same2 {H H' : Hp} {a : Addr} {xs : List V} {o : HO} {v : V} (hx : H' a = some (.lst xs)) : ∀ {t : Option (Int × Int)}, TieAt H' v t → TieAt (upd H' a o) v t
  | none, h => h
  | some (b, k), ⟨c, e, h⟩ => ⟨c, e, by rw [upd_ne (ne_of h hx fun z => nomatch z)]; exact h⟩
theorem RunAt.same2 {H H' : Hp} {a : Addr} {xs : List V} {o : HO} {v : V} {r : Rn} (h : RunAt H' v r) (hx : H' a = some (.lst xs)) (_ : Same H H') : RunAt (upd H' a o) v r :=
  let ⟨c, tv, e, h1, h2⟩ := h
  ⟨c, tv, e, by rw [upd_ne (ne_of h1 hx fun z => nomatch z)]; exact h1, TieAt.same2 (H := H) hx h2⟩
abbrev RunsAt (H : Hp) : List V → List Rn → Prop := Paired (RunAt H)
theorem RunsAt.same {H H' : Hp} {vs : List V} {rs : List Rn} (h : RunsAt H vs rs) (s : Same H H') : RunsAt H' vs rs := Paired.mapP h fun _ _ q => q.same s
theorem RunsAt.same2 {H H' : Hp} {a : Addr} {xs : List V} {o : HO} {vs : List V} {rs : List Rn} (h : RunsAt H' vs rs) (hx : H' a = some (.lst xs)) (s : Same H H') : RunsAt (upd H' a o) vs rs := Paired.mapP h fun _ _ q => q.same2 hx s
theorem prd_get {α β : Type} {F : α → β → Prop} : ∀ {xs : List α} {ys : List β} {i : Nat} {x : α}, Paired F xs ys → xs[i]? = some x → ∃ y, ys[i]? = some y ∧ F x y
  | _, _, _, _, .nil, e => by simp at e
  | _, _, 0, _, .cons r _, e => by simp at e; subst e; exact ⟨_, rfl, r⟩
  | _, _, i + 1, x, .cons _ t, e => by
    obtain ⟨u, h1, h2⟩ := prd_get (i := i) (x := x) t (by simpa using e)
    exact ⟨u, by simpa using h1, h2⟩
theorem prd_app {α β : Type} {F : α → β → Prop} : ∀ {xs : List α} {ys : List β} {zs : List α} {ws : List β}, Paired F xs ys → Paired F zs ws → Paired F (xs ++ zs) (ys ++ ws)
  | _, _, _, _, .nil, h => h
  | _, _, _, _, .cons r t, h => .cons r (prd_app t h)
theorem prd_take {α β : Type} {F : α → β → Prop} : ∀ {xs : List α} {ys : List β} (n : Nat), Paired F xs ys → Paired F (xs.take n) (ys.take n)
  | _, _, 0, _ => .nil
  | _, _, _ + 1, .nil => .nil
  | _, _, n + 1, .cons r t => .cons r (prd_take n t)
theorem prd_drop {α β : Type} {F : α → β → Prop} : ∀ {xs : List α} {ys : List β} (n : Nat), Paired F xs ys → Paired F (xs.drop n) (ys.drop n)
  | _, _, 0, h => h
  | _, _, _ + 1, .nil => .nil
  | _, _, n + 1, .cons _ t => prd_drop n t

def sp_end_of (K : PySem.W.Frag) : Sp := fun vs H Q _ => ∃ v r, vs = [v] ∧ RunAt H v r ∧ Q (.int (enR r)) H
theorem h_end_of (T : Txt K mg A) : Have P w K mg base "end_of" 1 ["run"] [] (sp_end_of K) := by
  refine T.r_end_of.have sc_end_of (fun vs H Q E z => ?_) ?_
  · obtain ⟨v, r, rfl, _⟩ := z; rfl
  · intro f cdv A' outer s H vs Q E hr z
    obtain ⟨v, r, rfl, ⟨a, tv, rfl, ha, ht⟩, q⟩ := z
    refine ⟨_, (pss_one (ps_ret (pe_op op_add (pe_ix ix_tup (pvM 0) pe_int (fun _ _ => rfl)) (pe_ix ix_tup (pvM 0) pe_int (fun _ _ => rfl))))), ?_⟩
    walk_at "wp"
    exact ⟨_, SqT.of ha, _, rfl, _, SqT.of ha, _, rfl, _, rfl, _, rfl, q⟩
def sp_tie_from (K : PySem.W.Frag) : Sp := fun vs H Q _ => ∃ v r p, vs = [v, .int p] ∧ RunAt H v r ∧ ∀ u H', Same H H' → TieAt H' u (tf r p) → Q u H'
theorem h_tie_from (T : Txt K mg A) : Have P w K mg base "tie_from" 1 ["run", "page"] [] (sp_tie_from K) := by
  refine T.r_tie_from.have sc_tie_from (fun vs H Q E z => ?_) ?_
  · obtain ⟨v, r, p, rfl, _⟩ := z; rfl
  · intro f cdv A' outer s H vs Q E hr z
    obtain ⟨v, r, p, rfl, ⟨a, tv, rfl, ha, ht⟩, q⟩ := z
    refine ⟨_, (pss_cons (ps_set (i := 2) sc_tie_from.nd rfl (Or.inl rfl) (pe_ix ix_tup (pvM 0) pe_int (fun _ _ => rfl)))
      (pss_cons (ps_if (pt_cmpR op_isN (pvM 2) pe_non (nomark _)) (pss_one (ps_ret pe_non)) pss_nil)
      (pss_one (ps_ret (pe_tup (pa_cons (pe_ix ix_tup (pvM 2) pe_int (fun _ _ => rfl)) (pa_cons (pe_op op_sub (pe_op op_add (pe_ix ix_tup (pvM 2) pe_int (fun _ _ => rfl)) (pvM 1)) (pe_ix ix_tup (pvM 0) pe_int (fun _ _ => rfl))) pa_nil))))))), ?_⟩
    walk_at "wp"
    refine ⟨_, SqT.of ha, _, rfl, ?_⟩
    cases e : r.t with
    | none =>
      rw [e] at ht
      have ht : tv = .non := ht
      subst ht
      rw [if_pos rfl]
      refine q _ _ same_refl ?_
      unfold tf
      rw [e]
      rfl
    | some t =>
      obtain ⟨b, k⟩ := t
      rw [e] at ht
      obtain ⟨c, rfl, hc⟩ := ht
      rw [if_neg (fun z => nomatch z)]
      walk_at "wp"
      refine ⟨_, SqT.of hc, _, rfl, _, SqT.of hc, _, rfl, _, rfl, _, SqT.of ha, _, rfl, _, rfl, fun p2 hp2 => ?_⟩
      refine q _ _ (same_upd same_refl hp2) ?_
      unfold tf
      rw [e]
      exact ⟨p2, rfl, upd_same⟩
def sp_part_of (K : PySem.W.Frag) : Sp := fun vs H Q _ => ∃ v r lo hi, vs = [v, .int lo, .int hi] ∧ RunAt H v r ∧ ∀ u H', Same H H' → RunAt H' u (poR r lo hi) → Q u H'
theorem h_part_of (T : Txt K mg A) : Have P w K mg base "part_of" 2 ["run", "low", "high"] [] (sp_part_of K) := by
  have H_end_of := h_end_of (P := P) (w := w) (base := base) T
  have H_tie_from := h_tie_from (P := P) (w := w) (base := base) T
  refine T.r_part_of.have sc_part_of (fun vs H Q E z => ?_) ?_
  · obtain ⟨v, r, lo, hi, rfl, _⟩ := z; rfl
  · intro f cdv A' outer s H vs Q E hr z
    obtain ⟨v, r, lo, hi, rfl, hR, q⟩ := z
    obtain ⟨a, tv, rfl, ha, ht⟩ := id hR
    refine ⟨_, (pss_cons (ps_set (i := 3) sc_part_of.nd rfl (Or.inl rfl) (pe_callB (call_max2 rfl) rfl T.b_max PyProof.Rows.boot_max (pa_cons (pe_ix ix_tup (pvM 0) pe_int (fun _ _ => rfl)) (pa_cons (pvM 1) pa_nil))))
      (pss_one (ps_ret (pe_tup (pa_cons (pvM 3) (pa_cons (pe_op op_sub (pe_callB (call_min2 rfl) rfl T.b_min PyProof.Rows.boot_min (pa_cons (pe_callE H_end_of (hr.mono (by decide)) xw_def (pa_cons (pvM 0) pa_nil)) (pa_cons (pvM 2) pa_nil))) (pvM 3)) (pa_cons (pe_ix ix_tup (pvM 0) pe_int (fun _ _ => rfl)) (pa_cons (pe_callE H_tie_from (hr.mono (by decide)) xw_def (pa_cons (pvM 0) (pa_cons (pvM 3) pa_nil))) pa_nil)))))))), ?_⟩
    unfold sp_end_of sp_tie_from
    walk_at "wp"
    refine ⟨_, SqT.of ha, _, rfl, _, rfl, r, hR, _, SqT.of ha, _, rfl, r, hR, fun u H1 s1 hu p hp => ?_⟩
    have e1 : (if lo > r.f then lo else r.f) = max r.f lo := by split <;> omega
    have e2 : (if hi < enR r then hi else enR r) = min (enR r) hi := by split <;> omega
    rw [e1, e2]
    rw [e1] at hu
    refine q _ _ (same_upd s1 hp) ⟨p, u, rfl, upd_same, ?_⟩
    exact hu.same (same_upd same_refl hp)
theorem eq_ties {H : Hp} {u v : V} {t1 t2 : Option (Int × Int)} {Q : VK} (h1 : TieAt H u t1) (h2 : TieAt H v t2) (q : Q (.bl (decide (t1 = t2))) H) : rEqN K 4 u v H Q := by
  cases t1 with
  | none =>
    cases t2 with
    | none => exact .inl ⟨h1, h2, q⟩
    | some t2 =>
      obtain ⟨b, k⟩ := t2
      obtain ⟨a, e, h2⟩ := h2
      exact .inr (.inl ⟨h1, ⟨a, _, e, SqT.of h2⟩, q⟩)
  | some t1 =>
    obtain ⟨b, k⟩ := t1
    obtain ⟨a, e, h1⟩ := h1
    cases t2 with
    | none => exact .inr (.inr (.inl ⟨⟨a, _, e, SqT.of h1⟩, h2, q⟩))
    | some t2 =>
      obtain ⟨b2, k2⟩ := t2
      obtain ⟨a2, e2, h2⟩ := h2
      subst e e2
      refine .inr (.inr (.inr ⟨true, dInts [b, k], dInts [b2, k2], sees_tup (ns := [b, k]) (SqT.of h1), sees_tup (ns := [b2, k2]) (SqT.of h2), alike_ints _ _, by rw [deep_ints]; decide, ?_⟩))
      rw [eq_ints]
      rw [show decide ([b, k] = [b2, k2]) = decide (some (b, k) = some (b2, k2)) from by rw [decide_eq_decide]; simp]
      exact q
def sp_goes_on (K : PySem.W.Frag) : Sp := fun vs H Q _ => ∃ v u r s, vs = [v, u] ∧ RunAt H v r ∧ RunAt H u s ∧ ∀ H', Same H H' → Q (.bl (go r s)) H'
theorem h_goes_on (T : Txt K mg A) : Have P w K mg base "goes_on" 2 ["run", "later"] [] (sp_goes_on K) := by
  have H_end_of := h_end_of (P := P) (w := w) (base := base) T
  have H_tie_from := h_tie_from (P := P) (w := w) (base := base) T
  refine T.r_goes_on.have sc_goes_on (fun vs H Q E z => ?_) ?_
  · obtain ⟨v, u, r, s, rfl, _⟩ := z; rfl
  · intro f cdv A' outer s H vs Q E hr z
    obtain ⟨v, u, r, s', rfl, hR, hS, q⟩ := z
    obtain ⟨a, tv, rfl, ha, ht⟩ := id hR
    obtain ⟨b, uv, rfl, hb, hu⟩ := id hS
    refine ⟨_, (pss_one (ps_ret (pe_and (pe_cmpR op_eq (pe_callE H_end_of (hr.mono (by decide)) xw_def (pa_cons (pvM 0) pa_nil)) (pe_ix ix_tup (pvM 1) pe_int (fun _ _ => rfl)) (nomark _)) (pe_and (pe_cmpR op_eq (pe_ix ix_tup (pvM 0) pe_int (fun _ _ => rfl)) (pe_ix ix_tup (pvM 1) pe_int (fun _ _ => rfl)) (nomark _)) (pe_one (pe_cmpR (op_eqN (n := 4) (hu6 hr)) (pe_callE H_tie_from (hr.mono (by decide)) xw_def (pa_cons (pvM 0) (pa_cons (pe_ix ix_tup (pvM 1) pe_int (fun _ _ => rfl)) pa_nil))) (pe_ix ix_tup (pvM 1) pe_int (fun _ _ => rfl)) (nomark _))))))), ?_⟩
    unfold sp_end_of sp_tie_from
    walk_at "wp"
    refine ⟨r, hR, _, SqT.of hb, .int s'.f, rfl, rfl, ?_⟩
    by_cases c1 : enR r = s'.f
    · rw [if_pos (by rw [c1])]
      refine ⟨_, SqT.of ha, .int r.r, rfl, _, SqT.of hb, .int s'.r, rfl, rfl, ?_⟩
      by_cases c2 : r.r = s'.r
      · rw [if_pos (by rw [c2])]
        refine ⟨_, SqT.of hb, _, rfl, r, _, rfl, hR, fun u H1 s1 hu1 => ⟨_, SqT.of (s1 _ _ hb), uv, rfl, eq_ties hu1 (hu.same s1) ?_⟩⟩
        have e : go r s' = decide (tf r s'.f = s'.t) := by unfold go; rw [decide_eq_true c1, decide_eq_true c2, Bool.true_and, Bool.true_and]
        have := q _ s1
        rw [e] at this
        exact this
      · rw [if_neg (fun z => c2 (V.int.inj z))]
        have e : go r s' = false := by unfold go; rw [decide_eq_false c2, Bool.and_false, Bool.false_and]
        have := q _ same_refl
        rw [e] at this
        exact this
    · rw [if_neg (fun z => c1 (V.int.inj z))]
      have e : go r s' = false := by unfold go; rw [decide_eq_false c1, Bool.false_and, Bool.false_and]
      have := q _ same_refl
      rw [e] at this
      exact this
theorem prd_snoc {α β : Type} {F : α → β → Prop} {y : β} : ∀ {ys : List β} {xs : List α}, Paired F xs (ys ++ [y]) → ∃ zs z, xs = zs ++ [z] ∧ Paired F zs ys ∧ F z y
  | [], _, .cons r .nil => ⟨[], _, rfl, .nil, r⟩
  | _ :: _, _, .cons r t => by
    obtain ⟨zs, z, e, h1, h2⟩ := prd_snoc t
    exact ⟨_ :: zs, z, by rw [e]; rfl, .cons r h1, h2⟩
theorem jn_len : ∀ (l acc : List Rn), (l.foldl jstep acc).length ≤ acc.length + l.length
  | [], acc => Nat.le_refl _
  | r :: l, acc => by
    rw [List.foldl_cons]
    refine Nat.le_trans (jn_len l _) ?_
    have : (jstep acc r).length ≤ acc.length + 1 := by
      unfold jstep
      cases h : acc.getLast? with
      | none => simp
      | some x =>
        simp only
        split
        · rw [List.length_append, List.length_dropLast, List.length_singleton]
          cases acc with
          | nil => cases h
          | cons a acc => simp
        · simp
    rw [List.length_cons]
    omega
theorem jstep_no {acc : List Rn} {l r : Rn} (h : go l r = false) : jstep (acc ++ [l]) r = acc ++ [l] ++ [r] := by
  unfold jstep
  rw [List.getLast?_concat]
  show (if go l r = true then _ else _) = _
  rw [h]; rfl
theorem jstep_yes {acc : List Rn} {l r : Rn} (h : go l r = true) : jstep (acc ++ [l]) r = acc ++ [⟨l.f, l.m + r.m, l.r, l.t⟩] := by
  unfold jstep
  rw [List.getLast?_concat]
  show (if go l r = true then _ else _) = _
  rw [if_pos h, List.dropLast_concat]
def sp_joined (K : PySem.W.Frag) : Sp := fun vs H Q _ => ∃ (a : Addr) (ws : List V) (rs : List Rn), vs = [.ref a] ∧ SqL K H a ws ∧ RunsAt H ws rs ∧ rs.length ≤ 1000000 ∧ ∀ t us H', Same H H' → H t = none → H' t = some (.lst us) → RunsAt H' us (jn rs) → Q (.ref t) H'
theorem h_joined (T : Txt K mg A) : Have P w K mg base "joined" 3 ["runs"] [] (sp_joined K) := by
  have H_goes_on := h_goes_on (P := P) (w := w) (base := base) T
  refine T.r_joined.have sc_joined (fun vs H Q E z => ?_) ?_
  · obtain ⟨a, ws, rs, rfl, _⟩ := z; rfl
  · intro f cdv A' outer s H vs Q E hr z
    obtain ⟨a, ws, rs, rfl, ha, hR, hlen, q⟩ := z
    refine ⟨_, (pss_cons (ps_set (i := 1) sc_joined.nd rfl (Or.inl rfl) (pe_lst pa_nil))
      (pss_cons (ps_forE PassesOwn.leaving rfl (pi_list (pvM 0)) (pg_name (i := 2) sc_joined.nd rfl (Or.inl rfl)) (pss_one (ps_if (PW.pt (pw_and (pt_cmpR op_gt (pe_callB call_len rfl T.b_len PySem.boot_len (pa_cons (pvM 1) pa_nil)) pe_int (nomark _)) (pw_and1 (pt_val (pe_callE H_goes_on (hr.mono (by decide)) xw_def (pa_cons (pe_ix ix_list (pvM 1) (pe_un op_neg pe_int) (fun _ _ => rfl)) (pa_cons (pvM 2) pa_nil))))))) (pss_cons (ps_set (i := 3) sc_joined.nd rfl (Or.inl rfl) (pe_bm0 PySem.F.plainAttrs_list PySem.F.slot_list_pop PySem.F.type_list_pop mt_pop (pvM 1)))
      (pss_one (ps_expr (pe_bm PySem.F.plainAttrs_list PySem.F.slot_list_append PySem.F.type_list_append mt_append (pvM 1) (pa_cons (pe_tup (pa_cons (pe_ix ix_tup (pvM 3) pe_int (fun _ _ => rfl)) (pa_cons (pe_op op_add (pe_ix ix_tup (pvM 3) pe_int (fun _ _ => rfl)) (pe_ix ix_tup (pvM 2) pe_int (fun _ _ => rfl))) (pa_cons (pe_ix ix_tup (pvM 3) pe_int (fun _ _ => rfl)) (pa_cons (pe_ix ix_tup (pvM 3) pe_int (fun _ _ => rfl)) pa_nil))))) pa_nil))))) (pss_one (ps_expr (pe_bm PySem.F.plainAttrs_list PySem.F.slot_list_append PySem.F.type_list_append mt_append (pvM 1) (pa_cons (pvM 2) pa_nil)))))))
      (pss_one (ps_ret (pvM 1))))), ?_⟩
    unfold sp_goes_on
    walk_at "wp"
    intro t ht
    have sm0 := same_upd (o := .lst []) same_refl ht
    have hwl : ws.length = rs.length := Paired.length hR
    refine ⟨⟨_, sm0.seq ha⟩, loop_list (xs := ws) (fun i σ H' => ∃ us v2 v3, σ = [some (.ref a), some (.ref t), v2, v3] ∧ Same H H' ∧ H' t = some (.lst us) ∧ RunsAt H' us ((rs.take i).foldl jstep [])) ⟨[], _, _, rfl, sm0, upd_same, .nil⟩ (fun i σ H' _ ⟨_, _, _, _, e, _⟩ => e.seq ha) (fun i x σ H' hi => ?_) (fun σ H' => ?_)⟩
    · rintro ⟨us, v2, v3, rfl, sm, ht', hU⟩
      obtain ⟨r, hr1, hr2⟩ := prd_get hR hi
      have hrx := hr2.same sm
      have htk : rs.take (i + 1) = rs.take i ++ [r] := by rw [List.take_add_one, hr1]; rfl
      have hul : us.length ≤ i := by
        have h1 := Paired.length hU
        have h2 := jn_len (rs.take i) []
        rw [List.length_take] at h2
        simp only [List.length_nil] at h2
        omega
      have hil : i < rs.length := (List.getElem?_eq_some_iff.mp hr1).1
      rw [htk, List.foldl_append, List.foldl_cons, List.foldl_nil]
      generalize (rs.take i).foldl jstep [] = acc at *
      walk_at "wp"
      refine ⟨us.length, .inl ⟨_, SqL.of ht', rfl⟩, ?_⟩
      rcases hacc : acc.getLast? with _ | l
      · have e0 : acc = [] := List.getLast?_eq_none_iff.mp hacc
        subst e0
        cases hU
        rw [if_neg (show ¬ (0 : Int) < (([] : List V).length : Int) from fun z => absurd z (by decide))]
        refine iteF ⟨.inl ⟨rfl, _, SqL.of ht'⟩, _, ht', by show 0 < 16777216; decide, same_put sm ht, _, rfl, ?_⟩
        exact .cons (hrx.same2 ht' sm) .nil
      · obtain ⟨acc0, rfl⟩ := snoc_of hacc
        obtain ⟨us0, y, rfl, hU0, hy⟩ := prd_snoc hU
        have hpos : (0 : Int) < ((us0 ++ [y]).length : Int) := by rw [List.length_append, List.length_singleton]; omega
        rw [if_pos hpos]
        refine ⟨_, SqL.of ht', y, ?_, l, hy, r, hrx, fun H1 s1 => ?_⟩
        · unfold atI ixN
          rw [if_neg (by decide), if_pos (by rw [List.length_append, List.length_singleton]; omega)]
          show (us0 ++ [y])[(-1 + ((us0 ++ [y]).length : Int)).toNat]? = some y
          rw [List.length_append, List.length_singleton, show (-1 + ((us0.length + 1 : Nat) : Int)).toNat = us0.length by omega, List.getElem?_append_right (Nat.le_refl _), Nat.sub_self]
          rfl
        have ht1 := s1 _ _ ht'
        have sm1 := sm.trans s1
        cases hg : go l r with
        | true =>
          refine iteT ⟨.inl ⟨rfl, _, SqL.of ht1⟩, _, ht1, y, by rw [List.length_append, List.length_singleton, Nat.add_sub_cancel, List.getElem?_append_right (Nat.le_refl _), Nat.sub_self]; rfl, ?_⟩
          rw [List.dropLast_concat]
          have hy2 : RunAt (upd H1 t (.lst us0)) y l := (hy.same s1).same2 ht1 sm1
          have hx2 : RunAt (upd H1 t (.lst us0)) x r := (hrx.same s1).same2 ht1 sm1
          obtain ⟨c, cv, rfl, hc, hcv⟩ := id hy2
          obtain ⟨d, dv, rfl, hd, hdv⟩ := id hx2
          walk_at "wp"
          refine ⟨.inl ⟨rfl, _, SqL.of upd_same⟩, _, SqT.of hc, _, rfl, _, SqT.of hc, _, rfl, _, SqT.of hd, _, rfl, _, rfl, _, rfl, _, SqT.of hc, _, rfl, _, SqT.of hc, _, rfl, fun e he => ?_⟩
          have se := same_upd (o := .tup [V.int l.f, V.int (l.m + r.m), V.int l.r, cv]) same_refl he
          have hte := se _ _ (upd_same (H := H1) (a := t) (o := .lst us0))
          have sme := same_upd (o := .tup [V.int l.f, V.int (l.m + r.m), V.int l.r, cv]) (same_put (o := .lst us0) sm1 ht) he
          refine ⟨us0, hte, by rw [List.length_append, List.length_singleton] at hul; omega, same_put sme ht, _, rfl, ?_⟩
          rw [jstep_yes hg]
          refine prd_app (RunsAt.same2 (RunsAt.same (RunsAt.same2 (RunsAt.same hU0 s1) ht1 sm1) se) hte sme) (.cons ?_ .nil)
          exact RunAt.same2 (⟨e, cv, rfl, upd_same, hcv.same se⟩ : RunAt _ (.ref e) ⟨l.f, l.m + r.m, l.r, l.t⟩) hte sme
        | false =>
          refine iteF ⟨.inl ⟨rfl, _, SqL.of ht1⟩, _, ht1, by rw [List.length_append, List.length_singleton] at *; omega, same_put sm1 ht, _, rfl, ?_⟩
          rw [jstep_no hg]
          exact prd_app (prd_app (RunsAt.same2 (RunsAt.same hU0 s1) ht1 sm1) (.cons ((hy.same s1).same2 ht1 sm1) .nil)) (.cons ((hrx.same s1).same2 ht1 sm1) .nil)
    · rintro ⟨us, v2, v3, rfl, sm, ht', hU⟩
      walk_at "wp"
      rw [hwl, List.take_length] at hU
      exact q _ _ _ sm ht ht' hU

def stF (a : Addr) : List (Str × V) := putF "runs" (.ref a) []
theorem stF_runs {a : Addr} : (stF a).lookup ("runs" : Str) = some (.ref a) := by rfl
theorem stF_no {a : Addr} {m : Str} (h : ¬ m ∈ (["runs"] : List Str)) : (stF a).lookup m = none := by
  simp only [List.mem_cons, List.not_mem_nil, or_false] at h
  unfold stF
  simp only [lookup_putF, h, if_false]
  rfl
def StAt (C : Addr) (H : Hp) (p a : Addr) (rs : List Rn) : Prop := ∃ dx vs, H p = some (.ins C dx (stF a)) ∧ H a = some (.lst vs) ∧ RunsAt H vs rs
theorem StAt.same {C : Addr} {H H' : Hp} {p a : Addr} {rs : List Rn} (h : StAt C H p a rs) (s : Same H H') : StAt C H' p a rs := let ⟨dx, vs, h1, h2, h3⟩ := h; ⟨dx, vs, s _ _ h1, s _ _ h2, RunsAt.same h3 s⟩
def sp_place (K : PySem.W.Frag) (C : Addr) : Sp := fun vs H Q _ => ∃ (p a : Addr) (rs : List Rn) (x : Int), vs = [.ref p, .int x] ∧ StAt C H p a rs ∧ OrdR rs ∧ rs.length ≤ 1000000 ∧ Q (.int (pb rs x)) H
theorem h_place (T : Txt K mg A) : HaveM P w K mg base A.C_Stretches "place_behind" 2 ["self", "page"] [] (sp_place K A.C_Stretches) := by
  have H_end_of := h_end_of (P := P) (w := w) (base := base) T
  refine T.r_Stretches_place_behind.have sc_Stretches_place_behind (fun vs H Q E z => ?_) ?_
  · obtain ⟨p, a, rs, x, rfl, _⟩ := z; rfl
  · intro f cdv A' outer s H vs Q E hr z
    obtain ⟨p, a, rs, x, rfl, ⟨dx, vs, h1, h2, h3⟩, ho, hlen, q⟩ := z
    refine ⟨_, (pss_cons (ps_set (i := 2) sc_Stretches_place_behind.nd rfl (Or.inl rfl) pe_int)
      (pss_cons (ps_set (i := 3) sc_Stretches_place_behind.nd rfl (Or.inl rfl) (pe_callB call_len rfl T.b_len PySem.boot_len (pa_cons (pe_fld (pvM 0) rfl) pa_nil)))
      (pss_cons (ps_whileE PassesOwn.leaving (pt_cmpR op_lt (pvM 2) (pvM 3) (nomark _)) (pss_cons (ps_set (i := 4) sc_Stretches_place_behind.nd rfl (Or.inl rfl) (pe_op op_fdiv (pe_op op_add (pvM 2) (pvM 3)) pe_int))
      (pss_one (ps_if (pt_cmpR op_gt (pe_callE H_end_of (hr.mono (by decide)) xw_def (pa_cons (pe_ix ix_list (pe_fld (pvM 0) rfl) (pvM 4) (fun _ _ => rfl)) pa_nil)) (pvM 1) (nomark _)) (pss_one (ps_set (i := 3) sc_Stretches_place_behind.nd rfl (Or.inl rfl) (pvM 4))) (pss_one (ps_set (i := 2) sc_Stretches_place_behind.nd rfl (Or.inl rfl) (pe_op op_add (pvM 4) pe_int)))))))
      (pss_one (ps_ret (pvM 2)))))), ?_⟩
    have hvl : vs.length = rs.length := Paired.length h3
    unfold sp_end_of
    walk_at "wp"
    simp only [h1]
    walk_at "wp"
    refine ⟨T.cl_Stretches, T.na_Stretches_runs, _, stF_runs, vs.length, .inl ⟨_, SqL.of h2, rfl⟩, ?_⟩
    refine loop_while (fun mm σ H' => ∃ (lo hi : Nat) (v4 : Option V), mm = hi - lo ∧ σ = [some (.ref p), some (.int x), some (.int lo), some (.int hi), v4] ∧ H' = H ∧ lo ≤ pb rs x ∧ pb rs x ≤ hi ∧ hi ≤ rs.length) vs.length ⟨0, vs.length, _, rfl, rfl, rfl, Nat.zero_le _, by rw [hvl]; exact pb_le, by omega⟩ (fun mm σ H' => ?_)
    rintro ⟨lo, hi, v4, rfl, rfl, rfl, k1, k2, k3⟩
    walk_at "wp"
    by_cases c : (lo : Int) < (hi : Int)
    · rw [if_pos c]
      refine turnW ?_
      walk_at "wp"
      have hmid : (lo + hi) / 2 < vs.length := by omega
      obtain ⟨r, hr1, hr2⟩ := prd_get h3 (List.getElem?_eq_getElem hmid)
      have hat := atI_nat (List.getElem?_eq_getElem hmid)
      have em : ((lo : Int) + (hi : Int)) / 2 = (((lo + hi) / 2 : Nat) : Int) := by omega
      have hpb := pb_at ho (p := x) hr1
      rw [em]
      refine ⟨_, dx, _, h1, T.cl_Stretches, T.na_Stretches_runs, _, stF_runs, a, rfl, _, SqL.of h2, _, hat, r, hr2, ?_⟩
      by_cases c2 : x < enR r
      · rw [if_pos c2]
        have : ¬ (lo + hi) / 2 < pb rs x := fun z => by have := hpb.mp z; omega
        refine ⟨(lo + hi) / 2 - lo, by omega, lo, (lo + hi) / 2, ?_⟩
        first
          | exact ⟨rfl, rfl, rfl, k1, by omega, by omega⟩
          | exact ⟨rfl, k1, by omega, by omega⟩
          | (trace_state; exact ⟨rfl, rfl, k1, by omega, by omega⟩)
      · rw [if_neg c2]
        have : (lo + hi) / 2 < pb rs x := hpb.mpr (by omega)
        refine ⟨hi - ((lo + hi) / 2 + 1), by omega, (lo + hi) / 2 + 1, hi, ?_⟩
        first
          | exact ⟨rfl, rfl, rfl, by omega, k2, k3⟩
          | exact ⟨rfl, by omega, k2, k3⟩
          | (trace_state; exact ⟨rfl, by omega, rfl, by omega, k2, k3⟩)
    · rw [if_neg c]
      have e : pb rs x = lo := by omega
      rw [e] at q
      exact q

theorem cutV_nat {xs : List V} {lo hi : Nat} : cutV xs (some (lo : Int)) (some (hi : Int)) = (xs.take hi).drop lo := by
  unfold cutV
  show (xs.drop (if (lo : Int) < 0 then ((lo : Int) + (xs.length : Int)).toNat else min (lo : Int).toNat xs.length)).take ((if (hi : Int) < 0 then ((hi : Int) + (xs.length : Int)).toNat else min (hi : Int).toNat xs.length) - (if (lo : Int) < 0 then ((lo : Int) + (xs.length : Int)).toNat else min (lo : Int).toNat xs.length)) = _
  rw [if_neg (by omega), if_neg (by omega), Int.toNat_natCast, Int.toNat_natCast, List.drop_take]
  refine List.ext_getElem? fun k => ?_
  rw [List.getElem?_take, List.getElem?_take, List.getElem?_drop, List.getElem?_drop]
  by_cases h1 : k < hi - lo
  · rw [if_pos h1]
    by_cases h2 : k < min hi xs.length - min lo xs.length
    · rw [if_pos h2, Nat.min_eq_left (by omega)]
    · rw [if_neg h2, List.getElem?_eq_none_iff.mpr (by omega)]
  · rw [if_neg h1]
    by_cases h2 : k < min hi xs.length - min lo xs.length
    · rw [if_pos h2, List.getElem?_eq_none_iff.mpr (by omega)]
    · rw [if_neg h2]
theorem cutV_to {xs : List V} {hi : Nat} : cutV xs none (some (hi : Int)) = xs.take hi := by
  unfold cutV
  show (xs.drop 0).take ((if (hi : Int) < 0 then ((hi : Int) + (xs.length : Int)).toNat else min (hi : Int).toNat xs.length) - 0) = _
  rw [if_neg (by omega), Int.toNat_natCast, List.drop_zero, Nat.sub_zero]
  rcases Nat.le_total hi xs.length with h | h
  · rw [Nat.min_eq_left h]
  · rw [Nat.min_eq_right h, List.take_length, List.take_of_length_le h]
theorem cutV_from {xs : List V} {lo : Nat} : cutV xs (some (lo : Int)) none = xs.drop lo := by
  unfold cutV
  show (xs.drop (if (lo : Int) < 0 then ((lo : Int) + (xs.length : Int)).toNat else min (lo : Int).toNat xs.length)).take (xs.length - (if (lo : Int) < 0 then ((lo : Int) + (xs.length : Int)).toNat else min (lo : Int).toNat xs.length)) = _
  rw [if_neg (by omega), Int.toNat_natCast]
  rcases Nat.le_total lo xs.length with h | h
  · rw [Nat.min_eq_left h]
    exact List.take_of_length_le (by rw [List.length_drop]; omega)
  · rw [Nat.min_eq_right h, Nat.sub_self, List.take_zero, List.drop_eq_nil_of_le h]
def sp_parts (K : PySem.W.Frag) (C : Addr) : Sp := fun vs H Q _ => ∃ (p a : Addr) (rs : List Rn) (x n : Int), vs = [.ref p, .int x, .int n] ∧ StAt C H p a rs ∧ OrdR rs ∧ rs.length ≤ 1000000 ∧ ∀ t us H', Same H H' → H t = none → H' t = some (.lst us) → RunsAt H' us (pam rs x n) → Q (.ref t) H'
theorem h_parts (T : Txt K mg A) : HaveM P w K mg base A.C_Stretches "parts_amid" 4 ["self", "first", "many"] [] (sp_parts K A.C_Stretches) := by
  have H_part_of := h_part_of (P := P) (w := w) (base := base) T
  have H_Stretches_place_behind := h_place (P := P) (w := w) (base := base) T
  refine T.r_Stretches_parts_amid.have sc_Stretches_parts_amid (fun vs H Q E z => ?_) ?_
  · obtain ⟨p, a, rs, x, n, rfl, _⟩ := z; rfl
  · intro f cdv A' outer s H vs Q E hr z
    obtain ⟨p, a, rs, x, n, rfl, hS, ho, hlen, q⟩ := z
    obtain ⟨dx, vs, h1, h2, h3⟩ := id hS
    refine ⟨_, (pss_cons (ps_set (i := 3) sc_Stretches_parts_amid.nd rfl (Or.inr rfl) (pe_op op_add (pvM 1) (pvM 2)))
      (pss_cons (ps_set (i := 4) sc_Stretches_parts_amid.nd rfl (Or.inl rfl) (pe_slice sl_list (pe_fld (pvM 0) rfl) (po_some (pe_methE (pvM 0) T.cl_Stretches H_Stretches_place_behind (hr.mono (by decide)) xw_def (pa_cons (pvM 1) pa_nil))) (po_some (pe_op op_add (pe_methE (pvM 0) T.cl_Stretches H_Stretches_place_behind (hr.mono (by decide)) xw_def (pa_cons (pvM 3) pa_nil)) pe_int))))
      (pss_one (ps_ret (pe_comp rfl (pi_list (pvM 4)) (x := "run") (fs := ["first", "end"]) (ix := [1, 3]) rfl rfl (fun _ _ _ _ _ _ => (pg_name (i := 0) (show (["run", "first", "end"] : List Str).Nodup by decide +kernel) rfl (Or.inl rfl))) (fun _ _ _ _ _ _ => (pf_one (pt_cmpR op_lt (pe_ix (ix_tupC (K := K) rfl) (pvM 0) pe_int (fun _ _ => rfl)) (pvM 2) (nomark _)))) (fun _ _ _ _ _ _ => (pe_callE H_part_of (hr.mono (by decide)) xw_no (pa_cons (pvM 0) (pa_cons (pvM 1) (pa_cons (pvM 2) pa_nil)))))))))), ?_⟩
    unfold sp_part_of sp_place
    walk_at "wp"
    simp only [h1]
    walk_at "wp"
    refine ⟨T.cl_Stretches, T.na_Stretches_runs, _, stF_runs, stF_no (by decide +kernel), a, rs, hS, ho, hlen, stF_no (by decide +kernel), a, rs, hS, ho, hlen, ?_⟩
    refine ⟨a, rfl, _, SqL.of h2, fun sl hsl => ⟨⟨_, SqL.of upd_same⟩, ?_⟩⟩
    have ecut : cutV vs (some ((pb rs x : Nat) : Int)) (some (((pb rs (x + n) : Nat) : Int) + 1)) = (vs.take (pb rs (x + n) + 1)).drop (pb rs x) := cutV_nat (hi := pb rs (x + n) + 1)
    rw [ecut]
    have hnear : RunsAt H ((vs.take (pb rs (x + n) + 1)).drop (pb rs x)) (cutR rs (pb rs x) (pb rs (x + n) + 1)) := prd_drop _ (prd_take _ h3)
    have q' : ∀ t us H', Same H H' → H t = none → H' t = some (.lst us) → RunsAt H' us (((cutR rs (pb rs x) (pb rs (x + n) + 1)).filter fun r => decide (r.f < x + n)).map fun r => poR r x (x + n)) → Q (.ref t) H' := q
    have hnl : (cutR rs (pb rs x) (pb rs (x + n) + 1)).length ≤ 1000000 := by
      unfold cutR
      rw [List.length_drop, List.length_take]
      omega
    generalize (vs.take (pb rs (x + n) + 1)).drop (pb rs x) = nv at *
    generalize cutR rs (pb rs x) (pb rs (x + n) + 1) = near at *
    intro D hD
    have s1 := same_upd (o := .lst nv) same_refl hsl
    have hnvl : nv.length = near.length := Paired.length hnear
    refine comp_list (xs := nv) (fun i ys σ H' => ∃ v, σ = [v, some (.int x), some (.int (x + n))] ∧ Same (upd H sl (.lst nv)) H' ∧ H' D = some (.lst ys) ∧ RunsAt H' ys (((near.take i).filter fun r => decide (r.f < x + n)).map fun r => poR r x (x + n))) ⟨_, rfl, same_upd same_refl hD, upd_same, .nil⟩ (fun i ys σ H' _ ⟨_, _, s2, _⟩ => SqL.of (s2 _ _ upd_same)) (fun i v ys σ H' hi => ?_) (fun ys σ H' => ?_)
    · rintro ⟨v0, rfl, s2, hDD, hys⟩
      obtain ⟨r, hr1, hr2⟩ := prd_get hnear hi
      have hrx := hr2.same (s1.trans s2)
      have htk : near.take (i + 1) = near.take i ++ [r] := by rw [List.take_add_one, hr1]; rfl
      have hil : i < near.length := (List.getElem?_eq_some_iff.mp hr1).1
      have hyl : ys.length ≤ i := by
        have h4 := Paired.length hys
        rw [List.length_map] at h4
        have h5 := List.length_filter_le (fun r : Rn => decide (r.f < x + n)) (near.take i)
        rw [List.length_take] at h5
        omega
      rw [htk, List.filter_append, List.map_append]
      obtain ⟨c, cv, rfl, hc, hcv⟩ := id hrx
      walk_at "wp"
      refine ⟨_, SqT.of hc, _, rfl, _, rfl, ?_⟩
      by_cases c1 : r.f < x + n
      · rw [if_pos c1]
        refine ⟨r, hrx, fun u H2 s3 hu => ?_⟩
        have hD2 := s3 _ _ hDD
        have hu2 : RunAt (upd H2 D (.lst (ys ++ [u]))) u (poR r x (x + n)) := RunAt.same2 (H := H2) hu hD2 same_refl
        have hys2 : RunsAt (upd H2 D (.lst (ys ++ [u]))) ys (((near.take i).filter fun r => decide (r.f < x + n)).map fun r => poR r x (x + n)) := RunsAt.same2 (H := H2) (RunsAt.same hys s3) hD2 same_refl
        refine ⟨hD2, by omega, same_put (s2.trans s3) hD, ?_⟩
        have ef : [r].filter (fun r => decide (r.f < x + n)) = [r] := by rw [List.filter_cons, decide_eq_true c1]; rfl
        rw [ef]
        exact prd_app hys2 (.cons hu2 .nil)
      · rw [if_neg c1]
        have ef : [r].filter (fun r => decide (r.f < x + n)) = [] := by rw [List.filter_cons, decide_eq_false c1]; rfl
        rw [ef, List.map_nil, List.append_nil]
        exact ⟨s2, hDD, hys⟩
    · rintro ⟨v0, rfl, s2, hDD, hys⟩
      rw [hnvl, List.take_length] at hys
      exact q' _ _ _ (s1.trans s2) (same_none s1 hD) hDD hys

def sp_free (C : Addr) : Sp := fun vs H Q _ => ∃ (p a : Addr) (rs : List Rn) (x n : Int), vs = [.ref p, .int x, .int n] ∧ StAt C H p a rs ∧ OrdR rs ∧ rs.length ≤ 1000000 ∧ ∀ H', Same H H' → Q (.bl (decide (pam rs x n = []))) H'
theorem h_free (T : Txt K mg A) : HaveM P w K mg base A.C_Stretches "is_free" 5 ["self", "first", "many"] [] (sp_free A.C_Stretches) := by
  have H_Stretches_parts_amid := h_parts (P := P) (w := w) (base := base) T
  refine T.r_Stretches_is_free.have sc_Stretches_is_free (fun vs H Q E z => ?_) ?_
  · obtain ⟨p, a, rs, x, n, rfl, _⟩ := z; rfl
  · intro f cdv A' outer s H vs Q E hr z
    obtain ⟨p, a, rs, x, n, rfl, hS, ho, hlen, q⟩ := z
    obtain ⟨dx, vs, h1, h2, h3⟩ := id hS
    refine ⟨_, (pss_one (ps_ret (pe_cmpR op_eq (pe_callB call_len rfl T.b_len PySem.boot_len (pa_cons (pe_methE (pvM 0) T.cl_Stretches H_Stretches_parts_amid (hr.mono (by decide)) xw_def (pa_cons (pvM 1) (pa_cons (pvM 2) pa_nil))) pa_nil)) pe_int (nomark _)))), ?_⟩
    unfold sp_parts
    walk_at "wp"
    simp only [h1]
    walk_at "wp"
    refine ⟨stF_no (by decide +kernel), a, rs, hS, ho, hlen, fun t us H1 s1 ht0 ht hU => ⟨us.length, .inl ⟨_, SqL.of ht, rfl⟩, ?_⟩⟩
    have hl := Paired.length hU
    have e : decide ((us.length : Int) = 0) = decide (pam rs x n = []) := by
      rw [decide_eq_decide, ← List.length_eq_zero_iff, ← hl]
      omega
    rw [e]
    exact q _ s1
def sp_full (C : Addr) : Sp := fun vs H Q _ => ∃ (p a : Addr) (rs : List Rn) (x n : Int), vs = [.ref p, .int x, .int n] ∧ StAt C H p a rs ∧ OrdR rs ∧ rs.length ≤ 1000000 ∧ ∀ H', Same H H' → Q (.bl (decide (((pam rs x n).map (·.m)).sum = n))) H'
theorem h_full (T : Txt K mg A) : HaveM P w K mg base A.C_Stretches "is_full" 5 ["self", "first", "many"] [] (sp_full A.C_Stretches) := by
  have H_Stretches_parts_amid := h_parts (P := P) (w := w) (base := base) T
  refine T.r_Stretches_is_full.have sc_Stretches_is_full (fun vs H Q E z => ?_) ?_
  · obtain ⟨p, a, rs, x, n, rfl, _⟩ := z; rfl
  · intro f cdv A' outer s H vs Q E hr z
    obtain ⟨p, a, rs, x, n, rfl, hS, ho, hlen, q⟩ := z
    obtain ⟨dx, vs, h1, h2, h3⟩ := id hS
    refine ⟨_, (pss_one (ps_ret (pe_cmpR op_eq (pe_callB (call_sum rfl) rfl T.b_sum (by decide +kernel) (pa_cons (pe_comp rfl (pi_list (pe_methE (pvM 0) T.cl_Stretches H_Stretches_parts_amid (hr.mono (by decide)) xw_def (pa_cons (pvM 1) (pa_cons (pvM 2) pa_nil)))) (x := "part") (fs := []) (ix := []) rfl rfl (fun _ _ _ _ _ _ => (pg_name (i := 0) (show (["part"] : List Str).Nodup by decide +kernel) rfl (Or.inl rfl))) (fun _ _ _ _ _ _ => pf_nil) (fun _ _ _ _ _ _ => (pe_ix (ix_tupC (K := K) rfl) (pvM 0) pe_int (fun _ _ => rfl)))) pa_nil)) (pvM 2) (nomark _)))), ?_⟩
    unfold sp_parts
    walk_at "wp"
    simp only [h1]
    walk_at "wp"
    refine ⟨stF_no (by decide +kernel), a, rs, hS, ho, hlen, fun t us H1 s1 ht0 ht hU => ⟨⟨_, SqL.of ht⟩, fun D hD => ?_⟩⟩
    refine comp_list (xs := us) (fun i ys σ H' => ∃ v, σ = [v] ∧ Same H1 H' ∧ H' D = some (.lst ys) ∧ ys = (((pam rs x n).take i).map (·.m)).map V.int) ⟨_, rfl, same_upd same_refl hD, upd_same, rfl⟩ (fun i ys σ H' _ ⟨_, _, s2, _⟩ => SqL.of (s2 _ _ ht)) (fun i v ys σ H' hi => ?_) (fun ys σ H' => ?_)
    · rintro ⟨v0, rfl, s2, hDD, rfl⟩
      obtain ⟨r, hr1, hr2⟩ := prd_get hU hi
      obtain ⟨c, cv, rfl, hc, hcv⟩ := hr2.same s2
      have htk : (pam rs x n).take (i + 1) = (pam rs x n).take i ++ [r] := by rw [List.take_add_one, hr1]; rfl
      have hpl : (pam rs x n).length ≤ 1000000 := by
        unfold pam cutR
        rw [List.length_map]
        refine Nat.le_trans (List.length_filter_le _ _) ?_
        rw [List.length_drop, List.length_take]
        omega
      walk_at "wp"
      refine ⟨_, SqT.of hc, _, rfl, hDD, by rw [List.length_map, List.length_map, List.length_take]; omega, same_put s2 hD, ?_⟩
      rw [htk, List.map_append, List.map_append]; rfl
    · rintro ⟨v0, rfl, s2, hDD, rfl⟩
      rw [Paired.length hU, List.take_length] at hDD
      exact ⟨_, SqL.of hDD, q _ (s1.trans s2)⟩
def tiedTo (b : Int) (x : Rn) : Bool := match x.t with | none => false | some t => decide (t.1 = b)
def sp_tied (C : Addr) : Sp := fun vs H Q _ => ∃ (p a : Addr) (rs : List Rn) (b : Int), vs = [.ref p, .int b] ∧ StAt C H p a rs ∧ rs.length ≤ 1000000 ∧ ∀ H', Same H H' → Q (.bl (rs.any (tiedTo b))) H'
theorem h_tied (T : Txt K mg A) : HaveM P w K mg base A.C_Stretches "is_tied" 1 ["self", "bank"] [] (sp_tied A.C_Stretches) := by
  refine T.r_Stretches_is_tied.have sc_Stretches_is_tied (fun vs H Q E z => ?_) ?_
  · obtain ⟨p, a, rs, b, rfl, _⟩ := z; rfl
  · intro f cdv A' outer s H vs Q E hr z
    obtain ⟨p, a, rs, b, rfl, hS, hlen, q⟩ := z
    obtain ⟨dx, vs, h1, h2, h3⟩ := id hS
    refine ⟨_, (pss_one (ps_ret (pe_callB (call_any rfl) rfl T.b_any (by decide +kernel) (pa_cons (pe_comp rfl (pi_list (pe_fld (pvM 0) rfl)) (x := "run") (fs := ["bank"]) (ix := [1]) rfl rfl (fun _ _ _ _ _ _ => (pg_name (i := 0) (show (["run", "bank"] : List Str).Nodup by decide +kernel) rfl (Or.inl rfl))) (fun _ _ _ _ _ _ => pf_nil) (fun _ _ _ _ _ _ => (pe_and (pe_cmpR op_notN (pe_ix (ix_tupC (K := K) rfl) (pvM 0) pe_int (fun _ _ => rfl)) pe_non (nomark _)) (pe_one (pe_cmpR op_eq (pe_ix (ix_tupC (K := K) rfl) (pe_ix (ix_tupC (K := K) rfl) (pvM 0) pe_int (fun _ _ => rfl)) pe_int (fun _ _ => rfl)) (pvM 1) (nomark _)))))) pa_nil)))), ?_⟩
    walk_at "wp"
    simp only [h1]
    walk_at "wp"
    refine ⟨T.cl_Stretches, T.na_Stretches_runs, _, stF_runs, a, rfl, ⟨_, SqL.of h2⟩, fun D hD => ?_⟩
    refine comp_list (xs := vs) (fun i ys σ H' => ∃ v, σ = [v, some (.int b)] ∧ Same H H' ∧ H' D = some (.lst ys) ∧ ys = ((rs.take i).map (tiedTo b)).map V.bl) ⟨_, rfl, same_upd same_refl hD, upd_same, rfl⟩ (fun i ys σ H' _ ⟨_, _, s2, _⟩ => SqL.of (s2 _ _ h2)) (fun i v ys σ H' hi => ?_) (fun ys σ H' => ?_)
    · rintro ⟨v0, rfl, s2, hDD, rfl⟩
      obtain ⟨r, hr1, hr2⟩ := prd_get h3 hi
      obtain ⟨c, cv, rfl, hc, hcv⟩ := hr2.same s2
      have htk : rs.take (i + 1) = rs.take i ++ [r] := by rw [List.take_add_one, hr1]; rfl
      rw [htk, List.map_append, List.map_append]
      have hfin : ∀ k : Bool, k = tiedTo b r → H' D = some (.lst (((rs.take i).map (tiedTo b)).map V.bl)) ∧ (((rs.take i).map (tiedTo b)).map V.bl).length < 16777216 ∧ Same H (upd H' D (.lst (((rs.take i).map (tiedTo b)).map V.bl ++ [V.bl k]))) ∧ ((rs.take i).map (tiedTo b)).map V.bl ++ [V.bl k] = ((rs.take i).map (tiedTo b)).map V.bl ++ ([r].map (tiedTo b)).map V.bl := fun k e => by
        refine ⟨hDD, by rw [List.length_map, List.length_map, List.length_take]; omega, same_put s2 hD, ?_⟩
        rw [e]; rfl
      walk_at "wp"
      refine ⟨_, SqT.of hc, cv, rfl, ?_⟩
      cases e : r.t with
      | none =>
        rw [e] at hcv
        have hcv : cv = .non := hcv
        rw [hcv, decide_eq_true rfl]
        exact iteF (hfin false (by unfold tiedTo; rw [e]))
      | some t =>
        obtain ⟨b2, k2⟩ := t
        rw [e] at hcv
        obtain ⟨a2, rfl, h⟩ := hcv
        rw [decide_eq_false (fun z => nomatch z)]
        refine iteT ⟨_, SqT.of hc, _, rfl, a2, rfl, _, SqT.of h, .int b2, rfl, rfl, hfin _ ?_⟩
        unfold tiedTo
        rw [e]
        show decide (V.int b2 = V.int b) = decide (b2 = b)
        rw [decide_eq_decide]
        exact ⟨fun z => V.int.inj z, fun z => by rw [z]⟩
    · rintro ⟨v0, rfl, s2, hDD, rfl⟩
      rw [Paired.length h3, List.take_length] at hDD
      refine ⟨_, SqL.of hDD, ?_⟩
      rw [List.any_map]
      exact q _ s2
def sp_init (C : Addr) : Sp := fun vs H Q _ => ∃ (p dx : Addr), vs = [.ref p] ∧ H p = some (.ins C dx []) ∧ ∀ a, H a = none → Q .non (upd (upd H a (.lst [])) p (.ins C dx (stF a)))
theorem h_st_init (T : Txt K mg A) : HaveI P w K mg base "Stretches" A.C_Stretches 1 ["self"] [] (sp_init A.C_Stretches) := by
  refine T.r_Stretches_init.have sc_Stretches_init (fun vs H Q E z => ?_) ?_
  · obtain ⟨p, dx, rfl, _⟩ := z; rfl
  · intro f cdv A' outer s H vs Q E hr z
    obtain ⟨p, dx, rfl, hp, q⟩ := z
    refine ⟨_, (pss_one (ps_fld (pvM 0) (pe_lst pa_nil) rfl)), ?_⟩
    walk_at "wp"
    intro a ha
    have hpa : p ≠ a := ne_of_none hp ha
    refine ⟨_, dx, [], by rw [upd_ne hpa]; exact hp, T.cl_Stretches, T.na_Stretches_runs, by show 0 < 1000; decide, ?_⟩
    exact q a ha
def sp_cr (O : Addr) : Sp := fun vs H Q E => ∃ x : V, vs = [x] ∧ Kn H x ∧ if within x 0 3 = true then Q .non H else E (.ref O) none H
theorem h_cr (T : Txt K mg A) : Have P w K mg base "check_rights" 3 ["rights"] [] (sp_cr A.C_BadRights) := by
  have H_is_within := h_is_within (P := P) (w := w) (base := base) T
  refine T.r_check_rights.have sc_check_rights (fun vs H Q E z => ?_) ?_
  · obtain ⟨x, rfl, _⟩ := z; rfl
  · intro f cdv A' outer s H vs Q E hr z
    obtain ⟨x, rfl, hk, q⟩ := z
    refine ⟨_, (pss_one (ps_if (pt_not (pt_val (pe_callE H_is_within (hr.mono (by decide)) xw_def (pa_cons (pvM 0) (pa_cons pe_int (pa_cons (pe_globE rfl T.c_MOST_RIGHTS) pa_nil)))))) (pss_one (ps_raise xr_def rfl T.x_BadRights (pa_cons pe_str pa_nil))) pss_nil)), ?_⟩
    unfold sp_is_within
    walk_at "wp"
    refine ⟨hk, ?_⟩
    cases e : within x 0 3 with
    | true => rw [e, if_pos rfl] at q; exact iteF q
    | false => rw [e, if_neg (show ¬ false = true by decide)] at q; exact iteT q
def Bu (p : Addr) (H H' : Hp) : Prop := ∀ c o, H c = some o → c ≠ p → H' c = some o
def sp_lay (C : Addr) : Sp := fun vs H Q _ => ∃ (p a b : Addr) (rs parts : List Rn) (x n : Int) (ws : List V), vs = [.ref p, .int x, .int n, .ref b] ∧ StAt C H p a rs ∧ OrdR rs ∧ rs.length ≤ 100000 ∧ H b = some (.lst ws) ∧ RunsAt H ws parts ∧ parts.length ≤ 100000 ∧ ∀ a' H', StAt C H' p a' (layR rs x n parts) → Bu p H H' → Q .non H'
theorem h_lay (T : Txt K mg A) : HaveM P w K mg base A.C_Stretches "lay_amid" 5 ["self", "first", "many", "parts"] [] (sp_lay A.C_Stretches) := by
  have H_part_of := h_part_of (P := P) (w := w) (base := base) T
  have H_end_of := h_end_of (P := P) (w := w) (base := base) T
  have H_joined := h_joined (P := P) (w := w) (base := base) T
  have H_Stretches_place_behind := h_place (P := P) (w := w) (base := base) T
  refine T.r_Stretches_lay_amid.have sc_Stretches_lay_amid (fun vs H Q E z => ?_) ?_
  · obtain ⟨p, a, b, rs, parts, x, n, ws, rfl, _⟩ := z; rfl
  · intro f cdv A' outer s H vs Q E hr z
    obtain ⟨p, a, b, rs, parts, x, n, ws, rfl, hS, ho, hlen, hb, hP, hpl, q⟩ := z
    obtain ⟨dx, vs, h1, h2, h3⟩ := id hS
    refine ⟨_, (pss_cons (ps_set (i := 4) sc_Stretches_lay_amid.nd rfl (Or.inr rfl) (pe_op op_add (pvM 1) (pvM 2)))
      (pss_cons (ps_set (i := 5) sc_Stretches_lay_amid.nd rfl (Or.inl rfl) (pe_methE (pvM 0) T.cl_Stretches H_Stretches_place_behind (hr.mono (by decide)) xw_def (pa_cons (pe_op op_sub (pvM 1) pe_int) pa_nil)))
      (pss_cons (ps_set (i := 6) sc_Stretches_lay_amid.nd rfl (Or.inl rfl) (pe_op op_add (pe_methE (pvM 0) T.cl_Stretches H_Stretches_place_behind (hr.mono (by decide)) xw_def (pa_cons (pvM 4) pa_nil)) pe_int))
      (pss_cons (ps_set (i := 7) sc_Stretches_lay_amid.nd rfl (Or.inl rfl) (pe_slice sl_list (pe_fld (pvM 0) rfl) (po_some (pvM 5)) (po_some (pvM 6))))
      (pss_cons (ps_setC (i := 8) sc_Stretches_lay_amid.nd rfl rfl rfl (pi_list (pvM 7)) (x := "run") (fs := ["first"]) (ix := [1]) rfl rfl (fun _ _ _ _ _ _ => (pg_name (i := 0) (show (["run", "first"] : List Str).Nodup by decide +kernel) rfl (Or.inl rfl))) (fun _ _ _ _ _ _ => (pf_one (pt_cmpR op_lt (pe_ix (ix_tupC (K := K) rfl) (pvM 0) pe_int (fun _ _ => rfl)) (pvM 1) (nomark _)))) (fun _ _ _ _ _ _ => (pe_callE H_part_of (hr.mono (by decide)) xw_no (pa_cons (pvM 0) (pa_cons (pe_ix (ix_tupC (K := K) rfl) (pvM 0) pe_int (fun _ _ => rfl)) (pa_cons (pvM 1) pa_nil))))))
      (pss_cons (ps_setC (i := 9) sc_Stretches_lay_amid.nd rfl rfl rfl (pi_list (pvM 7)) (x := "run") (fs := ["end"]) (ix := [4]) rfl rfl (fun _ _ _ _ _ _ => (pg_name (i := 0) (show (["run", "end"] : List Str).Nodup by decide +kernel) rfl (Or.inl rfl))) (fun _ _ _ _ _ _ => (pf_one (pt_cmpR op_gt (pe_callE H_end_of (hr.mono (by decide)) xw_no (pa_cons (pvM 0) pa_nil)) (pvM 1) (nomark _)))) (fun _ _ _ _ _ _ => (pe_callE H_part_of (hr.mono (by decide)) xw_no (pa_cons (pvM 0) (pa_cons (pvM 1) (pa_cons (pe_callE H_end_of (hr.mono (by decide)) xw_no (pa_cons (pvM 0) pa_nil)) pa_nil))))))
      (pss_one (ps_fld (pvM 0) (pe_op op_cat (pe_op op_cat (pe_slice sl_list (pe_fld (pvM 0) rfl) po_none (po_some (pvM 5))) (pe_callE H_joined (hr.mono (by decide)) xw_def (pa_cons (pe_op op_cat (pe_op op_cat (pvM 8) (pvM 3)) (pvM 9)) pa_nil))) (pe_slice sl_list (pe_fld (pvM 0) rfl) (po_some (pvM 6)) po_none)) rfl)))))))), ?_⟩
    unfold sp_part_of sp_end_of sp_joined sp_place
    walk_at "wp"
    simp only [h1]
    walk_at "wp"
    refine ⟨stF_no (by decide +kernel), a, rs, hS, ho, by omega, stF_no (by decide +kernel), a, rs, hS, ho, by omega, T.cl_Stretches, T.na_Stretches_runs, _, stF_runs, a, rfl, _, SqL.of h2, fun sl hsl => ⟨⟨_, SqL.of upd_same⟩, ?_⟩⟩
    have ecut : cutV vs (some ((pb rs (x - 1) : Nat) : Int)) (some (((pb rs (x + n) : Nat) : Int) + 1)) = (vs.take (pb rs (x + n) + 1)).drop (pb rs (x - 1)) := cutV_nat (hi := pb rs (x + n) + 1)
    rw [ecut]
    have hnear : RunsAt H ((vs.take (pb rs (x + n) + 1)).drop (pb rs (x - 1))) (cutR rs (pb rs (x - 1)) (pb rs (x + n) + 1)) := prd_drop _ (prd_take _ h3)
    have hnl : (cutR rs (pb rs (x - 1)) (pb rs (x + n) + 1)).length ≤ 100000 := by
      unfold cutR
      rw [List.length_drop, List.length_take]
      omega
    have q' : ∀ a' H', StAt A.C_Stretches H' p a' (rs.take (pb rs (x - 1)) ++ jn (((cutR rs (pb rs (x - 1)) (pb rs (x + n) + 1)).filter fun r => decide (r.f < x)).map (fun r => poR r r.f x) ++ parts ++ ((cutR rs (pb rs (x - 1)) (pb rs (x + n) + 1)).filter fun r => decide (enR r > x + n)).map (fun r => poR r (x + n) (enR r))) ++ rs.drop (pb rs (x + n) + 1)) → Bu p H H' → Q .non H' := q
    generalize (vs.take (pb rs (x + n) + 1)).drop (pb rs (x - 1)) = nv at *
    generalize cutR rs (pb rs (x - 1)) (pb rs (x + n) + 1) = near at *
    intro D1 hD1
    have s1 := same_upd (o := .lst nv) same_refl hsl
    have hnvl : nv.length = near.length := Paired.length hnear
    have flen : ∀ (i : Nat) (g : Rn → Bool), ((near.take i).filter g).length ≤ 100000 := fun i g => Nat.le_trans (List.length_filter_le _ _) (by rw [List.length_take]; omega)
    refine comp_list (xs := nv) (fun i ys σ H' => ∃ v, σ = [v, some (.int x)] ∧ Same (upd H sl (.lst nv)) H' ∧ H' D1 = some (.lst ys) ∧ RunsAt H' ys (((near.take i).filter fun r => decide (r.f < x)).map fun r => poR r r.f x)) ⟨_, rfl, same_upd same_refl hD1, upd_same, .nil⟩ (fun i ys σ H' _ ⟨_, _, s2, _⟩ => SqL.of (s2 _ _ upd_same)) (fun i v ys σ H' hi => ?_) (fun ys σ H' => ?_)
    · rintro ⟨v0, rfl, s2, hDD, hys⟩
      obtain ⟨r, hr1, hr2⟩ := prd_get hnear hi
      have hrx := hr2.same (s1.trans s2)
      have htk : near.take (i + 1) = near.take i ++ [r] := by rw [List.take_add_one, hr1]; rfl
      have hyl : ys.length ≤ 100000 := by
        have h4 := Paired.length hys
        rw [List.length_map] at h4
        have := flen i fun r => decide (r.f < x)
        omega
      rw [htk, List.filter_append, List.map_append]
      obtain ⟨c, cv, rfl, hc, hcv⟩ := id hrx
      walk_at "wp"
      refine ⟨_, SqT.of hc, _, rfl, _, rfl, ?_⟩
      by_cases c1 : r.f < x
      · rw [if_pos c1]
        refine ⟨_, SqT.of hc, _, rfl, r, _, rfl, hrx, fun u H2 s3 hu => ?_⟩
        have hD2 := s3 _ _ hDD
        refine ⟨hD2, by omega, same_put (s2.trans s3) hD1, ?_⟩
        have ef : [r].filter (fun r => decide (r.f < x)) = [r] := by rw [List.filter_cons, decide_eq_true c1]; rfl
        rw [ef]
        exact prd_app (RunsAt.same2 (H := H2) (RunsAt.same hys s3) hD2 same_refl) (.cons (RunAt.same2 (H := H2) hu hD2 same_refl) .nil)
      · rw [if_neg c1]
        have ef : [r].filter (fun r => decide (r.f < x)) = [] := by rw [List.filter_cons, decide_eq_false c1]; rfl
        rw [ef, List.map_nil, List.append_nil]
        exact ⟨s2, hDD, hys⟩
    rintro ⟨v0, rfl, s2, hA, hys⟩
    rw [hnvl, List.take_length] at hys
    have hsl1 := s2 _ _ (upd_same (H := H) (a := sl) (o := .lst nv))
    refine ⟨⟨_, SqL.of hsl1⟩, fun D2 hD2 => ?_⟩
    have s12 := s1.trans s2
    refine comp_list (xs := nv) (fun i zs σ H2 => ∃ v, σ = [v, some (.int (x + n))] ∧ Same H' H2 ∧ H2 D2 = some (.lst zs) ∧ RunsAt H2 zs (((near.take i).filter fun r => decide (enR r > x + n)).map fun r => poR r (x + n) (enR r))) ⟨_, rfl, same_upd same_refl hD2, upd_same, .nil⟩ (fun i ys σ H' _ ⟨_, _, s2, _⟩ => SqL.of (s2 _ _ hsl1)) (fun i v zs σ H2 hi => ?_) (fun zs σ H2 => ?_)
    · rintro ⟨v0, rfl, s3, hDD, hzs⟩
      obtain ⟨r, hr1, hr2⟩ := prd_get hnear hi
      have hrx := hr2.same (s12.trans s3)
      have htk : near.take (i + 1) = near.take i ++ [r] := by rw [List.take_add_one, hr1]; rfl
      have hyl : zs.length ≤ 100000 := by
        have h4 := Paired.length hzs
        rw [List.length_map] at h4
        have := flen i fun r => decide (enR r > x + n)
        omega
      rw [htk, List.filter_append, List.map_append]
      walk_at "wp"
      refine ⟨r, hrx, ?_⟩
      by_cases c1 : enR r > x + n
      · rw [if_pos (show x + n < enR r from c1)]
        refine ⟨r, hrx, r, hrx, fun u H3 s4 hu => ?_⟩
        have hD3 := s4 _ _ hDD
        refine ⟨hD3, by omega, same_put (s3.trans s4) hD2, ?_⟩
        have ef : [r].filter (fun r => decide (enR r > x + n)) = [r] := by rw [List.filter_cons, decide_eq_true c1]; rfl
        rw [ef]
        exact prd_app (RunsAt.same2 (H := H3) (RunsAt.same hzs s4) hD3 same_refl) (.cons (RunAt.same2 (H := H3) hu hD3 same_refl) .nil)
      · rw [if_neg (show ¬ x + n < enR r from c1)]
        have ef : [r].filter (fun r => decide (enR r > x + n)) = [] := by rw [List.filter_cons, decide_eq_false c1]; rfl
        rw [ef, List.map_nil, List.append_nil]
        exact ⟨s3, hDD, hzs⟩
    rintro ⟨v0, rfl, s3, hB, hzs⟩
    rw [hnvl, List.take_length] at hzs
    have s13 := s12.trans s3
    have sH2 : Same H H2 := s13
    refine ⟨_, dx, _, s13 _ _ h1, T.cl_Stretches, T.na_Stretches_runs, _, stF_runs, a, rfl, _, SqL.of (s13 _ _ h2), fun q1 hq1 => ?_⟩
    rw [cutV_to]
    have s4 := same_upd (o := .lst (vs.take (pb rs (x - 1)))) same_refl hq1
    have hq1' : upd H2 q1 (.lst (vs.take (pb rs (x - 1)))) q1 = some (.lst (vs.take (pb rs (x - 1)))) := upd_same
    have hA4 := s4 _ _ (s3 _ _ hA)
    have hB4 := s4 _ _ hB
    have hb4 := s4 _ _ (s13 _ _ hb)
    have s14 := s13.trans s4
    generalize upd H2 q1 (.lst (vs.take (pb rs (x - 1)))) = H4 at *
    have ly : ys.length ≤ 100000 := by
      have h4 := Paired.length hys
      rw [List.length_map] at h4
      have := List.length_filter_le (fun r : Rn => decide (r.f < x)) near
      omega
    have lz : zs.length ≤ 100000 := by
      have h4 := Paired.length hzs
      rw [List.length_map] at h4
      have := List.length_filter_le (fun r : Rn => decide (enR r > x + n)) near
      omega
    have lw : ws.length ≤ 100000 := by rw [Paired.length hP]; exact hpl
    refine ⟨_, hA4, _, hb4, by omega, fun q2 hq2 => ?_⟩
    have s5 := same_upd (o := .lst (ys ++ ws)) same_refl hq2
    have hq2' : upd H4 q2 (.lst (ys ++ ws)) q2 = some (.lst (ys ++ ws)) := upd_same
    have hB5 := s5 _ _ hB4
    have hq15 := s5 _ _ hq1'
    have s15 := s14.trans s5
    generalize upd H4 q2 (.lst (ys ++ ws)) = H5 at *
    refine ⟨_, rfl, _, hB5, by rw [List.length_append]; omega, fun q3 hq3 => ?_⟩
    have s6 := same_upd (o := .lst (ys ++ ws ++ zs)) same_refl hq3
    have hq3' : upd H5 q3 (.lst (ys ++ ws ++ zs)) q3 = some (.lst (ys ++ ws ++ zs)) := upd_same
    have hq16 := s6 _ _ hq15
    have s16 := s15.trans s6
    have s26 : Same H2 (upd H5 q3 (.lst (ys ++ ws ++ zs))) := s4.trans (s5.trans s6)
    generalize upd H5 q3 (.lst (ys ++ ws ++ zs)) = H6 at *
    have hall : RunsAt H6 (ys ++ ws ++ zs) ((near.filter fun r => decide (r.f < x)).map (fun r => poR r r.f x) ++ parts ++ (near.filter fun r => decide (enR r > x + n)).map (fun r => poR r (x + n) (enR r))) :=
      prd_app (prd_app (RunsAt.same hys (s3.trans s26)) (RunsAt.same hP s16)) (RunsAt.same hzs s26)
    have hallL : ((near.filter fun r => decide (r.f < x)).map (fun r => poR r r.f x) ++ parts ++ (near.filter fun r => decide (enR r > x + n)).map (fun r => poR r (x + n) (enR r))).length ≤ 1000000 := by
      rw [← Paired.length hall, List.length_append, List.length_append]; omega
    refine ⟨_, SqL.of hq3', _, hall, hallL, fun t us H7 s7 ht0 ht hU => ?_⟩
    have s17 := s16.trans s7
    have hus : us.length ≤ 1000000 := by
      rw [Paired.length hU]
      have := jn_len ((near.filter fun r => decide (r.f < x)).map (fun r => poR r r.f x) ++ parts ++ (near.filter fun r => decide (enR r > x + n)).map (fun r => poR r (x + n) (enR r))) []
      unfold jn
      simp only [List.length_nil, Nat.zero_add] at this
      omega
    have lv : vs.length ≤ 100000 := by rw [Paired.length h3]; exact hlen
    refine ⟨_, s7 _ _ hq16, _, ht, by rw [List.length_take]; omega, fun q4 hq4 => ?_⟩
    have s8 := same_upd (o := .lst (vs.take (pb rs (x - 1)) ++ us)) same_refl hq4
    have hq4' : upd H7 q4 (.lst (vs.take (pb rs (x - 1)) ++ us)) q4 = some (.lst (vs.take (pb rs (x - 1)) ++ us)) := upd_same
    have s18 := s17.trans s8
    generalize upd H7 q4 (.lst (vs.take (pb rs (x - 1)) ++ us)) = H8 at *
    refine ⟨_, dx, _, s18 _ _ h1, T.cl_Stretches, T.na_Stretches_runs, _, stF_runs, a, rfl, _, SqL.of (s18 _ _ h2), fun q5 hq5 => ?_⟩
    have ecf : cutV vs (some (((pb rs (x + n) : Nat) : Int) + 1)) none = vs.drop (pb rs (x + n) + 1) := cutV_from (lo := pb rs (x + n) + 1)
    rw [ecf]
    have s9 := same_upd (o := .lst (vs.drop (pb rs (x + n) + 1))) same_refl hq5
    have hq5' : upd H8 q5 (.lst (vs.drop (pb rs (x + n) + 1))) q5 = some (.lst (vs.drop (pb rs (x + n) + 1))) := upd_same
    have hq49 := s9 _ _ hq4'
    have s19 := s18.trans s9
    have s79 := s8.trans s9
    generalize upd H8 q5 (.lst (vs.drop (pb rs (x + n) + 1))) = H9 at *
    refine ⟨_, hq49, _, rfl, by rw [List.length_append, List.length_take, List.length_drop]; omega, fun q6 hq6 => ?_⟩
    have s10 := same_upd (o := .lst (vs.take (pb rs (x - 1)) ++ us ++ vs.drop (pb rs (x + n) + 1))) same_refl hq6
    have hq6' : upd H9 q6 (.lst (vs.take (pb rs (x - 1)) ++ us ++ vs.drop (pb rs (x + n) + 1))) q6 = some (.lst (vs.take (pb rs (x - 1)) ++ us ++ vs.drop (pb rs (x + n) + 1))) := upd_same
    have s110 := s19.trans s10
    have s710 := s79.trans s10
    generalize upd H9 q6 (.lst (vs.take (pb rs (x - 1)) ++ us ++ vs.drop (pb rs (x + n) + 1))) = H10 at *
    have hpq : q6 ≠ p := ne_of hq6' (s110 _ _ h1) fun z => nomatch z
    refine ⟨_, dx, _, s110 _ _ h1, T.cl_Stretches, T.na_Stretches_runs, by show 1 < 1000; decide, ?_⟩
    have hrun : ∀ {v : V} {r : Rn} {o : HO}, RunAt H10 v r → RunAt (upd H10 p o) v r := fun {v r o} h => by
      obtain ⟨c, cv, e, hc, hcv⟩ := h
      refine ⟨c, cv, e, by rw [upd_ne (ne_of hc (s110 _ _ h1) fun z => nomatch z)]; exact hc, ?_⟩
      cases ht : r.t with
      | none => rw [ht] at hcv; exact hcv
      | some tt =>
        obtain ⟨b2, k2⟩ := tt
        rw [ht] at hcv
        obtain ⟨c2, e2, h2⟩ := hcv
        exact ⟨c2, e2, by rw [upd_ne (ne_of h2 (s110 _ _ h1) fun z => nomatch z)]; exact h2⟩
    refine q' q6 _ ⟨dx, _, upd_same, by rw [upd_ne hpq]; exact hq6', ?_⟩ fun c o hc hne => by rw [upd_ne hne]; exact s110 _ _ hc
    have hfin : RunsAt H10 (vs.take (pb rs (x - 1)) ++ us ++ vs.drop (pb rs (x + n) + 1)) (rs.take (pb rs (x - 1)) ++ jn ((near.filter fun r => decide (r.f < x)).map (fun r => poR r r.f x) ++ parts ++ (near.filter fun r => decide (enR r > x + n)).map (fun r => poR r (x + n) (enR r))) ++ rs.drop (pb rs (x + n) + 1)) :=
      prd_app (prd_app (RunsAt.same (prd_take _ h3) s110) (RunsAt.same hU s710)) (RunsAt.same (prd_drop _ h3) s110)
    exact Paired.mapP hfin fun _ _ h => hrun h
def sp_st_put (C BR TK : Addr) : Sp := fun vs H Q E => ∃ (p a : Addr) (rs : List Rn) (x n r : Int) (tv : V) (t : Option (Int × Int)), vs = [.ref p, .int x, .int n, .int r, tv] ∧ StAt C H p a rs ∧ OrdR rs ∧ rs.length ≤ 100000 ∧ TieAt H tv t ∧
  if 0 ≤ r ∧ r ≤ 3 then (if pam rs x n = [] then ∀ a' H', StAt C H' p a' (layR rs x n [⟨x, n, r, t⟩]) → Bu p H H' → Q .non H' else ∀ H', Same H H' → E (.ref TK) none H') else E (.ref BR) none H
theorem b_st_put (T : Txt K mg A) : Body P w K mg base "Stretches.put" s_Stretches_put ["self", "first", "many", "rights", "tie"] 5 (sp_st_put A.C_Stretches A.C_BadRights A.C_Taken) := by
  have H_check_rights := h_cr (P := P) (w := w) (base := base) T
  have H_Stretches_is_free := h_free (P := P) (w := w) (base := base) T
  have H_Stretches_lay_amid := h_lay (P := P) (w := w) (base := base) T
  · intro f cdv A' outer s H vs Q E hr z
    obtain ⟨p, a, rs, x, n, r, tv, t, rfl, hS, ho, hlen, hT, q⟩ := z
    obtain ⟨dx, vs, h1, h2, h3⟩ := id hS
    refine ⟨_, (pss_cons (ps_expr (pe_callE H_check_rights (hr.mono (by decide)) xw_def (pa_cons (pvM 3) pa_nil)))
      (pss_cons (ps_if (pt_not (pt_val (pe_methE (pvM 0) T.cl_Stretches H_Stretches_is_free (hr.mono (by decide)) xw_def (pa_cons (pvM 1) (pa_cons (pvM 2) pa_nil))))) (pss_one (ps_raise xr_def rfl T.x_Taken (pa_cons pe_str pa_nil))) pss_nil)
      (pss_one (ps_expr (pe_methE (pvM 0) T.cl_Stretches H_Stretches_lay_amid (hr.mono (by decide)) xw_def (pa_cons (pvM 1) (pa_cons (pvM 2) (pa_cons (pe_lst (pa_cons (pe_tup (pa_cons (pvM 1) (pa_cons (pvM 2) (pa_cons (pvM 3) (pa_cons (pvM 4) pa_nil))))) pa_nil)) pa_nil)))))))), ?_⟩
    unfold sp_cr sp_free sp_lay
    walk_at "wp"
    simp only [h1]
    walk_at "wp"
    by_cases c : 0 ≤ r ∧ r ≤ 3
    · rw [if_pos c] at q
      rw [if_pos (by rw [within_int, decide_eq_true c.1, decide_eq_true c.2]; rfl)]
      refine ⟨stF_no (by decide +kernel), a, rs, hS, ho, by omega, fun H1 s1 => ?_⟩
      by_cases c2 : pam rs x n = []
      · rw [if_pos c2] at q
        rw [decide_eq_true c2]
        refine iteF ⟨dx, _, s1 _ _ h1, stF_no (by decide +kernel), fun tp htp lp hlp => ?_⟩
        have s2 := same_upd (o := .tup [V.int x, V.int n, V.int r, tv]) s1 htp
        have s3 := same_upd (o := .lst [V.ref tp]) s2 hlp
        have s23 := same_upd (o := .lst [V.ref tp]) same_refl hlp
        exact ⟨a, rs, hS.same s3, ho, hlen, [⟨x, n, r, t⟩], [.ref tp], rfl, .cons ⟨tp, tv, rfl, s23 _ _ upd_same, hT.same s3⟩ .nil, by show 1 ≤ 100000; decide, fun a' H' hS' hB => q a' H' hS' fun c o hc hne => hB c o (s3 c o hc) hne⟩
      · rw [if_neg c2] at q
        rw [decide_eq_false c2]
        exact iteT (q _ s1)
    · rw [if_neg c] at q
      rw [if_neg (by rw [within_int]; simpa using c)]
      exact q
theorem l_st_put {C BR TK : Addr} : ∀ vs H Q E, sp_st_put C BR TK vs H Q E → vs.length = 5 := fun vs H Q E z => by
  obtain ⟨p, a, rs, x, n, r, tv, t, rfl, _⟩ := z; rfl
theorem h_st_put (T : Txt K mg A) : HaveM P w K mg base A.C_Stretches "put" 6 ["self", "first", "many", "rights", "tie"] [] (sp_st_put A.C_Stretches A.C_BadRights A.C_Taken) := T.r_Stretches_put.have sc_Stretches_put l_st_put (b_st_put T)
def sp_cf (C NM : Addr) : Sp := fun vs H Q E => ∃ (p a : Addr) (rs : List Rn) (x n : Int), vs = [.ref p, .int x, .int n] ∧ StAt C H p a rs ∧ OrdR rs ∧ rs.length ≤ 1000000 ∧ ∀ H', Same H H' → if ((pam rs x n).map (·.m)).sum = n then Q .non H' else E (.ref NM) none H'
theorem h_cf (T : Txt K mg A) : HaveM P w K mg base A.C_Stretches "check_full" 6 ["self", "first", "many"] [] (sp_cf A.C_Stretches A.C_NotMapped) := by
  have H_Stretches_is_full := h_full (P := P) (w := w) (base := base) T
  refine T.r_Stretches_check_full.have sc_Stretches_check_full (fun vs H Q E z => ?_) ?_
  · obtain ⟨p, a, rs, x, n, rfl, _⟩ := z; rfl
  · intro f cdv A' outer s H vs Q E hr z
    obtain ⟨p, a, rs, x, n, rfl, hS, ho, hlen, q⟩ := z
    obtain ⟨dx, vs, h1, h2, h3⟩ := id hS
    refine ⟨_, (pss_one (ps_if (pt_not (pt_val (pe_methE (pvM 0) T.cl_Stretches H_Stretches_is_full (hr.mono (by decide)) xw_def (pa_cons (pvM 1) (pa_cons (pvM 2) pa_nil))))) (pss_one (ps_raise xr_def rfl T.x_NotMapped (pa_cons pe_str pa_nil))) pss_nil)), ?_⟩
    unfold sp_full
    walk_at "wp"
    refine ⟨dx, _, h1, stF_no (by decide +kernel), a, rs, hS, ho, hlen, fun H1 s1 => ?_⟩
    have q1 := q _ s1
    by_cases c : ((pam rs x n).map (·.m)).sum = n
    · rw [if_pos c] at q1
      rw [decide_eq_true c]
      exact iteF q1
    · rw [if_neg c] at q1
      rw [decide_eq_false c]
      exact iteT q1

def sp_cut (C NM : Addr) : Sp := fun vs H Q E => ∃ (p a : Addr) (rs : List Rn) (x n : Int), vs = [.ref p, .int x, .int n] ∧ StAt C H p a rs ∧ OrdR rs ∧ rs.length ≤ 100000 ∧
  if ((pam rs x n).map (·.m)).sum = n then ∀ a' H', StAt C H' p a' (layR rs x n []) → Bu p H H' → Q .non H' else ∀ H', Same H H' → E (.ref NM) none H'
theorem h_cut (T : Txt K mg A) : HaveM P w K mg base A.C_Stretches "cut" 7 ["self", "first", "many"] [] (sp_cut A.C_Stretches A.C_NotMapped) := by
  have H_Stretches_check_full := h_cf (P := P) (w := w) (base := base) T
  have H_Stretches_lay_amid := h_lay (P := P) (w := w) (base := base) T
  refine T.r_Stretches_cut.have sc_Stretches_cut (fun vs H Q E z => ?_) ?_
  · obtain ⟨p, a, rs, x, n, rfl, _⟩ := z; rfl
  · intro f cdv A' outer s H vs Q E hr z
    obtain ⟨p, a, rs, x, n, rfl, hS, ho, hlen, q⟩ := z
    obtain ⟨dx, vs, h1, h2, h3⟩ := id hS
    refine ⟨_, (pss_cons (ps_expr (pe_methE (pvM 0) T.cl_Stretches H_Stretches_check_full (hr.mono (by decide)) xw_def (pa_cons (pvM 1) (pa_cons (pvM 2) pa_nil))))
      (pss_one (ps_expr (pe_methE (pvM 0) T.cl_Stretches H_Stretches_lay_amid (hr.mono (by decide)) xw_def (pa_cons (pvM 1) (pa_cons (pvM 2) (pa_cons (pe_lst pa_nil) pa_nil))))))), ?_⟩
    unfold sp_cf sp_lay
    walk_at "wp"
    refine ⟨dx, _, h1, stF_no (by decide +kernel), a, rs, hS, ho, by omega, fun H1 s1 => ?_⟩
    by_cases c : ((pam rs x n).map (·.m)).sum = n
    · rw [if_pos c] at q
      rw [if_pos c]
      refine ⟨dx, _, s1 _ _ h1, stF_no (by decide +kernel), fun lp hlp => ?_⟩
      have s2 := same_upd (o := .lst []) s1 hlp
      exact ⟨a, rs, hS.same s2, ho, hlen, [], [], rfl, .nil, by decide, fun a' H' hS' hB => q a' H' hS' fun c o hc hne => hB c o (s2 c o hc) hne⟩
    · rw [if_neg c] at q
      rw [if_neg c]
      exact q _ s1

theorem st_new {C : Addr} {H : Hp} {x dx a : Addr} (h1 : H x = none) (h2 : H dx = none) (h4 : upd (upd H dx (.own x)) x (.ins C dx []) a = none) :
    StAt C (upd (upd (upd (upd H dx (.own x)) x (.ins C dx [])) a (.lst [])) x (.ins C dx (stF a))) x a [] ∧ Same H (upd (upd (upd (upd H dx (.own x)) x (.ins C dx [])) a (.lst [])) x (.ins C dx (stF a))) := by
  have hax : a ≠ x := fun e => by subst e; rw [upd_same] at h4; cases h4
  refine ⟨⟨dx, [], upd_same, by rw [upd_ne hax, upd_same], .nil⟩, fun b o hb => ?_⟩
  have hbx : b ≠ x := ne_of_none hb h1
  have hbd : b ≠ dx := ne_of_none hb h2
  have hba : b ≠ a := fun e => by subst e; rw [upd_ne hbx, upd_ne hbd, hb] at h4; cases h4
  rw [upd_ne hbx, upd_ne hba, upd_ne hbx, upd_ne hbd]
  exact hb

def sp_copied (C : Addr) : Sp := fun vs H Q _ => ∃ (p a : Addr) (rs : List Rn), vs = [.ref p] ∧ StAt C H p a rs ∧ ∀ p' a' H', Same H H' → H p' = none → StAt C H' p' a' rs → Q (.ref p') H'
theorem h_copied (T : Txt K mg A) : HaveM P w K mg base A.C_Stretches "copied" 3 ["self"] [] (sp_copied A.C_Stretches) := by
  have H_Stretches_init := h_st_init (P := P) (w := w) (base := base) T
  refine T.r_Stretches_copied.have sc_Stretches_copied (fun vs H Q E z => ?_) ?_
  · obtain ⟨p, a, rs, rfl, _⟩ := z; rfl
  · intro f cdv A' outer s H vs Q E hr z
    obtain ⟨p, a, rs, rfl, hS, q⟩ := z
    obtain ⟨dx, vs, h1, h2, h3⟩ := id hS
    refine ⟨_, (pss_cons (ps_set (i := 1) sc_Stretches_copied.nd rfl (Or.inl rfl) (pe_makeE0 H_Stretches_init (hr.mono (by decide)) xw_def))
      (pss_cons (ps_fld (pvM 1) (pe_callTy call_list_of rfl T.b_list PyProof.Rows.boot_list (pa_cons (pe_fld (pvM 0) rfl) pa_nil)) rfl)
      (pss_one (ps_ret (pvM 1))))), ?_⟩
    unfold sp_init
    walk_at "wp"
    intro x' dx' hx' hdx' hne' a' ha'
    obtain ⟨hS1, sm1⟩ := st_new hx' hdx' ha'
    generalize upd (upd (upd (upd H dx' (.own x')) x' (.ins A.C_Stretches dx' [])) a' (.lst [])) x' (.ins A.C_Stretches dx' (stF a')) = H1 at *
    refine ⟨_, dx, _, sm1 _ _ h1, T.cl_Stretches, T.na_Stretches_runs, _, stF_runs, a, rfl, _, .inl (SqL.of (sm1 _ _ h2)), fun l hl => ?_⟩
    obtain ⟨dy, vy, hy, _⟩ := id hS1
    have b1 := same_upd (o := .lst vs) (same_refl (H := H1)) hl
    refine ⟨_, dy, _, b1 _ _ hy, T.cl_Stretches, T.na_Stretches_runs, by show 1 < 1000; decide, ?_⟩
    have hlx : l ≠ x' := fun e => by rw [e, hy] at hl; cases hl
    have ep : putF "runs" (.ref l) (stF a') = stF l := rfl
    refine q _ l _ ?_ hx' ?_
    · exact same_put (sm1.trans b1) hx'
    · rw [ep]
      exact ⟨dy, vs, upd_same, by rw [upd_ne hlx, upd_same], RunsAt.same h3 (same_put (sm1.trans b1) hx')⟩

abbrev Kvs := List (Key × V)
def ksK (kvs : Kvs) : List Key := kvs.map (·.1)
def Lst (ks : List Key) (k : Nat) : Prop := (Sum.inl (k : Int) : Key) ∉ ks ∧ ∀ j : Nat, j < k → (Sum.inl (j : Int) : Key) ∈ ks
theorem Lst.one {ks : List Key} {a b : Nat} (h : Lst ks a) (g : Lst ks b) : a = b := by
  rcases Nat.lt_trichotomy a b with q | q | q
  · exact absurd (g.2 a q) h.1
  · exact q
  · exact absurd (h.2 b q) g.1
theorem lst_le0 : ∀ (i : Nat) (ks : List Int), (∀ j : Nat, j < i → (j : Int) ∈ ks) → i ≤ ks.length
  | 0, _, _ => Nat.zero_le _
  | i + 1, ks, h => by
    have hm := h i (Nat.lt_succ_self i)
    have := lst_le0 i (ks.erase (i : Int)) fun j hj => (List.mem_erase_of_ne (by omega)).mpr (h j (by omega))
    rw [List.length_erase_of_mem hm] at this
    have := List.length_pos_of_mem hm
    omega
def kI : Key → Int
  | .inl i => i
  | .inr _ => 0
theorem lst_le (i : Nat) (ks : List Key) (h : ∀ j : Nat, j < i → (Sum.inl (j : Int) : Key) ∈ ks) : i ≤ ks.length := by
  have := lst_le0 i (ks.map kI) fun j hj => List.mem_map.mpr ⟨_, h j hj, rfl⟩
  rwa [List.length_map] at this
theorem in_pos {kvs : Kvs} {k : Key} (h : k ∈ ksK kvs) : (valV kvs k).isSome = true := by
  cases e : valV kvs k with
  | none => exact absurd h (valV_not e)
  | some v => rfl
theorem in_neg {kvs : Kvs} {k : Key} (h : k ∉ ksK kvs) : (valV kvs k).isSome = false := by
  cases e : valV kvs k with
  | none => rfl
  | some v => exact absurd (valV_in e) h
theorem val_some {kvs : Kvs} {k : Key} (h : k ∈ ksK kvs) : ∃ v, valV kvs k = some v := by
  cases e : valV kvs k with
  | none => exact absurd h (valV_not e)
  | some v => exact ⟨v, rfl⟩
theorem val_none {kvs : Kvs} {k : Key} (h : k ∉ ksK kvs) : valV kvs k = none := by
  cases e : valV kvs k with
  | none => rfl
  | some v => exact absurd (valV_in e) h
theorem val_mem {kvs : Kvs} {k : Key} {v : V} (h : valV kvs k = some v) : (k, v) ∈ kvs := by
  unfold valV at h
  cases e : kvs.find? fun kv => decide (kv.1 = k) with
  | none => rw [e] at h; cases h
  | some p =>
    rw [e] at h
    cases h
    have h1 := List.find?_some e
    have h2 := List.mem_of_find?_eq_some e
    have h3 : p.1 = k := by simpa using h1
    rw [← h3]; exact h2
theorem ks_put {kvs : Kvs} {k : Key} {v : V} (h : k ∉ ksK kvs) : putK kvs k v = kvs ++ [(k, v)] := putK_new v (val_none h)
def IntK (ks : List Key) : Prop := ∀ k ∈ ks, ∃ i : Int, k = Sum.inl i
theorem IntK.ns : ∀ {ks : List Key}, IntK ks → ks = (ks.map kI).map Sum.inl
  | [], _ => rfl
  | k :: ks, h => by
    obtain ⟨i, rfl⟩ := h k List.mem_cons_self
    rw [List.map_cons, List.map_cons, ← IntK.ns (ks := ks) fun x hx => h x (List.mem_cons_of_mem _ hx)]
    rfl
theorem IntK.drop {ks : List Key} {k : Key} (h : IntK ks) : IntK (ks.filter fun x => decide (x ≠ k)) := fun x hx => h x (List.mem_filter.mp hx).1
def Kd (d : Addr) (H H' : Hp) : Prop := ∀ c o, H c = some o → c ≠ d → H' c = some o
theorem Kd.trans {d : Addr} {H H1 H2 : Hp} (a : Kd d H H1) (b : Kd d H1 H2) : Kd d H H2 := fun c o h hn => b c o (a c o h hn) hn
theorem Kd.of {d : Addr} {H H' : Hp} (s : Same H H') : Kd d H H' := fun c o h _ => s c o h
theorem kd_upd {d : Addr} {H : Hp} {o : HO} : Kd d H (upd H d o) := fun c u h hn => by rw [upd_ne hn]; exact h

def sp_least_free : Sp := fun vs H Q _ => ∃ (a : Addr) (kvs : Kvs), vs = [.ref a] ∧ H a = some (.dK kvs) ∧ ∀ k : Nat, Lst (ksK kvs) k → Q (.int k) H
theorem h_least_free (T : Txt K mg A) : Have P w K mg base "least_free" 1 ["numbers"] [] sp_least_free := by
  refine T.r_least_free.have sc_least_free (fun vs H Q E z => ?_) ?_
  · obtain ⟨a, kvs, rfl, _⟩ := z; rfl
  · intro f cdv A' outer s H vs Q E hr z
    obtain ⟨a, kvs, rfl, ha, q⟩ := z
    refine ⟨_, (pss_cons (ps_set (i := 1) sc_least_free.nd rfl (Or.inl rfl) pe_int)
      (pss_cons (ps_whileE PassesOwn.leaving (pt_cmp (pc_din (hu_of hr) (pvM 1) (pvM 0))) (pss_one (ps_set (i := 1) sc_least_free.nd rfl (Or.inl rfl) (pe_op op_add (pvM 1) pe_int))))
      (pss_one (ps_ret (pvM 1))))), ?_⟩
    unfold tDIn
    walk_at "wp"
    refine loop_while (fun m σ H' => ∃ i : Nat, σ = [some (.ref a), some (.int i)] ∧ H' = H ∧ m + i = kvs.length + 1 ∧ ∀ j : Nat, j < i → (Sum.inl (j : Int) : Key) ∈ ksK kvs) (kvs.length + 1) ⟨0, rfl, rfl, rfl, fun j h => absurd h (Nat.not_lt_zero _)⟩ (fun m σ H' => ?_)
    rintro ⟨i, rfl, rfl, hm, hj⟩
    walk_at "wp"
    refine ⟨_, .inl ⟨kvs, Sum.inl (i : Int), .inl ha, rfl, rfl⟩, ?_⟩
    by_cases c : (Sum.inl (i : Int) : Key) ∈ ksK kvs
    · rw [in_pos c]
      have hj' : ∀ j : Nat, j < i + 1 → (Sum.inl (j : Int) : Key) ∈ ksK kvs := fun j h => by
        rcases Nat.lt_succ_iff_lt_or_eq.mp h with q | rfl
        · exact hj j q
        · exact c
      have hle := lst_le (i + 1) (ksK kvs) hj'
      have hlk : (ksK kvs).length = kvs.length := by unfold ksK; rw [List.length_map]
      refine iteT (turnW ?_)
      walk_at "wp"
      exact ⟨m - 1, by omega, i + 1, rfl, by omega, hj'⟩
    · rw [in_neg c]
      refine iteF ?_
      exact q i ⟨c, hj⟩

def hsF (sh td bd : Addr) : List (Str × V) := putF "banks" (.ref bd) (putF "tasks" (.ref td) (putF "shape" (.ref sh) []))
theorem hsF_tasks {sh td bd : Addr} : (hsF sh td bd).lookup ("tasks" : Str) = some (.ref td) := by rfl
theorem hsF_banks {sh td bd : Addr} : (hsF sh td bd).lookup ("banks" : Str) = some (.ref bd) := by rfl
theorem hsF_no {sh td bd : Addr} {m : Str} (h : ¬ m ∈ (["shape", "tasks", "banks"] : List Str)) : (hsF sh td bd).lookup m = none := by
  simp only [List.mem_cons, List.not_mem_nil, or_false, not_or] at h
  unfold hsF
  simp only [lookup_putF, h.1, h.2.1, h.2.2, if_false]
  rfl
structure Hz where
  p : Addr
  sh : Addr
  td : Addr
  bd : Addr
def sp_hinit (C : Addr) : Sp := fun vs H Q _ => ∃ (p dx sh : Addr), vs = [.ref p, .ref sh] ∧ H p = some (.ins C dx []) ∧ ∀ td bd H', H td = none → H bd = none → td ≠ bd → Kd p H H' → H' p = some (.ins C dx (hsF sh td bd)) → H' td = some (.dK []) → H' bd = some (.dK []) → Q .non H'
theorem h_hinit (T : Txt K mg A) : HaveI P w K mg base "House" A.C_House 1 ["self", "shape"] [] (sp_hinit A.C_House) := by
  refine T.r_House_init.have sc_House_init (fun vs H Q E z => ?_) ?_
  · obtain ⟨p, dx, sh, rfl, _⟩ := z; rfl
  · intro f cdv A' outer s H vs Q E hr z
    obtain ⟨p, dx, sh, rfl, hp, q⟩ := z
    refine ⟨_, (pss_cons (ps_fld (pvM 0) (pvM 1) rfl)
      (pss_cons (ps_fld (pvM 0) pe_dnewK rfl)
      (pss_one (ps_fld (pvM 0) pe_dnewK rfl)))), ?_⟩
    walk_at "wp"
    simp only [hp]
    walk_at "wp"
    refine ⟨T.cl_House, T.na_House_shape, fun td htd => ?_⟩
    have ntp : td ≠ p := fun z => by rw [z, upd_same] at htd; cases htd
    have htd0 : H td = none := by rw [upd_ne ntp] at htd; exact htd
    refine ⟨_, dx, _, by rw [upd_ne ntp.symm, upd_same], T.cl_House, T.na_House_tasks, by show 1 < 1000; decide, fun bd hbd => ?_⟩
    have nbp : bd ≠ p := fun z => by rw [z, upd_same] at hbd; cases hbd
    rw [upd_ne nbp] at hbd
    have nbt : bd ≠ td := fun z => by rw [z, upd_same] at hbd; cases hbd
    rw [upd_ne nbt, upd_ne nbp] at hbd
    refine ⟨_, dx, _, by rw [upd_ne nbp.symm, upd_same], T.cl_House, T.na_House_banks, by show 2 < 1000; decide, ?_⟩
    refine q td bd _ htd0 hbd nbt.symm (fun c o h hn => ?_) upd_same (by rw [upd_ne ntp, upd_ne nbt.symm, upd_ne ntp, upd_same]) (by rw [upd_ne nbp, upd_same])
    rw [upd_ne hn, upd_ne (ne_of_none h hbd), upd_ne hn, upd_ne (ne_of_none h htd0), upd_ne hn]
    exact h

theorem hsF_shape {sh td bd : Addr} : (hsF sh td bd).lookup ("shape" : Str) = some (.ref sh) := by rfl
structure Tk where
  n : Int
  p : Addr
  rs : List Rn
def tkD (tks : List Tk) : Kvs := tks.map fun t => ((Sum.inl t.n : Key), V.ref t.p)
def StOk (S : Addr) (H : Hp) (t : Tk) : Prop := ∃ a, StAt S H t.p a t.rs ∧ OrdR t.rs ∧ t.rs.length ≤ 10000
structure HsG (A : Adr) (H : Hp) (z : Hz) (l f g : Int) (tks : List Tk) (bk : Kvs) : Prop where
  me : ∃ dx, H z.p = some (.ins A.C_House dx (hsF z.sh z.td z.bd))
  sh : ShapeAt A.C_Shape H z.sh l f g
  t : H z.td = some (.dK (tkD tks))
  b : H z.bd = some (.dK bk)
  st : ∀ t ∈ tks, StOk A.C_Stretches H t
  nd : (tks.map Tk.p).Nodup
  nk : (tks.map Tk.n).Nodup
  vb : ∀ kv ∈ bk, ∃ i : Int, kv.2 = .int i
  ne : z.td ≠ z.bd
  np : ∀ t ∈ tks, t.p ≠ z.p ∧ t.p ≠ z.sh
theorem StOk.same {S : Addr} {H H' : Hp} {t : Tk} (h : StOk S H t) (s : Same H H') : StOk S H' t := let ⟨a, h1, h2⟩ := h; ⟨a, h1.same s, h2⟩
theorem HsG.same {A : Adr} {H H' : Hp} {z : Hz} {l f g : Int} {tks : List Tk} {bk : Kvs} (h : HsG A H z l f g tks bk) (s : Same H H') : HsG A H' z l f g tks bk :=
  ⟨let ⟨dx, e⟩ := h.me; ⟨dx, s _ _ e⟩, h.sh.same s, s _ _ h.t, s _ _ h.b, fun t ht => (h.st t ht).same s, h.nd, h.nk, h.vb, h.ne, h.np⟩
theorem TieAt.kd {H H' : Hp} {d : Addr} {v : V} {o : HO} (hd : H d = some o) (ho : ∀ xs, o ≠ .tup xs) (k : Kd d H H') : ∀ {t : Option (Int × Int)}, TieAt H v t → TieAt H' v t
  | none, h => h
  | some (b, i), ⟨a, e, h⟩ => ⟨a, e, k _ _ h (ne_of h hd (fun z => ho _ z.symm))⟩
theorem RunsAt.kd {H H' : Hp} {d : Addr} {o : HO} (hd : H d = some o) (ho : ∀ xs, o ≠ .tup xs) (k : Kd d H H') {vs : List V} {rs : List Rn} (h : RunsAt H vs rs) : RunsAt H' vs rs :=
  Paired.mapP h fun _ _ ⟨a, tv, e, h1, h2⟩ => ⟨a, tv, e, k _ _ h1 (ne_of h1 hd (fun z => ho _ z.symm)), h2.kd hd ho k⟩
theorem StOk.kd {S d : Addr} {H H' : Hp} {t : Tk} {kvs : Kvs} (h : StOk S H t) (hd : H d = some (.dK kvs)) (k : Kd d H H') : StOk S H' t :=
  let ⟨a, ⟨dx, vs, h1, h2, h3⟩, h4⟩ := h
  ⟨a, ⟨dx, vs, k _ _ h1 (ne_of h1 hd (fun z => nomatch z)), k _ _ h2 (ne_of h2 hd (fun z => nomatch z)), h3.kd hd (fun _ z => nomatch z) k⟩, h4⟩
theorem StOk.bu {S p : Addr} {H H' : Hp} {t : Tk} {dx : Addr} {fs : List (Str × V)} (h : StOk S H t) (hp : H p = some (.ins S dx fs)) (hn : t.p ≠ p) (k : Bu p H H') : StOk S H' t :=
  let ⟨a, ⟨dx1, vs, h1, h2, h3⟩, h4⟩ := h
  ⟨a, ⟨dx1, vs, k _ _ h1 hn, k _ _ h2 (ne_of h2 hp (fun z => nomatch z)), h3.kd hp (fun _ z => nomatch z) k⟩, h4⟩
def setT (n : Int) (rs : List Rn) (tks : List Tk) : List Tk := tks.map fun t => if t.n = n then { t with rs := rs } else t
theorem setT_D {n : Int} {rs : List Rn} {tks : List Tk} : tkD (setT n rs tks) = tkD tks := by
  unfold tkD setT
  rw [List.map_map]
  refine List.map_congr_left fun t _ => ?_
  show ((Sum.inl (if t.n = n then { t with rs := rs } else t).n : Key), V.ref (if t.n = n then { t with rs := rs } else t).p) = _
  by_cases h : t.n = n
  · rw [if_pos h]
  · rw [if_neg h]
theorem setT_p {n : Int} {rs : List Rn} {tks : List Tk} : (setT n rs tks).map Tk.p = tks.map Tk.p := by
  unfold setT
  rw [List.map_map]
  refine List.map_congr_left fun t _ => ?_
  show (if t.n = n then { t with rs := rs } else t).p = t.p
  by_cases h : t.n = n
  · rw [if_pos h]
  · rw [if_neg h]
theorem setT_n {n : Int} {rs : List Rn} {tks : List Tk} : (setT n rs tks).map Tk.n = tks.map Tk.n := by
  unfold setT
  rw [List.map_map]
  refine List.map_congr_left fun t _ => ?_
  show (if t.n = n then { t with rs := rs } else t).n = t.n
  by_cases h : t.n = n
  · rw [if_pos h]
  · rw [if_neg h]
theorem nodup_inj {α β : Type} {f : α → β} : ∀ {xs : List α} {a b : α}, (xs.map f).Nodup → a ∈ xs → b ∈ xs → f a = f b → a = b
  | [], _, _, _, h, _, _ => by simp at h
  | x :: xs, a, b, nd, ha, hb, e => by
    rw [List.map_cons, List.nodup_cons] at nd
    rcases List.mem_cons.mp ha with e1 | h1 <;> rcases List.mem_cons.mp hb with e2 | h2
    · rw [e1, e2]
    · exact absurd (List.mem_map.mpr ⟨b, h2, by rw [← e, e1]⟩) nd.1
    · exact absurd (List.mem_map.mpr ⟨a, h1, by rw [e, e2]⟩) nd.1
    · exact nodup_inj nd.2 h1 h2 e
theorem HsG.set {A : Adr} {H H' : Hp} {z : Hz} {l f g : Int} {tks : List Tk} {bk : Kvs} {t : Tk} {a' : Addr} {rs' : List Rn} (h : HsG A H z l f g tks bk) (ht : t ∈ tks) (hS : StAt A.C_Stretches H' t.p a' rs') (ho : OrdR rs') (hl : rs'.length ≤ 10000) (k : Bu t.p H H') : HsG A H' z l f g (setT t.n rs' tks) bk := by
  obtain ⟨a, ⟨dx, vs, e1, _, _⟩, _⟩ := h.st t ht
  obtain ⟨dxh, eh⟩ := h.me
  obtain ⟨dxs, es⟩ := id h.sh
  refine ⟨⟨dxh, k _ _ eh (h.np t ht).1.symm⟩, ⟨dxs, k _ _ es (h.np t ht).2.symm⟩, by rw [setT_D]; exact k _ _ h.t (ne_of h.t e1 (fun z => nomatch z)), k _ _ h.b (ne_of h.b e1 (fun z => nomatch z)), fun u hu => ?_, by rw [setT_p]; exact h.nd, by rw [setT_n]; exact h.nk, h.vb, h.ne, fun u hu => ?_⟩
  · obtain ⟨v, hv, rfl⟩ := List.mem_map.mp hu
    by_cases hn : v.n = t.n
    · obtain rfl : v = t := nodup_inj h.nk hv ht hn
      rw [if_pos rfl]
      exact ⟨a', hS, ho, hl⟩
    · rw [if_neg hn]
      exact (h.st v hv).bu e1 (fun z => hn (by rw [nodup_inj h.nd hv ht z])) k
  · have hu2 : u.p ∈ (setT t.n rs' tks).map Tk.p := List.mem_map.mpr ⟨u, hu, rfl⟩
    rw [setT_p] at hu2
    obtain ⟨v, hv, e⟩ := List.mem_map.mp hu2
    rw [← e]; exact h.np v hv
theorem tk_get {tks : List Tk} {n : Int} (h : (Sum.inl n : Key) ∈ ksK (tkD tks)) (nk : (tks.map Tk.n).Nodup) : ∃ t ∈ tks, t.n = n ∧ valV (tkD tks) (Sum.inl n) = some (.ref t.p) := by
  obtain ⟨v, hv⟩ := val_some h
  obtain ⟨t, ht, e⟩ := List.mem_map.mp (val_mem hv)
  have e1 : (Sum.inl t.n : Key) = Sum.inl n := congrArg Prod.fst e
  have e2 : V.ref t.p = v := congrArg Prod.snd e
  exact ⟨t, ht, Sum.inl.inj e1, by rw [e2]; exact hv⟩

def sp_ct (A : Adr) : Sp := fun vs H Q E => ∃ (z : Hz) (l f g : Int) (tks : List Tk) (bk : Kvs) (n : Int), vs = [.ref z.p, .int n] ∧ HsG A H z l f g tks bk ∧ ((Sum.inl n ∈ ksK (tkD tks) ∧ Q .non H) ∨ (Sum.inl n ∉ ksK (tkD tks) ∧ E (.ref A.C_NoTask) none H))
theorem h_ct (T : Txt K mg A) : HaveM P w K mg base A.C_House "check_task" 1 ["self", "task"] [] (sp_ct A) := by
  refine T.r_House_check_task.have sc_House_check_task (fun vs H Q E z => ?_) ?_
  · obtain ⟨z, l, f, g, tks, bk, n, rfl, _⟩ := z; rfl
  · intro f cdv A' outer s H vs Q E hr z
    obtain ⟨z, l, f', g, tks, bk, n, rfl, hS, q⟩ := z
    obtain ⟨dx, h1⟩ := hS.me
    refine ⟨_, (pss_one (ps_if (pt_cmp (pc_dnotin (hu_of hr) (pvM 1) (pe_fld (pvM 0) rfl))) (pss_one (ps_raise xr_def rfl T.x_NoTask (pa_cons pe_str pa_nil))) pss_nil)), ?_⟩
    unfold tDNotIn
    walk_at "wp"
    simp only [h1]
    walk_at "wp"
    refine ⟨T.cl_House, T.na_House_tasks, _, hsF_tasks, z.td, rfl, _, .inl ⟨_, Sum.inl n, .inl hS.t, rfl, rfl⟩, ?_⟩
    rcases q with ⟨h, q⟩ | ⟨h, q⟩
    · rw [in_pos h]; exact iteF q
    · rw [in_neg h]; exact iteT q
def sp_cb (A : Adr) : Sp := fun vs H Q E => ∃ (z : Hz) (l f g : Int) (tks : List Tk) (bk : Kvs) (n : Int), vs = [.ref z.p, .int n] ∧ HsG A H z l f g tks bk ∧ ((Sum.inl n ∈ ksK bk ∧ Q .non H) ∨ (Sum.inl n ∉ ksK bk ∧ E (.ref A.C_NoBank) none H))
theorem h_cb (T : Txt K mg A) : HaveM P w K mg base A.C_House "check_bank" 1 ["self", "bank"] [] (sp_cb A) := by
  refine T.r_House_check_bank.have sc_House_check_bank (fun vs H Q E z => ?_) ?_
  · obtain ⟨z, l, f, g, tks, bk, n, rfl, _⟩ := z; rfl
  · intro f cdv A' outer s H vs Q E hr z
    obtain ⟨z, l, f', g, tks, bk, n, rfl, hS, q⟩ := z
    obtain ⟨dx, h1⟩ := hS.me
    refine ⟨_, (pss_one (ps_if (pt_cmp (pc_dnotin (hu_of hr) (pvM 1) (pe_fld (pvM 0) rfl))) (pss_one (ps_raise xr_def rfl T.x_NoBank (pa_cons pe_str pa_nil))) pss_nil)), ?_⟩
    unfold tDNotIn
    walk_at "wp"
    simp only [h1]
    walk_at "wp"
    refine ⟨T.cl_House, T.na_House_banks, _, hsF_banks, z.bd, rfl, _, .inl ⟨bk, Sum.inl n, .inl hS.b, rfl, rfl⟩, ?_⟩
    rcases q with ⟨h, q⟩ | ⟨h, q⟩
    · rw [in_pos h]; exact iteF q
    · rw [in_neg h]; exact iteT q
def sp_cs (A : Adr) : Sp := fun vs H Q E => ∃ (z : Hz) (l f g : Int) (tks : List Tk) (bk : Kvs) (n x m : Int), vs = [.ref z.p, .int n, .int x, .int m] ∧ HsG A H z l f g tks bk ∧
  ((Sum.inl n ∉ ksK (tkD tks) ∧ E (.ref A.C_NoTask) none H) ∨ (Sum.inl n ∈ ksK (tkD tks) ∧ fitsB x m (pw (l * f)) = false ∧ E (.ref A.C_OutOfRoom) none H) ∨ (Sum.inl n ∈ ksK (tkD tks) ∧ fitsB x m (pw (l * f)) = true ∧ Q .non H))
theorem h_cs (T : Txt K mg A) : HaveM P w K mg base A.C_House "check_stretch" 5 ["self", "task", "first", "many"] [] (sp_cs A) := by
  have H_House_check_task := h_ct (P := P) (w := w) (base := base) T
  have H_Shape_fits := h_fits (P := P) (w := w) (base := base) T
  refine T.r_House_check_stretch.have sc_House_check_stretch (fun vs H Q E z => ?_) ?_
  · obtain ⟨z, l, f, g, tks, bk, n, x, m, rfl, _⟩ := z; rfl
  · intro f cdv A' outer s H vs Q E hr z
    obtain ⟨z, l, f', g, tks, bk, n, x, m, rfl, hS, q⟩ := z
    obtain ⟨dx, h1⟩ := hS.me
    obtain ⟨dxs, h2⟩ := id hS.sh
    refine ⟨_, (pss_cons (ps_expr (pe_methE (pvM 0) T.cl_House H_House_check_task (hr.mono (by decide)) xw_def (pa_cons (pvM 1) pa_nil)))
      (pss_one (ps_if (pt_not (pt_val (pe_methE (pe_fld (pvM 0) rfl) T.cl_Shape H_Shape_fits (hr.mono (by decide)) xw_def (pa_cons (pvM 2) (pa_cons (pvM 3) pa_nil))))) (pss_one (ps_raise xr_def rfl T.x_OutOfRoom (pa_cons pe_str pa_nil))) pss_nil))), ?_⟩
    unfold sp_ct sp_fits
    walk_at "wp"
    simp only [h1]
    walk_at "wp"
    refine ⟨hsF_no (by decide +kernel), z, rfl, l, f', g, tks, bk, hS, ?_⟩
    rcases q with ⟨h, q⟩ | ⟨h, hf, q⟩ | ⟨h, hf, q⟩
    · exact .inr ⟨h, q⟩
    · refine .inl ⟨h, T.cl_House, T.na_House_shape, _, hsF_shape, z.sh, rfl, dxs, _, h2, shF_no (by decide +kernel), z.sh, rfl, l, f', g, hS.sh, ?_⟩
      rw [hf]; exact iteT q
    · refine .inl ⟨h, T.cl_House, T.na_House_shape, _, hsF_shape, z.sh, rfl, dxs, _, h2, shF_no (by decide +kernel), z.sh, rfl, l, f', g, hS.sh, ?_⟩
      rw [hf]; exact iteF q
def sp_cpb (A : Adr) : Sp := fun vs H Q E => ∃ (z : Hz) (l f g : Int) (tks : List Tk) (bk : Kvs) (b st m : Int), vs = [.ref z.p, .int b, .int st, .int m] ∧ HsG A H z l f g tks bk ∧
  ((Sum.inl b ∉ ksK bk ∧ E (.ref A.C_NoBank) none H) ∨ ∃ i : Int, valV bk (Sum.inl b) = some (.int i) ∧ ((¬ (0 ≤ st ∧ st ≤ i - m) ∧ E (.ref A.C_OutOfBank) none H) ∨ ((0 ≤ st ∧ st ≤ i - m) ∧ Q .non H)))
theorem h_cpb (T : Txt K mg A) : HaveM P w K mg base A.C_House "check_part_of_bank" 3 ["self", "bank", "start", "many"] [] (sp_cpb A) := by
  have H_House_check_bank := h_cb (P := P) (w := w) (base := base) T
  have H_is_within := h_is_within (P := P) (w := w) (base := base) T
  refine T.r_House_check_part_of_bank.have sc_House_check_part_of_bank (fun vs H Q E z => ?_) ?_
  · obtain ⟨z, l, f, g, tks, bk, b, st, m, rfl, _⟩ := z; rfl
  · intro f cdv A' outer s H vs Q E hr z
    obtain ⟨z, l, f', g, tks, bk, b, st, m, rfl, hS, q⟩ := z
    obtain ⟨dx, h1⟩ := hS.me
    refine ⟨_, (pss_cons (ps_expr (pe_methE (pvM 0) T.cl_House H_House_check_bank (hr.mono (by decide)) xw_def (pa_cons (pvM 1) pa_nil)))
      (pss_one (ps_if (pt_not (pt_val (pe_callE H_is_within (hr.mono (by decide)) xw_def (pa_cons (pvM 2) (pa_cons pe_int (pa_cons (pe_op op_sub (pe_dget (hu_of hr) (pe_fld (pvM 0) rfl) (pvM 1) (fun _ _ => rfl)) (pvM 3)) pa_nil)))))) (pss_one (ps_raise xr_def rfl T.x_OutOfBank (pa_cons pe_str pa_nil))) pss_nil))), ?_⟩
    unfold sp_cb sp_is_within tDGet
    walk_at "wp"
    simp only [h1]
    walk_at "wp"
    refine ⟨hsF_no (by decide +kernel), z, rfl, l, f', g, tks, bk, hS, ?_⟩
    rcases q with ⟨h, q⟩ | ⟨i, hi, q⟩
    · exact .inr ⟨h, q⟩
    · refine .inl ⟨valV_in hi, T.cl_House, T.na_House_banks, _, hsF_banks, z.bd, rfl, _, .inl ⟨bk, Sum.inl b, .inl hS.b, rfl, hi.symm⟩, i, rfl, ?_⟩
      rw [within_int]
      rcases q with ⟨h, q⟩ | ⟨⟨h2, h3⟩, q⟩
      · have e : (decide (0 ≤ st) && decide (st ≤ i - m)) = false := by
          rw [Bool.eq_false_iff]
          intro z
          simp only [Bool.and_eq_true, decide_eq_true_eq] at z
          exact h z
        rw [e]; exact iteT q
      · rw [decide_eq_true h2, decide_eq_true h3]; exact iteF q

theorem HsG.more {A : Adr} {H H' : Hp} {z : Hz} {l f g : Int} {tks : List Tk} {bk : Kvs} {k : Int} {p : Addr} (h : HsG A H z l f g tks bk) (s : Same H H') (hn : H p = none) (hp : StOk A.C_Stretches H' ⟨k, p, []⟩) (hk : Sum.inl k ∉ ksK (tkD tks)) :
    HsG A (upd H' z.td (.dK (tkD (tks ++ [⟨k, p, []⟩])))) z l f g (tks ++ [⟨k, p, []⟩]) bk := by
  have hs := h.same s
  obtain ⟨dx, e⟩ := hs.me
  obtain ⟨dxs, es⟩ := id hs.sh
  have np : ∀ t ∈ tks, t.p ≠ p := fun t ht z => by
    obtain ⟨a, ⟨dx, vs, e1, _⟩, _⟩ := h.st t ht
    rw [z, hn] at e1; cases e1
  refine ⟨⟨dx, ?_⟩, ⟨dxs, ?_⟩, upd_same, ?_, fun t ht => ?_, ?_, ?_, h.vb, h.ne, fun t ht => ?_⟩
  · rw [upd_ne (ne_of e hs.t (fun z => nomatch z))]; exact e
  · rw [upd_ne (ne_of es hs.t (fun z => nomatch z))]; exact es
  · rw [upd_ne h.ne.symm]; exact hs.b
  · rcases List.mem_append.mp ht with q | q
    · exact (hs.st t q).kd hs.t kd_upd
    · rw [List.mem_singleton.mp q]; exact hp.kd hs.t kd_upd
  · rw [List.map_append, List.map_cons, List.map_nil, List.nodup_append]
    refine ⟨h.nd, by simp, fun a ha b hb => ?_⟩
    obtain ⟨t, ht, rfl⟩ := List.mem_map.mp ha
    rw [List.mem_singleton.mp hb]; exact np t ht
  · rw [List.map_append, List.map_cons, List.map_nil, List.nodup_append]
    refine ⟨h.nk, by simp, fun a ha b hb z => ?_⟩
    obtain ⟨t, ht, rfl⟩ := List.mem_map.mp ha
    rw [List.mem_singleton.mp hb] at z
    refine hk ?_
    show _ ∈ (tkD tks).map (·.1)
    unfold tkD
    rw [List.map_map]
    exact List.mem_map.mpr ⟨t, ht, by show (Sum.inl t.n : Key) = _; rw [z]⟩
  · rcases List.mem_append.mp ht with q | q
    · exact h.np t q
    · rw [List.mem_singleton.mp q]
      obtain ⟨dx0, e0⟩ := h.me
      obtain ⟨dx1, e1⟩ := id h.sh
      exact ⟨(fun z => by rw [← z, hn] at e0; cases e0), (fun z => by rw [← z, hn] at e1; cases e1)⟩
theorem HsG.bank {A : Adr} {H : Hp} {z : Hz} {l f g : Int} {tks : List Tk} {bk bk' : Kvs} (h : HsG A H z l f g tks bk) (hv : ∀ kv ∈ bk', ∃ i : Int, kv.2 = .int i) : HsG A (upd H z.bd (.dK bk')) z l f g tks bk' := by
  obtain ⟨dx, e⟩ := h.me
  obtain ⟨dxs, es⟩ := id h.sh
  exact ⟨⟨dx, by rw [upd_ne (ne_of e h.b (fun z => nomatch z))]; exact e⟩, ⟨dxs, by rw [upd_ne (ne_of es h.b (fun z => nomatch z))]; exact es⟩, by rw [upd_ne h.ne]; exact h.t, upd_same, fun t ht => (h.st t ht).kd h.b kd_upd, h.nd, h.nk, hv, h.ne, h.np⟩
def sp_nt (A : Adr) : Sp := fun vs H Q _ => ∃ (z : Hz) (l f g : Int) (tks : List Tk) (bk : Kvs), vs = [.ref z.p] ∧ HsG A H z l f g tks bk ∧ tks.length < 1000 ∧
  ∀ (k : Nat) (p : Addr) (H' : Hp), Lst (ksK (tkD tks)) k → HsG A H' z l f g (tks ++ [⟨k, p, []⟩]) bk → H p = none → Kd z.td H H' → Q (.int k) H'
theorem h_nt (T : Txt K mg A) : HaveM P w K mg base A.C_House "new_task" 3 ["self"] [] (sp_nt A) := by
  have H_least_free := h_least_free (P := P) (w := w) (base := base) T
  have H_Stretches_init := h_st_init (P := P) (w := w) (base := base) T
  refine T.r_House_new_task.have sc_House_new_task (fun vs H Q E z => ?_) ?_
  · obtain ⟨z, l, f, g, tks, bk, rfl, _⟩ := z; rfl
  · intro f cdv A' outer s H vs Q E hr z
    obtain ⟨z, l, f', g, tks, bk, rfl, hS, hl, q⟩ := z
    obtain ⟨dx, h1⟩ := hS.me
    have hlen : (tkD tks).length = tks.length := by unfold tkD; rw [List.length_map]
    refine ⟨_, (pss_cons (ps_set (i := 1) sc_House_new_task.nd rfl (Or.inl rfl) (pe_callE H_least_free (hr.mono (by decide)) xw_def (pa_cons (pe_fld (pvM 0) rfl) pa_nil)))
      (pss_cons (ps_dput (hu_of hr) (pe_fld (pvM 0) rfl) (pvM 1) (pe_makeE0 H_Stretches_init (hr.mono (by decide)) xw_def) rfl)
      (pss_one (ps_ret (pvM 1))))), ?_⟩
    unfold sp_least_free sp_init sDPut
    walk_at "wp"
    simp only [h1]
    walk_at "wp"
    refine ⟨T.cl_House, T.na_House_tasks, _, hsF_tasks, z.td, rfl, _, hS.t, fun k hk x ex hx hex hne a2 ha2 => ?_⟩
    have nax : a2 ≠ x := fun z => by rw [z, upd_same] at ha2; cases ha2
    rw [upd_ne nax] at ha2
    have nad : a2 ≠ ex := fun z => by rw [z, upd_same] at ha2; cases ha2
    rw [upd_ne nad] at ha2
    have s1 : Same H (upd (upd (upd (upd H ex (.own x)) x (.ins A.C_Stretches ex [])) a2 (.lst [])) x (.ins A.C_Stretches ex (stF a2))) := fun c o h => by
      rw [upd_ne (ne_of_none h hx), upd_ne (ne_of_none h ha2), upd_ne (ne_of_none h hx), upd_ne (ne_of_none h hex)]; exact h
    have hx3 : upd (upd (upd (upd H ex (.own x)) x (.ins A.C_Stretches ex [])) a2 (.lst [])) x (.ins A.C_Stretches ex (stF a2)) x = some (.ins A.C_Stretches ex (stF a2)) := upd_same
    have ha3 : upd (upd (upd (upd H ex (.own x)) x (.ins A.C_Stretches ex [])) a2 (.lst [])) x (.ins A.C_Stretches ex (stF a2)) a2 = some (.lst []) := by rw [upd_ne nax, upd_same]
    generalize upd (upd (upd (upd H ex (.own x)) x (.ins A.C_Stretches ex [])) a2 (.lst [])) x (.ins A.C_Stretches ex (stF a2)) = H3 at *
    have hz := PySem.sizeLine_eq
    refine ⟨_, dx, _, s1 _ _ h1, T.cl_House, T.na_House_tasks, _, hsF_tasks, z.td, rfl, _, .inl ⟨_, Sum.inl (k : Int), s1 _ _ hS.t, rfl, by omega, rfl⟩, ?_⟩
    have e : putK (tkD tks) (Sum.inl (k : Int)) (.ref x) = tkD (tks ++ [⟨k, x, []⟩]) := by
      rw [ks_put hk.1]
      unfold tkD
      rw [List.map_append]; rfl
    rw [e]
    exact q k x _ hk (hS.more s1 hx ⟨a2, ⟨ex, [], hx3, ha3, .nil⟩, ⟨.nil, (fun r hr => by simp at hr)⟩, by show (0 : Nat) ≤ 10000; decide⟩ hk.1) hx ((Kd.of s1).trans kd_upd)
def sp_nb (A : Adr) : Sp := fun vs H Q E => ∃ (z : Hz) (l f g : Int) (tks : List Tk) (bk : Kvs) (n : Int), vs = [.ref z.p, .int n] ∧ HsG A H z l f g tks bk ∧ bk.length < 1000 ∧
  (((1 ≤ n ∧ n ≤ 64) ∧ ∀ (k : Nat) (H' : Hp), Lst (ksK bk) k → HsG A H' z l f g tks (bk ++ [(Sum.inl (k : Int), .int n)]) → Kd z.bd H H' → Q (.int k) H') ∨ (¬ (1 ≤ n ∧ n ≤ 64) ∧ E (.ref A.C_OutOfBank) none H))
theorem h_nb (T : Txt K mg A) : HaveM P w K mg base A.C_House "new_bank" 4 ["self", "many"] [] (sp_nb A) := by
  have H_least_free := h_least_free (P := P) (w := w) (base := base) T
  have H_is_within := h_is_within (P := P) (w := w) (base := base) T
  refine T.r_House_new_bank.have sc_House_new_bank (fun vs H Q E z => ?_) ?_
  · obtain ⟨z, l, f, g, tks, bk, n, rfl, _⟩ := z; rfl
  · intro f cdv A' outer s H vs Q E hr z
    obtain ⟨z, l, f', g, tks, bk, n, rfl, hS, hl, q⟩ := z
    obtain ⟨dx, h1⟩ := hS.me
    refine ⟨_, (pss_cons (ps_if (pt_not (pt_val (pe_callE H_is_within (hr.mono (by decide)) xw_def (pa_cons (pvM 1) (pa_cons pe_int (pa_cons (pe_globE rfl T.c_MOST_IN_BANK) pa_nil)))))) (pss_one (ps_raise xr_def rfl T.x_OutOfBank (pa_cons pe_str pa_nil))) pss_nil)
      (pss_cons (ps_set (i := 2) sc_House_new_bank.nd rfl (Or.inl rfl) (pe_callE H_least_free (hr.mono (by decide)) xw_def (pa_cons (pe_fld (pvM 0) rfl) pa_nil)))
      (pss_cons (ps_dput (hu_of hr) (pe_fld (pvM 0) rfl) (pvM 2) (pvM 1) rfl)
      (pss_one (ps_ret (pvM 2)))))), ?_⟩
    unfold sp_least_free sp_is_within sDPut
    walk_at "wp"
    simp only [h1]
    walk_at "wp"
    have hz := PySem.sizeLine_eq
    rw [within_int]
    rcases q with ⟨⟨h2, h3⟩, q⟩ | ⟨h, q⟩
    · rw [decide_eq_true h2, decide_eq_true h3]
      refine iteF ⟨T.cl_House, T.na_House_banks, _, hsF_banks, z.bd, rfl, bk, hS.b, fun k hk => ⟨T.cl_House, T.na_House_banks, _, hsF_banks, z.bd, rfl, _, .inl ⟨bk, Sum.inl (k : Int), hS.b, rfl, by omega, rfl⟩, ?_⟩⟩
      rw [ks_put hk.1]
      refine q k _ hk (hS.bank fun kv hkv => ?_) kd_upd
      rcases List.mem_append.mp hkv with q | q
      · exact hS.vb kv q
      · rw [List.mem_singleton.mp q]; exact ⟨n, rfl⟩
    · have e : (decide (1 ≤ n) && decide (n ≤ 64)) = false := by
        rw [Bool.eq_false_iff]
        intro z
        simp only [Bool.and_eq_true, decide_eq_true_eq] at z
        exact h z
      rw [e]
      exact iteT q
def lyT (rs : List Rn) (x m r : Int) (t : Option (Int × Int)) : List Rn := layR rs x m [⟨x, m, r, t⟩]
def bV : Option Int → V
  | none => .non
  | some b => .int b
def tieB (b : Option Int) (st : Int) : Option (Int × Int) := b.map fun b => (b, st)
def sp_hlay (A : Adr) : Sp := fun vs H Q E => ∃ (z : Hz) (l f g : Int) (tks : List Tk) (bk : Kvs) (n x m r st : Int) (b : Option Int), vs = [.ref z.p, .int n, .int x, .int m, .int r, bV b, .int st] ∧ HsG A H z l f g tks bk ∧
  ((Sum.inl n ∉ ksK (tkD tks) ∧ E (.ref A.C_NoTask) none H) ∨ (Sum.inl n ∈ ksK (tkD tks) ∧ fitsB x m (pw (l * f)) = false ∧ E (.ref A.C_OutOfRoom) none H) ∨
  (Sum.inl n ∈ ksK (tkD tks) ∧ fitsB x m (pw (l * f)) = true ∧ ((¬ (0 ≤ r ∧ r ≤ 3) ∧ E (.ref A.C_BadRights) none H) ∨ ((0 ≤ r ∧ r ≤ 3) ∧
    ((∃ b', b = some b' ∧ ((Sum.inl b' ∉ ksK bk ∧ E (.ref A.C_NoBank) none H) ∨ ∃ i : Int, valV bk (Sum.inl b') = some (.int i) ∧ ¬ (0 ≤ st ∧ st ≤ i - m) ∧ E (.ref A.C_OutOfBank) none H)) ∨
    ((∀ b', b = some b' → ∃ i : Int, valV bk (Sum.inl b') = some (.int i) ∧ 0 ≤ st ∧ st ≤ i - m) ∧ ∃ t ∈ tks, t.n = n ∧
      ((pam t.rs x m ≠ [] ∧ ∀ H', Same H H' → E (.ref A.C_Taken) none H') ∨ (pam t.rs x m = [] ∧ OrdR (lyT t.rs x m r (tieB b st)) ∧ (lyT t.rs x m r (tieB b st)).length ≤ 10000 ∧ ∀ H', HsG A H' z l f g (setT n (lyT t.rs x m r (tieB b st)) tks) bk → Bu t.p H H' → Q .non H'))))))))
theorem b_hlay (T : Txt K mg A) : Body P w K mg base "House.lay" s_House_lay ["self", "task", "first", "many", "rights", "bank", "start", "tie"] 8 (sp_hlay A) := by
  have H_House_check_stretch := h_cs (P := P) (w := w) (base := base) T
  have H_check_rights := h_cr (P := P) (w := w) (base := base) T
  have H_House_check_part_of_bank := h_cpb (P := P) (w := w) (base := base) T
  have H_Stretches_put := h_st_put (P := P) (w := w) (base := base) T
  intro f cdv A' outer s H vs Q E hr z
  obtain ⟨z, l, f', g, tks, bk, n, x, m, r, st, b, rfl, hS, q⟩ := z
  obtain ⟨dx, h1⟩ := hS.me
  refine ⟨_, (pss_cons (ps_expr (pe_methE (pvM 0) T.cl_House H_House_check_stretch (hr.mono (by decide)) xw_def (pa_cons (pvM 1) (pa_cons (pvM 2) (pa_cons (pvM 3) pa_nil)))))
      (pss_cons (ps_expr (pe_callE H_check_rights (hr.mono (by decide)) xw_def (pa_cons (pvM 4) pa_nil)))
      (pss_cons (ps_set (i := 7) sc_House_lay.nd rfl (Or.inl rfl) pe_non)
      (pss_cut (ps_if (pt_cmpR op_notN (pvM 5) pe_non (nomark _)) (pss_cons (ps_expr (pe_methE (pvM 0) T.cl_House H_House_check_part_of_bank (hr.mono (by decide)) xw_def (pa_cons (pvM 5) (pa_cons (pvM 6) (pa_cons (pvM 3) pa_nil)))))
      (pss_one (ps_set (i := 7) sc_House_lay.nd rfl (Or.inl rfl) (pe_tup (pa_cons (pvM 5) (pa_cons (pvM 6) pa_nil)))))) pss_nil)
      (pss_one (ps_expr (pe_methE (pe_dget (hu_of hr) (pe_fld (pvM 0) rfl) (pvM 1) (fun _ _ => rfl)) T.cl_Stretches H_Stretches_put (hr.mono (by decide)) xw_def (pa_cons (pvM 2) (pa_cons (pvM 3) (pa_cons (pvM 4) (pa_cons (pvM 7) pa_nil))))))))))), ?_⟩
  unfold sp_cs sp_cr sp_cpb sp_st_put tDGet
  walk_at "wp"
  simp only [h1]
  walk_at "wp"
  refine ⟨hsF_no (by decide +kernel), z, rfl, l, f', g, tks, bk, hS, ?_⟩
  rcases q with ⟨h, q⟩ | ⟨h, hf, q⟩ | ⟨h, hf, q⟩
  · exact .inl ⟨h, q⟩
  · exact .inr (.inl ⟨h, hf, q⟩)
  refine .inr (.inr ⟨h, hf, ?_⟩)
  rcases q with ⟨hb, q⟩ | ⟨hb, q⟩
  · rw [if_neg (by rw [within_int]; simpa using hb)]
    exact q
  rw [if_pos (by rw [within_int, decide_eq_true hb.1, decide_eq_true hb.2]; rfl)]
  rcases q with ⟨b', rfl, q⟩ | ⟨hall, t, ht, hn, q⟩
  · refine ⟨fun _ _ => False, ?_, fun _ _ z => z.elim⟩
    unfold bV
    walk_at "wp"
    simp only [h1]
    walk_at "wp"
    rw [decide_eq_false (fun z => nomatch z)]
    refine iteT ⟨hsF_no (by decide +kernel), z, rfl, l, f', g, tks, bk, hS, ?_⟩
    rcases q with ⟨h3, q⟩ | ⟨i, hi, h3, q⟩
    · exact .inl ⟨h3, q⟩
    · exact .inr ⟨i, hi, .inl ⟨h3, q⟩⟩
  refine ⟨fun σ H' => ∃ tv, σ = [some (.ref z.p), some (.int n), some (.int x), some (.int m), some (.int r), some (bV b), some (.int st), some tv] ∧ Same H H' ∧ TieAt H' tv (tieB b st), ?_, fun σ' H' => ?_⟩
  · cases b with
    | none =>
      unfold bV
      walk_at "wp"
      exact iteF ⟨same_refl, rfl⟩
    | some b' =>
      unfold bV
      walk_at "wp"
      simp only [h1]
      walk_at "wp"
      rw [decide_eq_false (fun z => nomatch z)]
      obtain ⟨i, hi, h3, h4⟩ := hall b' rfl
      exact iteT ⟨hsF_no (by decide +kernel), z, rfl, l, f', g, tks, bk, hS, .inr ⟨i, hi, .inr ⟨h3, h4, fun p hp => ⟨same_upd same_refl hp, p, rfl, upd_same⟩⟩⟩⟩
  rintro ⟨tv, rfl, s1, hT⟩
  have hS1 := hS.same s1
  walk_at "wp"
  obtain ⟨t', ht', hn', hv⟩ := tk_get h hS.nk
  obtain rfl : t' = t := nodup_inj hS.nk ht' ht (hn'.trans hn.symm)
  obtain ⟨a, hA, ho, hl⟩ := hS1.st t' ht
  obtain ⟨dx2, vs2, e1, e2, e3⟩ := id hA
  refine ⟨_, dx, _, s1 _ _ h1, T.cl_House, T.na_House_tasks, _, hsF_tasks, z.td, rfl, _, .inl ⟨_, Sum.inl n, .inl hS1.t, rfl, hv.symm⟩, t'.p, rfl, dx2, _, e1, stF_no (by decide +kernel), ?_⟩
  refine ⟨t'.p, rfl, a, t'.rs, hA, ho, by omega, tieB b st, hT, ?_⟩
  rw [if_pos hb]
  rcases q with ⟨hp, q⟩ | ⟨hp, ho2, hl2, q⟩
  · rw [if_neg hp]; exact fun H2 s2 => q _ (s1.trans s2)
  · rw [if_pos hp]
    exact fun a' H2 hS2 hB => q H2 (by rw [← hn]; exact hS1.set ht hS2 ho2 hl2 hB) (fun c o hc hne => hB c o (s1 c o hc) hne)
theorem l_hlay {A : Adr} : ∀ vs H Q E, sp_hlay A vs H Q E → vs.length = 7 := fun vs H Q E z => by
  obtain ⟨z, l, f, g, tks, bk, n, x, m, r, st, b, rfl, _⟩ := z; rfl
theorem h_hlay (T : Txt K mg A) : HaveM P w K mg base A.C_House "lay" 9 ["self", "task", "first", "many", "rights", "bank", "start"] [] (sp_hlay A) := T.r_House_lay.have sc_House_lay l_hlay (b_hlay T)
def sp_lift (A : Adr) : Sp := fun vs H Q E => ∃ (z : Hz) (l f g : Int) (tks : List Tk) (bk : Kvs) (n x m : Int), vs = [.ref z.p, .int n, .int x, .int m] ∧ HsG A H z l f g tks bk ∧
  ((Sum.inl n ∉ ksK (tkD tks) ∧ E (.ref A.C_NoTask) none H) ∨ (Sum.inl n ∈ ksK (tkD tks) ∧ fitsB x m (pw (l * f)) = false ∧ E (.ref A.C_OutOfRoom) none H) ∨
  (Sum.inl n ∈ ksK (tkD tks) ∧ fitsB x m (pw (l * f)) = true ∧ ∃ t ∈ tks, t.n = n ∧
      ((((pam t.rs x m).map (·.m)).sum ≠ m ∧ ∀ H', Same H H' → E (.ref A.C_NotMapped) none H') ∨ (((pam t.rs x m).map (·.m)).sum = m ∧ OrdR (layR t.rs x m []) ∧ (layR t.rs x m []).length ≤ 10000 ∧ ∀ H', HsG A H' z l f g (setT n (layR t.rs x m []) tks) bk → Bu t.p H H' → Q .non H'))))
theorem h_lift (T : Txt K mg A) : HaveM P w K mg base A.C_House "lift" 9 ["self", "task", "first", "many"] [] (sp_lift A) := by
  have H_House_check_stretch := h_cs (P := P) (w := w) (base := base) T
  have H_Stretches_cut := h_cut (P := P) (w := w) (base := base) T
  refine T.r_House_lift.have sc_House_lift (fun vs H Q E z => ?_) ?_
  · obtain ⟨z, l, f, g, tks, bk, n, x, m, rfl, _⟩ := z; rfl
  · intro f cdv A' outer s H vs Q E hr z
    obtain ⟨z, l, f', g, tks, bk, n, x, m, rfl, hS, q⟩ := z
    obtain ⟨dx, h1⟩ := hS.me
    refine ⟨_, (pss_cons (ps_expr (pe_methE (pvM 0) T.cl_House H_House_check_stretch (hr.mono (by decide)) xw_def (pa_cons (pvM 1) (pa_cons (pvM 2) (pa_cons (pvM 3) pa_nil)))))
      (pss_one (ps_expr (pe_methE (pe_dget (hu_of hr) (pe_fld (pvM 0) rfl) (pvM 1) (fun _ _ => rfl)) T.cl_Stretches H_Stretches_cut (hr.mono (by decide)) xw_def (pa_cons (pvM 2) (pa_cons (pvM 3) pa_nil)))))), ?_⟩
    unfold sp_cs sp_cut tDGet
    walk_at "wp"
    simp only [h1]
    walk_at "wp"
    refine ⟨hsF_no (by decide +kernel), z, rfl, l, f', g, tks, bk, hS, ?_⟩
    rcases q with ⟨h, q⟩ | ⟨h, hf, q⟩ | ⟨h, hf, t, ht, hn, q⟩
    · exact .inl ⟨h, q⟩
    · exact .inr (.inl ⟨h, hf, q⟩)
    obtain ⟨t', ht', hn', hv⟩ := tk_get h hS.nk
    obtain rfl : t' = t := nodup_inj hS.nk ht' ht (hn'.trans hn.symm)
    obtain ⟨a, hA, ho, hl⟩ := hS.st t' ht
    obtain ⟨dx2, vs2, e1, e2, e3⟩ := id hA
    refine .inr (.inr ⟨h, hf, T.cl_House, T.na_House_tasks, _, hsF_tasks, z.td, rfl, _, .inl ⟨_, Sum.inl n, .inl hS.t, rfl, hv.symm⟩, t'.p, rfl, dx2, _, e1, stF_no (by decide +kernel), t'.p, rfl, a, t'.rs, hA, ho, by omega, ?_⟩)
    rcases q with ⟨hp, q⟩ | ⟨hp, ho2, hl2, q⟩
    · rw [if_neg hp]; exact q
    · rw [if_pos hp]
      exact fun a' H2 hS2 hB => q H2 (by rw [← hn]; exact hS.set ht hS2 ho2 hl2 hB) hB
theorem tk_key {tks : List Tk} {t : Tk} (ht : t ∈ tks) : (Sum.inl t.n : Key) ∈ ksK (tkD tks) := by
  unfold ksK tkD
  rw [List.map_map]
  exact List.mem_map.mpr ⟨t, ht, rfl⟩

def outT (n : Int) (tks : List Tk) : List Tk := tks.filter fun t => decide (t.n ≠ n)
theorem outT_D {n : Int} {tks : List Tk} : dropK (tkD tks) (Sum.inl n) = tkD (outT n tks) := by
  unfold dropK tkD outT
  rw [List.filter_map]
  congr 1
  refine List.filter_congr fun t _ => ?_
  show decide ((Sum.inl t.n : Key) ≠ Sum.inl n) = decide (t.n ≠ n)
  rw [Bool.eq_iff_iff]
  simp only [decide_eq_true_eq]
  exact ⟨fun z e => z (by rw [e]), fun z e => z (Sum.inl.inj e)⟩
theorem HsG.less {A : Adr} {H : Hp} {z : Hz} {l f g : Int} {tks : List Tk} {bk : Kvs} {n : Int} (h : HsG A H z l f g tks bk) : HsG A (upd H z.td (.dK (tkD (outT n tks)))) z l f g (outT n tks) bk := by
  obtain ⟨dx, e⟩ := h.me
  obtain ⟨dxs, es⟩ := id h.sh
  have sub : ∀ t ∈ outT n tks, t ∈ tks := fun t ht => (List.mem_filter.mp ht).1
  exact ⟨⟨dx, by rw [upd_ne (ne_of e h.t (fun z => nomatch z))]; exact e⟩, ⟨dxs, by rw [upd_ne (ne_of es h.t (fun z => nomatch z))]; exact es⟩, upd_same, by rw [upd_ne h.ne.symm]; exact h.b, fun t ht => (h.st t (sub t ht)).kd h.t kd_upd, h.nd.sublist (List.Sublist.map _ List.filter_sublist), h.nk.sublist (List.Sublist.map _ List.filter_sublist), h.vb, h.ne, fun t ht => h.np t (sub t ht)⟩
theorem HsG.kd {A : Adr} {H H' : Hp} {z : Hz} {l f g : Int} {tks : List Tk} {bk kvs : Kvs} {d : Addr} (h : HsG A H z l f g tks bk) (hd : H d = some (.dK kvs)) (n1 : d ≠ z.td) (n2 : d ≠ z.bd) (k : Kd d H H') : HsG A H' z l f g tks bk := by
  obtain ⟨dx, e⟩ := h.me
  obtain ⟨dxs, es⟩ := id h.sh
  exact ⟨⟨dx, k _ _ e (ne_of e hd (fun z => nomatch z))⟩, ⟨dxs, k _ _ es (ne_of es hd (fun z => nomatch z))⟩, k _ _ h.t n1.symm, k _ _ h.b n2.symm, fun t ht => (h.st t ht).kd hd k, h.nd, h.nk, h.vb, h.ne, h.np⟩
def sp_end (A : Adr) : Sp := fun vs H Q E => ∃ (z : Hz) (l f g : Int) (tks : List Tk) (bk : Kvs) (n : Int), vs = [.ref z.p, .int n] ∧ HsG A H z l f g tks bk ∧
  ((Sum.inl n ∈ ksK (tkD tks) ∧ ∀ H', HsG A H' z l f g (outT n tks) bk → Kd z.td H H' → Q .non H') ∨ (Sum.inl n ∉ ksK (tkD tks) ∧ E (.ref A.C_NoTask) none H))
theorem h_end (T : Txt K mg A) : HaveM P w K mg base A.C_House "end_task" 2 ["self", "task"] [] (sp_end A) := by
  have H_House_check_task := h_ct (P := P) (w := w) (base := base) T
  refine T.r_House_end_task.have sc_House_end_task (fun vs H Q E z => ?_) ?_
  · obtain ⟨z, l, f, g, tk, bk, n, rfl, _⟩ := z; rfl
  · intro f cdv A' outer s H vs Q E hr z
    obtain ⟨z, l, f', g, tk, bk, n, rfl, hS, q⟩ := z
    obtain ⟨dx, h1⟩ := hS.me
    refine ⟨_, (pss_cons (ps_expr (pe_methE (pvM 0) T.cl_House H_House_check_task (hr.mono (by decide)) xw_def (pa_cons (pvM 1) pa_nil)))
      (pss_one (ps_expr (pe_dpop1 (pe_fld (pvM 0) rfl) (pvM 1) ⟨rfl, rfl, rfl, rfl⟩)))), ?_⟩
    unfold sp_ct tDPop1
    walk_at "wp"
    simp only [h1]
    walk_at "wp"
    refine ⟨hsF_no (by decide +kernel), z, rfl, l, f', g, tk, bk, hS, ?_⟩
    rcases q with ⟨h, q⟩ | ⟨h, q⟩
    · obtain ⟨v, hv⟩ := val_some h
      refine .inl ⟨h, T.cl_House, T.na_House_tasks, _, hsF_tasks, z.td, rfl, .inl ⟨_, .inl hS.t⟩, _, hS.t, Sum.inl n, rfl, v, hv, ?_⟩
      rw [outT_D]
      exact q _ hS.less kd_upd
    · exact .inr ⟨h, q⟩

theorem HsG.moreR {A : Adr} {H H' : Hp} {z : Hz} {l f g : Int} {tks : List Tk} {bk : Kvs} {k : Int} {p : Addr} {rs : List Rn} (h : HsG A H z l f g tks bk) (s : Same H H') (hn : H p = none) (hp : StOk A.C_Stretches H' ⟨k, p, rs⟩) (hk : Sum.inl k ∉ ksK (tkD tks)) :
    HsG A (upd H' z.td (.dK (tkD (tks ++ [⟨k, p, rs⟩])))) z l f g (tks ++ [⟨k, p, rs⟩]) bk := by
  have hs := h.same s
  obtain ⟨dx, e⟩ := hs.me
  obtain ⟨dxs, es⟩ := id hs.sh
  have np : ∀ t ∈ tks, t.p ≠ p := fun t ht z => by
    obtain ⟨a, ⟨dx, vs, e1, _⟩, _⟩ := h.st t ht
    rw [z, hn] at e1; cases e1
  refine ⟨⟨dx, ?_⟩, ⟨dxs, ?_⟩, upd_same, ?_, fun t ht => ?_, ?_, ?_, h.vb, h.ne, fun t ht => ?_⟩
  · rw [upd_ne (ne_of e hs.t (fun z => nomatch z))]; exact e
  · rw [upd_ne (ne_of es hs.t (fun z => nomatch z))]; exact es
  · rw [upd_ne h.ne.symm]; exact hs.b
  · rcases List.mem_append.mp ht with q | q
    · exact (hs.st t q).kd hs.t kd_upd
    · rw [List.mem_singleton.mp q]; exact hp.kd hs.t kd_upd
  · rw [List.map_append, List.map_cons, List.map_nil, List.nodup_append]
    refine ⟨h.nd, by simp, fun a ha b hb => ?_⟩
    obtain ⟨t, ht, rfl⟩ := List.mem_map.mp ha
    rw [List.mem_singleton.mp hb]; exact np t ht
  · rw [List.map_append, List.map_cons, List.map_nil, List.nodup_append]
    refine ⟨h.nk, by simp, fun a ha b hb z => ?_⟩
    obtain ⟨t, ht, rfl⟩ := List.mem_map.mp ha
    rw [List.mem_singleton.mp hb] at z
    refine hk ?_
    show _ ∈ (tkD tks).map (·.1)
    unfold tkD
    rw [List.map_map]
    exact List.mem_map.mpr ⟨t, ht, by show (Sum.inl t.n : Key) = _; rw [z]⟩
  · rcases List.mem_append.mp ht with q | q
    · exact h.np t q
    · rw [List.mem_singleton.mp q]
      obtain ⟨dx0, e0⟩ := h.me
      obtain ⟨dx1, e1⟩ := id h.sh
      exact ⟨(fun z => by rw [← z, hn] at e0; cases e0), (fun z => by rw [← z, hn] at e1; cases e1)⟩
def sp_fork (A : Adr) : Sp := fun vs H Q E => ∃ (z : Hz) (l f g : Int) (tks : List Tk) (bk : Kvs) (n : Int), vs = [.ref z.p, .int n] ∧ HsG A H z l f g tks bk ∧ tks.length < 1000 ∧
  ((Sum.inl n ∉ ksK (tkD tks) ∧ E (.ref A.C_NoTask) none H) ∨ ∃ t ∈ tks, t.n = n ∧ ∀ (k : Nat) (p : Addr) (H' : Hp), Lst (ksK (tkD tks)) k → HsG A H' z l f g (tks ++ [⟨k, p, t.rs⟩]) bk → H p = none → Kd z.td H H' → Q (.int k) H')
theorem h_fork (T : Txt K mg A) : HaveM P w K mg base A.C_House "fork" 4 ["self", "task"] [] (sp_fork A) := by
  have H_House_check_task := h_ct (P := P) (w := w) (base := base) T
  have H_least_free := h_least_free (P := P) (w := w) (base := base) T
  have H_Stretches_copied := h_copied (P := P) (w := w) (base := base) T
  refine T.r_House_fork.have sc_House_fork (fun vs H Q E z => ?_) ?_
  · obtain ⟨z, l, f, g, tks, bk, n, rfl, _⟩ := z; rfl
  · intro f cdv A' outer s H vs Q E hr z
    obtain ⟨z, l, f', g, tks, bk, n, rfl, hS, hl, q⟩ := z
    obtain ⟨dx, h1⟩ := hS.me
    have hlen : (tkD tks).length = tks.length := by unfold tkD; rw [List.length_map]
    refine ⟨_, (pss_cons (ps_expr (pe_methE (pvM 0) T.cl_House H_House_check_task (hr.mono (by decide)) xw_def (pa_cons (pvM 1) pa_nil)))
      (pss_cons (ps_set (i := 2) sc_House_fork.nd rfl (Or.inl rfl) (pe_callE H_least_free (hr.mono (by decide)) xw_def (pa_cons (pe_fld (pvM 0) rfl) pa_nil)))
      (pss_cons (ps_dput (hu_of hr) (pe_fld (pvM 0) rfl) (pvM 2) (pe_methE0 (pe_dget (hu_of hr) (pe_fld (pvM 0) rfl) (pvM 1) (fun _ _ => rfl)) T.cl_Stretches H_Stretches_copied (hr.mono (by decide)) xw_def) rfl)
      (pss_one (ps_ret (pvM 2)))))), ?_⟩
    unfold sp_least_free sp_copied sp_ct sDPut tDGet
    walk_at "wp"
    simp only [h1]
    walk_at "wp"
    refine ⟨hsF_no (by decide +kernel), z, rfl, l, f', g, tks, bk, hS, ?_⟩
    rcases q with ⟨h, q⟩ | ⟨t, ht, hn, q⟩
    · exact .inr ⟨h, q⟩
    subst hn
    obtain ⟨t', ht', hn', hv⟩ := tk_get (tk_key ht) hS.nk
    obtain rfl : t' = t := nodup_inj hS.nk ht' ht hn'
    obtain ⟨a, hA, ho, hll⟩ := hS.st t' ht
    obtain ⟨dx2, vs2, e1, e2, e3⟩ := id hA
    refine .inl ⟨tk_key ht, T.cl_House, T.na_House_tasks, _, hsF_tasks, z.td, rfl, _, hS.t, fun k hk => ⟨T.cl_House, T.na_House_tasks, _, hsF_tasks, z.td, rfl, _, .inl ⟨_, Sum.inl t'.n, .inl hS.t, rfl, hv.symm⟩, t'.p, rfl, dx2, _, e1, stF_no (by decide +kernel), t'.p, rfl, a, t'.rs, hA, fun p' a' H1 s1 hp' hA' => ?_⟩⟩
    have hz := PySem.sizeLine_eq
    refine ⟨_, dx, _, s1 _ _ h1, T.cl_House, T.na_House_tasks, _, hsF_tasks, z.td, rfl, _, .inl ⟨_, Sum.inl (k : Int), s1 _ _ hS.t, rfl, by omega, rfl⟩, ?_⟩
    have e : putK (tkD tks) (Sum.inl (k : Int)) (.ref p') = tkD (tks ++ [⟨k, p', t'.rs⟩]) := by
      rw [ks_put hk.1]
      unfold tkD
      rw [List.map_append]; rfl
    rw [e]
    exact q k p' _ hk (hS.moreR s1 hp' ⟨a', hA', ho, hll⟩ hk.1) hp' ((Kd.of s1).trans kd_upd)

def sp_drop (A : Adr) : Sp := fun vs H Q E => ∃ (z : Hz) (l f g : Int) (tks : List Tk) (bk : Kvs) (n : Int), vs = [.ref z.p, .int n] ∧ HsG A H z l f g tks bk ∧ tks.length ≤ 1000 ∧
  ((Sum.inl n ∉ ksK bk ∧ E (.ref A.C_NoBank) none H) ∨ (Sum.inl n ∈ ksK bk ∧ (∃ t ∈ tks, t.rs.any (tiedTo n) = true) ∧ ∀ H', Same H H' → E (.ref A.C_Busy) none H') ∨
  (Sum.inl n ∈ ksK bk ∧ (∀ t ∈ tks, t.rs.any (tiedTo n) = false) ∧ ∀ H', HsG A H' z l f g tks (dropK bk (Sum.inl n)) → Kd z.bd H H' → Q .non H'))
theorem h_drop (T : Txt K mg A) : HaveM P w K mg base A.C_House "drop_bank" 2 ["self", "bank"] [] (sp_drop A) := by
  have H_House_check_bank := h_cb (P := P) (w := w) (base := base) T
  have H_Stretches_is_tied := h_tied (P := P) (w := w) (base := base) T
  refine T.r_House_drop_bank.have sc_House_drop_bank (fun vs H Q E z => ?_) ?_
  · obtain ⟨z, l, f, g, tk, bk, n, rfl, _⟩ := z; rfl
  · intro f cdv A' outer s H vs Q E hr z
    obtain ⟨z, l, f', g, tks, bk, n, rfl, hS, hln, q⟩ := z
    obtain ⟨dx, h1⟩ := hS.me
    refine ⟨_, (pss_cons (ps_expr (pe_methE (pvM 0) T.cl_House H_House_check_bank (hr.mono (by decide)) xw_def (pa_cons (pvM 1) pa_nil)))
      (pss_cons (ps_if (pt_val (pe_callB (call_any rfl) rfl T.b_any (by decide +kernel) (pa_cons (pe_thaw (pe_comp rfl (pi_vals (pe_dvals (pe_fld (pvM 0) rfl))) (x := "stretches") (fs := ["bank"]) (ix := [1]) rfl rfl (fun _ _ _ _ _ _ => (pg_name (i := 0) (show (["stretches", "bank"] : List Str).Nodup by decide +kernel) rfl (Or.inl rfl))) (fun _ _ _ _ _ _ => pf_nil) (fun _ _ _ _ _ _ => (pe_methE (pvM 0) T.cl_Stretches H_Stretches_is_tied (hr.mono (by decide)) xw_no (pa_cons (pvM 1) pa_nil))))) pa_nil))) (pss_one (ps_raise xr_def rfl T.x_Busy (pa_cons pe_str pa_nil))) pss_nil)
      (pss_one (ps_expr (pe_dpop1 (pe_fld (pvM 0) rfl) (pvM 1) ⟨rfl, rfl, rfl, rfl⟩))))), ?_⟩
    unfold sp_cb tDPop1 sp_tied tThawE
    walk_at "wp"
    simp only [h1]
    walk_at "wp"
    refine ⟨hsF_no (by decide +kernel), z, rfl, l, f', g, tks, bk, hS, ?_⟩
    by_cases hk : Sum.inl n ∈ ksK bk
    rotate_left
    · refine .inr ⟨hk, ?_⟩
      rcases q with ⟨_, q⟩ | ⟨h, _⟩ | ⟨h, _⟩
      · exact q
      · exact absurd h hk
      · exact absurd h hk
    refine .inl ⟨hk, z.td, (fun o u e => ?_), T.cl_House, T.na_House_tasks, _, hsF_tasks, z.td, rfl, _, hS.t, fun v hv => ⟨z.td, rfl, tkD tks, (same_upd same_refl hv) _ _ hS.t, fun o D hD => ?_⟩⟩
    · have e : H z.td = some (.frz o u) := e
      rw [hS.t] at e; cases e
    have b1 := same_upd (o := valsO v z.td) (same_refl (H := H)) hv
    have hk2 : ∀ b u, H b = some u → b ≠ z.td → upd (upd H v (valsO v z.td)) z.td (.frz o (.dK (tkD tks))) b = some u := fun b u h hb => by rw [upd_ne hb]; exact b1 _ _ h
    have ha2 : upd (upd H v (valsO v z.td)) z.td (.frz o (.dK (tkD tks))) z.td = some (.frz o (.dK (tkD tks))) := upd_same
    generalize upd (upd H v (valsO v z.td)) z.td (.frz o (.dK (tkD tks))) = H2 at *
    have hDa : D ≠ z.td := fun z => by rw [z, ha2] at hD; cases hD
    have hD0 : H D = none := by
      cases e : H D with
      | none => rfl
      | some u => rw [hk2 D u e hDa] at hD; cases hD
    have hlen : (tkD tks).length = tks.length := by unfold tkD; rw [List.length_map]
    refine comp_vals (fun i ys σ H' => ∃ v0, σ = [v0, some (.int n)] ∧ Kd z.td H H' ∧ H' z.td = some (.frz o (.dK (tkD tks))) ∧ ys = ((tks.take i).map fun t => t.rs.any (tiedTo n)).map V.bl ∧ H' D = some (.lst ys)) ⟨_, rfl, fun b u h hb => ?_, ?_, rfl, upd_same⟩ (fun i ys σ H' _ ⟨_, _, _, e, _⟩ => e) (fun i k x ys σ H' hi => ?_) (fun ys σ H' => ?_)
    · rw [upd_ne (ne_of_none h hD0)]; exact hk2 b u h hb
    · rw [upd_ne (Ne.symm hDa)]; exact ha2
    · rintro ⟨v0, rfl, hkd, ha, rfl, hD'⟩
      unfold tkD at hi
      rw [List.getElem?_map] at hi
      obtain ⟨t, hti, e⟩ := Option.map_eq_some_iff.mp hi
      cases e
      have hil := (List.getElem?_eq_some_iff.mp hti).1
      have ht := List.mem_of_getElem? hti
      obtain ⟨a2, hA, ho, hl⟩ := (hS.st t ht).kd hS.t hkd
      obtain ⟨dx2, vs2, g1, g2, g3⟩ := id hA
      have etk : tks.take (i + 1) = tks.take i ++ [t] := by rw [List.take_add_one, hti]; rfl
      walk_at "wp"
      refine ⟨dx2, _, g1, stF_no (by decide +kernel), a2, t.rs, hA, by omega, fun H3 s3 => ⟨s3 _ _ hD', by rw [List.length_map, List.length_map, List.length_take]; omega, fun b u h hb => ?_, ?_, ?_⟩⟩
      · rw [upd_ne (ne_of_none h hD0)]; exact s3 _ _ (hkd _ _ h hb)
      · rw [upd_ne (Ne.symm hDa)]; exact s3 _ _ ha
      · rw [etk, List.map_append, List.map_append]; rfl
    · rintro ⟨v0, rfl, hkd, ha, rfl, hD'⟩
      rw [hlen, List.take_length] at hD'
      have hk4 : Same H (upd H' z.td (.dK (tkD tks))) := fun c u h => by
        by_cases hc : c = z.td
        · rw [hc, upd_same, ← hS.t, ← h, hc]
        · rw [upd_ne hc]; exact hkd _ _ h hc
      rw [thawH_of ha]
      have hD4 : upd H' z.td (.dK (tkD tks)) D = some (.lst ((tks.map fun t => t.rs.any (tiedTo n)).map V.bl)) := by rw [upd_ne hDa]; exact hD'
      generalize upd H' z.td (.dK (tkD tks)) = H4 at *
      refine ⟨tks.map fun t => t.rs.any (tiedTo n), SqL.of hD4, ?_⟩
      have eany : (tks.map fun t => t.rs.any (tiedTo n)).any id = true ↔ ∃ t ∈ tks, t.rs.any (tiedTo n) = true := by
        rw [List.any_map, List.any_eq_true]
        rfl
      rcases q with ⟨h, _⟩ | ⟨_, h, q⟩ | ⟨_, h, q⟩
      · exact absurd hk h
      · rw [eany.mpr h]
        refine iteT ?_
        exact q _ hk4
      · have e : (tks.map fun t => t.rs.any (tiedTo n)).any id = false := by
          rw [Bool.eq_false_iff]
          intro z
          obtain ⟨t, ht, e⟩ := eany.mp z
          rw [h t ht] at e; cases e
        rw [e]
        have hS4 := hS.same hk4
        obtain ⟨v, hv⟩ := val_some hk
        exact iteF ⟨_, dx, _, hk4 _ _ h1, T.cl_House, T.na_House_banks, _, hsF_banks, z.bd, rfl, .inl ⟨bk, .inl hS4.b⟩, bk, hS4.b, Sum.inl n, rfl, v, hv, q _ (hS4.bank fun kv hkv => hS.vb kv (dropK_mem hkv)) ((Kd.of hk4).trans kd_upd)⟩

theorem len_le : ∀ {L : List Rn} {a e : Int}, OrdR L → a ≤ e → (∀ x ∈ L, a ≤ x.f ∧ enR x ≤ e) → (L.length : Int) ≤ e - a
  | [], a, e, _, h, _ => by show (0 : Int) ≤ _; omega
  | r :: L, a, e, o, h, hb => by
    have h1 := hb r (List.mem_cons_self ..)
    have h2 := o.2 r (List.mem_cons_self ..)
    have h3 := len_le (L := L) (a := enR r) (e := e) o.tail h1.2 (fun x hx => ⟨o.head x hx, (hb x (List.mem_cons_of_mem _ hx)).2⟩)
    have h4 : enR r = r.f + r.m := rfl
    rw [List.length_cons]
    push_cast
    omega
theorem lay_page {rs : List Rn} {x r : Int} {t : Option (Int × Int)} (o : OrdR rs) (l : LstR rs) (h : pm rs x = none) : pam rs x 1 = [] ∧ OrdR (lyT rs x 1 r t) ∧ LstR (lyT rs x 1 r t) ∧ ∀ p, pm (lyT rs x 1 r t) p = if p = x then some (r, t) else pm rs p := by
  obtain ⟨h1, h2, h3⟩ := lay_ok (parts := [⟨x, 1, r, t⟩]) (a := x) (n := 1) o l (by decide) (ord_one (by show (0 : Int) < 1; decide)) (fun y hy => by rw [List.mem_singleton.mp hy]; exact ⟨Int.le_refl _, Int.le_refl _⟩)
  refine ⟨(free_iff o (by decide)).mpr fun p h1 h2 => ?_, h1, h2, fun p => ?_⟩
  · rw [show p = x by omega]; exact h
  · show pm (layR rs x 1 [⟨x, 1, r, t⟩]) p = _
    rw [h3]
    by_cases c : p = x
    · subst c
      rw [if_pos (by omega), if_pos rfl]
      show (if p ≤ p ∧ p < enR ⟨p, 1, r, t⟩ then some (r, tf ⟨p, 1, r, t⟩ p) else none) = _
      rw [if_pos ⟨Int.le_refl _, by show p < p + 1; omega⟩, show tf ⟨p, 1, r, t⟩ p = t from tf_at (r := ⟨p, 1, r, t⟩)]
    · rw [if_neg (by omega), if_neg c]
theorem pages_len {rs : List Rn} {a e : Int} (o : OrdR rs) (h : ∀ p, pm rs p ≠ none → a ≤ p ∧ p < e) (hae : a ≤ e) : (rs.length : Int) ≤ e - a := by
  refine len_le o hae fun x hx => ?_
  have h0 := o.2 x hx
  have h4 : enR x = x.f + x.m := rfl
  have h1 := h x.f (by rw [pm_mem o hx (Int.le_refl _) (by omega)]; exact fun z => nomatch z)
  have h2 := h (enR x - 1) (by rw [pm_mem o hx (by omega) (by omega)]; exact fun z => nomatch z)
  omega

theorem lift_page {rs : List Rn} {x : Int} (o : OrdR rs) (l : LstR rs) (h : pm rs x ≠ none) : ((pam rs x 1).map (·.m)).sum = 1 ∧ OrdR (layR rs x 1 []) ∧ LstR (layR rs x 1 []) ∧ ∀ p, pm (layR rs x 1 []) p = if p = x then none else pm rs p := by
  obtain ⟨h1, h2, h3⟩ := lay_ok (parts := []) (a := x) (n := 1) o l (by decide) ⟨.nil, fun r hr => by simp at hr⟩ (fun y hy => by simp at hy)
  refine ⟨(full_iff o (by decide)).mpr fun p a b => by rw [show p = x by omega]; exact h, h1, h2, fun p => ?_⟩
  rw [h3]
  by_cases c : p = x
  · rw [if_pos (by omega), if_pos c]; rfl
  · rw [if_neg (by omega), if_neg c]
theorem valV_drop {kvs : Kvs} {k j : Key} : valV (dropK kvs k) j = if j = k then none else valV kvs j := by
  induction kvs with
  | nil => split <;> rfl
  | cons p r ih =>
    by_cases h : p.1 = k
    · rw [dropK_pos h, ih]
      by_cases c : j = k
      · rw [if_pos c, if_pos c]
      · rw [if_neg c, if_neg c, valV_neg (fun z => c (by rw [← z, h]))]
    · rw [dropK_neg h]
      by_cases c : p.1 = j
      · rw [valV_pos c, if_neg (fun z => h (by rw [c, z])), valV_pos c]
      · rw [valV_neg c, ih, valV_neg c]
theorem put_keys {kvs : Kvs} {k : Key} {v u : V} (h : valV kvs k = some u) : (putK kvs k v).map (·.1) = kvs.map (·.1) := by
  unfold putK
  rw [valV_any, h, if_pos (show (some u).isSome = true from rfl), List.map_map]
  refine List.map_congr_left fun p _ => ?_
  show (if p.1 = k then (p.1, v) else p).1 = p.1
  split <;> rfl
def Tp (H H' : Hp) : Prop := ∀ c xs, H c = some (.tup xs) → H' c = some (.tup xs)
theorem Tp.of {H H' : Hp} (s : Same H H') : Tp H H' := fun c xs h => s c _ h
theorem Tp.kd {H H' : Hp} {d : Addr} {o : HO} (hd : H d = some o) (ho : ∀ xs, o ≠ .tup xs) (k : Kd d H H') : Tp H H' := fun c xs h => k _ _ h (ne_of h hd (fun z => ho _ z.symm))
def Bt (p d : Addr) (H H' : Hp) : Prop := ∀ c o, H c = some o → c ≠ p → c ≠ d → H' c = some o

def sp_ldrop (A : Adr) : Sp := fun vs H Q _ => ∃ (z : Hz) (l f g : Int) (tks : List Tk) (bk : Kvs) (n : Int), vs = [.ref z.p, .int n] ∧ HsG A H z l f g tks bk ∧ tks.length ≤ 1000 ∧
  ((Sum.inl n ∉ ksK bk ∧ ∀ H', Same H H' → Q (.str "bank") H') ∨ (Sum.inl n ∈ ksK bk ∧ (∃ t ∈ tks, t.rs.any (tiedTo n) = true) ∧ ∀ H', Same H H' → Q (.str "busy") H') ∨
  (Sum.inl n ∈ ksK bk ∧ (∀ t ∈ tks, t.rs.any (tiedTo n) = false) ∧ ∀ H', HsG A H' z l f g tks (dropK bk (Sum.inl n)) → Kd z.bd H H' → Q (.str "") H'))
theorem h_ldrop (T : Txt K mg A) : Have P w K mg base "_law_drop" 4 ["_law_house", "_law_bank"] [] (sp_ldrop A) := by
  have H_House_drop_bank := h_drop (P := P) (w := w) (base := base) T
  refine T.r_l_drop.have sc_l_drop (fun vs H Q E z => ?_) ?_
  · obtain ⟨z, l, f, g, tk, bk, n, rfl, _⟩ := z; rfl
  · intro f cdv A' outer s H vs Q E hr z
    obtain ⟨z, l, f', g, tks, bk, n, rfl, hS, hl, q⟩ := z
    refine ⟨_, (pss_cons (ps_set (i := 2) sc_l_drop.nd rfl (Or.inl rfl) pe_str)
      (pss_cut (ps_try_as (i := 4) sc_l_drop.nd rfl rfl T.h_FrameError (fun _ _ _ po1 xw1 => (pss_cons (ps_set (i := 3) sc_l_drop.nd rfl (Or.inl rfl) (pe_methE (pvM 0) T.cl_House H_House_drop_bank (hr.mono (by decide)) xw1 (pa_cons (pvM 1) pa_nil)))
      (pss_one (ps_if (pt_cmpR op_notN (pvM 3) pe_non (nomark _)) (pss_one (ps_set (i := 2) sc_l_drop.nd rfl (Or.inl rfl) pe_str)) pss_nil)))) pss_nil (fun _ => (pss_cons (ps_if (pt_val (pe_callB call_isxC rfl T.b_isinstance PyProof.Rows.boot_isinstance (pa_cons (pvM 4) (pa_cons (pe_globE rfl T.m_NoBank) pa_nil)))) (pss_one (ps_set (i := 2) sc_l_drop.nd rfl (Or.inl rfl) (pe_op op_catS (pvM 2) pe_str))) pss_nil)
      (pss_one (ps_if (pt_val (pe_callB call_isxC rfl T.b_isinstance PyProof.Rows.boot_isinstance (pa_cons (pvM 4) (pa_cons (pe_globE rfl T.m_Busy) pa_nil)))) (pss_one (ps_set (i := 2) sc_l_drop.nd rfl (Or.inl rfl) (pe_op op_catS (pvM 2) pe_str))) pss_nil)))))
      (pss_one (ps_ret (pvM 2))))), ?_⟩
    walk_at "wp"
    refine ⟨fun σ H' => ∃ (w : Str) (v3 v4 : Option V), σ = [some (.ref z.p), some (.int n), some (.str w), v3, v4] ∧ Q (.str w) H', ?_, fun σ' H1 => ?_⟩
    · unfold sp_drop
      walk_at "wp"
      obtain ⟨dx, h1⟩ := hS.me
      refine ⟨dx, _, h1, rfl, z, rfl, l, f', g, tks, bk, hS, hl, ?_⟩
      rcases q with ⟨hk, q⟩ | ⟨hk, ht, q⟩ | ⟨hk, ht, q⟩
      · refine .inl ⟨hk, _, rfl, T.sub_NoBank_FrameError, fun ea hea => ⟨T.xi_NoBank, true, T.kit_NoBank_NoBank, iteT ⟨by decide +kernel, T.xi_NoBank, false, T.kit_NoBank_Busy, iteF ?_⟩⟩⟩
        rw [show (Str.ofString "" ++ Str.ofString "bank") = Str.ofString "bank" by decide +kernel]
        exact q _ (same_upd same_refl hea)
      · refine .inr (.inl ⟨hk, ht, fun H1 s1 => ⟨_, rfl, T.sub_Busy_FrameError, fun ea hea => ⟨T.xi_Busy, false, T.kit_Busy_NoBank, iteF ⟨T.xi_Busy, true, T.kit_Busy_Busy, iteT ⟨by decide +kernel, ?_⟩⟩⟩⟩⟩)
        rw [show (Str.ofString "" ++ Str.ofString "busy") = Str.ofString "busy" by decide +kernel]
        exact q _ (s1.trans (same_upd same_refl hea))
      · refine .inr (.inr ⟨hk, ht, fun H1 hS1 hK => ?_⟩)
        exact iteF (q _ hS1 hK)
    rintro ⟨w, v3, v4, rfl, q⟩
    walk_at "wp"
    exact q
def sp_ltied : Sp := fun vs H Q _ => ∃ (rd : Addr) (rk : Kvs) (b : Int) (B : Bool), vs = [.ref rd, .int b] ∧ H rd = some (.dK rk) ∧ (∀ k v, (k, v) ∈ rk → ∃ d kv, v = .ref d ∧ d ≠ rd ∧ H d = some (.dK kv) ∧ ∀ k' v', (k', v') ∈ kv → ∃ i : Int, v' = .int i) ∧
  (B = true ↔ ∃ k d kv k', (k, V.ref d) ∈ rk ∧ H d = some (.dK kv) ∧ (k', V.int b) ∈ kv) ∧ ∀ H', Same H H' → Q (.bl B) H'
theorem cxOf_H0 {CX : CXT} {P : Program} {w : World} {K : PySem.W.Frag} {mg : Str → Option Value} {base : Heap} {N : List Str} {qual : Str} {scope : Scope} {f : Addr} {cd : Value} {A : Around} {outer : List Env} {s : Shared} {H : Hp} {E : XK} : (cxOf CX P w K mg base N qual scope f cd A outer s H E).H₀ = H := rfl
theorem h_ltied (T : Txt K mg A) : Have P w K mg base "_law_tied" 1 ["_law_rooms", "_law_bank"] [] sp_ltied := by
  refine T.r_l_tied.have sc_l_tied (fun vs H Q E z => ?_) ?_
  · obtain ⟨rd, rk, b, B, rfl, _⟩ := z; rfl
  · intro f cdv A' outer s H vs Q E hr z
    obtain ⟨rd, rk, b, B, rfl, hrd, hv, hB, q⟩ := z
    refine ⟨_, (pss_cons (ps_thaw (ps_forE PassesOwn.leaving rfl (pi_vals (pe_dvals (pvM 0))) (pg_name (i := 2) sc_l_tied.nd rfl (Or.inl rfl)) (pss_one (ps_thaw (ps_forE PassesOwn.leaving rfl (pi_vals (pe_dvals (pvM 2))) (pg_name (i := 3) sc_l_tied.nd rfl (Or.inl rfl)) (pss_one (ps_if (pt_cmpR op_eq (pvM 3) (pvM 1) (nomark _)) (pss_one (ps_ret pe_bl)) pss_nil)))))))
      (pss_one (ps_ret pe_bl))), ?_⟩
    unfold tThaw
    walk_at "wp"
    refine ⟨rd, (fun o u => by rw [cxOf_H0, hrd]; exact fun z => nomatch z), _, hrd, fun v0 hv0 => ⟨rd, rfl, rk, (same_upd same_refl hv0) _ _ hrd, fun o => ?_⟩⟩
    have hk0 : Kd rd H (upd (upd H v0 (valsO v0 rd)) rd (.frz o (.dK rk))) := fun c u h hc => by rw [upd_ne hc]; exact (same_upd same_refl hv0) _ _ h
    have thr : ∀ {H' : Hp}, Kd rd H H' → H' rd = some (.frz o (.dK rk)) → Same H (thawH rd H') := fun k1 hf c u h => by
      rw [thawH_of hf]
      by_cases e : c = rd
      · rw [e, upd_same, ← hrd, ← e]; exact h
      · rw [upd_ne e]; exact k1 c u h e
    refine loop_vals (fun i σ H' => ∃ v2 v3, σ = [some (.ref rd), some (.int b), v2, v3] ∧ Kd rd H H' ∧ H' rd = some (.frz o (.dK rk)) ∧ ∀ j, j < i → ∀ k d kv k', rk[j]? = some (k, .ref d) → H d = some (.dK kv) → (k', V.int b) ∉ kv) ⟨_, _, rfl, hk0, upd_same, fun j hj => absurd hj (by omega)⟩ (fun i σ H' _ ⟨_, _, _, _, e, _⟩ => e) (fun i k v σ H' hi => ?_) (fun σ H' => ?_)
    · rintro ⟨v2, v3, rfl, k1, hf, hno⟩
      obtain ⟨d, kv, rfl, hne, hd, hint⟩ := hv k v (List.mem_of_getElem? hi)
      have hd1 := k1 _ _ hd hne
      walk_at "wp"
      refine ⟨d, (fun o u => by rw [cxOf_H0, hd]; exact fun z => nomatch z), ?_⟩
      refine ⟨kv, hd1, fun w0 hw0 => ⟨d, rfl, kv, (same_upd same_refl hw0) _ _ hd1, fun o2 => ?_⟩⟩
      have hk2 : Kd d H' (upd (upd H' w0 (valsO w0 d)) d (.frz o2 (.dK kv))) := fun c u h hc => by rw [upd_ne hc]; exact (same_upd same_refl hw0) _ _ h
      have thd : ∀ {H2 : Hp}, Kd d H' H2 → H2 d = some (.frz o2 (.dK kv)) → Same H' (thawH d H2) := fun k3 hf2 c u h => by
        rw [thawH_of hf2]
        by_cases e : c = d
        · rw [e, upd_same, ← hd1, ← e]; exact h
        · rw [upd_ne e]; exact k3 c u h e
      refine loop_vals (fun j σ H2 => ∃ v3, σ = [some (.ref rd), some (.int b), some (.ref d), v3] ∧ Kd d H' H2 ∧ H2 d = some (.frz o2 (.dK kv)) ∧ ∀ m, m < j → ∀ k', kv[m]? ≠ some (k', V.int b)) ⟨_, rfl, hk2, upd_same, fun m hm => absurd hm (by omega)⟩ (fun i σ H2 _ ⟨_, _, _, e, _⟩ => e) (fun j k' v' σ H2 hj => ?_) (fun σ H2 => ?_)
      · rintro ⟨v3, rfl, k3, hf2, hno2⟩
        obtain ⟨x, rfl⟩ := hint k' v' (List.mem_of_getElem? hj)
        walk_at "wp"
        refine ite2 (fun e => ?_) (fun e => ?_)
        · show Q (.bl true) (thawH rd (thawH d H2))
          have s2 := thd k3 hf2
          have eB : B = true := hB.mpr ⟨k, d, kv, k', List.mem_of_getElem? hi, hd, by rw [← e]; exact List.mem_of_getElem? hj⟩
          rw [eB] at q
          exact q _ (thr (fun c u h hc => s2 _ _ (k1 c u h hc)) (s2 _ _ hf))
        · refine ⟨k3, hf2, fun m hm k2 h => ?_⟩
          by_cases c : m < j
          · exact hno2 m c k2 h
          · obtain rfl : m = j := by omega
            rw [hj] at h
            cases h
            exact e rfl
      · rintro ⟨v3, rfl, k3, hf2, hno2⟩
        have s2 := thd k3 hf2
        refine ⟨_, _, rfl, fun c u h hc => s2 _ _ (k1 c u h hc), s2 _ _ hf, fun j hj k2 d2 kv2 k3' e1 e2 hm => ?_⟩
        by_cases c : j < i
        · exact hno j c k2 d2 kv2 k3' e1 e2 hm
        · obtain rfl : j = i := by omega
          rw [hi] at e1
          cases e1
          rw [hd] at e2
          cases e2
          obtain ⟨m, hm1, hm2⟩ := List.getElem_of_mem hm
          exact hno2 m hm1 k3' (by rw [List.getElem?_eq_getElem hm1, hm2])
    · rintro ⟨v2, v3, rfl, k1, hf, hno⟩
      have e : B = false := by
        rw [Bool.eq_false_iff]
        intro z
        obtain ⟨k, d, kv, k', h1, h2, h3⟩ := hB.mp z
        obtain ⟨j, hj1, hj2⟩ := List.getElem_of_mem h1
        exact hno j hj1 k d kv k' (by rw [List.getElem?_eq_getElem hj1, hj2]) h2 h3
      show Q (.bl false) (thawH rd H')
      rw [e] at q
      exact q _ (thr k1 hf)
def bkOf (rs : List Rn) (p : Int) : Option Int := (pm rs p).bind fun g => g.2.map (·.1)
structure MbAt (H : Hp) (N : Nat) (d : Addr) (kv : Kvs) (rs : List Rn) : Prop where
  d : H d = some (.dK kv)
  v : ∀ p : Int, valV kv (Sum.inl p) = (bkOf rs p).map V.int
  t : ∀ p g, pm rs p = some g → g.2 ≠ none
  k : ∃ ns : List Int, kv.map (·.1) = ns.map Sum.inl ∧ ns.Nodup
  n : kv.length ≤ N
  b : ∀ p, pm rs p ≠ none → 0 ≤ p ∧ p < 64
  l : LstR rs
theorem MbAt.at {H H' : Hp} {N : Nat} {d : Addr} {kv : Kvs} {rs : List Rn} (h : MbAt H N d kv rs) (hd : H' d = some (.dK kv)) : MbAt H' N d kv rs := ⟨hd, h.v, h.t, h.k, h.n, h.b, h.l⟩
theorem MbAt.le {H : Hp} {N N' : Nat} {d : Addr} {kv : Kvs} {rs : List Rn} (h : MbAt H N d kv rs) (hN : N ≤ N') : MbAt H N' d kv rs := ⟨h.d, h.v, h.t, h.k, Nat.le_trans h.n hN, h.b, h.l⟩
theorem MbAt.isN {H : Hp} {N : Nat} {d : Addr} {kv : Kvs} {rs : List Rn} (h : MbAt H N d kv rs) {p : Int} : valV kv (Sum.inl p) = .none ↔ pm rs p = .none := by
  rw [h.v]
  unfold bkOf
  cases e : pm rs p with
  | none => simp
  | some g =>
    have := h.t p g e
    obtain ⟨r, t⟩ := g
    cases t with
    | none => exact absurd rfl this
    | some t => simp
theorem val_of_mem {ns : List Int} {v : V} {k : Key} : ∀ {kv : Kvs} {ns : List Int}, kv.map (·.1) = ns.map Sum.inl → ns.Nodup → (k, v) ∈ kv → valV kv k = some v
  | [], _, _, _, h => by simp at h
  | q :: r, [], e, _, _ => by simp at e
  | q :: r, x :: xs, e, nd, h => by
    have e1 : q.1 = Sum.inl x := by simpa using (List.cons.inj e).1
    have e2 := (List.cons.inj e).2
    rw [List.nodup_cons] at nd
    rcases List.mem_cons.mp h with rfl | h
    · exact valV_pos rfl
    · rw [valV_neg (fun z => ?_)]
      · exact val_of_mem (ns := ns) e2 nd.2 h
      · have : k ∈ r.map (·.1) := List.mem_map.mpr ⟨_, h, rfl⟩
        rw [← z, e1, e2] at this
        obtain ⟨y, hy, ey⟩ := List.mem_map.mp this
        exact nd.1 (by rw [← Sum.inl.inj ey]; exact hy)
theorem MbAt.tied {H : Hp} {N : Nat} {d : Addr} {kv : Kvs} {rs : List Rn} (h : MbAt H N d kv rs) (o : OrdR rs) {b : Int} : rs.any (tiedTo b) = true ↔ ∃ k, (k, V.int b) ∈ kv := by
  have e : rs.any (tiedTo b) = true ↔ ∃ p x k, pm rs p = some (x, some (b, k)) := tied_iff o
  rw [e]
  constructor
  · rintro ⟨p, x, k, hp⟩
    have : valV kv (Sum.inl p) = some (.int b) := by rw [h.v]; unfold bkOf; rw [hp]; rfl
    exact ⟨_, val_mem this⟩
  · rintro ⟨k, hk⟩
    obtain ⟨ns, ek, nd⟩ := h.k
    have hv := val_of_mem (ns := ns) ek nd hk
    have : k ∈ kv.map (·.1) := List.mem_map.mpr ⟨_, hk, rfl⟩
    rw [ek] at this
    obtain ⟨p, _, rfl⟩ := List.mem_map.mp this
    rw [h.v] at hv
    unfold bkOf at hv
    cases e2 : pm rs p with
    | none => rw [e2] at hv; cases hv
    | some g =>
      obtain ⟨r, t⟩ := g
      rw [e2] at hv
      cases t with
      | none => cases hv
      | some t =>
        obtain ⟨b', k'⟩ := t
        have hv : some (V.int b') = some (.int b) := hv
        cases hv
        exact ⟨p, r, k', e2⟩
structure Mb where
  n : Int
  p : Addr
  rs : List Rn
  d : Addr
  kv : Kvs
def Mb.tk (m : Mb) : Tk := ⟨m.n, m.p, m.rs⟩
def mkB (m : Mb) : Key × V := (Sum.inl m.n, .ref m.d)
structure RbAt (A : Adr) (H : Hp) (z : Hz) (N : Nat) (rd : Addr) (ms : List Mb) (bk : Kvs) : Prop where
  h : HsG A H z 3 2 0 (ms.map Mb.tk) bk
  m : ∀ m ∈ ms, MbAt H N m.d m.kv m.rs
  nd : (ms.map Mb.d).Nodup
  zz : ∀ m ∈ ms, m.d ≠ z.td ∧ m.d ≠ z.bd ∧ m.d ≠ rd
  r : H rd = some (.dK (ms.map mkB))
  rz : rd ≠ z.td ∧ rd ≠ z.bd
theorem RbAt.nn {H : Hp} {z : Hz} {N : Nat} {rd : Addr} {ms : List Mb} {bk : Kvs} (h : RbAt A H z N rd ms bk) : (ms.map Mb.n).Nodup := by
  have := h.h.nk
  rw [List.map_map] at this
  exact this
theorem RbAt.same {H H' : Hp} {z : Hz} {N : Nat} {rd : Addr} {ms : List Mb} {bk : Kvs} (h : RbAt A H z N rd ms bk) (s : Same H H') : RbAt A H' z N rd ms bk := ⟨h.h.same s, fun m hm => (h.m m hm).at (s _ _ (h.m m hm).d), h.nd, h.zz, s _ _ h.r, h.rz⟩
theorem RbAt.bank {H H' : Hp} {z : Hz} {N : Nat} {rd : Addr} {ms : List Mb} {bk bk' : Kvs} (h : RbAt A H z N rd ms bk) (hS : HsG A H' z 3 2 0 (ms.map Mb.tk) bk') (k : Kd z.bd H H') : RbAt A H' z N rd ms bk' := ⟨hS, fun m hm => (h.m m hm).at (k _ _ (h.m m hm).d (h.zz m hm).2.1), h.nd, h.zz, k _ _ h.r h.rz.2, h.rz⟩
theorem RbAt.kd {H H' : Hp} {z : Hz} {N : Nat} {rd d : Addr} {ms : List Mb} {bk kvs : Kvs} (h : RbAt A H z N rd ms bk) (hd : H d = some (.dK kvs)) (n1 : d ≠ z.td) (n2 : d ≠ z.bd) (n3 : d ≠ rd) (n4 : ∀ m ∈ ms, d ≠ m.d) (k : Kd d H H') : RbAt A H' z N rd ms bk := ⟨h.h.kd hd n1 n2 k, fun m hm => (h.m m hm).at (k _ _ (h.m m hm).d (n4 m hm).symm), h.nd, h.zz, k _ _ h.r n3.symm, h.rz⟩
theorem RbAt.tied {H : Hp} {z : Hz} {N : Nat} {rd : Addr} {ms : List Mb} {bk : Kvs} (h : RbAt A H z N rd ms bk) {b : Int} : (∃ t ∈ ms.map Mb.tk, t.rs.any (tiedTo b) = true) ↔ ∃ k d kv k', (k, V.ref d) ∈ ms.map mkB ∧ H d = some (.dK kv) ∧ (k', V.int b) ∈ kv := by
  constructor
  · rintro ⟨t, ht, hb⟩
    obtain ⟨m, hm, rfl⟩ := List.mem_map.mp ht
    obtain ⟨_, _, o, _⟩ := h.h.st _ ht
    obtain ⟨k', hk'⟩ := ((h.m m hm).tied o).mp hb
    exact ⟨_, m.d, m.kv, k', List.mem_map.mpr ⟨m, hm, rfl⟩, (h.m m hm).d, hk'⟩
  · rintro ⟨k, d, kv, k', h1, h2, h3⟩
    obtain ⟨m, hm, e⟩ := List.mem_map.mp h1
    cases e
    have hM := h.m m hm
    rw [hM.d] at h2
    cases h2
    have ht : m.tk ∈ ms.map Mb.tk := List.mem_map.mpr ⟨m, hm, rfl⟩
    obtain ⟨_, _, o, _⟩ := h.h.st _ ht
    exact ⟨_, ht, (hM.tied o).mpr ⟨k', h3⟩⟩
theorem MbAt.ints {H : Hp} {N : Nat} {d : Addr} {kv : Kvs} {rs : List Rn} (h : MbAt H N d kv rs) : ∀ k v, (k, v) ∈ kv → ∃ i : Int, v = .int i := fun k v hk => by
  obtain ⟨ns, ek, nd⟩ := h.k
  have hv := val_of_mem (ns := ns) ek nd hk
  have : k ∈ kv.map (·.1) := List.mem_map.mpr ⟨_, hk, rfl⟩
  rw [ek] at this
  obtain ⟨p, _, rfl⟩ := List.mem_map.mp this
  rw [h.v] at hv
  obtain ⟨i, _, e⟩ := Option.map_eq_some_iff.mp hv
  exact ⟨i, e.symm⟩
structure BkOk (lk bk : Kvs) : Prop where
  s : ∀ k, k ∈ ksK lk ↔ k ∈ ksK bk
  i : ∀ k ∈ ksK bk, ∃ n : Int, k = Sum.inl n ∧ 0 ≤ n ∧ n < 3
theorem key_drop {kvs : Kvs} {k j : Key} : j ∈ ksK (dropK kvs k) ↔ (j ∈ ksK kvs ∧ j ≠ k) := by
  unfold ksK dropK
  constructor
  · intro h
    obtain ⟨x, hx, rfl⟩ := List.mem_map.mp h
    obtain ⟨h1, h2⟩ := List.mem_filter.mp hx
    exact ⟨List.mem_map.mpr ⟨x, h1, rfl⟩, of_decide_eq_true h2⟩
  · rintro ⟨h1, h2⟩
    obtain ⟨x, hx, rfl⟩ := List.mem_map.mp h1
    exact List.mem_map.mpr ⟨x, List.mem_filter.mpr ⟨hx, decide_eq_true h2⟩, rfl⟩
theorem BkOk.drop {lk bk : Kvs} (h : BkOk lk bk) (k : Key) : BkOk (dropK lk k) (dropK bk k) := ⟨fun j => by rw [key_drop, key_drop, h.s], fun j hj => h.i j (key_drop.mp hj).1⟩
def sp_ask (A : Adr) : Sp := fun vs H Q _ => ∃ (z : Hz) (N : Nat) (rd ld : Addr) (ms : List Mb) (bk lk : Kvs), vs = [.ref z.p, .ref rd, .ref ld] ∧ RbAt A H z N rd ms bk ∧ H ld = some (.dK lk) ∧ BkOk lk bk ∧ ld ≠ z.td ∧ ld ≠ z.bd ∧ ld ≠ rd ∧ (∀ m ∈ ms, ld ≠ m.d) ∧ ms.length ≤ 1000 ∧
  ∀ bk' lk' H', RbAt A H' z N rd ms bk' → H' ld = some (.dK lk') → BkOk lk' bk' → (∀ n : Int, 0 ≤ n → n < 3 → Sum.inl n ∈ ksK bk' → ∃ t ∈ ms.map Mb.tk, t.rs.any (tiedTo n) = true) → (∀ kv ∈ bk', kv ∈ bk) → Bt z.bd ld H H' → Q (.bl true) H'
theorem h_ask (T : Txt K mg A) : Have P w K mg base "_law_asked" 6 ["_law_house", "_law_rooms", "_law_banks"] [] (sp_ask A) := by
  have H_l_tied := h_ltied (P := P) (w := w) (base := base) T
  have H_l_drop := h_ldrop (P := P) (w := w) (base := base) T
  refine T.r_l_asked.have sc_l_asked (fun vs H Q E z => ?_) ?_
  · obtain ⟨z, N, rd, ld, ms, bk, lk, rfl, _⟩ := z; rfl
  · intro f cdv A' outer s H vs Q E hr z
    obtain ⟨z, N, rd, ld, ms, bk, lk, rfl, hR, hl, hB, n1, n2, n3, n4, hms, q⟩ := z
    refine ⟨_, (pss_cons (ps_forE PassesOwn.leaving rfl (pi_list (pe_lst (pa_cons pe_int (pa_cons pe_int (pa_cons pe_int pa_nil))))) (pg_name (i := 3) sc_l_asked.nd rfl (Or.inl rfl)) (pss_cons (ps_set (i := 4) sc_l_asked.nd rfl (Or.inl rfl) pe_str)
      (pss_cons (ps_if (pt_cmp (pc_dnotin (hu_of hr) (pvM 3) (pvM 2))) (pss_one (ps_set (i := 4) sc_l_asked.nd rfl (Or.inl rfl) pe_str)) (pss_one (ps_if (pt_val (pe_callE H_l_tied (hr.mono (by decide)) xw_def (pa_cons (pvM 1) (pa_cons (pvM 3) pa_nil)))) (pss_one (ps_set (i := 4) sc_l_asked.nd rfl (Or.inl rfl) pe_str)) (pss_one (ps_expr (pe_dpop1 (pvM 2) (pvM 3) ⟨rfl, rfl, rfl, rfl⟩))))))
      (pss_one (ps_if (pt_cmpR op_ne (pe_callE H_l_drop (hr.mono (by decide)) xw_def (pa_cons (pvM 0) (pa_cons (pvM 3) pa_nil))) (pvM 4) (nomark _)) (pss_one (ps_ret pe_bl)) pss_nil)))))
      (pss_one (ps_ret pe_bl))), ?_⟩
    unfold sp_ltied sp_ldrop tDNotIn tDPop1
    walk_at "wp"
    intro p hp
    refine ⟨⟨_, SqL.of upd_same⟩, ?_⟩
    have s0 := same_upd (o := .lst [V.int 0, V.int 1, V.int 2]) (same_refl (H := H)) hp
    have hp0 : upd H p (.lst [V.int 0, V.int 1, V.int 2]) p = some (.lst [V.int 0, V.int 1, V.int 2]) := upd_same
    have hR0 := hR.same s0
    have hl0 := s0 _ _ hl
    generalize upd H p (.lst [V.int 0, V.int 1, V.int 2]) = H0 at *
    refine loop_list (K := K) (xs := [V.int 0, V.int 1, V.int 2]) (fun i σ H' => ∃ v3 v4 bk' lk', σ = [some (.ref z.p), some (.ref rd), some (.ref ld), v3, v4] ∧ RbAt A H' z N rd ms bk' ∧ H' ld = some (.dK lk') ∧ BkOk lk' bk' ∧ (∀ n : Int, 0 ≤ n → n < i → Sum.inl n ∈ ksK bk' → ∃ t ∈ ms.map Mb.tk, t.rs.any (tiedTo n) = true) ∧ (∀ kv ∈ bk', kv ∈ bk) ∧ Bt z.bd ld H0 H' ∧ H' p = some (.lst [V.int 0, V.int 1, V.int 2])) ⟨_, _, bk, lk, rfl, hR0, hl0, hB, fun n h1 h2 => absurd h2 (by omega), fun _ h => h, fun c o h _ _ => h, hp0⟩ (fun i σ H' _ ⟨_, _, _, _, _, _, _, _, _, _, _, e⟩ => SqL.of e) (fun i v σ H' hi => ?_) (fun σ H' => ?_)
    · rintro ⟨v3, v4, bk1, lk1, rfl, hR1, hl1, hB1, hn1, hs1, hb1, hp1⟩
      obtain ⟨rfl, hi3⟩ : v = .int i ∧ i < 3 := by
        rcases i with _ | _ | _ | i
        · simp at hi; exact ⟨hi.symm, by decide⟩
        · simp at hi; exact ⟨hi.symm, by decide⟩
        · simp at hi; exact ⟨hi.symm, by decide⟩
        · simp at hi
      walk_at "wp"
      have htl : (ms.map Mb.tk).length ≤ 1000 := by rw [List.length_map]; exact hms
      have keep : ∀ {H2 : Hp}, Same H' H2 → (Sum.inl (i : Int) ∈ ksK bk1 → ∃ t ∈ ms.map Mb.tk, t.rs.any (tiedTo i) = true) → ∃ x, RbAt A H2 z N rd ms x ∧ ∃ x_5, H2 ld = some (.dK x_5) ∧ BkOk x_5 x ∧ (∀ n : Int, 0 ≤ n → n < ((i + 1 : Nat) : Int) → Sum.inl n ∈ ksK x → ∃ t ∈ ms.map Mb.tk, t.rs.any (tiedTo n) = true) ∧ (∀ kv ∈ x, kv ∈ bk) ∧ Bt z.bd ld H0 H2 ∧ H2 p = some (.lst [V.int 0, V.int 1, V.int 2]) := fun s2 h => ⟨bk1, hR1.same s2, lk1, s2 _ _ hl1, hB1, fun n h1 h2 h3 => by
          by_cases c : n < i
          · exact hn1 n h1 c h3
          · obtain rfl : n = i := by omega
            exact h h3, hs1, fun c o h1 h2 h3 => s2 _ _ (hb1 c o h1 h2 h3), s2 _ _ hp1⟩
      refine ⟨_, .inl ⟨lk1, Sum.inl (i : Int), .inl hl1, rfl, rfl⟩, ?_⟩
      by_cases hk : (Sum.inl (i : Int) : Key) ∈ ksK lk1
      rotate_left
      · rw [in_neg hk]
        have hk2 : Sum.inl (i : Int) ∉ ksK bk1 := fun h => hk ((hB1.s _).mpr h)
        exact iteT ⟨z, rfl, 3, 2, 0, _, bk1, hR1.h, htl, .inl ⟨hk2, fun H2 s2 => iteF (keep s2 fun h => absurd h hk2)⟩⟩
      have hk2 := (hB1.s _).mp hk
      rw [in_pos hk]
      refine iteF ⟨_, hR1.r, fun k v hkv => ?_, decide (∃ t ∈ ms.map Mb.tk, t.rs.any (tiedTo i) = true), ?_, fun H2 s2 => ?_⟩
      · obtain ⟨m, hm, e⟩ := List.mem_map.mp hkv
        cases e
        exact ⟨m.d, rfl, (hR1.zz m hm).2.2, m.kv, (hR1.m m hm).d, (hR1.m m hm).ints⟩
      · rw [decide_eq_true_eq, hR1.tied]
        exact ⟨fun ⟨k, d, kv, k', h1, h2, h3⟩ => ⟨k, d, h1, kv, h2, k', h3⟩, fun ⟨k, d, h1, kv, h2, k', h3⟩ => ⟨k, d, kv, k', h1, h2, h3⟩⟩
      by_cases ht : ∃ t ∈ ms.map Mb.tk, t.rs.any (tiedTo i) = true
      · rw [decide_eq_true ht]
        exact iteT ⟨z, rfl, 3, 2, 0, _, bk1, hR1.h.same s2, htl, .inr (.inl ⟨hk2, ht, fun H3 s3 => iteF (keep (s2.trans s3) fun _ => ht)⟩)⟩
      · rw [decide_eq_false ht]
        refine iteF ?_
        obtain ⟨v, hv⟩ := val_some hk
        have hl2 := s2 _ _ hl1
        refine ⟨.inl ⟨_, .inl hl2⟩, lk1, hl2, Sum.inl (i : Int), rfl, v, hv, ?_⟩
        have hR2 := (hR1.same s2).kd (H' := upd H2 ld (.dK (dropK lk1 (Sum.inl (i : Int))))) hl2 n1 n2 n3 n4 kd_upd
        have hl3 : upd H2 ld (.dK (dropK lk1 (Sum.inl (i : Int)))) ld = some (.dK (dropK lk1 (Sum.inl (i : Int)))) := upd_same
        have nlp : p ≠ ld := fun e => by rw [e, hl1] at hp1; cases hp1
        have hp3 : upd H2 ld (.dK (dropK lk1 (Sum.inl (i : Int)))) p = some (.lst [V.int 0, V.int 1, V.int 2]) := by rw [upd_ne nlp]; exact s2 _ _ hp1
        have kd3 : Kd ld H2 (upd H2 ld (.dK (dropK lk1 (Sum.inl (i : Int))))) := kd_upd
        generalize upd H2 ld (.dK (dropK lk1 (Sum.inl (i : Int)))) = H3 at *
        refine ⟨z, rfl, 3, 2, 0, _, bk1, hR2.h, htl, .inr (.inr ⟨hk2, fun t h => ?_, fun H4 hS4 hK => ?_⟩)⟩
        · rw [Bool.eq_false_iff]
          exact fun z => ht ⟨t, h, z⟩
        refine iteF ⟨_, hR2.bank hS4 hK, _, hK _ _ hl3 n2, hB1.drop _, fun n h1 h2 h3 => ?_, fun kv h => hs1 kv (dropK_mem h), fun c o h1 h2 h3 => hK _ _ (kd3 _ _ (s2 _ _ (hb1 c o h1 h2 h3)) h3) h2, hK _ _ hp3 (fun e => by rw [e, hR2.h.b] at hp3; cases hp3)⟩
        obtain ⟨h3, h4⟩ := key_drop.mp h3
        exact hn1 n h1 (by
          have : n ≠ i := fun e => h4 (by rw [e])
          omega) h3
    · rintro ⟨v3, v4, bk1, lk1, rfl, hR1, hl1, hB1, hn1, hs1, hb1, hp1⟩
      walk_at "wp"
      exact q _ _ _ hR1 hl1 hB1 (fun n h1 h2 => hn1 n h1 (show n < ((3 : Nat) : Int) by omega)) hs1 (fun c o h h1 h2 => hb1 c o (s0 _ _ h) h1 h2)
def setB (n : Int) (rs : List Rn) (kv : Kvs) (ms : List Mb) : List Mb := ms.map fun m => if m.n = n then { m with rs := rs, kv := kv } else m
theorem setB_tk {n : Int} {rs : List Rn} {kv : Kvs} {ms : List Mb} : (setB n rs kv ms).map Mb.tk = setT n rs (ms.map Mb.tk) := by
  unfold setB setT
  rw [List.map_map, List.map_map]
  refine List.map_congr_left fun m _ => ?_
  show (if m.n = n then { m with rs := rs, kv := kv } else m).tk = if m.tk.n = n then { m.tk with rs := rs } else m.tk
  by_cases c : m.n = n
  · rw [if_pos c, if_pos (show m.tk.n = n from c)]; rfl
  · rw [if_neg c, if_neg (show ¬ m.tk.n = n from c)]
theorem setB_f {α : Type} {g : Mb → α} {n : Int} {rs : List Rn} {kv : Kvs} {ms : List Mb} (h : ∀ m : Mb, g { m with rs := rs, kv := kv } = g m) : (setB n rs kv ms).map g = ms.map g := by
  unfold setB
  rw [List.map_map]
  refine List.map_congr_left fun m _ => ?_
  show g (if m.n = n then { m with rs := rs, kv := kv } else m) = g m
  split
  · exact h m
  · rfl
theorem RbAt.set {H H' : Hp} {z : Hz} {N N' : Nat} {rd : Addr} {ms : List Mb} {bk bk' : Kvs} {m : Mb} {rs' : List Rn} {kv' : Kvs} (h : RbAt A H z N rd ms bk) (hm : m ∈ ms) (hS : HsG A H' z 3 2 0 (setT m.n rs' (ms.map Mb.tk)) bk') (hM : MbAt H' N' m.d kv' rs') (hN : N ≤ N') (fr : Bt m.p m.d H H') : RbAt A H' z N' rd (setB m.n rs' kv' ms) bk' := by
  have ht : m.tk ∈ ms.map Mb.tk := List.mem_map.mpr ⟨m, hm, rfl⟩
  obtain ⟨a, ⟨dx, vs, e1, _, _⟩, _⟩ := h.h.st _ ht
  have e1 : H m.p = some (.ins A.C_Stretches dx (stF a)) := e1
  refine ⟨by rw [setB_tk]; exact hS, fun u hu => ?_, by rw [setB_f (g := Mb.d) fun _ => rfl]; exact h.nd, fun u hu => ?_, ?_, h.rz⟩
  · obtain ⟨v, hv, rfl⟩ := List.mem_map.mp hu
    by_cases c : v.n = m.n
    · obtain rfl : v = m := nodup_inj h.nn hv hm c
      rw [if_pos rfl]
      exact hM
    · rw [if_neg c]
      have hv1 := h.m v hv
      exact (hv1.at (fr _ _ hv1.d (ne_of hv1.d e1 (fun z => nomatch z)) (fun z => c (by rw [nodup_inj h.nd hv hm z])))).le hN
  · obtain ⟨v, hv, rfl⟩ := List.mem_map.mp hu
    have := h.zz v hv
    by_cases c : v.n = m.n
    · rw [if_pos c]; exact this
    · rw [if_neg c]; exact this
  · rw [setB_f (g := mkB) fun _ => rfl]
    exact fr _ _ h.r (ne_of h.r e1 (fun z => nomatch z)) (h.zz m hm).2.2.symm
theorem mkB_val {ms : List Mb} {m : Mb} (nn : (ms.map Mb.n).Nodup) (hm : m ∈ ms) : valV (ms.map mkB) (Sum.inl m.n) = some (.ref m.d) := by
  have hk : (Sum.inl m.n : Key) ∈ ksK (ms.map mkB) := by
    unfold ksK
    rw [List.map_map]
    exact List.mem_map.mpr ⟨m, hm, rfl⟩
  obtain ⟨v, hv⟩ := val_some hk
  obtain ⟨u, hu, e⟩ := List.mem_map.mp (val_mem hv)
  have e1 : (Sum.inl u.n : Key) = Sum.inl m.n := congrArg Prod.fst e
  have e2 : V.ref u.d = v := congrArg Prod.snd e
  obtain rfl : u = m := nodup_inj nn hu hm (Sum.inl.inj e1)
  rw [hv, e2]
theorem lay_many {rs : List Rn} {x n r b st : Int} (o : OrdR rs) (l : LstR rs) (hn : 0 < n) (h : ∀ p, x ≤ p → pm rs p = none) : pam rs x n = [] ∧ OrdR (lyT rs x n r (some (b, st))) ∧ LstR (lyT rs x n r (some (b, st))) ∧ ∀ p, pm (lyT rs x n r (some (b, st))) p = if x ≤ p ∧ p < x + n then some (r, some (b, st + p - x)) else pm rs p := by
  obtain ⟨h1, h2, h3⟩ := lay_ok (parts := [⟨x, n, r, some (b, st)⟩]) (a := x) (n := n) o l hn (ord_one hn) (fun y hy => by rw [List.mem_singleton.mp hy]; exact ⟨Int.le_refl _, Int.le_refl _⟩)
  refine ⟨(free_iff o hn).mpr fun p h1 _ => h p h1, h1, h2, fun p => ?_⟩
  show pm (layR rs x n [⟨x, n, r, some (b, st)⟩]) p = _
  rw [h3]
  by_cases c : x ≤ p ∧ p < x + n
  · rw [if_pos c, if_pos c]
    show (if x ≤ p ∧ p < enR ⟨x, n, r, some (b, st)⟩ then some (r, tf ⟨x, n, r, some (b, st)⟩ p) else none) = _
    rw [if_pos (show x ≤ p ∧ p < enR ⟨x, n, r, some (b, st)⟩ from c)]
    rfl
  · rw [if_neg c, if_neg c]
theorem fits_of {x m N : Int} (h0 : 0 ≤ x) (h1 : 1 ≤ m) (h2 : m ≤ 64) (h3 : x + m ≤ N) : fitsB x m N = true := decide_eq_true (by omega)
theorem keys_put {kv : Kvs} {x : Int} {u : V} (h : ∃ ns : List Int, kv.map (·.1) = ns.map Sum.inl ∧ ns.Nodup) : ∃ ns : List Int, (putK kv (Sum.inl x) u).map (·.1) = ns.map Sum.inl ∧ ns.Nodup := by
  obtain ⟨ns, e, nd⟩ := h
  cases hv : valV kv (Sum.inl x) with
  | some w => rw [put_keys hv]; exact ⟨ns, e, nd⟩
  | none =>
    rw [putK_new _ hv]
    refine ⟨ns ++ [x], by rw [List.map_append, List.map_append, e]; rfl, ?_⟩
    rw [List.nodup_append]
    refine ⟨nd, by simp, fun a ha b hb z => ?_⟩
    rw [List.mem_singleton.mp hb] at z
    have := valV_not hv
    rw [e] at this
    exact this (List.mem_map.mpr ⟨a, ha, by rw [z]⟩)
theorem len_put {kv : Kvs} {k : Key} {u : V} : (putK kv k u).length ≤ kv.length + 1 := by
  cases hv : valV kv k with
  | some w =>
    have := congrArg List.length (put_keys (v := u) hv)
    rw [List.length_map, List.length_map] at this
    omega
  | none => rw [putK_new _ hv, List.length_append]; exact Nat.le_refl _
def sp_la (A : Adr) : Sp := fun vs H Q _ => ∃ (z : Hz) (p0 p1 sa ca : Addr) (ss cs : List Int) (off : Int) (bk : Kvs), vs = [.ref z.p, .ref sa, .ref ca, .int off] ∧ HsG A H z 3 2 0 [⟨0, p0, []⟩, ⟨1, p1, []⟩] bk ∧ H sa = some (.lst (ss.map V.int)) ∧ H ca = some (.lst (cs.map V.int)) ∧ ss.length = 3 ∧ cs.length ≤ 8 ∧
  (∀ (n : Nat) (x : Int), ss[n]? = some x → valV bk (Sum.inl (n : Int)) = some (.int x) ∧ 4 ≤ x ∧ x ≤ 64) ∧
  ∀ rd ms H', RbAt A H' z 32 rd ms bk → ms.map Mb.n = [0, 1] → H rd = none → (∀ m ∈ ms, H m.d = none ∧ (m.p = p0 ∨ m.p = p1)) → (∀ c o, H c = some o → c ≠ p0 → c ≠ p1 → H' c = some o) → Q (.ref rd) H'
theorem h_la (T : Txt K mg A) : Have P w K mg base "_law_laid_all" 10 ["_law_house", "_law_sizes", "_law_cells", "_law_off"] [] (sp_la A) := by
  have H_House_lay := h_hlay (P := P) (w := w) (base := base) T
  refine T.r_l_laid_all.have sc_l_laid_all (fun vs H Q E z => ?_) ?_
  · obtain ⟨z, p0, p1, sa, ca, ss, cs, off, bk, rfl, _⟩ := z; rfl
  · intro f cdv A' outer s H vs Q E hr z
    obtain ⟨z, p0, p1, sa, ca, ss, cs, off, bk, rfl, hS, hsa, hca, hss, hcs, hbk, q⟩ := z
    refine ⟨_, (@pss_cut _ _ _ _ _ (@ps_set _ _ 4 _ _ _ _ sc_l_laid_all.nd rfl (Or.inl rfl) (@pe_dispE _ _ _ _ _ (pps_cons pe_int pe_dnewK (pps_cons pe_int pe_dnewK pps_nil)) rfl rfl (List.cons_ne_nil _ _) (show (2 : Nat) ≤ 15 by decide)) rfl (Or.inl rfl))
      (pss_cons (ps_set (i := 5) sc_l_laid_all.nd rfl (Or.inl rfl) pe_int)
      (pss_cons (ps_forE PassesOwn.leaving rfl (pi_list (pvM 2)) (pg_name (i := 6) sc_l_laid_all.nd rfl (Or.inl rfl)) (pss_cons (ps_set (i := 7) sc_l_laid_all.nd rfl (Or.inl rfl) (pe_op op_mod (pe_op op_add (pe_op op_mod (pvM 6) pe_int) (pvM 3)) pe_int))
      (pss_cons (ps_set (i := 8) sc_l_laid_all.nd rfl (Or.inl rfl) (pe_op op_add pe_int (pe_op op_mod (pe_op op_fdiv (pvM 6) pe_int) pe_int)))
      (pss_cons (ps_set (i := 9) sc_l_laid_all.nd rfl (Or.inl rfl) (pe_op op_mod (pe_op op_fdiv (pvM 6) pe_int) pe_int))
      (pss_cons (ps_expr (pe_methE (pvM 0) T.cl_House H_House_lay (hr.mono (by decide)) xw_def (@pa_cons _ _ _ _ _ (pvM 9) (@pa_cons _ _ _ _ _ (pvM 5) (@pa_cons _ _ _ _ _ (pvM 8) (@pa_cons _ _ _ _ _ (pe_op op_mod (pe_op op_fdiv (pvM 6) pe_int) pe_int) (@pa_cons _ _ _ _ _ (pvM 7) (@pa_cons _ _ _ _ _ (pe_op op_mod (pe_op op_fdiv (pvM 6) pe_int) (pe_op op_add (pe_op op_sub (pe_ix ix_list (pvM 1) (pvM 7) (fun _ _ => rfl)) (pvM 8)) pe_int)) pa_nil rfl) rfl) rfl) rfl) rfl) rfl)))
      (pss_cons (ps_forE PassesOwn.leaving rfl (pi_range2 rfl T.b_range (pa_cons (pvM 5) (pa_cons (pe_op op_add (pvM 5) (pvM 8)) pa_nil))) (pg_name (i := 10) sc_l_laid_all.nd rfl (Or.inl rfl)) (pss_one (ps_dput (hu_of hr) (pe_dget (hu_of hr) (pvM 4) (pvM 9) (fun _ _ => rfl)) (pvM 10) (pvM 7) rfl)))
      (pss_one (ps_set (i := 5) sc_l_laid_all.nd rfl (Or.inl rfl) (pe_op op_add (pe_op op_add (pvM 5) (pvM 8)) (pe_op op_mod (pe_op op_fdiv (pvM 6) pe_int) pe_int))))))))))
      (pss_one (ps_ret (pvM 4)))))), ?_⟩
    refine ⟨fun σ H' => ∃ rd d0 d1, σ = [some (.ref z.p), some (.ref sa), some (.ref ca), some (.int off), some (.ref rd), none, none, none, none, none, none] ∧ Same H H' ∧ RbAt A H' z 0 rd [⟨0, p0, [], d0, []⟩, ⟨1, p1, [], d1, []⟩] bk ∧ H rd = none ∧ H d0 = none ∧ H d1 = none, ?_, fun σ' H1 => ?_⟩
    · walk_at "wp"
      intro rd hrd d0 hd0 d1 hd1
      have n0 : d0 ≠ rd := fun z => by rw [z, upd_same] at hd0; cases hd0
      have n1 : d1 ≠ d0 := fun z => by rw [z, upd_same] at hd1; cases hd1
      rw [upd_ne n1] at hd1
      have n2 : d1 ≠ rd := fun z => by rw [z, upd_same] at hd1; cases hd1
      rw [upd_ne n0] at hd0
      rw [upd_ne n2] at hd1
      refine ⟨by rw [upd_ne n2.symm, upd_ne n0.symm, upd_same], [(Sum.inl 0, .ref d0), (Sum.inl 1, .ref d1)], rfl, (by show (2 : Nat) ≤ 15; decide), ?_⟩
      have u4 : Same H (upd (upd (upd (upd H rd (.dK [])) d0 (.dK [])) d1 (.dK [])) rd (.dK (mergeK [] [(Sum.inl 0, .ref d0), (Sum.inl 1, .ref d1)]))) := fun c o h => by rw [upd_ne (ne_of_none h hrd), upd_ne (ne_of_none h hd1), upd_ne (ne_of_none h hd0), upd_ne (ne_of_none h hrd)]; exact h
      have e0 : (upd (upd (upd (upd H rd (.dK [])) d0 (.dK [])) d1 (.dK [])) rd (.dK (mergeK [] [(Sum.inl 0, .ref d0), (Sum.inl 1, .ref d1)]))) d0 = some (.dK []) := by rw [upd_ne n0, upd_ne n1.symm, upd_same]
      have e1 : (upd (upd (upd (upd H rd (.dK [])) d0 (.dK [])) d1 (.dK [])) rd (.dK (mergeK [] [(Sum.inl 0, .ref d0), (Sum.inl 1, .ref d1)]))) d1 = some (.dK []) := by rw [upd_ne n2, upd_same]
      have er : (upd (upd (upd (upd H rd (.dK [])) d0 (.dK [])) d1 (.dK [])) rd (.dK (mergeK [] [(Sum.inl 0, .ref d0), (Sum.inl 1, .ref d1)]))) rd = some (.dK [(Sum.inl 0, .ref d0), (Sum.inl 1, .ref d1)]) := upd_same
      generalize (upd (upd (upd (upd H rd (.dK [])) d0 (.dK [])) d1 (.dK [])) rd (.dK (mergeK [] [(Sum.inl 0, .ref d0), (Sum.inl 1, .ref d1)]))) = G at *
      have nm : ∀ d, H d = none → d ≠ z.td ∧ d ≠ z.bd := fun d h => ⟨(fun e => by rw [e, hS.t] at h; cases h), (fun e => by rw [e, hS.b] at h; cases h)⟩
      have emp : ∀ d, G d = some (.dK []) → MbAt G 0 d [] [] := fun d h => ⟨h, (fun p => rfl), (fun p g h => nomatch h), ⟨[], rfl, .nil⟩, Nat.le_refl _, (fun p h => absurd rfl h), trivial⟩
      refine ⟨u4, d0, d1, ⟨hS.same u4, fun m hm => ?_, ?_, fun m hm => ?_, er, nm rd hrd⟩, hrd, hd0, hd1⟩
      · simp only [List.mem_cons, List.not_mem_nil, or_false] at hm
        rcases hm with rfl | rfl
        · exact emp d0 e0
        · exact emp d1 e1
      · show [d0, d1].Nodup
        simp [n1.symm]
      · simp only [List.mem_cons, List.not_mem_nil, or_false] at hm
        rcases hm with rfl | rfl
        · exact ⟨(nm d0 hd0).1, (nm d0 hd0).2, n0⟩
        · exact ⟨(nm d1 hd1).1, (nm d1 hd1).2, n2⟩
    rintro ⟨rd, d0, d1, rfl, s1, hR, frd, f0, f1⟩
    walk_at "wp"
    refine ⟨⟨_, SqL.of (s1 _ _ hca)⟩, ?_⟩
    obtain ⟨_, ⟨dx0, vs0, ep0, _, _⟩, _⟩ := hS.st _ (List.mem_cons_self ..)
    obtain ⟨_, ⟨dx1, vs1, ep1, _, _⟩, _⟩ := hS.st _ (List.mem_cons_of_mem _ (List.mem_cons_self ..))
    have ncp : ∀ {c : Addr} {xs : List V}, H c = some (.lst xs) → c ≠ p0 ∧ c ≠ p1 := fun h => ⟨ne_of h ep0 (fun z => nomatch z), ne_of h ep1 (fun z => nomatch z)⟩
    refine loop_list (K := K) (xs := cs.map V.int) (fun i σ H' => ∃ ms x v6 v7 v8 v9 v10, σ = [some (.ref z.p), some (.ref sa), some (.ref ca), some (.int off), some (.ref rd), some (.int x), v6, v7, v8, v9, v10] ∧ RbAt A H' z (4 * i) rd ms bk ∧ ms.map Mb.n = [0, 1] ∧ (∀ m ∈ ms, H m.d = none ∧ (m.p = p0 ∨ m.p = p1)) ∧ 0 ≤ x ∧ x ≤ 5 * i ∧ (∀ m ∈ ms, ∀ p, x ≤ p → pm m.rs p = none) ∧ ∀ c o, H c = some o → c ≠ p0 → c ≠ p1 → H' c = some o) ⟨_, 0, _, _, _, _, _, rfl, hR, rfl, fun m hm => ?_, by omega, by omega, fun m hm p _ => ?_, fun c o h _ _ => s1 _ _ h⟩ (fun i σ H' _ ⟨_, _, _, _, _, _, _, _, _, _, _, _, _, _, e⟩ => SqL.of (e _ _ hca (ncp hca).1 (ncp hca).2)) (fun i v σ H' hi => ?_) (fun σ H' => ?_)
    · simp only [List.mem_cons, List.not_mem_nil, or_false] at hm
      rcases hm with rfl | rfl
      · exact ⟨f0, .inl rfl⟩
      · exact ⟨f1, .inr rfl⟩
    · simp only [List.mem_cons, List.not_mem_nil, or_false] at hm
      rcases hm with rfl | rfl <;> rfl
    · rintro ⟨ms, x, v6, v7, v8, v9, v10, rfl, hR1, en, fr, hx0, hx1, hno, hF⟩
      rw [List.getElem?_map] at hi
      obtain ⟨c, hc, rfl⟩ := Option.map_eq_some_iff.mp hi
      have hi8 : i < 8 := by have := (List.getElem?_eq_some_iff.mp hc).1; omega
      unfold sp_hlay
      walk_at "wp"
      obtain ⟨m, hm, hmn⟩ : ∃ m ∈ ms, m.n = c / 8 % 2 := by
        have : c / 8 % 2 ∈ ms.map Mb.n := by
          rw [en]
          simp only [List.mem_cons, List.not_mem_nil, or_false]
          omega
        obtain ⟨m, hm, h⟩ := List.mem_map.mp this
        exact ⟨m, hm, h⟩
      have hM := hR1.m m hm
      have ht : m.tk ∈ ms.map Mb.tk := List.mem_map.mpr ⟨m, hm, rfl⟩
      obtain ⟨dx, hme⟩ := hR1.h.me
      obtain ⟨a7, ⟨dxs, vs7, e7, _, _⟩, o7, _⟩ := hR1.h.st _ ht
      have e7 : H' m.p = some (.ins A.C_Stretches dxs (stF a7)) := e7
      have o7 : OrdR m.rs := o7
      have hb : 0 ≤ (c % 2 + off) % 3 ∧ (c % 2 + off) % 3 < 3 := by omega
      generalize (c % 2 + off) % 3 = b at *
      have hn4 : 1 ≤ 1 + c / 2 % 4 ∧ 1 + c / 2 % 4 ≤ 4 := by omega
      generalize 1 + c / 2 % 4 = n at *
      have hr3 : 0 ≤ c / 16 % 4 ∧ c / 16 % 4 ≤ 3 := by omega
      generalize c / 16 % 4 = r at *
      have hgap : 0 ≤ c / 5 % 2 ∧ c / 5 % 2 ≤ 1 := by omega
      generalize c / 5 % 2 = gap at *
      obtain ⟨sz, hsz⟩ : ∃ sz, ss[b.toNat]? = some sz := ⟨_, List.getElem?_eq_getElem (by omega)⟩
      obtain ⟨hv, z4, z64⟩ := hbk b.toNat sz hsz
      rw [show ((b.toNat : Nat) : Int) = b by omega] at hv
      have hst : 0 ≤ c / 64 % (sz - n + 1) ∧ c / 64 % (sz - n + 1) ≤ sz - n := by
        have h1 := Int.emod_nonneg (c / 64) (show sz - n + 1 ≠ 0 by omega)
        have h2 := Int.emod_lt_of_pos (c / 64) (show 0 < sz - n + 1 by omega)
        omega
      generalize hste : c / 64 % (sz - n + 1) = st at *
      obtain ⟨y1, y2, y3, y4⟩ := lay_many (r := r) (b := b) (st := st) o7 hM.l (show 0 < n by omega) (hno m hm)
      have bb : ∀ p, pm (lyT m.rs x n r (some (b, st))) p ≠ none → 0 ≤ p ∧ p < x + n := fun p h => by
        rw [y4] at h
        by_cases c : x ≤ p ∧ p < x + n
        · omega
        · rw [if_neg c] at h
          have h1 := hM.b p h
          by_cases c2 : x ≤ p
          · exact absurd (hno m hm p c2) h
          · omega
      have hln : (lyT m.rs x n r (some (b, st))).length ≤ 10000 := Int.ofNat_le.mp (Int.le_trans (pages_len y2 bb (by omega)) (show x + n - 0 ≤ ((10000 : Nat) : Int) by omega))
      refine ⟨dx, _, hme, rfl, _, SqL.of (hF _ _ hsa (ncp hsa).1 (ncp hsa).2), .int sz, ?_, sz, rfl, by omega, z, rfl, 3, 2, 0, _, bk, st, some b, rfl, hste, hR1.h, .inr (.inr ⟨by rw [← hmn]; exact tk_key ht, fits_of hx0 hn4.1 (by omega) (show x + n ≤ 64 by omega), .inr ⟨hr3.1, hr3.2, .inr ⟨(fun b' h => by cases h; exact ⟨sz, hv, hst.1, hst.2⟩), m.tk, ht, hmn, .inr ⟨y1, y2, hln, fun H2 hS2 hB => ?_⟩⟩⟩⟩)⟩
      · rw [show b = ((b.toNat : Nat) : Int) by omega]
        exact atI_nat (by rw [List.getElem?_map, hsz]; rfl)
      rw [← hmn] at hS2
      have hS2 : HsG A H2 z 3 2 0 (setT m.n (lyT m.rs x n r (some (b, st))) (ms.map Mb.tk)) bk := hS2
      have hd2 := hB _ _ hM.d (ne_of hM.d e7 (fun z => nomatch z))
      have zz := hR1.zz m hm
      have hrd2 := hB _ _ hR1.r (ne_of hR1.r e7 (fun z => nomatch z))
      refine ⟨by omega, by omega, by omega, by omega, ?_⟩
      generalize hRs : lyT m.rs x n r (some (b, st)) = rs' at *
      rw [show (x + n - x).toNat = n.toNat by omega]
      unfold sDPut tDGet
      refine loop_range (fun j σ H3 => ∃ kv v10, σ = [some (.ref z.p), some (.ref sa), some (.ref ca), some (.int off), some (.ref rd), some (.int x), some (.int c), some (.int b), some (.int n), some (.int (c / 8 % 2)), v10] ∧ HsG A H3 z 3 2 0 (setT m.n rs' (ms.map Mb.tk)) bk ∧ H3 m.d = some (.dK kv) ∧ H3 rd = some (.dK (ms.map mkB)) ∧ (∀ p : Int, valV kv (Sum.inl p) = if x ≤ p ∧ p < x + j then some (.int b) else valV m.kv (Sum.inl p)) ∧ (∃ ns : List Int, kv.map (·.1) = ns.map Sum.inl ∧ ns.Nodup) ∧ kv.length ≤ 4 * i + j ∧ Bt m.p m.d H' H3) ⟨m.kv, _, rfl, hS2, hd2, hrd2, fun p => by rw [if_neg (by omega)], hM.k, by have := hM.n; omega, fun c o h h1 _ => hB c o h h1⟩ (fun j σ H3 hj => ?_) (fun σ H3 => ?_)
      · rintro ⟨kv, v10, rfl, hS3, hd3, hrd3, hv3, hk3, hn3, hb3⟩
        walk_at "wp"
        have hz := PySem.sizeLine_eq
        refine ⟨.ref m.d, .inl ⟨_, Sum.inl (c / 8 % 2), .inl hrd3, rfl, by rw [← hmn]; exact (mkB_val hR1.nn hm).symm⟩, m.d, rfl, _, .inl ⟨kv, Sum.inl (x + j), hd3, rfl, by omega, rfl⟩, hS3.kd hd3 zz.1 zz.2.1 kd_upd, _, upd_same, by rw [upd_ne zz.2.2.symm]; exact hrd3, fun p => ?_, keys_put hk3, Nat.le_trans len_put (by omega), fun c o h h1 h2 => kd_upd _ _ (hb3 c o h h1 h2) h2⟩
        rw [valV_put, hv3]
        by_cases c1 : p = x + j
        · rw [if_pos (by rw [c1]), if_pos (by omega)]
        · rw [if_neg (fun z => c1 (Sum.inl.inj z))]
          by_cases c2 : x ≤ p ∧ p < x + j
          · rw [if_pos c2, if_pos (by omega)]
          · rw [if_neg c2, if_neg (by omega)]
      · rintro ⟨kv, v10, rfl, hS3, hd3, hrd3, hv3, hk3, hn3, hb3⟩
        walk_at "wp"
        have hMn : MbAt H3 (4 * (i + 1)) m.d kv rs' := by
          refine ⟨hd3, fun p => ?_, fun p g h => ?_, hk3, by omega, fun p h => by have := bb p h; omega, y3⟩
          · rw [hv3]
            unfold bkOf
            rw [y4]
            by_cases c2 : x ≤ p ∧ p < x + n
            · rw [if_pos (by omega), if_pos c2]; rfl
            · rw [if_neg (by omega), if_neg c2]
              exact hM.v p
          · rw [y4] at h
            by_cases c2 : x ≤ p ∧ p < x + n
            · rw [if_pos c2] at h
              cases h
              exact fun z => nomatch z
            · rw [if_neg c2] at h
              exact hM.t p g h
        refine ⟨setB m.n rs' kv ms, hR1.set hm hS3 hMn (by omega) hb3, by rw [setB_f (g := Mb.n) fun _ => rfl]; exact en, fun u hu => ?_, by omega, by omega, fun u hu p hp => ?_, fun c o h h1 h2 => hb3 c o (hF c o h h1 h2) (by rcases (fr m hm).2 with e | e <;> rw [e] <;> assumption) (ne_of_none h (fr m hm).1)⟩
        · obtain ⟨v, hv, rfl⟩ := List.mem_map.mp hu
          have := fr v hv
          by_cases c : v.n = m.n
          · rw [if_pos c]; exact this
          · rw [if_neg c]; exact this
        · obtain ⟨v, hv, rfl⟩ := List.mem_map.mp hu
          by_cases c : v.n = m.n
          · rw [if_pos c]
            show pm rs' p = none
            rw [y4, if_neg (by omega)]
            exact hno m hm p (by omega)
          · rw [if_neg c]
            exact hno v hv p (by omega)
    · rintro ⟨ms, x, v6, v7, v8, v9, v10, rfl, hR1, en, fr, hx0, hx1, hno, hF⟩
      rw [List.length_map] at hR1
      walk_at "wp"
      exact q _ _ _ ⟨hR1.h, fun m hm => (hR1.m m hm).le (by omega), hR1.nd, hR1.zz, hR1.r, hR1.rz⟩ en frd fr hF
def spLaw (K : PySem.W.Frag) : Sp := fun vs H Q _ => ∃ (a : Addr) (ns : List Int), vs = [.ref a] ∧ SqL K H a (ns.map V.int) ∧ ns.length ≤ 63 ∧ ∀ H', Q (.bl true) H'
theorem sqL_same {H H' : Hp} {a : Addr} {xs : List V} (h : SqL K H a xs) (s : Same H H') : SqL K H' a xs := h.imp (fun r => r.imp (s _ _) (fun ⟨o, e⟩ => ⟨o, s _ _ e⟩)) id
theorem lst_nil {k : Nat} (h : Lst [] k) : k = 0 := by
  cases k with
  | zero => rfl
  | succ k => exact absurd (h.2 0 (by omega)) (by simp)
theorem lst_one {k : Nat} (h : Lst [Sum.inl (0 : Int)] k) : k = 1 := by
  rcases k with _ | _ | k
  · exact absurd (List.mem_singleton.mpr rfl) h.1
  · rfl
  · exact absurd (h.2 1 (by omega)) (by simp)
theorem lst_two {k : Nat} (h : Lst [Sum.inl (0 : Int), Sum.inl (1 : Int)] k) : k = 2 := by
  rcases k with _ | _ | _ | k
  · exact absurd (List.mem_cons_self ..) h.1
  · exact absurd (List.mem_cons_of_mem _ (List.mem_cons_self ..)) h.1
  · rfl
  · exact absurd (h.2 2 (by omega)) (by simp)
theorem lst_range {i k : Nat} (h : Lst ((List.range i).map (fun n : Nat => (Sum.inl (n : Int) : Key))) k) : k = i := by
  have mem : ∀ j : Nat, (Sum.inl (j : Int) : Key) ∈ (List.range i).map (fun n : Nat => (Sum.inl (n : Int) : Key)) ↔ j < i := fun j => by
    constructor
    · intro h
      obtain ⟨n, hn, e⟩ := List.mem_map.mp h
      have : (n : Int) = j := Sum.inl.inj e
      have := List.mem_range.mp hn
      omega
    · intro h
      exact List.mem_map.mpr ⟨j, List.mem_range.mpr h, rfl⟩
  have h1 : ¬ k < i := fun z => h.1 ((mem k).mpr z)
  by_cases c : k = i
  · exact c
  · have := (mem i).mp (h.2 i (by omega))
    omega
structure StL (A : Adr) (H : Hp) (z : Hz) (rd ld : Addr) (H' : Hp) (ms : List Mb) (bk lk : Kvs) : Prop where
  s : Same H H'
  r : RbAt A H' z 32 rd ms bk
  l : H' ld = some (.dK lk)
  b : BkOk lk bk
  n : ld ≠ rd
  m : ∀ m ∈ ms, ld ≠ m.d ∧ H m.p = none ∧ H m.d = none
  k : ms.length ≤ 3
theorem StL.same {H H' H2 : Hp} {z : Hz} {rd ld : Addr} {ms : List Mb} {bk lk : Kvs} (h : StL A H z rd ld H' ms bk lk) (s : Same H' H2) : StL A H z rd ld H2 ms bk lk := ⟨h.s.trans s, h.r.same s, s _ _ h.l, h.b, h.n, h.m, h.k⟩
theorem ask_of {H H' : Hp} {z : Hz} {rd ld : Addr} {ms : List Mb} {bk lk : Kvs} {Q' : VK} {E' : XK} (hT : StL A H z rd ld H' ms bk lk) (n1 : ld ≠ z.td) (n2 : ld ≠ z.bd) (fb : H z.bd = none) (fl : H ld = none)
    (q : ∀ bk' lk' H2, StL A H z rd ld H2 ms bk' lk' → (∀ n : Int, 0 ≤ n → n < 3 → Sum.inl n ∈ ksK bk' → ∃ t ∈ ms.map Mb.tk, t.rs.any (tiedTo n) = true) → Q' (.bl true) H2) : sp_ask A [.ref z.p, .ref rd, .ref ld] H' Q' E' :=
  ⟨z, 32, rd, ld, ms, bk, lk, rfl, hT.r, hT.l, hT.b, n1, n2, hT.n, fun m hm => (hT.m m hm).1, by have := hT.k; omega, fun bk' lk' H2 hR hl hB ht _ hb => q bk' lk' H2 ⟨fun c o h => hb c o (hT.s c o h) (ne_of_none h fb) (ne_of_none h fl), hR, hl, hB, hT.n, hT.m, hT.k⟩ ht⟩
theorem tk_keys {ms : List Mb} : ksK (tkD (ms.map Mb.tk)) = (ms.map Mb.n).map Sum.inl := by
  unfold ksK tkD
  rw [List.map_map, List.map_map, List.map_map]
  rfl
theorem mk_keys {ms : List Mb} : (ms.map mkB).map (·.1) = (ms.map Mb.n).map Sum.inl := by
  rw [List.map_map, List.map_map]
  rfl
def PrAt (H : Hp) (v : V) (x : Int × Int) : Prop := ∃ a, v = .ref a ∧ H a = some (.tup [.int x.1, .int x.2])
theorem PrAt.same {H H' : Hp} {v : V} {x : Int × Int} (h : PrAt H v x) (s : Tp H H') : PrAt H' v x := let ⟨a, e, h⟩ := h; ⟨a, e, s _ _ h⟩
theorem ask_of2 {H H' : Hp} {z : Hz} {rd ld : Addr} {ms : List Mb} {bk lk : Kvs} {Q' : VK} {E' : XK} (hT : StL A H z rd ld H' ms bk lk) (n1 : ld ≠ z.td) (n2 : ld ≠ z.bd) (fb : H z.bd = none) (fl : H ld = none)
    (q : ∀ bk' lk' H2, StL A H z rd ld H2 ms bk' lk' → (∀ n : Int, 0 ≤ n → n < 3 → Sum.inl n ∈ ksK bk' → ∃ t ∈ ms.map Mb.tk, t.rs.any (tiedTo n) = true) → Bt z.bd ld H' H2 → Q' (.bl true) H2) : sp_ask A [.ref z.p, .ref rd, .ref ld] H' Q' E' :=
  ⟨z, 32, rd, ld, ms, bk, lk, rfl, hT.r, hT.l, hT.b, n1, n2, hT.n, fun m hm => (hT.m m hm).1, by have := hT.k; omega, fun bk' lk' H2 hR hl hB ht _ hb => q bk' lk' H2 ⟨fun c o h => hb c o (hT.s c o h) (ne_of_none h fb) (ne_of_none h fl), hR, hl, hB, hT.n, hT.m, hT.k⟩ ht hb⟩
theorem MbAt.drop {H H' : Hp} {N : Nat} {d : Addr} {kv : Kvs} {rs rs' : List Rn} {x : Int} (h : MbAt H N d kv rs) (hd : H' d = some (.dK (dropK kv (Sum.inl x)))) (hp : ∀ p, pm rs' p = if p = x then none else pm rs p) (l : LstR rs') : MbAt H' N d (dropK kv (Sum.inl x)) rs' := by
  refine ⟨hd, fun p => ?_, fun p g hg => ?_, ?_, Nat.le_trans (dropK_le _ _) h.n, fun p hn => ?_, l⟩
  · rw [valV_drop]
    unfold bkOf
    rw [hp]
    by_cases c : p = x
    · rw [if_pos (by rw [c]), if_pos c]; rfl
    · rw [if_neg (fun z => c (Sum.inl.inj z)), if_neg c]
      exact h.v p
  · rw [hp] at hg
    by_cases c : p = x
    · rw [if_pos c] at hg; cases hg
    · rw [if_neg c] at hg; exact h.t p g hg
  · obtain ⟨ns, e, nd⟩ := h.k
    refine ⟨ns.filter fun y => decide (y ≠ x), ?_, nd.sublist List.filter_sublist⟩
    have e2 : (dropK kv (Sum.inl x)).map (·.1) = (kv.map (·.1)).filter fun k => decide (k ≠ Sum.inl x) := by
      unfold dropK
      rw [List.filter_map]
      rfl
    rw [e2, e, List.filter_map]
    congr 1
    refine List.filter_congr fun y _ => ?_
    show decide ((Sum.inl y : Key) ≠ Sum.inl x) = decide (y ≠ x)
    rw [Bool.eq_iff_iff]
    simp only [decide_eq_true_eq]
    exact ⟨fun z e => z (by rw [e]), fun z e => z (Sum.inl.inj e)⟩
  · rw [hp] at hn
    by_cases c : p = x
    · rw [if_pos c] at hn; exact absurd rfl hn
    · rw [if_neg c] at hn; exact h.b p hn
theorem StL.lift {H H' H2 : Hp} {z : Hz} {rd ld : Addr} {ms : List Mb} {bk lk : Kvs} {m : Mb} {rs' : List Rn} {x : Int} {dxs a7 : Addr} (hT : StL A H z rd ld H' ms bk lk) (hm : m ∈ ms) (e7 : H' m.p = some (.ins A.C_Stretches dxs (stF a7))) (hS2 : HsG A H2 z 3 2 0 (setT m.n rs' (ms.map Mb.tk)) bk) (hB : Bu m.p H' H2) (y3 : LstR rs') (y4 : ∀ p, pm rs' p = if p = x then none else pm m.rs p) :
    StL A H z rd ld (upd H2 m.d (.dK (dropK m.kv (Sum.inl x)))) (setB m.n rs' (dropK m.kv (Sum.inl x)) ms) bk lk := by
  have hM := hT.r.m m hm
  have hd2 := hB _ _ hM.d (ne_of hM.d e7 (fun z => nomatch z))
  have zz := hT.r.zz m hm
  have fr : Bt m.p m.d H' (upd H2 m.d (.dK (dropK m.kv (Sum.inl x)))) := fun c o h h1 h2 => kd_upd _ _ (hB c o h h1) h2
  have mm := hT.m m hm
  refine ⟨fun c o h => fr c o (hT.s _ _ h) (ne_of_none h mm.2.1) (ne_of_none h mm.2.2), hT.r.set hm (hS2.kd hd2 zz.1 zz.2.1 kd_upd) (hM.drop upd_same y4 y3) (Nat.le_refl _) fr, fr _ _ hT.l (ne_of hT.l e7 (fun z => nomatch z)) mm.1, hT.b, hT.n, fun u hu => ?_, by unfold setB; rw [List.length_map]; exact hT.k⟩
  obtain ⟨v, hv, rfl⟩ := List.mem_map.mp hu
  have := hT.m v hv
  by_cases c : v.n = m.n
  · rw [if_pos c]; exact this
  · rw [if_neg c]; exact this
theorem prd_dropN {α β : Type} {F : α → β → Prop} {xs : List α} {ys : List β} (h : Paired F xs ys) : ∀ {k : Nat}, Paired F (xs.drop k) (ys.drop k) := by
  induction h with
  | nil => intro k; rw [List.drop_nil, List.drop_nil]; exact .nil
  | cons r t ih =>
    intro k
    cases k with
    | zero => exact .cons r t
    | succ k => exact ih
theorem StL.out {H H' H2 : Hp} {z : Hz} {rd ld : Addr} {ms : List Mb} {bk lk : Kvs} {t : Int} (hT : StL A H z rd ld H' ms bk lk) (hS2 : HsG A H2 z 3 2 0 (outT t (ms.map Mb.tk)) bk) (hK : Kd z.td H' H2) (ft : H z.td = none) (fr : H rd = none) (n1 : ld ≠ z.td) :
    StL A H z rd ld (upd H2 rd (.dK (dropK (ms.map mkB) (Sum.inl t)))) (ms.filter fun m => decide (m.n ≠ t)) bk lk := by
  have e1 : outT t (ms.map Mb.tk) = (ms.filter fun m => decide (m.n ≠ t)).map Mb.tk := by
    unfold outT
    rw [List.filter_map]
    rfl
  have e2 : dropK (ms.map mkB) (Sum.inl t) = (ms.filter fun m => decide (m.n ≠ t)).map mkB := by
    unfold dropK
    rw [List.filter_map]
    congr 1
    refine List.filter_congr fun m _ => ?_
    show decide ((Sum.inl m.n : Key) ≠ Sum.inl t) = decide (m.n ≠ t)
    rw [Bool.eq_iff_iff]
    simp only [decide_eq_true_eq]
    exact ⟨fun z e => z (by rw [e]), fun z e => z (Sum.inl.inj e)⟩
  have sub : ∀ m ∈ ms.filter (fun m => decide (m.n ≠ t)), m ∈ ms := fun m hm => (List.mem_filter.mp hm).1
  have hrd2 := hK _ _ hT.r.r hT.r.rz.1
  rw [e1] at hS2
  rw [e2]
  refine ⟨fun c o h => kd_upd _ _ (hK _ _ (hT.s _ _ h) (ne_of_none h ft)) (ne_of_none h fr), ⟨hS2.kd hrd2 hT.r.rz.1 hT.r.rz.2 kd_upd, fun m hm => ?_, hT.r.nd.sublist (List.Sublist.map _ List.filter_sublist), fun m hm => hT.r.zz m (sub m hm), upd_same, hT.r.rz⟩, kd_upd _ _ (hK _ _ hT.l n1) hT.n, hT.b, hT.n, fun m hm => hT.m m (sub m hm), Nat.le_trans (List.length_filter_le _ _) hT.k⟩
  have hM := hT.r.m m (sub m hm)
  have zz := hT.r.zz m (sub m hm)
  exact hM.at (kd_upd _ _ (hK _ _ hM.d zz.1) zz.2.2)
theorem cut_to {xs : List V} : cutV xs none (some (-1)) = xs.take (xs.length - 1) := by
  unfold cutV
  show (xs.drop 0).take ((if (-1 : Int) < 0 then ((-1 : Int) + (xs.length : Int)).toNat else min (-1 : Int).toNat xs.length) - 0) = _
  rw [if_pos (by decide), List.drop_zero, Nat.sub_zero, show ((-1 : Int) + (xs.length : Int)).toNat = xs.length - 1 by omega]
theorem cut_from {xs : List V} : cutV xs (some (-1)) none = xs.drop (xs.length - 1) := by
  unfold cutV
  show (xs.drop (if (-1 : Int) < 0 then ((-1 : Int) + (xs.length : Int)).toNat else min (-1 : Int).toNat xs.length)).take (xs.length - (if (-1 : Int) < 0 then ((-1 : Int) + (xs.length : Int)).toNat else min (-1 : Int).toNat xs.length)) = _
  rw [if_pos (by decide), show ((-1 : Int) + (xs.length : Int)).toNat = xs.length - 1 by omega]
  exact List.take_of_length_le (by rw [List.length_drop]; omega)
theorem not_take {α : Type} {L : List α} {i : Nat} {x : α} (nd : L.Nodup) (h : L[i]? = some x) : x ∉ L.take i := fun hx => by
  have e : L.take (i + 1) = L.take i ++ [x] := by rw [List.take_add_one, h]; rfl
  have := nd.sublist (List.take_sublist (i + 1) L)
  rw [e, List.nodup_append] at this
  exact this.2.2 x hx x (List.mem_singleton.mpr rfl) rfl
theorem body_law (T : Txt K mg A) : Body P w K mg base "law" s_law ["_law_script", "_law_house", "_law_sizes", "_law_banks", "_law_bank", "_law_rooms", "_law_some", "_law_task", "_law_pair"] 14 (spLaw K) := by
  have H_Shape_init := h_init (P := P) (w := w) (base := base) T
  have H_House_init := h_hinit (P := P) (w := w) (base := base) T
  have H_House_new_bank := h_nb (P := P) (w := w) (base := base) T
  have H_House_new_task := h_nt (P := P) (w := w) (base := base) T
  have H_House_end_task := h_end (P := P) (w := w) (base := base) T
  have H_House_fork := h_fork (P := P) (w := w) (base := base) T
  have H_House_lift := h_lift (P := P) (w := w) (base := base) T
  have H_l_laid_all := h_la (P := P) (w := w) (base := base) T
  have H_l_asked := h_ask (P := P) (w := w) (base := base) T
  have H_l_drop := h_ldrop (P := P) (w := w) (base := base) T
  intro f cdv A' outer s H vs Q E hr z
  obtain ⟨a, ns, rfl, hs, hns, qq⟩ := z
  have H_l_cell_at := h_cell (P := P) (w := w) (base := base) T a ns
  refine ⟨_, (pss_cut (ps_set (i := 1) sc_law.nd rfl (Or.inl rfl) (pe_makeE H_House_init (hr.mono (by decide)) xw_def (pa_cons (pe_makeE H_Shape_init (hr.mono (by decide)) xw_def (pa_cons pe_int (pa_cons pe_int (pa_cons pe_int pa_nil)))) pa_nil)))
      (pss_cut (ps_setC (i := 2) sc_law.nd rfl rfl rfl (pi_range1 rfl T.b_range (pa_cons pe_int pa_nil)) (x := "_law_k") (fs := ["_law_script"]) (ix := [0]) rfl rfl (fun _ _ _ _ _ _ => (pg_name (i := 0) (show (["_law_k", "_law_script"] : List Str).Nodup by decide +kernel) rfl (Or.inl rfl))) (fun _ _ _ _ _ _ => pf_nil) (fun _ _ _ _ _ _ => (pe_op op_add pe_int (pe_op op_mod (pe_callE H_l_cell_at (hr.mono (by decide)) xw_no (pa_cons (pvM 1) (pa_cons (pvM 0) pa_nil))) pe_int))))
      (pss_cons (ps_set (i := 3) sc_law.nd rfl (Or.inl rfl) pe_dnewK)
      (pss_cons (ps_forE PassesOwn.leaving rfl (pi_range1 rfl T.b_range (pa_cons pe_int pa_nil)) (pg_name (i := 4) sc_law.nd rfl (Or.inr rfl)) (pss_cons (ps_expr (pe_methE (pvM 1) T.cl_House H_House_new_bank (hr.mono (by decide)) xw_def (pa_cons (pe_ix ix_list (pvM 2) (pvM 4) (fun _ _ => rfl)) pa_nil)))
      (pss_one (ps_dput (hu_of hr) (pvM 3) (pvM 4) pe_bl rfl))))
      (pss_cons (ps_expr (pe_methE0 (pvM 1) T.cl_House H_House_new_task (hr.mono (by decide)) xw_def))
      (pss_cons (ps_expr (pe_methE0 (pvM 1) T.cl_House H_House_new_task (hr.mono (by decide)) xw_def))
      (pss_cut (ps_set (i := 5) sc_law.nd rfl (Or.inr rfl) (pe_callE H_l_laid_all (hr.mono (by decide)) xw_def (pa_cons (pvM 1) (pa_cons (pvM 2) (pa_cons (pe_slice sl_list (pvM 0) (po_some pe_int) (po_some pe_int)) (pa_cons (pe_callE H_l_cell_at (hr.mono (by decide)) xw_def (pa_cons (pvM 0) (pa_cons pe_int pa_nil))) pa_nil))))))
      (pss_cut (ps_if (pt_cmpR op_eq (pe_op op_mod (pe_callE H_l_cell_at (hr.mono (by decide)) xw_def (pa_cons (pvM 0) (pa_cons pe_int pa_nil))) pe_int) pe_int (nomark _)) (pss_cons (ps_expr (pe_methE (pvM 1) T.cl_House H_House_fork (hr.mono (by decide)) xw_def (pa_cons pe_int pa_nil)))
      (pss_one (ps_dput (hu_of hr) (pvM 5) pe_int (pe_callTy call_dictOf rfl T.b_dict PyProof.Rows.boot_dict (pa_cons (pe_dget (hu_of hr) (pvM 5) pe_int (fun _ _ => rfl)) pa_nil)) rfl))) pss_nil)
      (pss_cut (ps_if (pt_not (pt_val (pe_callE H_l_asked (hr.mono (by decide)) xw_def (pa_cons (pvM 1) (pa_cons (pvM 5) (pa_cons (pvM 3) pa_nil)))))) (pss_one (ps_ret pe_bl)) pss_nil)
      (pss_cons (ps_set (i := 4) sc_law.nd rfl (Or.inr rfl) (pe_op op_mod (pe_op op_fdiv (pe_callE H_l_cell_at (hr.mono (by decide)) xw_def (pa_cons (pvM 0) (pa_cons pe_int pa_nil))) pe_int) pe_int))
      (pss_cons (ps_set (i := 6) sc_law.nd rfl (Or.inl rfl) (pe_lst pa_nil))
      (pss_cons (ps_forE PassesOwn.leaving rfl (pi_list (pe_callB (call_sortedD rfl) rfl T.b_sorted PyProof.Rows.boot_sorted (pa_cons (pvM 5) pa_nil))) (pg_name (i := 7) sc_law.nd rfl (Or.inr rfl)) (pss_one (ps_set (i := 6) sc_law.nd rfl (Or.inl rfl) (pe_op op_cat (pvM 6) (pe_comp rfl (pi_list (pe_callB (call_sortedD rfl) rfl T.b_sorted PyProof.Rows.boot_sorted (pa_cons (pe_dget (hu_of hr) (pvM 5) (pvM 7) (fun _ _ => rfl)) pa_nil))) (x := "_law_page") (fs := ["_law_bank", "_law_rooms", "_law_task"]) (ix := [4, 5, 7]) rfl rfl (fun _ _ _ _ _ _ => (pg_name (i := 0) (show (["_law_page", "_law_bank", "_law_rooms", "_law_task"] : List Str).Nodup by decide +kernel) rfl (Or.inl rfl))) (fun _ _ _ _ _ _ => (pf_one (pt_cmpR op_eq (pe_dget (hu_of hr) (pe_dget (hu_of hr) (pvM 2) (pvM 3) (fun _ _ => rfl)) (pvM 0) (fun _ _ => rfl)) (pvM 1) (nomark _)))) (fun _ _ _ _ _ _ => (pe_tup (pa_cons (pvM 3) (pa_cons (pvM 0) pa_nil)))))))))
      (pss_cons (ps_forE PassesOwn.leaving rfl (pi_list (pe_slice sl_list (pvM 6) po_none (po_some (pe_un op_neg pe_int)))) (pg_name (i := 8) sc_law.nd rfl (Or.inl rfl)) (pss_cons (ps_expr (pe_methE (pvM 1) T.cl_House H_House_lift (hr.mono (by decide)) xw_def (pa_cons (pe_ix ix_tup (pvM 8) pe_int (fun _ _ => rfl)) (pa_cons (pe_ix ix_tup (pvM 8) pe_int (fun _ _ => rfl)) (pa_cons pe_int pa_nil)))))
      (pss_one (ps_expr (pe_dpop1 (pe_dget (hu_of hr) (pvM 5) (pe_ix ix_tup (pvM 8) pe_int (fun _ _ => rfl)) (fun _ _ => rfl)) (pe_ix ix_tup (pvM 8) pe_int (fun _ _ => rfl)) ⟨rfl, rfl, rfl, rfl⟩)))))
      (pss_cut (ps_if (pt_not (pt_val (pe_callE H_l_asked (hr.mono (by decide)) xw_def (pa_cons (pvM 1) (pa_cons (pvM 5) (pa_cons (pvM 3) pa_nil)))))) (pss_one (ps_ret pe_bl)) pss_nil)
      (pss_cons (ps_forE PassesOwn.leaving rfl (pi_list (pe_slice sl_list (pvM 6) (po_some (pe_un op_neg pe_int)) po_none)) (pg_name (i := 8) sc_law.nd rfl (Or.inl rfl)) (pss_cons (ps_expr (pe_methE (pvM 1) T.cl_House H_House_lift (hr.mono (by decide)) xw_def (pa_cons (pe_ix ix_tup (pvM 8) pe_int (fun _ _ => rfl)) (pa_cons (pe_ix ix_tup (pvM 8) pe_int (fun _ _ => rfl)) (pa_cons pe_int pa_nil)))))
      (pss_one (ps_expr (pe_dpop1 (pe_dget (hu_of hr) (pvM 5) (pe_ix ix_tup (pvM 8) pe_int (fun _ _ => rfl)) (fun _ _ => rfl)) (pe_ix ix_tup (pvM 8) pe_int (fun _ _ => rfl)) ⟨rfl, rfl, rfl, rfl⟩)))))
      (pss_cut (ps_if (pt_not (pt_val (pe_callE H_l_asked (hr.mono (by decide)) xw_def (pa_cons (pvM 1) (pa_cons (pvM 5) (pa_cons (pvM 3) pa_nil)))))) (pss_one (ps_ret pe_bl)) pss_nil)
      (pss_cons (ps_forE PassesOwn.leaving rfl (pi_list (pe_callB (call_sortedD rfl) rfl T.b_sorted PyProof.Rows.boot_sorted (pa_cons (pvM 5) pa_nil))) (pg_name (i := 7) sc_law.nd rfl (Or.inr rfl)) (pss_cons (ps_expr (pe_methE (pvM 1) T.cl_House H_House_end_task (hr.mono (by decide)) xw_def (pa_cons (pvM 7) pa_nil)))
      (pss_cons (ps_expr (pe_dpop1 (pvM 5) (pvM 7) ⟨rfl, rfl, rfl, rfl⟩))
      (pss_one (ps_if (pt_not (pt_val (pe_callE H_l_asked (hr.mono (by decide)) xw_def (pa_cons (pvM 1) (pa_cons (pvM 5) (pa_cons (pvM 3) pa_nil)))))) (pss_one (ps_ret pe_bl)) pss_nil)))))
      (pss_one (ps_ret (pe_and (pe_cmpR op_eq (pe_callB call_lenD rfl T.b_len PySem.boot_len (pa_cons (pvM 3) pa_nil)) pe_int (nomark _)) (pe_and (pe_cmpR op_eq (pe_methE (pvM 1) T.cl_House H_House_new_bank (hr.mono (by decide)) xw_def (pa_cons pe_int pa_nil)) pe_int (nomark _)) (pe_one (pe_cmpR op_eq (pe_callE H_l_drop (hr.mono (by decide)) xw_def (pa_cons (pvM 1) (pa_cons pe_int pa_nil))) pe_str (nomark _)))))))))))))))))))))))), ?_⟩
  refine ⟨fun σ H' => ∃ z : Hz, σ = [some (.ref a), some (.ref z.p), none, none, none, none, none, none, none] ∧ Same H H' ∧ HsG A H' z 3 2 0 [] [] ∧ H z.td = none ∧ H z.bd = none, ?_, fun σ' H1 => ?_⟩
  · unfold sp_hinit spInit
    walk_at "wp"
    refine fun x dx hx hdx hne => ?_
    rw [if_pos (good_of (by omega))]
    intro x1 dx1 hx1 hdx1 hne1 td bd H1 htd hbd hn1 k1 a1 a2 a3
    have nxx1 : x1 ≠ x := fun z => by rw [z, upd_same] at hx1; cases hx1
    have b1 : Same H (upd (upd H dx (.own x)) x (.ins A.C_Shape dx (shF 3 2 0))) := fun c o h => by rw [upd_ne (ne_of_none h hx), upd_ne (ne_of_none h hdx)]; exact h
    have e1 : upd (upd H dx (.own x)) x (.ins A.C_Shape dx (shF 3 2 0)) x = some (.ins A.C_Shape dx (shF 3 2 0)) := upd_same
    generalize upd (upd H dx (.own x)) x (.ins A.C_Shape dx (shF 3 2 0)) = G1 at *
    have b2 : Same G1 (upd (upd G1 dx1 (.own x1)) x1 (.ins A.C_House dx1 [])) := fun c o h => by rw [upd_ne (ne_of_none h hx1), upd_ne (ne_of_none h hdx1)]; exact h
    have e2 := b2 _ _ e1
    generalize upd (upd G1 dx1 (.own x1)) x1 (.ins A.C_House dx1 []) = G2 at *
    have b12 := b1.trans b2
    refine ⟨⟨x1, x, td, bd⟩, rfl, fun c o h => k1 c o (b12 _ _ h) (ne_of_none (b1 _ _ h) hx1), ⟨⟨dx1, a1⟩, ⟨dx, k1 _ _ e2 nxx1.symm⟩, a2, a3, fun t ht => by simp at ht, .nil, .nil, fun kv hkv => by simp at hkv, hn1, fun t ht => by simp at ht⟩, same_none b12 htd, same_none b12 hbd⟩
  rintro ⟨z, rfl, s1, hS, ftd, fbd⟩
  refine ⟨fun σ H' => ∃ (sa : Addr) (ss : List Int), σ = [some (.ref a), some (.ref z.p), some (.ref sa), none, none, none, none, none, none] ∧ Same H1 H' ∧ H' sa = some (.lst (ss.map V.int)) ∧ ss.length = 3 ∧ (∀ x ∈ ss, 4 ≤ x ∧ x ≤ 64) ∧ H1 sa = none, ?_, fun σ' H2 => ?_⟩
  · unfold sp_cell
    walk_at "wp"
    intro D hD
    refine comp_range (fun i zs σ H' => ∃ (v0 : Option V) (ss : List Int), σ = [v0, some (.ref a)] ∧ Same H1 H' ∧ H' D = some (.lst zs) ∧ zs = ss.map V.int ∧ ss.length = i ∧ ∀ x ∈ ss, 4 ≤ x ∧ x ≤ 64) ⟨_, [], rfl, same_upd same_refl hD, upd_same, rfl, rfl, fun x h => by simp at h⟩ (fun i zs σ H' hi => ?_) (fun zs σ H' => ?_)
    · rintro ⟨v0, ss, rfl, s2, hD2, rfl, hl, hr⟩
      walk_at "wp"
      refine ⟨sqL_same hs (s1.trans s2), by omega, hD2, by rw [List.length_map]; omega, same_put s2 hD, ss ++ [4 + ns.getD (0 + (i : Int)).toNat 0 % 61], by rw [List.map_append]; rfl, by rw [List.length_append, hl]; rfl, fun x h => ?_⟩
      rcases List.mem_append.mp h with h | h
      · exact hr x h
      · rw [List.mem_singleton.mp h]; omega
    · rintro ⟨v0, ss, rfl, s2, hD2, rfl, hl, hr⟩
      exact ⟨s2, ss, hD2, hl, hr, hD⟩
  rintro ⟨sa, ss, rfl, s2, hsa, hss, hsr, fsa⟩
  have hS2 := hS.same s2
  have s02 := s1.trans s2
  have fs0 := same_none s1 fsa
  clear hS s1 s2 fsa
  unfold sp_nb sDPut
  walk_at "wp"
  intro ld hld
  have fld := same_none s02 hld
  have hld3 : upd H2 ld (.dK []) ld = some (.dK []) := upd_same
  have u3 := same_upd (o := .dK []) (same_refl (H := H2)) hld
  have nl1 : ld ≠ z.td := fun e => by rw [e, hS2.t] at hld; cases hld
  have nl2 : ld ≠ z.bd := fun e => by rw [e, hS2.b] at hld; cases hld
  have hS3 := hS2.same u3
  have s03 := s02.trans u3
  have hsa3 := u3 _ _ hsa
  generalize upd H2 ld (.dK []) = H3 at *
  refine loop_range (fun i σ H' => ∃ (v4 : Option V) (bk lk : Kvs), σ = [some (.ref a), some (.ref z.p), some (.ref sa), some (.ref ld), v4, none, none, none, none] ∧ Same H H' ∧ HsG A H' z 3 2 0 [] bk ∧ H' ld = some (.dK lk) ∧ H' sa = some (.lst (ss.map V.int)) ∧ ksK bk = (List.range i).map (fun n : Nat => (Sum.inl (n : Int) : Key)) ∧ ksK lk = (List.range i).map (fun n : Nat => (Sum.inl (n : Int) : Key)) ∧ (∀ (n : Nat) (x : Int), n < i → ss[n]? = some x → valV bk (Sum.inl (n : Int)) = some (.int x))) ⟨_, [], [], rfl, s03, hS3, hld3, hsa3, rfl, rfl, fun n x h => absurd h (by omega)⟩ (fun i σ H' hi => ?_) (fun σ H4 => ?_)
  · rintro ⟨v4, bk, lk, rfl, s4, hS4, hl4, hsa4, kb, kl, hv4⟩
    walk_at "wp"
    have hi3 : i < 3 := hi
    obtain ⟨x, hx⟩ : ∃ x, ss[i]? = some x := ⟨_, List.getElem?_eq_getElem (by omega)⟩
    have hx4 := hsr x (List.mem_of_getElem? hx)
    have hbl : bk.length = i := by
      have := congrArg List.length kb
      unfold ksK at this
      rw [List.length_map, List.length_map, List.length_range] at this
      exact this
    have hll : lk.length = i := by
      have := congrArg List.length kl
      unfold ksK at this
      rw [List.length_map, List.length_map, List.length_range] at this
      exact this
    obtain ⟨dxa, h1a⟩ := hS4.me
    refine ⟨dxa, _, h1a, rfl, _, SqL.of hsa4, .int x, by rw [Int.zero_add]; exact atI_nat (by rw [List.getElem?_map, hx]; rfl), z, rfl, 3, 2, 0, [], bk, x, rfl, hS4, by omega, .inl ⟨by omega, by omega, fun k H5 hL hS5 hK => ?_⟩⟩
    rw [kb] at hL
    obtain rfl := lst_range hL
    have hl5 := hK _ _ hl4 nl2
    have hsa5 := hK _ _ hsa4 (ne_of hsa4 hS4.b (fun z => nomatch z))
    have hz := PySem.sizeLine_eq
    have hkn : (Sum.inl (0 + (k : Int)) : Key) ∉ ksK lk := by
      rw [kl, Int.zero_add]
      intro h
      obtain ⟨n, hn, e⟩ := List.mem_map.mp h
      have : (n : Int) = k := Sum.inl.inj e
      have := List.mem_range.mp hn
      omega
    refine ⟨_, .inl ⟨lk, Sum.inl (0 + (k : Int)), hl5, rfl, by omega, rfl⟩, ?_⟩
    rw [ks_put hkn]
    refine ⟨fun c o h => by rw [upd_ne (ne_of_none h fld)]; exact hK _ _ (s4 _ _ h) (ne_of_none h fbd), _, hS5.kd hl5 nl1 nl2 kd_upd, _, upd_same, by rw [upd_ne (ne_of hsa5 hl5 (fun z => nomatch z))]; exact hsa5, ?_, ?_, fun n y hn hy => ?_⟩
    · unfold ksK at kb ⊢
      rw [List.map_append, kb, List.range_succ, List.map_append]; rfl
    · unfold ksK at kl ⊢
      rw [List.map_append, kl, List.range_succ, List.map_append, Int.zero_add]; rfl
    · rw [valV_snoc _ _ _ _ (val_none (by rw [kb]; exact hL.1))]
      by_cases c : n = k
      · rw [if_pos (by rw [c])]
        rw [c, hx] at hy
        cases hy
        rfl
      · rw [if_neg (fun z => c (by have := Sum.inl.inj z; omega))]
        exact hv4 n y (by omega) hy
  rintro ⟨v4, bk, lk, rfl, s4, hS4, hl4, hsa4, kb, kl, hv4⟩
  unfold sp_nt
  walk_at "wp"
  obtain ⟨dxa, h1a⟩ := hS4.me
  refine ⟨dxa, _, h1a, rfl, z, rfl, 3, 2, 0, [], _, hS4, by decide, fun k p0 H5 hL5 hS5 f0 hK5 => ?_⟩
  obtain rfl := lst_nil hL5
  obtain ⟨dxb, h1b⟩ := hS5.me
  refine ⟨dxb, _, h1b, rfl, z, rfl, 3, 2, 0, _, _, hS5, (show (1 : Nat) < 1000 by decide), fun k p1 H6 hL6 hS6 f1 hK6 => ?_⟩
  obtain rfl := lst_one hL6
  have s6 : Same H H6 := fun c o h => hK6 c o (hK5 c o (s4 c o h) (ne_of_none h ftd)) (ne_of_none h ftd)
  have hl6 := hK6 _ _ (hK5 _ _ hl4 nl1) nl1
  have hsa5 := hK5 _ _ hsa4 (ne_of hsa4 hS4.t (fun z => nomatch z))
  have hsa6 := hK6 _ _ hsa5 (ne_of hsa5 hS5.t (fun z => nomatch z))
  have g0 : H p0 = none := same_none s4 f0
  have g1 : H p1 = none := same_none (fun c o h => hK5 c o (s4 c o h) (ne_of_none h ftd)) f1
  have hS6 : HsG A H6 z 3 2 0 [⟨0, p0, []⟩, ⟨1, p1, []⟩] bk := hS6
  have hB6 : BkOk lk bk := ⟨fun k => by rw [kl, kb], fun k hk => by
    rw [kb] at hk
    obtain ⟨n, hn, rfl⟩ := List.mem_map.mp hk
    have : n < 3 := List.mem_range.mp hn
    exact ⟨n, rfl, by omega, by omega⟩⟩
  clear hS4 hl4 hsa4 s4 hS5 hK5 hK6 hS3 hS2 hL5 hL6 hld hld3 hsa hsa3 hsa5 s02 s03 u3 h1a h1b
  refine ⟨fun σ H' => ∃ rd ms, σ = [some (.ref a), some (.ref z.p), some (.ref sa), some (.ref ld), v4, some (.ref rd), none, none, none] ∧ StL A H z rd ld H' ms bk lk ∧ ms.map Mb.n = [0, 1] ∧ H rd = none, ?_, fun σ' H7 => ?_⟩
  · unfold sp_la sp_cell
    walk_at "wp"
    have hcut : cutV (ns.map V.int) (some 5) (some 13) = ((ns.take 13).drop 5).map V.int := by rw [show cutV (ns.map V.int) (some 5) (some 13) = ((ns.map V.int).take 13).drop 5 from cutV_nat (lo := 5) (hi := 13), ← List.map_take, ← List.map_drop]
    obtain ⟨_, ⟨dx0, vs0, ep0, _, _⟩, _⟩ := hS6.st _ (List.mem_cons_self ..)
    obtain ⟨_, ⟨dx1, vs1, ep1, _, _⟩, _⟩ := hS6.st _ (List.mem_cons_of_mem _ (List.mem_cons_self ..))
    refine ⟨_, sqL_same hs s6, fun p hp => ?_⟩
    have u := same_upd (o := .lst (cutV (ns.map V.int) (some 5) (some 13))) (same_refl (H := H6)) hp
    refine ⟨sqL_same hs (s6.trans u), z, rfl, p0, p1, ss, (ns.take 13).drop 5, bk, hS6.same u, u _ _ hsa6, by rw [hcut], hss, by rw [List.length_drop, List.length_take]; omega, fun n x hx => ⟨hv4 n x (by have := (List.getElem?_eq_some_iff.mp hx).1; show n < 3; omega) hx, hsr x (List.mem_of_getElem? hx)⟩, fun rd ms H7 hR hn hrd hmd hF => ?_⟩
    have hl6' := u _ _ hl6
    refine ⟨ms, ⟨fun c o h => hF c o (u _ _ (s6 _ _ h)) (ne_of_none h g0) (ne_of_none h g1), hR, hF _ _ hl6' (ne_of hl6 ep0 (fun z => nomatch z)) (ne_of hl6 ep1 (fun z => nomatch z)), hB6, ne_of_none hl6' hrd, fun m hm => ⟨ne_of_none hl6' (hmd m hm).1, ?_, same_none (s6.trans u) (hmd m hm).1⟩, ?_⟩, hn, same_none (s6.trans u) hrd⟩
    · rcases (hmd m hm).2 with e | e <;> rw [e] <;> assumption
    · have := congrArg List.length hn
      rw [List.length_map] at this
      have : ms.length = 2 := this
      omega
  rintro ⟨rd, ms, rfl, hT7, en7, grd⟩
  refine ⟨fun σ H' => ∃ ms bk lk, σ = [some (.ref a), some (.ref z.p), some (.ref sa), some (.ref ld), v4, some (.ref rd), none, none, none] ∧ StL A H z rd ld H' ms bk lk, ?_, fun σ' H8 => ?_⟩
  · unfold sp_fork sp_cell tDGet
    walk_at "wp"
    obtain ⟨m0, hm0, hn0⟩ : ∃ m ∈ ms, m.n = 0 := by
      have : (0 : Int) ∈ ms.map Mb.n := by rw [en7]; exact List.mem_cons_self ..
      obtain ⟨m, hm, h⟩ := List.mem_map.mp this
      exact ⟨m, hm, h⟩
    obtain ⟨dxa, h1a⟩ := hT7.r.h.me
    have ht0 : m0.tk ∈ ms.map Mb.tk := List.mem_map.mpr ⟨m0, hm0, rfl⟩
    have hlen : ms.length = 2 := by
      have := congrArg List.length en7
      rw [List.length_map] at this
      exact this
    refine ⟨sqL_same hs hT7.s, ite2 (fun _ => ⟨dxa, _, h1a, rfl, z, rfl, 3, 2, 0, _, _, hT7.r.h, by rw [List.length_map]; omega, .inr ⟨m0.tk, ht0, hn0, fun k p2 H8 hL hS8 f2 hK => ?_⟩⟩) (fun _ => ⟨ms, bk, lk, hT7⟩)⟩
    rw [tk_keys, en7] at hL
    obtain rfl := lst_two hL
    have hrd8 := hK _ _ hT7.r.r hT7.r.rz.1
    have hd8 : ∀ m ∈ ms, H8 m.d = some (.dK m.kv) := fun m hm => hK _ _ (hT7.r.m m hm).d (hT7.r.zz m hm).1
    have hv0 : valV (ms.map mkB) (Sum.inl 0) = some (.ref m0.d) := by rw [← hn0]; exact mkB_val hT7.r.nn hm0
    refine ⟨_, .inl ⟨_, Sum.inl 0, .inl hrd8, rfl, hv0.symm⟩, m0.d, rfl, m0.kv, .inl (hd8 m0 hm0), fun l hl => ?_⟩
    have u := same_upd (o := .dK m0.kv) (same_refl (H := H8)) hl
    have hl9 : upd H8 l (.dK m0.kv) l = some (.dK m0.kv) := upd_same
    have n1 : l ≠ z.td := fun e => by rw [e, hS8.t] at hl; cases hl
    have n2 : l ≠ z.bd := fun e => by rw [e, hS8.b] at hl; cases hl
    have n3 : l ≠ rd := fun e => by rw [e, hrd8] at hl; cases hl
    have n4 : ∀ m ∈ ms, m.d ≠ l := fun m hm e => by rw [← e, hd8 m hm] at hl; cases hl
    have hld8 := hK _ _ hT7.l nl1
    have n5 : ld ≠ l := fun e => by rw [← e, hld8] at hl; cases hl
    have hS9 := hS8.same u
    have hrd9 := u _ _ hrd8
    have hd9 : ∀ m ∈ ms, upd H8 l (.dK m0.kv) m.d = some (.dK m.kv) := fun m hm => u _ _ (hd8 m hm)
    have hld9 := u _ _ hld8
    have s9 : Same H (upd H8 l (.dK m0.kv)) := fun c o h => u _ _ (hK _ _ (hT7.s _ _ h) (ne_of_none h ftd))
    have s8 : Same H H8 := fun c o h => hK _ _ (hT7.s _ _ h) (ne_of_none h ftd)
    have gl := same_none s8 hl
    have gp2 : H p2 = none := same_none hT7.s f2
    generalize upd H8 l (.dK m0.kv) = H9 at *
    have hz := PySem.sizeLine_eq
    refine ⟨_, .inl ⟨_, Sum.inl 2, hrd9, rfl, by rw [List.length_map]; omega, rfl⟩, ms ++ [⟨2, p2, m0.rs, l, m0.kv⟩], bk, lk, ?_⟩
    have hkn : (Sum.inl 2 : Key) ∉ ksK (ms.map mkB) := by
      unfold ksK
      rw [mk_keys, en7]
      simp
    rw [ks_put hkn]
    have cases' : ∀ m ∈ ms ++ [(⟨2, p2, m0.rs, l, m0.kv⟩ : Mb)], m ∈ ms ∨ m = ⟨2, p2, m0.rs, l, m0.kv⟩ := fun m hm => (List.mem_append.mp hm).imp id List.mem_singleton.mp
    have hM0 := hT7.r.m m0 hm0
    refine ⟨fun c o h => by rw [upd_ne (ne_of_none h grd)]; exact s9 _ _ h, ⟨?_, fun m hm => ?_, ?_, fun m hm => ?_, ?_, hT7.r.rz⟩, by rw [upd_ne hT7.n]; exact hld9, hT7.b, hT7.n, fun m hm => ?_, by rw [List.length_append]; show ms.length + 1 ≤ 3; omega⟩
    · rw [List.map_append]
      exact hS9.kd hrd9 hT7.r.rz.1 hT7.r.rz.2 kd_upd
    · rcases cases' m hm with h | rfl
      · exact (hT7.r.m m h).at (kd_upd _ _ (hd9 m h) (hT7.r.zz m h).2.2)
      · exact ⟨kd_upd _ _ hl9 n3, hM0.v, hM0.t, hM0.k, hM0.n, hM0.b, hM0.l⟩
    · rw [List.map_append, List.nodup_append]
      refine ⟨hT7.r.nd, by simp, fun x hx y hy => ?_⟩
      obtain ⟨m, hm, rfl⟩ := List.mem_map.mp hx
      rw [List.mem_singleton.mp hy]
      exact n4 m hm
    · rcases cases' m hm with h | rfl
      · exact hT7.r.zz m h
      · exact ⟨n1, n2, n3⟩
    · rw [List.map_append]; exact upd_same
    · rcases cases' m hm with h | rfl
      · exact hT7.m m h
      · exact ⟨n5, gp2, gl⟩
  rintro ⟨ms, bk, lk, rfl, hT8⟩
  refine ⟨fun σ H' => ∃ bk lk, σ = [some (.ref a), some (.ref z.p), some (.ref sa), some (.ref ld), v4, some (.ref rd), none, none, none] ∧ StL A H z rd ld H' ms bk lk, ?_, fun σ' H9 => ?_⟩
  · walk_at "wp"
    exact ask_of hT8 nl1 nl2 fbd fld fun bk' lk' H2 hT2 _ => ⟨true, rfl, iteF ⟨bk', lk', hT2⟩⟩
  rintro ⟨bk, lk, rfl, hT9⟩
  unfold sp_cell tDGet
  walk_at "wp"
  have hS9 := hT9.r
  refine ⟨sqL_same hs hT9.s, fun q0 hq0 => ⟨_, .inl ((same_upd same_refl hq0) _ _ hS9.r), ms.map Mb.n, mk_keys, by rw [List.length_map]; have := hT9.k; omega, fun sl S hsl hperm hsort => ⟨⟨_, SqL.of upd_same⟩, ?_⟩⟩⟩
  generalize ns.getD 4 0 / 2 % 3 = b at *
  have gq0 := same_none hT9.s hq0
  have u1 := same_upd (o := .lst []) (same_refl (H := H9)) hq0
  have gsl := same_none (hT9.s.trans u1) hsl
  have u2 := same_upd (o := .lst (S.map V.int)) same_refl hsl
  have nqs : q0 ≠ sl := fun e => by rw [← e, upd_same] at hsl; cases hsl
  have hq1 : upd (upd H9 q0 (.lst [])) sl (.lst (S.map V.int)) q0 = some (.lst []) := u2 _ _ upd_same
  have hsl1 : upd (upd H9 q0 (.lst [])) sl (.lst (S.map V.int)) sl = some (.lst (S.map V.int)) := upd_same
  have hT10 := hT9.same (u1.trans u2)
  generalize upd (upd H9 q0 (.lst [])) sl (.lst (S.map V.int)) = H10 at *
  clear hT9 hS9 hT8 hT7 u1 u2 hS6 hl6 hsa6 s6
  refine loop_list (K := K) (xs := S.map V.int) (fun i σ H' => ∃ (q : Addr) (us : List V) (L : List (Int × Int)) (v7 : Option V), σ = [some (.ref a), some (.ref z.p), some (.ref sa), some (.ref ld), some (.int b), some (.ref rd), some (.ref q), v7, none] ∧ Same H10 H' ∧ H' q = some (.lst us) ∧ Paired (PrAt H') us L ∧ L.Nodup ∧ (∀ x ∈ L, x.1 ∈ S.take i ∧ ∃ m ∈ ms, m.n = x.1 ∧ pm m.rs x.2 ≠ none) ∧ L.length ≤ 32 * i) ⟨q0, [], [], _, rfl, same_refl, hq1, .nil, .nil, fun x h => by simp at h, Nat.zero_le _⟩ (fun i σ H' _ ⟨_, _, _, _, _, s, _⟩ => SqL.of (s _ _ hsl1)) (fun i v σ H' hi => ?_) (fun σ H11 => ?_)
  · rintro ⟨q, us, L, v7, rfl, s11, hq, hP, nd, hm, hl⟩
    rw [List.getElem?_map] at hi
    obtain ⟨t, ht, rfl⟩ := Option.map_eq_some_iff.mp hi
    walk_at "wp"
    have hT := hT10.same s11
    have htS : t ∈ S := List.mem_of_getElem? ht
    have hSl : S.length ≤ 3 := by have := hperm.length_eq; rw [List.length_map] at this; have := hT.k; omega
    have hi3 : i < 3 := by have := (List.getElem?_eq_some_iff.mp ht).1; omega
    obtain ⟨m, hmm, hmn⟩ : ∃ m ∈ ms, m.n = t := by
      obtain ⟨m, hm, h⟩ := List.mem_map.mp (hperm.mem_iff.mp htS)
      exact ⟨m, hm, h⟩
    have hM := hT.r.m m hmm
    have hvt : valV (ms.map mkB) (Sum.inl t) = some (.ref m.d) := by rw [← hmn]; exact mkB_val hT.r.nn hmm
    obtain ⟨ps, ek, ndp⟩ := hM.k
    have hpl : ps.length = m.kv.length := by have := congrArg List.length ek; rw [List.length_map, List.length_map] at this; omega
    refine ⟨_, .inl ⟨_, Sum.inl t, .inl hT.r.r, rfl, hvt.symm⟩, m.d, rfl, m.kv, .inl hM.d, ps, ek, by have := hM.n; omega, fun l P hl hpp hps => ⟨⟨_, SqL.of upd_same⟩, fun D hD => ?_⟩⟩
    have v1 := same_upd (o := .lst (P.map V.int)) (same_refl (H := H')) hl
    have hl1 : upd H' l (.lst (P.map V.int)) l = some (.lst (P.map V.int)) := upd_same
    generalize upd H' l (.lst (P.map V.int)) = H12 at *
    have hPl : P.length ≤ 32 := by have := hpp.length_eq; have := hM.n; omega
    refine comp_list (K := K) (xs := P.map V.int) (fun j ys σ H3 => ∃ (v0 : Option V), σ = [v0, some (.int b), some (.ref rd), some (.int t)] ∧ Same H12 H3 ∧ H3 D = some (.lst ys) ∧ Paired (PrAt H3) ys (((P.take j).filter (fun p => decide (bkOf m.rs p = some b))).map (fun p => (t, p)))) ⟨_, rfl, same_upd same_refl hD, upd_same, .nil⟩ (fun j ys σ H3 _ ⟨_, _, s3, _⟩ => SqL.of (s3 _ _ hl1)) (fun j v ys σ H3 hj => ?_) (fun ys σ H3 => ?_)
    · rintro ⟨v0, rfl, s3, hD3, hP3⟩
      rw [List.getElem?_map] at hj
      obtain ⟨p, hpj, rfl⟩ := Option.map_eq_some_iff.mp hj
      walk_at "wp"
      have hT3 := (hT.same v1).same s3
      have hj32 : j < 32 := by have := (List.getElem?_eq_some_iff.mp hpj).1; omega
      have hkp : (Sum.inl p : Key) ∈ ksK m.kv := by
        unfold ksK
        rw [ek]
        exact List.mem_map.mpr ⟨p, hpp.mem_iff.mp (List.mem_of_getElem? hpj), rfl⟩
      obtain ⟨vb, hvb⟩ := val_some hkp
      have hvb2 := hvb
      rw [hM.v] at hvb2
      obtain ⟨b', hb', rfl⟩ := Option.map_eq_some_iff.mp hvb2
      refine ⟨_, .inl ⟨_, Sum.inl t, .inl hT3.r.r, rfl, hvt.symm⟩, m.d, rfl, .int b', .inl ⟨m.kv, Sum.inl p, .inl (hT3.r.m m hmm).d, rfl, hvb.symm⟩, rfl, ?_⟩
      have etk : P.take (j + 1) = P.take j ++ [p] := by rw [List.take_add_one, hpj]; rfl
      rw [etk, List.filter_append, List.map_append]
      have hyl : ys.length ≤ j := by
        have h1 := Paired.length hP3
        rw [List.length_map] at h1
        have h2 := List.length_filter_le (fun p => decide (bkOf m.rs p = some b)) (P.take j)
        rw [List.length_take] at h2
        omega
      by_cases c : b' = b
      · have ef : [p].filter (fun p => decide (bkOf m.rs p = some b)) = [p] := by simp [hb', c]
        rw [if_pos (by rw [c]), ef]
        intro p1 hp1
        have se := same_upd (o := .tup [V.int t, V.int p]) same_refl hp1
        have hDD := se _ _ hD3
        have hp2 : upd H3 p1 (.tup [V.int t, V.int p]) p1 = some (.tup [V.int t, V.int p]) := upd_same
        generalize upd H3 p1 (.tup [V.int t, V.int p]) = H4 at *
        have tpp : Tp H4 (upd H4 D (.lst (ys ++ [V.ref p1]))) := Tp.kd hDD (fun _ z => nomatch z) kd_upd
        exact ⟨hDD, by omega, same_put (s3.trans se) hD, prd_app (Paired.mapP hP3 fun _ _ q => (q.same (.of se)).same tpp) (.cons ⟨p1, rfl, tpp _ _ hp2⟩ .nil)⟩
      · have ef : [p].filter (fun p => decide (bkOf m.rs p = some b)) = [] := by simp [hb', c]
        rw [if_neg (fun z => c (by cases z; rfl)), ef]
        exact ⟨s3, hD3, by simpa using hP3⟩
    · rintro ⟨v0, rfl, s3, hD3, hP3⟩
      rw [List.length_map, List.take_length] at hP3
      have s12 := v1.trans s3
      have hql := Paired.length hP
      have hyl := Paired.length hP3
      have hfl : (((P.filter (fun p => decide (bkOf m.rs p = some b))).map (fun p => (t, p)))).length ≤ 32 := by
        rw [List.length_map]
        have := List.length_filter_le (fun p => decide (bkOf m.rs p = some b)) P
        omega
      have ndS : S.Nodup := hperm.nodup_iff.mpr hT.r.nn
      have ndP : P.Nodup := hpp.nodup_iff.mpr ndp
      have tnot : t ∉ S.take i := fun h => by
        have e : S.take (i + 1) = S.take i ++ [t] := by rw [List.take_add_one, ht]; rfl
        have := ndS.sublist (List.take_sublist (i + 1) S)
        rw [e, List.nodup_append] at this
        exact this.2.2 t h t (List.mem_singleton.mpr rfl) rfl
      refine ⟨us, s12 _ _ hq, ys, hD3, by omega, fun p hp => ⟨(s11.trans s12).trans (same_upd same_refl hp), _, rfl, L ++ (P.filter (fun p => decide (bkOf m.rs p = some b))).map (fun p => (t, p)), ?_, ?_, fun x hx => ?_, by rw [List.length_append]; omega⟩⟩
      · have tp := Tp.of (same_upd (o := .lst (us ++ ys)) (same_refl (H := H3)) hp)
        exact prd_app (Paired.mapP hP fun _ _ q => (q.same (.of s12)).same tp) (Paired.mapP hP3 fun _ _ q => q.same tp)
      · rw [List.nodup_append]
        refine ⟨nd, ?_, fun x hx y hy e => ?_⟩
        · exact (ndP.sublist List.filter_sublist).map (fun p => (t, p)) (fun a b h e => h (by cases e; rfl))
        · obtain ⟨p, _, rfl⟩ := List.mem_map.mp hy
          exact tnot (by have := (hm x hx).1; rw [e] at this; exact this)
      · rcases List.mem_append.mp hx with hx | hx
        · obtain ⟨h1, h2⟩ := hm x hx
          exact ⟨by rw [List.take_add_one]; exact List.mem_append_left _ h1, h2⟩
        · obtain ⟨p, hp2, rfl⟩ := List.mem_map.mp hx
          refine ⟨by rw [List.take_add_one, ht]; exact List.mem_append_right _ (List.mem_singleton.mpr rfl), m, hmm, hmn, fun z => ?_⟩
          have := of_decide_eq_true (List.mem_filter.mp hp2).2
          unfold bkOf at this
          rw [show pm m.rs p = none from z] at this
          cases this
  rintro ⟨q, us, L, v7, rfl, s11, hq, hP, nd, hm, hl⟩
  have hT11 := hT10.same s11
  have hmap : ∀ x ∈ L, ∃ m ∈ ms, m.n = x.1 ∧ pm m.rs x.2 ≠ none := fun x hx => (hm x hx).2
  clear hT10 hm hperm hsort hsl1 hq1 s11
  unfold tDPop1 sp_lift
  walk_at "wp"
  refine ⟨_, SqL.of hq, fun p1 hp1 => ⟨⟨_, SqL.of upd_same⟩, ?_⟩⟩
  rw [cut_to]
  have u1 := same_upd (o := .lst (us.take (us.length - 1))) (same_refl (H := H11)) hp1
  have hp12 : upd H11 p1 (.lst (us.take (us.length - 1))) p1 = some (.lst (us.take (us.length - 1))) := upd_same
  have hT12 := hT11.same u1
  have hq12 := u1 _ _ hq
  have hP12 : Paired (PrAt (upd H11 p1 (.lst (us.take (us.length - 1))))) us L := Paired.mapP hP fun _ _ q => q.same (.of u1)
  generalize upd H11 p1 (.lst (us.take (us.length - 1))) = H12 at *
  refine loop_list (K := K) (xs := us.take (us.length - 1)) (fun i σ H' => ∃ (ms' : List Mb) (v8 : Option V), σ = [some (.ref a), some (.ref z.p), some (.ref sa), some (.ref ld), some (.int b), some (.ref rd), some (.ref q), v7, v8] ∧ StL A H z rd ld H' ms' bk lk ∧ H' p1 = some (.lst (us.take (us.length - 1))) ∧ H' q = some (.lst us) ∧ Paired (PrAt H') us L ∧ ∀ y ∈ L, y ∉ L.take i → ∃ m ∈ ms', m.n = y.1 ∧ pm m.rs y.2 ≠ none) ⟨ms, _, rfl, hT12, hp12, hq12, hP12, fun y hy _ => hmap y hy⟩ (fun i σ H' _ ⟨_, _, _, _, e, _⟩ => SqL.of e) (fun i v σ H' hi => ?_) (fun σ H13 => ?_)
  · rintro ⟨ms', v8, rfl, hT, hp', hq', hP', hm'⟩
    have hiu : us[i]? = some v := by
      have := hi
      rw [List.getElem?_take] at this
      split at this
      · exact this
      · cases this
    obtain ⟨x, hxL, pa, rfl, hpa⟩ := prd_get hP' hiu
    walk_at "wp"
    obtain ⟨m, hmm, hmn, hpn⟩ := hm' x (List.mem_of_getElem? hxL) (not_take nd hxL)
    have hM := hT.r.m m hmm
    have htk : m.tk ∈ ms'.map Mb.tk := List.mem_map.mpr ⟨m, hmm, rfl⟩
    obtain ⟨dx, hme⟩ := hT.r.h.me
    obtain ⟨a7, ⟨dxs, vs7, e7, _, _⟩, o7, _⟩ := hT.r.h.st _ htk
    have e7 : H' m.p = some (.ins A.C_Stretches dxs (stF a7)) := e7
    have o7 : OrdR m.rs := o7
    obtain ⟨y1, y2, y3, y4⟩ := lift_page o7 hM.l hpn
    have hb2 := hM.b x.2 hpn
    have bb : ∀ p, pm (layR m.rs x.2 1 []) p ≠ none → 0 ≤ p ∧ p < 64 := fun p h => by
      rw [y4] at h
      split at h
      · exact absurd rfl h
      · exact hM.b p h
    have hln : (layR m.rs x.2 1 []).length ≤ 10000 := Int.ofNat_le.mp (Int.le_trans (pages_len y2 bb (by omega)) (show (64 : Int) - 0 ≤ ((10000 : Nat) : Int) by omega))
    refine ⟨dx, _, hme, rfl, _, SqT.of hpa, .int x.1, rfl, _, SqT.of hpa, .int x.2, rfl, z, rfl, 3, 2, 0, _, bk, x.1, rfl, x.2, rfl, hT.r.h, .inr (.inr ⟨by rw [← hmn]; exact tk_key htk, fits_of hb2.1 (by decide) (by decide) (show x.2 + 1 ≤ 64 by omega), m.tk, htk, hmn, .inr ⟨y1, y2, hln, fun H2 hS2 hB => ?_⟩⟩)⟩
    have hS2 : HsG A H2 z 3 2 0 (setT m.n (layR m.rs x.2 1 []) (ms'.map Mb.tk)) bk := by rw [← hmn] at hS2; exact hS2
    have hd2 := hB _ _ hM.d (ne_of hM.d e7 (fun z => nomatch z))
    have hrd2 := hB _ _ hT.r.r (ne_of hT.r.r e7 (fun z => nomatch z))
    have tp2 : Tp H' H2 := fun c xs hc => hB c _ hc (ne_of hc e7 (fun z => nomatch z))
    have hvt : valV (ms'.map mkB) (Sum.inl x.1) = some (.ref m.d) := by rw [← hmn]; exact mkB_val hT.r.nn hmm
    have hkx : valV m.kv (Sum.inl x.2) ≠ none := fun e => hpn (hM.isN.mp e)
    obtain ⟨vv, hvv⟩ := Option.ne_none_iff_exists'.mp hkx
    have tpd : Tp H2 (upd H2 m.d (.dK (dropK m.kv (Sum.inl x.2)))) := Tp.kd hd2 (fun _ z => nomatch z) kd_upd
    have hT3 := hT.lift hmm e7 hS2 hB y3 y4
    have hp2 := hB _ _ hp' (ne_of hp' e7 (fun z => nomatch z))
    have hq2 := hB _ _ hq' (ne_of hq' e7 (fun z => nomatch z))
    refine ⟨_, SqT.of (tp2 _ _ hpa), .int x.1, rfl, .ref m.d, .inl ⟨_, Sum.inl x.1, .inl hrd2, rfl, hvt.symm⟩, m.d, rfl, .inl ⟨_, .inl hd2⟩, _, SqT.of (tp2 _ _ hpa), .int x.2, rfl, m.kv, hd2, Sum.inl x.2, rfl, vv, hvv, _, hT3, kd_upd _ _ hp2 (ne_of hp2 hd2 (fun z => nomatch z)), kd_upd _ _ hq2 (ne_of hq2 hd2 (fun z => nomatch z)), Paired.mapP hP' fun _ _ q => (q.same tp2).same tpd, fun y hy hny => ?_⟩
    have hxi : x ∈ L.take (i + 1) := by rw [List.take_add_one, hxL]; exact List.mem_append_right _ (List.mem_singleton.mpr rfl)
    obtain ⟨u, hu, hun, hup⟩ := hm' y hy (fun z => hny (by rw [List.take_add_one]; exact List.mem_append_left _ z))
    refine ⟨_, List.mem_map.mpr ⟨u, hu, rfl⟩, ?_⟩
    by_cases c : u.n = m.n
    · obtain rfl : u = m := nodup_inj hT.r.nn hu hmm c
      rw [if_pos rfl]
      refine ⟨hun, ?_⟩
      show pm (layR u.rs x.2 1 []) y.2 ≠ none
      rw [y4, if_neg (fun e => hny (by
        have : y = x := Prod.ext (by rw [← hun, hmn]) e
        rw [this]; exact hxi))]
      exact hup
    · rw [if_neg c]
      exact ⟨hun, hup⟩
  rintro ⟨ms', v8, rfl, hT13, hp', hq13, hP13, hm13⟩
  refine ⟨fun σ H' => ∃ bk lk, σ = [some (.ref a), some (.ref z.p), some (.ref sa), some (.ref ld), some (.int b), some (.ref rd), some (.ref q), v7, v8] ∧ StL A H z rd ld H' ms' bk lk ∧ H' q = some (.lst us) ∧ Paired (PrAt H') us L, ?_, fun σ' H14 => ?_⟩
  · walk_at "wp"
    refine ask_of2 hT13 nl1 nl2 fbd fld fun bk' lk' H2 hT2 _ hb => ⟨true, rfl, iteF ⟨bk', lk', hT2, ?_, ?_⟩⟩
    · exact hb _ _ hq13 (ne_of hq13 hT13.r.h.b (fun z => nomatch z)) (ne_of hq13 hT13.l (fun z => nomatch z))
    · exact Paired.mapP hP13 fun _ _ q => q.same fun c xs hc => hb _ _ hc (ne_of hc hT13.r.h.b (fun z => nomatch z)) (ne_of hc hT13.l (fun z => nomatch z))
  rintro ⟨bk, lk, rfl, hT14, hq14, hP14⟩
  walk_at "wp"
  have hlk : us.length = L.length := Paired.length hP14
  have hm14 : ∀ y ∈ L.drop (us.length - 1), ∃ m ∈ ms', m.n = y.1 ∧ pm m.rs y.2 ≠ none := fun y hy => hm13 y (List.mem_of_mem_drop hy) (fun z => by
    rw [List.length_take, show min (us.length - 1) us.length = us.length - 1 by omega] at z
    have e : L.take (us.length - 1) ++ L.drop (us.length - 1) = L := List.take_append_drop ..
    rw [← e, List.nodup_append] at nd
    exact nd.2.2 y z y hy rfl)
  have nd2 : (L.drop (us.length - 1)).Nodup := nd.sublist (List.drop_sublist ..)
  have hP15 : Paired (PrAt H14) (us.drop (us.length - 1)) (L.drop (us.length - 1)) := prd_dropN hP14
  clear hm13 hP14 hP13 hT13 hT12 hT11 hmap hP12 hP
  refine ⟨_, SqL.of hq14, fun p2 hp2 => ⟨⟨_, SqL.of upd_same⟩, ?_⟩⟩
  rw [cut_from]
  generalize us.drop (us.length - 1) = us2 at *
  generalize L.drop (us.length - 1) = M2 at *
  have u1 := same_upd (o := .lst us2) (same_refl (H := H14)) hp2
  have hp15 : upd H14 p2 (.lst us2) p2 = some (.lst us2) := upd_same
  have hT15 := hT14.same u1
  have hq15 := u1 _ _ hq14
  have hP16 : Paired (PrAt (upd H14 p2 (.lst us2))) us2 M2 := Paired.mapP hP15 fun _ _ q => q.same (.of u1)
  generalize upd H14 p2 (.lst us2) = H15 at *
  refine loop_list (K := K) (xs := us2) (fun i σ H' => ∃ (ms' : List Mb) (v8 : Option V), σ = [some (.ref a), some (.ref z.p), some (.ref sa), some (.ref ld), some (.int b), some (.ref rd), some (.ref q), v7, v8] ∧ StL A H z rd ld H' ms' bk lk ∧ H' p2 = some (.lst us2) ∧ H' q = some (.lst us) ∧ Paired (PrAt H') us2 M2 ∧ ∀ y ∈ M2, y ∉ M2.take i → ∃ m ∈ ms', m.n = y.1 ∧ pm m.rs y.2 ≠ none) ⟨ms', _, rfl, hT15, hp15, hq15, hP16, fun y hy _ => hm14 y hy⟩ (fun i σ H' _ ⟨_, _, _, _, e, _⟩ => SqL.of e) (fun i v σ H' hi => ?_) (fun σ H16 => ?_)
  · rintro ⟨ms', v8, rfl, hT, hp', hq', hP', hm'⟩
    obtain ⟨x, hxL, pa, rfl, hpa⟩ := prd_get hP' hi
    walk_at "wp"
    obtain ⟨m, hmm, hmn, hpn⟩ := hm' x (List.mem_of_getElem? hxL) (not_take nd2 hxL)
    have hM := hT.r.m m hmm
    have htk : m.tk ∈ ms'.map Mb.tk := List.mem_map.mpr ⟨m, hmm, rfl⟩
    obtain ⟨dx, hme⟩ := hT.r.h.me
    obtain ⟨a7, ⟨dxs, vs7, e7, _, _⟩, o7, _⟩ := hT.r.h.st _ htk
    have e7 : H' m.p = some (.ins A.C_Stretches dxs (stF a7)) := e7
    have o7 : OrdR m.rs := o7
    obtain ⟨y1, y2, y3, y4⟩ := lift_page o7 hM.l hpn
    have hb2 := hM.b x.2 hpn
    have bb : ∀ p, pm (layR m.rs x.2 1 []) p ≠ none → 0 ≤ p ∧ p < 64 := fun p h => by
      rw [y4] at h
      split at h
      · exact absurd rfl h
      · exact hM.b p h
    have hln : (layR m.rs x.2 1 []).length ≤ 10000 := Int.ofNat_le.mp (Int.le_trans (pages_len y2 bb (by omega)) (show (64 : Int) - 0 ≤ ((10000 : Nat) : Int) by omega))
    refine ⟨dx, _, hme, rfl, _, SqT.of hpa, .int x.1, rfl, _, SqT.of hpa, .int x.2, rfl, z, rfl, 3, 2, 0, _, bk, x.1, rfl, x.2, rfl, hT.r.h, .inr (.inr ⟨by rw [← hmn]; exact tk_key htk, fits_of hb2.1 (by decide) (by decide) (show x.2 + 1 ≤ 64 by omega), m.tk, htk, hmn, .inr ⟨y1, y2, hln, fun H2 hS2 hB => ?_⟩⟩)⟩
    have hS2 : HsG A H2 z 3 2 0 (setT m.n (layR m.rs x.2 1 []) (ms'.map Mb.tk)) bk := by rw [← hmn] at hS2; exact hS2
    have hd2 := hB _ _ hM.d (ne_of hM.d e7 (fun z => nomatch z))
    have hrd2 := hB _ _ hT.r.r (ne_of hT.r.r e7 (fun z => nomatch z))
    have tp2 : Tp H' H2 := fun c xs hc => hB c _ hc (ne_of hc e7 (fun z => nomatch z))
    have hvt : valV (ms'.map mkB) (Sum.inl x.1) = some (.ref m.d) := by rw [← hmn]; exact mkB_val hT.r.nn hmm
    have hkx : valV m.kv (Sum.inl x.2) ≠ none := fun e => hpn (hM.isN.mp e)
    obtain ⟨vv, hvv⟩ := Option.ne_none_iff_exists'.mp hkx
    have tpd : Tp H2 (upd H2 m.d (.dK (dropK m.kv (Sum.inl x.2)))) := Tp.kd hd2 (fun _ z => nomatch z) kd_upd
    have hT3 := hT.lift hmm e7 hS2 hB y3 y4
    have hp2 := hB _ _ hp' (ne_of hp' e7 (fun z => nomatch z))
    have hq2 := hB _ _ hq' (ne_of hq' e7 (fun z => nomatch z))
    refine ⟨_, SqT.of (tp2 _ _ hpa), .int x.1, rfl, .ref m.d, .inl ⟨_, Sum.inl x.1, .inl hrd2, rfl, hvt.symm⟩, m.d, rfl, .inl ⟨_, .inl hd2⟩, _, SqT.of (tp2 _ _ hpa), .int x.2, rfl, m.kv, hd2, Sum.inl x.2, rfl, vv, hvv, _, hT3, kd_upd _ _ hp2 (ne_of hp2 hd2 (fun z => nomatch z)), kd_upd _ _ hq2 (ne_of hq2 hd2 (fun z => nomatch z)), Paired.mapP hP' fun _ _ q => (q.same tp2).same tpd, fun y hy hny => ?_⟩
    have hxi : x ∈ M2.take (i + 1) := by rw [List.take_add_one, hxL]; exact List.mem_append_right _ (List.mem_singleton.mpr rfl)
    obtain ⟨u, hu, hun, hup⟩ := hm' y hy (fun z => hny (by rw [List.take_add_one]; exact List.mem_append_left _ z))
    refine ⟨_, List.mem_map.mpr ⟨u, hu, rfl⟩, ?_⟩
    by_cases c : u.n = m.n
    · obtain rfl : u = m := nodup_inj hT.r.nn hu hmm c
      rw [if_pos rfl]
      refine ⟨hun, ?_⟩
      show pm (layR u.rs x.2 1 []) y.2 ≠ none
      rw [y4, if_neg (fun e => hny (by
        have : y = x := Prod.ext (by rw [← hun, hmn]) e
        rw [this]; exact hxi))]
      exact hup
    · rw [if_neg c]
      exact ⟨hun, hup⟩
  rintro ⟨ms2, v8', rfl, hT16, _, _, _, _⟩
  refine ⟨fun σ H' => ∃ bk lk, σ = [some (.ref a), some (.ref z.p), some (.ref sa), some (.ref ld), some (.int b), some (.ref rd), some (.ref q), v7, v8'] ∧ StL A H z rd ld H' ms2 bk lk ∧ (∀ n : Int, 0 ≤ n → n < 3 → Sum.inl n ∈ ksK bk → ∃ t ∈ ms2.map Mb.tk, t.rs.any (tiedTo n) = true), ?_, fun σ' H17 => ?_⟩
  · walk_at "wp"
    exact ask_of hT16 nl1 nl2 fbd fld fun bk' lk' H2 hT2 ht => ⟨true, rfl, iteF ⟨bk', lk', hT2, ht⟩⟩
  rintro ⟨bk, lk, rfl, hT17, ht17⟩
  unfold sp_end
  walk_at "wp"
  refine ⟨_, .inl hT17.r.r, ms2.map Mb.n, mk_keys, by rw [List.length_map]; have := hT17.k; omega, fun sl S2 hsl hperm hsort => ⟨⟨_, SqL.of upd_same⟩, ?_⟩⟩
  have u5 := same_upd (o := .lst (S2.map V.int)) (same_refl (H := H17)) hsl
  have hsl5 : upd H17 sl (.lst (S2.map V.int)) sl = some (.lst (S2.map V.int)) := upd_same
  have hT18 := hT17.same u5
  generalize upd H17 sl (.lst (S2.map V.int)) = H18 at *
  refine loop_list (K := K) (xs := S2.map V.int) (fun i σ H' => ∃ (ms3 : List Mb) (bk lk : Kvs) (v7 : Option V), σ = [some (.ref a), some (.ref z.p), some (.ref sa), some (.ref ld), some (.int b), some (.ref rd), some (.ref q), v7, v8'] ∧ StL A H z rd ld H' ms3 bk lk ∧ H' sl = some (.lst (S2.map V.int)) ∧ (∀ n : Int, 0 ≤ n → n < 3 → Sum.inl n ∈ ksK bk → ∃ t ∈ ms3.map Mb.tk, t.rs.any (tiedTo n) = true) ∧ (∀ m ∈ ms3, m.n ∈ S2.drop i) ∧ ∀ t ∈ S2.drop i, ∃ m ∈ ms3, m.n = t) ⟨ms2, bk, lk, _, rfl, hT18, hsl5, ht17, fun m hm => hperm.mem_iff.mpr (List.mem_map.mpr ⟨m, hm, rfl⟩), fun t ht => List.mem_map.mp (hperm.mem_iff.mp ht)⟩ (fun i σ H' _ ⟨_, _, _, _, _, _, e, _⟩ => SqL.of e) (fun i v σ H' hi => ?_) (fun σ H19 => ?_)
  · rintro ⟨ms3, bk, lk, v7, rfl, hT, hsl', ht', hm3, hm4⟩
    rw [List.getElem?_map] at hi
    obtain ⟨t, hti, rfl⟩ := Option.map_eq_some_iff.mp hi
    walk_at "wp"
    have hlt := (List.getElem?_eq_some_iff.mp hti).1
    have ed : S2.drop i = t :: S2.drop (i + 1) := by
      rw [List.drop_eq_getElem_cons hlt]
      congr 1
      exact (List.getElem?_eq_some_iff.mp hti).2
    have ndS : (S2.drop i).Nodup := (hperm.nodup_iff.mpr hT17.r.nn).sublist (List.drop_sublist ..)
    rw [ed, List.nodup_cons] at ndS
    obtain ⟨m, hmm, hmn⟩ := hm4 t (by rw [ed]; exact List.mem_cons_self ..)
    obtain ⟨dx, hme⟩ := hT.r.h.me
    have hkt : (Sum.inl t : Key) ∈ ksK (tkD (ms3.map Mb.tk)) := by
      rw [← hmn]
      exact tk_key (t := m.tk) (List.mem_map.mpr ⟨m, hmm, rfl⟩)
    refine ⟨dx, _, hme, rfl, z, rfl, 3, 2, 0, _, bk, hT.r.h, .inl ⟨hkt, fun H2 hS2 hK => ?_⟩⟩
    have hrd2 := hK _ _ hT.r.r hT.r.rz.1
    have hvt : valV (ms3.map mkB) (Sum.inl t) = some (.ref m.d) := by rw [← hmn]; exact mkB_val hT.r.nn hmm
    refine ⟨.inl ⟨_, .inl hrd2⟩, _, hrd2, Sum.inl t, rfl, _, hvt, ?_⟩
    have hT2 := hT.out hS2 hK ftd grd nl1
    have hsl2 := hK _ _ hsl' (ne_of hsl' hT.r.h.t (fun z => nomatch z))
    have hsl3 : upd H2 rd (.dK (dropK (ms3.map mkB) (Sum.inl t))) sl = some (.lst (S2.map V.int)) := by rw [upd_ne (ne_of hsl2 hrd2 (fun z => nomatch z))]; exact hsl2
    refine ask_of2 hT2 nl1 nl2 fbd fld fun bk' lk' H3 hT3 ht3 hb => ⟨true, rfl, iteF ⟨_, bk', lk', hT3, hb _ _ hsl3 (ne_of hsl3 hT2.r.h.b (fun z => nomatch z)) (ne_of hsl3 hT2.l (fun z => nomatch z)), ht3, fun u hu => ?_, fun t' ht' => ?_⟩⟩
    · obtain ⟨h1, h2⟩ := List.mem_filter.mp hu
      have h3 := hm3 u h1
      rw [ed] at h3
      rcases List.mem_cons.mp h3 with h3 | h3
      · exact absurd h3 (of_decide_eq_true h2)
      · exact h3
    · obtain ⟨u, hu, hun⟩ := hm4 t' (by rw [ed]; exact List.mem_cons_of_mem _ ht')
      exact ⟨u, List.mem_filter.mpr ⟨hu, decide_eq_true (fun e => ndS.1 (by rw [← e, hun]; exact ht'))⟩, hun⟩
  rintro ⟨ms3, bk, lk, v7, rfl, hT, hsl', ht', hm3, hm4⟩
  walk_at "wp"
  have e3 : ms3 = [] := List.eq_nil_iff_forall_not_mem.mpr fun m hm => by
    have := hm3 m hm
    rw [List.length_map, List.drop_length] at this
    simp at this
  subst e3
  have ebk : bk = [] := List.eq_nil_iff_forall_not_mem.mpr fun kv hkv => by
    have hk : kv.1 ∈ ksK bk := List.mem_map.mpr ⟨kv, hkv, rfl⟩
    obtain ⟨n, e, h0, h1⟩ := hT.b.i _ hk
    rw [e] at hk
    obtain ⟨t, ht, _⟩ := ht' n h0 h1 hk
    simp at ht
  subst ebk
  have elk : lk = [] := List.eq_nil_iff_forall_not_mem.mpr fun kv hkv => by
    have hk : kv.1 ∈ ksK lk := List.mem_map.mpr ⟨kv, hkv, rfl⟩
    have := (hT.b.s _).mp hk
    simp [ksK] at this
  subst elk
  obtain ⟨dx, hme⟩ := hT.r.h.me
  refine ⟨[], hT.l, ite2 (fun _ => ?_) (fun h => absurd rfl h)⟩
  refine ⟨dx, _, hme, rfl, z, rfl, 3, 2, 0, _, [], hT.r.h, by decide, .inl fun k H' hL hS' hK => ?_⟩
  obtain rfl := lst_nil hL
  refine ite2 (fun _ => ?_) (fun h => absurd rfl h)
  refine ⟨z, 3, 2, 0, _, _, 1, rfl, hS', by simp, .inl ⟨?_, fun H2 _ => ⟨rfl, ?_⟩⟩⟩
  · simp [ksK]
  · rw [decide_eq_true rfl]; exact qq _

end

theorem walk {l : PySem.W.OpenLaw} {q : Program} {loose : List Str} {XP : (Str → Option Value) → Heap → Prop} {YP : World → Heap → Prop} {d : DefRec} {K : Params → PySem.W.Frag} (hn : l.most = some 63) (hdf : d.params.defaults = []) (hdn : d.name = "law")
    (hY : ∀ (w : World) (h : Heap), YP w h → (K w.params).In h)
    (F : ∀ (w : World) (mg : Str → Option Value) (h : Heap), (K w.params).In h → h.Ns mainGlobals mg → ∃ A : Adr, Txt (K w.params) mg A) :
    PySem.W.WalkO q loose XP YP l.row.toRowW d [] (fun f vs => PySem.call f vs) := by
  refine L2.walk_of (n := 63) (k := 14 + 1) (x := "_law_script") (CX := fun w => CXe l.prog w) (sp := fun w => spLaw (K w.params)) hn (by decide) hdf ⟨rfl, by decide, by decide⟩ hY ?_ (fun _ _ a ns hl _ hS => ⟨a, ns, rfl, hS, hl, fun _ => rfl⟩) fun _ _ _ _ _ ⟨_, _, _, _, _, _, _, _, _, _, z⟩ => z
  intro w mg fa h KX G hmg
  rw [hdn] at hmg
  obtain ⟨A, T⟩ := F w mg h KX G
  obtain ⟨f, fd, e, Fn, hb⟩ := T.r_law
  have e0 := hmg.symm.trans e
  cases e0
  exact ⟨fd, hb, fun base _ _ => Fn.okE sc_law (fun vs H Q E z => by obtain ⟨a, ns, rfl, _⟩ := z; rfl) (body_law (P := l.prog) (w := w) (base := base) T)⟩

section
open Hd
noncomputable def o2 (_ : Params) : Obj := ⟨.none, none, .dict ⟨[]⟩ 0, #[]⟩
noncomputable def o3 (P : Params) : Obj := dO 43 [ent P (S 6944663249689206880) 165 (.str (S 12260833444315902761717942793166742610478658344058753906839914046061) 940), ent P (S 27127582262911072) 166 .none, ent P (S 116512114954948911152848992) 167 .none, ent P (S 455126385231797511086176) 168 (.builtin "__main__.__loader__#opaque"), ent P (S 6944661016558198880) 169 .none, ent P (S 500416834696884185539869749159288928) 170 (.ref 6), ent P (S 29827167671303893903271485536) 171 (.ref 4), ent P (S 6944663245527933024) 173 (.str (S 9700865007064396754801562313776) 172), ent P (S 455125376429887381069920) 174 .none, ent P (S 469986605152) 193 (.ref 21), ent P (S 545146499936607105348423) 213 (.ref 31), ent P (S 28835115112362063) 229 (.ref 44), ent P (S 2037243915540886812240) 245 (.ref 56), ent P (S 2148282720731175150147) 261 (.ref 68), ent P (S 119247121772623) 277 (.ref 80), ent P (S 119225645756495) 293 (.ref 92), ent P (S 2000274411557569787472) 309 (.ref 104), ent P (S 478459748949) 325 (.ref 116), ent P (S 1870502957375938719823) 341 (.ref 128), ent P (S 2054452803) 357 (.ref 140), ent P (S 7380678962623575146) 366 (.ref 149), ent P (S 2055256381122481779818) 375 (.ref 156), ent P (S 101952521820057743536705614) 379 (.int (3) 378), ent P (S 36042203234783605173055285604) 386 (.ref 163), ent P (S 113732351258470) 393 (.ref 170), ent P (S 7957987429399816821) 402 (.ref 177), ent P (S 29115482190865009) 412 (.ref 184), ent P (S 31367281986924648) 420 (.ref 191), ent P (S 111490630316139) 430 (.ref 198), ent P (S 2147201852470124049748) 580 (.ref 313), ent P (S 23616678805231350591419338830) 584 (.int (64) 583), ent P (S 483571264869516729017965) 592 (.ref 324), ent P (S 440040583241) 801 (.ref 480), ent P (S 380423630684598931079812568447209550) 805 (.int (64) 804), ent P (S 34807946493563893454802022513) 814 (.ref 491), ent P (S 2360876520579034574696528942098788) 823 (.ref 498), ent P (S 439988939092) 939 (.ref 585), ent P (S 36328676245180164783460216160) 949 (.ref 596), ent P (S 2092585011948759969120) 960 (.ref 603), ent P (S 1870500991441261718880) 970 (.ref 610), ent P (S 478848397644772411600224) 981 (.ref 617), ent P (S 8669722510073630960553860164960) 998 (.ref 624), ent P (S 7889517) 1004 (.ref 629)]
noncomputable def o15 (_ : Params) : Obj := tO []
noncomputable def o17 (_ : Params) : Obj := tO [(.str (S 108) 190)]
noncomputable def o20 (_ : Params) : Obj := cO [(.str (S 469986605152) 187), (.str (S 469986605152) 188), (.str (S 9700865007064396754801562313776) 189), (.int (1) 0), (.int (1) 0), (.int (0) 0), (.int (0) 0), (.int (3) 0), (.ref 15), (.bool true), (.int (181) 0), (.ref 16), .none, (.ref 17), (.ref 18), (.ref 19), (.int (191) 0), (.int (1) 0), (.str (S 9700865007064396754801562313776) 192)]
noncomputable def o21 (_ : Params) : Obj := ⟨(.type "function"), none, .func (PySem.W.fnOf (Str.ofString "_wall") (Str.ofString "_wall") (defArgs (top 0)) (defBody (top 0)) (defScope (top 0)) .none .none .none (.str (S 6944673128113922144) 164) none (.ref 20) .none), #[]⟩
noncomputable def o22 (_ : Params) : Obj := ⟨(.type "tuple"), none, .seq #[(.type "ValueError")] 0, #[]⟩
noncomputable def o29 (_ : Params) : Obj := ⟨(.type "tuple"), none, .seq #[] 0, #[]⟩
noncomputable def o30 (P : Params) : Obj := dO 3 [ent P (S 455125450472104437637216) 203 (.str (S 154789842426610354947036250589871895399) 194), ent P (S 500416517772168279997240570217455712) 207 (.int (5) 206), ent P (S 140854816109632365363434125429399349832812124725344) 208 (.ref 29), ent P (S 116512133262362862868258912) 210 (.ref 32), ent P (S 27127582262911072) 211 .none]
noncomputable def o31 (_ : Params) : Obj := ⟨(.type "type"), none, .cls { name := (Str.ofString "FrameError"), bases := [(.type "ValueError")], mro := [(.ref 31), (.type "ValueError"), (.type "Exception"), (.type "BaseException"), (.type "object")], ns := 30, qualname := (Str.ofString "FrameError"), hasDict := true, slotNames := [], subclasses := [(.ref 44), (.ref 56), (.ref 68), (.ref 80), (.ref 92), (.ref 104), (.ref 116), (.ref 128), (.ref 140)], abstract := false, collection := none, hasDel := false }, #[(some (.ref 22)), none, (some (.str (S 545146499936607105348423) 196)), (some (.str (S 545146499936607105348423) 204)), (some (.builtin "ValueError.__new__")), (some (.bool true))]⟩
noncomputable def o32 (_ : Params) : Obj := ⟨(.type "getset_descriptor"), none, .fields ⟨[(.str (S 116512133262362862868258912) 209), (.ref 31), (.builtin "ExceptionGroup.__weakref__"), .none]⟩, #[]⟩
noncomputable def o35 (_ : Params) : Obj := ⟨(.type "tuple"), none, .seq #[(.ref 31)] 0, #[]⟩
noncomputable def o43 (P : Params) : Obj := dO 2 [ent P (S 455125450472104437637216) 221 (.str (S 154789842426610354947036250589871895399) 194), ent P (S 500416517772168279997240570217455712) 225 (.int (7) 224), ent P (S 140854816109632365363434125429399349832812124725344) 226 (.ref 42), ent P (S 27127582262911072) 227 .none]
noncomputable def o44 (_ : Params) : Obj := ⟨(.type "type"), none, .cls { name := (Str.ofString "NoShape"), bases := [(.ref 31)], mro := [(.ref 44), (.ref 31), (.type "ValueError"), (.type "Exception"), (.type "BaseException"), (.type "object")], ns := 43, qualname := (Str.ofString "NoShape"), hasDict := true, slotNames := [], subclasses := [], abstract := false, collection := none, hasDel := false }, #[(some (.ref 35)), none, (some (.str (S 28835115112362063) 214)), (some (.str (S 28835115112362063) 222)), (some (.builtin "ValueError.__new__")), (some (.bool true))]⟩
noncomputable def o55 (P : Params) : Obj := dO 2 [ent P (S 455125450472104437637216) 237 (.str (S 154789842426610354947036250589871895399) 194), ent P (S 500416517772168279997240570217455712) 241 (.int (9) 240), ent P (S 140854816109632365363434125429399349832812124725344) 242 (.ref 54), ent P (S 27127582262911072) 243 .none]
noncomputable def o56 (_ : Params) : Obj := ⟨(.type "type"), none, .cls { name := (Str.ofString "OutOfRoom"), bases := [(.ref 31)], mro := [(.ref 56), (.ref 31), (.type "ValueError"), (.type "Exception"), (.type "BaseException"), (.type "object")], ns := 55, qualname := (Str.ofString "OutOfRoom"), hasDict := true, slotNames := [], subclasses := [], abstract := false, collection := none, hasDel := false }, #[(some (.ref 47)), none, (some (.str (S 2037243915540886812240) 230)), (some (.str (S 2037243915540886812240) 238)), (some (.builtin "ValueError.__new__")), (some (.bool true))]⟩
noncomputable def o67 (P : Params) : Obj := dO 2 [ent P (S 455125450472104437637216) 253 (.str (S 154789842426610354947036250589871895399) 194), ent P (S 500416517772168279997240570217455712) 257 (.int (11) 256), ent P (S 140854816109632365363434125429399349832812124725344) 258 (.ref 66), ent P (S 27127582262911072) 259 .none]
noncomputable def o68 (_ : Params) : Obj := ⟨(.type "type"), none, .cls { name := (Str.ofString "BadRights"), bases := [(.ref 31)], mro := [(.ref 68), (.ref 31), (.type "ValueError"), (.type "Exception"), (.type "BaseException"), (.type "object")], ns := 67, qualname := (Str.ofString "BadRights"), hasDict := true, slotNames := [], subclasses := [], abstract := false, collection := none, hasDel := false }, #[(some (.ref 59)), none, (some (.str (S 2148282720731175150147) 246)), (some (.str (S 2148282720731175150147) 254)), (some (.builtin "ValueError.__new__")), (some (.bool true))]⟩
noncomputable def o79 (P : Params) : Obj := dO 2 [ent P (S 455125450472104437637216) 269 (.str (S 154789842426610354947036250589871895399) 194), ent P (S 500416517772168279997240570217455712) 273 (.int (13) 272), ent P (S 140854816109632365363434125429399349832812124725344) 274 (.ref 78), ent P (S 27127582262911072) 275 .none]
noncomputable def o80 (_ : Params) : Obj := ⟨(.type "type"), none, .cls { name := (Str.ofString "NoTask"), bases := [(.ref 31)], mro := [(.ref 80), (.ref 31), (.type "ValueError"), (.type "Exception"), (.type "BaseException"), (.type "object")], ns := 79, qualname := (Str.ofString "NoTask"), hasDict := true, slotNames := [], subclasses := [], abstract := false, collection := none, hasDel := false }, #[(some (.ref 71)), none, (some (.str (S 119247121772623) 262)), (some (.str (S 119247121772623) 270)), (some (.builtin "ValueError.__new__")), (some (.bool true))]⟩
noncomputable def o91 (P : Params) : Obj := dO 2 [ent P (S 455125450472104437637216) 285 (.str (S 154789842426610354947036250589871895399) 194), ent P (S 500416517772168279997240570217455712) 289 (.int (15) 288), ent P (S 140854816109632365363434125429399349832812124725344) 290 (.ref 90), ent P (S 27127582262911072) 291 .none]
noncomputable def o92 (_ : Params) : Obj := ⟨(.type "type"), none, .cls { name := (Str.ofString "NoBank"), bases := [(.ref 31)], mro := [(.ref 92), (.ref 31), (.type "ValueError"), (.type "Exception"), (.type "BaseException"), (.type "object")], ns := 91, qualname := (Str.ofString "NoBank"), hasDict := true, slotNames := [], subclasses := [], abstract := false, collection := none, hasDel := false }, #[(some (.ref 83)), none, (some (.str (S 119225645756495) 278)), (some (.str (S 119225645756495) 286)), (some (.builtin "ValueError.__new__")), (some (.bool true))]⟩
noncomputable def o103 (P : Params) : Obj := dO 2 [ent P (S 455125450472104437637216) 301 (.str (S 154789842426610354947036250589871895399) 194), ent P (S 500416517772168279997240570217455712) 305 (.int (17) 304), ent P (S 140854816109632365363434125429399349832812124725344) 306 (.ref 102), ent P (S 27127582262911072) 307 .none]
noncomputable def o104 (_ : Params) : Obj := ⟨(.type "type"), none, .cls { name := (Str.ofString "OutOfBank"), bases := [(.ref 31)], mro := [(.ref 104), (.ref 31), (.type "ValueError"), (.type "Exception"), (.type "BaseException"), (.type "object")], ns := 103, qualname := (Str.ofString "OutOfBank"), hasDict := true, slotNames := [], subclasses := [], abstract := false, collection := none, hasDel := false }, #[(some (.ref 95)), none, (some (.str (S 2000274411557569787472) 294)), (some (.str (S 2000274411557569787472) 302)), (some (.builtin "ValueError.__new__")), (some (.bool true))]⟩
noncomputable def o115 (P : Params) : Obj := dO 2 [ent P (S 455125450472104437637216) 317 (.str (S 154789842426610354947036250589871895399) 194), ent P (S 500416517772168279997240570217455712) 321 (.int (19) 320), ent P (S 140854816109632365363434125429399349832812124725344) 322 (.ref 114), ent P (S 27127582262911072) 323 .none]
noncomputable def o116 (_ : Params) : Obj := ⟨(.type "type"), none, .cls { name := (Str.ofString "Taken"), bases := [(.ref 31)], mro := [(.ref 116), (.ref 31), (.type "ValueError"), (.type "Exception"), (.type "BaseException"), (.type "object")], ns := 115, qualname := (Str.ofString "Taken"), hasDict := true, slotNames := [], subclasses := [], abstract := false, collection := none, hasDel := false }, #[(some (.ref 107)), none, (some (.str (S 478459748949) 310)), (some (.str (S 478459748949) 318)), (some (.builtin "ValueError.__new__")), (some (.bool true))]⟩
noncomputable def o127 (P : Params) : Obj := dO 2 [ent P (S 455125450472104437637216) 333 (.str (S 154789842426610354947036250589871895399) 194), ent P (S 500416517772168279997240570217455712) 337 (.int (21) 336), ent P (S 140854816109632365363434125429399349832812124725344) 338 (.ref 126), ent P (S 27127582262911072) 339 .none]
noncomputable def o128 (_ : Params) : Obj := ⟨(.type "type"), none, .cls { name := (Str.ofString "NotMapped"), bases := [(.ref 31)], mro := [(.ref 128), (.ref 31), (.type "ValueError"), (.type "Exception"), (.type "BaseException"), (.type "object")], ns := 127, qualname := (Str.ofString "NotMapped"), hasDict := true, slotNames := [], subclasses := [], abstract := false, collection := none, hasDel := false }, #[(some (.ref 119)), none, (some (.str (S 1870502957375938719823) 326)), (some (.str (S 1870502957375938719823) 334)), (some (.builtin "ValueError.__new__")), (some (.bool true))]⟩
noncomputable def o139 (P : Params) : Obj := dO 2 [ent P (S 455125450472104437637216) 349 (.str (S 154789842426610354947036250589871895399) 194), ent P (S 500416517772168279997240570217455712) 353 (.int (23) 352), ent P (S 140854816109632365363434125429399349832812124725344) 354 (.ref 138), ent P (S 27127582262911072) 355 .none]
noncomputable def o140 (_ : Params) : Obj := ⟨(.type "type"), none, .cls { name := (Str.ofString "Busy"), bases := [(.ref 31)], mro := [(.ref 140), (.ref 31), (.type "ValueError"), (.type "Exception"), (.type "BaseException"), (.type "object")], ns := 139, qualname := (Str.ofString "Busy"), hasDict := true, slotNames := [], subclasses := [], abstract := false, collection := none, hasDel := false }, #[(some (.ref 131)), none, (some (.str (S 2054452803) 342)), (some (.str (S 2054452803) 350)), (some (.builtin "ValueError.__new__")), (some (.bool true))]⟩
noncomputable def o145 (_ : Params) : Obj := tO [(.str (S 448545843573) 363)]
noncomputable def o148 (_ : Params) : Obj := cO [(.str (S 7380678962623575146) 360), (.str (S 7380678962623575146) 361), (.str (S 9700865007064396754801562313776) 362), (.int (26) 0), (.int (1) 0), (.int (0) 0), (.int (0) 0), (.int (3) 0), (.ref 143), (.bool true), (.int (181) 0), (.ref 144), .none, (.ref 145), (.ref 146), (.ref 147), (.int (364) 0), (.int (26) 0), (.str (S 9700865007064396754801562313776) 365)]
noncomputable def o149 (_ : Params) : Obj := ⟨(.type "function"), none, .func (PySem.W.fnOf (Str.ofString "is_whole") (Str.ofString "is_whole") (defArgs (top 13)) (defBody (top 13)) (defScope (top 13)) .none .none .none (.str (S 154722281479463014256600682153103225703) 358) none (.ref 148) .none), #[]⟩
noncomputable def o152 (_ : Params) : Obj := tO [(.str (S 448545843573) 370), (.str (S 7893101) 371), (.str (S 1768450665) 372)]
noncomputable def o155 (_ : Params) : Obj := cO [(.str (S 2055256381122481779818) 367), (.str (S 2055256381122481779818) 368), (.str (S 9700865007064396754801562313776) 369), (.int (28) 0), (.int (3) 0), (.int (0) 0), (.int (0) 0), (.int (3) 0), (.ref 150), (.bool true), (.int (181) 0), (.ref 151), .none, (.ref 152), (.ref 153), (.ref 154), (.int (373) 0), (.int (28) 0), (.str (S 9700865007064396754801562313776) 374)]
noncomputable def o156 (_ : Params) : Obj := ⟨(.type "function"), none, .func (PySem.W.fnOf (Str.ofString "is_within") (Str.ofString "is_within") (defArgs (top 14)) (defBody (top 14)) (defScope (top 14)) .none .none .none (.str (S 154722281479463014256600682153103225703) 358) none (.ref 155) .none), #[]⟩
noncomputable def o159 (_ : Params) : Obj := tO [(.str (S 128047628446323) 383)]
noncomputable def o162 (_ : Params) : Obj := cO [(.str (S 36042203234783605173055285604) 380), (.str (S 36042203234783605173055285604) 381), (.str (S 9700865007064396754801562313776) 382), (.int (32) 0), (.int (1) 0), (.int (0) 0), (.int (0) 0), (.int (3) 0), (.ref 157), (.bool true), (.int (181) 0), (.ref 158), .none, (.ref 159), (.ref 160), (.ref 161), (.int (384) 0), (.int (32) 0), (.str (S 9700865007064396754801562313776) 385)]
noncomputable def o163 (_ : Params) : Obj := ⟨(.type "function"), none, .func (PySem.W.fnOf (Str.ofString "check_rights") (Str.ofString "check_rights") (defArgs (top 17)) (defBody (top 17)) (defScope (top 17)) .none .none .none (.str (S 2595807759375494792423391711955702693320880999) 376) none (.ref 162) .none), #[]⟩
noncomputable def o166 (_ : Params) : Obj := tO [(.str (S 7304819) 390)]
noncomputable def o169 (_ : Params) : Obj := cO [(.str (S 113732351258470) 387), (.str (S 113732351258470) 388), (.str (S 9700865007064396754801562313776) 389), (.int (35) 0), (.int (1) 0), (.int (0) 0), (.int (0) 0), (.int (3) 0), (.ref 164), (.bool true), (.int (181) 0), (.ref 165), .none, (.ref 166), (.ref 167), (.ref 168), (.int (391) 0), (.int (35) 0), (.str (S 9700865007064396754801562313776) 392)]
noncomputable def o170 (_ : Params) : Obj := ⟨(.type "function"), none, .func (PySem.W.fnOf (Str.ofString "end_of") (Str.ofString "end_of") (defArgs (top 18)) (defBody (top 18)) (defScope (top 18)) .none .none .none (.str (S 2595807759375494792423391711955702693320880999) 376) none (.ref 169) .none), #[]⟩
noncomputable def o173 (_ : Params) : Obj := tO [(.str (S 7304819) 397), (.str (S 1718116977) 398), (.str (S 6711925) 399)]
noncomputable def o176 (_ : Params) : Obj := cO [(.str (S 7957987429399816821) 394), (.str (S 7957987429399816821) 395), (.str (S 9700865007064396754801562313776) 396), (.int (37) 0), (.int (2) 0), (.int (0) 0), (.int (0) 0), (.int (3) 0), (.ref 171), (.bool true), (.int (181) 0), (.ref 172), .none, (.ref 173), (.ref 174), (.ref 175), (.int (400) 0), (.int (37) 0), (.str (S 9700865007064396754801562313776) 401)]
noncomputable def o177 (_ : Params) : Obj := ⟨(.type "function"), none, .func (PySem.W.fnOf (Str.ofString "tie_from") (Str.ofString "tie_from") (defArgs (top 19)) (defBody (top 19)) (defScope (top 19)) .none .none .none (.str (S 2595807759375494792423391711955702693320880999) 376) none (.ref 176) .none), #[]⟩
noncomputable def o180 (_ : Params) : Obj := tO [(.str (S 7304819) 406), (.str (S 7893101) 407), (.str (S 1768450665) 408), (.str (S 504464894567) 409)]
noncomputable def o183 (_ : Params) : Obj := cO [(.str (S 29115482190865009) 403), (.str (S 29115482190865009) 404), (.str (S 9700865007064396754801562313776) 405), (.int (42) 0), (.int (3) 0), (.int (0) 0), (.int (0) 0), (.int (3) 0), (.ref 178), (.bool true), (.int (181) 0), (.ref 179), .none, (.ref 180), (.ref 181), (.ref 182), (.int (410) 0), (.int (42) 0), (.str (S 9700865007064396754801562313776) 411)]
noncomputable def o184 (_ : Params) : Obj := ⟨(.type "function"), none, .func (PySem.W.fnOf (Str.ofString "part_of") (Str.ofString "part_of") (defArgs (top 20)) (defBody (top 20)) (defScope (top 20)) .none .none .none (.str (S 2595807759375494792423391711955702693320880999) 376) none (.ref 183) .none), #[]⟩
noncomputable def o187 (_ : Params) : Obj := tO [(.str (S 7304819) 416), (.str (S 495640207981) 417)]
noncomputable def o190 (_ : Params) : Obj := cO [(.str (S 31367281986924648) 413), (.str (S 31367281986924648) 414), (.str (S 9700865007064396754801562313776) 415), (.int (45) 0), (.int (2) 0), (.int (0) 0), (.int (0) 0), (.int (3) 0), (.ref 185), (.bool true), (.int (181) 0), (.ref 186), .none, (.ref 187), (.ref 188), (.ref 189), (.int (418) 0), (.int (45) 0), (.str (S 9700865007064396754801562313776) 419)]
noncomputable def o191 (_ : Params) : Obj := ⟨(.type "function"), none, .func (PySem.W.fnOf (Str.ofString "goes_on") (Str.ofString "goes_on") (defArgs (top 21)) (defBody (top 21)) (defScope (top 21)) .none .none .none (.str (S 2595807759375494792423391711955702693320880999) 376) none (.ref 190) .none), #[]⟩
noncomputable def o194 (_ : Params) : Obj := tO [(.str (S 1953461875) 424), (.str (S 495640405607) 425), (.str (S 7304819) 426), (.str (S 1970561645) 427)]
noncomputable def o197 (_ : Params) : Obj := cO [(.str (S 111490630316139) 421), (.str (S 111490630316139) 422), (.str (S 9700865007064396754801562313776) 423), (.int (47) 0), (.int (1) 0), (.int (0) 0), (.int (0) 0), (.int (3) 0), (.ref 192), (.bool true), (.int (181) 0), (.ref 193), .none, (.ref 194), (.ref 195), (.ref 196), (.int (428) 0), (.int (47) 0), (.str (S 9700865007064396754801562313776) 429)]
noncomputable def o198 (_ : Params) : Obj := ⟨(.type "function"), none, .func (PySem.W.fnOf (Str.ofString "joined") (Str.ofString "joined") (defArgs (top 22)) (defBody (top 22)) (defScope (top 22)) .none .none .none (.str (S 2595807759375494792423391711955702693320880999) 376) none (.ref 197) .none), #[]⟩
noncomputable def o208 (_ : Params) : Obj := tO [(.str (S 1735222900) 446)]
noncomputable def o211 (_ : Params) : Obj := cO [(.str (S 6944679725401530464) 443), (.str (S 8395602628992143088491004079736651362039124) 444), (.str (S 9700865007064396754801562313776) 445), (.int (58) 0), (.int (1) 0), (.int (0) 0), (.int (0) 0), (.int (3) 0), (.ref 206), (.bool true), (.int (181) 0), (.ref 207), .none, (.ref 208), (.ref 209), (.ref 210), (.int (447) 0), (.int (58) 0), (.str (S 9700865007064396754801562313776) 448)]
noncomputable def o212 (_ : Params) : Obj := ⟨(.type "function"), none, .func (PySem.W.fnOf (Str.ofString "__init__") (Str.ofString "Stretches.__init__") (defArgs (inClass (top 23) 0)) (defBody (inClass (top 23) 0)) (defScope (inClass (top 23) 0)) .none .none .none (.str (S 2595807759375494792423391711955702693320880999) 376) none (.ref 211) .none), #[]⟩
noncomputable def o213 (_ : Params) : Obj := ⟨(.type "tuple"), none, .seq #[.none] 0, #[]⟩
noncomputable def o216 (_ : Params) : Obj := tO [(.str (S 1735222900) 453), (.str (S 504464894567) 454), (.str (S 2054120046) 455), (.str (S 128047628446323) 456), (.str (S 6711925) 457)]
noncomputable def o219 (_ : Params) : Obj := cO [(.str (S 7698033) 450), (.str (S 9306351078043889216994357245268) 451), (.str (S 9700865007064396754801562313776) 452), (.int (61) 0), (.int (5) 0), (.int (0) 0), (.int (0) 0), (.int (3) 0), (.ref 214), (.bool true), (.int (181) 0), (.ref 215), .none, (.ref 216), (.ref 217), (.ref 218), (.int (458) 0), (.int (61) 0), (.str (S 9700865007064396754801562313776) 459)]
noncomputable def o220 (_ : Params) : Obj := ⟨(.type "function"), none, .func (PySem.W.fnOf (Str.ofString "put") (Str.ofString "Stretches.put") (defArgs (inClass (top 23) 1)) (defBody (inClass (top 23) 1)) (defScope (inClass (top 23) 1)) (.ref 213) .none .none (.str (S 2595807759375494792423391711955702693320880999) 376) none (.ref 219) .none), #[]⟩
noncomputable def o223 (_ : Params) : Obj := tO [(.str (S 1735222900) 464), (.str (S 504464894567) 465), (.str (S 2054120046) 466)]
noncomputable def o226 (_ : Params) : Obj := cO [(.str (S 7698020) 461), (.str (S 9306335362008234226815086064980) 462), (.str (S 9700865007064396754801562313776) 463), (.int (67) 0), (.int (3) 0), (.int (0) 0), (.int (0) 0), (.int (3) 0), (.ref 221), (.bool true), (.int (181) 0), (.ref 222), .none, (.ref 223), (.ref 224), (.ref 225), (.int (467) 0), (.int (67) 0), (.str (S 9700865007064396754801562313776) 468)]
noncomputable def o227 (_ : Params) : Obj := ⟨(.type "function"), none, .func (PySem.W.fnOf (Str.ofString "cut") (Str.ofString "Stretches.cut") (defArgs (inClass (top 23) 2)) (defBody (inClass (top 23) 2)) (defScope (inClass (top 23) 2)) .none .none .none (.str (S 2595807759375494792423391711955702693320880999) 376) none (.ref 226) .none), #[]⟩
noncomputable def o230 (_ : Params) : Obj := tO [(.str (S 1735222900) 473), (.str (S 504464894567) 474), (.str (S 2054120046) 475), (.str (S 128047628446323) 476)]
noncomputable def o233 (_ : Params) : Obj := cO [(.str (S 435727529576) 470), (.str (S 526762260821547473070605117598954836) 471), (.str (S 9700865007064396754801562313776) 472), (.int (71) 0), (.int (4) 0), (.int (0) 0), (.int (0) 0), (.int (3) 0), (.ref 228), (.bool true), (.int (181) 0), (.ref 229), .none, (.ref 230), (.ref 231), (.ref 232), (.int (477) 0), (.int (71) 0), (.str (S 9700865007064396754801562313776) 478)]
noncomputable def o234 (_ : Params) : Obj := ⟨(.type "function"), none, .func (PySem.W.fnOf (Str.ofString "guard") (Str.ofString "Stretches.guard") (defArgs (inClass (top 23) 3)) (defBody (inClass (top 23) 3)) (defScope (inClass (top 23) 3)) .none .none .none (.str (S 2595807759375494792423391711955702693320880999) 376) none (.ref 233) .none), #[]⟩
noncomputable def o237 (_ : Params) : Obj := tO [(.str (S 1735222900) 483), (.str (S 504464894567) 484), (.str (S 2054120046) 485)]
noncomputable def o240 (_ : Params) : Obj := cO [(.str (S 516757173630863403280740) 480), (.str (S 624721089673430778640529783835705258327388943700) 481), (.str (S 9700865007064396754801562313776) 482), (.int (74) 0), (.int (3) 0), (.int (0) 0), (.int (0) 0), (.int (3) 0), (.ref 235), (.bool true), (.int (181) 0), (.ref 236), .none, (.ref 237), (.ref 238), (.ref 239), (.int (486) 0), (.int (74) 0), (.str (S 9700865007064396754801562313776) 487)]
noncomputable def o241 (_ : Params) : Obj := ⟨(.type "function"), none, .func (PySem.W.fnOf (Str.ofString "check_full") (Str.ofString "Stretches.check_full") (defArgs (inClass (top 23) 4)) (defBody (inClass (top 23) 4)) (defScope (inClass (top 23) 4)) .none .none .none (.str (S 2595807759375494792423391711955702693320880999) 376) none (.ref 240) .none), #[]⟩
noncomputable def o244 (_ : Params) : Obj := tO [(.str (S 1735222900) 492), (.str (S 1718116977) 493)]
noncomputable def o247 (_ : Params) : Obj := cO [(.str (S 2165357850485127146099) 489), (.str (S 2617757014156703991004303271023538183198700884) 490), (.str (S 9700865007064396754801562313776) 491), (.int (78) 0), (.int (2) 0), (.int (0) 0), (.int (0) 0), (.int (3) 0), (.ref 242), (.bool true), (.int (181) 0), (.ref 243), .none, (.ref 244), (.ref 245), (.ref 246), (.int (494) 0), (.int (78) 0), (.str (S 9700865007064396754801562313776) 495)]
noncomputable def o248 (_ : Params) : Obj := ⟨(.type "function"), none, .func (PySem.W.fnOf (Str.ofString "rights_at") (Str.ofString "Stretches.rights_at") (defArgs (inClass (top 23) 5)) (defBody (inClass (top 23) 5)) (defScope (inClass (top 23) 5)) .none .none .none (.str (S 2595807759375494792423391711955702693320880999) 376) none (.ref 247) .none), #[]⟩
noncomputable def o251 (_ : Params) : Obj := tO [(.str (S 1735222900) 500), (.str (S 1718116977) 501)]
noncomputable def o254 (_ : Params) : Obj := cO [(.str (S 129065384569461) 497), (.str (S 156030475824513176713048584412386784596) 498), (.str (S 9700865007064396754801562313776) 499), (.int (81) 0), (.int (2) 0), (.int (0) 0), (.int (0) 0), (.int (3) 0), (.ref 249), (.bool true), (.int (181) 0), (.ref 250), .none, (.ref 251), (.ref 252), (.ref 253), (.int (502) 0), (.int (81) 0), (.str (S 9700865007064396754801562313776) 503)]
noncomputable def o255 (_ : Params) : Obj := ⟨(.type "function"), none, .func (PySem.W.fnOf (Str.ofString "tie_at") (Str.ofString "Stretches.tie_at") (defArgs (inClass (top 23) 6)) (defBody (inClass (top 23) 6)) (defScope (inClass (top 23) 6)) .none .none .none (.str (S 2595807759375494792423391711955702693320880999) 376) none (.ref 254) .none), #[]⟩
noncomputable def o258 (_ : Params) : Obj := tO [(.str (S 1735222900) 508), (.str (S 504464894567) 509), (.str (S 2054120046) 510)]
noncomputable def o261 (_ : Params) : Obj := cO [(.str (S 28823093466133610) 505), (.str (S 34844981892374637606343691086821957268820) 506), (.str (S 9700865007064396754801562313776) 507), (.int (84) 0), (.int (3) 0), (.int (0) 0), (.int (0) 0), (.int (3) 0), (.ref 256), (.bool true), (.int (181) 0), (.ref 257), .none, (.ref 258), (.ref 259), (.ref 260), (.int (511) 0), (.int (84) 0), (.str (S 9700865007064396754801562313776) 512)]
noncomputable def o262 (_ : Params) : Obj := ⟨(.type "function"), none, .func (PySem.W.fnOf (Str.ofString "is_free") (Str.ofString "Stretches.is_free") (defArgs (inClass (top 23) 7)) (defBody (inClass (top 23) 7)) (defScope (inClass (top 23) 7)) .none .none .none (.str (S 2595807759375494792423391711955702693320880999) 376) none (.ref 261) .none), #[]⟩
noncomputable def o266 (_ : Params) : Obj := cO [(.str (S 30801127769404522) 514), (.str (S 37236278633682276866180525579755284821332) 515), (.str (S 9700865007064396754801562313776) 516), (.int (87) 0), (.int (3) 0), (.int (0) 0), (.int (0) 0), (.int (3) 0), (.ref 263), (.bool true), (.int (181) 0), (.ref 264), .none, .none, .none, (.ref 265), (.int (517) 0), (.int (87) 0), (.str (S 9700865007064396754801562313776) 518)]
noncomputable def o267 (_ : Params) : Obj := ⟨(.type "function"), none, .func (PySem.W.fnOf (Str.ofString "is_full") (Str.ofString "Stretches.is_full") (defArgs (inClass (top 23) 8)) (defBody (inClass (top 23) 8)) (defScope (inClass (top 23) 8)) .none .none .none (.str (S 2595807759375494792423391711955702693320880999) 376) none (.ref 266) .none), #[]⟩
noncomputable def o271 (_ : Params) : Obj := cO [(.str (S 28541580069598314) 520), (.str (S 34504653078735706780555045640184744080724) 521), (.str (S 9700865007064396754801562313776) 522), (.int (90) 0), (.int (2) 0), (.int (0) 0), (.int (0) 0), (.int (3) 0), (.ref 268), (.bool true), (.int (181) 0), (.ref 269), .none, .none, .none, (.ref 270), (.int (523) 0), (.int (90) 0), (.str (S 9700865007064396754801562313776) 524)]
noncomputable def o272 (_ : Params) : Obj := ⟨(.type "function"), none, .func (PySem.W.fnOf (Str.ofString "is_tied") (Str.ofString "Stretches.is_tied") (defArgs (inClass (top 23) 9)) (defBody (inClass (top 23) 9)) (defScope (inClass (top 23) 9)) .none .none .none (.str (S 2595807759375494792423391711955702693320880999) 376) none (.ref 271) .none), #[]⟩
noncomputable def o275 (_ : Params) : Obj := tO [(.str (S 1735222900) 529)]
noncomputable def o278 (_ : Params) : Obj := cO [(.str (S 1701671029) 526), (.str (S 2057194043672392837723022735668564) 527), (.str (S 9700865007064396754801562313776) 528), (.int (93) 0), (.int (1) 0), (.int (0) 0), (.int (0) 0), (.int (3) 0), (.ref 273), (.bool true), (.int (181) 0), (.ref 274), .none, (.ref 275), (.ref 276), (.ref 277), (.int (530) 0), (.int (93) 0), (.str (S 9700865007064396754801562313776) 531)]
noncomputable def o279 (_ : Params) : Obj := ⟨(.type "function"), none, .func (PySem.W.fnOf (Str.ofString "told") (Str.ofString "Stretches.told") (defArgs (inClass (top 23) 10)) (defBody (inClass (top 23) 10)) (defScope (inClass (top 23) 10)) .none .none .none (.str (S 2595807759375494792423391711955702693320880999) 376) none (.ref 278) .none), #[]⟩
noncomputable def o282 (_ : Params) : Obj := tO [(.str (S 1735222900) 536), (.str (S 495639426416) 537)]
noncomputable def o285 (_ : Params) : Obj := cO [(.str (S 111490546888804) 533), (.str (S 134783800776830844550708368151093146964) 534), (.str (S 9700865007064396754801562313776) 535), (.int (96) 0), (.int (1) 0), (.int (0) 0), (.int (0) 0), (.int (3) 0), (.ref 280), (.bool true), (.int (181) 0), (.ref 281), .none, (.ref 282), (.ref 283), (.ref 284), (.int (538) 0), (.int (96) 0), (.str (S 9700865007064396754801562313776) 539)]
noncomputable def o286 (_ : Params) : Obj := ⟨(.type "function"), none, .func (PySem.W.fnOf (Str.ofString "copied") (Str.ofString "Stretches.copied") (defArgs (inClass (top 23) 11)) (defBody (inClass (top 23) 11)) (defScope (inClass (top 23) 11)) .none .none .none (.str (S 2595807759375494792423391711955702693320880999) 376) none (.ref 285) .none), #[]⟩
noncomputable def o289 (_ : Params) : Obj := tO [(.str (S 1735222900) 544), (.str (S 1718116977) 545), (.str (S 7893101) 546), (.str (S 1768450665) 547), (.str (S 112620038613614) 548)]
noncomputable def o292 (_ : Params) : Obj := cO [(.str (S 31392679273066234308940950897) 541), (.str (S 37951420520090778506602714804950266613495697467733332) 542), (.str (S 9700865007064396754801562313776) 543), (.int (101) 0), (.int (2) 0), (.int (0) 0), (.int (0) 0), (.int (3) 0), (.ref 287), (.bool true), (.int (181) 0), (.ref 288), .none, (.ref 289), (.ref 290), (.ref 291), (.int (549) 0), (.int (101) 0), (.str (S 9700865007064396754801562313776) 550)]
noncomputable def o293 (_ : Params) : Obj := ⟨(.type "function"), none, .func (PySem.W.fnOf (Str.ofString "place_behind") (Str.ofString "Stretches.place_behind") (defArgs (inClass (top 23) 12)) (defBody (inClass (top 23) 12)) (defScope (inClass (top 23) 12)) .none .none .none (.str (S 2595807759375494792423391711955702693320880999) 376) none (.ref 292) .none), #[]⟩
noncomputable def o297 (_ : Params) : Obj := cO [(.str (S 478922323667592571740785) 552), (.str (S 578981562671587066094221509702201825946659681620) 553), (.str (S 9700865007064396754801562313776) 554), (.int (112) 0), (.int (3) 0), (.int (0) 0), (.int (0) 0), (.int (3) 0), (.ref 294), (.bool true), (.int (181) 0), (.ref 295), .none, .none, .none, (.ref 296), (.int (555) 0), (.int (112) 0), (.str (S 9700865007064396754801562313776) 556)]
noncomputable def o298 (_ : Params) : Obj := ⟨(.type "function"), none, .func (PySem.W.fnOf (Str.ofString "parts_amid") (Str.ofString "Stretches.parts_amid") (defArgs (inClass (top 23) 13)) (defBody (inClass (top 23) 13)) (defScope (inClass (top 23) 13)) .none .none .none (.str (S 2595807759375494792423391711955702693320880999) 376) none (.ref 297) .none), #[]⟩
noncomputable def o301 (_ : Params) : Obj := tO [(.str (S 1735222900) 561), (.str (S 1718116977) 562)]
noncomputable def o304 (_ : Params) : Obj := cO [(.str (S 33040738702025329) 558), (.str (S 39943802116018770004276114331333133825364) 559), (.str (S 9700865007064396754801562313776) 560), (.int (117) 0), (.int (2) 0), (.int (0) 0), (.int (0) 0), (.int (3) 0), (.ref 299), (.bool true), (.int (181) 0), (.ref 300), .none, (.ref 301), (.ref 302), (.ref 303), (.int (563) 0), (.int (117) 0), (.str (S 9700865007064396754801562313776) 564)]
noncomputable def o305 (_ : Params) : Obj := ⟨(.type "function"), none, .func (PySem.W.fnOf (Str.ofString "part_at") (Str.ofString "Stretches.part_at") (defArgs (inClass (top 23) 14)) (defBody (inClass (top 23) 14)) (defScope (inClass (top 23) 14)) .none .none .none (.str (S 2595807759375494792423391711955702693320880999) 376) none (.ref 304) .none), #[]⟩
noncomputable def o309 (_ : Params) : Obj := cO [(.str (S 7307774714166534765) 566), (.str (S 8834557535882840484900534439152844413302100) 567), (.str (S 9700865007064396754801562313776) 568), (.int (120) 0), (.int (4) 0), (.int (0) 0), (.int (0) 0), (.int (3) 0), (.ref 306), (.bool true), (.int (181) 0), (.ref 307), .none, .none, .none, (.ref 308), (.int (569) 0), (.int (120) 0), (.str (S 9700865007064396754801562313776) 570)]
noncomputable def o310 (_ : Params) : Obj := ⟨(.type "function"), none, .func (PySem.W.fnOf (Str.ofString "lay_amid") (Str.ofString "Stretches.lay_amid") (defArgs (inClass (top 23) 15)) (defBody (inClass (top 23) 15)) (defScope (inClass (top 23) 15)) .none .none .none (.str (S 2595807759375494792423391711955702693320880999) 376) none (.ref 309) .none), #[]⟩
noncomputable def o311 (_ : Params) : Obj := ⟨(.type "tuple"), none, .seq #[(.str (Str.ofString "runs") 572)] 0, #[]⟩
noncomputable def o312 (P : Params) : Obj := dO 4 [ent P (S 455125450472104437637216) 438 (.str (S 2595807759375494792423391711955702693320880999) 376), ent P (S 500416517772168279997240570217455712) 442 (.int (56) 441), ent P (S 6944679725401530464) 449 (.ref 212), ent P (S 7698033) 460 (.ref 220), ent P (S 7698020) 469 (.ref 227), ent P (S 435727529576) 479 (.ref 234), ent P (S 516757173630863403280740) 488 (.ref 241), ent P (S 2165357850485127146099) 496 (.ref 248), ent P (S 129065384569461) 504 (.ref 255), ent P (S 28823093466133610) 513 (.ref 262), ent P (S 30801127769404522) 519 (.ref 267), ent P (S 28541580069598314) 525 (.ref 272), ent P (S 1701671029) 532 (.ref 279), ent P (S 111490546888804) 540 (.ref 286), ent P (S 31392679273066234308940950897) 551 (.ref 293), ent P (S 478922323667592571740785) 557 (.ref 298), ent P (S 33040738702025329) 565 (.ref 305), ent P (S 7307774714166534765) 571 (.ref 310), ent P (S 140854816109632365363434125429399349832812124725344) 573 (.ref 311), ent P (S 6944679699547512928) 575 (.ref 314), ent P (S 116512133262362862868258912) 577 (.ref 315), ent P (S 27127582262911072) 578 .none]
noncomputable def o313 (_ : Params) : Obj := ⟨(.type "type"), none, .cls { name := (Str.ofString "Stretches"), bases := [(.type "object")], mro := [(.ref 313), (.type "object")], ns := 312, qualname := (Str.ofString "Stretches"), hasDict := true, slotNames := [], subclasses := [], abstract := false, collection := none, hasDel := false }, #[none, none, (some (.str (S 2147201852470124049748) 431)), (some (.str (S 2147201852470124049748) 439)), (some (.builtin "object.__new__")), (some (.bool true))]⟩
noncomputable def o314 (_ : Params) : Obj := ⟨(.type "getset_descriptor"), none, .fields ⟨[(.str (S 6944679699547512928) 574), (.ref 313), (.builtin "function.__dict__"), (.builtin "function.__dict__#set")]⟩, #[]⟩
noncomputable def o315 (_ : Params) : Obj := ⟨(.type "getset_descriptor"), none, .fields ⟨[(.str (S 116512133262362862868258912) 576), (.ref 313), (.builtin "ExceptionGroup.__weakref__"), .none]⟩, #[]⟩
noncomputable def o320 (_ : Params) : Obj := tO [(.str (S 32777980890478191) 588), (.str (S 126883592042095) 589)]
noncomputable def o323 (_ : Params) : Obj := cO [(.str (S 483571264869516729017965) 585), (.str (S 483571264869516729017965) 586), (.str (S 9700865007064396754801562313776) 587), (.int (130) 0), (.int (1) 0), (.int (0) 0), (.int (0) 0), (.int (3) 0), (.ref 318), (.bool true), (.int (181) 0), (.ref 319), .none, (.ref 320), (.ref 321), (.ref 322), (.int (590) 0), (.int (130) 0), (.str (S 9700865007064396754801562313776) 591)]
noncomputable def o324 (_ : Params) : Obj := ⟨(.type "function"), none, .func (PySem.W.fnOf (Str.ofString "least_free") (Str.ofString "least_free") (defArgs (top 26)) (defBody (top 26)) (defScope (top 26)) .none .none .none (.str (S 531976422797234828493252396058833767) 581) none (.ref 323) .none), #[]⟩
noncomputable def o334 (_ : Params) : Obj := tO [(.str (S 1735222900) 608), (.str (S 439988939124) 609)]
noncomputable def o337 (_ : Params) : Obj := cO [(.str (S 6944679725401530464) 605), (.str (S 1954753563970360692704735984513097) 606), (.str (S 9700865007064396754801562313776) 607), (.int (137) 0), (.int (2) 0), (.int (0) 0), (.int (0) 0), (.int (3) 0), (.ref 332), (.bool true), (.int (181) 0), (.ref 333), .none, (.ref 334), (.ref 335), (.ref 336), (.int (610) 0), (.int (137) 0), (.str (S 9700865007064396754801562313776) 611)]
noncomputable def o338 (_ : Params) : Obj := ⟨(.type "function"), none, .func (PySem.W.fnOf (Str.ofString "__init__") (Str.ofString "House.__init__") (defArgs (inClass (top 27) 0)) (defBody (inClass (top 27) 0)) (defScope (inClass (top 27) 0)) .none .none .none (.str (S 531976422797234828493252396058833767) 581) none (.ref 337) .none), #[]⟩
noncomputable def o341 (_ : Params) : Obj := tO [(.str (S 1735222900) 616), (.str (S 1819566709) 617)]
noncomputable def o344 (_ : Params) : Obj := cO [(.str (S 7814979509663852143) 613), (.str (S 2199721175476886628490265163624521) 614), (.str (S 9700865007064396754801562313776) 615), (.int (142) 0), (.int (1) 0), (.int (0) 0), (.int (0) 0), (.int (3) 0), (.ref 339), (.bool true), (.int (181) 0), (.ref 340), .none, (.ref 341), (.ref 342), (.ref 343), (.int (618) 0), (.int (142) 0), (.str (S 9700865007064396754801562313776) 619)]
noncomputable def o345 (_ : Params) : Obj := ⟨(.type "function"), none, .func (PySem.W.fnOf (Str.ofString "new_task") (Str.ofString "House.new_task") (defArgs (inClass (top 27) 1)) (defBody (inClass (top 27) 1)) (defScope (inClass (top 27) 1)) .none .none .none (.str (S 531976422797234828493252396058833767) 581) none (.ref 344) .none), #[]⟩
noncomputable def o348 (_ : Params) : Obj := tO [(.str (S 1735222900) 624), (.str (S 1819566709) 625), (.str (S 495639426416) 626)]
noncomputable def o351 (_ : Params) : Obj := cO [(.str (S 1819504743) 621), (.str (S 512145055212970217730121) 622), (.str (S 9700865007064396754801562313776) 623), (.int (147) 0), (.int (2) 0), (.int (0) 0), (.int (0) 0), (.int (3) 0), (.ref 346), (.bool true), (.int (181) 0), (.ref 347), .none, (.ref 348), (.ref 349), (.ref 350), (.int (627) 0), (.int (147) 0), (.str (S 9700865007064396754801562313776) 628)]
noncomputable def o352 (_ : Params) : Obj := ⟨(.type "function"), none, .func (PySem.W.fnOf (Str.ofString "fork") (Str.ofString "House.fork") (defArgs (inClass (top 27) 2)) (defBody (inClass (top 27) 2)) (defScope (inClass (top 27) 2)) .none .none .none (.str (S 531976422797234828493252396058833767) 581) none (.ref 351) .none), #[]⟩
noncomputable def o355 (_ : Params) : Obj := tO [(.str (S 1735222900) 633), (.str (S 1819566709) 634)]
noncomputable def o358 (_ : Params) : Obj := cO [(.str (S 7814979509662609254) 630), (.str (S 2199721175476536786337936233099337) 631), (.str (S 9700865007064396754801562313776) 632), (.int (153) 0), (.int (2) 0), (.int (0) 0), (.int (0) 0), (.int (3) 0), (.ref 353), (.bool true), (.int (181) 0), (.ref 354), .none, (.ref 355), (.ref 356), (.ref 357), (.int (635) 0), (.int (153) 0), (.str (S 9700865007064396754801562313776) 636)]
noncomputable def o359 (_ : Params) : Obj := ⟨(.type "function"), none, .func (PySem.W.fnOf (Str.ofString "end_task") (Str.ofString "House.end_task") (defArgs (inClass (top 27) 3)) (defBody (inClass (top 27) 3)) (defScope (inClass (top 27) 3)) .none .none .none (.str (S 531976422797234828493252396058833767) 581) none (.ref 358) .none), #[]⟩
noncomputable def o362 (_ : Params) : Obj := tO [(.str (S 1735222900) 641), (.str (S 2054120046) 642), (.str (S 1819239011) 643)]
noncomputable def o365 (_ : Params) : Obj := cO [(.str (S 7813572057470887535) 638), (.str (S 2199325012903650553738972299161673) 639), (.str (S 9700865007064396754801562313776) 640), (.int (157) 0), (.int (2) 0), (.int (0) 0), (.int (0) 0), (.int (3) 0), (.ref 360), (.bool true), (.int (181) 0), (.ref 361), .none, (.ref 362), (.ref 363), (.ref 364), (.int (644) 0), (.int (157) 0), (.str (S 9700865007064396754801562313776) 645)]
noncomputable def o366 (_ : Params) : Obj := ⟨(.type "function"), none, .func (PySem.W.fnOf (Str.ofString "new_bank") (Str.ofString "House.new_bank") (defArgs (inClass (top 27) 4)) (defBody (inClass (top 27) 4)) (defScope (inClass (top 27) 4)) .none .none .none (.str (S 531976422797234828493252396058833767) 581) none (.ref 365) .none), #[]⟩
noncomputable def o370 (_ : Params) : Obj := cO [(.str (S 2000274446712430424933) 647), (.str (S 563027203303301669962607049756274761) 648), (.str (S 9700865007064396754801562313776) 649), (.int (164) 0), (.int (2) 0), (.int (0) 0), (.int (0) 0), (.int (3) 0), (.ref 367), (.bool true), (.int (181) 0), (.ref 368), .none, .none, .none, (.ref 369), (.int (650) 0), (.int (164) 0), (.str (S 9700865007064396754801562313776) 651)]
noncomputable def o371 (_ : Params) : Obj := ⟨(.type "function"), none, .func (PySem.W.fnOf (Str.ofString "drop_bank") (Str.ofString "House.drop_bank") (defArgs (inClass (top 27) 5)) (defBody (inClass (top 27) 5)) (defScope (inClass (top 27) 5)) .none .none .none (.str (S 531976422797234828493252396058833767) 581) none (.ref 370) .none), #[]⟩
noncomputable def o372 (_ : Params) : Obj := ⟨(.type "tuple"), none, .seq #[.none, (.int (0) 653)] 0, #[]⟩
noncomputable def o375 (_ : Params) : Obj := tO [(.str (S 1735222900) 657), (.str (S 1819566709) 658), (.str (S 504464894567) 659), (.str (S 2054120046) 660), (.str (S 128047628446323) 661), (.str (S 1819239011) 662), (.str (S 504447006068) 663), (.str (S 6711925) 664)]
noncomputable def o378 (_ : Params) : Obj := cO [(.str (S 8020589) 654), (.str (S 2257595154097830785097) 655), (.str (S 9700865007064396754801562313776) 656), (.int (170) 0), (.int (7) 0), (.int (0) 0), (.int (0) 0), (.int (3) 0), (.ref 373), (.bool true), (.int (181) 0), (.ref 374), .none, (.ref 375), (.ref 376), (.ref 377), (.int (665) 0), (.int (170) 0), (.str (S 9700865007064396754801562313776) 666)]
noncomputable def o379 (_ : Params) : Obj := ⟨(.type "function"), none, .func (PySem.W.fnOf (Str.ofString "lay") (Str.ofString "House.lay") (defArgs (inClass (top 27) 6)) (defBody (inClass (top 27) 6)) (defScope (inClass (top 27) 6)) (.ref 372) .none .none (.str (S 531976422797234828493252396058833767) 581) none (.ref 378) .none), #[]⟩
noncomputable def o382 (_ : Params) : Obj := tO [(.str (S 1735222900) 671), (.str (S 1819566709) 672), (.str (S 504464894567) 673), (.str (S 2054120046) 674)]
noncomputable def o385 (_ : Params) : Obj := cO [(.str (S 1969711725) 668), (.str (S 554424561973198142730313) 669), (.str (S 9700865007064396754801562313776) 670), (.int (179) 0), (.int (4) 0), (.int (0) 0), (.int (0) 0), (.int (3) 0), (.ref 380), (.bool true), (.int (181) 0), (.ref 381), .none, (.ref 382), (.ref 383), (.ref 384), (.int (675) 0), (.int (179) 0), (.str (S 9700865007064396754801562313776) 676)]
noncomputable def o386 (_ : Params) : Obj := ⟨(.type "function"), none, .func (PySem.W.fnOf (Str.ofString "lift") (Str.ofString "House.lift") (defArgs (inClass (top 27) 7)) (defBody (inClass (top 27) 7)) (defScope (inClass (top 27) 7)) .none .none .none (.str (S 531976422797234828493252396058833767) 581) none (.ref 385) .none), #[]⟩
noncomputable def o389 (_ : Params) : Obj := tO [(.str (S 1735222900) 681), (.str (S 1819566709) 682), (.str (S 504464894567) 683), (.str (S 2054120046) 684), (.str (S 128047628446323) 685)]
noncomputable def o392 (_ : Params) : Obj := cO [(.str (S 435727529576) 678), (.str (S 122646396239648390521450569) 679), (.str (S 9700865007064396754801562313776) 680), (.int (183) 0), (.int (5) 0), (.int (0) 0), (.int (0) 0), (.int (3) 0), (.ref 387), (.bool true), (.int (181) 0), (.ref 388), .none, (.ref 389), (.ref 390), (.ref 391), (.int (686) 0), (.int (183) 0), (.str (S 9700865007064396754801562313776) 687)]
noncomputable def o393 (_ : Params) : Obj := ⟨(.type "function"), none, .func (PySem.W.fnOf (Str.ofString "guard") (Str.ofString "House.guard") (defArgs (inClass (top 27) 8)) (defBody (inClass (top 27) 8)) (defScope (inClass (top 27) 8)) .none .none .none (.str (S 531976422797234828493252396058833767) 581) none (.ref 392) .none), #[]⟩
noncomputable def o396 (_ : Params) : Obj := tO [(.str (S 1735222900) 692), (.str (S 1819566709) 693), (.str (S 32779080669947234) 694), (.str (S 1970233976) 695)]
noncomputable def o399 (_ : Params) : Obj := cO [(.str (S 435510080610) 689), (.str (S 122585189797007784293068873) 690), (.str (S 9700865007064396754801562313776) 691), (.int (186) 0), (.int (4) 0), (.int (0) 0), (.int (0) 0), (.int (3) 0), (.ref 394), (.bool true), (.int (181) 0), (.ref 395), .none, (.ref 396), (.ref 397), (.ref 398), (.int (696) 0), (.int (186) 0), (.str (S 9700865007064396754801562313776) 697)]
noncomputable def o400 (_ : Params) : Obj := ⟨(.type "function"), none, .func (PySem.W.fnOf (Str.ofString "asked") (Str.ofString "House.asked") (defArgs (inClass (top 27) 9)) (defBody (inClass (top 27) 9)) (defScope (inClass (top 27) 9)) .none .none .none (.str (S 531976422797234828493252396058833767) 581) none (.ref 399) .none), #[]⟩
noncomputable def o403 (_ : Params) : Obj := tO [(.str (S 1735222900) 702)]
noncomputable def o406 (_ : Params) : Obj := cO [(.str (S 2166657694140852363893) 699), (.str (S 609859923998260050033739136169832521) 700), (.str (S 9700865007064396754801562313776) 701), (.int (189) 0), (.int (1) 0), (.int (0) 0), (.int (0) 0), (.int (3) 0), (.ref 401), (.bool true), (.int (181) 0), (.ref 402), .none, (.ref 403), (.ref 404), (.ref 405), (.int (703) 0), (.int (189) 0), (.str (S 9700865007064396754801562313776) 704)]
noncomputable def o407 (_ : Params) : Obj := ⟨(.type "function"), none, .func (PySem.W.fnOf (Str.ofString "task_list") (Str.ofString "House.task_list") (defArgs (inClass (top 27) 10)) (defBody (inClass (top 27) 10)) (defScope (inClass (top 27) 10)) .none .none .none (.str (S 531976422797234828493252396058833767) 581) none (.ref 406) .none), #[]⟩
noncomputable def o410 (_ : Params) : Obj := tO [(.str (S 1735222900) 709)]
noncomputable def o413 (_ : Params) : Obj := cO [(.str (S 2166657694140852036195) 706), (.str (S 609859923998259957794952218041282633) 707), (.str (S 9700865007064396754801562313776) 708), (.int (192) 0), (.int (1) 0), (.int (0) 0), (.int (0) 0), (.int (3) 0), (.ref 408), (.bool true), (.int (181) 0), (.ref 409), .none, (.ref 410), (.ref 411), (.ref 412), (.int (710) 0), (.int (192) 0), (.str (S 9700865007064396754801562313776) 711)]
noncomputable def o414 (_ : Params) : Obj := ⟨(.type "function"), none, .func (PySem.W.fnOf (Str.ofString "bank_list") (Str.ofString "House.bank_list") (defArgs (inClass (top 27) 11)) (defBody (inClass (top 27) 11)) (defScope (inClass (top 27) 11)) .none .none .none (.str (S 531976422797234828493252396058833767) 581) none (.ref 413) .none), #[]⟩
noncomputable def o417 (_ : Params) : Obj := tO [(.str (S 1735222900) 716), (.str (S 1819239011) 717)]
noncomputable def o420 (_ : Params) : Obj := cO [(.str (S 1890460943890055651939) 713), (.str (S 532117450153858173809377884935450697) 714), (.str (S 9700865007064396754801562313776) 715), (.int (195) 0), (.int (2) 0), (.int (0) 0), (.int (0) 0), (.int (3) 0), (.ref 415), (.bool true), (.int (181) 0), (.ref 416), .none, (.ref 417), (.ref 418), (.ref 419), (.int (718) 0), (.int (195) 0), (.str (S 9700865007064396754801562313776) 719)]
noncomputable def o421 (_ : Params) : Obj := ⟨(.type "function"), none, .func (PySem.W.fnOf (Str.ofString "bank_size") (Str.ofString "House.bank_size") (defArgs (inClass (top 27) 12)) (defBody (inClass (top 27) 12)) (defScope (inClass (top 27) 12)) .none .none .none (.str (S 531976422797234828493252396058833767) 581) none (.ref 420) .none), #[]⟩
noncomputable def o424 (_ : Params) : Obj := tO [(.str (S 1735222900) 724), (.str (S 1819566709) 725)]
noncomputable def o427 (_ : Params) : Obj := cO [(.str (S 32012811197779588502284105076) 721), (.str (S 9010805286337637281539545668179908239978569) 722), (.str (S 9700865007064396754801562313776) 723), (.int (198) 0), (.int (2) 0), (.int (0) 0), (.int (0) 0), (.int (3) 0), (.ref 422), (.bool true), (.int (181) 0), (.ref 423), .none, (.ref 424), (.ref 425), (.ref 426), (.int (726) 0), (.int (198) 0), (.str (S 9700865007064396754801562313776) 727)]
noncomputable def o428 (_ : Params) : Obj := ⟨(.type "function"), none, .func (PySem.W.fnOf (Str.ofString "stretches_of") (Str.ofString "House.stretches_of") (defArgs (inClass (top 27) 13)) (defBody (inClass (top 27) 13)) (defScope (inClass (top 27) 13)) .none .none .none (.str (S 531976422797234828493252396058833767) 581) none (.ref 427) .none), #[]⟩
noncomputable def o431 (_ : Params) : Obj := tO [(.str (S 1735222900) 732), (.str (S 1819566709) 733), (.str (S 1718116977) 734)]
noncomputable def o434 (_ : Params) : Obj := cO [(.str (S 2165357850485127146099) 729), (.str (S 609494050535537300399575152849219657) 730), (.str (S 9700865007064396754801562313776) 731), (.int (201) 0), (.int (3) 0), (.int (0) 0), (.int (0) 0), (.int (3) 0), (.ref 429), (.bool true), (.int (181) 0), (.ref 430), .none, (.ref 431), (.ref 432), (.ref 433), (.int (735) 0), (.int (201) 0), (.str (S 9700865007064396754801562313776) 736)]
noncomputable def o435 (_ : Params) : Obj := ⟨(.type "function"), none, .func (PySem.W.fnOf (Str.ofString "rights_at") (Str.ofString "House.rights_at") (defArgs (inClass (top 27) 14)) (defBody (inClass (top 27) 14)) (defScope (inClass (top 27) 14)) .none .none .none (.str (S 531976422797234828493252396058833767) 581) none (.ref 434) .none), #[]⟩
noncomputable def o438 (_ : Params) : Obj := tO [(.str (S 1735222900) 741), (.str (S 1819566709) 742), (.str (S 1718116977) 743)]
noncomputable def o441 (_ : Params) : Obj := cO [(.str (S 129065384569461) 738), (.str (S 36328676115840947361617965129) 739), (.str (S 9700865007064396754801562313776) 740), (.int (204) 0), (.int (3) 0), (.int (0) 0), (.int (0) 0), (.int (3) 0), (.ref 436), (.bool true), (.int (181) 0), (.ref 437), .none, (.ref 438), (.ref 439), (.ref 440), (.int (744) 0), (.int (204) 0), (.str (S 9700865007064396754801562313776) 745)]
noncomputable def o442 (_ : Params) : Obj := ⟨(.type "function"), none, .func (PySem.W.fnOf (Str.ofString "tie_at") (Str.ofString "House.tie_at") (defArgs (inClass (top 27) 15)) (defBody (inClass (top 27) 15)) (defScope (inClass (top 27) 15)) .none .none .none (.str (S 531976422797234828493252396058833767) 581) none (.ref 441) .none), #[]⟩
noncomputable def o445 (_ : Params) : Obj := tO [(.str (S 1735222900) 750), (.str (S 1819566709) 751)]
noncomputable def o448 (_ : Params) : Obj := cO [(.str (S 7453563436348760689) 747), (.str (S 2097991594657664520040000427290697) 748), (.str (S 9700865007064396754801562313776) 749), (.int (207) 0), (.int (2) 0), (.int (0) 0), (.int (0) 0), (.int (3) 0), (.ref 443), (.bool true), (.int (181) 0), (.ref 444), .none, (.ref 445), (.ref 446), (.ref 447), (.int (752) 0), (.int (207) 0), (.str (S 9700865007064396754801562313776) 753)]
noncomputable def o449 (_ : Params) : Obj := ⟨(.type "function"), none, .func (PySem.W.fnOf (Str.ofString "pages_of") (Str.ofString "House.pages_of") (defArgs (inClass (top 27) 16)) (defBody (inClass (top 27) 16)) (defScope (inClass (top 27) 16)) .none .none .none (.str (S 531976422797234828493252396058833767) 581) none (.ref 448) .none), #[]⟩
noncomputable def o452 (_ : Params) : Obj := tO [(.str (S 1735222900) 758), (.str (S 1819566709) 759)]
noncomputable def o455 (_ : Params) : Obj := cO [(.str (S 512162497145278640318820) 755), (.str (S 144160926956038725368327681379818434633) 756), (.str (S 9700865007064396754801562313776) 757), (.int (210) 0), (.int (2) 0), (.int (0) 0), (.int (0) 0), (.int (3) 0), (.ref 450), (.bool true), (.int (181) 0), (.ref 451), .none, (.ref 452), (.ref 453), (.ref 454), (.int (760) 0), (.int (210) 0), (.str (S 9700865007064396754801562313776) 761)]
noncomputable def o456 (_ : Params) : Obj := ⟨(.type "function"), none, .func (PySem.W.fnOf (Str.ofString "check_task") (Str.ofString "House.check_task") (defArgs (inClass (top 27) 17)) (defBody (inClass (top 27) 17)) (defScope (inClass (top 27) 17)) .none .none .none (.str (S 531976422797234828493252396058833767) 581) none (.ref 455) .none), #[]⟩
noncomputable def o459 (_ : Params) : Obj := tO [(.str (S 1735222900) 766), (.str (S 1819239011) 767)]
noncomputable def o462 (_ : Params) : Obj := cO [(.str (S 512070258358360511768932) 763), (.str (S 144134964045639125973426952214381228105) 764), (.str (S 9700865007064396754801562313776) 765), (.int (214) 0), (.int (2) 0), (.int (0) 0), (.int (0) 0), (.int (3) 0), (.ref 457), (.bool true), (.int (181) 0), (.ref 458), .none, (.ref 459), (.ref 460), (.ref 461), (.int (768) 0), (.int (214) 0), (.str (S 9700865007064396754801562313776) 769)]
noncomputable def o463 (_ : Params) : Obj := ⟨(.type "function"), none, .func (PySem.W.fnOf (Str.ofString "check_bank") (Str.ofString "House.check_bank") (defArgs (inClass (top 27) 18)) (defBody (inClass (top 27) 18)) (defScope (inClass (top 27) 18)) .none .none .none (.str (S 531976422797234828493252396058833767) 581) none (.ref 462) .none), #[]⟩
noncomputable def o466 (_ : Params) : Obj := tO [(.str (S 1735222900) 774), (.str (S 1819566709) 775), (.str (S 504464894567) 776), (.str (S 2054120046) 777)]
noncomputable def o469 (_ : Params) : Obj := cO [(.str (S 8350047493112005182606836918628) 771), (.str (S 2350329423656573175351140194157426667259588681) 772), (.str (S 9700865007064396754801562313776) 773), (.int (218) 0), (.int (4) 0), (.int (0) 0), (.int (0) 0), (.int (3) 0), (.ref 464), (.bool true), (.int (181) 0), (.ref 465), .none, (.ref 466), (.ref 467), (.ref 468), (.int (778) 0), (.int (218) 0), (.str (S 9700865007064396754801562313776) 779)]
noncomputable def o470 (_ : Params) : Obj := ⟨(.type "function"), none, .func (PySem.W.fnOf (Str.ofString "check_stretch") (Str.ofString "House.check_stretch") (defArgs (inClass (top 27) 19)) (defBody (inClass (top 27) 19)) (defScope (inClass (top 27) 19)) .none .none .none (.str (S 531976422797234828493252396058833767) 581) none (.ref 469) .none), #[]⟩
noncomputable def o473 (_ : Params) : Obj := tO [(.str (S 1735222900) 784), (.str (S 1819239011) 785), (.str (S 504447006068) 786), (.str (S 2054120046) 787)]
noncomputable def o476 (_ : Params) : Obj := cO [(.str (S 9446029003694613325605449134053798776826212) 781), (.str (S 2658820793823122384803673107998479853226123854532207603785) 782), (.str (S 9700865007064396754801562313776) 783), (.int (223) 0), (.int (4) 0), (.int (0) 0), (.int (0) 0), (.int (3) 0), (.ref 471), (.bool true), (.int (181) 0), (.ref 472), .none, (.ref 473), (.ref 474), (.ref 475), (.int (788) 0), (.int (223) 0), (.str (S 9700865007064396754801562313776) 789)]
noncomputable def o477 (_ : Params) : Obj := ⟨(.type "function"), none, .func (PySem.W.fnOf (Str.ofString "check_part_of_bank") (Str.ofString "House.check_part_of_bank") (defArgs (inClass (top 27) 20)) (defBody (inClass (top 27) 20)) (defScope (inClass (top 27) 20)) .none .none .none (.str (S 531976422797234828493252396058833767) 581) none (.ref 476) .none), #[]⟩
noncomputable def o478 (_ : Params) : Obj := ⟨(.type "tuple"), none, .seq #[(.str (Str.ofString "banks") 791), (.str (Str.ofString "shape") 792), (.str (Str.ofString "tasks") 793)] 0, #[]⟩
noncomputable def o479 (P : Params) : Obj := dO 4 [ent P (S 455125450472104437637216) 600 (.str (S 531976422797234828493252396058833767) 581), ent P (S 500416517772168279997240570217455712) 604 (.int (135) 603), ent P (S 6944679725401530464) 612 (.ref 338), ent P (S 7814979509663852143) 620 (.ref 345), ent P (S 1819504743) 629 (.ref 352), ent P (S 7814979509662609254) 637 (.ref 359), ent P (S 7813572057470887535) 646 (.ref 366), ent P (S 2000274446712430424933) 652 (.ref 371), ent P (S 8020589) 667 (.ref 379), ent P (S 1969711725) 677 (.ref 386), ent P (S 435727529576) 688 (.ref 393), ent P (S 435510080610) 698 (.ref 400), ent P (S 2166657694140852363893) 705 (.ref 407), ent P (S 2166657694140852036195) 712 (.ref 414), ent P (S 1890460943890055651939) 720 (.ref 421), ent P (S 32012811197779588502284105076) 728 (.ref 428), ent P (S 2165357850485127146099) 737 (.ref 435), ent P (S 129065384569461) 746 (.ref 442), ent P (S 7453563436348760689) 754 (.ref 449), ent P (S 512162497145278640318820) 762 (.ref 456), ent P (S 512070258358360511768932) 770 (.ref 463), ent P (S 8350047493112005182606836918628) 780 (.ref 470), ent P (S 9446029003694613325605449134053798776826212) 790 (.ref 477), ent P (S 140854816109632365363434125429399349832812124725344) 794 (.ref 478), ent P (S 6944679699547512928) 796 (.ref 481), ent P (S 116512133262362862868258912) 798 (.ref 482), ent P (S 27127582262911072) 799 .none]
noncomputable def o480 (_ : Params) : Obj := ⟨(.type "type"), none, .cls { name := (Str.ofString "House"), bases := [(.type "object")], mro := [(.ref 480), (.type "object")], ns := 479, qualname := (Str.ofString "House"), hasDict := true, slotNames := [], subclasses := [], abstract := false, collection := none, hasDel := false }, #[none, none, (some (.str (S 440040583241) 593)), (some (.str (S 440040583241) 601)), (some (.builtin "object.__new__")), (some (.bool true))]⟩
noncomputable def o481 (_ : Params) : Obj := ⟨(.type "getset_descriptor"), none, .fields ⟨[(.str (S 6944679699547512928) 795), (.ref 480), (.builtin "function.__dict__"), (.builtin "function.__dict__#set")]⟩, #[]⟩
noncomputable def o482 (_ : Params) : Obj := ⟨(.type "getset_descriptor"), none, .fields ⟨[(.str (S 116512133262362862868258912) 797), (.ref 480), (.builtin "ExceptionGroup.__weakref__"), .none]⟩, #[]⟩
noncomputable def o487 (_ : Params) : Obj := tO [(.str (S 8462094853666339174) 809), (.str (S 495640408177) 810), (.str (S 7525350520412074085) 811)]
noncomputable def o490 (_ : Params) : Obj := cO [(.str (S 34807946493563893454802022513) 806), (.str (S 34807946493563893454802022513) 807), (.str (S 9700865007064396754801562313776) 808), (.int (229) 0), (.int (1) 0), (.int (0) 0), (.int (0) 0), (.int (3) 0), (.ref 485), (.bool true), (.int (181) 0), (.ref 486), .none, (.ref 487), (.ref 488), (.ref 489), (.int (812) 0), (.int (229) 0), (.str (S 9700865007064396754801562313776) 813)]
noncomputable def o491 (_ : Params) : Obj := ⟨(.type "function"), none, .func (PySem.W.fnOf (Str.ofString "power_of_two") (Str.ofString "power_of_two") (defArgs (top 30)) (defBody (top 30)) (defScope (top 30)) .none .none .none (.str (S 154722361499902317960303193115794240359) 802) none (.ref 490) .none), #[]⟩
noncomputable def o494 (_ : Params) : Obj := tO [(.str (S 128013219358317) 818), (.str (S 7299687) 819), (.str (S 478526206824) 820)]
noncomputable def o497 (_ : Params) : Obj := cO [(.str (S 2360876520579034574696528942098788) 815), (.str (S 2360876520579034574696528942098788) 816), (.str (S 9700865007064396754801562313776) 817), (.int (234) 0), (.int (3) 0), (.int (0) 0), (.int (0) 0), (.int (3) 0), (.ref 492), (.bool true), (.int (181) 0), (.ref 493), .none, (.ref 494), (.ref 495), (.ref 496), (.int (821) 0), (.int (234) 0), (.str (S 9700865007064396754801562313776) 822)]
noncomputable def o498 (_ : Params) : Obj := ⟨(.type "function"), none, .func (PySem.W.fnOf (Str.ofString "check_measures") (Str.ofString "check_measures") (defArgs (top 31)) (defBody (top 31)) (defScope (top 31)) .none .none .none (.str (S 154722361499902317960303193115794240359) 802) none (.ref 497) .none), #[]⟩
noncomputable def o508 (_ : Params) : Obj := tO [(.str (S 1735222900) 839), (.str (S 128013219358317) 840), (.str (S 7299687) 841), (.str (S 478526206824) 842)]
noncomputable def o511 (_ : Params) : Obj := cO [(.str (S 6944679725401530464) 836), (.str (S 1954753563970360692704735932868948) 837), (.str (S 9700865007064396754801562313776) 838), (.int (243) 0), (.int (4) 0), (.int (0) 0), (.int (0) 0), (.int (3) 0), (.ref 506), (.bool true), (.int (181) 0), (.ref 507), .none, (.ref 508), (.ref 509), (.ref 510), (.int (843) 0), (.int (243) 0), (.str (S 9700865007064396754801562313776) 844)]
noncomputable def o512 (_ : Params) : Obj := ⟨(.type "function"), none, .func (PySem.W.fnOf (Str.ofString "__init__") (Str.ofString "Shape.__init__") (defArgs (inClass (top 32) 0)) (defBody (inClass (top 32) 0)) (defScope (inClass (top 32) 0)) .none .none .none (.str (S 154722361499902317960303193115794240359) 802) none (.ref 511) .none), #[]⟩
noncomputable def o515 (_ : Params) : Obj := tO [(.str (S 1735222900) 849)]
noncomputable def o518 (_ : Params) : Obj := cO [(.str (S 483958001635892750870900) 846), (.str (S 136222067239398530400517607478345754964) 847), (.str (S 9700865007064396754801562313776) 848), (.int (252) 0), (.int (1) 0), (.int (0) 0), (.int (0) 0), (.int (3) 0), (.ref 513), (.bool true), (.int (181) 0), (.ref 514), .none, (.ref 515), (.ref 516), (.ref 517), (.int (850) 0), (.int (252) 0), (.str (S 9700865007064396754801562313776) 851)]
noncomputable def o519 (_ : Params) : Obj := ⟨(.type "function"), none, .func (PySem.W.fnOf (Str.ofString "sheet_size") (Str.ofString "Shape.sheet_size") (defArgs (inClass (top 32) 1)) (defBody (inClass (top 32) 1)) (defScope (inClass (top 32) 1)) .none .none .none (.str (S 154722361499902317960303193115794240359) 802) none (.ref 518) .none), #[]⟩
noncomputable def o522 (_ : Params) : Obj := tO [(.str (S 1735222900) 856)]
noncomputable def o525 (_ : Params) : Obj := cO [(.str (S 554573001519589315076721) 853), (.str (S 156098422687084996958981798045893683540) 854), (.str (S 9700865007064396754801562313776) 855), (.int (255) 0), (.int (1) 0), (.int (0) 0), (.int (0) 0), (.int (3) 0), (.ref 520), (.bool true), (.int (181) 0), (.ref 521), .none, (.ref 522), (.ref 523), (.ref 524), (.int (857) 0), (.int (255) 0), (.str (S 9700865007064396754801562313776) 858)]
noncomputable def o526 (_ : Params) : Obj := ⟨(.type "function"), none, .func (PySem.W.fnOf (Str.ofString "page_count") (Str.ofString "Shape.page_count") (defArgs (inClass (top 32) 2)) (defBody (inClass (top 32) 2)) (defScope (inClass (top 32) 2)) .none .none .none (.str (S 154722361499902317960303193115794240359) 802) none (.ref 525) .none), #[]⟩
noncomputable def o529 (_ : Params) : Obj := tO [(.str (S 1735222900) 863), (.str (S 1718116977) 864)]
noncomputable def o532 (_ : Params) : Obj := cO [(.str (S 7379256228535624297) 860), (.str (S 2077075975069028078541421527853396) 861), (.str (S 9700865007064396754801562313776) 862), (.int (258) 0), (.int (2) 0), (.int (0) 0), (.int (0) 0), (.int (3) 0), (.ref 527), (.bool true), (.int (181) 0), (.ref 528), .none, (.ref 529), (.ref 530), (.ref 531), (.int (865) 0), (.int (258) 0), (.str (S 9700865007064396754801562313776) 866)]
noncomputable def o533 (_ : Params) : Obj := ⟨(.type "function"), none, .func (PySem.W.fnOf (Str.ofString "has_page") (Str.ofString "Shape.has_page") (defArgs (inClass (top 32) 3)) (defBody (inClass (top 32) 3)) (defScope (inClass (top 32) 3)) .none .none .none (.str (S 154722361499902317960303193115794240359) 802) none (.ref 532) .none), #[]⟩
noncomputable def o536 (_ : Params) : Obj := tO [(.str (S 1735222900) 871), (.str (S 1718116977) 872)]
noncomputable def o539 (_ : Params) : Obj := cO [(.str (S 483606936193276347574628) 868), (.str (S 136123251102114162142305122687958280532) 869), (.str (S 9700865007064396754801562313776) 870), (.int (261) 0), (.int (2) 0), (.int (0) 0), (.int (0) 0), (.int (3) 0), (.ref 534), (.bool true), (.int (181) 0), (.ref 535), .none, (.ref 536), (.ref 537), (.ref 538), (.int (873) 0), (.int (261) 0), (.str (S 9700865007064396754801562313776) 874)]
noncomputable def o540 (_ : Params) : Obj := ⟨(.type "function"), none, .func (PySem.W.fnOf (Str.ofString "check_page") (Str.ofString "Shape.check_page") (defArgs (inClass (top 32) 4)) (defBody (inClass (top 32) 4)) (defScope (inClass (top 32) 4)) .none .none .none (.str (S 154722361499902317960303193115794240359) 802) none (.ref 539) .none), #[]⟩
noncomputable def o543 (_ : Params) : Obj := tO [(.str (S 1735222900) 879), (.str (S 32779080669947234) 880)]
noncomputable def o546 (_ : Params) : Obj := cO [(.str (S 140785079470369141693899369) 876), (.str (S 39627476965130008305525577047426929420628) 877), (.str (S 9700865007064396754801562313776) 878), (.int (264) 0), (.int (2) 0), (.int (0) 0), (.int (0) 0), (.int (3) 0), (.ref 541), (.bool true), (.int (181) 0), (.ref 542), .none, (.ref 543), (.ref 544), (.ref 545), (.int (881) 0), (.int (264) 0), (.str (S 9700865007064396754801562313776) 882)]
noncomputable def o547 (_ : Params) : Obj := ⟨(.type "function"), none, .func (PySem.W.fnOf (Str.ofString "has_address") (Str.ofString "Shape.has_address") (defArgs (inClass (top 32) 5)) (defBody (inClass (top 32) 5)) (defScope (inClass (top 32) 5)) .none .none .none (.str (S 154722361499902317960303193115794240359) 802) none (.ref 546) .none), #[]⟩
noncomputable def o550 (_ : Params) : Obj := tO [(.str (S 1735222900) 887), (.str (S 32779080669947234) 888)]
noncomputable def o553 (_ : Params) : Obj := cO [(.str (S 111490731565681) 884), (.str (S 31381851070904111347232041300) 885), (.str (S 9700865007064396754801562313776) 886), (.int (267) 0), (.int (2) 0), (.int (0) 0), (.int (0) 0), (.int (3) 0), (.ref 548), (.bool true), (.int (181) 0), (.ref 549), .none, (.ref 550), (.ref 551), (.ref 552), (.int (889) 0), (.int (267) 0), (.str (S 9700865007064396754801562313776) 890)]
noncomputable def o554 (_ : Params) : Obj := ⟨(.type "function"), none, .func (PySem.W.fnOf (Str.ofString "parted") (Str.ofString "Shape.parted") (defArgs (inClass (top 32) 6)) (defBody (inClass (top 32) 6)) (defScope (inClass (top 32) 6)) .none .none .none (.str (S 154722361499902317960303193115794240359) 802) none (.ref 553) .none), #[]⟩
noncomputable def o557 (_ : Params) : Obj := tO [(.str (S 1735222900) 895), (.str (S 1718116977) 896), (.str (S 7958627) 897)]
noncomputable def o560 (_ : Params) : Obj := cO [(.str (S 32779080669947234) 892), (.str (S 9226490968170112016115440970068) 893), (.str (S 9700865007064396754801562313776) 894), (.int (270) 0), (.int (3) 0), (.int (0) 0), (.int (0) 0), (.int (3) 0), (.ref 555), (.bool true), (.int (181) 0), (.ref 556), .none, (.ref 557), (.ref 558), (.ref 559), (.int (898) 0), (.int (270) 0), (.str (S 9700865007064396754801562313776) 899)]
noncomputable def o561 (_ : Params) : Obj := ⟨(.type "function"), none, .func (PySem.W.fnOf (Str.ofString "address") (Str.ofString "Shape.address") (defArgs (inClass (top 32) 7)) (defBody (inClass (top 32) 7)) (defScope (inClass (top 32) 7)) .none .none .none (.str (S 154722361499902317960303193115794240359) 802) none (.ref 560) .none), #[]⟩
noncomputable def o564 (_ : Params) : Obj := tO [(.str (S 1735222900) 904), (.str (S 1718116977) 905)]
noncomputable def o567 (_ : Params) : Obj := cO [(.str (S 500118746484) 901), (.str (S 140770912519198489320778068) 902), (.str (S 9700865007064396754801562313776) 903), (.int (273) 0), (.int (2) 0), (.int (0) 0), (.int (0) 0), (.int (3) 0), (.ref 562), (.bool true), (.int (181) 0), (.ref 563), .none, (.ref 564), (.ref 565), (.ref 566), (.int (906) 0), (.int (273) 0), (.str (S 9700865007064396754801562313776) 907)]
noncomputable def o568 (_ : Params) : Obj := ⟨(.type "function"), none, .func (PySem.W.fnOf (Str.ofString "steps") (Str.ofString "Shape.steps") (defArgs (inClass (top 32) 8)) (defBody (inClass (top 32) 8)) (defScope (inClass (top 32) 8)) .none .none .none (.str (S 154722361499902317960303193115794240359) 802) none (.ref 567) .none), #[]⟩
noncomputable def o571 (_ : Params) : Obj := tO [(.str (S 1735222900) 912), (.str (S 500118746484) 913)]
noncomputable def o574 (_ : Params) : Obj := cO [(.str (S 29115481938485873) 909), (.str (S 8195279600554836563607700007252) 910), (.str (S 9700865007064396754801562313776) 911), (.int (276) 0), (.int (2) 0), (.int (0) 0), (.int (0) 0), (.int (3) 0), (.ref 569), (.bool true), (.int (181) 0), (.ref 570), .none, (.ref 571), (.ref 572), (.ref 573), (.int (914) 0), (.int (276) 0), (.str (S 9700865007064396754801562313776) 915)]
noncomputable def o575 (_ : Params) : Obj := ⟨(.type "function"), none, .func (PySem.W.fnOf (Str.ofString "page_of") (Str.ofString "Shape.page_of") (defArgs (inClass (top 32) 9)) (defBody (inClass (top 32) 9)) (defScope (inClass (top 32) 9)) .none .none .none (.str (S 154722361499902317960303193115794240359) 802) none (.ref 574) .none), #[]⟩
noncomputable def o578 (_ : Params) : Obj := tO [(.str (S 1735222900) 920), (.str (S 504464894567) 921), (.str (S 2054120046) 922)]
noncomputable def o581 (_ : Params) : Obj := cO [(.str (S 1953852007) 917), (.str (S 549960448218510519331156) 918), (.str (S 9700865007064396754801562313776) 919), (.int (279) 0), (.int (3) 0), (.int (0) 0), (.int (0) 0), (.int (3) 0), (.ref 576), (.bool true), (.int (181) 0), (.ref 577), .none, (.ref 578), (.ref 579), (.ref 580), (.int (923) 0), (.int (279) 0), (.str (S 9700865007064396754801562313776) 924)]
noncomputable def o582 (_ : Params) : Obj := ⟨(.type "function"), none, .func (PySem.W.fnOf (Str.ofString "fits") (Str.ofString "Shape.fits") (defArgs (inClass (top 32) 10)) (defBody (inClass (top 32) 10)) (defScope (inClass (top 32) 10)) .none .none .none (.str (S 154722361499902317960303193115794240359) 802) none (.ref 581) .none), #[]⟩
noncomputable def o583 (_ : Params) : Obj := ⟨(.type "tuple"), none, .seq #[(.str (Str.ofString "boxes") 926), (.str (Str.ofString "fan") 927), (.str (Str.ofString "grain") 928), (.str (Str.ofString "levels") 929), (.str (Str.ofString "pages") 930), (.str (Str.ofString "ways") 931)] 0, #[]⟩
noncomputable def o584 (P : Params) : Obj := dO 4 [ent P (S 455125450472104437637216) 831 (.str (S 154722361499902317960303193115794240359) 802), ent P (S 500416517772168279997240570217455712) 835 (.int (241) 834), ent P (S 6944679725401530464) 845 (.ref 512), ent P (S 483958001635892750870900) 852 (.ref 519), ent P (S 554573001519589315076721) 859 (.ref 526), ent P (S 7379256228535624297) 867 (.ref 533), ent P (S 483606936193276347574628) 875 (.ref 540), ent P (S 140785079470369141693899369) 883 (.ref 547), ent P (S 111490731565681) 891 (.ref 554), ent P (S 32779080669947234) 900 (.ref 561), ent P (S 500118746484) 908 (.ref 568), ent P (S 29115481938485873) 916 (.ref 575), ent P (S 1953852007) 925 (.ref 582), ent P (S 140854816109632365363434125429399349832812124725344) 932 (.ref 583), ent P (S 6944679699547512928) 934 (.ref 586), ent P (S 116512133262362862868258912) 936 (.ref 587), ent P (S 27127582262911072) 937 .none]
noncomputable def o585 (_ : Params) : Obj := ⟨(.type "type"), none, .cls { name := (Str.ofString "Shape"), bases := [(.type "object")], mro := [(.ref 585), (.type "object")], ns := 584, qualname := (Str.ofString "Shape"), hasDict := true, slotNames := [], subclasses := [], abstract := false, collection := none, hasDel := false }, #[none, none, (some (.str (S 439988939092) 824)), (some (.str (S 439988939092) 832)), (some (.builtin "object.__new__")), (some (.bool true))]⟩
noncomputable def o586 (_ : Params) : Obj := ⟨(.type "getset_descriptor"), none, .fields ⟨[(.str (S 6944679699547512928) 933), (.ref 585), (.builtin "function.__dict__"), (.builtin "function.__dict__#set")]⟩, #[]⟩
noncomputable def o587 (_ : Params) : Obj := ⟨(.type "getset_descriptor"), none, .fields ⟨[(.str (S 116512133262362862868258912) 935), (.ref 585), (.builtin "ExceptionGroup.__weakref__"), .none]⟩, #[]⟩
noncomputable def o592 (_ : Params) : Obj := tO [(.str (S 141979911977246466280418656) 945), (.str (S 119161592376672) 946)]
noncomputable def o595 (_ : Params) : Obj := cO [(.str (S 36328676245180164783460216160) 942), (.str (S 36328676245180164783460216160) 943), (.str (S 9700865007064396754801562313776) 944), (.int (282) 0), (.int (2) 0), (.int (0) 0), (.int (0) 0), (.int (3) 0), (.ref 590), (.bool true), (.int (181) 0), (.ref 591), .none, (.ref 592), (.ref 593), (.ref 594), (.int (947) 0), (.int (282) 0), (.str (S 9700865007064396754801562313776) 948)]
noncomputable def o596 (_ : Params) : Obj := ⟨(.type "function"), none, .func (PySem.W.fnOf (Str.ofString "_law_cell_at") (Str.ofString "_law_cell_at") (defArgs (top 34)) (defBody (top 34)) (defScope (top 34)) .none .none .none (.str (S 12260833444315902761717942793166742610478658344058753906839914046061) 940) none (.ref 595) .none), #[]⟩
noncomputable def o599 (_ : Params) : Obj := tO [(.str (S 483829738002411044367712) 953), (.str (S 2000274446712546946400) 954), (.str (S 1871439432312149929312) 955), (.str (S 479015137796973828140384) 956), (.str (S 102) 957)]
noncomputable def o602 (_ : Params) : Obj := cO [(.str (S 2092585011948759969120) 950), (.str (S 2092585011948759969120) 951), (.str (S 9700865007064396754801562313776) 952), (.int (286) 0), (.int (2) 0), (.int (0) 0), (.int (0) 0), (.int (3) 0), (.ref 597), (.bool true), (.int (181) 0), (.ref 598), .none, (.ref 599), (.ref 600), (.ref 601), (.int (958) 0), (.int (286) 0), (.str (S 9700865007064396754801562313776) 959)]
noncomputable def o603 (_ : Params) : Obj := ⟨(.type "function"), none, .func (PySem.W.fnOf (Str.ofString "_law_drop") (Str.ofString "_law_drop") (defArgs (top 35)) (defBody (top 35)) (defScope (top 35)) .none .none .none (.str (S 12260833444315902761717942793166742610478658344058753906839914046061) 940) none (.ref 602) .none), #[]⟩
noncomputable def o606 (_ : Params) : Obj := tO [(.str (S 549831755963574708759904) 964), (.str (S 2000274446712546946400) 965), (.str (S 1889596246164731227488) 966), (.str (S 7381241873922420064) 967)]
noncomputable def o609 (_ : Params) : Obj := cO [(.str (S 1870500991441261718880) 961), (.str (S 1870500991441261718880) 962), (.str (S 9700865007064396754801562313776) 963), (.int (298) 0), (.int (2) 0), (.int (0) 0), (.int (0) 0), (.int (3) 0), (.ref 604), (.bool true), (.int (181) 0), (.ref 605), .none, (.ref 606), (.ref 607), (.ref 608), (.int (968) 0), (.int (298) 0), (.str (S 9700865007064396754801562313776) 969)]
noncomputable def o610 (_ : Params) : Obj := ⟨(.type "function"), none, .func (PySem.W.fnOf (Str.ofString "_law_tied") (Str.ofString "_law_tied") (defArgs (top 36)) (defBody (top 36)) (defScope (top 36)) .none .none .none (.str (S 12260833444315902761717942793166742610478658344058753906839914046061) 940) none (.ref 609) .none), #[]⟩
noncomputable def o613 (_ : Params) : Obj := tO [(.str (S 483829738002411044367712) 974), (.str (S 549831755963574708759904) 975), (.str (S 549794786459591391735136) 976), (.str (S 2000274446712546946400) 977), (.str (S 7383200104131489120) 978)]
noncomputable def o616 (_ : Params) : Obj := cO [(.str (S 478848397644772411600224) 971), (.str (S 478848397644772411600224) 972), (.str (S 9700865007064396754801562313776) 973), (.int (304) 0), (.int (3) 0), (.int (0) 0), (.int (0) 0), (.int (3) 0), (.ref 611), (.bool true), (.int (181) 0), (.ref 612), .none, (.ref 613), (.ref 614), (.ref 615), (.int (979) 0), (.int (304) 0), (.str (S 9700865007064396754801562313776) 980)]
noncomputable def o617 (_ : Params) : Obj := ⟨(.type "function"), none, .func (PySem.W.fnOf (Str.ofString "_law_asked") (Str.ofString "_law_asked") (defArgs (top 37)) (defBody (top 37)) (defScope (top 37)) .none .none .none (.str (S 12260833444315902761717942793166742610478658344058753906839914046061) 940) none (.ref 616) .none), #[]⟩
noncomputable def o620 (_ : Params) : Obj := tO [(.str (S 483829738002411044367712) 985), (.str (S 549684972956769100918112) 986), (.str (S 549813090215476443901280) 987), (.str (S 7451047668146662752) 988), (.str (S 549831755963574708759904) 989), (.str (S 33040738751245664) 990), (.str (S 2018578202597599112544) 991), (.str (S 2000274446712546946400) 992), (.str (S 2258528875839108574560) 993), (.str (S 2000634754473945886048) 994), (.str (S 1889089594505186930016) 995)]
noncomputable def o623 (_ : Params) : Obj := cO [(.str (S 8669722510073630960553860164960) 982), (.str (S 8669722510073630960553860164960) 983), (.str (S 9700865007064396754801562313776) 984), (.int (316) 0), (.int (4) 0), (.int (0) 0), (.int (0) 0), (.int (3) 0), (.ref 618), (.bool true), (.int (181) 0), (.ref 619), .none, (.ref 620), (.ref 621), (.ref 622), (.int (996) 0), (.int (316) 0), (.str (S 9700865007064396754801562313776) 997)]
noncomputable def o624 (_ : Params) : Obj := ⟨(.type "function"), none, .func (PySem.W.fnOf (Str.ofString "_law_laid_all") (Str.ofString "_law_laid_all") (defArgs (top 38)) (defBody (top 38)) (defScope (top 38)) .none .none .none (.str (S 12260833444315902761717942793166742610478658344058753906839914046061) 940) none (.ref 623) .none), #[]⟩
noncomputable def o628 (_ : Params) : Obj := cO [(.str (S 7889517) 999), (.str (S 7889517) 1000), (.str (S 9700865007064396754801562313776) 1001), (.int (328) 0), (.int (1) 0), (.int (0) 0), (.int (0) 0), (.int (3) 0), (.ref 625), (.bool true), (.int (181) 0), (.ref 626), .none, .none, .none, (.ref 627), (.int (1002) 0), (.int (328) 0), (.str (S 9700865007064396754801562313776) 1003)]
noncomputable def o629 (_ : Params) : Obj := ⟨(.type "function"), none, .func (PySem.W.fnOf (Str.ofString "law") (Str.ofString "law") (defArgs (top 39)) (defBody (top 39)) (defScope (top 39)) .none .none .none (.str (S 12260833444315902761717942793166742610478658344058753906839914046061) 940) none (.ref 628) .none), #[]⟩
noncomputable def Kf : Params → PySem.W.Frag := fun P => (nat_lit 2, o2 P) :: (nat_lit 3, o3 P) :: (nat_lit 15, o15 P) :: (nat_lit 17, o17 P) :: (nat_lit 18, o15 P) :: (nat_lit 20, o20 P) :: (nat_lit 21, o21 P) :: (nat_lit 22, o22 P) :: (nat_lit 29, o29 P) :: (nat_lit 30, o30 P) :: (nat_lit 31, o31 P) :: (nat_lit 32, o32 P) :: (nat_lit 35, o35 P) :: (nat_lit 42, o29 P) :: (nat_lit 43, o43 P) :: (nat_lit 44, o44 P) :: (nat_lit 47, o35 P) :: (nat_lit 54, o29 P) :: (nat_lit 55, o55 P) :: (nat_lit 56, o56 P) :: (nat_lit 59, o35 P) :: (nat_lit 66, o29 P) :: (nat_lit 67, o67 P) :: (nat_lit 68, o68 P) :: (nat_lit 71, o35 P) :: (nat_lit 78, o29 P) :: (nat_lit 79, o79 P) :: (nat_lit 80, o80 P) :: (nat_lit 83, o35 P) :: (nat_lit 90, o29 P) :: (nat_lit 91, o91 P) :: (nat_lit 92, o92 P) :: (nat_lit 95, o35 P) :: (nat_lit 102, o29 P) :: (nat_lit 103, o103 P) :: (nat_lit 104, o104 P) :: (nat_lit 107, o35 P) :: (nat_lit 114, o29 P) :: (nat_lit 115, o115 P) :: (nat_lit 116, o116 P) :: (nat_lit 119, o35 P) :: (nat_lit 126, o29 P) :: (nat_lit 127, o127 P) :: (nat_lit 128, o128 P) :: (nat_lit 131, o35 P) :: (nat_lit 138, o29 P) :: (nat_lit 139, o139 P) :: (nat_lit 140, o140 P) :: (nat_lit 143, o15 P) :: (nat_lit 145, o145 P) :: (nat_lit 146, o15 P) :: (nat_lit 148, o148 P) :: (nat_lit 149, o149 P) :: (nat_lit 150, o15 P) :: (nat_lit 152, o152 P) :: (nat_lit 153, o15 P) :: (nat_lit 155, o155 P) :: (nat_lit 156, o156 P) :: (nat_lit 157, o15 P) :: (nat_lit 159, o159 P) :: (nat_lit 160, o15 P) :: (nat_lit 162, o162 P) :: (nat_lit 163, o163 P) :: (nat_lit 164, o15 P) :: (nat_lit 166, o166 P) :: (nat_lit 167, o15 P) :: (nat_lit 169, o169 P) :: (nat_lit 170, o170 P) :: (nat_lit 171, o15 P) :: (nat_lit 173, o173 P) :: (nat_lit 174, o15 P) :: (nat_lit 176, o176 P) :: (nat_lit 177, o177 P) :: (nat_lit 178, o15 P) :: (nat_lit 180, o180 P) :: (nat_lit 181, o15 P) :: (nat_lit 183, o183 P) :: (nat_lit 184, o184 P) :: (nat_lit 185, o15 P) :: (nat_lit 187, o187 P) :: (nat_lit 188, o15 P) :: (nat_lit 190, o190 P) :: (nat_lit 191, o191 P) :: (nat_lit 192, o15 P) :: (nat_lit 194, o194 P) :: (nat_lit 195, o15 P) :: (nat_lit 197, o197 P) :: (nat_lit 198, o198 P) :: (nat_lit 206, o15 P) :: (nat_lit 208, o208 P) :: (nat_lit 209, o15 P) :: (nat_lit 211, o211 P) :: (nat_lit 212, o212 P) :: (nat_lit 213, o213 P) :: (nat_lit 214, o15 P) :: (nat_lit 216, o216 P) :: (nat_lit 217, o15 P) :: (nat_lit 219, o219 P) :: (nat_lit 220, o220 P) :: (nat_lit 221, o15 P) :: (nat_lit 223, o223 P) :: (nat_lit 224, o15 P) :: (nat_lit 226, o226 P) :: (nat_lit 227, o227 P) :: (nat_lit 228, o15 P) :: (nat_lit 230, o230 P) :: (nat_lit 231, o15 P) :: (nat_lit 233, o233 P) :: (nat_lit 234, o234 P) :: (nat_lit 235, o15 P) :: (nat_lit 237, o237 P) :: (nat_lit 238, o15 P) :: (nat_lit 240, o240 P) :: (nat_lit 241, o241 P) :: (nat_lit 242, o15 P) :: (nat_lit 244, o244 P) :: (nat_lit 245, o15 P) :: (nat_lit 247, o247 P) :: (nat_lit 248, o248 P) :: (nat_lit 249, o15 P) :: (nat_lit 251, o251 P) :: (nat_lit 252, o15 P) :: (nat_lit 254, o254 P) :: (nat_lit 255, o255 P) :: (nat_lit 256, o15 P) :: (nat_lit 258, o258 P) :: (nat_lit 259, o15 P) :: (nat_lit 261, o261 P) :: (nat_lit 262, o262 P) :: (nat_lit 263, o15 P) :: (nat_lit 266, o266 P) :: (nat_lit 267, o267 P) :: (nat_lit 268, o15 P) :: (nat_lit 271, o271 P) :: (nat_lit 272, o272 P) :: (nat_lit 273, o15 P) :: (nat_lit 275, o275 P) :: (nat_lit 276, o15 P) :: (nat_lit 278, o278 P) :: (nat_lit 279, o279 P) :: (nat_lit 280, o15 P) :: (nat_lit 282, o282 P) :: (nat_lit 283, o15 P) :: (nat_lit 285, o285 P) :: (nat_lit 286, o286 P) :: (nat_lit 287, o15 P) :: (nat_lit 289, o289 P) :: (nat_lit 290, o15 P) :: (nat_lit 292, o292 P) :: (nat_lit 293, o293 P) :: (nat_lit 294, o15 P) :: (nat_lit 297, o297 P) :: (nat_lit 298, o298 P) :: (nat_lit 299, o15 P) :: (nat_lit 301, o301 P) :: (nat_lit 302, o15 P) :: (nat_lit 304, o304 P) :: (nat_lit 305, o305 P) :: (nat_lit 306, o15 P) :: (nat_lit 309, o309 P) :: (nat_lit 310, o310 P) :: (nat_lit 311, o311 P) :: (nat_lit 312, o312 P) :: (nat_lit 313, o313 P) :: (nat_lit 314, o314 P) :: (nat_lit 315, o315 P) :: (nat_lit 318, o15 P) :: (nat_lit 320, o320 P) :: (nat_lit 321, o15 P) :: (nat_lit 323, o323 P) :: (nat_lit 324, o324 P) :: (nat_lit 332, o15 P) :: (nat_lit 334, o334 P) :: (nat_lit 335, o15 P) :: (nat_lit 337, o337 P) :: (nat_lit 338, o338 P) :: (nat_lit 339, o15 P) :: (nat_lit 341, o341 P) :: (nat_lit 342, o15 P) :: (nat_lit 344, o344 P) :: (nat_lit 345, o345 P) :: (nat_lit 346, o15 P) :: (nat_lit 348, o348 P) :: (nat_lit 349, o15 P) :: (nat_lit 351, o351 P) :: (nat_lit 352, o352 P) :: (nat_lit 353, o15 P) :: (nat_lit 355, o355 P) :: (nat_lit 356, o15 P) :: (nat_lit 358, o358 P) :: (nat_lit 359, o359 P) :: (nat_lit 360, o15 P) :: (nat_lit 362, o362 P) :: (nat_lit 363, o15 P) :: (nat_lit 365, o365 P) :: (nat_lit 366, o366 P) :: (nat_lit 367, o15 P) :: (nat_lit 370, o370 P) :: (nat_lit 371, o371 P) :: (nat_lit 372, o372 P) :: (nat_lit 373, o15 P) :: (nat_lit 375, o375 P) :: (nat_lit 376, o15 P) :: (nat_lit 378, o378 P) :: (nat_lit 379, o379 P) :: (nat_lit 380, o15 P) :: (nat_lit 382, o382 P) :: (nat_lit 383, o15 P) :: (nat_lit 385, o385 P) :: (nat_lit 386, o386 P) :: (nat_lit 387, o15 P) :: (nat_lit 389, o389 P) :: (nat_lit 390, o15 P) :: (nat_lit 392, o392 P) :: (nat_lit 393, o393 P) :: (nat_lit 394, o15 P) :: (nat_lit 396, o396 P) :: (nat_lit 397, o15 P) :: (nat_lit 399, o399 P) :: (nat_lit 400, o400 P) :: (nat_lit 401, o15 P) :: (nat_lit 403, o403 P) :: (nat_lit 404, o15 P) :: (nat_lit 406, o406 P) :: (nat_lit 407, o407 P) :: (nat_lit 408, o15 P) :: (nat_lit 410, o410 P) :: (nat_lit 411, o15 P) :: (nat_lit 413, o413 P) :: (nat_lit 414, o414 P) :: (nat_lit 415, o15 P) :: (nat_lit 417, o417 P) :: (nat_lit 418, o15 P) :: (nat_lit 420, o420 P) :: (nat_lit 421, o421 P) :: (nat_lit 422, o15 P) :: (nat_lit 424, o424 P) :: (nat_lit 425, o15 P) :: (nat_lit 427, o427 P) :: (nat_lit 428, o428 P) :: (nat_lit 429, o15 P) :: (nat_lit 431, o431 P) :: (nat_lit 432, o15 P) :: (nat_lit 434, o434 P) :: (nat_lit 435, o435 P) :: (nat_lit 436, o15 P) :: (nat_lit 438, o438 P) :: (nat_lit 439, o15 P) :: (nat_lit 441, o441 P) :: (nat_lit 442, o442 P) :: (nat_lit 443, o15 P) :: (nat_lit 445, o445 P) :: (nat_lit 446, o15 P) :: (nat_lit 448, o448 P) :: (nat_lit 449, o449 P) :: (nat_lit 450, o15 P) :: (nat_lit 452, o452 P) :: (nat_lit 453, o15 P) :: (nat_lit 455, o455 P) :: (nat_lit 456, o456 P) :: (nat_lit 457, o15 P) :: (nat_lit 459, o459 P) :: (nat_lit 460, o15 P) :: (nat_lit 462, o462 P) :: (nat_lit 463, o463 P) :: (nat_lit 464, o15 P) :: (nat_lit 466, o466 P) :: (nat_lit 467, o15 P) :: (nat_lit 469, o469 P) :: (nat_lit 470, o470 P) :: (nat_lit 471, o15 P) :: (nat_lit 473, o473 P) :: (nat_lit 474, o15 P) :: (nat_lit 476, o476 P) :: (nat_lit 477, o477 P) :: (nat_lit 478, o478 P) :: (nat_lit 479, o479 P) :: (nat_lit 480, o480 P) :: (nat_lit 481, o481 P) :: (nat_lit 482, o482 P) :: (nat_lit 485, o15 P) :: (nat_lit 487, o487 P) :: (nat_lit 488, o15 P) :: (nat_lit 490, o490 P) :: (nat_lit 491, o491 P) :: (nat_lit 492, o15 P) :: (nat_lit 494, o494 P) :: (nat_lit 495, o15 P) :: (nat_lit 497, o497 P) :: (nat_lit 498, o498 P) :: (nat_lit 506, o15 P) :: (nat_lit 508, o508 P) :: (nat_lit 509, o15 P) :: (nat_lit 511, o511 P) :: (nat_lit 512, o512 P) :: (nat_lit 513, o15 P) :: (nat_lit 515, o515 P) :: (nat_lit 516, o15 P) :: (nat_lit 518, o518 P) :: (nat_lit 519, o519 P) :: (nat_lit 520, o15 P) :: (nat_lit 522, o522 P) :: (nat_lit 523, o15 P) :: (nat_lit 525, o525 P) :: (nat_lit 526, o526 P) :: (nat_lit 527, o15 P) :: (nat_lit 529, o529 P) :: (nat_lit 530, o15 P) :: (nat_lit 532, o532 P) :: (nat_lit 533, o533 P) :: (nat_lit 534, o15 P) :: (nat_lit 536, o536 P) :: (nat_lit 537, o15 P) :: (nat_lit 539, o539 P) :: (nat_lit 540, o540 P) :: (nat_lit 541, o15 P) :: (nat_lit 543, o543 P) :: (nat_lit 544, o15 P) :: (nat_lit 546, o546 P) :: (nat_lit 547, o547 P) :: (nat_lit 548, o15 P) :: (nat_lit 550, o550 P) :: (nat_lit 551, o15 P) :: (nat_lit 553, o553 P) :: (nat_lit 554, o554 P) :: (nat_lit 555, o15 P) :: (nat_lit 557, o557 P) :: (nat_lit 558, o15 P) :: (nat_lit 560, o560 P) :: (nat_lit 561, o561 P) :: (nat_lit 562, o15 P) :: (nat_lit 564, o564 P) :: (nat_lit 565, o15 P) :: (nat_lit 567, o567 P) :: (nat_lit 568, o568 P) :: (nat_lit 569, o15 P) :: (nat_lit 571, o571 P) :: (nat_lit 572, o15 P) :: (nat_lit 574, o574 P) :: (nat_lit 575, o575 P) :: (nat_lit 576, o15 P) :: (nat_lit 578, o578 P) :: (nat_lit 579, o15 P) :: (nat_lit 581, o581 P) :: (nat_lit 582, o582 P) :: (nat_lit 583, o583 P) :: (nat_lit 584, o584 P) :: (nat_lit 585, o585 P) :: (nat_lit 586, o586 P) :: (nat_lit 587, o587 P) :: (nat_lit 590, o15 P) :: (nat_lit 592, o592 P) :: (nat_lit 593, o15 P) :: (nat_lit 595, o595 P) :: (nat_lit 596, o596 P) :: (nat_lit 597, o15 P) :: (nat_lit 599, o599 P) :: (nat_lit 600, o15 P) :: (nat_lit 602, o602 P) :: (nat_lit 603, o603 P) :: (nat_lit 604, o15 P) :: (nat_lit 606, o606 P) :: (nat_lit 607, o15 P) :: (nat_lit 609, o609 P) :: (nat_lit 610, o610 P) :: (nat_lit 611, o15 P) :: (nat_lit 613, o613 P) :: (nat_lit 614, o15 P) :: (nat_lit 616, o616 P) :: (nat_lit 617, o617 P) :: (nat_lit 618, o15 P) :: (nat_lit 620, o620 P) :: (nat_lit 621, o15 P) :: (nat_lit 623, o623 P) :: (nat_lit 624, o624 P) :: (nat_lit 625, o15 P) :: (nat_lit 628, o628 P) :: (nat_lit 629, o629 P) :: []
noncomputable def Kc0 (P : Params) : List (Option Obj) := [some (o2 P), some (o3 P), some (o15 P), some (o17 P), some (o15 P), some (o20 P), some (o21 P), some (o22 P), some (o29 P), some (o30 P), some (o31 P), some (o32 P), some (o35 P), some (o29 P)]
noncomputable def Kc1 (P : Params) : List (Option Obj) := [some (o43 P), some (o44 P), some (o35 P), some (o29 P), some (o55 P), some (o56 P), some (o35 P), some (o29 P), some (o67 P), some (o68 P), some (o35 P), some (o29 P), some (o79 P), some (o80 P)]
noncomputable def Kc2 (P : Params) : List (Option Obj) := [some (o35 P), some (o29 P), some (o91 P), some (o92 P), some (o35 P), some (o29 P), some (o103 P), some (o104 P), some (o35 P), some (o29 P), some (o115 P), some (o116 P), some (o35 P), some (o29 P)]
noncomputable def Kc3 (P : Params) : List (Option Obj) := [some (o127 P), some (o128 P), some (o35 P), some (o29 P), some (o139 P), some (o140 P), some (o15 P), some (o145 P), some (o15 P), some (o148 P), some (o149 P), some (o15 P), some (o152 P), some (o15 P)]
noncomputable def Kc4 (P : Params) : List (Option Obj) := [some (o155 P), some (o156 P), some (o15 P), some (o159 P), some (o15 P), some (o162 P), some (o163 P), some (o15 P), some (o166 P), some (o15 P), some (o169 P), some (o170 P), some (o15 P), some (o173 P)]
noncomputable def Kc5 (P : Params) : List (Option Obj) := [some (o15 P), some (o176 P), some (o177 P), some (o15 P), some (o180 P), some (o15 P), some (o183 P), some (o184 P), some (o15 P), some (o187 P), some (o15 P), some (o190 P), some (o191 P), some (o15 P)]
noncomputable def Kc6 (P : Params) : List (Option Obj) := [some (o194 P), some (o15 P), some (o197 P), some (o198 P), some (o15 P), some (o208 P), some (o15 P), some (o211 P), some (o212 P), some (o213 P), some (o15 P), some (o216 P), some (o15 P), some (o219 P)]
noncomputable def Kc7 (P : Params) : List (Option Obj) := [some (o220 P), some (o15 P), some (o223 P), some (o15 P), some (o226 P), some (o227 P), some (o15 P), some (o230 P), some (o15 P), some (o233 P), some (o234 P), some (o15 P), some (o237 P), some (o15 P)]
noncomputable def Kc8 (P : Params) : List (Option Obj) := [some (o240 P), some (o241 P), some (o15 P), some (o244 P), some (o15 P), some (o247 P), some (o248 P), some (o15 P), some (o251 P), some (o15 P), some (o254 P), some (o255 P), some (o15 P), some (o258 P)]
noncomputable def Kc9 (P : Params) : List (Option Obj) := [some (o15 P), some (o261 P), some (o262 P), some (o15 P), some (o266 P), some (o267 P), some (o15 P), some (o271 P), some (o272 P), some (o15 P), some (o275 P), some (o15 P), some (o278 P), some (o279 P)]
noncomputable def Kc10 (P : Params) : List (Option Obj) := [some (o15 P), some (o282 P), some (o15 P), some (o285 P), some (o286 P), some (o15 P), some (o289 P), some (o15 P), some (o292 P), some (o293 P), some (o15 P), some (o297 P), some (o298 P), some (o15 P)]
noncomputable def Kc11 (P : Params) : List (Option Obj) := [some (o301 P), some (o15 P), some (o304 P), some (o305 P), some (o15 P), some (o309 P), some (o310 P), some (o311 P), some (o312 P), some (o313 P), some (o314 P), some (o315 P), some (o15 P), some (o320 P)]
noncomputable def Kc12 (P : Params) : List (Option Obj) := [some (o15 P), some (o323 P), some (o324 P), some (o15 P), some (o334 P), some (o15 P), some (o337 P), some (o338 P), some (o15 P), some (o341 P), some (o15 P), some (o344 P), some (o345 P), some (o15 P)]
noncomputable def Kc13 (P : Params) : List (Option Obj) := [some (o348 P), some (o15 P), some (o351 P), some (o352 P), some (o15 P), some (o355 P), some (o15 P), some (o358 P), some (o359 P), some (o15 P), some (o362 P), some (o15 P), some (o365 P), some (o366 P)]
noncomputable def Kc14 (P : Params) : List (Option Obj) := [some (o15 P), some (o370 P), some (o371 P), some (o372 P), some (o15 P), some (o375 P), some (o15 P), some (o378 P), some (o379 P), some (o15 P), some (o382 P), some (o15 P), some (o385 P), some (o386 P)]
noncomputable def Kc15 (P : Params) : List (Option Obj) := [some (o15 P), some (o389 P), some (o15 P), some (o392 P), some (o393 P), some (o15 P), some (o396 P), some (o15 P), some (o399 P), some (o400 P), some (o15 P), some (o403 P), some (o15 P), some (o406 P)]
noncomputable def Kc16 (P : Params) : List (Option Obj) := [some (o407 P), some (o15 P), some (o410 P), some (o15 P), some (o413 P), some (o414 P), some (o15 P), some (o417 P), some (o15 P), some (o420 P), some (o421 P), some (o15 P), some (o424 P), some (o15 P)]
noncomputable def Kc17 (P : Params) : List (Option Obj) := [some (o427 P), some (o428 P), some (o15 P), some (o431 P), some (o15 P), some (o434 P), some (o435 P), some (o15 P), some (o438 P), some (o15 P), some (o441 P), some (o442 P), some (o15 P), some (o445 P)]
noncomputable def Kc18 (P : Params) : List (Option Obj) := [some (o15 P), some (o448 P), some (o449 P), some (o15 P), some (o452 P), some (o15 P), some (o455 P), some (o456 P), some (o15 P), some (o459 P), some (o15 P), some (o462 P), some (o463 P), some (o15 P)]
noncomputable def Kc19 (P : Params) : List (Option Obj) := [some (o466 P), some (o15 P), some (o469 P), some (o470 P), some (o15 P), some (o473 P), some (o15 P), some (o476 P), some (o477 P), some (o478 P), some (o479 P), some (o480 P), some (o481 P), some (o482 P)]
noncomputable def Kc20 (P : Params) : List (Option Obj) := [some (o15 P), some (o487 P), some (o15 P), some (o490 P), some (o491 P), some (o15 P), some (o494 P), some (o15 P), some (o497 P), some (o498 P), some (o15 P), some (o508 P), some (o15 P), some (o511 P)]
noncomputable def Kc21 (P : Params) : List (Option Obj) := [some (o512 P), some (o15 P), some (o515 P), some (o15 P), some (o518 P), some (o519 P), some (o15 P), some (o522 P), some (o15 P), some (o525 P), some (o526 P), some (o15 P), some (o529 P), some (o15 P)]
noncomputable def Kc22 (P : Params) : List (Option Obj) := [some (o532 P), some (o533 P), some (o15 P), some (o536 P), some (o15 P), some (o539 P), some (o540 P), some (o15 P), some (o543 P), some (o15 P), some (o546 P), some (o547 P), some (o15 P), some (o550 P)]
noncomputable def Kc23 (P : Params) : List (Option Obj) := [some (o15 P), some (o553 P), some (o554 P), some (o15 P), some (o557 P), some (o15 P), some (o560 P), some (o561 P), some (o15 P), some (o564 P), some (o15 P), some (o567 P), some (o568 P), some (o15 P)]
noncomputable def Kc24 (P : Params) : List (Option Obj) := [some (o571 P), some (o15 P), some (o574 P), some (o575 P), some (o15 P), some (o578 P), some (o15 P), some (o581 P), some (o582 P), some (o583 P), some (o584 P), some (o585 P), some (o586 P), some (o587 P)]
noncomputable def Kc25 (P : Params) : List (Option Obj) := [some (o15 P), some (o592 P), some (o15 P), some (o595 P), some (o596 P), some (o15 P), some (o599 P), some (o15 P), some (o602 P), some (o603 P), some (o15 P), some (o606 P), some (o15 P), some (o609 P)]
noncomputable def Kc26 (P : Params) : List (Option Obj) := [some (o610 P), some (o15 P), some (o613 P), some (o15 P), some (o616 P), some (o617 P), some (o15 P), some (o620 P), some (o15 P), some (o623 P), some (o624 P), some (o15 P), some (o628 P), some (o629 P)]
noncomputable def Kc (P : Params) : List (Option Obj) := Kc0 P ++ (Kc1 P ++ (Kc2 P ++ (Kc3 P ++ (Kc4 P ++ (Kc5 P ++ (Kc6 P ++ (Kc7 P ++ (Kc8 P ++ (Kc9 P ++ (Kc10 P ++ (Kc11 P ++ (Kc12 P ++ (Kc13 P ++ (Kc14 P ++ (Kc15 P ++ (Kc16 P ++ (Kc17 P ++ (Kc18 P ++ (Kc19 P ++ (Kc20 P ++ (Kc21 P ++ (Kc22 P ++ (Kc23 P ++ (Kc24 P ++ (Kc25 P ++ (Kc26 P))))))))))))))))))))))))))
def adr : List Addr := nat_lit 2 :: nat_lit 3 :: nat_lit 15 :: nat_lit 17 :: nat_lit 18 :: nat_lit 20 :: nat_lit 21 :: nat_lit 22 :: nat_lit 29 :: nat_lit 30 :: nat_lit 31 :: nat_lit 32 :: nat_lit 35 :: nat_lit 42 :: nat_lit 43 :: nat_lit 44 :: nat_lit 47 :: nat_lit 54 :: nat_lit 55 :: nat_lit 56 :: nat_lit 59 :: nat_lit 66 :: nat_lit 67 :: nat_lit 68 :: nat_lit 71 :: nat_lit 78 :: nat_lit 79 :: nat_lit 80 :: nat_lit 83 :: nat_lit 90 :: nat_lit 91 :: nat_lit 92 :: nat_lit 95 :: nat_lit 102 :: nat_lit 103 :: nat_lit 104 :: nat_lit 107 :: nat_lit 114 :: nat_lit 115 :: nat_lit 116 :: nat_lit 119 :: nat_lit 126 :: nat_lit 127 :: nat_lit 128 :: nat_lit 131 :: nat_lit 138 :: nat_lit 139 :: nat_lit 140 :: nat_lit 143 :: nat_lit 145 :: nat_lit 146 :: nat_lit 148 :: nat_lit 149 :: nat_lit 150 :: nat_lit 152 :: nat_lit 153 :: nat_lit 155 :: nat_lit 156 :: nat_lit 157 :: nat_lit 159 :: nat_lit 160 :: nat_lit 162 :: nat_lit 163 :: nat_lit 164 :: nat_lit 166 :: nat_lit 167 :: nat_lit 169 :: nat_lit 170 :: nat_lit 171 :: nat_lit 173 :: nat_lit 174 :: nat_lit 176 :: nat_lit 177 :: nat_lit 178 :: nat_lit 180 :: nat_lit 181 :: nat_lit 183 :: nat_lit 184 :: nat_lit 185 :: nat_lit 187 :: nat_lit 188 :: nat_lit 190 :: nat_lit 191 :: nat_lit 192 :: nat_lit 194 :: nat_lit 195 :: nat_lit 197 :: nat_lit 198 :: nat_lit 206 :: nat_lit 208 :: nat_lit 209 :: nat_lit 211 :: nat_lit 212 :: nat_lit 213 :: nat_lit 214 :: nat_lit 216 :: nat_lit 217 :: nat_lit 219 :: nat_lit 220 :: nat_lit 221 :: nat_lit 223 :: nat_lit 224 :: nat_lit 226 :: nat_lit 227 :: nat_lit 228 :: nat_lit 230 :: nat_lit 231 :: nat_lit 233 :: nat_lit 234 :: nat_lit 235 :: nat_lit 237 :: nat_lit 238 :: nat_lit 240 :: nat_lit 241 :: nat_lit 242 :: nat_lit 244 :: nat_lit 245 :: nat_lit 247 :: nat_lit 248 :: nat_lit 249 :: nat_lit 251 :: nat_lit 252 :: nat_lit 254 :: nat_lit 255 :: nat_lit 256 :: nat_lit 258 :: nat_lit 259 :: nat_lit 261 :: nat_lit 262 :: nat_lit 263 :: nat_lit 266 :: nat_lit 267 :: nat_lit 268 :: nat_lit 271 :: nat_lit 272 :: nat_lit 273 :: nat_lit 275 :: nat_lit 276 :: nat_lit 278 :: nat_lit 279 :: nat_lit 280 :: nat_lit 282 :: nat_lit 283 :: nat_lit 285 :: nat_lit 286 :: nat_lit 287 :: nat_lit 289 :: nat_lit 290 :: nat_lit 292 :: nat_lit 293 :: nat_lit 294 :: nat_lit 297 :: nat_lit 298 :: nat_lit 299 :: nat_lit 301 :: nat_lit 302 :: nat_lit 304 :: nat_lit 305 :: nat_lit 306 :: nat_lit 309 :: nat_lit 310 :: nat_lit 311 :: nat_lit 312 :: nat_lit 313 :: nat_lit 314 :: nat_lit 315 :: nat_lit 318 :: nat_lit 320 :: nat_lit 321 :: nat_lit 323 :: nat_lit 324 :: nat_lit 332 :: nat_lit 334 :: nat_lit 335 :: nat_lit 337 :: nat_lit 338 :: nat_lit 339 :: nat_lit 341 :: nat_lit 342 :: nat_lit 344 :: nat_lit 345 :: nat_lit 346 :: nat_lit 348 :: nat_lit 349 :: nat_lit 351 :: nat_lit 352 :: nat_lit 353 :: nat_lit 355 :: nat_lit 356 :: nat_lit 358 :: nat_lit 359 :: nat_lit 360 :: nat_lit 362 :: nat_lit 363 :: nat_lit 365 :: nat_lit 366 :: nat_lit 367 :: nat_lit 370 :: nat_lit 371 :: nat_lit 372 :: nat_lit 373 :: nat_lit 375 :: nat_lit 376 :: nat_lit 378 :: nat_lit 379 :: nat_lit 380 :: nat_lit 382 :: nat_lit 383 :: nat_lit 385 :: nat_lit 386 :: nat_lit 387 :: nat_lit 389 :: nat_lit 390 :: nat_lit 392 :: nat_lit 393 :: nat_lit 394 :: nat_lit 396 :: nat_lit 397 :: nat_lit 399 :: nat_lit 400 :: nat_lit 401 :: nat_lit 403 :: nat_lit 404 :: nat_lit 406 :: nat_lit 407 :: nat_lit 408 :: nat_lit 410 :: nat_lit 411 :: nat_lit 413 :: nat_lit 414 :: nat_lit 415 :: nat_lit 417 :: nat_lit 418 :: nat_lit 420 :: nat_lit 421 :: nat_lit 422 :: nat_lit 424 :: nat_lit 425 :: nat_lit 427 :: nat_lit 428 :: nat_lit 429 :: nat_lit 431 :: nat_lit 432 :: nat_lit 434 :: nat_lit 435 :: nat_lit 436 :: nat_lit 438 :: nat_lit 439 :: nat_lit 441 :: nat_lit 442 :: nat_lit 443 :: nat_lit 445 :: nat_lit 446 :: nat_lit 448 :: nat_lit 449 :: nat_lit 450 :: nat_lit 452 :: nat_lit 453 :: nat_lit 455 :: nat_lit 456 :: nat_lit 457 :: nat_lit 459 :: nat_lit 460 :: nat_lit 462 :: nat_lit 463 :: nat_lit 464 :: nat_lit 466 :: nat_lit 467 :: nat_lit 469 :: nat_lit 470 :: nat_lit 471 :: nat_lit 473 :: nat_lit 474 :: nat_lit 476 :: nat_lit 477 :: nat_lit 478 :: nat_lit 479 :: nat_lit 480 :: nat_lit 481 :: nat_lit 482 :: nat_lit 485 :: nat_lit 487 :: nat_lit 488 :: nat_lit 490 :: nat_lit 491 :: nat_lit 492 :: nat_lit 494 :: nat_lit 495 :: nat_lit 497 :: nat_lit 498 :: nat_lit 506 :: nat_lit 508 :: nat_lit 509 :: nat_lit 511 :: nat_lit 512 :: nat_lit 513 :: nat_lit 515 :: nat_lit 516 :: nat_lit 518 :: nat_lit 519 :: nat_lit 520 :: nat_lit 522 :: nat_lit 523 :: nat_lit 525 :: nat_lit 526 :: nat_lit 527 :: nat_lit 529 :: nat_lit 530 :: nat_lit 532 :: nat_lit 533 :: nat_lit 534 :: nat_lit 536 :: nat_lit 537 :: nat_lit 539 :: nat_lit 540 :: nat_lit 541 :: nat_lit 543 :: nat_lit 544 :: nat_lit 546 :: nat_lit 547 :: nat_lit 548 :: nat_lit 550 :: nat_lit 551 :: nat_lit 553 :: nat_lit 554 :: nat_lit 555 :: nat_lit 557 :: nat_lit 558 :: nat_lit 560 :: nat_lit 561 :: nat_lit 562 :: nat_lit 564 :: nat_lit 565 :: nat_lit 567 :: nat_lit 568 :: nat_lit 569 :: nat_lit 571 :: nat_lit 572 :: nat_lit 574 :: nat_lit 575 :: nat_lit 576 :: nat_lit 578 :: nat_lit 579 :: nat_lit 581 :: nat_lit 582 :: nat_lit 583 :: nat_lit 584 :: nat_lit 585 :: nat_lit 586 :: nat_lit 587 :: nat_lit 590 :: nat_lit 592 :: nat_lit 593 :: nat_lit 595 :: nat_lit 596 :: nat_lit 597 :: nat_lit 599 :: nat_lit 600 :: nat_lit 602 :: nat_lit 603 :: nat_lit 604 :: nat_lit 606 :: nat_lit 607 :: nat_lit 609 :: nat_lit 610 :: nat_lit 611 :: nat_lit 613 :: nat_lit 614 :: nat_lit 616 :: nat_lit 617 :: nat_lit 618 :: nat_lit 620 :: nat_lit 621 :: nat_lit 623 :: nat_lit 624 :: nat_lit 625 :: nat_lit 628 :: nat_lit 629 :: []
theorem adr_eq (P : Params) : adr = (Kf P).map (·.1) := by kernel_rfl
theorem kc_eq (P : Params) : Kc P = (Kf P).map fun p => some p.2 := by kernel_rfl
noncomputable def vw : Program := PySem.W.view PySem.Challenge.pw_frameland_k46_busy_banks [0, 2, 3, 4, 5, 6, 7, 8, 9, 10, 11, 13, 14, 16, 17, 18, 19, 20, 21, 22, 23, 25, 26, 27, 29, 30, 31, 32, 34, 35, 36, 37, 38, 39]
noncomputable def o12_pa (_ : Params) : Obj := ⟨.none, none, .fields ⟨[]⟩, #[]⟩
noncomputable def o13_pa (_ : Params) : Obj := cO [(.str (S 4568459227289382461) 182), (.str (S 4568459227289382461) 183), (.str (S 9700865007064396754801562313776) 184), (.int (1) 0), (.int (0) 0), (.int (0) 0), (.int (0) 0), (.int (0) 0), (.ref 11), (.bool false), (.int (181) 0), (.ref 12), .none, .none, .none, .none, (.int (185) 0), (.int (1) 0), (.str (S 9700865007064396754801562313776) 186)]
noncomputable def o14_pa (_ : Params) : Obj := ⟨(.type "frame"), none, .plain, #[(some (.ref 13)), (some (.ref 3)), (some (.ref 3)), none, (some (.str (S 6944673128113922144) 164)), none, (some (.ref 0))]⟩
noncomputable def tpa_8_7 (P : Params) : PySem.W.BT := .node (PySem.W.boot_o_7 P) (.nil) (.nil)
noncomputable def tpa_8_11 (P : Params) : PySem.W.BT := .node (o15 P) (.nil) (.nil)
noncomputable def tpa_8_9 (P : Params) : PySem.W.BT := .node (PySem.W.boot_o_9 P) (.nil) (.nil)
noncomputable def tpa_8_13 (P : Params) : PySem.W.BT := .node (o13_pa P) (.nil) (.nil)
noncomputable def tpa_8_8 (P : Params) : PySem.W.BT := .node (PySem.W.boot_o_8 P) (.nil) (.nil)
noncomputable def tpa_8_12 (P : Params) : PySem.W.BT := .node (o12_pa P) (.nil) (.nil)
noncomputable def tpa_8_10 (P : Params) : PySem.W.BT := .node (PySem.W.boot_o_10 P) (.nil) (.nil)
noncomputable def tpa_8_14 (P : Params) : PySem.W.BT := .node (o14_pa P) (.nil) (.nil)
noncomputable def tpa_1_0 (P : Params) : PySem.W.BT := .node (PySem.W.boot_o_0 P) (.node (PySem.W.boot_o_1 P) (.node (PySem.W.boot_o_3 P) (tpa_8_7 P) (tpa_8_11 P)) (.node (PySem.W.boot_o_5 P) (tpa_8_9 P) (tpa_8_13 P))) (.node (PySem.W.boot_o_2 P) (.node (PySem.W.boot_o_4 P) (tpa_8_8 P) (tpa_8_12 P)) (.node (PySem.W.boot_o_6 P) (tpa_8_10 P) (tpa_8_14 P)))
noncomputable def spa (w : World) (os : OsState) : PySem.W.SharedT := ⟨tpa_1_0 w.params, 15, (PySem.W.boot_heap w.params).life, #[], PySem.W.boot_drawn, 187, os⟩
noncomputable def tpb_8_7 (P : Params) : PySem.W.BT := .node (PySem.W.boot_o_7 P) (.nil) (.nil)
noncomputable def tpb_8_11 (P : Params) : PySem.W.BT := .node (o15 P) (.nil) (.nil)
noncomputable def tpb_8_9 (P : Params) : PySem.W.BT := .node (PySem.W.boot_o_9 P) (.nil) (.nil)
noncomputable def tpb_8_13 (P : Params) : PySem.W.BT := .node (o13_pa P) (.nil) (.nil)
noncomputable def tpb_8_8 (P : Params) : PySem.W.BT := .node (PySem.W.boot_o_8 P) (.nil) (.nil)
noncomputable def tpb_8_12 (P : Params) : PySem.W.BT := .node (o12_pa P) (.nil) (.nil)
noncomputable def tpb_8_10 (P : Params) : PySem.W.BT := .node (PySem.W.boot_o_10 P) (.nil) (.nil)
noncomputable def tpb_8_14 (P : Params) : PySem.W.BT := .node (o14_pa P) (.nil) (.nil)
noncomputable def tpb_1_0 (P : Params) : PySem.W.BT := .node (PySem.W.boot_o_0 P) (.node (PySem.W.boot_o_1 P) (.node (PySem.W.boot_o_3 P) (tpb_8_7 P) (tpb_8_11 P)) (.node (PySem.W.boot_o_5 P) (tpb_8_9 P) (tpb_8_13 P))) (.node (PySem.W.boot_o_2 P) (.node (PySem.W.boot_o_4 P) (tpb_8_8 P) (tpb_8_12 P)) (.node (PySem.W.boot_o_6 P) (tpb_8_10 P) (tpb_8_14 P)))
noncomputable def spb (w : World) (os : OsState) : PySem.W.SharedT := ⟨tpb_1_0 w.params, 15, (PySem.W.boot_heap w.params).life, #[], PySem.W.boot_drawn, 187, os⟩
noncomputable def o3_c24 (P : Params) : Obj := dO 30 [ent P (S 6944663249689206880) 165 (.str (S 2595807759375494792423391711955702693320880999) 376), ent P (S 27127582262911072) 166 .none, ent P (S 116512114954948911152848992) 167 .none, ent P (S 455126385231797511086176) 168 (.builtin "__main__.__loader__#opaque"), ent P (S 6944661016558198880) 169 .none, ent P (S 500416834696884185539869749159288928) 170 (.ref 6), ent P (S 29827167671303893903271485536) 171 (.ref 4), ent P (S 6944663245527933024) 173 (.str (S 9700865007064396754801562313776) 172), ent P (S 455125376429887381069920) 174 .none, ent P (S 469986605152) 193 (.ref 21), ent P (S 545146499936607105348423) 213 (.ref 31), ent P (S 28835115112362063) 229 (.ref 44), ent P (S 2037243915540886812240) 245 (.ref 56), ent P (S 2148282720731175150147) 261 (.ref 68), ent P (S 119247121772623) 277 (.ref 80), ent P (S 119225645756495) 293 (.ref 92), ent P (S 2000274411557569787472) 309 (.ref 104), ent P (S 478459748949) 325 (.ref 116), ent P (S 1870502957375938719823) 341 (.ref 128), ent P (S 2054452803) 357 (.ref 140), ent P (S 7380678962623575146) 366 (.ref 149), ent P (S 2055256381122481779818) 375 (.ref 156), ent P (S 101952521820057743536705614) 379 (.int (3) 378), ent P (S 36042203234783605173055285604) 386 (.ref 163), ent P (S 113732351258470) 393 (.ref 170), ent P (S 7957987429399816821) 402 (.ref 177), ent P (S 29115482190865009) 412 (.ref 184), ent P (S 31367281986924648) 420 (.ref 191), ent P (S 111490630316139) 430 (.ref 198), ent P (S 2147201852470124049748) 580 (.ref 313)]
noncomputable def o12_c24 (_ : Params) : Obj := ⟨.none, none, .fields ⟨[(.int (1) 0), (.int (0) 0), (.ref 20), (.int (5) 0), (.int (0) 0), (.ref 27), (.int (7) 0), (.int (0) 0), (.ref 40), (.int (9) 0), (.int (0) 0), (.ref 52), (.int (11) 0), (.int (0) 0), (.ref 64), (.int (13) 0), (.int (0) 0), (.ref 76), (.int (15) 0), (.int (0) 0), (.ref 88), (.int (17) 0), (.int (0) 0), (.ref 100), (.int (19) 0), (.int (0) 0), (.ref 112), (.int (21) 0), (.int (0) 0), (.ref 124), (.int (23) 0), (.int (0) 0), (.ref 136), (.int (26) 0), (.int (0) 0), (.ref 148), (.int (28) 0), (.int (0) 0), (.ref 155), (.int (32) 0), (.int (0) 0), (.ref 162), (.int (35) 0), (.int (0) 0), (.ref 169), (.int (37) 0), (.int (0) 0), (.ref 176), (.int (42) 0), (.int (0) 0), (.ref 183), (.int (45) 0), (.int (0) 0), (.ref 190), (.int (47) 0), (.int (0) 0), (.ref 197), (.int (56) 0), (.int (0) 0), (.ref 204)]⟩, #[]⟩
noncomputable def o19_c24 (_ : Params) : Obj := ⟨.none, none, .func { name := (S 469986605152), qualname := (S 469986605152), params := defArgs (top 0), body := .stmts (defBody (top 0)), scope := defScope (top 0), globals := 0, closure := [], defaults := .none, kwdefaults := .none, doc := .none, pyModule := .none, annotations := none, code := .none, closureTuple := .none, builtins := 0 }, #[]⟩
noncomputable def o23_c24 (_ : Params) : Obj := ⟨(.type "builtin_function_or_method"), none, .fields ⟨[(.builtin "type.__prepare__"), (.type "type")]⟩, #[]⟩
noncomputable def o24_c24 (P : Params) : Obj := dO 4 [ent P (S 455125450472104437637216) 203 (.str (S 154789842426610354947036250589871895399) 194), ent P (S 29827101539148240018006499424) 205 (.str (S 545146499936607105348423) 204), ent P (S 500416517772168279997240570217455712) 207 (.int (5) 206), ent P (S 140854816109632365363434125429399349832812124725344) 208 (.ref 29)]
noncomputable def o27_c24 (_ : Params) : Obj := cO [(.str (S 545146499936607105348423) 198), (.str (S 545146499936607105348423) 199), (.str (S 9700865007064396754801562313776) 200), (.int (5) 0), (.int (0) 0), (.int (0) 0), (.int (0) 0), (.int (0) 0), (.ref 25), (.bool false), (.int (181) 0), (.ref 26), .none, .none, .none, .none, (.int (201) 0), (.int (5) 0), (.str (S 9700865007064396754801562313776) 202)]
noncomputable def o28_c24 (_ : Params) : Obj := ⟨(.type "frame"), none, .plain, #[(some (.ref 27)), (some (.ref 3)), (some (.ref 24)), none, (some (.str (S 154789842426610354947036250589871895399) 194)), none, (some (.ref 0))]⟩
noncomputable def o33_c24 (_ : Params) : Obj := ⟨(.type "super"), none, .fields ⟨[(.ref 31), (.ref 31), (.ref 31)]⟩, #[]⟩
noncomputable def o34_c24 (_ : Params) : Obj := ⟨(.type "builtin_function_or_method"), none, .fields ⟨[(.builtin "object.__init_subclass__"), (.ref 31)]⟩, #[]⟩
noncomputable def o37_c24 (P : Params) : Obj := dO 4 [ent P (S 455125450472104437637216) 221 (.str (S 154789842426610354947036250589871895399) 194), ent P (S 29827101539148240018006499424) 223 (.str (S 28835115112362063) 222), ent P (S 500416517772168279997240570217455712) 225 (.int (7) 224), ent P (S 140854816109632365363434125429399349832812124725344) 226 (.ref 42)]
noncomputable def o40_c24 (_ : Params) : Obj := cO [(.str (S 28835115112362063) 216), (.str (S 28835115112362063) 217), (.str (S 9700865007064396754801562313776) 218), (.int (7) 0), (.int (0) 0), (.int (0) 0), (.int (0) 0), (.int (0) 0), (.ref 38), (.bool false), (.int (181) 0), (.ref 39), .none, .none, .none, .none, (.int (219) 0), (.int (7) 0), (.str (S 9700865007064396754801562313776) 220)]
noncomputable def o41_c24 (_ : Params) : Obj := ⟨(.type "frame"), none, .plain, #[(some (.ref 40)), (some (.ref 3)), (some (.ref 37)), none, (some (.str (S 154789842426610354947036250589871895399) 194)), none, (some (.ref 0))]⟩
noncomputable def o45_c24 (_ : Params) : Obj := ⟨(.type "super"), none, .fields ⟨[(.ref 44), (.ref 44), (.ref 44)]⟩, #[]⟩
noncomputable def o46_c24 (_ : Params) : Obj := ⟨(.type "builtin_function_or_method"), none, .fields ⟨[(.builtin "object.__init_subclass__"), (.ref 44)]⟩, #[]⟩
noncomputable def o49_c24 (P : Params) : Obj := dO 4 [ent P (S 455125450472104437637216) 237 (.str (S 154789842426610354947036250589871895399) 194), ent P (S 29827101539148240018006499424) 239 (.str (S 2037243915540886812240) 238), ent P (S 500416517772168279997240570217455712) 241 (.int (9) 240), ent P (S 140854816109632365363434125429399349832812124725344) 242 (.ref 54)]
noncomputable def o52_c24 (_ : Params) : Obj := cO [(.str (S 2037243915540886812240) 232), (.str (S 2037243915540886812240) 233), (.str (S 9700865007064396754801562313776) 234), (.int (9) 0), (.int (0) 0), (.int (0) 0), (.int (0) 0), (.int (0) 0), (.ref 50), (.bool false), (.int (181) 0), (.ref 51), .none, .none, .none, .none, (.int (235) 0), (.int (9) 0), (.str (S 9700865007064396754801562313776) 236)]
noncomputable def o53_c24 (_ : Params) : Obj := ⟨(.type "frame"), none, .plain, #[(some (.ref 52)), (some (.ref 3)), (some (.ref 49)), none, (some (.str (S 154789842426610354947036250589871895399) 194)), none, (some (.ref 0))]⟩
noncomputable def o57_c24 (_ : Params) : Obj := ⟨(.type "super"), none, .fields ⟨[(.ref 56), (.ref 56), (.ref 56)]⟩, #[]⟩
noncomputable def o58_c24 (_ : Params) : Obj := ⟨(.type "builtin_function_or_method"), none, .fields ⟨[(.builtin "object.__init_subclass__"), (.ref 56)]⟩, #[]⟩
noncomputable def o61_c24 (P : Params) : Obj := dO 4 [ent P (S 455125450472104437637216) 253 (.str (S 154789842426610354947036250589871895399) 194), ent P (S 29827101539148240018006499424) 255 (.str (S 2148282720731175150147) 254), ent P (S 500416517772168279997240570217455712) 257 (.int (11) 256), ent P (S 140854816109632365363434125429399349832812124725344) 258 (.ref 66)]
noncomputable def o64_c24 (_ : Params) : Obj := cO [(.str (S 2148282720731175150147) 248), (.str (S 2148282720731175150147) 249), (.str (S 9700865007064396754801562313776) 250), (.int (11) 0), (.int (0) 0), (.int (0) 0), (.int (0) 0), (.int (0) 0), (.ref 62), (.bool false), (.int (181) 0), (.ref 63), .none, .none, .none, .none, (.int (251) 0), (.int (11) 0), (.str (S 9700865007064396754801562313776) 252)]
noncomputable def o65_c24 (_ : Params) : Obj := ⟨(.type "frame"), none, .plain, #[(some (.ref 64)), (some (.ref 3)), (some (.ref 61)), none, (some (.str (S 154789842426610354947036250589871895399) 194)), none, (some (.ref 0))]⟩
noncomputable def o69_c24 (_ : Params) : Obj := ⟨(.type "super"), none, .fields ⟨[(.ref 68), (.ref 68), (.ref 68)]⟩, #[]⟩
noncomputable def o70_c24 (_ : Params) : Obj := ⟨(.type "builtin_function_or_method"), none, .fields ⟨[(.builtin "object.__init_subclass__"), (.ref 68)]⟩, #[]⟩
noncomputable def o73_c24 (P : Params) : Obj := dO 4 [ent P (S 455125450472104437637216) 269 (.str (S 154789842426610354947036250589871895399) 194), ent P (S 29827101539148240018006499424) 271 (.str (S 119247121772623) 270), ent P (S 500416517772168279997240570217455712) 273 (.int (13) 272), ent P (S 140854816109632365363434125429399349832812124725344) 274 (.ref 78)]
noncomputable def o76_c24 (_ : Params) : Obj := cO [(.str (S 119247121772623) 264), (.str (S 119247121772623) 265), (.str (S 9700865007064396754801562313776) 266), (.int (13) 0), (.int (0) 0), (.int (0) 0), (.int (0) 0), (.int (0) 0), (.ref 74), (.bool false), (.int (181) 0), (.ref 75), .none, .none, .none, .none, (.int (267) 0), (.int (13) 0), (.str (S 9700865007064396754801562313776) 268)]
noncomputable def o77_c24 (_ : Params) : Obj := ⟨(.type "frame"), none, .plain, #[(some (.ref 76)), (some (.ref 3)), (some (.ref 73)), none, (some (.str (S 154789842426610354947036250589871895399) 194)), none, (some (.ref 0))]⟩
noncomputable def o81_c24 (_ : Params) : Obj := ⟨(.type "super"), none, .fields ⟨[(.ref 80), (.ref 80), (.ref 80)]⟩, #[]⟩
noncomputable def o82_c24 (_ : Params) : Obj := ⟨(.type "builtin_function_or_method"), none, .fields ⟨[(.builtin "object.__init_subclass__"), (.ref 80)]⟩, #[]⟩
noncomputable def o85_c24 (P : Params) : Obj := dO 4 [ent P (S 455125450472104437637216) 285 (.str (S 154789842426610354947036250589871895399) 194), ent P (S 29827101539148240018006499424) 287 (.str (S 119225645756495) 286), ent P (S 500416517772168279997240570217455712) 289 (.int (15) 288), ent P (S 140854816109632365363434125429399349832812124725344) 290 (.ref 90)]
noncomputable def o88_c24 (_ : Params) : Obj := cO [(.str (S 119225645756495) 280), (.str (S 119225645756495) 281), (.str (S 9700865007064396754801562313776) 282), (.int (15) 0), (.int (0) 0), (.int (0) 0), (.int (0) 0), (.int (0) 0), (.ref 86), (.bool false), (.int (181) 0), (.ref 87), .none, .none, .none, .none, (.int (283) 0), (.int (15) 0), (.str (S 9700865007064396754801562313776) 284)]
noncomputable def o89_c24 (_ : Params) : Obj := ⟨(.type "frame"), none, .plain, #[(some (.ref 88)), (some (.ref 3)), (some (.ref 85)), none, (some (.str (S 154789842426610354947036250589871895399) 194)), none, (some (.ref 0))]⟩
noncomputable def o93_c24 (_ : Params) : Obj := ⟨(.type "super"), none, .fields ⟨[(.ref 92), (.ref 92), (.ref 92)]⟩, #[]⟩
noncomputable def o94_c24 (_ : Params) : Obj := ⟨(.type "builtin_function_or_method"), none, .fields ⟨[(.builtin "object.__init_subclass__"), (.ref 92)]⟩, #[]⟩
noncomputable def o97_c24 (P : Params) : Obj := dO 4 [ent P (S 455125450472104437637216) 301 (.str (S 154789842426610354947036250589871895399) 194), ent P (S 29827101539148240018006499424) 303 (.str (S 2000274411557569787472) 302), ent P (S 500416517772168279997240570217455712) 305 (.int (17) 304), ent P (S 140854816109632365363434125429399349832812124725344) 306 (.ref 102)]
noncomputable def o100_c24 (_ : Params) : Obj := cO [(.str (S 2000274411557569787472) 296), (.str (S 2000274411557569787472) 297), (.str (S 9700865007064396754801562313776) 298), (.int (17) 0), (.int (0) 0), (.int (0) 0), (.int (0) 0), (.int (0) 0), (.ref 98), (.bool false), (.int (181) 0), (.ref 99), .none, .none, .none, .none, (.int (299) 0), (.int (17) 0), (.str (S 9700865007064396754801562313776) 300)]
noncomputable def o101_c24 (_ : Params) : Obj := ⟨(.type "frame"), none, .plain, #[(some (.ref 100)), (some (.ref 3)), (some (.ref 97)), none, (some (.str (S 154789842426610354947036250589871895399) 194)), none, (some (.ref 0))]⟩
noncomputable def o105_c24 (_ : Params) : Obj := ⟨(.type "super"), none, .fields ⟨[(.ref 104), (.ref 104), (.ref 104)]⟩, #[]⟩
noncomputable def o106_c24 (_ : Params) : Obj := ⟨(.type "builtin_function_or_method"), none, .fields ⟨[(.builtin "object.__init_subclass__"), (.ref 104)]⟩, #[]⟩
noncomputable def o109_c24 (P : Params) : Obj := dO 4 [ent P (S 455125450472104437637216) 317 (.str (S 154789842426610354947036250589871895399) 194), ent P (S 29827101539148240018006499424) 319 (.str (S 478459748949) 318), ent P (S 500416517772168279997240570217455712) 321 (.int (19) 320), ent P (S 140854816109632365363434125429399349832812124725344) 322 (.ref 114)]
noncomputable def o112_c24 (_ : Params) : Obj := cO [(.str (S 478459748949) 312), (.str (S 478459748949) 313), (.str (S 9700865007064396754801562313776) 314), (.int (19) 0), (.int (0) 0), (.int (0) 0), (.int (0) 0), (.int (0) 0), (.ref 110), (.bool false), (.int (181) 0), (.ref 111), .none, .none, .none, .none, (.int (315) 0), (.int (19) 0), (.str (S 9700865007064396754801562313776) 316)]
noncomputable def o113_c24 (_ : Params) : Obj := ⟨(.type "frame"), none, .plain, #[(some (.ref 112)), (some (.ref 3)), (some (.ref 109)), none, (some (.str (S 154789842426610354947036250589871895399) 194)), none, (some (.ref 0))]⟩
noncomputable def o117_c24 (_ : Params) : Obj := ⟨(.type "super"), none, .fields ⟨[(.ref 116), (.ref 116), (.ref 116)]⟩, #[]⟩
noncomputable def o118_c24 (_ : Params) : Obj := ⟨(.type "builtin_function_or_method"), none, .fields ⟨[(.builtin "object.__init_subclass__"), (.ref 116)]⟩, #[]⟩
noncomputable def o121_c24 (P : Params) : Obj := dO 4 [ent P (S 455125450472104437637216) 333 (.str (S 154789842426610354947036250589871895399) 194), ent P (S 29827101539148240018006499424) 335 (.str (S 1870502957375938719823) 334), ent P (S 500416517772168279997240570217455712) 337 (.int (21) 336), ent P (S 140854816109632365363434125429399349832812124725344) 338 (.ref 126)]
noncomputable def o124_c24 (_ : Params) : Obj := cO [(.str (S 1870502957375938719823) 328), (.str (S 1870502957375938719823) 329), (.str (S 9700865007064396754801562313776) 330), (.int (21) 0), (.int (0) 0), (.int (0) 0), (.int (0) 0), (.int (0) 0), (.ref 122), (.bool false), (.int (181) 0), (.ref 123), .none, .none, .none, .none, (.int (331) 0), (.int (21) 0), (.str (S 9700865007064396754801562313776) 332)]
noncomputable def o125_c24 (_ : Params) : Obj := ⟨(.type "frame"), none, .plain, #[(some (.ref 124)), (some (.ref 3)), (some (.ref 121)), none, (some (.str (S 154789842426610354947036250589871895399) 194)), none, (some (.ref 0))]⟩
noncomputable def o129_c24 (_ : Params) : Obj := ⟨(.type "super"), none, .fields ⟨[(.ref 128), (.ref 128), (.ref 128)]⟩, #[]⟩
noncomputable def o130_c24 (_ : Params) : Obj := ⟨(.type "builtin_function_or_method"), none, .fields ⟨[(.builtin "object.__init_subclass__"), (.ref 128)]⟩, #[]⟩
noncomputable def o133_c24 (P : Params) : Obj := dO 4 [ent P (S 455125450472104437637216) 349 (.str (S 154789842426610354947036250589871895399) 194), ent P (S 29827101539148240018006499424) 351 (.str (S 2054452803) 350), ent P (S 500416517772168279997240570217455712) 353 (.int (23) 352), ent P (S 140854816109632365363434125429399349832812124725344) 354 (.ref 138)]
noncomputable def o136_c24 (_ : Params) : Obj := cO [(.str (S 2054452803) 344), (.str (S 2054452803) 345), (.str (S 9700865007064396754801562313776) 346), (.int (23) 0), (.int (0) 0), (.int (0) 0), (.int (0) 0), (.int (0) 0), (.ref 134), (.bool false), (.int (181) 0), (.ref 135), .none, .none, .none, .none, (.int (347) 0), (.int (23) 0), (.str (S 9700865007064396754801562313776) 348)]
noncomputable def o137_c24 (_ : Params) : Obj := ⟨(.type "frame"), none, .plain, #[(some (.ref 136)), (some (.ref 3)), (some (.ref 133)), none, (some (.str (S 154789842426610354947036250589871895399) 194)), none, (some (.ref 0))]⟩
noncomputable def o141_c24 (_ : Params) : Obj := ⟨(.type "super"), none, .fields ⟨[(.ref 140), (.ref 140), (.ref 140)]⟩, #[]⟩
noncomputable def o142_c24 (_ : Params) : Obj := ⟨(.type "builtin_function_or_method"), none, .fields ⟨[(.builtin "object.__init_subclass__"), (.ref 140)]⟩, #[]⟩
noncomputable def o147_c24 (_ : Params) : Obj := ⟨.none, none, .func { name := (S 7380678962623575146), qualname := (S 7380678962623575146), params := defArgs (top 13), body := .stmts (defBody (top 13)), scope := defScope (top 13), globals := 0, closure := [], defaults := .none, kwdefaults := .none, doc := .none, pyModule := .none, annotations := none, code := .none, closureTuple := .none, builtins := 0 }, #[]⟩
noncomputable def o154_c24 (_ : Params) : Obj := ⟨.none, none, .func { name := (S 2055256381122481779818), qualname := (S 2055256381122481779818), params := defArgs (top 14), body := .stmts (defBody (top 14)), scope := defScope (top 14), globals := 0, closure := [], defaults := .none, kwdefaults := .none, doc := .none, pyModule := .none, annotations := none, code := .none, closureTuple := .none, builtins := 0 }, #[]⟩
noncomputable def o161_c24 (_ : Params) : Obj := ⟨.none, none, .func { name := (S 36042203234783605173055285604), qualname := (S 36042203234783605173055285604), params := defArgs (top 17), body := .stmts (defBody (top 17)), scope := defScope (top 17), globals := 0, closure := [], defaults := .none, kwdefaults := .none, doc := .none, pyModule := .none, annotations := none, code := .none, closureTuple := .none, builtins := 0 }, #[]⟩
noncomputable def o168_c24 (_ : Params) : Obj := ⟨.none, none, .func { name := (S 113732351258470), qualname := (S 113732351258470), params := defArgs (top 18), body := .stmts (defBody (top 18)), scope := defScope (top 18), globals := 0, closure := [], defaults := .none, kwdefaults := .none, doc := .none, pyModule := .none, annotations := none, code := .none, closureTuple := .none, builtins := 0 }, #[]⟩
noncomputable def o175_c24 (_ : Params) : Obj := ⟨.none, none, .func { name := (S 7957987429399816821), qualname := (S 7957987429399816821), params := defArgs (top 19), body := .stmts (defBody (top 19)), scope := defScope (top 19), globals := 0, closure := [], defaults := .none, kwdefaults := .none, doc := .none, pyModule := .none, annotations := none, code := .none, closureTuple := .none, builtins := 0 }, #[]⟩
noncomputable def o182_c24 (_ : Params) : Obj := ⟨.none, none, .func { name := (S 29115482190865009), qualname := (S 29115482190865009), params := defArgs (top 20), body := .stmts (defBody (top 20)), scope := defScope (top 20), globals := 0, closure := [], defaults := .none, kwdefaults := .none, doc := .none, pyModule := .none, annotations := none, code := .none, closureTuple := .none, builtins := 0 }, #[]⟩
noncomputable def o189_c24 (_ : Params) : Obj := ⟨.none, none, .func { name := (S 31367281986924648), qualname := (S 31367281986924648), params := defArgs (top 21), body := .stmts (defBody (top 21)), scope := defScope (top 21), globals := 0, closure := [], defaults := .none, kwdefaults := .none, doc := .none, pyModule := .none, annotations := none, code := .none, closureTuple := .none, builtins := 0 }, #[]⟩
noncomputable def o196_c24 (_ : Params) : Obj := ⟨.none, none, .func { name := (S 111490630316139), qualname := (S 111490630316139), params := defArgs (top 22), body := .stmts (defBody (top 22)), scope := defScope (top 22), globals := 0, closure := [], defaults := .none, kwdefaults := .none, doc := .none, pyModule := .none, annotations := none, code := .none, closureTuple := .none, builtins := 0 }, #[]⟩
noncomputable def o201_c24 (P : Params) : Obj := dO 20 [ent P (S 455125450472104437637216) 438 (.str (S 2595807759375494792423391711955702693320880999) 376), ent P (S 29827101539148240018006499424) 440 (.str (S 2147201852470124049748) 439), ent P (S 500416517772168279997240570217455712) 442 (.int (56) 441), ent P (S 6944679725401530464) 449 (.ref 212), ent P (S 7698033) 460 (.ref 220), ent P (S 7698020) 469 (.ref 227), ent P (S 435727529576) 479 (.ref 234), ent P (S 516757173630863403280740) 488 (.ref 241), ent P (S 2165357850485127146099) 496 (.ref 248), ent P (S 129065384569461) 504 (.ref 255), ent P (S 28823093466133610) 513 (.ref 262), ent P (S 30801127769404522) 519 (.ref 267), ent P (S 28541580069598314) 525 (.ref 272), ent P (S 1701671029) 532 (.ref 279), ent P (S 111490546888804) 540 (.ref 286), ent P (S 31392679273066234308940950897) 551 (.ref 293), ent P (S 478922323667592571740785) 557 (.ref 298), ent P (S 33040738702025329) 565 (.ref 305), ent P (S 7307774714166534765) 571 (.ref 310), ent P (S 140854816109632365363434125429399349832812124725344) 573 (.ref 311)]
noncomputable def o203_c24 (_ : Params) : Obj := ⟨.none, none, .fields ⟨[(.int (58) 0), (.int (4) 0), (.ref 211), (.int (61) 0), (.int (4) 0), (.ref 219), (.int (67) 0), (.int (4) 0), (.ref 226), (.int (71) 0), (.int (4) 0), (.ref 233), (.int (74) 0), (.int (4) 0), (.ref 240), (.int (78) 0), (.int (4) 0), (.ref 247), (.int (81) 0), (.int (4) 0), (.ref 254), (.int (84) 0), (.int (4) 0), (.ref 261), (.int (87) 0), (.int (4) 0), (.ref 266), (.int (90) 0), (.int (4) 0), (.ref 271), (.int (93) 0), (.int (4) 0), (.ref 278), (.int (96) 0), (.int (4) 0), (.ref 285), (.int (101) 0), (.int (4) 0), (.ref 292), (.int (112) 0), (.int (4) 0), (.ref 297), (.int (117) 0), (.int (4) 0), (.ref 304), (.int (120) 0), (.int (4) 0), (.ref 309)]⟩, #[]⟩
noncomputable def o204_c24 (_ : Params) : Obj := cO [(.str (S 2147201852470124049748) 433), (.str (S 2147201852470124049748) 434), (.str (S 9700865007064396754801562313776) 435), (.int (56) 0), (.int (0) 0), (.int (0) 0), (.int (0) 0), (.int (0) 0), (.ref 202), (.bool false), (.int (181) 0), (.ref 203), .none, .none, .none, .none, (.int (436) 0), (.int (56) 0), (.str (S 9700865007064396754801562313776) 437)]
noncomputable def o205_c24 (_ : Params) : Obj := ⟨(.type "frame"), none, .plain, #[(some (.ref 204)), (some (.ref 3)), (some (.ref 201)), none, (some (.str (S 2595807759375494792423391711955702693320880999) 376)), none, (some (.ref 0))]⟩
noncomputable def o210_c24 (_ : Params) : Obj := ⟨.none, none, .func { name := (S 6944679725401530464), qualname := (S 8395602628992143088491004079736651362039124), params := defArgs (inClass (top 23) 0), body := .stmts (defBody (inClass (top 23) 0)), scope := defScope (inClass (top 23) 0), globals := 0, closure := [], defaults := .none, kwdefaults := .none, doc := .none, pyModule := .none, annotations := none, code := .none, closureTuple := .none, builtins := 0 }, #[]⟩
noncomputable def o218_c24 (_ : Params) : Obj := ⟨.none, none, .func { name := (S 7698033), qualname := (S 9306351078043889216994357245268), params := defArgs (inClass (top 23) 1), body := .stmts (defBody (inClass (top 23) 1)), scope := defScope (inClass (top 23) 1), globals := 0, closure := [], defaults := .none, kwdefaults := .none, doc := .none, pyModule := .none, annotations := none, code := .none, closureTuple := .none, builtins := 0 }, #[]⟩
noncomputable def o225_c24 (_ : Params) : Obj := ⟨.none, none, .func { name := (S 7698020), qualname := (S 9306335362008234226815086064980), params := defArgs (inClass (top 23) 2), body := .stmts (defBody (inClass (top 23) 2)), scope := defScope (inClass (top 23) 2), globals := 0, closure := [], defaults := .none, kwdefaults := .none, doc := .none, pyModule := .none, annotations := none, code := .none, closureTuple := .none, builtins := 0 }, #[]⟩
noncomputable def o232_c24 (_ : Params) : Obj := ⟨.none, none, .func { name := (S 435727529576), qualname := (S 526762260821547473070605117598954836), params := defArgs (inClass (top 23) 3), body := .stmts (defBody (inClass (top 23) 3)), scope := defScope (inClass (top 23) 3), globals := 0, closure := [], defaults := .none, kwdefaults := .none, doc := .none, pyModule := .none, annotations := none, code := .none, closureTuple := .none, builtins := 0 }, #[]⟩
noncomputable def o239_c24 (_ : Params) : Obj := ⟨.none, none, .func { name := (S 516757173630863403280740), qualname := (S 624721089673430778640529783835705258327388943700), params := defArgs (inClass (top 23) 4), body := .stmts (defBody (inClass (top 23) 4)), scope := defScope (inClass (top 23) 4), globals := 0, closure := [], defaults := .none, kwdefaults := .none, doc := .none, pyModule := .none, annotations := none, code := .none, closureTuple := .none, builtins := 0 }, #[]⟩
noncomputable def o246_c24 (_ : Params) : Obj := ⟨.none, none, .func { name := (S 2165357850485127146099), qualname := (S 2617757014156703991004303271023538183198700884), params := defArgs (inClass (top 23) 5), body := .stmts (defBody (inClass (top 23) 5)), scope := defScope (inClass (top 23) 5), globals := 0, closure := [], defaults := .none, kwdefaults := .none, doc := .none, pyModule := .none, annotations := none, code := .none, closureTuple := .none, builtins := 0 }, #[]⟩
noncomputable def o253_c24 (_ : Params) : Obj := ⟨.none, none, .func { name := (S 129065384569461), qualname := (S 156030475824513176713048584412386784596), params := defArgs (inClass (top 23) 6), body := .stmts (defBody (inClass (top 23) 6)), scope := defScope (inClass (top 23) 6), globals := 0, closure := [], defaults := .none, kwdefaults := .none, doc := .none, pyModule := .none, annotations := none, code := .none, closureTuple := .none, builtins := 0 }, #[]⟩
noncomputable def o260_c24 (_ : Params) : Obj := ⟨.none, none, .func { name := (S 28823093466133610), qualname := (S 34844981892374637606343691086821957268820), params := defArgs (inClass (top 23) 7), body := .stmts (defBody (inClass (top 23) 7)), scope := defScope (inClass (top 23) 7), globals := 0, closure := [], defaults := .none, kwdefaults := .none, doc := .none, pyModule := .none, annotations := none, code := .none, closureTuple := .none, builtins := 0 }, #[]⟩
noncomputable def o265_c24 (_ : Params) : Obj := ⟨.none, none, .func { name := (S 30801127769404522), qualname := (S 37236278633682276866180525579755284821332), params := defArgs (inClass (top 23) 8), body := .stmts (defBody (inClass (top 23) 8)), scope := defScope (inClass (top 23) 8), globals := 0, closure := [], defaults := .none, kwdefaults := .none, doc := .none, pyModule := .none, annotations := none, code := .none, closureTuple := .none, builtins := 0 }, #[]⟩
noncomputable def o270_c24 (_ : Params) : Obj := ⟨.none, none, .func { name := (S 28541580069598314), qualname := (S 34504653078735706780555045640184744080724), params := defArgs (inClass (top 23) 9), body := .stmts (defBody (inClass (top 23) 9)), scope := defScope (inClass (top 23) 9), globals := 0, closure := [], defaults := .none, kwdefaults := .none, doc := .none, pyModule := .none, annotations := none, code := .none, closureTuple := .none, builtins := 0 }, #[]⟩
noncomputable def o277_c24 (_ : Params) : Obj := ⟨.none, none, .func { name := (S 1701671029), qualname := (S 2057194043672392837723022735668564), params := defArgs (inClass (top 23) 10), body := .stmts (defBody (inClass (top 23) 10)), scope := defScope (inClass (top 23) 10), globals := 0, closure := [], defaults := .none, kwdefaults := .none, doc := .none, pyModule := .none, annotations := none, code := .none, closureTuple := .none, builtins := 0 }, #[]⟩
noncomputable def o284_c24 (_ : Params) : Obj := ⟨.none, none, .func { name := (S 111490546888804), qualname := (S 134783800776830844550708368151093146964), params := defArgs (inClass (top 23) 11), body := .stmts (defBody (inClass (top 23) 11)), scope := defScope (inClass (top 23) 11), globals := 0, closure := [], defaults := .none, kwdefaults := .none, doc := .none, pyModule := .none, annotations := none, code := .none, closureTuple := .none, builtins := 0 }, #[]⟩
noncomputable def o291_c24 (_ : Params) : Obj := ⟨.none, none, .func { name := (S 31392679273066234308940950897), qualname := (S 37951420520090778506602714804950266613495697467733332), params := defArgs (inClass (top 23) 12), body := .stmts (defBody (inClass (top 23) 12)), scope := defScope (inClass (top 23) 12), globals := 0, closure := [], defaults := .none, kwdefaults := .none, doc := .none, pyModule := .none, annotations := none, code := .none, closureTuple := .none, builtins := 0 }, #[]⟩
noncomputable def o296_c24 (_ : Params) : Obj := ⟨.none, none, .func { name := (S 478922323667592571740785), qualname := (S 578981562671587066094221509702201825946659681620), params := defArgs (inClass (top 23) 13), body := .stmts (defBody (inClass (top 23) 13)), scope := defScope (inClass (top 23) 13), globals := 0, closure := [], defaults := .none, kwdefaults := .none, doc := .none, pyModule := .none, annotations := none, code := .none, closureTuple := .none, builtins := 0 }, #[]⟩
noncomputable def o303_c24 (_ : Params) : Obj := ⟨.none, none, .func { name := (S 33040738702025329), qualname := (S 39943802116018770004276114331333133825364), params := defArgs (inClass (top 23) 14), body := .stmts (defBody (inClass (top 23) 14)), scope := defScope (inClass (top 23) 14), globals := 0, closure := [], defaults := .none, kwdefaults := .none, doc := .none, pyModule := .none, annotations := none, code := .none, closureTuple := .none, builtins := 0 }, #[]⟩
noncomputable def o308_c24 (_ : Params) : Obj := ⟨.none, none, .func { name := (S 7307774714166534765), qualname := (S 8834557535882840484900534439152844413302100), params := defArgs (inClass (top 23) 15), body := .stmts (defBody (inClass (top 23) 15)), scope := defScope (inClass (top 23) 15), globals := 0, closure := [], defaults := .none, kwdefaults := .none, doc := .none, pyModule := .none, annotations := none, code := .none, closureTuple := .none, builtins := 0 }, #[]⟩
noncomputable def o316_c24 (_ : Params) : Obj := ⟨(.type "super"), none, .fields ⟨[(.ref 313), (.ref 313), (.ref 313)]⟩, #[]⟩
noncomputable def o317_c24 (_ : Params) : Obj := ⟨(.type "builtin_function_or_method"), none, .fields ⟨[(.builtin "object.__init_subclass__"), (.ref 313)]⟩, #[]⟩
noncomputable def tc24_64_63 (P : Params) : PySem.W.BT := .node (o12_pa P) (.node (o127 P) (.node (o255 P) (.nil) (.nil)) (.nil)) (.node (o191 P) (.nil) (.nil))
noncomputable def tc24_64_95 (P : Params) : PySem.W.BT := .node (o35 P) (.node (o159 P) (.node (o15 P) (.nil) (.nil)) (.nil)) (.node (o223 P) (.nil) (.nil))
noncomputable def tc24_64_79 (P : Params) : PySem.W.BT := .node (o79 P) (.node (o15 P) (.node (o271 P) (.nil) (.nil)) (.nil)) (.node (o12_pa P) (.nil) (.nil))
noncomputable def tc24_64_111 (P : Params) : PySem.W.BT := .node (o12_pa P) (.node (o175_c24 P) (.node (o303_c24 P) (.nil) (.nil)) (.nil)) (.node (o239_c24 P) (.nil) (.nil))
noncomputable def tc24_64_71 (P : Params) : PySem.W.BT := .node (o35 P) (.node (o12_pa P) (.node (o15 P) (.nil) (.nil)) (.nil)) (.node (o29 P) (.nil) (.nil))
noncomputable def tc24_64_103 (P : Params) : PySem.W.BT := .node (o103 P) (.node (o15 P) (.node (o12_pa P) (.nil) (.nil)) (.nil)) (.node (o15 P) (.nil) (.nil))
noncomputable def tc24_64_87 (P : Params) : PySem.W.BT := .node (o12_pa P) (.node (o12_pa P) (.node (o279 P) (.nil) (.nil)) (.nil)) (.node (o12_pa P) (.nil) (.nil))
noncomputable def tc24_64_119 (P : Params) : PySem.W.BT := .node (o35 P) (.node (o183 P) (.node (o311 P) (.nil) (.nil)) (.nil)) (.node (o247 P) (.nil) (.nil))
noncomputable def tc24_8_7 (P : Params) : PySem.W.BT := .node (PySem.W.boot_o_7 P) (.node (o15 P) (.node (o31 P) (tc24_64_63 P) (tc24_64_95 P)) (.node (o35 P) (tc24_64_79 P) (tc24_64_111 P))) (.node (o23_c24 P) (.node (o12_pa P) (tc24_64_71 P) (tc24_64_103 P)) (.node (o55 P) (tc24_64_87 P) (tc24_64_119 P)))
noncomputable def tc24_64_67 (P : Params) : PySem.W.BT := .node (o67 P) (.node (o35 P) (.node (o15 P) (.nil) (.nil)) (.nil)) (.node (o15 P) (.nil) (.nil))
noncomputable def tc24_64_99 (P : Params) : PySem.W.BT := .node (o12_pa P) (.node (o163 P) (.node (o291_c24 P) (.nil) (.nil)) (.nil)) (.node (o227 P) (.nil) (.nil))
noncomputable def tc24_64_83 (P : Params) : PySem.W.BT := .node (o35 P) (.node (o147_c24 P) (.node (o275 P) (.nil) (.nil)) (.nil)) (.node (o211 P) (.nil) (.nil))
noncomputable def tc24_64_115 (P : Params) : PySem.W.BT := .node (o115 P) (.node (o12_pa P) (.node (o12_pa P) (.nil) (.nil)) (.nil)) (.node (o12_pa P) (.nil) (.nil))
noncomputable def tc24_64_75 (P : Params) : PySem.W.BT := .node (o12_pa P) (.node (o139 P) (.node (o267 P) (.nil) (.nil)) (.nil)) (.node (o203_c24 P) (.nil) (.nil))
noncomputable def tc24_64_107 (P : Params) : PySem.W.BT := .node (o35 P) (.node (o15 P) (.node (o15 P) (.nil) (.nil)) (.nil)) (.node (o15 P) (.nil) (.nil))
noncomputable def tc24_64_91 (P : Params) : PySem.W.BT := .node (o91 P) (.node (o155 P) (.node (o15 P) (.nil) (.nil)) (.nil)) (.node (o219 P) (.nil) (.nil))
noncomputable def tc24_64_123 (P : Params) : PySem.W.BT := .node (o12_pa P) (.node (o187 P) (.node (o315 P) (.nil) (.nil)) (.nil)) (.node (o251 P) (.nil) (.nil))
noncomputable def tc24_8_11 (P : Params) : PySem.W.BT := .node (o15 P) (.node (o19_c24 P) (.node (o35 P) (tc24_64_67 P) (tc24_64_99 P)) (.node (o12_pa P) (tc24_64_83 P) (tc24_64_115 P))) (.node (o27_c24 P) (.node (o43 P) (tc24_64_75 P) (tc24_64_107 P)) (.node (o35 P) (tc24_64_91 P) (tc24_64_123 P)))
noncomputable def tc24_64_65 (P : Params) : PySem.W.BT := .node (o65_c24 P) (.node (o129_c24 P) (.node (o12_pa P) (.nil) (.nil)) (.nil)) (.node (o12_pa P) (.nil) (.nil))
noncomputable def tc24_64_97 (P : Params) : PySem.W.BT := .node (o97_c24 P) (.node (o161_c24 P) (.node (o289 P) (.nil) (.nil)) (.nil)) (.node (o225_c24 P) (.nil) (.nil))
noncomputable def tc24_64_81 (P : Params) : PySem.W.BT := .node (o81_c24 P) (.node (o145 P) (.node (o15 P) (.nil) (.nil)) (.nil)) (.node (o15 P) (.nil) (.nil))
noncomputable def tc24_64_113 (P : Params) : PySem.W.BT := .node (o113_c24 P) (.node (o177 P) (.node (o305 P) (.nil) (.nil)) (.nil)) (.node (o241 P) (.nil) (.nil))
noncomputable def tc24_64_73 (P : Params) : PySem.W.BT := .node (o73_c24 P) (.node (o137_c24 P) (.node (o265_c24 P) (.nil) (.nil)) (.nil)) (.node (o201_c24 P) (.nil) (.nil))
noncomputable def tc24_64_105 (P : Params) : PySem.W.BT := .node (o105_c24 P) (.node (o169 P) (.node (o297 P) (.nil) (.nil)) (.nil)) (.node (o233 P) (.nil) (.nil))
noncomputable def tc24_64_89 (P : Params) : PySem.W.BT := .node (o89_c24 P) (.node (o15 P) (.node (o12_pa P) (.nil) (.nil)) (.nil)) (.node (o15 P) (.nil) (.nil))
noncomputable def tc24_64_121 (P : Params) : PySem.W.BT := .node (o121_c24 P) (.node (o15 P) (.node (o313 P) (.nil) (.nil)) (.nil)) (.node (o15 P) (.nil) (.nil))
noncomputable def tc24_8_9 (P : Params) : PySem.W.BT := .node (PySem.W.boot_o_9 P) (.node (o17 P) (.node (o33_c24 P) (tc24_64_65 P) (tc24_64_97 P)) (.node (o49_c24 P) (tc24_64_81 P) (tc24_64_113 P))) (.node (o15 P) (.node (o41_c24 P) (tc24_64_73 P) (tc24_64_105 P)) (.node (o57_c24 P) (tc24_64_89 P) (tc24_64_121 P)))
noncomputable def tc24_64_69 (P : Params) : PySem.W.BT := .node (o69_c24 P) (.node (o133_c24 P) (.node (o261 P) (.nil) (.nil)) (.nil)) (.node (o197 P) (.nil) (.nil))
noncomputable def tc24_64_101 (P : Params) : PySem.W.BT := .node (o101_c24 P) (.node (o12_pa P) (.node (o293 P) (.nil) (.nil)) (.nil)) (.node (o12_pa P) (.nil) (.nil))
noncomputable def tc24_64_85 (P : Params) : PySem.W.BT := .node (o85_c24 P) (.node (o149 P) (.node (o277_c24 P) (.nil) (.nil)) (.nil)) (.node (o213 P) (.nil) (.nil))
noncomputable def tc24_64_117 (P : Params) : PySem.W.BT := .node (o117_c24 P) (.node (o15 P) (.node (o309 P) (.nil) (.nil)) (.nil)) (.node (o15 P) (.nil) (.nil))
noncomputable def tc24_64_77 (P : Params) : PySem.W.BT := .node (o77_c24 P) (.node (o141_c24 P) (.node (o12_pa P) (.nil) (.nil)) (.nil)) (.node (o205_c24 P) (.nil) (.nil))
noncomputable def tc24_64_109 (P : Params) : PySem.W.BT := .node (o109_c24 P) (.node (o173 P) (.node (o301 P) (.nil) (.nil)) (.nil)) (.node (o237 P) (.nil) (.nil))
noncomputable def tc24_64_93 (P : Params) : PySem.W.BT := .node (o93_c24 P) (.node (o15 P) (.node (o285 P) (.nil) (.nil)) (.nil)) (.node (o15 P) (.nil) (.nil))
noncomputable def tc24_64_125 (P : Params) : PySem.W.BT := .node (o125_c24 P) (.node (o189_c24 P) (.node (o317_c24 P) (.nil) (.nil)) (.nil)) (.node (o253_c24 P) (.nil) (.nil))
noncomputable def tc24_8_13 (P : Params) : PySem.W.BT := .node (o13_pa P) (.node (o21 P) (.node (o37_c24 P) (tc24_64_69 P) (tc24_64_101 P)) (.node (o53_c24 P) (tc24_64_85 P) (tc24_64_117 P))) (.node (o29 P) (.node (o45_c24 P) (tc24_64_77 P) (tc24_64_109 P)) (.node (o61_c24 P) (tc24_64_93 P) (tc24_64_125 P)))
noncomputable def tc24_64_64 (P : Params) : PySem.W.BT := .node (o64_c24 P) (.node (o128 P) (.node (o15 P) (.nil) (.nil)) (.nil)) (.node (o15 P) (.nil) (.nil))
noncomputable def tc24_64_96 (P : Params) : PySem.W.BT := .node (o23_c24 P) (.node (o15 P) (.node (o12_pa P) (.nil) (.nil)) (.nil)) (.node (o15 P) (.nil) (.nil))
noncomputable def tc24_64_80 (P : Params) : PySem.W.BT := .node (o80 P) (.node (o12_pa P) (.node (o272 P) (.nil) (.nil)) (.nil)) (.node (o208 P) (.nil) (.nil))
noncomputable def tc24_64_112 (P : Params) : PySem.W.BT := .node (o112_c24 P) (.node (o176 P) (.node (o304 P) (.nil) (.nil)) (.nil)) (.node (o240 P) (.nil) (.nil))
noncomputable def tc24_64_72 (P : Params) : PySem.W.BT := .node (o23_c24 P) (.node (o136_c24 P) (.node (o12_pa P) (.nil) (.nil)) (.nil)) (.node (o23_c24 P) (.nil) (.nil))
noncomputable def tc24_64_104 (P : Params) : PySem.W.BT := .node (o104 P) (.node (o168_c24 P) (.node (o296_c24 P) (.nil) (.nil)) (.nil)) (.node (o232_c24 P) (.nil) (.nil))
noncomputable def tc24_64_88 (P : Params) : PySem.W.BT := .node (o88_c24 P) (.node (o152 P) (.node (o15 P) (.nil) (.nil)) (.nil)) (.node (o216 P) (.nil) (.nil))
noncomputable def tc24_64_120 (P : Params) : PySem.W.BT := .node (o23_c24 P) (.node (o184 P) (.node (o312 P) (.nil) (.nil)) (.nil)) (.node (o248 P) (.nil) (.nil))
noncomputable def tc24_8_8 (P : Params) : PySem.W.BT := .node (PySem.W.boot_o_8 P) (.node (o12_pa P) (.node (o32 P) (tc24_64_64 P) (tc24_64_96 P)) (.node (o23_c24 P) (tc24_64_80 P) (tc24_64_112 P))) (.node (o24_c24 P) (.node (o40_c24 P) (tc24_64_72 P) (tc24_64_104 P)) (.node (o56 P) (tc24_64_88 P) (tc24_64_120 P)))
noncomputable def tc24_64_68 (P : Params) : PySem.W.BT := .node (o68 P) (.node (o23_c24 P) (.node (o260_c24 P) (.nil) (.nil)) (.nil)) (.node (o196_c24 P) (.nil) (.nil))
noncomputable def tc24_64_100 (P : Params) : PySem.W.BT := .node (o100_c24 P) (.node (o15 P) (.node (o292 P) (.nil) (.nil)) (.nil)) (.node (o15 P) (.nil) (.nil))
noncomputable def tc24_64_84 (P : Params) : PySem.W.BT := .node (o23_c24 P) (.node (o148 P) (.node (o15 P) (.nil) (.nil)) (.nil)) (.node (o212 P) (.nil) (.nil))
noncomputable def tc24_64_116 (P : Params) : PySem.W.BT := .node (o116 P) (.node (o180 P) (.node (o308_c24 P) (.nil) (.nil)) (.nil)) (.node (o244 P) (.nil) (.nil))
noncomputable def tc24_64_76 (P : Params) : PySem.W.BT := .node (o76_c24 P) (.node (o140 P) (.node (o15 P) (.nil) (.nil)) (.nil)) (.node (o204_c24 P) (.nil) (.nil))
noncomputable def tc24_64_108 (P : Params) : PySem.W.BT := .node (o23_c24 P) (.node (o12_pa P) (.node (o12_pa P) (.nil) (.nil)) (.nil)) (.node (o12_pa P) (.nil) (.nil))
noncomputable def tc24_64_92 (P : Params) : PySem.W.BT := .node (o92 P) (.node (o156 P) (.node (o284_c24 P) (.nil) (.nil)) (.nil)) (.node (o220 P) (.nil) (.nil))
noncomputable def tc24_64_124 (P : Params) : PySem.W.BT := .node (o124_c24 P) (.node (o15 P) (.node (o316_c24 P) (.nil) (.nil)) (.nil)) (.node (o15 P) (.nil) (.nil))
noncomputable def tc24_8_12 (P : Params) : PySem.W.BT := .node (o12_c24 P) (.node (o20 P) (.node (o23_c24 P) (tc24_64_68 P) (tc24_64_100 P)) (.node (o52_c24 P) (tc24_64_84 P) (tc24_64_116 P))) (.node (o28_c24 P) (.node (o44 P) (tc24_64_76 P) (tc24_64_108 P)) (.node (o23_c24 P) (tc24_64_92 P) (tc24_64_124 P)))
noncomputable def tc24_64_66 (P : Params) : PySem.W.BT := .node (o29 P) (.node (o130_c24 P) (.node (o258 P) (.nil) (.nil)) (.nil)) (.node (o194 P) (.nil) (.nil))
noncomputable def tc24_64_98 (P : Params) : PySem.W.BT := .node (o15 P) (.node (o162 P) (.node (o15 P) (.nil) (.nil)) (.nil)) (.node (o226 P) (.nil) (.nil))
noncomputable def tc24_64_82 (P : Params) : PySem.W.BT := .node (o82_c24 P) (.node (o15 P) (.node (o12_pa P) (.nil) (.nil)) (.nil)) (.node (o210_c24 P) (.nil) (.nil))
noncomputable def tc24_64_114 (P : Params) : PySem.W.BT := .node (o29 P) (.node (o15 P) (.node (o15 P) (.nil) (.nil)) (.nil)) (.node (o15 P) (.nil) (.nil))
noncomputable def tc24_64_74 (P : Params) : PySem.W.BT := .node (o15 P) (.node (o29 P) (.node (o266 P) (.nil) (.nil)) (.nil)) (.node (o15 P) (.nil) (.nil))
noncomputable def tc24_64_106 (P : Params) : PySem.W.BT := .node (o106_c24 P) (.node (o170 P) (.node (o298 P) (.nil) (.nil)) (.nil)) (.node (o234 P) (.nil) (.nil))
noncomputable def tc24_64_90 (P : Params) : PySem.W.BT := .node (o29 P) (.node (o154_c24 P) (.node (o282 P) (.nil) (.nil)) (.nil)) (.node (o218_c24 P) (.nil) (.nil))
noncomputable def tc24_64_122 (P : Params) : PySem.W.BT := .node (o15 P) (.node (o12_pa P) (.node (o314 P) (.nil) (.nil)) (.nil)) (.node (o12_pa P) (.nil) (.nil))
noncomputable def tc24_8_10 (P : Params) : PySem.W.BT := .node (PySem.W.boot_o_10 P) (.node (o15 P) (.node (o34_c24 P) (tc24_64_66 P) (tc24_64_98 P)) (.node (o15 P) (tc24_64_82 P) (tc24_64_114 P))) (.node (o12_pa P) (.node (o29 P) (tc24_64_74 P) (tc24_64_106 P)) (.node (o58_c24 P) (tc24_64_90 P) (tc24_64_122 P)))
noncomputable def tc24_64_70 (P : Params) : PySem.W.BT := .node (o70_c24 P) (.node (o15 P) (.node (o262 P) (.nil) (.nil)) (.nil)) (.node (o198 P) (.nil) (.nil))
noncomputable def tc24_64_102 (P : Params) : PySem.W.BT := .node (o29 P) (.node (o166 P) (.node (o15 P) (.nil) (.nil)) (.nil)) (.node (o230 P) (.nil) (.nil))
noncomputable def tc24_64_86 (P : Params) : PySem.W.BT := .node (o15 P) (.node (o15 P) (.node (o278 P) (.nil) (.nil)) (.nil)) (.node (o15 P) (.nil) (.nil))
noncomputable def tc24_64_118 (P : Params) : PySem.W.BT := .node (o118_c24 P) (.node (o182_c24 P) (.node (o310 P) (.nil) (.nil)) (.nil)) (.node (o246_c24 P) (.nil) (.nil))
noncomputable def tc24_64_78 (P : Params) : PySem.W.BT := .node (o29 P) (.node (o142_c24 P) (.node (o270_c24 P) (.nil) (.nil)) (.nil)) (.node (o15 P) (.nil) (.nil))
noncomputable def tc24_64_110 (P : Params) : PySem.W.BT := .node (o15 P) (.node (o15 P) (.node (o15 P) (.nil) (.nil)) (.nil)) (.node (o15 P) (.nil) (.nil))
noncomputable def tc24_64_94 (P : Params) : PySem.W.BT := .node (o94_c24 P) (.node (o12_pa P) (.node (o286 P) (.nil) (.nil)) (.nil)) (.node (o12_pa P) (.nil) (.nil))
noncomputable def tc24_64_126 (P : Params) : PySem.W.BT := .node (o29 P) (.node (o190 P) (.nil) (.nil)) (.node (o254 P) (.nil) (.nil))
noncomputable def tc24_8_14 (P : Params) : PySem.W.BT := .node (o14_pa P) (.node (o22 P) (.node (o15 P) (tc24_64_70 P) (tc24_64_102 P)) (.node (o29 P) (tc24_64_86 P) (tc24_64_118 P))) (.node (o30 P) (.node (o46_c24 P) (tc24_64_78 P) (tc24_64_110 P)) (.node (o15 P) (tc24_64_94 P) (tc24_64_126 P)))
noncomputable def tc24_1_0 (P : Params) : PySem.W.BT := .node (PySem.W.boot_o_0 P) (.node (PySem.W.boot_o_1 P) (.node (o3_c24 P) (tc24_8_7 P) (tc24_8_11 P)) (.node (PySem.W.boot_o_5 P) (tc24_8_9 P) (tc24_8_13 P))) (.node (PySem.W.boot_o_2 P) (.node (PySem.W.boot_o_4 P) (tc24_8_8 P) (tc24_8_12 P)) (.node (PySem.W.boot_o_6 P) (tc24_8_10 P) (tc24_8_14 P)))
noncomputable def sc24 (w : World) (os : OsState) : PySem.W.SharedT := ⟨tc24_1_0 w.params, 318, (PySem.W.boot_heap w.params).life, #[], PySem.W.boot_drawn, 581, os⟩
noncomputable def bs : List Stmt := PySem.W.behindTheImports PySem.Challenge.pw_frameland_k46_busy_banks
noncomputable def env : Env := { scope := PySem.Challenge.pw_frameland_k46_busy_banks.main.scope, locals := mainNs, globals := mainNs, cells := [], code := (.ref 13), frame := some 14 }
noncomputable def L0 (w : World) (os : OsState) := goT treeTable PySem.Challenge.pw_frameland_k46_busy_banks w (PySem.W.boot_heap w.params).objs.size (ann0 w) 12 (bootS w os) (PySem.W.topStub PySem.Challenge.pw_frameland_k46_busy_banks)
noncomputable def R0 (w : World) (os : OsState) := some (spa w os, (⟨denote treeTable (Code.body bs env), (Code.body bs env), ⟨0, 0, 0, 0⟩, [PySem.W.topFrame ⟨0, 0, 0, 0⟩]⟩ : Thread))
noncomputable def L1 (w : World) (os : OsState) := PySem.W.segRunT treeTable PySem.Challenge.pw_frameland_k46_busy_banks w (PySem.W.boot_heap w.params).objs.size (ann0 w) 1 1 (spa w os) (PySem.W.blockOf bs env (Code.body bs env) ⟨0, 0, 0, 0⟩ [PySem.W.topFrame ⟨0, 0, 0, 0⟩])
noncomputable def R1 (w : World) (os : OsState) := some (Flow.next, spb w os, (Code.body bs env), (⟨0, 0, 0, 0⟩ : Pos))
noncomputable def L2 (w : World) (os : OsState) := PySem.W.segRunT treeTable PySem.Challenge.pw_frameland_k46_busy_banks w (PySem.W.boot_heap w.params).objs.size (ann0 w) 1 3108 (spb w os) (PySem.W.piecesOf ((bs).take 24) env (Code.body bs env) ⟨0, 0, 0, 0⟩ [PySem.W.topFrame ⟨0, 0, 0, 0⟩])
noncomputable def R2 (w : World) (os : OsState) := some (Flow.next, sc24 w os, (Code.body bs env), (⟨56, 0, 127, 87⟩ : Pos))
noncomputable def lhs (w : World) (os : OsState) := (runT treeTable PySem.Challenge.pw_frameland_k46_busy_banks w (PySem.W.boot_heap w.params).objs.size (ann0 w) 4980 (sc24 w os) (PySem.W.restOf ((bs).drop 24) env (Code.body bs env) ⟨56, 0, 127, 87⟩ [PySem.W.topFrame ⟨0, 0, 0, 0⟩])).map (fun s => look PySem.Challenge.pw_frameland_k46_busy_banks (fun s => adr.map s.heap.get?) (PySem.W.boot_heap w.params) s.abs)
noncomputable def rhs (w : World) := some (true, Kc w.params)
noncomputable def lht (w : World) (os : OsState) := (runT treeTable PySem.Challenge.pw_frameland_k46_busy_banks w (PySem.W.boot_heap w.params).objs.size (ann0 w) 4980 (sc24 w os) (PySem.W.restOf ((bs).drop 24) env (Code.body bs env) ⟨56, 0, 127, 87⟩ [PySem.W.topFrame ⟨0, 0, 0, 0⟩])).map (fun s => PySem.W.openSeen vw [] (PySem.importedModules PySem.Challenge.pw_frameland_k46_busy_banks.main.body) (fun s => PySem.W.xlAt vw [] s && PySem.W.recOk (PySem.W.RowW.records (PySem.Challenge.rw_frameland_k46_busy_banks).row.toRowW) s) true s.abs)
noncomputable def rht := some (PySem.W.openGood vw [])
theorem twins0 : (fun (_ _ : World → OsState → _) => true) L0 R0 = true := by k_qdec
theorem run0 : ∀ (w : World) (os : OsState), PySem.W.Fast.tw6480634986709459259 w os = PySem.W.Fast.tw3368112316094526086 w os := by intro w os; kernel_rfl
theorem h0 (w : World) (os : OsState) : goT treeTable PySem.Challenge.pw_frameland_k46_busy_banks w (PySem.W.boot_heap w.params).objs.size (ann0 w) 12 (bootS w os) (PySem.W.topStub PySem.Challenge.pw_frameland_k46_busy_banks) = some (spa w os, (⟨denote treeTable (Code.body bs env), (Code.body bs env), ⟨0, 0, 0, 0⟩, [PySem.W.topFrame ⟨0, 0, 0, 0⟩]⟩ : Thread)) := (congrFun (congrFun PySem.W.Fast.te6480634986709459259 w) os).trans ((run0 w os).trans (congrFun (congrFun PySem.W.Fast.te3368112316094526086 w) os).symm)
theorem twins1 : (fun (_ _ : World → OsState → _) => true) L1 R1 = true := by k_qdec
theorem run1 : ∀ (w : World) (os : OsState), PySem.W.Fast.tw6549898218072122711 w os = PySem.W.Fast.tw8138977323033037049 w os := by intro w os; kernel_rfl
theorem h1 (w : World) (os : OsState) : PySem.W.segRunT treeTable PySem.Challenge.pw_frameland_k46_busy_banks w (PySem.W.boot_heap w.params).objs.size (ann0 w) 1 1 (spa w os) (PySem.W.blockOf bs env (Code.body bs env) ⟨0, 0, 0, 0⟩ [PySem.W.topFrame ⟨0, 0, 0, 0⟩]) = some (Flow.next, spb w os, (Code.body bs env), (⟨0, 0, 0, 0⟩ : Pos)) := (congrFun (congrFun PySem.W.Fast.te6549898218072122711 w) os).trans ((run1 w os).trans (congrFun (congrFun PySem.W.Fast.te8138977323033037049 w) os).symm)
theorem twins2 : (fun (_ _ : World → OsState → _) => true) L2 R2 = true := by k_qdec
theorem run2 : ∀ (w : World) (os : OsState), PySem.W.Fast.tw5255168214638199525 w os = PySem.W.Fast.tw18023110596874490952 w os := by intro w os; kernel_rfl
theorem h2 (w : World) (os : OsState) : PySem.W.segRunT treeTable PySem.Challenge.pw_frameland_k46_busy_banks w (PySem.W.boot_heap w.params).objs.size (ann0 w) 1 3108 (spb w os) (PySem.W.piecesOf ((bs).take 24) env (Code.body bs env) ⟨0, 0, 0, 0⟩ [PySem.W.topFrame ⟨0, 0, 0, 0⟩]) = some (Flow.next, sc24 w os, (Code.body bs env), (⟨56, 0, 127, 87⟩ : Pos)) := (congrFun (congrFun PySem.W.Fast.te5255168214638199525 w) os).trans ((run2 w os).trans (congrFun (congrFun PySem.W.Fast.te18023110596874490952 w) os).symm)
theorem twins : (fun (_ : World → OsState → _) (_ : World → _) (_ : World → OsState → _) (_ : Option _) => true) lhs rhs lht rht = true := by k_qdec
theorem run_one : ∀ (w : World) (os : OsState), PySem.W.Fast.tw7128866508377749982 w os = PySem.W.Fast.tw12590348191598281069 w := by intro w os; kernel_rfl
theorem run_two : ∀ (w : World) (os : OsState), PySem.W.Fast.tw7374437481920917934 w os = PySem.W.Fast.tw10733892774512676622 := by intro w os; kernel_rfl
theorem left : PySem.W.LeftO PySem.Challenge.pw_frameland_k46_busy_banks vw [] (fun s => PySem.W.xlAt vw [] s && PySem.W.recOk (PySem.W.RowW.records (PySem.Challenge.rw_frameland_k46_busy_banks).row.toRowW) s) (fun s => adr.map s.heap.get?) (fun w => (Kf w.params).map fun p => some p.2) (12 + (1 + (3108 + (4980)))) := by
  refine left_lead (Nl := 4980) (S := sc24) (t := (PySem.W.restOf ((bs).drop 24) env (Code.body bs env) ⟨56, 0, 127, 87⟩ [PySem.W.topFrame ⟨0, 0, 0, 0⟩])) (by kernel_rfl) (by kernel_rfl) (by intro s; kernel_rfl) (fun w os r k => PySem.W.go_top (n := 12) (N := 1 + (3108 + (4980))) (goT_of (h0 w os)) (PySem.W.piece_block (n := 1) (N := 3108 + (4980)) (PySem.W.segRun_of (h1 w os)) (seg_on (n := 3108) (N := 4980) (h2 w os) k))) (fun w os => ?_) fun w os => ?_
  · rw [← kc_eq]; exact (congrFun (congrFun PySem.W.Fast.te7128866508377749982 w) os).trans ((run_one w os).trans (congrFun PySem.W.Fast.te12590348191598281069 w).symm)
  · exact (congrFun (congrFun PySem.W.Fast.te7374437481920917934 w) os).trans ((run_two w os).trans PySem.W.Fast.te10733892774512676622.symm)
end

end Pf
open PySem PySem.W PyProof.Rows
set_option maxRecDepth 100000 in
set_option maxHeartbeats 0 in
theorem PySem.Challenge.cw_frameland_k46_busy_banks_holds : PySem.Challenge.rw_frameland_k46_busy_banks.Holds := by
  w_on; o_law
  refine holds_open (q := Pf.vw) (loose := []) (Xt := fun s => xlAt Pf.vw [] s && recOk (RowW.records (PySem.Challenge.rw_frameland_k46_busy_banks).row.toRowW) s) (XP := XL Pf.vw []) (Yf := Hook.obs (kHook Pf.Kf Pf.adr Pf.adr_eq)) (Ya := Hook.val (kHook Pf.Kf Pf.adr Pf.adr_eq)) (YP := Hook.says (kHook Pf.Kf Pf.adr Pf.adr_eq)) (N := (12 + (1 + (3108 + (4980))))) Pf.left (Hook.of (kHook Pf.Kf Pf.adr Pf.adr_eq)) (Hook.keeps (kHook Pf.Kf Pf.adr Pf.adr_eq)) (fun s e => xl_of s (Bool.and_eq_true_iff.mp e).1) XL.keeps (by rfl) (by rfl) (by rfl) (fun s e => recFacts_of (Bool.and_eq_true_iff.mp e).2) (by rfl) (by first | assumption | decide +kernel) (by decide +kernel) ⟨rfl, rfl, rfl, rfl, rfl, by decide +kernel⟩ ?hw ?hc
  case hw => w_witness2
  k_fill
  refine Pf.walk (l := PySem.Challenge.rw_frameland_k46_busy_banks) rfl rfl rfl (fun w h Y => PySem.W.kIn_of Y) ?F
  case F =>
    intro w mg h KX G
    refine' Pf.txt_mk KX G ?g0 ?g1 ?g2 ?g3 ?g4 ?g5 ?g6 ?g7 ?g8 ?g9 ?g10 ?g11 ?g12 ?g13 ?g14 ?g15 ?g16 ?g17 ?g18 ?g19 ?g20 ?g21 ?g22 ?g23 ?g24 ?g25 ?g26 ?g27 ?g28 ?g29 ?g30 ?g31 ?g32 ?g33 ?g34 ?g35 ?g36 ?g37 ?g38 ?g39 ?g40 ?g41 ?g42 ?g43 ?g44 ?g45 ?g46 ?g47 ?g48 ?g49 ?g50 ?g51 ?g52 ?g53 ?g54 ?g55 ?g56 ?g57 ?g58 ?g59 ?g60 ?g61 ?g62 ?g63 ?g64 ?g65 ?g66 ?g67 ?g68 ?g69 ?g70 ?g71 ?g72 ?g73 ?g74 ?g75 ?g76 ?g77 ?g78 ?g79 ?g80 ?g81 ?g82 ?g83 ?g84 ?g85 ?g86 ?g87 ?g88 ?g89 ?g90 ?g91 ?g92 ?g93 ?g94 ?g95 ?g96 ?g97 ?g98 ?g99 ?g100 ?g101 ?g102 ?g103 ?g104 ?g105 ?g106 ?g107 ?g108 ?g109 ?g110 ?g111 ?g112 ?g113 ?g114 ?g115 ?g116 ?g117 ?g118 ?g119 ?g120 ?g121 ?g122 ?g123 ?g124 ?g125 ?g126 ?g127 ?g128 ?g129 ?g130 ?g131 ?g132 ?g133 ?g134 ?g135 ?g136 ?g137 ?g138 ?g139 ?g140 ?g141 ?g142 ?g143 ?g144 ?g145 ?g146 ?g147 ?g148 ?g149 ?g150 ?g151 ?g152 ?g153 ?g154 ?g155 ?g156 ?g157 ?g158 ?g159 ?g160 ?g161 ?g162 ?g163 ?g164 ?g165 ?g166 ?g167 ?g168 ?g169 ?g170 ?g171 ?g172 ?g173 ?g174 ?g175 ?g176 ?g177 ?g178 ?g179 ?g180 ?g181 ?g182 ?g183 ?g184 ?g185 ?g186 ?g187 ?g188 ?g189 ?g190 ?g191 ?g192 ?g193 ?g194 ?g195 ?g196 ?g197 ?g198 ?g199 ?g200 ?g201 ?g202 ?g203 ?g204 ?g205 ?g206 ?g207 ?g208 ?g209 ?g210 ?g211 ?g212 ?g213 ?g214 ?g215 ?g216 ?g217 ?g218 ?g219 ?g220 ?g221 ?g222 ?g223 ?g224 ?g225 ?g226 ?g227 ?g228 ?g229 ?g230 ?g231 ?g232 ?g233 ?g234 ?g235 ?g236 ?g237 ?g238 ?g239 ?g240 ?g241 ?g242 ?g243 ?g244 ?g245 ?g246 ?g247 ?g248 ?g249 ?g250 ?g251 ?g252 ?g253 ?g254 ?g255 ?g256 ?g257 ?g258 ?g259 ?g260 ?g261 ?g262 ?g263 ?g264 ?g265 ?g266 ?g267 ?g268 ?g269 ?g270 ?g271 ?g272 ?g273 ?g274 ?g275 ?g276 ?g277 ?g278 ?g279 ?g280 ?g281 ?g282 ?g283 ?g284 ?g285 ?g286 ?g287 ?g288 ?g289
    (case g0 => k_is); (case g1 => k_is); (case g2 => k_is); (case g3 => k_is); (case g4 => k_is); (case g5 => k_is)
    (case g6 => k_is); (case g7 => k_is); (case g8 => k_is); (case g9 => k_is); (case g10 => k_is); (case g11 => k_is)
    (case g12 => k_is); (case g13 => k_is); (case g14 => k_is); (case g15 => k_is); (case g16 => k_is); (case g17 => k_is)
    (case g18 => k_is); (case g19 => k_is); (case g20 => k_is); (case g21 => k_is); (case g22 => k_is); (case g23 => k_is)
    (case g24 => k_is); (case g25 => k_is); (case g26 => k_is); (case g27 => k_is); (case g28 => k_is); (case g29 => k_is)
    (case g30 => k_is); (case g31 => k_is); (case g32 => k_is); (case g33 => k_is); (case g34 => k_is); (case g35 => k_is)
    (case g36 => k_is); (case g37 => k_is); (case g38 => k_is); (case g39 => k_is); (case g40 => k_is); (case g41 => k_is)
    (case g42 => k_is); (case g43 => k_is); (case g44 => k_is); (case g45 => k_is); (case g46 => k_is); (case g47 => k_is)
    (case g48 => k_is); (case g49 => k_is); (case g50 => k_is); (case g51 => k_is); (case g52 => k_is); (case g53 => k_is)
    (case g54 => k_is); (case g55 => k_is); (case g56 => k_is); (case g57 => k_is); (case g58 => k_is); (case g59 => k_is)
    (case g60 => k_is); (case g61 => k_is); (case g62 => k_is); (case g63 => k_is); (case g64 => k_is); (case g65 => k_is)
    (case g66 => k_is); (case g67 => k_is); (case g68 => k_is); (case g69 => k_is); (case g70 => k_is); (case g71 => k_is)
    (case g72 => k_is); (case g73 => k_is); (case g74 => k_is); (case g75 => k_is); (case g76 => k_is); (case g77 => k_is)
    (case g78 => k_is); (case g79 => k_is); (case g80 => k_is); (case g81 => k_is); (case g82 => k_is); (case g83 => k_is)
    (case g84 => k_is); (case g85 => k_is); (case g86 => k_is); (case g87 => k_is); (case g88 => k_is); (case g89 => k_is)
    (case g90 => k_is); (case g91 => k_is); (case g92 => k_is); (case g93 => k_is); (case g94 => k_is); (case g95 => k_is)
    (case g96 => k_is); (case g97 => k_is); (case g98 => k_is); (case g99 => k_is); (case g100 => k_is); (case g101 => k_is)
    (case g102 => k_is); (case g103 => k_is); (case g104 => k_is); (case g105 => k_is); (case g106 => k_is); (case g107 => k_is)
    (case g108 => k_is); (case g109 => k_is); (case g110 => k_is); (case g111 => k_is); (case g112 => k_is); (case g113 => k_is)
    (case g114 => k_is); (case g115 => k_is); (case g116 => k_is); (case g117 => k_is); (case g118 => k_is); (case g119 => k_is)
    (case g120 => k_is); (case g121 => k_is); (case g122 => k_is); (case g123 => k_is); (case g124 => k_is); (case g125 => k_is)
    (case g126 => k_is); (case g127 => k_is); (case g128 => k_is); (case g129 => k_is); (case g130 => k_is); (case g131 => k_is)
    (case g132 => k_is); (case g133 => k_is); (case g134 => k_is); (case g135 => k_is); (case g136 => k_is); (case g137 => k_is)
    (case g138 => k_is); (case g139 => k_is); (case g140 => k_is); (case g141 => k_is); (case g142 => k_is); (case g143 => k_is)
    (case g144 => k_is); (case g145 => k_is); (case g146 => k_is); (case g147 => k_is); (case g148 => k_is); (case g149 => k_is)
    (case g150 => k_is); (case g151 => k_is); (case g152 => k_is); (case g153 => k_is); (case g154 => k_is); (case g155 => k_is)
    (case g156 => k_is); (case g157 => k_is); (case g158 => k_is); (case g159 => k_is); (case g160 => k_is); (case g161 => k_is)
    (case g162 => k_is); (case g163 => k_is); (case g164 => k_is); (case g165 => k_is); (case g166 => k_is); (case g167 => k_is)
    (case g168 => k_is); (case g169 => k_is); (case g170 => k_is); (case g171 => k_is); (case g172 => k_is); (case g173 => k_is)
    (case g174 => k_is); (case g175 => k_is); (case g176 => k_is); (case g177 => k_is); (case g178 => k_is); (case g179 => k_is)
    (case g180 => k_is); (case g181 => k_is); (case g182 => k_is); (case g183 => k_is); (case g184 => k_is); (case g185 => k_is)
    (case g186 => k_is); (case g187 => k_is); (case g188 => k_is); (case g189 => k_is); (case g190 => k_is); (case g191 => k_is)
    (case g192 => k_is); (case g193 => k_is); (case g194 => k_is); (case g195 => k_is); (case g196 => k_is); (case g197 => k_is)
    (case g198 => k_is); (case g199 => k_is); (case g200 => k_is); (case g201 => k_is); (case g202 => k_is); (case g203 => k_is)
    (case g204 => k_is); (case g205 => k_is); (case g206 => k_is); (case g207 => k_is); (case g208 => k_is); (case g209 => k_is)
    (case g210 => k_is); (case g211 => k_is); (case g212 => k_is); (case g213 => k_is); (case g214 => k_is); (case g215 => k_is)
    (case g216 => k_is); (case g217 => k_is); (case g218 => k_is); (case g219 => k_is); (case g220 => k_is); (case g221 => k_is)
    (case g222 => k_is); (case g223 => k_is); (case g224 => k_is); (case g225 => k_is); (case g226 => k_is); (case g227 => k_is)
    (case g228 => k_is); (case g229 => k_is); (case g230 => k_is); (case g231 => k_is); (case g232 => k_is); (case g233 => k_is)
    (case g234 => k_is); (case g235 => k_is); (case g236 => k_is); (case g237 => k_is); (case g238 => k_is); (case g239 => k_is)
    (case g240 => k_is); (case g241 => k_is); (case g242 => k_is); (case g243 => k_is); (case g244 => k_is); (case g245 => k_is)
    (case g246 => k_is); (case g247 => k_is); (case g248 => k_is); (case g249 => k_is); (case g250 => k_is); (case g251 => k_is)
    (case g252 => k_is); (case g253 => k_is); (case g254 => k_is); (case g255 => k_exc); (case g256 => k_exc); (case g257 => k_exc)
    (case g258 => k_exc); (case g259 => k_exc); (case g260 => k_exc); (case g261 => k_exc); (case g262 => k_exc); (case g263 => k_is)
    (case g264 => k_is); (case g265 => k_is); (case g266 => k_is); (case g267 => k_is); (case g268 => k_is); (case g269 => k_is)
    (case g270 => k_is); (case g271 => k_exc); (case g272 => k_is); (case g273 => k_is); (case g274 => k_is); (case g275 => k_is)
    (case g276 => k_is); (case g277 => k_is); (case g278 => k_is); (case g279 => k_is); (case g280 => k_is); (case g281 => k_is)
    (case g282 => kit_is); (case g283 => kit_is); (case g284 => kit_is); (case g285 => kit_is); (case g286 => k_is); (case g287 => k_is)
    (case g288 => k_is); (case g289 => k_is)
