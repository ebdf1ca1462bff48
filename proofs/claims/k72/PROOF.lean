import PyProof.Rows.All
import Wide.All
import OpenK.AllK
import Wide.FinOn
import Lean
import PyProof.EqAt
import PyProof.EqKinds
import PyProof.TupleCall
import PyProof.NeKinds
import PyProof.EnumMake
import PyProof.EnumStmt
import PyProof.LayNew
import KE.KDictLaws
import KE.KDictSum
import KE.LcSums
import PyProof.Rows.SumAny
import PyProof.Rows.SortWalk
import PyProof.DictWalks
import PyProof.Rows.SortRev
import KE.KRevIter
import KE.KIntText
import PyProof.CallStr
import PyProof.StrCalls2
import PyProof.Rows.StrJoin2
import PyProof.StrWalks
import PyProof.Rows.Range3
import PySem.Challenge.RW_frameland_k72_book_true
set_option Elab.async false
set_option linter.all false
set_option maxRecDepth 100000
namespace L2
open PySem PySem.Spec PyProof.Rows
abbrev Key := Sum Int Str
def keyIs : Key → Value → Bool
  | .inl k, v => Value.isInt k v
  | .inr x, v => Value.isStrOf x v
def keyH (w : World) : Key → Int
  | .inl k => hashInt k
  | .inr x => hashStr w x
theorem keyIs_shape : ∀ {k : Key} {v : Value}, keyIs k v = true → (∃ i t, k = Sum.inl i ∧ v = Value.int i t) ∨ (∃ x t, k = Sum.inr x ∧ v = Value.str x t)
  | .inl i, v, h => by
    obtain ⟨t, e⟩ := Value.isInt_shape (k := i) (v := v) h
    exact .inl ⟨i, t, rfl, e⟩
  | .inr x, v, h => by
    obtain ⟨t, e⟩ := Value.isStrOf_shape (x := x) (v := v) h
    exact .inr ⟨x, t, rfl, e⟩
theorem keyIs_int (i : Int) (t : Tok) : keyIs (.inl i) (.int i t) = true := by simp [keyIs, Value.isInt]
theorem keyIs_str (x : Str) (t : Tok) : keyIs (.inr x) (.str x t) = true := by simp [keyIs, Value.isStrOf]
theorem key_ll (a b : Int) : decide ((Sum.inl a : Key) = Sum.inl b) = (a == b) := by
  by_cases e : a = b
  · subst e; simp
  · have h : ¬ (Sum.inl a : Key) = Sum.inl b := fun q => e (Sum.inl.inj q)
    rw [decide_eq_false h]
    exact (beq_eq_false_iff_ne.mpr e).symm
theorem key_rr (a b : Str) : decide ((Sum.inr a : Key) = Sum.inr b) = decide (a = b) := by
  by_cases e : a = b
  · subst e; simp
  · have h : ¬ (Sum.inr a : Key) = Sum.inr b := fun q => e (Sum.inr.inj q)
    rw [decide_eq_false h, decide_eq_false e]
theorem key_lr (a : Int) (b : Str) : decide ((Sum.inl a : Key) = Sum.inr b) = false := decide_eq_false (fun q => nomatch q)
theorem key_rl (a : Str) (b : Int) : decide ((Sum.inr a : Key) = Sum.inl b) = false := decide_eq_false (fun q => nomatch q)
def mixKind (prog : Program) (w : World) : PySem.KeyKind prog w Key where
  is := keyIs
  hash := keyH w
  inj := fun v a b ha hb => by
    rcases keyIs_shape ha with ⟨i, t, rfl, rfl⟩ | ⟨x, t, rfl, rfl⟩
    · rcases keyIs_shape hb with ⟨j, u, rfl, e⟩ | ⟨y, u, rfl, e⟩
      · injection e with e1 _; rw [e1]
      · exact nomatch e
    · rcases keyIs_shape hb with ⟨j, u, rfl, e⟩ | ⟨y, u, rfl, e⟩
      · exact nomatch e
      · injection e with e1 _; rw [e1]
  byValue := fun k v h => by
    rcases keyIs_shape h with ⟨i, t, rfl, rfl⟩ | ⟨x, t, rfl, rfl⟩ <;> rfl
  pyHash := fun hv h => by
    rcases keyIs_shape hv with ⟨i, t, rfl, rfl⟩ | ⟨x, t, rfl, rfl⟩
    · exact wpAny_pyHash_int h
    · exact wpAny_pyHash_str h
  eqBool := fun hu hv h => by
    rcases keyIs_shape hu with ⟨i, t, rfl, rfl⟩ | ⟨x, t, rfl, rfl⟩
    · rcases keyIs_shape hv with ⟨j, u, rfl, rfl⟩ | ⟨y, u, rfl, rfl⟩
      · rw [key_ll] at h; exact wpAny_eqBool_int h
      · rw [key_lr] at h; exact SeqAt.EqAt.int_str i t y u _ _ _ _ h
    · rcases keyIs_shape hv with ⟨j, u, rfl, rfl⟩ | ⟨y, u, rfl, rfl⟩
      · rw [key_rl] at h; exact SeqAt.EqAt.str_int x t j u _ _ _ _ h
      · rw [key_rr] at h; exact wpAny_eqBool_str h
  «strs» := fun k x t v h => by
    rcases keyIs_shape h with ⟨i, u, rfl, e⟩ | ⟨y, u, rfl, e⟩
    · exact nomatch e
    · injection e with e1 _
      subst e1
      cases v <;> rfl
theorem mixKind_int (prog : Program) (w : World) (i : Int) (t : Tok) : (mixKind prog w).is (.inl i) (.int i t) = true := keyIs_int i t
theorem mixKind_str (prog : Program) (w : World) (x : Str) (t : Tok) : (mixKind prog w).is (.inr x) (.str x t) = true := keyIs_str x t
end L2
namespace L2
open PySem PySem.Spec PyProof.Rows
inductive V where
  | non | bl (b : Bool) | int (i : Int) | str (x : Str) | byt (b : Array UInt8) | flt (b : UInt64) | ref (a : Addr) | ty (n : String)
  deriving DecidableEq
def RelV : V → Value → Prop
  | .non, u => u = Value.none
  | .bl b, u => u = Value.bool b
  | .int i, u => ∃ t, u = Value.int i t
  | .str x, u => ∃ t, u = Value.str x t
  | .byt b, u => ∃ t, u = Value.bytes b t
  | .flt b, u => ∃ t, u = Value.float b t
  | .ref a, u => u = Value.ref a
  | .ty n, u => u = Value.type n
abbrev Vals : List V → List Value → Prop := Paired RelV
theorem Vals.length {xs : List V} {us : List Value} (r : Vals xs us) : xs.length = us.length := Paired.length r
theorem Vals.get : ∀ {xs : List V} {us : List Value} {i : Nat} {x : V}, Vals xs us → xs[i]? = some x → ∃ u, us[i]? = some u ∧ RelV x u
  | _, _, _, _, .nil, e => by simp at e
  | _, _, 0, _, .cons r _, e => by simp at e; subst e; exact ⟨_, rfl, r⟩
  | _, _, i + 1, x, .cons _ t, e => by
    obtain ⟨u, h1, h2⟩ := Vals.get (i := i) (x := x) t (by simpa using e)
    exact ⟨u, by simpa using h1, h2⟩
theorem Vals.set {x : V} {u : Value} (r : RelV x u) : ∀ {xs : List V} {us : List Value} (i : Nat), Vals xs us → Vals (xs.set i x) (us.set i u)
  | _, _, _, .nil => .nil
  | _, _, 0, .cons _ t => .cons r t
  | _, _, i + 1, .cons q t => .cons q (Vals.set r i t)
theorem Vals.append : ∀ {xs ys : List V} {us ws : List Value}, Vals xs us → Vals ys ws → Vals (xs ++ ys) (us ++ ws)
  | _, _, _, _, .nil, s => s
  | _, _, _, _, .cons r t, s => .cons r (Vals.append t s)
theorem Vals.take : ∀ {xs : List V} {us : List Value} (n : Nat), Vals xs us → Vals (xs.take n) (us.take n)
  | _, _, 0, _ => .nil
  | _, _, _ + 1, .nil => .nil
  | _, _, n + 1, .cons r t => .cons r (Vals.take n t)
theorem Vals.drop : ∀ {xs : List V} {us : List Value} (n : Nat), Vals xs us → Vals (xs.drop n) (us.drop n)
  | _, _, 0, r => r
  | _, _, _ + 1, .nil => .nil
  | _, _, n + 1, .cons _ t => Vals.drop n t
def RelO : Option V → Option Value → Prop
  | some v, some u => RelV v u
  | none, none => True
  | _, _ => False
def KV {κ : Type} : List (κ × V) → List (κ × Value) → Prop := Paired fun (p : κ × V) (q : κ × Value) => p.1 = q.1 ∧ RelV p.2 q.2
def kV : Key → V
  | .inl i => .int i
  | .inr x => .str x
inductive HO where
    | lst (xs : List V)
    | tup (xs : List V)
    | dK (kvs : List (Key × V)) | dT (kvs : List (List Key × V))
    | set (S : Int → Bool) (n : Nat)
    | ins (C dx : Addr) (fs : List (Str × V))
    | own (x : Addr)
    | xd (fs : List (Str × V))
    | met (f x : Addr)
    | rng (lo hi : Int)
    | frz (o : Obj) (u : HO)
    | tbl (ps : Array Value)
    | ext (φ : Heap → Prop)
abbrev Hp := Addr → Option HO
def upd (H : Hp) (a : Addr) (o : HO) : Hp := fun b => if b = a then some o else H b
theorem upd_same {H : Hp} {a : Addr} {o : HO} : upd H a o a = some o := by unfold upd; rw [if_pos rfl]
theorem upd_ne {H : Hp} {a b : Addr} {o : HO} (h : b ≠ a) : upd H a o b = H b := by unfold upd; rw [if_neg h]
theorem upd_upd {H : Hp} {a : Addr} {o u : HO} : upd (upd H a o) a u = upd H a u := by
  funext b; unfold upd; split <;> rfl
theorem ne_of {H : Hp} {a b : Addr} {o u : HO} (h : H a = some o) (h' : H b = some u) (d : o ≠ u) : a ≠ b := by
  intro e; subst e; rw [h] at h'; exact d (Option.some.inj h')
theorem ne_of_none {H : Hp} {a b : Addr} {o : HO} (h : H a = some o) (h' : H b = none) : a ≠ b := by
  intro e; subst e; rw [h] at h'; cases h'
section
variable (P : Program) (w : World)
def ObjOk (H : Hp) (h : Heap) (a : Addr) : HO → Prop
  | .lst xs => xs.length ≤ sizeLine ∧ ∃ (its : List Value) (n : Nat), Vals xs its ∧ h.get? a = some { cls := .type "list", data := .seq its.toArray n }
  | .tup xs => xs.length ≤ sizeLine ∧ ∃ its : List Value, Vals xs its ∧ IsTup h a its.toArray
  | .dK kvs => kvs.length ≤ sizeLine ∧ (a == sysModules) = false ∧ ∃ vs, KV kvs vs ∧ h.DictOf (mixKind P w) a vs
  | .dT kvs => kvs.length ≤ sizeLine ∧ (a == sysModules) = false ∧ ∃ xs : List (List Key × Addr × Value),
      Paired (fun (p : List Key × V) (q : List Key × Addr × Value) => p.1 = q.1 ∧ H q.2.1 = some (.tup (p.1.map kV)) ∧ RelV p.2 q.2.2) kvs xs ∧
      ∃ o es ep, h.get? a = some o ∧ o.ExactDict ∧ o.data = .dict es ep ∧ es.toList = xs.map (entryOfKey (tupleKind (mixKind P w))) ∧ (xs.map (·.1)).Nodup
  | .set S n => h.SetOf (intKind P w) a S n
  | .ins C dx fs => H dx = some (.own a) ∧ fs.length ≤ 1000 ∧ dx ≠ a ∧ h.get? a = some (PySem.W.instObj C dx) ∧
      ∃ mA, h.Ns1 dx mA ∧ (∀ f, RelO (fs.lookup f) (mA f)) ∧ PySem.Within mA (fs.map (·.1))
  | .own _ => ∃ o, h.get? a = some o
  | .xd fs => ∃ mA, h.Ns1 a mA ∧ ∀ f, RelO (fs.lookup f) (mA f)
  | .rng lo hi => ∃ t u v, h.get? a = some { cls := .type "range", data := .fields #[.int lo t, .int hi u, .int 1 v] }
  | .frz o u => h.get? a = some o ∧ ObjOk H h a u
  | .tbl ps => h.get? a = some { cls := .none, data := .fields ps }
  | .met f x => h.get? a = some (PySem.W.methodObj (.ref f) (.ref x))
  | .ext φ => φ h ∧ (∃ o, h.get? a = some o) ∧ ∀ h1 h2 : Heap, φ h1 → (∀ o, h1.get? a = some o → h2.get? a = some o) → φ h2
def HOk (H : Hp) (h : Heap) : Prop := ∀ a o, H a = some o → ObjOk P w H h a o
end
section
variable {P : Program} {w : World} {H H' : Hp} {h h' : Heap} {a : Addr} {o : HO}
theorem ObjOk.lt (x : ObjOk P w H h a o) : a < h.objs.size := by
  cases o with
  | lst xs => obtain ⟨_, _, _, _, e⟩ := x; exact Heap.lt_size e
  | tup xs => obtain ⟨_, _, _, p⟩ := x; exact p.lt
  | dK kvs => obtain ⟨_, _, _, _, o, _, _, e, _⟩ := x; exact Heap.lt_size e
  | dT kvs => obtain ⟨_, _, _, _, o, _, _, e, _⟩ := x; exact Heap.lt_size e
  | set S n => obtain ⟨o, _, _, _, e, _⟩ := x; exact Heap.lt_size e
  | ins C dx fs => obtain ⟨_, _, _, e, _⟩ := x; exact Heap.lt_size e
  | own y => obtain ⟨_, e⟩ := x; exact Heap.lt_size e
  | xd fs => obtain ⟨_, ⟨_, _, _, e, _⟩, _⟩ := x; exact Heap.lt_size e
  | rng lo hi => obtain ⟨_, _, _, e⟩ := x; exact Heap.lt_size e
  | frz ob u => obtain ⟨e, _⟩ := x; exact Heap.lt_size e
  | tbl ps => exact Heap.lt_size (show h.get? a = some _ from x)
  | met f y => exact Heap.lt_size (show h.get? a = some _ from x)
  | ext φ => obtain ⟨_, ⟨_, e⟩, _⟩ := x; exact Heap.lt_size e
theorem Paired.mapP {α β : Type} {F G : α → β → Prop} : ∀ {l₁ : List α} {l₂ : List β}, Paired F l₁ l₂ → (∀ a b, F a b → G a b) → Paired G l₁ l₂
  | _, _, .nil, _ => .nil
  | _, _, .cons r t, f => .cons (f _ _ r) (Paired.mapP t f)
theorem ObjOk.stay (x : ObjOk P w H h a o) (k : ∀ b u, (b = a ∨ H b = some (.own a)) → h.get? b = some u → h'.get? b = some u)
    (ho : ∀ b, H b = some (.own a) → H' b = some (.own a)) (ht : ∀ b xs, H b = some (.tup xs) → H' b = some (.tup xs)) : ObjOk P w H' h' a o := by
  induction o with
  | lst xs => obtain ⟨z, its, n, r, e⟩ := x; exact ⟨z, its, n, r, k _ _ (.inl rfl) e⟩
  | tup xs => obtain ⟨z, its, r, ob, e, c⟩ := x; exact ⟨z, its, r, ob, k _ _ (.inl rfl) e, c⟩
  | dK kvs => obtain ⟨z, y, vs, r, ob, es, ep, e, c⟩ := x; exact ⟨z, y, vs, r, ob, es, ep, k _ _ (.inl rfl) e, c⟩
  | dT kvs =>
    obtain ⟨z, y, xs, r, ob, es, ep, e, c⟩ := x
    exact ⟨z, y, xs, Paired.mapP r fun p q z => ⟨z.1, ht _ _ z.2.1, z.2.2⟩, ob, es, ep, k _ _ (.inl rfl) e, c⟩
  | set S n => obtain ⟨ob, es, ep, t, e, c⟩ := x; exact ⟨ob, es, ep, t, k _ _ (.inl rfl) e, c⟩
  | ins C dx fs =>
    obtain ⟨d, z, ne, e, mA, ⟨od, es, ep, e2, c⟩, r⟩ := x
    exact ⟨ho _ d, z, ne, k _ _ (.inl rfl) e, mA, ⟨od, es, ep, k _ _ (.inr d) e2, c⟩, r⟩
  | own y => obtain ⟨ob, e⟩ := x; exact ⟨ob, k _ _ (.inl rfl) e⟩
  | xd fs => obtain ⟨mA, ⟨od, es, ep, e, c⟩, r⟩ := x; exact ⟨mA, ⟨od, es, ep, k _ _ (.inl rfl) e, c⟩, r⟩
  | rng lo hi => obtain ⟨t, u, v, e⟩ := x; exact ⟨t, u, v, k _ _ (.inl rfl) e⟩
  | frz ob u ih => obtain ⟨e, q⟩ := x; exact ⟨k _ _ (.inl rfl) e, ih q⟩
  | tbl ps =>
    have e : h.get? a = some { cls := .none, data := .fields ps } := x
    show h'.get? a = some { cls := .none, data := .fields ps }
    exact k a _ (.inl rfl) e
  | met f y =>
    have e : h.get? a = some (PySem.W.methodObj (.ref f) (.ref y)) := x
    show h'.get? a = some (PySem.W.methodObj (.ref f) (.ref y))
    exact k a _ (.inl rfl) e
  | ext φ => obtain ⟨p, ⟨o, e⟩, st⟩ := x; exact ⟨st _ _ p fun o q => k _ _ (.inl rfl) q, ⟨o, k _ _ (.inl rfl) e⟩, st⟩
theorem HOk.lt (x : HOk P w H h) (e : H a = some o) : a < h.objs.size := (x a o e).lt
theorem HOk.fresh (x : HOk P w H h) (e : h.objs.size ≤ a) : H a = none := by
  cases q : H a with
  | none => rfl
  | some u => exact absurd (Nat.lt_of_lt_of_le (x.lt q) e) (Nat.lt_irrefl _)
theorem HOk.kept (x : HOk P w H h) (k : ∀ b u, h.get? b = some u → h'.get? b = some u) : HOk P w H h' := fun a o e =>
  (x a o e).stay (fun b u _ q => k b u q) (fun _ q => q) fun _ _ q => q
theorem HOk.laid (x : HOk P w H h) (k : ∀ b u, h.get? b = some u → h'.get? b = some u) (hp : h.objs.size ≤ a) (new : ObjOk P w (upd H a o) h' a o) : HOk P w (upd H a o) h' := fun b u e => by
  have hn := x.fresh hp
  by_cases hb : b = a
  · subst hb; rw [upd_same] at e; cases e; exact new
  · rw [upd_ne hb] at e
    exact (x b u e).stay (fun c v _ q => k c v q) (fun c q => by rw [upd_ne (ne_of_none q hn)]; exact q) fun c xs q => by rw [upd_ne (ne_of_none q hn)]; exact q
end
def Rd (H : Hp) (a : Addr) (u : HO) : Prop := H a = some u ∨ ∃ o, H a = some (.frz o u)
theorem Rd.of {H : Hp} {a : Addr} {u : HO} (h : H a = some u) : Rd H a u := .inl h
theorem Rd.ok {P : Program} {w : World} {H : Hp} {h : Heap} {a : Addr} {u : HO} (r : Rd H a u) (x : HOk P w H h) : ObjOk P w H h a u := by
  rcases r with r | ⟨o, r⟩
  · exact x a u r
  · obtain ⟨_, q⟩ := x a _ r
    exact q
def Mut : Option HO → Prop
  | some (.lst _) => True
  | some (.dK _) => True
  | some (.dT _) => True
  | some (.set _ _) => True
  | some (.ins _ _ _) => True
  | some (.ext _) => True
  | _ => False
section
variable {P : Program} {w : World} {H : Hp} {h h' : Heap} {x e : Addr} {o' : HO}
theorem HOk.write (ok : HOk P w H h) (mu : Mut (H x)) (he : e = x ∨ H e = some (.own x)) (k : ∀ b u, b ≠ e → h.get? b = some u → h'.get? b = some u) (heo : ∃ u, h'.get? e = some u)
    (new : ObjOk P w (upd H x o') h' x o') : HOk P w (upd H x o') h' := fun b u q => by
  have nown : ∀ c y, H c = some (.own y) → c ≠ x := fun c y r z => by subst z; rw [r] at mu; exact mu
  have ntup : ∀ c xs, H c = some (.tup xs) → c ≠ x := fun c xs r z => by subst z; rw [r] at mu; exact mu
  by_cases hb : b = x
  · subst hb; rw [upd_same] at q; cases q; exact new
  · rw [upd_ne hb] at q
    by_cases hbe : b = e
    · have q' : H b = some (.own x) := by
        rcases he with z | z
        · exact absurd (hbe.trans z) hb
        · rw [hbe]; exact z
      rw [q] at q'; cases q'
      obtain ⟨v, hv⟩ := heo
      exact ⟨v, by rw [hbe]; exact hv⟩
    · refine (ok b u q).stay (fun c v hc r => k c v ?_ r) (fun c r => by rw [upd_ne (nown c b r)]; exact r) fun c xs r => by rw [upd_ne (ntup c xs r)]; exact r
      rcases hc with rfl | hc
      · exact hbe
      · rintro rfl
        rcases he with z | z
        · exact nown c b hc z
        · rw [hc] at z; cases z; exact hb rfl
end
structure Un (fs ex : List Addr) (H H' : Hp) (h h' : Heap) : Prop where
  keep : ∀ b o, h.get? b = some o → H b = none → b ∉ fs → b ∉ ex → h'.get? b = some o
  slot : ∀ b o, h.get? b = some o → H b = none → b ∈ fs → b ∉ ex → ∃ sl, h'.get? b = some { o with slots := sl }
  free : ∀ b o, h.get? b = some o → H b = none → b ∉ ex → H' b = none
  there : ∀ b o, h.get? b = some o → b ∉ ex → ∃ o', h'.get? b = some o'
  tups : ∀ b xs, H b = some (.tup xs) → H' b = some (.tup xs)
  frzs : ∀ b o u, H b = some (.frz o u) → H' b = some (.frz o u)
  tbls : ∀ b ps, H b = some (.tbl ps) → ∃ more, H' b = some (.tbl (ps ++ more))
section
variable {fs fs' ex ex' : List Addr} {H H1 H2 : Hp} {h h1 h2 h' : Heap} {a x e : Addr} {o : HO}
theorem Un.any (u : Un fs ex H H1 h h1) {b : Addr} {ob : Obj} (q : h.get? b = some ob) (n : H b = none) (hx : b ∉ ex) : ∃ sl, h1.get? b = some { ob with slots := sl } := by
  by_cases hb : b ∈ fs
  · exact u.slot b ob q n hb hx
  · exact ⟨ob.slots, u.keep b ob q n hb hx⟩
theorem Un.kept (k : ∀ b u, h.get? b = some u → h'.get? b = some u) : Un fs ex H H h h' :=
  ⟨fun b ob q _ _ _ => k b ob q, fun b ob q _ _ _ => ⟨ob.slots, k b ob q⟩, fun _ _ _ n _ => n, fun b ob q _ => ⟨ob, k b ob q⟩, fun _ _ q => q, fun _ _ _ q => q, fun _ ps q => ⟨#[], by rw [q]; simp⟩⟩
theorem Un.refl : Un fs ex H H h h := Un.kept fun _ _ q => q
theorem Un.laid (k : ∀ b u, h.get? b = some u → h'.get? b = some u) (hp : h.objs.size ≤ a) (hn : H a = none) : Un fs ex H (upd H a o) h h' where
  keep := fun b u q _ _ _ => k b u q
  slot := fun b u q _ _ _ => ⟨u.slots, k b u q⟩
  free := fun b u q n _ => by rw [upd_ne (Nat.ne_of_lt (Nat.lt_of_lt_of_le (Heap.lt_size q) hp))]; exact n
  there := fun b u q _ => ⟨u, k b u q⟩
  tups := fun b xs q => by rw [upd_ne (ne_of_none q hn)]; exact q
  frzs := fun b u xs q => by rw [upd_ne (ne_of_none q hn)]; exact q
  tbls := fun b ps q => ⟨#[], by rw [upd_ne (ne_of_none q hn), q]; simp⟩
theorem Un.write (mu : Mut (H x)) (he : e = x ∨ H e = some (.own x)) (k : ∀ b u, b ≠ e → h.get? b = some u → h'.get? b = some u) (heo : ∃ u, h'.get? e = some u) : Un fs ex H (upd H x o) h h' := by
  have hx : ∀ b, H b = none → b ≠ x := fun b n z => by subst z; rw [n] at mu; exact mu
  have hb : ∀ b, H b = none → b ≠ e := fun b n z => by
    subst z
    rcases he with r | r
    · exact hx b n r
    · rw [n] at r; cases r
  have hm : ∀ b u, H b = some u → ¬ Mut (some u) → b ≠ x := fun b u q nm z => by subst z; rw [q] at mu; exact nm mu
  refine ⟨fun b u q n _ _ => k b u (hb b n) q, fun b u q n _ _ => ⟨u.slots, k b u (hb b n) q⟩, fun b u q n _ => by rw [upd_ne (hx b n)]; exact n, fun b u q _ => ?_,
    fun b xs q => by rw [upd_ne (hm b _ q fun z => z)]; exact q, fun b u xs q => by rw [upd_ne (hm b _ q fun z => z)]; exact q, fun b ps q => ⟨#[], by rw [upd_ne (hm b _ q fun z => z), q]; simp⟩⟩
  by_cases hbe : b = e
  · subst hbe; exact heo
  · exact ⟨u, k b u hbe q⟩
end
def trk (h : Heap) (H : Hp) : List Addr := (List.range h.objs.size).filter fun a => (H a).isSome
def hidT (h : Heap) (H : Hp) : Heap := PySem.W.hideAll h (trk h H)
theorem hidT_size (h : Heap) (H : Hp) : (hidT h H).objs.size = h.objs.size := PySem.W.hideAll_size _ _
theorem hidT_get {h : Heap} {H : Hp} {b : Addr} {o : Obj} (e : h.get? b = some o) (n : H b = none) : (hidT h H).get? b = some o :=
  PySem.W.hideAll_get _ e fun hm => by
    have q : (H b).isSome = true := (List.mem_filter.mp hm).2
    rw [n] at q; simp at q
theorem of_hidT {h : Heap} {H : Hp} {b : Addr} {o : Obj} (e : (hidT h H).get? b = some o) : h.get? b = some o ∧ H b = none := by
  have e' : h.get? b = some o := PySem.W.of_hideAll (trk h H) e
  refine ⟨e', ?_⟩
  cases q : H b with
  | none => rfl
  | some x =>
    have hm : b ∈ trk h H := List.mem_filter.mpr ⟨List.mem_range.mpr (Heap.lt_size e'), by simp [q]⟩
    have z : (hidT h H).get? b = none := PySem.W.hideAll_none (trk h H) hm
    rw [z] at e; cases e
def allNews (g h : Heap) (L : Addr) : List (Addr × Obj) := (List.range h.objs.size).filterMap fun a => if a = L ∨ (g.get? a).isSome = true then none else (h.get? a).map fun o => (a, o)
def rest (g h : Heap) (L d : Addr) : List (Addr × Obj) := (allNews g h L).filter fun p => decide (p.1 ≠ d)
end L2
namespace L2
open PySem PySem.Spec PyProof.Rows
structure Mod (K : PySem.W.Frag) (mg : Str → Option Value) (base : Heap) : Prop where
  kin : K.In base
  glob : base.Ns mainGlobals mg
  blt : ∃ mb, base.Ns builtinsNs mb ∧ ∀ x : Str, x ≠ "__name__" → mb x = bootBuiltins x
  nolimit : base.NoLimit
structure Cx where
  prog : Program
  w : World
  K : PySem.W.Frag
  mg : Str → Option Value
  base : Heap
  A : Around
  N : List Str
  s₀ : Shared
  H₀ : Hp
  env : Env
  outer : List Env
  stack : List Env
  ex : List Addr
  fn : Str → Bool
  calm : Bool
  pn : List (Addr × Obj)
  xe : Value → Shared → Prop
def frs (l : List Env) : List Addr := l.filterMap (·.frame)
abbrev Cx.fs (X : Cx) : List Addr := frs X.outer
def Vis (sc : Scope) (x : Str) : Prop := sc.names.lookup x = some .local ∨ sc.names.lookup x = some .cell ∨ sc.names.lookup x = some .free
def Loc (sc : Scope) (x : Str) : Prop := sc.names.lookup x = some .local ∨ sc.names.lookup x = some .cell
def Look (env : Env) (h : Heap) (m : Str → Option Value) (x : Str) (u : Value) : Prop :=
  (env.kindOf x = some .local ∧ m x = some u) ∨ ((env.kindOf x = some .cell ∨ env.kindOf x = some .free) ∧ ∃ c, env.cells.lookup x = some c ∧ h.IsCell c (some u))
structure Cx.Ok (X : Cx) : Prop where
  mod : Mod X.K X.mg X.base
  kind : X.env.scope.kind = .function
  glob : X.env.globals = mainGlobals
  blt : X.env.builtins = builtinsNs
  above : X.s₀.heap.objs.size ≤ X.env.locals
  inj : ∀ x y c, X.env.cells.lookup x = some c → X.env.cells.lookup y = some c → x = y
  has : ∀ x, (X.env.kindOf x = some .cell ∨ X.env.kindOf x = some .free) → ∃ c, X.env.cells.lookup x = some c
  cab : ∀ x c, X.fn x = true → X.env.cells.lookup x = some c → X.s₀.heap.objs.size ≤ c
  hd : X.calm = true → X.A.handled = none
  frames : X.A.frames = some X.stack
  stk : X.stack = X.outer ∨ (X.stack = X.env :: X.outer ∧ X.env.frame = some X.env.locals)
  exf : ∀ b ∈ X.ex, b ≠ X.env.locals ∧ ∀ x c, X.env.cells.lookup x = some c → c ≠ b
  bs : ∀ b o, X.base.get? b = some o → X.s₀.heap.get? b = some o ∧ X.H₀ b = none
  bsz : X.base.objs.size ≤ X.s₀.heap.objs.size
  noex : ∀ b o, X.base.get? b = some o → b ∉ X.ex
  exfs : ∀ b ∈ X.ex, b ∉ X.fs
  funs : X.s₀.heap.FunFrames X.base X.outer
  frf : ∀ b ∈ X.fs, X.H₀ b = none
structure Inv (X : Cx) (pins : List (Addr × Obj)) (σ : List (Option V)) (H : Hp) (s : Shared) : Prop where
  ok : X.Ok
  os : s.os = X.s₀.os
  bare : AllBare s.gens
  base : Un X.fs X.ex X.H₀ H X.s₀.heap s.heap
  loc : ∃ m, s.heap.Ns X.env.locals m ∧ ∀ (i : Nat) (x : Str) (v : V), X.N[i]? = some x → σ[i]? = some (some v) → Vis X.env.scope x → ∃ u, RelV v u ∧ Look X.env s.heap m x u
  cell : ∀ x c, X.env.cells.lookup x = some c → ∃ v, s.heap.IsCell c v
  free : H X.env.locals = none
  freeC : ∀ x c, X.env.cells.lookup x = some c → H c = none
  pin : ∀ p ∈ X.pn ++ pins, s.heap.get? p.1 = some p.2 ∧ H p.1 = none ∧ p.1 ≠ X.env.locals ∧ p.1 ∉ X.fs ∧ ∀ v, p.2.data ≠ .cell v
  hok : HOk X.prog X.w H s.heap
  len : σ.length = X.N.length
section
variable {X : Cx} {pins : List (Addr × Obj)} {σ : List (Option V)} {H H' : Hp} {s : Shared} {h' : Heap}
theorem Cx.Ok.nofr (ok : X.Ok) {b : Addr} {o : Obj} (e : X.base.get? b = some o) : b ∉ X.fs := fun hb => by
  have := (ok.funs.mem hb).1
  rw [e] at this; cases this
theorem Inv.bs (I : Inv X pins σ H s) : ∀ b o, X.base.get? b = some o → s.heap.get? b = some o ∧ H b = none := fun b o e =>
  ⟨I.base.keep b o (I.ok.bs b o e).1 (I.ok.bs b o e).2 (I.ok.nofr e) (I.ok.noex b o e), I.base.free b o (I.ok.bs b o e).1 (I.ok.bs b o e).2 (I.ok.noex b o e)⟩
theorem Inv.bk (I : Inv X pins σ H s) : ∀ b o, X.base.get? b = some o → s.heap.get? b = some o := fun b o e => (I.bs b o e).1
theorem Inv.mod (I : Inv X pins σ H s) : Mod X.K X.mg X.base := I.ok.mod
theorem Inv.kIn (I : Inv X pins σ H s) : X.K.In s.heap := I.ok.mod.kin.keeps I.bk
theorem Inv.lt (I : Inv X pins σ H s) : X.env.locals < s.heap.objs.size := let ⟨_, hn, _⟩ := I.loc; hn.lt
theorem Inv.sz (I : Inv X pins σ H s) : X.s₀.heap.objs.size ≤ s.heap.objs.size := Nat.le_trans I.ok.above (Nat.le_of_lt I.lt)
theorem Inv.nofs (I : Inv X pins σ H s) {a : Addr} (h : s.heap.objs.size ≤ a) : a ∉ X.fs := fun hb => by
  obtain ⟨_, o, ho, _⟩ := I.ok.funs.mem hb
  exact absurd (Nat.lt_of_lt_of_le (Heap.lt_size ho) (Nat.le_trans I.sz h)) (Nat.lt_irrefl _)
theorem Inv.cne (I : Inv X pins σ H s) : ∀ x c, X.env.cells.lookup x = some c → c ≠ X.env.locals := fun x c e z => by
  obtain ⟨v, o, ho, hd⟩ := I.cell x c e
  obtain ⟨m, ⟨o', es, ep, ho', hd', _⟩, _⟩ := I.loc
  rw [z, ho'] at ho; cases ho; rw [hd'] at hd; cases hd
theorem Inv.funs (I : Inv X pins σ H s) : s.heap.FunFrames X.base X.outer := by
  have all : ∀ (l : List Env), (∀ b ∈ frs l, b ∈ X.fs) → X.s₀.heap.FunFrames X.base l → s.heap.FunFrames X.base l := by
    intro l
    induction l with
    | nil => intro _ _; trivial
    | cons env r ih =>
      intro hs hl
      obtain ⟨hk, ⟨L, o, hf, hn, ho, hd⟩, hr⟩ := hl
      have hL : L ∈ X.fs := hs L (by unfold frs; rw [List.filterMap_cons, hf]; exact List.mem_cons_self)
      obtain ⟨sl, e⟩ := I.base.slot L o ho (I.ok.frf L hL) hL fun z => I.ok.exfs L z hL
      exact ⟨hk, ⟨L, _, hf, hn, e, hd⟩, ih (fun b hb => hs b (by unfold frs; rw [List.filterMap_cons, hf]; exact List.mem_cons_of_mem _ hb)) hr⟩
  exact all X.outer (fun _ hb => hb) I.ok.funs
theorem Inv.stack (I : Inv X pins σ H s) : s.heap.FunFrames X.base X.stack := by
  rcases I.ok.stk with e | ⟨e, hf⟩
  · rw [e]; exact I.funs
  · rw [e]
    obtain ⟨m, hn, _⟩ := I.loc
    refine .cons (by rw [I.ok.kind]; decide) hf hn ?_ I.funs
    exact Heap.get?_none_of_le (Nat.le_trans I.ok.bsz I.ok.above)
theorem Inv.stkSub (I : Inv X pins σ H s) : ∀ b ∈ frs X.stack, b ∈ X.env.locals :: X.fs := fun b hb => by
  rcases I.ok.stk with e | ⟨e, hf⟩
  · rw [e] at hb; exact List.mem_cons_of_mem _ hb
  · rw [e] at hb
    unfold frs at hb
    rw [List.filterMap_cons, hf] at hb
    exact hb
theorem Inv.stkFree (I : Inv X pins σ H s) : ∀ b ∈ frs X.stack, H b = none := fun b hb => by
  rcases List.mem_cons.mp (I.stkSub b hb) with e | hb
  · rw [e]; exact I.free
  · obtain ⟨_, o, ho, _⟩ := I.ok.funs.mem hb
    exact I.base.free b o ho (I.ok.frf b hb) fun z => I.ok.exfs b z hb
theorem Inv.step {g' : Array GenState} {t' : Nat} {d' : Drawn} {ch : List Addr} (I : Inv X pins σ H s)
    (hch : ∀ b ∈ ch, (b ∈ X.ex ∨ X.s₀.heap.objs.size ≤ b) ∧ b ≠ X.env.locals ∧ (∀ x c, X.env.cells.lookup x = some c → c ≠ b) ∧ ∀ p ∈ X.pn ++ pins, p.1 ≠ b)
    (keep : ∀ b o, b ≠ X.env.locals → b ∉ X.fs → b ∉ ch → s.heap.get? b = some o → H b = none → h'.get? b = some o)
    (slot : ∀ b o, b ≠ X.env.locals → b ∈ X.fs → b ∉ ch → s.heap.get? b = some o → H b = none → ∃ sl, h'.get? b = some { o with slots := sl }) (free : ∀ b o, b ∉ ch → s.heap.get? b = some o → H b = none → H' b = none)
    (there : ∀ b o, b ∉ ch → s.heap.get? b = some o → ∃ o', h'.get? b = some o')
    (tups : ∀ b xs, H b = some (.tup xs) → H' b = some (.tup xs)) (frzs : ∀ b o u, H b = some (.frz o u) → H' b = some (.frz o u)) (tbls : ∀ b ps, H b = some (.tbl ps) → ∃ more, H' b = some (.tbl (ps ++ more)))
    (ns : ∀ m, s.heap.Ns X.env.locals m → h'.Ns X.env.locals m) (hok : HOk X.prog X.w H' h') (hg : AllBare g') :
    Inv X pins σ H' { s with heap := h', gens := g', drawn := d', toks := t' } := by
  have neL : ∀ b o, X.s₀.heap.get? b = some o → b ≠ X.env.locals := fun b o e => Nat.ne_of_lt (Nat.lt_of_lt_of_le (Heap.lt_size e) I.ok.above)
  have neC : ∀ b o, X.s₀.heap.get? b = some o → b ∉ X.ex → b ∉ ch := fun b o e hx hb => by
    rcases (hch b hb).1 with z | z
    · exact hx z
    · exact absurd (Nat.lt_of_lt_of_le (Heap.lt_size e) z) (Nat.lt_irrefl _)
  have cellK : ∀ x c, X.env.cells.lookup x = some c → ∀ v, s.heap.IsCell c v → h'.IsCell c v := fun x c e v ⟨o, ho, hd⟩ => by
    have nch : c ∉ ch := fun z => (hch c z).2.2.1 x c e rfl
    by_cases hc : c ∈ X.fs
    · obtain ⟨sl, q⟩ := slot c o (I.cne x c e) hc nch ho (I.freeC x c e)
      exact ⟨_, q, hd⟩
    · exact ⟨o, keep c o (I.cne x c e) hc nch ho (I.freeC x c e), hd⟩
  refine ⟨I.ok, I.os, hg, ⟨fun b o e n hb hx => ?_, fun b o e n hb hx => ?_, fun b o e n hx => ?_, fun b o e hx => ?_, fun b xs e => tups b xs (I.base.tups b xs e), fun b o xs e => frzs b o xs (I.base.frzs b o xs e), fun b ps e => ?_⟩, ?_, fun x c e => ?_, ?_, fun x c e => ?_, fun p hp => ?_, hok, I.len⟩
  · exact keep b o (neL b o e) hb (neC b o e hx) (I.base.keep b o e n hb hx) (I.base.free b o e n hx)
  · obtain ⟨sl, e1⟩ := I.base.slot b o e n hb hx
    obtain ⟨sl', e2⟩ := slot b _ (neL b o e) hb (neC b o e hx) e1 (I.base.free b o e n hx)
    exact ⟨sl', e2⟩
  · obtain ⟨o', e1⟩ := I.base.there b o e hx
    exact free b o' (neC b o e hx) e1 (I.base.free b o e n hx)
  · obtain ⟨o', e1⟩ := I.base.there b o e hx
    exact there b o' (neC b o e hx) e1
  · obtain ⟨m1, e1⟩ := I.base.tbls b ps e
    obtain ⟨m2, e2⟩ := tbls b _ e1
    exact ⟨m1 ++ m2, by rw [e2, Array.append_assoc]⟩
  · obtain ⟨m, hn, hl⟩ := I.loc
    refine ⟨m, ns m hn, fun i x v e1 e2 e3 => ?_⟩
    obtain ⟨u, r, l⟩ := hl i x v e1 e2 e3
    refine ⟨u, r, ?_⟩
    rcases l with l | ⟨k, c, e, z⟩
    · exact .inl l
    · exact .inr ⟨k, c, e, cellK x c e _ z⟩
  · obtain ⟨v, z⟩ := I.cell x c e
    exact ⟨v, cellK x c e v z⟩
  · obtain ⟨m, ⟨o, _, _, ho, _⟩, _⟩ := I.loc
    exact free _ o (fun z => (hch _ z).2.1 rfl) ho I.free
  · obtain ⟨v, o, ho, hd⟩ := I.cell x c e
    exact free c o (fun z => (hch c z).2.2.1 x c e rfl) ho (I.freeC x c e)
  · obtain ⟨e, n, ne, nf, d⟩ := I.pin p hp
    have nch : p.1 ∉ ch := fun z => (hch p.1 z).2.2.2 p hp rfl
    exact ⟨keep p.1 p.2 ne nf nch e n, free p.1 p.2 nch e n, ne, nf, d⟩
theorem Inv.un {t' : Nat} (I : Inv X pins σ H s) (u : Un X.fs [] H H' s.heap h') (hok : HOk X.prog X.w H' h') : Inv X pins σ H' { s with heap := h', toks := t' } := by
  obtain ⟨m, ⟨o, es, ep, ho, r⟩, _⟩ := id I.loc
  obtain ⟨sl, hL⟩ := u.any ho I.free (by simp)
  exact I.step (g' := s.gens) (d' := s.drawn) (ch := []) (fun _ z => nomatch z) (fun b o _ hb _ e n => u.keep b o e n hb (by simp)) (fun b o _ hb _ e n => u.slot b o e n hb (by simp)) (fun b o _ e n => u.free b o e n (by simp)) (fun b o _ e => u.there b o e (by simp)) u.tups u.frzs u.tbls (fun m' hm => by
    obtain ⟨o', es', ep', ho', r'⟩ := hm
    rw [ho] at ho'; cases ho'
    exact ⟨_, es', ep', hL, r'⟩) hok I.bare
theorem Inv.call {g' : Array GenState} {t' : Nat} {d' : Drawn} {ch : List Addr} (I : Inv X pins σ H s) (u : Un (frs X.stack) ch H H' s.heap h') (hok : HOk X.prog X.w H' h') (hg : AllBare g')
    (hch : ∀ b ∈ ch, (b ∈ X.ex ∨ X.s₀.heap.objs.size ≤ b) ∧ b ≠ X.env.locals ∧ (∀ x c, X.env.cells.lookup x = some c → c ≠ b) ∧ ∀ p ∈ X.pn ++ pins, p.1 ≠ b) :
    Inv X pins σ H' { s with heap := h', gens := g', drawn := d', toks := t' } := by
  obtain ⟨m, ⟨o, es, ep, ho, r⟩, _⟩ := id I.loc
  obtain ⟨sl, hL⟩ := u.any ho I.free fun z => (hch _ z).2.1 rfl
  exact I.step (ch := ch) hch (fun b o hL hb hc e n => u.keep b o e n (fun z => (List.mem_cons.mp (I.stkSub b z)).elim hL hb) hc) (fun b o _ _ hc e n => u.any e n hc) (fun b o hc e n => u.free b o e n hc) (fun b o hc e => u.there b o e hc) u.tups u.frzs u.tbls (fun m' hm => by
    obtain ⟨o', es', ep', ho', r'⟩ := hm
    rw [ho] at ho'; cases ho'
    exact ⟨_, es', ep', hL, r'⟩) hok hg
theorem Inv.turned {t' : Nat} {it : Addr} (I : Inv X pins σ H s) (k : ∀ b o, b ≠ it → s.heap.get? b = some o → h'.get? b = some o) (hn : H it = none) (hL : it ≠ X.env.locals)
    (h1 : it ∈ X.ex ∨ X.s₀.heap.objs.size ≤ it) (h2 : ∀ x c, X.env.cells.lookup x = some c → c ≠ it) (h3 : ∀ p ∈ X.pn ++ pins, p.1 ≠ it) : Inv X pins σ H { s with heap := h', toks := t' } := by
  have nit : ∀ b u, H b = some u → b ≠ it := fun b u e z => by rw [z, hn] at e; cases e
  refine I.step (g' := s.gens) (d' := s.drawn) (ch := [it]) (fun b hb => ?_) (fun b o _ _ hc e _ => k b o (fun z => hc (by simp [z])) e) (fun b o _ _ hc e _ => ⟨o.slots, k b o (fun z => hc (by simp [z])) e⟩) (fun _ _ _ _ n => n)
    (fun b o hc e => ⟨o, k b o (fun z => hc (by simp [z])) e⟩) (fun _ _ e => e) (fun _ _ _ e => e) (fun b ps e => ⟨#[], by rw [e]; simp⟩) (fun m hm => ?_) (fun b u e => ?_) I.bare
  · have e : b = it := by simpa using hb
    subst e
    exact ⟨h1, hL, h2, h3⟩
  · obtain ⟨o, es, ep, ho, r⟩ := hm
    exact ⟨o, es, ep, k _ o (Ne.symm hL) ho, r⟩
  · refine (I.hok b u e).stay (fun c v hc q => k c v ?_ q) (fun _ q => q) fun _ _ q => q
    rcases hc with z | z
    · rw [z]; exact nit b u e
    · exact nit c _ z
theorem Inv.tok (I : Inv X pins σ H s) (t : Nat) : Inv X pins σ H { s with toks := t } := I.un (h' := s.heap) (t' := t) Un.refl I.hok
theorem Inv.kept {t' : Nat} (I : Inv X pins σ H s) (k : ∀ b u, s.heap.get? b = some u → h'.get? b = some u) : Inv X pins σ H { s with heap := h', toks := t' } := I.un (Un.kept k) (I.hok.kept k)
theorem Inv.laid {a : Addr} {o : HO} {t' : Nat} (I : Inv X pins σ H s) (k : ∀ b u, s.heap.get? b = some u → h'.get? b = some u) (hp : s.heap.objs.size ≤ a) (new : ObjOk X.prog X.w (upd H a o) h' a o) :
    Inv X pins σ (upd H a o) { s with heap := h', toks := t' } := I.un (Un.laid k hp (I.hok.fresh hp)) (I.hok.laid k hp new)
theorem Inv.write {x e : Addr} {o : HO} {t' : Nat} (I : Inv X pins σ H s) (mu : Mut (H x)) (he : e = x ∨ H e = some (.own x)) (k : ∀ b u, b ≠ e → s.heap.get? b = some u → h'.get? b = some u) (heo : ∃ u, h'.get? e = some u)
    (new : ObjOk X.prog X.w (upd H x o) h' x o) : Inv X pins σ (upd H x o) { s with heap := h', toks := t' } := I.un (Un.write mu he k heo) (I.hok.write mu he k heo new)
theorem Inv.pins_of {pins' : List (Addr × Obj)} (I : Inv X pins σ H s) (h : ∀ p ∈ pins', s.heap.get? p.1 = some p.2 ∧ H p.1 = none ∧ p.1 ≠ X.env.locals ∧ p.1 ∉ X.fs ∧ ∀ v, p.2.data ≠ .cell v) : Inv X pins' σ H s :=
  ⟨I.ok, I.os, I.bare, I.base, I.loc, I.cell, I.free, I.freeC, fun p hp => (List.mem_append.mp hp).elim (fun z => I.pin p (List.mem_append_left _ z)) (h p), I.hok, I.len⟩
theorem nodup_ix {N : List Str} (hN : N.Nodup) {i j : Nat} {x : Str} (a : N[i]? = some x) (b : N[j]? = some x) : i = j := by
  obtain ⟨h1, e1⟩ := List.getElem?_eq_some_iff.mp a
  obtain ⟨h2, e2⟩ := List.getElem?_eq_some_iff.mp b
  exact (List.getElem_inj hN).mp (e1.trans e2.symm)
theorem store_ok2 {M : Model} {A : Around} {E : Value → Shared → Prop} {i : Nat} {x : Str} {v : V} {u : Value} {Q : Unit → Shared → Prop} (I : Inv X pins σ H s) (hN : X.N.Nodup) (hi : X.N[i]? = some x) (hx : Loc X.env.scope x) (r : RelV v u)
    (h : ∀ s', Inv X pins (σ.set i (some v)) H s' → (∃ a, Heap.SameBut a s.heap s'.heap ∧ (a = X.env.locals ∨ X.env.cells.lookup x = some a)) → Q () s') (hf : X.fn x = true ∨ X.env.scope.names.lookup x = some .local := by first | exact .inl rfl | exact .inr rfl | assumption) : wpAny M A (storeName X.env x u) Q E s := by
  obtain ⟨m, hn, hl⟩ := id I.loc
  have hcls : (X.env.scope.kind == .class || (X.env.scope.kind == .module && X.env.locals != X.env.globals)) = false := by rw [I.ok.kind]; rfl
  have hiσ : i < σ.length := by rw [I.len]; exact (List.getElem?_eq_some_iff.mp hi).1
  have cne := I.cne
  have tracked : ∀ {a : Addr} {h' : Heap}, (∃ o, s.heap.get? a = some o ∧ H a = none) → Heap.SameBut a s.heap h' → HOk X.prog X.w H h' := fun {a h'} ha hs b ob e => by
    obtain ⟨_, _, hfree⟩ := ha
    refine (I.hok b ob e).stay (fun c w' hc q => (hs.2 c ?_).trans q) (fun _ q => q) fun _ _ q => q
    rintro rfl
    rcases hc with rfl | hc
    · rw [hfree] at e; cases e
    · rw [hfree] at hc; cases hc
  rcases hx with hk | hk
  · refine wpAny_storeName_local hk hn (fun h' hn' hs => ?_) hcls
    obtain ⟨oL, _, _, hoL, _⟩ := id hn
    refine h _ ⟨I.ok, I.os, I.bare, ⟨fun b o e n hb hx => ?_, fun b o e n hb hx => ?_, I.base.free, fun b o e hx => ?_, I.base.tups, I.base.frzs, I.base.tbls⟩, ⟨_, hn', fun j y v' e1 e2 e3 => ?_⟩, fun y c e => ?_, I.free, I.freeC, fun p hp => ?_, tracked ⟨oL, hoL, I.free⟩ hs, by simpa using I.len⟩ ⟨_, hs, .inl rfl⟩
    · exact (hs.2 b (Nat.ne_of_lt (Nat.lt_of_lt_of_le (Heap.lt_size e) I.ok.above))).trans (I.base.keep b o e n hb hx)
    · obtain ⟨sl, e1⟩ := I.base.slot b o e n hb hx
      exact ⟨sl, (hs.2 b (Nat.ne_of_lt (Nat.lt_of_lt_of_le (Heap.lt_size e) I.ok.above))).trans e1⟩
    · obtain ⟨o', e1⟩ := I.base.there b o e hx
      exact ⟨o', (hs.2 b (Nat.ne_of_lt (Nat.lt_of_lt_of_le (Heap.lt_size e) I.ok.above))).trans e1⟩
    · by_cases hj : j = i
      · subst hj
        rw [hi] at e1; cases e1
        rw [List.getElem?_set_self hiσ] at e2
        cases e2
        exact ⟨u, r, .inl ⟨hk, by simp⟩⟩
      · rw [List.getElem?_set_ne (Ne.symm hj)] at e2
        obtain ⟨u', r', q⟩ := hl j y v' e1 e2 e3
        refine ⟨u', r', ?_⟩
        rcases q with ⟨k, e⟩ | ⟨k, c, e, z⟩
        · refine .inl ⟨k, ?_⟩
          have : y ≠ x := fun e => hj (nodup_ix hN e1 (e ▸ hi))
          simp [this, e]
        · exact .inr ⟨k, c, e, z.sameBut hs (cne y c e)⟩
    · obtain ⟨w', z⟩ := I.cell y c e
      exact ⟨w', z.sameBut hs (cne y c e)⟩
    · obtain ⟨e, n, ne, nf, d⟩ := I.pin p hp
      exact ⟨(hs.2 p.1 ne).trans e, n, ne, nf, d⟩
  · have hfn : X.fn x = true := by
      rcases hf with z | z
      · exact z
      · rw [z] at hk; cases hk
    obtain ⟨c, hc⟩ := I.ok.has x (.inl hk)
    obtain ⟨w', z⟩ := I.cell x c hc
    refine wpAny_storeName_cell I.ok.kind hk hc z (fun h' hc' hs => ?_)
    obtain ⟨oc, hoc, hocd⟩ := id z
    refine h { s with heap := h' } ⟨I.ok, I.os, I.bare, ⟨fun b o e n hb hx => ?_, fun b o e n hb hx => ?_, I.base.free, fun b o e hx => ?_, I.base.tups, I.base.frzs, I.base.tbls⟩, ⟨m, hn.sameBut hs (Ne.symm (cne x c hc)), fun j y v' e1 e2 e3 => ?_⟩, fun y c' e => ?_, I.free, I.freeC, fun p hp => ?_, tracked ⟨oc, hoc, I.freeC x c hc⟩ hs, by simpa using I.len⟩ ⟨c, hs, .inr hc⟩
    · exact (hs.2 b (Nat.ne_of_lt (Nat.lt_of_lt_of_le (Heap.lt_size e) (I.ok.cab x c hfn hc)))).trans (I.base.keep b o e n hb hx)
    · obtain ⟨sl, e1⟩ := I.base.slot b o e n hb hx
      exact ⟨sl, (hs.2 b (Nat.ne_of_lt (Nat.lt_of_lt_of_le (Heap.lt_size e) (I.ok.cab x c hfn hc)))).trans e1⟩
    · obtain ⟨o', e1⟩ := I.base.there b o e hx
      exact ⟨o', (hs.2 b (Nat.ne_of_lt (Nat.lt_of_lt_of_le (Heap.lt_size e) (I.ok.cab x c hfn hc)))).trans e1⟩
    · by_cases hj : j = i
      · subst hj
        rw [hi] at e1; cases e1
        rw [List.getElem?_set_self hiσ] at e2
        cases e2
        exact ⟨u, r, .inr ⟨.inl hk, c, hc, hc'⟩⟩
      · rw [List.getElem?_set_ne (Ne.symm hj)] at e2
        obtain ⟨u', r', q⟩ := hl j y v' e1 e2 e3
        refine ⟨u', r', ?_⟩
        rcases q with q | ⟨k, c', e, z'⟩
        · exact .inl q
        · refine .inr ⟨k, c', e, z'.sameBut hs ?_⟩
          rintro rfl
          exact hj (nodup_ix hN e1 (I.ok.inj _ _ _ e hc ▸ hi))
    · by_cases hcc : c' = c
      · subst hcc; exact ⟨_, hc'⟩
      · obtain ⟨w2, z2⟩ := I.cell y c' e
        exact ⟨w2, z2.sameBut hs hcc⟩
    · obtain ⟨e, n, ne, nf, d⟩ := I.pin p hp
      refine ⟨(hs.2 p.1 ?_).trans e, n, ne, nf, d⟩
      intro q
      rw [q, hoc] at e
      have q' : oc = p.2 := Option.some.inj e
      exact d w' (by rw [← q']; exact hocd)
theorem store_ok {M : Model} {A : Around} {E : Value → Shared → Prop} {i : Nat} {x : Str} {v : V} {u : Value} {Q : Unit → Shared → Prop} (I : Inv X pins σ H s) (hN : X.N.Nodup) (hi : X.N[i]? = some x) (hx : Loc X.env.scope x) (r : RelV v u)
    (h : ∀ s', Inv X pins (σ.set i (some v)) H s' → Q () s') (hf : X.fn x = true ∨ X.env.scope.names.lookup x = some .local := by first | exact .inl rfl | exact .inr rfl | assumption) : wpAny M A (storeName X.env x u) Q E s :=
  store_ok2 I hN hi hx r (fun s' I' _ => h s' I') hf
theorem Inv.call' {s' : Shared} {ch : List Addr} (I : Inv X pins σ H s) (ho : s'.os = s.os) (u : Un (frs X.stack) ch H H' s.heap s'.heap) (hok : HOk X.prog X.w H' s'.heap) (hg : AllBare s'.gens)
    (hch : ∀ b ∈ ch, (b ∈ X.ex ∨ X.s₀.heap.objs.size ≤ b) ∧ b ≠ X.env.locals ∧ (∀ x c, X.env.cells.lookup x = some c → c ≠ b) ∧ ∀ p ∈ X.pn ++ pins, p.1 ≠ b) : Inv X pins σ H' s' := by
  obtain ⟨h', g', d', t', o'⟩ := s'
  have e : o' = s.os := ho
  subst e
  exact I.call (g' := g') (t' := t') (d' := d') u hok hg hch
end
abbrev XK := Value → Option Addr → Hp → Prop
abbrev St := List (Option V)
abbrev VK := V → Hp → Prop
abbrev TE := St → Hp → VK → Prop
abbrev TT := St → Hp → (Bool → Hp → Prop) → Prop
abbrev TA := St → Hp → (List V → Hp → Prop) → Prop
structure Ends where
  nx : St → Hp → Prop
  rt : VK
  bk : St → Hp → Prop := fun _ _ => False
  ct : St → Hp → Prop := fun _ _ => False
abbrev TS := Ends → St → Hp → Prop
def EP (X : Cx) (pins : List (Addr × Obj)) (σ : St) (Q : VK) (u : Value) (s' : Shared) : Prop := ∃ v H', Inv X pins σ H' s' ∧ RelV v u ∧ Q v H'
def TP (X : Cx) (pins : List (Addr × Obj)) (σ : St) (Q : Bool → Hp → Prop) (b : Bool) (s' : Shared) : Prop := ∃ H', Inv X pins σ H' s' ∧ Q b H'
def AP (X : Cx) (pins : List (Addr × Obj)) (σ : St) (Q : List V → Hp → Prop) (us : List Value) (s' : Shared) : Prop := ∃ vs H', Inv X pins σ H' s' ∧ Vals vs us ∧ Q vs H'
def SP (X : Cx) (pins : List (Addr × Obj)) (D : Ends) (f : Flow) (s' : Shared) : Prop :=
  match f with
  | .next => ∃ σ' H', Inv X pins σ' H' s' ∧ D.nx σ' H'
  | .brk => ∃ σ' H', Inv X pins σ' H' s' ∧ D.bk σ' H'
  | .cont => ∃ σ' H', Inv X pins σ' H' s' ∧ D.ct σ' H'
  | .ret u => ∃ v σ' H', Inv X pins σ' H' s' ∧ RelV v u ∧ D.rt v H'
def PE (X : Cx) (e : Expr) (t : TE) : Prop :=
  ∀ (pins : List (Addr × Obj)) (s : Shared) (σ : St) (H : Hp) (Q : VK), Inv X pins σ H s → t σ H Q → wpAny (model X.prog X.w) X.A (eval e X.env) (EP X pins σ Q) X.xe s
def PT (X : Cx) (e : Expr) (t : TT) : Prop :=
  ∀ (pins : List (Addr × Obj)) (s : Shared) (σ : St) (H : Hp) (Q : Bool → Hp → Prop), Inv X pins σ H s → t σ H Q → wpAny (model X.prog X.w) X.A (isTrue e X.env (eval e X.env)) (TP X pins σ Q) X.xe s
def PW (X : Cx) (e : Expr) (t : TT) : Prop :=
  ∀ (whole : Sem Value) (pins : List (Addr × Obj)) (s : Shared) (σ : St) (H : Hp) (Q : Bool → Hp → Prop), Inv X pins σ H s → t σ H Q → wpAny (model X.prog X.w) X.A (isTrue e X.env whole) (TP X pins σ Q) X.xe s
theorem PW.pt {X : Cx} {e : Expr} {t : TT} (h : PW X e t) : PT X e t := h _
def PA (X : Cx) (es : List Expr) (t : TA) : Prop :=
  ∀ (pos : Pos) (pins : List (Addr × Obj)) (s : Shared) (σ : St) (H : Hp) (Q : List V → Hp → Prop), Inv X pins σ H s → t σ H Q → wpAny (model X.prog X.w) X.A (spliced (backTo pos (starEach es X.env))) (AP X pins σ Q) X.xe s
def PS (X : Cx) (st : Stmt) (t : TS) : Prop :=
  ∀ (pins : List (Addr × Obj)) (s : Shared) (σ : St) (H : Hp) (D : Ends), Inv X pins σ H s → t D σ H → wpAny (model X.prog X.w) X.A (exec st X.env) (SP X pins D) X.xe s
def PSs (X : Cx) (st : List Stmt) (t : TS) : Prop :=
  ∀ (pins : List (Addr × Obj)) (s : Shared) (σ : St) (H : Hp) (D : Ends), Inv X pins σ H s → t D σ H → wpAny (model X.prog X.w) X.A (execs st X.env) (SP X pins D) X.xe s
theorem thn {α : Type} {t : Sem α} {Q Q' : α → Shared → Prop} {M : Model} {A : Around} {E : Value → Shared → Prop} {s : Shared} (h : wpAny M A t Q E s) (hQ : ∀ a s, Q a s → Q' a s) : wpAny M A t Q' E s := wpAny_mono h hQ fun _ _ x => x
end L2
namespace L2
open PySem PySem.Spec PyProof.Rows
section
variable {X : Cx}
def tVar (i : Nat) : TE := fun σ H Q => ∃ v, σ[i]? = some (some v) ∧ Q v H
def tC (v : V) : TE := fun _ H Q => Q v H
theorem pe_var {i : Nat} {x : Str} {pos : Pos} (hN : X.N[i]? = some x) (hv : Vis X.env.scope x) (hd : (x == ("__debug__" : Str)) = false := by decide) (hcd : (x == ("__classdict__" : Str)) = false := by decide) : PE X (.Name x pos) (tVar i) := by
  intro pins s σ H Q I h
  obtain ⟨v, e, h⟩ := h
  obtain ⟨m, hn, hl⟩ := I.loc
  obtain ⟨u, r, l⟩ := hl i x v hN e hv
  have fin : EP X pins σ Q u s := ⟨v, H, I, r, h⟩
  rcases l with ⟨hk, hm⟩ | ⟨hk, c, hc, hcell⟩
  · exact wpAny_Name (wpAny_loadName_local I.ok.kind hk hn hm fin) hd
  · rcases hk with hk | hk
    · exact wpAny_Name (wpAny_loadName_cell I.ok.kind hk hc hcell fin) hd
    · exact wpAny_Name (wpAny_loadName_free I.ok.kind hk hc hcell fin hcd) hd
theorem pe_int {i j pos} : PE X (.Constant (.int i) j pos) (tC (.int i)) := fun _ _ _ H _ I h => wpAny_Constant_int ⟨.int i, H, I.tok _, ⟨_, rfl⟩, h⟩
theorem pe_bl {b j pos} : PE X (.Constant (.bool b) j pos) (tC (.bl b)) := fun _ _ _ H _ I h => Constant_bool ⟨.bl b, H, I, rfl, h⟩
theorem pe_non {j pos} : PE X (.Constant .none j pos) (tC .non) := fun _ _ _ H _ I h => Constant_none ⟨.non, H, I, rfl, h⟩
theorem pe_str {x j pos} : PE X (.Constant (.str x) j pos) (tC (.str x)) := fun _ _ _ H _ I h => Calls.Constant_str ⟨.str x, H, I.tok _, ⟨_, rfl⟩, h⟩
def Gl (X : Cx) (x : Str) : Prop := X.env.kindOf x = some .globalImplicit
theorem ld_glob {E : Value → Shared → Prop} {pins : List (Addr × Obj)} {s : Shared} {σ : St} {H : Hp} {x : Str} {u : Value} {pos : Pos} {Q : Value → Shared → Prop} (I : Inv X pins σ H s) (hg : Gl X x) (hm : X.mg x = some u) (h : Q u s)
    (hd : (x == ("__debug__" : Str)) = false := by decide) : wpAny (model X.prog X.w) X.A (eval (.Name x pos) X.env) Q E s :=
  Calls.Name_function_global I.ok.kind hg (Calls.loadGlobal_global (by rw [I.ok.glob]; exact I.mod.glob.keeps I.bk) hm h) hd
theorem ld_blt {E : Value → Shared → Prop} {pins : List (Addr × Obj)} {s : Shared} {σ : St} {H : Hp} {x : Str} {u : Value} {pos : Pos} {Q : Value → Shared → Prop} (I : Inv X pins σ H s) (hg : Gl X x) (hm : X.mg x = none) (hv : bootBuiltins x = some u) (h : Q u s)
    (hn : x ≠ "__name__" := by decide) (hd : (x == ("__debug__" : Str)) = false := by decide) : wpAny (model X.prog X.w) X.A (eval (.Name x pos) X.env) Q E s := by
  obtain ⟨mb, h1, h2⟩ := I.mod.blt
  exact Calls.Name_function_global I.ok.kind hg (Calls.loadGlobal_builtin (by rw [I.ok.glob]; exact I.mod.glob.keeps I.bk) hm (by rw [I.ok.blt]; exact h1.keeps I.bk) ((h2 x hn).trans hv) h) hd
theorem pe_bltn {x : Str} {v : V} {u : Value} {pos : Pos} (hg : Gl X x) (hm : X.mg x = none) (hv : bootBuiltins x = some u) (r : RelV v u) (hn : x ≠ "__name__" := by decide) (hd : (x == ("__debug__" : Str)) = false := by decide) : PE X (.Name x pos) (tC v) :=
  fun _ _ _ H _ I h => ld_blt I hg hm hv ⟨v, H, I, r, h⟩ hn hd
variable {a b : Expr} {ta tb : TE} {pos : Pos}
def PC (X : Cx) (op : CmpOp) (a b : Expr) (t : TE) : Prop :=
  ∀ (pins : List (Addr × Obj)) (s : Shared) (σ : St) (H : Hp) (Q : VK), Inv X pins σ H s → t σ H Q →
    wpAny (model X.prog X.w) X.A (eval a X.env) (fun v s₁ => wpAny (model X.prog X.w) X.A (eval b X.env) (fun u s₂ => wpAny (model X.prog X.w) X.A (compareOp op v u) (EP X pins σ Q) X.xe s₂) X.xe s₁) X.xe s
theorem nobehind (b : Expr) {op : CmpOp} (h : op ≠ .In) (h2 : op ≠ .NotIn) : behindInMarks op b = false := by
  have e1 : (op == CmpOp.In) = false := by cases op <;> first | rfl | exact absurd rfl h
  have e2 : (op == CmpOp.NotIn) = false := by cases op <;> first | rfl | exact absurd rfl h2
  cases b <;> simp [behindInMarks, e1, e2]
def tB (t : TE) : TT := fun σ H Q => t σ H fun x H1 => ∃ c, x = .bl c ∧ Q c H1
theorem pt_cmp {op : CmpOp} {t : TE} (h : PC X op a b t) (h1 : behindInMarks op b = false := by first | exact nobehind _ (by decide) (by decide) | rfl) : PT X (.Compare a [op] [b] pos) (tB t) := by
  intro pins s σ H Q I hw
  refine wpAny_isTrue_Compare1 (thn (h pins s σ H _ I hw) fun v s1 h1 => thn h1 fun u s2 h2 => thn h2 fun c s3 ⟨x, H1, I1, r1, q1⟩ => ?_) h1
  obtain ⟨d, rfl, q⟩ := q1
  cases r1
  exact wpAny_truthy_bool ⟨H1, I1, q⟩
theorem pt_val {e : Expr} {t : TE} (h : PE X e t) (he : ∀ whole, isTrue e X.env whole = (do let v ← whole; standAt e.pos; holding [v] (truthy v)) := by intro _; rfl) : PT X e (tB t) := by
  intro pins s σ H Q I hw
  refine isTrue_plain (thn (h pins s σ H _ I hw) fun v s1 ⟨x, H1, I1, r1, q1⟩ => ?_) (he _)
  obtain ⟨d, rfl, q⟩ := q1
  cases r1
  exact wpAny_truthy_bool ⟨H1, I1, q⟩
variable {tA tB' : TT} {rest : List Expr}
def tAnd (t u : TT) : TT := fun σ H Q => t σ H fun c H1 => if c = true then u σ H1 Q else Q false H1
def tOr (t u : TT) : TT := fun σ H Q => t σ H fun c H1 => if c = true then Q true H1 else u σ H1 Q
def tNot (t : TT) : TT := fun σ H Q => t σ H fun c H1 => Q (!c) H1
theorem pw_and1 (ha : PT X a tA) : PW X (.BoolOp .And [a] pos) tA := by
  intro wh pins s σ H Q I h
  refine isTrue_and (thn (ha pins s σ H Q I h) fun c s1 e => ?_)
  cases c with
  | true => exact isTrue_and_nil e
  | false => exact e
theorem pw_or1 (ha : PT X a tA) : PW X (.BoolOp .Or [a] pos) tA := by
  intro wh pins s σ H Q I h
  refine isTrue_or (thn (ha pins s σ H Q I h) fun c s1 e => ?_)
  cases c with
  | false => exact isTrue_or_nil e
  | true => exact e
theorem pw_and (ha : PT X a tA) (hb : PW X (.BoolOp .And (b :: rest) pos) tB') : PW X (.BoolOp .And (a :: b :: rest) pos) (tAnd tA tB') := by
  intro wh pins s σ H Q I h
  refine isTrue_and (thn (ha pins s σ H _ I h) fun c s1 ⟨H1, I1, q1⟩ => ?_)
  cases c with
  | true => exact hb wh pins s1 σ H1 Q I1 q1
  | false => exact ⟨H1, I1, q1⟩
theorem pw_or (ha : PT X a tA) (hb : PW X (.BoolOp .Or (b :: rest) pos) tB') : PW X (.BoolOp .Or (a :: b :: rest) pos) (tOr tA tB') := by
  intro wh pins s σ H Q I h
  refine isTrue_or (thn (ha pins s σ H _ I h) fun c s1 ⟨H1, I1, q1⟩ => ?_)
  cases c with
  | true => exact ⟨H1, I1, q1⟩
  | false => exact hb wh pins s1 σ H1 Q I1 q1
theorem pt_not (ha : PT X a tA) : PT X (.UnaryOp .Not a pos) (tNot tA) := by
  intro pins s σ H Q I h
  exact isTrue_not (ha pins s σ H (fun c H1 => Q (!c) H1) I h)
def tAndV (ta tb : TE) : TE := fun σ H Q => ta σ H fun x H1 => ∃ c, x = .bl c ∧ if c = true then tb σ H1 Q else Q (.bl false) H1
def tNotV (ta : TE) : TE := fun σ H Q => ta σ H fun x H1 => ∃ c, x = .bl c ∧ Q (.bl (!c)) H1
theorem pe_one {op} {t : TE} (h : PE X a t) : PE X (.BoolOp op [a] pos) t := fun pins s σ H Q I hw => BoolOp_one (h pins s σ H Q I hw)
theorem pe_and (ha : PE X a ta) (hb : PE X (.BoolOp .And (b :: rest) pos) tb) : PE X (.BoolOp .And (a :: b :: rest) pos) (tAndV ta tb) := by
  intro pins s σ H Q I h
  refine BoolOp_and (thn (ha pins s σ H _ I h) fun v s1 ⟨x, H1, I1, r1, q1⟩ => ?_)
  obtain ⟨c, rfl, q1⟩ := q1
  cases r1
  refine wpAny_truthy_bool ?_
  cases c with
  | true => exact hb pins s1 σ H1 Q I1 q1
  | false => exact ⟨.bl false, H1, I1, rfl, q1⟩
theorem pe_not (ha : PE X a ta) : PE X (.UnaryOp .Not a pos) (tNotV ta) := by
  intro pins s σ H Q I h
  refine UnaryOp_ (thn (ha pins s σ H _ I h) fun v s1 ⟨x, H1, I1, r1, q1⟩ => ?_)
  obtain ⟨c, rfl, q1⟩ := q1
  cases r1
  exact not_of (wpAny_truthy_bool ⟨.bl (!c), H1, I1, rfl, q1⟩)
def tIf (t : TT) (ta tb : TE) : TE := fun σ H Q => t σ H fun c H1 => if c = true then ta σ H1 Q else tb σ H1 Q
theorem pe_ifExp {c : Expr} (hc : PT X c tA) (ha : PE X a ta) (hb : PE X b tb) : PE X (.IfExp c a b pos) (tIf tA ta tb) := by
  intro pins s σ H Q I h
  refine wpAny_IfExp (thn (hc pins s σ H _ I h) fun d s1 ⟨H1, I1, q1⟩ => ?_)
  cases d with
  | true => exact ha pins s1 σ H1 Q I1 q1
  | false => exact hb pins s1 σ H1 Q I1 q1
end
end L2
namespace L2
open PySem PySem.Spec PyProof.Rows
def SqL (K : PySem.W.Frag) (H : Hp) (a : Addr) (xs : List V) : Prop :=
  Rd H a (.lst xs) ∨
    ∃ (o : Obj) (its : Array Value) (n : Nat), K.lookup a = some o ∧ o.cls = .type "list" ∧ o.dict = none ∧ o.data = .seq its n ∧ its.size ≤ sizeLine ∧ Vals xs its.toList
def SqT (K : PySem.W.Frag) (H : Hp) (a : Addr) (xs : List V) : Prop :=
  Rd H a (.tup xs) ∨
    ∃ (o : Obj) (its : Array Value) (n : Nat), K.lookup a = some o ∧ o.cls = .type "tuple" ∧ o.data = .seq its n ∧ its.size ≤ sizeLine ∧ Vals xs its.toList
def absV : Value → Option V
  | .none => some .non
  | .bool b => some (.bl b)
  | .int i _ => some (.int i)
  | .str x _ => some (.str x)
  | .bytes b _ => some (.byt b)
  | .float b _ => some (.flt b)
  | .ref a => some (.ref a)
  | .type n => some (.ty n)
  | _ => none
theorem RelV.abs {x : V} {u : Value} (r : RelV x u) : absV u = some x := by
  cases x with
  | non => cases r; rfl
  | bl _ => cases r; rfl
  | int _ => obtain ⟨t, rfl⟩ := r; rfl
  | str _ => obtain ⟨t, rfl⟩ := r; rfl
  | byt _ => obtain ⟨t, rfl⟩ := r; rfl
  | flt _ => obtain ⟨t, rfl⟩ := r; rfl
  | ref _ => cases r; rfl
  | ty _ => cases r; rfl
theorem RelV.inj {x y : V} {u : Value} (r : RelV x u) (q : RelV y u) : x = y := Option.some.inj (r.abs.symm.trans q.abs)
theorem Vals.inj : ∀ {xs ys : List V} {us : List Value}, Vals xs us → Vals ys us → xs = ys
  | _, _, _, .nil, .nil => rfl
  | _, _, _, .cons r t, .cons r' t' => by rw [r.inj r', Vals.inj t t']
section
variable {X : Cx} {pins : List (Addr × Obj)} {σ : St} {H : Hp} {s : Shared} {a : Addr} {xs ys : List V}
theorem SqL.of {K : PySem.W.Frag} (h : H a = some (.lst xs)) : SqL K H a xs := .inl (.inl h)
theorem SqT.of {K : PySem.W.Frag} (h : H a = some (.tup xs)) : SqT K H a xs := .inl (.inl h)
theorem Inv.list (I : Inv X pins σ H s) (h : SqL X.K H a xs) : ∃ its : List Value, Vals xs its ∧ PlainL s.heap a its.toArray ∧ xs.length ≤ sizeLine := by
  rcases h with h | ⟨o, its, n, hk, hc, hd, hs, hz, r⟩
  · obtain ⟨z, its, n, r, e⟩ := h.ok I.hok
    exact ⟨its, r, ⟨_, n, e, rfl, rfl, rfl⟩, z⟩
  · refine ⟨its.toList, r, ⟨o, n, I.kIn a o hk, hc, hd, by simpa using hs⟩, ?_⟩
    have e := r.length
    simp only [Array.length_toList] at e
    omega
theorem Inv.tuple (I : Inv X pins σ H s) (h : SqT X.K H a xs) : ∃ its : List Value, Vals xs its ∧ IsTup s.heap a its.toArray ∧ xs.length ≤ sizeLine := by
  rcases h with h | ⟨o, its, n, hk, hc, hs, hz, r⟩
  · obtain ⟨z, its, r, p⟩ := h.ok I.hok
    exact ⟨its, r, p, z⟩
  · refine ⟨its.toList, r, ⟨o, I.kIn a o hk, hc, n, by simpa using hs⟩, ?_⟩
    have e := r.length
    simp only [Array.length_toList] at e
    omega
theorem Inv.list_inj (I : Inv X pins σ H s) (h : SqL X.K H a xs) (h' : SqL X.K H a ys) : xs = ys := by
  obtain ⟨its, r, ⟨o, n, e, _, _, d⟩, _⟩ := I.list h
  obtain ⟨its', r', ⟨o', n', e', _, _, d'⟩, _⟩ := I.list h'
  rw [e] at e'; cases e'
  rw [d] at d'
  injection d' with d1 _
  have : its = its' := by simpa using congrArg Array.toList d1
  subst this
  exact r.inj r'
end
abbrev Cx.wish (X : Cx) (E : Value → Shared → Prop) : Cx := { X with xe := E }
abbrev Cx.nox (X : Cx) : Cx := X.wish fun _ _ => False
theorem Cx.Ok.wish {X : Cx} (ok : X.Ok) (E : Value → Shared → Prop) : (X.wish E).Ok :=
  ⟨ok.mod, ok.kind, ok.glob, ok.blt, ok.above, ok.inj, ok.has, ok.cab, ok.hd, ok.frames, ok.stk, ok.exf, ok.bs, ok.bsz, ok.noex, ok.exfs, ok.funs, ok.frf⟩
theorem Cx.Ok.unwish {X : Cx} {E : Value → Shared → Prop} (ok : (X.wish E).Ok) : X.Ok :=
  ⟨ok.mod, ok.kind, ok.glob, ok.blt, ok.above, ok.inj, ok.has, ok.cab, ok.hd, ok.frames, ok.stk, ok.exf, ok.bs, ok.bsz, ok.noex, ok.exfs, ok.funs, ok.frf⟩
section
variable {X : Cx} {pins : List (Addr × Obj)} {σ : St} {H : Hp} {s : Shared} {E : Value → Shared → Prop}
theorem Inv.wish (I : Inv X pins σ H s) (E : Value → Shared → Prop) : Inv (X.wish E) pins σ H s := ⟨I.ok.wish E, I.os, I.bare, I.base, I.loc, I.cell, I.free, I.freeC, I.pin, I.hok, I.len⟩
theorem Inv.unwish (I : Inv (X.wish E) pins σ H s) : Inv X pins σ H s := ⟨I.ok.unwish, I.os, I.bare, I.base, I.loc, I.cell, I.free, I.freeC, I.pin, I.hok, I.len⟩
theorem SP.unwish {D : Ends} {f : Flow} {s' : Shared} (h : SP (X.wish E) pins D f s') : SP X pins D f s' := by
  cases f with
  | next => obtain ⟨σ', H', I, q⟩ := h; exact ⟨σ', H', I.unwish, q⟩
  | brk => obtain ⟨σ', H', I, q⟩ := h; exact ⟨σ', H', I.unwish, q⟩
  | cont => obtain ⟨σ', H', I, q⟩ := h; exact ⟨σ', H', I.unwish, q⟩
  | ret u => obtain ⟨v, σ', H', I, r, q⟩ := h; exact ⟨v, σ', H', I.unwish, r, q⟩
theorem PE.nox {e : Expr} {t : TE} (h : PE X.nox e t) : PE X e t := fun pins s σ H Q I hw =>
  wpAny_mono (h pins s σ H Q (I.wish _) hw) (fun _ _ ⟨v, H', I', r, q⟩ => ⟨v, H', I'.unwish, r, q⟩) fun _ _ z => False.elim z
theorem PT.nox {e : Expr} {t : TT} (h : PT X.nox e t) : PT X e t := fun pins s σ H Q I hw =>
  wpAny_mono (h pins s σ H Q (I.wish _) hw) (fun _ _ ⟨H', I', q⟩ => ⟨H', I'.unwish, q⟩) fun _ _ z => False.elim z
theorem PSs.nox {st : List Stmt} {t : TS} (h : PSs X.nox st t) : PSs X st t := fun pins s σ H D I hw =>
  wpAny_mono (h pins s σ H D (I.wish _) hw) (fun _ _ q => q.unwish) fun _ _ z => False.elim z
end
section
variable {X : Cx} {st : Stmt} {rest : List Stmt} {t u : TS} {e : Expr} {te : TE} {pos : Pos}
def tNext : TS := fun D σ H => D.nx σ H
def tSeq (t u : TS) : TS := fun D σ H => t { D with nx := u D } σ H
theorem pss_nil : PSs X [] tNext := fun _ _ σ H _ I h => wpAny_execs_nil ⟨σ, H, I, h⟩
theorem pss_cons (h1 : PS X st t) (h2 : PSs X rest u) : PSs X (st :: rest) (tSeq t u) := by
  intro pins s σ H D I h
  refine wpAny_execs_cons (thn (h1 pins s σ H { D with nx := u D } I h) fun f s1 q => ?_)
  cases f with
  | next =>
    obtain ⟨σ', H', I', q⟩ := q
    exact h2 pins s1 σ' H' D I' q
  | ret v => exact q
  | brk => exact q
  | cont => exact q
theorem pss_one (h1 : PS X st t) : PSs X [st] t := by
  intro pins s σ H D I h
  refine wpAny_execs_cons (thn (h1 pins s σ H D I h) fun f s1 q => ?_)
  cases f with
  | next => exact wpAny_execs_nil q
  | ret v => exact q
  | brk => exact q
  | cont => exact q
theorem Inv.quiet {pins : List (Addr × Obj)} {σ : St} {H : Hp} {s : Shared} (I : Inv X pins σ H s) : interactive X.env = false := by simp [interactive, I.ok.kind]
def tDrop (te : TE) : TS := fun D σ H => te σ H fun _ H1 => D.nx σ H1
theorem ps_expr (he : PE X e te) (hs : swapsWith e none pos.line X.env = pure false := by rfl) : PS X (.Expr e pos) (tDrop te) := by
  intro pins s σ H D I h
  exact wpAny_Expr_any (thn (he pins s σ H _ I h) fun v s1 ⟨x, H1, I1, r1, q1⟩ => ⟨σ, H1, I1, q1⟩) I.quiet hs
def tRet (te : TE) : TS := fun D σ H => te σ H D.rt
theorem ps_ret (he : PE X e te) : PS X (.Return (some e) pos) (tRet te) := by
  intro pins s σ H D I h
  exact wpAny_Return_some (thn (he pins s σ H _ I h) fun v s1 ⟨x, H1, I1, r1, q1⟩ => ⟨x, σ, H1, I1, r1, q1⟩)
def tRetN : TS := fun D _ H => D.rt .non H
theorem ps_retN : PS X (.Return none pos) tRetN := fun _ _ σ H _ I h => wpAny_Return_none ⟨.non, σ, H, I, rfl, h⟩
def tIfS (c : TT) (t u : TS) : TS := fun D σ H => c σ H fun b H1 => if b = true then t D σ H1 else u D σ H1
theorem ps_if {c : Expr} {a b : List Stmt} {tc : TT} (hc : PT X c tc) (ha : PSs X a t) (hb : PSs X b u) : PS X (.If c a b pos) (tIfS tc t u) := by
  intro pins s σ H D I h
  refine wpAny_If (thn (hc pins s σ H _ I h) fun d s1 ⟨H1, I1, q1⟩ => ?_)
  cases d with
  | true => exact ha pins s1 σ H1 D I1 q1
  | false => exact hb pins s1 σ H1 D I1 q1
end
abbrev TG := V → St → Hp → (St → Hp → Prop) → Prop
def PG (X : Cx) (target : Expr) (t : TG) : Prop :=
  ∀ (pins : List (Addr × Obj)) (s : Shared) (σ : St) (H : Hp) (v : V) (u : Value) (Q : St → Hp → Prop), Inv X pins σ H s → RelV v u → t v σ H Q →
    wpAny (model X.prog X.w) X.A (assign target X.env u) (fun _ s' => ∃ σ' H', Inv X pins σ' H' s' ∧ Q σ' H') X.xe s
abbrev TSet := V → V → V → Hp → (Hp → Prop) → Prop
def PSet (X : Cx) (t : TSet) : Prop :=
  ∀ (pins : List (Addr × Obj)) (s : Shared) (σ : St) (H : Hp) (o i v : V) (ov iv u : Value) (Q : Hp → Prop), Inv X pins σ H s → RelV o ov → RelV i iv → RelV v u → t o i v H Q →
    wpAny (model X.prog X.w) X.A (setItem ov iv u) (fun _ s' => ∃ H', Inv X pins σ H' s' ∧ Q H') X.xe s
section
variable {X : Cx} {pos : Pos}
def gName (i : Nat) : TG := fun v σ H Q => Q (σ.set i (some v)) H
theorem pg_name {i : Nat} {x : Str} (hN : X.N.Nodup) (hi : X.N[i]? = some x) (hx : Loc X.env.scope x) (hf : X.fn x = true ∨ X.env.scope.names.lookup x = some .local := by first | exact .inl rfl | exact .inr rfl | assumption) : PG X (.Name x pos) (gName i) := by
  intro pins s σ H v u Q I r h
  exact wpAny_assign_Name (store_ok I hN hi hx r (fun s' I' => ⟨_, H, I', h⟩) hf)
def gSub (to ti : TE) (t : TSet) : TG := fun v σ H Q => to σ H fun o H1 => ti σ H1 fun i H2 => t o i v H2 fun H3 => Q σ H3
theorem pg_sub {o i : Expr} {to ti : TE} {t : TSet} (ho : PE X o to) (hi : PE X i ti) (hs : PSet X t)
    (ha : ∀ v, assign (.Subscript o i pos) X.env v = (do
      let ov ← holding [v] (eval o X.env)
      let iv ← holding [v, ov] (eval i X.env)
      standAt pos
      holding [v, ov, iv] (setItem ov iv v)
      release [v, ov, iv] []) := by intro _; rfl) : PG X (.Subscript o i pos) (gSub to ti t) := by
  intro pins s σ H v u Q I r h
  rw [ha]
  refine wpAny_bind (wpAny_holding (thn (ho pins s σ H _ I h) fun ov s1 ⟨x, H1, I1, r1, q1⟩ => ?_))
  refine wpAny_bind (wpAny_holding (thn (hi pins s1 σ H1 _ I1 q1) fun iv s2 ⟨y, H2, I2, r2, q2⟩ => ?_))
  refine wpAny_bind (wpAny_standAt (wpAny_bind (wpAny_holding (thn (hs pins s2 σ H2 x y v ov iv u _ I2 r1 r2 r q2) fun _ s3 ⟨H3, I3, q3⟩ => ?_))))
  exact wpAny_release ⟨σ, H3, I3, q3⟩
def tAsg (te : TE) (g : TG) : TS := fun D σ H => te σ H fun x H1 => g x σ H1 D.nx
theorem ps_asg {tg e : Expr} {te : TE} {g : TG} (he : PE X e te) (hg : PG X tg g) (hs : swapsWithSole [tg] e pos.line X.env = pure false := by rfl) (hw : swappedStores [tg] e X.env = pure none := by rfl)
    (h1 : (assignEach [tg] X.env).map (·.2) = [assign tg X.env] := by rfl) : PS X (.Assign [tg] e pos) (tAsg te g) := by
  intro pins s σ H D I h
  refine wpAny_Assign_stores (thn (he pins s σ H _ I h) fun v s1 ⟨x, H1, I1, r1, q1⟩ => ?_) hs hw
  rw [h1]
  exact thn (hg pins s1 σ H1 x v _ I1 r1 q1) fun _ s2 q => q
theorem ps_set {i : Nat} {x : Str} {e : Expr} {te : TE} {pos' : Pos} (hN : X.N.Nodup) (hi : X.N[i]? = some x) (hx : Loc X.env.scope x) (he : PE X e te) (hs : swapsWith e (some (.Name x pos')) pos.line X.env = pure false := by rfl) (hf : X.fn x = true ∨ X.env.scope.names.lookup x = some .local := by first | exact .inl rfl | exact .inr rfl | assumption) :
    PS X (.Assign [.Name x pos'] e pos) (tAsg te (gName i)) := by
  intro pins s σ H D I h
  refine wpAny_Assign_Name (thn (he pins s σ H _ I h) fun v s1 ⟨y, H1, I1, r1, q1⟩ => ?_) hs
  exact store_ok I1 hN hi hx r1 (fun s2 I2 => ⟨_, H1, I2, q1⟩) hf
end
section
variable {X : Cx} {pos : Pos}
def tWhile (c : TT) (tb : TS) : TS := fun D σ H => ∃ W : Nat → St → Hp → Prop, (∃ m, W m σ H) ∧ ∀ m σ H, W m σ H →
  c σ H fun b H1 => if b = true then ∃ N : St → Hp → Prop, (∀ σ' H', N σ' H' → ∃ m', m' < m ∧ W m' σ' H') ∧ tb { D with nx := N, ct := N, bk := D.nx } σ H1 else D.nx σ H1
theorem ps_while {c : Expr} {body : List Stmt} {tc : TT} {tb : TS} (hp : PassesOwn (model X.prog X.w) X.A X.env X.xe) (hc : PT X c tc) (hb : PSs X body tb) : PS X (.While c body [] pos) (tWhile tc tb) := by
  intro pins s σ H D I h
  obtain ⟨W, ⟨m0, w0⟩, turn⟩ := h
  refine wpAny_While (codeAny_whileLoop (fun n s' => ∃ σ' H', Inv X pins σ' H' s' ∧ W n σ' H') ?_ m0 ⟨σ, H, I, w0⟩)
  rintro n s1 ⟨σ1, H1, I1, w1⟩
  refine wpAny_passesOwn hp (thn (hc pins s1 σ1 H1 _ I1 (turn n σ1 H1 w1)) fun b s2 ⟨H2, I2, q2⟩ => ?_)
  cases b with
  | true =>
    obtain ⟨N, hN, q2⟩ := q2
    rw [if_pos rfl]
    refine wpAny_passesOwn hp (thn (hb pins s2 σ1 H2 _ I2 q2) fun f s3 q3 => ?_)
    cases f with
    | next =>
      obtain ⟨σ3, H3, I3, n3⟩ := q3
      obtain ⟨m', hm, w3⟩ := hN σ3 H3 n3
      exact ⟨m', hm, σ3, H3, I3, w3⟩
    | cont =>
      obtain ⟨σ3, H3, I3, n3⟩ := q3
      obtain ⟨m', hm, w3⟩ := hN σ3 H3 n3
      exact ⟨m', hm, σ3, H3, I3, w3⟩
    | brk => exact q3
    | ret v => exact q3
  | false =>
    rw [if_neg Bool.false_ne_true]
    exact wpAny_execs_nil ⟨σ1, H2, I2, q2⟩
end
structure It where
  go : Nat → Hp → Prop
  yld : Nat → Hp → V → Hp → Prop
  stop : Nat → Hp → Prop
def FpOk (X : Cx) (pins : List (Addr × Obj)) (H : Hp) (b : Addr) : Prop :=
  H b = none ∧ b ≠ X.env.locals ∧ b ∉ X.fs ∧ (b ∈ X.ex ∨ X.s₀.heap.objs.size ≤ b) ∧ (∀ x c, X.env.cells.lookup x = some c → c ≠ b) ∧ ∀ p ∈ X.pn ++ pins, p.1 ≠ b
theorem Inv.fpOk {X : Cx} {pins : List (Addr × Obj)} {σ : St} {H H' : Hp} {s : Shared} {b : Addr} (I : Inv X pins σ H s) (hb : s.heap.objs.size ≤ b) (hn : H' b = none) : FpOk X pins H' b := by
  refine ⟨hn, Nat.ne_of_gt (Nat.lt_of_lt_of_le I.lt hb), I.nofs hb, .inr (Nat.le_trans I.sz hb), fun x c e z => ?_, fun p hp z => ?_⟩
  · obtain ⟨v, q⟩ := I.cell x c e
    exact absurd (Nat.lt_of_lt_of_le q.lt (by rw [z]; exact hb)) (Nat.lt_irrefl _)
  · exact absurd (Nat.lt_of_lt_of_le (Heap.lt_size (I.pin p hp).1) (by rw [z]; exact hb)) (Nat.lt_irrefl _)
structure Turn (P : Program) (w : World) (K : PySem.W.Frag) (tg : Expr) (J : It) (fp : List Addr) (it : Addr) (tn : Nat → Heap → Prop) : Prop where
  mem : it ∈ fp
  obj : ∀ i h, tn i h → ∀ b ∈ fp, ∃ o, h.get? b = some o ∧ ∀ v, o.data ≠ .cell v
  keep : ∀ i h h', tn i h → (∀ b ∈ fp, ∀ o, h.get? b = some o → h'.get? b = some o) → tn i h'
  item : ∀ (X : Cx), X.prog = P → X.w = w → X.K = K → X.calm = true → ∀ (i : Nat) (pins : List (Addr × Obj)) (s : Shared) (σ : St) (H : Hp) (E : Value → Shared → Prop), Inv X pins σ H s → (∀ b ∈ fp, FpOk X pins H b) → tn i s.heap → J.go i H →
    wpAny (model P w) X.A (pyNext (.ref it)) (fun r s1 => ∃ u, r = some u ∧
      wpAny (model P w) X.A (letOwnedTupleGo tg (.ref it) u) (fun _ s2 => ∃ x H', Inv X pins σ H' s2 ∧ RelV x u ∧ J.yld i H x H' ∧ tn (i + 1) s2.heap ∧ ∀ b ∈ fp, H' b = none) E s1) E s
  done : ∀ (X : Cx), X.prog = P → X.w = w → X.K = K → X.calm = true → ∀ (i : Nat) (pins : List (Addr × Obj)) (s : Shared) (σ : St) (H : Hp) (E : Value → Shared → Prop), Inv X pins σ H s → (∀ b ∈ fp, FpOk X pins H b) → tn i s.heap → J.stop i H →
    wpAny (model P w) X.A (pyNext (.ref it)) (fun r s1 => r = none ∧ Inv X pins σ H s1) E s
  self : ∀ (A : Around) (i : Nat) (s : Shared) (Q : Value → Shared → Prop) (E : Value → Shared → Prop), tn i s.heap → Q (.ref it) s → wpAny (model P w) A (pyIter (.ref it)) Q E s
abbrev TI := St → Hp → (It → Hp → Prop) → Prop
def PIE (X : Cx) (pins : List (Addr × Obj)) (σ : St) (tg : Expr) (R : It → Hp → Prop) (itv : Value) (s2 : Shared) : Prop :=
  ∃ (it : Addr) (fp : List Addr) (tn : Nat → Heap → Prop) (J : It) (H' : Hp), itv = .ref it ∧ Inv X pins σ H' s2 ∧ Turn X.prog X.w X.K tg J fp it tn ∧ tn 0 s2.heap ∧ (∀ b ∈ fp, FpOk X pins H' b) ∧ R J H'
def PI (X : Cx) (tg iter : Expr) (wi : TI) : Prop :=
  ∀ (pins : List (Addr × Obj)) (s : Shared) (σ : St) (H : Hp) (R : It → Hp → Prop), Inv X pins σ H s → wi σ H R →
    wpAny (model X.prog X.w) X.A (eval iter X.env) (fun v s1 => wpAny (model X.prog X.w) X.A (pyIter v) (PIE X pins σ tg R) X.xe s1) X.xe s
theorem go_of {M : Model} {A : Around} {E : Value → Shared → Prop} {s : Shared} {tg : Expr} {it : Addr} {u : Value} {o : Obj} {n : String} {vs : Array Value} {Q : Unit → Shared → Prop} (ho : s.heap.get? it = some o) (hc : o.cls = .type n) (hd : o.data = .fields vs)
    (hn : ["enumerate", "zip", "dict_itemiterator", "dict_reverseitemiterator", "odict_iterator", "itertools.zip_longest", "itertools.pairwise"].contains n = false) (hQ : Q () s) : wpAny M A (letOwnedTupleGo tg (.ref it) u) Q E s := by
  unfold letOwnedTupleGo
  cases tg <;> first
    | exact wpAny_pure hQ
    | (cases u <;> first
        | exact wpAny_pure hQ
        | (refine wpAny_bind (wpAny_load ho ?_)
           rw [hc, hd]
           show wpAny M A (if (["enumerate", "zip", "dict_itemiterator", "dict_reverseitemiterator", "odict_iterator", "itertools.zip_longest", "itertools.pairwise"].contains n && vs[0]? == some (rawInt _)) = true then _ else _) Q E s
           rw [if_neg (by intro h; rw [hn, Bool.false_and] at h; cases h)]
           exact wpAny_pure hQ))
def Itl (K : PySem.W.Frag) (a : Addr) : It :=
  ⟨fun i H => ∃ xs x, SqL K H a xs ∧ xs[i]? = some x, fun i H x H' => H' = H ∧ ∀ xs, SqL K H a xs → xs[i]? = some x, fun i H => ∃ xs, SqL K H a xs ∧ xs.length ≤ i⟩
def Itr (lo : Int) (n : Nat) : It := ⟨fun i _ => i < n, fun i H x H' => H' = H ∧ x = .int (lo + i), fun i _ => n ≤ i⟩
theorem turn_list {P : Program} {w : World} {K : PySem.W.Frag} {tg : Expr} (a it : Addr) : Turn P w K tg (Itl K a) [it] it (fun i h => h.IsListIter it a i) where
  mem := by simp
  obj := fun i h st b hb => by
    have e : b = it := by simpa using hb
    subst e
    obtain ⟨o, e, c, d⟩ := st
    exact ⟨o, e, fun v z => by rw [d] at z; cases z⟩
  keep := fun i h h' st k => st.at fun o e => k it (by simp) o e
  item := by
    intro X hP hw hK hc i pins s σ H E I hf st hg
    subst hP hw hK
    obtain ⟨xs, x, hq, hx⟩ := hg
    obtain ⟨its, rv, p, hz⟩ := I.list hq
    obtain ⟨u, hu, ru⟩ := rv.get hx
    obtain ⟨f0, f1, f2, f3, f4, f5⟩ := hf it (by simp)
    refine wpAny_pyNext_list_item st p.isList (x := u) (by simpa using hu) fun h' st' sb => ?_
    have I1 : Inv X pins σ H { s with heap := h' } := I.turned (t' := s.toks) (fun b o hb e => (sb.2 b hb).trans e) f0 f1 f3 f4 f5
    obtain ⟨o, e, c, d⟩ := id st'
    exact ⟨u, rfl, go_of (s := { s with heap := h' }) e c d (by decide) ⟨x, H, I1, ru, ⟨rfl, fun ys hy => by rw [I.list_inj hy hq]; exact hx⟩, st', fun b hb => (hf b hb).1⟩⟩
  done := by
    intro X hP hw hK hc i pins s σ H E I hf st hg
    subst hP hw hK
    obtain ⟨xs, hq, hx⟩ := hg
    obtain ⟨its, rv, p, hz⟩ := I.list hq
    obtain ⟨f0, f1, f2, f3, f4, f5⟩ := hf it (by simp)
    have hl := rv.length
    exact wpAny_pyNext_list_end (I.ok.hd hc) st p.isList (by simp; omega) fun h' eb => ⟨rfl, I.turned (t' := s.toks) (fun b o hb e => eb b o hb e) f0 f1 f3 f4 f5⟩
  self := fun _ _ _ _ _ st h => wpAny_pyIter_listiter st h
theorem turn_range {P : Program} {w : World} {K : PySem.W.Frag} {tg : Expr} (it : Addr) (lo : Int) (n : Nat) : Turn P w K tg (Itr lo n) [it] it (fun i h => IsRangeIter h it (lo + (i : Nat) * 1) ((n : Int) - (i : Nat)) 1) where
  mem := by simp
  obj := fun i h st b hb => by
    have e : b = it := by simpa using hb
    subst e
    exact ⟨_, st, fun v z => by
      have z' : Data.fields _ = Data.cell v := z
      cases z'⟩
  keep := fun i h h' st k => k it (by simp) _ st
  item := by
    intro X hP hw hK hc i pins s σ H E I hf st hg
    subst hP hw hK
    obtain ⟨f0, f1, f2, f3, f4, f5⟩ := hf it (by simp)
    have W := Walks.range (prog := X.prog) (w := X.w) (I.ok.hd hc) it lo 1 n
    refine W.item i s _ _ hg st fun v h' tk hv st' kk => ?_
    obtain ⟨t, rfl⟩ := hv
    have I1 : Inv X pins σ H { s with heap := h', toks := tk } := I.turned (fun b o hb e => kk b o (by simpa using hb) e) f0 f1 f3 f4 f5
    refine ⟨_, rfl, go_of (s := { s with heap := h', toks := tk }) (n := "range_iterator") st' rfl rfl (by decide) ⟨.int (lo + i), H, I1, ⟨t, ?_⟩, ⟨rfl, rfl⟩, st', fun b hb => (hf b hb).1⟩⟩
    rw [Int.mul_one]
  done := by
    intro X hP hw hK hc i pins s σ H E I hf st hg
    subst hP hw hK
    obtain ⟨f0, f1, f2, f3, f4, f5⟩ := hf it (by simp)
    exact wpAny_pyNext_range_end (I.ok.hd hc) st (by have : n ≤ i := hg; omega) fun h' eb => ⟨rfl, I.turned (t' := s.toks) (fun b o hb e => eb b o hb e) f0 f1 f3 f4 f5⟩
  self := fun _ _ _ _ _ st h => wpAny_pyIter_rangeiter st h
end L2
namespace L2
open PySem PySem.Spec PyProof.Rows
section
variable {X : Cx} {tg : Expr}
def iList (K : PySem.W.Frag) (tl : TE) : TI := fun σ H R => tl σ H fun x H1 => ∃ a, x = .ref a ∧ (∃ xs, SqL K H1 a xs) ∧ R (Itl K a) H1
theorem pi_list {l : Expr} {tl : TE} (hl : PE X l tl) : PI X tg l (iList X.K tl) := by
  intro pins s σ H R I h
  refine thn (hl pins s σ H _ I h) fun v s1 ⟨x, H1, I1, r1, q1⟩ => ?_
  obtain ⟨a, e, ⟨xs, hq⟩, q⟩ := q1
  subst e
  cases r1
  obtain ⟨its, rv, p, hz⟩ := I1.list hq
  refine wpAny_pyIter_list p.isList ?_
  refine ⟨s1.heap.objs.size, [s1.heap.objs.size], _, _, H1, rfl, I1.kept (t' := s1.toks) fun b o e => Heap.get?_push_of_some _ e, turn_list a _, ⟨_, Heap.get?_push_size _ rfl, rfl, rfl⟩, fun b hb => ?_, q⟩
  have e : b = s1.heap.objs.size := by simpa using hb
  subst e
  exact I1.fpOk (Nat.le_refl _) (I1.hok.fresh (Nat.le_refl _))
theorem range_it {pins : List (Addr × Obj)} {σ : St} {H : Hp} {s : Shared} {R : It → Hp → Prop} {E : Value → Shared → Prop} {lo hi : Int} {t u v : Tok} {tk : Nat} (I : Inv X pins σ H s) (h1 : -(2 ^ 62) ≤ lo) (h2 : lo < 2 ^ 62) (h3 : -(2 ^ 62) ≤ hi) (h4 : hi < 2 ^ 62)
    (q : R (Itr lo (hi - lo).toNat) H) : wpAny (model X.prog X.w) X.A (pyIter (.ref s.heap.objs.size)) (PIE X pins σ tg R) E { s with heap := s.heap.push { cls := .type "range", data := .fields #[.int lo t, .int hi u, .int 1 v] }, toks := tk } := by
  refine wpAny_pyIter_range (IsRange.new ..) (small_one h1 h2 h3 h4) ?_
  have I1 : Inv X pins σ H { s with heap := s.heap.push { cls := .type "range", data := .fields #[.int lo t, .int hi u, .int 1 v] }, toks := tk } := I.kept fun b o e => Heap.get?_push_of_some _ e
  refine ⟨(s.heap.push { cls := .type "range", data := .fields #[.int lo t, .int hi u, .int 1 v] }).objs.size, [(s.heap.push { cls := .type "range", data := .fields #[.int lo t, .int hi u, .int 1 v] }).objs.size], _, _, H, rfl,
    I1.kept (t' := tk) fun b o e => Heap.get?_push_of_some _ e, turn_range _ lo (hi - lo).toNat, ?_, fun b hb => ?_, q⟩
  · have e1 : lo + ((0 : Nat) : Int) * 1 = lo := by simp
    have e2 : (((hi - lo).toNat : Nat) : Int) - ((0 : Nat) : Int) = Builtin.Range.rangeSize lo hi 1 := by rw [rangeSize_one]; split <;> omega
    show IsRangeIter _ _ (lo + ((0 : Nat) : Int) * 1) ((((hi - lo).toNat : Nat) : Int) - ((0 : Nat) : Int)) 1
    rw [e1, e2]
    exact Heap.get?_push_size _ rfl
  · have e : b = (s.heap.push { cls := .type "range", data := .fields #[.int lo t, .int hi u, .int 1 v] }).objs.size := by simpa using hb
    subst e
    exact I1.fpOk (Nat.le_refl _) (I1.hok.fresh (Nat.le_refl _))
def iRng1 (ta : TA) : TI := fun σ H R => ta σ H fun vs H1 => ∃ j : Int, vs = [.int j] ∧ -(2 ^ 62) ≤ j ∧ j < 2 ^ 62 ∧ R (Itr 0 j.toNat) H1
theorem pi_range1 {a : Expr} {ta : TA} {p pos : Pos} (hg : Gl X "range") (hm : X.mg "range" = none) (ha : PA X [a] ta) (hs : starEach [a] X.env = [(false, eval a X.env)] := by rfl) : PI X tg (.Call (.Name "range" p) [a] [] pos) (iRng1 ta) := by
  intro pins s σ H R I h
  refine Call_ (ld_blt I hg hm boot_range (PyProof.Rows.callWith_type1 (thn (ha pos pins s σ H _ I h) fun us s1 ⟨vs, H1, I1, r1, q1⟩ => ?_) hs rfl))
  obtain ⟨j, e, q1, q2, q⟩ := q1
  subst e
  cases r1 with
  | cons r rr =>
    cases rr
    obtain ⟨t, rfl⟩ := r
    exact call_range_1 (range_it I1 (by omega) (by omega) q1 q2 (by simpa using q))
def tFor (wi : TI) (g : TG) (tb : TS) : TS := fun D σ H => wi σ H fun J H1 => ∃ W : Nat → Nat → St → Hp → Prop, (∃ m, W 0 m σ H1) ∧ ∀ i m σ H, W i m σ H →
  (J.stop i H ∧ D.nx σ H) ∨ (J.go i H ∧ ∃ N : St → Hp → Prop, (∀ σ' H', N σ' H' → ∃ m', m' < m ∧ W (i + 1) m' σ' H') ∧ ∀ x H', J.yld i H x H' → g x σ H' fun σ2 H2 => tb { D with nx := N, ct := N, bk := D.nx } σ2 H2)
def pinsAt (fp : List Addr) (h : Heap) : List (Addr × Obj) := fp.filterMap fun b => (h.get? b).map fun o => (b, o)
theorem mem_pinsAt {fp : List Addr} {h : Heap} {b : Addr} {o : Obj} (hb : b ∈ fp) (e : h.get? b = some o) : (b, o) ∈ pinsAt fp h := List.mem_filterMap.mpr ⟨b, hb, by rw [e]; rfl⟩
theorem of_pinsAt {fp : List Addr} {h : Heap} {p : Addr × Obj} (hp : p ∈ pinsAt fp h) : p.1 ∈ fp ∧ h.get? p.1 = some p.2 := by
  obtain ⟨b, hb, e⟩ := List.mem_filterMap.mp hp
  cases q : h.get? b with
  | none => rw [q] at e; cases e
  | some o =>
    rw [q] at e
    have e' : (b, o) = p := Option.some.inj e
    subst e'
    exact ⟨hb, q⟩
theorem Inv.pinned {pins : List (Addr × Obj)} {σ : St} {H : Hp} {s : Shared} {fp : List Addr} (I : Inv X pins σ H s) (hf : ∀ b ∈ fp, FpOk X pins H b) (ho : ∀ b ∈ fp, ∃ o, s.heap.get? b = some o ∧ ∀ v, o.data ≠ .cell v) : Inv X (pins ++ pinsAt fp s.heap) σ H s :=
  I.pins_of fun p hp => (List.mem_append.mp hp).elim (fun z => I.pin p (List.mem_append_right _ z)) fun z => by
    obtain ⟨hb, e⟩ := of_pinsAt z
    obtain ⟨f0, f1, f2, _⟩ := hf p.1 hb
    obtain ⟨o, e', d⟩ := ho p.1 hb
    rw [e] at e'; cases e'
    exact ⟨e, f0, f1, f2, d⟩
theorem Inv.unpinned {pins pl : List (Addr × Obj)} {σ : St} {H : Hp} {s : Shared} (I : Inv X (pins ++ pl) σ H s) : Inv X pins σ H s := I.pins_of fun p hp => I.pin p (List.mem_append_right _ (List.mem_append_left _ hp))
theorem ps_for {iter : Expr} {body : List Stmt} {wi : TI} {g : TG} {tb : TS} {pos : Pos} (hp : PassesOwn (model X.prog X.w) X.A X.env X.xe) (hc : X.calm = true) (hi : PI X tg iter wi) (hg : PG X tg g) (hb : PSs X body tb)
    (hs : ∀ x, foldedSetIterable iter X.env x = pure x := by intro _; rfl) : PS X (.For tg iter body [] pos) (tFor wi g tb) := by
  intro pins s σ H D I h
  refine wpAny_For (thn (hi pins s σ H _ I h) fun v s1 h1 => thn h1 fun itv s2 h2 => ?_) hs
  obtain ⟨it, fp, tn, J, H2, e, I2, T, st2, f2, W, ⟨m0, w0⟩, turn⟩ := h2
  subst e
  have stat : ∀ {H' : Hp}, (∀ b ∈ fp, H' b = none) → ∀ b ∈ fp, FpOk X pins H' b := fun hn b hb => ⟨hn b hb, (f2 b hb).2⟩
  refine codeAny_forLoop_any (fun n s' => ∃ i σ' H', Inv X pins σ' H' s' ∧ tn i s'.heap ∧ (∀ b ∈ fp, H' b = none) ∧ W i n σ' H') ?_ m0 ⟨0, σ, H2, I2, st2, fun b hb => (f2 b hb).1, w0⟩
  rintro n s3 ⟨i, σ3, H3, I3, st3, fr3, w3⟩
  rcases turn i n σ3 H3 w3 with ⟨stop, qn⟩ | ⟨go, N, hN, step⟩
  · refine wpAny_passesOwn hp (thn (T.done X rfl rfl rfl hc i pins s3 σ3 H3 X.xe I3 (stat fr3) st3 stop) fun r s4 ⟨hr, I4⟩ => ?_)
    subst hr
    exact wpAny_execs_nil ⟨σ3, H3, I4, qn⟩
  · refine wpAny_passesOwn hp (thn (T.item X rfl rfl rfl hc i pins s3 σ3 H3 X.xe I3 (stat fr3) st3 go) fun r s4 ⟨u, hr, h4⟩ => ?_)
    subst hr
    refine wpAny_passesOwn hp (thn h4 fun _ s5 ⟨x, H5, I5, r5, y5, st5, fr5⟩ => ?_)
    have I5' := I5.pinned (stat fr5) (T.obj _ _ st5)
    refine wpAny_passesOwn hp (thn (hg _ s5 σ3 H5 x u _ I5' r5 (step x H5 y5)) fun _ s6 ⟨σ6, H6, I6, q6⟩ => ?_)
    refine wpAny_passesOwn hp (thn (hb _ s6 σ6 H6 _ I6 q6) fun f s7 q7 => ?_)
    have again : ∀ {σ7 : St} {H7 : Hp}, Inv X (pins ++ pinsAt fp s5.heap) σ7 H7 s7 → N σ7 H7 → ∃ m, m < n ∧ ∃ i σ' H', Inv X pins σ' H' s7 ∧ tn i s7.heap ∧ (∀ b ∈ fp, H' b = none) ∧ W i m σ' H' := fun {σ7 H7} I7 n7 => by
      obtain ⟨m', hm, w7⟩ := hN σ7 H7 n7
      refine ⟨m', hm, i + 1, σ7, H7, I7.unpinned, T.keep _ _ _ st5 fun b hb o e => (I7.pin (b, o) (List.mem_append_right _ (List.mem_append_right _ (mem_pinsAt hb e)))).1, fun b hb => ?_, w7⟩
      obtain ⟨o, e, d⟩ := T.obj _ _ st5 b hb
      exact (I7.pin (b, o) (List.mem_append_right _ (List.mem_append_right _ (mem_pinsAt hb e)))).2.1
    cases f with
    | next => obtain ⟨σ7, H7, I7, n7⟩ := q7; exact again I7 n7
    | cont => obtain ⟨σ7, H7, I7, n7⟩ := q7; exact again I7 n7
    | brk => obtain ⟨σ7, H7, I7, q7⟩ := q7; exact ⟨σ7, H7, I7.unpinned, q7⟩
    | ret v => obtain ⟨x7, σ7, H7, I7, r7, q7⟩ := q7; exact ⟨x7, σ7, H7, I7.unpinned, r7, q7⟩
end
theorem for_list {K : PySem.W.Frag} {a : Addr} {xs : List V} {g : TG} {tb : TS} {D : Ends} {σ : St} {H : Hp} (Pv : Nat → St → Hp → Prop) (h0 : Pv 0 σ H) (hl : ∀ i σ H, i ≤ xs.length → Pv i σ H → SqL K H a xs)
    (hs : ∀ i x σ H, xs[i]? = some x → Pv i σ H → g x σ H fun σ2 H2 => tb { D with nx := Pv (i + 1), ct := Pv (i + 1), bk := D.nx } σ2 H2) (hd : ∀ σ H, Pv xs.length σ H → D.nx σ H) :
    ∃ W : Nat → Nat → St → Hp → Prop, (∃ m, W 0 m σ H) ∧ ∀ i m σ H, W i m σ H →
      ((Itl K a).stop i H ∧ D.nx σ H) ∨ ((Itl K a).go i H ∧ ∃ N : St → Hp → Prop, (∀ σ' H', N σ' H' → ∃ m', m' < m ∧ W (i + 1) m' σ' H') ∧ ∀ x H', (Itl K a).yld i H x H' → g x σ H' fun σ2 H2 => tb { D with nx := N, ct := N, bk := D.nx } σ2 H2) := by
  refine ⟨fun i m σ H => m = xs.length - i ∧ i ≤ xs.length ∧ Pv i σ H, ⟨xs.length, by simp, Nat.zero_le _, h0⟩, ?_⟩
  rintro i m σ H ⟨rfl, hi, p⟩
  have q := hl i σ H hi p
  by_cases hlt : i < xs.length
  · refine .inr ⟨⟨xs, xs[i], q, by simp [hlt]⟩, Pv (i + 1), fun σ' H' p' => ⟨xs.length - (i + 1), by omega, rfl, hlt, p'⟩, fun x H' y => ?_⟩
    obtain ⟨e, y⟩ := y
    subst e
    exact hs i x σ _ (y xs q) p
  · have e : i = xs.length := by omega
    subst e
    exact .inl ⟨⟨xs, q, Nat.le_refl _⟩, hd σ H p⟩
theorem for_range {lo : Int} {n : Nat} {g : TG} {tb : TS} {D : Ends} {σ : St} {H : Hp} (Pv : Nat → St → Hp → Prop) (h0 : Pv 0 σ H)
    (hs : ∀ i σ H, i < n → Pv i σ H → g (.int (lo + i)) σ H fun σ2 H2 => tb { D with nx := Pv (i + 1), ct := Pv (i + 1), bk := D.nx } σ2 H2) (hd : ∀ σ H, Pv n σ H → D.nx σ H) :
    ∃ W : Nat → Nat → St → Hp → Prop, (∃ m, W 0 m σ H) ∧ ∀ i m σ H, W i m σ H →
      ((Itr lo n).stop i H ∧ D.nx σ H) ∨ ((Itr lo n).go i H ∧ ∃ N : St → Hp → Prop, (∀ σ' H', N σ' H' → ∃ m', m' < m ∧ W (i + 1) m' σ' H') ∧ ∀ x H', (Itr lo n).yld i H x H' → g x σ H' fun σ2 H2 => tb { D with nx := N, ct := N, bk := D.nx } σ2 H2) := by
  refine ⟨fun i m σ H => m = n - i ∧ i ≤ n ∧ Pv i σ H, ⟨n, by simp, Nat.zero_le _, h0⟩, ?_⟩
  rintro i m σ H ⟨rfl, hi, p⟩
  by_cases hlt : i < n
  · refine .inr ⟨hlt, Pv (i + 1), fun σ' H' p' => ⟨n - (i + 1), by omega, rfl, hlt, p'⟩, fun x H' y => ?_⟩
    obtain ⟨e, y⟩ := y
    subst e y
    exact hs i σ _ hlt p
  · have e : i = n := by omega
    subst e
    exact .inl ⟨Nat.le_refl _, hd σ H p⟩
end L2
namespace L2
open PySem PySem.Spec PyProof.Rows
abbrev R2 := V → V → Hp → VK → Prop
def OpR (X : Cx) (f : Value → Value → Sem Value) (r : R2) : Prop :=
  ∀ (pins : List (Addr × Obj)) (s : Shared) (σ : St) (H : Hp) (x y : V) (v u : Value) (Q : VK), Inv X pins σ H s → RelV x v → RelV y u → r x y H Q →
    wpAny (model X.prog X.w) X.A (f v u) (EP X pins σ Q) X.xe s
def UnR (X : Cx) (f : Value → Sem Value) (r : V → Hp → VK → Prop) : Prop :=
  ∀ (pins : List (Addr × Obj)) (s : Shared) (σ : St) (H : Hp) (x : V) (v : Value) (Q : VK), Inv X pins σ H s → RelV x v → r x H Q →
    wpAny (model X.prog X.w) X.A (f v) (EP X pins σ Q) X.xe s
def CallR (X : Cx) (f : Value) (r : List V → Hp → VK → Prop) : Prop :=
  ∀ (pins : List (Addr × Obj)) (s : Shared) (σ : St) (H : Hp) (xs : List V) (us : List Value) (Q : VK), Inv X pins σ H s → Vals xs us → r xs H Q →
    wpAny (model X.prog X.w) X.A (call f us) (EP X pins σ Q) X.xe s
def TruR (X : Cx) (r : V → Hp → (Bool → Hp → Prop) → Prop) : Prop :=
  ∀ (pins : List (Addr × Obj)) (s : Shared) (σ : St) (H : Hp) (x : V) (v : Value) (Q : Bool → Hp → Prop), Inv X pins σ H s → RelV x v → r x H Q →
    wpAny (model X.prog X.w) X.A (truthy v) (TP X pins σ Q) X.xe s
def tOp (r : R2) (ta tb : TE) : TE := fun σ H Q => ta σ H fun x H1 => tb σ H1 fun y H2 => r x y H2 Q
def tUn (r : V → Hp → VK → Prop) (ta : TE) : TE := fun σ H Q => ta σ H fun x H1 => r x H1 Q
def rI (C : Int → Int → Prop) (g : Int → Int → V) : R2 := fun x y H Q => ∃ i j, x = .int i ∧ y = .int j ∧ C i j ∧ Q (g i j) H
def rI0 (g : Int → Int → V) : R2 := fun x y H Q => ∃ i j, x = .int i ∧ y = .int j ∧ Q (g i j) H
def rU (g : Int → V) : V → Hp → VK → Prop := fun x H Q => ∃ i, x = .int i ∧ Q (g i) H
section
variable {X : Cx} {a b c : Expr} {ta tb tc : TE} {pos : Pos}
theorem binT (ha : PE X a ta) (hb : PE X b tb) {pins : List (Addr × Obj)} {s : Shared} {σ : St} {H : Hp} {R : V → V → Hp → Prop} (I : Inv X pins σ H s)
    (h : ta σ H fun x H1 => tb σ H1 fun y H2 => R x y H2) {Q : Value → Shared → Prop} {f : Value → Value → Sem Value}
    (hf : ∀ v u s2 x y H2, Inv X pins σ H2 s2 → RelV x v → RelV y u → R x y H2 → wpAny (model X.prog X.w) X.A (f v u) Q X.xe s2) :
    wpAny (model X.prog X.w) X.A (eval a X.env) (fun v s₁ => wpAny (model X.prog X.w) X.A (eval b X.env) (fun u s₂ => wpAny (model X.prog X.w) X.A (f v u) Q X.xe s₂) X.xe s₁) X.xe s := by
  refine thn (ha pins s σ H _ I h) fun v s1 ⟨x, H1, I1, r1, q1⟩ => ?_
  refine thn (hb pins s1 σ H1 _ I1 q1) fun u s2 ⟨y, H2, I2, r2, q2⟩ => ?_
  exact hf v u s2 x y H2 I2 r1 r2 q2
theorem pe_op {op : Operator} {r : R2} (ho : OpR X (binaryOp op) r) (ha : PE X a ta) (hb : PE X b tb) : PE X (.BinOp a op b pos) (tOp r ta tb) := by
  intro pins s σ H Q I h
  exact wpAny_BinOp (binT ha hb I h fun v u s2 x y H2 I2 rx ry q => ho pins s2 σ H2 x y v u Q I2 rx ry q)
theorem pe_un {op : UnaryOp} {r : V → Hp → VK → Prop} (ho : UnR X (unaryOp op) r) (ha : PE X a ta) : PE X (.UnaryOp op a pos) (tUn r ta) := by
  intro pins s σ H Q I h
  exact UnaryOp_ (thn (ha pins s σ H _ I h) fun v s1 ⟨x, H1, I1, r1, q1⟩ => ho pins s1 σ H1 x v Q I1 r1 q1)
theorem opI {f : Value → Value → Sem Value} {C : Int → Int → Prop} {g : Int → Int → Int}
    (rule : ∀ (i j : Int) (t u : Tok) (s : Shared) (Q : Value → Shared → Prop) (E : Value → Shared → Prop), C i j → Q (.int (g i j) s.toks) { s with toks := s.toks + 1 } → wpAny (model X.prog X.w) X.A (f (.int i t) (.int j u)) Q E s) :
    OpR X f (rI C fun i j => .int (g i j)) := by
  intro pins s σ H x y v u Q I rx ry h
  obtain ⟨i, j, rfl, rfl, hc, q⟩ := h
  obtain ⟨t, rfl⟩ := rx
  obtain ⟨t', rfl⟩ := ry
  exact rule i j t t' s _ _ hc ⟨.int (g i j), H, I.tok _, ⟨_, rfl⟩, q⟩
theorem opI0 {f : Value → Value → Sem Value} {g : Int → Int → Int}
    (rule : ∀ (i j : Int) (t u : Tok) (s : Shared) (Q : Value → Shared → Prop) (E : Value → Shared → Prop), Q (.int (g i j) s.toks) { s with toks := s.toks + 1 } → wpAny (model X.prog X.w) X.A (f (.int i t) (.int j u)) Q E s) :
    OpR X f (rI0 fun i j => .int (g i j)) := by
  intro pins s σ H x y v u Q I rx ry h
  obtain ⟨i, j, rfl, rfl, q⟩ := h
  obtain ⟨t, rfl⟩ := rx
  obtain ⟨t', rfl⟩ := ry
  exact rule i j t t' s _ _ ⟨.int (g i j), H, I.tok _, ⟨_, rfl⟩, q⟩
theorem opB0 {f : Value → Value → Sem Value} {g : Int → Int → Bool}
    (rule : ∀ (i j : Int) (t u : Tok) (s : Shared) (Q : Value → Shared → Prop) (E : Value → Shared → Prop), Q (.bool (g i j)) s → wpAny (model X.prog X.w) X.A (f (.int i t) (.int j u)) Q E s) :
    OpR X f (rI0 fun i j => .bl (g i j)) := by
  intro pins s σ H x y v u Q I rx ry h
  obtain ⟨i, j, rfl, rfl, q⟩ := h
  obtain ⟨t, rfl⟩ := rx
  obtain ⟨t', rfl⟩ := ry
  exact rule i j t t' s _ _ ⟨.bl (g i j), H, I, rfl, q⟩
def CDiv (i j : Int) : Prop := 0 < j ∧ j < 1073741824
def CPow (i j : Int) : Prop := 0 ≤ j ∧ j ≤ 1000000 ∧ i.natAbs < 2 ^ 64
def CMul (i j : Int) : Prop := (-(2 ^ 64) < i ∧ i < 2 ^ 64) ∨ (-(2 ^ 64) < j ∧ j < 2 ^ 64)
theorem CMul.ok {i j : Int} (h : CMul i j) : IntMulOk i j := by
  rcases h with ⟨h1, h2⟩ | ⟨h1, h2⟩
  · exact .of_left (intBits_le_64 h1 h2)
  · exact .of_right (intBits_le_64 h1 h2)
theorem two_pow_nn (k : Nat) : (0 : Int) ≤ 2 ^ k := by
  rw [two_pow_cast]
  exact Int.natCast_nonneg _
theorem op_add : OpR X (binaryOp .Add) (rI0 fun i j => .int (i + j)) := opI0 fun _ _ _ _ _ _ _ q => add_int q
theorem op_sub : OpR X (binaryOp .Sub) (rI0 fun i j => .int (i - j)) := opI0 fun _ _ _ _ _ _ _ q => sub_int q
theorem op_mul : OpR X (binaryOp .Mult) (rI CMul fun i j => .int (i * j)) := opI fun _ _ _ _ _ _ _ hc q => mul_int q hc.ok
theorem op_fdiv : OpR X (binaryOp .FloorDiv) (rI CDiv fun i j => .int (i / j)) := opI fun i j _ _ _ _ _ hc q => by
  have h1 : (0 : Int) < j := hc.1
  have h2 : j < 1073741824 := hc.2
  exact floordiv_int (by omega) (by rw [Int.fdiv_eq_ediv_of_nonneg i (by omega)]; exact q) (.inl (PyProof.noPylong_small (by omega)))
theorem op_mod : OpR X (binaryOp .Mod) (rI (fun _ j => 0 < j) fun i j => .int (i % j)) := opI fun i j _ _ _ _ _ hc q => by
  have h1 : (0 : Int) < j := hc
  exact mod_int' (by omega) (by rw [Int.fmod_eq_emod_of_nonneg i (by omega)]; exact q)
theorem op_pow : OpR X (binaryOp .Pow) (rI CPow fun i j => .int (i ^ j.toNat)) := opI fun _ _ _ _ _ _ _ hc q => pow_int_small hc.1 hc.2.1 hc.2.2 q
theorem op_shr : OpR X (binaryOp .RShift) (rI (fun _ j => 0 ≤ j) fun i j => .int (i / 2 ^ j.toNat)) := opI fun i j _ _ _ _ _ hc q =>
  rshift_int hc (by rw [Int.fdiv_eq_ediv_of_nonneg i (two_pow_nn _)]; exact q)
theorem op_and : OpR X (binaryOp .BitAnd) (rI0 fun i j => .int (Builtin.bitAnd i j)) := opI0 fun _ _ _ _ _ _ _ q => and_int q
end
def scal : V → V → Bool
  | .non, .non => true | .non, .int _ => true | .int _, .non => true | .non, .bl _ => true | .bl _, .non => true | .non, .str _ => true | .str _, .non => true
  | .int _, .int _ => true | .bl _, .bl _ => true | .str _, .str _ => true | .byt _, .byt _ => true
  | .int _, .str _ => true | .str _, .int _ => true | .bl _, .str _ => true | .str _, .bl _ => true
  | _, _ => false
def rEq : R2 := fun x y H Q => scal x y = true ∧ Q (.bl (decide (x = y))) H
def rNe : R2 := fun x y H Q => scal x y = true ∧ Q (.bl (!decide (x = y))) H
theorem dec_int {i j : Int} : decide (V.int i = V.int j) = (i == j) := by
  rw [Bool.eq_iff_iff]
  simp
theorem dec_bl {i j : Bool} : decide (V.bl i = V.bl j) = (i == j) := by
  rw [Bool.eq_iff_iff]
  simp
theorem dec_str {i j : Str} : decide (V.str i = V.str j) = (i == j) := by
  rw [Bool.eq_iff_iff]
  simp
theorem dec_byt {i j : Array UInt8} : decide (V.byt i = V.byt j) = (i.toList == j.toList) := by
  rw [Bool.eq_iff_iff]
  cases i
  cases j
  simp
section
variable {X : Cx} {a b c : Expr} {ta tb tc : TE} {pos : Pos}
theorem fin_bl {pins : List (Addr × Obj)} {σ : St} {H : Hp} {s : Shared} {Q : VK} {k k' : Bool} (I : Inv X pins σ H s) (q : Q (.bl k) H) (e : k = k') : EP X pins σ Q (.bool k') s := by
  subst e
  exact ⟨.bl k, H, I, rfl, q⟩
theorem op_eq : OpR X (compareOp .Eq) rEq := by
  intro pins s σ H x y v u Q I rx ry h
  obtain ⟨hs, q⟩ := h
  cases x with
  | non =>
    cases rx
    cases y with
    | non => cases ry; exact PySem.EqNone.eq_none_none (fin_bl I q (by simp))
    | bl j => cases ry; exact PySem.EqNone.eq_none_bool (fin_bl I q (by simp))
    | int j => obtain ⟨t', rfl⟩ := ry; exact PySem.EqNone.eq_none_int (fin_bl I q (by simp))
    | str j => obtain ⟨t', rfl⟩ := ry; exact PySem.EqNone.eq_none_str (fin_bl I q (by simp))
    | _ => exact absurd (show false = true from hs) Bool.false_ne_true
  | bl i =>
    cases rx
    cases y with
    | non => cases ry; exact PySem.EqNone.eq_bool_none (fin_bl I q (by simp))
    | bl j => cases ry; exact eq_bool (fin_bl I q dec_bl)
    | str j => obtain ⟨t', rfl⟩ := ry; exact PySem.EqMixed.eq_bool_str (fin_bl I q (by simp))
    | _ => exact absurd (show false = true from hs) Bool.false_ne_true
  | int i =>
    obtain ⟨t, rfl⟩ := rx
    cases y with
    | non => cases ry; exact PySem.EqNone.eq_int_none (fin_bl I q (by simp))
    | int j => obtain ⟨t', rfl⟩ := ry; exact eq_int (fin_bl I q dec_int)
    | str j => obtain ⟨t', rfl⟩ := ry; exact PySem.EqMixed.eq_int_str (fin_bl I q (by simp))
    | _ => exact absurd (show false = true from hs) Bool.false_ne_true
  | str i =>
    obtain ⟨t, rfl⟩ := rx
    cases y with
    | non => cases ry; exact PySem.EqNone.eq_str_none (fin_bl I q (by simp))
    | bl j => cases ry; exact PySem.EqMixed.eq_str_bool (fin_bl I q (by simp))
    | int j => obtain ⟨t', rfl⟩ := ry; exact PySem.EqMixed.eq_str_int (fin_bl I q (by simp))
    | str j => obtain ⟨t', rfl⟩ := ry; exact eq_str (fin_bl I q dec_str)
    | _ => exact absurd (show false = true from hs) Bool.false_ne_true
  | byt i =>
    obtain ⟨t, rfl⟩ := rx
    cases y with
    | byt j => obtain ⟨t', rfl⟩ := ry; exact PySem.W.eq_bytes (fin_bl I q dec_byt)
    | _ => exact absurd (show false = true from hs) Bool.false_ne_true
  | _ => cases y <;> exact absurd (show false = true from hs) Bool.false_ne_true
theorem op_ne : OpR X (compareOp .NotEq) rNe := by
  intro pins s σ H x y v u Q I rx ry h
  obtain ⟨hs, q⟩ := h
  cases x with
  | non =>
    cases rx
    cases y with
    | non => cases ry; exact PySem.EqNone.ne_none_none (fin_bl I q (by simp))
    | bl j => cases ry; exact PySem.EqNone.ne_none_bool (fin_bl I q (by simp))
    | int j => obtain ⟨t', rfl⟩ := ry; exact PySem.EqNone.ne_none_int (fin_bl I q (by simp))
    | str j => obtain ⟨t', rfl⟩ := ry; exact PySem.EqNone.ne_none_str (fin_bl I q (by simp))
    | _ => exact absurd (show false = true from hs) Bool.false_ne_true
  | bl i =>
    cases rx
    cases y with
    | non => cases ry; exact PySem.EqNone.ne_bool_none (fin_bl I q (by simp))
    | bl j => cases ry; exact ne_bool (fin_bl I q (congrArg not dec_bl))
    | str j => obtain ⟨t', rfl⟩ := ry; exact PySem.EqMixed.ne_bool_str (fin_bl I q (by simp))
    | _ => exact absurd (show false = true from hs) Bool.false_ne_true
  | int i =>
    obtain ⟨t, rfl⟩ := rx
    cases y with
    | non => cases ry; exact PySem.EqNone.ne_int_none (fin_bl I q (by simp))
    | int j => obtain ⟨t', rfl⟩ := ry; exact ne_int (fin_bl I q (congrArg not dec_int))
    | str j => obtain ⟨t', rfl⟩ := ry; exact PySem.EqMixed.ne_int_str (fin_bl I q (by simp))
    | _ => exact absurd (show false = true from hs) Bool.false_ne_true
  | str i =>
    obtain ⟨t, rfl⟩ := rx
    cases y with
    | non => cases ry; exact PySem.EqNone.ne_str_none (fin_bl I q (by simp))
    | bl j => cases ry; exact PySem.EqMixed.ne_str_bool (fin_bl I q (by simp))
    | int j => obtain ⟨t', rfl⟩ := ry; exact PySem.EqMixed.ne_str_int (fin_bl I q (by simp))
    | str j => obtain ⟨t', rfl⟩ := ry; exact ne_str (fin_bl I q (congrArg not dec_str))
    | _ => exact absurd (show false = true from hs) Bool.false_ne_true
  | byt i =>
    obtain ⟨t, rfl⟩ := rx
    cases y with
    | byt j => obtain ⟨t', rfl⟩ := ry; exact PySem.W.ne_bytes (fin_bl I q (congrArg not dec_byt))
    | _ => exact absurd (show false = true from hs) Bool.false_ne_true
  | _ => cases y <;> exact absurd (show false = true from hs) Bool.false_ne_true
theorem op_lt : OpR X (compareOp .Lt) (rI0 fun i j => .bl (decide (i < j))) := opB0 fun _ _ _ _ _ _ _ q => lt_int q
theorem op_le : OpR X (compareOp .LtE) (rI0 fun i j => .bl (decide (i ≤ j))) := opB0 fun _ _ _ _ _ _ _ q => le_int q
theorem op_gt : OpR X (compareOp .Gt) (rI0 fun i j => .bl (decide (j < i))) := opB0 fun _ _ _ _ _ _ _ q => gt_int q
theorem op_isN : OpR X (compareOp .Is) (fun x y H Q => y = .non ∧ Q (.bl (decide (x = .non))) H) := by
  intro pins s σ H x y v u Q I rx ry h
  obtain ⟨rfl, q⟩ := h
  cases ry
  refine is_none_gen (fin_bl I q ?_)
  cases x <;> first
    | (cases rx; rfl)
    | (obtain ⟨t, rfl⟩ := rx; rfl)
theorem op_notN : OpR X (compareOp .IsNot) (fun x y H Q => y = .non ∧ Q (.bl (!decide (x = .non))) H) := by
  intro pins s σ H x y v u Q I rx ry h
  obtain ⟨rfl, q⟩ := h
  cases ry
  refine isnot_none_gen (fin_bl I q ?_)
  cases x <;> first
    | (cases rx; rfl)
    | (obtain ⟨t, rfl⟩ := rx; rfl)
theorem nomark (b : Expr) {op : CmpOp} (h : op ≠ .In := by decide) (h2 : op ≠ .NotIn := by decide) : behindInMarks op b = false := by
  have e1 : (op == CmpOp.In) = false := by cases op <;> first | rfl | exact absurd rfl h
  have e2 : (op == CmpOp.NotIn) = false := by cases op <;> first | rfl | exact absurd rfl h2
  cases b <;> simp [behindInMarks, e1, e2]
theorem pe_cmpR {op : CmpOp} {r : R2} (ho : OpR X (compareOp op) r) (ha : PE X a ta) (hb : PE X b tb) (hm : behindInMarks op b = false) : PE X (.Compare a [op] [b] pos) (tOp r ta tb) := by
  intro pins s σ H Q I h
  exact wpAny_Compare1 (binT ha hb I h fun v u s2 x y H2 I2 rx ry q => ho pins s2 σ H2 x y v u Q I2 rx ry q) hm
def tTest (t : TE) : TT := fun σ H Q => t σ H fun x H' => ∃ k, x = .bl k ∧ Q k H'
theorem pt_cmpR {op : CmpOp} {r : R2} (ho : OpR X (compareOp op) r) (ha : PE X a ta) (hb : PE X b tb) (hm : behindInMarks op b = false) : PT X (.Compare a [op] [b] pos) (tTest (tOp r ta tb)) := by
  intro pins s σ H Q I h
  refine wpAny_isTrue_Compare1 (thn (ha pins s σ H _ I h) fun v s1 ⟨x, H1, I1, r1, q1⟩ => thn (hb pins s1 σ H1 _ I1 q1) fun u s2 ⟨y, H2, I2, r2, q2⟩ =>
    thn (ho pins s2 σ H2 x y v u _ I2 r1 r2 q2) fun c s3 ⟨z, H3, I3, r3, k, e, q3⟩ => ?_) hm
  subst e
  cases r3
  exact wpAny_truthy_bool ⟨H3, I3, q3⟩
def tChain (r r' : R2) (ta tb tc : TE) : TE := fun σ H Q => ta σ H fun x H1 => tb σ H1 fun y H2 => r x y H2 fun z H3 => ∃ k, z = .bl k ∧
  (if k = true then tc σ H3 fun w' H4 => r' y w' H4 Q else Q (.bl false) H3)
theorem pe_chain {op op' : CmpOp} {r r' : R2} (ho : OpR X (compareOp op) r) (ho' : OpR X (compareOp op') r') (ha : PE X a ta) (hb : PE X b tb) (hc : PE X c tc)
    (hm : lastMarks [op, op'] [b, c] = false := by with_unfolding_all rfl) : PE X (.Compare a [op, op'] [b, c] pos) (tChain r r' ta tb tc) := by
  intro pins s σ H Q I h
  refine Compare_chain (thn (ha pins s σ H _ I h) fun v s1 ⟨x, H1, I1, r1, q1⟩ => chain_link (thn (hb pins s1 σ H1 _ I1 q1) fun u s2 ⟨y, H2, I2, r2, q2⟩ =>
    thn (ho pins s2 σ H2 x y v u _ I2 r1 r2 q2) fun d s3 ⟨z, H3, I3, r3, k, e, q3⟩ => ?_)) hm
  subst e
  cases r3
  refine wpAny_truthy_bool ?_
  cases k with
  | false => exact ite_ff ⟨.bl false, H3, I3, rfl, q3⟩
  | true => exact ite_tt (chain_last (thn (hc pins s3 σ H3 _ I3 q3) fun w' s4 ⟨z', H4, I4, r4, q4⟩ => ho' pins s4 σ H4 y z' u w' Q I4 r2 r4 q4))
def TruV (K : PySem.W.Frag) (x : V) (H : Hp) (k : Bool) : Prop :=
  match x with
  | .non => k = false
  | .bl b => k = b
  | .int i => k = (i != 0)
  | .str y => y.length ≤ sizeLine ∧ k = ((y.length : Int) != 0)
  | .byt y => y.size ≤ sizeLine ∧ k = ((y.size : Int) != 0)
  | .ref p => (∃ xs, SqL K H p xs ∧ k = !xs.isEmpty) ∨ (∃ xs, SqT K H p xs ∧ k = !xs.isEmpty) ∨ ∃ kvs, H p = some (.dK kvs) ∧ k = !kvs.isEmpty
  | _ => False
theorem line63 : (sizeLine : Nat) < 2 ^ 63 := by rw [sizeLine_eq]; decide
theorem vals1 {x : V} {us : List Value} (r : Vals [x] us) : ∃ u, us = [u] ∧ RelV x u := by
  cases r with
  | cons r1 r2 => cases r2; exact ⟨_, rfl, r1⟩
def LenV (K : PySem.W.Frag) (x : V) (H : Hp) (n : Nat) : Prop :=
  match x with
  | .str y => y.length ≤ sizeLine ∧ n = y.length
  | .byt y => y.size ≤ sizeLine ∧ n = y.size
  | .ref p => (∃ xs, SqL K H p xs ∧ n = xs.length) ∨ ∃ xs, SqT K H p xs ∧ n = xs.length
  | _ => False
theorem call_len : CallR X (.builtin "len") (fun xs H Q => ∃ x n, xs = [x] ∧ LenV X.K x H n ∧ Q (.int n) H) := by
  intro pins s σ H xs us Q I r h
  obtain ⟨x, n, rfl, e, q⟩ := h
  obtain ⟨u, rfl, rx⟩ := vals1 r
  have hl := line63
  have hs : sizeLine = 16777216 := sizeLine_eq
  cases x with
  | str y =>
    obtain ⟨t, rfl⟩ := rx
    obtain ⟨hy, e'⟩ : y.length ≤ sizeLine ∧ n = y.length := e
    subst e'
    exact len_str (by omega) ⟨.int _, H, I.tok _, ⟨_, rfl⟩, q⟩
  | byt y =>
    obtain ⟨t, rfl⟩ := rx
    obtain ⟨hy, e'⟩ : y.size ≤ sizeLine ∧ n = y.size := e
    subst e'
    exact PySem.W.len_bytes (by omega) ⟨.int _, H, I.tok _, ⟨_, rfl⟩, q⟩
  | ref p =>
    cases rx
    have e' : (∃ xs, SqL X.K H p xs ∧ n = xs.length) ∨ ∃ xs, SqT X.K H p xs ∧ n = xs.length := e
    rcases e' with ⟨xs, hx, e'⟩ | ⟨xs, hx, e'⟩
    · subst e'
      obtain ⟨its, r', pl, hz⟩ := I.list hx
      have hlen := r'.length
      exact Calls.call_len_list pl.isList (by simp only [List.size_toArray]; omega) ⟨.int xs.length, H, I.tok _, ⟨_, by simp only [List.size_toArray]; rw [hlen]⟩, q⟩
    · subst e'
      obtain ⟨its, r', pl, hz⟩ := I.tuple hx
      have hlen := r'.length
      exact len_tuple pl (by simp only [List.size_toArray]; omega) ⟨.int xs.length, H, I.tok _, ⟨_, by simp only [List.size_toArray]; rw [hlen]⟩, q⟩
  | _ => exact (show False from e).elim
end
end L2
namespace L2
open PySem PySem.Spec PyProof.Rows
structure ObjM (h : Heap) (x dx C : Addr) (mA : Str → Option Value) : Prop where
  obj : h.get? x = some (PySem.W.instObj C dx)
  ns : h.Ns1 dx mA
  ne : dx ≠ x
theorem lookIn_ns {h : Heap} {dx : Addr} {mA : Str → Option Value} (n : h.Ns1 dx mA) : ∃ od, h.get? dx = some od ∧ ∀ name, PySem.W.lookIn name od = some (mA name) := by
  obtain ⟨o, es, ep, ho, hd, hk, _, hm⟩ := n
  refine ⟨o, ho, fun name => ?_⟩
  have e := hm name
  unfold nsFind findBy at e
  rw [← Array.find?_toList] at e
  unfold PySem.W.lookIn
  rw [hd]
  dsimp only
  split
  · rename_i y q
    rw [q] at e
    exact congrArg some e
  · rename_i q
    rw [q] at e
    have a : es.toList.any (·.refKey) = false := by
      rw [List.any_eq_false]
      intro y hy
      obtain ⟨z, t, hkey⟩ := hk y (Array.mem_toList_iff.mp hy)
      simp [DictEntry.refKey, hkey]
    have a' : ¬ es.toList.any (·.refKey) = true := by rw [a]; exact Bool.false_ne_true
    rw [if_neg a']
    exact congrArg some e
theorem ObjM.look {h : Heap} {x dx C : Addr} {mA : Str → Option Value} (I : ObjM h x dx C mA) : ∃ od, PySem.W.InstAt h x (PySem.W.instObj C dx) C (some od) ∧ ∀ name, PySem.W.lookIn name od = some (mA name) :=
  let ⟨od, ho, hl⟩ := lookIn_ns I.ns
  ⟨od, ⟨I.obj, rfl, rfl, ho⟩, hl⟩
section
variable {prog : Program} {w : World} {A : Around} {E : Value → Shared → Prop} {s : Shared} {K : PySem.W.Frag} {x dx C f : Addr} {mA : Str → Option Value} {name : Str} {v : Value}
theorem get_map {expr : Bool} {Q : Value → Shared → Prop} (X : K.In s.heap) (I : ObjM s.heap x dx C mA) (hg : PySem.W.plainGet K C name = true) (hh : PySem.W.hasDictIn K C = true)
    (ha : PySem.W.findIn K (.ref C) name = some none) (hv : mA name = some v) (hv' : PySem.W.handedIn v = true) (h : Q v { s with toks := s.toks + 1 }) :
    wpAny (model prog w) A (getAttr (.ref x) name expr) Q E s := by
  obtain ⟨od, J, hl⟩ := I.look
  exact PySem.W.get_value X J (PySem.W.plainGet_of hg).1 (PySem.W.findObj_own hh ha rfl (by rw [hl, hv])) hv' h
theorem get_meth {pl : Sem Bool} {Q : Value × List Value → Shared → Prop} (X : K.In s.heap) (I : ObjM s.heap x dx C mA) (hg : PySem.W.plainGet K C name = true)
    (hf : PySem.W.findIn K (.ref C) name = some (some (.ref f))) (ht : PySem.W.isFn K (.ref f) = true) (hv : mA name = none) (h : Q (.ref f, [.ref x]) s) :
    wpAny (model prog w) A (getMethod (.ref x) name pl) Q E s := by
  obtain ⟨od, J, hl⟩ := I.look
  exact PySem.W.method_fn X J (PySem.W.plainGet_of hg).1 (PySem.W.plainGet_of hg).2 hf (beq_iff_eq.mp ht) (by show (PySem.W.lookIn name od).map (·.isSome) = some false; rw [hl, hv]; rfl) h
theorem set_map {ns : List Str} {Q : Unit → Shared → Prop} (X : K.In s.heap) (I : ObjM s.heap x dx C mA)
    (hs : PySem.W.findIn K (.ref C) "__setattr__" = some (some (.builtin "object.__setattr__"))) (hp : PySem.W.plainOver K C = true) (ht : PySem.W.takerIn K C name = some none) (hh : PySem.W.hasDictIn K C = true)
    (hw : PySem.Within mA ns) (hsz : ns.length ≤ sizeLine)
    (h : ∀ h', ObjM h' x dx C (fun y => if y = name then some v else mA y) → Heap.SameBut dx s.heap h' → Q () { s with heap := h', toks := s.toks + 2 }) :
    wpAny (model prog w) A (setAttr (.ref x) name v) Q E s := by
  obtain ⟨od, J, hl⟩ := I.look
  refine PySem.W.set_plain X J hs (PySem.W.osa_open (s := { s with toks := s.toks + 1 }) (r := none) X J hp ht fun b => ?_)
  obtain ⟨cd, hc, hd'⟩ := PySem.W.any_some hh
  have hx : s.heap.get? x = some ⟨.ref C, some dx, .plain, #[]⟩ := I.obj
  refine wpAny_bind (wpAny_pure (wpAny_bind (wpAny_bind (wpAny_loadPart hx (wpAny_bind (PySem.W.Looks.here (s := { s with toks := s.toks + 1 }) (PySem.W.looks_clsIn X hc) ?_))))))
  rw [hd']
  refine wpAny_pure (a := some dx) (wpAny_bind (wpAny_pure (wpAny_bind ?_)))
  refine wpAny_nsSet1 (s := { s with toks := s.toks + 1 }) I.ns fun h' hn2 hs2 => ?_
  obtain ⟨oD, esD, epD, hoD, hdD, hcD⟩ := hn2.count (PySem.Within.cons name v hw)
  refine wpAny_bind (wpAny_lookBehind hoD (by rw [hdD]; exact pastItsLine_dict (Nat.le_trans hcD (by rw [List.length_cons]; omega))) ?_)
  exact wpAny_pure (h _ ⟨(hs2.2 _ (Ne.symm I.ne)).trans I.obj, hn2, I.ne⟩ hs2)
theorem make_map {R : Result → Shared → Prop} {vs : List Value} {kw : List (Str × Value)} (X : K.In s.heap) (hm : PySem.W.makesIn K C = true)
    (hi : PySem.W.findIn K (.ref C) "__init__" = some (some (.ref f))) (hf : PySem.W.typeIn K (.ref f) = some (.type "function"))
    (h : codeAny (model prog w) (A.under (.builtin "type.__call__" ⟨.ref C :: vs, kw⟩)) (.call (.ref f) ⟨.ref (s.heap.objs.size + 1) :: vs, kw⟩) (PySem.W.InitBack (s.heap.objs.size + 1) R)
      { s with heap := (s.heap.push PySem.W.emptyDict).push (PySem.W.instObj C s.heap.objs.size) }) :
    codeAny (model prog w) A (.call (.ref C) ⟨vs, kw⟩) R s := by
  obtain ⟨hh, g, d, t, os⟩ := s
  exact PySem.W.make_core (PySem.W.makes_of X hm) (PySem.W.looks_findIn X hi) (fun self => PySem.W.bind_fn X self hf) (.inl rfl) h
end
def putF (f : Str) (v : V) : List (Str × V) → List (Str × V)
  | [] => [(f, v)]
  | (g, x) :: r => if g = f then (g, v) :: r else (g, x) :: putF f v r
theorem lookup_putF (f g : Str) (v : V) : ∀ fs : List (Str × V), (putF f v fs).lookup g = if g = f then some v else fs.lookup g
  | [] => by
    show List.lookup g [(f, v)] = _
    by_cases h : g = f
    · have hb : (g == f) = true := beq_iff_eq.mpr h
      simp only [List.lookup, hb, if_pos h]
    · have hb : (g == f) = false := beq_eq_false_iff_ne.mpr h
      simp only [List.lookup, hb, if_neg h]
  | (k, x) :: r => by
    have ih := lookup_putF f g v r
    rw [show putF f v ((k, x) :: r) = (if k = f then (k, v) :: r else (k, x) :: putF f v r) from rfl]
    by_cases hk : k = f
    · rw [if_pos hk]
      by_cases h : g = k
      · have hb : (g == k) = true := beq_iff_eq.mpr h
        simp only [List.lookup, hb, if_pos (h.trans hk)]
      · have hb : (g == k) = false := beq_eq_false_iff_ne.mpr h
        simp only [List.lookup, hb, if_neg (fun e : g = f => h (e.trans hk.symm))]
    · rw [if_neg hk]
      by_cases h : g = k
      · have hb : (g == k) = true := beq_iff_eq.mpr h
        simp only [List.lookup, hb, if_neg (fun e : g = f => hk (h.symm.trans e))]
      · have hb : (g == k) = false := beq_eq_false_iff_ne.mpr h
        simp only [List.lookup, hb]
        exact ih
theorem keys_putF (f : Str) (v : V) : ∀ fs : List (Str × V), f ∈ (putF f v fs).map (·.1) ∧ ∀ g, g ∈ fs.map (·.1) → g ∈ (putF f v fs).map (·.1)
  | [] => ⟨by simp [putF], fun g h => by simp at h⟩
  | (k, x) :: r => by
    obtain ⟨i1, i2⟩ := keys_putF f v r
    rw [show putF f v ((k, x) :: r) = (if k = f then (k, v) :: r else (k, x) :: putF f v r) from rfl]
    by_cases hk : k = f
    · rw [if_pos hk]
      subst hk
      exact ⟨by simp, fun g h => by simpa using h⟩
    · rw [if_neg hk]
      refine ⟨?_, fun g h => ?_⟩
      · rw [List.map_cons]
        exact List.mem_cons_of_mem _ i1
      · rw [List.map_cons] at h ⊢
        rcases List.mem_cons.mp h with e | e
        · exact List.mem_cons.mpr (.inl e)
        · exact List.mem_cons_of_mem _ (i2 g e)
theorem length_putF (f : Str) (v : V) : ∀ fs : List (Str × V), (putF f v fs).length ≤ fs.length + 1
  | [] => by simp [putF]
  | (k, x) :: r => by
    have ih := length_putF f v r
    rw [show putF f v ((k, x) :: r) = (if k = f then (k, v) :: r else (k, x) :: putF f v r) from rfl]
    by_cases hk : k = f
    · rw [if_pos hk, List.length_cons, List.length_cons]; omega
    · rw [if_neg hk, List.length_cons, List.length_cons]; omega
theorem RelO.some_of {v : V} {o : Option Value} (r : RelO (some v) o) : ∃ u, o = some u ∧ RelV v u := by
  cases o with
  | none => exact (show False from r).elim
  | some u => exact ⟨u, rfl, r⟩
theorem RelO.none_of {o : Option Value} (r : RelO none o) : o = none := by
  cases o with
  | none => rfl
  | some u => exact (show False from r).elim
theorem handed_of {v : V} {u : Value} (r : RelV v u) : PySem.W.handedIn u = true := by
  cases v with
  | non => cases (show u = Value.none from r); rfl
  | bl b => cases (show u = Value.bool b from r); rfl
  | int i => obtain ⟨t, e⟩ := (show ∃ t, u = Value.int i t from r); cases e; rfl
  | str x => obtain ⟨t, e⟩ := (show ∃ t, u = Value.str x t from r); cases e; rfl
  | byt b => obtain ⟨t, e⟩ := (show ∃ t, u = Value.bytes b t from r); cases e; rfl
  | flt b => obtain ⟨t, e⟩ := (show ∃ t, u = Value.float b t from r); cases e; rfl
  | ref a => cases (show u = Value.ref a from r); rfl
  | ty n => cases (show u = Value.type n from r); rfl
section
variable {P : Program} {w : World} {H H' : Hp} {h h' : Heap} {a C dx : Addr} {fs fs' : List (Str × V)}
theorem ins_get (hok : HOk P w H h) (e : H a = some (.ins C dx fs)) : ∃ mA, ObjM h a dx C mA ∧ (∀ f, RelO (fs.lookup f) (mA f)) ∧ PySem.Within mA (fs.map (·.1)) ∧ fs.length ≤ 1000 ∧ H dx = some (.own a) := by
  obtain ⟨d, z, ne, ob, mA, n, r, q⟩ := (show ObjOk P w H h a (.ins C dx fs) from hok a _ e)
  exact ⟨mA, ⟨ob, n, ne⟩, r, q, z, d⟩
end
structure Cls (K : PySem.W.Frag) (C : Addr) : Prop where
  pg : PySem.W.plainGet K C Str.empty = true
  hd : PySem.W.hasDictIn K C = true
  po : PySem.W.plainOver K C = true
  sa : PySem.W.findIn K (.ref C) "__setattr__" = some (some (.builtin "object.__setattr__"))
theorem Cls.get {K : PySem.W.Frag} {C : Addr} (c : Cls K C) (f : Str) : PySem.W.plainGet K C f = true := c.pg
def NoAttr (K : PySem.W.Frag) (C : Addr) (f : Str) : Prop := PySem.W.findIn K (.ref C) f = some none
theorem NoAttr.taker {K : PySem.W.Frag} {C : Addr} {f : Str} (n : NoAttr K C f) : PySem.W.takerIn K C f = some none := by
  unfold PySem.W.takerIn
  rw [show PySem.W.findIn K (.ref C) f = some none from n]
  rfl
structure Meth (K : PySem.W.Frag) (C : Addr) (m : Str) (f : Addr) : Prop where
  at_ : PySem.W.findIn K (.ref C) m = some (some (.ref f))
  fn : PySem.W.isFn K (.ref f) = true
  kp : PySem.W.keepIn K (.ref f) = true
section
variable {X : Cx} {pins : List (Addr × Obj)} {σ : St} {H : Hp} {s : Shared} {a C dx : Addr} {fs : List (Str × V)} {f : Str} {v : V} {A : Around} {E : Value → Shared → Prop}
theorem getattr_ok {b : Bool} {Q : Value → Shared → Prop} (I : Inv X pins σ H s) (e : H a = some (.ins C dx fs)) (c : Cls X.K C) (n : NoAttr X.K C f) (l : fs.lookup f = some v)
    (h : ∀ u s', Inv X pins σ H s' → RelV v u → Q u s') : wpAny (model X.prog X.w) A (getAttr (.ref a) f b) Q E s := by
  obtain ⟨mA, O, r, _, _, _⟩ := ins_get I.hok e
  obtain ⟨u, hu, ru⟩ := RelO.some_of (v := v) (o := mA f) (by rw [← l]; exact r f)
  exact get_map I.kIn O (c.get f) c.hd n hu (handed_of ru) (h u _ (I.tok _) ru)
theorem getmeth_ok {m : Str} {g : Addr} {pl : Sem Bool} {Q : Value × List Value → Shared → Prop} (I : Inv X pins σ H s) (e : H a = some (.ins C dx fs)) (c : Cls X.K C) (k : Meth X.K C m g) (l : fs.lookup m = none)
    (h : Q (.ref g, [.ref a]) s) : wpAny (model X.prog X.w) A (getMethod (.ref a) m pl) Q E s := by
  obtain ⟨mA, O, r, _, _, _⟩ := ins_get I.hok e
  have hn : mA m = none := RelO.none_of (by rw [← l]; exact r m)
  exact get_meth I.kIn O (c.get m) k.at_ k.fn hn h
theorem setattr_ok {y : V} {u : Value} {Q : Unit → Shared → Prop} (I : Inv X pins σ H s) (e : H a = some (.ins C dx fs)) (c : Cls X.K C) (n : NoAttr X.K C f) (hl : fs.length < 1000) (ry : RelV y u)
    (h : ∀ s', Inv X pins σ (upd H a (.ins C dx (putF f y fs))) s' → Q () s') : wpAny (model X.prog X.w) A (setAttr (.ref a) f u) Q E s := by
  obtain ⟨mA, O, r, wi, _, ho⟩ := ins_get I.hok e
  have hz : (fs.map (·.1)).length ≤ sizeLine := by rw [List.length_map, sizeLine_eq]; omega
  refine set_map I.kIn O c.sa c.po n.taker c.hd wi hz fun h' O' sb => h _ ?_
  have hd : ∃ o, h'.get? dx = some o := let ⟨o, _, _, e', _⟩ := O'.ns; ⟨o, e'⟩
  refine I.write (x := a) (e := dx) (by rw [e]; exact True.intro) (.inr ho) (fun b q hb z => (sb.2 b hb).trans z) hd ?_
  refine ⟨by rw [upd_ne O.ne]; exact ho, ?_, O.ne, O'.obj, _, O'.ns, fun g => ?_, fun g hg => ?_⟩
  · have := length_putF f y fs; omega
  · show RelO ((putF f y fs).lookup g) (if g = f then some u else mA g)
    rw [lookup_putF]
    by_cases q : g = f
    · rw [if_pos q, if_pos q]; exact ry
    · rw [if_neg q, if_neg q]; exact r g
  · by_cases q : g = f
    · rw [q]; exact (keys_putF f y fs).1
    · refine (keys_putF f y fs).2 g (wi g fun z => hg ?_)
      show (if g = f then some u else mA g) = none
      rw [if_neg q]; exact z
theorem Inv.made (I : Inv X pins σ H s) : Inv X pins σ (upd (upd H s.heap.objs.size (.own (s.heap.objs.size + 1))) (s.heap.objs.size + 1) (.ins C s.heap.objs.size []))
    { s with heap := (s.heap.push PySem.W.emptyDict).push (PySem.W.instObj C s.heap.objs.size) } := by
  have e1 : (s.heap.push PySem.W.emptyDict).get? s.heap.objs.size = some PySem.W.emptyDict := Heap.get?_push_size s.heap rfl
  have e2 : ((s.heap.push PySem.W.emptyDict).push (PySem.W.instObj C s.heap.objs.size)).get? (s.heap.objs.size + 1) = some (PySem.W.instObj C s.heap.objs.size) := by
    have := Heap.get?_push_size (s.heap.push PySem.W.emptyDict) (o := PySem.W.instObj C s.heap.objs.size) rfl
    rwa [Heap.size_push] at this
  have e3 : (s.heap.push PySem.W.emptyDict).Ns s.heap.objs.size (fun _ => none) := ⟨PySem.W.emptyDict, #[], _, e1, rfl, (fun e he => absurd he (by simp)), fun _ => rfl⟩
  have I1 := I.laid (a := s.heap.objs.size) (o := .own (s.heap.objs.size + 1)) (h' := s.heap.push PySem.W.emptyDict) (t' := s.toks) (fun b u q => Heap.get?_push_of_some _ q) (Nat.le_refl _) ⟨_, e1⟩
  refine I1.laid (a := s.heap.objs.size + 1) (o := .ins C s.heap.objs.size []) (t' := s.toks) (fun b u q => Heap.get?_push_of_some _ q) (Nat.le_of_eq (Heap.size_push _ _)) ?_
  have ne : s.heap.objs.size ≠ s.heap.objs.size + 1 := Nat.ne_of_lt (Nat.lt_succ_self _)
  refine ⟨by rw [upd_ne ne, upd_same], Nat.zero_le _, ne, e2, fun _ => none, (Heap.Ns1.of_empty e3).at fun o q => Heap.get?_push_of_some _ q, fun _ => True.intro, fun y hy => absurd rfl hy⟩
theorem attr_of {prog : Program} {w : World} {env : Env} {e : Expr} {f : Str} {pos : Pos} {s : Shared} {Q : Value → Shared → Prop} (hb : attributeBase e f env (eval e env) = eval e env)
    (h : wpAny (model prog w) A (eval e env) (fun o s₁ => wpAny (model prog w) A (getAttr o f true) Q E s₁) E s) : wpAny (model prog w) A (eval (.Attribute e f pos) env) Q E s :=
  Attribute_any_ h (by rw [arm_eval_Attribute, hb])
end
def tFld (K : PySem.W.Frag) (ta : TE) (f : Str) : TE := fun σ H Q => ta σ H fun x H1 => ∃ a C dx fs v, x = .ref a ∧ H1 a = some (.ins C dx fs) ∧ Cls K C ∧ NoAttr K C f ∧ fs.lookup f = some v ∧ Q v H1
def sFld (K : PySem.W.Frag) (ta tv : TE) (f : Str) : TS := fun D σ H => tv σ H fun y H1 => ta σ H1 fun x H2 => ∃ a C dx fs, x = .ref a ∧ H2 a = some (.ins C dx fs) ∧ Cls K C ∧ NoAttr K C f ∧ fs.length < 1000 ∧
  D.nx σ (upd H2 a (.ins C dx (putF f y fs)))
section
variable {X : Cx} {o e value : Expr} {f : Str} {pos pos' tpos : Pos} {ta tv : TE}
theorem pe_fld (he : PE X e ta) (hb : attributeBase e f X.env (eval e X.env) = eval e X.env) : PE X (.Attribute e f pos) (tFld X.K ta f) := by
  intro pins s σ H Q I h
  refine attr_of hb (thn (he pins s σ H _ I h) fun u s1 ⟨x, H1, I1, rx, a, C, dx, fs, v, ex, ea, c, n, l, q⟩ => ?_)
  subst ex
  obtain rfl : u = Value.ref a := rx
  exact getattr_ok I1 ea c n l fun u' s2 I2 ru => ⟨v, H1, I2, ru, q⟩
theorem ps_fld (ha : PE X o ta) (hv : PE X value tv) (hs : swapsWith value (some (.Attribute o f pos')) pos.line X.env = pure false) : PS X (.Assign [.Attribute o f pos'] value pos) (sFld X.K ta tv f) := by
  intro pins s σ H D I h
  refine plainObj_wpAny_Assign_Attribute (thn (hv pins s σ H _ I h) fun u s1 ⟨y, H1, I1, ry, q⟩ => thn (ha pins s1 σ H1 _ I1 q) fun ov s2 ⟨x, H2, I2, rx, a, C, dx, fs, ex, ea, c, n, l, q2⟩ => ?_) hs
  subst ex
  obtain rfl : ov = Value.ref a := rx
  exact setattr_ok I2 ea c n l ry fun s3 I3 => ⟨σ, _, I3, q2⟩
end
section
variable {X : Cx} {pins : List (Addr × Obj)} {σ : St} {H : Hp} {s : Shared} {A : Around} {E : Value → Shared → Prop} {Q : Value → Shared → Prop} {c : Value} {b : Bool}
inductive TyOf (K : PySem.W.Frag) (H : Hp) : V → Value → Prop where
  | non : TyOf K H .non (.type "NoneType")
  | bl (x : Bool) : TyOf K H (.bl x) (.type "bool")
  | int (i : Int) : TyOf K H (.int i) (.type "int")
  | str (x : Str) : TyOf K H (.str x) (.type "str")
  | flt (x : UInt64) : TyOf K H (.flt x) (.type "float")
  | lst {a : Addr} {xs : List V} (e : H a = some (.lst xs)) : TyOf K H (.ref a) (.type "list")
  | frz {a : Addr} {o : Obj} {xs : List V} (e : H a = some (.frz o (.lst xs))) : TyOf K H (.ref a) (.type "list")
  | tup {a : Addr} {xs : List V} (e : H a = some (.tup xs)) : TyOf K H (.ref a) (.type "tuple")
  | dK {a : Addr} {kvs : List (Key × V)} (e : H a = some (.dK kvs)) : TyOf K H (.ref a) (.type "dict")
  | dT {a : Addr} {kvs : List (List Key × V)} (e : H a = some (.dT kvs)) : TyOf K H (.ref a) (.type "dict")
  | ins {a C dx : Addr} {fs : List (Str × V)} (e : H a = some (.ins C dx fs)) (cl : Cls K C) (ha : PySem.W.findIn K (.ref C) "__class__" = some (some (.builtin "object.__class__")))
      (hn : PySem.W.specialIn K (.builtin "object.__class__") "__get__" = some (some (.builtin "getset_descriptor.__get__"))) (htk : PySem.W.takesIn K (.builtin "object.__class__") = some true)
      (hm : PySem.W.mroIn K C (.type "object") = some true) : TyOf K H (.ref a) (.ref C)
theorem isinst_ok {x : V} {u t : Value} (I : Inv X pins σ H s) (rx : RelV x u) (ty : TyOf X.K H x t) (e : PySem.W.kitOne X.K t c = some b) (h : ∀ tk, Q (.bool b) { s with toks := tk }) :
    wpAny (model X.prog X.w) A (call (.builtin "isinstance") [u, c]) Q E s := by
  cases ty with
  | non => cases (show u = Value.none from rx); exact PySem.W.kia_one PySem.W.kitx_none I.kIn True.intro e (fun z => nomatch z) h
  | bl y => cases (show u = Value.bool y from rx); exact PySem.W.kia_one PySem.W.kitx_bool I.kIn True.intro e (fun z => nomatch z) h
  | int i => obtain ⟨t, q⟩ := (show ∃ t, u = Value.int i t from rx); cases q; exact PySem.W.kia_one PySem.W.kitx_int I.kIn True.intro e (fun z => nomatch z) h
  | str y => obtain ⟨t, q⟩ := (show ∃ t, u = Value.str y t from rx); cases q; exact PySem.W.kia_one PySem.W.kitx_str I.kIn True.intro e (fun z => nomatch z) h
  | flt y => obtain ⟨t, q⟩ := (show ∃ t, u = Value.float y t from rx); cases q; exact PySem.W.kia_one PySem.W.kitx_float I.kIn True.intro e (fun z => nomatch z) h
  | @lst a xs ea =>
    cases (show u = Value.ref a from rx)
    obtain ⟨_, _, n, _, h1⟩ := (show ObjOk X.prog X.w H s.heap a (.lst xs) from I.hok a _ ea)
    exact PySem.W.kia_one PySem.W.kitx_list I.kIn ⟨_, h1, rfl⟩ e (fun z => nomatch z) h
  | @frz a ob xs ea =>
    cases (show u = Value.ref a from rx)
    obtain ⟨_, _, _, n, _, h1⟩ := (show ObjOk X.prog X.w H s.heap a (.frz ob (.lst xs)) from I.hok a _ ea)
    exact PySem.W.kia_one PySem.W.kitx_list I.kIn ⟨_, h1, rfl⟩ e (fun z => nomatch z) h
  | @tup a xs ea =>
    cases (show u = Value.ref a from rx)
    obtain ⟨_, _, _, p⟩ := (show ObjOk X.prog X.w H s.heap a (.tup xs) from I.hok a _ ea)
    obtain ⟨o, h1, h2, _⟩ := p
    exact PySem.W.kia_one PySem.W.kitx_tuple I.kIn ⟨o, h1, h2⟩ e (fun z => nomatch z) h
  | @dK a kvs ea =>
    cases (show u = Value.ref a from rx)
    obtain ⟨_, _, vs, _, p⟩ := (show ObjOk X.prog X.w H s.heap a (.dK kvs) from I.hok a _ ea)
    obtain ⟨o, es, ep, h1, h2, _⟩ := p
    exact PySem.W.kia_one PySem.W.kitx_dict I.kIn ⟨o, h1, h2.1⟩ e (fun z => nomatch z) h
  | @dT a kvs ea =>
    cases (show u = Value.ref a from rx)
    obtain ⟨_, _, xs, _, o, es, ep, h1, h2, _⟩ := (show ObjOk X.prog X.w H s.heap a (.dT kvs) from I.hok a _ ea)
    exact PySem.W.kia_one PySem.W.kitx_dict I.kIn ⟨o, h1, h2.1⟩ e (fun z => nomatch z) h
  | @ins a C dx fs ea cl ha hn htk hm =>
    cases (show u = Value.ref a from rx)
    obtain ⟨mA, O, _⟩ := ins_get I.hok ea
    obtain ⟨od, J, _⟩ := O.look
    exact PySem.W.kia_one (PySem.W.kitx_own (cl.get _) cl.hd ha hn htk hm) I.kIn J e (fun z => nomatch z) h
end
end L2
namespace L2
open PySem PySem.Spec PyProof.Rows
structure Room (k : Nat) (A : Around) : Prop where
  hd : A.handled = none
  dp : A.depth + 3 * k + 5 < recursionLimit
  un : A.units + 16 * k + 200 < cLine
theorem Room.mono {j k : Nat} {A : Around} (r : Room k A) (h : j ≤ k) : Room j A := ⟨r.hd, by have := r.dp; omega, by have := r.un; omega⟩
theorem Room.deeper {k : Nat} {A : Around} (r : Room (k + 1) A) (env : Env) : Room k (A.deeper env) :=
  ⟨r.hd, by have := r.dp; show A.depth + 1 + 3 * k + 5 < _; omega, by have := r.un; show A.units + 3 + 16 * k + 200 < _; omega⟩
theorem make_depth {A : Around} {C : Addr} {us : List Value} {kw : List (Str × Value)} : (A.under (.builtin "type.__call__" ⟨.ref C :: us, kw⟩)).depth = A.depth + 1 := by
  first | rfl | simp [Around.under, Code.weight, Code.isCreation, Code.isGuard, Code.isCaller, Code.frames, Code.isFrame, guardIds]
theorem make_units {A : Around} {C : Addr} {us : List Value} {kw : List (Str × Value)} : (A.under (.builtin "type.__call__" ⟨.ref C :: us, kw⟩)).units = A.units + 1 := by
  first | rfl | simp [Around.under, Code.cUnits, Code.frames, Code.isFrame]
theorem Room.make {k : Nat} {A : Around} (r : Room (k + 1) A) (C : Addr) (us : List Value) (kw : List (Str × Value)) : Room k (A.under (.builtin "type.__call__" ⟨.ref C :: us, kw⟩)) :=
  ⟨r.hd, by have := r.dp; rw [make_depth]; omega, by have := r.un; rw [make_units]; omega⟩
theorem Room.depth {k : Nat} {A : Around} (r : Room k A) : A.depth < recursionLimit := by have := r.dp; omega
theorem Room.units {k : Nat} {A : Around} (r : Room k A) : A.units + 64 < cLine := by have := r.un; omega
def tNil : TA := fun _ H Q => Q [] H
def tCons (ta : TE) (tr : TA) : TA := fun σ H Q => ta σ H fun x H1 => tr σ H1 fun xs H2 => Q (x :: xs) H2
section
variable {X : Cx} {e : Expr} {es : List Expr} {te : TE} {t : TA} {pos : Pos}
theorem pa_nil : PA X [] tNil := fun _ _ _ _ H Q I h => Calls.spliced_nil ⟨[], H, I, .nil, h⟩
theorem pa_cons (ha : PE X e te) (hr : PA X es t) (hs : starEach (e :: es) X.env = (false, eval e X.env) :: starEach es X.env := by rfl) : PA X (e :: es) (tCons te t) := by
  intro pos pins s σ H Q I h
  rw [hs]
  show wpAny _ _ (spliced ((false, eval e X.env) :: backTo pos (starEach es X.env))) _ _ s
  refine Calls.spliced_cons (thn (ha pins s σ H _ I h) fun u s1 ⟨x, H1, I1, r1, q1⟩ => ?_)
  exact thn (hr pos pins s1 σ H1 _ I1 q1) fun us s2 ⟨xs, H2, I2, r2, q2⟩ => ⟨x :: xs, H2, I2, .cons r1 r2, q2⟩
def tTup (t : TA) : TE := fun σ H Q => t σ H fun xs H1 => xs.length ≤ sizeLine ∧ ∀ p, H1 p = none → Q (.ref p) (upd H1 p (.tup xs))
def tLst (t : TA) : TE := fun σ H Q => t σ H fun xs H1 => xs.length ≤ sizeLine ∧ ∀ p, H1 p = none → Q (.ref p) (upd H1 p (.lst xs))
theorem pe_tup {x1} (h : PA X es t) : PE X (.Tuple es x1 pos) (tTup t) := by
  intro pins s σ H Q I hq
  refine wpAny_Tuple_spliced (thn (h pos pins s σ H _ I hq) fun us s1 ⟨xs, H1, I1, r, z, q⟩ => ⟨by rw [← r.length]; exact z, ?_⟩)
  have hf : H1 s1.heap.objs.size = none := I1.hok.fresh (Nat.le_refl _)
  refine ⟨.ref s1.heap.objs.size, upd H1 s1.heap.objs.size (.tup xs), I1.laid (t' := s1.toks) (fun b u e => Heap.get?_push_of_some _ e) (Nat.le_refl _) ?_, rfl, q _ hf⟩
  exact ⟨z, us, r, ⟨_, Heap.get?_push_size _ rfl, rfl, _, rfl⟩⟩
theorem pe_lst (h : PA X es t) : PE X (.List es pos) (tLst t) := by
  intro pins s σ H Q I hq
  refine wpAny_List_spliced (thn (h pos pins s σ H _ I hq) fun us s1 ⟨xs, H1, I1, r, z, q⟩ => ⟨by rw [← r.length]; exact z, ?_⟩)
  have hf : H1 s1.heap.objs.size = none := I1.hok.fresh (Nat.le_refl _)
  refine ⟨.ref s1.heap.objs.size, upd H1 s1.heap.objs.size (.lst xs), I1.laid (t' := s1.toks) (fun b u e => Heap.get?_push_of_some _ e) (Nat.le_refl _) ?_, rfl, q _ hf⟩
  exact ⟨z, us, 0, r, Heap.get?_push_size _ rfl⟩
end
abbrev Sp := List V → Hp → VK → XK → Prop
abbrev CXT := List Env → Hp → Shared → XK → Value → Shared → Prop
structure Env0 (P : Program) (w : World) (K : PySem.W.Frag) (mg : Str → Option Value) (base : Heap) (A : Around) (outer : List Env) (s : Shared) (H : Hp) : Prop where
  frames : A.frames = some outer
  mod : Mod K mg base
  bs : ∀ b o, base.get? b = some o → s.heap.get? b = some o ∧ H b = none
  bsz : base.objs.size ≤ s.heap.objs.size
  funs : s.heap.FunFrames base outer
  frf : ∀ b ∈ frs outer, H b = none
  hok : HOk P w H s.heap
  bare : AllBare s.gens
def CE (outer : List Env) (P : Program) (w : World) (H : Hp) (s : Shared) (Q : VK) (u : Value) (s' : Shared) : Prop :=
  ∃ v H', s'.os = s.os ∧ AllBare s'.gens ∧ Un (frs outer) [] H H' s.heap s'.heap ∧ HOk P w H' s'.heap ∧ RelV v u ∧ Q v H'
def CR (CX : CXT) (outer : List Env) (P : Program) (w : World) (H : Hp) (s : Shared) (Q : VK) (E : XK) (r : Result) (s' : Shared) : Prop :=
  match r with
  | .ok (.ret u) => CE outer P w H s Q u s'
  | .ok _ => False
  | .error e => CX outer H s E e s'
structure FnOk (P : Program) (w : World) (K : PySem.W.Frag) (mg : Str → Option Value) (base : Heap) (CX : CXT) (k : Nat) (f : Addr) (fd : FuncData) (ps : List Str) (sp : Sp) : Prop where
  len : ∀ vs H Q E, sp vs H Q E → vs.length = ps.length
  run : ∀ (A : Around) (outer : List Env) (s : Shared) (H : Hp) (args : Args) (us : List Value) (vs : List V) (Q : VK) (E : XK), Room k A → Env0 P w K mg base A outer s H → BindsTo s fd args (ps.zip us) → Vals vs us → sp vs H Q E →
    codeAny (model P w) A (.call (.ref f) args) (CR CX outer P w H s Q E) s
theorem Env0.make {P : Program} {w : World} {K : PySem.W.Frag} {mg : Str → Option Value} {base : Heap} {A : Around} {outer : List Env} {s : Shared} {H : Hp} (e : Env0 P w K mg base A outer s H) (C : Addr) (us : List Value) (kw : List (Str × Value)) :
    Env0 P w K mg base (A.under (.builtin "type.__call__" ⟨.ref C :: us, kw⟩)) outer s H := ⟨by first | exact e.frames | (simpa [Around.under, Code.envs, Code.isFrame, pushEnvs] using e.frames), e.mod, e.bs, e.bsz, e.funs, e.frf, e.hok, e.bare⟩
section
variable {X : Cx} {pins : List (Addr × Obj)} {σ : St} {H : Hp} {s s' : Shared}
theorem Inv.env0 (I : Inv X pins σ H s) : Env0 X.prog X.w X.K X.mg X.base X.A X.stack s H :=
  ⟨I.ok.frames, I.ok.mod, I.bs, Nat.le_trans I.ok.bsz I.sz, I.stack, I.stkFree, I.hok, I.bare⟩
theorem Inv.after {Q : VK} {u : Value} (I : Inv X pins σ H s) (h : CE X.stack X.prog X.w H s Q u s') : EP X pins σ Q u s' := by
  obtain ⟨v, H', os, bare, un, hok, r, q⟩ := h
  obtain ⟨hh, g, d, t, os'⟩ := s'
  obtain rfl : os' = s.os := os
  exact ⟨v, H', I.call (h' := hh) (g' := g) (d' := d) (t' := t) (ch := []) un hok bare (fun b z => absurd z (by simp)), r, q⟩
end
def Binds (K : PySem.W.Frag) (fd : FuncData) (ps : List Str) (ds : List Value) : Prop :=
  ∀ (s : Shared) (us : List Value), K.In s.heap → (us ++ ds).length = ps.length → BindsTo s fd ⟨us, []⟩ (ps.zip (us ++ ds))
theorem Binds.all {K : PySem.W.Frag} {fd : FuncData} {ps : List Str} (h : ∀ us : List Value, us.length = ps.length → bindArgs fd ⟨us, []⟩ = pure (ps.zip us)) : Binds K fd ps [] := fun s us _ hl => by
  rw [List.append_nil] at hl ⊢
  exact .of_eq (h us hl)
section
variable {X : Cx} {CX : CXT} {k : Nat} {f C : Addr} {fd : FuncData} {ps : List Str} {sp : Sp} {dvs : List V} {ds : List Value} {E : XK} {x m : Str} {p pos apos : Pos} {e o : Expr} {es : List Expr} {ta : TE} {t : TA}
structure Mk (K : PySem.W.Frag) (C f : Addr) : Prop where
  makes : PySem.W.makesIn K C = true
  init : PySem.W.findIn K (.ref C) "__init__" = some (some (.ref f))
  fn : PySem.W.isFn K (.ref f) = true
  kp : PySem.W.keepIn K (.ref C) = true
end
section
variable {X : Cx} {CX : CXT} {k : Nat} {f C : Addr} {fd : FuncData} {ps ks : List Str} {sp : Sp} {E : XK} {x m : Str} {p pos apos kpos : Pos} {e o : Expr} {es : List Expr} {kws : List Keyword} {te ta : TE} {t tk : TA} {nm : Option Str}
variable {g : List Value → List Value → List Value} {gV : List V → List V → List V}
end
structure FnScope (N P : List Str) (sc : Scope) : Prop where
  kind : sc.kind = .function
  co : sc.isCoroutine = false
  gen : sc.isGenerator = false
  nd : N.Nodup
  pre : N.take P.length = P
  par : ∀ x ∈ P, sc.names.lookup x = some .local ∨ sc.names.lookup x = some .cell
  nofree : ∀ y ∈ sc.names, y.2 ≠ .free
theorem bindL_out {kindOf : Str → Option NameKind} {x : Str} : ∀ {binds : List (Str × Value)} {m : Str → Option Value}, (∀ v, (x, v) ∉ binds) → bindL kindOf binds m x = m x
  | [], _, _ => rfl
  | (n, v) :: r, m, h => by
    unfold bindL
    rw [bindL_out fun w hw => h w (List.mem_cons_of_mem _ hw)]
    split
    · have : x ≠ n := by rintro rfl; exact h v List.mem_cons_self
      simp [this]
    · rfl
theorem bindC_out {kindOf : Str → Option NameKind} {x : Str} : ∀ {binds : List (Str × Value)} {m : Str → Option Value}, (∀ v, (x, v) ∉ binds) → bindC kindOf binds m x = m x
  | [], _, _ => rfl
  | (n, v) :: r, m, h => by
    unfold bindC
    rw [bindC_out fun w hw => h w (List.mem_cons_of_mem _ hw)]
    split
    · rfl
    · have : x ≠ n := by rintro rfl; exact h v List.mem_cons_self
      simp [this]
theorem bindL_get {kindOf : Str → Option NameKind} {x : Str} {v : Value} : ∀ {P : List Str} {vs : List Value} {i : Nat} {m : Str → Option Value}, P.Nodup → P[i]? = some x → vs[i]? = some v → kindOf x = some .local →
    bindL kindOf (P.zip vs) m x = some v
  | [], _, _, _, _, h, _, _ => by simp at h
  | _ :: _, [], _, _, _, _, h, _ => by simp at h
  | p :: P, w :: vs, 0, m, nd, h1, h2, hk => by
    simp at h1 h2; subst h1; subst h2
    show bindL kindOf ((p, w) :: P.zip vs) m p = _
    unfold bindL
    rw [bindL_out fun v hv => (List.nodup_cons.mp nd).1 (List.of_mem_zip hv).1, if_pos hk]
    simp
  | p :: P, w :: vs, i + 1, m, nd, h1, h2, hk => by
    show bindL kindOf ((p, w) :: P.zip vs) m x = _
    unfold bindL
    exact bindL_get (i := i) (List.nodup_cons.mp nd).2 (by simpa using h1) (by simpa using h2) hk
theorem bindC_get {kindOf : Str → Option NameKind} {x : Str} {v : Value} : ∀ {P : List Str} {vs : List Value} {i : Nat} {m : Str → Option Value}, P.Nodup → P[i]? = some x → vs[i]? = some v → kindOf x ≠ some .local →
    bindC kindOf (P.zip vs) m x = some v
  | [], _, _, _, _, h, _, _ => by simp at h
  | _ :: _, [], _, _, _, _, h, _ => by simp at h
  | p :: P, w :: vs, 0, m, nd, h1, h2, hk => by
    simp at h1 h2; subst h1; subst h2
    show bindC kindOf ((p, w) :: P.zip vs) m p = _
    unfold bindC
    rw [bindC_out fun v hv => (List.nodup_cons.mp nd).1 (List.of_mem_zip hv).1, if_neg hk]
    simp
  | p :: P, w :: vs, i + 1, m, nd, h1, h2, hk => by
    show bindC kindOf ((p, w) :: P.zip vs) m x = _
    unfold bindC
    exact bindC_get (i := i) (List.nodup_cons.mp nd).2 (by simpa using h1) (by simpa using h2) hk
def start (N : List Str) (vs : List V) : St := vs.map some ++ List.replicate (N.length - vs.length) none
def cxOf (CX : CXT) (P : Program) (w : World) (K : PySem.W.Frag) (mg : Str → Option Value) (base : Heap) (N : List Str) (qual : Str) (scope : Scope) (f : Addr) (cd : Value) (A : Around) (outer : List Env) (s : Shared) (H : Hp) (E : XK) : Cx where
  prog := P
  w := w
  K := K
  mg := mg
  base := base
  A := A.deeper (envOfC qual scope s.heap.objs.size f cd)
  N := N
  s₀ := s
  H₀ := H
  env := envOfC qual scope s.heap.objs.size f cd
  outer := outer
  stack := envOfC qual scope s.heap.objs.size f cd :: outer
  ex := []
  calm := true
  fn := fun _ => true
  pn := []
  xe := fun e s' => wpAny (model P w) (A.deeper (envOfC qual scope s.heap.objs.size f cd)) (leaving (envOfC qual scope s.heap.objs.size f cd) e) (fun _ s'' => CX outer H s E e s'') (fun e' s'' => CX outer H s E e' s'') s'
theorem cell_has {sc : Scope} {n : Nat} {x : Str} (h : sc.names.lookup x = some .cell) : ∃ c, (cellsFrom n sc.names []).lookup x = some c := by
  have q := PySem.W.cellsFrom_some sc.names n [] (.inl h)
  exact Option.isSome_iff_exists.mp q
theorem inv_start {CX : CXT} {P : Program} {w : World} {K : PySem.W.Frag} {mg : Str → Option Value} {base : Heap} {N ps : List Str} {qual : Str} {scope : Scope} {f : Addr} {cd : Value} {A : Around} {outer : List Env} {s s1 : Shared} {H : Hp} {E : XK} {us : List Value} {vs : List V}
    (S : FnScope N ps scope) (hd : A.handled = none) (e0 : Env0 P w K mg base A outer s H) (hl : vs.length = ps.length) (r : Vals vs us)
    (x : InCallC s s.heap.objs.size (bindL (envOfC qual scope s.heap.objs.size f cd).kindOf (ps.zip us) fun _ => none) (cellsFrom (s.heap.objs.size + 1) scope.names []) (bindC (envOfC qual scope s.heap.objs.size f cd).kindOf (ps.zip us) fun _ => none) s1) :
    Inv (cxOf CX P w K mg base N qual scope f cd A outer s H E) [] (start N vs) H s1 := by
  have hpl : ps.length ≤ N.length := by have := congrArg List.length S.pre; rw [List.length_take] at this; omega
  obtain ⟨h1, tk, rfl, hk⟩ := x.done
  have noA : ∀ b : Addr, b ∉ (cxOf CX P w K mg base N qual scope f cd A outer s H E).ex := fun b z => absurd (show b ∈ ([] : List Addr) from z) (by simp)
  refine ⟨⟨e0.mod, S.kind, rfl, rfl, Nat.le_refl _, fun y z c h1 h2 => ?_, fun y hy => ?_, fun y c _ h => ?_, fun _ => hd, Around.frames_deeper e0.frames, .inr ⟨rfl, rfl⟩, fun b z => absurd z (noA b), e0.bs, e0.bsz, fun b _ _ => noA b, fun b z => absurd z (noA b), e0.funs, e0.frf⟩,
    rfl, e0.bare, Un.kept hk, ⟨_, x.toInCall.ns, fun i y v h1 h2 h3 => ?_⟩, fun y c h => ⟨_, x.cell y c h⟩, e0.hok.fresh (Nat.le_refl _), fun y c h => ?_, fun p hp => absurd (show p ∈ ([] : List (Addr × Obj)) from hp) (by simp), e0.hok.kept hk, ?_⟩
  · exact name_of_addr x.apart (PySem.mem_of_lookup h1) (PySem.mem_of_lookup h2)
  · have hy : scope.names.lookup y = some .cell ∨ scope.names.lookup y = some .free := hy
    rcases hy with hy | hy
    · exact cell_has hy
    · exact absurd rfl (S.nofree _ (PySem.mem_of_lookup hy))
  · exact Nat.le_of_lt (x.above y c (PySem.mem_of_lookup h))
  · have hi : i < vs.length := by
      unfold start at h2
      by_cases hi : i < vs.length
      · exact hi
      · rw [List.getElem?_append_right (by simpa using hi)] at h2
        rw [List.getElem?_replicate] at h2
        split at h2 <;> cases h2
    have ha : vs[i]? = some v := by
      unfold start at h2
      rw [List.getElem?_append_left (by simpa using hi), List.getElem?_map] at h2
      cases e : vs[i]? with
      | none => rw [e] at h2; cases h2
      | some a => rw [e] at h2; cases h2; rfl
    obtain ⟨u, hu, rv⟩ := r.get ha
    have hp : ps[i]? = some y := by
      rw [← S.pre, List.getElem?_take_of_lt (by omega)]; exact h1
    have ndP : ps.Nodup := by rw [← S.pre]; exact S.nd.sublist (List.take_sublist _ _)
    refine ⟨u, rv, ?_⟩
    rcases S.par y (List.mem_of_getElem? hp) with k | k
    · exact .inl ⟨k, bindL_get ndP hp hu k⟩
    · obtain ⟨c, e⟩ := cell_has (n := s.heap.objs.size + 1) k
      refine .inr ⟨.inl k, c, e, ?_⟩
      have q := x.cell y c e
      rw [bindC_get ndP hp hu (by show scope.names.lookup y ≠ _; rw [k]; decide)] at q
      exact q
  · exact e0.hok.fresh (Nat.le_of_lt (x.above y c (PySem.mem_of_lookup h)))
  · unfold start
    show _ = N.length
    rw [List.length_append, List.length_map, List.length_replicate]
    omega
theorem fn_of {CX : CXT} {P : Program} {w : World} {K : PySem.W.Frag} {mg : Str → Option Value} {base : Heap} {k : Nat} {f : Addr} {name qual : Str} {params : Arguments} {body : List Stmt} {scope : Scope} {dV kV doc pm cdv ct oc : Value} {an od : Option Addr}
    {osl : Array (Option Value)} {N ps : List Str} {sp : Sp} (lk : K.lookup f = some ⟨oc, od, .func (PySem.W.fnOf name qual params body scope dV kV doc pm an cdv ct), osl⟩) (hcd : PySem.W.codeIn K cdv qual = true) (S : FnScope N ps scope)
    (len : ∀ vs H Q E, sp vs H Q E → vs.length = ps.length)
    (hbody : ∀ (A : Around) (outer : List Env) (s : Shared) (H : Hp) (vs : List V) (Q : VK) (E : XK), Room k (A.deeper (envOfC qual scope s.heap.objs.size f cdv)) → sp vs H Q E →
      ∃ t, PSs (cxOf CX P w K mg base N qual scope f cdv A outer s H E) body t ∧ t { nx := fun _ H' => Q .non H', rt := Q } (start N vs) H) :
    FnOk P w K mg base CX (k + 1) f (PySem.W.fnOf name qual params body scope dV kV doc pm an cdv ct) ps sp := by
  refine ⟨len, fun A outer s H args us vs Q E hr e0 hb r hsp => ?_⟩
  have hl := len _ _ _ _ hsp
  have KX : K.In s.heap := e0.mod.kin.keeps fun b o e => (e0.bs b o e).1
  have lim : s.heap.NoLimit := e0.mod.nolimit.keeps fun b o e => (e0.bs b o e).1
  have hkind : ∀ y ∈ ps.zip us, scope.names.lookup y.1 = some .local ∨ (scope.names.lookup y.1 = some .cell ∧ ((cellsFrom (s.heap.objs.size + 1) scope.names []).lookup y.1).isSome = true) := fun ⟨n, v⟩ hy => by
    rcases S.par n (List.of_mem_zip hy).1 with q | q
    · exact .inl q
    · exact .inr ⟨q, PySem.W.cellsFrom_some _ _ _ (.inl q)⟩
  refine codeAny_call_function hr.depth (KX _ _ lk) rfl S.co S.gen rfl (PySem.W.codeRec_of KX hcd) (hb _ _ _ _ ?_)
  refine wpAny_newFunctionEnv_cells S.kind hkind fun env he s1 x => ?_
  subst he
  refine ⟨lim.keeps x.toInCall.keep, codeAny_func ?_⟩
  obtain ⟨t, ht, hq⟩ := hbody A outer s H vs Q E (hr.deeper _) hsp
  have I : Inv (cxOf CX P w K mg base N qual scope f cdv A outer s H E) [] (start N vs) H s1 := inv_start S hr.hd e0 hl r x
  refine wpAny_mono (ht [] s1 (start N vs) H _ I hq) (fun fl s' hs => ?_) fun e s' hs => hs
  have fin : ∀ {σ' : St} {H' : Hp} {v : V} {u : Value}, Inv (cxOf CX P w K mg base N qual scope f cdv A outer s H E) [] σ' H' s' → RelV v u → Q v H' → CE outer P w H s Q u s' :=
    fun {σ' H' v u} J rv q => ⟨v, H', J.os, J.bare, J.base, J.hok, rv, q⟩
  cases fl with
  | ret u =>
    obtain ⟨v, σ', H', J, rv, q⟩ := hs
    exact fin J rv q
  | next =>
    obtain ⟨σ', H', J, q⟩ := hs
    exact fin (v := V.non) (u := Value.none) J rfl q
  | brk =>
    obtain ⟨_, _, _, q⟩ := hs
    exact False.elim q
  | cont =>
    obtain ⟨_, _, _, q⟩ := hs
    exact False.elim q
end L2
namespace L2
open PySem PySem.Spec PyProof.Rows
section
variable {X : Cx} {x : Str} {p pos : Pos} {e : Expr} {es : List Expr} {t : TA} {id T : String} {r : List V → Hp → VK → Prop}
def tCB (r : List V → Hp → VK → Prop) (t : TA) : TE := fun σ H Q => t σ H fun vs H1 => r vs H1 Q
theorem pe_callB (hc : CallR X (.builtin id) r) (hg : Gl X x) (hm : X.mg x = none) (hv : bootBuiltins x = some (.builtin id)) (ha : PA X (e :: es) t) (hn : x ≠ "__name__" := by decide) (hdb : (x == ("__debug__" : Str)) = false := by decide)
    (he : starEach (e :: es) X.env = (false, eval e X.env) :: starEach es X.env := by rfl) (hpl : (backTo pos (starEach es X.env)).any (·.1) = false := by rfl) : PE X (.Call (.Name x p) (e :: es) [] pos) (tCB r t) := by
  intro pins s σ H Q I h
  refine wpAny_Call_Name_kw (ld_blt I hg hm hv ?_ hn hdb)
  exact PyProof.Rows.callWith_builtin1 (thn (ha pos pins s σ H _ I h) fun us s1 ⟨vs, H1, I1, r1, q1⟩ => hc pins s1 σ H1 vs us Q I1 r1 q1) he hpl
theorem pe_callTy (hc : CallR X (.type T) r) (hg : Gl X x) (hm : X.mg x = none) (hv : bootBuiltins x = some (.type T)) (ha : PA X (e :: es) t) (hn : x ≠ "__name__" := by decide) (hdb : (x == ("__debug__" : Str)) = false := by decide)
    (he : starEach (e :: es) X.env = (false, eval e X.env) :: starEach es X.env := by rfl) (hpl : (backTo pos (starEach es X.env)).any (·.1) = false := by rfl) : PE X (.Call (.Name x p) (e :: es) [] pos) (tCB r t) := by
  intro pins s σ H Q I h
  refine wpAny_Call_Name_kw (ld_blt I hg hm hv ?_ hn hdb)
  exact PyProof.Rows.callWith_type1 (thn (ha pos pins s σ H _ I h) fun us s1 ⟨vs, H1, I1, r1, q1⟩ => hc pins s1 σ H1 vs us Q I1 r1 q1) he hpl
end
end L2
namespace HT
open PySem PyProof.Rows
section
open PySem.SeqAt
open PySem.AutoSeq1 (wpAny_loadPart')
open PySem.MeetsSeq PySem.MeetsSeq2 PySem.MeetsSeq3
end
section
variable {prog : Program} {w : World} {A : Around} {E : Value → Shared → Prop} {s : Shared}
def sIx (n d : Nat) : Option Int → Nat
  | none => d
  | some v => if v < 0 then (v + (n : Int)).toNat else min v.toNat n
end
end HT
namespace L2
open PySem PySem.Spec PyProof.Rows
abbrev TO := St → Hp → (Option Int → Hp → Prop) → Prop
def PO (X : Cx) (e : Option Expr) (t : TO) : Prop :=
  ∀ (pins : List (Addr × Obj)) (s : Shared) (σ : St) (H : Hp) (Q : Option Int → Hp → Prop), Inv X pins σ H s → t σ H Q →
    wpAny (model X.prog X.w) X.A (evalPart e X.env) (fun u s' => ∃ o H', Inv X pins σ H' s' ∧ IsPart u o ∧ Q o H') X.xe s
def tNoPart : TO := fun _ H Q => Q none H
def tPart (t : TE) : TO := fun σ H Q => t σ H fun x H1 => ∃ i, x = .int i ∧ Q (some i) H1
section
variable {X : Cx} {e : Expr} {te : TE} {lo hi : Option Expr} {tl th : TO} {pos p2 : Pos}
theorem po_none : PO X none tNoPart := by
  intro pins s σ H Q I h
  rw [evalPart_none]
  exact wpAny_pure ⟨none, H, I, .none, h⟩
theorem po_some (h : PE X e te) : PO X (some e) (tPart te) := by
  intro pins s σ H Q I hw
  rw [evalPart_some]
  refine thn (h pins s σ H _ I hw) fun u s1 ⟨x, H1, I1, r1, q1⟩ => ?_
  obtain ⟨i, rfl, q⟩ := q1
  obtain ⟨t, rfl⟩ := r1
  exact ⟨some i, H1, I1, .int i t, q⟩
def SlR (X : Cx) (r : V → Option Int → Option Int → Hp → VK → Prop) : Prop :=
  ∀ (pins : List (Addr × Obj)) (s : Shared) (σ : St) (H : Hp) (x : V) (v vl vu : Value) (lo hi : Option Int) (sl : Addr) (Q : VK), Inv X pins σ H s → RelV x v → s.heap.IsSliceOf sl vl vu .none → IsPart vl lo → IsPart vu hi → r x lo hi H Q →
    ∃ T id, typeLookup (.type T) "__getitem__" = pure (some (.builtin id)) ∧ s.TypeIs v T ∧ wpAny (model X.prog X.w) X.A (getItem v (.ref sl)) (EP X pins σ Q) X.xe s
def tSl (r : V → Option Int → Option Int → Hp → VK → Prop) (te : TE) (tl th : TO) : TE := fun σ H Q => te σ H fun x H1 => tl σ H1 fun l H2 => th σ H2 fun u H3 => r x l u H3 Q
theorem pe_slice {r : V → Option Int → Option Int → Hp → VK → Prop} (hr : SlR X r) (he : PE X e te) (hl : PO X lo tl) (hu : PO X hi th) : PE X (.Subscript e (.Slice lo hi none p2) pos) (tSl r te tl th) := by
  intro pins s σ H Q I h
  refine Subscript_ (thn (he pins s σ H _ I h) fun v s1 ⟨x, H1, I1, r1, q1⟩ => ?_)
  refine wpAny_Slice (thn (hl pins s1 σ H1 _ I1 q1) fun vl s2 ⟨l, H2, I2, pl, q2⟩ => thn (hu pins s2 σ H2 _ I2 q2) fun vu s3 ⟨u, H3, I3, pu, q3⟩ => ?_)
  rw [evalPart_none]
  refine wpAny_pure ?_
  have I4 : Inv X pins σ H3 { s3 with heap := s3.heap.push { cls := .type "slice", data := .fields #[vl, vu, .none] } } := I3.kept (t' := s3.toks) fun b ob q => Heap.get?_push_of_some _ q
  obtain ⟨T, id, hT, ht, hg⟩ := hr pins { s3 with heap := s3.heap.push { cls := .type "slice", data := .fields #[vl, vu, .none] } } σ H3 x v vl vu l u s3.heap.objs.size Q I4 r1 (Heap.IsSliceOf.new ..) pl pu q3
  show wpAny (model X.prog X.w) X.A (subscriptTail e (.Slice lo hi none p2) v (.ref s3.heap.objs.size)) (EP X pins σ Q) X.xe { s3 with heap := s3.heap.push { cls := .type "slice", data := .fields #[vl, vu, .none] } }
  exact tail_any (ops := [.ref s3.heap.objs.size, v]) ht hT hg (by with_unfolding_all rfl)
def cutV (xs : List V) (lo hi : Option Int) : List V := (xs.drop (HT.sIx xs.length 0 lo)).take (HT.sIx xs.length xs.length hi - HT.sIx xs.length 0 lo)
theorem cutV_length (xs : List V) (lo hi : Option Int) : (cutV xs lo hi).length ≤ xs.length := by
  unfold cutV
  rw [List.length_take, List.length_drop]
  omega
end
end L2
namespace L2
open PySem PySem.Spec PyProof.Rows
def ixN (n : Nat) (i : Int) : Option Nat := if 0 ≤ i then (if i < n then some i.toNat else none) else if -(n : Int) ≤ i then some (i + n).toNat else none
def atI {α : Type} (xs : List α) (i : Int) : Option α := (ixN xs.length i).bind fun j => xs[j]?
theorem ixN_seq {n : Nat} {i : Int} {j : Nat} (h : ixN n i = some j) : seqIndex? i n = some j ∧ j < n ∧ -(n : Int) ≤ i ∧ i < n := by
  unfold ixN at h
  by_cases h0 : 0 ≤ i
  · rw [if_pos h0] at h
    by_cases h1 : i < n
    · rw [if_pos h1] at h
      have e : i.toNat = j := Option.some.inj h
      exact ⟨by rw [seqIndex_of h0 h1, e], by omega, by omega, h1⟩
    · rw [if_neg h1] at h; cases h
  · rw [if_neg h0] at h
    by_cases h1 : -(n : Int) ≤ i
    · rw [if_pos h1] at h
      have e : (i + n).toNat = j := Option.some.inj h
      exact ⟨by rw [seqIndex_neg (by omega) h1, e], by omega, h1, by omega⟩
    · rw [if_neg h1] at h; cases h
theorem atI_get {α : Type} {xs : List α} {i : Int} {v : α} (h : atI xs i = some v) : ∃ j, seqIndex? i xs.length = some j ∧ xs[j]? = some v ∧ j < xs.length ∧ -(xs.length : Int) ≤ i ∧ i < xs.length := by
  unfold atI at h
  cases e : ixN xs.length i with
  | none => rw [e] at h; cases h
  | some j =>
    rw [e] at h
    obtain ⟨h1, h2, h3, h4⟩ := ixN_seq e
    exact ⟨j, h1, h, h2, h3, h4⟩
theorem atI_nat {α : Type} {xs : List α} {j : Nat} {v : α} (h : xs[j]? = some v) : atI xs (j : Int) = some v := by
  have hj : j < xs.length := (List.getElem?_eq_some_iff.mp h).1
  have e : ixN xs.length (j : Int) = some j := by
    unfold ixN
    rw [if_pos (by omega), if_pos (by omega)]; simp
  unfold atI; rw [e]; exact h
def PlainIx (b : Expr) : Prop := ∀ o i, subscripted b false o i = operate [o, i] (getItem o i)
def IxR (X : Cx) (r : R2) : Prop :=
  ∀ (value slice : Expr) (pins : List (Addr × Obj)) (s : Shared) (σ : St) (H : Hp) (x y : V) (v u : Value) (Q : VK), Inv X pins σ H s → RelV x v → RelV y u → r x y H Q →
    subscripted slice false v u = operate [v, u] (getItem v u) → wpAny (model X.prog X.w) X.A (subscriptTail value slice v u) (EP X pins σ Q) X.xe s
def MtR (X : Cx) (id : String) (r : V → List V → Hp → VK → Prop) : Prop :=
  ∀ (pins : List (Addr × Obj)) (s : Shared) (σ : St) (H : Hp) (x : V) (xs : List V) (v : Value) (us : List Value) (Q : VK), Inv X pins σ H s → RelV x v → Vals xs us → r x xs H Q →
    wpAny (model X.prog X.w) X.A (call (.builtin id) (v :: us)) (EP X pins σ Q) X.xe s
section
variable {X : Cx} {a b : Expr} {ta tb : TE} {pos : Pos}
theorem IxR.or {r r' : R2} (h : IxR X r) (h' : IxR X r') : IxR X (fun x y H Q => r x y H Q ∨ r' x y H Q) := by
  intro value slice pins s σ H x y v u Q I rx ry q hs
  rcases q with q | q
  · exact h value slice pins s σ H x y v u Q I rx ry q hs
  · exact h' value slice pins s σ H x y v u Q I rx ry q hs
theorem pe_ix {r : R2} (hr : IxR X r) (ha : PE X a ta) (hb : PE X b tb) (hs : PlainIx b) : PE X (.Subscript a b pos) (tOp r ta tb) := by
  intro pins s σ H Q I h
  exact Subscript_ (binT ha hb I h fun v u s2 x y H2 I2 rx ry q => hr a b pins s2 σ H2 x y v u Q I2 rx ry q (hs _ _))
def rIxL (K : PySem.W.Frag) : R2 := fun x y H Q => ∃ p xs i v, x = .ref p ∧ y = .int i ∧ SqL K H p xs ∧ atI xs i = some v ∧ Q v H
def rIxT (K : PySem.W.Frag) : R2 := fun x y H Q => ∃ p xs i v, x = .ref p ∧ y = .int i ∧ SqT K H p xs ∧ atI xs i = some v ∧ Q v H
theorem ix_list : IxR X (rIxL X.K) := by
  intro value slice pins s σ H x y v u Q I rx ry h hs
  obtain ⟨p, xs, i, z, rfl, rfl, hq, he, q⟩ := h
  cases rx
  obtain ⟨t, rfl⟩ := ry
  obtain ⟨its, r, pl, hz⟩ := I.list hq
  obtain ⟨j, h1, h2, h3, h4, h5⟩ := atI_get he
  obtain ⟨w, ew, rw'⟩ := r.get h2
  have hl := r.length
  have hn := line63
  have fin : EP X pins σ Q w s := ⟨z, H, I, rw', q⟩
  by_cases h0 : 0 ≤ i
  · have hj : i.toNat = j := by
      rw [seqIndex_of h0 h5] at h1
      exact Option.some.inj h1
    exact item_listR pl.isList h0 (by omega) (by rw [hj]; simpa using ew) fin hs
  · have hj : (i + (its.toArray.size : Int)).toNat = j := by
      rw [seqIndex_neg (by omega) h4] at h1
      rw [List.size_toArray, ← hl]
      exact Option.some.inj h1
    exact subscriptTail_builtinR (x := w) pl.isList.typeIs slot_list_getitem.lookup
      (wpAny_getItem_list_neg (Q := fun r s' => r = w ∧ EP X pins σ Q r s') pl.isList (by omega) (by rw [List.size_toArray] <;> omega) (by omega) (by rw [hj]; simpa using ew) ⟨rfl, fin⟩) hs
theorem ix_tup : IxR X (rIxT X.K) := by
  intro value slice pins s σ H x y v u Q I rx ry h hs
  obtain ⟨p, xs, i, z, rfl, rfl, hq, he, q⟩ := h
  cases rx
  obtain ⟨t, rfl⟩ := ry
  obtain ⟨its, r, pl, hz⟩ := I.tuple hq
  obtain ⟨j, h1, h2, h3, h4, h5⟩ := atI_get he
  obtain ⟨w, ew, rw'⟩ := r.get h2
  have hl := r.length
  have hn := line63
  have fin : EP X pins σ Q w s := ⟨z, H, I, rw', q⟩
  exact subscriptTail_builtinR (x := w) pl.typeIs slot_tuple_getitem.lookup
    (getItem_tuple (j := j) (Q := fun r s' => r = w ∧ EP X pins σ Q r s') pl (by omega) (by omega) (by rw [List.size_toArray, ← hl]; exact h1) (by simpa using ew) ⟨rfl, fin⟩) hs
theorem mapSeq_set (its : List Value) (n j : Nat) (u : Value) : Obj.mapSeq (·.setIfInBounds j u) { cls := .type "list", data := .seq its.toArray n } = { cls := .type "list", data := .seq (its.set j u).toArray n } := by
  simp [Obj.mapSeq]
theorem Inv.lst {pins : List (Addr × Obj)} {σ : St} {H : Hp} {s : Shared} {p : Addr} {xs : List V} (I : Inv X pins σ H s) (h : H p = some (.lst xs)) :
    ∃ (its : List Value) (n : Nat), Vals xs its ∧ s.heap.get? p = some { cls := .type "list", data := .seq its.toArray n } ∧ xs.length ≤ sizeLine := by
  obtain ⟨z, its, n, r, e⟩ := I.hok p _ h
  exact ⟨its, n, r, e, z⟩
theorem Inv.lstUpd {pins : List (Addr × Obj)} {σ : St} {H : Hp} {s : Shared} {p : Addr} {xs ys : List V} {its its' : List Value} {n n' : Nat} {f : Obj → Obj} (I : Inv X pins σ H s) (h : H p = some (.lst xs))
    (ho : s.heap.get? p = some { cls := .type "list", data := .seq its.toArray n }) (hf : f { cls := .type "list", data := .seq its.toArray n } = { cls := .type "list", data := .seq its'.toArray n' }) (r : Vals ys its') (hz : ys.length ≤ sizeLine) (t : Nat) :
    Inv X pins σ (upd H p (.lst ys)) { s with heap := s.heap.update p f, toks := t } := by
  have e : (s.heap.update p f).get? p = some { cls := .type "list", data := .seq its'.toArray n' } := by
    rw [Heap.get?_update_self f ho (by rw [hf] <;> rfl), hf]
  refine I.write (x := p) (e := p) (by rw [h]; trivial) (.inl rfl) (fun b u hb q => (Heap.get?_update_other _ _ (Ne.symm hb)).trans q) ⟨_, e⟩ ?_
  exact ⟨hz, its', n', r, e⟩
def rSetL : V → V → V → Hp → (Hp → Prop) → Prop := fun o i v H Q => ∃ p xs k j, o = .ref p ∧ i = .int k ∧ H p = some (.lst xs) ∧ ixN xs.length k = some j ∧ Q (upd H p (.lst (xs.set j v)))
theorem set_list : PSet X rSetL := by
  intro pins s σ H o i v ov iv u Q I ro ri rv h
  obtain ⟨p, xs, k, j, rfl, rfl, hp, hj, q⟩ := h
  cases ro
  obtain ⟨t, rfl⟩ := ri
  obtain ⟨its, n, r, ho, hz⟩ := I.lst hp
  obtain ⟨h1, h2, h3, h4⟩ := ixN_seq hj
  have hl := r.length
  have hn := line63
  have I' : Inv X pins σ (upd H p (.lst (xs.set j v))) { s with heap := s.heap.update p (Obj.mapSeq (·.setIfInBounds j u)) } :=
    I.lstUpd hp ho (mapSeq_set its n j u) (r.set rv j) (by rw [List.length_set]; exact hz) s.toks
  by_cases h0 : 0 ≤ k
  · have hk : k.toNat = j := by
      rw [seqIndex_of h0 h4] at h1
      exact Option.some.inj h1
    exact PySem.W.ki_setAt ho h0 (by omega) (by rw [List.size_toArray, ← hl]; exact h4) (by rw [hk]; exact ⟨_, I', q⟩)
  · have hk : (k + (its.toArray.size : Int)).toNat = j := by
      rw [seqIndex_neg (by omega) h3] at h1
      rw [List.size_toArray, ← hl]
      exact Option.some.inj h1
    exact PySem.W.ki_setBack ho (by omega) (by rw [List.size_toArray, ← hl]; exact h3) (by omega) (by rw [hk]; exact ⟨_, I', q⟩)
theorem slice_bounds (lo hi : Option Int) (n : Nat) : (sliceBounds lo hi none n).1 = ((HT.sIx n 0 lo : Nat) : Int) ∧ (sliceBounds lo hi none n).2.1 = ((HT.sIx n n hi : Nat) : Int) ∧ (sliceBounds lo hi none n).2.2 = 1 := by
  refine ⟨?_, ?_, rfl⟩
  · cases lo with
    | none => simp [sliceBounds, HT.sIx]
    | some i =>
      simp only [sliceBounds, HT.sIx, Option.getD_none, show (1 : Int) > 0 by decide, if_true]
      by_cases h : i < 0
      · simp only [h, if_true] <;> omega
      · simp only [h, if_false] <;> omega
  · cases hi with
    | none => simp [sliceBounds, HT.sIx]
    | some i =>
      simp only [sliceBounds, HT.sIx, Option.getD_none, show (1 : Int) > 0 by decide, if_true]
      by_cases h : i < 0
      · simp only [h, if_true] <;> omega
      · simp only [h, if_false] <;> omega
theorem slicePick_cut (its : List Value) (lo hi : Option Int) : slicePick its.toArray lo hi none = ((its.drop (HT.sIx its.length 0 lo)).take (HT.sIx its.length its.length hi - HT.sIx its.length 0 lo)).toArray := by
  obtain ⟨h1, h2, h3⟩ := slice_bounds lo hi its.toArray.size
  unfold slicePick
  rw [h1, h2, h3]
  simp only [sliceRange_one, pick_run, List.size_toArray] <;> rfl
def rSlL (K : PySem.W.Frag) : V → Option Int → Option Int → Hp → VK → Prop := fun x lo hi H Q => ∃ a xs, x = .ref a ∧ SqL K H a xs ∧ ∀ p, H p = none → Q (.ref p) (upd H p (.lst (cutV xs lo hi)))
theorem sl_list : SlR X (rSlL X.K) := by
  intro pins s σ H x v vl vu lo hi sl Q I rx hs pl pu h
  obtain ⟨a, xs, rfl, hx, q⟩ := h
  cases rx
  obtain ⟨its, r, ht, hz⟩ := I.list hx
  have hlen := r.length
  refine ⟨"list", _, slot_list_getitem.lookup, ht.isList.typeIs, ?_⟩
  refine wpAny_getItem_list_slice ht.isList hs pl pu .none (by simp) ?_ (by rw [List.size_toArray] <;> omega)
  rw [slicePick_cut, ← hlen]
  refine ⟨.ref s.heap.objs.size, _, I.laid (t' := s.toks) (o := .lst (cutV xs lo hi)) (fun b ob q => Heap.get?_push_of_some _ q) (Nat.le_refl _) ?_, rfl, q _ (I.hok.fresh (Nat.le_refl _))⟩
  exact ⟨Nat.le_trans (cutV_length xs lo hi) hz, _, 0, (r.drop (HT.sIx xs.length 0 lo)).take (HT.sIx xs.length xs.length hi - HT.sIx xs.length 0 lo), Heap.get?_push_size _ rfl⟩
def flatV : V → Bool
  | .non => true
  | .bl _ => true
  | .int _ => true
  | .str _ => true
  | _ => false
theorem call_list_of : CallR X (.type "list") (fun xs H Q => ∃ p ys, xs = [.ref p] ∧ (SqL X.K H p ys ∨ SqT X.K H p ys) ∧ ∀ l, H l = none → Q (.ref l) (upd H l (.lst ys))) := by
  intro pins s σ H xs us Q I r h
  obtain ⟨p, ys, rfl, hq, q⟩ := h
  obtain ⟨u, rfl, rx⟩ := vals1 r
  cases rx
  have fin : ∀ (its : List Value), Vals ys its → ys.length ≤ sizeLine → ∀ (h' : Heap) (c' : Nat), (∀ b o', s.heap.get? b = some o' → h'.get? b = some o') →
      h'.get? s.heap.objs.size = some { cls := .type "list", dict := none, data := .seq its.toArray c', slots := #[] } → EP X pins σ Q (.ref s.heap.objs.size) { s with heap := h' } := fun its r' hz h' c' kp e =>
    ⟨.ref s.heap.objs.size, _, I.laid (t' := s.toks) kp (Nat.le_refl _) (show ObjOk X.prog X.w _ h' _ (.lst ys) from ⟨hz, its, c', r', e⟩), rfl, q _ (I.hok.fresh (Nat.le_refl _))⟩
  rcases hq with hq | hq
  · obtain ⟨its, r', pl, hz⟩ := I.list hq
    have hlen := r'.length
    obtain ⟨o, ho, hc, n, hd⟩ := pl.isList
    exact call_list_seq p (.inl rfl) ho hc hd (fun h' c' kp e => fin its r' hz h' c' kp e) (by simp only [List.size_toArray] <;> omega)
  · obtain ⟨its, r', pl, hz⟩ := I.tuple hq
    have hlen := r'.length
    obtain ⟨o, ho, hc, n, hd⟩ := pl
    exact call_list_seq p (.inr rfl) ho hc hd (fun h' c' kp e => fin its r' hz h' c' kp e) (by simp only [List.size_toArray] <;> omega)
def tyV (K : PySem.W.Frag) (T : String) (x : V) (H : Hp) : Prop := match x with
  | .str _ => T = "str"
  | .int _ => T = "int"
  | .ref p => (T = "list" ∧ ∃ xs, SqL K H p xs) ∨ (T = "tuple" ∧ ∃ o, K.lookup p = some o ∧ o.cls = .type "tuple" ∧ o.dict = none) ∨
      (T = "dict" ∧ ((∃ kvs, H p = some (.dK kvs)) ∨ ∃ kvs, H p = some (.dT kvs))) ∨ (T = "set" ∧ ∃ S n, H p = some (.set S n))
  | _ => False
theorem tyV_is {pins : List (Addr × Obj)} {σ : St} {H : Hp} {s : Shared} {T : String} {x : V} {v : Value} (I : Inv X pins σ H s) (r : RelV x v) (ty : tyV X.K T x H) :
    s.TypeIs v T ∧ ∀ a, v = .ref a → ∃ ob, s.heap.get? a = some ob ∧ ob.dict = none := by
  cases x with
  | str z =>
    obtain ⟨t, rfl⟩ := r
    cases (show T = "str" from ty)
    exact ⟨typeIs_str s z t, fun _ e => nomatch e⟩
  | int i =>
    obtain ⟨t, rfl⟩ := r
    cases (show T = "int" from ty)
    exact ⟨typeIs_int s i t, fun _ e => nomatch e⟩
  | ref p =>
    cases r
    rcases ty with ⟨rfl, xs, hq⟩ | ⟨rfl, o, hk, hc, hd⟩ | ⟨rfl, hk⟩ | ⟨rfl, S, n, hk⟩
    · obtain ⟨its, _, pl, _⟩ := I.list hq
      refine ⟨pl.isList.typeIs, fun a e => ?_⟩
      cases e
      obtain ⟨o, n, e, c, hd, _⟩ := pl
      exact ⟨o, e, hd⟩
    · refine ⟨⟨o, I.kIn p o hk, hc⟩, fun a e => ?_⟩
      cases e
      exact ⟨o, I.kIn _ o hk, hd⟩
    · have z : ∃ o, s.heap.get? p = some o ∧ o.ExactDict := by
        rcases hk with ⟨kvs, hk⟩ | ⟨kvs, hk⟩
        · obtain ⟨_, _, _, _, o, _, _, e, ex, _⟩ := I.hok p _ hk
          exact ⟨o, e, ex⟩
        · obtain ⟨_, _, _, _, o, _, _, e, ex, _⟩ := I.hok p _ hk
          exact ⟨o, e, ex⟩
      obtain ⟨o, e, ex⟩ := z
      refine ⟨⟨o, e, ex.1⟩, fun a e2 => ?_⟩
      cases e2
      exact ⟨o, e, ex.2.1⟩
    · obtain ⟨o, _, _, _, e, ex, _⟩ := I.hok p _ hk
      refine ⟨⟨o, e, ex.1⟩, fun a e2 => ?_⟩
      cases e2
      exact ⟨o, e, ex.2.1⟩
  | _ => exact False.elim ty
def tBM0 (K : PySem.W.Frag) (T : String) (r : V → List V → Hp → VK → Prop) (to : TE) : TE := fun σ H Q => to σ H fun x H1 => tyV K T x H1 ∧ r x [] H1 Q
def tBM (K : PySem.W.Frag) (T : String) (r : V → List V → Hp → VK → Prop) (to : TE) (t : TA) : TE := fun σ H Q => to σ H fun x H1 => tyV K T x H1 ∧ t σ H1 fun xs H2 => r x xs H2 Q
variable {o e : Expr} {es : List Expr} {to : TE} {t : TA} {name : Str} {apos cpos : Pos} {T id : String} {r : V → List V → Hp → VK → Prop}
theorem pe_bm0 (pa : PlainAttrs T) (slot : Slot T name id) (hty : typeOf (.builtin id) = pure (.type "method_descriptor")) (hm : MtR X id r) (ho : PE X o to)
    (hbase : attributeBase o name X.env (eval o X.env) = eval o X.env := by rfl) (hline : (apos.endLine == cpos.line) = true := by rfl) : PE X (.Call (.Attribute o name apos) [] [] cpos) (tBM0 X.K T r to) := by
  intro pins s σ H Q I h
  refine wpAny_Call_method0_late hbase hline (thn (ho pins s σ H _ I h) fun v s1 ⟨x, H1, I1, r1, ty, q1⟩ => ?_)
  obtain ⟨h1, h2⟩ := tyV_is I1 r1 ty
  exact ⟨T, id, pa, slot, hty, h1, h2, Calls.callWith_builtin rfl (PySem.evalArgs_none (hm pins s1 σ H1 x [] v [] Q I1 r1 .nil q1))⟩
theorem pe_bm (pa : PlainAttrs T) (slot : Slot T name id) (hty : typeOf (.builtin id) = pure (.type "method_descriptor")) (hm : MtR X id r) (ho : PE X o to) (ha : PA X (e :: es) t)
    (hbase : attributeBase o name X.env (eval o X.env) = eval o X.env := by rfl)
    (hfew : ((backTo cpos (starEach (e :: es) X.env)).all (fun x => !x.1) && (backToKw cpos (keywordEach [] X.env)).all (fun x => x.1.isSome)
      && decide ((e :: es).length + ([] : List Keyword).length + (if ([] : List Keyword).isEmpty then 0 else 1) < 30)) = true := by rfl)
    (hline : (apos.endLine == cpos.line) = true := by rfl) (hs : starEach (e :: es) X.env = (false, eval e X.env) :: starEach es X.env := by rfl) (hplain : (backTo cpos (starEach es X.env)).any (·.1) = false := by rfl) :
    PE X (.Call (.Attribute o name apos) (e :: es) [] cpos) (tBM X.K T r to t) := by
  intro pins s σ H Q I h
  refine wpAny_Call_method_late hbase hfew hline rfl (thn (ho pins s σ H _ I h) fun v s1 ⟨x, H1, I1, r1, ty, q1⟩ => ?_)
  obtain ⟨h1, h2⟩ := tyV_is I1 r1 ty
  refine ⟨T, id, pa, slot, hty, h1, h2, ?_⟩
  have hA := ha cpos pins s1 σ H1 _ I1 q1
  rw [hs] at hA ⊢
  refine Calls.callWith_builtin (by show (false || (backTo cpos (starEach es X.env)).any (·.1)) = false; rw [hplain] <;> rfl) (Calls.evalArgs_plain ?_)
  exact thn hA fun us s2 ⟨vs, H2, I2, r2, q2⟩ => hm pins s2 σ H2 x vs v us Q I2 r1 r2 q2
end
end L2
namespace L2
open PySem PySem.Spec PyProof.Rows
def MtM (X : Cx) (id : String) (r : V → List V → Hp → VK → Prop) : Prop :=
  ∀ (pins : List (Addr × Obj)) (s : Shared) (σ : St) (H : Hp) (x : V) (xs : List V) (v : Value) (us : List Value) (Q : VK), Inv X pins σ H s → RelV x v → Vals xs us → r x xs H Q →
    wpAny (model X.prog X.w) X.A (call (.builtin id) (v :: us)) (EP X pins σ Q) X.xe s
theorem Vals.one : ∀ {x : V} {us : List Value}, Vals [x] us → ∃ u, us = [u] ∧ RelV x u
  | _, _, .cons r .nil => ⟨_, rfl, r⟩
theorem Vals.two : ∀ {x y : V} {us : List Value}, Vals [x, y] us → ∃ u v, us = [u, v] ∧ RelV x u ∧ RelV y v
  | _, _, _, .cons r (.cons q .nil) => ⟨_, _, rfl, r, q⟩
theorem Vals.zero : ∀ {us : List Value}, Vals [] us → us = []
  | _, .nil => rfl
theorem Vals.dropLast {xs : List V} {us : List Value} (h : Vals xs us) : Vals xs.dropLast us.dropLast := by
  induction h with
  | nil => exact .nil
  | cons r t ih =>
    cases t with
    | nil => exact .nil
    | cons q t' => exact .cons r ih
theorem Vals.eraseIdx : ∀ {xs : List V} {us : List Value} (i : Nat), Vals xs us → Vals (xs.eraseIdx i) (us.eraseIdx i)
  | _, _, _, .nil => .nil
  | _, _, 0, .cons _ t => t
  | _, _, i + 1, .cons r t => .cons r (Vals.eraseIdx i t)
theorem Vals.reverse {xs : List V} {us : List Value} (h : Vals xs us) : Vals xs.reverse us.reverse := by
  induction h with
  | nil => exact .nil
  | cons r t ih => rw [List.reverse_cons, List.reverse_cons]; exact Vals.append ih (.cons r .nil)
theorem Vals.rep {xs : List V} {us : List Value} (h : Vals xs us) : ∀ k : Nat, Vals (List.replicate k xs).flatten (List.replicate k us).flatten
  | 0 => .nil
  | k + 1 => by
    rw [List.replicate_succ, List.replicate_succ, List.flatten_cons, List.flatten_cons]
    exact Vals.append h (Vals.rep h k)
theorem foldl_rep (its : List Value) : ∀ (k : Nat) (acc : List Value),
    List.foldl (fun x1 x2 => x1 ++ x2) acc.toArray (List.replicate k its.toArray) = (acc ++ (List.replicate k its).flatten).toArray
  | 0, acc => by simp
  | k + 1, acc => by
    have e : acc.toArray ++ its.toArray = (acc ++ its).toArray := by simp
    have e2 : (acc ++ its) ++ (List.replicate k its).flatten = acc ++ (List.replicate (k + 1) its).flatten := by
      rw [List.replicate_succ, List.flatten_cons, List.append_assoc]
    rw [← e2, ← foldl_rep its k (acc ++ its), ← e, List.replicate_succ, List.foldl_cons]
section
variable {X : Cx} {pins : List (Addr × Obj)} {σ : St} {H : Hp} {s : Shared} {l b : Addr} {xs ys zs : List V}
theorem Inv.lset {its its' : List Value} {n : Nat} {f : Array Value → Array Value} {t' : Nat} (I : Inv X pins σ H s) (hH : H l = some (.lst xs))
    (e : s.heap.get? l = some { cls := .type "list", data := .seq its.toArray n }) (hf : f its.toArray = its'.toArray) (hv : Vals ys its') (hz : ys.length ≤ sizeLine) :
    Inv X pins σ (upd H l (.lst ys)) { s with heap := s.heap.update l (Obj.mapSeq f), toks := t' } := by
  have q := PySem.IsL.update e f
  rw [hf] at q
  refine I.write (x := l) (e := l) (by rw [hH]; exact trivial) (.inl rfl) (fun b' u hb hu => (Heap.get?_update_other s.heap (Obj.mapSeq f) (Ne.symm hb)).trans hu) ⟨_, q⟩ ?_
  exact ⟨hz, its', _, hv, q⟩
theorem Inv.lnew {its : List Value} {t' : Nat} (I : Inv X pins σ H s) (hv : Vals ys its) (hz : ys.length ≤ sizeLine) :
    Inv X pins σ (upd H s.heap.objs.size (.lst ys)) { s with heap := s.heap.push { cls := .type "list", data := .seq its.toArray }, toks := t' } :=
  I.laid (fun _ _ q => Heap.get?_push_of_some _ q) (Nat.le_refl _) ⟨hz, its, 0, hv, Heap.get?_push_size _ rfl⟩
theorem Inv.fresh (I : Inv X pins σ H s) : H s.heap.objs.size = none := I.hok.fresh (Nat.le_refl _)
theorem Inv.lstM (I : Inv X pins σ H s) (hH : H l = some (.lst xs)) : xs.length ≤ sizeLine ∧ ∃ (its : List Value) (n : Nat), Vals xs its ∧ xs.length = its.length ∧ s.heap.get? l = some { cls := .type "list", data := .seq its.toArray n } := by
  obtain ⟨z, its, n, r, e⟩ := I.hok l _ hH
  exact ⟨z, its, n, r, r.length, e⟩
theorem notLongL {n : Nat} (h : n ≤ sizeLine) : Builtin.List.listTooLong n = false := by
  unfold Builtin.List.listTooLong
  exact decide_eq_false (by omega)
end
section
variable {X : Cx}
def rAppend : V → List V → Hp → VK → Prop := fun x vs H Q => ∃ l xs y, x = .ref l ∧ vs = [y] ∧ H l = some (.lst xs) ∧ xs.length < sizeLine ∧ Q .non (upd H l (.lst (xs ++ [y])))
theorem mt_append : MtM X "list.append" rAppend := by
  intro pins s σ H x vs v us Q I rx rv h
  obtain ⟨l, xs, y, rfl, rfl, hH, hz, q⟩ := h
  cases rx
  obtain ⟨u, rfl, ru⟩ := rv.one
  obtain ⟨z, its, n, r, hl, e⟩ := I.lstM hH
  refine call_meets F.slot_list_append ⟨_, e, rfl⟩ F.entry_list_append (F.args_list_append_2 _ _) (PySem.list_append l its.toArray n u (by rw [List.size_toArray]; omega)) ⟨e, ?_⟩
  refine ⟨.non, _, I.lset (its' := its ++ [u]) hH e (by simp) (r.append (.cons ru .nil)) ?_, rfl, q⟩
  rw [List.length_append, List.length_singleton]
  omega
def rPop : V → List V → Hp → VK → Prop := fun x vs H Q => ∃ l xs y, x = .ref l ∧ vs = [] ∧ H l = some (.lst xs) ∧ xs[xs.length - 1]? = some y ∧ Q y (upd H l (.lst xs.dropLast))
def rReverse : V → List V → Hp → VK → Prop := fun x vs H Q => ∃ l xs, x = .ref l ∧ vs = [] ∧ H l = some (.lst xs) ∧ Q .non (upd H l (.lst xs.reverse))
theorem mt_reverse : MtM X "list.reverse" rReverse := by
  intro pins s σ H x vs v us Q I rx rv h
  obtain ⟨l, xs, rfl, rfl, hH, q⟩ := h
  cases rx
  have hus := rv.zero
  subst hus
  obtain ⟨z, its, n, r, hl, e⟩ := I.lstM hH
  refine call_meets F.slot_list_reverse ⟨_, e, rfl⟩ F.entry_list_reverse (F.args_list_reverse_1 _) (AutoSeq1.list_reverse_list_0 l its.toArray n (by rw [List.size_toArray]; omega)) ⟨e, ?_⟩
  refine ⟨.non, _, I.lset (its' := its.reverse) hH e (by simp) r.reverse ?_, rfl, q⟩
  rw [List.length_reverse]
  omega
def rRep : R2 := fun x y H Q => ∃ l k xs, x = .ref l ∧ y = .int k ∧ H l = some (.lst xs) ∧ -(2 ^ 63) ≤ k ∧ k < 2 ^ 63 ∧ xs.length * k.toNat ≤ sizeLine ∧
  ∀ p, H p = none → Q (.ref p) (upd H p (.lst (List.replicate k.toNat xs).flatten))
theorem len_rep {α : Type} (xs : List α) (k : Nat) : (List.replicate k xs).flatten.length = k * xs.length := by
  induction k with
  | zero => simp
  | succ k ih => rw [List.replicate_succ, List.flatten_cons, List.length_append, ih, Nat.succ_mul, Nat.add_comm]
theorem op_rep : OpR X (binaryOp .Mult) rRep := by
  intro pins s σ H x y v u Q I rx ry h
  obtain ⟨l, k, xs, rfl, rfl, hH, h1, h2, hz, q⟩ := h
  cases rx
  obtain ⟨t, rfl⟩ := ry
  obtain ⟨z, its, n, r, hl, e⟩ := I.lstM hH
  have hlen : its.toArray.size * k.toNat ≤ sizeLine := by rw [List.size_toArray, ← hl]; exact hz
  have hcap : ¬ its.toArray.size * k.toNat > (2 ^ 63 - 1) / 8 := by
    have : (sizeLine : Nat) ≤ (2 ^ 63 - 1) / 8 := by decide
    omega
  have hfit : ¬ (!Builtin.List.listFitsIndex k) = true := by
    rw [fitsIndex_both h1 h2]
    exact Bool.false_ne_true
  have hlong : ¬ Builtin.List.listTooLong (its.toArray.size * k.toNat) = true := by
    rw [notLongL hlen]
    exact Bool.false_ne_true
  have hnew : List.foldl (fun x1 x2 => x1 ++ x2) #[] (List.replicate (if its.toArray.isEmpty = true then 0 else k.toNat) its.toArray) = (List.replicate k.toNat its).flatten.toArray := by
    have f0 : ∀ m : Nat, List.foldl (fun x1 x2 => x1 ++ x2) #[] (List.replicate m its.toArray) = (List.replicate m its).flatten.toArray := fun m => by
      have := foldl_rep its m []
      rw [List.nil_append] at this
      exact this
    rw [f0]
    cases its with
    | nil => simp
    | cons a r' => rw [if_neg (by simp)]
  refine wpAny_binaryOp_repeat_ref (T := "list") (U := "int") (by decide) ⟨_, e, rfl⟩ (fun s' => typeIs_int s' k t) noFill_list_mul F.fills_int_mul F.slot_int_rmul repeat_list F.slot_int_index.lookup
    (call_meets F.slot_int_rmul (typeIs_int s k t) F.entry_int_rmul (F.args_int_rmul_2 _ _) (int___rmul___int_list k t l its.toArray n)
      ⟨e, rfl, ⟨_, e, rfl⟩, call_meets F.slot_list_mul ⟨_, e, rfl⟩ F.entry_list_mul (F.args_list_mul_2 _ _) (AutoListH.list___mul___list_int_3 l its.toArray n k t hfit hcap hlong) ⟨e, ?_⟩⟩)
  rw [hnew]
  exact ⟨.ref _, _, I.lnew (t' := s.toks) (r.rep k.toNat) (by rw [len_rep, Nat.mul_comm]; exact hz), rfl, q _ I.fresh⟩
end
section
variable {prog : Program} {w : World} {A : Around} {E : Value → Shared → Prop} {s : Shared}
end
section
variable {X : Cx}
end
end L2
namespace L2
open PySem PySem.Spec PyProof.Rows
section
variable {κ : Type} [DecidableEq κ]
def valV (kvs : List (κ × V)) (k : κ) : Option V := (kvs.find? fun kv => decide (kv.1 = k)).map (·.2)
def putK (kvs : List (κ × V)) (k : κ) (v : V) : List (κ × V) :=
  if (kvs.any fun kv => decide (kv.1 = k)) = true then kvs.map (fun kv => if kv.1 = k then (kv.1, v) else kv) else kvs ++ [(k, v)]
def dropK (kvs : List (κ × V)) (k : κ) : List (κ × V) := kvs.filter fun kv => decide (kv.1 ≠ k)
theorem valV_pos {p : κ × V} {r : List (κ × V)} {k : κ} (e : p.1 = k) : valV (p :: r) k = some p.2 := by simp [valV, List.find?_cons, e]
theorem valV_neg {p : κ × V} {r : List (κ × V)} {k : κ} (e : ¬ p.1 = k) : valV (p :: r) k = valV r k := by simp [valV, List.find?_cons, e]
theorem valV_any (k : κ) : ∀ kvs : List (κ × V), (kvs.any fun kv => decide (kv.1 = k)) = (valV kvs k).isSome
  | [] => rfl
  | p :: r => by
    rw [List.any_cons]
    by_cases e : p.1 = k
    · simp only [valV_pos e, decide_eq_true e, Bool.true_or, Option.isSome_some]
    · rw [valV_neg e, decide_eq_false e, Bool.false_or]; exact valV_any k r
theorem valV_map (k j : κ) (y : V) : ∀ kvs : List (κ × V), valV (kvs.map fun kv => if kv.1 = k then (kv.1, y) else kv) j = (valV kvs j).map fun x => if j = k then y else x
  | [] => rfl
  | p :: r => by
    have ih := valV_map k j y r
    rw [List.map_cons]
    by_cases h : p.1 = k
    · rw [if_pos h]
      by_cases e : p.1 = j
      · rw [valV_pos (p := (p.1, y)) e, valV_pos e, Option.map_some, if_pos (e.symm.trans h)]
      · rw [valV_neg (p := (p.1, y)) e, valV_neg e, ih]
    · rw [if_neg h]
      by_cases e : p.1 = j
      · rw [valV_pos (p := p) e, valV_pos e, Option.map_some, if_neg (fun z => h (e.trans z))]
      · rw [valV_neg (p := p) e, valV_neg e, ih]
theorem valV_snoc (k j : κ) (y : V) : ∀ kvs : List (κ × V), valV kvs k = none → valV (kvs ++ [(k, y)]) j = if j = k then some y else valV kvs j
  | [], _ => by
    by_cases e : k = j
    · rw [if_pos e.symm]; exact valV_pos (p := (k, y)) e
    · rw [if_neg (fun z => e z.symm)]; exact valV_neg (p := (k, y)) e
  | p :: r, hn => by
    rw [List.cons_append]
    have hk : ¬ p.1 = k := fun z => by rw [valV_pos z] at hn; cases hn
    rw [valV_neg hk] at hn
    have ih := valV_snoc k j y r hn
    by_cases e : p.1 = j
    · rw [valV_pos e, valV_pos e, if_neg (fun z => hk (e.trans z))]
    · rw [valV_neg e, valV_neg e, ih]
theorem valV_put (kvs : List (κ × V)) (k j : κ) (y : V) : valV (putK kvs k y) j = if j = k then some y else valV kvs j := by
  unfold putK
  by_cases a : (kvs.any fun kv => decide (kv.1 = k)) = true
  · rw [if_pos a, valV_map]
    rw [valV_any] at a
    by_cases e : j = k
    · obtain ⟨x, hx⟩ := Option.isSome_iff_exists.mp a
      rw [if_pos e, e, hx, Option.map_some, if_pos rfl]
    · rw [if_neg e]
      cases valV kvs j with
      | none => rfl
      | some x => rw [Option.map_some, if_neg e]
  · rw [if_neg a]
    refine valV_snoc k j y kvs ?_
    rw [valV_any] at a
    cases q : valV kvs k with
    | none => rfl
    | some x => rw [q] at a; exact (a rfl).elim
theorem length_putK (kvs : List (κ × V)) (k : κ) (v : V) : (putK kvs k v).length ≤ kvs.length + 1 := by
  unfold putK
  split
  · rw [List.length_map]; omega
  · rw [List.length_append, List.length_cons, List.length_nil]; omega
theorem putK_new {kvs : List (κ × V)} {k : κ} (v : V) (h : valV kvs k = none) : putK kvs k v = kvs ++ [(k, v)] := by
  unfold putK
  rw [valV_any, h]
  exact if_neg (by decide)
theorem RelO.isSome_eq {o : Option V} {u : Option Value} (r : RelO o u) : o.isSome = u.isSome := by
  cases o with
  | none => cases u with
    | none => rfl
    | some _ => exact (show False from r).elim
  | some _ => cases u with
    | none => exact (show False from r).elim
    | some _ => rfl
theorem RelO.getD {o : Option V} {u : Option Value} {d : V} {d' : Value} (r : RelO o u) (rd : RelV d d') : RelV (o.getD d) (u.getD d') := by
  cases o with
  | none => cases u with
    | none => exact rd
    | some _ => exact (show False from r).elim
  | some _ => cases u with
    | none => exact (show False from r).elim
    | some _ => exact r
theorem KV.val {kvs : List (κ × V)} {vs : List (κ × Value)} (r : KV kvs vs) (k : κ) : RelO (valV kvs k) (valueAt vs k) := by
  unfold KV at r
  induction r with
  | nil => exact True.intro
  | @cons p q ps qs h t ih =>
    obtain ⟨h1, h2⟩ := h
    by_cases e : p.1 = k
    · have e' : q.1 = k := h1.symm.trans e
      have b : valueAt (q :: qs) k = some q.2 := by simp [valueAt, List.find?_cons, e']
      rw [valV_pos e, b]; exact h2
    · have e' : ¬ q.1 = k := fun z => e (h1.trans z)
      have b : valueAt (q :: qs) k = valueAt qs k := by simp [valueAt, List.find?_cons, e']
      rw [valV_neg e, b]; exact ih
theorem KV.any {kvs : List (κ × V)} {vs : List (κ × Value)} (r : KV kvs vs) (k : κ) : (kvs.any fun kv => decide (kv.1 = k)) = vs.any fun kv => decide (kv.1 = k) := by
  unfold KV at r
  induction r with
  | nil => rfl
  | cons h t ih => rw [List.any_cons, List.any_cons, ih, h.1]
theorem KV.repl {kvs : List (κ × V)} {vs : List (κ × Value)} (r : KV kvs vs) (k : κ) {y : V} {u : Value} (ry : RelV y u) :
    KV (kvs.map fun kv => if kv.1 = k then (kv.1, y) else kv) (vs.map fun kv => if kv.1 = k then (kv.1, u) else kv) := by
  unfold KV at r ⊢
  induction r with
  | nil => exact .nil
  | @cons p q ps qs h t ih =>
    rw [List.map_cons, List.map_cons]
    refine .cons ?_ ih
    obtain ⟨h1, h2⟩ := h
    by_cases e : p.1 = k
    · rw [if_pos e, if_pos (h1.symm.trans e)]; exact ⟨h1, ry⟩
    · rw [if_neg e, if_neg (fun z => e (h1.trans z))]; exact ⟨h1, h2⟩
theorem KV.put {kvs : List (κ × V)} {vs : List (κ × Value)} (r : KV kvs vs) (k : κ) {y : V} {u : Value} (ry : RelV y u) : KV (putK kvs k y) (stored vs k u) := by
  unfold putK stored
  rw [r.any k]
  by_cases e : (vs.any fun kv => decide (kv.1 = k)) = true
  · rw [if_pos e, if_pos e]; exact r.repl k ry
  · rw [if_neg e, if_neg e]; exact Paired.snoc r ⟨rfl, ry⟩
theorem KV.drop {kvs : List (κ × V)} {vs : List (κ × Value)} (r : KV kvs vs) (k : κ) : KV (dropK kvs k) (without vs k) := by
  unfold KV at r ⊢
  unfold dropK without
  induction r with
  | nil => exact .nil
  | @cons p q ps qs h t ih =>
    obtain ⟨h1, h2⟩ := h
    rw [List.filter_cons, List.filter_cons]
    by_cases e : p.1 = k
    · have a : ¬ decide (p.1 ≠ k) = true := by simp [e]
      have b : ¬ decide (q.1 ≠ k) = true := by simp [h1.symm.trans e]
      rw [if_neg a, if_neg b]; exact ih
    · have e' : ¬ q.1 = k := fun z => e (h1.trans z)
      have a : decide (p.1 ≠ k) = true := by simp [e]
      have b : decide (q.1 ≠ k) = true := by simp [e']
      rw [if_pos a, if_pos b]; exact .cons ⟨h1, h2⟩ ih
theorem KV.length {kvs : List (κ × V)} {vs : List (κ × Value)} (r : KV kvs vs) : kvs.length = vs.length := Paired.length r
theorem dropK_le (kvs : List (κ × V)) (k : κ) : (dropK kvs k).length ≤ kvs.length := List.length_filter_le _ _
end
theorem kV_is {P : Program} {w : World} {k : Key} {u : Value} (r : RelV (kV k) u) : (mixKind P w).is k u = true := by
  cases k with
  | inl i => obtain ⟨t, e⟩ := (show ∃ t, u = Value.int i t from r); subst e; exact mixKind_int P w i t
  | inr x => obtain ⟨t, e⟩ := (show ∃ t, u = Value.str x t from r); subst e; exact mixKind_str P w x t
theorem items_are {P : Program} {w : World} : ∀ {ks : List Key} {us : List Value}, Vals (ks.map kV) us → ItemsAre (mixKind P w) ks us
  | [], _, r => by rw [List.map_nil] at r; cases r; exact .nil
  | k :: ks, _, r => by
    rw [List.map_cons] at r
    cases r with
    | cons h t => exact .cons (kV_is h) (items_are t)
abbrev KT (H : Hp) : List (List Key × V) → List (List Key × Addr × Value) → Prop := Paired fun p q => p.1 = q.1 ∧ H q.2.1 = some (.tup (p.1.map kV)) ∧ RelV p.2 q.2.2
theorem KT.val {H : Hp} {kvs : List (List Key × V)} {xs : List (List Key × Addr × Value)} (r : KT H kvs xs) (k : List Key) : RelO (valV kvs k) ((atKey xs k).map (·.2)) := by
  induction r with
  | nil => exact True.intro
  | @cons p q ps qs h t ih =>
    obtain ⟨h1, _, h2⟩ := h
    by_cases e : p.1 = k
    · have e' : q.1 = k := h1.symm.trans e
      have b : atKey (q :: qs) k = some q.2 := by simp [atKey, List.find?_cons, e']
      rw [valV_pos e, b]; exact h2
    · have e' : ¬ q.1 = k := fun z => e (h1.trans z)
      have b : atKey (q :: qs) k = atKey qs k := by simp [atKey, List.find?_cons, e']
      rw [valV_neg e, b]; exact ih
theorem KT.repl {H : Hp} {kvs : List (List Key × V)} {xs : List (List Key × Addr × Value)} (r : KT H kvs xs) (k : List Key) {y : V} {u : Value} (ry : RelV y u) :
    KT H (kvs.map fun kv => if kv.1 = k then (kv.1, y) else kv) (xs.map (putAt k u)) := by
  induction r with
  | nil => exact .nil
  | @cons p q ps qs h t ih =>
    rw [List.map_cons, List.map_cons]
    refine .cons ?_ ih
    obtain ⟨h1, h2, h3⟩ := h
    unfold putAt
    by_cases e : p.1 = k
    · rw [if_pos e, if_pos (h1.symm.trans e)]; exact ⟨h1, h2, ry⟩
    · rw [if_neg e, if_neg (fun z => e (h1.trans z))]; exact ⟨h1, h2, h3⟩
theorem KT.put {H : Hp} {kvs : List (List Key × V)} {xs : List (List Key × Addr × Value)} (r : KT H kvs xs) (k : List Key) {b : Addr} {y : V} {u : Value} (hb : H b = some (.tup (k.map kV))) (ry : RelV y u) :
    KT H (putK kvs k y) (storedH xs k b u) := by
  have e : (kvs.any fun kv => decide (kv.1 = k)) = (atKey xs k).isSome := by
    rw [valV_any, (r.val k).isSome_eq, Option.isSome_map]
  unfold putK storedH
  rw [e]
  by_cases q : (atKey xs k).isSome = true
  · rw [if_pos q, if_pos q]; exact r.repl k ry
  · rw [if_neg q, if_neg q]; exact Paired.snoc r ⟨rfl, hb, ry⟩
theorem KT.keeps {H H' : Hp} {kvs : List (List Key × V)} {xs : List (List Key × Addr × Value)} (r : KT H kvs xs) (ht : ∀ b ys, H b = some (.tup ys) → H' b = some (.tup ys)) : KT H' kvs xs :=
  Paired.mapP r fun _ _ z => ⟨z.1, ht _ _ z.2.1, z.2.2⟩
section
variable {P : Program} {w : World} {H : Hp} {h : Heap} {a : Addr}
theorem rd_of {u : HO} (ok : HOk P w H h) (e : Rd H a u) : ObjOk P w H h a u := e.ok ok
theorem dk_rd {kvs : List (Key × V)} (ok : HOk P w H h) (e : Rd H a (.dK kvs)) : kvs.length ≤ sizeLine ∧ (a == sysModules) = false ∧ ∃ vs, KV kvs vs ∧ h.DictOf (mixKind P w) a vs :=
  show ObjOk P w H h a (.dK kvs) from rd_of ok e
theorem dk_of {kvs : List (Key × V)} (ok : HOk P w H h) (e : H a = some (.dK kvs)) : kvs.length ≤ sizeLine ∧ (a == sysModules) = false ∧ ∃ vs, KV kvs vs ∧ h.DictOf (mixKind P w) a vs := dk_rd ok (.inl e)
theorem key_of {ks : List Key} (ok : HOk P w H h) (e : H a = some (.tup (ks.map kV))) : (tupleKind (mixKind P w)).is h ks a := by
  obtain ⟨_, its, r, o, h1, h2, n, h3⟩ := (show ObjOk P w H h a (.tup (ks.map kV)) from ok a _ e)
  exact ⟨o, its.toArray, n, h1, h2, h3, by simpa using items_are r⟩
theorem dt_rd {kvs : List (List Key × V)} (ok : HOk P w H h) (e : Rd H a (.dT kvs)) : kvs.length ≤ sizeLine ∧ (a == sysModules) = false ∧
    ∃ xs, KT H kvs xs ∧ h.DictOfH (tupleKind (mixKind P w)) a xs := by
  obtain ⟨z, y, xs, r, o, es, ep, h1, h2, h3, h4, h5⟩ := (show ObjOk P w H h a (.dT kvs) from rd_of ok e)
  refine ⟨z, y, xs, r, o, es, ep, h1, h2, h3, h4, fun x hx => ?_, h5⟩
  have all : ∀ {l : List (List Key × V)} {m : List (List Key × Addr × Value)}, KT H l m → ∀ x ∈ m, (tupleKind (mixKind P w)).is h x.1 x.2.1 := by
    intro l m q
    induction q with
    | nil => intro x hx; exact nomatch hx
    | @cons p q ps qs hq t ih =>
      intro x hx
      rcases List.mem_cons.mp hx with e | hx
      · subst e
        exact key_of ok (by rw [← hq.1]; exact hq.2.1)
      · exact ih x hx
  exact all r x hx
theorem dt_of {kvs : List (List Key × V)} (ok : HOk P w H h) (e : H a = some (.dT kvs)) : kvs.length ≤ sizeLine ∧ (a == sysModules) = false ∧
    ∃ xs, KT H kvs xs ∧ h.DictOfH (tupleKind (mixKind P w)) a xs := dt_rd ok (.inl e)
end
def DGet (H : Hp) (a : Addr) (y : V) (r : Option V) : Prop :=
  (∃ kvs k, Rd H a (.dK kvs) ∧ y = kV k ∧ r = valV kvs k) ∨ ∃ kvs k b, Rd H a (.dT kvs) ∧ y = .ref b ∧ H b = some (.tup (k.map kV)) ∧ r = valV kvs k
def DPut (H : Hp) (a : Addr) (y v : V) (H' : Hp) : Prop :=
  (∃ kvs k, H a = some (.dK kvs) ∧ y = kV k ∧ kvs.length < sizeLine ∧ H' = upd H a (.dK (putK kvs k v))) ∨
  ∃ kvs k b, H a = some (.dT kvs) ∧ y = .ref b ∧ H b = some (.tup (k.map kV)) ∧ kvs.length < sizeLine ∧ H' = upd H a (.dT (putK kvs k v))
theorem DGet.k {H : Hp} {a : Addr} {kvs : List (Key × V)} {k : Key} (e : H a = some (.dK kvs)) : DGet H a (kV k) (valV kvs k) := .inl ⟨kvs, k, .inl e, rfl, rfl⟩
theorem DGet.t {H : Hp} {a b : Addr} {kvs : List (List Key × V)} {k : List Key} (e : H a = some (.dT kvs)) (eb : H b = some (.tup (k.map kV))) : DGet H a (.ref b) (valV kvs k) := .inr ⟨kvs, k, b, .inl e, rfl, eb, rfl⟩
theorem DPut.k {H : Hp} {a : Addr} {kvs : List (Key × V)} {k : Key} {v : V} (e : H a = some (.dK kvs)) (hl : kvs.length < sizeLine) : DPut H a (kV k) v (upd H a (.dK (putK kvs k v))) := .inl ⟨kvs, k, e, rfl, hl, rfl⟩
theorem DPut.t {H : Hp} {a b : Addr} {kvs : List (List Key × V)} {k : List Key} {v : V} (e : H a = some (.dT kvs)) (eb : H b = some (.tup (k.map kV))) (hl : kvs.length < sizeLine) :
    DPut H a (.ref b) v (upd H a (.dT (putK kvs k v))) := .inr ⟨kvs, k, b, e, rfl, eb, hl, rfl⟩
section
variable {X : Cx} {pins : List (Addr × Obj)} {σ : St} {H : Hp} {s : Shared} {a : Addr} {y v : V} {u r : Value} {o : Option V} {A : Around} {E : Value → Shared → Prop}
theorem Inv.big (I : Inv X pins σ H s) : sysModules < s.heap.objs.size := by
  have h : mainGlobals < s.heap.objs.size := (I.mod.glob.keeps I.bk).lt
  exact Nat.lt_trans (by decide) h
theorem d_getItem {Q : Value → Shared → Prop} (hu : A.units + 1 < cLine) (I : Inv X pins σ H s) (g : DGet H a y (some v)) (ry : RelV y u) (h : ∀ w' s', Inv X pins σ H s' → RelV v w' → Q w' s') :
    wpAny (model X.prog X.w) A (getItem (.ref a) u) Q E s := by
  rcases g with ⟨kvs, k, e, ey, l⟩ | ⟨kvs, k, b, e, ey, eb, l⟩
  · subst ey
    obtain ⟨z, hd, vs, rel, dd⟩ := dk_rd I.hok e
    obtain ⟨w', hw, rw'⟩ := RelO.some_of (v := v) (o := valueAt vs k) (by rw [l]; exact rel.val k)
    exact wpAny_getItem_of (kV_is ry) dd.mapOf hw (h w' _ (I.tok _) rw')
  · subst ey
    cases (show u = Value.ref b from ry)
    obtain ⟨z, hd, xs, rel, dd⟩ := dt_rd I.hok e
    obtain ⟨w', hw, rw'⟩ := RelO.some_of (v := v) (o := (atKey xs k).map (·.2)) (by rw [l]; exact rel.val k)
    obtain ⟨p, hp, hp2⟩ := Option.map_eq_some_iff.mp hw
    refine wpAny_getItem_heap (tupleKind_room_in1 hu) (key_of I.hok eb) dd hp ?_
    rw [hp2]
    exact h w' _ (I.tok _) rw'
theorem d_in {Q : Value → Shared → Prop} (hu : A.units + 1 < cLine) (I : Inv X pins σ H s) (g : DGet H a y o) (ry : RelV y u) (h : ∀ s', Inv X pins σ H s' → Q (.bool o.isSome) s') :
    wpAny (model X.prog X.w) A (compareOp .In u (.ref a)) Q E s := by
  rcases g with ⟨kvs, k, e, ey, l⟩ | ⟨kvs, k, b, e, ey, eb, l⟩
  · subst ey
    obtain ⟨z, hd, vs, rel, dd⟩ := dk_rd I.hok e
    refine wpAny_in_of (kV_is ry) hd dd.mapOf ?_
    rw [← (rel.val k).isSome_eq, ← l]
    exact h _ (I.tok _)
  · subst ey
    cases (show u = Value.ref b from ry)
    obtain ⟨z, hd, xs, rel, dd⟩ := dt_rd I.hok e
    refine wpAny_in_heap (tupleKind_room_in1 hu) (key_of I.hok eb) hd dd ?_
    have q := (rel.val k).isSome_eq
    rw [Option.isSome_map] at q
    rw [← q, ← l]
    exact h _ (I.tok _)
theorem d_notIn {Q : Value → Shared → Prop} (hu : A.units + 1 < cLine) (I : Inv X pins σ H s) (g : DGet H a y o) (ry : RelV y u) (h : ∀ s', Inv X pins σ H s' → Q (.bool (!o.isSome)) s') :
    wpAny (model X.prog X.w) A (compareOp .NotIn u (.ref a)) Q E s := by
  rcases g with ⟨kvs, k, e, ey, l⟩ | ⟨kvs, k, b, e, ey, eb, l⟩
  · subst ey
    obtain ⟨z, hd, vs, rel, dd⟩ := dk_rd I.hok e
    refine wpAny_notIn_of (kV_is ry) hd dd.mapOf ?_
    rw [← (rel.val k).isSome_eq, ← l]
    exact h _ (I.tok _)
  · subst ey
    cases (show u = Value.ref b from ry)
    obtain ⟨z, hd, xs, rel, dd⟩ := dt_rd I.hok e
    refine wpAny_notIn_heap (tupleKind_room_in1 hu) (key_of I.hok eb) hd dd ?_
    have q := (rel.val k).isSome_eq
    rw [Option.isSome_map] at q
    rw [← q, ← l]
    exact h _ (I.tok _)
theorem d_write {h' : Heap} {t' : Nat} {ob : HO} (I : Inv X pins σ H s) (mu : Mut (H a)) (hs : Heap.SameBut a s.heap h') (he : ∃ q, h'.get? a = some q) (new : ObjOk X.prog X.w (upd H a ob) h' a ob) :
    Inv X pins σ (upd H a ob) { s with heap := h', toks := t' } :=
  I.write (x := a) (e := a) mu (.inl rfl) (fun b q hb z => (hs.2 b hb).trans z) he new
theorem dk_new {P : Program} {w : World} {H' : Hp} {h' : Heap} {kvs : List (Key × V)} {vs : List (Key × Value)} (z : kvs.length ≤ sizeLine) (hd : (a == sysModules) = false) (rel : KV kvs vs) (dd : h'.DictOf (mixKind P w) a vs) :
    ObjOk P w H' h' a (.dK kvs) := ⟨z, hd, vs, rel, dd⟩
theorem d_setItem {H' : Hp} {Q : Unit → Shared → Prop} (hu : A.units + 1 < cLine) (I : Inv X pins σ H s) (g : DPut H a y v H') (ry : RelV y u) (rv : RelV v r) (h : ∀ s', Inv X pins σ H' s' → Q () s') :
    wpAny (model X.prog X.w) A (setItem (.ref a) u r) Q E s := by
  rcases g with ⟨kvs, k, e, ey, l, eH⟩ | ⟨kvs, k, b, e, ey, eb, l, eH⟩
  · subst ey eH
    obtain ⟨z, hd, vs, rel, dd⟩ := dk_of I.hok e
    have hz : vs.length ≤ sizeLine := by rw [← rel.length]; exact z
    have hl : (putK kvs k v).length ≤ sizeLine := by have := length_putK kvs k v; omega
    refine wpAny_setItem_pairs (hsz := hz) (kV_is ry) dd fun h' dd' hs => h _ ?_
    have he : ∃ q, h'.get? a = some q := let ⟨q, _, _, hq, _⟩ := dd'; ⟨q, hq⟩
    exact d_write I (by rw [e]; exact True.intro) hs he (dk_new hl hd (rel.put k rv) dd')
  · subst ey eH
    cases (show u = Value.ref b from ry)
    obtain ⟨z, hd, xs, rel, dd⟩ := dt_of I.hok e
    have hz : xs.length ≤ sizeLine := by rw [← Paired.length rel]; exact z
    have hl : (putK kvs k v).length ≤ sizeLine := by have := length_putK kvs k v; omega
    refine wpAny_setItem_heap (hsz := hz) (tupleKind_room_in1 hu) (key_of I.hok eb) dd fun h' dd' hs => h _ ?_
    obtain ⟨q, es, ep, hq, h2, h3, h4, _, h5⟩ := dd'
    refine d_write I (by rw [e]; exact True.intro) hs ⟨q, hq⟩ ⟨hl, hd, _, (rel.put k eb rv).keeps fun c ys ec => ?_, q, es, ep, hq, h2, h3, h4, h5⟩
    rw [upd_ne (ne_of ec e (fun z => nomatch z))]
    exact ec
end
section
variable {X : Cx} {pins : List (Addr × Obj)} {σ : St} {H : Hp} {s : Shared} {a : Addr} {kvs : List (Key × V)} {k : Key} {u : Value} {A : Around} {E : Value → Shared → Prop}
theorem d_pop {v : V} {more : List Value} {Q : Value → Shared → Prop} (I : Inv X pins σ H s) (e : H a = some (.dK kvs)) (ry : RelV (kV k) u) (l : valV kvs k = some v) (hm : more = [] ∨ ∃ x, more = [x])
    (h : ∀ w' s', Inv X pins σ (upd H a (.dK (dropK kvs k))) s' → RelV v w' → Q w' s') : wpAny (model X.prog X.w) A (call (.builtin "dict.pop") (.ref a :: u :: more)) Q E s := by
  obtain ⟨z, hd, vs, rel, dd⟩ := dk_of I.hok e
  obtain ⟨w', hw, rw'⟩ := RelO.some_of (v := v) (o := valueAt vs k) (by rw [← l]; exact rel.val k)
  have hp : (keyPart u).isSome = true := by
    cases k with
    | inl i => obtain ⟨t, q⟩ := (show ∃ t, u = Value.int i t from ry); subst q; rfl
    | inr x => obtain ⟨t, q⟩ := (show ∃ t, u = Value.str x t from ry); subst q; rfl
  have ha : argsOk "dict.pop" ⟨.ref a :: u :: more, []⟩ := by
    rcases hm with q | ⟨x, q⟩
    · subst q; exact PySem.F.args_dict_pop_2 _ _
    · subst q; exact PySem.F.args_dict_pop_3 _ _ _
  refine call_meetsIn PySem.F.slot_dict_pop dd.typeIs PySem.F.entry_dict_pop ha (meets_dict_pop_there (mixKind X.prog X.w) a (kV_is ry) more hm hp)
    ⟨vs, w', dd, by rw [← rel.length]; exact z, hw, fun h' dd' hs => h w' _ ?_ rw'⟩
  have he : ∃ q, h'.get? a = some q := let ⟨q, _, _, hq, _⟩ := dd'; ⟨q, hq⟩
  exact d_write I (by rw [e]; exact True.intro) hs he (dk_new (Nat.le_trans (dropK_le kvs k) z) hd (rel.drop k) dd')
theorem d_len {Q : Value → Shared → Prop} (I : Inv X pins σ H s) (e : Rd H a (.dK kvs)) (h : ∀ t s', Inv X pins σ H s' → Q (.int kvs.length t) s') : wpAny (model X.prog X.w) A (call (.builtin "len") [.ref a]) Q E s := by
  obtain ⟨z, hd, vs, rel, dd⟩ := dk_rd I.hok e
  refine call_len_dict hd dd (by rw [← rel.length]; rw [sizeLine_eq] at z; omega) ?_
  rw [← rel.length]
  exact h _ _ (I.tok _)
end
def NoSl (i : Expr) : Prop := ∀ ov iv, subscripted i false ov iv = operate [ov, iv] (getItem ov iv)
theorem subD_of {prog : Program} {w : World} {A : Around} {E : Value → Shared → Prop} {s : Shared} {env : Env} {value slice : Expr} {pos : Pos} {T id : String} {Q : Value → Shared → Prop}
    (hl : typeLookup (.type T) "__getitem__" = pure (some (.builtin id))) (hs : NoSl slice)
    (h : wpAny (model prog w) A (eval value env) (fun o s₁ => wpAny (model prog w) A (eval slice env) (fun i s₂ => s₂.TypeIs o T ∧ wpAny (model prog w) A (getItem o i) Q E s₂) E s₁) E s) :
    wpAny (model prog w) A (eval (.Subscript value slice pos) env) Q E s := by
  refine Subscript_ (wpAny_mono h (fun o s₁ h₁ => wpAny_mono h₁ (fun i s₂ h₂ => ?_) fun _ _ x => x) fun _ _ x => x)
  obtain ⟨hT, h₂⟩ := h₂
  unfold subscriptTail
  refine wpAny_bind ?_
  rw [getitemInPython_of_ne hT.not_modules]
  refine wpAny_bind (wpAny_specialOf hT hl ?_)
  have fin : wpAny (model prog w) A (subscripted slice false o i) (fun r s₃ => wpAny (model prog w) A (letTemporaryGo value o r >>= fun _ => pure r) Q E s₃) E s₂ := by
    rw [hs o i]
    exact wpAny_operating (wpAny_mono h₂ (fun r s₃ h₃ => wpAny_bind (wpAny_letTemporaryGo (wpAny_pure h₃))) fun _ _ x => x)
  first
    | exact wpAny_pure (wpAny_bind fin)
    | exact wpAny_bind (wpAny_pure (wpAny_bind fin))
    | exact wpAny_bind fin
theorem dict_typeIs {X : Cx} {pins : List (Addr × Obj)} {σ : St} {H : Hp} {s : Shared} {a : Addr} {y : V} {o : Option V} (I : Inv X pins σ H s) (g : DGet H a y o) : s.TypeIs (.ref a) "dict" := by
  rcases g with ⟨kvs, k, e, _, _⟩ | ⟨kvs, k, b, e, _, _, _⟩
  · obtain ⟨_, _, vs, _, dd⟩ := dk_rd I.hok e
    exact dd.typeIs
  · obtain ⟨_, _, xs, _, dd⟩ := dt_rd I.hok e
    exact dd.typeIs
def tDGet (td ty : TE) : TE := fun σ H Q => td σ H fun x H1 => ty σ H1 fun y H2 => ∃ a v, x = .ref a ∧ DGet H2 a y (some v) ∧ Q v H2
def tDIn (ty td : TE) : TE := fun σ H Q => ty σ H fun y H1 => td σ H1 fun x H2 => ∃ a o, x = .ref a ∧ DGet H2 a y o ∧ Q (.bl o.isSome) H2
def tDNotIn (ty td : TE) : TE := fun σ H Q => ty σ H fun y H1 => td σ H1 fun x H2 => ∃ a o, x = .ref a ∧ DGet H2 a y o ∧ Q (.bl (!o.isSome)) H2
def sDPut (td ty tv : TE) : TS := fun D σ H => tv σ H fun v H1 => td σ H1 fun x H2 => ty σ H2 fun y H3 => ∃ a H4, x = .ref a ∧ DPut H3 a y v H4 ∧ D.nx σ H4
section
variable {X : Cx} {o i e value : Expr} {pos pos' tpos : Pos} {td ty tv : TE}
theorem pe_dget (hu : X.A.units + 1 < cLine) (ho : PE X o td) (hi : PE X i ty) (hs : NoSl i) : PE X (.Subscript o i pos) (tDGet td ty) := by
  intro pins s σ H Q I h
  refine subD_of PySem.F.slot_dict_getitem.lookup hs (thn (ho pins s σ H _ I h) fun u s1 ⟨x, H1, I1, rx, q1⟩ => thn (hi pins s1 σ H1 _ I1 q1) fun iv s2 ⟨y, H2, I2, ry, a, v, ex, g, q2⟩ => ?_)
  subst ex
  obtain rfl : u = Value.ref a := rx
  exact ⟨dict_typeIs I2 g, d_getItem hu I2 g ry fun w' s3 I3 rw' => ⟨v, H2, I3, rw', q2⟩⟩
theorem pc_din (hu : X.A.units + 1 < cLine) (hi : PE X i ty) (ho : PE X o td) : PC X .In i o (tDIn ty td) := by
  intro pins s σ H Q I h
  refine thn (hi pins s σ H _ I h) fun iv s1 ⟨y, H1, I1, ry, q1⟩ => thn (ho pins s1 σ H1 _ I1 q1) fun u s2 ⟨x, H2, I2, rx, a, ov, ex, g, q2⟩ => ?_
  subst ex
  obtain rfl : u = Value.ref a := rx
  exact d_in hu I2 g ry fun s3 I3 => ⟨.bl ov.isSome, H2, I3, rfl, q2⟩
theorem pc_dnotin (hu : X.A.units + 1 < cLine) (hi : PE X i ty) (ho : PE X o td) : PC X .NotIn i o (tDNotIn ty td) := by
  intro pins s σ H Q I h
  refine thn (hi pins s σ H _ I h) fun iv s1 ⟨y, H1, I1, ry, q1⟩ => thn (ho pins s1 σ H1 _ I1 q1) fun u s2 ⟨x, H2, I2, rx, a, ov, ex, g, q2⟩ => ?_
  subst ex
  obtain rfl : u = Value.ref a := rx
  exact d_notIn hu I2 g ry fun s3 I3 => ⟨.bl (!ov.isSome), H2, I3, rfl, q2⟩
theorem ps_dput (hu : X.A.units + 1 < cLine) (ho : PE X o td) (hi : PE X i ty) (hv : PE X value tv) (hs : swapsWith value (some (.Subscript o i pos')) pos.line X.env = pure false) :
    PS X (.Assign [.Subscript o i pos'] value pos) (sDPut td ty tv) := by
  intro pins s σ H D I h
  refine wpAny_Assign_Subscript (thn (hv pins s σ H _ I h) fun r s1 ⟨v, H1, I1, rv, q1⟩ => thn (ho pins s1 σ H1 _ I1 q1) fun u s2 ⟨x, H2, I2, rx, q2⟩ => thn (hi pins s2 σ H2 _ I2 q2) fun iv s3 ⟨y, H3, I3, ry, a, H4, ex, g, q3⟩ => ?_) hs
  subst ex
  obtain rfl : u = Value.ref a := rx
  exact d_setItem hu I3 g ry rv fun s4 I4 => ⟨σ, H4, I4, q3⟩
end
theorem dk_empty {P : Program} {w : World} {H : Hp} (h : Heap) (hb : sysModules < h.objs.size) : ObjOk P w H (h.push { cls := .type "dict", data := .dict #[] }) h.objs.size (.dK []) :=
  ⟨Nat.zero_le _, beq_eq_false_iff_ne.mpr (Ne.symm (Nat.ne_of_lt hb)), [], .nil, Heap.DictOf.new h⟩
theorem dt_empty {P : Program} {w : World} {H : Hp} (h : Heap) (hb : sysModules < h.objs.size) : ObjOk P w H (h.push { cls := .type "dict", data := .dict #[] }) h.objs.size (.dT []) :=
  ⟨Nat.zero_le _, beq_eq_false_iff_ne.mpr (Ne.symm (Nat.ne_of_lt hb)), [], .nil, _, #[], 0, Heap.get?_push_size _ rfl, ⟨rfl, rfl, rfl⟩, rfl, rfl, List.nodup_nil⟩
def tDNewK : TE := fun _ H Q => ∀ p, H p = none → Q (.ref p) (upd H p (.dK []))
def tDNewT : TE := fun _ H Q => ∀ p, H p = none → Q (.ref p) (upd H p (.dT []))
section
variable {X : Cx} {pos : Pos}
theorem pe_dnewK : PE X (.Dict [] [] pos) tDNewK := fun pins s σ H Q I h =>
  wpAny_Dict_empty ⟨.ref s.heap.objs.size, _, I.laid (a := s.heap.objs.size) (o := .dK []) (t' := s.toks) (fun _ _ q => Heap.get?_push_of_some _ q) (Nat.le_refl _) (dk_empty s.heap I.big), rfl, h _ (I.hok.fresh (Nat.le_refl _))⟩
theorem pe_dnewT : PE X (.Dict [] [] pos) tDNewT := fun pins s σ H Q I h =>
  wpAny_Dict_empty ⟨.ref s.heap.objs.size, _, I.laid (a := s.heap.objs.size) (o := .dT []) (t' := s.toks) (fun _ _ q => Heap.get?_push_of_some _ q) (Nat.le_refl _) (dt_empty s.heap I.big), rfl, h _ (I.hok.fresh (Nat.le_refl _))⟩
end
structure M1 (X : Cx) (o : Expr) (m : Str) (apos : Pos) (e : Expr) (cpos : Pos) : Prop where
  base : attributeBase o m X.env (eval o X.env) = eval o X.env
  few : ((backTo cpos (starEach [e] X.env)).all (fun x => !x.1) && (backToKw cpos (keywordEach [] X.env)).all (fun x => x.1.isSome)
    && decide (([e] : List Expr).length + ([] : List Keyword).length + (if ([] : List Keyword).isEmpty then 0 else 1) < 30)) = true
  line : (apos.endLine == cpos.line) = true
  trees : backTo cpos (starEach [e] X.env) = [(false, eval e X.env)]
structure M2 (X : Cx) (o : Expr) (m : Str) (apos : Pos) (e f : Expr) (cpos : Pos) : Prop where
  base : attributeBase o m X.env (eval o X.env) = eval o X.env
  few : ((backTo cpos (starEach [e, f] X.env)).all (fun x => !x.1) && (backToKw cpos (keywordEach [] X.env)).all (fun x => x.1.isSome)
    && decide (([e, f] : List Expr).length + ([] : List Keyword).length + (if ([] : List Keyword).isEmpty then 0 else 1) < 30)) = true
  line : (apos.endLine == cpos.line) = true
  trees : backTo cpos (starEach [e, f] X.env) = [(false, eval e X.env), (false, eval f X.env)]
def IsD (H : Hp) (a : Addr) : Prop := (∃ kvs, Rd H a (.dK kvs)) ∨ ∃ kvs, Rd H a (.dT kvs)
theorem isD_at {X : Cx} {pins : List (Addr × Obj)} {σ : St} {H : Hp} {s : Shared} {a : Addr} (I : Inv X pins σ H s) (d : IsD H a) :
    s.TypeIs (.ref a) "dict" ∧ (∀ b, Value.ref a = .ref b → ∃ ob, s.heap.get? b = some ob ∧ ob.dict = none) ∧ (a == sysModules) = false := by
  rcases d with ⟨kvs, e⟩ | ⟨kvs, e⟩
  · obtain ⟨_, hd, vs, _, dd⟩ := dk_rd I.hok e
    refine ⟨dd.typeIs, fun b q => ?_, hd⟩
    cases q
    obtain ⟨ob, _, _, h1, h2, _⟩ := dd
    exact ⟨ob, h1, h2.2.1⟩
  · obtain ⟨_, hd, xs, _, dd⟩ := dt_rd I.hok e
    refine ⟨dd.typeIs, fun b q => ?_, hd⟩
    cases q
    obtain ⟨ob, _, _, h1, h2, _⟩ := dd
    exact ⟨ob, h1, h2.2.1⟩
section
variable {X : Cx} {pins : List (Addr × Obj)} {σ : St} {H : Hp} {s : Shared} {a : Addr} {y d : V} {u r : Value} {o : Option V} {A : Around} {E : Value → Shared → Prop}
theorem d_get1 {Q : Value → Shared → Prop} (hu : A.units + 1 < cLine) (I : Inv X pins σ H s) (g : DGet H a y o) (ry : RelV y u) (h : ∀ w' s', Inv X pins σ H s' → RelV (o.getD .non) w' → Q w' s') :
    wpAny (model X.prog X.w) A (call (.builtin "dict.get") [.ref a, u]) Q E s := by
  rcases g with ⟨kvs, k, e, ey, l⟩ | ⟨kvs, k, b, e, ey, eb, l⟩
  · subst ey
    obtain ⟨z, hd, vs, rel, dd⟩ := dk_rd I.hok e
    refine call_meetsIn PySem.F.slot_dict_get dd.typeIs PySem.F.entry_dict_get (PySem.F.args_dict_get_2 _ _) (meets_dict_get (mixKind X.prog X.w) a (kV_is ry) hd) ⟨_, dd.mapOf, h _ _ (I.tok _) ?_⟩
    rw [l]
    exact (rel.val k).getD rfl
  · subst ey
    cases (show u = Value.ref b from ry)
    obtain ⟨z, hd, xs, rel, dd⟩ := dt_rd I.hok e
    refine call_meetsIn PySem.F.slot_dict_get dd.typeIs PySem.F.entry_dict_get (PySem.F.args_dict_get_2 _ _) (meetsH_dict_get (tupleKind (mixKind X.prog X.w)) a b hd) ⟨tupleKind_room_in1 hu, k, xs, key_of I.hok eb, dd, h _ _ (I.tok _) ?_⟩
    rw [l]
    exact (rel.val k).getD rfl
theorem d_get2 {Q : Value → Shared → Prop} (hu : A.units + 1 < cLine) (I : Inv X pins σ H s) (g : DGet H a y o) (ry : RelV y u) (rd : RelV d r) (h : ∀ w' s', Inv X pins σ H s' → RelV (o.getD d) w' → Q w' s') :
    wpAny (model X.prog X.w) A (call (.builtin "dict.get") [.ref a, u, r]) Q E s := by
  rcases g with ⟨kvs, k, e, ey, l⟩ | ⟨kvs, k, b, e, ey, eb, l⟩
  · subst ey
    obtain ⟨z, hd, vs, rel, dd⟩ := dk_rd I.hok e
    refine call_meetsIn PySem.F.slot_dict_get dd.typeIs PySem.F.entry_dict_get (PySem.F.args_dict_get_3 _ _ _) (meets_dict_get_default (mixKind X.prog X.w) a (kV_is ry) hd r) ⟨_, dd.mapOf, h _ _ (I.tok _) ?_⟩
    rw [l]
    exact (rel.val k).getD rd
  · subst ey
    cases (show u = Value.ref b from ry)
    obtain ⟨z, hd, xs, rel, dd⟩ := dt_rd I.hok e
    refine call_meetsIn PySem.F.slot_dict_get dd.typeIs PySem.F.entry_dict_get (PySem.F.args_dict_get_3 _ _ _) (meetsH_dict_get_default (tupleKind (mixKind X.prog X.w)) a b hd r) ⟨tupleKind_room_in1 hu, k, xs, key_of I.hok eb, dd, h _ _ (I.tok _) ?_⟩
    rw [l]
    exact (rel.val k).getD rd
end
def tDGet1 (td ty : TE) : TE := fun σ H Q => td σ H fun x H1 => ∃ a, x = .ref a ∧ IsD H1 a ∧ ty σ H1 fun y H2 => ∃ o, DGet H2 a y o ∧ Q (o.getD .non) H2
def tDGet2 (td ty tx : TE) : TE := fun σ H Q => td σ H fun x H1 => ∃ a, x = .ref a ∧ IsD H1 a ∧ ty σ H1 fun y H2 => tx σ H2 fun z H3 => ∃ o, DGet H3 a y o ∧ Q (o.getD z) H3
def tDPop1 (td ty : TE) : TE := fun σ H Q => td σ H fun x H1 => ∃ a, x = .ref a ∧ IsD H1 a ∧ ty σ H1 fun y H2 => ∃ kvs k v, H2 a = some (.dK kvs) ∧ y = kV k ∧ valV kvs k = some v ∧ Q v (upd H2 a (.dK (dropK kvs k)))
section
variable {X : Cx} {o e f : Expr} {apos cpos : Pos} {td ty tx : TE}
theorem pe_dget1 (hu : X.A.units + 1 < cLine) (ho : PE X o td) (he : PE X e ty) (m : M1 X o "get" apos e cpos) : PE X (.Call (.Attribute o "get" apos) [e] [] cpos) (tDGet1 td ty) := by
  intro pins s σ H Q I h
  refine wpAny_Call_method m.base m.few m.line PySem.F.plainAttrs_dict PySem.F.slot_dict_get PySem.F.type_dict_get (thn (ho pins s σ H _ I h) fun u s1 ⟨x, H1, I1, rx, a, ex, d, q1⟩ => ?_)
  subst ex
  obtain rfl : u = Value.ref a := rx
  obtain ⟨t1, t2, _⟩ := isD_at I1 d
  refine ⟨t1, t2, ?_⟩
  rw [m.trees]
  refine Calls.callWith_builtin rfl (Calls.evalArgs_plain (Calls.spliced_cons (thn (he pins s1 σ H1 _ I1 q1) fun iv s2 ⟨y, H2, I2, ry, ov, g, q2⟩ => Calls.spliced_nil ?_)))
  exact d_get1 hu I2 g ry fun w' s3 I3 rw' => ⟨_, H2, I3, rw', q2⟩
theorem pe_dget2 (hu : X.A.units + 1 < cLine) (ho : PE X o td) (he : PE X e ty) (hf : PE X f tx) (m : M2 X o "get" apos e f cpos) : PE X (.Call (.Attribute o "get" apos) [e, f] [] cpos) (tDGet2 td ty tx) := by
  intro pins s σ H Q I h
  refine wpAny_Call_method m.base m.few m.line PySem.F.plainAttrs_dict PySem.F.slot_dict_get PySem.F.type_dict_get (thn (ho pins s σ H _ I h) fun u s1 ⟨x, H1, I1, rx, a, ex, d, q1⟩ => ?_)
  subst ex
  obtain rfl : u = Value.ref a := rx
  obtain ⟨t1, t2, _⟩ := isD_at I1 d
  refine ⟨t1, t2, ?_⟩
  rw [m.trees]
  refine Calls.callWith_builtin rfl (Calls.evalArgs_plain (Calls.spliced_cons (thn (he pins s1 σ H1 _ I1 q1) fun iv s2 ⟨y, H2, I2, ry, q2⟩ =>
    Calls.spliced_cons (thn (hf pins s2 σ H2 _ I2 q2) fun fv s3 ⟨z, H3, I3, rz, ov, g, q3⟩ => Calls.spliced_nil ?_))))
  exact d_get2 hu I3 g ry rz fun w' s4 I4 rw' => ⟨_, H3, I4, rw', q3⟩
theorem pe_dpop1 (ho : PE X o td) (he : PE X e ty) (m : M1 X o "pop" apos e cpos) : PE X (.Call (.Attribute o "pop" apos) [e] [] cpos) (tDPop1 td ty) := by
  intro pins s σ H Q I h
  refine wpAny_Call_method m.base m.few m.line PySem.F.plainAttrs_dict PySem.F.slot_dict_pop PySem.F.type_dict_pop (thn (ho pins s σ H _ I h) fun u s1 ⟨x, H1, I1, rx, a, ex, d, q1⟩ => ?_)
  subst ex
  obtain rfl : u = Value.ref a := rx
  obtain ⟨t1, t2, _⟩ := isD_at I1 d
  refine ⟨t1, t2, ?_⟩
  rw [m.trees]
  refine Calls.callWith_builtin rfl (Calls.evalArgs_plain (Calls.spliced_cons (thn (he pins s1 σ H1 _ I1 q1) fun iv s2 ⟨y, H2, I2, ry, kvs, k, v, ea, ey, l, q2⟩ => Calls.spliced_nil ?_)))
  subst ey
  exact d_pop I2 ea ry l (.inl rfl) fun w' s3 I3 rw' => ⟨v, _, I3, rw', q2⟩
end
section
variable {X : Cx} {pins : List (Addr × Obj)} {σ : St} {H : Hp} {s : Shared} {a : Addr} {kvs : List (Key × V)} {A : Around} {E : Value → Shared → Prop}
end
section
variable {X : Cx} {pins : List (Addr × Obj)} {σ : St} {H : Hp} {s : Shared} {a : Addr} {y : V} {u : Value} {A : Around} {E : Value → Shared → Prop}
end
end L2
namespace Att
open PySem PySem.W PySem.Calls PyProof.Rows
theorem ints_of_wellAll {P : Params} {h : Heap} : ∀ (ns : List Int) (vs : List Value), WellAll P h vs (ns.map WData.int) → IntsAre vs ns := by
  intro ns
  induction ns with
  | nil =>
    intro vs w
    rw [List.map_nil] at w
    cases w
    exact .nil
  | cons n ns ih =>
    intro vs w
    rw [List.map_cons] at w
    cases w with
    | cons a b =>
      cases a
      exact .cons _ _ (ih _ b)
theorem script_of {l : OpenLaw} {n : Nat} (hn : l.most = some n) {P : Params} {h : Heap} {args : List WData} {vals : List Value}
    (hpre : l.row.toRowW.claim.pre args = true) (hwl : WellAll P h vals args) :
    ∃ a vs ns, vals = [Value.ref a] ∧ args = [WData.list (ns.map WData.int)] ∧ h.get? a = some { cls := .type "list", data := .seq vs.toArray } ∧ IntsAre vs ns ∧ ns.length ≤ n := by
  have hsh : WShape.hasAll [] args [.list .int] = true := (pre_splitW hpre).1
  have hc : l.pre.holds [] { args := args } = true := (pre_splitW hpre).2
  obtain ⟨d, r, rfl, h1, h2⟩ := hasAllW_cons hsh
  obtain rfl := hasAllW_nil h2
  obtain ⟨xs, rfl, h3⟩ := hasW_list h1
  obtain ⟨ns, rfl⟩ := items_int h3
  have hlen : ns.length ≤ n := by
    unfold OpenLaw.pre at hc
    have h4 : (WTm.not (.lt (.lit (.int (n : Int))) (.len (.arg 0)))).holds [] { args := [.list (ns.map .int)] } = true := by
      have h4 := (holds_andW hc).1
      rw [hn] at h4
      exact h4
    have h5 := condW_of h4 (w_not (w_lt w_lit (w_len_list (w_arg rfl))))
    rw [List.length_map] at h5
    refine Nat.le_of_not_lt fun q => ?_
    have q' : (n : Int) < ((ns.length : Nat) : Int) := by omega
    first
      | (rw [decide_eq_true q'] at h5; exact absurd h5 (by decide))
      | (simp at h5; omega)
  cases hwl with
  | cons w1 w2 =>
    cases w2
    cases w1 with
    | list ho hall => exact ⟨_, _, ns, rfl, rfl, ho, ints_of_wellAll ns _ hall, hlen⟩
theorem post_true (l : OpenLaw) (args : List WData) : l.row.toRowW.claim.post args (.bool true) args = true :=
  postW_of (r := l.row.toRowW) (X := (true == true))
    (show WShape.has [] (.bool true) .bool = true by first | rfl | decide | simp [WShape.has, WShape.arms, WShape.armsAll])
    (show (WTm.eq .res (.lit (.bool true))).value [] { args := args, res := some (.bool true), after := args } = some (.bool (true == true)) from w_eq_bool (w_res rfl) w_lit) rfl
theorem attach_call {l : OpenLaw} {n : Nat} {q : Program} {loose : List Str} {XP : (Str → Option Value) → Heap → Prop} {YP : World → Heap → Prop} {d : DefRec}
    (hn : l.most = some n) (hdf : d.params.defaults = [])
    (call : ∀ (w : World) (s₀ s₁ : Shared) (mg mb : Str → Option Value) (fa : Addr) (o : Obj) (pm cd doc : Value) (a : Addr) (vs : List Value) (ns : List Int),
      Ground q loose [] XP w s₀ mg mb s₁.heap → YP w s₁.heap →
      s₁.heap.get? fa = some o → o.data = .func (docDef d.name d.params d.body d.scope pm cd doc) → s₁.heap.CodeRec cd d.name → mg d.name = some (.ref fa) →
      s₁.heap.get? a = some { cls := .type "list", data := .seq vs.toArray } → IntsAre vs ns → ns.length ≤ n → s₁.gens = #[] →
      codeAny (model l.prog w) callerA (.call (.ref fa) ⟨[.ref a], []⟩) (fun r s' => r = .ok (.ret (.bool true)) ∧ OldK s₁.heap s'.heap ∧ s'.os = s₁.os ∧ AllBare s'.gens) s₁) :
    WalkO q loose XP YP l.row.toRowW d [] (fun f vs => PySem.call f vs) := by
  intro w s₀ s₁ mg mb G Y fa o pm cd doc dV kV ho hd hcd hD hmg hg args vals as hpre hlay hrd hwl hlo
  obtain rfl : dV = .none := Dflts.none hD hdf
  obtain rfl : kV = .none := Dflts.noKw hD
  obtain ⟨a, vs, ns, rfl, rfl, hobj, hints, hlen⟩ := script_of hn hpre hwl
  refine enter_call (codeAny_mono (call w s₀ s₁ mg mb fa o pm cd doc a vs ns G Y ho (fd_plain hd) hcd hmg hobj hints hlen hg) fun r s' hq => ?_)
  obtain ⟨rfl, h2, h3, h4⟩ := hq
  exact ⟨.inl ⟨.bool true, .bool true, [], rfl, fun _ => rfl, .bool true, post_true l _, fun _ => ⟨List.Pairwise.nil, fun _ hm => (nomatch hm)⟩⟩, h2, h3, h4⟩
section
variable {prog : Program} {w : World} {A : Around} {E : Value → Shared → Prop} {s : Shared} {K : Frag}
def ledger (h : Heap) (L d : Addr) : List (Addr × Obj) := (List.range h.objs.size).filterMap fun a => if a = L ∨ a = d then none else (h.get? a).map fun o => (a, o)
end
end Att
namespace L2
open PySem PySem.Spec PyProof.Rows
theorem vals_ints : ∀ {vs : List Value} {ns : List Int}, IntsAre vs ns → Vals (ns.map V.int) vs
  | _, _, .nil => .nil
  | _, _, .cons n t h => .cons ⟨t, rfl⟩ (vals_ints h)
def Only (H : Hp) : Prop := ∀ b, H b = none ∨ ∃ o xs, H b = some (.frz o (.lst xs))
theorem law_call {P : Program} {w : World} {K : PySem.W.Frag} {mg mb : Str → Option Value} {CX : CXT} {k : Nat} {fa a : Addr} {fd : FuncData} {x : Str} {sp : Sp} {s₁ : Shared} {vs : List Value} {ns : List Int}
    (KX : K.In s₁.heap) (hns : s₁.heap.Ns mainGlobals mg) (hb : s₁.heap.Ns builtinsNs mb) (hbb : ∀ x : Str, x ≠ "__name__" → mb x = bootBuiltins x) (hlim : s₁.heap.NoLimit) (hg : s₁.gens = #[])
    (ha : s₁.heap.get? a = some { cls := .type "list", data := .seq vs.toArray }) (hi : IntsAre vs ns) (hl : ns.length ≤ sizeLine) (hr : Room k callerA)
    (F : ∀ base : Heap, K.In base → base.Ns mainGlobals mg → FnOk P w K mg base CX k fa fd [x] sp) (hbind : ∀ (s : Shared) (u : Value), BindsTo s fd ⟨[u], []⟩ [(x, u)])
    (hsp : ∀ H : Hp, Only H → SqL K H a (ns.map V.int) → sp [.ref a] H (fun v _ => v = .bl true) fun _ _ _ => False)
    (hCX : ∀ H e s', CX [] H s₁ (fun _ _ _ => False) e s' → False) :
    codeAny (model P w) callerA (.call (.ref fa) ⟨[.ref a], []⟩) (fun r s' => r = .ok (.ret (.bool true)) ∧ OldK s₁.heap s'.heap ∧ s'.os = s₁.os ∧ AllBare s'.gens) s₁ := by
  have rv := vals_ints hi
  have lenV := hi.length
  have core : ∀ H : Hp, Only H → SqL K H a (ns.map V.int) → HOk P w H s₁.heap → (∀ b, H b ≠ none → b = a) → (H a ≠ none → K.lookup a = none) →
      codeAny (model P w) callerA (.call (.ref fa) ⟨[.ref a], []⟩) (fun r s' => r = .ok (.ret (.bool true)) ∧ OldK s₁.heap s'.heap ∧ s'.os = s₁.os ∧ AllBare s'.gens) s₁ := by
    intro H hO hS hok hA hK
    have base_of : ∀ {b : Addr} {o : Obj}, s₁.heap.get? b = some o → H b = none → (hidT s₁.heap H).get? b = some o := fun e n => hidT_get e n
    have noA : ∀ {b : Addr} {o : Obj} {es : Array DictEntry} {ep : Nat}, s₁.heap.get? b = some o → o.data = .dict es ep → H b = none := fun {b o es ep} e d => by
      cases q : H b with
      | none => rfl
      | some u =>
        have e' : b = a := hA b (by rw [q]; simp)
        subst e'
        rw [ha] at e; cases e
        have d' : Data.seq vs.toArray _ = Data.dict es ep := d
        cases d'
    have nsK : ∀ {b : Addr} {m : Str → Option Value}, s₁.heap.Ns b m → (hidT s₁.heap H).Ns b m := fun {b m} ⟨o, es, ep, e, d, r⟩ => ⟨o, es, ep, base_of e (noA e d), d, r⟩
    have hKb : K.In (hidT s₁.heap H) := fun b o e => base_of (KX b o e) (by
      cases q : H b with
      | none => rfl
      | some u =>
        have e' : b = a := hA b (by rw [q]; simp)
        subst e'
        rw [hK (by rw [q]; simp)] at e; cases e)
    have hM : Mod K mg (hidT s₁.heap H) := ⟨hKb, nsK hns, ⟨mb, nsK hb, hbb⟩, let ⟨mc, h1, h2⟩ := hlim; ⟨mc, nsK h1, h2⟩⟩
    have e0 : Env0 P w K mg (hidT s₁.heap H) callerA [] s₁ H := ⟨rfl, hM, fun b o e => of_hidT e, Nat.le_of_eq (hidT_size _ _), trivial, fun b hb => absurd (show b ∈ ([] : List Addr) from hb) (by simp), hok, .of_eq hg⟩
    refine codeAny_mono ((F _ hKb (nsK hns)).run callerA [] s₁ H ⟨[.ref a], []⟩ [.ref a] [.ref a] _ _ hr e0 (hbind s₁ (.ref a)) (.cons rfl .nil) (hsp H hO hS)) fun r s' h => ?_
    cases r with
    | error e => exact (hCX H e s' h).elim
    | ok fl =>
      cases fl with
      | next => exact False.elim h
      | brk => exact False.elim h
      | cont => exact False.elim h
      | ret u =>
        obtain ⟨v, H', os, bare, un, hok', r', q⟩ := h
        have q' : v = .bl true := q
        subst q'
        obtain rfl : u = Value.bool true := r'
        refine ⟨rfl, OldK.of_keep fun b o e => ?_, os, bare⟩
        cases q : H b with
        | none => exact un.keep b o e q (by intro z; exact absurd (show b ∈ ([] : List Addr) from z) (by simp)) (by simp)
        | some u =>
          rcases hO b with z | ⟨ob, xs, z⟩
          · rw [q] at z; cases z
          · have z2 := un.frzs b ob _ z
            obtain ⟨e1, _⟩ := hok b _ z
            obtain ⟨e2, _⟩ := hok' b _ z2
            rw [e] at e1; cases e1
            exact e2
  cases hk : K.lookup a with
  | some o =>
    have e := KX a o hk
    rw [ha] at e
    cases e
    refine core (fun _ => none) (fun _ => .inl rfl) (.inr ⟨_, vs.toArray, _, hk, rfl, rfl, rfl, by rw [List.size_toArray, lenV]; exact hl, by simpa using rv⟩) (fun b u z => by have z' : (none : Option HO) = some u := z; cases z') (fun b z => absurd rfl z) fun z => absurd rfl z
  | none =>
    refine core (fun b => if b = a then some (.frz { cls := .type "list", data := .seq vs.toArray } (.lst (ns.map V.int))) else none) (fun b => ?_) (.inl (.inr ⟨{ cls := .type "list", data := .seq vs.toArray }, if_pos rfl⟩)) (fun b u z => ?_) (fun b z => ?_) fun _ => hk
    · by_cases hb : b = a
      · exact .inr ⟨_, _, if_pos hb⟩
      · exact .inl (if_neg hb)
    · by_cases hb : b = a
      · have z' := (if_pos hb).symm.trans z
        cases z'
        subst hb
        exact ⟨ha, by rw [List.length_map]; exact hl, vs, _, rv, ha⟩
      · have z' := (if_neg hb).symm.trans z
        cases z'
    · by_cases hb : b = a
      · exact hb
      · exact absurd (if_neg hb) z
end L2
namespace L2
open PySem PySem.Spec PyProof.Rows
theorem walk_of {l : PySem.W.OpenLaw} {n k : Nat} {q : Program} {loose : List Str} {XP : (Str → Option Value) → Heap → Prop} {YP : World → Heap → Prop} {d : DefRec} {K : Params → PySem.W.Frag} {CX : World → CXT} {sp : World → Sp} {x : Str}
    (hn : l.most = some n) (hn2 : n ≤ sizeLine) (hdf : d.params.defaults = []) (hr : Room k callerA)
    (hY : ∀ (w : World) (h : Heap), YP w h → (K w.params).In h)
    (F : ∀ (w : World) (mg : Str → Option Value) (fa : Addr) (h : Heap), (K w.params).In h → h.Ns mainGlobals mg → mg d.name = some (.ref fa) →
      ∃ fd : FuncData, (∀ (s : Shared) (u : Value), BindsTo s fd ⟨[u], []⟩ [(x, u)]) ∧
        ∀ base : Heap, (K w.params).In base → base.Ns mainGlobals mg → FnOk l.prog w (K w.params) mg base (CX w) k fa fd [x] (sp w))
    (hsp : ∀ (w : World) (H : Hp) (a : Addr) (ns : List Int), ns.length ≤ n → Only H → SqL (K w.params) H a (ns.map V.int) → sp w [.ref a] H (fun v _ => v = .bl true) fun _ _ _ => False)
    (hCX : ∀ (w : World) (H : Hp) (s : Shared) (e : Value) (s' : Shared), CX w [] H s (fun _ _ _ => False) e s' → False) :
    PySem.W.WalkO q loose XP YP l.row.toRowW d [] (fun f vs => PySem.call f vs) := by
  refine Att.attach_call hn hdf fun w s₀ s₁ mg mb fa o pm cd doc a vs ns G Y ho hd hcd hmg hobj hints hlen hg => ?_
  have KX := hY w _ Y
  obtain ⟨fd, hb, hF⟩ := F w mg fa _ KX G.T.g hmg
  exact law_call KX G.T.g G.T.b G.T.builtins G.T.nolimit hg hobj hints (Nat.le_trans hlen hn2) hr hF hb (fun H hO hS => hsp w H a ns hlen hO hS) fun H e s' => hCX w H s₁ e s'
end L2
namespace L2
open PySem PySem.Spec PyProof.Rows
def inClass (s : Stmt) (j : Nat) : Stmt := match s with
  | .ClassDef _ _ _ body _ _ _ _ _ _ _ => body.getD j (.Pass ⟨0, 0, 0, 0⟩)
  | _ => .Pass ⟨0, 0, 0, 0⟩
def defArgs (s : Stmt) : Arguments := match s with
  | .FunctionDef _ a _ _ _ _ _ _ _ _ => a
  | _ => { posonlyargs := [], args := [], vararg := none, kwonlyargs := [], kw_defaults := [], kwarg := none, defaults := [] }
def defBody (s : Stmt) : List Stmt := match s with
  | .FunctionDef _ _ b _ _ _ _ _ _ _ => b
  | _ => []
def defScope (s : Stmt) : Scope := match s with
  | .FunctionDef _ _ _ _ _ _ sc _ _ _ => sc
  | _ => { kind := .function, names := [], isGenerator := false, isCoroutine := false }
abbrev CX0 : CXT := fun _ _ _ _ _ _ => False
structure Fun (K : PySem.W.Frag) (x qual : Str) (st : Stmt) (f : Addr) (fd : FuncData) : Prop where
  ex : ∃ (oc : Value) (od : Option Addr) (kV doc pm : Value) (an : Option Addr) (cdv ct : Value) (osl : Array (Option Value)),
    fd = PySem.W.fnOf x qual (defArgs st) (defBody st) (defScope st) .none kV doc pm an cdv ct ∧ K.lookup f = some ⟨oc, od, .func fd, osl⟩ ∧ PySem.W.codeIn K cdv qual = true
  kp : PySem.W.keepIn K (.ref f) = true
section
variable {P : Program} {w : World} {K : PySem.W.Frag} {mg : Str → Option Value} {base : Heap}
theorem Fun.ok {x qual : Str} {st : Stmt} {f : Addr} {fd : FuncData} {N ps : List Str} {k : Nat} {sp : Sp} (F : Fun K x qual st f fd) (S : FnScope N ps (defScope st)) (len : ∀ vs H Q E, sp vs H Q E → vs.length = ps.length)
    (hbody : ∀ (cdv : Value) (A : Around) (outer : List Env) (s : Shared) (H : Hp) (vs : List V) (Q : VK) (E : XK), Room k (A.deeper (envOfC qual (defScope st) s.heap.objs.size f cdv)) → sp vs H Q E →
      ∃ t, PSs (cxOf CX0 P w K mg base N qual (defScope st) f cdv A outer s H E).nox (defBody st) t ∧ t { nx := fun _ H' => Q .non H', rt := Q } (start N vs) H) : FnOk P w K mg base CX0 (k + 1) f fd ps sp := by
  obtain ⟨oc, od, kV, doc, pm, an, cdv, ct, osl, rfl, lk, hcd⟩ := F.ex
  refine fn_of lk hcd S len fun A outer s H vs Q E hr hsp => ?_
  obtain ⟨t, h, q⟩ := hbody cdv A outer s H vs Q E hr hsp
  exact ⟨t, h.nox, q⟩
theorem Fun.binds {x qual : Str} {st : Stmt} {f : Addr} {fd : FuncData} {ps : List Str} (F : Fun K x qual st f fd)
    (h : ∀ (kV doc pm : Value) (an : Option Addr) (cdv ct : Value) (us : List Value), us.length = ps.length → bindArgs (PySem.W.fnOf x qual (defArgs st) (defBody st) (defScope st) .none kV doc pm an cdv ct) ⟨us, []⟩ = pure (ps.zip us)) : Binds K fd ps [] := by
  obtain ⟨oc, od, kV, doc, pm, an, cdv, ct, osl, rfl, lk, hcd⟩ := F.ex
  exact .all (h kV doc pm an cdv ct)
theorem fun_mk {x qual : Str} {st : Stmt} {f : Addr} {oc : Value} {od an : Option Addr} {osl : Array (Option Value)} {kV doc pm cdv ct : Value} (l : K.lookup f = some ⟨oc, od, .func (PySem.W.fnOf x qual (defArgs st) (defBody st) (defScope st) .none kV doc pm an cdv ct), osl⟩)
    (c : PySem.W.codeIn K cdv qual = true) (k : PySem.W.keepIn K (.ref f) = true) : Fun K x qual st f (PySem.W.fnOf x qual (defArgs st) (defBody st) (defScope st) .none kV doc pm an cdv ct) := ⟨⟨oc, od, kV, doc, pm, an, cdv, ct, osl, rfl, l, c⟩, k⟩
end
theorem hu_of {A : Around} {k : Nat} (hr : Room k A) : A.units + 1 < cLine := Nat.lt_of_le_of_lt (Nat.add_le_add_left (by decide : 1 ≤ 64) _) hr.units
section
variable {X : Cx}
theorem call_lenD : CallR X (.builtin "len") (fun xs H Q => ∃ a kvs, xs = [V.ref a] ∧ H a = some (.dK kvs) ∧ Q (.int kvs.length) H) := by
  intro pins s σ H xs us Q I r h
  obtain ⟨a, kvs, rfl, ha, q⟩ := h
  obtain ⟨u, rfl, ru⟩ := vals1 r
  cases ru
  exact d_len I (.inl ha) fun t s' I' => ⟨.int kvs.length, H, I', ⟨t, rfl⟩, q⟩
end
theorem iteF {A B : Prop} (h : B) : if false = true then A else B := by
  rw [if_neg Bool.false_ne_true]
  exact h
theorem iteT {A B : Prop} (h : A) : if true = true then A else B := by
  rw [if_pos rfl]
  exact h
theorem ite2 {c A B : Prop} [Decidable c] (h1 : c → A) (h2 : ¬ c → B) : if c then A else B := by
  by_cases h : c
  · rw [if_pos h]
    exact h1 h
  · rw [if_neg h]
    exact h2 h
def Same (H H' : Hp) : Prop := ∀ b o, H b = some o → H' b = some o
theorem Same.trans {H H1 H2 : Hp} (a : Same H H1) (b : Same H1 H2) : Same H H2 := fun c o h => b c o (a c o h)
theorem Same.free {H H' : Hp} (e : Same H H') {l : Addr} (h : H' l = Option.none) : H l = Option.none := by
  cases q : H l with
  | none => rfl
  | some o =>
    rw [e l o q] at h
    cases h
theorem Same.seq {K : PySem.W.Frag} {H H' : Hp} {a : Addr} {xs : List V} (e : Same H H') (h : SqL K H a xs) : SqL K H' a xs := by
  rcases h with (h | ⟨o, h⟩) | h
  · exact .inl (.inl (e _ _ h))
  · exact .inl (.inr ⟨o, e _ _ h⟩)
  · exact .inr h
section
variable {κ : Type} [DecidableEq κ]
end
end L2
set_option maxHeartbeats 4000000
namespace L2
open PySem PySem.Spec PyProof.Rows

structure Fly (B : Heap) (l : List Env) (h : Heap) (H H' : Hp) (h' : Heap) (ea : Addr) (cls : Value) : Prop where
  fl : ∃ a0, Heap.FlyingW B l ea cls a0 h'
  trk : ∀ b u, H' b = some u → ∃ o, B.get? b = some o
  kept : ∀ b o, h.get? b = some o → H b = none → b ∉ frs l → B.get? b = some o
  alive : ∀ b o, h.get? b = some o → b ∉ frs l → ∃ o', B.get? b = some o'
def CXe (P : Program) (w : World) : CXT := fun outer H s E e s' => ∃ ea cls H' B, e = .ref ea ∧ s'.os = s.os ∧ AllBare s'.gens ∧ Un (frs outer) [] H H' s.heap s'.heap ∧ HOk P w H' s'.heap ∧ Fly B outer s.heap H H' s'.heap ea cls ∧ E cls none H'
abbrev XKs := Value → St → Hp → Prop
def XW (X : Cx) (K : XKs) : Prop := ∀ (pins : List (Addr × Obj)) (σ : St) (H : Hp) (s s' : Shared) (ea : Addr) (cls : Value) (H' : Hp) (B : Heap), Inv X pins σ H s → s'.os = s.os → AllBare s'.gens →
  Un (frs X.stack) [] H H' s.heap s'.heap → HOk X.prog X.w H' s'.heap → Fly B X.stack s.heap H H' s'.heap ea cls → K cls σ H' → X.xe (.ref ea) s'

theorem frs_cons {env : Env} {l : List Env} {L : Addr} (h : env.frame = some L) : frs (env :: l) = L :: frs l := by
  unfold frs; rw [List.filterMap_cons, h]

theorem HOk.flown {P : Program} {w : World} {H : Hp} {B h h' : Heap} (x : HOk P w H h) (t : ∀ b u, H b = some u → ∃ o, B.get? b = some o) (s : B.StaysIn h) (s' : B.StaysIn h') : HOk P w H h' := fun a o e =>
  (x a o e).stay (fun b u hb q => by
    have hB : ∃ o, B.get? b = some o := by
      rcases hb with rfl | hb
      · exact t _ _ e
      · exact t _ _ hb
    obtain ⟨o', ho⟩ := hB
    have e1 := s b o' ho
    rw [q] at e1; cases e1
    exact s' b _ ho) (fun _ q => q) fun _ _ q => q

theorem xw_def {P : Program} {w : World} {K : PySem.W.Frag} {mg : Str → Option Value} {base : Heap} {N : List Str} {qual : Str} {scope : Scope} {f : Addr} {cd : Value} {A : Around} {outer : List Env} {s0 : Shared} {H0 : Hp} {E : XK} :
    XW (cxOf (CXe P w) P w K mg base N qual scope f cd A outer s0 H0 E) (fun c _ H' => E c none H') := by
  intro pins σ H s s' ea cls H' B I os bare un hok fly hK
  have I' := I.call' (s' := s') (ch := []) os un hok bare (fun b z => absurd z (by simp))
  have hfr := I.ok.frames
  have hstk : (cxOf (CXe P w) P w K mg base N qual scope f cd A outer s0 H0 E).stack = envOfC qual scope s0.heap.objs.size f cd :: outer := rfl
  rw [hstk] at hfr
  obtain ⟨a0, hfl⟩ := fly.fl
  have hf : (envOfC qual scope s0.heap.objs.size f cd).frame = some s0.heap.objs.size := rfl
  show wpAny _ _ (leaving (envOfC qual scope s0.heap.objs.size f cd) (.ref ea)) _ _ s'
  refine wpAny_leaves_onW hfr hf hfl fun h' fl' up => ?_
  have hfs : frs (envOfC qual scope s0.heap.objs.size f cd :: outer) = s0.heap.objs.size :: frs outer := frs_cons hf
  have nf : ∀ b o, s0.heap.get? b = some o → b ∉ frs outer → b ∉ frs (envOfC qual scope s0.heap.objs.size f cd :: outer) := fun b o e n z => by
    rw [hfs] at z
    rcases List.mem_cons.mp z with z | z
    · exact absurd (Heap.lt_size e) (by rw [z]; exact Nat.lt_irrefl _)
    · exact n z
  have stay : ∀ b o, s0.heap.get? b = some o → H0 b = none → b ∉ frs outer → B.get? b = some o := fun b o e n hb =>
    fly.kept b o (I.base.keep b o e n hb (by intro z; exact absurd z (by simp [cxOf]))) (I.base.free b o e n (by intro z; exact absurd z (by simp [cxOf]))) (nf b o e hb)
  have live : ∀ b o, s0.heap.get? b = some o → b ∉ frs outer → ∃ o', B.get? b = some o' := fun b o e hb => by
    obtain ⟨o1, e1⟩ := I.base.there b o e (by intro z; exact absurd z (by simp [cxOf]))
    exact fly.alive b o1 e1 (nf b o e hb)
  refine ⟨ea, cls, H', B, rfl, I'.os, bare, ?_, hok.flown fly.trk hfl.1 fl'.1, ⟨⟨a0, fl'⟩, fly.trk, stay, live⟩, hK⟩
  have noA : ∀ b : Addr, b ∉ (cxOf (CXe P w) P w K mg base N qual scope f cd A outer s0 H0 E).ex := fun b z => absurd z (by simp [cxOf])
  have slotOf : ∀ b, b ∈ frs outer → ∀ o, s'.heap.get? b = some o → ∃ sl, h'.get? b = some { o with slots := sl } := fun b hb o e => by
    have hm : b ∈ frs (envOfC qual scope s0.heap.objs.size f cd :: outer) := by rw [hfs]; exact List.mem_cons_of_mem _ hb
    obtain ⟨_, o', ho', hd⟩ := hfl.2.2.1.mem hm
    rw [e] at ho'; cases ho'
    exact up b o e hd
  refine ⟨fun b o e n hb _ => fl'.1 b o (stay b o e n hb), fun b o e n hb _ => ?_, fun b o e n _ => I'.base.free b o e n (noA b), fun b o e _ => ?_, I'.base.tups, I'.base.frzs, I'.base.tbls⟩
  · obtain ⟨sl, e1⟩ := I'.base.slot b o e n hb (noA b)
    obtain ⟨sl', e2⟩ := slotOf b hb _ e1
    exact ⟨sl', e2⟩
  · by_cases hb : b ∈ frs outer
    · obtain ⟨o1, e1⟩ := I'.base.there b o e (noA b)
      obtain ⟨sl, e2⟩ := slotOf b hb _ e1
      exact ⟨_, e2⟩
    · obtain ⟨o1, e1⟩ := live b o e hb
      exact ⟨o1, fl'.1 b o1 e1⟩

def Have (P : Program) (w : World) (K : PySem.W.Frag) (mg : Str → Option Value) (base : Heap) (x : Str) (k : Nat) (ps : List Str) (dvs : List V) (sp : Sp) : Prop :=
  ∃ f fd ds, mg x = some (.ref f) ∧ PySem.W.keepIn K (.ref f) = true ∧ Binds K fd ps ds ∧ Vals dvs ds ∧ FnOk P w K mg base (CXe P w) k f fd ps sp
def HaveM (P : Program) (w : World) (K : PySem.W.Frag) (mg : Str → Option Value) (base : Heap) (C : Addr) (m : Str) (k : Nat) (ps : List Str) (dvs : List V) (sp : Sp) : Prop :=
  ∃ f fd ds, Meth K C m f ∧ Binds K fd ps ds ∧ Vals dvs ds ∧ FnOk P w K mg base (CXe P w) k f fd ps sp
def HaveI (P : Program) (w : World) (K : PySem.W.Frag) (mg : Str → Option Value) (base : Heap) (x : Str) (C : Addr) (k : Nat) (ps : List Str) (dvs : List V) (sp : Sp) : Prop :=
  ∃ f fd ds, mg x = some (.ref C) ∧ Mk K C f ∧ Binds K fd ps ds ∧ Vals dvs ds ∧ FnOk P w K mg base (CXe P w) k f fd ps sp
def tCallE (Kx : XKs) (sp : Sp) (dvs : List V) (t : TA) : TE := fun σ H Q => t σ H fun vs H1 => sp (vs ++ dvs) H1 Q (fun c _ H' => Kx c σ H')
def tMethE (Kx : XKs) (C : Addr) (m : Str) (sp : Sp) (dvs : List V) (ta : TE) (t : TA) : TE := fun σ H Q => ta σ H fun x H1 => ∃ a dx fs, x = .ref a ∧ H1 a = some (.ins C dx fs) ∧ fs.lookup m = none ∧
  t σ H1 fun vs H2 => sp (x :: (vs ++ dvs)) H2 Q (fun c _ H' => Kx c σ H')
def tMakeE (Kx : XKs) (C : Addr) (sp : Sp) (dvs : List V) (t : TA) : TE := fun σ H Q => t σ H fun vs H1 => ∀ x dx, H1 x = none → H1 dx = none → dx ≠ x →
  sp (.ref x :: (vs ++ dvs)) (upd (upd H1 dx (.own x)) x (.ins C dx [])) (fun v H2 => v = .non ∧ Q (.ref x) H2) (fun c _ H' => Kx c σ H')
section
variable {X : Cx} {Kx : XKs} {k : Nat} {f C : Addr} {fd : FuncData} {ps : List Str} {sp : Sp} {dvs : List V} {ds : List Value} {x m : Str} {p pos apos : Pos} {e o : Expr} {es : List Expr} {ta : TE} {t : TA}
theorem run_fnE {pins : List (Addr × Obj)} {σ : St} {H : Hp} {s : Shared} {Q : VK} {us : List Value} {vs : List V} (F : FnOk X.prog X.w X.K X.mg X.base (CXe X.prog X.w) k f fd ps sp) (hr : Room k X.A) (hb : Binds X.K fd ps ds) (hd : Vals dvs ds) (hx : XW X Kx)
    (I : Inv X pins σ H s) (r : Vals vs us) (h : sp (vs ++ dvs) H Q (fun c _ H' => Kx c σ H')) : wpAny (model X.prog X.w) X.A (call (.ref f) us) (EP X pins σ Q) X.xe s := by
  have r2 : Vals (vs ++ dvs) (us ++ ds) := r.append hd
  have hl : (us ++ ds).length = ps.length := by rw [← r2.length]; exact F.len _ _ _ _ h
  refine wpAny_call (codeAny_mono (F.run X.A X.stack s H ⟨us, []⟩ (us ++ ds) (vs ++ dvs) Q _ hr I.env0 (hb s us I.kIn hl) r2 h) fun r s' hq => ?_)
  cases r with
  | error e =>
    obtain ⟨ea, cls, H', B, rfl, os, bare, un, hok, fly, hK⟩ := hq
    exact hx pins σ H s s' ea cls H' B I os bare un hok fly hK
  | ok fl =>
    cases fl with
    | ret u => exact I.after hq
    | next => exact False.elim hq
    | brk => exact False.elim hq
    | cont => exact False.elim hq
theorem pe_callE (F : Have X.prog X.w X.K X.mg X.base x k ps dvs sp) (hr : Room k X.A) (hx : XW X Kx) (ha : PA X (e :: es) t) (hg : Gl X x := by rfl) (hdb : (x == ("__debug__" : Str)) = false := by decide)
    (he : starEach (e :: es) X.env = (false, eval e X.env) :: starEach es X.env := by rfl) (hpl : (backTo pos (starEach es X.env)).any (·.1) = false := by rfl) :
    PE X (.Call (.Name x p) (e :: es) [] pos) (tCallE Kx sp dvs t) := by
  obtain ⟨f, fd, ds, hm, hk, hb, hd, F⟩ := F
  intro pins s σ H Q I h
  refine wpAny_Call_Name_kw (ld_glob I hg hm ?_ hdb)
  refine PySem.W.callWith_K (h₀ := X.base) I.ok.mod.kin hk (thn (ha pos pins s σ H _ I h) fun us s1 ⟨vs, H1, I1, r, q⟩ => ⟨I1.kIn, ?_⟩) he hpl
  exact run_fnE F hr hb hd hx I1 r q
theorem pe_methE {pl : Sem Bool} (ho : PE X o ta) (c : Cls X.K C) (F : HaveM X.prog X.w X.K X.mg X.base C m k ps dvs sp) (hr : Room k X.A) (hx : XW X Kx) (ha : PA X (e :: es) t)
    (hst : starEach (e :: es) X.env = (false, eval e X.env) :: starEach es X.env := by rfl) (hpl : (backTo pos (starEach es X.env)).any (·.1) = false := by rfl)
    (ht : eval (.Call (.Attribute o m apos) (e :: es) [] pos) X.env = (do
      let ov ← eval o X.env
      standAt apos.atName
      let (f, first) ← holding [ov] (getMethod ov m pl)
      callWith pos f first (backTo pos (starEach (e :: es) X.env)) (backToKw pos (keywordEach [] X.env))) := by rfl) :
    PE X (.Call (.Attribute o m apos) (e :: es) [] pos) (tMethE Kx C m sp dvs ta t) := by
  obtain ⟨f, fd, ds, hm, hb, hd, F⟩ := F
  intro pins s σ H Q I h
  refine PySem.W.methodCall_KW (pl := pl) (thn (ho pins s σ H _ I h) fun u s1 ⟨x, H1, I1, rx, a, dx, fs, ex, ea, l, q⟩ => ?_) ht
  subst ex
  obtain rfl : u = Value.ref a := rx
  refine getmeth_ok I1 ea c hm l ?_
  refine PySem.W.callWith_K (first := [.ref a]) (h₀ := X.base) I.ok.mod.kin hm.kp (thn (ha pos pins s1 σ H1 _ I1 q) fun us s2 ⟨vs, H2, I2, r, q2⟩ => ⟨I2.kIn, ?_⟩) hst hpl
  exact run_fnE (us := .ref a :: us) (vs := .ref a :: vs) F hr hb hd hx I2 (.cons rfl r) q2
theorem pe_methE0 {pl : Sem Bool} (ho : PE X o ta) (c : Cls X.K C) (F : HaveM X.prog X.w X.K X.mg X.base C m k ps dvs sp) (hr : Room k X.A) (hx : XW X Kx)
    (ht : eval (.Call (.Attribute o m apos) [] [] pos) X.env = (do
      let ov ← eval o X.env
      standAt apos.atName
      let (f, first) ← holding [ov] (getMethod ov m pl)
      callWith pos f first (backTo pos (starEach [] X.env)) (backToKw pos (keywordEach [] X.env))) := by rfl) :
    PE X (.Call (.Attribute o m apos) [] [] pos) (tMethE Kx C m sp dvs ta tNil) := by
  obtain ⟨f, fd, ds, hm, hb, hd, F⟩ := F
  intro pins s σ H Q I h
  refine PySem.W.methodCall_KW (pl := pl) (thn (ho pins s σ H _ I h) fun u s1 ⟨x, H1, I1, rx, a, dx, fs, ex, ea, l, q⟩ => ?_) ht
  subst ex
  obtain rfl : u = Value.ref a := rx
  refine getmeth_ok I1 ea c hm l ?_
  exact PySem.W.callWith_K0 (first := [.ref a]) I1.kIn hm.kp (run_fnE (us := [.ref a]) (vs := [.ref a]) F hr hb hd hx I1 (.cons rfl .nil) q)
theorem run_makeE {pins : List (Addr × Obj)} {σ : St} {H : Hp} {s : Shared} {Q : VK} {us : List Value} {vs : List V} (M : Mk X.K C f) (F : FnOk X.prog X.w X.K X.mg X.base (CXe X.prog X.w) k f fd ps sp) (hr : Room (k + 1) X.A) (hb : Binds X.K fd ps ds) (hd : Vals dvs ds)
    (hx : XW X Kx) (I : Inv X pins σ H s) (r : Vals vs us)
    (h : ∀ x dx, H x = none → H dx = none → dx ≠ x → sp (.ref x :: (vs ++ dvs)) (upd (upd H dx (.own x)) x (.ins C dx [])) (fun v H2 => v = .non ∧ Q (.ref x) H2) (fun c _ H' => Kx c σ H')) :
    wpAny (model X.prog X.w) X.A (call (.ref C) us) (EP X pins σ Q) X.xe s := by
  have hq := h (s.heap.objs.size + 1) s.heap.objs.size (I.hok.fresh (Nat.le_succ _)) (I.hok.fresh (Nat.le_refl _)) (Nat.ne_of_lt (Nat.lt_succ_self _))
  have I2 := Inv.made (C := C) I
  have r2 : Vals (V.ref (s.heap.objs.size + 1) :: (vs ++ dvs)) (Value.ref (s.heap.objs.size + 1) :: (us ++ ds)) := .cons rfl (r.append hd)
  have hl : (Value.ref (s.heap.objs.size + 1) :: us ++ ds).length = ps.length := by
    have e := r2.length
    rw [F.len _ _ _ _ hq] at e
    exact e.symm
  refine wpAny_call (make_map (f := f) I.kIn M.makes M.init (beq_iff_eq.mp M.fn) (codeAny_mono (F.run _ X.stack _ _ ⟨Value.ref (s.heap.objs.size + 1) :: us, []⟩ (Value.ref (s.heap.objs.size + 1) :: (us ++ ds)) _ _ _ (hr.make C us [])
    (I2.env0.make C us []) (hb _ (Value.ref (s.heap.objs.size + 1) :: us) I2.kIn hl) r2 hq) fun r s' hq' => ?_))
  cases r with
  | error e =>
    obtain ⟨ea, cls, H', B, rfl, os, bare, un, hok, fly, hK⟩ := hq'
    exact hx pins σ _ _ s' ea cls H' B I2 os bare un hok fly hK
  | ok fl =>
    cases fl with
    | ret u =>
      obtain ⟨v, H', I3, rv, ev, q3⟩ := I2.after hq'
      subst ev
      exact ⟨rv, ⟨V.ref (s.heap.objs.size + 1), H', I3, rfl, q3⟩⟩
    | next => exact False.elim hq'
    | brk => exact False.elim hq'
    | cont => exact False.elim hq'
theorem pe_makeE (F : HaveI X.prog X.w X.K X.mg X.base x C k ps dvs sp) (hr : Room (k + 1) X.A) (hx : XW X Kx) (ha : PA X (e :: es) t) (hg : Gl X x := by rfl) (hdb : (x == ("__debug__" : Str)) = false := by decide)
    (he : starEach (e :: es) X.env = (false, eval e X.env) :: starEach es X.env := by rfl) (hpl : (backTo pos (starEach es X.env)).any (·.1) = false := by rfl) :
    PE X (.Call (.Name x p) (e :: es) [] pos) (tMakeE Kx C sp dvs t) := by
  obtain ⟨f, fd, ds, hm, M, hb, hd, F⟩ := F
  intro pins s σ H Q I h
  refine wpAny_Call_Name_kw (ld_glob I hg hm ?_ hdb)
  refine PySem.W.callWith_K (h₀ := X.base) I.ok.mod.kin M.kp (thn (ha pos pins s σ H _ I h) fun us s1 ⟨vs, H1, I1, r, q⟩ => ⟨I1.kIn, ?_⟩) he hpl
  exact run_makeE M F hr hb hd hx I1 r q
theorem pe_bltnE {n : String} (hg : Gl X x) (hm : X.mg x = none) (hv : bootBuiltins x = some (.type n)) (hn : x ≠ "__name__" := by decide) (hd : (x == ("__debug__" : Str)) = false := by decide) : PE X (.Name x pos) (tC (.ty n)) := pe_bltn hg hm hv rfl hn hd
end
def Raw (K : PySem.W.Frag) (mg : Str → Option Value) (x qual : Str) (st : Stmt) (ps : List Str) (dvs : List V) : Prop := ∃ f fd ds, mg x = some (.ref f) ∧ Fun K x qual st f fd ∧ Binds K fd ps ds ∧ Vals dvs ds
def RawM (K : PySem.W.Frag) (C : Addr) (m qual : Str) (st : Stmt) (ps : List Str) (dvs : List V) : Prop := ∃ f fd ds, Meth K C m f ∧ Fun K m qual st f fd ∧ Binds K fd ps ds ∧ Vals dvs ds
def RawI (K : PySem.W.Frag) (mg : Str → Option Value) (x : Str) (C : Addr) (qual : Str) (st : Stmt) (ps : List Str) (dvs : List V) : Prop := ∃ f fd ds, mg x = some (.ref C) ∧ Mk K C f ∧ Fun K "__init__" qual st f fd ∧ Binds K fd ps ds ∧ Vals dvs ds
section
variable {P : Program} {w : World} {K : PySem.W.Frag} {mg : Str → Option Value} {base : Heap}
def Body (P : Program) (w : World) (K : PySem.W.Frag) (mg : Str → Option Value) (base : Heap) (qual : Str) (st : Stmt) (N : List Str) (k : Nat) (sp : Sp) : Prop :=
  ∀ (f : Addr) (cdv : Value) (A : Around) (outer : List Env) (s : Shared) (H : Hp) (vs : List V) (Q : VK) (E : XK), Room k (A.deeper (envOfC qual (defScope st) s.heap.objs.size f cdv)) → sp vs H Q E →
    ∃ t, PSs (cxOf (CXe P w) P w K mg base N qual (defScope st) f cdv A outer s H E) (defBody st) t ∧ t { nx := fun _ H' => Q .non H', rt := Q } (start N vs) H
theorem Fun.okE {x qual : Str} {st : Stmt} {f : Addr} {fd : FuncData} {N ps : List Str} {k : Nat} {sp : Sp} (F : Fun K x qual st f fd) (S : FnScope N ps (defScope st)) (len : ∀ vs H Q E, sp vs H Q E → vs.length = ps.length)
    (hbody : Body P w K mg base qual st N k sp) : FnOk P w K mg base (CXe P w) (k + 1) f fd ps sp := by
  obtain ⟨oc, od, kV, doc, pm, an, cdv, ct, osl, rfl, lk, hcd⟩ := F.ex
  exact fn_of lk hcd S len fun A outer s H vs Q E hr hsp => hbody f cdv A outer s H vs Q E hr hsp
theorem Raw.have {x qual : Str} {st : Stmt} {N ps : List Str} {dvs : List V} {k : Nat} {sp : Sp} (R : Raw K mg x qual st ps dvs) (S : FnScope N ps (defScope st)) (len : ∀ vs H Q E, sp vs H Q E → vs.length = ps.length)
    (hbody : Body P w K mg base qual st N k sp) : Have P w K mg base x (k + 1) ps dvs sp :=
  let ⟨f, fd, ds, hm, F, hb, hd⟩ := R
  ⟨f, fd, ds, hm, F.kp, hb, hd, F.okE S len hbody⟩
theorem RawM.have {C : Addr} {m qual : Str} {st : Stmt} {N ps : List Str} {dvs : List V} {k : Nat} {sp : Sp} (R : RawM K C m qual st ps dvs) (S : FnScope N ps (defScope st)) (len : ∀ vs H Q E, sp vs H Q E → vs.length = ps.length)
    (hbody : Body P w K mg base qual st N k sp) : HaveM P w K mg base C m (k + 1) ps dvs sp :=
  let ⟨f, fd, ds, hm, F, hb, hd⟩ := R
  ⟨f, fd, ds, hm, hb, hd, F.okE S len hbody⟩
theorem RawI.have {C : Addr} {x qual : Str} {st : Stmt} {N ps : List Str} {dvs : List V} {k : Nat} {sp : Sp} (R : RawI K mg x C qual st ps dvs) (S : FnScope N ps (defScope st)) (len : ∀ vs H Q E, sp vs H Q E → vs.length = ps.length)
    (hbody : Body P w K mg base qual st N k sp) : HaveI P w K mg base x C (k + 1) ps dvs sp :=
  let ⟨f, fd, ds, hm, M, F, hb, hd⟩ := R
  ⟨f, fd, ds, hm, M, hb, hd, F.okE S len hbody⟩
end
end L2
namespace L2
open PySem PySem.Spec PyProof.Rows

def XR (X : Cx) (K : XKs) : Prop := ∀ (pins : List (Addr × Obj)) (σ : St) (H : Hp) (s : Shared) (h' : Heap) (e : Addr) (cls : Value) (args : List Value), Inv X pins σ H s → Heap.MadeExcOf s.heap h' e cls args → K cls σ H → X.xe (.ref e) { s with heap := h' }

theorem HOk.alive {P : Program} {w : World} {H : Hp} {h : Heap} (x : HOk P w H h) {b : Addr} {u : HO} (e : H b = some u) : ∃ o, h.get? b = some o := by
  have q := x b u e
  cases u with
  | lst xs => obtain ⟨_, _, _, _, e⟩ := q; exact ⟨_, e⟩
  | tup xs => obtain ⟨_, _, _, ⟨o, e, _⟩⟩ := q; exact ⟨_, e⟩
  | dK kvs => obtain ⟨_, _, _, _, o, _, _, e, _⟩ := q; exact ⟨_, e⟩
  | dT kvs => obtain ⟨_, _, _, _, o, _, _, e, _⟩ := q; exact ⟨_, e⟩
  | set S n => obtain ⟨o, _, _, _, e, _⟩ := q; exact ⟨_, e⟩
  | ins C dx fs => obtain ⟨_, _, _, e, _⟩ := q; exact ⟨_, e⟩
  | own y => exact q
  | xd fs => obtain ⟨_, ⟨_, _, _, e, _⟩, _⟩ := q; exact ⟨_, e⟩
  | rng lo hi => obtain ⟨_, _, _, e⟩ := q; exact ⟨_, e⟩
  | frz ob u => obtain ⟨e, _⟩ := q; exact ⟨_, e⟩
  | tbl ps => exact ⟨_, q⟩
  | met f y => exact ⟨_, q⟩
  | ext φ => obtain ⟨_, e, _⟩ := q; exact e

theorem xr_def {P : Program} {w : World} {K : PySem.W.Frag} {mg : Str → Option Value} {base : Heap} {N : List Str} {qual : Str} {scope : Scope} {f : Addr} {cd : Value} {A : Around} {outer : List Env} {s0 : Shared} {H0 : Hp} {E : XK} :
    XR (cxOf (CXe P w) P w K mg base N qual scope f cd A outer s0 H0 E) (fun c _ H' => E c none H') := by
  intro pins σ H s h1 ea cls args I mk hK
  have hfr := I.ok.frames
  have hstk : (cxOf (CXe P w) P w K mg base N qual scope f cd A outer s0 H0 E).stack = envOfC qual scope s0.heap.objs.size f cd :: outer := rfl
  have hfun := I.stack
  have hfree := I.stkFree
  rw [hstk] at hfr hfun hfree
  have hf : (envOfC qual scope s0.heap.objs.size f cd).frame = some s0.heap.objs.size := rfl
  have hfs : frs (envOfC qual scope s0.heap.objs.size f cd :: outer) = s0.heap.objs.size :: frs outer := frs_cons hf
  have noA : ∀ b : Addr, b ∉ (cxOf (CXe P w) P w K mg base N qual scope f cd A outer s0 H0 E).ex := fun b z => absurd z (by simp [cxOf])
  have nf : ∀ b o, s0.heap.get? b = some o → b ∉ frs outer → b ∉ frs (envOfC qual scope s0.heap.objs.size f cd :: outer) := fun b o e n z => by
    rw [hfs] at z
    rcases List.mem_cons.mp z with z | z
    · exact absurd (Heap.lt_size e) (by rw [z]; exact Nat.lt_irrefl _)
    · exact n z
  show wpAny _ _ (leaving (envOfC qual scope s0.heap.objs.size f cd) (.ref ea)) _ _ _
  refine wpAny_leaves_madeW (base := PySem.W.hideAll s.heap (frs (envOfC qual scope s0.heap.objs.size f cd :: outer))) (h := s.heap) hfr hf (fun b o q => PySem.W.of_hideAll _ q)
    (PySem.W.funFrames_hide hfun fun env he b hb => List.mem_filterMap.mpr ⟨env, he, hb⟩) mk fun h' t fl' _ _ up => ?_
  have inB : ∀ b o, s.heap.get? b = some o → b ∉ frs (envOfC qual scope s0.heap.objs.size f cd :: outer) → (PySem.W.hideAll s.heap (frs (envOfC qual scope s0.heap.objs.size f cd :: outer))).get? b = some o := fun b o e n => PySem.W.hideAll_get _ e n
  have stay : ∀ b o, s0.heap.get? b = some o → H0 b = none → b ∉ frs outer → (PySem.W.hideAll s.heap (frs (envOfC qual scope s0.heap.objs.size f cd :: outer))).get? b = some o := fun b o e n hb =>
    inB b o (I.base.keep b o e n hb (noA b)) (nf b o e hb)
  have live : ∀ b o, s0.heap.get? b = some o → b ∉ frs outer → ∃ o', (PySem.W.hideAll s.heap (frs (envOfC qual scope s0.heap.objs.size f cd :: outer))).get? b = some o' := fun b o e hb => by
    obtain ⟨o1, e1⟩ := I.base.there b o e (noA b)
    exact ⟨o1, inB b o1 e1 (nf b o e hb)⟩
  have trk : ∀ b u, H b = some u → ∃ o, (PySem.W.hideAll s.heap (frs (envOfC qual scope s0.heap.objs.size f cd :: outer))).get? b = some o := fun b u e => by
    obtain ⟨o, ho⟩ := I.hok.alive e
    exact ⟨o, inB b o ho fun z => by rw [hfree b z] at e; cases e⟩
  have slotOf : ∀ b, b ∈ frs outer → ∀ o, s.heap.get? b = some o → ∃ sl, h'.get? b = some { o with slots := sl } := fun b hb o e => by
    have hm : b ∈ frs (envOfC qual scope s0.heap.objs.size f cd :: outer) := by rw [hfs]; exact List.mem_cons_of_mem _ hb
    obtain ⟨_, o', ho', hd⟩ := hfun.mem hm
    rw [e] at ho'; cases ho'
    exact up b o (mk.keeps b o e) hd
  refine ⟨ea, cls, H, _, rfl, I.os, I.bare, ?_, I.hok.flown trk (fun b o q => PySem.W.of_hideAll _ q) fl'.1, ⟨⟨_, fl'⟩, trk, stay, live⟩, hK⟩
  refine ⟨fun b o e n hb _ => fl'.1 b o (stay b o e n hb), fun b o e n hb _ => ?_, fun b o e n _ => I.base.free b o e n (noA b), fun b o e _ => ?_, I.base.tups, I.base.frzs, I.base.tbls⟩
  · obtain ⟨sl, e1⟩ := I.base.slot b o e n hb (noA b)
    obtain ⟨sl', e2⟩ := slotOf b hb _ e1
    exact ⟨sl', e2⟩
  · by_cases hb : b ∈ frs outer
    · obtain ⟨o1, e1⟩ := I.base.there b o e (noA b)
      obtain ⟨sl, e2⟩ := slotOf b hb _ e1
      exact ⟨_, e2⟩
    · obtain ⟨o1, e1⟩ := live b o e hb
      exact ⟨o1, fl'.1 b o1 e1⟩

abbrev mroVE : List Value := [.type "ValueError", .type "Exception", .type "BaseException", .type "object"]
structure XC (K : PySem.W.Frag) (mg : Str → Option Value) (x : Str) (C : Addr) : Prop where
  m : mg x = some (.ref C)
  ex : PySem.W.excIn K C mroVE "ValueError.__new__" = true
theorem exc_obj {K : PySem.W.Frag} {h : Heap} {C : Addr} {l : List Value} {id : String} (hin : K.In h) (q : PySem.W.excIn K C l id = true) :
    ∃ bm N nm qn bs hdct sn sub ab col dd k0 k1 k2 k3 k5 mN, h.get? C = some (excClassObj nm qn C N bs bm hdct sn sub ab col dd k0 k1 k2 k3 k5 id) ∧ h.Ns N mN ∧ mN "__init__" = none ∧ OwnTail h l bm := by
  unfold PySem.W.excIn at q
  split at q
  case h_2 => cases q
  case h_1 dd cd sl ho =>
    split at q
    case h_2 => cases q
    case h_1 C' bm k0 k1 k2 k3 n k5 hm hs =>
      rw [Bool.and_eq_true, Bool.and_eq_true, Bool.and_eq_true, Bool.and_eq_true, Bool.and_eq_true] at q
      obtain ⟨⟨⟨⟨⟨q1, q2⟩, q3⟩, q4⟩, q5⟩, q6⟩ := q
      have e1 := beq_iff_eq.mp q1
      have e2 := beq_iff_eq.mp q2
      have e6 := beq_iff_eq.mp q6
      subst e1 e2
      obtain ⟨nm, bs, mro, ns, qn, hd, sn, sub, ab, col, del⟩ := cd
      have e3 : del = false := by
        cases del with
        | false => rfl
        | true => cases q3
      have hm' : mro = .ref C' :: bm := hm
      subst e3 hm'
      obtain ⟨l'⟩ := sl
      have hs' : l' = [k0, k1, k2, k3, some (.builtin n), k5] := hs
      subst hs'
      exact ⟨bm, ns, nm, qn, bs, hd, sn, sub, ab, col, dd, k0, k1, k2, k3, k5, _, hin _ _ ho, .of_isNs (PySem.W.isNs_of_in hin q5), PySem.W.nsMap_none_of_in hin q5 e6, PySem.W.tail_of_in hin q4⟩
def tRaise (Kx : XKs) (C : Addr) (t : TA) : TS := fun _ σ H => t σ H fun vs H1 => vs.length ≤ sizeLine ∧ Kx (.ref C) σ H1
theorem ps_raise {X : Cx} {Kx : XKs} {C : Addr} {x : Str} {np cpos pos : Pos} {e : Expr} {es : List Expr} {t : TA} (hx : XR X Kx) (hc : X.calm = true) (c : XC X.K X.mg x C) (ha : PA X (e :: es) t) (hg : Gl X x := by rfl) (hd : (x == ("__debug__" : Str)) = false := by decide)
    (he : starEach (e :: es) X.env = (false, eval e X.env) :: starEach es X.env := by rfl) (hpl : (backTo cpos (starEach es X.env)).any (·.1) = false := by rfl) :
    PS X (.Raise (some (.Call (.Name x np) (e :: es) [] cpos)) none pos) (tRaise Kx C t) := by
  intro pins s σ H D I h
  obtain ⟨bm, N, nm, qn, bs, hdct, sn, sub, ab, col, dd, k0, k1, k2, k3, k5, mN, hC, hN, hni, T⟩ := exc_obj I.mod.kin c.ex
  refine wpAny_Raise_call_subT (C := C) (nm := nm) (q := qn) (N := N) (bs := bs) (bm := bm) (hdct := hdct) (sn := sn) (sub := sub) (ab := ab) (col := col) (dd := dd) (k0 := k0) (k1 := k1) (k2 := k2) (k3 := k3) (k5 := k5) (mN := mN) PySem.F.excBase_ValueError (T.hasType PySem.F.excBase_ValueError.hasBase) (I.ok.hd hc) (by rw [he]; show (false || (backTo cpos (starEach es X.env)).any (·.1)) = false; rw [hpl]; rfl) hni
    (ld_glob I hg c.m ⟨rfl, ?_⟩ hd)
  have q := ha cpos pins s σ H _ I h
  rw [he] at q ⊢
  refine Calls.evalArgs_plain (wpAny_mono q (fun us s2 hq => ?_) fun _ _ y => y)
  obtain ⟨vs, H1, I1, r, hl, hk⟩ := hq
  exact ⟨rfl, by rw [← r.length]; exact hl, I1.bk _ _ hC, hN.keeps I1.bk, T.keeps I1.bk, fun h' ea mk => hx pins σ H1 s2 h' ea (.ref C) us I1 mk hk⟩

end L2
namespace L2
open PySem PySem.Spec PyProof.Rows
def kdO : Option HO → String
  | some (.lst _) => "list"
  | some (.frz _ (.lst _)) => "list"
  | some (.tup _) => "tuple"
  | some (.dK _) => "dict"
  | some (.dT _) => "dict"
  | _ => ""
def kd (H : Hp) : V → String
  | .non => "NoneType"
  | .bl _ => "bool"
  | .int _ => "int"
  | .str _ => "str"
  | .ref a => kdO (H a)
  | _ => ""
def Kn (H : Hp) (x : V) : Prop := kd H x ≠ ""
def isTy (n : String) (H : Hp) (x : V) : Bool := kd H x == n || (kd H x == "bool" && n == "int")
theorem kd_ty {K : PySem.W.Frag} {H : Hp} {x : V} (h : Kn H x) : TyOf K H x (.type (kd H x)) := by
  cases x with
  | non => exact .non
  | bl b => exact .bl b
  | int i => exact .int i
  | str s => exact .str s
  | ref a =>
    have h : kdO (H a) ≠ "" := h
    show TyOf K H (.ref a) (.type (kdO (H a)))
    cases e : H a with
    | none => rw [e] at h; exact absurd rfl h
    | some o =>
      rw [e] at h
      cases o with
      | lst xs => exact .lst e
      | tup xs => exact .tup e
      | dK k => exact .dK e
      | dT k => exact .dT e
      | frz ob u =>
        cases u with
        | lst xs => exact .frz e
        | _ => exact absurd rfl h
      | _ => exact absurd rfl h
  | _ => exact absurd rfl h
theorem kdO_cases (o : Option HO) : kdO o = "" ∨ kdO o = "list" ∨ kdO o = "tuple" ∨ kdO o = "dict" := by
  unfold kdO
  split <;> simp
theorem Kn.cases {H : Hp} {x : V} (h : Kn H x) : kd H x = "NoneType" ∨ kd H x = "bool" ∨ kd H x = "int" ∨ kd H x = "str" ∨ kd H x = "list" ∨ kd H x = "tuple" ∨ kd H x = "dict" := by
  cases x with
  | ref a =>
    have h : kdO (H a) ≠ "" := h
    show kdO (H a) = _ ∨ kdO (H a) = _ ∨ kdO (H a) = _ ∨ kdO (H a) = _ ∨ kdO (H a) = _ ∨ kdO (H a) = _ ∨ kdO (H a) = _
    rcases kdO_cases (H a) with e | e | e | e
    · exact absurd e h
    · exact .inr (.inr (.inr (.inr (.inl e))))
    · exact .inr (.inr (.inr (.inr (.inr (.inl e)))))
    · exact .inr (.inr (.inr (.inr (.inr (.inr e)))))
  | non => exact .inl rfl
  | bl b => exact .inr (.inl rfl)
  | int i => exact .inr (.inr (.inl rfl))
  | str z => exact .inr (.inr (.inr (.inl rfl)))
  | _ => exact absurd rfl h
theorem kit_scal (K : PySem.W.Frag) : ∀ k ∈ ["NoneType", "bool", "int", "str", "list", "tuple", "dict"], ∀ n ∈ ["bool", "int", "str", "list", "tuple", "dict"], PySem.W.kitOne K (.type k) (.type n) = some (k == n || (k == "bool" && n == "int")) := by
  have e : ∀ k ∈ ["NoneType", "bool", "int", "str", "list", "tuple", "dict"], ∀ n ∈ ["bool", "int", "str", "list", "tuple", "dict"], (if (Value.type k == Value.type n) = true then some true else if PySem.W.kitMeta n = true then (fastBuiltinMro k).map (·.contains (.type n)) else none) = some (k == n || (k == "bool" && n == "int")) := by decide +kernel
  exact fun k hk n hn => e k hk n hn
theorem call_isi {X : Cx} : CallR X (.builtin "isinstance") (fun xs H Q => ∃ x n, xs = [x, .ty n] ∧ n ∈ ["bool", "int", "str", "list", "tuple", "dict"] ∧ Kn H x ∧ Q (.bl (isTy n H x)) H) := by
  intro pins s σ H xs us Q I r h
  obtain ⟨x, n, rfl, hn, hk, q⟩ := h
  cases r with
  | cons r1 rr =>
    cases rr with
    | cons r2 rr =>
      cases rr
      cases r2
      refine isinst_ok I r1 (kd_ty hk) (kit_scal X.K _ ?_ n hn) fun tk => ⟨.bl _, H, I.tok tk, rfl, q⟩
      rcases hk.cases with e | e | e | e | e | e | e <;> rw [e] <;> simp
theorem op_neg {X : Cx} : UnR X (unaryOp .USub) (rU fun i => .int (-i)) := by
  intro pins s σ H x v Q I rx h
  obtain ⟨i, rfl, q⟩ := h
  obtain ⟨t, rfl⟩ := rx
  exact neg_int ⟨.int _, H, I.tok _, ⟨_, rfl⟩, q⟩
end L2
namespace L2
open PySem PySem.Spec PyProof.Rows
theorem kn_int {H : Hp} {i : Int} : Kn H (.int i) ↔ True := ⟨fun _ => trivial, fun _ => (by decide : "int" ≠ "")⟩
theorem kn_bl {H : Hp} {i : Bool} : Kn H (.bl i) ↔ True := ⟨fun _ => trivial, fun _ => (by decide : "bool" ≠ "")⟩
theorem kn_str {H : Hp} {i : Str} : Kn H (.str i) ↔ True := ⟨fun _ => trivial, fun _ => (by decide : "str" ≠ "")⟩
theorem kn_lst {H : Hp} {a : Addr} {xs : List V} (h : H a = some (.lst xs)) : Kn H (.ref a) := fun z => by
  have z : kdO (H a) = "" := z
  rw [h] at z; exact absurd z (show "list" ≠ "" by decide)
theorem kn_tup {H : Hp} {a : Addr} {xs : List V} (h : H a = some (.tup xs)) : Kn H (.ref a) := fun z => by
  have z : kdO (H a) = "" := z
  rw [h] at z; exact absurd z (show "tuple" ≠ "" by decide)
theorem cxOf_K {CX : CXT} {P : Program} {w : World} {K : PySem.W.Frag} {mg : Str → Option Value} {base : Heap} {N : List Str} {qual : Str} {scope : Scope} {f : Addr} {cd : Value} {A : Around} {outer : List Env} {s : Shared} {H : Hp} {E : XK} :
    (cxOf CX P w K mg base N qual scope f cd A outer s H E).K = K := rfl
def whole : V → Bool
  | .int _ => true
  | _ => false
def within (x : V) (l h : Int) : Bool := match x with
  | .int i => decide (l ≤ i) && decide (i ≤ h)
  | _ => false
theorem within_int {i l h : Int} : within (.int i) l h = (decide (l ≤ i) && decide (i ≤ h)) := rfl
theorem isTy_whole {H : Hp} {x : V} (h : Kn H x) : (isTy "int" H x && !isTy "bool" H x) = whole x := by
  cases x with
  | ref a =>
    have h : kdO (H a) ≠ "" := h
    have e : kd H (.ref a) = kdO (H a) := rfl
    unfold isTy
    rw [e]
    rcases kdO_cases (H a) with e | e | e | e <;> rw [e] <;> first | rfl | exact absurd e h
  | _ => first | rfl | exact absurd rfl h
end L2
namespace L2
open PySem PySem.Spec PyProof.Rows
inductive Hid (t u : TS) : Type where
  | mk : Hid t u
def tCut (t u : TS) (_ : Hid t u) : TS := fun D σ H => ∃ M : St → Hp → Prop, t { D with nx := M } σ H ∧ ∀ σ' H', M σ' H' → u D σ' H'
theorem pss_cut {X : Cx} {st : Stmt} {rest : List Stmt} {t u : TS} (h1 : PS X st t) (h2 : PSs X rest u) : PSs X (st :: rest) (tCut t u .mk) := by
  intro pins s σ H D I h
  obtain ⟨M, h, hM⟩ := h
  refine wpAny_execs_cons (thn (h1 pins s σ H { D with nx := M } I h) fun f s1 q => ?_)
  cases f with
  | next =>
    obtain ⟨σ', H', I', q⟩ := q
    exact h2 pins s1 σ' H' D I' (hM σ' H' q)
  | ret v => exact q
  | brk => exact q
  | cont => exact q
def lstO : Option HO → Option (List V)
  | some (.lst xs) => some xs
  | some (.frz _ (.lst xs)) => some xs
  | _ => none
def tupO : Option HO → Option (List V)
  | some (.tup xs) => some xs
  | some (.frz _ (.tup xs)) => some xs
  | _ => none
theorem lstO_lst {xs : List V} : lstO (some (.lst xs)) = some xs := rfl
theorem tupO_tup {xs : List V} : tupO (some (.tup xs)) = some xs := rfl
theorem sq_lstO {K : PySem.W.Frag} {H : Hp} {a : Addr} {xs : List V} (h : lstO (H a) = some xs) : SqL K H a xs := by
  unfold lstO at h
  split at h
  · rename_i e; cases h; exact .inl (.inl e)
  · rename_i e; cases h; exact .inl (.inr ⟨_, e⟩)
  · cases h
def rIxH : R2 := fun x y H Q => ∃ p xs i v, x = .ref p ∧ y = .int i ∧ lstO (H p) = some xs ∧ atI xs i = some v ∧ Q v H
theorem ix_lst {X : Cx} : IxR X rIxH := by
  intro value slice pins s σ H x y v u Q I rx ry h hs
  obtain ⟨p, xs, i, w', e1, e2, e3, e4, q⟩ := h
  exact ix_list value slice pins s σ H x y v u Q I rx ry ⟨p, xs, i, w', e1, e2, sq_lstO e3, e4, q⟩ hs
theorem scal_ii {i j : Int} : scal (.int i) (.int j) = true := rfl
theorem scal_bb {i j : Bool} : scal (.bl i) (.bl j) = true := rfl
theorem scal_ss {i j : Str} : scal (.str i) (.str j) = true := rfl
theorem na10 : Int.natAbs 10 = 10 := rfl
theorem same_refl {H : Hp} : Same H H := fun _ _ h => h
theorem same_upd {H H' : Hp} {p : Addr} {o : HO} (s : Same H H') (h : H' p = none) : Same H (upd H' p o) := fun b u e => by
  have q := s b u e
  rw [upd_ne (ne_of_none q h)]
  exact q
end L2
namespace L2
open PySem PySem.Spec PyProof.Rows
end L2
namespace L2
open PySem PySem.Spec PyProof.Rows
inductive HidF (g : TG) (tb : TS) : Type where
  | mk : HidF g tb
def Loop (g : TG) (tb : TS) (_ : HidF g tb) (J : It) : TS := fun D σ H => ∃ W : Nat → Nat → St → Hp → Prop, (∃ m, W 0 m σ H) ∧ ∀ i m σ H, W i m σ H →
  (J.stop i H ∧ D.nx σ H) ∨ (J.go i H ∧ ∃ N : St → Hp → Prop, (∀ σ' H', N σ' H' → ∃ m', m' < m ∧ W (i + 1) m' σ' H') ∧ ∀ x H', J.yld i H x H' → g x σ H' fun σ2 H2 => tb { D with nx := N, ct := N, bk := D.nx } σ2 H2)
def tForE (wi : TI) (g : TG) (tb : TS) (h : HidF g tb) : TS := fun D σ H => wi σ H fun J H1 => Loop g tb h J D σ H1
theorem ps_forE {X : Cx} {tg iter : Expr} {body : List Stmt} {wi : TI} {g : TG} {tb : TS} {pos : Pos} (hp : PassesOwn (model X.prog X.w) X.A X.env X.xe) (hc : X.calm = true) (hi : PI X tg iter wi) (hg : PG X tg g) (hb : PSs X body tb)
    (hs : ∀ x, foldedSetIterable iter X.env x = pure x := by intro _; rfl) : PS X (.For tg iter body [] pos) (tForE wi g tb .mk) := ps_for hp hc hi hg hb hs
theorem loop_range {lo : Int} {n : Nat} {g : TG} {tb : TS} {h : HidF g tb} {D : Ends} {σ : St} {H : Hp} (Pv : Nat → St → Hp → Prop) (h0 : Pv 0 σ H)
    (hs : ∀ i σ H, i < n → Pv i σ H → g (.int (lo + i)) σ H fun σ2 H2 => tb { D with nx := Pv (i + 1), ct := Pv (i + 1), bk := D.nx } σ2 H2) (hd : ∀ σ H, Pv n σ H → D.nx σ H) : Loop g tb h (Itr lo n) D σ H := for_range Pv h0 hs hd
theorem loop_list {K : PySem.W.Frag} {a : Addr} {xs : List V} {g : TG} {tb : TS} {h : HidF g tb} {D : Ends} {σ : St} {H : Hp} (Pv : Nat → St → Hp → Prop) (h0 : Pv 0 σ H) (hl : ∀ i σ H, i ≤ xs.length → Pv i σ H → SqL K H a xs)
    (hs : ∀ i x σ H, xs[i]? = some x → Pv i σ H → g x σ H fun σ2 H2 => tb { D with nx := Pv (i + 1), ct := Pv (i + 1), bk := D.nx } σ2 H2) (hd : ∀ σ H, Pv xs.length σ H → D.nx σ H) : Loop g tb h (Itl K a) D σ H := for_list Pv h0 hl hs hd
def pw (n : Int) : Int := 2 ^ n.toNat
theorem pw_nat (n : Nat) : pw (n : Int) = 2 ^ n := by unfold pw; rw [Int.toNat_natCast]
theorem pw_succ (n : Nat) : pw ((n + 1 : Nat) : Int) = pw (n : Int) * 2 := by rw [pw_nat, pw_nat, Int.pow_succ]
theorem pw_pos (n : Int) : 1 ≤ pw n := by
  unfold pw
  generalize n.toNat = k
  induction k with
  | zero => decide
  | succ k ih => rw [Int.pow_succ]; omega
theorem pwN_le {n m : Nat} (h : n ≤ m) : pw (n : Int) ≤ pw (m : Int) := by
  induction m with
  | zero => have : n = 0 := by omega
            subst this; exact Int.le_refl _
  | succ k ih =>
    rcases (by omega : n ≤ k ∨ n = k + 1) with e | e
    · have := ih e; have := pw_pos k; rw [pw_succ]; omega
    · subst e; exact Int.le_refl _
theorem pw_le {n m : Int} (h : n ≤ m) (hm : 0 ≤ m) : pw n ≤ pw m := by
  have e1 : pw n = pw (n.toNat : Int) := by unfold pw; rw [Int.toNat_natCast]
  have e2 : pw m = pw (m.toNat : Int) := by unfold pw; rw [Int.toNat_natCast]
  rw [e1, e2]
  exact pwN_le (by omega)
theorem pw24 {n : Int} (h : n ≤ 24) : pw n ≤ 16777216 := pw_le (m := 24) h (by decide)
theorem pw8 {n : Int} (h : n ≤ 8) : pw n ≤ 256 := pw_le (m := 8) h (by decide)
theorem pw4 {n : Int} (h : n ≤ 4) : pw n ≤ 16 := pw_le (m := 4) h (by decide)
theorem mul_24 {x y : Int} (h1 : 2 ≤ x) (h2 : x ≤ 3) (h3 : 1 ≤ y) (h4 : y ≤ 8) : 2 ≤ x * y ∧ x * y ≤ 24 := by
  rcases (by omega : x = 2 ∨ x = 3) with e | e <;> subst e <;> omega
end L2
namespace L2
open PySem PySem.Spec PyProof.Rows
theorem lt_putF {f : Str} {v : V} {n : Nat} : ∀ {fs : List (Str × V)}, fs.length < n → (putF f v fs).length < n + 1
  | [], _ => by show 1 < n + 1; rename_i h; simp at h; omega
  | (g, x) :: r, h => by
    unfold putF
    split
    · exact Nat.lt_succ_of_lt h
    · cases n with
      | zero => exact absurd h (Nat.not_lt_zero _)
      | succ m => exact Nat.succ_lt_succ (lt_putF (Nat.lt_of_succ_lt_succ h))
end L2
namespace L2
open PySem PySem.Spec PyProof.Rows
end L2
namespace L2
open PySem PySem.Spec PyProof.Rows
end L2
namespace L2
open PySem PySem.Spec PyProof.Rows
end L2
namespace L2
open PySem PySem.Spec PyProof.Rows
theorem isTy_tup {H : Hp} {a : Addr} {xs : List V} (h : H a = some (.tup xs)) : isTy "tuple" H (.ref a) = true := by
  unfold isTy
  rw [show kd H (.ref a) = kdO (H a) from rfl, h]; rfl
theorem isTy_lst {H : Hp} {a : Addr} {xs : List V} (h : H a = some (.lst xs)) : isTy "list" H (.ref a) = true := by
  unfold isTy
  rw [show kd H (.ref a) = kdO (H a) from rfl, h]; rfl
end L2
namespace L2
open PySem PySem.Spec PyProof.Rows
section
variable {X : Cx} {pins pins2 : List (Addr × Obj)} {σ : St} {H : Hp} {s : Shared} {E' : Value → Shared → Prop}
end
end L2
namespace PySem.W
open PySem PySem.Spec PySem.Calls PyProof.Rows
open Builtin Builtin.ObjectAttr Builtin.Getset_descriptor
def ExcAt (e C : Addr) (h : Heap) : Prop := ∃ o, h.get? e = some o ∧ o.cls = .ref C
section
variable {K : Frag} {e C : Addr}
theorem ExcAt.ty {M : Model} {h : Heap} (p : ExcAt e C h) : Looks M h (typeOf (.ref e)) (.ref C) := by
  obtain ⟨o, h1, h2⟩ := p
  exact h2 ▸ (Looks.ld h1).andThen .now
variable {prog : Program} {w : World} {A : Around} {E : Value → Shared → Prop} {s : Shared}
end
end PySem.W
namespace L2
open PySem PySem.Spec PyProof.Rows
def clsV : V → Value
  | .ref a => .ref a
  | .ty n => .type n
  | _ => .none
theorem clsV_ref {a : Addr} : clsV (.ref a) = .ref a := rfl
theorem clsV_ty {n : String} : clsV (.ty n) = .type n := rfl
end L2
namespace L2
open PySem PySem.Spec PyProof.Rows
inductive Dv where
  | leaf (v : V)
  | seq (t : Bool) (ds : List Dv)
mutual
def Sees (K : PySem.W.Frag) (H : Hp) : Dv → V → Prop
  | .leaf v, x => x = v ∧ flatV v = true
  | .seq t ds, x => ∃ a xs, x = .ref a ∧ (if t = true then SqT K H a xs else SqL K H a xs) ∧ SeesL K H ds xs
def SeesL (K : PySem.W.Frag) (H : Hp) : List Dv → List V → Prop
  | [], xs => xs = []
  | d :: ds, xs => ∃ x r, xs = x :: r ∧ Sees K H d x ∧ SeesL K H ds r
end
mutual
def alike : Dv → Dv → Bool
  | .leaf _, .leaf _ => true
  | .seq t ds, .seq u es => t == u && alikeL ds es
  | _, _ => false
def alikeL : List Dv → List Dv → Bool
  | d :: ds, e :: es => alike d e && alikeL ds es
  | _, _ => true
end
mutual
def deep : Dv → Nat
  | .leaf _ => 0
  | .seq _ ds => deepL ds + 1
def deepL : List Dv → Nat
  | [] => 0
  | d :: ds => max (deep d) (deepL ds)
end
theorem SeesL.length {K : PySem.W.Frag} {H : Hp} : ∀ {ds : List Dv} {xs : List V}, SeesL K H ds xs → ds.length = xs.length
  | [], xs, h => by unfold SeesL at h; subst h; rfl
  | d :: ds, xs, h => by
    unfold SeesL at h
    obtain ⟨x, r, rfl, _, h⟩ := h
    simp [h.length]
theorem hu6 {A : Around} {k : Nat} (hr : Room k A) : A.units + 4 + 2 < cLine := by have := hr.units; omega
end L2
namespace L2
open PySem PySem.Spec PyProof.Rows
def compChk (sc : Scope) (env : Env) (x : Str) (fs : List Str) : Bool :=
  sc.kind == .function && sc.names.all (fun y => y.2 != .cell && (y.2 != .local || sc.names.lookup y.1 == some .local) && (y.2 != .free || env.kindOf y.1 == some .cell || env.kindOf y.1 == some .free)) &&
    sc.names.lookup x == some .local && fs.all (fun f => sc.names.lookup f == some .free)
structure CompSc (sc : Scope) (env : Env) (x : Str) (fs : List Str) : Prop where
  kind : sc.kind = .function
  nocell : ∀ y ∈ sc.names, y.2 ≠ .cell
  own : ∀ y ∈ sc.names, y.2 = .local → sc.names.lookup y.1 = some .local
  fr : ∀ y ∈ sc.names, y.2 = .free → env.kindOf y.1 = some .cell ∨ env.kindOf y.1 = some .free
  x : sc.names.lookup x = some .local
  fs : ∀ f ∈ fs, sc.names.lookup f = some .free
theorem CompSc.of {sc : Scope} {env : Env} {x : Str} {fs : List Str} (h : compChk sc env x fs = true) : CompSc sc env x fs := by
  unfold compChk at h
  simp only [Bool.and_eq_true, beq_iff_eq, List.all_eq_true, Bool.or_eq_true, bne_iff_ne, ne_eq] at h
  obtain ⟨⟨⟨h1, h2⟩, h3⟩, h4⟩ := h
  refine ⟨h1, fun y hy => (h2 y hy).1.1, fun y hy e => ?_, fun y hy e => ?_, h3, h4⟩
  · rcases (h2 y hy).1.2 with z | z
    · exact absurd e z
    · exact z
  · rcases (h2 y hy).2 with (z | z) | z
    · exact absurd e z
    · exact .inl z
    · exact .inr z
theorem closure_ex {env : Env} : ∀ (names : List (Str × NameKind)) (acc : List (Str × Addr)), (∀ n, (n, NameKind.free) ∈ names → ∃ c, env.cells.lookup n = some c) →
    ∃ cl, (forIn names acc fun y r => (do if (y.2 == NameKind.free) = true then do let c ← cellOf env y.1; pure (ForInStep.yield ((y.1, c) :: r)) else pure (ForInStep.yield r) : Sem (ForInStep (List (Str × Addr))))) = pure cl ∧
      (∀ n c, cl.lookup n = some c → acc.lookup n = some c ∨ env.cells.lookup n = some c) ∧ ∀ n, (∃ c, acc.lookup n = some c) ∨ (n, NameKind.free) ∈ names → ∃ c, cl.lookup n = some c
  | [], acc, _ => ⟨acc, rfl, fun _ _ e => .inl e, fun n h => h.elim id fun z => nomatch z⟩
  | (n, k) :: r, acc, h => by
    have hr : ∀ m, (m, NameKind.free) ∈ r → ∃ c, env.cells.lookup m = some c := fun m hm => h m (List.mem_cons_of_mem _ hm)
    by_cases hk : k = .free
    · subst hk
      obtain ⟨c, hc⟩ := h n List.mem_cons_self
      obtain ⟨cl, e, h1, h2⟩ := closure_ex r ((n, c) :: acc) hr
      refine ⟨cl, ?_, fun m c' hm => ?_, fun m hm => h2 m ?_⟩
      · rw [List.forIn_cons]
        simp only [beq_self_eq_true, if_true, cellOf, hc, pure_bind]
        exact e
      · rcases h1 m c' hm with z | z
        · rw [List.lookup_cons] at z
          cases q : m == n with
          | true =>
            rw [q] at z
            cases z
            rw [beq_iff_eq.mp q]
            exact .inr hc
          | false => rw [q] at z; exact .inl z
        · exact .inr z
      · rw [List.lookup_cons]
        rcases hm with ⟨c', z⟩ | hm
        · cases q : m == n with
          | true => exact .inl ⟨c, rfl⟩
          | false => exact .inl ⟨c', z⟩
        · rcases List.mem_cons.mp hm with z | z
          · cases z
            rw [beq_self_eq_true]
            exact .inl ⟨c, rfl⟩
          · exact .inr z
    · obtain ⟨cl, e, h1, h2⟩ := closure_ex r acc hr
      refine ⟨cl, ?_, h1, fun m hm => h2 m ?_⟩
      · rw [List.forIn_cons]
        have hb : (k == NameKind.free) = false := by simpa using hk
        simp only [hb, Bool.false_eq_true, if_false, pure_bind]
        exact e
      · rcases hm with z | hm
        · exact .inl z
        · rcases List.mem_cons.mp hm with z | z
          · cases z; exact absurd rfl hk
          · exact .inr z
theorem closure_of {env : Env} {sc : Scope} (h : ∀ n, (n, NameKind.free) ∈ sc.names → ∃ c, env.cells.lookup n = some c) :
    ∃ cl, closureFor sc env = pure cl ∧ (∀ n c, cl.lookup n = some c → env.cells.lookup n = some c) ∧ ∀ n, (n, NameKind.free) ∈ sc.names → ∃ c, cl.lookup n = some c := by
  obtain ⟨cl, e, h1, h2⟩ := closure_ex sc.names [] h
  refine ⟨cl, ?_, fun n c z => (h1 n c z).elim (fun q => nomatch q) id, fun n hn => h2 n (.inr hn)⟩
  unfold closureFor
  simp only [bind_pure]
  exact e
theorem relabel_kind {env : Env} : ∀ {names : List (Str × NameKind)} {x : Str} {k : NameKind}, (names.map fun (n, k) => if (k == NameKind.free && env.scope.kind == .function && env.kindOf n == some .cell) then (n, NameKind.cell) else (n, k)).lookup x = some k →
    k = .cell ∨ k = .free → names.lookup x = some .free ∨ names.lookup x = some .cell
  | [], _, _, h, _ => by simp at h
  | (n, k0) :: r, x, k, h, hk => by
    have ih := @relabel_kind env r x k
    have h : List.lookup x ((if (k0 == NameKind.free && env.scope.kind == .function && env.kindOf n == some .cell) = true then (n, NameKind.cell) else (n, k0)) :: (r.map fun (n, k) => if (k == NameKind.free && env.scope.kind == .function && env.kindOf n == some .cell) then (n, NameKind.cell) else (n, k))) = some k := h
    by_cases hc : (k0 == NameKind.free && env.scope.kind == .function && env.kindOf n == some .cell) = true
    · rw [if_pos hc] at h
      simp only [List.lookup_cons] at h ⊢
      cases hx : x == n with
      | true =>
        simp only [Bool.and_eq_true, beq_iff_eq] at hc
        rw [hc.1.1]
        exact .inl rfl
      | false => rw [hx] at h; exact ih h hk
    · rw [if_neg hc] at h
      simp only [List.lookup_cons] at h ⊢
      cases hx : x == n with
      | true =>
        rw [hx] at h
        cases h
        rcases hk with rfl | rfl
        · exact .inr rfl
        · exact .inl rfl
      | false => rw [hx] at h; exact ih h hk
theorem relabel_free {env : Env} : ∀ {names : List (Str × NameKind)} {x : Str}, names.lookup x = some .free →
    (names.map fun (n, k) => if (k == NameKind.free && env.scope.kind == .function && env.kindOf n == some .cell) then (n, NameKind.cell) else (n, k)).lookup x = some .cell ∨ (names.map fun (n, k) => if (k == NameKind.free && env.scope.kind == .function && env.kindOf n == some .cell) then (n, NameKind.cell) else (n, k)).lookup x = some .free
  | [], _, h => by simp at h
  | (n, k0) :: r, x, h => by
    have ih := @relabel_free env r x
    show List.lookup x ((if (k0 == NameKind.free && env.scope.kind == .function && env.kindOf n == some .cell) = true then (n, NameKind.cell) else (n, k0)) :: _) = _ ∨ List.lookup x ((if (k0 == NameKind.free && env.scope.kind == .function && env.kindOf n == some .cell) = true then (n, NameKind.cell) else (n, k0)) :: _) = _
    simp only [List.lookup_cons] at h
    by_cases hc : (k0 == NameKind.free && env.scope.kind == .function && env.kindOf n == some .cell) = true
    · rw [if_pos hc]
      simp only [List.lookup_cons]
      cases hx : x == n with
      | true => exact .inl rfl
      | false => rw [hx] at h; exact ih h
    · rw [if_neg hc]
      simp only [List.lookup_cons]
      cases hx : x == n with
      | true => rw [hx] at h; exact .inr h
      | false => rw [hx] at h; exact ih h
def cxComp (X : Cx) (scope : Scope) (cl : List (Str × Addr)) (C : Addr) (N : List Str) (s₀ : Shared) (H₀ : Hp) (fp : List Addr) (xe : Value → Shared → Prop) : Cx :=
  { X with N := N, s₀ := s₀, H₀ := H₀, env := compEnvC scope cl C X.env, outer := X.stack, stack := X.stack, ex := fp, fn := fun _ => false, pn := [], xe := xe }
inductive HidC (g : TG) (tt : TT) (te : TE) : Type where
  | mk : HidC g tt te
def PF (X : Cx) (ifs : List Expr) (tt : TT) : Prop :=
  ∀ (pins : List (Addr × Obj)) (s : Shared) (σ : St) (H : Hp) (Q : Bool → Hp → Prop), Inv X pins σ H s → tt σ H Q →
    wpAny (model X.prog X.w) X.A (forIn ifs true fun c r => if r = true then do let ok ← isTrue c X.env (eval c X.env); pure (ForInStep.yield ok) else pure (ForInStep.yield r)) (TP X pins σ Q) X.xe s
def tYes : TT := fun _ H Q => Q true H
theorem pf_nil {X : Cx} : PF X [] tYes := fun _ _ _ H _ I h => by
  simp only [List.forIn_nil]
  exact wpAny_pure ⟨H, I, h⟩
def Comp (g : TG) (tt : TT) (te : TE) (_ : HidC g tt te) (J : It) (σ0 : St) (D : Addr) (Q : Hp → Prop) (H : Hp) : Prop :=
  ∃ W : Nat → Nat → List V → St → Hp → Prop, (∃ m, W 0 m [] σ0 (upd H D (.lst []))) ∧ ∀ i m ys σ H, W i m ys σ H →
    (J.stop i H ∧ Q H) ∨ (J.go i H ∧ ∃ N : List V → St → Hp → Prop, (∀ ys σ H, N ys σ H → ∃ m', m' < m ∧ W (i + 1) m' ys σ H) ∧
      ∀ y H', J.yld i H y H' → g y σ H' fun σ2 H2 => tt σ2 H2 fun b H2' => if b = true then te σ2 H2' fun v H3 => H3 D = some (.lst ys) ∧ ys.length < sizeLine ∧ N (ys ++ [v]) σ2 (upd H3 D (.lst (ys ++ [v]))) else N ys σ2 H2')
def tComp (wi : TI) (ix : List Nat) (g : TG) (tt : TT) (te : TE) (h : HidC g tt te) : TE := fun σ H Q => wi σ H fun J H1 => ∀ D, H1 D = none → Comp g tt te h J (none :: ix.map fun i => (σ[i]?).join) D (fun H' => Q (.ref D) H') H1
theorem comp_list {K : PySem.W.Frag} {a : Addr} {xs : List V} {g : TG} {tt : TT} {te : TE} {h : HidC g tt te} {σ0 : St} {D : Addr} {Q : Hp → Prop} {H : Hp} (Pv : Nat → List V → St → Hp → Prop) (h0 : Pv 0 [] σ0 (upd H D (.lst []))) (hl : ∀ i ys σ H, i ≤ xs.length → Pv i ys σ H → SqL K H a xs)
    (hs : ∀ i x ys σ H, xs[i]? = some x → Pv i ys σ H → g x σ H fun σ2 H2 => tt σ2 H2 fun b H2' => if b = true then te σ2 H2' fun v H3 => H3 D = some (.lst ys) ∧ ys.length < sizeLine ∧ Pv (i + 1) (ys ++ [v]) σ2 (upd H3 D (.lst (ys ++ [v]))) else Pv (i + 1) ys σ2 H2') (hd : ∀ ys σ H, Pv xs.length ys σ H → Q H) :
    Comp g tt te h (Itl K a) σ0 D Q H := by
  refine ⟨fun i m ys σ H => i + m = xs.length ∧ Pv i ys σ H, ⟨xs.length, Nat.zero_add _, h0⟩, fun i m ys σ H ⟨e, p⟩ => ?_⟩
  have hq := hl i ys σ H (by omega) p
  by_cases hi : i < xs.length
  · have ex : xs[i]? = some xs[i] := List.getElem?_eq_getElem hi
    refine .inr ⟨⟨xs, _, hq, ex⟩, Pv (i + 1), fun ys σ H q => ⟨m - 1, by omega, by omega, q⟩, ?_⟩
    rintro y H' ⟨rfl, hy⟩
    exact hs i y ys σ H' (hy xs hq) p
  · have e' : i = xs.length := by omega
    subst e'
    exact .inl ⟨⟨xs, hq, Nat.le_refl _⟩, hd ys σ H p⟩
theorem compLoop_turn {prog : Program} {w : World} {A : Around} {R : Result → Shared → Prop} {s : Shared} {elt target iter : Expr} {ifs : List Expr} {scope : Scope} {pos : Pos} {it acc : Value} {env : Env} (I : Nat → Shared → Prop)
    (turn : ∀ n s, I n s → wpAny (model prog w) A (pyNext it) (fun r s₁ => match r with
      | none => R (.ok .next) s₁
      | some v => wpAny (model prog w) A (letOwnedTupleGo target it v) (fun _ s₁' => wpAny (model prog w) A (assign target env v) (fun _ s₂ =>
          wpAny (model prog w) A (forIn ifs true fun c r => if r = true then do let ok ← isTrue c env (eval c env); pure (ForInStep.yield ok) else pure (ForInStep.yield r)) (fun ok s₃ =>
            if ok = true then wpAny (model prog w) A (eval elt env) (fun x s₄ =>
              wpAny (model prog w) A (call (.builtin "list.append") [acc, x]) (fun _ s₅ => ∃ m, m < n ∧ I m s₅) (notedBy (model prog w) A env fun e s' => R (.error e) s') s₄) (notedBy (model prog w) A env fun e s' => R (.error e) s') s₃
            else ∃ m, m < n ∧ I m s₃) (notedBy (model prog w) A env fun e s' => R (.error e) s') s₂) (notedBy (model prog w) A env fun e s' => R (.error e) s') s₁') (notedBy (model prog w) A env fun e s' => R (.error e) s') s₁) (notedBy (model prog w) A env fun e s' => R (.error e) s') s)
    (n : Nat) (h : I n s) : codeAny (model prog w) A (.compLoop (.ListComp elt [⟨target, iter, ifs, 0⟩] scope pos) 0 it acc env) R s := by
  refine codeAny_loop rfl I (fun n s hI => ?_) n h
  show wpAny _ _ ((compTurn (.ListComp elt [⟨target, iter, ifs, 0⟩] scope pos) 0 it acc env).onRaise (fun x => do noteFrame x env; theTreesLotGoes x)) _ _ s
  refine wpAny_noted ?_
  rw [compTurn_list]
  refine wpAny_bind (wpAny_standAt (wpAny_bind (wpAny_mono (turn n s hI) (fun r s₁ h₁ => ?_) fun _ _ h' => h')))
  cases r with
  | none => exact wpAny_pure h₁
  | some v =>
    refine wpAny_bind (wpAny_mono h₁ (fun _ s₁' h₁' => ?_) fun _ _ h' => h')
    refine wpAny_bind (wpAny_mono h₁' (fun _ s₂ h₂ => wpAny_bind (wpAny_mono h₂ (fun ok s₃ h₃ => ?_) fun _ _ h' => h')) fun _ _ h' => h')
    cases ok with
    | false => exact wpAny_pure ⟨rfl, h₃⟩
    | true =>
      exact wpAny_bind (wpAny_bind (wpAny_mono h₃ (fun x s₄ h₄ => wpAny_bind (wpAny_mono h₄ (fun _ s₅ h₅ => wpAny_pure (wpAny_pure ⟨rfl, h₅⟩)) fun _ _ h' => h')) fun _ _ h' => h'))
section
variable {X : Cx}
theorem comp_block {pins : List (Addr × Obj)} {σ : St} {H2 : Hp} {s2 : Shared} {it : Addr} {fp : List Addr} {tn : Nat → Heap → Prop} {J : It} {tg iter elt : Expr} {ifs : List Expr} {scope : Scope} {cl : List (Str × Addr)} {pos : Pos} {x : Str} {fs : List Str} {ix : List Nat} {g : TG} {tt : TT} {te : TE}
    {Qf : Addr → Hp → Prop} {E : Value → Shared → Prop} {RR : Value → Addr → Result → Shared → Prop}
    (I2 : Inv X pins σ H2 s2) (T : Turn X.prog X.w X.K tg J fp it tn) (st2 : tn 0 s2.heap) (f2 : ∀ b ∈ fp, FpOk X pins H2 b) (hc : X.calm = true) (S : CompSc scope X.env x fs)
    (c1 : ∀ n c, cl.lookup n = some c → X.env.cells.lookup n = some c) (c2 : ∀ n, (n, NameKind.free) ∈ scope.names → ∃ c, cl.lookup n = some c) (hix : ix.map (X.N[·]?) = fs.map some)
    (hg : ∀ C s₀ H₀ xe, PG (cxComp X scope cl C (x :: fs) s₀ H₀ fp xe) tg g) (hf : ∀ C s₀ H₀ xe, PF (cxComp X scope cl C (x :: fs) s₀ H₀ fp xe) ifs tt) (he : ∀ C s₀ H₀ xe, PE (cxComp X scope cl C (x :: fs) s₀ H₀ fp xe) elt te)
    (h : ∀ D, H2 D = none → Comp g tt te .mk J (none :: ix.map fun i => (σ[i]?).join) D (Qf D) H2)
    (fin : ∀ D C H' s', Inv X pins σ H' s' → Qf D H' → (∃ m, s'.heap.Ns C m) → FpOk X pins H' C → RR (.ref D) C (.ok .next) s') :
    wpAny (model X.prog X.w) X.A (newList []) (fun acc s₃ => wpAny (model X.prog X.w) X.A (newFunctionEnv scope X.env.globals cl [] X.env.qual none .none (some X.env)) (fun cenv s₄ =>
      codeAny (model X.prog X.w) X.A (.compStart (.ListComp elt [⟨tg, iter, ifs, 0⟩] scope pos) 0 (.ref it) acc { cenv with scope := relabel scope X.env }) (RR acc cenv.locals) s₄) E s₃) E s2 := by
  have hD : H2 s2.heap.objs.size = none := I2.hok.fresh (Nat.le_refl _)
  obtain ⟨W, ⟨m0, w0⟩, turn⟩ := h _ hD
  refine wpAny_newObj_type (wpAny_newFunctionEnv S.nocell (by intro y hy; simp at hy) (fun h₁ hns₁ hsb₁ => ?_) S.kind)
  have I3 : Inv X pins σ (upd H2 s2.heap.objs.size (.lst [])) { s2 with heap := s2.heap.push { cls := .type "list", dict := none, data := .seq ([] : List Value).toArray } } :=
    I2.laid (t' := s2.toks) (fun b u e => Heap.get?_push_of_some _ e) (Nat.le_refl _) ⟨by decide, [], 0, .nil, Heap.get?_push_size _ rfl⟩
  obtain ⟨e3, he3⟩ : ∃ s3 : Shared, s3 = { s2 with heap := s2.heap.push { cls := .type "list", dict := none, data := .seq ([] : List Value).toArray } } := ⟨_, rfl⟩
  rw [← he3] at I3
  have hh3 : s2.heap.push { cls := .type "list", dict := none, data := .seq ([] : List Value).toArray } = e3.heap := by rw [he3]
  have sz3 : e3.heap.objs.size = s2.heap.objs.size + 1 := by rw [← hh3, Heap.size_push]
  dsimp only at hns₁ hsb₁ ⊢
  rw [hh3] at hns₁ hsb₁ ⊢
  generalize hH3 : upd H2 s2.heap.objs.size (.lst []) = H3 at *
  have live : ∀ b ∈ fp, b < s2.heap.objs.size := fun b hb => let ⟨_, e, _⟩ := T.obj _ _ st2 b hb; Heap.lt_size e
  have f3 : ∀ b ∈ fp, FpOk X pins H3 b := fun b hb => by
    refine ⟨?_, (f2 b hb).2⟩
    rw [← hH3, upd_ne (Nat.ne_of_lt (live b hb))]
    exact (f2 b hb).1
  have C0 : FpOk X pins H3 e3.heap.objs.size := I3.fpOk (Nat.le_refl _) (I3.hok.fresh (Nat.le_refl _))
  have old3 : ∀ b o, e3.heap.get? b = some o → h₁.get? b = some o := fun b o e => hsb₁.extBut b o (Nat.ne_of_lt (Heap.lt_size e)) (Heap.get?_push_of_some _ e)
  have nofs : ∀ b ∈ fp, b ∉ frs X.stack := fun b hb z => (List.mem_cons.mp (I3.stkSub b z)).elim (f3 b hb).2.1 (f3 b hb).2.2.1
  have hst1 : tn 0 h₁ := T.keep _ _ _ st2 fun b _ o e => old3 b o (by rw [← hh3]; exact Heap.get?_push_of_some _ e)
  have e0 := I3.env0
  have ok : ∀ xe, (cxComp X scope cl e3.heap.objs.size (x :: fs) e3 H3 fp xe).Ok := fun xe => by
    refine ⟨I3.ok.mod, S.kind, I3.ok.glob, I3.ok.blt, Nat.le_refl _, fun y z c h1 h2 => I3.ok.inj y z c (c1 _ _ h1) (c1 _ _ h2), fun y hy => ?_, fun y c z => ?_, I3.ok.hd, I3.ok.frames, .inl rfl, fun b hb => ⟨?_, fun y c e => (f3 b hb).2.2.2.2.1 y c (c1 _ _ e)⟩, e0.bs, e0.bsz, fun b o e hb => ?_, nofs, e0.funs, e0.frf⟩
    · have q : scope.names.lookup y = some .free ∨ scope.names.lookup y = some .cell := by
        rcases hy with hy | hy
        · exact relabel_kind hy (.inl rfl)
        · exact relabel_kind hy (.inr rfl)
      rcases q with q | q
      · exact c2 y (PySem.mem_of_lookup q)
      · exact absurd rfl (S.nocell _ (PySem.mem_of_lookup q))
    · cases z
    · exact Nat.ne_of_lt (Nat.lt_of_lt_of_le (live b hb) (by rw [sz3]; exact Nat.le_succ _))
    · rcases (f3 b hb).2.2.2.1 with z | z
      · exact I3.ok.noex b o e z
      · exact absurd (Nat.lt_of_lt_of_le (Heap.lt_size e) (Nat.le_trans I3.ok.bsz z)) (Nat.lt_irrefl _)
  have cellUp : ∀ c v, e3.heap.IsCell c v → h₁.IsCell c v := fun c v ⟨o, ho, hd⟩ => ⟨o, old3 _ _ ho, hd⟩
  have J0 : ∀ xe, Inv (cxComp X scope cl e3.heap.objs.size (x :: fs) e3 H3 fp xe) [] (none :: ix.map fun i => (σ[i]?).join) H3 { e3 with heap := h₁, toks := e3.toks + ([] : List (Str × Value)).length } := fun xe => by
    have hk : ∀ b o, e3.heap.get? b = some o → h₁.get? b = some o := old3
    refine ⟨ok xe, rfl, I3.bare, Un.kept hk, ⟨_, hns₁, fun i y v h1 h2 h3 => ?_⟩, fun y c e => ?_, I3.hok.fresh (Nat.le_refl _), fun y c e => I3.freeC y c (c1 _ _ e), fun p hp => absurd (show p ∈ ([] : List (Addr × Obj)) from hp) (by simp), I3.hok.kept hk, ?_⟩
    · cases i with
      | zero => cases h2
      | succ i =>
        have h1 : fs[i]? = some y := h1
        have h2 : (ix.map fun i => (σ[i]?).join)[i]? = some (some v) := h2
        have hy := S.fs y (List.mem_of_getElem? h1)
        rw [List.getElem?_map] at h2
        cases ej : ix[i]? with
        | none => rw [ej] at h2; cases h2
        | some j =>
          rw [ej] at h2
          have h2 : (σ[j]?).join = some v := Option.some.inj h2
          have hσ : σ[j]? = some (some v) := by
            cases q : σ[j]? with
            | none => rw [q] at h2; cases h2
            | some o => rw [q] at h2; cases o with
              | none => cases h2
              | some o => cases h2; rfl
          have hN : X.N[j]? = some y := by
            have z := congrArg (·[i]?) hix
            simp only [List.getElem?_map, ej, h1, Option.map_some] at z
            exact Option.some.inj z
          have kf := S.fr _ (PySem.mem_of_lookup hy) rfl
          obtain ⟨m, hn, hl⟩ := I3.loc
          obtain ⟨u, r, l⟩ := hl j y v hN hσ (by rcases kf with k | k; exact .inr (.inl k); exact .inr (.inr k))
          refine ⟨u, r, .inr ⟨relabel_free hy, ?_⟩⟩
          rcases l with ⟨l, _⟩ | ⟨_, c, e, z⟩
          · rcases kf with k | k <;> (rw [l] at k; cases k)
          · obtain ⟨c', e'⟩ := c2 y (PySem.mem_of_lookup hy)
            have q := c1 _ _ e'
            rw [e] at q; cases q
            exact ⟨c, e', cellUp _ _ z⟩
    · obtain ⟨v, z⟩ := I3.cell y c (c1 _ _ e)
      exact ⟨v, cellUp _ _ z⟩
    · have z := congrArg List.length hix
      simp only [List.length_map] at z
      show (none :: _ : St).length = (x :: fs).length
      simp only [List.length_cons, List.length_map, z]
  have back : ∀ {xe σ' H' s'}, Inv (cxComp X scope cl e3.heap.objs.size (x :: fs) e3 H3 fp xe) [] σ' H' s' → Inv X pins σ H' s' := fun {xe σ' H' s'} J =>
    I3.call' (s' := s') (ch := fp) J.os J.base J.hok J.bare fun b hb => ⟨(f3 b hb).2.2.2.1, (f3 b hb).2.1, (f3 b hb).2.2.2.2.1, (f3 b hb).2.2.2.2.2⟩
  have stat : ∀ {xe} {H' : Hp}, (∀ b ∈ fp, H' b = none) → ∀ b ∈ fp, FpOk (cxComp X scope cl e3.heap.objs.size (x :: fs) e3 H3 fp xe) [] H' b := fun {xe H'} hn b hb =>
    ⟨hn b hb, Nat.ne_of_lt (Nat.lt_of_lt_of_le (live b hb) (by rw [sz3]; exact Nat.le_succ _)), nofs b hb, .inl hb, fun y c e => (f3 b hb).2.2.2.2.1 y c (c1 _ _ e), fun p hp => absurd (show p ∈ ([] : List (Addr × Obj)) from hp) (by simp)⟩
  have loop : ∀ s4 : Shared, s4 = { e3 with heap := h₁, toks := e3.toks + ([] : List (Str × Value)).length } →
      codeAny (model X.prog X.w) X.A (.compLoop (.ListComp elt [⟨tg, iter, ifs, 0⟩] scope pos) 0 (.ref it) (.ref s2.heap.objs.size) (compEnvC scope cl e3.heap.objs.size X.env)) (RR (.ref s2.heap.objs.size) e3.heap.objs.size) s4 := by
    rintro s4 rfl
    let xe := notedBy (model X.prog X.w) X.A (compEnvC scope cl e3.heap.objs.size X.env) fun e s' => RR (.ref s2.heap.objs.size) e3.heap.objs.size (.error e) s'
    refine compLoop_turn (fun n s' => ∃ i ys σ' H', Inv (cxComp X scope cl e3.heap.objs.size (x :: fs) e3 H3 fp xe) [] σ' H' s' ∧ tn i s'.heap ∧ (∀ b ∈ fp, H' b = none) ∧ W i n ys σ' H') ?_ m0 ⟨0, [], _, _, J0 xe, hst1, fun b hb => (f3 b hb).1, w0⟩
    rintro n s5 ⟨i, ys, σ5, H5, J5, st5, fr5, w5⟩
    rcases turn i n ys σ5 H5 w5 with ⟨stop, qn⟩ | ⟨go, N, hN, step⟩
    · refine thn (T.done (cxComp X scope cl e3.heap.objs.size (x :: fs) e3 H3 fp xe) rfl rfl rfl hc i [] s5 σ5 H5 xe J5 (stat fr5) st5 stop) fun r s6 ⟨hr, J6⟩ => ?_
      subst hr
      obtain ⟨m, hn, _⟩ := J6.loc
      exact fin _ _ H5 s6 (back J6) qn ⟨m, hn⟩ ⟨J6.free, C0.2⟩
    · refine thn (T.item (cxComp X scope cl e3.heap.objs.size (x :: fs) e3 H3 fp xe) rfl rfl rfl hc i [] s5 σ5 H5 xe J5 (stat fr5) st5 go) fun r s6 ⟨u, hr, h6⟩ => ?_
      subst hr
      refine thn h6 fun _ s7 ⟨y, H7, J7, r7, y7, st7, fr7⟩ => ?_
      have J7' := J7.pinned (stat fr7) (T.obj _ _ st7)
      refine thn (hg _ _ _ xe _ s7 σ5 H7 y u _ J7' r7 (step y H7 y7)) fun _ s8 ⟨σ8, H8, J8, q8⟩ => ?_
      refine thn (hf _ _ _ xe _ s8 σ8 H8 _ J8 q8) fun ok s8' ⟨H8', J8', q8'⟩ => ?_
      cases ok with
      | false =>
        obtain ⟨m', hm', w9⟩ := hN _ _ _ (by simpa using q8')
        refine ⟨m', hm', i + 1, ys, σ8, _, J8'.unpinned, T.keep _ _ _ st7 fun b hb o e => (J8'.pin (b, o) (List.mem_append_right _ (List.mem_append_right _ (mem_pinsAt hb e)))).1, fun b hb => ?_, w9⟩
        obtain ⟨o, e, d⟩ := T.obj _ _ st7 b hb
        exact (J8'.pin (b, o) (List.mem_append_right _ (List.mem_append_right _ (mem_pinsAt hb e)))).2.1
      | true =>
      rw [if_pos rfl] at q8' ⊢
      refine thn (he _ _ _ xe _ s8' σ8 H8' _ J8' q8') fun uv s9 ⟨v, H9, J9, r9, hD9, hl9, n9⟩ => ?_
      obtain ⟨m', hm', w9⟩ := hN _ _ _ n9
      refine thn (mt_append (X := cxComp X scope cl e3.heap.objs.size (x :: fs) e3 H3 fp xe) _ s9 σ8 H9 (.ref s2.heap.objs.size) [v] _ [uv] (fun _ H' => H' = upd H9 s2.heap.objs.size (.lst (ys ++ [v]))) J9 rfl (.cons r9 .nil) ⟨_, ys, v, rfl, rfl, hD9, hl9, rfl⟩) fun _ s10 ⟨_, H10, J10, _, eH⟩ => ?_
      subst eH
      refine ⟨m', hm', i + 1, ys ++ [v], σ8, _, J10.unpinned, T.keep _ _ _ st7 fun b hb o e => (J10.pin (b, o) (List.mem_append_right _ (List.mem_append_right _ (mem_pinsAt hb e)))).1, fun b hb => ?_, w9⟩
      obtain ⟨o, e, d⟩ := T.obj _ _ st7 b hb
      exact (J10.pin (b, o) (List.mem_append_right _ (List.mem_append_right _ (mem_pinsAt hb e)))).2.1
  subst he3
  exact codeAny_compStart_list (loop _ rfl) (T.self X.A 0 _ _ _ hst1 (loop _ rfl))
theorem CompSc.clos {pins : List (Addr × Obj)} {σ : St} {H : Hp} {s : Shared} {scope : Scope} {x : Str} {fs : List Str} (S : CompSc scope X.env x fs) (I : Inv X pins σ H s) :
    ∃ cl, closureFor scope X.env = pure cl ∧ (∀ n c, cl.lookup n = some c → X.env.cells.lookup n = some c) ∧ ∀ n, (n, NameKind.free) ∈ scope.names → ∃ c, cl.lookup n = some c :=
  closure_of fun n hn => I.ok.has n (S.fr _ hn rfl)
theorem pe_comp {tg iter elt : Expr} {ifs : List Expr} {scope : Scope} {pos : Pos} {x : Str} {fs : List Str} {ix : List Nat} {wi : TI} {g : TG} {tt : TT} {te : TE} (hc : X.calm = true) (hi : PI X tg iter wi) (hk : compChk scope X.env x fs = true) (hix : ix.map (X.N[·]?) = fs.map some)
    (hg : ∀ cl C s₀ H₀ fp xe, PG (cxComp X scope cl C (x :: fs) s₀ H₀ fp xe) tg g) (hf : ∀ cl C s₀ H₀ fp xe, PF (cxComp X scope cl C (x :: fs) s₀ H₀ fp xe) ifs tt) (he : ∀ cl C s₀ H₀ fp xe, PE (cxComp X scope cl C (x :: fs) s₀ H₀ fp xe) elt te) (hs : ∀ x, foldedSetIterable iter X.env x = pure x := by intro _; rfl) :
    PE X (.ListComp elt [⟨tg, iter, ifs, 0⟩] scope pos) (tComp wi ix g tt te .mk) := by
  intro pins s σ H Q I h
  have S := CompSc.of hk
  obtain ⟨cl, hcl, c1, c2⟩ := S.clos I
  rw [eval_ListComp]
  refine wpAny_comprehension_free (use := none) rfl hs hcl S.kind S.own (thn (hi pins s σ H _ I h) fun v s1 h1 => thn h1 fun itv s2 h2 => ?_)
  obtain ⟨it, fp, tn, J, H2, e, I2, T, st2, f2, q⟩ := h2
  subst e
  refine comp_block (RR := fun acc C => compPost (model X.prog X.w) X.A X.xe none (EP X pins σ Q) acc C) I2 T st2 f2 hc S c1 c2 hix (fun C s₀ H₀ xe => hg cl C s₀ H₀ fp xe) (fun C s₀ H₀ xe => hf cl C s₀ H₀ fp xe) (fun C s₀ H₀ xe => he cl C s₀ H₀ fp xe) q fun D C H' s' I' q' ⟨m, hn⟩ ⟨f0, f1, _, f3, f4, f5⟩ => ?_
  exact ⟨m, hn, fun h' hs' => ⟨.ref D, H', I'.turned (t' := s'.toks) (fun b o hb e => (hs'.2 b hb).trans e) f0 f1 f3 f4 f5, rfl, q'⟩⟩
end
end L2
namespace L2
open PySem PySem.Spec PyProof.Rows
section
variable {X : Cx} {pins : List (Addr × Obj)} {σ : List (Option V)} {H H' : Hp} {s : Shared} {h' : Heap}
end
section
variable {X : Cx}
end
end L2
namespace L2
open PySem PySem.Spec PyProof.Rows
section
variable {X : Cx} {pins : List (Addr × Obj)} {σ : St} {H : Hp} {s : Shared} {a : Addr} {kvs : List (Key × V)} {k : Key} {u r : Value} {z : V} {A : Around} {E : Value → Shared → Prop}
theorem d_setdef {Q : Value → Shared → Prop} (I : Inv X pins σ H s) (e : H a = some (.dK kvs)) (ry : RelV (kV k) u) (rz : RelV z r) (hl : kvs.length < sizeLine)
    (h1 : ∀ v, valV kvs k = some v → ∀ w' s', Inv X pins σ H s' → RelV v w' → Q w' s')
    (h2 : valV kvs k = none → ∀ s', Inv X pins σ (upd H a (.dK (putK kvs k z))) s' → Q r s') : wpAny (model X.prog X.w) A (call (.builtin "dict.setdefault") [.ref a, u, r]) Q E s := by
  obtain ⟨zz, hd, vs, rel, dd⟩ := dk_of I.hok e
  have hz : vs.length ≤ sizeLine := by rw [← rel.length]; exact zz
  have hlp : (putK kvs k z).length ≤ sizeLine := by have := length_putK kvs k z; omega
  refine call_meetsIn PySem.F.slot_dict_setdefault dd.typeIs PySem.F.entry_dict_setdefault (PySem.F.args_dict_setdefault_3 _ _ _) (kt_meets_setdefault (mixKind X.prog X.w) a (kV_is ry) hd r) ⟨vs, dd, hz, fun v' hv' => ?_, fun hn h' dd' hs => ?_⟩
  · have q := rel.val k
    rw [hv'] at q
    cases hv : valV kvs k with
    | none => rw [hv] at q; exact q.elim
    | some v => rw [hv] at q; exact h1 v hv v' _ (I.tok _) q
  · have q := rel.val k
    rw [hn] at q
    have hv : valV kvs k = none := by
      cases hv : valV kvs k with
      | none => rfl
      | some v => rw [hv] at q; exact q.elim
    refine h2 hv _ ?_
    have he : ∃ q, h'.get? a = some q := let ⟨q, _, _, hq, _⟩ := dd'; ⟨q, hq⟩
    exact d_write I (by rw [e]; exact True.intro) hs he (dk_new hlp hd (rel.put k rz) dd')
end
def tDSetD (td ty tx : TE) : TE := fun σ H Q => td σ H fun x H1 => ∃ a, x = .ref a ∧ IsD H1 a ∧ ty σ H1 fun y H2 => tx σ H2 fun z H3 => ∃ kvs k, H3 a = some (.dK kvs) ∧ y = kV k ∧ kvs.length < sizeLine ∧
  (∀ v, valV kvs k = some v → Q v H3) ∧ (valV kvs k = none → Q z (upd H3 a (.dK (putK kvs k z))))
section
variable {X : Cx} {o e f : Expr} {apos cpos : Pos} {td ty tx : TE}
theorem pe_dsetd (ho : PE X o td) (he : PE X e ty) (hf : PE X f tx) (m : M2 X o "setdefault" apos e f cpos) : PE X (.Call (.Attribute o "setdefault" apos) [e, f] [] cpos) (tDSetD td ty tx) := by
  intro pins s σ H Q I h
  refine wpAny_Call_method m.base m.few m.line PySem.F.plainAttrs_dict PySem.F.slot_dict_setdefault PySem.F.type_dict_setdefault (thn (ho pins s σ H _ I h) fun u s1 ⟨x, H1, I1, rx, a, ex, d, q1⟩ => ?_)
  subst ex
  obtain rfl : u = Value.ref a := rx
  obtain ⟨t1, t2, _⟩ := isD_at I1 d
  refine ⟨t1, t2, ?_⟩
  rw [m.trees]
  refine Calls.callWith_builtin rfl (Calls.evalArgs_plain (Calls.spliced_cons (thn (he pins s1 σ H1 _ I1 q1) fun iv s2 ⟨y, H2, I2, ry, q2⟩ =>
    Calls.spliced_cons (thn (hf pins s2 σ H2 _ I2 q2) fun fv s3 ⟨z, H3, I3, rz, kvs, k, ea, ey, hl, q3, q4⟩ => Calls.spliced_nil ?_))))
  subst ey
  exact d_setdef I3 ea ry rz hl (fun v hv w' s4 I4 rw' => ⟨v, _, I4, rw', q3 v hv⟩) fun hn s4 I4 => ⟨z, _, I4, rz, q4 hn⟩
end
inductive HidW (c : TT) (tb : TS) : Type where
  | mk : HidW c tb
inductive HidB (tb : TS) : Type where
  | mk : HidB tb
def LoopW (c : TT) (tb : TS) (_ : HidW c tb) : TS := tWhile c tb
def TurnW (tb : TS) (_ : HidB tb) (Pv : Nat → St → Hp → Prop) (m : Nat) (D : Ends) (σ : St) (H : Hp) : Prop :=
  ∃ N : St → Hp → Prop, (∀ σ' H', N σ' H' → ∃ m', m' < m ∧ Pv m' σ' H') ∧ tb { D with nx := N, ct := N, bk := D.nx } σ H
theorem ps_whileE {X : Cx} {c : Expr} {body : List Stmt} {tc : TT} {tb : TS} {pos : Pos} (hp : PassesOwn (model X.prog X.w) X.A X.env X.xe) (hc : PT X c tc) (hb : PSs X body tb) : PS X (.While c body [] pos) (LoopW tc tb .mk) := ps_while hp hc hb
theorem loop_while {c : TT} {tb : TS} {h : HidW c tb} {D : Ends} {σ : St} {H : Hp} (Pv : Nat → St → Hp → Prop) (m0 : Nat) (h0 : Pv m0 σ H)
    (hs : ∀ m σ H, Pv m σ H → c σ H fun b H1 => if b = true then TurnW tb .mk Pv m D σ H1 else D.nx σ H1) : LoopW c tb h D σ H := ⟨Pv, ⟨m0, h0⟩, hs⟩
theorem turnW {tb : TS} {h : HidB tb} {Pv : Nat → St → Hp → Prop} {m : Nat} {D : Ends} {σ : St} {H : Hp}
    (q : tb { D with nx := fun σ' H' => ∃ m', m' < m ∧ Pv m' σ' H', ct := fun σ' H' => ∃ m', m' < m ∧ Pv m' σ' H', bk := D.nx } σ H) : TurnW tb h Pv m D σ H := ⟨_, fun _ _ h => h, q⟩
end L2
namespace L2
open PySem PySem.Spec PyProof.Rows
section
variable {X : Cx} {pins : List (Addr × Obj)} {σ : List (Option V)} {H : Hp} {s : Shared} {a : Addr}
end
end L2
namespace L2
open PySem PySem.Spec PyProof.Rows
end L2
namespace L2
open PySem PySem.Spec PyProof.Rows
end L2
namespace L2
open PySem PySem.Spec PyProof.Rows
end L2
namespace L2
open PySem PySem.Spec PyProof.Rows
theorem ix_tupC {X : Cx} {K : PySem.W.Frag} (h : X.K = K) : IxR X (rIxT K) := h ▸ ix_tup
end L2
namespace L2
open PySem PySem.Spec PyProof.Rows
structure FunD (K : PySem.W.Frag) (x qual : Str) (st : Stmt) (f : Addr) (fd : FuncData) : Prop where
  ex : ∃ (oc : Value) (od : Option Addr) (dV kV doc pm : Value) (an : Option Addr) (cdv ct : Value) (osl : Array (Option Value)),
    fd = PySem.W.fnOf x qual (defArgs st) (defBody st) (defScope st) dV kV doc pm an cdv ct ∧ K.lookup f = some ⟨oc, od, .func fd, osl⟩ ∧ PySem.W.codeIn K cdv qual = true
  kp : PySem.W.keepIn K (.ref f) = true
section
variable {P : Program} {w : World} {K : PySem.W.Frag} {mg : Str → Option Value} {base : Heap}
theorem FunD.okE {x qual : Str} {st : Stmt} {f : Addr} {fd : FuncData} {N ps : List Str} {k : Nat} {sp : Sp} (F : FunD K x qual st f fd) (S : FnScope N ps (defScope st)) (len : ∀ vs H Q E, sp vs H Q E → vs.length = ps.length)
    (hbody : Body P w K mg base qual st N k sp) : FnOk P w K mg base (CXe P w) (k + 1) f fd ps sp := by
  obtain ⟨oc, od, dV, kV, doc, pm, an, cdv, ct, osl, rfl, lk, hcd⟩ := F.ex
  exact fn_of lk hcd S len fun A outer s H vs Q E hr hsp => hbody f cdv A outer s H vs Q E hr hsp
def RawMD (K : PySem.W.Frag) (C : Addr) (m qual : Str) (st : Stmt) (ps : List Str) (dvs : List V) : Prop := ∃ f fd ds, Meth K C m f ∧ FunD K m qual st f fd ∧ Binds K fd ps ds ∧ Vals dvs ds
def RawID (K : PySem.W.Frag) (mg : Str → Option Value) (x : Str) (C : Addr) (qual : Str) (st : Stmt) (ps : List Str) (dvs : List V) : Prop := ∃ f fd ds, mg x = some (.ref C) ∧ Mk K C f ∧ FunD K "__init__" qual st f fd ∧ Binds K fd ps ds ∧ Vals dvs ds
theorem RawMD.have {C : Addr} {m qual : Str} {st : Stmt} {N ps : List Str} {dvs : List V} {k : Nat} {sp : Sp} (R : RawMD K C m qual st ps dvs) (S : FnScope N ps (defScope st)) (len : ∀ vs H Q E, sp vs H Q E → vs.length = ps.length)
    (hbody : Body P w K mg base qual st N k sp) : HaveM P w K mg base C m (k + 1) ps dvs sp :=
  let ⟨f, fd, ds, hm, F, hb, hd⟩ := R
  ⟨f, fd, ds, hm, hb, hd, F.okE S len hbody⟩
theorem RawID.have {C : Addr} {x qual : Str} {st : Stmt} {N ps : List Str} {dvs : List V} {k : Nat} {sp : Sp} (R : RawID K mg x C qual st ps dvs) (S : FnScope N ps (defScope st)) (len : ∀ vs H Q E, sp vs H Q E → vs.length = ps.length)
    (hbody : Body P w K mg base qual st N k sp) : HaveI P w K mg base x C (k + 1) ps dvs sp :=
  let ⟨f, fd, ds, hm, M, F, hb, hd⟩ := R
  ⟨f, fd, ds, hm, M, hb, hd, F.okE S len hbody⟩
end
end L2
namespace L2
open PySem PySem.Spec PyProof.Rows
end L2
namespace L2
open PySem PySem.Spec PyProof.Rows
end L2
namespace L2
open PySem PySem.Spec PyProof.Rows
def rIx2 (K : PySem.W.Frag) : R2 := fun x y H Q => rIxL K x y H Q ∨ rIxT K x y H Q
theorem ix_two {X : Cx} : IxR X (rIx2 X.K) := ix_list.or ix_tup
section
variable {X : Cx}
end
theorem Vals.at {xs : List V} {us : List Value} (r : Vals xs us) (m : Nat) (h1 : m < xs.length) (h2 : m < us.length) : RelV xs[m] us[m] := by
  obtain ⟨u, hu, ru⟩ := r.get (List.getElem?_eq_getElem h1)
  rw [List.getElem?_eq_getElem h2] at hu
  cases hu
  exact ru
end L2
namespace L2
open PySem PySem.Spec PyProof.Rows
def isN : V → Bool
  | .non => true
  | _ => false
def NTup (K : PySem.W.Frag) (H : Hp) (x : V) : Prop := x = .non ∨ ∃ a xs, x = .ref a ∧ SqT K H a xs
def nU : Value → Bool
  | .none => true
  | _ => false
theorem nU_of {K : PySem.W.Frag} {H : Hp} {x : V} {u : Value} (h : NTup K H x) (r : RelV x u) : nU u = isN x := by
  rcases h with rfl | ⟨a, xs, rfl, _⟩
  · cases r; rfl
  · cases r; rfl
theorem nU_any {K : PySem.W.Frag} {H : Hp} : ∀ {xs : List V} {us : List Value}, Vals xs us → (∀ x ∈ xs, NTup K H x) → us.any nU = xs.any isN
  | _, _, .nil, _ => rfl
  | x :: xs, u :: us, .cons r t, h => by
    rw [List.any_cons, List.any_cons, nU_of (h x (List.mem_cons_self ..)) r, nU_any t fun z hz => h z (List.mem_cons_of_mem _ hz)]
theorem nU_eqAt {X : Cx} {pins : List (Addr × Obj)} {σ : St} {H : Hp} {s : Shared} (I : Inv X pins σ H s) {A : Around} (hu : A.units < cLine) : ∀ {xs : List V} {us : List Value}, Vals xs us → (∀ x ∈ xs, NTup X.K H x) → ∀ u ∈ us, SeqAt.EqAt A s u .none (nU u)
  | _, _, .nil, _ => fun u hu => by cases hu
  | x :: xs, u :: us, .cons r t, h => fun u' hu' => by
    rcases List.mem_cons.mp hu' with rfl | hu'
    · rcases h x (List.mem_cons_self ..) with rfl | ⟨a, ys, rfl, hs⟩
      · cases r
        exact SeqAt.EqAt.same _
      · cases r
        obtain ⟨its, r, p, hz⟩ := I.tuple hs
        intro prog w E Q hq
        unfold eqBool
        refine wpAny_holding ?_
        refine wpAny_ite_split (fun hab => absurd (eq_of_beq hab) (fun z => nomatch z)) (fun _ => ?_)
        exact wpAny_bind (SeqAt.RcAt.tuple_none (A := A) (s := s) (show s.heap.IsTuple a its.toArray from p) hu prog w E _ (wpAny_truthy_bool hq))
    · exact nU_eqAt I hu t (fun z hz => h z (List.mem_cons_of_mem _ hz)) u' hu'
def rInN (K : PySem.W.Frag) : R2 := fun x y H Q => ∃ p xs, x = .non ∧ y = .ref p ∧ SqL K H p xs ∧ (∀ z ∈ xs, NTup K H z) ∧ Q (.bl (xs.any isN)) H
theorem op_inN {X : Cx} (hu : X.A.units + 4 + 2 < cLine) : OpR X (compareOp .In) (rInN X.K) := by
  intro pins s σ H x y v u Q I rx ry h
  obtain ⟨p, xs, rfl, rfl, hq, hn, q⟩ := h
  cases rx
  cases ry
  obtain ⟨its, r, pl, hz⟩ := I.list hq
  refine SeqAt.in_listAt nU pl.isList (fun w hw => nU_eqAt I (by show X.A.units + 1 < cLine; omega) r hn w (by simpa using hw)) ⟨.bl _, H, I, rfl, ?_⟩
  rw [show its.toArray.any nU = its.any nU by simp, nU_any r hn]
  exact q
def rIndexN (K : PySem.W.Frag) : V → List V → Hp → VK → Prop := fun x vs H Q => ∃ l xs j, x = .ref l ∧ vs = [.non] ∧ SqL K H l xs ∧ (∀ z ∈ xs, NTup K H z) ∧ xs.findIdx? isN = some j ∧ Q (.int j) H
theorem mt_indexN {X : Cx} (hu : X.A.units + 4 + 2 < cLine) : MtR X "list.index" (rIndexN X.K) := by
  intro pins s σ H x vs v us Q I rx rv h
  obtain ⟨l, xs, j, rfl, rfl, hq, hn, hj, q⟩ := h
  cases rx
  obtain ⟨u, rfl, ru⟩ := rv.one
  cases ru
  obtain ⟨its, r, pl, hz⟩ := I.list hq
  obtain ⟨⟨cls, dd, data, sl⟩, ho, hc, n, hd⟩ := pl.isList
  simp only at hc hd
  subst hc hd
  obtain ⟨hjl, hit, hno⟩ := List.findIdx?_eq_some_iff_getElem.mp hj
  have hl := r.length
  have eqx : ∀ m (h1 : m < xs.length) (h2 : m < its.length), nU its[m] = isN xs[m] := fun m h1 h2 => nU_of (hn _ (List.getElem_mem h1)) (r.at m h1 h2)
  refine call_meets F.slot_list_index ⟨_, ho, rfl⟩ F.entry_list_index (F.args_list_index_2 _ _) (SeqAt.list_indexAt l its.toArray n dd sl .none nU j (by simp; omega) (by have := line63; omega) ?_ ?_) ⟨ho, fun w hw => nU_eqAt I ?_ r hn w (by simpa using hw), ⟨.int j, H, I.tok _, ⟨_, rfl⟩, q⟩⟩
  · simp only [List.getElem_toArray]
    rw [eqx j hjl (by omega)]
    exact hit
  · intro m hm hmj
    simp only [List.size_toArray] at hm
    simp only [List.getElem_toArray]
    rw [eqx m (by omega) hm]
    simpa using hno m hmj
  · show X.A.units + 1 < cLine
    omega
end L2
namespace L2
open PySem PySem.Spec PyProof.Rows
theorem map_erase {α β : Type} {f : α → β} : ∀ {l : List α} {j : Nat}, (l.map f).eraseIdx j = (l.eraseIdx j).map f
  | [], _ => rfl
  | _ :: _, 0 => rfl
  | x :: l, j + 1 => congrArg (f x :: ·) (map_erase (l := l) (j := j))
section
variable {prog : Program} {w : World} {K : Type} [DecidableEq K] {knd : HeapKind prog w K} {A : Around} {E : Value → Shared → Prop} {s : Shared}
theorem takeOut_heap {d a : Addr} {xs : List (K × Addr × Value)} {k : K} {j : Nat} {p : Addr × Value} {Q : Option DictEntry → Shared → Prop} (hu : knd.room A) (hkey : knd.is s.heap k a) (hm : s.heap.DictOfH knd d xs) (hj : xs[j]? = some (k, p)) (hsz : xs.length ≤ sizeLine)
    (hQ : ∀ e h', e.val = p.2 → h'.DictOfH knd d (xs.eraseIdx j) → Heap.SameBut d s.heap h' → Q (some e) { s with heap := h', toks := s.toks + knd.draws k }) : wpAny (model prog w) A (Builtin.Dict.takeOut d (.ref a)) Q E s := by
  obtain ⟨o, es, ep, ho, hc, hd, he, his, hn⟩ := hm
  have hes := size_of_entries he
  unfold Builtin.Dict.takeOut
  try with_reducible refine wpAny_holding ?_
  refine wpAny_bind (knd.pyHash hu hkey ?_)
  refine wpAny_bind (wpAny_dictFind_heap (s := { s with toks := s.toks + knd.draws k }) hu hkey ho hd he his hn (fun hno => absurd hj (hno j p)) fun j' p' hj' => ?_)
  have ej : j' = j := idxH_unique hn hj' hj
  subst ej
  refine wpAny_bind (wpAny_dictEntries (s := { s with toks := s.toks + knd.draws k }) ho hd ?_)
  have ee : es[j']? = some (entryOfKey knd (k, p)) := by rw [entry_at he, hj]; rfl
  rw [ee]
  refine wpAny_bind (wpAny_updateDictKeys (hz := by omega) (s := { s with toks := s.toks + knd.draws k }) ho hd (wpAny_pure (hQ (entryOfKey knd (k, p)) _ rfl ⟨_, _, ep + 1, Heap.get?_update_self _ ho (Obj.isFreed_of_dict (Obj.data_mapDictKeys hd _)), hc.mapDictKeys _, Obj.data_mapDictKeys hd _, ?_, ?_, ?_⟩ (Heap.SameBut.update ..))))
  · have hlt : j' < es.size := by rw [hes]; exact (List.getElem?_eq_some_iff.mp hj).1
    simp [Array.eraseIdxIfInBounds, hlt, he, map_erase]
  · intro x hx
    exact knd.keeps (his x ((List.eraseIdx_sublist ..).subset hx)) ho hd (Heap.SameBut.update ..)
  · exact hn.sublist ((List.eraseIdx_sublist ..).map _)
theorem meets_popH {d a : Addr} : MeetsIn prog w (Builtin.«dict.pop» ⟨[.ref d, .ref a], []⟩) (fun A R s => knd.room A.in1 ∧ ∃ k xs j p, knd.is s.heap k a ∧ s.heap.DictOfH knd d xs ∧ xs.length ≤ sizeLine ∧ xs[j]? = some (k, p) ∧
      ∀ h', h'.DictOfH knd d (xs.eraseIdx j) → Heap.SameBut d s.heap h' → R (.ok (.ret p.2)) { s with heap := h', toks := s.toks + knd.draws k }) :=
  .of_wp fun A R s ⟨hu, k, xs, j, p, hkey, hm, hsz, hj, h⟩ => by
    unfold Builtin.«dict.pop»
    refine wpAny_bind ?_
    unfold Builtin.Dict.keyAndDefault
    refine wpAny_bind (wpAny_notOrdered_dict hm.typeIs ?_)
    show wpAny _ _ (pure (d, Value.ref a, none)) _ _ s
    refine wpAny_pure ?_
    obtain ⟨o, es, ep, ho, hc, hd, he, his, hn⟩ := id hm
    have hes := size_of_entries he
    have hne : es.isEmpty = false := by
      have hlt := (List.getElem?_eq_some_iff.mp hj).1
      cases hE : es.isEmpty with
      | false => rfl
      | true =>
        rw [Array.isEmpty_iff.mp hE] at hes
        have h0 : xs.length = 0 := by simpa using hes.symm
        omega
    have hk : (keyPart (.ref a)).isSome = false := rfl
    simp only [hk, Bool.false_eq_true, if_false]
    refine wpAny_bind (wpAny_dictEntries ho hd ?_)
    refine wpAny_bind (wpAny_pure ?_)
    rw [hne]
    simp only [Bool.false_eq_true, if_false]
    refine wpAny_bind (takeOut_heap hu hkey hm hj hsz fun e h' ev hm' hs' => ?_)
    simp only [Option.isNone_some, Bool.false_eq_true, if_false]
    exact wpAny_bind (wpAny_letGo (wpAny_pure ⟨e.val, rfl, by rw [ev]; exact h h' hm' hs'⟩))
end
theorem KT.erase {H : Hp} : ∀ {kvs : List (List Key × V)} {xs : List (List Key × Addr × Value)} (j : Nat), KT H kvs xs → KT H (kvs.eraseIdx j) (xs.eraseIdx j)
  | _, _, _, .nil => .nil
  | _, _, 0, .cons _ t => t
  | _, _, j + 1, .cons r t => .cons r (KT.erase j t)
theorem KT.find {H : Hp} {k : List Key} {v : V} : ∀ {kvs : List (List Key × V)} {xs : List (List Key × Addr × Value)}, KT H kvs xs → (xs.map (·.1)).Nodup → valV kvs k = some v → ∃ (j : Nat) (p : Addr × Value), xs[j]? = some (k, p) ∧ RelV v p.2 ∧ dropK kvs k = kvs.eraseIdx j
  | _, _, .nil, _, h => by cases h
  | kv :: kvs, x :: xs, .cons r t, hn, h => by
    obtain ⟨h1, h2⟩ := List.nodup_cons.mp hn
    by_cases c : kv.1 = k
    · rw [valV_pos c] at h
      refine ⟨0, x.2, ?_, ?_, ?_⟩
      · show some x = some (k, x.2)
        rw [← c, r.1]
      · cases h; exact r.2.2
      · have hk : ∀ y ∈ kvs, y.1 ≠ k := fun y hy e => by
          have hx : k ∈ xs.map (·.1) := by
            have : xs.map (·.1) = kvs.map (·.1) := by
              have aux : ∀ {a : List (List Key × V)} {b : List (List Key × Addr × Value)}, KT H a b → b.map (·.1) = a.map (·.1) := fun q => by
                induction q with
                | nil => rfl
                | cons r _ ih => rw [List.map_cons, List.map_cons, ih, r.1]
              exact aux t
            rw [this]
            exact List.mem_map.mpr ⟨y, hy, e⟩
          exact h1 (by show x.1 ∈ _; rw [← r.1, c]; exact hx)
        show (kv :: kvs).filter _ = kvs
        rw [List.filter_cons, if_neg (by simp [c]), List.filter_eq_self.mpr fun y hy => by simpa using hk y hy]
    · rw [valV_neg c] at h
      obtain ⟨j, p, e1, e2, e3⟩ := KT.find t h2 h
      refine ⟨j + 1, p, by simpa using e1, e2, ?_⟩
      show (kv :: kvs).filter _ = kv :: kvs.eraseIdx j
      rw [List.filter_cons, if_pos (by simp [c]), ← e3]
      rfl
theorem d_popT {X : Cx} {pins : List (Addr × Obj)} {σ : St} {H : Hp} {s : Shared} {a b : Addr} {kvs : List (List Key × V)} {k : List Key} {A : Around} {E : Value → Shared → Prop} {v : V} {Q : Value → Shared → Prop} (hu : A.units + 1 < cLine) (I : Inv X pins σ H s) (e : H a = some (.dT kvs)) (eb : H b = some (.tup (k.map kV))) (l : valV kvs k = some v)
    (h : ∀ w' s', Inv X pins σ (upd H a (.dT (dropK kvs k))) s' → RelV v w' → Q w' s') : wpAny (model X.prog X.w) A (call (.builtin "dict.pop") [.ref a, .ref b]) Q E s := by
  obtain ⟨z, hd, xs, rel, dd⟩ := dt_of I.hok e
  have hz : xs.length ≤ sizeLine := by rw [← Paired.length rel]; exact z
  have hn : (xs.map (·.1)).Nodup := let ⟨_, _, _, _, _, _, _, _, q⟩ := dd; q
  obtain ⟨j, p, hj, rv, ed⟩ := KT.find rel hn l
  refine call_meetsIn PySem.F.slot_dict_pop dd.typeIs PySem.F.entry_dict_pop (PySem.F.args_dict_pop_2 _ _) (meets_popH (knd := tupleKind (mixKind X.prog X.w))) ⟨tupleKind_room_in1 hu, k, xs, j, p, key_of I.hok eb, dd, hz, hj, fun h' dd' hs => h _ _ ?_ rv⟩
  obtain ⟨q, es, ep, hq, h2, h3, h4, _, h5⟩ := dd'
  refine d_write I (by rw [e]; exact True.intro) hs ⟨q, hq⟩ ⟨?_, hd, _, KT.keeps (ed ▸ KT.erase j rel) fun c ys ec => ?_, q, es, ep, hq, h2, h3, h4, h5⟩
  · exact Nat.le_trans (dropK_le kvs k) z
  · rw [upd_ne (ne_of ec e (fun z => nomatch z))]
    exact ec
def tDPopT (td ty : TE) : TE := fun σ H Q => td σ H fun x H1 => ∃ a, x = .ref a ∧ IsD H1 a ∧ ty σ H1 fun y H2 => ∃ kvs k v b, H2 a = some (.dT kvs) ∧ y = .ref b ∧ H2 b = some (.tup (k.map kV)) ∧ valV kvs k = some v ∧ Q v (upd H2 a (.dT (dropK kvs k)))
theorem pe_dpopT {X : Cx} {o e : Expr} {apos cpos : Pos} {td ty : TE} (hu : X.A.units + 1 < cLine) (ho : PE X o td) (he : PE X e ty) (m : M1 X o "pop" apos e cpos) : PE X (.Call (.Attribute o "pop" apos) [e] [] cpos) (tDPopT td ty) := by
  intro pins s σ H Q I h
  refine wpAny_Call_method m.base m.few m.line PySem.F.plainAttrs_dict PySem.F.slot_dict_pop PySem.F.type_dict_pop (thn (ho pins s σ H _ I h) fun u s1 ⟨x, H1, I1, rx, a, ex, d, q1⟩ => ?_)
  subst ex
  obtain rfl : u = Value.ref a := rx
  obtain ⟨t1, t2, _⟩ := isD_at I1 d
  refine ⟨t1, t2, ?_⟩
  rw [m.trees]
  refine Calls.callWith_builtin rfl (Calls.evalArgs_plain (Calls.spliced_cons (thn (he pins s1 σ H1 _ I1 q1) fun iv s2 ⟨y, H2, I2, ry, kvs, k, v, b, ea, ey, eb, l, q2⟩ => Calls.spliced_nil ?_)))
  subst ey
  cases ry
  exact d_popT hu I2 ea eb l fun w' s3 I3 rw' => ⟨v, _, I3, rw', q2⟩
end L2
namespace L2
open PySem PySem.Spec PyProof.Rows
def RawD (h : Heap) (d : Addr) (es : Array DictEntry) (ep : Nat) : Prop := ∃ o, h.get? d = some o ∧ o.ExactDict ∧ o.data = .dict es ep
theorem RawD.ty {s : Shared} {d : Addr} {es : Array DictEntry} {ep : Nat} (r : RawD s.heap d es ep) : s.TypeIs (.ref d) "dict" := let ⟨o, ho, hc, _⟩ := r; ⟨o, ho, hc.1⟩
theorem RawD.lt {h : Heap} {d : Addr} {es : Array DictEntry} {ep : Nat} (r : RawD h d es ep) : d < h.objs.size := let ⟨_, ho, _⟩ := r; Heap.lt_size ho
theorem RawD.kept {h h' : Heap} {d : Addr} {es : Array DictEntry} {ep : Nat} (r : RawD h d es ep) (k : ∀ o, h.get? d = some o → h'.get? d = some o) : RawD h' d es ep := let ⟨o, ho, q⟩ := r; ⟨o, k _ ho, q⟩
section
variable {prog : Program} {w : World} {A : Around} {E : Value → Shared → Prop} {s : Shared} {d it : Addr} {es : Array DictEntry} {ep i : Nat}
theorem raw_iter {Q : Value → Shared → Prop} (nd : (d == sysModules) = false) (r : RawD s.heap d es ep)
    (q : Q (.ref s.heap.objs.size) { s with heap := s.heap.push { cls := .type "dict_keyiterator", data := .fields #[.ref d, .int 0 0, .int es.size 0, .int ep 0] } }) : wpAny (model prog w) A (pyIter (.ref d)) Q E s := by
  obtain ⟨o, e0, ec, ed⟩ := id r
  refine wpAny_pyIter_slot r.ty PySem.F.slot_dict_iter (wpAny_call_entry PySem.F.slot_dict_iter r.ty PySem.F.entry_dict_iter ?_ (PySem.F.args_dict_iter_1 _))
  unfold Builtin.«dict.__iter__» Builtin.Dict.dictSlotNone Builtin.Dict.showsAll
  refine wpAny_bind (wpAny_bind (wpAny_notOrdered_dict r.ty (wpAny_pure ?_)))
  refine wpAny_bind (m := if d == sysModules then _ else _) ?_
  rw [if_neg (by rw [nd]; exact Bool.false_ne_true)]
  refine wpAny_pure (wpAny_bind (wpAny_dictEntries e0 ed (wpAny_bind (wpAny_dictEpoch e0 ed ?_))))
  exact wpAny_bind (wpAny_newObj_type (wpAny_pure ⟨_, rfl, "dict_keyiterator", _, ⟨_, Heap.get?_push_size _ rfl, rfl⟩, PySem.F.slot_dict_keyiterator_next.lookup, by simpa [rawInt] using q⟩))
theorem raw_next {Q : Option Value → Shared → Prop} (t : s.heap.IsKeyIter it d i es.size ep) (r : RawD s.heap d es ep) (hi : i < es.size)
    (q : ∀ h', h'.IsKeyIter it d (i + 1) es.size ep → Heap.SameBut it s.heap h' → Q (some es[i].key) { s with heap := h' }) : wpAny (model prog w) A (pyNext (.ref it)) Q E s := by
  obtain ⟨b, b0, bc, bd⟩ := id t
  obtain ⟨o, e0, ec, ed⟩ := id r
  unfold pyNext
  refine wpAny_bind (wpAny_attempt (wpAny_callSpecial?_slot (name := Str.ofString "__next__") t.typeIs PySem.F.slot_dict_keyiterator_next (wpAny_call_entry PySem.F.slot_dict_keyiterator_next t.typeIs PySem.F.entry_dict_keyiterator_next ?_ (PySem.F.args_dict_keyiterator_next_1 _))))
  refine wpAny_bind (wpAny_pure (wpAny_bind (wpAny_bind (wpAny_bind (wpAny_typeNameOfWhole_keyiter t.typeIs (wpAny_pure (wpAny_bind (wpAny_fieldsOf b0 bd ?_))))))))
  simp only [show Builtin.Dict_items.ownsTuple "dict_keyiterator" = false by decide, Bool.false_eq_true, if_false]
  show wpAny _ _ (if (Value.ref d == Value.none) = true then _ else _) _ _ s
  rw [if_neg (show ¬ ((Value.ref d == Value.none) = true) from Bool.false_ne_true)]
  refine wpAny_bind (wpAny_pure (wpAny_bind (wpAny_dictEntries e0 ed ?_)))
  rw [if_neg (by simp)]
  refine wpAny_bind (wpAny_pure (wpAny_bind (wpAny_dictEpoch e0 ed ?_)))
  rw [if_neg (by simp)]
  refine wpAny_pure ?_
  simp only [show ¬ ((i : Int) < 0) from by omega, if_false, Int.toNat_natCast, Array.getElem?_eq_getElem hi]
  refine wpAny_bind (wpAny_bind (wpAny_typeNameOfWhole_keyiter t.typeIs (wpAny_pure (wpAny_bind (wpAny_isOneOf_keyiter t.typeIs ?_)))))
  show wpAny _ _ (setField (.ref it) 1 (rawInt ((i : Int) + 1)) >>= _) _ _ s
  refine wpAny_bind (wpAny_setField b0 bd (by simp) ?_)
  have t2 : (s.heap.update it (Obj.mapFields (·.setIfInBounds 1 (rawInt ((i : Int) + 1))))).IsKeyIter it d (i + 1) es.size ep := ⟨_, Heap.get?_update_self _ b0 (Obj.isFreed_of_fields (Obj.data_mapFields bd _)), (Obj.cls_mapFields ..).trans bc, by rw [Obj.data_mapFields bd]; simp [rawInt]⟩
  refine wpAny_bind (wpAny_holding (wpAny_bind (wpAny_isOneOf_keyiter (s := { s with heap := s.heap.update it (Obj.mapFields (·.setIfInBounds 1 (rawInt ((i : Int) + 1)))) }) t2.typeIs ?_)))
  show wpAny _ _ (pure es[i].key) _ _ _
  exact wpAny_pure (wpAny_pure ⟨_, rfl, wpAny_pure (q _ t2 (Heap.SameBut.update ..))⟩)
theorem raw_end {Q : Option Value → Shared → Prop} (hh : A.handled = none) (t : s.heap.IsKeyIter it d es.size es.size ep) (r : RawD s.heap d es ep)
    (q : ∀ h', Heap.ExtBut it s.heap h' → Q none { s with heap := h' }) : wpAny (model prog w) A (pyNext (.ref it)) Q E s := by
  obtain ⟨b, b0, bc, bd⟩ := id t
  obtain ⟨o, e0, ec, ed⟩ := id r
  unfold pyNext
  refine wpAny_bind (wpAny_attempt (wpAny_callSpecial?_slot (name := Str.ofString "__next__") t.typeIs PySem.F.slot_dict_keyiterator_next (wpAny_call_entry PySem.F.slot_dict_keyiterator_next t.typeIs PySem.F.entry_dict_keyiterator_next ?_ (PySem.F.args_dict_keyiterator_next_1 _))))
  refine wpAny_bind (wpAny_pure (wpAny_bind (wpAny_bind (wpAny_bind (wpAny_typeNameOfWhole_keyiter t.typeIs (wpAny_pure (wpAny_bind (wpAny_fieldsOf b0 bd ?_))))))))
  simp only [show Builtin.Dict_items.ownsTuple "dict_keyiterator" = false by decide, Bool.false_eq_true, if_false]
  show wpAny _ _ (if (Value.ref d == Value.none) = true then _ else _) _ _ s
  rw [if_neg (show ¬ ((Value.ref d == Value.none) = true) from Bool.false_ne_true)]
  refine wpAny_bind (wpAny_pure (wpAny_bind (wpAny_dictEntries e0 ed ?_)))
  rw [if_neg (by simp)]
  refine wpAny_bind (wpAny_pure (wpAny_bind (wpAny_dictEpoch e0 ed ?_)))
  rw [if_neg (by simp)]
  refine wpAny_pure ?_
  simp only [show ¬ ((es.size : Int) < 0) from by omega, if_false, Int.toNat_natCast, Array.getElem?_eq_none (Nat.le_refl es.size)]
  refine wpAny_bind (wpAny_bind (wpAny_typeNameOfWhole_keyiter t.typeIs (wpAny_pure ?_)))
  show wpAny _ _ (setField (.ref it) 0 .none >>= _) _ _ s
  refine wpAny_bind (wpAny_setField b0 bd (by simp) ?_)
  show wpAny _ _ (newExc (.type "StopIteration") [] >>= _) _ _ _
  refine wpAny_bind ?_
  simp only [newExc, newTuple]
  refine wpAny_bind (wpAny_newObj_type (wpAny_bind (m := firstArgMember _ _) (wpAny_of_eq (a := Value.none) (by first | rfl | (simp only [firstArgMember]; rfl)) (wpAny_newObj_type ?_ (by size_fits)))) (by size_fits))
  simp only [raiseNew]
  refine wpAny_bind (wpAny_handled ?_)
  rw [show A.in1.handled = none from hh]
  refine wpAny_bind (wpAny_pure (wpAny_throw ?_))
  refine wpAny_bind (m := isInstance _ _) (wpAny_isInstance (b := true) (T := "StopIteration") ⟨_, Heap.get?_push_size _ rfl, rfl⟩ isSubtype_stop ?_)
  exact wpAny_pure (q _ (((Heap.SameBut.update ..).extBut.push _).push _))
theorem raw_walks (hh : A.handled = none) (I : Addr) (ne : d ≠ I) : Walks prog w A I [I, d] [I] es.size (fun i v => ∃ h : i < es.size, v = es[i].key) (fun i h => h.IsKeyIter I d i es.size ep ∧ RawD h d es ep) where
  sub := fun b hb => List.mem_cons.mpr (.inl (List.mem_singleton.mp hb))
  frame := fun _ _ _ x k => ⟨x.1.at fun o e => k I (List.mem_cons_self ..) o e, x.2.kept fun o e => k d (List.mem_cons_of_mem _ (List.mem_cons_self ..)) o e⟩
  item := fun i s Q E hi x q => raw_next x.1 x.2 hi fun h' t2 sb => q _ h' s.toks ⟨hi, rfl⟩ ⟨t2, x.2.kept fun o e => (sb.2 d ne).trans e⟩ fun b o hb e => (sb.2 b fun z => hb (List.mem_singleton.mpr z)).trans e
  done := fun s Q E x q => raw_end hh x.1 x.2 fun h' eb => q h' s.toks fun b o hb e => eb b o (fun z => hb (List.mem_singleton.mpr z)) e
  self := fun _ _ _ _ x q => wpAny_pyIter_keyiter x.1 q
theorem raw_src (nd : (d == sysModules) = false) : PySem.W.KdlSrc prog w "dict" d d es.size (fun i v => ∃ h : i < es.size, v = es[i].key) (fun h => RawD h d es ep) where
  type := fun _ r => r.ty
  there := fun _ r => ⟨r.lt, r.lt⟩
  keep := fun _ _ r k => r.kept fun o e => k d (.inl rfl) o e
  notList := by decide
  notTuple := by decide
  hint := fun _ _ _ _ r q => PySem.W.kdl_hint_dict r.ty q
  iter := fun _ _ hh r => ⟨_, _, (fun _ _ q => raw_iter nd r q), raw_walks hh _ (Nat.ne_of_lt r.lt), ⟨⟨_, Heap.get?_push_size _ rfl, rfl, rfl⟩, r.kept fun o e => Heap.get?_push_of_some _ e⟩⟩
end
def KysAt (H : Hp) (ks : List (List Key)) (vs : List V) : Prop := Paired (fun k v => ∃ a, v = V.ref a ∧ H a = some (.tup (k.map kV))) ks vs
theorem kys_of {H : Hp} {kvs : List (List Key × V)} {ys : List (List Key × Addr × Value)} (r : KT H kvs ys) : Vals (ys.map fun y => V.ref y.2.1) (ys.map fun y => Value.ref y.2.1) ∧ KysAt H (kvs.map (·.1)) (ys.map fun y => V.ref y.2.1) := by
  induction r with
  | nil => exact ⟨.nil, .nil⟩
  | cons r t ih => exact ⟨.cons rfl ih.1, .cons ⟨_, rfl, r.2.1⟩ ih.2⟩
theorem call_listDT {X : Cx} (hc : X.calm = true) : CallR X (.type "list") (fun xs H Q => ∃ p kvs, xs = [.ref p] ∧ H p = some (.dT kvs) ∧ ∀ l vs, H l = none → KysAt H (kvs.map (·.1)) vs → Q (.ref l) (upd H l (.lst vs))) := by
  intro pins s σ H xs us Q I r h
  obtain ⟨p, kvs, rfl, hp, q⟩ := h
  obtain ⟨u, rfl, ru⟩ := vals1 r
  cases ru
  obtain ⟨z, nd, ys, rel, o, es, ep, e0, ec, ed, he, _⟩ := dt_of I.hok hp
  have hsz := size_of_entries he
  have hlen := Paired.length rel
  refine PySem.W.kdl_call (raw_src (es := es) (ep := ep) nd) (I.ok.hd hc) ⟨o, e0, ec, ed⟩ (by omega) fun h' tk acc c kp hl it => ?_
  have hv : ∃ vs, Vals vs acc.toList ∧ KysAt H (kvs.map (·.1)) vs := by
    have hacc : acc.toList = ys.map fun y => Value.ref y.2.1 := by
      refine List.ext_getElem? fun j => ?_
      rw [List.getElem?_map]
      by_cases c : j < es.size
      · have hj : j < acc.toList.length := by rw [Array.length_toList, it.1]; exact c
        obtain ⟨_, e⟩ := it.2 j _ (by rw [← Array.getElem?_toList]; exact List.getElem?_eq_getElem hj)
        rw [List.getElem?_eq_getElem hj, e]
        have e3 := entry_at he j
        rw [Array.getElem?_eq_getElem c, List.getElem?_eq_getElem (by omega)] at e3
        have e3 := Option.some.inj e3
        rw [e3, List.getElem?_eq_getElem (by omega)]
        rfl
      · rw [List.getElem?_eq_none (by rw [Array.length_toList, it.1]; omega), List.getElem?_eq_none (by omega)]
        rfl
    rw [hacc]
    exact ⟨_, kys_of rel⟩
  obtain ⟨vs, rv, hk⟩ := hv
  have hvl := rv.length
  have I2 := I.laid (t' := tk) kp (Nat.le_refl _) (show ObjOk X.prog X.w _ h' _ (.lst vs) from ⟨by rw [hvl, Array.length_toList, it.1]; omega, acc.toList, c, rv, hl⟩)
  exact ⟨.ref s.heap.objs.size, _, I2, rfl, q _ _ (I.hok.fresh (Nat.le_refl _)) hk⟩
end L2
namespace L2
open PySem PySem.Spec PyProof.Rows
section
variable {X : Cx}
end
end L2
namespace L2
open PySem PySem.Spec PyProof.Rows
end L2
namespace L2
open PySem PySem.Spec PyProof.Rows
end L2
namespace L2
open PySem PySem.Spec PyProof.Rows
section
variable {prog : Program} {w : World} {A : Around} {E : Value → Shared → Prop} {s : Shared}
end
end L2
namespace L2
open PySem PySem.Spec PyProof.Rows
def tVarM (i : Nat) : TE := fun σ H Q => match σ[i]? with
  | some (some v) => Q v H
  | _ => False
theorem tVarM_le {i : Nat} {σ : St} {H : Hp} {Q : VK} (h : tVarM i σ H Q) : tVar i σ H Q := by
  unfold tVarM at h
  split at h
  · rename_i v e; exact ⟨v, e, h⟩
  · exact h.elim
theorem pvM {X : Cx} (i : Nat) {x : Str} {pos : Pos} (hN : X.N[i]? = some x := by rfl) (hv : Vis X.env.scope x := by first | exact Or.inl rfl | exact Or.inr (Or.inl rfl) | exact Or.inr (Or.inr rfl)) (hd : (x == ("__debug__" : Str)) = false := by decide)
    (hcd : (x == ("__classdict__" : Str)) = false := by decide) : PE X (.Name x pos) (tVarM i) := fun pins s σ H Q I h => pe_var hN hv hd hcd pins s σ H Q I (tVarM_le h)
theorem rI0_ii {g : Int → Int → V} {i j : Int} {H : Hp} {Q : VK} : rI0 g (.int i) (.int j) H Q = Q (g i j) H := propext ⟨fun ⟨_, _, e1, e2, h⟩ => by cases e1; cases e2; exact h, fun h => ⟨_, _, rfl, rfl, h⟩⟩
theorem rI_ii {C : Int → Int → Prop} {g : Int → Int → V} {i j : Int} {H : Hp} {Q : VK} : rI C g (.int i) (.int j) H Q = (C i j ∧ Q (g i j) H) := propext ⟨fun ⟨_, _, e1, e2, h⟩ => by cases e1; cases e2; exact h, fun h => ⟨_, _, rfl, rfl, h⟩⟩
theorem ex_int {c : Int} {P : Int → Prop} : (∃ i, V.int c = V.int i ∧ P i) = P c := propext ⟨fun ⟨_, e, h⟩ => by cases e; exact h, fun h => ⟨_, rfl, h⟩⟩
theorem ex_bl {c : Bool} {P : Bool → Prop} : (∃ i, V.bl c = V.bl i ∧ P i) = P c := propext ⟨fun ⟨_, e, h⟩ => by cases e; exact h, fun h => ⟨_, rfl, h⟩⟩
theorem ex_ref {c : Addr} {P : Addr → Prop} : (∃ i, V.ref c = V.ref i ∧ P i) = P c := propext ⟨fun ⟨_, e, h⟩ => by cases e; exact h, fun h => ⟨_, rfl, h⟩⟩
end L2
namespace L2
open PySem PySem.Spec PyProof.Rows
section
open PySem.Builtin PySem.Builtin.Str
end
end L2
namespace Hd
open PySem PySem.W PySem.Calls PyProof.Rows
def runT (tb : String → Option Builtin) (p : Program) (w : World) (n0 : Nat) (ann : Option Value) : Nat → SharedT → Thread → Option SharedT
  | 0, _, _ => none
  | n + 1, s, t => match through t with
    | true => some s
    | false => match stepOk n0 ann t with
      | false => none
      | true => match stepT (denote tb) p w s t with
        | some (s', t') => runT tb p w n0 ann n s' t'
        | none => none
theorem runT_of {tb : String → Option Builtin} {p : Program} {w : World} {n0 : Nat} {ann : Option Value} : ∀ {n : Nat} {s r : SharedT} {t : Thread}, runT tb p w n0 ann n s t = some r → topRun tb p w n0 ann n s.abs t = some r.abs
  | 0, _, _, _, h => by cases h
  | n + 1, s, r, t, h => by
    unfold runT at h
    unfold topRun
    cases he : through t with
    | true => rw [he] at h; cases h; rfl
    | false =>
      rw [he] at h
      cases hk : stepOk n0 ann t with
      | false => rw [hk] at h; cases h
      | true =>
        rw [hk] at h
        cases hs : stepT (denote tb) p w s t with
        | none => rw [hs] at h; cases h
        | some x => obtain ⟨s2, t2⟩ := x; rw [hs] at h; rw [stepT_spec hs]; exact runT_of h
def grow : List Obj → Nat → BT → BT
  | [], _, t => t
  | o :: l, n, t => grow l (n + 1) (t.ins n o)
noncomputable def bootT (P : Params) : BT := grow (boot_heap P).objs.toList 0 .nil
noncomputable def bootS (w : World) (os : OsState) : SharedT := ⟨bootT w.params, (boot_heap w.params).objs.size, (boot_heap w.params).life, #[], boot_drawn, boot_toks, os⟩
theorem boot_abs (w : World) (os : OsState) : (bootS w os).abs = ⟨boot_heap w.params, #[], boot_drawn, boot_toks, os⟩ := by kernel_rfl
theorem boot_size (w : World) : ((boot_heap w.params).isNs mainGlobals && (#[] : Array GenState).size == 0) = true := by kernel_rfl
noncomputable abbrev ann0 (w : World) : Option Value := (boot_heap w.params).nsMap mainGlobals "__annotations__"
def look {α : Type} (p : Program) (Yf : Shared → α) (H0 : Heap) (s : Shared) : Bool × α :=
  (staticsOk (importedModules p.main.body) H0 s.heap && namesBound p s.heap && gensDone s && laidKept H0 s.heap, Yf s)
noncomputable def ran (p : Program) (N : Nat) (w : World) (os : OsState) : Option SharedT := runT treeTable p w (boot_heap w.params).objs.size (ann0 w) N (bootS w os) (topStub p)
noncomputable def once {α : Type} (p : Program) (Yf : Shared → α) (N : Nat) (w : World) (os : OsState) := (ran p N w os).map fun s => look p Yf (boot_heap w.params) s.abs
noncomputable def seen (p q : Program) (loose : List Str) (Xt : Shared → Bool) (N : Nat) (w : World) (os : OsState) := (ran p N w os).map fun s => openSeen q loose (importedModules p.main.body) Xt true s.abs
theorem left_once {p q : Program} {loose : List Str} {Xt : Shared → Bool} {α : Type} {Yf : Shared → α} {Ya : World → α} {N : Nat}
    (e : opening p = plainProg p.main.scope.names) (hN : Nat.ble 600 N = true) (f : ∀ s, fenceModules? p s = some s)
    (one : ∀ (w : World) (os : OsState), once p Yf N w os = some (true, Ya w)) (two : ∀ (w : World) (os : OsState), seen p q loose Xt N w os = some (openGood q loose)) : LeftO p q loose Xt Yf Ya N := fun w => by
  obtain ⟨⟨h, gs, d, k, os⟩, e1, e2⟩ := Option.map_eq_some_iff.mp (boot_open e hN f w)
  obtain ⟨rfl, rfl, rfl, rfl⟩ : h = boot_heap w.params ∧ gs = #[] ∧ d = boot_drawn ∧ k = boot_toks := by simpa using e2
  obtain ⟨sT, r, l⟩ := Option.map_eq_some_iff.mp (one w os)
  obtain ⟨sT', r', l2⟩ := Option.map_eq_some_iff.mp (two w os)
  obtain rfl : sT = sT' := Option.some.inj (r.symm.trans r')
  have r := runT_of r
  rw [boot_abs] at r
  obtain ⟨l1, l3⟩ : _ ∧ _ := by simpa only [look, Prod.mk.injEq] using l
  have t : topFrom treeTable p w N ⟨boot_heap w.params, #[], boot_drawn, boot_toks, os⟩ = some sT.abs := by
    unfold topFrom
    dsimp only
    rw [boot_size w, r]
    show (match staticsOk (importedModules p.main.body) (boot_heap w.params) sT.abs.heap && namesBound p sT.abs.heap && gensDone sT.abs && laidKept (boot_heap w.params) sT.abs.heap with | true => _ | false => _) = _
    rw [l1]
  unfold openEnds
  rw [e1]
  show (topFrom treeTable p w N _).map _ = _
  rw [t]
  exact congrArg some (Prod.ext l2 l3)
end Hd
namespace Hd
open PySem PySem.W
def dig : Nat → Nat → List Nat
  | 0, _ => []
  | k + 1, n => match Nat.beq n 0 with
    | true => []
    | false => Nat.sub (n % 256) 1 :: dig k (n / 256)
def S (n : Nat) : Str := ⟨⟨dig 200 n⟩⟩
def ent (P : Params) (x : Str) (t : Nat) (v : Value) : DictEntry := ⟨PyData.keyHash P x, .str x t, v⟩
def dO (n : Nat) (l : List DictEntry) : Obj := ⟨.type "dict", none, .dict ⟨l⟩ n, #[]⟩
def tO (l : List Value) : Obj := ⟨.type "tuple", none, .seq ⟨l⟩ 0, #[]⟩
def cO (l : List Value) : Obj := ⟨.type "code", none, .fields ⟨l⟩, #[]⟩
end Hd
namespace Hd
open PySem PySem.W PySem.Calls PyProof.Rows
def goT (tb : String → Option Builtin) (p : Program) (w : World) (n0 : Nat) (ann : Option Value) : Nat → SharedT → Thread → Option (SharedT × Thread)
  | 0, s, t => some (s, t)
  | n + 1, s, t => match through t with
    | true => none
    | false => match stepOk n0 ann t with
      | false => none
      | true => match stepT (denote tb) p w s t with
        | some (s', t') => goT tb p w n0 ann n s' t'
        | none => none
end Hd
namespace Hd
open PySem PySem.W PySem.Calls PyProof.Rows
theorem tw_run : (fun (_ : (String → Option Builtin) → Program → World → Nat → Option Value → Nat → SharedT → Thread → Option SharedT) => true) runT = true := by k_qdec
theorem tw_go : (fun (_ : (String → Option Builtin) → Program → World → Nat → Option Value → Nat → SharedT → Thread → Option (SharedT × Thread)) => true) goT = true := by k_qdec
theorem tw_boot : (fun (_ : World → OsState → SharedT) (_ : World → Option Value) => true) bootS ann0 = true := by k_qdec
theorem tw_look : (fun (_ : {α : Type} → Program → (Shared → α) → Heap → Shared → Bool × α) => true) @look = true := by k_qdec
theorem tw_once : (fun (_ : {α : Type} → Program → (Shared → α) → Nat → World → OsState → Option (Bool × α)) => true) @once = true := by k_qdec
theorem tw_seen : (fun (_ : Program → Program → List Str → (Shared → Bool) → Nat → World → OsState → Option _) => true) seen = true := by k_qdec
end Hd
namespace L2
open PySem PySem.Spec PyProof.Rows
structure RoomH (k : Nat) (A : Around) : Prop where
  dp : A.depth + 3 * k + 5 < recursionLimit
  un : A.units + 16 * k + 200 < cLine
theorem Room.h {k : Nat} {A : Around} (r : Room k A) : RoomH k A := ⟨r.dp, r.un⟩
theorem RoomH.deeper {k : Nat} {A : Around} (r : RoomH (k + 1) A) (env : Env) : RoomH k (A.deeper env) :=
  ⟨by have := r.dp; show A.depth + 1 + 3 * k + 5 < _; omega, by have := r.un; show A.units + 3 + 16 * k + 200 < _; omega⟩
def cxOfH (P : Program) (w : World) (K : PySem.W.Frag) (mg : Str → Option Value) (base : Heap) (N : List Str) (qual : Str) (scope : Scope) (f : Addr) (cd : Value) (A : Around) (outer : List Env) (s : Shared) (H : Hp) (E : XK) : Cx :=
  { cxOf (CXe P w) P w K mg base N qual scope f cd A outer s H E with calm := false }
theorem cxOfH_K {P : Program} {w : World} {K : PySem.W.Frag} {mg : Str → Option Value} {base : Heap} {N : List Str} {qual : Str} {scope : Scope} {f : Addr} {cd : Value} {A : Around} {outer : List Env} {s : Shared} {H : Hp} {E : XK} : (cxOfH P w K mg base N qual scope f cd A outer s H E).K = K := rfl
end L2
namespace L2
open PySem PySem.Spec PyProof.Rows
def BindsK (K : PySem.W.Frag) (fd : FuncData) (ps ks : List Str) : Prop := ∀ (s : Shared) (us : List Value) (a b : Value), K.In s.heap → us.length + 2 = ps.length → BindsTo s fd ⟨us, ks.zip [a, b]⟩ (ps.zip (us ++ [b, a]))
def RawMK (K : PySem.W.Frag) (C : Addr) (m qual : Str) (st : Stmt) (ps ks : List Str) : Prop := ∃ f fd, Meth K C m f ∧ FunD K m qual st f fd ∧ BindsK K fd ps ks
def HaveMK (P : Program) (w : World) (K : PySem.W.Frag) (mg : Str → Option Value) (base : Heap) (C : Addr) (m : Str) (k : Nat) (ps ks : List Str) (sp : Sp) : Prop :=
  ∃ f fd, Meth K C m f ∧ BindsK K fd ps ks ∧ FnOk P w K mg base (CXe P w) k f fd ps sp
theorem RawMK.have {P : Program} {w : World} {K : PySem.W.Frag} {mg : Str → Option Value} {base : Heap} {C : Addr} {m qual : Str} {st : Stmt} {N ps ks : List Str} {k : Nat} {sp : Sp} (R : RawMK K C m qual st ps ks) (S : FnScope N ps (defScope st)) (len : ∀ vs H Q E, sp vs H Q E → vs.length = ps.length)
    (hbody : Body P w K mg base qual st N k sp) : HaveMK P w K mg base C m (k + 1) ps ks sp :=
  let ⟨f, fd, hm, F, hb⟩ := R
  ⟨f, fd, hm, hb, F.okE S len hbody⟩
end L2
namespace L2
open PySem PySem.Spec PyProof.Rows
end L2
namespace L2
open PySem PySem.Spec PyProof.Rows
end L2
namespace L2
open PySem PySem.Spec PyProof.Rows
section
variable {prog : Program} {w : World} {A : Around} {E : Value → Shared → Prop} {s : Shared}
end
section
variable {X : Cx}
end
end L2
namespace L2
open PySem PySem.Spec PyProof.Rows
section
variable {prog : Program} {w : World} {A : Around} {E : Value → Shared → Prop} {s : Shared}
end
section
variable {X : Cx}
end
end L2
namespace L2
open PySem PySem.Spec PyProof.Rows
section
variable {X : Cx} {pins : List (Addr × Obj)} {σ : List (Option V)} {H : Hp} {s : Shared} {a : Addr}
end
end L2
set_option hygiene false in
local macro_rules | `(tactic| walk_at "wp") => `(tactic| simp only [↓L2.rI0_ii, ↓L2.rI_ii, ↓L2.ex_int, ↓L2.ex_bl, ↓L2.ex_ref, L2.tSeq, L2.tNext, L2.tAsg, L2.gName, L2.tRet, L2.tRetN, L2.tDrop, L2.tIfS, L2.tIf, L2.tTest, L2.tB, L2.tOp, L2.tUn, L2.tVar, L2.tVarM, L2.tC, L2.rI, L2.rI0, L2.rU, L2.tAnd, L2.tOr, L2.tNot, L2.tAndV, L2.tNotV, L2.tCallE, L2.tMethE, L2.tMakeE, L2.tCB, L2.tCons, L2.tNil, L2.tChain, L2.tLst, L2.tTup, L2.rIxL, L2.rIxT, L2.rIx2, L2.tFld, L2.sFld, L2.tRaise, L2.rEq, L2.rNe, L2.start, L2.CDiv, L2.CPow, L2.CMul, L2.kn_int, L2.kn_bl, L2.kn_str, L2.cxOf_K, L2.cxOfH_K, L2.scal_ii, L2.scal_bb, L2.scal_ss, L2.rIxH, L2.lstO_lst, L2.tupO_tup, L2.upd_same, L2.upd_upd, L2.HO.ins.injEq, L2.rSlL, L2.tSl, L2.tPart, L2.tNoPart, L2.clsV_ref, L2.clsV_ty, L2.tForE, L2.iRng1, L2.iList, L2.tDNewK, L2.tBM, L2.tBM0, L2.rAppend, L2.rReverse, L2.gSub, L2.rSetL, L2.tComp, L2.tYes, Option.join_some, Option.join_none, PySem.sizeLine_eq, Nat.reduceLeDiff, eq_self, decide_eq_true_eq, 
  List.map_cons, List.map_nil, List.length_cons, List.length_nil, List.cons_append, List.nil_append, List.append_nil, List.replicate, Nat.reduceSub, Nat.reduceAdd, List.getElem?_cons_zero, List.getElem?_cons_succ, List.set_cons_zero, List.set_cons_succ,
  Option.some.injEq, List.cons.injEq, L2.V.int.injEq, L2.V.bl.injEq, L2.V.ref.injEq, L2.V.ty.injEq, L2.V.str.injEq, exists_eq_left, exists_eq_left', exists_and_left, exists_eq', exists_const, and_assoc, and_true, true_and, ↓reduceIte, Int.reduceLE, Int.reduceLT, Nat.reducePow, Int.reducePow, Int.reduceNeg, L2.na10, Nat.reduceLT, Int.reduceToNat, Int.reduceAdd, Int.reduceMul, Int.reduceSub, true_or, or_true, decide_true, decide_false])
namespace Pf
open PySem L2
def top (i : Nat) : Stmt := PySem.Challenge.pw_frameland_k72_book_true.main.body.getD i (.Pass ⟨0, 0, 0, 0⟩)
abbrev s_is_whole : Stmt := top 19
theorem sc_is_whole : FnScope ["thing"] ["thing"] (defScope s_is_whole) := ⟨rfl, rfl, rfl, by decide +kernel, rfl, by decide +kernel, by decide +kernel⟩
abbrev s_is_within : Stmt := top 20
theorem sc_is_within : FnScope ["thing", "low", "high"] ["thing", "low", "high"] (defScope s_is_within) := ⟨rfl, rfl, rfl, by decide +kernel, rfl, by decide +kernel, by decide +kernel⟩
abbrev s_power_of_two : Stmt := top 22
theorem sc_power_of_two : FnScope ["exponent", "power", "doubling"] ["exponent"] (defScope s_power_of_two) := ⟨rfl, rfl, rfl, by decide +kernel, rfl, by decide +kernel, by decide +kernel⟩
abbrev s_check_measures : Stmt := top 23
theorem sc_check_measures : FnScope ["levels", "fan", "grain"] ["levels", "fan", "grain"] (defScope s_check_measures) := ⟨rfl, rfl, rfl, by decide +kernel, rfl, by decide +kernel, by decide +kernel⟩
abbrev s_Shape_init : Stmt := inClass (top 24) 0
theorem sc_Shape_init : FnScope ["self", "levels", "fan", "grain"] ["self", "levels", "fan", "grain"] (defScope s_Shape_init) := ⟨rfl, rfl, rfl, by decide +kernel, rfl, by decide +kernel, by decide +kernel⟩
abbrev s_Shape_has_page : Stmt := inClass (top 24) 3
theorem sc_Shape_has_page : FnScope ["self", "page"] ["self", "page"] (defScope s_Shape_has_page) := ⟨rfl, rfl, rfl, by decide +kernel, rfl, by decide +kernel, by decide +kernel⟩
abbrev s_Shape_check_page : Stmt := inClass (top 24) 4
theorem sc_Shape_check_page : FnScope ["self", "page"] ["self", "page"] (defScope s_Shape_check_page) := ⟨rfl, rfl, rfl, by decide +kernel, rfl, by decide +kernel, by decide +kernel⟩
abbrev s_Shape_steps : Stmt := inClass (top 24) 8
theorem sc_Shape_steps : FnScope ["self", "page", "figures", "rest", "level"] ["self", "page"] (defScope s_Shape_steps) := ⟨rfl, rfl, rfl, by decide +kernel, rfl, by decide +kernel, by decide +kernel⟩
abbrev s_look_at : Stmt := top 6
theorem sc_look_at : FnScope ["top", "steps", "found", "step"] ["top", "steps"] (defScope s_look_at) := ⟨rfl, rfl, rfl, by decide +kernel, rfl, by decide +kernel, by decide +kernel⟩
abbrev s_put_at : Stmt := top 7
theorem sc_put_at : FnScope ["top", "steps", "entry", "level", "step"] ["top", "steps", "entry"] (defScope s_put_at) := ⟨rfl, rfl, rfl, by decide +kernel, rfl, by decide +kernel, by decide +kernel⟩
abbrev s_drop_at : Stmt := top 8
theorem sc_drop_at : FnScope ["level", "steps", "step"] ["level", "steps"] (defScope s_drop_at) := ⟨rfl, rfl, rfl, by decide +kernel, rfl, by decide +kernel, by decide +kernel⟩
abbrev s_Table_init : Stmt := inClass (top 11) 0
theorem sc_Table_init : FnScope ["self", "shape"] ["self", "shape"] (defScope s_Table_init) := ⟨rfl, rfl, rfl, by decide +kernel, rfl, by decide +kernel, by decide +kernel⟩
abbrev s_Table_put : Stmt := inClass (top 11) 1
theorem sc_Table_put : FnScope ["self", "page", "entry"] ["self", "page", "entry"] (defScope s_Table_put) := ⟨rfl, rfl, rfl, by decide +kernel, rfl, by decide +kernel, by decide +kernel⟩
abbrev s_Table_look : Stmt := inClass (top 11) 2
theorem sc_Table_look : FnScope ["self", "page"] ["self", "page"] (defScope s_Table_look) := ⟨rfl, rfl, rfl, by decide +kernel, rfl, by decide +kernel, by decide +kernel⟩
abbrev s_Table_drop : Stmt := inClass (top 11) 3
theorem sc_Table_drop : FnScope ["self", "page"] ["self", "page"] (defScope s_Table_drop) := ⟨rfl, rfl, rfl, by decide +kernel, rfl, by decide +kernel, by decide +kernel⟩
abbrev s_swept : Stmt := top 2
theorem sc_swept : FnScope ["marks", "hand", "passed", "place"] ["marks", "hand"] (defScope s_swept) := ⟨rfl, rfl, rfl, by decide +kernel, rfl, by decide +kernel, by decide +kernel⟩
abbrev s_Book_init : Stmt := inClass (top 4) 0
theorem sc_Book_init : FnScope ["self", "many"] ["self", "many"] (defScope s_Book_init) := ⟨rfl, rfl, rfl, by decide +kernel, rfl, by decide +kernel, by decide +kernel⟩
abbrev s_Book_look : Stmt := inClass (top 4) 1
theorem sc_Book_look : FnScope ["self", "task", "page", "place"] ["self", "task", "page"] (defScope s_Book_look) := ⟨rfl, rfl, rfl, by decide +kernel, rfl, by decide +kernel, by decide +kernel⟩
abbrev s_Book_use : Stmt := inClass (top 4) 2
theorem sc_Book_use : FnScope ["self", "task", "page", "place"] ["self", "task", "page"] (defScope s_Book_use) := ⟨rfl, rfl, rfl, by decide +kernel, rfl, by decide +kernel, by decide +kernel⟩
abbrev s_Book_keep : Stmt := inClass (top 4) 3
theorem sc_Book_keep : FnScope ["self", "task", "page", "entry", "place"] ["self", "task", "page", "entry"] (defScope s_Book_keep) := ⟨rfl, rfl, rfl, by decide +kernel, rfl, by decide +kernel, by decide +kernel⟩
abbrev s_Book_strike : Stmt := inClass (top 4) 4
theorem sc_Book_strike : FnScope ["self", "task", "page", "place"] ["self", "task", "page"] (defScope s_Book_strike) := ⟨rfl, rfl, rfl, by decide +kernel, rfl, by decide +kernel, by decide +kernel⟩
abbrev s_Book_strike_task : Stmt := inClass (top 4) 5
theorem sc_Book_strike_task : FnScope ["self", "task", "key"] ["self", "task"] (defScope s_Book_strike_task) := ⟨rfl, rfl, rfl, by decide +kernel, rfl, by decide +kernel, by decide +kernel⟩
abbrev s_Book_told : Stmt := inClass (top 4) 6
theorem sc_Book_told : FnScope ["self"] ["self"] (defScope s_Book_told) := ⟨rfl, rfl, rfl, by decide +kernel, rfl, by decide +kernel, by decide +kernel⟩
abbrev s_Book_place_for_new : Stmt := inClass (top 4) 7
theorem sc_Book_place_for_new : FnScope ["self", "choice", "place", "row", "gone"] ["self"] (defScope s_Book_place_for_new) := ⟨rfl, rfl, rfl, by decide +kernel, rfl, by decide +kernel, by decide +kernel⟩
abbrev s_Entries_init : Stmt := inClass (top 13) 0
theorem sc_Entries_init : FnScope ["self", "shape", "places"] ["self", "shape", "places"] (defScope s_Entries_init) := ⟨rfl, rfl, rfl, by decide +kernel, rfl, by decide +kernel, by decide +kernel⟩
abbrev s_Entries_open_task : Stmt := inClass (top 13) 1
theorem sc_Entries_open_task : FnScope ["self", "task"] ["self", "task"] (defScope s_Entries_open_task) := ⟨rfl, rfl, rfl, by decide +kernel, rfl, by decide +kernel, by decide +kernel⟩
abbrev s_Entries_close_task : Stmt := inClass (top 13) 2
theorem sc_Entries_close_task : FnScope ["self", "task"] ["self", "task"] (defScope s_Entries_close_task) := ⟨rfl, rfl, rfl, by decide +kernel, rfl, by decide +kernel, by decide +kernel⟩
abbrev s_Entries_open_bank : Stmt := inClass (top 13) 3
theorem sc_Entries_open_bank : FnScope ["self", "bank", "many"] ["self", "bank", "many"] (defScope s_Entries_open_bank) := ⟨rfl, rfl, rfl, by decide +kernel, rfl, by decide +kernel, by decide +kernel⟩
abbrev s_Entries_look : Stmt := inClass (top 13) 5
theorem sc_Entries_look : FnScope ["self", "holder"] ["self", "holder"] (defScope s_Entries_look) := ⟨rfl, rfl, rfl, by decide +kernel, rfl, by decide +kernel, by decide +kernel⟩
abbrev s_Entries_put : Stmt := inClass (top 13) 6
theorem sc_Entries_put : FnScope ["self", "holder", "entry"] ["self", "holder", "entry"] (defScope s_Entries_put) := ⟨rfl, rfl, rfl, by decide +kernel, rfl, by decide +kernel, by decide +kernel⟩
abbrev s_Entries_take : Stmt := inClass (top 13) 7
theorem sc_Entries_take : FnScope ["self", "holder"] ["self", "holder"] (defScope s_Entries_take) := ⟨rfl, rfl, rfl, by decide +kernel, rfl, by decide +kernel, by decide +kernel⟩
abbrev s_Entries_remember : Stmt := inClass (top 13) 8
theorem sc_Entries_remember : FnScope ["self", "task", "page", "entry"] ["self", "task", "page"] (defScope s_Entries_remember) := ⟨rfl, rfl, rfl, by decide +kernel, rfl, by decide +kernel, by decide +kernel⟩
abbrev s_Entries_recall : Stmt := inClass (top 13) 9
theorem sc_Entries_recall : FnScope ["self", "task", "page"] ["self", "task", "page"] (defScope s_Entries_recall) := ⟨rfl, rfl, rfl, by decide +kernel, rfl, by decide +kernel, by decide +kernel⟩
abbrev s_Entries_use : Stmt := inClass (top 13) 10
theorem sc_Entries_use : FnScope ["self", "task", "page"] ["self", "task", "page"] (defScope s_Entries_use) := ⟨rfl, rfl, rfl, by decide +kernel, rfl, by decide +kernel, by decide +kernel⟩
abbrev s_Entries_told_book : Stmt := inClass (top 13) 14
theorem sc_Entries_told_book : FnScope ["self"] ["self"] (defScope s_Entries_told_book) := ⟨rfl, rfl, rfl, by decide +kernel, rfl, by decide +kernel, by decide +kernel⟩
abbrev s_l_cell_at : Stmt := top 26
theorem sc_l_cell_at : FnScope ["_law_script", "_law_k"] ["_law_script", "_law_k"] (defScope s_l_cell_at) := ⟨rfl, rfl, rfl, by decide +kernel, rfl, by decide +kernel, by decide +kernel⟩
abbrev s_l_mix : Stmt := top 27
theorem sc_l_mix : FnScope ["_law_cell", "_law_k", "_law_many", "_law_prime", "_law_mixed"] ["_law_cell", "_law_k", "_law_many"] (defScope s_l_mix) := ⟨rfl, rfl, rfl, by decide +kernel, rfl, by decide +kernel, by decide +kernel⟩
abbrev s_l_value : Stmt := top 28
theorem sc_l_value : FnScope ["_law_cell"] ["_law_cell"] (defScope s_l_value) := ⟨rfl, rfl, rfl, by decide +kernel, rfl, by decide +kernel, by decide +kernel⟩
abbrev s_l_doubled : Stmt := top 29
theorem sc_l_doubled : FnScope ["_law_times", "_law_many", "_law_k"] ["_law_times"] (defScope s_l_doubled) := ⟨rfl, rfl, rfl, by decide +kernel, rfl, by decide +kernel, by decide +kernel⟩
abbrev s_l_like : Stmt := top 30
theorem sc_l_like : FnScope ["_law_found", "_law_due", "_law_k"] ["_law_found", "_law_due"] (defScope s_l_like) := ⟨rfl, rfl, rfl, by decide +kernel, rfl, by decide +kernel, by decide +kernel⟩
abbrev s_l_true : Stmt := top 31
theorem sc_l_true : FnScope ["_law_entries", "_law_kept", "_law_row"] ["_law_entries", "_law_kept"] (defScope s_l_true) := ⟨rfl, rfl, rfl, by decide +kernel, rfl, by decide +kernel, by decide +kernel⟩
abbrev s_l_change : Stmt := top 32
theorem sc_l_change : FnScope ["_law_entries", "_law_kept", "_law_beside", "_law_task", "_law_page", "_law_cell", "_law_holder", "_law_kind", "_law_entry", "_law_before"] ["_law_entries", "_law_kept", "_law_beside", "_law_task", "_law_page", "_law_cell"] (defScope s_l_change) := ⟨rfl, rfl, rfl, by decide +kernel, rfl, by decide +kernel, by decide +kernel⟩
abbrev s_l_close : Stmt := top 33
theorem sc_l_close : FnScope ["_law_entries", "_law_kept", "_law_beside", "_law_task", "_law_key"] ["_law_entries", "_law_kept", "_law_beside", "_law_task"] (defScope s_l_close) := ⟨rfl, rfl, rfl, by decide +kernel, rfl, by decide +kernel, by decide +kernel⟩
abbrev s_l_bank_deed : Stmt := top 34
theorem sc_l_bank_deed : FnScope ["_law_entries", "_law_bank", "_law_page", "_law_cell"] ["_law_entries", "_law_bank", "_law_page", "_law_cell"] (defScope s_l_bank_deed) := ⟨rfl, rfl, rfl, by decide +kernel, rfl, by decide +kernel, by decide +kernel⟩
abbrev s_l_deed : Stmt := top 35
theorem sc_l_deed : FnScope ["_law_entries", "_law_kept", "_law_beside", "_law_task", "_law_page", "_law_cell", "_law_kind"] ["_law_entries", "_law_kept", "_law_beside", "_law_task", "_law_page", "_law_cell"] (defScope s_l_deed) := ⟨rfl, rfl, rfl, by decide +kernel, rfl, by decide +kernel, by decide +kernel⟩
abbrev s_law : Stmt := top 36
theorem sc_law : FnScope ["_law_script", "_law_levels", "_law_fan", "_law_pages", "_law_places", "_law_entries", "_law_beside", "_law_task", "_law_kept", "_law_cell", "_law_page"] ["_law_script"] (defScope s_law) := ⟨rfl, rfl, rfl, by decide +kernel, rfl, by decide +kernel, by decide +kernel⟩
structure Adr where
  C_Book : Addr
  C_Table : Addr
  C_Entries : Addr
  C_Shape : Addr
  C_NoShape : Addr
  C_OutOfRoom : Addr
structure Txt (K : PySem.W.Frag) (mg : Str → Option Value) (A : Adr) : Prop where
  b_bool : mg "bool" = none
  b_int : mg "int" = none
  b_isinstance : mg "isinstance" = none
  b_len : mg "len" = none
  b_list : mg "list" = none
  b_range : mg "range" = none
  b_str : mg "str" = none
  b_tuple : mg "tuple" = none
  r_is_whole : Raw K mg "is_whole" "is_whole" s_is_whole ["thing"] []
  r_is_within : Raw K mg "is_within" "is_within" s_is_within ["thing", "low", "high"] []
  r_power_of_two : Raw K mg "power_of_two" "power_of_two" s_power_of_two ["exponent"] []
  r_check_measures : Raw K mg "check_measures" "check_measures" s_check_measures ["levels", "fan", "grain"] []
  r_look_at : Raw K mg "look_at" "look_at" s_look_at ["top", "steps"] []
  r_put_at : Raw K mg "put_at" "put_at" s_put_at ["top", "steps", "entry"] []
  r_drop_at : Raw K mg "drop_at" "drop_at" s_drop_at ["level", "steps"] []
  r_swept : Raw K mg "swept" "swept" s_swept ["marks", "hand"] []
  r_l_cell_at : Raw K mg "_law_cell_at" "_law_cell_at" s_l_cell_at ["_law_script", "_law_k"] []
  r_l_mix : Raw K mg "_law_mix" "_law_mix" s_l_mix ["_law_cell", "_law_k", "_law_many"] []
  r_l_value : Raw K mg "_law_value" "_law_value" s_l_value ["_law_cell"] []
  r_l_doubled : Raw K mg "_law_doubled" "_law_doubled" s_l_doubled ["_law_times"] []
  r_l_like : Raw K mg "_law_like" "_law_like" s_l_like ["_law_found", "_law_due"] []
  r_l_true : Raw K mg "_law_true" "_law_true" s_l_true ["_law_entries", "_law_kept"] []
  r_l_change : Raw K mg "_law_change" "_law_change" s_l_change ["_law_entries", "_law_kept", "_law_beside", "_law_task", "_law_page", "_law_cell"] []
  r_l_close : Raw K mg "_law_close" "_law_close" s_l_close ["_law_entries", "_law_kept", "_law_beside", "_law_task"] []
  r_l_bank_deed : Raw K mg "_law_bank_deed" "_law_bank_deed" s_l_bank_deed ["_law_entries", "_law_bank", "_law_page", "_law_cell"] []
  r_l_deed : Raw K mg "_law_deed" "_law_deed" s_l_deed ["_law_entries", "_law_kept", "_law_beside", "_law_task", "_law_page", "_law_cell"] []
  cl_Book : Cls K A.C_Book
  na_Book_rows : NoAttr K A.C_Book "rows"
  na_Book_found : NoAttr K A.C_Book "found"
  na_Book_hand : NoAttr K A.C_Book "hand"
  r_Book_init : RawI K mg "Book" A.C_Book "Book.__init__" s_Book_init ["self", "many"] []
  r_Book_look : RawM K A.C_Book "look" "Book.look" s_Book_look ["self", "task", "page"] []
  r_Book_use : RawM K A.C_Book "use" "Book.use" s_Book_use ["self", "task", "page"] []
  r_Book_keep : RawM K A.C_Book "keep" "Book.keep" s_Book_keep ["self", "task", "page", "entry"] []
  r_Book_strike : RawM K A.C_Book "strike" "Book.strike" s_Book_strike ["self", "task", "page"] []
  r_Book_strike_task : RawM K A.C_Book "strike_task" "Book.strike_task" s_Book_strike_task ["self", "task"] []
  r_Book_told : RawM K A.C_Book "told" "Book.told" s_Book_told ["self"] []
  r_Book_place_for_new : RawM K A.C_Book "place_for_new" "Book.place_for_new" s_Book_place_for_new ["self"] []
  cl_Table : Cls K A.C_Table
  na_Table_shape : NoAttr K A.C_Table "shape"
  na_Table_top : NoAttr K A.C_Table "top"
  r_Table_init : RawI K mg "Table" A.C_Table "Table.__init__" s_Table_init ["self", "shape"] []
  r_Table_put : RawM K A.C_Table "put" "Table.put" s_Table_put ["self", "page", "entry"] []
  r_Table_look : RawM K A.C_Table "look" "Table.look" s_Table_look ["self", "page"] []
  r_Table_drop : RawM K A.C_Table "drop" "Table.drop" s_Table_drop ["self", "page"] []
  cl_Entries : Cls K A.C_Entries
  na_Entries_shape : NoAttr K A.C_Entries "shape"
  na_Entries_tables : NoAttr K A.C_Entries "tables"
  na_Entries_banks : NoAttr K A.C_Entries "banks"
  na_Entries_book : NoAttr K A.C_Entries "book"
  r_Entries_init : RawI K mg "Entries" A.C_Entries "Entries.__init__" s_Entries_init ["self", "shape", "places"] []
  r_Entries_open_task : RawM K A.C_Entries "open_task" "Entries.open_task" s_Entries_open_task ["self", "task"] []
  r_Entries_close_task : RawM K A.C_Entries "close_task" "Entries.close_task" s_Entries_close_task ["self", "task"] []
  r_Entries_open_bank : RawM K A.C_Entries "open_bank" "Entries.open_bank" s_Entries_open_bank ["self", "bank", "many"] []
  r_Entries_look : RawM K A.C_Entries "look" "Entries.look" s_Entries_look ["self", "holder"] []
  r_Entries_put : RawM K A.C_Entries "put" "Entries.put" s_Entries_put ["self", "holder", "entry"] []
  r_Entries_take : RawM K A.C_Entries "take" "Entries.take" s_Entries_take ["self", "holder"] []
  r_Entries_remember : RawM K A.C_Entries "remember" "Entries.remember" s_Entries_remember ["self", "task", "page"] []
  r_Entries_recall : RawM K A.C_Entries "recall" "Entries.recall" s_Entries_recall ["self", "task", "page"] []
  r_Entries_use : RawM K A.C_Entries "use" "Entries.use" s_Entries_use ["self", "task", "page"] []
  r_Entries_told_book : RawM K A.C_Entries "told_book" "Entries.told_book" s_Entries_told_book ["self"] []
  cl_Shape : Cls K A.C_Shape
  na_Shape_levels : NoAttr K A.C_Shape "levels"
  na_Shape_fan : NoAttr K A.C_Shape "fan"
  na_Shape_grain : NoAttr K A.C_Shape "grain"
  na_Shape_ways : NoAttr K A.C_Shape "ways"
  na_Shape_boxes : NoAttr K A.C_Shape "boxes"
  na_Shape_pages : NoAttr K A.C_Shape "pages"
  r_Shape_init : RawI K mg "Shape" A.C_Shape "Shape.__init__" s_Shape_init ["self", "levels", "fan", "grain"] []
  r_Shape_has_page : RawM K A.C_Shape "has_page" "Shape.has_page" s_Shape_has_page ["self", "page"] []
  r_Shape_check_page : RawM K A.C_Shape "check_page" "Shape.check_page" s_Shape_check_page ["self", "page"] []
  r_Shape_steps : RawM K A.C_Shape "steps" "Shape.steps" s_Shape_steps ["self", "page"] []
  m_NoShape : ∃ u, mg "NoShape" = some u ∧ RelV (.ref A.C_NoShape) u
  x_NoShape : XC K mg "NoShape" A.C_NoShape
  m_OutOfRoom : ∃ u, mg "OutOfRoom" = some u ∧ RelV (.ref A.C_OutOfRoom) u
  x_OutOfRoom : XC K mg "OutOfRoom" A.C_OutOfRoom
  r_law : ∃ f fd, mg "law" = some (.ref f) ∧ Fun K "law" "law" s_law f fd ∧ ∀ (s : Shared) (u : Value), BindsTo s fd ⟨[u], []⟩ [("_law_script", u)]
theorem el1 {P : List Value → Prop} (h : ∀ a0, P [a0]) : ∀ us : List Value, us.length = 1 → P us
  | [a0], _ => h a0
theorem el2 {P : List Value → Prop} (h : ∀ a0 a1, P [a0, a1]) : ∀ us : List Value, us.length = 2 → P us
  | [a0, a1], _ => h a0 a1
theorem el3 {P : List Value → Prop} (h : ∀ a0 a1 a2, P [a0, a1, a2]) : ∀ us : List Value, us.length = 3 → P us
  | [a0, a1, a2], _ => h a0 a1 a2
theorem el4 {P : List Value → Prop} (h : ∀ a0 a1 a2 a3, P [a0, a1, a2, a3]) : ∀ us : List Value, us.length = 4 → P us
  | [a0, a1, a2, a3], _ => h a0 a1 a2 a3
theorem el6 {P : List Value → Prop} (h : ∀ a0 a1 a2 a3 a4 a5, P [a0, a1, a2, a3, a4, a5]) : ∀ us : List Value, us.length = 6 → P us
  | [a0, a1, a2, a3, a4, a5], _ => h a0 a1 a2 a3 a4 a5
theorem txt_mk {K : PySem.W.Frag} {h : Heap} {mg : Str → Option Value} (X : K.In h) (G : h.Ns mainGlobals mg)
    {C_OutOfRoom : Addr}
    {C_NoShape : Addr}
    {C_Shape : Addr}
    {C_Entries : Addr}
    {C_Table : Addr}
    {C_Book : Addr}
    {f_0 : Addr} {od_0 an_0 : Option Addr} {sl_0 : Array (Option Value)} {oc_0 kV_0 dc_0 pm_0 cd_0 ct_0 : Value}
    {f_1 : Addr} {od_1 an_1 : Option Addr} {sl_1 : Array (Option Value)} {oc_1 kV_1 dc_1 pm_1 cd_1 ct_1 : Value}
    {f_2 : Addr} {od_2 an_2 : Option Addr} {sl_2 : Array (Option Value)} {oc_2 kV_2 dc_2 pm_2 cd_2 ct_2 : Value}
    {f_3 : Addr} {od_3 an_3 : Option Addr} {sl_3 : Array (Option Value)} {oc_3 kV_3 dc_3 pm_3 cd_3 ct_3 : Value}
    {f_4 : Addr} {od_4 an_4 : Option Addr} {sl_4 : Array (Option Value)} {oc_4 kV_4 dc_4 pm_4 cd_4 ct_4 : Value}
    {f_5 : Addr} {od_5 an_5 : Option Addr} {sl_5 : Array (Option Value)} {oc_5 kV_5 dc_5 pm_5 cd_5 ct_5 : Value}
    {f_6 : Addr} {od_6 an_6 : Option Addr} {sl_6 : Array (Option Value)} {oc_6 kV_6 dc_6 pm_6 cd_6 ct_6 : Value}
    {f_7 : Addr} {od_7 an_7 : Option Addr} {sl_7 : Array (Option Value)} {oc_7 kV_7 dc_7 pm_7 cd_7 ct_7 : Value}
    {f_8 : Addr} {od_8 an_8 : Option Addr} {sl_8 : Array (Option Value)} {oc_8 kV_8 dc_8 pm_8 cd_8 ct_8 : Value}
    {f_9 : Addr} {od_9 an_9 : Option Addr} {sl_9 : Array (Option Value)} {oc_9 kV_9 dc_9 pm_9 cd_9 ct_9 : Value}
    {f_10 : Addr} {od_10 an_10 : Option Addr} {sl_10 : Array (Option Value)} {oc_10 kV_10 dc_10 pm_10 cd_10 ct_10 : Value}
    {f_11 : Addr} {od_11 an_11 : Option Addr} {sl_11 : Array (Option Value)} {oc_11 kV_11 dc_11 pm_11 cd_11 ct_11 : Value}
    {f_12 : Addr} {od_12 an_12 : Option Addr} {sl_12 : Array (Option Value)} {oc_12 kV_12 dc_12 pm_12 cd_12 ct_12 : Value}
    {f_13 : Addr} {od_13 an_13 : Option Addr} {sl_13 : Array (Option Value)} {oc_13 kV_13 dc_13 pm_13 cd_13 ct_13 : Value}
    {f_14 : Addr} {od_14 an_14 : Option Addr} {sl_14 : Array (Option Value)} {oc_14 kV_14 dc_14 pm_14 cd_14 ct_14 : Value}
    {f_15 : Addr} {od_15 an_15 : Option Addr} {sl_15 : Array (Option Value)} {oc_15 kV_15 dc_15 pm_15 cd_15 ct_15 : Value}
    {f_16 : Addr} {od_16 an_16 : Option Addr} {sl_16 : Array (Option Value)} {oc_16 kV_16 dc_16 pm_16 cd_16 ct_16 : Value}
    {f_17 : Addr} {od_17 an_17 : Option Addr} {sl_17 : Array (Option Value)} {oc_17 kV_17 dc_17 pm_17 cd_17 ct_17 : Value}
    {f_18 : Addr} {od_18 an_18 : Option Addr} {sl_18 : Array (Option Value)} {oc_18 kV_18 dc_18 pm_18 cd_18 ct_18 : Value}
    {f_19 : Addr} {od_19 an_19 : Option Addr} {sl_19 : Array (Option Value)} {oc_19 kV_19 dc_19 pm_19 cd_19 ct_19 : Value}
    {f_20 : Addr} {od_20 an_20 : Option Addr} {sl_20 : Array (Option Value)} {oc_20 kV_20 dc_20 pm_20 cd_20 ct_20 : Value}
    {f_21 : Addr} {od_21 an_21 : Option Addr} {sl_21 : Array (Option Value)} {oc_21 kV_21 dc_21 pm_21 cd_21 ct_21 : Value}
    {f_22 : Addr} {od_22 an_22 : Option Addr} {sl_22 : Array (Option Value)} {oc_22 kV_22 dc_22 pm_22 cd_22 ct_22 : Value}
    {f_23 : Addr} {od_23 an_23 : Option Addr} {sl_23 : Array (Option Value)} {oc_23 kV_23 dc_23 pm_23 cd_23 ct_23 : Value}
    {f_24 : Addr} {od_24 an_24 : Option Addr} {sl_24 : Array (Option Value)} {oc_24 kV_24 dc_24 pm_24 cd_24 ct_24 : Value}
    {f_25 : Addr} {od_25 an_25 : Option Addr} {sl_25 : Array (Option Value)} {oc_25 kV_25 dc_25 pm_25 cd_25 ct_25 : Value}
    {f_26 : Addr} {od_26 an_26 : Option Addr} {sl_26 : Array (Option Value)} {oc_26 kV_26 dc_26 pm_26 cd_26 ct_26 : Value}
    {f_27 : Addr} {od_27 an_27 : Option Addr} {sl_27 : Array (Option Value)} {oc_27 kV_27 dc_27 pm_27 cd_27 ct_27 : Value}
    {f_28 : Addr} {od_28 an_28 : Option Addr} {sl_28 : Array (Option Value)} {oc_28 kV_28 dc_28 pm_28 cd_28 ct_28 : Value}
    {f_29 : Addr} {od_29 an_29 : Option Addr} {sl_29 : Array (Option Value)} {oc_29 kV_29 dc_29 pm_29 cd_29 ct_29 : Value}
    {f_30 : Addr} {od_30 an_30 : Option Addr} {sl_30 : Array (Option Value)} {oc_30 kV_30 dc_30 pm_30 cd_30 ct_30 : Value}
    {f_31 : Addr} {od_31 an_31 : Option Addr} {sl_31 : Array (Option Value)} {oc_31 kV_31 dc_31 pm_31 cd_31 ct_31 : Value}
    {f_32 : Addr} {od_32 an_32 : Option Addr} {sl_32 : Array (Option Value)} {oc_32 kV_32 dc_32 pm_32 cd_32 ct_32 : Value}
    {f_33 : Addr} {od_33 an_33 : Option Addr} {sl_33 : Array (Option Value)} {oc_33 kV_33 dc_33 pm_33 cd_33 ct_33 : Value}
    {f_34 : Addr} {od_34 an_34 : Option Addr} {sl_34 : Array (Option Value)} {oc_34 kV_34 dc_34 pm_34 cd_34 ct_34 : Value}
    {f_35 : Addr} {od_35 an_35 : Option Addr} {sl_35 : Array (Option Value)} {oc_35 kV_35 dc_35 pm_35 cd_35 ct_35 : Value}
    {f_36 : Addr} {od_36 an_36 : Option Addr} {sl_36 : Array (Option Value)} {oc_36 kV_36 dc_36 pm_36 cd_36 ct_36 : Value}
    {f_37 : Addr} {od_37 an_37 : Option Addr} {sl_37 : Array (Option Value)} {oc_37 kV_37 dc_37 pm_37 cd_37 ct_37 : Value}
    {f_38 : Addr} {od_38 an_38 : Option Addr} {sl_38 : Array (Option Value)} {oc_38 kV_38 dc_38 pm_38 cd_38 ct_38 : Value}
    {f_39 : Addr} {od_39 an_39 : Option Addr} {sl_39 : Array (Option Value)} {oc_39 kV_39 dc_39 pm_39 cd_39 ct_39 : Value}
    {f_40 : Addr} {od_40 an_40 : Option Addr} {sl_40 : Array (Option Value)} {oc_40 kV_40 dc_40 pm_40 cd_40 ct_40 : Value}
    {f_41 : Addr} {od_41 an_41 : Option Addr} {sl_41 : Array (Option Value)} {oc_41 kV_41 dc_41 pm_41 cd_41 ct_41 : Value}
    {f_42 : Addr} {od_42 an_42 : Option Addr} {sl_42 : Array (Option Value)} {oc_42 kV_42 dc_42 pm_42 cd_42 ct_42 : Value}
    {f_43 : Addr} {od_43 an_43 : Option Addr} {sl_43 : Array (Option Value)} {oc_43 kV_43 dc_43 pm_43 cd_43 ct_43 : Value}
    {f_44 : Addr} {od_44 an_44 : Option Addr} {sl_44 : Array (Option Value)} {oc_44 kV_44 dc_44 pm_44 cd_44 ct_44 : Value}
    {f_45 : Addr} {od_45 an_45 : Option Addr} {sl_45 : Array (Option Value)} {oc_45 kV_45 dc_45 pm_45 cd_45 ct_45 : Value}
    (a_OutOfRoom : PySem.W.nsIn K mainGlobals "OutOfRoom" = some (some (.ref C_OutOfRoom)))
    (a_NoShape : PySem.W.nsIn K mainGlobals "NoShape" = some (some (.ref C_NoShape)))
    (a_Shape : PySem.W.nsIn K mainGlobals "Shape" = some (some (.ref C_Shape)))
    (a_Entries : PySem.W.nsIn K mainGlobals "Entries" = some (some (.ref C_Entries)))
    (a_Table : PySem.W.nsIn K mainGlobals "Table" = some (some (.ref C_Table)))
    (a_Book : PySem.W.nsIn K mainGlobals "Book" = some (some (.ref C_Book)))
    (zb_bool : PySem.W.nsIn K mainGlobals "bool" = some none)
    (zb_int : PySem.W.nsIn K mainGlobals "int" = some none)
    (zb_isinstance : PySem.W.nsIn K mainGlobals "isinstance" = some none)
    (zb_len : PySem.W.nsIn K mainGlobals "len" = some none)
    (zb_list : PySem.W.nsIn K mainGlobals "list" = some none)
    (zb_range : PySem.W.nsIn K mainGlobals "range" = some none)
    (zb_str : PySem.W.nsIn K mainGlobals "str" = some none)
    (zb_tuple : PySem.W.nsIn K mainGlobals "tuple" = some none)
    (a_0_ : PySem.W.nsIn K mainGlobals "is_whole" = some (some (.ref f_0)))
    (l_0_ : K.lookup f_0 = some ⟨oc_0, od_0, .func (PySem.W.fnOf "is_whole" "is_whole" (defArgs s_is_whole) (defBody s_is_whole) (defScope s_is_whole) .none kV_0 dc_0 pm_0 an_0 cd_0 ct_0), sl_0⟩)
    (c_0_ : PySem.W.codeIn K cd_0 "is_whole" = true)
    (k_0_ : PySem.W.keepIn K (.ref f_0) = true)
    (a_1_ : PySem.W.nsIn K mainGlobals "is_within" = some (some (.ref f_1)))
    (l_1_ : K.lookup f_1 = some ⟨oc_1, od_1, .func (PySem.W.fnOf "is_within" "is_within" (defArgs s_is_within) (defBody s_is_within) (defScope s_is_within) .none kV_1 dc_1 pm_1 an_1 cd_1 ct_1), sl_1⟩)
    (c_1_ : PySem.W.codeIn K cd_1 "is_within" = true)
    (k_1_ : PySem.W.keepIn K (.ref f_1) = true)
    (a_2_ : PySem.W.nsIn K mainGlobals "power_of_two" = some (some (.ref f_2)))
    (l_2_ : K.lookup f_2 = some ⟨oc_2, od_2, .func (PySem.W.fnOf "power_of_two" "power_of_two" (defArgs s_power_of_two) (defBody s_power_of_two) (defScope s_power_of_two) .none kV_2 dc_2 pm_2 an_2 cd_2 ct_2), sl_2⟩)
    (c_2_ : PySem.W.codeIn K cd_2 "power_of_two" = true)
    (k_2_ : PySem.W.keepIn K (.ref f_2) = true)
    (a_3_ : PySem.W.nsIn K mainGlobals "check_measures" = some (some (.ref f_3)))
    (l_3_ : K.lookup f_3 = some ⟨oc_3, od_3, .func (PySem.W.fnOf "check_measures" "check_measures" (defArgs s_check_measures) (defBody s_check_measures) (defScope s_check_measures) .none kV_3 dc_3 pm_3 an_3 cd_3 ct_3), sl_3⟩)
    (c_3_ : PySem.W.codeIn K cd_3 "check_measures" = true)
    (k_3_ : PySem.W.keepIn K (.ref f_3) = true)
    (a_4_ : PySem.W.nsIn K mainGlobals "look_at" = some (some (.ref f_4)))
    (l_4_ : K.lookup f_4 = some ⟨oc_4, od_4, .func (PySem.W.fnOf "look_at" "look_at" (defArgs s_look_at) (defBody s_look_at) (defScope s_look_at) .none kV_4 dc_4 pm_4 an_4 cd_4 ct_4), sl_4⟩)
    (c_4_ : PySem.W.codeIn K cd_4 "look_at" = true)
    (k_4_ : PySem.W.keepIn K (.ref f_4) = true)
    (a_5_ : PySem.W.nsIn K mainGlobals "put_at" = some (some (.ref f_5)))
    (l_5_ : K.lookup f_5 = some ⟨oc_5, od_5, .func (PySem.W.fnOf "put_at" "put_at" (defArgs s_put_at) (defBody s_put_at) (defScope s_put_at) .none kV_5 dc_5 pm_5 an_5 cd_5 ct_5), sl_5⟩)
    (c_5_ : PySem.W.codeIn K cd_5 "put_at" = true)
    (k_5_ : PySem.W.keepIn K (.ref f_5) = true)
    (a_6_ : PySem.W.nsIn K mainGlobals "drop_at" = some (some (.ref f_6)))
    (l_6_ : K.lookup f_6 = some ⟨oc_6, od_6, .func (PySem.W.fnOf "drop_at" "drop_at" (defArgs s_drop_at) (defBody s_drop_at) (defScope s_drop_at) .none kV_6 dc_6 pm_6 an_6 cd_6 ct_6), sl_6⟩)
    (c_6_ : PySem.W.codeIn K cd_6 "drop_at" = true)
    (k_6_ : PySem.W.keepIn K (.ref f_6) = true)
    (a_7_ : PySem.W.nsIn K mainGlobals "swept" = some (some (.ref f_7)))
    (l_7_ : K.lookup f_7 = some ⟨oc_7, od_7, .func (PySem.W.fnOf "swept" "swept" (defArgs s_swept) (defBody s_swept) (defScope s_swept) .none kV_7 dc_7 pm_7 an_7 cd_7 ct_7), sl_7⟩)
    (c_7_ : PySem.W.codeIn K cd_7 "swept" = true)
    (k_7_ : PySem.W.keepIn K (.ref f_7) = true)
    (a_8_ : PySem.W.nsIn K mainGlobals "_law_cell_at" = some (some (.ref f_8)))
    (l_8_ : K.lookup f_8 = some ⟨oc_8, od_8, .func (PySem.W.fnOf "_law_cell_at" "_law_cell_at" (defArgs s_l_cell_at) (defBody s_l_cell_at) (defScope s_l_cell_at) .none kV_8 dc_8 pm_8 an_8 cd_8 ct_8), sl_8⟩)
    (c_8_ : PySem.W.codeIn K cd_8 "_law_cell_at" = true)
    (k_8_ : PySem.W.keepIn K (.ref f_8) = true)
    (a_9_ : PySem.W.nsIn K mainGlobals "_law_mix" = some (some (.ref f_9)))
    (l_9_ : K.lookup f_9 = some ⟨oc_9, od_9, .func (PySem.W.fnOf "_law_mix" "_law_mix" (defArgs s_l_mix) (defBody s_l_mix) (defScope s_l_mix) .none kV_9 dc_9 pm_9 an_9 cd_9 ct_9), sl_9⟩)
    (c_9_ : PySem.W.codeIn K cd_9 "_law_mix" = true)
    (k_9_ : PySem.W.keepIn K (.ref f_9) = true)
    (a_10_ : PySem.W.nsIn K mainGlobals "_law_value" = some (some (.ref f_10)))
    (l_10_ : K.lookup f_10 = some ⟨oc_10, od_10, .func (PySem.W.fnOf "_law_value" "_law_value" (defArgs s_l_value) (defBody s_l_value) (defScope s_l_value) .none kV_10 dc_10 pm_10 an_10 cd_10 ct_10), sl_10⟩)
    (c_10_ : PySem.W.codeIn K cd_10 "_law_value" = true)
    (k_10_ : PySem.W.keepIn K (.ref f_10) = true)
    (a_11_ : PySem.W.nsIn K mainGlobals "_law_doubled" = some (some (.ref f_11)))
    (l_11_ : K.lookup f_11 = some ⟨oc_11, od_11, .func (PySem.W.fnOf "_law_doubled" "_law_doubled" (defArgs s_l_doubled) (defBody s_l_doubled) (defScope s_l_doubled) .none kV_11 dc_11 pm_11 an_11 cd_11 ct_11), sl_11⟩)
    (c_11_ : PySem.W.codeIn K cd_11 "_law_doubled" = true)
    (k_11_ : PySem.W.keepIn K (.ref f_11) = true)
    (a_12_ : PySem.W.nsIn K mainGlobals "_law_like" = some (some (.ref f_12)))
    (l_12_ : K.lookup f_12 = some ⟨oc_12, od_12, .func (PySem.W.fnOf "_law_like" "_law_like" (defArgs s_l_like) (defBody s_l_like) (defScope s_l_like) .none kV_12 dc_12 pm_12 an_12 cd_12 ct_12), sl_12⟩)
    (c_12_ : PySem.W.codeIn K cd_12 "_law_like" = true)
    (k_12_ : PySem.W.keepIn K (.ref f_12) = true)
    (a_13_ : PySem.W.nsIn K mainGlobals "_law_true" = some (some (.ref f_13)))
    (l_13_ : K.lookup f_13 = some ⟨oc_13, od_13, .func (PySem.W.fnOf "_law_true" "_law_true" (defArgs s_l_true) (defBody s_l_true) (defScope s_l_true) .none kV_13 dc_13 pm_13 an_13 cd_13 ct_13), sl_13⟩)
    (c_13_ : PySem.W.codeIn K cd_13 "_law_true" = true)
    (k_13_ : PySem.W.keepIn K (.ref f_13) = true)
    (a_14_ : PySem.W.nsIn K mainGlobals "_law_change" = some (some (.ref f_14)))
    (l_14_ : K.lookup f_14 = some ⟨oc_14, od_14, .func (PySem.W.fnOf "_law_change" "_law_change" (defArgs s_l_change) (defBody s_l_change) (defScope s_l_change) .none kV_14 dc_14 pm_14 an_14 cd_14 ct_14), sl_14⟩)
    (c_14_ : PySem.W.codeIn K cd_14 "_law_change" = true)
    (k_14_ : PySem.W.keepIn K (.ref f_14) = true)
    (a_15_ : PySem.W.nsIn K mainGlobals "_law_close" = some (some (.ref f_15)))
    (l_15_ : K.lookup f_15 = some ⟨oc_15, od_15, .func (PySem.W.fnOf "_law_close" "_law_close" (defArgs s_l_close) (defBody s_l_close) (defScope s_l_close) .none kV_15 dc_15 pm_15 an_15 cd_15 ct_15), sl_15⟩)
    (c_15_ : PySem.W.codeIn K cd_15 "_law_close" = true)
    (k_15_ : PySem.W.keepIn K (.ref f_15) = true)
    (a_16_ : PySem.W.nsIn K mainGlobals "_law_bank_deed" = some (some (.ref f_16)))
    (l_16_ : K.lookup f_16 = some ⟨oc_16, od_16, .func (PySem.W.fnOf "_law_bank_deed" "_law_bank_deed" (defArgs s_l_bank_deed) (defBody s_l_bank_deed) (defScope s_l_bank_deed) .none kV_16 dc_16 pm_16 an_16 cd_16 ct_16), sl_16⟩)
    (c_16_ : PySem.W.codeIn K cd_16 "_law_bank_deed" = true)
    (k_16_ : PySem.W.keepIn K (.ref f_16) = true)
    (a_17_ : PySem.W.nsIn K mainGlobals "_law_deed" = some (some (.ref f_17)))
    (l_17_ : K.lookup f_17 = some ⟨oc_17, od_17, .func (PySem.W.fnOf "_law_deed" "_law_deed" (defArgs s_l_deed) (defBody s_l_deed) (defScope s_l_deed) .none kV_17 dc_17 pm_17 an_17 cd_17 ct_17), sl_17⟩)
    (c_17_ : PySem.W.codeIn K cd_17 "_law_deed" = true)
    (k_17_ : PySem.W.keepIn K (.ref f_17) = true)
    (pg_Book : PySem.W.plainGet K C_Book Str.empty = true)
    (hd_Book : PySem.W.hasDictIn K C_Book = true)
    (po_Book : PySem.W.plainOver K C_Book = true)
    (sa_Book : PySem.W.findIn K (.ref C_Book) "__setattr__" = some (some (.builtin "object.__setattr__")))
    (zn_Book_rows : PySem.W.findIn K (.ref C_Book) "rows" = some none)
    (zn_Book_found : PySem.W.findIn K (.ref C_Book) "found" = some none)
    (zn_Book_hand : PySem.W.findIn K (.ref C_Book) "hand" = some none)
    (mk_Book : PySem.W.makesIn K C_Book = true)
    (kc_Book : PySem.W.keepIn K (.ref C_Book) = true)
    (a_18_ : PySem.W.findIn K (.ref C_Book) "__init__" = some (some (.ref f_18)))
    (i_18_ : PySem.W.isFn K (.ref f_18) = true)
    (l_18_ : K.lookup f_18 = some ⟨oc_18, od_18, .func (PySem.W.fnOf "__init__" "Book.__init__" (defArgs s_Book_init) (defBody s_Book_init) (defScope s_Book_init) .none kV_18 dc_18 pm_18 an_18 cd_18 ct_18), sl_18⟩)
    (c_18_ : PySem.W.codeIn K cd_18 "Book.__init__" = true)
    (k_18_ : PySem.W.keepIn K (.ref f_18) = true)
    (a_19_ : PySem.W.findIn K (.ref C_Book) "look" = some (some (.ref f_19)))
    (i_19_ : PySem.W.isFn K (.ref f_19) = true)
    (l_19_ : K.lookup f_19 = some ⟨oc_19, od_19, .func (PySem.W.fnOf "look" "Book.look" (defArgs s_Book_look) (defBody s_Book_look) (defScope s_Book_look) .none kV_19 dc_19 pm_19 an_19 cd_19 ct_19), sl_19⟩)
    (c_19_ : PySem.W.codeIn K cd_19 "Book.look" = true)
    (k_19_ : PySem.W.keepIn K (.ref f_19) = true)
    (a_20_ : PySem.W.findIn K (.ref C_Book) "use" = some (some (.ref f_20)))
    (i_20_ : PySem.W.isFn K (.ref f_20) = true)
    (l_20_ : K.lookup f_20 = some ⟨oc_20, od_20, .func (PySem.W.fnOf "use" "Book.use" (defArgs s_Book_use) (defBody s_Book_use) (defScope s_Book_use) .none kV_20 dc_20 pm_20 an_20 cd_20 ct_20), sl_20⟩)
    (c_20_ : PySem.W.codeIn K cd_20 "Book.use" = true)
    (k_20_ : PySem.W.keepIn K (.ref f_20) = true)
    (a_21_ : PySem.W.findIn K (.ref C_Book) "keep" = some (some (.ref f_21)))
    (i_21_ : PySem.W.isFn K (.ref f_21) = true)
    (l_21_ : K.lookup f_21 = some ⟨oc_21, od_21, .func (PySem.W.fnOf "keep" "Book.keep" (defArgs s_Book_keep) (defBody s_Book_keep) (defScope s_Book_keep) .none kV_21 dc_21 pm_21 an_21 cd_21 ct_21), sl_21⟩)
    (c_21_ : PySem.W.codeIn K cd_21 "Book.keep" = true)
    (k_21_ : PySem.W.keepIn K (.ref f_21) = true)
    (a_22_ : PySem.W.findIn K (.ref C_Book) "strike" = some (some (.ref f_22)))
    (i_22_ : PySem.W.isFn K (.ref f_22) = true)
    (l_22_ : K.lookup f_22 = some ⟨oc_22, od_22, .func (PySem.W.fnOf "strike" "Book.strike" (defArgs s_Book_strike) (defBody s_Book_strike) (defScope s_Book_strike) .none kV_22 dc_22 pm_22 an_22 cd_22 ct_22), sl_22⟩)
    (c_22_ : PySem.W.codeIn K cd_22 "Book.strike" = true)
    (k_22_ : PySem.W.keepIn K (.ref f_22) = true)
    (a_23_ : PySem.W.findIn K (.ref C_Book) "strike_task" = some (some (.ref f_23)))
    (i_23_ : PySem.W.isFn K (.ref f_23) = true)
    (l_23_ : K.lookup f_23 = some ⟨oc_23, od_23, .func (PySem.W.fnOf "strike_task" "Book.strike_task" (defArgs s_Book_strike_task) (defBody s_Book_strike_task) (defScope s_Book_strike_task) .none kV_23 dc_23 pm_23 an_23 cd_23 ct_23), sl_23⟩)
    (c_23_ : PySem.W.codeIn K cd_23 "Book.strike_task" = true)
    (k_23_ : PySem.W.keepIn K (.ref f_23) = true)
    (a_24_ : PySem.W.findIn K (.ref C_Book) "told" = some (some (.ref f_24)))
    (i_24_ : PySem.W.isFn K (.ref f_24) = true)
    (l_24_ : K.lookup f_24 = some ⟨oc_24, od_24, .func (PySem.W.fnOf "told" "Book.told" (defArgs s_Book_told) (defBody s_Book_told) (defScope s_Book_told) .none kV_24 dc_24 pm_24 an_24 cd_24 ct_24), sl_24⟩)
    (c_24_ : PySem.W.codeIn K cd_24 "Book.told" = true)
    (k_24_ : PySem.W.keepIn K (.ref f_24) = true)
    (a_25_ : PySem.W.findIn K (.ref C_Book) "place_for_new" = some (some (.ref f_25)))
    (i_25_ : PySem.W.isFn K (.ref f_25) = true)
    (l_25_ : K.lookup f_25 = some ⟨oc_25, od_25, .func (PySem.W.fnOf "place_for_new" "Book.place_for_new" (defArgs s_Book_place_for_new) (defBody s_Book_place_for_new) (defScope s_Book_place_for_new) .none kV_25 dc_25 pm_25 an_25 cd_25 ct_25), sl_25⟩)
    (c_25_ : PySem.W.codeIn K cd_25 "Book.place_for_new" = true)
    (k_25_ : PySem.W.keepIn K (.ref f_25) = true)
    (pg_Table : PySem.W.plainGet K C_Table Str.empty = true)
    (hd_Table : PySem.W.hasDictIn K C_Table = true)
    (po_Table : PySem.W.plainOver K C_Table = true)
    (sa_Table : PySem.W.findIn K (.ref C_Table) "__setattr__" = some (some (.builtin "object.__setattr__")))
    (zn_Table_shape : PySem.W.findIn K (.ref C_Table) "shape" = some none)
    (zn_Table_top : PySem.W.findIn K (.ref C_Table) "top" = some none)
    (mk_Table : PySem.W.makesIn K C_Table = true)
    (kc_Table : PySem.W.keepIn K (.ref C_Table) = true)
    (a_26_ : PySem.W.findIn K (.ref C_Table) "__init__" = some (some (.ref f_26)))
    (i_26_ : PySem.W.isFn K (.ref f_26) = true)
    (l_26_ : K.lookup f_26 = some ⟨oc_26, od_26, .func (PySem.W.fnOf "__init__" "Table.__init__" (defArgs s_Table_init) (defBody s_Table_init) (defScope s_Table_init) .none kV_26 dc_26 pm_26 an_26 cd_26 ct_26), sl_26⟩)
    (c_26_ : PySem.W.codeIn K cd_26 "Table.__init__" = true)
    (k_26_ : PySem.W.keepIn K (.ref f_26) = true)
    (a_27_ : PySem.W.findIn K (.ref C_Table) "put" = some (some (.ref f_27)))
    (i_27_ : PySem.W.isFn K (.ref f_27) = true)
    (l_27_ : K.lookup f_27 = some ⟨oc_27, od_27, .func (PySem.W.fnOf "put" "Table.put" (defArgs s_Table_put) (defBody s_Table_put) (defScope s_Table_put) .none kV_27 dc_27 pm_27 an_27 cd_27 ct_27), sl_27⟩)
    (c_27_ : PySem.W.codeIn K cd_27 "Table.put" = true)
    (k_27_ : PySem.W.keepIn K (.ref f_27) = true)
    (a_28_ : PySem.W.findIn K (.ref C_Table) "look" = some (some (.ref f_28)))
    (i_28_ : PySem.W.isFn K (.ref f_28) = true)
    (l_28_ : K.lookup f_28 = some ⟨oc_28, od_28, .func (PySem.W.fnOf "look" "Table.look" (defArgs s_Table_look) (defBody s_Table_look) (defScope s_Table_look) .none kV_28 dc_28 pm_28 an_28 cd_28 ct_28), sl_28⟩)
    (c_28_ : PySem.W.codeIn K cd_28 "Table.look" = true)
    (k_28_ : PySem.W.keepIn K (.ref f_28) = true)
    (a_29_ : PySem.W.findIn K (.ref C_Table) "drop" = some (some (.ref f_29)))
    (i_29_ : PySem.W.isFn K (.ref f_29) = true)
    (l_29_ : K.lookup f_29 = some ⟨oc_29, od_29, .func (PySem.W.fnOf "drop" "Table.drop" (defArgs s_Table_drop) (defBody s_Table_drop) (defScope s_Table_drop) .none kV_29 dc_29 pm_29 an_29 cd_29 ct_29), sl_29⟩)
    (c_29_ : PySem.W.codeIn K cd_29 "Table.drop" = true)
    (k_29_ : PySem.W.keepIn K (.ref f_29) = true)
    (pg_Entries : PySem.W.plainGet K C_Entries Str.empty = true)
    (hd_Entries : PySem.W.hasDictIn K C_Entries = true)
    (po_Entries : PySem.W.plainOver K C_Entries = true)
    (sa_Entries : PySem.W.findIn K (.ref C_Entries) "__setattr__" = some (some (.builtin "object.__setattr__")))
    (zn_Entries_shape : PySem.W.findIn K (.ref C_Entries) "shape" = some none)
    (zn_Entries_tables : PySem.W.findIn K (.ref C_Entries) "tables" = some none)
    (zn_Entries_banks : PySem.W.findIn K (.ref C_Entries) "banks" = some none)
    (zn_Entries_book : PySem.W.findIn K (.ref C_Entries) "book" = some none)
    (mk_Entries : PySem.W.makesIn K C_Entries = true)
    (kc_Entries : PySem.W.keepIn K (.ref C_Entries) = true)
    (a_30_ : PySem.W.findIn K (.ref C_Entries) "__init__" = some (some (.ref f_30)))
    (i_30_ : PySem.W.isFn K (.ref f_30) = true)
    (l_30_ : K.lookup f_30 = some ⟨oc_30, od_30, .func (PySem.W.fnOf "__init__" "Entries.__init__" (defArgs s_Entries_init) (defBody s_Entries_init) (defScope s_Entries_init) .none kV_30 dc_30 pm_30 an_30 cd_30 ct_30), sl_30⟩)
    (c_30_ : PySem.W.codeIn K cd_30 "Entries.__init__" = true)
    (k_30_ : PySem.W.keepIn K (.ref f_30) = true)
    (a_31_ : PySem.W.findIn K (.ref C_Entries) "open_task" = some (some (.ref f_31)))
    (i_31_ : PySem.W.isFn K (.ref f_31) = true)
    (l_31_ : K.lookup f_31 = some ⟨oc_31, od_31, .func (PySem.W.fnOf "open_task" "Entries.open_task" (defArgs s_Entries_open_task) (defBody s_Entries_open_task) (defScope s_Entries_open_task) .none kV_31 dc_31 pm_31 an_31 cd_31 ct_31), sl_31⟩)
    (c_31_ : PySem.W.codeIn K cd_31 "Entries.open_task" = true)
    (k_31_ : PySem.W.keepIn K (.ref f_31) = true)
    (a_32_ : PySem.W.findIn K (.ref C_Entries) "close_task" = some (some (.ref f_32)))
    (i_32_ : PySem.W.isFn K (.ref f_32) = true)
    (l_32_ : K.lookup f_32 = some ⟨oc_32, od_32, .func (PySem.W.fnOf "close_task" "Entries.close_task" (defArgs s_Entries_close_task) (defBody s_Entries_close_task) (defScope s_Entries_close_task) .none kV_32 dc_32 pm_32 an_32 cd_32 ct_32), sl_32⟩)
    (c_32_ : PySem.W.codeIn K cd_32 "Entries.close_task" = true)
    (k_32_ : PySem.W.keepIn K (.ref f_32) = true)
    (a_33_ : PySem.W.findIn K (.ref C_Entries) "open_bank" = some (some (.ref f_33)))
    (i_33_ : PySem.W.isFn K (.ref f_33) = true)
    (l_33_ : K.lookup f_33 = some ⟨oc_33, od_33, .func (PySem.W.fnOf "open_bank" "Entries.open_bank" (defArgs s_Entries_open_bank) (defBody s_Entries_open_bank) (defScope s_Entries_open_bank) .none kV_33 dc_33 pm_33 an_33 cd_33 ct_33), sl_33⟩)
    (c_33_ : PySem.W.codeIn K cd_33 "Entries.open_bank" = true)
    (k_33_ : PySem.W.keepIn K (.ref f_33) = true)
    (a_34_ : PySem.W.findIn K (.ref C_Entries) "look" = some (some (.ref f_34)))
    (i_34_ : PySem.W.isFn K (.ref f_34) = true)
    (l_34_ : K.lookup f_34 = some ⟨oc_34, od_34, .func (PySem.W.fnOf "look" "Entries.look" (defArgs s_Entries_look) (defBody s_Entries_look) (defScope s_Entries_look) .none kV_34 dc_34 pm_34 an_34 cd_34 ct_34), sl_34⟩)
    (c_34_ : PySem.W.codeIn K cd_34 "Entries.look" = true)
    (k_34_ : PySem.W.keepIn K (.ref f_34) = true)
    (a_35_ : PySem.W.findIn K (.ref C_Entries) "put" = some (some (.ref f_35)))
    (i_35_ : PySem.W.isFn K (.ref f_35) = true)
    (l_35_ : K.lookup f_35 = some ⟨oc_35, od_35, .func (PySem.W.fnOf "put" "Entries.put" (defArgs s_Entries_put) (defBody s_Entries_put) (defScope s_Entries_put) .none kV_35 dc_35 pm_35 an_35 cd_35 ct_35), sl_35⟩)
    (c_35_ : PySem.W.codeIn K cd_35 "Entries.put" = true)
    (k_35_ : PySem.W.keepIn K (.ref f_35) = true)
    (a_36_ : PySem.W.findIn K (.ref C_Entries) "take" = some (some (.ref f_36)))
    (i_36_ : PySem.W.isFn K (.ref f_36) = true)
    (l_36_ : K.lookup f_36 = some ⟨oc_36, od_36, .func (PySem.W.fnOf "take" "Entries.take" (defArgs s_Entries_take) (defBody s_Entries_take) (defScope s_Entries_take) .none kV_36 dc_36 pm_36 an_36 cd_36 ct_36), sl_36⟩)
    (c_36_ : PySem.W.codeIn K cd_36 "Entries.take" = true)
    (k_36_ : PySem.W.keepIn K (.ref f_36) = true)
    (a_37_ : PySem.W.findIn K (.ref C_Entries) "remember" = some (some (.ref f_37)))
    (i_37_ : PySem.W.isFn K (.ref f_37) = true)
    (l_37_ : K.lookup f_37 = some ⟨oc_37, od_37, .func (PySem.W.fnOf "remember" "Entries.remember" (defArgs s_Entries_remember) (defBody s_Entries_remember) (defScope s_Entries_remember) .none kV_37 dc_37 pm_37 an_37 cd_37 ct_37), sl_37⟩)
    (c_37_ : PySem.W.codeIn K cd_37 "Entries.remember" = true)
    (k_37_ : PySem.W.keepIn K (.ref f_37) = true)
    (a_38_ : PySem.W.findIn K (.ref C_Entries) "recall" = some (some (.ref f_38)))
    (i_38_ : PySem.W.isFn K (.ref f_38) = true)
    (l_38_ : K.lookup f_38 = some ⟨oc_38, od_38, .func (PySem.W.fnOf "recall" "Entries.recall" (defArgs s_Entries_recall) (defBody s_Entries_recall) (defScope s_Entries_recall) .none kV_38 dc_38 pm_38 an_38 cd_38 ct_38), sl_38⟩)
    (c_38_ : PySem.W.codeIn K cd_38 "Entries.recall" = true)
    (k_38_ : PySem.W.keepIn K (.ref f_38) = true)
    (a_39_ : PySem.W.findIn K (.ref C_Entries) "use" = some (some (.ref f_39)))
    (i_39_ : PySem.W.isFn K (.ref f_39) = true)
    (l_39_ : K.lookup f_39 = some ⟨oc_39, od_39, .func (PySem.W.fnOf "use" "Entries.use" (defArgs s_Entries_use) (defBody s_Entries_use) (defScope s_Entries_use) .none kV_39 dc_39 pm_39 an_39 cd_39 ct_39), sl_39⟩)
    (c_39_ : PySem.W.codeIn K cd_39 "Entries.use" = true)
    (k_39_ : PySem.W.keepIn K (.ref f_39) = true)
    (a_40_ : PySem.W.findIn K (.ref C_Entries) "told_book" = some (some (.ref f_40)))
    (i_40_ : PySem.W.isFn K (.ref f_40) = true)
    (l_40_ : K.lookup f_40 = some ⟨oc_40, od_40, .func (PySem.W.fnOf "told_book" "Entries.told_book" (defArgs s_Entries_told_book) (defBody s_Entries_told_book) (defScope s_Entries_told_book) .none kV_40 dc_40 pm_40 an_40 cd_40 ct_40), sl_40⟩)
    (c_40_ : PySem.W.codeIn K cd_40 "Entries.told_book" = true)
    (k_40_ : PySem.W.keepIn K (.ref f_40) = true)
    (pg_Shape : PySem.W.plainGet K C_Shape Str.empty = true)
    (hd_Shape : PySem.W.hasDictIn K C_Shape = true)
    (po_Shape : PySem.W.plainOver K C_Shape = true)
    (sa_Shape : PySem.W.findIn K (.ref C_Shape) "__setattr__" = some (some (.builtin "object.__setattr__")))
    (zn_Shape_levels : PySem.W.findIn K (.ref C_Shape) "levels" = some none)
    (zn_Shape_fan : PySem.W.findIn K (.ref C_Shape) "fan" = some none)
    (zn_Shape_grain : PySem.W.findIn K (.ref C_Shape) "grain" = some none)
    (zn_Shape_ways : PySem.W.findIn K (.ref C_Shape) "ways" = some none)
    (zn_Shape_boxes : PySem.W.findIn K (.ref C_Shape) "boxes" = some none)
    (zn_Shape_pages : PySem.W.findIn K (.ref C_Shape) "pages" = some none)
    (mk_Shape : PySem.W.makesIn K C_Shape = true)
    (kc_Shape : PySem.W.keepIn K (.ref C_Shape) = true)
    (a_41_ : PySem.W.findIn K (.ref C_Shape) "__init__" = some (some (.ref f_41)))
    (i_41_ : PySem.W.isFn K (.ref f_41) = true)
    (l_41_ : K.lookup f_41 = some ⟨oc_41, od_41, .func (PySem.W.fnOf "__init__" "Shape.__init__" (defArgs s_Shape_init) (defBody s_Shape_init) (defScope s_Shape_init) .none kV_41 dc_41 pm_41 an_41 cd_41 ct_41), sl_41⟩)
    (c_41_ : PySem.W.codeIn K cd_41 "Shape.__init__" = true)
    (k_41_ : PySem.W.keepIn K (.ref f_41) = true)
    (a_42_ : PySem.W.findIn K (.ref C_Shape) "has_page" = some (some (.ref f_42)))
    (i_42_ : PySem.W.isFn K (.ref f_42) = true)
    (l_42_ : K.lookup f_42 = some ⟨oc_42, od_42, .func (PySem.W.fnOf "has_page" "Shape.has_page" (defArgs s_Shape_has_page) (defBody s_Shape_has_page) (defScope s_Shape_has_page) .none kV_42 dc_42 pm_42 an_42 cd_42 ct_42), sl_42⟩)
    (c_42_ : PySem.W.codeIn K cd_42 "Shape.has_page" = true)
    (k_42_ : PySem.W.keepIn K (.ref f_42) = true)
    (a_43_ : PySem.W.findIn K (.ref C_Shape) "check_page" = some (some (.ref f_43)))
    (i_43_ : PySem.W.isFn K (.ref f_43) = true)
    (l_43_ : K.lookup f_43 = some ⟨oc_43, od_43, .func (PySem.W.fnOf "check_page" "Shape.check_page" (defArgs s_Shape_check_page) (defBody s_Shape_check_page) (defScope s_Shape_check_page) .none kV_43 dc_43 pm_43 an_43 cd_43 ct_43), sl_43⟩)
    (c_43_ : PySem.W.codeIn K cd_43 "Shape.check_page" = true)
    (k_43_ : PySem.W.keepIn K (.ref f_43) = true)
    (a_44_ : PySem.W.findIn K (.ref C_Shape) "steps" = some (some (.ref f_44)))
    (i_44_ : PySem.W.isFn K (.ref f_44) = true)
    (l_44_ : K.lookup f_44 = some ⟨oc_44, od_44, .func (PySem.W.fnOf "steps" "Shape.steps" (defArgs s_Shape_steps) (defBody s_Shape_steps) (defScope s_Shape_steps) .none kV_44 dc_44 pm_44 an_44 cd_44 ct_44), sl_44⟩)
    (c_44_ : PySem.W.codeIn K cd_44 "Shape.steps" = true)
    (k_44_ : PySem.W.keepIn K (.ref f_44) = true)
    (ze_NoShape : PySem.W.excIn K C_NoShape mroVE "ValueError.__new__" = true)
    (ze_OutOfRoom : PySem.W.excIn K C_OutOfRoom mroVE "ValueError.__new__" = true)
    (a_45_ : PySem.W.nsIn K mainGlobals "law" = some (some (.ref f_45)))
    (l_45_ : K.lookup f_45 = some ⟨oc_45, od_45, .func (PySem.W.fnOf "law" "law" (defArgs s_law) (defBody s_law) (defScope s_law) .none kV_45 dc_45 pm_45 an_45 cd_45 ct_45), sl_45⟩)
    (c_45_ : PySem.W.codeIn K cd_45 "law" = true)
    (k_45_ : PySem.W.keepIn K (.ref f_45) = true)
    : ∃ A : Adr, Txt K mg A := ⟨⟨C_Book, C_Table, C_Entries, C_Shape, C_NoShape, C_OutOfRoom⟩, {
      b_bool := PySem.W.mg_none_of X G zb_bool
      b_int := PySem.W.mg_none_of X G zb_int
      b_isinstance := PySem.W.mg_none_of X G zb_isinstance
      b_len := PySem.W.mg_none_of X G zb_len
      b_list := PySem.W.mg_none_of X G zb_list
      b_range := PySem.W.mg_none_of X G zb_range
      b_str := PySem.W.mg_none_of X G zb_str
      b_tuple := PySem.W.mg_none_of X G zb_tuple
      r_is_whole := ⟨_, _, _, PySem.W.mg_of X G a_0_, fun_mk (st := s_is_whole) l_0_ c_0_ k_0_, (fun_mk (st := s_is_whole) l_0_ c_0_ k_0_).binds (ps := ["thing"]) fun _ _ _ _ _ _ => el1 (fun _ => rfl), .nil⟩
      r_is_within := ⟨_, _, _, PySem.W.mg_of X G a_1_, fun_mk (st := s_is_within) l_1_ c_1_ k_1_, (fun_mk (st := s_is_within) l_1_ c_1_ k_1_).binds (ps := ["thing", "low", "high"]) fun _ _ _ _ _ _ => el3 (fun _ _ _ => rfl), .nil⟩
      r_power_of_two := ⟨_, _, _, PySem.W.mg_of X G a_2_, fun_mk (st := s_power_of_two) l_2_ c_2_ k_2_, (fun_mk (st := s_power_of_two) l_2_ c_2_ k_2_).binds (ps := ["exponent"]) fun _ _ _ _ _ _ => el1 (fun _ => rfl), .nil⟩
      r_check_measures := ⟨_, _, _, PySem.W.mg_of X G a_3_, fun_mk (st := s_check_measures) l_3_ c_3_ k_3_, (fun_mk (st := s_check_measures) l_3_ c_3_ k_3_).binds (ps := ["levels", "fan", "grain"]) fun _ _ _ _ _ _ => el3 (fun _ _ _ => rfl), .nil⟩
      r_look_at := ⟨_, _, _, PySem.W.mg_of X G a_4_, fun_mk (st := s_look_at) l_4_ c_4_ k_4_, (fun_mk (st := s_look_at) l_4_ c_4_ k_4_).binds (ps := ["top", "steps"]) fun _ _ _ _ _ _ => el2 (fun _ _ => rfl), .nil⟩
      r_put_at := ⟨_, _, _, PySem.W.mg_of X G a_5_, fun_mk (st := s_put_at) l_5_ c_5_ k_5_, (fun_mk (st := s_put_at) l_5_ c_5_ k_5_).binds (ps := ["top", "steps", "entry"]) fun _ _ _ _ _ _ => el3 (fun _ _ _ => rfl), .nil⟩
      r_drop_at := ⟨_, _, _, PySem.W.mg_of X G a_6_, fun_mk (st := s_drop_at) l_6_ c_6_ k_6_, (fun_mk (st := s_drop_at) l_6_ c_6_ k_6_).binds (ps := ["level", "steps"]) fun _ _ _ _ _ _ => el2 (fun _ _ => rfl), .nil⟩
      r_swept := ⟨_, _, _, PySem.W.mg_of X G a_7_, fun_mk (st := s_swept) l_7_ c_7_ k_7_, (fun_mk (st := s_swept) l_7_ c_7_ k_7_).binds (ps := ["marks", "hand"]) fun _ _ _ _ _ _ => el2 (fun _ _ => rfl), .nil⟩
      r_l_cell_at := ⟨_, _, _, PySem.W.mg_of X G a_8_, fun_mk (st := s_l_cell_at) l_8_ c_8_ k_8_, (fun_mk (st := s_l_cell_at) l_8_ c_8_ k_8_).binds (ps := ["_law_script", "_law_k"]) fun _ _ _ _ _ _ => el2 (fun _ _ => rfl), .nil⟩
      r_l_mix := ⟨_, _, _, PySem.W.mg_of X G a_9_, fun_mk (st := s_l_mix) l_9_ c_9_ k_9_, (fun_mk (st := s_l_mix) l_9_ c_9_ k_9_).binds (ps := ["_law_cell", "_law_k", "_law_many"]) fun _ _ _ _ _ _ => el3 (fun _ _ _ => rfl), .nil⟩
      r_l_value := ⟨_, _, _, PySem.W.mg_of X G a_10_, fun_mk (st := s_l_value) l_10_ c_10_ k_10_, (fun_mk (st := s_l_value) l_10_ c_10_ k_10_).binds (ps := ["_law_cell"]) fun _ _ _ _ _ _ => el1 (fun _ => rfl), .nil⟩
      r_l_doubled := ⟨_, _, _, PySem.W.mg_of X G a_11_, fun_mk (st := s_l_doubled) l_11_ c_11_ k_11_, (fun_mk (st := s_l_doubled) l_11_ c_11_ k_11_).binds (ps := ["_law_times"]) fun _ _ _ _ _ _ => el1 (fun _ => rfl), .nil⟩
      r_l_like := ⟨_, _, _, PySem.W.mg_of X G a_12_, fun_mk (st := s_l_like) l_12_ c_12_ k_12_, (fun_mk (st := s_l_like) l_12_ c_12_ k_12_).binds (ps := ["_law_found", "_law_due"]) fun _ _ _ _ _ _ => el2 (fun _ _ => rfl), .nil⟩
      r_l_true := ⟨_, _, _, PySem.W.mg_of X G a_13_, fun_mk (st := s_l_true) l_13_ c_13_ k_13_, (fun_mk (st := s_l_true) l_13_ c_13_ k_13_).binds (ps := ["_law_entries", "_law_kept"]) fun _ _ _ _ _ _ => el2 (fun _ _ => rfl), .nil⟩
      r_l_change := ⟨_, _, _, PySem.W.mg_of X G a_14_, fun_mk (st := s_l_change) l_14_ c_14_ k_14_, (fun_mk (st := s_l_change) l_14_ c_14_ k_14_).binds (ps := ["_law_entries", "_law_kept", "_law_beside", "_law_task", "_law_page", "_law_cell"]) fun _ _ _ _ _ _ => el6 (fun _ _ _ _ _ _ => rfl), .nil⟩
      r_l_close := ⟨_, _, _, PySem.W.mg_of X G a_15_, fun_mk (st := s_l_close) l_15_ c_15_ k_15_, (fun_mk (st := s_l_close) l_15_ c_15_ k_15_).binds (ps := ["_law_entries", "_law_kept", "_law_beside", "_law_task"]) fun _ _ _ _ _ _ => el4 (fun _ _ _ _ => rfl), .nil⟩
      r_l_bank_deed := ⟨_, _, _, PySem.W.mg_of X G a_16_, fun_mk (st := s_l_bank_deed) l_16_ c_16_ k_16_, (fun_mk (st := s_l_bank_deed) l_16_ c_16_ k_16_).binds (ps := ["_law_entries", "_law_bank", "_law_page", "_law_cell"]) fun _ _ _ _ _ _ => el4 (fun _ _ _ _ => rfl), .nil⟩
      r_l_deed := ⟨_, _, _, PySem.W.mg_of X G a_17_, fun_mk (st := s_l_deed) l_17_ c_17_ k_17_, (fun_mk (st := s_l_deed) l_17_ c_17_ k_17_).binds (ps := ["_law_entries", "_law_kept", "_law_beside", "_law_task", "_law_page", "_law_cell"]) fun _ _ _ _ _ _ => el6 (fun _ _ _ _ _ _ => rfl), .nil⟩
      cl_Book := ⟨pg_Book, hd_Book, po_Book, sa_Book⟩
      na_Book_rows := zn_Book_rows
      na_Book_found := zn_Book_found
      na_Book_hand := zn_Book_hand
      r_Book_init := ⟨_, _, _, PySem.W.mg_of X G a_Book, ⟨mk_Book, a_18_, i_18_, kc_Book⟩, fun_mk (st := s_Book_init) l_18_ c_18_ k_18_, (fun_mk (st := s_Book_init) l_18_ c_18_ k_18_).binds (ps := ["self", "many"]) fun _ _ _ _ _ _ => el2 (fun _ _ => rfl), .nil⟩
      r_Book_look := ⟨_, _, _, ⟨a_19_, i_19_, k_19_⟩, fun_mk (st := s_Book_look) l_19_ c_19_ k_19_, (fun_mk (st := s_Book_look) l_19_ c_19_ k_19_).binds (ps := ["self", "task", "page"]) fun _ _ _ _ _ _ => el3 (fun _ _ _ => rfl), .nil⟩
      r_Book_use := ⟨_, _, _, ⟨a_20_, i_20_, k_20_⟩, fun_mk (st := s_Book_use) l_20_ c_20_ k_20_, (fun_mk (st := s_Book_use) l_20_ c_20_ k_20_).binds (ps := ["self", "task", "page"]) fun _ _ _ _ _ _ => el3 (fun _ _ _ => rfl), .nil⟩
      r_Book_keep := ⟨_, _, _, ⟨a_21_, i_21_, k_21_⟩, fun_mk (st := s_Book_keep) l_21_ c_21_ k_21_, (fun_mk (st := s_Book_keep) l_21_ c_21_ k_21_).binds (ps := ["self", "task", "page", "entry"]) fun _ _ _ _ _ _ => el4 (fun _ _ _ _ => rfl), .nil⟩
      r_Book_strike := ⟨_, _, _, ⟨a_22_, i_22_, k_22_⟩, fun_mk (st := s_Book_strike) l_22_ c_22_ k_22_, (fun_mk (st := s_Book_strike) l_22_ c_22_ k_22_).binds (ps := ["self", "task", "page"]) fun _ _ _ _ _ _ => el3 (fun _ _ _ => rfl), .nil⟩
      r_Book_strike_task := ⟨_, _, _, ⟨a_23_, i_23_, k_23_⟩, fun_mk (st := s_Book_strike_task) l_23_ c_23_ k_23_, (fun_mk (st := s_Book_strike_task) l_23_ c_23_ k_23_).binds (ps := ["self", "task"]) fun _ _ _ _ _ _ => el2 (fun _ _ => rfl), .nil⟩
      r_Book_told := ⟨_, _, _, ⟨a_24_, i_24_, k_24_⟩, fun_mk (st := s_Book_told) l_24_ c_24_ k_24_, (fun_mk (st := s_Book_told) l_24_ c_24_ k_24_).binds (ps := ["self"]) fun _ _ _ _ _ _ => el1 (fun _ => rfl), .nil⟩
      r_Book_place_for_new := ⟨_, _, _, ⟨a_25_, i_25_, k_25_⟩, fun_mk (st := s_Book_place_for_new) l_25_ c_25_ k_25_, (fun_mk (st := s_Book_place_for_new) l_25_ c_25_ k_25_).binds (ps := ["self"]) fun _ _ _ _ _ _ => el1 (fun _ => rfl), .nil⟩
      cl_Table := ⟨pg_Table, hd_Table, po_Table, sa_Table⟩
      na_Table_shape := zn_Table_shape
      na_Table_top := zn_Table_top
      r_Table_init := ⟨_, _, _, PySem.W.mg_of X G a_Table, ⟨mk_Table, a_26_, i_26_, kc_Table⟩, fun_mk (st := s_Table_init) l_26_ c_26_ k_26_, (fun_mk (st := s_Table_init) l_26_ c_26_ k_26_).binds (ps := ["self", "shape"]) fun _ _ _ _ _ _ => el2 (fun _ _ => rfl), .nil⟩
      r_Table_put := ⟨_, _, _, ⟨a_27_, i_27_, k_27_⟩, fun_mk (st := s_Table_put) l_27_ c_27_ k_27_, (fun_mk (st := s_Table_put) l_27_ c_27_ k_27_).binds (ps := ["self", "page", "entry"]) fun _ _ _ _ _ _ => el3 (fun _ _ _ => rfl), .nil⟩
      r_Table_look := ⟨_, _, _, ⟨a_28_, i_28_, k_28_⟩, fun_mk (st := s_Table_look) l_28_ c_28_ k_28_, (fun_mk (st := s_Table_look) l_28_ c_28_ k_28_).binds (ps := ["self", "page"]) fun _ _ _ _ _ _ => el2 (fun _ _ => rfl), .nil⟩
      r_Table_drop := ⟨_, _, _, ⟨a_29_, i_29_, k_29_⟩, fun_mk (st := s_Table_drop) l_29_ c_29_ k_29_, (fun_mk (st := s_Table_drop) l_29_ c_29_ k_29_).binds (ps := ["self", "page"]) fun _ _ _ _ _ _ => el2 (fun _ _ => rfl), .nil⟩
      cl_Entries := ⟨pg_Entries, hd_Entries, po_Entries, sa_Entries⟩
      na_Entries_shape := zn_Entries_shape
      na_Entries_tables := zn_Entries_tables
      na_Entries_banks := zn_Entries_banks
      na_Entries_book := zn_Entries_book
      r_Entries_init := ⟨_, _, _, PySem.W.mg_of X G a_Entries, ⟨mk_Entries, a_30_, i_30_, kc_Entries⟩, fun_mk (st := s_Entries_init) l_30_ c_30_ k_30_, (fun_mk (st := s_Entries_init) l_30_ c_30_ k_30_).binds (ps := ["self", "shape", "places"]) fun _ _ _ _ _ _ => el3 (fun _ _ _ => rfl), .nil⟩
      r_Entries_open_task := ⟨_, _, _, ⟨a_31_, i_31_, k_31_⟩, fun_mk (st := s_Entries_open_task) l_31_ c_31_ k_31_, (fun_mk (st := s_Entries_open_task) l_31_ c_31_ k_31_).binds (ps := ["self", "task"]) fun _ _ _ _ _ _ => el2 (fun _ _ => rfl), .nil⟩
      r_Entries_close_task := ⟨_, _, _, ⟨a_32_, i_32_, k_32_⟩, fun_mk (st := s_Entries_close_task) l_32_ c_32_ k_32_, (fun_mk (st := s_Entries_close_task) l_32_ c_32_ k_32_).binds (ps := ["self", "task"]) fun _ _ _ _ _ _ => el2 (fun _ _ => rfl), .nil⟩
      r_Entries_open_bank := ⟨_, _, _, ⟨a_33_, i_33_, k_33_⟩, fun_mk (st := s_Entries_open_bank) l_33_ c_33_ k_33_, (fun_mk (st := s_Entries_open_bank) l_33_ c_33_ k_33_).binds (ps := ["self", "bank", "many"]) fun _ _ _ _ _ _ => el3 (fun _ _ _ => rfl), .nil⟩
      r_Entries_look := ⟨_, _, _, ⟨a_34_, i_34_, k_34_⟩, fun_mk (st := s_Entries_look) l_34_ c_34_ k_34_, (fun_mk (st := s_Entries_look) l_34_ c_34_ k_34_).binds (ps := ["self", "holder"]) fun _ _ _ _ _ _ => el2 (fun _ _ => rfl), .nil⟩
      r_Entries_put := ⟨_, _, _, ⟨a_35_, i_35_, k_35_⟩, fun_mk (st := s_Entries_put) l_35_ c_35_ k_35_, (fun_mk (st := s_Entries_put) l_35_ c_35_ k_35_).binds (ps := ["self", "holder", "entry"]) fun _ _ _ _ _ _ => el3 (fun _ _ _ => rfl), .nil⟩
      r_Entries_take := ⟨_, _, _, ⟨a_36_, i_36_, k_36_⟩, fun_mk (st := s_Entries_take) l_36_ c_36_ k_36_, (fun_mk (st := s_Entries_take) l_36_ c_36_ k_36_).binds (ps := ["self", "holder"]) fun _ _ _ _ _ _ => el2 (fun _ _ => rfl), .nil⟩
      r_Entries_remember := ⟨_, _, _, ⟨a_37_, i_37_, k_37_⟩, fun_mk (st := s_Entries_remember) l_37_ c_37_ k_37_, (fun_mk (st := s_Entries_remember) l_37_ c_37_ k_37_).binds (ps := ["self", "task", "page"]) fun _ _ _ _ _ _ => el3 (fun _ _ _ => rfl), .nil⟩
      r_Entries_recall := ⟨_, _, _, ⟨a_38_, i_38_, k_38_⟩, fun_mk (st := s_Entries_recall) l_38_ c_38_ k_38_, (fun_mk (st := s_Entries_recall) l_38_ c_38_ k_38_).binds (ps := ["self", "task", "page"]) fun _ _ _ _ _ _ => el3 (fun _ _ _ => rfl), .nil⟩
      r_Entries_use := ⟨_, _, _, ⟨a_39_, i_39_, k_39_⟩, fun_mk (st := s_Entries_use) l_39_ c_39_ k_39_, (fun_mk (st := s_Entries_use) l_39_ c_39_ k_39_).binds (ps := ["self", "task", "page"]) fun _ _ _ _ _ _ => el3 (fun _ _ _ => rfl), .nil⟩
      r_Entries_told_book := ⟨_, _, _, ⟨a_40_, i_40_, k_40_⟩, fun_mk (st := s_Entries_told_book) l_40_ c_40_ k_40_, (fun_mk (st := s_Entries_told_book) l_40_ c_40_ k_40_).binds (ps := ["self"]) fun _ _ _ _ _ _ => el1 (fun _ => rfl), .nil⟩
      cl_Shape := ⟨pg_Shape, hd_Shape, po_Shape, sa_Shape⟩
      na_Shape_levels := zn_Shape_levels
      na_Shape_fan := zn_Shape_fan
      na_Shape_grain := zn_Shape_grain
      na_Shape_ways := zn_Shape_ways
      na_Shape_boxes := zn_Shape_boxes
      na_Shape_pages := zn_Shape_pages
      r_Shape_init := ⟨_, _, _, PySem.W.mg_of X G a_Shape, ⟨mk_Shape, a_41_, i_41_, kc_Shape⟩, fun_mk (st := s_Shape_init) l_41_ c_41_ k_41_, (fun_mk (st := s_Shape_init) l_41_ c_41_ k_41_).binds (ps := ["self", "levels", "fan", "grain"]) fun _ _ _ _ _ _ => el4 (fun _ _ _ _ => rfl), .nil⟩
      r_Shape_has_page := ⟨_, _, _, ⟨a_42_, i_42_, k_42_⟩, fun_mk (st := s_Shape_has_page) l_42_ c_42_ k_42_, (fun_mk (st := s_Shape_has_page) l_42_ c_42_ k_42_).binds (ps := ["self", "page"]) fun _ _ _ _ _ _ => el2 (fun _ _ => rfl), .nil⟩
      r_Shape_check_page := ⟨_, _, _, ⟨a_43_, i_43_, k_43_⟩, fun_mk (st := s_Shape_check_page) l_43_ c_43_ k_43_, (fun_mk (st := s_Shape_check_page) l_43_ c_43_ k_43_).binds (ps := ["self", "page"]) fun _ _ _ _ _ _ => el2 (fun _ _ => rfl), .nil⟩
      r_Shape_steps := ⟨_, _, _, ⟨a_44_, i_44_, k_44_⟩, fun_mk (st := s_Shape_steps) l_44_ c_44_ k_44_, (fun_mk (st := s_Shape_steps) l_44_ c_44_ k_44_).binds (ps := ["self", "page"]) fun _ _ _ _ _ _ => el2 (fun _ _ => rfl), .nil⟩
      m_NoShape := ⟨_, PySem.W.mg_of X G a_NoShape, rfl⟩
      x_NoShape := ⟨PySem.W.mg_of X G a_NoShape, ze_NoShape⟩
      m_OutOfRoom := ⟨_, PySem.W.mg_of X G a_OutOfRoom, rfl⟩
      x_OutOfRoom := ⟨PySem.W.mg_of X G a_OutOfRoom, ze_OutOfRoom⟩
      r_law := ⟨_, _, PySem.W.mg_of X G a_45_, fun_mk (st := s_law) l_45_ c_45_ k_45_, fun _ _ => .of_eq rfl⟩
    }⟩

section
variable {P : Program} {w : World} {K : PySem.W.Frag} {mg : Str → Option Value} {base : Heap} {A : Adr}

def sp_is_whole : Sp := fun vs H Q _ => ∃ x, vs = [x] ∧ Kn H x ∧ Q (.bl (whole x)) H
theorem h_is_whole (T : Txt K mg A) : Have P w K mg base "is_whole" 1 ["thing"] [] sp_is_whole := by
  refine T.r_is_whole.have sc_is_whole (fun vs H Q E z => ?_) ?_
  · obtain ⟨x, rfl, _⟩ := z; rfl
  · intro f cdv A' outer s H vs Q E hr z
    obtain ⟨x, rfl, hk, q⟩ := z
    refine ⟨_, (pss_one (ps_ret (pe_and (pe_callB call_isi rfl T.b_isinstance PyProof.Rows.boot_isinstance (pa_cons (pvM 0) (pa_cons (pe_bltnE (n := "int") rfl T.b_int PyProof.Rows.boot_int) pa_nil))) (pe_one (pe_not (pe_callB call_isi rfl T.b_isinstance PyProof.Rows.boot_isinstance (pa_cons (pvM 0) (pa_cons (pe_bltnE (n := "bool") rfl T.b_bool PyProof.Rows.boot_bool) pa_nil)))))))), ?_⟩
    walk_at "wp"
    rw [← isTy_whole hk] at q
    refine ⟨by decide, hk, ?_⟩
    cases e : isTy "int" H x with
    | true => rw [e] at q; exact iteT ⟨by decide, hk, q⟩
    | false => rw [e] at q; exact iteF q

def sp_is_within : Sp := fun vs H Q _ => ∃ x l h, vs = [x, .int l, .int h] ∧ Kn H x ∧ Q (.bl (within x l h)) H
theorem h_is_within (T : Txt K mg A) : Have P w K mg base "is_within" 2 ["thing", "low", "high"] [] sp_is_within := by
  have H_is_whole := h_is_whole (P := P) (w := w) (base := base) T
  refine T.r_is_within.have sc_is_within (fun vs H Q E z => ?_) ?_
  · obtain ⟨x, l, h, rfl, _⟩ := z; rfl
  · intro f cdv A' outer s H vs Q E hr z
    obtain ⟨x, l, h, rfl, hk, q⟩ := z
    refine ⟨_, (pss_one (ps_ret (pe_and (pe_callE H_is_whole (hr.mono (by decide)) xw_def (pa_cons (pvM 0) pa_nil)) (pe_one (pe_chain op_le op_le (pvM 1) (pvM 0) (pvM 2)))))), ?_⟩
    unfold sp_is_whole
    walk_at "wp"
    refine ⟨hk, ?_⟩
    cases x with
    | int i =>
      refine iteT ⟨i, rfl, ?_⟩
      rw [within_int] at q
      by_cases c : l ≤ i
      · rw [decide_eq_true c] at q
        rw [if_pos c]
        exact ⟨i, rfl, q⟩
      · rw [decide_eq_false c] at q
        rw [if_neg c]
        exact q
    | _ => exact iteF q

def sp_cell (K : PySem.W.Frag) (a : Addr) (ns : List Int) : Sp := fun vs H Q _ => ∃ (k : Int), vs = [.ref a, .int k] ∧ SqL K H a (ns.map V.int) ∧ 0 ≤ k ∧ Q (.int (ns.getD k.toNat 0)) H
theorem h_cell (T : Txt K mg A) (a : Addr) (ns : List Int) : Have P w K mg base "_law_cell_at" 1 ["_law_script", "_law_k"] [] (sp_cell K a ns) := by
  refine T.r_l_cell_at.have sc_l_cell_at (fun vs H Q E z => ?_) ?_
  · obtain ⟨k, rfl, _⟩ := z; rfl
  · intro f cdv A' outer s H vs Q E hr z
    obtain ⟨k, rfl, hs, hk, q⟩ := z
    refine ⟨_, (pss_cons (ps_if (pt_cmpR op_lt (pvM 1) (pe_callB call_len rfl T.b_len PySem.boot_len (pa_cons (pvM 0) pa_nil)) (nomark _)) (pss_one (ps_ret (pe_ix ix_list (pvM 0) (pvM 1) (fun _ _ => rfl)))) pss_nil)
      (pss_one (ps_ret pe_int))), ?_⟩
    walk_at "wp"
    refine ⟨ns.length, .inl ⟨_, hs, by simp⟩, ?_⟩
    by_cases c : k < (ns.length : Int)
    · rw [if_pos c]
      refine ⟨_, hs, .int (ns.getD k.toNat 0), ?_, q⟩
      have hlt : k.toNat < ns.length := by omega
      have e : atI (ns.map V.int) ((k.toNat : Nat) : Int) = some (.int (ns.getD k.toNat 0)) := atI_nat (by simp [hlt])
      rw [show ((k.toNat : Nat) : Int) = k by omega] at e
      exact e
    · rw [if_neg c]
      have hge : ns.length ≤ k.toNat := by omega
      rw [show ns.getD k.toNat 0 = 0 by simp [List.getD, hge]] at q
      exact q

def sp_power_of_two : Sp := fun vs H Q _ => ∃ e : Int, vs = [.int e] ∧ 0 ≤ e ∧ e ≤ 62 ∧ Q (.int (pw e)) H
theorem h_power_of_two (T : Txt K mg A) : Have P w K mg base "power_of_two" 1 ["exponent"] [] sp_power_of_two := by
  refine T.r_power_of_two.have sc_power_of_two (fun vs H Q E z => ?_) ?_
  · obtain ⟨e, rfl, _⟩ := z; rfl
  · intro f cdv A' outer s H vs Q E hr z
    obtain ⟨e, rfl, h0, h1, q⟩ := z
    refine ⟨_, (pss_cons (ps_set (i := 1) sc_power_of_two.nd rfl (Or.inl rfl) pe_int)
      (pss_cons (ps_forE PassesOwn.leaving rfl (pi_range1 rfl T.b_range (pa_cons (pvM 0) pa_nil)) (pg_name (i := 2) sc_power_of_two.nd rfl (Or.inl rfl)) (pss_one (ps_set (i := 1) sc_power_of_two.nd rfl (Or.inl rfl) (pe_op op_mul (pvM 1) pe_int))))
      (pss_one (ps_ret (pvM 1))))), ?_⟩
    walk_at "wp"
    refine ⟨by omega, by omega, loop_range (fun i σ H' => ∃ v, σ = [some (.int e), some (.int (pw (i : Int))), v] ∧ H' = H) ⟨_, rfl, rfl⟩ (fun i σ H' hi => ?_) (fun σ H' => ?_)⟩
    · rintro ⟨v, rfl, rfl⟩
      walk_at "wp"
      have hb := pwN_le (n := i) (m := 62) (by omega)
      have hp := pw_pos i
      have e62 : pw ((62 : Nat) : Int) = 4611686018427387904 := by decide
      refine by first | exact (pw_succ i).symm | exact ⟨by omega, (pw_succ i).symm⟩ | (rw [pw_succ]; omega) | (trace_state; omega)
    · rintro ⟨v, rfl, rfl⟩
      walk_at "wp"
      rw [show ((e.toNat : Nat) : Int) = e by omega]
      exact q

def sp_l_doubled : Sp := fun vs H Q _ => ∃ e : Int, vs = [.int e] ∧ 0 ≤ e ∧ e ≤ 62 ∧ Q (.int (pw e)) H
theorem h_l_doubled (T : Txt K mg A) : Have P w K mg base "_law_doubled" 1 ["_law_times"] [] sp_l_doubled := by
  refine T.r_l_doubled.have sc_l_doubled (fun vs H Q E z => ?_) ?_
  · obtain ⟨e, rfl, _⟩ := z; rfl
  · intro f cdv A' outer s H vs Q E hr z
    obtain ⟨e, rfl, h0, h1, q⟩ := z
    refine ⟨_, (pss_cons (ps_set (i := 1) sc_l_doubled.nd rfl (Or.inl rfl) pe_int)
      (pss_cons (ps_forE PassesOwn.leaving rfl (pi_range1 rfl T.b_range (pa_cons (pvM 0) pa_nil)) (pg_name (i := 2) sc_l_doubled.nd rfl (Or.inl rfl)) (pss_one (ps_set (i := 1) sc_l_doubled.nd rfl (Or.inl rfl) (pe_op op_add (pvM 1) (pvM 1)))))
      (pss_one (ps_ret (pvM 1))))), ?_⟩
    walk_at "wp"
    refine ⟨by omega, by omega, loop_range (fun i σ H' => ∃ v, σ = [some (.int e), some (.int (pw (i : Int))), v] ∧ H' = H) ⟨_, rfl, rfl⟩ (fun i σ H' hi => ?_) (fun σ H' => ?_)⟩
    · rintro ⟨v, rfl, rfl⟩
      walk_at "wp"
      have hb := pwN_le (n := i) (m := 62) (by omega)
      have hp := pw_pos i
      have e62 : pw ((62 : Nat) : Int) = 4611686018427387904 := by decide
      refine by first | exact (pw_succ i).symm | exact ⟨by omega, (pw_succ i).symm⟩ | (rw [pw_succ]; omega) | (trace_state; omega)
    · rintro ⟨v, rfl, rfl⟩
      walk_at "wp"
      rw [show ((e.toNat : Nat) : Int) = e by omega]
      exact q

def good (x y z : V) : Bool := within x 2 3 && within y 1 8 && within z 0 4
theorem good_ints {l f g : Int} (h : good (.int l) (.int f) (.int g) = true) : 2 ≤ l ∧ l ≤ 3 ∧ 1 ≤ f ∧ f ≤ 8 ∧ 0 ≤ g ∧ g ≤ 4 := by
  unfold good at h
  simp only [within_int, Bool.and_eq_true, decide_eq_true_eq] at h
  omega
theorem good_of {l f g : Int} (h : 2 ≤ l ∧ l ≤ 3 ∧ 1 ≤ f ∧ f ≤ 8 ∧ 0 ≤ g ∧ g ≤ 4) : good (.int l) (.int f) (.int g) = true := by
  unfold good
  simp only [within_int, Bool.and_eq_true, decide_eq_true_eq]
  omega
def sp_check (N : Addr) : Sp := fun vs H Q E => ∃ x y z, vs = [x, y, z] ∧ Kn H x ∧ Kn H y ∧ Kn H z ∧ if good x y z = true then Q .non H else E (.ref N) none H
theorem h_check (T : Txt K mg A) : Have P w K mg base "check_measures" 3 ["levels", "fan", "grain"] [] (sp_check A.C_NoShape) := by
  have H_is_within := h_is_within (P := P) (w := w) (base := base) T
  refine T.r_check_measures.have sc_check_measures (fun vs H Q E z => ?_) ?_
  · obtain ⟨x, y, z, rfl, _⟩ := z; rfl
  · intro f cdv A' outer s H vs Q E hr z
    obtain ⟨x, y, z, rfl, hx, hy, hz, q⟩ := z
    refine ⟨_, (pss_cons (ps_if (pt_not (pt_val (pe_callE H_is_within (hr.mono (by decide)) xw_def (pa_cons (pvM 0) (pa_cons pe_int (pa_cons pe_int pa_nil)))))) (pss_one (ps_raise xr_def rfl T.x_NoShape (pa_cons pe_str pa_nil))) pss_nil)
      (pss_cons (ps_if (pt_not (pt_val (pe_callE H_is_within (hr.mono (by decide)) xw_def (pa_cons (pvM 1) (pa_cons pe_int (pa_cons pe_int pa_nil)))))) (pss_one (ps_raise xr_def rfl T.x_NoShape (pa_cons pe_str pa_nil))) pss_nil)
      (pss_one (ps_if (pt_not (pt_val (pe_callE H_is_within (hr.mono (by decide)) xw_def (pa_cons (pvM 2) (pa_cons pe_int (pa_cons pe_int pa_nil)))))) (pss_one (ps_raise xr_def rfl T.x_NoShape (pa_cons pe_str pa_nil))) pss_nil)))), ?_⟩
    unfold sp_is_within
    walk_at "wp"
    unfold good at q
    simp only [hx, hy, hz, true_and]
    cases e1 : within x 2 3 <;> cases e2 : within y 1 8 <;> cases e3 : within z 0 4 <;> simp only [e1, e2, e3, Bool.and_true, Bool.and_false, Bool.true_and, Bool.false_and, Bool.not_true, Bool.not_false, if_true, if_false, Bool.false_eq_true, ↓reduceIte] at q ⊢ <;> exact q

def shF (l f g : Int) : List (Str × V) := putF "pages" (.int (pw (l * f))) (putF "boxes" (.int (pw g)) (putF "ways" (.int (pw f)) (putF "grain" (.int g) (putF "fan" (.int f) (putF "levels" (.int l) [])))))
def spInit (C N : Addr) : Sp := fun vs H Q E => ∃ (p dx : Addr) (x y z : V), vs = [.ref p, x, y, z] ∧ H p = some (.ins C dx []) ∧ Kn H x ∧ Kn H y ∧ Kn H z ∧
  if good x y z = true then ∃ l f g : Int, x = .int l ∧ y = .int f ∧ z = .int g ∧ Q .non (upd H p (.ins C dx (shF l f g))) else E (.ref N) none H
theorem h_init (T : Txt K mg A) : HaveI P w K mg base "Shape" A.C_Shape 4 ["self", "levels", "fan", "grain"] [] (spInit A.C_Shape A.C_NoShape) := by
  have H_check_measures := h_check (P := P) (w := w) (base := base) T
  have H_power_of_two := h_power_of_two (P := P) (w := w) (base := base) T
  refine T.r_Shape_init.have sc_Shape_init (fun vs H Q E z => ?_) ?_
  · obtain ⟨p, dx, x, y, z, rfl, _⟩ := z; rfl
  · intro f cdv A' outer s H vs Q E hr z
    obtain ⟨p, dx, x, y, z, rfl, hp, hx, hy, hz, q⟩ := z
    refine ⟨_, (pss_cons (ps_expr (pe_callE H_check_measures (hr.mono (by decide)) xw_def (pa_cons (pvM 1) (pa_cons (pvM 2) (pa_cons (pvM 3) pa_nil)))))
      (pss_cons (ps_fld (pvM 0) (pvM 1) rfl)
      (pss_cons (ps_fld (pvM 0) (pvM 2) rfl)
      (pss_cons (ps_fld (pvM 0) (pvM 3) rfl)
      (pss_cons (ps_fld (pvM 0) (pe_callE H_power_of_two (hr.mono (by decide)) xw_def (pa_cons (pvM 2) pa_nil)) rfl)
      (pss_cons (ps_fld (pvM 0) (pe_callE H_power_of_two (hr.mono (by decide)) xw_def (pa_cons (pvM 3) pa_nil)) rfl)
      (pss_one (ps_fld (pvM 0) (pe_callE H_power_of_two (hr.mono (by decide)) xw_def (pa_cons (pe_op op_mul (pvM 1) (pvM 2)) pa_nil)) rfl)))))))), ?_⟩
    unfold sp_check sp_power_of_two
    walk_at "wp"
    simp only [hx, hy, hz, hp, T.cl_Shape, T.na_Shape_levels, T.na_Shape_fan, T.na_Shape_grain, T.na_Shape_ways, T.na_Shape_boxes, T.na_Shape_pages, true_and]
    walk_at "wp"
    simp only [T.cl_Shape, T.na_Shape_levels, T.na_Shape_fan, T.na_Shape_grain, T.na_Shape_ways, T.na_Shape_boxes, T.na_Shape_pages, true_and]
    refine ite2 (fun hg => ?_) (fun hg => ?_)
    · rw [if_pos hg] at q
      obtain ⟨l, f', g, rfl, rfl, rfl, q⟩ := q
      have b := good_ints hg
      have m := mul_24 b.1 b.2.1 b.2.2.1 b.2.2.2.1
      walk_at "wp"
      repeat' (refine And.intro ?_ ?_)
      all_goals first | omega | exact q | (refine Nat.lt_of_lt_of_le (?_ : _ < 9) (by decide); repeat (first | exact Nat.zero_lt_succ _ | refine lt_putF ?_))
    · rw [if_neg hg] at q
      exact q
theorem shF_pages {l f g : Int} : (shF l f g).lookup ("pages" : Str) = some (.int (pw (l * f))) := by rfl
theorem shF_ways {l f g : Int} : (shF l f g).lookup ("ways" : Str) = some (.int (pw f)) := by rfl
theorem shF_levels {l f g : Int} : (shF l f g).lookup ("levels" : Str) = some (.int l) := by rfl
theorem shF_no {l f g : Int} {m : Str} (h : ¬ m ∈ (["levels", "fan", "grain", "ways", "boxes", "pages"] : List Str)) : (shF l f g).lookup m = none := by
  simp only [List.mem_cons, List.not_mem_nil, or_false, not_or] at h
  unfold shF
  simp only [lookup_putF, h, if_false]
  rfl
def ShapeAt (C : Addr) (H : Hp) (p : Addr) (l f g : Int) : Prop := ∃ dx, H p = some (.ins C dx (shF l f g))
theorem ShapeAt.same {C : Addr} {H H' : Hp} {p : Addr} {l f g : Int} (h : ShapeAt C H p l f g) (s : Same H H') : ShapeAt C H' p l f g := let ⟨dx, e⟩ := h; ⟨dx, s _ _ e⟩

def sp_has (C : Addr) : Sp := fun vs H Q _ => ∃ (p : Addr) (x l f g : Int), vs = [.ref p, .int x] ∧ ShapeAt C H p l f g ∧ Q (.bl (decide (0 ≤ x) && decide (x ≤ pw (l * f) - 1))) H
theorem h_has (T : Txt K mg A) : HaveM P w K mg base A.C_Shape "has_page" 3 ["self", "page"] [] (sp_has A.C_Shape) := by
  have H_is_within := h_is_within (P := P) (w := w) (base := base) T
  refine T.r_Shape_has_page.have sc_Shape_has_page (fun vs H Q E z => ?_) ?_
  · obtain ⟨p, x, l, f, g, rfl, _⟩ := z; rfl
  · intro f cdv A' outer s H vs Q E hr z
    obtain ⟨p, x, l, f', g, rfl, ⟨dx, hp⟩, q⟩ := z
    refine ⟨_, (pss_one (ps_ret (pe_callE H_is_within (hr.mono (by decide)) xw_def (pa_cons (pvM 1) (pa_cons pe_int (pa_cons (pe_op op_sub (pe_fld (pvM 0) rfl) pe_int) pa_nil)))))), ?_⟩
    unfold sp_is_within
    walk_at "wp"
    simp only [hp, T.cl_Shape, T.na_Shape_pages, true_and]
    walk_at "wp"
    simp only [T.cl_Shape, T.na_Shape_pages, shF_pages, true_and]
    walk_at "wp"
    exact q

theorem bnd {a b c : Int} : (decide (a ≤ b) && decide (b ≤ c - 1)) = decide (a ≤ b ∧ b < c) := by
  rw [Bool.eq_iff_iff]; simp only [Bool.and_eq_true, decide_eq_true_eq]; omega
def sp_cp (C O : Addr) : Sp := fun vs H Q E => ∃ (p : Addr) (x l f g : Int), vs = [.ref p, .int x] ∧ ShapeAt C H p l f g ∧ if 0 ≤ x ∧ x < pw (l * f) then Q .non H else E (.ref O) none H
theorem h_cp (T : Txt K mg A) : HaveM P w K mg base A.C_Shape "check_page" 4 ["self", "page"] [] (sp_cp A.C_Shape A.C_OutOfRoom) := by
  have H_Shape_has_page := h_has (P := P) (w := w) (base := base) T
  refine T.r_Shape_check_page.have sc_Shape_check_page (fun vs H Q E z => ?_) ?_
  · obtain ⟨p, x, l, f, g, rfl, _⟩ := z; rfl
  · intro f cdv A' outer s H vs Q E hr z
    obtain ⟨p, x, l, f', g, rfl, hS, q⟩ := z
    refine ⟨_, (pss_one (ps_if (pt_not (pt_val (pe_methE (pvM 0) T.cl_Shape H_Shape_has_page (hr.mono (by decide)) xw_def (pa_cons (pvM 1) pa_nil)))) (pss_one (ps_raise xr_def rfl T.x_OutOfRoom (pa_cons pe_str pa_nil))) pss_nil)), ?_⟩
    unfold sp_has
    obtain ⟨dx, hp⟩ := id hS
    walk_at "wp"
    simp only [hp]
    walk_at "wp"
    refine ⟨shF_no (by decide +kernel), l, f', g, hS, ?_⟩
    rw [bnd]
    by_cases c : 0 ≤ x ∧ x < pw (l * f')
    · rw [if_pos c] at q
      rw [decide_eq_true c]
      exact iteF q
    · rw [if_neg c] at q
      rw [decide_eq_false c]
      exact iteT q

def gd (l f g : Int) : Prop := 2 ≤ l ∧ l ≤ 3 ∧ 1 ≤ f ∧ f ≤ 8 ∧ 0 ≤ g ∧ g ≤ 4
theorem gd_pw {l f g : Int} (h : gd l f g) : (1 ≤ pw g ∧ pw g ≤ 16) ∧ (1 ≤ pw (l * f) ∧ pw (l * f) ≤ 16777216) := by
  obtain ⟨h1, h2, h3, h4, h5, h6⟩ := h
  have m := mul_24 h1 h2 h3 h4
  exact ⟨⟨pw_pos _, pw4 h6⟩, pw_pos _, pw24 m.2⟩
def qn (w : Int) : Nat → Int → Int
  | 0, x => x
  | i + 1, x => qn w i x / w
def dg (w : Int) : Nat → Int → List Int
  | 0, _ => []
  | i + 1, x => dg w i x ++ [qn w i x % w]
theorem dg_len {w x : Int} : ∀ i, (dg w i x).length = i
  | 0 => rfl
  | i + 1 => by unfold dg; rw [List.length_append, dg_len i]; rfl
theorem dg_in {w x : Int} (hw : 0 < w) : ∀ i, ∀ n ∈ dg w i x, 0 ≤ n ∧ n < w
  | 0 => by intro n h; cases h
  | i + 1 => by
    intro n h
    unfold dg at h
    rcases List.mem_append.mp h with h | h
    · exact dg_in hw i n h
    · rw [List.mem_singleton.mp h]
      exact ⟨Int.emod_nonneg _ (by omega), Int.emod_lt_of_pos _ hw⟩
def hor (w : Int) (a : Int) (r : List Int) : Int := r.foldl (fun p d => p * w + d) a
theorem hor_cons {w a d : Int} {r : List Int} : hor w a (d :: r) = hor w (a * w + d) r := rfl
theorem hor_at {w : Int} : ∀ (r : List Int) (a : Int), hor w a r = a * w ^ r.length + hor w 0 r
  | [], a => by unfold hor; simp
  | d :: r, a => by
    rw [hor_cons, hor_cons, hor_at r, hor_at r (0 * w + d), List.length_cons, Int.pow_succ, Int.zero_mul, Int.zero_add, Int.add_mul, Int.mul_assoc, Int.mul_comm w, Int.add_assoc]
theorem hor_dg {w x : Int} : ∀ i, hor w 0 (dg w i x).reverse + w ^ i * qn w i x = x
  | 0 => by unfold dg hor qn; simp
  | i + 1 => by
    have ih := hor_dg (w := w) (x := x) i
    rw [show dg w (i + 1) x = dg w i x ++ [qn w i x % w] from rfl, show qn w (i + 1) x = qn w i x / w from rfl]
    rw [List.reverse_append, List.reverse_singleton, List.singleton_append, hor_cons, hor_at, List.length_reverse, dg_len, Int.zero_mul, Int.zero_add, Int.pow_succ]
    have e : qn w i x % w + w * (qn w i x / w) = qn w i x := Int.emod_add_mul_ediv _ _
    calc qn w i x % w * w ^ i + hor w 0 (dg w i x).reverse + w ^ i * w * (qn w i x / w)
        = hor w 0 (dg w i x).reverse + w ^ i * (qn w i x % w + w * (qn w i x / w)) := by rw [Int.mul_add, Int.mul_comm (qn w i x % w), Int.mul_assoc]; omega
      _ = x := by rw [e]; exact ih
theorem hor_bd {w : Int} (hw : 1 ≤ w) : ∀ (r : List Int), (∀ n ∈ r, 0 ≤ n ∧ n < w) → 0 ≤ hor w 0 r ∧ hor w 0 r < w ^ r.length
  | [], _ => by unfold hor; simp
  | d :: r, h => by
    have ih := hor_bd hw r fun n hn => h n (List.mem_cons_of_mem _ hn)
    have hd := h d List.mem_cons_self
    rw [hor_cons, hor_at, List.length_cons, Int.pow_succ, Int.zero_mul, Int.zero_add]
    have hp : 0 < w ^ r.length := by exact Int.pow_pos (by omega)
    have h1 : 0 ≤ d * w ^ r.length := Int.mul_nonneg hd.1 (by omega)
    have h2 : d * w ^ r.length ≤ (w - 1) * w ^ r.length := Int.mul_le_mul_of_nonneg_right (by omega) (by omega)
    rw [Int.sub_mul, Int.one_mul, Int.mul_comm w] at h2
    omega
theorem pw_lf {l f : Int} (h1 : 2 ≤ l) (h2 : l ≤ 3) (h3 : 1 ≤ f) (h4 : f ≤ 8) : pw (l * f) = pw f ^ l.toNat := by
  have hl : l = 2 ∨ l = 3 := by omega
  have hf : f = 1 ∨ f = 2 ∨ f = 3 ∨ f = 4 ∨ f = 5 ∨ f = 6 ∨ f = 7 ∨ f = 8 := by omega
  rcases hl with rfl | rfl <;> rcases hf with rfl | rfl | rfl | rfl | rfl | rfl | rfl | rfl <;> decide
theorem hor_all {l f x : Int} (h1 : 2 ≤ l) (h2 : l ≤ 3) (h3 : 1 ≤ f) (h4 : f ≤ 8) (hx : 0 ≤ x ∧ x < pw (l * f)) : hor (pw f) 0 (dg (pw f) l.toNat x).reverse = x := by
  have e := hor_dg (w := pw f) (x := x) l.toNat
  have b := hor_bd (w := pw f) (pw_pos f) (dg (pw f) l.toNat x).reverse fun n hn => dg_in (by have := pw_pos f; omega) _ n (List.mem_reverse.mp hn)
  rw [List.length_reverse, dg_len, ← pw_lf h1 h2 h3 h4] at b
  rw [← pw_lf h1 h2 h3 h4] at e
  have hq : qn (pw f) l.toNat x = 0 := by
    have hp := pw_pos (l * f)
    rcases Int.lt_trichotomy (qn (pw f) l.toNat x) 0 with z | z | z
    · have := Int.mul_le_mul_of_nonneg_left (show qn (pw f) l.toNat x ≤ -1 by omega) (show 0 ≤ pw (l * f) by omega)
      omega
    · exact z
    · have := Int.mul_le_mul_of_nonneg_left (show 1 ≤ qn (pw f) l.toNat x by omega) (show 0 ≤ pw (l * f) by omega)
      omega
  rw [hq, Int.mul_zero, Int.add_zero] at e
  exact e
theorem qn_bd {w x : Int} (hw : 1 ≤ w) (hx : 0 ≤ x) : ∀ i, 0 ≤ qn w i x ∧ qn w i x ≤ x
  | 0 => ⟨hx, Int.le_refl _⟩
  | i + 1 => by
    have ih := qn_bd hw hx i
    refine ⟨Int.ediv_nonneg ih.1 (by omega), Int.le_trans (Int.ediv_le_self _ ih.1) ih.2⟩
theorem same_put {H H' : Hp} {t : Addr} {o : HO} (s : Same H H') (h : H t = none) : Same H (upd H' t o) := fun b u e => by
  rw [upd_ne (ne_of_none e h)]; exact s b u e
def sp_st (C O : Addr) : Sp := fun vs H Q E => ∃ (p : Addr) (x l f g : Int), vs = [.ref p, .int x] ∧ ShapeAt C H p l f g ∧ gd l f g ∧
  if 0 ≤ x ∧ x < pw (l * f) then ∀ t H', Same H H' → H t = none → H' t = some (.lst ((dg (pw f) l.toNat x).reverse.map V.int)) → Q (.ref t) H' else E (.ref O) none H
theorem h_st (T : Txt K mg A) : HaveM P w K mg base A.C_Shape "steps" 5 ["self", "page"] [] (sp_st A.C_Shape A.C_OutOfRoom) := by
  have H_Shape_check_page := h_cp (P := P) (w := w) (base := base) T
  refine T.r_Shape_steps.have sc_Shape_steps (fun vs H Q E z => ?_) ?_
  · obtain ⟨p, x, l, f, g, rfl, _⟩ := z; rfl
  · intro f cdv A' outer s H vs Q E hr z
    obtain ⟨p, x, l, f', g, rfl, hS, hg, q⟩ := z
    refine ⟨_, (pss_cons (ps_expr (pe_methE (pvM 0) T.cl_Shape H_Shape_check_page (hr.mono (by decide)) xw_def (pa_cons (pvM 1) pa_nil)))
      (pss_cons (ps_set (i := 2) sc_Shape_steps.nd rfl (Or.inl rfl) (pe_lst pa_nil))
      (pss_cons (ps_set (i := 3) sc_Shape_steps.nd rfl (Or.inl rfl) (pvM 1))
      (pss_cons (ps_forE PassesOwn.leaving rfl (pi_range1 rfl T.b_range (pa_cons (pe_fld (pvM 0) rfl) pa_nil)) (pg_name (i := 4) sc_Shape_steps.nd rfl (Or.inl rfl)) (pss_cons (ps_expr (pe_bm PySem.F.plainAttrs_list PySem.F.slot_list_append PySem.F.type_list_append mt_append (pvM 2) (pa_cons (pe_op op_mod (pvM 3) (pe_fld (pvM 0) rfl)) pa_nil)))
      (pss_one (ps_set (i := 3) sc_Shape_steps.nd rfl (Or.inl rfl) (pe_op op_fdiv (pvM 3) (pe_fld (pvM 0) rfl))))))
      (pss_cons (ps_expr (pe_bm0 PySem.F.plainAttrs_list PySem.F.slot_list_reverse PySem.F.type_list_reverse mt_reverse (pvM 2)))
      (pss_one (ps_ret (pvM 2)))))))), ?_⟩
    unfold sp_cp
    obtain ⟨dx, hp⟩ := id hS
    walk_at "wp"
    simp only [hp]
    walk_at "wp"
    refine ⟨shF_no (by decide +kernel), l, f', g, hS, ?_⟩
    have hw := pw_pos f'
    have hw8 := pw8 hg.2.2.2.1
    have b := gd_pw hg
    by_cases c : 0 ≤ x ∧ x < pw (l * f')
    · rw [if_pos c] at q ⊢
      intro t ht
      have sm := same_upd (o := .lst []) same_refl ht
      refine ⟨_, _, _, sm _ _ hp, T.cl_Shape, T.na_Shape_levels, _, shF_levels, _, rfl, by have := hg.1; omega, by have := hg.2.1; omega, loop_range (fun i σ H' => ∃ v, σ = [some (.ref p), some (.int x), some (.ref t), some (.int (qn (pw f') i x)), v] ∧ Same H H' ∧ H' t = some (.lst ((dg (pw f') i x).map V.int))) ⟨_, rfl, sm, upd_same⟩ (fun i σ H' hi => ?_) (fun σ H' => ?_)⟩
      · rintro ⟨v, rfl, sm', ht'⟩
        walk_at "wp"
        have hq := qn_bd (w := pw f') (x := x) hw c.1 i
        have hlen : (dg (pw f') i x).length = i := dg_len i
        refine ⟨.inl ⟨rfl, _, SqL.of ht'⟩, _, _, _, sm' _ _ hp, T.cl_Shape, T.na_Shape_ways, _, shF_ways, _, rfl, by omega, _, ht', by rw [List.length_map, hlen]; have := hg.2.1; omega, ?_⟩
        have sm2 := same_put (o := .lst ((dg (pw f') i x).map V.int ++ [V.int (qn (pw f') i x % pw f')])) sm' ht
        refine ⟨_, _, _, sm2 _ _ hp, T.cl_Shape, T.na_Shape_ways, _, shF_ways, _, rfl, by omega, ?_⟩
        exact ⟨by omega, rfl, sm2, by rw [show dg (pw f') (i + 1) x = dg (pw f') i x ++ [qn (pw f') i x % pw f'] from rfl, List.map_append]; rfl⟩
      · rintro ⟨v, rfl, sm', ht'⟩
        walk_at "wp"
        refine ⟨.inl ⟨rfl, _, SqL.of ht'⟩, _, ht', q _ _ (same_put sm' ht) ht ?_⟩
        rw [upd_same, List.map_reverse]
    · rw [if_neg c] at q ⊢
      exact q

def TT : Nat → Type
  | 0 => Int
  | n + 1 => Addr × List (Int × TT n)
def en (e : Int) : TT 0 := e
def tv : (n : Nat) → TT n → V
  | 0, e => .int e
  | _ + 1, t => .ref t.1
def ads : (n : Nat) → TT n → List Addr
  | 0, _ => []
  | n + 1, t => t.1 :: t.2.flatMap fun p => ads n p.2
def dk {n : Nat} (kvs : List (Int × TT n)) : List (Key × V) := kvs.map fun p => (Sum.inl p.1, tv n p.2)
def Rep (H : Hp) : (n : Nat) → TT n → Prop
  | 0, _ => True
  | n + 1, t => H t.1 = some (.dK (dk t.2)) ∧ (t.2.map (·.1)).Nodup ∧ (∀ p ∈ t.2, 0 ≤ p.1 ∧ p.1 < 256) ∧ ∀ p ∈ t.2, Rep H n p.2
def fnd {α : Type} (s : Int) : List (Int × α) → Option α
  | [] => none
  | p :: r => if p.1 = s then some p.2 else fnd s r
def lk : (n : Nat) → TT n → List Int → Option Int
  | 0, e, [] => some e
  | 0, _, _ :: _ => none
  | _ + 1, _, [] => none
  | n + 1, t, s :: r => (fnd s t.2).bind fun c => lk n c r
theorem fnd_mem {α : Type} {s : Int} {c : α} : ∀ {l : List (Int × α)}, fnd s l = some c → (s, c) ∈ l
  | [], h => by cases h
  | p :: r, h => by
    unfold fnd at h
    by_cases e : p.1 = s
    · rw [if_pos e] at h
      cases h
      rw [← e]
      exact List.mem_cons_self
    · rw [if_neg e] at h
      exact List.mem_cons_of_mem _ (fnd_mem h)
theorem fnd_none {α : Type} {s : Int} : ∀ {l : List (Int × α)}, fnd s l = none → s ∉ l.map (·.1)
  | [], _ => by simp
  | p :: r, h => by
    unfold fnd at h
    by_cases e : p.1 = s
    · rw [if_pos e] at h; cases h
    · rw [if_neg e] at h
      rw [List.map_cons, List.mem_cons]
      exact fun z => z.elim (fun z => e z.symm) (fnd_none h)
theorem dk_val {n : Nat} {s : Int} : ∀ {l : List (Int × TT n)}, valV (dk l) (Sum.inl s) = (fnd s l).map (tv n)
  | [] => rfl
  | p :: r => by
    unfold fnd
    by_cases e : p.1 = s
    · rw [if_pos e]
      exact valV_pos (by rw [← e])
    · rw [if_neg e, ← dk_val (l := r)]
      exact valV_neg (fun z => e (Sum.inl.inj z))
theorem bounded_len : ∀ (m : Nat) (l : List Int), l.Nodup → (∀ x ∈ l, 0 ≤ x ∧ x < m) → l.length ≤ m
  | 0, l, _, h => by
    cases l with
    | nil => exact Nat.le_refl _
    | cons x r => have := h x List.mem_cons_self; omega
  | m + 1, l, nd, h => by
    have h1 := bounded_len m (l.filter fun x => decide (x ≠ (m : Int))) (nd.filter _) fun x hx => by
      have hx := List.mem_filter.mp hx
      have h2 := h x hx.1
      have h3 : x ≠ (m : Int) := by simpa using hx.2
      omega
    have h2 : l.length ≤ (l.filter fun x => decide (x ≠ (m : Int))).length + 1 := by
      clear h1 h
      induction l with
      | nil => simp
      | cons a r ih =>
        have nr := (List.nodup_cons.mp nd)
        by_cases e : a = (m : Int)
        · have : r.filter (fun x => decide (x ≠ (m : Int))) = r := List.filter_eq_self.mpr fun x hx => by
            have : x ≠ (m : Int) := fun z => nr.1 (by rw [e, ← z]; exact hx)
            simpa using this
          rw [List.filter_cons_of_neg (by simpa using e), this]
          exact Nat.le_refl _
        · rw [List.filter_cons_of_pos (by simpa using e)]
          have := ih nr.2
          simp only [List.length_cons]
          omega
    omega
theorem rep_len {H : Hp} {n : Nat} {t : TT (n + 1)} (h : Rep H (n + 1) t) : t.2.length ≤ 256 := by
  have := bounded_len 256 (t.2.map (·.1)) h.2.1 fun x hx => by
    obtain ⟨p, hp, rfl⟩ := List.mem_map.mp hx
    exact h.2.2.1 p hp
  rwa [List.length_map] at this
theorem mem_ads {n : Nat} {kvs : List (Int × TT n)} {a b : Addr} : b ∈ ads (n + 1) (a, kvs) ↔ b = a ∨ ∃ p ∈ kvs, b ∈ ads n p.2 := by
  show b ∈ a :: _ ↔ _
  rw [List.mem_cons, List.mem_flatMap]
theorem rep_some {H : Hp} : ∀ {n : Nat} {t : TT n}, Rep H n t → ∀ a ∈ ads n t, ∃ o, H a = some o
  | 0, _, _, a, h => by cases h
  | n + 1, t, r, a, h => by
    rcases mem_ads.mp h with rfl | ⟨p, hp, h⟩
    · exact ⟨_, r.1⟩
    · exact rep_some (r.2.2.2 p hp) a h
theorem rep_dk {H : Hp} : ∀ {n : Nat} {t : TT n}, Rep H n t → ∀ a ∈ ads n t, ∃ kvs, H a = some (.dK kvs)
  | 0, _, _, a, h => by cases h
  | n + 1, t, r, a, h => by
    rcases mem_ads.mp h with rfl | ⟨p, hp, h⟩
    · exact ⟨_, r.1⟩
    · exact rep_dk (r.2.2.2 p hp) a h
theorem rep_stay {H H' : Hp} : ∀ {n : Nat} {t : TT n}, Rep H n t → (∀ a ∈ ads n t, ∀ o, H a = some o → H' a = some o) → Rep H' n t
  | 0, _, _, _ => True.intro
  | n + 1, t, r, h => ⟨h _ (mem_ads.mpr (.inl rfl)) _ r.1, r.2.1, r.2.2.1, fun p hp => rep_stay (r.2.2.2 p hp) fun a ha => h a (mem_ads.mpr (.inr ⟨p, hp, ha⟩))⟩
def nE : (n : Nat) → TT n → Prop
  | 0, _ => True
  | _ + 1, t => t.2 ≠ []
def NEt : (n : Nat) → TT n → Prop
  | 0, _ => True
  | n + 1, t => ∀ p ∈ t.2, nE n p.2 ∧ NEt n p.2
def Frm (F : List Addr) (H H' : Hp) : Prop := ∀ a o, H a = some o → a ∉ F → H' a = some o
structure Good (n : Nat) (t t' : TT n) (f : List Int → Option Int) (H H' : Hp) : Prop where
  rep : Rep H' n t'
  look : ∀ r, lk n t' r = f r
  fr : Frm (ads n t) H H'
  ad : ∀ a ∈ ads n t', a ∈ ads n t ∨ H a = none
  nd : (ads n t').Nodup
  root : tv n t' = tv n t
  ne : NEt n t → NEt n t'
def rpl {α : Type} (s : Int) (c : α) (l : List (Int × α)) : List (Int × α) := l.map fun p => if p.1 = s then (s, c) else p
theorem rpl_keys {α : Type} {s : Int} {c : α} : ∀ {l : List (Int × α)}, (rpl s c l).map (·.1) = l.map (·.1)
  | [] => rfl
  | p :: r => by
    unfold rpl
    rw [List.map_cons, List.map_cons, List.map_cons]
    have := rpl_keys (s := s) (c := c) (l := r)
    unfold rpl at this
    rw [this]
    by_cases e : p.1 = s
    · rw [if_pos e, e]
    · rw [if_neg e]
theorem rpl_fnd {α : Type} {s z : Int} {c : α} : ∀ {l : List (Int × α)}, (∃ d, fnd s l = some d) → fnd z (rpl s c l) = if z = s then some c else fnd z l
  | [], h => by obtain ⟨d, h⟩ := h; cases h
  | p :: r, h => by
    obtain ⟨d, h⟩ := h
    unfold rpl
    rw [List.map_cons]
    unfold fnd
    unfold fnd at h
    by_cases e : p.1 = s
    · rw [if_pos e]
      by_cases e2 : z = s
      · rw [if_pos e2, if_pos e2.symm]
      · rw [if_neg e2, if_neg (fun z => e2 z.symm), if_neg (fun z => e2 (by rw [← z, e]))]
        have : ∀ (l : List (Int × α)), fnd z (l.map fun p => if p.1 = s then (s, c) else p) = fnd z l := fun l => by
          induction l with
          | nil => rfl
          | cons q l ih =>
            rw [List.map_cons]
            unfold fnd
            rw [ih]
            by_cases e3 : q.1 = s
            · rw [if_pos e3, if_neg (fun z => e2 z.symm), if_neg (fun z => e2 (by rw [← z, e3]))]
            · rw [if_neg e3]
        exact this r
    · rw [if_neg e] at h ⊢
      have ih := rpl_fnd (z := z) (c := c) (l := r) ⟨d, h⟩
      unfold rpl at ih
      rw [ih]
      by_cases e2 : z = s
      · rw [if_pos e2, if_pos e2, if_neg (fun z => e (by rw [z, e2]))]
      · rw [if_neg e2, if_neg e2]
theorem rpl_mem {α : Type} {s : Int} {c : α} {l : List (Int × α)} {p : Int × α} (h : p ∈ rpl s c l) : p = (s, c) ∨ (p ∈ l ∧ p.1 ≠ s) := by
  obtain ⟨q, hq, e⟩ := List.mem_map.mp h
  by_cases z : q.1 = s
  · rw [if_pos z] at e; exact .inl e.symm
  · rw [if_neg z] at e; rw [← e]; exact .inr ⟨hq, z⟩
theorem dk_rpl {n : Nat} {s : Int} {c c' : TT n} : ∀ {l : List (Int × TT n)}, (l.map (·.1)).Nodup → fnd s l = some c → tv n c' = tv n c → dk (rpl s c' l) = dk l
  | [], _, h, _ => by cases h
  | p :: r, nd, h, e => by
    rw [List.map_cons, List.nodup_cons] at nd
    unfold fnd at h
    unfold rpl dk
    rw [List.map_cons, List.map_cons, List.map_cons]
    by_cases z : p.1 = s
    · rw [if_pos z] at h ⊢
      cases h
      have : r.map (fun p => if p.1 = s then (s, c') else p) = r := by
        rw [List.map_congr_left (g := id) fun q hq => ?_, List.map_id]
        rw [if_neg fun z2 => nd.1 (by rw [z, ← z2]; exact List.mem_map_of_mem hq)]
        rfl
      rw [this, e, z]
    · rw [if_neg z] at h ⊢
      have ih := dk_rpl (c' := c') nd.2 h e
      unfold rpl dk at ih
      rw [ih]
theorem nd_rpl {n : Nat} {s : Int} {c c' : TT n} : ∀ {l : List (Int × TT n)}, (l.map (·.1)).Nodup → fnd s l = some c → (l.flatMap fun p => ads n p.2).Nodup → (ads n c').Nodup →
    (∀ a ∈ ads n c', a ∈ ads n c ∨ ∀ p ∈ l, a ∉ ads n p.2) → ((rpl s c' l).flatMap fun p => ads n p.2).Nodup
  | [], _, h, _, _, _ => by cases h
  | p :: r, nk, h, nd, n', ha => by
    rw [List.map_cons, List.nodup_cons] at nk
    rw [List.flatMap_cons, List.nodup_append] at nd
    unfold fnd at h
    unfold rpl
    rw [List.map_cons, List.flatMap_cons, List.nodup_append]
    by_cases z : p.1 = s
    · rw [if_pos z] at h ⊢
      cases h
      have : r.map (fun p => if p.1 = s then (s, c') else p) = r := by
        rw [List.map_congr_left (g := id) fun q hq => ?_, List.map_id]
        rw [if_neg fun z2 => nk.1 (by rw [z, ← z2]; exact List.mem_map_of_mem hq)]
        rfl
      rw [this]
      refine ⟨n', nd.2.1, fun a h1 b h2 => ?_⟩
      rcases ha a h1 with h3 | h3
      · exact nd.2.2 a h3 b h2
      · obtain ⟨q, hq, hb⟩ := List.mem_flatMap.mp h2
        exact fun e => h3 q (List.mem_cons_of_mem _ hq) (by rw [e]; exact hb)
    · rw [if_neg z] at h ⊢
      have hc := fnd_mem h
      refine ⟨nd.1, nd_rpl nk.2 h nd.2.1 n' fun a h1 => (ha a h1).imp id fun h2 p hp => h2 p (List.mem_cons_of_mem _ hp), fun a h1 b h2 => ?_⟩
      obtain ⟨q, hq, hb⟩ := List.mem_flatMap.mp h2
      rcases rpl_mem (l := r) hq with rfl | ⟨hq, _⟩
      · rcases ha b hb with h3 | h3
        · exact nd.2.2 a h1 b (List.mem_flatMap.mpr ⟨_, hc, h3⟩)
        · exact fun e => h3 p List.mem_cons_self (by rw [← e]; exact h1)
      · exact nd.2.2 a h1 b (List.mem_flatMap.mpr ⟨q, hq, hb⟩)
def updF (f : List Int → Option Int) (s : Int) (g : List Int → Option Int) : List Int → Option Int
  | [] => f []
  | z :: r => if z = s then g r else f (z :: r)
theorem updF_cons {f g : List Int → Option Int} {s z : Int} {r : List Int} : updF f s g (z :: r) = if z = s then g r else f (z :: r) := rfl
theorem Good.down {n : Nat} {a : Addr} {kvs : List (Int × TT n)} {s : Int} {c c' : TT n} {g : List Int → Option Int} {H H' : Hp} (hr : Rep H (n + 1) (a, kvs)) (hn : (ads (n + 1) (a, kvs)).Nodup) (hf : fnd s kvs = some c)
    (G : Good n c c' g H H') (hne : nE n c') : Good (n + 1) (a, kvs) (a, rpl s c' kvs) (updF (lk (n + 1) (a, kvs)) s g) H H' := by
  have hn' : a ∉ kvs.flatMap (fun p => ads n p.2) ∧ (kvs.flatMap fun p => ads n p.2).Nodup := List.nodup_cons.mp hn
  have hc := fnd_mem hf
  have hac : a ∉ ads n c := fun z => hn'.1 (List.mem_flatMap.mpr ⟨_, hc, z⟩)
  have sep : ∀ p ∈ kvs, p.1 ≠ s → ∀ b ∈ ads n p.2, b ∉ ads n c := by
    intro p hp ne b hb hb2
    have key : ∀ (l : List (Int × TT n)), (l.flatMap fun p => ads n p.2).Nodup → p ∈ l → (s, c) ∈ l → False := by
      intro l
      induction l with
      | nil => intro _ h; cases h
      | cons q r ih =>
        intro nd h1 h2
        rw [List.flatMap_cons, List.nodup_append] at nd
        rcases List.mem_cons.mp h1 with e1 | h1
        · rcases List.mem_cons.mp h2 with e2 | h2
          · exact ne (by rw [e1, ← e2])
          · exact nd.2.2 b (by rw [← e1]; exact hb) b (List.mem_flatMap.mpr ⟨_, h2, hb2⟩) rfl
        · rcases List.mem_cons.mp h2 with e2 | h2
          · exact nd.2.2 b (by rw [← e2]; exact hb2) b (List.mem_flatMap.mpr ⟨_, h1, hb⟩) rfl
          · exact ih nd.2.1 h1 h2
    exact key kvs hn'.2 hp hc
  refine ⟨⟨?_, ?_, ?_, ?_⟩, ?_, ?_, ?_, ?_, rfl, fun hN p hp => ?_⟩
  · show H' a = some (.dK (dk (rpl s c' kvs)))
    rw [dk_rpl hr.2.1 hf G.root]
    exact G.fr a _ hr.1 hac
  · show ((rpl s c' kvs).map (·.1)).Nodup
    rw [rpl_keys]; exact hr.2.1
  · intro p hp
    rcases rpl_mem hp with rfl | ⟨hp, _⟩
    · exact hr.2.2.1 (s, c) hc
    · exact hr.2.2.1 p hp
  · intro p hp
    rcases rpl_mem hp with rfl | ⟨hp, ne⟩
    · exact G.rep
    · exact rep_stay (hr.2.2.2 p hp) fun b hb o ho => G.fr b o ho (sep p hp ne b hb)
  · intro r
    cases r with
    | nil => rfl
    | cons z r =>
      show (fnd z (rpl s c' kvs)).bind _ = _
      rw [rpl_fnd ⟨c, hf⟩]
      rw [updF_cons]
      by_cases e : z = s
      · rw [if_pos e, if_pos e]; exact G.look r
      · rw [if_neg e, if_neg e]; rfl
  · intro b o ho hb
    exact G.fr b o ho fun z => hb (mem_ads.mpr (.inr ⟨_, hc, z⟩))
  · intro b hb
    rcases mem_ads.mp hb with rfl | ⟨p, hp, hb⟩
    · exact .inl (mem_ads.mpr (.inl rfl))
    · rcases rpl_mem hp with rfl | ⟨hp, _⟩
      · exact (G.ad b hb).imp (fun z => mem_ads.mpr (.inr ⟨_, hc, z⟩)) id
      · exact .inl (mem_ads.mpr (.inr ⟨p, hp, hb⟩))
  · refine List.nodup_cons.mpr ⟨fun z => ?_, nd_rpl hr.2.1 hf hn'.2 G.nd fun b hb => (G.ad b hb).imp id fun z p hp hb2 => ?_⟩
    · obtain ⟨p, hp, hb⟩ := List.mem_flatMap.mp z
      rcases rpl_mem hp with rfl | ⟨hp, _⟩
      · rcases G.ad a hb with z | z
        · exact hac z
        · rw [hr.1] at z; cases z
      · exact hn'.1 (List.mem_flatMap.mpr ⟨p, hp, hb⟩)
    · obtain ⟨o, ho⟩ := rep_some (hr.2.2.2 p hp) b hb2
      rw [z] at ho; cases ho
  · rcases rpl_mem hp with rfl | ⟨hp, _⟩
    · exact ⟨hne, G.ne (hN (s, c) hc).2⟩
    · exact hN p hp
theorem dkp_new {n : Nat} {s : Int} {v : V} {l : List (Int × TT n)} (h : fnd s l = none) : putK (dk l) (Sum.inl s) v = dk l ++ [(Sum.inl s, v)] := by
  unfold putK
  rw [if_neg]
  rw [valV_any, dk_val, h]
  simp
theorem Good.more {n : Nat} {a : Addr} {kvs : List (Int × TT n)} {s : Int} {c c' : TT n} {g : List Int → Option Int} {H H1 H' : Hp} (hr : Rep H (n + 1) (a, kvs)) (hn : (ads (n + 1) (a, kvs)).Nodup) (hf : fnd s kvs = none) (hs : 0 ≤ s ∧ s < 256)
    (h1 : ∀ b o, H b = some o → b ≠ a → H1 b = some o) (h2 : H1 a = some (.dK (dk kvs ++ [(Sum.inl s, tv n c)]))) (hc : ∀ b ∈ ads n c, H b = none)
    (G : Good n c c' g H1 H') (hne : nE n c') (hcN : NEt n c) : Good (n + 1) (a, kvs) (a, kvs ++ [(s, c')]) (updF (lk (n + 1) (a, kvs)) s g) H H' := by
  have hn' : a ∉ kvs.flatMap (fun p => ads n p.2) ∧ (kvs.flatMap fun p => ads n p.2).Nodup := List.nodup_cons.mp hn
  have old : ∀ b o, H b = some o → b ∉ ads n c := fun b o ho z => by rw [hc b z] at ho; cases ho
  have new : ∀ b ∈ ads n c', H b = none := by
    intro b hb
    rcases G.ad b hb with z | z
    · exact hc b z
    · cases e : H b with
      | none => rfl
      | some o =>
        by_cases eb : b = a
        · rw [eb, h2] at z; cases z
        · rw [h1 b o e eb] at z; cases z
  have hfn : ∀ z, fnd z (kvs ++ [(s, c')]) = if z = s then some c' else fnd z kvs := by
    intro z
    have : ∀ l : List (Int × TT n), fnd s l = none → fnd z (l ++ [(s, c')]) = if z = s then some c' else fnd z l := by
      intro l
      induction l with
      | nil =>
        intro _
        show (if s = z then some c' else none) = _
        by_cases e : z = s
        · rw [if_pos e, if_pos e.symm]
        · rw [if_neg e, if_neg (fun q => e q.symm)]; rfl
      | cons p r ih =>
        intro h
        unfold fnd at h
        by_cases e : p.1 = s
        · rw [if_pos e] at h; cases h
        · rw [if_neg e] at h
          show (if p.1 = z then some p.2 else fnd z (r ++ [(s, c')])) = if z = s then some c' else if p.1 = z then some p.2 else fnd z r
          rw [ih h]
          by_cases e2 : z = s
          · rw [if_pos e2, if_pos e2, if_neg (fun q => e (by rw [q, e2]))]
          · rw [if_neg e2, if_neg e2]
    exact this kvs hf
  refine ⟨⟨?_, ?_, ?_, ?_⟩, ?_, ?_, ?_, ?_, rfl, fun hN p hp => ?_⟩
  · show H' a = some (.dK (dk (kvs ++ [(s, c')])))
    unfold dk
    rw [List.map_append, List.map_cons, List.map_nil, G.root]
    exact G.fr a _ h2 (old a _ hr.1)
  · show ((kvs ++ [(s, c')]).map (·.1)).Nodup
    rw [List.map_append, List.nodup_append]
    refine ⟨hr.2.1, (by simp), fun x hx y hy => ?_⟩
    have : y = s := by simpa using hy
    rw [this]
    exact fun e => fnd_none hf (by rw [← e]; exact hx)
  · intro p hp
    rcases List.mem_append.mp hp with hp | hp
    · exact hr.2.2.1 p hp
    · rw [List.mem_singleton.mp hp]; exact hs
  · intro p hp
    rcases List.mem_append.mp hp with hp | hp
    · exact rep_stay (hr.2.2.2 p hp) fun b hb o ho => G.fr b o (h1 b o ho fun z => hn'.1 (by rw [← z]; exact List.mem_flatMap.mpr ⟨p, hp, hb⟩)) (old b o ho)
    · rw [List.mem_singleton.mp hp]; exact G.rep
  · intro r
    cases r with
    | nil => rfl
    | cons z r =>
      show (fnd z (kvs ++ [(s, c')])).bind _ = _
      rw [hfn]
      rw [updF_cons]
      by_cases e : z = s
      · rw [if_pos e, if_pos e]; exact G.look r
      · rw [if_neg e, if_neg e]; rfl
  · intro b o ho hb
    exact G.fr b o (h1 b o ho fun z => hb (mem_ads.mpr (.inl z))) (old b o ho)
  · intro b hb
    rcases mem_ads.mp hb with rfl | ⟨p, hp, hb⟩
    · exact .inl (mem_ads.mpr (.inl rfl))
    · rcases List.mem_append.mp hp with hp | hp
      · exact .inl (mem_ads.mpr (.inr ⟨p, hp, hb⟩))
      · rw [List.mem_singleton.mp hp] at hb; exact .inr (new b hb)
  · refine List.nodup_cons.mpr ⟨fun z => ?_, ?_⟩
    · obtain ⟨p, hp, hb⟩ := List.mem_flatMap.mp z
      rcases List.mem_append.mp hp with hp | hp
      · exact hn'.1 (List.mem_flatMap.mpr ⟨p, hp, hb⟩)
      · rw [List.mem_singleton.mp hp] at hb
        have := new a hb
        rw [hr.1] at this; cases this
    · show ((kvs ++ [(s, c')]).flatMap fun p => ads n p.2).Nodup
      rw [List.flatMap_append, List.nodup_append]
      refine ⟨hn'.2, by simpa using G.nd, fun b hb d hd => ?_⟩
      obtain ⟨p, hp, hb⟩ := List.mem_flatMap.mp hb
      obtain ⟨o, ho⟩ := rep_some (hr.2.2.2 p hp) b hb
      have hd : d ∈ ads n c' := by simpa using hd
      exact fun e => by rw [e, new d hd] at ho; cases ho
  · rcases List.mem_append.mp hp with hp | hp
    · exact hN p hp
    · rw [List.mem_singleton.mp hp]; exact ⟨hne, G.ne hcN⟩
theorem Good.leaf {a : Addr} {kvs : List (Int × TT 0)} {s e : Int} {H : Hp} (hr : Rep H 1 (a, kvs)) (hn : (ads 1 (a, kvs)).Nodup) (hs : 0 ≤ s ∧ s < 256) :
    ∃ t' : TT 1, nE 1 t' ∧ Good 1 (a, kvs) t' (updF (lk 1 (a, kvs)) s fun r => if r = [] then some e else none) H (upd H a (.dK (putK (dk kvs) (Sum.inl s) (.int e)))) := by
  have noa : ∀ l : List (Int × TT 0), l.flatMap (fun p => ads 0 p.2) = [] := fun l => by
    induction l with
    | nil => rfl
    | cons p r ih => rw [List.flatMap_cons, ih]; rfl
  have l0 : ∀ (c : Int) (r : List Int), lk 0 (en c) r = if r = [] then some c else none := fun c r => by cases r <;> rfl
  have fin : ∀ (l : List (Int × TT 0)), (l.map (·.1)).Nodup → (∀ p ∈ l, 0 ≤ p.1 ∧ p.1 < 256) → putK (dk kvs) (Sum.inl s) (.int e) = dk l → (∀ z, fnd z l = if z = s then some (en e) else fnd z kvs) →
      Good 1 (a, kvs) (a, l) (updF (lk 1 (a, kvs)) s fun r => if r = [] then some e else none) H (upd H a (.dK (putK (dk kvs) (Sum.inl s) (.int e)))) := fun l k1 k2 k3 k4 => by
    refine ⟨⟨?_, k1, k2, fun _ _ => True.intro⟩, ?_, ?_, ?_, ?_, rfl, fun _ _ _ => ⟨True.intro, True.intro⟩⟩
    · rw [k3]; exact upd_same
    · intro r
      cases r with
      | nil => rfl
      | cons z r =>
        show (fnd z l).bind _ = _
        rw [k4]
        rw [updF_cons]
        by_cases ez : z = s
        · rw [if_pos ez, if_pos ez]; exact l0 e r
        · rw [if_neg ez, if_neg ez]; rfl
    · intro b o ho hb
      rw [upd_ne fun z => hb (mem_ads.mpr (.inl z))]; exact ho
    · intro b hb
      rcases mem_ads.mp hb with rfl | ⟨p, _, hb⟩
      · exact .inl (mem_ads.mpr (.inl rfl))
      · cases hb
    · show (a :: _).Nodup
      rw [noa]; exact (by simp)
  cases hf : fnd s kvs with
  | none =>
    refine ⟨(a, kvs ++ [(s, en e)]), (by show kvs ++ [(s, en e)] ≠ []; simp), fin _ ?_ ?_ ?_ ?_⟩
    · rw [List.map_append, List.nodup_append]
      refine ⟨hr.2.1, (by simp), fun x hx y hy => ?_⟩
      have : y = s := by simpa using hy
      rw [this]
      exact fun e => fnd_none hf (by rw [← e]; exact hx)
    · intro p hp
      rcases List.mem_append.mp hp with hp | hp
      · exact hr.2.2.1 p hp
      · rw [List.mem_singleton.mp hp]; exact hs
    · rw [dkp_new hf]; unfold dk; rw [List.map_append]; rfl
    · intro z
      have : ∀ l : List (Int × TT 0), fnd s l = none → fnd z (l ++ [(s, en e)]) = if z = s then some (en e) else fnd z l := by
        intro l
        induction l with
        | nil =>
          intro _
          show (if s = z then some _ else none) = _
          by_cases e : z = s
          · rw [if_pos e, if_pos e.symm]
          · rw [if_neg e, if_neg (fun q => e q.symm)]; rfl
        | cons p r ih =>
          intro h
          unfold fnd at h
          by_cases e1 : p.1 = s
          · rw [if_pos e1] at h; cases h
          · rw [if_neg e1] at h
            show (if p.1 = z then some p.2 else fnd z (r ++ [(s, en e)])) = if z = s then some (en e) else if p.1 = z then some p.2 else fnd z r
            rw [ih h]
            by_cases e2 : z = s
            · rw [if_pos e2, if_pos e2, if_neg (fun q => e1 (by rw [q, e2]))]
            · rw [if_neg e2, if_neg e2]
      exact this kvs hf
  | some c =>
    refine ⟨(a, rpl s (en e) kvs), (by show rpl s (en e) kvs ≠ []; intro z; have := fnd_mem hf; unfold rpl at z; rw [List.map_eq_nil_iff.mp z] at this; cases this), fin _ (by rw [rpl_keys]; exact hr.2.1) ?_ ?_ (fun z => rpl_fnd ⟨c, hf⟩)⟩
    · intro p hp
      rcases rpl_mem hp with rfl | ⟨hp, _⟩
      · exact hs
      · exact hr.2.2.1 p hp
    · unfold putK
      rw [if_pos (by rw [valV_any, dk_val, hf]; rfl)]
      unfold dk rpl
      rw [List.map_map, List.map_map]
      refine List.map_congr_left fun p _ => ?_
      show (if (Sum.inl p.1 : Key) = Sum.inl s then (Sum.inl p.1, V.int e) else (Sum.inl p.1, tv 0 p.2)) = (fun q : Int × TT 0 => ((Sum.inl q.1 : Key), tv 0 q.2)) (if p.1 = s then (s, en e) else p)
      by_cases ez : p.1 = s
      · rw [if_pos ez, if_pos (by rw [ez]), ez]; rfl
      · rw [if_neg ez, if_neg fun z => ez (Sum.inl.inj z)]

def setF (f : List Int → Option Int) (ss : List Int) (e : Int) : List Int → Option Int := fun r => if r = ss then some e else f r
theorem Good.to {n : Nat} {t t' : TT n} {f g : List Int → Option Int} {H H' : Hp} (G : Good n t t' f H H') (h : ∀ r, f r = g r) : Good n t t' g H H' := ⟨G.rep, fun r => (G.look r).trans (h r), G.fr, G.ad, G.nd, G.root, G.ne⟩
theorem none_before {H H1 : Hp} {a : Addr} (s : Same H H1) (z : H1 a = none) : H a = none := by
  cases e : H a with
  | none => rfl
  | some o => rw [s a o e] at z; cases z
theorem Good.before {n : Nat} {t t' : TT n} {f : List Int → Option Int} {H H1 H' : Hp} (s : Same H H1) (G : Good n t t' f H1 H') : Good n t t' f H H' :=
  ⟨G.rep, G.look, fun a o h hn => G.fr a o (s a o h) hn, fun a ha => (G.ad a ha).imp id (none_before s), G.nd, G.root, G.ne⟩
theorem setF_leaf {t : TT 1} {s e : Int} (r : List Int) : updF (lk 1 t) s (fun r => if r = [] then some e else none) r = setF (lk 1 t) [s] e r := by
  unfold setF
  cases r with
  | nil => rfl
  | cons z r =>
    rw [updF_cons]
    by_cases h : z = s
    · rw [if_pos h, h]
      by_cases h2 : r = []
      · rw [if_pos h2, h2, if_pos rfl]
      · rw [if_neg h2, if_neg (fun q => h2 (by simpa using q))]
        cases r with
        | nil => exact absurd rfl h2
        | cons y r =>
          show none = (fnd s t.2).bind fun c => lk 0 c (y :: r)
          cases fnd s t.2 <;> rfl
    · rw [if_neg h, if_neg (fun q => h (by injection q))]
theorem setF_down {n : Nat} {a : Addr} {kvs : List (Int × TT n)} {s e : Int} {c : TT n} {ss : List Int} (h : fnd s kvs = some c) (r : List Int) : updF (lk (n + 1) (a, kvs)) s (setF (lk n c) ss e) r = setF (lk (n + 1) (a, kvs)) (s :: ss) e r := by
  unfold setF
  cases r with
  | nil => rfl
  | cons z r =>
    rw [updF_cons]
    by_cases hz : z = s
    · rw [if_pos hz, hz]
      by_cases h2 : r = ss
      · rw [if_pos h2, h2, if_pos rfl]
      · rw [if_neg h2, if_neg (fun q => h2 (by injection q))]
        show _ = (fnd s kvs).bind fun c => lk n c r
        rw [h]; rfl
    · rw [if_neg hz, if_neg (fun q => hz (by injection q))]
theorem rpl_ne {n : Nat} {s : Int} {c c' : TT n} {a : Addr} {l : List (Int × TT n)} (h : fnd s l = some c) : nE (n + 1) (a, rpl s c' l) := by
  show rpl s c' l ≠ []
  intro z
  have := fnd_mem h
  unfold rpl at z
  rw [List.map_eq_nil_iff.mp z] at this
  cases this
theorem nd_child {n : Nat} {p : Int × TT n} : ∀ {kvs : List (Int × TT n)}, (kvs.flatMap fun p => ads n p.2).Nodup → p ∈ kvs → (ads n p.2).Nodup
  | [], _, h => by cases h
  | q :: r, h, hp => by
    rw [List.flatMap_cons, List.nodup_append] at h
    rcases List.mem_cons.mp hp with rfl | hp
    · exact h.1
    · exact nd_child h.2.1 hp
def nw (n : Nat) (p : Addr) : TT (n + 1) := (p, [])
theorem lk_new {n : Nat} {p : Addr} (r : List Int) : lk (n + 1) (nw n p) r = none := by cases r <;> rfl
theorem rep_new {H : Hp} {n : Nat} {p : Addr} (h : H p = some (.dK [])) : Rep H (n + 1) (nw n p) := ⟨h, (by show ([] : List Int).Nodup; simp), fun q hq => absurd (show q ∈ ([] : List (Int × TT n)) from hq) List.not_mem_nil, fun q hq => absurd (show q ∈ ([] : List (Int × TT n)) from hq) List.not_mem_nil⟩
theorem ne_new {n : Nat} {p : Addr} : NEt (n + 1) (nw n p) := fun q hq => absurd (show q ∈ ([] : List (Int × TT n)) from hq) List.not_mem_nil
theorem nd_new {n : Nat} {p : Addr} : (ads (n + 1) (nw n p)).Nodup := by show [p].Nodup; simp
theorem setF_more {n : Nat} {a : Addr} {kvs : List (Int × TT n)} {s e : Int} {c : TT n} {ss : List Int} (hc : ∀ r, lk n c r = none) (h : fnd s kvs = none) (r : List Int) : updF (lk (n + 1) (a, kvs)) s (setF (lk n c) ss e) r = setF (lk (n + 1) (a, kvs)) (s :: ss) e r := by
  unfold setF
  cases r with
  | nil => rfl
  | cons z r =>
    rw [updF_cons]
    by_cases hz : z = s
    · rw [if_pos hz, hz]
      by_cases h2 : r = ss
      · rw [if_pos h2, h2, if_pos rfl]
      · rw [if_neg h2, if_neg (fun q => h2 (by injection q)), hc]
        show _ = (fnd s kvs).bind fun c => lk n c r
        rw [h]; rfl
    · rw [if_neg hz, if_neg (fun q => hz (by injection q))]
def oV : Option Int → V
  | some e => .int e
  | none => .non
def sp_look_at (K : PySem.W.Frag) : Sp := fun vs H Q _ => ∃ (n : Nat) (t : TT n) (b : Addr) (ss : List Int), vs = [tv n t, .ref b] ∧ Rep H n t ∧ SqL K H b (ss.map V.int) ∧ ss.length = n ∧ Q (oV (lk n t ss)) H
theorem h_look_at (T : Txt K mg A) : Have P w K mg base "look_at" 1 ["top", "steps"] [] (sp_look_at K) := by
  refine T.r_look_at.have sc_look_at (fun vs H Q E z => ?_) ?_
  · obtain ⟨n, t, b, ss, rfl, _⟩ := z; rfl
  · intro f cdv A' outer s H vs Q E hr z
    obtain ⟨n, t, b, ss, rfl, hR, hb, hl, q⟩ := z
    refine ⟨_, (pss_cons (ps_set (i := 2) sc_look_at.nd rfl (Or.inl rfl) (pvM 0))
      (pss_cons (ps_forE PassesOwn.leaving rfl (pi_list (pvM 1)) (pg_name (i := 3) sc_look_at.nd rfl (Or.inl rfl)) (pss_cons (ps_if (pt_cmp (pc_dnotin (hu_of hr) (pvM 3) (pvM 2))) (pss_one (ps_ret pe_non)) pss_nil)
      (pss_one (ps_set (i := 2) sc_look_at.nd rfl (Or.inl rfl) (pe_dget (hu_of hr) (pvM 2) (pvM 3) (fun _ _ => rfl))))))
      (pss_one (ps_ret (pvM 2))))), ?_⟩
    walk_at "wp"
    refine ⟨⟨_, hb⟩, loop_list (xs := ss.map V.int) (fun i σ H' => H' = H ∧ ∃ k, ∃ c : TT k, ∃ v, σ = [some (tv n t), some (.ref b), some (tv k c), v] ∧ Rep H k c ∧ k + i = n ∧ lk k c (ss.drop i) = lk n t ss) ⟨rfl, n, t, _, rfl, hR, rfl, rfl⟩ (fun i σ H' _ ⟨e, _⟩ => e ▸ hb) (fun i x σ H' hi => ?_) (fun σ H' => ?_)⟩
    · rintro ⟨rfl, k, c, v, rfl, hc, hk, e⟩
      rw [List.getElem?_map] at hi
      obtain ⟨z, hz, rfl⟩ : ∃ z, ss[i]? = some z ∧ V.int z = x := by
        cases e : ss[i]? with
        | none => rw [e] at hi; cases hi
        | some z => rw [e] at hi; exact ⟨z, rfl, Option.some.inj hi⟩
      have hil : i < ss.length := (List.getElem?_eq_some_iff.mp hz).1
      have hdr : ss.drop i = z :: ss.drop (i + 1) := by
        rw [List.drop_eq_getElem_cons hil]
        rw [(List.getElem?_eq_some_iff.mp hz).2]
      obtain ⟨k', rfl⟩ : ∃ k', k = k' + 1 := ⟨k - 1, by omega⟩
      obtain ⟨a, kvs⟩ := c
      have hd := hc.1
      have e2 : lk (k' + 1) (a, kvs) (ss.drop i) = (fnd z kvs).bind fun c => lk k' c (ss.drop (i + 1)) := by rw [hdr]; rfl
      walk_at "wp"
      unfold tDNotIn tDGet
      walk_at "wp"
      refine ⟨_, rfl, _, DGet.k (k := Sum.inl z) hd, ?_⟩
      rw [dk_val]
      cases hf : fnd z kvs with
      | none =>
        rw [hf] at e2
        have e3 : lk n t ss = none := by rw [← e, e2]; rfl
        rw [e3] at q
        exact iteT q
      | some c2 =>
        rw [hf] at e2
        refine iteF ⟨_, rfl, tv k' c2, ?_, k', c2, rfl, hc.2.2.2 _ (fnd_mem hf), by omega, ?_⟩
        · have := DGet.k (k := Sum.inl z) hd
          rw [dk_val, hf] at this
          exact this
        · rw [← e, e2]; rfl
    · rintro ⟨rfl, k, c, v, rfl, hc, hk, e⟩
      rw [List.length_map] at hk e
      obtain rfl : k = 0 := by omega
      walk_at "wp"
      rw [List.drop_length] at e
      rw [← e] at q
      exact q
def sp_put_at (K : PySem.W.Frag) : Sp := fun vs H Q _ => ∃ (n : Nat) (t : TT (n + 1)) (b : Addr) (ss : List Int) (e : Int), vs = [tv (n + 1) t, .ref b, .int e] ∧ Rep H (n + 1) t ∧ (ads (n + 1) t).Nodup ∧ H b = some (.lst (ss.map V.int)) ∧ ss.length = n + 1 ∧ (∀ s ∈ ss, 0 ≤ s ∧ s < 256) ∧
  ∀ H' t', Good (n + 1) t t' (setF (lk (n + 1) t) ss e) H H' → Q .non H'
theorem h_put_at (T : Txt K mg A) : Have P w K mg base "put_at" 1 ["top", "steps", "entry"] [] (sp_put_at K) := by
  refine T.r_put_at.have sc_put_at (fun vs H Q E z => ?_) ?_
  · obtain ⟨n, t, b, ss, e, rfl, _⟩ := z; rfl
  · intro f cdv A' outer s H vs Q E hr z
    obtain ⟨n, t, b, ss, e, rfl, hR, hN, hb, hl, hin, q⟩ := z
    refine ⟨_, (pss_cons (ps_set (i := 3) sc_put_at.nd rfl (Or.inl rfl) (pvM 0))
      (pss_cons (ps_forE PassesOwn.leaving rfl (pi_list (pe_slice sl_list (pvM 1) po_none (po_some (pe_un op_neg pe_int)))) (pg_name (i := 4) sc_put_at.nd rfl (Or.inl rfl)) (pss_one (ps_set (i := 3) sc_put_at.nd rfl (Or.inl rfl) (pe_dsetd (pvM 3) (pvM 4) pe_dnewK ⟨rfl, rfl, rfl, rfl⟩))))
      (pss_one (ps_dput (hu_of hr) (pvM 3) (pe_ix ix_list (pvM 1) (pe_un op_neg pe_int) (fun _ _ => rfl)) (pvM 2) rfl)))), ?_⟩
    walk_at "wp"
    refine ⟨_, SqL.of hb, fun p hp => ⟨⟨_, SqL.of upd_same⟩, ?_⟩⟩
    have hcut : cutV (ss.map V.int) none (some (-1)) = (ss.take n).map V.int := by
      unfold cutV
      show ((ss.map V.int).drop 0).take ((if (-1 : Int) < 0 then (-1 + ((ss.map V.int).length : Int)).toNat else min (-1 : Int).toNat (ss.map V.int).length) - 0) = _
      rw [if_pos (by decide), List.length_map, hl, List.drop_zero, Nat.sub_zero, ← List.map_take, show (-1 + ((n + 1 : Nat) : Int)).toNat = n by omega]
    rw [hcut]
    have sm0 := same_upd (o := .lst ((ss.take n).map V.int)) same_refl hp
    refine loop_list (xs := (ss.take n).map V.int) (fun i σ H' => ∃ k, ∃ c : TT (k + 1), ∃ v, σ = [some (tv (n + 1) t), some (.ref b), some (.int e), some (tv (k + 1) c), v] ∧ k + i = n ∧ Rep H' (k + 1) c ∧ (ads (k + 1) c).Nodup ∧ H' b = some (.lst (ss.map V.int)) ∧ H' p = some (.lst ((ss.take n).map V.int)) ∧
      ∀ H'' c', Good (k + 1) c c' (setF (lk (k + 1) c) (ss.drop i) e) H' H'' → nE (k + 1) c' → Q .non H'') ⟨n, t, _, rfl, rfl, rep_stay hR (fun a _ o => sm0 a o), hN, sm0 _ _ hb, upd_same, fun H'' c' G _ => q _ _ (G.before sm0)⟩ (fun i σ H' _ ⟨_, _, _, _, _, _, _, _, e, _⟩ => SqL.of e) (fun i x σ H' hi => ?_) (fun σ H' => ?_)
    · rintro ⟨k, c, v, rfl, hk, hRc, hNc, hb', hp', tr⟩
      rw [List.getElem?_map] at hi
      obtain ⟨z, hz, rfl⟩ : ∃ z, (ss.take n)[i]? = some z ∧ V.int z = x := by
        cases e : (ss.take n)[i]? with
        | none => rw [e] at hi; cases hi
        | some z => rw [e] at hi; exact ⟨z, rfl, Option.some.inj hi⟩
      have hil : i < n := by
        have := (List.getElem?_eq_some_iff.mp hz).1
        rw [List.length_take] at this; omega
      rw [List.getElem?_take_of_lt hil] at hz
      have hzin := hin z (List.mem_of_getElem? hz)
      have hdr : ss.drop i = z :: ss.drop (i + 1) := by
        have hi2 : i < ss.length := (List.getElem?_eq_some_iff.mp hz).1
        rw [List.drop_eq_getElem_cons hi2, (List.getElem?_eq_some_iff.mp hz).2]
      obtain ⟨k', rfl⟩ : ∃ k', k = k' + 1 := ⟨k - 1, by omega⟩
      obtain ⟨a, kvs⟩ := c
      rw [hdr] at tr
      walk_at "wp"
      unfold tDSetD
      walk_at "wp"
      refine ⟨a, rfl, .inl ⟨_, .inl hRc.1⟩, fun pn hpn => ?_⟩
      have hna : a ≠ pn := ne_of_none hRc.1 hpn
      have sm1 := same_upd (o := .dK []) same_refl hpn
      refine ⟨dk kvs, by rw [upd_ne hna]; exact hRc.1, Sum.inl z, rfl, by unfold dk; rw [List.length_map]; have h256 : kvs.length ≤ 256 := rep_len hRc; omega, fun v hv => ?_, fun hv => ?_⟩
      · rw [dk_val] at hv
        cases hf : fnd z kvs with
        | none => rw [hf] at hv; cases hv
        | some c2 =>
          rw [hf] at hv
          cases hv
          exact ⟨k', c2, rfl, by omega, rep_stay (hRc.2.2.2 _ (fnd_mem hf)) (fun b _ o => sm1 b o), nd_child (List.nodup_cons.mp hNc).2 (fnd_mem hf), sm1 _ _ hb', sm1 _ _ hp', fun H'' c' G hne => tr _ _ ((Good.down hRc hNc hf (G.before sm1) hne).to (setF_down hf)) (rpl_ne hf)⟩
      · rw [dk_val] at hv
        have hf : fnd z kvs = none := Option.map_eq_none_iff.mp hv
        have hba : b ≠ a := ne_of hb' hRc.1 (fun z => nomatch z)
        have hpa : p ≠ a := ne_of hp' hRc.1 (fun z => nomatch z)
        refine ⟨k', nw k' pn, rfl, by omega, rep_new ?_, nd_new, ?_, ?_, fun H'' c' G hne2 => tr _ _ ((Good.more hRc hNc hf hzin (fun b o hb hne => ?_) ?_ (fun b hb => ?_) G hne2 ne_new).to (setF_more (fun r => lk_new r) hf)) (by show kvs ++ _ ≠ []; simp)⟩
        · rw [upd_ne (Ne.symm hna)]; exact upd_same
        · rw [upd_ne hba]; exact sm1 _ _ hb'
        · rw [upd_ne hpa]; exact sm1 _ _ hp'
        · rw [upd_ne hne]; exact sm1 _ _ hb
        · rw [upd_same, dkp_new hf]; rfl
        · have hb : b ∈ [pn] := hb
          rw [List.mem_singleton.mp hb]; exact hpn
    · rintro ⟨k, c, v, rfl, hk, hRc, hNc, hb', hp', tr⟩
      rw [List.length_map, List.length_take] at hk
      obtain rfl : k = 0 := by omega
      obtain ⟨a, kvs⟩ := c
      walk_at "wp"
      unfold sDPut
      walk_at "wp"
      obtain ⟨last, hlast⟩ : ∃ last, ss.drop n = [last] := by
        have h1 : (ss.drop n).length = 1 := by rw [List.length_drop]; omega
        match hd : ss.drop n, h1 with
        | [x], _ => exact ⟨x, rfl⟩
      have hl2 : ss[n]? = some last := by
        have : (ss.drop n)[0]? = some last := by rw [hlast]; rfl
        simpa using this
      have hlin := hin last (List.mem_of_getElem? hl2)
      rw [List.length_map, List.length_take, show min n ss.length = n by omega, hlast] at tr
      obtain ⟨t', hne, G⟩ := Good.leaf (s := last) (e := e) hRc hNc hlin
      refine ⟨_, SqL.of hb', .int last, ?_, a, rfl, _, DPut.k (k := Sum.inl last) hRc.1 (by unfold dk; rw [List.length_map, sizeLine_eq]; have h256 : kvs.length ≤ 256 := rep_len hRc; show kvs.length < _; omega), tr _ _ (G.to setF_leaf) hne⟩
      unfold atI ixN
      rw [if_neg (by decide), if_pos (by rw [List.length_map]; omega)]
      show ((ss.map V.int))[(-1 + ((ss.map V.int).length : Int)).toNat]? = _
      rw [List.length_map, hl, show (-1 + ((n + 1 : Nat) : Int)).toNat = n by omega, List.getElem?_map, hl2]; rfl

def tbF (sp a : Addr) : List (Str × V) := putF "top" (.ref a) (putF "shape" (.ref sp) [])
theorem tbF_top {sp a : Addr} : (tbF sp a).lookup ("top" : Str) = some (.ref a) := by rfl
theorem tbF_shape {sp a : Addr} : (tbF sp a).lookup ("shape" : Str) = some (.ref sp) := by rfl
theorem tbF_no {sp a : Addr} {m : Str} (h : ¬ m ∈ (["top", "shape"] : List Str)) : (tbF sp a).lookup m = none := by
  simp only [List.mem_cons, List.not_mem_nil, or_false, not_or] at h
  unfold tbF
  simp only [lookup_putF, h, if_false]
  rfl
def stp (l f x : Int) : List Int := (dg (pw f) l.toNat x).reverse
theorem stp_len {l f x : Int} : (stp l f x).length = l.toNat := by unfold stp; rw [List.length_reverse, dg_len]
theorem stp_in {l f g x : Int} (h : gd l f g) : ∀ s ∈ stp l f x, 0 ≤ s ∧ s < 256 := fun s hs => by
  have w1 := pw_pos f
  have w8 := pw8 h.2.2.2.1
  have := dg_in (w := pw f) (x := x) (by omega) l.toNat s (List.mem_reverse.mp hs)
  omega
theorem stp_inj {l f g x y : Int} (h : gd l f g) (hx : 0 ≤ x ∧ x < pw (l * f)) (hy : 0 ≤ y ∧ y < pw (l * f)) (e : stp l f x = stp l f y) : x = y := by
  have e1 := hor_all h.1 h.2.1 h.2.2.1 h.2.2.2.1 hx
  have e2 := hor_all h.1 h.2.1 h.2.2.1 h.2.2.2.1 hy
  unfold stp at e
  rw [← e1, ← e2, e]
def TabAt (C S : Addr) (H : Hp) (p : Addr) (l f g : Int) (n : Nat) (t : TT (n + 1)) : Prop :=
  l = n + 1 ∧ gd l f g ∧ (∃ dx sp, H p = some (.ins C dx (tbF sp t.1)) ∧ ShapeAt S H sp l f g) ∧ Rep H (n + 1) t ∧ (ads (n + 1) t).Nodup ∧ NEt (n + 1) t
def sp_tinit (C : Addr) : Sp := fun vs H Q _ => ∃ (p dx sp : Addr), vs = [.ref p, .ref sp] ∧ H p = some (.ins C dx []) ∧ ∀ a, H a = none → Q .non (upd (upd H a (.dK [])) p (.ins C dx (tbF sp a)))
theorem h_tinit (T : Txt K mg A) : HaveI P w K mg base "Table" A.C_Table 1 ["self", "shape"] [] (sp_tinit A.C_Table) := by
  refine T.r_Table_init.have sc_Table_init (fun vs H Q E z => ?_) ?_
  · obtain ⟨p, dx, sp, rfl, _⟩ := z; rfl
  · intro f cdv A' outer s H vs Q E hr z
    obtain ⟨p, dx, sp, rfl, hp, q⟩ := z
    refine ⟨_, (pss_cons (ps_fld (pvM 0) (pvM 1) rfl)
      (pss_one (ps_fld (pvM 0) pe_dnewK rfl))), ?_⟩
    walk_at "wp"
    simp only [hp, T.cl_Table, T.na_Table_shape, T.na_Table_top, true_and]
    walk_at "wp"
    refine ⟨T.cl_Table, T.na_Table_shape, fun a ha => ?_⟩
    have hpa : p ≠ a := fun z => by rw [← z, upd_same] at ha; cases ha
    rw [upd_ne (Ne.symm hpa)] at ha
    refine ⟨_, _, _, by rw [upd_ne hpa]; exact upd_same, T.cl_Table, T.na_Table_top, by show 1 < 1000; decide, ?_⟩
    have e : ∀ o1 o2 o3, upd (upd (upd H p o1) a o2) p o3 = upd (upd H a o2) p o3 := fun o1 o2 o3 => by
      funext b
      by_cases hb : b = p
      · rw [hb, upd_same, upd_same]
      · rw [upd_ne hb, upd_ne hb]
        by_cases hb2 : b = a
        · rw [hb2, upd_same, upd_same]
        · rw [upd_ne hb2, upd_ne hb2, upd_ne hb]
    rw [e]
    exact q a ha
def sp_tlook (C S O : Addr) : Sp := fun vs H Q E => ∃ (p : Addr) (x l f g : Int) (n : Nat) (t : TT (n + 1)), vs = [.ref p, .int x] ∧ TabAt C S H p l f g n t ∧
  if 0 ≤ x ∧ x < pw (l * f) then ∀ H', Same H H' → Q (oV (lk (n + 1) t (stp l f x))) H' else E (.ref O) none H
theorem h_tlook (T : Txt K mg A) : HaveM P w K mg base A.C_Table "look" 6 ["self", "page"] [] (sp_tlook A.C_Table A.C_Shape A.C_OutOfRoom) := by
  have H_look_at := h_look_at (P := P) (w := w) (base := base) T
  have H_Shape_steps := h_st (P := P) (w := w) (base := base) T
  refine T.r_Table_look.have sc_Table_look (fun vs H Q E z => ?_) ?_
  · obtain ⟨p, x, l, f, g, n, t, rfl, _⟩ := z; rfl
  · intro f cdv A' outer s H vs Q E hr z
    obtain ⟨p, x, l, f', g, n, t, rfl, hT, q⟩ := z
    refine ⟨_, (pss_one (ps_ret (pe_callE H_look_at (hr.mono (by decide)) xw_def (pa_cons (pe_fld (pvM 0) rfl) (pa_cons (pe_methE (pe_fld (pvM 0) rfl) T.cl_Shape H_Shape_steps (hr.mono (by decide)) xw_def (pa_cons (pvM 1) pa_nil)) pa_nil))))), ?_⟩
    obtain ⟨h1, h2, ⟨dx, sp, h3, h4⟩, h5, h6⟩ := id hT
    obtain ⟨dx2, h4'⟩ := id h4
    unfold sp_st sp_look_at
    walk_at "wp"
    simp only [h3, T.cl_Table, T.na_Table_shape, T.na_Table_top, true_and]
    walk_at "wp"
    refine ⟨T.cl_Table, T.na_Table_top, _, tbF_top, T.cl_Table, T.na_Table_shape, _, tbF_shape, sp, rfl, dx2, _, h4', shF_no (by decide +kernel), sp, rfl, l, f', g, h4, h2, ?_⟩
    by_cases c : 0 ≤ x ∧ x < pw (l * f')
    · rw [if_pos c] at q ⊢
      intro u H1 sm hu hu'
      refine ⟨n + 1, t, rfl, rep_stay h5 (fun a _ o => sm a o), stp l f' x, SqL.of hu', ?_, q _ sm⟩
      rw [stp_len]; omega
    · rw [if_neg c] at q ⊢
      exact q
def sp_tput (C S O : Addr) : Sp := fun vs H Q E => ∃ (p : Addr) (x e l f g : Int) (n : Nat) (t : TT (n + 1)), vs = [.ref p, .int x, .int e] ∧ TabAt C S H p l f g n t ∧
  if 0 ≤ x ∧ x < pw (l * f) then ∀ H' t', TabAt C S H' p l f g n t' → (∀ r, lk (n + 1) t' r = setF (lk (n + 1) t) (stp l f x) e r) → Frm (ads (n + 1) t) H H' → (∀ a ∈ ads (n + 1) t', a ∈ ads (n + 1) t ∨ H a = none) → Q .non H' else E (.ref O) none H
theorem h_tput (T : Txt K mg A) : HaveM P w K mg base A.C_Table "put" 6 ["self", "page", "entry"] [] (sp_tput A.C_Table A.C_Shape A.C_OutOfRoom) := by
  have H_put_at := h_put_at (P := P) (w := w) (base := base) T
  have H_Shape_steps := h_st (P := P) (w := w) (base := base) T
  refine T.r_Table_put.have sc_Table_put (fun vs H Q E z => ?_) ?_
  · obtain ⟨p, x, e, l, f, g, n, t, rfl, _⟩ := z; rfl
  · intro f cdv A' outer s H vs Q E hr z
    obtain ⟨p, x, e, l, f', g, n, t, rfl, hT, q⟩ := z
    refine ⟨_, (pss_one (ps_expr (pe_callE H_put_at (hr.mono (by decide)) xw_def (pa_cons (pe_fld (pvM 0) rfl) (pa_cons (pe_methE (pe_fld (pvM 0) rfl) T.cl_Shape H_Shape_steps (hr.mono (by decide)) xw_def (pa_cons (pvM 1) pa_nil)) (pa_cons (pvM 2) pa_nil)))))), ?_⟩
    obtain ⟨h1, h2, ⟨dx, sp, h3, h4⟩, h5, h6⟩ := id hT
    obtain ⟨dx2, h4'⟩ := id h4
    unfold sp_st sp_put_at
    walk_at "wp"
    simp only [h3, T.cl_Table, T.na_Table_shape, T.na_Table_top, true_and]
    walk_at "wp"
    refine ⟨T.cl_Table, T.na_Table_top, _, tbF_top, T.cl_Table, T.na_Table_shape, _, tbF_shape, sp, rfl, dx2, _, h4', shF_no (by decide +kernel), sp, rfl, l, f', g, h4, h2, ?_⟩
    by_cases c : 0 ≤ x ∧ x < pw (l * f')
    · rw [if_pos c] at q ⊢
      intro u H1 sm hu hu'
      refine ⟨n, t, rfl, rep_stay h5 (fun a _ o => sm a o), h6.1, stp l f' x, hu', ?_, stp_in h2, fun H' t' G => ?_⟩
      · rw [stp_len]; omega
      · have G' := G.before sm
        have et : t'.1 = t.1 := by have := G.root; exact V.ref.inj this
        refine q H' t' ⟨h1, h2, ⟨dx, sp, ?_, dx2, ?_⟩, G.rep, G.nd, G.ne h6.2⟩ G.look G'.fr G'.ad
        · rw [et]
          exact G'.fr _ _ h3 fun z => by obtain ⟨o, ho⟩ := rep_dk h5 _ z; rw [h3] at ho; cases ho
        · exact G'.fr _ _ h4' fun z => by obtain ⟨o, ho⟩ := rep_dk h5 _ z; rw [h4'] at ho; cases ho
    · rw [if_neg c] at q ⊢
      exact q

theorem same_none {H H' : Hp} {p : Addr} (s : Same H H') (h : H' p = none) : H p = none := by
  cases e : H p with
  | none => rfl
  | some o => rw [s p o e] at h; cases h

def dropF (f : List Int → Option Int) (ss : List Int) : List Int → Option Int := fun r => if r = ss then none else f r
def del {α : Type} (s : Int) (l : List (Int × α)) : List (Int × α) := l.filter fun p => decide (p.1 ≠ s)
theorem del_mem {α : Type} {s : Int} {l : List (Int × α)} {p : Int × α} : p ∈ del s l ↔ p ∈ l ∧ p.1 ≠ s := by unfold del; rw [List.mem_filter]; simp
theorem del_fnd {α : Type} {s z : Int} : ∀ {l : List (Int × α)}, fnd z (del s l) = if z = s then none else fnd z l
  | [] => by show (none : Option α) = if z = s then none else none; rw [ite_self]
  | p :: r => by
    have ih := del_fnd (s := s) (z := z) (l := r)
    unfold del at ih ⊢
    rw [List.filter_cons]
    by_cases c : p.1 = s
    · rw [if_neg (by simpa using c), ih]
      by_cases e : z = s
      · rw [if_pos e, if_pos e]
      · rw [if_neg e, if_neg e]
        show _ = if p.1 = z then some p.2 else fnd z r
        rw [if_neg (fun q => e (by rw [← q, c]))]
    · rw [if_pos (by simpa using c)]
      show (if p.1 = z then some p.2 else fnd z _) = if z = s then none else if p.1 = z then some p.2 else fnd z r
      rw [ih]
      by_cases e : z = s
      · rw [if_pos e, if_pos e, if_neg (fun q => c (by rw [q, e]))]
      · rw [if_neg e, if_neg e]
theorem dk_del {n : Nat} {s : Int} {l : List (Int × TT n)} : dropK (dk l) (Sum.inl s) = dk (del s l) := by
  unfold dropK dk del
  rw [List.filter_map]
  congr 1
  refine List.filter_congr fun p _ => ?_
  show decide ((Sum.inl p.1 : Key) ≠ Sum.inl s) = decide (p.1 ≠ s)
  rw [decide_eq_decide]
  exact ⟨fun h z => h (by rw [z]), fun h z => h (Sum.inl.inj z)⟩
theorem Good.refl {n : Nat} {t : TT n} {H : Hp} (hr : Rep H n t) (hn : (ads n t).Nodup) : Good n t t (lk n t) H H := ⟨hr, fun _ => rfl, fun _ _ h _ => h, fun _ h => .inl h, hn, rfl, id⟩
theorem nd_del {n : Nat} {s : Int} : ∀ {l : List (Int × TT n)}, (l.flatMap fun p => ads n p.2).Nodup → ((del s l).flatMap fun p => ads n p.2).Nodup
  | [], h => h
  | p :: r, h => by
    rw [List.flatMap_cons, List.nodup_append] at h
    have ih := nd_del (s := s) h.2.1
    unfold del at ih ⊢
    rw [List.filter_cons]
    by_cases c : p.1 = s
    · rw [if_neg (by simpa using c)]; exact ih
    · rw [if_pos (by simpa using c), List.flatMap_cons, List.nodup_append]
      refine ⟨h.1, ih, fun a ha b hb => ?_⟩
      obtain ⟨q, hq, hb⟩ := List.mem_flatMap.mp hb
      exact h.2.2 a ha b (List.mem_flatMap.mpr ⟨q, (List.mem_filter.mp hq).1, hb⟩)
theorem ads_sep {n : Nat} {a : Addr} {kvs : List (Int × TT n)} {s : Int} {c : TT n} (hn : (ads (n + 1) (a, kvs)).Nodup) (hf : fnd s kvs = some c) : a ∉ ads n c ∧ ∀ p ∈ kvs, p.1 ≠ s → ∀ b ∈ ads n p.2, b ∉ ads n c := by
  have hn' : a ∉ kvs.flatMap (fun p => ads n p.2) ∧ (kvs.flatMap fun p => ads n p.2).Nodup := List.nodup_cons.mp hn
  have hc := fnd_mem hf
  refine ⟨fun z => hn'.1 (List.mem_flatMap.mpr ⟨_, hc, z⟩), ?_⟩
  intro p hp ne b hb hb2
  have key : ∀ (l : List (Int × TT n)), (l.flatMap fun p => ads n p.2).Nodup → p ∈ l → (s, c) ∈ l → False := by
    intro l
    induction l with
    | nil => intro _ h; cases h
    | cons q r ih =>
      intro nd h1 h2
      rw [List.flatMap_cons, List.nodup_append] at nd
      rcases List.mem_cons.mp h1 with e1 | h1
      · rcases List.mem_cons.mp h2 with e2 | h2
        · exact ne (by rw [e1, ← e2])
        · exact nd.2.2 b (by rw [← e1]; exact hb) b (List.mem_flatMap.mpr ⟨_, h2, hb2⟩) rfl
      · rcases List.mem_cons.mp h2 with e2 | h2
        · exact nd.2.2 b (by rw [← e2]; exact hb2) b (List.mem_flatMap.mpr ⟨_, h1, hb⟩) rfl
        · exact ih nd.2.1 h1 h2
  exact key kvs hn'.2 hp hc
theorem Good.gone {n : Nat} {a : Addr} {kvs : List (Int × TT n)} {s : Int} {c c' : TT n} {g : List Int → Option Int} {H H' : Hp} (hr : Rep H (n + 1) (a, kvs)) (hn : (ads (n + 1) (a, kvs)).Nodup) (hf : fnd s kvs = some c)
    (G : Good n c c' g H H') : Good (n + 1) (a, kvs) (a, del s kvs) (updF (lk (n + 1) (a, kvs)) s fun _ => none) H (upd H' a (.dK (dk (del s kvs)))) := by
  have hn' : a ∉ kvs.flatMap (fun p => ads n p.2) ∧ (kvs.flatMap fun p => ads n p.2).Nodup := List.nodup_cons.mp hn
  have hc := fnd_mem hf
  obtain ⟨hac, sep⟩ := ads_sep hn hf
  refine ⟨⟨upd_same, ?_, fun p hp => hr.2.2.1 p (del_mem.mp hp).1, fun p hp => ?_⟩, ?_, ?_, ?_, ?_, rfl, fun hN p hp => hN p (del_mem.mp hp).1⟩
  · show ((del s kvs).map (·.1)).Nodup
    exact List.Sublist.nodup (List.Sublist.map _ List.filter_sublist) hr.2.1
  · have hp := del_mem.mp hp
    refine rep_stay (hr.2.2.2 p hp.1) fun b hb o ho => ?_
    rw [upd_ne (fun z => hn'.1 (by rw [← z]; exact List.mem_flatMap.mpr ⟨p, hp.1, hb⟩))]
    exact G.fr b o ho (sep p hp.1 hp.2 b hb)
  · intro r
    cases r with
    | nil => rfl
    | cons z r =>
      show (fnd z (del s kvs)).bind _ = _
      rw [del_fnd, updF_cons]
      by_cases e : z = s
      · rw [if_pos e, if_pos e]; rfl
      · rw [if_neg e, if_neg e]; rfl
  · intro b o ho hb
    rw [upd_ne fun z => hb (mem_ads.mpr (.inl z))]
    exact G.fr b o ho fun z => hb (mem_ads.mpr (.inr ⟨_, hc, z⟩))
  · intro b hb
    rcases mem_ads.mp hb with rfl | ⟨p, hp, hb⟩
    · exact .inl (mem_ads.mpr (.inl rfl))
    · exact .inl (mem_ads.mpr (.inr ⟨p, (del_mem.mp hp).1, hb⟩))
  · refine List.nodup_cons.mpr ⟨fun z => ?_, nd_del hn'.2⟩
    obtain ⟨p, hp, hb⟩ := List.mem_flatMap.mp z
    exact hn'.1 (List.mem_flatMap.mpr ⟨p, (del_mem.mp hp).1, hb⟩)
theorem dropF_down {n : Nat} {a : Addr} {kvs : List (Int × TT n)} {s : Int} {c : TT n} {ss : List Int} (h : fnd s kvs = some c) (r : List Int) : updF (lk (n + 1) (a, kvs)) s (dropF (lk n c) ss) r = dropF (lk (n + 1) (a, kvs)) (s :: ss) r := by
  unfold dropF
  cases r with
  | nil => rfl
  | cons z r =>
    rw [updF_cons]
    by_cases hz : z = s
    · rw [if_pos hz, hz]
      by_cases h2 : r = ss
      · rw [if_pos h2, h2, if_pos rfl]
      · rw [if_neg h2, if_neg (fun q => h2 (by injection q))]
        show _ = (fnd s kvs).bind fun c => lk n c r
        rw [h]; rfl
    · rw [if_neg hz, if_neg (fun q => hz (by injection q))]
theorem dropF_gone {n : Nat} {a : Addr} {kvs : List (Int × TT n)} {s : Int} {c : TT n} {ss : List Int} (h : fnd s kvs = some c) (hc : ∀ r, dropF (lk n c) ss r = none) (r : List Int) : updF (lk (n + 1) (a, kvs)) s (fun _ => none) r = dropF (lk (n + 1) (a, kvs)) (s :: ss) r := by
  rw [← dropF_down h]
  cases r with
  | nil => rfl
  | cons z r =>
    rw [updF_cons, updF_cons, hc]
theorem dropF_none {n : Nat} {a : Addr} {kvs : List (Int × TT n)} {s : Int} {ss : List Int} (h : fnd s kvs = none) (r : List Int) : lk (n + 1) (a, kvs) r = dropF (lk (n + 1) (a, kvs)) (s :: ss) r := by
  unfold dropF
  by_cases e : r = s :: ss
  · rw [if_pos e, e]
    show (fnd s kvs).bind _ = none
    rw [h]; rfl
  · rw [if_neg e]

def sp_drop (K : PySem.W.Frag) : Nat → Sp
  | 0 => fun _ _ _ _ => False
  | n + 1 => fun vs H Q _ => ∃ (t : TT (n + 1)) (b : Addr) (ss : List Int), vs = [tv (n + 1) t, .ref b] ∧ Rep H (n + 1) t ∧ (ads (n + 1) t).Nodup ∧ H b = some (.lst (ss.map V.int)) ∧ ss.length = n + 1 ∧ ∀ H' t', Good (n + 1) t t' (dropF (lk (n + 1) t) ss) H H' → Q .non H'
theorem h_drop_at (T : Txt K mg A) : ∀ n, Have P w K mg base "drop_at" (n + 1) ["level", "steps"] [] (sp_drop K n)
  | 0 => T.r_drop_at.have sc_drop_at (fun vs H Q E z => z.elim) (fun _ _ _ _ _ _ _ _ _ _ z => z.elim)
  | n + 1 => by
    have H_drop_at := h_drop_at T n
    refine T.r_drop_at.have sc_drop_at (fun vs H Q E z => ?_) ?_
    · obtain ⟨t, b, ss, rfl, _⟩ := z; rfl
    · intro f cdv A' outer s H vs Q E hr z
      obtain ⟨⟨a, kvs⟩, b, ss, rfl, hR, hN, hb, hl, q⟩ := z
      refine ⟨_, (pss_cons (ps_set (i := 2) sc_drop_at.nd rfl (Or.inl rfl) (pe_ix ix_list (pvM 1) pe_int (fun _ _ => rfl)))
      (pss_cons (ps_if (pt_cmp (pc_dnotin (hu_of hr) (pvM 2) (pvM 0))) (pss_one ps_retN) pss_nil)
      (pss_cons (ps_if (pt_cmpR op_gt (pe_callB call_len rfl T.b_len PySem.boot_len (pa_cons (pvM 1) pa_nil)) pe_int (nomark _)) (pss_cons (ps_expr (pe_callE H_drop_at (hr.mono (by omega)) xw_def (pa_cons (pe_dget (hu_of hr) (pvM 0) (pvM 2) (fun _ _ => rfl)) (pa_cons (pe_slice sl_list (pvM 1) (po_some pe_int) po_none) pa_nil))))
      (pss_one (ps_if (pt_cmpR op_gt (pe_callB call_lenD rfl T.b_len PySem.boot_len (pa_cons (pe_dget (hu_of hr) (pvM 0) (pvM 2) (fun _ _ => rfl)) pa_nil)) pe_int (nomark _)) (pss_one ps_retN) pss_nil))) pss_nil)
      (pss_one (ps_expr (pe_dpop1 (pvM 0) (pvM 2) ⟨rfl, rfl, rfl, rfl⟩)))))), ?_⟩
      cases ss with
      | nil => cases hl
      | cons z ss =>
        walk_at "wp"
        unfold tDNotIn tDGet tDPop1
        walk_at "wp"
        refine ⟨_, SqL.of hb, .int z, atI_nat (j := 0) rfl, a, rfl, _, DGet.k (k := Sum.inl z) hR.1, ?_⟩
        rw [dk_val]
        cases hf : fnd z kvs with
        | none => exact iteT (q _ _ ((Good.refl hR hN).to (dropF_none hf)))
        | some c =>
          refine iteF ⟨(z :: ss).length, .inl ⟨_, SqL.of hb, by simp⟩, ?_⟩
          have hget : ∀ H1 : Hp, H1 a = some (.dK (dk kvs)) → DGet H1 a (.int z) (some (tv n c)) := fun H1 h1 => by
            have := DGet.k (k := Sum.inl z) h1
            rw [dk_val, hf] at this
            exact this
          have hval : valV (dk kvs) (Sum.inl z) = some (tv n c) := by rw [dk_val, hf]; rfl
          by_cases c1 : (1 : Int) < ((z :: ss).length : Int)
          · rw [if_pos c1]
            rw [List.length_cons] at c1 hl
            obtain ⟨m, rfl⟩ : ∃ m, n = m + 1 := ⟨n - 1, by omega⟩
            refine ⟨a, rfl, _, hget _ hR.1, _, SqL.of hb, fun p hp => ?_⟩
            have sm := same_upd (o := .lst (cutV ((z :: ss).map V.int) (some 1) none)) same_refl hp
            have hcut : cutV ((z :: ss).map V.int) (some 1) none = ss.map V.int := by
              unfold cutV
              show (((z :: ss).map V.int).drop (if (1 : Int) < 0 then (1 + (((z :: ss).map V.int).length : Int)).toNat else min (1 : Int).toNat ((z :: ss).map V.int).length)).take (((z :: ss).map V.int).length - (if (1 : Int) < 0 then (1 + (((z :: ss).map V.int).length : Int)).toNat else min (1 : Int).toNat ((z :: ss).map V.int).length)) = _
              rw [if_neg (by decide), List.map_cons, List.length_cons, show min (1 : Int).toNat ((ss.map V.int).length + 1) = 1 from Nat.min_eq_left (Nat.le_add_left 1 _), List.drop_one, List.tail_cons, Nat.add_sub_cancel, List.take_length]
            refine ⟨c, p, ss, rfl, rep_stay (hR.2.2.2 _ (fnd_mem hf)) (fun b _ o => sm b o), nd_child (List.nodup_cons.mp hN).2 (fnd_mem hf), by rw [upd_same, hcut], by omega, fun H' c' G => ?_⟩
            have G' := G.before sm
            have Ga : H' a = some (.dK (dk kvs)) := G'.fr a _ hR.1 (ads_sep hN hf).1
            have er : c'.1 = c.1 := V.ref.inj G.root
            have hlen : H' c.1 = some (.dK (dk c'.2)) := by rw [← er]; exact G.rep.1
            refine ⟨a, rfl, _, hget _ Ga, c.1, rfl, dk c'.2, hlen, ?_⟩
            by_cases c2 : (0 : Int) < ((dk c'.2).length : Int)
            · rw [if_pos c2]
              exact q _ _ ((Good.down hR hN hf G' (by show c'.2 ≠ []; intro z; rw [z] at c2; exact absurd (show (0 : Int) < 0 from c2) (by decide))).to (dropF_down hf))
            · rw [if_neg c2]
              refine ⟨a, rfl, .inl ⟨_, .inl Ga⟩, dk kvs, Ga, Sum.inl z, rfl, _, hval, ?_⟩
              rw [dk_del]
              have h0 : c'.2 = [] := by
                unfold dk at c2
                rw [List.length_map] at c2
                exact List.eq_nil_of_length_eq_zero (by omega)
              refine q _ _ ((Good.gone hR hN hf G').to (dropF_gone hf fun r => ?_))
              rw [← G.look r]
              cases r with
              | nil => rfl
              | cons y r =>
                show (fnd y c'.2).bind _ = none
                rw [h0]; rfl
          · rw [if_neg c1]
            rw [List.length_cons] at c1 hl
            obtain rfl : n = 0 := by omega
            obtain rfl : ss = [] := List.eq_nil_of_length_eq_zero (by omega)
            refine ⟨a, rfl, .inl ⟨_, .inl hR.1⟩, dk kvs, hR.1, Sum.inl z, rfl, _, hval, ?_⟩
            rw [dk_del]
            refine q _ _ ((Good.gone hR hN hf (Good.refl True.intro (by show ([] : List Addr).Nodup; simp))).to (dropF_gone hf fun r => ?_))
            unfold dropF
            cases r with
            | nil => rw [if_pos rfl]
            | cons y r => rw [if_neg (fun z => nomatch z)]; rfl
def sp_tdrop (C S O : Addr) : Sp := fun vs H Q E => ∃ (p : Addr) (x l f g : Int) (n : Nat) (t : TT (n + 1)), vs = [.ref p, .int x] ∧ TabAt C S H p l f g n t ∧
  if 0 ≤ x ∧ x < pw (l * f) then ∀ H' t', TabAt C S H' p l f g n t' → (∀ r, lk (n + 1) t' r = dropF (lk (n + 1) t) (stp l f x) r) → Frm (ads (n + 1) t) H H' → (∀ a ∈ ads (n + 1) t', a ∈ ads (n + 1) t ∨ H a = none) → Q .non H' else E (.ref O) none H
theorem h_tdrop (T : Txt K mg A) : HaveM P w K mg base A.C_Table "drop" 6 ["self", "page"] [] (sp_tdrop A.C_Table A.C_Shape A.C_OutOfRoom) := by
  have H_Shape_steps := h_st (P := P) (w := w) (base := base) T
  refine T.r_Table_drop.have sc_Table_drop (fun vs H Q E z => ?_) ?_
  · obtain ⟨p, x, l, f, g, n, t, rfl, _⟩ := z; rfl
  · intro f cdv A' outer s H vs Q E hr z
    obtain ⟨p, x, l, f', g, n, t, rfl, hT, q⟩ := z
    have hn2 : n + 1 ≤ 3 := by have := hT.1; have := hT.2.1.2.1; omega
    have H_drop_at := h_drop_at (P := P) (w := w) (base := base) T (n + 1)
    refine ⟨_, (pss_one (ps_expr (pe_callE H_drop_at (hr.mono (by omega)) xw_def (pa_cons (pe_fld (pvM 0) rfl) (pa_cons (pe_methE (pe_fld (pvM 0) rfl) T.cl_Shape H_Shape_steps (hr.mono (by omega)) xw_def (pa_cons (pvM 1) pa_nil)) pa_nil))))), ?_⟩
    obtain ⟨h1, h2, ⟨dx, sp, h3, h4⟩, h5, h6⟩ := id hT
    obtain ⟨dx2, h4'⟩ := id h4
    unfold sp_st sp_drop
    walk_at "wp"
    simp only [h3, T.cl_Table, T.na_Table_shape, T.na_Table_top, true_and]
    walk_at "wp"
    refine ⟨T.cl_Table, T.na_Table_top, _, tbF_top, T.cl_Table, T.na_Table_shape, _, tbF_shape, sp, rfl, dx2, _, h4', shF_no (by decide +kernel), sp, rfl, l, f', g, h4, h2, ?_⟩
    by_cases c : 0 ≤ x ∧ x < pw (l * f')
    · rw [if_pos c] at q ⊢
      intro u H1 sm hu hu'
      refine ⟨t, rfl, rep_stay h5 (fun a _ o => sm a o), h6.1, stp l f' x, hu', ?_, fun H' t' G => ?_⟩
      · rw [stp_len]; omega
      · have G' := G.before sm
        have et : t'.1 = t.1 := V.ref.inj G.root
        refine q H' t' ⟨h1, h2, ⟨dx, sp, ?_, dx2, ?_⟩, G.rep, G.nd, G.ne h6.2⟩ G.look G'.fr G'.ad
        · rw [et]
          exact G'.fr _ _ h3 fun z => by obtain ⟨o, ho⟩ := rep_dk h5 _ z; rw [h3] at ho; cases ho
        · exact G'.fr _ _ h4' fun z => by obtain ⟨o, ho⟩ := rep_dk h5 _ z; rw [h4'] at ho; cases ho
    · rw [if_neg c] at q ⊢
      exact q

structure Rw where
  t : Int
  g : Int
  e : Int
  u : Bool
def RowAt (H : Hp) (v : V) : Option Rw → Prop
  | none => v = .non
  | some r => ∃ a, v = .ref a ∧ H a = some (.tup [.int r.t, .int r.g, .int r.e, .bl r.u])
abbrev RsAt (H : Hp) : List V → List (Option Rw) → Prop := Paired (RowAt H)
theorem RowAt.same {H H' : Hp} (s : Same H H') {v : V} : ∀ {r : Option Rw}, RowAt H v r → RowAt H' v r
  | none, h => h
  | some _, ⟨a, e, h⟩ => ⟨a, e, s _ _ h⟩
theorem RsAt.same {H H' : Hp} (s : Same H H') {vs : List V} {rs : List (Option Rw)} (h : RsAt H vs rs) : RsAt H' vs rs := Paired.mapP h fun _ _ q => q.same s
def isK (t g : Int) : Option Rw → Bool
  | none => false
  | some r => decide (r.t = t) && decide (r.g = g)
def bfnd (rows : List (Option Rw)) (t g : Int) : Option Nat := rows.findIdx? (isK t g)
def ky (t g : Int) : List Key := [.inl t, .inl g]
def Lnk (rows : List (Option Rw)) (kvs : List (List Key × V)) : Prop := (∀ t g, valV kvs (ky t g) = (bfnd rows t g).map fun (j : Nat) => V.int (j : Int)) ∧ ∀ x ∈ kvs, ∃ t g, x.1 = ky t g
def bkF (ra fa : Addr) (hd : Int) : List (Str × V) := putF "hand" (.int hd) (putF "found" (.ref fa) (putF "rows" (.ref ra) []))
theorem bkF_rows {ra fa : Addr} {hd : Int} : (bkF ra fa hd).lookup ("rows" : Str) = some (.ref ra) := by rfl
theorem bkF_found {ra fa : Addr} {hd : Int} : (bkF ra fa hd).lookup ("found" : Str) = some (.ref fa) := by rfl
theorem bkF_no {ra fa : Addr} {hd : Int} {m : Str} (h : ¬ m ∈ (["rows", "found", "hand"] : List Str)) : (bkF ra fa hd).lookup m = none := by
  simp only [List.mem_cons, List.not_mem_nil, or_false, not_or] at h
  unfold bkF
  simp only [lookup_putF, h.1, h.2.1, h.2.2, if_false]
  rfl
def BkAt (C : Addr) (H : Hp) (p ra fa : Addr) (rows : List (Option Rw)) (n : Nat) (hd : Int) : Prop := ∃ dx vs kvs, H p = some (.ins C dx (bkF ra fa hd)) ∧ H ra = some (.lst vs) ∧ RsAt H vs rows ∧ H fa = some (.dT kvs) ∧ Lnk rows kvs ∧ kvs.length ≤ n
theorem BkAt.same {C : Addr} {H H' : Hp} {p ra fa : Addr} {rows : List (Option Rw)} {n : Nat} {hd : Int} (h : BkAt C H p ra fa rows n hd) (s : Same H H') : BkAt C H' p ra fa rows n hd := let ⟨dx, vs, kvs, h1, h2, h3, h4, h5, h6⟩ := h; ⟨dx, vs, kvs, s _ _ h1, s _ _ h2, h3.same s, s _ _ h4, h5, h6⟩
def Kp (ex : List Addr) (H H' : Hp) : Prop := ∀ c o, H c = some o → c ∉ ex → H' c = some o
theorem prd_get {α β : Type} {F : α → β → Prop} : ∀ {xs : List α} {ys : List β} {i : Nat} {x : α}, Paired F xs ys → xs[i]? = some x → ∃ y, ys[i]? = some y ∧ F x y
  | _, _, _, _, .nil, e => by simp at e
  | _, _, 0, _, .cons r _, e => by simp at e; subst e; exact ⟨_, rfl, r⟩
  | _, _, i + 1, x, .cons _ t, e => by
    obtain ⟨u, h1, h2⟩ := prd_get (i := i) (x := x) t (by simpa using e)
    exact ⟨u, by simpa using h1, h2⟩
theorem prd_get2 {α β : Type} {F : α → β → Prop} : ∀ {xs : List α} {ys : List β} {i : Nat} {y : β}, Paired F xs ys → ys[i]? = some y → ∃ x, xs[i]? = some x ∧ F x y
  | _, _, _, _, .nil, e => by simp at e
  | _, _, 0, _, .cons r _, e => by simp at e; subst e; exact ⟨_, rfl, r⟩
  | _, _, i + 1, y, .cons _ t, e => by
    obtain ⟨u, h1, h2⟩ := prd_get2 (i := i) (y := y) t (by simpa using e)
    exact ⟨u, by simpa using h1, h2⟩
theorem prd_set {α β : Type} {F : α → β → Prop} {x : α} {y : β} (hxy : F x y) : ∀ {xs : List α} {ys : List β} (i : Nat), Paired F xs ys → Paired F (xs.set i x) (ys.set i y)
  | _, _, _, .nil => .nil
  | _, _, 0, .cons _ t => .cons hxy t
  | _, _, i + 1, .cons r t => .cons r (prd_set hxy i t)
theorem bfnd_some {rows : List (Option Rw)} {t g : Int} {j : Nat} (h : bfnd rows t g = some j) : ∃ r : Rw, rows[j]? = some (some r) ∧ r.t = t ∧ r.g = g := by
  obtain ⟨hj, h1, _⟩ := List.findIdx?_eq_some_iff_getElem.mp h
  cases e : rows[j] with
  | none => rw [e] at h1; cases h1
  | some r =>
    rw [e] at h1
    have h1 : (decide (r.t = t) && decide (r.g = g)) = true := h1
    rw [Bool.and_eq_true] at h1
    exact ⟨r, by rw [List.getElem?_eq_getElem hj, e], of_decide_eq_true h1.1, of_decide_eq_true h1.2⟩
theorem RowAt.same2 {H : Hp} {a : Addr} {xs : List V} {o : HO} (hx : H a = some (.lst xs)) {v : V} : ∀ {r : Option Rw}, RowAt H v r → RowAt (upd H a o) v r
  | none, h => h
  | some _, ⟨b, e, h⟩ => ⟨b, e, by rw [upd_ne (fun z => by rw [z, hx] at h; cases h)]; exact h⟩
theorem RsAt.same2 {H : Hp} {a : Addr} {xs : List V} {o : HO} (hx : H a = some (.lst xs)) {vs : List V} {rs : List (Option Rw)} (h : RsAt H vs rs) : RsAt (upd H a o) vs rs := Paired.mapP h fun _ _ q => q.same2 hx
theorem RowAt.sameD {H : Hp} {a : Addr} {xs : List (List Key × V)} {o : HO} (hx : H a = some (.dT xs)) {v : V} : ∀ {r : Option Rw}, RowAt H v r → RowAt (upd H a o) v r
  | none, h => h
  | some _, ⟨b, e, h⟩ => ⟨b, e, by rw [upd_ne (fun z => by rw [z, hx] at h; cases h)]; exact h⟩
theorem RsAt.sameD {H : Hp} {a : Addr} {xs : List (List Key × V)} {o : HO} (hx : H a = some (.dT xs)) {vs : List V} {rs : List (Option Rw)} (h : RsAt H vs rs) : RsAt (upd H a o) vs rs := Paired.mapP h fun _ _ q => q.sameD hx
theorem fi_set {α : Type} {p : α → Bool} {x y : α} (e : p y = p x) : ∀ {l : List α} {j : Nat}, l[j]? = some x → (l.set j y).findIdx? p = l.findIdx? p
  | [], _, h => by simp at h
  | z :: l, 0, h => by
    simp at h
    subst h
    rw [List.set_cons_zero, List.findIdx?_cons, List.findIdx?_cons, e]
  | z :: l, j + 1, h => by
    rw [List.set_cons_succ, List.findIdx?_cons, List.findIdx?_cons, fi_set e (by simpa using h)]
theorem fi_new {α : Type} {p : α → Bool} {y : α} (e : p y = true) : ∀ {l : List α} {j : Nat}, l.findIdx? p = none → j < l.length → (l.set j y).findIdx? p = some j
  | [], _, _, h => by simp at h
  | z :: l, 0, _, _ => by rw [List.set_cons_zero, List.findIdx?_cons, e]; rfl
  | z :: l, j + 1, hn, h => by
    rw [List.findIdx?_cons] at hn
    cases hz : p z with
    | true => rw [hz] at hn; cases hn
    | false =>
      rw [hz] at hn
      have hn : (l.findIdx? p).map (· + 1) = none := by simpa using hn
      rw [List.set_cons_succ, List.findIdx?_cons, hz, fi_new e (Option.map_eq_none_iff.mp hn) (by simpa using h)]
      rfl
theorem lnk_set {rows : List (Option Rw)} {kvs : List (List Key × V)} {j : Nat} {r r' : Rw} (h : Lnk rows kvs) (hj : rows[j]? = some (some r)) (ht : r'.t = r.t) (hg : r'.g = r.g) : Lnk (rows.set j (some r')) kvs := ⟨fun t g => by
  rw [h.1 t g]
  unfold bfnd
  rw [fi_set (x := some r) (by show (decide (r'.t = t) && decide (r'.g = g)) = (decide (r.t = t) && decide (r.g = g)); rw [ht, hg]) hj], h.2⟩
theorem lnk_new {rows : List (Option Rw)} {kvs : List (List Key × V)} {j : Nat} {r : Rw} (h : Lnk rows kvs) (hj : rows[j]? = some none) (hn : bfnd rows r.t r.g = none) : Lnk (rows.set j (some r)) (putK kvs (ky r.t r.g) (.int (j : Int))) := by
  refine ⟨fun t g => ?_, fun x hx => ?_⟩
  rotate_left
  · have hval : valV kvs (ky r.t r.g) = none := by rw [h.1, hn]; rfl
    rw [putK_new _ hval] at hx
    rcases List.mem_append.mp hx with hx | hx
    · exact h.2 x hx
    · rw [List.mem_singleton.mp hx]; exact ⟨_, _, rfl⟩
  rw [valV_put, h.1 t g]
  by_cases c : ky t g = ky r.t r.g
  · rw [if_pos c]
    have c1 : t = r.t := by injection c with a b; injection a
    have c2 : g = r.g := by injection c with a b; injection b with b _; injection b
    subst c1 c2
    unfold bfnd
    rw [fi_new (by show (decide (r.t = r.t) && decide (r.g = r.g)) = true; simp) hn (List.getElem?_eq_some_iff.mp hj).1]
    rfl
  · rw [if_neg c]
    unfold bfnd
    rw [fi_set (x := none) (by
      show (decide (r.t = t) && decide (r.g = g)) = false
      rw [Bool.and_eq_false_iff]
      by_cases d : r.t = t
      · refine .inr (decide_eq_false fun d2 => c ?_)
        rw [← d, ← d2]
      · exact .inl (decide_eq_false d)) hj]
def useR (rows : List (Option Rw)) (t g : Int) : List (Option Rw) := match bfnd rows t g with
  | none => rows
  | some j => match rows[j]? with
    | some (some r) => rows.set j (some ⟨t, g, r.e, true⟩)
    | _ => rows
def lookE (rows : List (Option Rw)) (t g : Int) : V := match bfnd rows t g with
  | none => .non
  | some j => match rows[j]? with
    | some (some r) => .int r.e
    | _ => .non

def sp_no : Sp := fun _ _ _ _ => False
def sp_look (C : Addr) : Sp := fun vs H Q _ => ∃ (p ra fa : Addr) (rows : List (Option Rw)) (n : Nat) (hd : Int) (t g : Int), vs = [.ref p, .int t, .int g] ∧ BkAt C H p ra fa rows n hd ∧ ∀ H', Same H H' → Q (lookE rows t g) H'
theorem h_look (T : Txt K mg A) : HaveM P w K mg base A.C_Book "look" 1 ["self", "task", "page"] [] (sp_look A.C_Book) := by
  refine T.r_Book_look.have sc_Book_look (fun vs H Q E z => ?_) ?_
  · obtain ⟨p, ra, fa, rows, n, hd, t, g, rfl, _⟩ := z; rfl
  · intro f cdv A' outer s H vs Q E hr z
    obtain ⟨p, ra, fa, rows, n, hd, t, g, rfl, hB, q⟩ := z
    obtain ⟨dx, vs, kvs, h1, h2, h3, h4, h5, h6⟩ := id hB
    refine ⟨_, (pss_cons (ps_set (i := 3) sc_Book_look.nd rfl (Or.inl rfl) (pe_dget1 (hu_of hr) (pe_fld (pvM 0) rfl) (pe_tup (pa_cons (pvM 1) (pa_cons (pvM 2) pa_nil))) ⟨rfl, rfl, rfl, rfl⟩))
      (pss_one (ps_ret (pe_ifExp (pt_cmpR op_isN (pvM 3) pe_non (nomark _)) pe_non (pe_ix ix_tup (pe_ix ix_list (pe_fld (pvM 0) rfl) (pvM 3) (fun _ _ => rfl)) pe_int (fun _ _ => rfl)))))), ?_⟩
    unfold tDGet1
    walk_at "wp"
    simp only [h1]
    walk_at "wp"
    refine ⟨T.cl_Book, T.na_Book_found, _, bkF_found, fa, rfl, .inr ⟨kvs, .inl h4⟩, fun kp hkp => ?_⟩
    have b1 := same_upd (o := .tup [V.int t, V.int g]) (same_refl (H := H)) hkp
    refine ⟨_, DGet.t (k := ky t g) (b1 _ _ h4) upd_same, ?_⟩
    have q := q _ b1
    unfold lookE at q
    rw [h5.1 t g]
    cases e : bfnd rows t g with
    | none =>
      rw [e] at q
      show if V.non = V.non then _ else _
      rw [if_pos rfl]
      exact q
    | some j =>
      obtain ⟨r, hr1, rt, rg⟩ := bfnd_some e
      obtain ⟨x, hx, c, rfl, hc⟩ := prd_get2 h3 hr1
      rw [e] at q
      simp only [hr1] at q
      rw [if_neg (fun z => nomatch z)]
      exact ⟨_, dx, _, b1 _ _ h1, T.cl_Book, T.na_Book_rows, _, bkF_rows, ra, rfl, vs, _, rfl, SqL.of (b1 _ _ h2), _, atI_nat hx, c, rfl, _, SqT.of (b1 _ _ hc), _, rfl, q⟩
def sp_use (C : Addr) : Sp := fun vs H Q _ => ∃ (p ra fa : Addr) (rows : List (Option Rw)) (n : Nat) (hd : Int) (t g : Int), vs = [.ref p, .int t, .int g] ∧ BkAt C H p ra fa rows n hd ∧ ∀ H', BkAt C H' p ra fa (useR rows t g) n hd → Kp [ra] H H' → Q .non H'
theorem h_use (T : Txt K mg A) : HaveM P w K mg base A.C_Book "use" 1 ["self", "task", "page"] [] (sp_use A.C_Book) := by
  refine T.r_Book_use.have sc_Book_use (fun vs H Q E z => ?_) ?_
  · obtain ⟨p, ra, fa, rows, n, hd, t, g, rfl, _⟩ := z; rfl
  · intro f cdv A' outer s H vs Q E hr z
    obtain ⟨p, ra, fa, rows, n, hd, t, g, rfl, hB, q⟩ := z
    obtain ⟨dx, vs, kvs, h1, h2, h3, h4, h5, h6⟩ := id hB
    refine ⟨_, (pss_cons (ps_set (i := 3) sc_Book_use.nd rfl (Or.inl rfl) (pe_dget1 (hu_of hr) (pe_fld (pvM 0) rfl) (pe_tup (pa_cons (pvM 1) (pa_cons (pvM 2) pa_nil))) ⟨rfl, rfl, rfl, rfl⟩))
      (pss_one (ps_if (pt_cmpR op_notN (pvM 3) pe_non (nomark _)) (pss_one (ps_asg (pe_tup (pa_cons (pvM 1) (pa_cons (pvM 2) (pa_cons (pe_ix ix_tup (pe_ix ix_list (pe_fld (pvM 0) rfl) (pvM 3) (fun _ _ => rfl)) pe_int (fun _ _ => rfl)) (pa_cons pe_bl pa_nil))))) (pg_sub (pe_fld (pvM 0) rfl) (pvM 3) set_list))) pss_nil))), ?_⟩
    unfold tDGet1
    walk_at "wp"
    simp only [h1]
    walk_at "wp"
    refine ⟨T.cl_Book, T.na_Book_found, _, bkF_found, fa, rfl, .inr ⟨kvs, .inl h4⟩, fun kp hkp => ?_⟩
    have b1 := same_upd (o := .tup [V.int t, V.int g]) (same_refl (H := H)) hkp
    refine ⟨_, DGet.t (k := ky t g) (b1 _ _ h4) upd_same, ?_⟩
    unfold useR at q
    rw [h5.1 t g]
    cases e : bfnd rows t g with
    | none =>
      simp only [e] at q
      rw [if_neg (by decide)]
      exact q _ (hB.same b1) fun c o hc _ => b1 _ _ hc
    | some j =>
      obtain ⟨r, hr1, rt, rg⟩ := bfnd_some e
      obtain ⟨x, hx, c, rfl, hc⟩ := prd_get2 h3 hr1
      simp only [e, hr1] at q
      refine iteT ⟨_, dx, _, b1 _ _ h1, T.cl_Book, T.na_Book_rows, _, bkF_rows, ra, rfl, vs, _, rfl, SqL.of (b1 _ _ h2), _, atI_nat hx, c, rfl, _, SqT.of (b1 _ _ hc), _, rfl, fun np hnp => ?_⟩
      have b2 := same_upd (o := .tup [V.int t, V.int g, V.int r.e, V.bl true]) b1 hnp
      have b2' := same_upd (o := .tup [V.int t, V.int g, V.int r.e, V.bl true]) (same_refl (H := upd H kp (.tup [V.int t, V.int g]))) hnp
      have hr2 := b2 _ _ h2
      have npr : np ≠ ra := fun z => by rw [z, b1 _ _ h2] at hnp; cases hnp
      have hvl : j < vs.length := (List.getElem?_eq_some_iff.mp hx).1
      refine ⟨_, dx, _, b2 _ _ h1, T.cl_Book, T.na_Book_rows, _, bkF_rows, ra, rfl, vs, _, rfl, hr2, j, by unfold ixN; rw [if_pos (by omega), if_pos (by omega)]; rfl, ?_⟩
      refine q _ ⟨dx, vs.set j (.ref np), kvs, ?_, upd_same, ?_, ?_, lnk_set h5 hr1 rt.symm rg.symm, h6⟩ ?_
      · rw [upd_ne (fun z => by rw [z, h2] at h1; cases h1)]; exact b2 _ _ h1
      · exact prd_set (F := RowAt _) (show RowAt _ (V.ref np) (some _) from ⟨np, rfl, by rw [upd_ne npr, upd_same]⟩) j (RsAt.same2 hr2 (h3.same b2))
      · rw [upd_ne (fun z => by rw [z, h2] at h4; cases h4)]; exact b2 _ _ h4
      · intro c o hc hx
        rw [upd_ne (fun z => hx (by simp [z]))]
        exact b2 _ _ hc
theorem h_strike (T : Txt K mg A) : HaveM P w K mg base A.C_Book "strike" 1 ["self", "task", "page"] [] sp_no := T.r_Book_strike.have sc_Book_strike (fun vs H Q E z => False.elim z) (fun _ _ _ _ _ _ _ _ _ _ z => False.elim z)
theorem h_swept (T : Txt K mg A) : Have P w K mg base "swept" 1 ["marks", "hand"] [] sp_no := T.r_swept.have sc_swept (fun vs H Q E z => False.elim z) (fun _ _ _ _ _ _ _ _ _ _ z => False.elim z)
def sp_new (C : Addr) : Sp := fun vs H Q _ => ∃ (p ra fa : Addr) (rows : List (Option Rw)) (n j : Nat) (hd : Int), vs = [.ref p] ∧ BkAt C H p ra fa rows n hd ∧ rows.findIdx? Option.isNone = some j ∧ Q (.int j) H
theorem h_new (T : Txt K mg A) : HaveM P w K mg base A.C_Book "place_for_new" 2 ["self"] [] (sp_new A.C_Book) := by
  have H_swept := h_swept (P := P) (w := w) (base := base) T
  have H_Book_strike := h_strike (P := P) (w := w) (base := base) T
  refine T.r_Book_place_for_new.have sc_Book_place_for_new (fun vs H Q E z => ?_) ?_
  · obtain ⟨p, ra, fa, rows, n, j, hd, rfl, _⟩ := z; rfl
  · intro f cdv A' outer s H vs Q E hr z
    obtain ⟨p, ra, fa, rows, n, j, hd, rfl, hB, hj, q⟩ := z
    obtain ⟨dx, vs, kvs, h1, h2, h3, h4, h5, h6⟩ := id hB
    refine ⟨_, (pss_cons (ps_if (pt_cmpR (op_inN (hu6 hr)) pe_non (pe_fld (pvM 0) rfl) (by with_unfolding_all rfl)) (pss_one (ps_ret (pe_bm PySem.F.plainAttrs_list PySem.F.slot_list_index PySem.F.type_list_index (mt_indexN (hu6 hr)) (pe_fld (pvM 0) rfl) (pa_cons pe_non pa_nil)))) pss_nil)
      (pss_cons (ps_set (i := 1) sc_Book_place_for_new.nd rfl (Or.inl rfl) (pe_callE H_swept (hr.mono (by decide)) xw_def (pa_cons (pe_comp rfl (pi_list (pe_fld (pvM 0) rfl)) (x := "row") (fs := []) (ix := []) rfl rfl (fun _ _ _ _ _ _ => (pg_name (i := 0) (show (["row"] : List Str).Nodup by decide +kernel) rfl (Or.inl rfl))) (fun _ _ _ _ _ _ => pf_nil) (fun _ _ _ _ _ _ => (pe_ix (ix_tupC (K := K) rfl) (pvM 0) pe_int (fun _ _ => rfl)))) (pa_cons (pe_fld (pvM 0) rfl) pa_nil))))
      (pss_cons (ps_forE PassesOwn.leaving rfl (pi_list (pe_ix ix_tup (pvM 1) pe_int (fun _ _ => rfl))) (pg_name (i := 2) sc_Book_place_for_new.nd rfl (Or.inl rfl)) (pss_cons (ps_set (i := 3) sc_Book_place_for_new.nd rfl (Or.inl rfl) (pe_ix ix_list (pe_fld (pvM 0) rfl) (pvM 2) (fun _ _ => rfl)))
      (pss_one (ps_asg (pe_tup (pa_cons (pe_ix ix_tup (pvM 3) pe_int (fun _ _ => rfl)) (pa_cons (pe_ix ix_tup (pvM 3) pe_int (fun _ _ => rfl)) (pa_cons (pe_ix ix_tup (pvM 3) pe_int (fun _ _ => rfl)) (pa_cons pe_bl pa_nil))))) (pg_sub (pe_fld (pvM 0) rfl) (pvM 2) set_list)))))
      (pss_cons (ps_set (i := 4) sc_Book_place_for_new.nd rfl (Or.inl rfl) (pe_ix ix_list (pe_fld (pvM 0) rfl) (pe_ix ix_tup (pvM 1) pe_int (fun _ _ => rfl)) (fun _ _ => rfl)))
      (pss_cons (ps_expr (pe_methE (pvM 0) T.cl_Book H_Book_strike (hr.mono (by decide)) xw_def (pa_cons (pe_ix ix_tup (pvM 4) pe_int (fun _ _ => rfl)) (pa_cons (pe_ix ix_tup (pvM 4) pe_int (fun _ _ => rfl)) pa_nil))))
      (pss_cons (ps_fld (pvM 0) (pe_op op_mod (pe_op op_add (pe_ix ix_tup (pvM 1) pe_int (fun _ _ => rfl)) pe_int) (pe_callB call_len rfl T.b_len PySem.boot_len (pa_cons (pe_fld (pvM 0) rfl) pa_nil))) rfl)
      (pss_one (ps_ret (pe_ix ix_tup (pvM 1) pe_int (fun _ _ => rfl)))))))))), ?_⟩
    unfold sp_no
    walk_at "wp"
    simp only [h1]
    walk_at "wp"
    have hn : ∀ z ∈ vs, NTup K H z := fun z hz => by
      obtain ⟨i, hi⟩ := List.mem_iff_getElem?.mp hz
      obtain ⟨y, _, hy⟩ := prd_get h3 hi
      cases y with
      | none => exact .inl hy
      | some r => obtain ⟨a, e, h⟩ := hy; exact .inr ⟨a, _, e, SqT.of h⟩
    have e1 : ∀ {vs : List V} {rows : List (Option Rw)}, RsAt H vs rows → vs.findIdx? isN = rows.findIdx? Option.isNone := fun h => by
      induction h with
      | nil => rfl
      | cons r t ih =>
        rename_i x y xs ys
        rw [List.findIdx?_cons, List.findIdx?_cons, ih]
        have : isN x = y.isNone := by
          cases y with
          | none => have r : x = .non := r; rw [r]; rfl
          | some y => obtain ⟨a, e, _⟩ := r; rw [e]; rfl
        rw [this]
    have ej : vs.findIdx? isN = some j := (e1 h3).trans hj
    have ha : vs.any isN = true := by
      obtain ⟨hl, h1, _⟩ := List.findIdx?_eq_some_iff_getElem.mp ej
      exact List.any_eq_true.mpr ⟨_, List.getElem_mem hl, h1⟩
    refine ⟨T.cl_Book, T.na_Book_rows, _, bkF_rows, ra, vs, rfl, rfl, SqL.of h2, hn, true, by rw [ha], ?_⟩
    exact iteT ⟨_, dx, _, h1, T.cl_Book, T.na_Book_rows, _, bkF_rows, .inl ⟨rfl, _, SqL.of h2⟩, ra, vs, j, rfl, rfl, SqL.of h2, hn, ej, q⟩
def keepR (rows : List (Option Rw)) (t g e : Int) (j0 : Nat) : List (Option Rw) := match bfnd rows t g with
  | none => rows.set j0 (some ⟨t, g, e, false⟩)
  | some j => match rows[j]? with
    | some (some r) => rows.set j (some ⟨t, g, e, r.u⟩)
    | _ => rows
def sp_keep (C : Addr) : Sp := fun vs H Q _ => ∃ (p ra fa : Addr) (rows : List (Option Rw)) (n j0 : Nat) (hd : Int) (t g e : Int), vs = [.ref p, .int t, .int g, .int e] ∧ BkAt C H p ra fa rows n hd ∧ n < 1000000 ∧ 0 < rows.length ∧ (bfnd rows t g = none → rows.findIdx? Option.isNone = some j0) ∧ ∀ H', BkAt C H' p ra fa (keepR rows t g e j0) (n + 1) hd → Kp [ra, fa] H H' → Q .non H'
theorem b_keep (T : Txt K mg A) : Body P w K mg base "Book.keep" s_Book_keep ["self", "task", "page", "entry", "place"] 2 (sp_keep A.C_Book) := by
  have H_Book_place_for_new := h_new (P := P) (w := w) (base := base) T
  · intro f cdv A' outer s H vs Q E hr z
    obtain ⟨p, ra, fa, rows, n, j0, hd, t, g, e, rfl, hB, hn, h0, hj0, q⟩ := z
    obtain ⟨dx, vs, kvs, h1, h2, h3, h4, h5, h6⟩ := id hB
    have hvl := Paired.length h3
    refine ⟨_, (pss_cons (ps_if (pt_cmpR op_eq (pe_callB call_len rfl T.b_len PySem.boot_len (pa_cons (pe_fld (pvM 0) rfl) pa_nil)) pe_int (nomark _)) (pss_one ps_retN) pss_nil)
      (pss_cons (ps_set (i := 4) sc_Book_keep.nd rfl (Or.inl rfl) (pe_dget1 (hu_of hr) (pe_fld (pvM 0) rfl) (pe_tup (pa_cons (pvM 1) (pa_cons (pvM 2) pa_nil))) ⟨rfl, rfl, rfl, rfl⟩))
      (pss_cons (ps_if (pt_cmpR op_notN (pvM 4) pe_non (nomark _)) (pss_cons (ps_asg (pe_tup (pa_cons (pvM 1) (pa_cons (pvM 2) (pa_cons (pvM 3) (pa_cons (pe_ix ix_tup (pe_ix ix_list (pe_fld (pvM 0) rfl) (pvM 4) (fun _ _ => rfl)) pe_int (fun _ _ => rfl)) pa_nil))))) (pg_sub (pe_fld (pvM 0) rfl) (pvM 4) set_list))
      (pss_one ps_retN)) pss_nil)
      (pss_cons (ps_set (i := 4) sc_Book_keep.nd rfl (Or.inl rfl) (pe_methE0 (pvM 0) T.cl_Book H_Book_place_for_new (hr.mono (by decide)) xw_def))
      (pss_cons (ps_asg (pe_tup (pa_cons (pvM 1) (pa_cons (pvM 2) (pa_cons (pvM 3) (pa_cons pe_bl pa_nil))))) (pg_sub (pe_fld (pvM 0) rfl) (pvM 4) set_list))
      (pss_one (ps_dput (hu_of hr) (pe_fld (pvM 0) rfl) (pe_tup (pa_cons (pvM 1) (pa_cons (pvM 2) pa_nil))) (pvM 4) rfl))))))), ?_⟩
    unfold tDGet1 sp_new sDPut
    walk_at "wp"
    simp only [h1]
    walk_at "wp"
    refine ⟨T.cl_Book, T.na_Book_rows, _, bkF_rows, _, .inl ⟨_, SqL.of h2, rfl⟩, ?_⟩
    rw [if_neg (by omega)]
    refine ⟨T.cl_Book, T.na_Book_found, _, bkF_found, fa, rfl, .inr ⟨kvs, .inl h4⟩, fun kp hkp => ?_⟩
    have b1 := same_upd (o := .tup [V.int t, V.int g]) (same_refl (H := H)) hkp
    have hkp' : upd H kp (.tup [V.int t, V.int g]) kp = some (.tup [V.int t, V.int g]) := upd_same
    generalize upd H kp (.tup [V.int t, V.int g]) = H1 at *
    refine ⟨_, DGet.t (k := ky t g) (b1 _ _ h4) hkp', ?_⟩
    unfold keepR at q
    rw [h5.1 t g]
    cases e2 : bfnd rows t g with
    | some j =>
      obtain ⟨r, hr1, rt, rg⟩ := bfnd_some e2
      obtain ⟨x, hx, c, rfl, hc⟩ := prd_get2 h3 hr1
      simp only [e2, hr1] at q
      refine iteT ⟨_, dx, _, b1 _ _ h1, T.cl_Book, T.na_Book_rows, _, bkF_rows, ra, rfl, vs, _, rfl, SqL.of (b1 _ _ h2), _, atI_nat hx, c, rfl, _, SqT.of (b1 _ _ hc), _, rfl, fun np hnp => ?_⟩
      have b2 := same_upd (o := .tup [V.int t, V.int g, V.int e, V.bl r.u]) b1 hnp
      have hr2 := b2 _ _ h2
      have npr : np ≠ ra := fun z => by rw [z, b1 _ _ h2] at hnp; cases hnp
      have hvl : j < vs.length := (List.getElem?_eq_some_iff.mp hx).1
      refine ⟨_, dx, _, b2 _ _ h1, T.cl_Book, T.na_Book_rows, _, bkF_rows, ra, rfl, vs, _, rfl, hr2, j, by unfold ixN; rw [if_pos (by omega), if_pos (by omega)]; rfl, ?_⟩
      refine q _ ⟨dx, vs.set j (.ref np), kvs, ?_, upd_same, ?_, ?_, lnk_set h5 hr1 rt.symm rg.symm, by omega⟩ ?_
      · rw [upd_ne (fun z => by rw [z, h2] at h1; cases h1)]; exact b2 _ _ h1
      · exact prd_set (F := RowAt _) (show RowAt _ (V.ref np) (some _) from ⟨np, rfl, by rw [upd_ne npr, upd_same]⟩) j (RsAt.same2 hr2 (h3.same b2))
      · rw [upd_ne (fun z => by rw [z, h2] at h4; cases h4)]; exact b2 _ _ h4
      · intro c o hc hx
        rw [upd_ne (fun z => hx (by simp [z]))]
        exact b2 _ _ hc
    | none =>
      simp only [e2] at q
      have hj := hj0 e2
      obtain ⟨hjl, hjn, _⟩ := List.findIdx?_eq_some_iff_getElem.mp hj
      rw [if_neg (by decide)]
      refine ⟨dx, _, b1 _ _ h1, bkF_no (by decide +kernel), ra, fa, rows, n, j0, hd, hB.same b1, hj, fun np hnp => ?_⟩
      have hrn : rows[j0]? = some none := by
        rw [List.getElem?_eq_getElem hjl]
        cases ec : rows[j0] with
        | none => rfl
        | some r => rw [ec] at hjn; cases hjn
      have b2 := same_upd (o := .tup [V.int t, V.int g, V.int e, V.bl false]) b1 hnp
      have hnp' : upd H1 np (.tup [V.int t, V.int g, V.int e, V.bl false]) np = some (.tup [V.int t, V.int g, V.int e, V.bl false]) := upd_same
      have npr : np ≠ ra := fun z => by rw [z, b1 _ _ h2] at hnp; cases hnp
      generalize upd H1 np (.tup [V.int t, V.int g, V.int e, V.bl false]) = H2 at *
      have hr2 := b2 _ _ h2
      have hpr : p ≠ ra := fun z => by rw [z, h2] at h1; cases h1
      have hfr : fa ≠ ra := fun z => by rw [z, h2] at h4; cases h4
      have hpf : p ≠ fa := fun z => by rw [z, h4] at h1; cases h1
      refine ⟨_, dx, _, b2 _ _ h1, T.cl_Book, T.na_Book_rows, _, bkF_rows, ra, rfl, vs, hr2, j0, by unfold ixN; rw [if_pos (by omega), if_pos (by omega)]; rfl, ?_⟩
      have k1 : upd H2 ra (.lst (vs.set j0 (V.ref np))) p = some (.ins A.C_Book dx (bkF ra fa hd)) := by rw [upd_ne hpr]; exact b2 _ _ h1
      have k2 : upd H2 ra (.lst (vs.set j0 (V.ref np))) ra = some (.lst (vs.set j0 (V.ref np))) := upd_same
      have k3 : RsAt (upd H2 ra (.lst (vs.set j0 (V.ref np)))) (vs.set j0 (V.ref np)) (rows.set j0 (some ⟨t, g, e, false⟩)) := prd_set (F := RowAt _) (show RowAt _ (V.ref np) (some _) from ⟨np, rfl, by rw [upd_ne npr]; exact hnp'⟩) j0 (RsAt.same2 hr2 (h3.same b2))
      have k4 : upd H2 ra (.lst (vs.set j0 (V.ref np))) fa = some (.dT kvs) := by rw [upd_ne hfr]; exact b2 _ _ h4
      have kf : Kp [ra, fa] H (upd H2 ra (.lst (vs.set j0 (V.ref np)))) := fun c o hc hx => by
        rw [upd_ne (fun z => hx (by simp [z]))]
        exact b2 _ _ hc
      generalize upd H2 ra (.lst (vs.set j0 (V.ref np))) = H3 at *
      refine ⟨_, dx, _, k1, T.cl_Book, T.na_Book_found, _, bkF_found, fun kk hkk => ?_⟩
      have b4 := same_upd (o := .tup [V.int t, V.int g]) (same_refl (H := H3)) hkk
      have hval : valV kvs (ky t g) = none := by rw [h5.1 t g, e2]; rfl
      refine ⟨fa, rfl, _, DPut.t (k := ky t g) (b4 _ _ k4) upd_same (by have : sizeLine = 16777216 := PySem.sizeLine_eq; omega), ?_⟩
      refine q _ ⟨dx, vs.set j0 (V.ref np), _, ?_, ?_, ?_, upd_same, lnk_new (r := ⟨t, g, e, false⟩) h5 hrn e2, ?_⟩ ?_
      · rw [upd_ne hpf]; exact b4 _ _ k1
      · rw [upd_ne (fun z => hfr z.symm)]; exact b4 _ _ k2
      · exact RsAt.sameD (b4 _ _ k4) (k3.same b4)
      · rw [show ky (⟨t, g, e, false⟩ : Rw).t (⟨t, g, e, false⟩ : Rw).g = ky t g from rfl, putK_new _ hval, List.length_append]
        exact Nat.add_le_add h6 (Nat.le_refl _)
      · intro c o hc hx
        rw [upd_ne (fun z => hx (by simp [z]))]
        exact b4 _ _ (kf c o hc hx)
def sp_told (C : Addr) : Sp := fun vs H Q _ => ∃ (p ra fa : Addr) (rows : List (Option Rw)) (n : Nat) (hd : Int), vs = [.ref p] ∧ BkAt C H p ra fa rows n hd ∧ ∀ t us, H t = none → RsAt (upd H t (.lst us)) us rows → Q (.ref t) (upd H t (.lst us))
theorem h_told (T : Txt K mg A) : HaveM P w K mg base A.C_Book "told" 1 ["self"] [] (sp_told A.C_Book) := by
  refine T.r_Book_told.have sc_Book_told (fun vs H Q E z => ?_) ?_
  · obtain ⟨p, ra, fa, rows, n, hd, rfl, _⟩ := z; rfl
  · intro f cdv A' outer s H vs Q E hr z
    obtain ⟨p, ra, fa, rows, n, hd, rfl, hB, q⟩ := z
    obtain ⟨dx, vs, kvs, h1, h2, h3, h4, h5, h6⟩ := id hB
    refine ⟨_, (pss_one (ps_ret (pe_callTy call_list_of rfl T.b_list PyProof.Rows.boot_list (pa_cons (pe_fld (pvM 0) rfl) pa_nil)))), ?_⟩
    walk_at "wp"
    simp only [h1]
    walk_at "wp"
    exact ⟨T.cl_Book, T.na_Book_rows, _, bkF_rows, ra, rfl, _, .inl (SqL.of h2), fun l hl => q _ _ hl (h3.same (same_upd same_refl hl))⟩
def sp_binit (C : Addr) : Sp := fun vs H Q _ => ∃ (p dx : Addr) (m : Int), vs = [.ref p, .int m] ∧ 0 ≤ m ∧ m ≤ 1000000 ∧ H p = some (.ins C dx []) ∧ ∀ H' ra fa, Kp [p] H H' → BkAt C H' p ra fa (List.replicate m.toNat none) 0 0 → H ra = none → H fa = none → Q .non H'
theorem h_binit (T : Txt K mg A) : HaveI P w K mg base "Book" A.C_Book 1 ["self", "many"] [] (sp_binit A.C_Book) := by
  refine T.r_Book_init.have sc_Book_init (fun vs H Q E z => ?_) ?_
  · obtain ⟨p, dx, m, rfl, _⟩ := z; rfl
  · intro f cdv A' outer s H vs Q E hr z
    obtain ⟨p, dx, m, rfl, h0, hm, hp, q⟩ := z
    refine ⟨_, (pss_cons (ps_fld (pvM 0) (pe_op op_rep (pe_lst (pa_cons pe_non pa_nil)) (pvM 1)) rfl)
      (pss_cons (ps_fld (pvM 0) pe_dnewT rfl)
      (pss_one (ps_fld (pvM 0) pe_int rfl)))), ?_⟩
    unfold tDNewT rRep
    walk_at "wp"
    intro l1 hl1
    have b1 := same_upd (o := .lst [V.non]) (same_refl (H := H)) hl1
    refine ⟨[.non], rfl, by omega, by omega, by show 1 * m.toNat ≤ 16777216; omega, fun ra hra => ?_⟩
    have hra0 : H ra = none := same_none b1 hra
    have b2 := same_upd (o := .lst (List.replicate m.toNat [V.non]).flatten) b1 hra
    have npr : p ≠ ra := fun z => by rw [← z, b1 _ _ hp] at hra; cases hra
    refine ⟨A.C_Book, dx, [], b2 _ _ hp, T.cl_Book, T.na_Book_rows, by decide, fun fa hfa => ?_⟩
    have npf : fa ≠ p := fun z => by rw [z, upd_same] at hfa; cases hfa
    have nfr : fa ≠ ra := fun z => by rw [z, upd_ne npr.symm, upd_same] at hfa; cases hfa
    have hfa0 : H fa = none := by
      rw [upd_ne npf] at hfa
      exact same_none b2 hfa
    refine ⟨A.C_Book, dx, putF "rows" (.ref ra) [], by rw [upd_ne npf.symm, upd_same], T.cl_Book, T.na_Book_found, by show 1 < 1000; decide, T.cl_Book, T.na_Book_hand, by show 2 < 1000; decide, ?_⟩
    refine q _ ra fa ?_ ⟨dx, (List.replicate m.toNat [V.non]).flatten, [], upd_same, ?_, ?_, ?_, ⟨fun t g => ?_, fun _ z => nomatch z⟩, Nat.le_refl _⟩ hra0 hfa0
    · intro c o hc hx
      have ncp : c ≠ p := fun z => hx (by simp [z])
      rw [upd_ne ncp, upd_ne (ne_of_none hc hfa0), upd_ne ncp]
      exact b2 _ _ hc
    · rw [upd_ne npr.symm, upd_ne nfr.symm, upd_ne npr.symm, upd_same]
    · have e : ∀ k : Nat, (List.replicate k [V.non]).flatten = List.replicate k V.non := fun k => by
        induction k with
        | zero => rfl
        | succ k ih => rw [List.replicate_succ, List.flatten_cons, ih]; rfl
      rw [e]
      have e2 : ∀ k : Nat, ∀ HH : Hp, RsAt HH (List.replicate k V.non) (List.replicate k none) := fun k HH => by
        induction k with
        | zero => exact .nil
        | succ k ih => exact .cons rfl ih
      exact e2 _ _
    · rw [upd_ne npf, upd_same]
    · have e : bfnd (List.replicate m.toNat none) t g = none := by
        unfold bfnd
        rw [List.findIdx?_eq_none_iff]
        intro x hx
        rw [List.eq_of_mem_replicate hx]
        rfl
      rw [e]
      rfl

def Uq (rows : List (Option Rw)) : Prop := ∀ (i j : Nat) (r s : Rw), rows[i]? = some (some r) → rows[j]? = some (some s) → r.t = s.t → r.g = s.g → i = j
theorem valV_drop {kvs : List (List Key × V)} {k j : List Key} : valV (dropK kvs k) j = if j = k then none else valV kvs j := by
  induction kvs with
  | nil => split <;> rfl
  | cons p r ih =>
    unfold dropK at ih ⊢
    rw [List.filter_cons]
    by_cases c : p.1 = k
    · rw [if_neg (by simp [c]), ih]
      by_cases d : j = k
      · rw [if_pos d, if_pos d]
      · rw [if_neg d, if_neg d, valV_neg (fun e => d (e.symm.trans c))]
    · rw [if_pos (by simp [c])]
      by_cases d : p.1 = j
      · rw [valV_pos d, valV_pos d, if_neg (fun e => c (d.trans e))]
      · rw [valV_neg d, valV_neg d, ih]
def strikeR (rows : List (Option Rw)) (t g : Int) : List (Option Rw) := match bfnd rows t g with
  | none => rows
  | some j => rows.set j none
theorem lnk_strike {rows : List (Option Rw)} {kvs : List (List Key × V)} {j : Nat} {t g : Int} (h : Lnk rows kvs) (hu : Uq rows) (hj : bfnd rows t g = some j) : Lnk (rows.set j none) (dropK kvs (ky t g)) := by
  refine ⟨fun t' g' => ?_, fun x hx => h.2 x (List.mem_filter.mp hx).1⟩
  obtain ⟨r, hr, rt, rg⟩ := bfnd_some hj
  rw [valV_drop, h.1 t' g']
  by_cases c : ky t' g' = ky t g
  · rw [if_pos c]
    have c1 : t' = t := by injection c with a b; injection a
    have c2 : g' = g := by injection c with a b; injection b with b _; injection b
    subst c1 c2
    have e : bfnd (rows.set j none) t' g' = none := by
      unfold bfnd
      rw [List.findIdx?_eq_none_iff]
      intro x hx
      obtain ⟨i, hi⟩ := List.mem_iff_getElem?.mp hx
      rw [List.getElem?_set] at hi
      by_cases e : j = i
      · rw [if_pos e] at hi
        split at hi
        · cases hi; rfl
        · cases hi
      · rw [if_neg e] at hi
        cases x with
        | none => rfl
        | some s =>
          show (decide (s.t = t') && decide (s.g = g')) = false
          rw [Bool.and_eq_false_iff]
          by_cases d1 : s.t = t'
          · by_cases d2 : s.g = g'
            · exact absurd (hu j i r s hr hi (rt.trans d1.symm) (rg.trans d2.symm)) e
            · exact .inr (decide_eq_false d2)
          · exact .inl (decide_eq_false d1)
    rw [e]
    rfl
  · rw [if_neg c]
    unfold bfnd
    rw [fi_set (x := some r) (by
      show false = (decide (r.t = t') && decide (r.g = g'))
      symm
      rw [Bool.and_eq_false_iff]
      by_cases d : r.t = t'
      · refine .inr (decide_eq_false fun d2 => c ?_)
        rw [← d, ← d2, rt, rg]
      · exact .inl (decide_eq_false d)) hr]
def sp_strk (C : Addr) : Sp := fun vs H Q _ => ∃ (p ra fa : Addr) (rows : List (Option Rw)) (n : Nat) (hd : Int) (t g : Int), vs = [.ref p, .int t, .int g] ∧ BkAt C H p ra fa rows n hd ∧ Uq rows ∧ ∀ H', BkAt C H' p ra fa (strikeR rows t g) n hd → Kp [ra, fa] H H' → Q .non H'
theorem h_strk (T : Txt K mg A) : HaveM P w K mg base A.C_Book "strike" 1 ["self", "task", "page"] [] (sp_strk A.C_Book) := by
  refine T.r_Book_strike.have sc_Book_strike (fun vs H Q E z => ?_) ?_
  · obtain ⟨p, ra, fa, rows, n, hd, t, g, rfl, _⟩ := z; rfl
  · intro f cdv A' outer s H vs Q E hr z
    obtain ⟨p, ra, fa, rows, n, hd, t, g, rfl, hB, hu, q⟩ := z
    obtain ⟨dx, vs, kvs, h1, h2, h3, h4, h5, h6⟩ := id hB
    refine ⟨_, (pss_one (ps_if (pt_cmp (pc_din (hu_of hr) (pe_tup (pa_cons (pvM 1) (pa_cons (pvM 2) pa_nil))) (pe_fld (pvM 0) rfl))) (pss_cons (ps_set (i := 3) sc_Book_strike.nd rfl (Or.inl rfl) (pe_dpopT (hu_of hr) (pe_fld (pvM 0) rfl) (pe_tup (pa_cons (pvM 1) (pa_cons (pvM 2) pa_nil))) ⟨rfl, rfl, rfl, rfl⟩))
      (pss_one (ps_asg pe_non (pg_sub (pe_fld (pvM 0) rfl) (pvM 3) set_list)))) pss_nil)), ?_⟩
    unfold tDIn tDPopT
    walk_at "wp"
    intro kp hkp
    have b1 := same_upd (o := .tup [V.int t, V.int g]) (same_refl (H := H)) hkp
    have hkp' : upd H kp (.tup [V.int t, V.int g]) kp = some (.tup [V.int t, V.int g]) := upd_same
    generalize upd H kp (.tup [V.int t, V.int g]) = H1 at *
    refine ⟨_, dx, _, b1 _ _ h1, T.cl_Book, T.na_Book_found, _, bkF_found, fa, rfl, _, DGet.t (k := ky t g) (b1 _ _ h4) hkp', ?_⟩
    unfold strikeR at q
    rw [h5.1 t g]
    cases e : bfnd rows t g with
    | none =>
      simp only [e] at q
      rw [if_neg (by simp)]
      exact q _ (hB.same b1) fun c o hc _ => b1 _ _ hc
    | some j =>
      obtain ⟨r, hr1, rt, rg⟩ := bfnd_some e
      simp only [e] at q
      rw [if_pos (by simp)]
      refine ⟨_, dx, _, b1 _ _ h1, T.cl_Book, T.na_Book_found, _, bkF_found, fa, rfl, .inr ⟨kvs, .inl (b1 _ _ h4)⟩, fun kk hkk => ?_⟩
      have b2 := same_upd (o := .tup [V.int t, V.int g]) b1 hkk
      refine ⟨kvs, b2 _ _ h4, ky t g, rfl, V.int (j : Int), by rw [h5.1 t g, e]; rfl, ?_⟩
      have hpf : p ≠ fa := fun z => by rw [z, h4] at h1; cases h1
      have hrf : ra ≠ fa := fun z => by rw [z, h4] at h2; cases h2
      have hpr : p ≠ ra := fun z => by rw [z, h2] at h1; cases h1
      generalize upd H1 kk (.tup [V.int t, V.int g]) = H2 at *
      have k1 : upd H2 fa (.dT (dropK kvs (ky t g))) p = some (.ins A.C_Book dx (bkF ra fa hd)) := by rw [upd_ne hpf]; exact b2 _ _ h1
      have k2 : upd H2 fa (.dT (dropK kvs (ky t g))) ra = some (.lst vs) := by rw [upd_ne hrf]; exact b2 _ _ h2
      have k3 := RsAt.sameD (o := .dT (dropK kvs (ky t g))) (b2 _ _ h4) (h3.same b2)
      have k4 : upd H2 fa (.dT (dropK kvs (ky t g))) fa = some (.dT (dropK kvs (ky t g))) := upd_same
      have kf : Kp [ra, fa] H (upd H2 fa (.dT (dropK kvs (ky t g)))) := fun c o hc hx => by
        rw [upd_ne (fun z => hx (by simp [z]))]
        exact b2 _ _ hc
      generalize upd H2 fa (.dT (dropK kvs (ky t g))) = H3 at *
      have hjl : j < vs.length := by rw [Paired.length h3]; exact (List.getElem?_eq_some_iff.mp hr1).1
      refine ⟨_, dx, _, k1, T.cl_Book, T.na_Book_rows, _, bkF_rows, ra, rfl, vs, _, rfl, k2, j, by unfold ixN; rw [if_pos (by omega), if_pos (by omega)]; rfl, ?_⟩
      refine q _ ⟨dx, vs.set j .non, dropK kvs (ky t g), ?_, upd_same, ?_, ?_, lnk_strike h5 hu e, Nat.le_trans (dropK_le ..) h6⟩ ?_
      · rw [upd_ne hpr]; exact k1
      · exact prd_set (F := RowAt _) (show RowAt _ V.non none from rfl) j (RsAt.same2 k2 k3)
      · rw [upd_ne (fun z => hrf z.symm)]; exact k4
      · intro c o hc hx
        rw [upd_ne (fun z => hx (by simp [z]))]
        exact kf c o hc hx
theorem uq_strike {rows : List (Option Rw)} {t g : Int} (h : Uq rows) : Uq (strikeR rows t g) := by
  unfold strikeR
  cases bfnd rows t g with
  | none => exact h
  | some j =>
    intro a b r s ha hb
    simp only [List.getElem?_set] at ha hb
    refine h a b r s ?_ ?_
    · split at ha
      · split at ha <;> cases ha
      · exact ha
    · split at hb
      · split at hb <;> cases hb
      · exact hb

def rg (n : Nat) (h : Int) (j : Nat) : List Int := (List.range j).map fun (i : Nat) => (h + (i : Int)) % (n : Int)
theorem rg_len {n j : Nat} {h : Int} : (rg n h j).length = j := by unfold rg; rw [List.length_map, List.length_range]
theorem rg_succ {n j : Nat} {h : Int} : rg n h (j + 1) = rg n h j ++ [(h + j) % (n : Int)] := by unfold rg; rw [List.range_succ, List.map_append]; rfl
def sp_sw (K : PySem.W.Frag) : Sp := fun vs H Q _ => ∃ (m : Addr) (h : Int) (bs : List Bool), vs = [.ref m, .int h] ∧ SqL K H m (bs.map V.bl) ∧ 0 ≤ h ∧ h < bs.length ∧ bs.length ≤ 1000 ∧
  ∀ (t u : Addr) (j : Nat) H', Same H H' → H t = none → H u = none → j ≤ bs.length → (∀ i < j, bs.getD ((h + i) % (bs.length : Int)).toNat false = true) → (j = bs.length ∨ bs.getD ((h + j) % (bs.length : Int)).toNat false = false) →
    H' t = some (.tup [.int ((h + j) % (bs.length : Int)), .ref u]) → H' u = some (.lst ((rg bs.length h j).map V.int)) → Q (.ref t) H'
theorem h_sw (T : Txt K mg A) : Have P w K mg base "swept" 1 ["marks", "hand"] [] (sp_sw K) := by
  refine T.r_swept.have sc_swept (fun vs H Q E z => ?_) ?_
  · obtain ⟨m, h, bs, rfl, _⟩ := z; rfl
  · intro f cdv A' outer s H vs Q E hr z
    obtain ⟨m, h, bs, rfl, hm, h0, h1, h2, q⟩ := z
    refine ⟨_, (pss_cons (ps_set (i := 2) sc_swept.nd rfl (Or.inl rfl) (pe_lst pa_nil))
      (pss_cons (ps_set (i := 3) sc_swept.nd rfl (Or.inl rfl) (pvM 1))
      (pss_cons (ps_whileE PassesOwn.leaving (PW.pt (pw_and (pt_cmpR op_lt (pe_callB call_len rfl T.b_len PySem.boot_len (pa_cons (pvM 2) pa_nil)) (pe_callB call_len rfl T.b_len PySem.boot_len (pa_cons (pvM 0) pa_nil)) (nomark _)) (pw_and1 (pt_val (pe_ix ix_list (pvM 0) (pvM 3) (fun _ _ => rfl)))))) (pss_cons (ps_expr (pe_bm PySem.F.plainAttrs_list PySem.F.slot_list_append PySem.F.type_list_append mt_append (pvM 2) (pa_cons (pvM 3) pa_nil)))
      (pss_one (ps_set (i := 3) sc_swept.nd rfl (Or.inl rfl) (pe_op op_mod (pe_op op_add (pvM 3) pe_int) (pe_callB call_len rfl T.b_len PySem.boot_len (pa_cons (pvM 0) pa_nil)))))))
      (pss_one (ps_ret (pe_tup (pa_cons (pvM 3) (pa_cons (pvM 2) pa_nil)))))))), ?_⟩
    walk_at "wp"
    intro u hu
    refine loop_while (fun mm σ H' => ∃ j : Nat, mm = bs.length - j ∧ j ≤ bs.length ∧ σ = [some (.ref m), some (.int h), some (.ref u), some (.int ((h + j) % (bs.length : Int)))] ∧ Same H H' ∧ H' u = some (.lst ((rg bs.length h j).map V.int)) ∧ (∀ i < j, bs.getD ((h + i) % (bs.length : Int)).toNat false = true)) bs.length ⟨0, rfl, Nat.zero_le _, ?_, same_upd same_refl hu, upd_same, fun i hi => absurd hi (Nat.not_lt_zero _)⟩ (fun mm σ H' => ?_)
    · rw [show (h + ((0 : Nat) : Int)) % (bs.length : Int) = h by rw [Int.emod_eq_of_lt] <;> omega]
    · rintro ⟨j, rfl, hj, rfl, sm, hu', hall⟩
      walk_at "wp"
      refine ⟨j, .inl ⟨_, SqL.of hu', by rw [List.length_map, rg_len]⟩, bs.length, .inl ⟨_, sm.seq hm, by simp⟩, ?_⟩
      have hpos : (0 : Int) < bs.length := by omega
      have hp0 := Int.emod_nonneg (h + j) (show (bs.length : Int) ≠ 0 by omega)
      have hp1 := Int.emod_lt_of_pos (h + j) hpos
      have hat : atI (bs.map V.bl) ((h + j) % (bs.length : Int)) = some (.bl (bs.getD ((h + j) % (bs.length : Int)).toNat false)) := by
        generalize (h + j) % (bs.length : Int) = p at *
        have e := atI_nat (xs := bs.map V.bl) (j := p.toNat) (v := .bl (bs.getD p.toNat false)) (by
          have : p.toNat < bs.length := by omega
          simp [this])
        rw [show ((p.toNat : Nat) : Int) = p by omega] at e
        exact e
      by_cases c : (j : Int) < bs.length
      · rw [if_pos c]
        refine ⟨_, sm.seq hm, _, hat, _, rfl, ?_⟩
        cases hb : bs.getD ((h + j) % (bs.length : Int)).toNat false with
        | true =>
          refine iteT (turnW ?_)
          walk_at "wp"
          refine ⟨.inl ⟨rfl, _, SqL.of hu'⟩, _, hu', by rw [List.length_map, rg_len]; omega, bs.length, .inl ⟨_, (same_put sm hu).seq hm, by simp⟩, hpos, bs.length - (j + 1), by omega, j + 1, rfl, by omega, ?_, same_put sm hu, ?_, fun i hi => ?_⟩
          · rw [Int.emod_add_emod]
            congr 1
            omega
          · rw [rg_succ, List.map_append]; rfl
          · rcases (by omega : i < j ∨ i = j) with hi | rfl
            · exact hall i hi
            · exact hb
        | false =>
          refine iteF fun t ht => ?_
          exact q t u j _ (same_upd sm ht) (same_none sm ht) hu hj hall (.inr hb) upd_same (by rw [upd_ne (ne_of_none hu' ht)]; exact hu')
      · rw [if_neg c]
        refine iteF fun t ht => ?_
        exact q t u j _ (same_upd sm ht) (same_none sm ht) hu hj hall (.inl (by omega)) upd_same (by rw [upd_ne (ne_of_none hu' ht)]; exact hu')

def off (r : Rw) : Rw := ⟨r.t, r.g, r.e, false⟩
def clr (L : List Rw) (is : List Int) : List Rw := is.foldl (fun L i => L.modify i.toNat off) L
theorem clr_len {is : List Int} : ∀ {L : List Rw}, (clr L is).length = L.length := by
  induction is with
  | nil => intro L; rfl
  | cons i is ih => intro L; show (clr (L.modify i.toNat off) is).length = _; rw [ih, List.length_modify]
theorem clr_snoc {L : List Rw} {is : List Int} {i : Int} : clr L (is ++ [i]) = (clr L is).modify i.toNat off := by unfold clr; rw [List.foldl_append]; rfl
theorem mod_set {L : List Rw} {k : Nat} {r : Rw} (h : L[k]? = some r) : L.modify k off = L.set k (off r) := by
  apply List.ext_getElem?
  intro i
  rw [List.getElem?_modify, List.getElem?_set]
  by_cases e : k = i
  · subst e
    rw [if_pos rfl, if_pos (List.getElem?_eq_some_iff.mp h).1, h]
    show some (if k = k then off r else r) = some (off r)
    rw [if_pos rfl]
  · rw [if_neg e]
    cases L[i]? with
    | none => rfl
    | some x =>
      show some (if k = i then off x else x) = some x
      rw [if_neg e]
theorem keys_off {L : List Rw} {k i : Nat} {s : Rw} (h : (L.modify k off)[i]? = some s) : ∃ r, L[i]? = some r ∧ s.t = r.t ∧ s.g = r.g := by
  rw [List.getElem?_modify] at h
  cases e : L[i]? with
  | none => rw [e] at h; cases h
  | some r =>
    rw [e] at h
    refine ⟨r, rfl, ?_⟩
    have h : (if k = i then off r else r) = s := by simpa using h
    subst h
    split <;> exact ⟨rfl, rfl⟩
theorem uq_mod {L : List Rw} {k : Nat} (h : Uq (L.map some)) : Uq ((L.modify k off).map some) := by
  intro i j r s hi hj et eg
  have gt : ∀ {M : List Rw} {i : Nat} {x : Rw}, (M.map some)[i]? = some (some x) → M[i]? = some x := fun {M i x} q => by
    rw [List.getElem?_map] at q
    cases e : M[i]? with
    | none => rw [e] at q; cases q
    | some y => rw [e] at q; cases q; rfl
  obtain ⟨r', hr', e1, e2⟩ := keys_off (gt hi)
  obtain ⟨s', hs', e3, e4⟩ := keys_off (gt hj)
  exact h i j r' s' (by rw [List.getElem?_map, hr']; rfl) (by rw [List.getElem?_map, hs']; rfl) (by rw [← e1, ← e3]; exact et) (by rw [← e2, ← e4]; exact eg)
theorem uq_clr {is : List Int} : ∀ {L : List Rw}, Uq (L.map some) → Uq ((clr L is).map some) := by
  induction is with
  | nil => intro L h; exact h
  | cons i is ih => intro L h; exact ih (uq_mod h)
theorem bkF_hand {ra fa : Addr} {hd : Int} : (bkF ra fa hd).lookup ("hand" : Str) = some (.int hd) := by rfl
theorem bkF_put {ra fa : Addr} {hd hd' : Int} : putF "hand" (.int hd') (bkF ra fa hd) = bkF ra fa hd' := by rfl
theorem RowAt.sameI {H : Hp} {a C dx : Addr} {fs : List (Str × V)} {o : HO} (hx : H a = some (.ins C dx fs)) {v : V} : ∀ {r : Option Rw}, RowAt H v r → RowAt (upd H a o) v r
  | none, h => h
  | some _, ⟨b, e, h⟩ => ⟨b, e, by rw [upd_ne (fun z => by rw [z, hx] at h; cases h)]; exact h⟩
def sp_newF (C : Addr) : Sp := fun vs H Q _ => ∃ (p ra fa : Addr) (L : List Rw) (n : Nat) (hd : Int), vs = [.ref p] ∧ BkAt C H p ra fa (L.map some) n hd ∧ Uq (L.map some) ∧ L.length ≤ 1000 ∧ 0 ≤ hd ∧ hd < L.length ∧
  ∀ (j : Nat) H', j ≤ L.length → (∀ i < j, (L.map (·.u)).getD ((hd + i) % (L.length : Int)).toNat false = true) → (j = L.length ∨ (L.map (·.u)).getD ((hd + j) % (L.length : Int)).toNat false = false) →
    BkAt C H' p ra fa (((clr L (rg L.length hd j)).map some).set ((hd + j) % (L.length : Int)).toNat none) n (((hd + j) % (L.length : Int) + 1) % (L.length : Int)) → Kp [p, ra, fa] H H' → Q (.int ((hd + j) % (L.length : Int))) H'
theorem h_newF (T : Txt K mg A) : HaveM P w K mg base A.C_Book "place_for_new" 2 ["self"] [] (sp_newF A.C_Book) := by
  have H_swept := h_sw (P := P) (w := w) (base := base) T
  have H_Book_strike := h_strk (P := P) (w := w) (base := base) T
  refine T.r_Book_place_for_new.have sc_Book_place_for_new (fun vs H Q E z => ?_) ?_
  · obtain ⟨p, ra, fa, L, n, hd, rfl, _⟩ := z; rfl
  · intro f cdv A' outer s H vs Q E hr z
    obtain ⟨p, ra, fa, L, n, hd, rfl, hB, hu, hL, h0, hlt, q⟩ := z
    obtain ⟨dx, vs, kvs, h1, h2, h3, h4, h5, h6⟩ := id hB
    have hvl := Paired.length h3
    rw [List.length_map] at hvl
    refine ⟨_, (pss_cons (ps_if (pt_cmpR (op_inN (hu6 hr)) pe_non (pe_fld (pvM 0) rfl) (by with_unfolding_all rfl)) (pss_one (ps_ret (pe_bm PySem.F.plainAttrs_list PySem.F.slot_list_index PySem.F.type_list_index (mt_indexN (hu6 hr)) (pe_fld (pvM 0) rfl) (pa_cons pe_non pa_nil)))) pss_nil)
      (pss_cons (ps_set (i := 1) sc_Book_place_for_new.nd rfl (Or.inl rfl) (pe_callE H_swept (hr.mono (by decide)) xw_def (pa_cons (pe_comp rfl (pi_list (pe_fld (pvM 0) rfl)) (x := "row") (fs := []) (ix := []) rfl rfl (fun _ _ _ _ _ _ => (pg_name (i := 0) (show (["row"] : List Str).Nodup by decide +kernel) rfl (Or.inl rfl))) (fun _ _ _ _ _ _ => pf_nil) (fun _ _ _ _ _ _ => (pe_ix (ix_tupC (K := K) rfl) (pvM 0) pe_int (fun _ _ => rfl)))) (pa_cons (pe_fld (pvM 0) rfl) pa_nil))))
      (pss_cons (ps_forE PassesOwn.leaving rfl (pi_list (pe_ix ix_tup (pvM 1) pe_int (fun _ _ => rfl))) (pg_name (i := 2) sc_Book_place_for_new.nd rfl (Or.inl rfl)) (pss_cons (ps_set (i := 3) sc_Book_place_for_new.nd rfl (Or.inl rfl) (pe_ix ix_list (pe_fld (pvM 0) rfl) (pvM 2) (fun _ _ => rfl)))
      (pss_one (ps_asg (pe_tup (pa_cons (pe_ix ix_tup (pvM 3) pe_int (fun _ _ => rfl)) (pa_cons (pe_ix ix_tup (pvM 3) pe_int (fun _ _ => rfl)) (pa_cons (pe_ix ix_tup (pvM 3) pe_int (fun _ _ => rfl)) (pa_cons pe_bl pa_nil))))) (pg_sub (pe_fld (pvM 0) rfl) (pvM 2) set_list)))))
      (pss_cons (ps_set (i := 4) sc_Book_place_for_new.nd rfl (Or.inl rfl) (pe_ix ix_list (pe_fld (pvM 0) rfl) (pe_ix ix_tup (pvM 1) pe_int (fun _ _ => rfl)) (fun _ _ => rfl)))
      (pss_cons (ps_expr (pe_methE (pvM 0) T.cl_Book H_Book_strike (hr.mono (by decide)) xw_def (pa_cons (pe_ix ix_tup (pvM 4) pe_int (fun _ _ => rfl)) (pa_cons (pe_ix ix_tup (pvM 4) pe_int (fun _ _ => rfl)) pa_nil))))
      (pss_cons (ps_fld (pvM 0) (pe_op op_mod (pe_op op_add (pe_ix ix_tup (pvM 1) pe_int (fun _ _ => rfl)) pe_int) (pe_callB call_len rfl T.b_len PySem.boot_len (pa_cons (pe_fld (pvM 0) rfl) pa_nil))) rfl)
      (pss_one (ps_ret (pe_ix ix_tup (pvM 1) pe_int (fun _ _ => rfl)))))))))), ?_⟩
    walk_at "wp"
    simp only [h1]
    walk_at "wp"
    have hn : ∀ z ∈ vs, NTup K H z := fun z hz => by
      obtain ⟨i, hi⟩ := List.mem_iff_getElem?.mp hz
      obtain ⟨y, _, hy⟩ := prd_get h3 hi
      cases y with
      | none => exact .inl hy
      | some r => obtain ⟨a, e, h⟩ := hy; exact .inr ⟨a, _, e, SqT.of h⟩
    have ha : vs.any isN = false := by
      rw [List.any_eq_false]
      intro z hz
      obtain ⟨i, hi⟩ := List.mem_iff_getElem?.mp hz
      obtain ⟨y, hy1, hy⟩ := prd_get h3 hi
      obtain ⟨r, _, rfl⟩ := List.mem_map.mp (List.mem_of_getElem? hy1)
      obtain ⟨a, rfl, _⟩ := hy
      exact Bool.false_ne_true
    refine ⟨T.cl_Book, T.na_Book_rows, _, bkF_rows, ra, vs, rfl, rfl, SqL.of h2, hn, false, by rw [ha], iteF ?_⟩
    refine ⟨_, dx, _, h1, T.cl_Book, T.na_Book_rows, _, bkF_rows, ra, rfl, ⟨_, SqL.of h2⟩, fun D hD => ?_⟩
    refine comp_list (xs := vs) (fun i ys σ H' => ∃ v, σ = [v] ∧ Same H H' ∧ H' D = some (.lst ys) ∧ ys = ((L.take i).map (·.u)).map V.bl) ⟨_, rfl, same_upd same_refl hD, upd_same, rfl⟩ (fun i ys σ H' _ ⟨_, _, s2, _⟩ => SqL.of (s2 _ _ h2)) (fun i v ys σ H' hi => ?_) (fun ys σ H2 => ?_)
    · rintro ⟨v0, rfl, s2, hDD, rfl⟩
      obtain ⟨y, hy1, hy2⟩ := prd_get h3 hi
      rw [List.getElem?_map] at hy1
      cases hr : L[i]? with
      | none => rw [hr] at hy1; cases hy1
      | some r =>
        rw [hr] at hy1
        cases hy1
        obtain ⟨c, rfl, hc⟩ := hy2
        have hil := (List.getElem?_eq_some_iff.mp hr).1
        walk_at "wp"
        refine ⟨_, SqT.of (s2 _ _ hc), _, rfl, hDD, by rw [List.length_map, List.length_map, List.length_take]; omega, same_put s2 hD, ?_⟩
        rw [List.take_add_one, hr, List.map_append, List.map_append]
        rfl
    rintro ⟨v0, rfl, s2, hDD, rfl⟩
    rw [hvl, List.take_length] at hDD
    unfold sp_sw
    walk_at "wp"
    refine ⟨_, dx, _, s2 _ _ h1, T.cl_Book, T.na_Book_hand, _, bkF_hand, ?_⟩
    refine ⟨hd, rfl, L.map (·.u), SqL.of hDD, h0, by rw [List.length_map]; exact hlt, by rw [List.length_map]; exact hL, fun t u j H3 s3 ht0 hu0 hj hall hor hT hU => ?_⟩
    simp only [List.length_map] at hj hall hor hT hU
    have s03 := s2.trans s3
    have nur : u ∉ [ra] := fun z => by rw [List.mem_singleton.mp z, s2 _ _ h2] at hu0; cases hu0
    have ntr : t ∉ [ra] := fun z => by rw [List.mem_singleton.mp z, s2 _ _ h2] at ht0; cases ht0
    have lp : (0 : Int) < (L.length : Int) := by omega
    refine ⟨_, SqT.of hT, _, rfl, u, rfl, ⟨_, SqL.of hU⟩, loop_list (xs := (rg L.length hd j).map V.int) (fun i σ H' => ∃ v2 v3, σ = [some (.ref p), some (.ref t), v2, v3, none] ∧ BkAt A.C_Book H' p ra fa ((clr L ((rg L.length hd j).take i)).map some) n hd ∧ Kp [ra] H3 H') ⟨_, _, rfl, hB.same s03, (fun _ _ h _ => h)⟩ (fun i σ H' _ ⟨_, _, _, _, e⟩ => SqL.of (e _ _ hU nur)) (fun i x σ H' hi => ?_) (fun σ H4 => ?_)⟩
    · rintro ⟨v2, v3, rfl, hB', kp'⟩
      obtain ⟨dx', vs', kvs', k1, k2, k3, k4, k5, k6⟩ := id hB'
      have hvl' := Paired.length k3
      rw [List.length_map, clr_len] at hvl'
      rw [List.getElem?_map] at hi
      cases hz : (rg L.length hd j)[i]? with
      | none => rw [hz] at hi; cases hi
      | some z =>
        rw [hz] at hi
        cases hi
        have hz2 : 0 ≤ z ∧ z < L.length := by
          have hm := List.mem_of_getElem? hz
          unfold rg at hm
          obtain ⟨a, _, rfl⟩ := List.mem_map.mp hm
          exact ⟨Int.emod_nonneg _ (by omega), Int.emod_lt_of_pos _ lp⟩
        have htk : (rg L.length hd j).take (i + 1) = (rg L.length hd j).take i ++ [z] := by rw [List.take_add_one, hz]; rfl
        obtain ⟨r, hr⟩ : ∃ r, (clr L ((rg L.length hd j).take i))[z.toNat]? = some r := ⟨_, List.getElem?_eq_getElem (by rw [clr_len]; omega)⟩
        have hr' : ((clr L ((rg L.length hd j).take i)).map some)[z.toNat]? = some (some r) := by rw [List.getElem?_map, hr]; rfl
        obtain ⟨x, hx, c, rfl, hc⟩ := prd_get2 k3 hr'
        have hxz : atI vs' z = some (V.ref c) := by
          have := atI_nat hx
          rwa [show ((z.toNat : Nat) : Int) = z by omega] at this
        walk_at "wp"
        refine ⟨_, dx', _, k1, T.cl_Book, T.na_Book_rows, _, bkF_rows, ra, rfl, vs', SqL.of k2, _, hxz, ?_⟩
        refine ⟨c, rfl, _, SqT.of hc, _, rfl, c, rfl, _, SqT.of hc, _, rfl, c, rfl, _, SqT.of hc, _, rfl, fun np hnp => ?_⟩
        have b := same_upd (o := .tup [.int r.t, .int r.g, .int r.e, .bl false]) (same_refl (H := H')) hnp
        have npr : np ≠ ra := fun z => by rw [z, k2] at hnp; cases hnp
        refine ⟨_, dx', _, b _ _ k1, T.cl_Book, T.na_Book_rows, _, bkF_rows, ra, rfl, vs', b _ _ k2, z.toNat, by unfold ixN; rw [if_pos hz2.1, if_pos (by omega)], ⟨dx', vs'.set z.toNat (.ref np), kvs', ?_, upd_same, ?_, ?_, ?_, k6⟩, ?_⟩
        · rw [upd_ne (fun z => by rw [z, k2] at k1; cases k1)]; exact b _ _ k1
        · rw [htk, clr_snoc, mod_set hr, List.map_set]
          exact prd_set (F := RowAt _) (show RowAt _ (V.ref np) (some _) from ⟨np, rfl, by rw [upd_ne npr]; exact upd_same⟩) z.toNat (RsAt.same2 (b _ _ k2) (k3.same b))
        · rw [upd_ne (fun z => by rw [z, k2] at k4; cases k4)]; exact b _ _ k4
        · rw [htk, clr_snoc, mod_set hr, List.map_set]
          exact lnk_set k5 hr' rfl rfl
        · intro c o hc hx
          rw [upd_ne (fun z => hx (by simp [z]))]
          exact b _ _ (kp' c o hc hx)
    rintro ⟨v2, v3, rfl, hB4, kp4⟩
    rw [List.length_map, List.take_length] at hB4
    have hpl : 0 ≤ (hd + j) % (L.length : Int) ∧ (hd + j) % (L.length : Int) < L.length := ⟨Int.emod_nonneg _ (by omega), Int.emod_lt_of_pos _ lp⟩
    have hT4 := kp4 _ _ hT ntr
    have q := q j
    generalize (hd + j) % (L.length : Int) = pl at *
    have u4 := uq_clr (is := rg L.length hd j) hu
    have l4 : (clr L (rg L.length hd j)).length = L.length := clr_len
    generalize clr L (rg L.length hd j) = L4 at *
    obtain ⟨dx4, vs4, kvs4, k1, k2, k3, k4, k5, k6⟩ := id hB4
    have hvl4 := Paired.length k3
    rw [List.length_map] at hvl4
    obtain ⟨r, hr⟩ : ∃ r, L4[pl.toNat]? = some r := ⟨_, List.getElem?_eq_getElem (by omega)⟩
    have hr' : (L4.map some)[pl.toNat]? = some (some r) := by rw [List.getElem?_map, hr]; rfl
    obtain ⟨x, hx, c, rfl, hc⟩ := prd_get2 k3 hr'
    have hxz : atI vs4 pl = some (V.ref c) := by
      have := atI_nat hx
      rwa [show ((pl.toNat : Nat) : Int) = pl by omega] at this
    have hf : strikeR (L4.map some) r.t r.g = (L4.map some).set pl.toNat none := by
      unfold strikeR
      cases e : bfnd (L4.map some) r.t r.g with
      | none =>
        have := List.findIdx?_eq_none_iff.mp e (some r) (List.mem_of_getElem? hr')
        have this : (decide (r.t = r.t) && decide (r.g = r.g)) = false := this
        simp at this
      | some j' =>
        obtain ⟨r', h1', e1, e2⟩ := bfnd_some e
        show (L4.map some).set j' none = _
        rw [u4 j' pl.toNat r' r h1' hr' e1 e2]
    walk_at "wp"
    refine ⟨_, dx4, _, k1, T.cl_Book, T.na_Book_rows, _, bkF_rows, _, SqT.of hT4, _, rfl, ra, rfl, vs4, pl, rfl, SqL.of k2, _, hxz, dx4, _, k1, bkF_no (by decide +kernel), c, rfl, _, SqT.of hc, _, rfl, c, rfl, _, SqT.of hc, _, rfl, ?_⟩
    refine ⟨p, ra, fa, _, n, hd, r.t, r.g, rfl, hB4, u4, fun H5 hB5 kp5 => ?_⟩
    rw [hf] at hB5
    have hT5 := kp5 _ _ hT4 (fun z => by
      rcases List.mem_cons.mp z with z | z
      · rw [z, k2] at hT4; cases hT4
      · rw [List.mem_singleton.mp z, k4] at hT4; cases hT4)
    obtain ⟨dx5, vs5, kvs5, m1, m2, m3, m4, m5, m6⟩ := id hB5
    have hvl5 := Paired.length m3
    rw [List.length_set, List.length_map, l4] at hvl5
    have ntp : t ≠ p := fun z => by rw [z, m1] at hT5; cases hT5
    refine ⟨_, SqT.of hT5, _, rfl, pl, rfl, _, dx5, _, m1, T.cl_Book, T.na_Book_rows, _, bkF_rows, _, .inl ⟨_, SqL.of m2, rfl⟩, by omega, _, dx5, _, m1, T.cl_Book, T.na_Book_hand, by show 3 < 1000; decide, _, SqT.of (by rw [upd_ne ntp]; exact hT5), _, rfl, ?_⟩
    rw [bkF_put, hvl5]
    refine q _ hj hall hor ⟨dx5, vs5, kvs5, upd_same, ?_, Paired.mapP m3 fun _ _ z => z.sameI m1, ?_, m5, m6⟩ ?_
    · rw [upd_ne (fun z => by rw [z, m1] at m2; cases m2)]; exact m2
    · rw [upd_ne (fun z => by rw [z, m1] at m4; cases m4)]; exact m4
    · intro c o hc hx
      rw [upd_ne (fun z => hx (by simp [z]))]
      refine kp5 _ _ (kp4 _ _ (s03 _ _ hc) (fun z => hx ?_)) (fun z => hx ?_)
      · rw [List.mem_singleton.mp z]; simp
      · rcases List.mem_cons.mp z with z | z
        · simp [z]
        · rw [List.mem_singleton.mp z]; simp

theorem clr_keys {is : List Int} : ∀ {L : List Rw} {i : Nat} {s : Rw}, (clr L is)[i]? = some s → ∃ r, L[i]? = some r ∧ s.t = r.t ∧ s.g = r.g := by
  induction is with
  | nil => intro L i s h; exact ⟨s, h, rfl, rfl⟩
  | cons k is ih =>
    intro L i s h
    obtain ⟨r, h1, e1, e2⟩ := ih (L := L.modify k.toNat off) h
    obtain ⟨r', h2, e3, e4⟩ := keys_off h1
    exact ⟨r', h2, e1.trans e3, e2.trans e4⟩
theorem bfnd_clr {L : List Rw} {is : List Int} {k : Nat} {t g : Int} (h : bfnd (L.map some) t g = none) : bfnd (((clr L is).map some).set k none) t g = none := by
  unfold bfnd
  rw [List.findIdx?_eq_none_iff]
  intro x hx
  rcases List.mem_or_eq_of_mem_set hx with hx | rfl
  · obtain ⟨s, hs, rfl⟩ := List.mem_map.mp hx
    obtain ⟨i, hi⟩ := List.mem_iff_getElem?.mp hs
    obtain ⟨r, hr, e1, e2⟩ := clr_keys hi
    have := List.findIdx?_eq_none_iff.mp h (some r) (List.mem_map.mpr ⟨r, List.mem_of_getElem? hr, rfl⟩)
    have this : (decide (r.t = t) && decide (r.g = g)) = false := this
    show (decide (s.t = t) && decide (s.g = g)) = false
    rw [e1, e2]
    exact this
  · rfl
def sp_keepF (C : Addr) : Sp := fun vs H Q _ => ∃ (p ra fa : Addr) (L : List Rw) (n : Nat) (hd t g e : Int), vs = [.ref p, .int t, .int g, .int e] ∧ BkAt C H p ra fa (L.map some) n hd ∧ Uq (L.map some) ∧ L.length ≤ 1000 ∧ 0 ≤ hd ∧ hd < L.length ∧ n < 1000000 ∧
  (∀ (j : Nat) r, bfnd (L.map some) t g = some j → L[j]? = some r → ∀ H', BkAt C H' p ra fa ((L.set j ⟨t, g, e, r.u⟩).map some) n hd → Kp [ra, fa] H H' → Q .non H') ∧
  (bfnd (L.map some) t g = none → ∀ (j : Nat) H', j ≤ L.length → (∀ i < j, (L.map (·.u)).getD ((hd + i) % (L.length : Int)).toNat false = true) → (j = L.length ∨ (L.map (·.u)).getD ((hd + j) % (L.length : Int)).toNat false = false) →
    BkAt C H' p ra fa (((clr L (rg L.length hd j)).set ((hd + j) % (L.length : Int)).toNat ⟨t, g, e, false⟩).map some) (n + 1) (((hd + j) % (L.length : Int) + 1) % (L.length : Int)) → Kp [p, ra, fa] H H' → Q .non H')
theorem b_keepF (T : Txt K mg A) : Body P w K mg base "Book.keep" s_Book_keep ["self", "task", "page", "entry", "place"] 2 (sp_keepF A.C_Book) := by
  have H_Book_place_for_new := h_newF (P := P) (w := w) (base := base) T
  · intro f cdv A' outer s H vs Q E hr z
    obtain ⟨p, ra, fa, L, n, hd, t, g, e, rfl, hB, hu, hL, h0, hlt, hn, qs, qn⟩ := z
    obtain ⟨dx, vs, kvs, h1, h2, h3, h4, h5, h6⟩ := id hB
    have hvl := Paired.length h3
    rw [List.length_map] at hvl
    refine ⟨_, (pss_cons (ps_if (pt_cmpR op_eq (pe_callB call_len rfl T.b_len PySem.boot_len (pa_cons (pe_fld (pvM 0) rfl) pa_nil)) pe_int (nomark _)) (pss_one ps_retN) pss_nil)
      (pss_cons (ps_set (i := 4) sc_Book_keep.nd rfl (Or.inl rfl) (pe_dget1 (hu_of hr) (pe_fld (pvM 0) rfl) (pe_tup (pa_cons (pvM 1) (pa_cons (pvM 2) pa_nil))) ⟨rfl, rfl, rfl, rfl⟩))
      (pss_cons (ps_if (pt_cmpR op_notN (pvM 4) pe_non (nomark _)) (pss_cons (ps_asg (pe_tup (pa_cons (pvM 1) (pa_cons (pvM 2) (pa_cons (pvM 3) (pa_cons (pe_ix ix_tup (pe_ix ix_list (pe_fld (pvM 0) rfl) (pvM 4) (fun _ _ => rfl)) pe_int (fun _ _ => rfl)) pa_nil))))) (pg_sub (pe_fld (pvM 0) rfl) (pvM 4) set_list))
      (pss_one ps_retN)) pss_nil)
      (pss_cons (ps_set (i := 4) sc_Book_keep.nd rfl (Or.inl rfl) (pe_methE0 (pvM 0) T.cl_Book H_Book_place_for_new (hr.mono (by decide)) xw_def))
      (pss_cons (ps_asg (pe_tup (pa_cons (pvM 1) (pa_cons (pvM 2) (pa_cons (pvM 3) (pa_cons pe_bl pa_nil))))) (pg_sub (pe_fld (pvM 0) rfl) (pvM 4) set_list))
      (pss_one (ps_dput (hu_of hr) (pe_fld (pvM 0) rfl) (pe_tup (pa_cons (pvM 1) (pa_cons (pvM 2) pa_nil))) (pvM 4) rfl))))))), ?_⟩
    unfold tDGet1 sp_newF sDPut
    walk_at "wp"
    simp only [h1]
    walk_at "wp"
    refine ⟨T.cl_Book, T.na_Book_rows, _, bkF_rows, _, .inl ⟨_, SqL.of h2, rfl⟩, ?_⟩
    rw [if_neg (by omega)]
    refine ⟨T.cl_Book, T.na_Book_found, _, bkF_found, fa, rfl, .inr ⟨kvs, .inl h4⟩, fun kp hkp => ?_⟩
    have b1 := same_upd (o := .tup [V.int t, V.int g]) (same_refl (H := H)) hkp
    have hkp' : upd H kp (.tup [V.int t, V.int g]) kp = some (.tup [V.int t, V.int g]) := upd_same
    generalize upd H kp (.tup [V.int t, V.int g]) = H1 at *
    refine ⟨_, DGet.t (k := ky t g) (b1 _ _ h4) hkp', ?_⟩
    rw [h5.1 t g]
    cases e2 : bfnd (L.map some) t g with
    | some j =>
      obtain ⟨r, hr1, rt, rg'⟩ := bfnd_some e2
      obtain ⟨x, hx, c, rfl, hc⟩ := prd_get2 h3 hr1
      have hrL : L[j]? = some r := by
        rw [List.getElem?_map] at hr1
        cases eL : L[j]? with
        | none => rw [eL] at hr1; cases hr1
        | some y => rw [eL] at hr1; cases hr1; rfl
      have q := qs j r e2 hrL
      refine iteT ⟨_, dx, _, b1 _ _ h1, T.cl_Book, T.na_Book_rows, _, bkF_rows, ra, rfl, vs, _, rfl, SqL.of (b1 _ _ h2), _, atI_nat hx, c, rfl, _, SqT.of (b1 _ _ hc), _, rfl, fun np hnp => ?_⟩
      have b2 := same_upd (o := .tup [V.int t, V.int g, V.int e, V.bl r.u]) b1 hnp
      have hr2 := b2 _ _ h2
      have npr : np ≠ ra := fun z => by rw [z, b1 _ _ h2] at hnp; cases hnp
      have hvl : j < vs.length := (List.getElem?_eq_some_iff.mp hx).1
      refine ⟨_, dx, _, b2 _ _ h1, T.cl_Book, T.na_Book_rows, _, bkF_rows, ra, rfl, vs, _, rfl, hr2, j, by unfold ixN; rw [if_pos (by omega), if_pos (by omega)]; rfl, ?_⟩
      refine q _ ⟨dx, vs.set j (.ref np), kvs, ?_, upd_same, ?_, ?_, ?_, h6⟩ ?_
      · rw [upd_ne (fun z => by rw [z, h2] at h1; cases h1)]; exact b2 _ _ h1
      · rw [List.map_set]
        exact prd_set (F := RowAt _) (show RowAt _ (V.ref np) (some _) from ⟨np, rfl, by rw [upd_ne npr, upd_same]⟩) j (RsAt.same2 hr2 (h3.same b2))
      · rw [upd_ne (fun z => by rw [z, h2] at h4; cases h4)]; exact b2 _ _ h4
      · rw [List.map_set]; exact lnk_set h5 hr1 rt.symm rg'.symm
      · intro c o hc hx
        rw [upd_ne (fun z => hx (by simp [z]))]
        exact b2 _ _ hc
    | none =>
      have q := qn e2
      rw [if_neg (by decide)]
      refine ⟨dx, _, b1 _ _ h1, bkF_no (by decide +kernel), ra, fa, L, n, hd, hB.same b1, hu, hL, h0, hlt, fun j H2 hj hall hor hB2 kp2 np hnp => ?_⟩
      have q := q j
      have hpl : 0 ≤ (hd + j) % (L.length : Int) ∧ (hd + j) % (L.length : Int) < L.length := ⟨Int.emod_nonneg _ (by omega), Int.emod_lt_of_pos _ (by omega)⟩
      have hfc := bfnd_clr (is := rg L.length hd j) (k := ((hd + j) % (L.length : Int)).toNat) e2
      have l4 : (clr L (rg L.length hd j)).length = L.length := clr_len
      generalize (((hd + j) % (L.length : Int) + 1) % (L.length : Int)) = hd2 at *
      generalize (hd + j) % (L.length : Int) = pl at *
      generalize clr L (rg L.length hd j) = L4 at *
      obtain ⟨dx2, vs2, kvs2, m1, m2, m3, m4, m5, m6⟩ := id hB2
      have hvl2 := Paired.length m3
      rw [List.length_set, List.length_map, l4] at hvl2
      have hrn : ((L4.map some).set pl.toNat none)[pl.toNat]? = some none := by rw [List.getElem?_set_self (by rw [List.length_map]; omega)]
      have b2 := same_upd (o := .tup [V.int t, V.int g, V.int e, V.bl false]) (same_refl (H := H2)) hnp
      have hnp' : upd H2 np (.tup [V.int t, V.int g, V.int e, V.bl false]) np = some (.tup [V.int t, V.int g, V.int e, V.bl false]) := upd_same
      have npr : np ≠ ra := fun z => by rw [z, m2] at hnp; cases hnp
      generalize upd H2 np (.tup [V.int t, V.int g, V.int e, V.bl false]) = H3 at *
      have hr2 := b2 _ _ m2
      have hpr : p ≠ ra := fun z => by rw [z, m2] at m1; cases m1
      have hfr : fa ≠ ra := fun z => by rw [z, m2] at m4; cases m4
      have hpf : p ≠ fa := fun z => by rw [z, m4] at m1; cases m1
      refine ⟨_, dx2, _, b2 _ _ m1, T.cl_Book, T.na_Book_rows, _, bkF_rows, ra, rfl, vs2, hr2, pl.toNat, by unfold ixN; rw [if_pos hpl.1, if_pos (by omega)], ?_⟩
      have k1 : upd H3 ra (.lst (vs2.set pl.toNat (V.ref np))) p = some (.ins A.C_Book dx2 (bkF ra fa hd2)) := by rw [upd_ne hpr]; exact b2 _ _ m1
      have k2 : upd H3 ra (.lst (vs2.set pl.toNat (V.ref np))) ra = some (.lst (vs2.set pl.toNat (V.ref np))) := upd_same
      have k3 : RsAt (upd H3 ra (.lst (vs2.set pl.toNat (V.ref np)))) (vs2.set pl.toNat (V.ref np)) (((L4.map some).set pl.toNat none).set pl.toNat (some ⟨t, g, e, false⟩)) := prd_set (F := RowAt _) (show RowAt _ (V.ref np) (some _) from ⟨np, rfl, by rw [upd_ne npr]; exact hnp'⟩) pl.toNat (RsAt.same2 hr2 (m3.same b2))
      have k4 : upd H3 ra (.lst (vs2.set pl.toNat (V.ref np))) fa = some (.dT kvs2) := by rw [upd_ne hfr]; exact b2 _ _ m4
      have kf : Kp [p, ra, fa] H (upd H3 ra (.lst (vs2.set pl.toNat (V.ref np)))) := fun c o hc hx => by
        rw [upd_ne (fun z => hx (by simp [z]))]
        exact b2 _ _ (kp2 c o (b1 _ _ hc) hx)
      generalize upd H3 ra (.lst (vs2.set pl.toNat (V.ref np))) = H4 at *
      refine ⟨_, dx2, _, k1, T.cl_Book, T.na_Book_found, _, bkF_found, fun kk hkk => ?_⟩
      have b4 := same_upd (o := .tup [V.int t, V.int g]) (same_refl (H := H4)) hkk
      have hval : valV kvs2 (ky t g) = none := by rw [m5.1 t g, hfc]; rfl
      refine ⟨fa, rfl, _, DPut.t (k := ky t g) (b4 _ _ k4) upd_same (by have : sizeLine = 16777216 := PySem.sizeLine_eq; omega), ?_⟩
      have el : ((L4.map some).set pl.toNat none).set pl.toNat (some ⟨t, g, e, false⟩) = (L4.set pl.toNat ⟨t, g, e, false⟩).map some := by rw [List.set_set, List.map_set]
      have hlk := lnk_new (r := ⟨t, g, e, false⟩) m5 hrn hfc
      rw [el] at k3 hlk
      rw [show ((pl.toNat : Nat) : Int) = pl by omega] at hlk
      refine q _ hj hall hor ⟨dx2, vs2.set pl.toNat (V.ref np), _, ?_, ?_, ?_, upd_same, hlk, ?_⟩ ?_
      · rw [upd_ne hpf]; exact b4 _ _ k1
      · rw [upd_ne (fun z => hfr z.symm)]; exact b4 _ _ k2
      · exact RsAt.sameD (b4 _ _ k4) (k3.same b4)
      · rw [show ky (⟨t, g, e, false⟩ : Rw).t (⟨t, g, e, false⟩ : Rw).g = ky t g from rfl, putK_new _ hval, List.length_append]
        exact Nat.add_le_add m6 (Nat.le_refl _)
      · intro c o hc hx
        rw [upd_ne (fun z => hx (by simp [z]))]
        exact b4 _ _ (kf c o hc hx)
def sp_keep0 (C : Addr) : Sp := fun vs H Q _ => ∃ (p ra fa : Addr) (n : Nat) (hd t g e : Int), vs = [.ref p, .int t, .int g, .int e] ∧ BkAt C H p ra fa [] n hd ∧ Q .non H
theorem b_keep0 (T : Txt K mg A) : Body P w K mg base "Book.keep" s_Book_keep ["self", "task", "page", "entry", "place"] 2 (sp_keep0 A.C_Book) := by
  have H_Book_place_for_new := h_new (P := P) (w := w) (base := base) T
  intro f cdv A' outer s H vs Q E hr z
  obtain ⟨p, ra, fa, n, hd, t, g, e, rfl, hB, q⟩ := z
  obtain ⟨dx, vs, kvs, h1, h2, h3, h4, h5, h6⟩ := id hB
  have hvl := Paired.length h3
  refine ⟨_, (pss_cons (ps_if (pt_cmpR op_eq (pe_callB call_len rfl T.b_len PySem.boot_len (pa_cons (pe_fld (pvM 0) rfl) pa_nil)) pe_int (nomark _)) (pss_one ps_retN) pss_nil)
      (pss_cons (ps_set (i := 4) sc_Book_keep.nd rfl (Or.inl rfl) (pe_dget1 (hu_of hr) (pe_fld (pvM 0) rfl) (pe_tup (pa_cons (pvM 1) (pa_cons (pvM 2) pa_nil))) ⟨rfl, rfl, rfl, rfl⟩))
      (pss_cons (ps_if (pt_cmpR op_notN (pvM 4) pe_non (nomark _)) (pss_cons (ps_asg (pe_tup (pa_cons (pvM 1) (pa_cons (pvM 2) (pa_cons (pvM 3) (pa_cons (pe_ix ix_tup (pe_ix ix_list (pe_fld (pvM 0) rfl) (pvM 4) (fun _ _ => rfl)) pe_int (fun _ _ => rfl)) pa_nil))))) (pg_sub (pe_fld (pvM 0) rfl) (pvM 4) set_list))
      (pss_one ps_retN)) pss_nil)
      (pss_cons (ps_set (i := 4) sc_Book_keep.nd rfl (Or.inl rfl) (pe_methE0 (pvM 0) T.cl_Book H_Book_place_for_new (hr.mono (by decide)) xw_def))
      (pss_cons (ps_asg (pe_tup (pa_cons (pvM 1) (pa_cons (pvM 2) (pa_cons (pvM 3) (pa_cons pe_bl pa_nil))))) (pg_sub (pe_fld (pvM 0) rfl) (pvM 4) set_list))
      (pss_one (ps_dput (hu_of hr) (pe_fld (pvM 0) rfl) (pe_tup (pa_cons (pvM 1) (pa_cons (pvM 2) pa_nil))) (pvM 4) rfl))))))), ?_⟩
  unfold tDGet1 sp_new sDPut
  walk_at "wp"
  simp only [h1]
  walk_at "wp"
  refine ⟨T.cl_Book, T.na_Book_rows, _, bkF_rows, _, .inl ⟨_, SqL.of h2, rfl⟩, ?_⟩
  rw [if_pos (by rw [hvl]; rfl)]
  exact q
def offR (t : Int) : Option Rw → Option Rw
  | none => none
  | some r => if r.t = t then none else some r
def offT (t : Int) (rows : List (Option Rw)) : List (Option Rw) := rows.map (offR t)
def Cut (t : Int) (rows rows' : List (Option Rw)) : Prop := rows'.length = rows.length ∧ ∀ j : Nat, rows'[j]? = rows[j]? ∨ (rows'[j]? = some none ∧ ∃ r, rows[j]? = some (some r) ∧ r.t = t)
theorem cut_uq {t : Int} {rows rows' : List (Option Rw)} (h : Cut t rows rows') (hu : Uq rows) : Uq rows' := fun i j r s hi hj e1 e2 => by
  have o : ∀ (i : Nat) (r : Rw), rows'[i]? = some (some r) → rows[i]? = some (some r) := fun i r hi => by
    rcases h.2 i with q | ⟨q, _⟩
    · rw [← q]; exact hi
    · rw [q] at hi; cases hi
  exact hu i j r s (o i r hi) (o j s hj) e1 e2
theorem cut_strike {t g : Int} {rows rows' : List (Option Rw)} (h : Cut t rows rows') : Cut t rows (strikeR rows' t g) := by
  unfold strikeR
  cases e : bfnd rows' t g with
  | none => exact h
  | some j =>
    obtain ⟨r, hr, e1, e2⟩ := bfnd_some e
    refine ⟨by rw [← h.1]; exact List.length_set, fun i => ?_⟩
    show (rows'.set j none)[i]? = _ ∨ _
    rw [List.getElem?_set]
    by_cases c : j = i
    · subst c
      rw [if_pos rfl, if_pos (List.getElem?_eq_some_iff.mp hr).1]
      refine .inr ⟨rfl, r, ?_, e1⟩
      rcases h.2 j with q | ⟨q, _⟩
      · rw [← q]; exact hr
      · rw [q] at hr; cases hr
    · rw [if_neg c]; exact h.2 i
theorem bfnd_cut {rows : List (Option Rw)} {j : Nat} {t g : Int} (h : bfnd rows t g = none) : bfnd (rows.set j none) t g = none := by
  unfold bfnd at *
  rw [List.findIdx?_eq_none_iff] at *
  intro x hx
  rcases List.mem_or_eq_of_mem_set hx with hx | rfl
  · exact h x hx
  · rfl
theorem bfnd_off {rows : List (Option Rw)} {t g : Int} (hu : Uq rows) : bfnd (strikeR rows t g) t g = none := by
  unfold strikeR
  cases e : bfnd rows t g with
  | none => exact e
  | some j =>
    obtain ⟨r, hr, e1, e2⟩ := bfnd_some e
    show bfnd (rows.set j none) t g = none
    cases e3 : bfnd (rows.set j none) t g with
    | none => rfl
    | some i =>
      obtain ⟨s, hs, e4, e5⟩ := bfnd_some e3
      rw [List.getElem?_set] at hs
      by_cases c : j = i
      · rw [if_pos c] at hs
        split at hs <;> cases hs
      · rw [if_neg c] at hs
        exact absurd (hu j i r s hr hs (e1.trans e4.symm) (e2.trans e5.symm)) c
theorem cut_all {t : Int} {rows rows' : List (Option Rw)} (h : Cut t rows rows') (hn : ∀ g, bfnd rows' t g = none) : rows' = offT t rows := by
  refine List.ext_getElem? fun j => ?_
  unfold offT
  rw [List.getElem?_map]
  rcases h.2 j with q | ⟨q, r, hr, e⟩
  · cases hj : rows[j]? with
    | none => rw [q, hj]; rfl
    | some o =>
      rw [hj] at q
      rw [q]
      cases o with
      | none => rfl
      | some r =>
        show some (some r) = some (if r.t = t then none else some r)
        by_cases c : r.t = t
        · have := List.findIdx?_eq_none_iff.mp (hn r.g) (some r) (List.mem_of_getElem? q)
          have this : (decide (r.t = t) && decide (r.g = r.g)) = false := this
          rw [decide_eq_true c, decide_eq_true rfl] at this
          cases this
        · rw [if_neg c]
  · rw [q, hr]
    show some none = some (if r.t = t then none else some r)
    rw [if_pos e]
theorem bfnd_kept {t g t' g' : Int} {rows : List (Option Rw)} (h : bfnd rows t' g' = none) : bfnd (strikeR rows t g) t' g' = none := by
  unfold strikeR
  cases bfnd rows t g with
  | none => exact h
  | some j => exact bfnd_cut h
theorem val_mem {kvs : List (List Key × V)} {k : List Key} {v : V} (h : valV kvs k = some v) : k ∈ kvs.map (·.1) := by
  induction kvs with
  | nil => cases h
  | cons x r ih =>
    by_cases c : x.1 = k
    · rw [List.map_cons, c]; exact List.mem_cons_self ..
    · rw [valV_neg c] at h
      exact List.mem_cons_of_mem _ (ih h)
def sp_stask (C : Addr) : Sp := fun vs H Q _ => ∃ (p ra fa : Addr) (rows : List (Option Rw)) (n : Nat) (hd : Int) (t : Int), vs = [.ref p, .int t] ∧ BkAt C H p ra fa rows n hd ∧ Uq rows ∧ n < 1000000 ∧ ∀ H', BkAt C H' p ra fa (offT t rows) n hd → Kp [ra, fa] H H' → Q .non H'
theorem h_stask (T : Txt K mg A) : HaveM P w K mg base A.C_Book "strike_task" 2 ["self", "task"] [] (sp_stask A.C_Book) := by
  have H_Book_strike := h_strk (P := P) (w := w) (base := base) T
  refine T.r_Book_strike_task.have sc_Book_strike_task (fun vs H Q E z => ?_) ?_
  · obtain ⟨p, ra, fa, rows, n, hd, t, rfl, _⟩ := z; rfl
  · intro f cdv A' outer s H vs Q E hr z
    obtain ⟨p, ra, fa, rows, n, hd, t, rfl, hB, hu, hn, q⟩ := z
    obtain ⟨dx, vs, kvs, h1, h2, h3, h4, h5, h6⟩ := id hB
    refine ⟨_, (pss_one (ps_forE PassesOwn.leaving rfl (pi_list (pe_callTy (call_listDT rfl) rfl T.b_list PyProof.Rows.boot_list (pa_cons (pe_fld (pvM 0) rfl) pa_nil))) (pg_name (i := 2) sc_Book_strike_task.nd rfl (Or.inl rfl)) (pss_one (ps_if (pt_cmpR op_eq (pe_ix ix_tup (pvM 2) pe_int (fun _ _ => rfl)) (pvM 1) (nomark _)) (pss_one (ps_expr (pe_methE (pvM 0) T.cl_Book H_Book_strike (hr.mono (by decide)) xw_def (pa_cons (pe_ix ix_tup (pvM 2) pe_int (fun _ _ => rfl)) (pa_cons (pe_ix ix_tup (pvM 2) pe_int (fun _ _ => rfl)) pa_nil))))) pss_nil)))), ?_⟩
    walk_at "wp"
    simp only [h1]
    walk_at "wp"
    refine ⟨T.cl_Book, T.na_Book_found, _, bkF_found, fa, rfl, kvs, h4, fun l us hl hk => ?_⟩
    have b1 := same_upd (o := .lst us) (same_refl (H := H)) hl
    have hl' : upd H l (.lst us) l = some (.lst us) := upd_same
    have hk : KysAt (upd H l (.lst us)) (kvs.map (·.1)) us := Paired.mapP hk fun _ _ ⟨a, e, h⟩ => ⟨a, e, b1 _ _ h⟩
    have hB := hB.same b1
    have hlx : l ∉ [ra, fa] := fun z => by
      rcases List.mem_cons.mp z with z | z
      · rw [z, h2] at hl; cases hl
      · rw [List.mem_singleton.mp z, h4] at hl; cases hl
    have tx : ∀ c xs, upd H l (.lst us) c = some (.tup xs) → c ∉ [ra, fa] := fun c xs hc z => by
      rcases List.mem_cons.mp z with z | z
      · rw [z, b1 _ _ h2] at hc; cases hc
      · rw [List.mem_singleton.mp z, b1 _ _ h4] at hc; cases hc
    have q2 : ∀ H', BkAt A.C_Book H' p ra fa (offT t rows) n hd → Kp [ra, fa] (upd H l (.lst us)) H' → Q .non H' := fun H' hB' kp => q H' hB' fun c o hc hx => kp c o (b1 _ _ hc) hx
    generalize upd H l (.lst us) = H1 at *
    refine ⟨⟨_, SqL.of hl'⟩, loop_list (xs := us) (fun i σ H' => ∃ v2 rows', σ = [some (.ref p), some (.int t), v2] ∧ BkAt A.C_Book H' p ra fa rows' n hd ∧ Cut t rows rows' ∧ (∀ k < i, ∀ g, (kvs.map (·.1))[k]? = some (ky t g) → bfnd rows' t g = none) ∧ Kp [ra, fa] H1 H') ⟨_, _, rfl, hB, ⟨rfl, fun _ => .inl rfl⟩, (fun k h => absurd h (Nat.not_lt_zero _)), fun _ _ h _ => h⟩ (fun i σ H' _ ⟨_, _, _, _, _, _, e⟩ => SqL.of (e _ _ hl' hlx)) (fun i x σ H' hi => ?_) (fun σ H' => ?_)⟩
    · rintro ⟨v2, rows', rfl, hB', hcut, hno, kp⟩
      obtain ⟨k, hk1, a, rfl, ha⟩ := prd_get2 hk hi
      obtain ⟨y, hy, rfl⟩ := List.mem_map.mp (List.mem_of_getElem? hk1)
      obtain ⟨kt, kg, ek⟩ := h5.2 y hy
      rw [ek] at ha hk1
      have ha' := kp _ _ ha (tx _ _ ha)
      have ha' : H' a = some (.tup [V.int kt, V.int kg]) := ha'
      obtain ⟨dx', vs', kvs', k1, _⟩ := id hB'
      unfold sp_strk
      walk_at "wp"
      refine ⟨_, SqT.of ha', _, rfl, rfl, ?_⟩
      by_cases c : kt = t
      · subst c
        rw [if_pos rfl]
        refine ⟨dx', _, k1, bkF_no (by decide +kernel), _, SqT.of ha', _, rfl, _, SqT.of ha', _, rfl, ?_⟩
        refine ⟨ra, fa, rows', n, hd, kt, rfl, kg, rfl, hB', cut_uq hcut hu, fun H2 hB2 kp2 => ⟨_, hB2, cut_strike hcut, fun k hk g hg => ?_, fun c o hc hx => kp2 c o (kp c o hc hx) hx⟩⟩
        rcases (by omega : k < i ∨ k = i) with h | rfl
        · exact bfnd_kept (hno k h g hg)
        · rw [hk1] at hg
          have e : kg = g := by injection hg with hg; injection hg with _ b; injection b with b _; injection b
          rw [← e]
          exact bfnd_off (cut_uq hcut hu)
      · rw [if_neg (fun z => c (V.int.inj z))]
        refine ⟨_, hB', hcut, fun k hk g hg => ?_, kp⟩
        rcases (by omega : k < i ∨ k = i) with h | rfl
        · exact hno k h g hg
        · rw [hk1] at hg
          have e : kt = t := by injection hg with hg; injection hg with a b; injection a
          exact absurd e c
    · rintro ⟨v2, rows', rfl, hB', hcut, hno, kp⟩
      walk_at "wp"
      have e : rows' = offT t rows := cut_all hcut fun g => by
        cases e : bfnd rows' t g with
        | none => rfl
        | some j =>
          obtain ⟨r, hr, e1, e2⟩ := bfnd_some e
          have hr0 : rows[j]? = some (some r) := by
            rcases hcut.2 j with z | ⟨z, _⟩
            · rw [← z]; exact hr
            · rw [z] at hr; cases hr
          have hv := h5.1 t g
          cases e3 : bfnd rows t g with
          | none =>
            have := List.findIdx?_eq_none_iff.mp e3 (some r) (List.mem_of_getElem? hr0)
            have this : (decide (r.t = t) && decide (r.g = g)) = false := this
            rw [decide_eq_true e1, decide_eq_true e2] at this
            cases this
          | some j' =>
            rw [e3] at hv
            obtain ⟨k, hk2⟩ := List.mem_iff_getElem?.mp (val_mem hv)
            have := hno k (by rw [← Paired.length hk]; exact (List.getElem?_eq_some_iff.mp hk2).1) g hk2
            rw [e] at this
            cases this
      rw [e] at hB'
      exact q2 _ hB' kp
theorem cutV_nat {xs : List V} {lo hi : Nat} : cutV xs (some (lo : Int)) (some (hi : Int)) = (xs.take hi).drop lo := by
  unfold cutV
  show (xs.drop (if (lo : Int) < 0 then ((lo : Int) + (xs.length : Int)).toNat else min (lo : Int).toNat xs.length)).take ((if (hi : Int) < 0 then ((hi : Int) + (xs.length : Int)).toNat else min (hi : Int).toNat xs.length) - (if (lo : Int) < 0 then ((lo : Int) + (xs.length : Int)).toNat else min (lo : Int).toNat xs.length)) = _
  rw [if_neg (by omega), if_neg (by omega), Int.toNat_natCast, Int.toNat_natCast, List.drop_take]
  refine List.ext_getElem? fun k => ?_
  rw [List.getElem?_take, List.getElem?_take, List.getElem?_drop, List.getElem?_drop]
  by_cases h1 : k < hi - lo
  · rw [if_pos h1]
    by_cases h2 : k < min hi xs.length - min lo xs.length
    · rw [if_pos h2, Nat.min_eq_left (by omega)]
    · rw [if_neg h2, List.getElem?_eq_none_iff.mpr (by omega)]
  · rw [if_neg h1]
    by_cases h2 : k < min hi xs.length - min lo xs.length
    · rw [if_pos h2, List.getElem?_eq_none_iff.mpr (by omega)]
    · rw [if_neg h2]
abbrev Kvs := List (Key × V)
def enF (sh td bd bk : Addr) : List (Str × V) := putF "book" (.ref bk) (putF "banks" (.ref bd) (putF "tables" (.ref td) (putF "shape" (.ref sh) [])))
theorem enF_shape {sh td bd bk : Addr} : (enF sh td bd bk).lookup ("shape" : Str) = some (.ref sh) := by rfl
theorem enF_tables {sh td bd bk : Addr} : (enF sh td bd bk).lookup ("tables" : Str) = some (.ref td) := by rfl
theorem enF_banks {sh td bd bk : Addr} : (enF sh td bd bk).lookup ("banks" : Str) = some (.ref bd) := by rfl
theorem enF_book {sh td bd bk : Addr} : (enF sh td bd bk).lookup ("book" : Str) = some (.ref bk) := by rfl
theorem enF_no {sh td bd bk : Addr} {m : Str} (h : ¬ m ∈ (["shape", "tables", "banks", "book"] : List Str)) : (enF sh td bd bk).lookup m = none := by
  simp only [List.mem_cons, List.not_mem_nil, or_false, not_or] at h
  obtain ⟨h1, h2, h3, h4⟩ := h
  unfold enF
  simp only [lookup_putF, h1, h2, h3, h4, if_false]
  rfl
structure En where
  p : Addr
  sh : Addr
  td : Addr
  bd : Addr
  bk : Addr
  ra : Addr
  fa : Addr
  hd : Int
structure Tb (m : Nat) where
  n : Int
  p : Addr
  t : TT (m + 1)
structure Bn where
  n : Int
  a : Addr
  xs : List V
def tbD {m : Nat} (ts : List (Tb m)) : Kvs := ts.map fun x => ((Sum.inl x.n : Key), V.ref x.p)
def bnD (bs : List Bn) : Kvs := bs.map fun x => ((Sum.inl x.n : Key), V.ref x.a)
def adT {m : Nat} (ts : List (Tb m)) : List Addr := ts.flatMap fun x => ads (m + 1) x.t
def own {m : Nat} (e : En) (ts : List (Tb m)) (bs : List Bn) : List Addr := e.td :: e.bd :: e.ra :: e.fa :: (bs.map Bn.a ++ adT ts)
def Mut (o : HO) : Prop := (∀ C dx fs, o ≠ .ins C dx fs) ∧ ∀ ys, o ≠ .tup ys
theorem mut_ins {C dx : Addr} {fs : List (Str × V)} : ¬ Mut (.ins C dx fs) := fun z => z.1 _ _ _ rfl
theorem mut_tup {ys : List V} : ¬ Mut (.tup ys) := fun z => z.2 _ rfl
def Ch (F : List Addr) (H H' : Hp) : Prop := ∀ c o, H c = some o → (c ∈ F → ¬ Mut o) → H' c = some o
theorem Ch.same {F : List Addr} {H H' : Hp} (s : Same H H') : Ch F H H' := fun c o h _ => s c o h
theorem Ch.trans {F G : List Addr} {H H1 H2 : Hp} (a : Ch F H H1) (b : Ch G H1 H2) (h : ∀ c ∈ G, c ∈ F ∨ H c = none) : Ch F H H2 := fun c o e n => b c o (a c o e n) fun hg => (h c hg).elim n (fun z => by rw [z] at e; cases e)
theorem Ch.mono {F G : List Addr} {H H' : Hp} (a : Ch F H H') (h : ∀ c ∈ F, c ∈ G) : Ch G H H' := fun c o e n => a c o e fun hc => n (h c hc)
structure EnAt (A : Adr) (H : Hp) (e : En) (l f g : Int) (m : Nat) (ts : List (Tb m)) (bs : List Bn) (rows : List (Option Rw)) (nb : Nat) : Prop where
  me : ∃ dx, H e.p = some (.ins A.C_Entries dx (enF e.sh e.td e.bd e.bk))
  sh : ShapeAt A.C_Shape H e.sh l f g
  lm : l = m + 1
  gd : gd l f g
  td : H e.td = some (.dK (tbD ts))
  bd : H e.bd = some (.dK (bnD bs))
  bl : ∀ b ∈ bs, H b.a = some (.lst b.xs)
  bk : BkAt A.C_Book H e.bk e.ra e.fa rows nb e.hd
  uq : Uq rows
  tab : ∀ x ∈ ts, TabAt A.C_Table A.C_Shape H x.p l f g m x.t
  nk : (ts.map Tb.n).Nodup
  kb : (bs.map Bn.n).Nodup
  nd : (own e ts bs).Nodup
theorem ad_own {m : Nat} {e : En} {ts : List (Tb m)} {bs : List Bn} {x : Tb m} (hx : x ∈ ts) {a : Addr} (ha : a ∈ ads (m + 1) x.t) : a ∈ own e ts bs := by
  unfold own adT
  simp only [List.mem_cons, List.mem_append, List.mem_flatMap]
  exact .inr (.inr (.inr (.inr (.inr ⟨x, hx, ha⟩))))
theorem bl_own {m : Nat} {e : En} {ts : List (Tb m)} {bs : List Bn} {b : Bn} (hb : b ∈ bs) : b.a ∈ own e ts bs := by
  unfold own
  simp only [List.mem_cons, List.mem_append, List.mem_map]
  exact .inr (.inr (.inr (.inr (.inl ⟨b, hb, rfl⟩))))
theorem td_own {m : Nat} {e : En} {ts : List (Tb m)} {bs : List Bn} : e.td ∈ own e ts bs := by unfold own; simp
theorem bd_own {m : Nat} {e : En} {ts : List (Tb m)} {bs : List Bn} : e.bd ∈ own e ts bs := by unfold own; simp
theorem ra_own {m : Nat} {e : En} {ts : List (Tb m)} {bs : List Bn} : e.ra ∈ own e ts bs := by unfold own; simp
theorem fa_own {m : Nat} {e : En} {ts : List (Tb m)} {bs : List Bn} : e.fa ∈ own e ts bs := by unfold own; simp
theorem tab_ch {C S : Addr} {F : List Addr} {H H' : Hp} {p : Addr} {l f g : Int} {m : Nat} {t : TT (m + 1)} (h : TabAt C S H p l f g m t) (c : Ch F H H') (d : ∀ a ∈ ads (m + 1) t, a ∉ F) : TabAt C S H' p l f g m t := by
  obtain ⟨h1, h2, ⟨dx, sp, h3, dx2, h4⟩, h5, h6⟩ := h
  exact ⟨h1, h2, ⟨dx, sp, c _ _ h3 fun _ => mut_ins, dx2, c _ _ h4 fun _ => mut_ins⟩, rep_stay h5 fun a ha o ho => c a o ho fun z => absurd z (d a ha), h6⟩
theorem row_ch {F : List Addr} {H H' : Hp} (c : Ch F H H') {v : V} : ∀ {r : Option Rw}, RowAt H v r → RowAt H' v r
  | none, h => h
  | some _, ⟨a, e, h⟩ => ⟨a, e, c _ _ h fun _ => mut_tup⟩
theorem bk_ch {C : Addr} {F : List Addr} {H H' : Hp} {p ra fa : Addr} {rows : List (Option Rw)} {n : Nat} {hd : Int} (h : BkAt C H p ra fa rows n hd) (c : Ch F H H') (h1 : ra ∉ F) (h2 : fa ∉ F) : BkAt C H' p ra fa rows n hd := by
  obtain ⟨dx, vs, kvs, e1, e2, e3, e4, e5, e6⟩ := h
  exact ⟨dx, vs, kvs, c _ _ e1 fun _ => mut_ins, c _ _ e2 fun z => absurd z h1, Paired.mapP e3 fun _ _ q => row_ch c q, c _ _ e4 fun z => absurd z h2, e5, e6⟩
theorem EnAt.ch {A : Adr} {F : List Addr} {H H' : Hp} {e : En} {l f g : Int} {m : Nat} {ts : List (Tb m)} {bs : List Bn} {rows : List (Option Rw)} {nb : Nat} (h : EnAt A H e l f g m ts bs rows nb) (c : Ch F H H') (d : ∀ a ∈ own e ts bs, a ∉ F) : EnAt A H' e l f g m ts bs rows nb :=
  ⟨let ⟨dx, q⟩ := h.me; ⟨dx, c _ _ q fun _ => mut_ins⟩, let ⟨dx, q⟩ := h.sh; ⟨dx, c _ _ q fun _ => mut_ins⟩, h.lm, h.gd, c _ _ h.td fun z => absurd z (d _ td_own), c _ _ h.bd fun z => absurd z (d _ bd_own), fun b hb => c _ _ (h.bl b hb) fun z => absurd z (d _ (bl_own hb)), bk_ch h.bk c (d _ ra_own) (d _ fa_own), h.uq,
    fun x hx => tab_ch (h.tab x hx) c fun a ha => d a (ad_own hx ha), h.nk, h.kb, h.nd⟩
theorem EnAt.same {A : Adr} {H H' : Hp} {e : En} {l f g : Int} {m : Nat} {ts : List (Tb m)} {bs : List Bn} {rows : List (Option Rw)} {nb : Nat} (h : EnAt A H e l f g m ts bs rows nb) (s : Same H H') : EnAt A H' e l f g m ts bs rows nb := h.ch (F := []) (Ch.same s) fun _ _ z => by cases z
theorem EnAt.ex {A : Adr} {H : Hp} {e : En} {l f g : Int} {m : Nat} {ts : List (Tb m)} {bs : List Bn} {rows : List (Option Rw)} {nb : Nat} (h : EnAt A H e l f g m ts bs rows nb) : ∀ a ∈ own e ts bs, H a ≠ none := by
  intro a ha z
  unfold own adT at ha
  simp only [List.mem_cons, List.mem_append, List.mem_map, List.mem_flatMap] at ha
  obtain ⟨dx, vs, kvs, e1, e2, e3, e4, _⟩ := h.bk
  rcases ha with rfl | rfl | rfl | rfl | ⟨b, hb, rfl⟩ | ⟨x, hx, ha⟩
  · rw [h.td] at z; cases z
  · rw [h.bd] at z; cases z
  · rw [e2] at z; cases z
  · rw [e4] at z; cases z
  · rw [h.bl b hb] at z; cases z
  · obtain ⟨o, ho⟩ := rep_some (h.tab x hx).2.2.2.1 a ha
    rw [ho] at z; cases z
theorem rep_dK2 {H : Hp} : ∀ {n : Nat} {t : TT n}, Rep H n t → ∀ a ∈ ads n t, ∃ kvs, H a = some (.dK kvs)
  | 0, _, _, a, ha => by cases ha
  | n + 1, t, h, a, ha => by
    obtain ⟨h1, _, _, h4⟩ := h
    rcases List.mem_cons.mp (show a ∈ t.1 :: t.2.flatMap (fun p => ads n p.2) from ha) with rfl | ha
    · exact ⟨_, h1⟩
    · obtain ⟨p, hp, hq⟩ := List.mem_flatMap.mp ha
      exact rep_dK2 (h4 p hp) a hq
theorem adT_apart {m : Nat} : ∀ {ts : List (Tb m)}, (adT ts).Nodup → ∀ {x y : Tb m}, x ∈ ts → y ∈ ts → x ≠ y → ∀ a ∈ ads (m + 1) x.t, a ∉ ads (m + 1) y.t
  | [], _, _, _, h, _, _, _, _ => by cases h
  | u :: r, nd, x, y, hx, hy, ne, a, ha => by
    have e : adT (u :: r) = ads (m + 1) u.t ++ adT r := by unfold adT; rw [List.flatMap_cons]
    rw [e] at nd
    obtain ⟨h1, h2, h3⟩ := List.nodup_append.mp nd
    intro hb
    rcases List.mem_cons.mp hx with rfl | hx' <;> rcases List.mem_cons.mp hy with rfl | hy'
    · exact ne rfl
    · exact h3 a ha a (List.mem_flatMap.mpr ⟨y, hy', hb⟩) rfl
    · exact h3 a hb a (List.mem_flatMap.mpr ⟨x, hx', ha⟩) rfl
    · exact adT_apart h2 hx' hy' ne a ha hb
theorem tb_val {m : Nat} {ts : List (Tb m)} {x : Tb m} (nk : (ts.map Tb.n).Nodup) (hx : x ∈ ts) : valV (tbD ts) (Sum.inl x.n) = some (.ref x.p) := by
  induction ts with
  | nil => cases hx
  | cons u r ih =>
    rw [List.map_cons, List.nodup_cons] at nk
    show valV ((Sum.inl u.n, V.ref u.p) :: tbD r) (Sum.inl x.n) = _
    rcases List.mem_cons.mp hx with rfl | h
    · exact valV_pos rfl
    · rw [valV_neg (fun z => nk.1 (by rw [show u.n = x.n from Sum.inl.inj z]; exact List.mem_map.mpr ⟨x, h, rfl⟩))]
      exact ih nk.2 h
theorem bn_val {bs : List Bn} {x : Bn} (nk : (bs.map Bn.n).Nodup) (hx : x ∈ bs) : valV (bnD bs) (Sum.inl x.n) = some (.ref x.a) := by
  induction bs with
  | nil => cases hx
  | cons u r ih =>
    rw [List.map_cons, List.nodup_cons] at nk
    show valV ((Sum.inl u.n, V.ref u.a) :: bnD r) (Sum.inl x.n) = _
    rcases List.mem_cons.mp hx with rfl | h
    · exact valV_pos rfl
    · rw [valV_neg (fun z => nk.1 (by rw [show u.n = x.n from Sum.inl.inj z]; exact List.mem_map.mpr ⟨x, h, rfl⟩))]
      exact ih nk.2 h

def sp_recall (A : Adr) : Sp := fun vs H Q _ => ∃ (e : En) (l f g : Int) (m : Nat) (ts : List (Tb m)) (bs : List Bn) (rows : List (Option Rw)) (nb : Nat) (n x : Int), vs = [.ref e.p, .int n, .int x] ∧ EnAt A H e l f g m ts bs rows nb ∧ ∀ H', Same H H' → Q (lookE rows n x) H'
theorem h_recall (T : Txt K mg A) : HaveM P w K mg base A.C_Entries "recall" 2 ["self", "task", "page"] [] (sp_recall A) := by
  have H_Book_look := h_look (P := P) (w := w) (base := base) T
  refine T.r_Entries_recall.have sc_Entries_recall (fun vs H Q E z => ?_) ?_
  · obtain ⟨e, l, f, g, m, ts, bs, rows, nb, n, x, rfl, _⟩ := z; rfl
  · intro f cdv A' outer s H vs Q E hr z
    obtain ⟨e, l, f', g, m, ts, bs, rows, nb, n, x, rfl, hE, q⟩ := z
    obtain ⟨dx, h1⟩ := hE.me
    obtain ⟨dxb, vs, kvs, h2, _⟩ := id hE.bk
    refine ⟨_, (pss_one (ps_ret (pe_methE (pe_fld (pvM 0) rfl) T.cl_Book H_Book_look (hr.mono (by decide)) xw_def (pa_cons (pvM 1) (pa_cons (pvM 2) pa_nil))))), ?_⟩
    walk_at "wp"
    simp only [h1]
    walk_at "wp"
    exact ⟨T.cl_Entries, T.na_Entries_book, _, enF_book, e.bk, rfl, dxb, _, h2, bkF_no (by decide +kernel), e.bk, e.ra, e.fa, rows, nb, e.hd, n, x, rfl, hE.bk, q⟩
def sp_tbook (A : Adr) : Sp := fun vs H Q _ => ∃ (e : En) (l f g : Int) (m : Nat) (ts : List (Tb m)) (bs : List Bn) (rows : List (Option Rw)) (nb : Nat), vs = [.ref e.p] ∧ EnAt A H e l f g m ts bs rows nb ∧ ∀ t us, H t = none → RsAt (upd H t (.lst us)) us rows → Q (.ref t) (upd H t (.lst us))
theorem h_tbook (T : Txt K mg A) : HaveM P w K mg base A.C_Entries "told_book" 2 ["self"] [] (sp_tbook A) := by
  have H_Book_told := h_told (P := P) (w := w) (base := base) T
  refine T.r_Entries_told_book.have sc_Entries_told_book (fun vs H Q E z => ?_) ?_
  · obtain ⟨e, l, f, g, m, ts, bs, rows, nb, rfl, _⟩ := z; rfl
  · intro f cdv A' outer s H vs Q E hr z
    obtain ⟨e, l, f', g, m, ts, bs, rows, nb, rfl, hE, q⟩ := z
    obtain ⟨dx, h1⟩ := hE.me
    obtain ⟨dxb, vs, kvs, h2, _⟩ := id hE.bk
    refine ⟨_, (pss_one (ps_ret (pe_methE0 (pe_fld (pvM 0) rfl) T.cl_Book H_Book_told (hr.mono (by decide)) xw_def))), ?_⟩
    walk_at "wp"
    simp only [h1]
    walk_at "wp"
    exact ⟨T.cl_Entries, T.na_Entries_book, _, enF_book, e.bk, rfl, dxb, _, h2, bkF_no (by decide +kernel), e.bk, e.ra, e.fa, rows, nb, e.hd, rfl, hE.bk, q⟩
def sp_elook (A : Adr) (K : PySem.W.Frag) : Sp := fun vs H Q _ => ∃ (e : En) (l f g : Int) (m : Nat) (ts : List (Tb m)) (bs : List Bn) (rows : List (Option Rw)) (nb : Nat) (h : Addr), vs = [.ref e.p, .ref h] ∧ EnAt A H e l f g m ts bs rows nb ∧
  ((∃ (x : Tb m) (y : Int), H h = some (.tup [.str "task", .int x.n, .int y]) ∧ x ∈ ts ∧ 0 ≤ y ∧ y < pw (l * f) ∧ ∀ H', Same H H' → Q (oV (lk (m + 1) x.t (stp l f y))) H') ∨
    ∃ (b : Bn) (y : Int) (v : V), H h = some (.tup [.str "bank", .int b.n, .int y]) ∧ b ∈ bs ∧ atI b.xs y = some v ∧ Q v H)
theorem h_elook (T : Txt K mg A) : HaveM P w K mg base A.C_Entries "look" 7 ["self", "holder"] [] (sp_elook A K) := by
  have H_Table_look := h_tlook (P := P) (w := w) (base := base) T
  refine T.r_Entries_look.have sc_Entries_look (fun vs H Q E z => ?_) ?_
  · obtain ⟨e, l, f, g, m, ts, bs, rows, nb, h, rfl, _⟩ := z; rfl
  · intro f cdv A' outer s H vs Q E hr z
    obtain ⟨e, l, f', g, m, ts, bs, rows, nb, h, rfl, hE, q⟩ := z
    obtain ⟨dx, h1⟩ := hE.me
    refine ⟨_, (pss_cons (ps_if (pt_cmpR op_eq (pe_ix ix_tup (pvM 1) pe_int (fun _ _ => rfl)) pe_str (nomark _)) (pss_one (ps_ret (pe_methE (pe_dget (hu_of hr) (pe_fld (pvM 0) rfl) (pe_ix ix_tup (pvM 1) pe_int (fun _ _ => rfl)) (fun _ _ => rfl)) T.cl_Table H_Table_look (hr.mono (by decide)) xw_def (pa_cons (pe_ix ix_tup (pvM 1) pe_int (fun _ _ => rfl)) pa_nil)))) pss_nil)
      (pss_one (ps_ret (pe_ix ix_list (pe_dget (hu_of hr) (pe_fld (pvM 0) rfl) (pe_ix ix_tup (pvM 1) pe_int (fun _ _ => rfl)) (fun _ _ => rfl)) (pe_ix ix_tup (pvM 1) pe_int (fun _ _ => rfl)) (fun _ _ => rfl))))), ?_⟩
    unfold tDGet
    walk_at "wp"
    simp only [h1]
    walk_at "wp"
    rcases q with ⟨x, y, hh, hx, hy0, hy1, q⟩ | ⟨b, y, v, hh, hb, hv, q⟩
    · have hT := hE.tab x hx
      obtain ⟨_, _, ⟨dxt, sp, h2, _⟩, _⟩ := id hT
      have hv := tb_val hE.nk hx
      refine ⟨_, SqT.of hh, .str "task", atI_nat (j := 0) rfl, rfl, ?_⟩
      rw [if_pos rfl]
      refine ⟨T.cl_Entries, T.na_Entries_tables, _, enF_tables, _, SqT.of hh, .int x.n, atI_nat (j := 1) rfl, e.td, rfl, _, .inl ⟨tbD ts, Sum.inl x.n, .inl hE.td, rfl, hv.symm⟩, x.p, rfl, dxt, _, h2, tbF_no (by decide +kernel), _, SqT.of hh, .int y, atI_nat (j := 2) rfl, x.p, y, l, f', g, m, x.t, rfl, hT, ?_⟩
      rw [if_pos ⟨hy0, hy1⟩]
      exact q
    · refine ⟨_, SqT.of hh, .str "bank", atI_nat (j := 0) rfl, rfl, ?_⟩
      rw [if_neg (by decide +kernel)]
      exact ⟨T.cl_Entries, T.na_Entries_banks, _, enF_banks, _, SqT.of hh, .int b.n, atI_nat (j := 1) rfl, e.bd, rfl, _, .inl ⟨bnD bs, Sum.inl b.n, .inl hE.bd, rfl, (bn_val hE.kb hb).symm⟩, _, SqT.of hh, .int y, atI_nat (j := 2) rfl, b.a, rfl, _, y, rfl, SqL.of (hE.bl b hb), v, hv, q⟩

def setTb {m : Nat} (n : Int) (t : TT (m + 1)) (ts : List (Tb m)) : List (Tb m) := ts.map fun x => if x.n = n then { x with t := t } else x
theorem setTb_D {m : Nat} {n : Int} {t : TT (m + 1)} {ts : List (Tb m)} : tbD (setTb n t ts) = tbD ts := by
  unfold tbD setTb
  rw [List.map_map]
  refine List.map_congr_left fun x _ => ?_
  show ((Sum.inl (if x.n = n then { x with t := t } else x).n : Key), V.ref (if x.n = n then { x with t := t } else x).p) = _
  split <;> rfl
theorem setTb_n {m : Nat} {n : Int} {t : TT (m + 1)} {ts : List (Tb m)} : (setTb n t ts).map Tb.n = ts.map Tb.n := by
  unfold setTb
  rw [List.map_map]
  refine List.map_congr_left fun x _ => ?_
  show (if x.n = n then { x with t := t } else x).n = x.n
  split <;> rfl
theorem setTb_mem {m : Nat} {n : Int} {t : TT (m + 1)} {ts : List (Tb m)} {y : Tb m} (h : y ∈ setTb n t ts) : ∃ x ∈ ts, (x.n = n ∧ y = { x with t := t }) ∨ (x.n ≠ n ∧ y = x) := by
  obtain ⟨x, hx, rfl⟩ := List.mem_map.mp h
  by_cases c : x.n = n
  · exact ⟨x, hx, .inl ⟨c, by rw [if_pos c]⟩⟩
  · exact ⟨x, hx, .inr ⟨c, by rw [if_neg c]⟩⟩
theorem tb_inj {m : Nat} {ts : List (Tb m)} (nk : (ts.map Tb.n).Nodup) {x y : Tb m} (hx : x ∈ ts) (hy : y ∈ ts) (e : x.n = y.n) : x = y := by
  induction ts with
  | nil => cases hx
  | cons u r ih =>
    rw [List.map_cons, List.nodup_cons] at nk
    rcases List.mem_cons.mp hx with rfl | h1 <;> rcases List.mem_cons.mp hy with rfl | h2
    · rfl
    · exact absurd (List.mem_map.mpr ⟨y, h2, e.symm⟩) nk.1
    · exact absurd (List.mem_map.mpr ⟨x, h1, e⟩) nk.1
    · exact ih nk.2 h1 h2
theorem adT_set {m : Nat} {n : Int} {t' : TT (m + 1)} {F : List Addr} : ∀ {ts : List (Tb m)}, (ts.map Tb.n).Nodup → (F ++ adT ts).Nodup → (ads (m + 1) t').Nodup → (∀ x ∈ ts, x.n = n → ∀ a ∈ ads (m + 1) t', a ∈ ads (m + 1) x.t ∨ (a ∉ F ∧ a ∉ adT ts)) → (F ++ adT (setTb n t' ts)).Nodup
  | [], _, h, _, _ => h
  | u :: r, nk, h, hn, hs => by
    rw [List.map_cons, List.nodup_cons] at nk
    have e1 : adT (u :: r) = ads (m + 1) u.t ++ adT r := by unfold adT; rw [List.flatMap_cons]
    have e2 : adT (setTb n t' (u :: r)) = ads (m + 1) (if u.n = n then { u with t := t' } else u).t ++ adT (setTb n t' r) := by unfold adT setTb; rw [List.map_cons, List.flatMap_cons]
    rw [e2]
    rw [e1] at h
    by_cases c : u.n = n
    · rw [if_pos c]
      have er : setTb n t' r = r := by
        unfold setTb
        refine (List.map_congr_left fun x hx => ?_).trans (List.map_id r)
        exact if_neg fun z => nk.1 (List.mem_map.mpr ⟨x, hx, by rw [z, c]⟩)
      rw [er]
      show (F ++ (ads (m + 1) t' ++ adT r)).Nodup
      have hu := hs u (List.mem_cons_self ..) c
      rw [List.nodup_append] at h
      obtain ⟨h1, h2, h3⟩ := h
      rw [List.nodup_append] at h2
      obtain ⟨h4, h5, h6⟩ := h2
      rw [List.nodup_append]
      refine ⟨h1, ?_, ?_⟩
      · rw [List.nodup_append]
        refine ⟨hn, h5, fun a ha b hb => ?_⟩
        rcases hu a ha with z | ⟨_, z⟩
        · exact h6 a z b hb
        · exact fun e => z (by rw [e1, e]; exact List.mem_append_right _ hb)
      · intro a ha b hb
        rcases List.mem_append.mp hb with hb | hb
        · rcases hu b hb with z | ⟨z, _⟩
          · exact h3 a ha b (List.mem_append_left _ z)
          · exact fun e => z (by rw [← e]; exact ha)
        · exact h3 a ha b (List.mem_append_right _ hb)
    · rw [if_neg c]
      have h' : ((F ++ ads (m + 1) u.t) ++ adT r).Nodup := by rw [List.append_assoc]; exact h
      have := adT_set (F := F ++ ads (m + 1) u.t) (t' := t') (n := n) nk.2 h' hn (fun x hx e a ha => by
        rcases hs x (List.mem_cons_of_mem _ hx) e a ha with z | ⟨z1, z2⟩
        · exact .inl z
        · rw [e1] at z2
          exact .inr ⟨fun q => (List.mem_append.mp q).elim z1 fun q => z2 (List.mem_append_left _ q), fun q => z2 (List.mem_append_right _ q)⟩)
      rw [List.append_assoc] at this
      exact this
theorem own_cut {m : Nat} {e : En} {ts : List (Tb m)} {bs : List Bn} : own e ts bs = (e.td :: e.bd :: e.ra :: e.fa :: bs.map Bn.a) ++ adT ts := rfl
theorem EnAt.tput {A : Adr} {H H' : Hp} {e : En} {l f g : Int} {m : Nat} {ts : List (Tb m)} {bs : List Bn} {rows : List (Option Rw)} {nb : Nat} {x : Tb m} {t' : TT (m + 1)} (h : EnAt A H e l f g m ts bs rows nb) (hx : x ∈ ts) (hT : TabAt A.C_Table A.C_Shape H' x.p l f g m t') (fr : Frm (ads (m + 1) x.t) H H') (ad : ∀ a ∈ ads (m + 1) t', a ∈ ads (m + 1) x.t ∨ H a = none) :
    EnAt A H' e l f g m (setTb x.n t' ts) bs rows nb ∧ Ch (own e ts bs) H H' ∧ ∀ a ∈ own e (setTb x.n t' ts) bs, a ∈ own e ts bs ∨ H a = none := by
  have hrep := (h.tab x hx).2.2.2.1
  have dk : ∀ a ∈ ads (m + 1) x.t, ∀ o, H a = some o → Mut o := fun a ha o ho => by
    obtain ⟨kvs, hk⟩ := rep_dK2 hrep a ha
    rw [hk] at ho
    cases ho
    exact ⟨(fun _ _ _ z => nomatch z), (fun _ z => nomatch z)⟩
  have ch : Ch (ads (m + 1) x.t) H H' := fun c o ho n => fr c o ho fun z => n z (dk c z o ho)
  have nd := h.nd
  rw [own_cut] at nd
  have nd2 := List.nodup_append.mp nd
  have nx : ∀ a, a ∈ (e.td :: e.bd :: e.ra :: e.fa :: bs.map Bn.a) → a ∉ ads (m + 1) x.t := fun a ha z => nd2.2.2 a ha a (by unfold adT; exact List.mem_flatMap.mpr ⟨x, hx, z⟩) rfl
  have ny : ∀ y ∈ ts, y.n ≠ x.n → ∀ a ∈ ads (m + 1) y.t, a ∉ ads (m + 1) x.t := fun y hy hne a ha z => adT_apart nd2.2.1 hy hx (fun q => hne (by rw [q])) a ha z
  have fresh : ∀ a ∈ ads (m + 1) t', a ∈ ads (m + 1) x.t ∨ (a ∉ (e.td :: e.bd :: e.ra :: e.fa :: bs.map Bn.a) ∧ a ∉ adT ts) := fun a ha => (ad a ha).imp id fun z => ⟨fun q => h.ex a (by rw [own_cut]; exact List.mem_append_left _ q) z, fun q => h.ex a (by rw [own_cut]; exact List.mem_append_right _ q) z⟩
  refine ⟨⟨let ⟨dx, q⟩ := h.me; ⟨dx, ch _ _ q fun _ => mut_ins⟩, let ⟨dx, q⟩ := h.sh; ⟨dx, ch _ _ q fun _ => mut_ins⟩, h.lm, h.gd, by rw [setTb_D]; exact ch _ _ h.td fun z => absurd z (nx _ (by simp)), ch _ _ h.bd fun z => absurd z (nx _ (by simp)), fun b hb => ch _ _ (h.bl b hb) fun z => absurd z (nx _ (by simp only [List.mem_cons, List.mem_map]; exact .inr (.inr (.inr (.inr ⟨b, hb, rfl⟩))))), bk_ch h.bk ch (nx _ (by simp)) (nx _ (by simp)), h.uq, fun y hy => ?_, by rw [setTb_n]; exact h.nk, h.kb, ?_⟩, ch.mono fun a ha => ad_own hx ha, fun a ha => ?_⟩
  · obtain ⟨z, hz, ⟨c, rfl⟩ | ⟨c, rfl⟩⟩ := setTb_mem hy
    · obtain rfl := tb_inj h.nk hz hx c
      exact hT
    · exact tab_ch (h.tab y hz) ch (ny y hz c)
  · rw [own_cut]
    exact adT_set h.nk nd hT.2.2.2.2.1 fun y hy c a ha => by obtain rfl := tb_inj h.nk hy hx c; exact fresh a ha
  · rw [own_cut] at ha
    rcases List.mem_append.mp ha with q | q
    · exact .inl (by rw [own_cut]; exact List.mem_append_left _ q)
    · unfold adT at q
      obtain ⟨y, hy, hq⟩ := List.mem_flatMap.mp q
      obtain ⟨z, hz, ⟨c, rfl⟩ | ⟨c, rfl⟩⟩ := setTb_mem hy
      · exact (ad a hq).imp (fun w => ad_own hx w) id
      · exact .inl (ad_own hz hq)
theorem EnAt.bput {A : Adr} {H H' : Hp} {e : En} {l f g : Int} {m : Nat} {ts : List (Tb m)} {bs : List Bn} {rows rows' : List (Option Rw)} {nb nb' : Nat} (h : EnAt A H e l f g m ts bs rows nb) (hB : BkAt A.C_Book H' e.bk e.ra e.fa rows' nb' e.hd) (hu : Uq rows') (k : Kp [e.ra, e.fa] H H') :
    EnAt A H' e l f g m ts bs rows' nb' ∧ Ch (own e ts bs) H H' := by
  obtain ⟨dx, vs, kvs, e1, e2, e3, e4, _⟩ := h.bk
  have ch : Ch [e.ra, e.fa] H H' := fun c o ho n => k c o ho fun z => n z (by
    rcases List.mem_cons.mp z with rfl | z
    · rw [e2] at ho; cases ho; exact ⟨(fun _ _ _ z => nomatch z), (fun _ z => nomatch z)⟩
    · rw [List.mem_singleton.mp z, e4] at ho; cases ho; exact ⟨(fun _ _ _ z => nomatch z), (fun _ z => nomatch z)⟩)
  have nd := h.nd
  unfold own at nd
  simp only [List.nodup_cons, List.mem_cons, not_or] at nd
  obtain ⟨⟨n1, n2, n3, n4⟩, ⟨n5, n6, n7⟩, ⟨n8, n9⟩, n10, n11⟩ := nd
  have no : ∀ a, a ≠ e.ra → a ≠ e.fa → a ∉ [e.ra, e.fa] := fun a h1 h2 z => by
    rcases List.mem_cons.mp z with z | z
    · exact h1 z
    · exact h2 (List.mem_singleton.mp z)
  have nb : ∀ b ∈ bs, b.a ∉ [e.ra, e.fa] := fun b hb => no _ (fun z => n9 (by rw [← z]; exact List.mem_append_left _ (List.mem_map.mpr ⟨b, hb, rfl⟩))) (fun z => n10 (by rw [← z]; exact List.mem_append_left _ (List.mem_map.mpr ⟨b, hb, rfl⟩)))
  have nt : ∀ x ∈ ts, ∀ a ∈ ads (m + 1) x.t, a ∉ [e.ra, e.fa] := fun x hx a ha => no _ (fun z => n9 (by rw [← z]; exact List.mem_append_right _ (List.mem_flatMap.mpr ⟨x, hx, ha⟩))) (fun z => n10 (by rw [← z]; exact List.mem_append_right _ (List.mem_flatMap.mpr ⟨x, hx, ha⟩)))
  exact ⟨⟨let ⟨dx, q⟩ := h.me; ⟨dx, ch _ _ q fun _ => mut_ins⟩, let ⟨dx, q⟩ := h.sh; ⟨dx, ch _ _ q fun _ => mut_ins⟩, h.lm, h.gd, ch _ _ h.td fun z => absurd z (no _ n2 n3), ch _ _ h.bd fun z => absurd z (no _ n5 n6), fun b hb => ch _ _ (h.bl b hb) fun z => absurd z (nb b hb), hB, hu, fun x hx => tab_ch (h.tab x hx) ch (nt x hx), h.nk, h.kb, h.nd⟩,
    ch.mono fun a ha => by
      rcases List.mem_cons.mp ha with rfl | z
      · exact ra_own
      · rw [List.mem_singleton.mp z]; exact fa_own⟩
theorem uq_at {rows : List (Option Rw)} {j : Nat} {o : Option Rw} (hu : Uq rows) (h : ∀ r, o = some r → ∀ (i : Nat) (s : Rw), i ≠ j → rows[i]? = some (some s) → ¬ (s.t = r.t ∧ s.g = r.g)) : Uq (rows.set j o) := fun i k r s hi hk e1 e2 => by
  rw [List.getElem?_set] at hi hk
  by_cases a : j = i
  · by_cases b : j = k
    · exact a.symm.trans b
    · rw [if_neg b] at hk
      rw [if_pos a] at hi
      split at hi
      · exact absurd ⟨e1.symm, e2.symm⟩ (h r (Option.some.inj hi) k s (fun z => b z.symm) hk)
      · cases hi
  · rw [if_neg a] at hi
    by_cases b : j = k
    · rw [if_pos b] at hk
      split at hk
      · exact absurd ⟨e1, e2⟩ (h s (Option.some.inj hk) i r (fun z => a z.symm) hi)
      · cases hk
    · rw [if_neg b] at hk
      exact hu i k r s hi hk e1 e2
theorem uq_old {rows : List (Option Rw)} {j : Nat} {r r' : Rw} (hu : Uq rows) (hj : rows[j]? = some (some r)) (h1 : r'.t = r.t) (h2 : r'.g = r.g) : Uq (rows.set j (some r')) := uq_at hu fun x hx i s hi hs z => by
  cases hx
  exact hi (hu i j s r hs hj (z.1.trans h1) (z.2.trans h2))
theorem bfnd_key {rows : List (Option Rw)} {j : Nat} {s : Rw} {t g : Int} (h : bfnd rows t g = none) (hs : rows[j]? = some (some s)) : ¬ (s.t = t ∧ s.g = g) := fun z => by
  have := List.findIdx?_eq_none_iff.mp h (some s) (List.mem_of_getElem? hs)
  have this : (decide (s.t = t) && decide (s.g = g)) = false := this
  rw [decide_eq_true z.1, decide_eq_true z.2] at this
  cases this
theorem uq_fresh {rows : List (Option Rw)} {j : Nat} {r' : Rw} (hu : Uq rows) (h : bfnd rows r'.t r'.g = none) : Uq (rows.set j (some r')) := uq_at hu fun x hx i s hi hs z => by
  cases hx
  exact bfnd_key h hs z

def KeepTo (rows : List (Option Rw)) (hd t g e : Int) (rows' : List (Option Rw)) (hd' : Int) : Prop :=
  (rows = [] ∧ rows' = [] ∧ hd' = hd) ∨
  (∃ (j : Nat) (r : Rw), bfnd rows t g = some j ∧ rows[j]? = some (some r) ∧ rows' = rows.set j (some ⟨t, g, e, r.u⟩) ∧ hd' = hd) ∨
  (bfnd rows t g = none ∧ ∃ j : Nat, rows.findIdx? Option.isNone = some j ∧ rows' = rows.set j (some ⟨t, g, e, false⟩) ∧ hd' = hd) ∨
  (bfnd rows t g = none ∧ ∃ (L : List Rw) (j : Nat), rows = L.map some ∧ 0 < L.length ∧ j ≤ L.length ∧ (∀ i < j, (L.map (·.u)).getD ((hd + i) % (L.length : Int)).toNat false = true) ∧ (j = L.length ∨ (L.map (·.u)).getD ((hd + j) % (L.length : Int)).toNat false = false) ∧
    rows' = ((clr L (rg L.length hd j)).set ((hd + j) % (L.length : Int)).toNat ⟨t, g, e, false⟩).map some ∧ hd' = ((hd + j) % (L.length : Int) + 1) % (L.length : Int))
theorem none_map {L : List Rw} : (L.map some).findIdx? Option.isNone = none := by
  rw [List.findIdx?_eq_none_iff]
  intro o ho
  obtain ⟨r, _, rfl⟩ := List.mem_map.mp ho
  rfl
theorem all_some : ∀ {rows : List (Option Rw)}, rows.findIdx? Option.isNone = none → ∃ L : List Rw, rows = L.map some
  | [], _ => ⟨[], rfl⟩
  | o :: r, h => by
    rw [List.findIdx?_eq_none_iff] at h
    obtain ⟨L, hL⟩ := all_some (rows := r) (List.findIdx?_eq_none_iff.mpr fun x hx => h x (List.mem_cons_of_mem _ hx))
    cases o with
    | none => exact absurd (h none (List.mem_cons_self ..)) (fun z => nomatch z)
    | some v => exact ⟨v :: L, by rw [hL]; rfl⟩
theorem map_inj {L M : List Rw} (h : L.map some = M.map some) : L = M := by
  have := congrArg (List.map (fun o : Option Rw => o.getD ⟨0, 0, 0, false⟩)) h
  rw [List.map_map, List.map_map] at this
  simpa [Function.comp_def] using this
theorem KeepTo.same {rows r1 r2 : List (Option Rw)} {hd t g e h1 h2 : Int} (a : KeepTo rows hd t g e r1 h1) (b : KeepTo rows hd t g e r2 h2) : r1 = r2 ∧ h1 = h2 := by
  have no0 : rows = [] → ∀ (j : Nat) (r : Rw), rows[j]? ≠ some (some r) := fun z j r h => by rw [z] at h; cases h
  rcases a with ⟨a0, a1, a2⟩ | ⟨j, r, a0, a1, a2, a3⟩ | ⟨a0, j, a1, a2, a3⟩ | ⟨a0, L, j, a1, a2, a3, a4, a5, a6, a7⟩
  · rcases b with ⟨b0, b1, b2⟩ | ⟨j, r, b0, b1, b2, b3⟩ | ⟨b0, j, b1, b2, b3⟩ | ⟨b0, L, j, b1, b2, _⟩
    · exact ⟨a1.trans b1.symm, a2.trans b2.symm⟩
    · exact absurd b1 (no0 a0 j r)
    · rw [a0] at b1; cases b1
    · rw [a0] at b1
      cases L with
      | nil => cases b2
      | cons x y => cases b1
  · rcases b with ⟨b0, b1, b2⟩ | ⟨k, s, b0, b1, b2, b3⟩ | ⟨b0, _⟩ | ⟨b0, _⟩
    · exact absurd a1 (no0 b0 j r)
    · rw [a0] at b0
      cases b0
      rw [a1] at b1
      cases b1
      exact ⟨a2.trans b2.symm, a3.trans b3.symm⟩
    · rw [a0] at b0; cases b0
    · rw [a0] at b0; cases b0
  · rcases b with ⟨b0, b1, b2⟩ | ⟨k, s, b0, b1, b2, b3⟩ | ⟨b0, k, b1, b2, b3⟩ | ⟨b0, L, k, b1, _⟩
    · rw [b0] at a1; cases a1
    · rw [a0] at b0; cases b0
    · rw [a1] at b1
      cases b1
      exact ⟨a2.trans b2.symm, a3.trans b3.symm⟩
    · rw [b1, none_map] at a1; cases a1
  · rcases b with ⟨b0, b1, b2⟩ | ⟨k, s, b0, b1, b2, b3⟩ | ⟨b0, k, b1, b2, b3⟩ | ⟨b0, M, k, b1, b2, b3, b4, b5, b6, b7⟩
    · rw [b0] at a1
      cases L with
      | nil => cases a2
      | cons x y => cases a1
    · rw [a0] at b0; cases b0
    · rw [a1, none_map] at b1; cases b1
    · obtain rfl := map_inj (a1.symm.trans b1)
      have : j = k := by
        rcases (by omega : j < k ∨ j = k ∨ k < j) with h | h | h
        · have := b4 j h
          rcases a5 with z | z
          · omega
          · rw [z] at this; cases this
        · exact h
        · have := a4 k h
          rcases b5 with z | z
          · omega
          · rw [z] at this; cases this
      subst this
      exact ⟨a6.trans b6.symm, a7.trans b7.symm⟩
theorem clr_row {is : List Int} : ∀ {L : List Rw} {i : Nat} {s : Rw}, (clr L is)[i]? = some s → ∃ r, L[i]? = some r ∧ s.t = r.t ∧ s.g = r.g ∧ s.e = r.e := by
  induction is with
  | nil => exact fun h => ⟨_, h, rfl, rfl, rfl⟩
  | cons k is ih =>
    intro L i s h
    obtain ⟨r, hr, e1, e2, e3⟩ := ih (L := L.modify k.toNat off) h
    rw [List.getElem?_modify] at hr
    cases e9 : L[i]? with
    | none => rw [e9] at hr; cases hr
    | some v =>
      rw [e9] at hr
      have hr : some (if k.toNat = i then off v else v) = some r := hr
      have hr := Option.some.inj hr
      refine ⟨v, rfl, ?_⟩
      rw [e1, e2, e3, ← hr]
      split <;> exact ⟨rfl, rfl, rfl⟩
theorem KeepTo.facts {rows rows' : List (Option Rw)} {hd t g e hd' : Int} (a : KeepTo rows hd t g e rows' hd') (hu : Uq rows) (hh : rows ≠ [] → 0 ≤ hd ∧ hd < rows.length) : Uq rows' ∧ rows'.length = rows.length ∧ (rows' ≠ [] → 0 ≤ hd' ∧ hd' < rows'.length) ∧
    ∀ (j : Nat) (r : Rw), rows'[j]? = some (some r) → (r.t = t ∧ r.g = g ∧ r.e = e) ∨ ∃ (i : Nat) (s : Rw), rows[i]? = some (some s) ∧ s.t = r.t ∧ s.g = r.g ∧ s.e = r.e := by
  have ofset : ∀ {k j : Nat} {q r : Rw}, (rows.set k (some q))[j]? = some (some r) → r = q ∨ rows[j]? = some (some r) := fun {k j q r} h => by
    rw [List.getElem?_set] at h
    split at h
    · split at h
      · cases h; exact .inl rfl
      · cases h
    · exact .inr h
  have ne : rows ≠ [] → 0 < rows.length := fun h => List.length_pos_iff.mpr h
  rcases a with ⟨rfl, rfl, rfl⟩ | ⟨j, r, a0, a1, rfl, rfl⟩ | ⟨a0, j, a1, rfl, rfl⟩ | ⟨a0, L, j, rfl, a2, a3, a4, a5, rfl, rfl⟩
  · exact ⟨hu, rfl, fun z => absurd rfl z, fun j r h => by cases h⟩
  · obtain ⟨s, hs, e1, e2⟩ := bfnd_some a0
    rw [a1] at hs
    cases hs
    refine ⟨uq_old (r' := ⟨t, g, e, r.u⟩) hu a1 e1.symm e2.symm, List.length_set, fun z => ?_, fun i s h => ?_⟩
    · rw [List.length_set]
      exact hh fun q => z (by rw [q]; rfl)
    · rcases ofset h with rfl | h
      · exact .inl ⟨rfl, rfl, rfl⟩
      · exact .inr ⟨i, s, h, rfl, rfl, rfl⟩
  · refine ⟨uq_fresh (r' := ⟨t, g, e, false⟩) hu a0, List.length_set, fun z => ?_, fun i s h => ?_⟩
    · rw [List.length_set]
      exact hh fun q => z (by rw [q]; rfl)
    · rcases ofset h with rfl | h
      · exact .inl ⟨rfl, rfl, rfl⟩
      · exact .inr ⟨i, s, h, rfl, rfl, rfl⟩
  · have hl : (clr L (rg L.length hd j)).length = L.length := clr_len
    have hm : 0 ≤ (hd + j) % (L.length : Int) ∧ (hd + j) % (L.length : Int) < L.length := ⟨Int.emod_nonneg _ (by omega), Int.emod_lt_of_pos _ (by omega)⟩
    have hz : ((clr L (rg L.length hd j)).set ((hd + j) % (L.length : Int)).toNat ⟨t, g, e, false⟩).map some = (((clr L (rg L.length hd j)).map some).set ((hd + j) % (L.length : Int)).toNat none).set ((hd + j) % (L.length : Int)).toNat (some ⟨t, g, e, false⟩) := by
      rw [List.set_set, List.map_set]
    refine ⟨?_, by rw [List.length_map, List.length_set, hl, List.length_map], fun _ => ?_, fun i s h => ?_⟩
    · rw [hz]
      exact uq_fresh (r' := ⟨t, g, e, false⟩) (uq_at (uq_clr hu) fun r h => nomatch h) (bfnd_clr a0)
    · rw [List.length_map, List.length_set, hl]
      exact ⟨Int.emod_nonneg _ (by omega), Int.emod_lt_of_pos _ (by omega)⟩
    · rw [List.getElem?_map, List.getElem?_set] at h
      split at h
      · split at h
        · have h : some (some (⟨t, g, e, false⟩ : Rw)) = some (some s) := h
          cases h; exact .inl ⟨rfl, rfl, rfl⟩
        · cases h
      · cases e9 : (clr L (rg L.length hd j))[i]? with
        | none => rw [e9] at h; cases h
        | some v =>
          rw [e9] at h
          have h : some (some v) = some (some s) := h
          cases h
          obtain ⟨r, hr, e1, e2, e3⟩ := clr_row e9
          exact .inr ⟨i, r, by rw [List.getElem?_map, hr]; rfl, e1.symm, e2.symm, e3.symm⟩
theorem BkAt.wide {C : Addr} {H : Hp} {p ra fa : Addr} {rows : List (Option Rw)} {n : Nat} {hd : Int} (h : BkAt C H p ra fa rows n hd) : BkAt C H p ra fa rows (n + 1) hd := by
  obtain ⟨dx, vs, kvs, e1, e2, e3, e4, e5, e6⟩ := h
  exact ⟨dx, vs, kvs, e1, e2, e3, e4, e5, by omega⟩
def sp_keepG (C : Addr) : Sp := fun vs H Q _ => ∃ (p ra fa : Addr) (rows : List (Option Rw)) (n : Nat) (hd t g e : Int), vs = [.ref p, .int t, .int g, .int e] ∧ BkAt C H p ra fa rows n hd ∧ Uq rows ∧ rows.length ≤ 1000 ∧ (rows ≠ [] → 0 ≤ hd ∧ hd < rows.length) ∧ n < 1000000 ∧
  ∀ rows' hd' H', KeepTo rows hd t g e rows' hd' → BkAt C H' p ra fa rows' (n + 1) hd' → Kp [p, ra, fa] H H' → Q .non H'
theorem h_keepG (T : Txt K mg A) : HaveM P w K mg base A.C_Book "keep" 3 ["self", "task", "page", "entry"] [] (sp_keepG A.C_Book) := by
  refine T.r_Book_keep.have sc_Book_keep (fun vs H Q E z => by obtain ⟨p, ra, fa, rows, n, hd, t, g, e, rfl, _⟩ := z; rfl) (fun f cdv A' outer s H vs Q E hr z => ?_)
  obtain ⟨p, ra, fa, rows, n, hd, t, g, e, rfl, hB, hu, hlen, hh, hn, q⟩ := z
  have more : ∀ {H' : Hp}, Kp [ra, fa] H H' → Kp [p, ra, fa] H H' := fun k c o h z => k c o h fun w => z (List.mem_cons_of_mem _ w)
  by_cases c0 : rows = []
  · subst c0
    exact b_keep0 T f cdv A' outer s H _ Q E hr ⟨p, ra, fa, n, hd, t, g, e, rfl, hB, q [] hd H (.inl ⟨rfl, rfl, rfl⟩) hB.wide (fun c o h _ => h)⟩
  have hpos : 0 < rows.length := List.length_pos_iff.mpr c0
  cases ef : bfnd rows t g with
  | some j =>
    obtain ⟨r, hr', e1, e2⟩ := bfnd_some ef
    refine b_keep T f cdv A' outer s H _ Q E hr ⟨p, ra, fa, rows, n, 0, hd, t, g, e, rfl, hB, hn, hpos, (fun z => by rw [ef] at z; cases z), fun H' hB' k => q (rows.set j (some ⟨t, g, e, r.u⟩)) hd H' (.inr (.inl ⟨j, r, ef, hr', rfl, rfl⟩)) ?_ (more k)⟩
    rw [show keepR rows t g e 0 = rows.set j (some ⟨t, g, e, r.u⟩) by unfold keepR; rw [ef]; simp only [hr']] at hB'
    exact hB'
  | none =>
    cases ei : rows.findIdx? Option.isNone with
    | some j =>
      refine b_keep T f cdv A' outer s H _ Q E hr ⟨p, ra, fa, rows, n, j, hd, t, g, e, rfl, hB, hn, hpos, fun _ => ei, fun H' hB' k => q (rows.set j (some ⟨t, g, e, false⟩)) hd H' (.inr (.inr (.inl ⟨ef, j, ei, rfl, rfl⟩))) ?_ (more k)⟩
      rw [show keepR rows t g e j = rows.set j (some ⟨t, g, e, false⟩) by unfold keepR; rw [ef]] at hB'
      exact hB'
    | none =>
      obtain ⟨L, rfl⟩ := all_some ei
      rw [List.length_map] at hlen hpos
      have hh2 := hh c0
      rw [List.length_map] at hh2
      exact b_keepF T f cdv A' outer s H _ Q E hr ⟨p, ra, fa, L, n, hd, t, g, e, rfl, hB, hu, hlen, hh2.1, hh2.2, hn, (fun j r h => by rw [ef] at h; cases h), fun _ j H' hj h1 h2 hB' k => q _ _ H' (.inr (.inr (.inr ⟨ef, L, j, rfl, hpos, hj, h1, h2, rfl, rfl⟩))) hB' k⟩

theorem ixN_nat {n j : Nat} (h : j < n) : ixN n (j : Int) = some j := by
  unfold ixN
  simp
  omega
theorem mut_dk {kvs : Kvs} : Mut (.dK kvs) := ⟨(fun _ _ _ z => nomatch z), (fun _ z => nomatch z)⟩
theorem mut_lst {ys : List V} : Mut (.lst ys) := ⟨(fun _ _ _ z => nomatch z), (fun _ z => nomatch z)⟩
theorem ch_upd {H : Hp} {d : Addr} {o o' : HO} (h : H d = some o) (m : Mut o) : Ch [d] H (upd H d o') := fun c u hu n => by
  by_cases e : c = d
  · subst e
    rw [h] at hu
    cases hu
    exact absurd m (n (List.mem_singleton.mpr rfl))
  · rw [upd_ne e]; exact hu
theorem EnAt.retd {A : Adr} {H : Hp} {e : En} {l f g : Int} {m : Nat} {ts ts' : List (Tb m)} {bs : List Bn} {rows : List (Option Rw)} {nb : Nat} (h : EnAt A H e l f g m ts bs rows nb) (hT : ∀ x ∈ ts', TabAt A.C_Table A.C_Shape H x.p l f g m x.t) (nk : (ts'.map Tb.n).Nodup) (nd : (own e ts' bs).Nodup) : EnAt A (upd H e.td (.dK (tbD ts'))) e l f g m ts' bs rows nb ∧ Ch [e.td] H (upd H e.td (.dK (tbD ts'))) := by
  have ch : Ch [e.td] H (upd H e.td (.dK (tbD ts'))) := ch_upd h.td mut_dk
  have nd0 := nd
  unfold own at nd
  simp only [List.nodup_cons, List.mem_cons, not_or] at nd
  obtain ⟨⟨n1, n2, n3, n4⟩, ⟨n5, n6, n7⟩, ⟨n8, n9⟩, n10, n11⟩ := nd
  have no : ∀ a, a ≠ e.td → a ∉ [e.td] := fun a h1 z => h1 (List.mem_singleton.mp z)
  exact ⟨⟨let ⟨dx, q⟩ := h.me; ⟨dx, ch _ _ q fun _ => mut_ins⟩, let ⟨dx, q⟩ := h.sh; ⟨dx, ch _ _ q fun _ => mut_ins⟩, h.lm, h.gd, upd_same, ch _ _ h.bd fun z => absurd z (no _ fun z => n1 z.symm), fun b hb => ch _ _ (h.bl b hb) fun z => absurd z (no _ fun z => n4 (by rw [← z]; exact List.mem_append_left _ (List.mem_map.mpr ⟨b, hb, rfl⟩))), bk_ch h.bk ch (no _ fun z => n2 z.symm) (no _ fun z => n3 z.symm), h.uq, fun x hx => tab_ch (hT x hx) ch fun a ha => no _ fun z => n4 (by rw [← z]; exact List.mem_append_right _ (List.mem_flatMap.mpr ⟨x, hx, ha⟩)), nk, h.kb, nd0⟩, ch⟩
theorem EnAt.rebd {A : Adr} {H : Hp} {e : En} {l f g : Int} {m : Nat} {ts : List (Tb m)} {bs bs' : List Bn} {rows : List (Option Rw)} {nb : Nat} (h : EnAt A H e l f g m ts bs rows nb) (hl : ∀ b ∈ bs', H b.a = some (.lst b.xs)) (kb : (bs'.map Bn.n).Nodup) (nd : (own e ts bs').Nodup) : EnAt A (upd H e.bd (.dK (bnD bs'))) e l f g m ts bs' rows nb ∧ Ch [e.bd] H (upd H e.bd (.dK (bnD bs'))) := by
  have ch : Ch [e.bd] H (upd H e.bd (.dK (bnD bs'))) := ch_upd h.bd mut_dk
  have nd0 := nd
  unfold own at nd
  simp only [List.nodup_cons, List.mem_cons, not_or] at nd
  obtain ⟨⟨n1, n2, n3, n4⟩, ⟨n5, n6, n7⟩, ⟨n8, n9⟩, n10, n11⟩ := nd
  have no : ∀ a, a ≠ e.bd → a ∉ [e.bd] := fun a h1 z => h1 (List.mem_singleton.mp z)
  exact ⟨⟨let ⟨dx, q⟩ := h.me; ⟨dx, ch _ _ q fun _ => mut_ins⟩, let ⟨dx, q⟩ := h.sh; ⟨dx, ch _ _ q fun _ => mut_ins⟩, h.lm, h.gd, ch _ _ h.td fun z => absurd z (no _ n1), upd_same, fun b hb => ch _ _ (hl b hb) fun z => absurd z (no _ fun z => n7 (by rw [← z]; exact List.mem_append_left _ (List.mem_map.mpr ⟨b, hb, rfl⟩))), bk_ch h.bk ch (no _ fun z => n5 z.symm) (no _ fun z => n6 z.symm), h.uq, fun x hx => tab_ch (h.tab x hx) ch fun a ha => no _ fun z => n7 (by rw [← z]; exact List.mem_append_right _ (List.mem_flatMap.mpr ⟨x, hx, ha⟩)), h.nk, kb, nd0⟩, ch⟩

def setBn (n : Int) (xs : List V) (bs : List Bn) : List Bn := bs.map fun x => if x.n = n then { x with xs := xs } else x
theorem setBn_D {n : Int} {xs : List V} {bs : List Bn} : bnD (setBn n xs bs) = bnD bs := by
  unfold bnD setBn
  rw [List.map_map]
  refine List.map_congr_left fun x _ => ?_
  show ((Sum.inl (if x.n = n then { x with xs := xs } else x).n : Key), V.ref (if x.n = n then { x with xs := xs } else x).a) = _
  split <;> rfl
theorem setBn_n {n : Int} {xs : List V} {bs : List Bn} : (setBn n xs bs).map Bn.n = bs.map Bn.n := by
  unfold setBn
  rw [List.map_map]
  refine List.map_congr_left fun x _ => ?_
  show (if x.n = n then { x with xs := xs } else x).n = x.n
  split <;> rfl
theorem setBn_a {n : Int} {xs : List V} {bs : List Bn} : (setBn n xs bs).map Bn.a = bs.map Bn.a := by
  unfold setBn
  rw [List.map_map]
  refine List.map_congr_left fun x _ => ?_
  show (if x.n = n then { x with xs := xs } else x).a = x.a
  split <;> rfl
theorem setBn_own {m : Nat} {e : En} {ts : List (Tb m)} {n : Int} {xs : List V} {bs : List Bn} : own e ts (setBn n xs bs) = own e ts bs := by
  unfold own
  rw [setBn_a]
theorem setBn_mem {n : Int} {xs : List V} {bs : List Bn} {y : Bn} (h : y ∈ setBn n xs bs) : ∃ x ∈ bs, (x.n = n ∧ y = { x with xs := xs }) ∨ (x.n ≠ n ∧ y = x) := by
  obtain ⟨x, hx, rfl⟩ := List.mem_map.mp h
  by_cases c : x.n = n
  · exact ⟨x, hx, .inl ⟨c, by rw [if_pos c]⟩⟩
  · exact ⟨x, hx, .inr ⟨c, by rw [if_neg c]⟩⟩
theorem bn_inj {bs : List Bn} (nk : (bs.map Bn.n).Nodup) {x y : Bn} (hx : x ∈ bs) (hy : y ∈ bs) (e : x.n = y.n) : x = y := by
  induction bs with
  | nil => cases hx
  | cons u r ih =>
    rw [List.map_cons, List.nodup_cons] at nk
    rcases List.mem_cons.mp hx with rfl | h1 <;> rcases List.mem_cons.mp hy with rfl | h2
    · rfl
    · exact absurd (List.mem_map.mpr ⟨y, h2, e.symm⟩) nk.1
    · exact absurd (List.mem_map.mpr ⟨x, h1, e⟩) nk.1
    · exact ih nk.2 h1 h2
theorem bn_addr {bs : List Bn} (nk : (bs.map Bn.a).Nodup) {x y : Bn} (hx : x ∈ bs) (hy : y ∈ bs) (e : x.a = y.a) : x = y := by
  induction bs with
  | nil => cases hx
  | cons u r ih =>
    rw [List.map_cons, List.nodup_cons] at nk
    rcases List.mem_cons.mp hx with rfl | h1 <;> rcases List.mem_cons.mp hy with rfl | h2
    · rfl
    · exact absurd (List.mem_map.mpr ⟨y, h2, e.symm⟩) nk.1
    · exact absurd (List.mem_map.mpr ⟨x, h1, e⟩) nk.1
    · exact ih nk.2 h1 h2
theorem EnAt.blputs {A : Adr} {H : Hp} {e : En} {l f g : Int} {m : Nat} {ts : List (Tb m)} {bs : List Bn} {b : Bn} {rows : List (Option Rw)} {nb : Nat} {xs' : List V} (h : EnAt A H e l f g m ts bs rows nb) (hb : b ∈ bs) : EnAt A (upd H b.a (.lst xs')) e l f g m ts (setBn b.n xs' bs) rows nb ∧ Ch (own e ts bs) H (upd H b.a (.lst xs')) := by
  have ch : Ch [b.a] H (upd H b.a (.lst xs')) := ch_upd (h.bl b hb) mut_lst
  have nd := h.nd
  have hba : b.a ∈ bs.map Bn.a ++ adT ts := List.mem_append_left _ (List.mem_map.mpr ⟨b, hb, rfl⟩)
  unfold own at nd
  simp only [List.nodup_cons, List.mem_cons, not_or] at nd
  obtain ⟨⟨n1, n2, n3, n4⟩, ⟨n5, n6, n7⟩, ⟨n8, n9⟩, n10, n11⟩ := nd
  obtain ⟨m1, m2, m3⟩ := List.nodup_append.mp n11
  have no : ∀ a, a ≠ b.a → a ∉ [b.a] := fun a h1 z => h1 (List.mem_singleton.mp z)
  have nn : ∀ {a : Addr}, a ∉ bs.map Bn.a ++ adT ts → a ≠ b.a := fun h z => h (by rw [z]; exact hba)
  refine ⟨⟨let ⟨dx, q⟩ := h.me; ⟨dx, ch _ _ q fun _ => mut_ins⟩, let ⟨dx, q⟩ := h.sh; ⟨dx, ch _ _ q fun _ => mut_ins⟩, h.lm, h.gd, ch _ _ h.td fun z => absurd z (no _ (nn n4)), by rw [setBn_D]; exact ch _ _ h.bd fun z => absurd z (no _ (nn n7)), fun c hc => ?_, bk_ch h.bk ch (no _ (nn n9)) (no _ (nn n10)), h.uq, fun x hx => tab_ch (h.tab x hx) ch fun a ha => no _ fun z => m3 b.a (List.mem_map.mpr ⟨b, hb, rfl⟩) a (List.mem_flatMap.mpr ⟨x, hx, ha⟩) z.symm, h.nk, by rw [setBn_n]; exact h.kb, by rw [setBn_own]; exact h.nd⟩, ch.mono fun a ha => by rw [List.mem_singleton.mp ha]; exact bl_own hb⟩
  obtain ⟨x, hx, ⟨e9, rfl⟩ | ⟨e9, rfl⟩⟩ := setBn_mem hc
  · obtain rfl := bn_inj h.kb hx hb e9
    exact upd_same
  · exact ch _ _ (h.bl c hx) fun z => absurd (List.mem_singleton.mp z) fun q => e9 (by rw [bn_addr m1 hx hb q])
def sp_eput (A : Adr) : Sp := fun vs H Q _ => ∃ (e : En) (l f g : Int) (m : Nat) (ts : List (Tb m)) (bs : List Bn) (rows : List (Option Rw)) (nb : Nat) (h : Addr) (x : Tb m) (y en : Int), vs = [.ref e.p, .ref h, .int en] ∧ EnAt A H e l f g m ts bs rows nb ∧ H h = some (.tup [.str "task", .int x.n, .int y]) ∧ x ∈ ts ∧ 0 ≤ y ∧ y < pw (l * f) ∧
  if lk (m + 1) x.t (stp l f y) = some en then ∀ H', Same H H' → Q .non H' else ∀ H' t', EnAt A H' e l f g m (setTb x.n t' ts) bs (strikeR rows x.n y) nb → (∀ r, lk (m + 1) t' r = setF (lk (m + 1) x.t) (stp l f y) en r) → Ch (own e ts bs) H H' → (∀ a ∈ own e (setTb x.n t' ts) bs, a ∈ own e ts bs ∨ H a = none) → Q .non H'

def sp_eputBs (A : Adr) : Sp := fun vs H Q _ => ∃ (e : En) (l f g : Int) (m : Nat) (ts : List (Tb m)) (bs : List Bn) (b : Bn) (rows : List (Option Rw)) (nb : Nat) (h : Addr) (j : Nat) (v : V) (en : Int), vs = [.ref e.p, .ref h, .int en] ∧ EnAt A H e l f g m ts bs rows nb ∧ b ∈ bs ∧ H h = some (.tup [.str "bank", .int b.n, .int (j : Int)]) ∧ b.xs[j]? = some v ∧ scal v (.int en) = true ∧
  if v = .int en then Q .non H else ∀ H', EnAt A H' e l f g m ts (setBn b.n (b.xs.set j (.int en)) bs) rows nb → Ch (own e ts bs) H H' → Q .non H'
theorem h_eputs (T : Txt K mg A) : HaveM P w K mg base A.C_Entries "put" 8 ["self", "holder", "entry"] [] (fun vs H Q E => sp_eput A vs H Q E ∨ sp_eputBs A vs H Q E) := by
  have H_Entries_look := h_elook (P := P) (w := w) (base := base) T
  have H_Table_put := h_tput (P := P) (w := w) (base := base) T
  have H_Book_strike := h_strk (P := P) (w := w) (base := base) T
  refine T.r_Entries_put.have sc_Entries_put (fun vs H Q E z => ?_) ?_
  · rcases z with ⟨e, l, f, g, m, ts, bs, rows, nb, h, x, y, en, rfl, _⟩ | ⟨e, l, f, g, m, ts, bs, b, rows, nb, h, j, v, en, rfl, _⟩ <;> rfl
  · intro f cdv A' outer s H vs Q E hr z
    rcases z with ⟨e, l, f', g, m, ts, bs, rows, nb, h, x, y, en, rfl, hE, hh, hx, hy0, hy1, q⟩ | ⟨e, l, f', g, m, ts, bs, b, rows, nb, h, j, v, en, rfl, hE, hb, hh, hj, hsc, q⟩
    · obtain ⟨dx, h1⟩ := hE.me
      refine ⟨_, (pss_cons (ps_if (pt_cmpR op_eq (pe_methE (pvM 0) T.cl_Entries H_Entries_look (hr.mono (by decide)) xw_def (pa_cons (pvM 1) pa_nil)) (pvM 2) (nomark _)) (pss_one ps_retN) pss_nil)
      (pss_one (ps_if (pt_cmpR op_eq (pe_ix ix_tup (pvM 1) pe_int (fun _ _ => rfl)) pe_str (nomark _)) (pss_cons (ps_expr (pe_methE (pe_fld (pvM 0) rfl) T.cl_Book H_Book_strike (hr.mono (by decide)) xw_def (pa_cons (pe_ix ix_tup (pvM 1) pe_int (fun _ _ => rfl)) (pa_cons (pe_ix ix_tup (pvM 1) pe_int (fun _ _ => rfl)) pa_nil))))
      (pss_one (ps_expr (pe_methE (pe_dget (hu_of hr) (pe_fld (pvM 0) rfl) (pe_ix ix_tup (pvM 1) pe_int (fun _ _ => rfl)) (fun _ _ => rfl)) T.cl_Table H_Table_put (hr.mono (by decide)) xw_def (pa_cons (pe_ix ix_tup (pvM 1) pe_int (fun _ _ => rfl)) (pa_cons (pvM 2) pa_nil)))))) (pss_one (ps_asg (pvM 2) (pg_sub (pe_dget (hu_of hr) (pe_fld (pvM 0) rfl) (pe_ix ix_tup (pvM 1) pe_int (fun _ _ => rfl)) (fun _ _ => rfl)) (pe_ix ix_tup (pvM 1) pe_int (fun _ _ => rfl)) set_list)))))), ?_⟩
      unfold tDGet
      walk_at "wp"
      refine ⟨dx, _, h1, enF_no (by decide +kernel), e, l, f', g, m, ts, bs, rows, nb, h, rfl, hE, .inl ⟨x, y, hh, hx, hy0, hy1, fun H1 s1 => ?_⟩⟩
      walk_at "wp"
      refine ⟨by cases lk (m + 1) x.t (stp l f' y) <;> rfl, ?_⟩
      by_cases c : lk (m + 1) x.t (stp l f' y) = some en
      · rw [if_pos c] at q
        rw [c, if_pos (show oV (some en) = V.int en from rfl)]
        exact q _ s1
      rw [if_neg c] at q
      rw [if_neg (fun z => c (by cases e9 : lk (m + 1) x.t (stp l f' y) with | none => rw [e9] at z; cases z | some w9 => rw [e9] at z; cases z; rfl))]
      have hE1 := hE.same s1
      obtain ⟨dxb, _, _, h3, _⟩ := id hE1.bk
      have hh1 := s1 _ _ hh
      refine ⟨_, SqT.of hh1, .str "task", atI_nat (j := 0) rfl, rfl, ?_⟩
      rw [if_pos rfl]
      refine ⟨_, dx, _, s1 _ _ h1, T.cl_Entries, T.na_Entries_book, _, enF_book, e.bk, rfl, dxb, _, h3, bkF_no (by decide +kernel), _, SqT.of hh1, .int x.n, atI_nat (j := 1) rfl, _, SqT.of hh1, .int y, atI_nat (j := 2) rfl, e.bk, e.ra, e.fa, rows, nb, e.hd, x.n, y, rfl, hE1.bk, hE.uq, fun H2 hB2 k2 => ?_⟩
      obtain ⟨hE2, ch2⟩ := hE1.bput hB2 (uq_strike hE.uq) k2
      have chA := (Ch.same (F := own e ts bs) s1).trans ch2 fun _ h => .inl h
      have hh2 := ch2 _ _ hh1 fun _ => mut_tup
      obtain ⟨dx2, h12⟩ := hE2.me
      have hT := hE2.tab x hx
      obtain ⟨_, _, ⟨dxt, sp, h2, _⟩, _⟩ := id hT
      have hv := tb_val hE.nk hx
      refine ⟨_, dx2, _, h12, T.cl_Entries, T.na_Entries_tables, _, enF_tables, _, SqT.of hh2, .int x.n, atI_nat (j := 1) rfl, e.td, rfl, _, .inl ⟨tbD ts, Sum.inl x.n, .inl hE2.td, rfl, hv.symm⟩, x.p, rfl, dxt, _, h2, tbF_no (by decide +kernel), _, SqT.of hh2, .int y, atI_nat (j := 2) rfl, x.p, y, en, l, f', g, m, x.t, rfl, hT, ?_⟩
      rw [if_pos ⟨hy0, hy1⟩]
      intro H3 t' hT3 hlk fr ad
      obtain ⟨hE3, ch3, sub⟩ := hE2.tput hx hT3 fr ad
      refine q H3 t' hE3 hlk (chA.trans ch3 fun _ h => .inl h) fun a ha => ?_
      rcases sub a ha with z | z
      · exact .inl z
      · by_cases c2 : a ∈ own e ts bs
        · exact .inl c2
        · right
          cases e9 : H a with
          | none => rfl
          | some o => rw [chA a o e9 fun w9 => absurd w9 c2] at z; cases z
    · obtain ⟨dx, h1⟩ := hE.me
      refine ⟨_, (pss_cons (ps_if (pt_cmpR op_eq (pe_methE (pvM 0) T.cl_Entries H_Entries_look (hr.mono (by decide)) xw_def (pa_cons (pvM 1) pa_nil)) (pvM 2) (nomark _)) (pss_one ps_retN) pss_nil)
      (pss_one (ps_if (pt_cmpR op_eq (pe_ix ix_tup (pvM 1) pe_int (fun _ _ => rfl)) pe_str (nomark _)) (pss_cons (ps_expr (pe_methE (pe_fld (pvM 0) rfl) T.cl_Book H_Book_strike (hr.mono (by decide)) xw_def (pa_cons (pe_ix ix_tup (pvM 1) pe_int (fun _ _ => rfl)) (pa_cons (pe_ix ix_tup (pvM 1) pe_int (fun _ _ => rfl)) pa_nil))))
      (pss_one (ps_expr (pe_methE (pe_dget (hu_of hr) (pe_fld (pvM 0) rfl) (pe_ix ix_tup (pvM 1) pe_int (fun _ _ => rfl)) (fun _ _ => rfl)) T.cl_Table H_Table_put (hr.mono (by decide)) xw_def (pa_cons (pe_ix ix_tup (pvM 1) pe_int (fun _ _ => rfl)) (pa_cons (pvM 2) pa_nil)))))) (pss_one (ps_asg (pvM 2) (pg_sub (pe_dget (hu_of hr) (pe_fld (pvM 0) rfl) (pe_ix ix_tup (pvM 1) pe_int (fun _ _ => rfl)) (fun _ _ => rfl)) (pe_ix ix_tup (pvM 1) pe_int (fun _ _ => rfl)) set_list)))))), ?_⟩
      unfold tDGet
      walk_at "wp"
      have hlt := (List.getElem?_eq_some_iff.mp hj).1
      refine ⟨dx, _, h1, enF_no (by decide +kernel), e, l, f', g, m, ts, bs, rows, nb, h, rfl, hE, .inr ⟨b, j, v, hh, hb, atI_nat hj, ?_⟩⟩
      walk_at "wp"
      refine ⟨hsc, ?_⟩
      by_cases hne : v = .int en
      · rw [if_pos hne] at q
        rw [if_pos hne]
        exact q
      rw [if_neg hne] at q
      rw [if_neg hne]
      refine ⟨_, SqT.of hh, .str "bank", atI_nat (j := 0) rfl, rfl, ?_⟩
      rw [if_neg (by decide +kernel)]
      have hb0 := hE.bl b hb
      refine ⟨_, dx, _, h1, T.cl_Entries, T.na_Entries_banks, _, enF_banks, _, SqT.of hh, .int b.n, atI_nat (j := 1) rfl, e.bd, rfl, _, .inl ⟨bnD bs, Sum.inl b.n, .inl hE.bd, rfl, (bn_val hE.kb hb).symm⟩, _, SqT.of hh, .int j, atI_nat (j := 2) rfl, b.a, rfl, b.xs, j, rfl, hb0, j, ixN_nat hlt, ?_⟩
      obtain ⟨hE2, ch2⟩ := hE.blputs (xs' := b.xs.set j (.int en)) hb
      exact q _ hE2 ch2
def sp_etake (A : Adr) : Sp := fun vs H Q _ => ∃ (e : En) (l f g : Int) (m : Nat) (ts : List (Tb m)) (bs : List Bn) (rows : List (Option Rw)) (nb : Nat) (h : Addr) (x : Tb m) (y : Int), vs = [.ref e.p, .ref h] ∧ EnAt A H e l f g m ts bs rows nb ∧ H h = some (.tup [.str "task", .int x.n, .int y]) ∧ x ∈ ts ∧ 0 ≤ y ∧ y < pw (l * f) ∧
  ∀ H' t', EnAt A H' e l f g m (setTb x.n t' ts) bs (strikeR rows x.n y) nb → (∀ r, lk (m + 1) t' r = dropF (lk (m + 1) x.t) (stp l f y) r) → Ch (own e ts bs) H H' → (∀ a ∈ own e (setTb x.n t' ts) bs, a ∈ own e ts bs ∨ H a = none) → Q .non H'
def sp_etakeBs (A : Adr) : Sp := fun vs H Q _ => ∃ (e : En) (l f g : Int) (m : Nat) (ts : List (Tb m)) (bs : List Bn) (b : Bn) (rows : List (Option Rw)) (nb : Nat) (h : Addr) (j : Nat), vs = [.ref e.p, .ref h] ∧ EnAt A H e l f g m ts bs rows nb ∧ b ∈ bs ∧ H h = some (.tup [.str "bank", .int b.n, .int (j : Int)]) ∧ j < b.xs.length ∧
  ∀ H', EnAt A H' e l f g m ts (setBn b.n (b.xs.set j .non) bs) rows nb → Ch (own e ts bs) H H' → Q .non H'
theorem h_etake (T : Txt K mg A) : HaveM P w K mg base A.C_Entries "take" 8 ["self", "holder"] [] (fun vs H Q E => sp_etake A vs H Q E ∨ sp_etakeBs A vs H Q E) := by
  have H_Table_drop := h_tdrop (P := P) (w := w) (base := base) T
  have H_Book_strike := h_strk (P := P) (w := w) (base := base) T
  refine T.r_Entries_take.have sc_Entries_take (fun vs H Q E z => ?_) ?_
  · rcases z with ⟨e, l, f, g, m, ts, bs, rows, nb, h, x, y, rfl, _⟩ | ⟨e, l, f, g, m, ts, bs, b, rows, nb, h, j, rfl, _⟩ <;> rfl
  · intro f cdv A' outer s H vs Q E hr z
    rcases z with ⟨e, l, f', g, m, ts, bs, rows, nb, h, x, y, rfl, hE, hh, hx, hy0, hy1, q⟩ | ⟨e, l, f', g, m, ts, bs, b, rows, nb, h, j, rfl, hE, hb, hh, hlt, q⟩
    · obtain ⟨dx, h1⟩ := hE.me
      obtain ⟨dxb, _, _, h3, _⟩ := id hE.bk
      refine ⟨_, (pss_one (ps_if (pt_cmpR op_eq (pe_ix ix_tup (pvM 1) pe_int (fun _ _ => rfl)) pe_str (nomark _)) (pss_cons (ps_expr (pe_methE (pe_fld (pvM 0) rfl) T.cl_Book H_Book_strike (hr.mono (by decide)) xw_def (pa_cons (pe_ix ix_tup (pvM 1) pe_int (fun _ _ => rfl)) (pa_cons (pe_ix ix_tup (pvM 1) pe_int (fun _ _ => rfl)) pa_nil))))
      (pss_one (ps_expr (pe_methE (pe_dget (hu_of hr) (pe_fld (pvM 0) rfl) (pe_ix ix_tup (pvM 1) pe_int (fun _ _ => rfl)) (fun _ _ => rfl)) T.cl_Table H_Table_drop (hr.mono (by decide)) xw_def (pa_cons (pe_ix ix_tup (pvM 1) pe_int (fun _ _ => rfl)) pa_nil))))) (pss_one (ps_asg pe_non (pg_sub (pe_dget (hu_of hr) (pe_fld (pvM 0) rfl) (pe_ix ix_tup (pvM 1) pe_int (fun _ _ => rfl)) (fun _ _ => rfl)) (pe_ix ix_tup (pvM 1) pe_int (fun _ _ => rfl)) set_list))))), ?_⟩
      unfold tDGet
      walk_at "wp"
      refine ⟨_, SqT.of hh, .str "task", atI_nat (j := 0) rfl, rfl, ?_⟩
      rw [if_pos rfl]
      refine ⟨_, dx, _, h1, T.cl_Entries, T.na_Entries_book, _, enF_book, e.bk, rfl, dxb, _, h3, bkF_no (by decide +kernel), _, SqT.of hh, .int x.n, atI_nat (j := 1) rfl, _, SqT.of hh, .int y, atI_nat (j := 2) rfl, e.bk, e.ra, e.fa, rows, nb, e.hd, x.n, y, rfl, hE.bk, hE.uq, fun H2 hB2 k2 => ?_⟩
      obtain ⟨hE2, ch2⟩ := hE.bput hB2 (uq_strike hE.uq) k2
      have hh2 := ch2 _ _ hh fun _ => mut_tup
      obtain ⟨dx2, h12⟩ := hE2.me
      have hT := hE2.tab x hx
      obtain ⟨_, _, ⟨dxt, sp, h2, _⟩, _⟩ := id hT
      have hv := tb_val hE.nk hx
      refine ⟨_, dx2, _, h12, T.cl_Entries, T.na_Entries_tables, _, enF_tables, _, SqT.of hh2, .int x.n, atI_nat (j := 1) rfl, e.td, rfl, _, .inl ⟨tbD ts, Sum.inl x.n, .inl hE2.td, rfl, hv.symm⟩, x.p, rfl, dxt, _, h2, tbF_no (by decide +kernel), _, SqT.of hh2, .int y, atI_nat (j := 2) rfl, x.p, y, l, f', g, m, x.t, rfl, hT, ?_⟩
      rw [if_pos ⟨hy0, hy1⟩]
      intro H3 t' hT3 hlk fr ad
      obtain ⟨hE3, ch3, sub⟩ := hE2.tput hx hT3 fr ad
      refine q H3 t' hE3 hlk (ch2.trans ch3 fun _ h => .inl h) fun a ha => ?_
      rcases sub a ha with z | z
      · exact .inl z
      · by_cases c2 : a ∈ own e ts bs
        · exact .inl c2
        · right
          cases e9 : H a with
          | none => rfl
          | some o => rw [ch2 a o e9 fun w9 => absurd w9 c2] at z; cases z
    · obtain ⟨dx, h1⟩ := hE.me
      refine ⟨_, (pss_one (ps_if (pt_cmpR op_eq (pe_ix ix_tup (pvM 1) pe_int (fun _ _ => rfl)) pe_str (nomark _)) (pss_cons (ps_expr (pe_methE (pe_fld (pvM 0) rfl) T.cl_Book H_Book_strike (hr.mono (by decide)) xw_def (pa_cons (pe_ix ix_tup (pvM 1) pe_int (fun _ _ => rfl)) (pa_cons (pe_ix ix_tup (pvM 1) pe_int (fun _ _ => rfl)) pa_nil))))
      (pss_one (ps_expr (pe_methE (pe_dget (hu_of hr) (pe_fld (pvM 0) rfl) (pe_ix ix_tup (pvM 1) pe_int (fun _ _ => rfl)) (fun _ _ => rfl)) T.cl_Table H_Table_drop (hr.mono (by decide)) xw_def (pa_cons (pe_ix ix_tup (pvM 1) pe_int (fun _ _ => rfl)) pa_nil))))) (pss_one (ps_asg pe_non (pg_sub (pe_dget (hu_of hr) (pe_fld (pvM 0) rfl) (pe_ix ix_tup (pvM 1) pe_int (fun _ _ => rfl)) (fun _ _ => rfl)) (pe_ix ix_tup (pvM 1) pe_int (fun _ _ => rfl)) set_list))))), ?_⟩
      unfold tDGet
      walk_at "wp"
      refine ⟨_, SqT.of hh, .str "bank", atI_nat (j := 0) rfl, rfl, ?_⟩
      rw [if_neg (by decide +kernel)]
      have hb0 := hE.bl b hb
      refine ⟨_, dx, _, h1, T.cl_Entries, T.na_Entries_banks, _, enF_banks, _, SqT.of hh, .int b.n, atI_nat (j := 1) rfl, e.bd, rfl, _, .inl ⟨bnD bs, Sum.inl b.n, .inl hE.bd, rfl, (bn_val hE.kb hb).symm⟩, _, SqT.of hh, .int j, atI_nat (j := 2) rfl, b.a, rfl, b.xs, j, rfl, hb0, j, ixN_nat hlt, ?_⟩
      obtain ⟨hE2, ch2⟩ := hE.blputs (xs' := b.xs.set j .non) hb
      exact q _ hE2 ch2

theorem putK_out {kvs : Kvs} {k : Key} {v : V} (h : valV kvs k = none) : putK kvs k v = kvs ++ [(k, v)] := by
  unfold putK
  rw [valV_any, h]
  rfl
theorem tb_none {m : Nat} {ts : List (Tb m)} {n : Int} (h : n ∉ ts.map Tb.n) : valV (tbD ts) (Sum.inl n) = none := by
  induction ts with
  | nil => rfl
  | cons u r ih =>
    rw [List.map_cons, List.mem_cons, not_or] at h
    show valV ((Sum.inl u.n, V.ref u.p) :: tbD r) (Sum.inl n) = _
    rw [valV_neg (fun z => h.1 (Sum.inl.inj z).symm)]
    exact ih h.2
theorem tb_drop {m : Nat} {ts : List (Tb m)} {n : Int} : dropK (tbD ts) (Sum.inl n) = tbD (ts.filter fun y => decide (y.n ≠ n)) := by
  unfold dropK tbD
  rw [List.filter_map]
  congr 1
  refine List.filter_congr fun t _ => ?_
  show decide ((Sum.inl t.n : Key) ≠ Sum.inl n) = decide (t.n ≠ n)
  rw [Bool.eq_iff_iff]
  simp only [decide_eq_true_eq]
  exact ⟨fun z e => z (by rw [e]), fun z e => z (Sum.inl.inj e)⟩
theorem adT_sub {m : Nat} {p : Tb m → Bool} : ∀ {ts : List (Tb m)}, (adT (ts.filter p)).Sublist (adT ts)
  | [] => .slnil
  | u :: r => by
    have e : adT (u :: r) = ads (m + 1) u.t ++ adT r := by unfold adT; rw [List.flatMap_cons]
    rw [e]
    cases c : p u with
    | true =>
      rw [List.filter_cons_of_pos c]
      have e2 : adT (u :: r.filter p) = ads (m + 1) u.t ++ adT (r.filter p) := by unfold adT; rw [List.flatMap_cons]
      rw [e2]
      exact List.Sublist.append_left adT_sub _
    | false =>
      rw [List.filter_cons_of_neg (by rw [c]; exact Bool.false_ne_true)]
      exact adT_sub.trans (List.sublist_append_right ..)
theorem uq_off {t : Int} {rows : List (Option Rw)} (h : Uq rows) : Uq (offT t rows) := fun i j r s hi hj e1 e2 => by
  have o : ∀ (i : Nat) (r : Rw), (offT t rows)[i]? = some (some r) → rows[i]? = some (some r) := fun i r hi => by
    unfold offT at hi
    rw [List.getElem?_map] at hi
    cases e : rows[i]? with
    | none => rw [e] at hi; cases hi
    | some v =>
      rw [e] at hi
      cases v with
      | none => cases hi
      | some v =>
        have hi : some (if v.t = t then none else some v) = some (some r) := hi
        split at hi
        · cases hi
        · cases hi; rfl
  exact h i j r s (o i r hi) (o j s hj) e1 e2
theorem own_more {m : Nat} {e : En} {ts : List (Tb m)} {bs : List Bn} {x : Tb m} : own e (ts ++ [x]) bs = own e ts bs ++ ads (m + 1) x.t := by
  unfold own adT
  rw [List.flatMap_append]
  simp
def sp_eopen (A : Adr) : Sp := fun vs H Q _ => ∃ (e : En) (l f g : Int) (m : Nat) (ts : List (Tb m)) (bs : List Bn) (rows : List (Option Rw)) (nb : Nat) (n : Int), vs = [.ref e.p, .int n] ∧ EnAt A H e l f g m ts bs rows nb ∧ n ∉ ts.map Tb.n ∧ ts.length ≤ 1000 ∧
  ∀ p top H', EnAt A H' e l f g m (ts ++ [⟨n, p, nw m top⟩]) bs rows nb → H top = none → Ch (own e ts bs) H H' → (∀ c, H' c = none → H c = none) → Q .non H'
theorem h_eopen (T : Txt K mg A) : HaveM P w K mg base A.C_Entries "open_task" 3 ["self", "task"] [] (sp_eopen A) := by
  have H_Table_init := h_tinit (P := P) (w := w) (base := base) T
  refine T.r_Entries_open_task.have sc_Entries_open_task (fun vs H Q E z => ?_) ?_
  · obtain ⟨e, l, f, g, m, ts, bs, rows, nb, n, rfl, _⟩ := z; rfl
  · intro f cdv A' outer s H vs Q E hr z
    obtain ⟨e, l, f', g, m, ts, bs, rows, nb, n, rfl, hE, hn, hl, q⟩ := z
    obtain ⟨dx, h1⟩ := hE.me
    refine ⟨_, (pss_one (ps_dput (hu_of hr) (pe_fld (pvM 0) rfl) (pvM 1) (pe_makeE H_Table_init (hr.mono (by decide)) xw_def (pa_cons (pe_fld (pvM 0) rfl) pa_nil)) rfl)), ?_⟩
    unfold sDPut
    walk_at "wp"
    simp only [h1]
    walk_at "wp"
    refine ⟨T.cl_Entries, T.na_Entries_shape, _, enF_shape, fun x dx' hx hdx hne => ⟨x, dx', e.sh, rfl, upd_same, fun a ha => ⟨rfl, ?_⟩⟩⟩
    have b1 : Same H (upd (upd H dx' (.own x)) x (.ins A.C_Table dx' [])) := fun c o h => by rw [upd_ne (ne_of_none h hx), upd_ne (ne_of_none h hdx)]; exact h
    have hax : a ≠ x := fun z => by rw [z, upd_same] at ha; cases ha
    have ha0 : H a = none := same_none b1 ha
    have b2 : Same H (upd (upd (upd (upd H dx' (.own x)) x (.ins A.C_Table dx' [])) a (.dK [])) x (.ins A.C_Table dx' (tbF e.sh a))) := fun c o h => by rw [upd_ne (ne_of_none h hx), upd_ne (ne_of_none h ha0)]; exact b1 c o h
    have hGx : upd (upd (upd (upd H dx' (.own x)) x (.ins A.C_Table dx' [])) a (.dK [])) x (.ins A.C_Table dx' (tbF e.sh a)) x = some (.ins A.C_Table dx' (tbF e.sh a)) := upd_same
    have hGa : upd (upd (upd (upd H dx' (.own x)) x (.ins A.C_Table dx' [])) a (.dK [])) x (.ins A.C_Table dx' (tbF e.sh a)) a = some (.dK []) := by rw [upd_ne hax, upd_same]
    generalize upd (upd (upd (upd H dx' (.own x)) x (.ins A.C_Table dx' [])) a (.dK [])) x (.ins A.C_Table dx' (tbF e.sh a)) = G at *
    have hE1 := hE.same b2
    have hT : TabAt A.C_Table A.C_Shape G x l f' g m (nw m a) := ⟨hE.lm, hE.gd, ⟨dx', e.sh, hGx, hE1.sh⟩, rep_new hGa, nd_new, ne_new⟩
    have hz := PySem.sizeLine_eq
    have hao : a ∉ own e ts bs := fun z => hE.ex a z ha0
    have nd2 : (own e (ts ++ [⟨n, x, nw m a⟩]) bs).Nodup := by
      rw [own_more, List.nodup_append]
      refine ⟨hE.nd, nd_new, fun c hc d hd e9 => hao ?_⟩
      rw [← List.mem_singleton.mp (show d ∈ [a] from hd), ← e9]
      exact hc
    obtain ⟨hE2, ch2⟩ := hE1.retd (ts' := ts ++ [⟨n, x, nw m a⟩]) (fun y hy => by
      rcases List.mem_append.mp hy with h | h
      · exact hE1.tab y h
      · rw [List.mem_singleton.mp h]; exact hT) (by
      rw [List.map_append, List.nodup_append]
      exact ⟨hE.nk, by simp, fun c hc d hd e9 => hn (by rw [← List.mem_singleton.mp (show d ∈ [n] from hd), ← e9]; exact hc)⟩) nd2
    refine ⟨_, dx, _, b2 _ _ h1, T.cl_Entries, T.na_Entries_tables, _, enF_tables, e.td, rfl, _, .inl ⟨tbD ts, Sum.inl n, hE1.td, rfl, by unfold tbD; rw [List.length_map]; omega, rfl⟩, ?_⟩
    rw [putK_out (tb_none hn), show tbD ts ++ [((Sum.inl n : Key), V.ref x)] = tbD (ts ++ [⟨n, x, nw m a⟩]) by unfold tbD; rw [List.map_append]; rfl]
    refine q x a _ hE2 ha0 ((Ch.same b2).trans ch2 fun c hc => .inl (by rw [List.mem_singleton.mp hc]; exact td_own)) fun c hc => ?_
    by_cases e9 : c = e.td
    · rw [e9, upd_same] at hc; cases hc
    · rw [upd_ne e9] at hc; exact same_none b2 hc
def sp_eclose (A : Adr) : Sp := fun vs H Q _ => ∃ (e : En) (l f g : Int) (m : Nat) (ts : List (Tb m)) (bs : List Bn) (rows : List (Option Rw)) (nb : Nat) (x : Tb m), vs = [.ref e.p, .int x.n] ∧ EnAt A H e l f g m ts bs rows nb ∧ x ∈ ts ∧ nb < 1000000 ∧
  ∀ H', EnAt A H' e l f g m (ts.filter fun y => decide (y.n ≠ x.n)) bs (offT x.n rows) nb → Ch (own e ts bs) H H' → (∀ c, H' c = none → H c = none) → Q .non H'
theorem h_eclose (T : Txt K mg A) : HaveM P w K mg base A.C_Entries "close_task" 3 ["self", "task"] [] (sp_eclose A) := by
  have H_Book_strike_task := h_stask (P := P) (w := w) (base := base) T
  refine T.r_Entries_close_task.have sc_Entries_close_task (fun vs H Q E z => ?_) ?_
  · obtain ⟨e, l, f, g, m, ts, bs, rows, nb, x, rfl, _⟩ := z; rfl
  · intro f cdv A' outer s H vs Q E hr z
    obtain ⟨e, l, f', g, m, ts, bs, rows, nb, x, rfl, hE, hx, hnb, q⟩ := z
    obtain ⟨dx, h1⟩ := hE.me
    refine ⟨_, (pss_cons (ps_expr (pe_dpop1 (pe_fld (pvM 0) rfl) (pvM 1) ⟨rfl, rfl, rfl, rfl⟩))
      (pss_one (ps_expr (pe_methE (pe_fld (pvM 0) rfl) T.cl_Book H_Book_strike_task (hr.mono (by decide)) xw_def (pa_cons (pvM 1) pa_nil))))), ?_⟩
    unfold tDPop1
    walk_at "wp"
    simp only [h1]
    walk_at "wp"
    have sub : (own e (ts.filter fun y => decide (y.n ≠ x.n)) bs).Sublist (own e ts bs) := by
      rw [own_cut, own_cut]
      exact List.Sublist.append_left adT_sub _
    obtain ⟨hE1, ch1⟩ := hE.retd (ts' := ts.filter fun y => decide (y.n ≠ x.n)) (fun y hy => hE.tab y (List.mem_filter.mp hy).1) (List.Sublist.nodup (List.Sublist.map _ List.filter_sublist) hE.nk) (sub.nodup hE.nd)
    refine ⟨T.cl_Entries, T.na_Entries_tables, _, enF_tables, e.td, rfl, .inl ⟨_, .inl hE.td⟩, tbD ts, hE.td, Sum.inl x.n, rfl, _, tb_val hE.nk hx, ?_⟩
    rw [tb_drop]
    have hd1 : ∀ c, upd H e.td (.dK (tbD (ts.filter fun y => decide (y.n ≠ x.n)))) c = none → H c = none := fun c hc => by
      by_cases e9 : c = e.td
      · rw [e9, upd_same] at hc; cases hc
      · rw [upd_ne e9] at hc; exact hc
    generalize upd H e.td (.dK (tbD (ts.filter fun y => decide (y.n ≠ x.n)))) = H1 at *
    obtain ⟨dx1, h11⟩ := hE1.me
    obtain ⟨dxb, _, _, h3, _⟩ := id hE1.bk
    refine ⟨_, dx1, _, h11, T.cl_Entries, T.na_Entries_book, _, enF_book, e.bk, rfl, dxb, _, h3, bkF_no (by decide +kernel), e.bk, e.ra, e.fa, rows, nb, e.hd, x.n, rfl, hE1.bk, hE.uq, hnb, fun H2 hB2 k2 => ?_⟩
    obtain ⟨hE2, ch2⟩ := hE1.bput hB2 (uq_off hE.uq) k2
    refine q H2 hE2 ((ch1.mono fun c hc => by rw [List.mem_singleton.mp hc]; exact td_own).trans ch2 fun c hc => .inl (sub.subset hc)) fun c hc => hd1 c ?_
    cases e9 : H1 c with
    | none => rfl
    | some o =>
      have : c ∈ [e.ra, e.fa] := Classical.byContradiction fun z => by rw [k2 c o e9 z] at hc; cases hc
      rcases List.mem_cons.mp this with rfl | z
      · exact absurd hc (hE2.ex _ ra_own)
      · rw [List.mem_singleton.mp z] at hc; exact absurd hc (hE2.ex _ fa_own)
def sp_einit (A : Adr) : Sp := fun vs H Q _ => ∃ (p dx sh : Addr) (l f g k : Int), vs = [.ref p, .ref sh, .int k] ∧ H p = some (.ins A.C_Entries dx []) ∧ ShapeAt A.C_Shape H sh l f g ∧ gd l f g ∧ 0 ≤ k ∧ k ≤ 1000 ∧
  ∀ (e : En) (H' : Hp), e.p = p → e.hd = 0 → EnAt A H' e l f g (l - 1).toNat [] [] (List.replicate k.toNat none) 0 → (∀ c o, H c = some o → c ≠ p → H' c = some o) → (∀ c ∈ own (m := (l - 1).toNat) e [] [], H c = none) → (∀ c, H' c = none → H c = none) → Q .non H'
theorem h_einit (T : Txt K mg A) : HaveI P w K mg base "Entries" A.C_Entries 3 ["self", "shape", "places"] [] (sp_einit A) := by
  have H_Book_init := h_binit (P := P) (w := w) (base := base) T
  refine T.r_Entries_init.have sc_Entries_init (fun vs H Q E z => ?_) ?_
  · obtain ⟨p, dx, sh, l, f, g, k, rfl, _⟩ := z; rfl
  · intro f cdv A' outer s H vs Q E hr z
    obtain ⟨p, dx, sh, l, f', g, k, rfl, hp, hS, hg, hk0, hk1, q⟩ := z
    refine ⟨_, (pss_cons (ps_fld (pvM 0) (pvM 1) rfl)
      (pss_cons (ps_fld (pvM 0) pe_dnewK rfl)
      (pss_cons (ps_fld (pvM 0) pe_dnewK rfl)
      (pss_one (ps_fld (pvM 0) (pe_makeE H_Book_init (hr.mono (by decide)) xw_def (pa_cons (pvM 2) pa_nil)) rfl))))), ?_⟩
    walk_at "wp"
    obtain ⟨dxs, hsh⟩ := hS
    have hps : sh ≠ p := fun z => by rw [z, hp] at hsh; have w9 := (HO.ins.inj (Option.some.inj hsh)).2.2; cases w9
    refine ⟨_, dx, _, hp, T.cl_Entries, T.na_Entries_shape, by show 0 < 1000; decide, fun td htd => ?_⟩
    have k1 : ∀ c o, H c = some o → c ≠ p → upd H p (.ins A.C_Entries dx (putF "shape" (.ref sh) [])) c = some o := fun c o h n => by rw [upd_ne n]; exact h
    have p1 : upd H p (.ins A.C_Entries dx (putF "shape" (.ref sh) [])) p = some (.ins A.C_Entries dx (putF "shape" (.ref sh) [])) := upd_same
    have d1 : ∀ c, upd H p (.ins A.C_Entries dx (putF "shape" (.ref sh) [])) c = none → H c = none := fun c hc => by
      by_cases e9 : c = p
      · rw [e9, upd_same] at hc; cases hc
      · rw [upd_ne e9] at hc; exact hc
    generalize upd H p (.ins A.C_Entries dx (putF "shape" (.ref sh) [])) = G1 at *
    have u2 := same_upd (o := .dK []) (same_refl (H := G1)) htd
    have t2 : upd G1 td (.dK []) td = some (.dK []) := upd_same
    generalize upd G1 td (.dK []) = G2 at *
    have htp : td ≠ p := fun z => by rw [z, p1] at htd; cases htd
    refine ⟨_, dx, _, u2 _ _ p1, T.cl_Entries, T.na_Entries_tables, by show 1 < 1000; decide, fun bd hbd => ?_⟩
    have k3 : ∀ c o, G2 c = some o → c ≠ p → upd G2 p (.ins A.C_Entries dx (putF "tables" (.ref td) (putF "shape" (.ref sh) []))) c = some o := fun c o h n => by rw [upd_ne n]; exact h
    have p3 : upd G2 p (.ins A.C_Entries dx (putF "tables" (.ref td) (putF "shape" (.ref sh) []))) p = some (.ins A.C_Entries dx (putF "tables" (.ref td) (putF "shape" (.ref sh) []))) := upd_same
    have d3 : ∀ c, upd G2 p (.ins A.C_Entries dx (putF "tables" (.ref td) (putF "shape" (.ref sh) []))) c = none → G2 c = none := fun c hc => by
      by_cases e9 : c = p
      · rw [e9, upd_same] at hc; cases hc
      · rw [upd_ne e9] at hc; exact hc
    generalize upd G2 p (.ins A.C_Entries dx (putF "tables" (.ref td) (putF "shape" (.ref sh) []))) = G3 at *
    have u4 := same_upd (o := .dK []) (same_refl (H := G3)) hbd
    have t4 : upd G3 bd (.dK []) bd = some (.dK []) := upd_same
    have htb : td ≠ bd := fun z => by rw [← z, k3 _ _ t2 htp] at hbd; cases hbd
    have hbp : bd ≠ p := fun z => by rw [z, p3] at hbd; cases hbd
    generalize upd G3 bd (.dK []) = G4 at *
    refine ⟨_, dx, _, u4 _ _ p3, T.cl_Entries, T.na_Entries_banks, by show 2 < 1000; decide, fun bk dxb hbk hdxb hne => ?_⟩
    have k5 : ∀ c o, G4 c = some o → c ≠ p → upd G4 p (.ins A.C_Entries dx (putF "banks" (.ref bd) (putF "tables" (.ref td) (putF "shape" (.ref sh) [])))) c = some o := fun c o h n => by rw [upd_ne n]; exact h
    have p5 : upd G4 p (.ins A.C_Entries dx (putF "banks" (.ref bd) (putF "tables" (.ref td) (putF "shape" (.ref sh) [])))) p = some (.ins A.C_Entries dx (putF "banks" (.ref bd) (putF "tables" (.ref td) (putF "shape" (.ref sh) [])))) := upd_same
    have d5 : ∀ c, upd G4 p (.ins A.C_Entries dx (putF "banks" (.ref bd) (putF "tables" (.ref td) (putF "shape" (.ref sh) [])))) c = none → G4 c = none := fun c hc => by
      by_cases e9 : c = p
      · rw [e9, upd_same] at hc; cases hc
      · rw [upd_ne e9] at hc; exact hc
    generalize upd G4 p (.ins A.C_Entries dx (putF "banks" (.ref bd) (putF "tables" (.ref td) (putF "shape" (.ref sh) [])))) = G5 at *
    have b6 : Same G5 (upd (upd G5 dxb (.own bk)) bk (.ins A.C_Book dxb [])) := fun c o h => by rw [upd_ne (ne_of_none h hbk), upd_ne (ne_of_none h hdxb)]; exact h
    have p6 : upd (upd G5 dxb (.own bk)) bk (.ins A.C_Book dxb []) bk = some (.ins A.C_Book dxb []) := upd_same
    generalize upd (upd G5 dxb (.own bk)) bk (.ins A.C_Book dxb []) = G6 at *
    have hpb : p ≠ bk := fun z => by rw [← z, p5] at hbk; cases hbk
    have htk : td ≠ bk := fun z => by rw [← z, k5 _ _ (u4 _ _ (k3 _ _ t2 htp)) htp] at hbk; cases hbk
    have hbk2 : bd ≠ bk := fun z => by rw [← z, k5 _ _ t4 hbp] at hbk; cases hbk
    refine ⟨bk, dxb, k, rfl, hk0, by omega, p6, fun H7 ra fa kp hB hra hfa => ⟨rfl, ?_⟩⟩
    have st : ∀ c o, H c = some o → c ≠ p → G6 c = some o ∧ c ≠ bk := fun c o h n => by
      have h5 := k5 _ _ (u4 _ _ (k3 _ _ (u2 _ _ (k1 _ _ h n)) n)) n
      exact ⟨b6 _ _ h5, fun z => by rw [← z, h5] at hbk; cases hbk⟩
    have t6 := b6 _ _ (k5 _ _ (u4 _ _ (k3 _ _ t2 htp)) htp)
    have d6 := b6 _ _ (k5 _ _ t4 hbp)
    have no1 : ∀ {c : Addr}, c ≠ bk → c ∉ [bk] := fun n z => n (List.mem_singleton.mp z)
    have p7 := kp _ _ (b6 _ _ p5) (no1 hpb)
    have t7 := kp _ _ t6 (no1 htk)
    have d7 := kp _ _ d6 (no1 hbk2)
    obtain ⟨dx7, vs7, kvs7, e1, e2, e3, e4, e5, e6⟩ := hB
    have np : ∀ {c : Addr} {o : HO}, H7 c = some o → (∀ C dx fs, o ≠ .ins C dx fs) → c ≠ p := fun h n z => by rw [z, p7] at h; exact n _ _ _ (Option.some.inj h).symm
    have hrp : ra ≠ p := np e2 (fun _ _ _ z => nomatch z)
    have hfp : fa ≠ p := np e4 (fun _ _ _ z => nomatch z)
    refine ⟨_, dx, _, p7, T.cl_Entries, T.na_Entries_book, by show 3 < 1000; decide, ?_⟩
    have dm : ∀ c, G6 c = none → H c = none := fun c hc => d1 c (same_none u2 (d3 c (same_none u4 (d5 c (same_none b6 hc)))))
    have hta : ∀ {c : Addr}, G6 c = none → td ≠ c ∧ bd ≠ c := fun h => ⟨(fun z => by rw [← z, t6] at h; cases h), (fun z => by rw [← z, d6] at h; cases h)⟩
    refine q ⟨p, sh, td, bd, bk, ra, fa, 0⟩ _ rfl rfl ⟨⟨dx, upd_same⟩, ⟨dxs, by rw [upd_ne hps]; exact kp _ _ (st _ _ hsh hps).1 (no1 (st _ _ hsh hps).2)⟩, by have := hg.1; omega, hg, by rw [upd_ne htp]; exact t7, by rw [upd_ne hbp]; exact d7, (fun b hb => by cases hb), ⟨dx7, vs7, kvs7, by rw [upd_ne hpb.symm]; exact e1, by rw [upd_ne hrp]; exact e2, ?_, by rw [upd_ne hfp]; exact e4, e5, e6⟩, ?_, (fun x hx => by cases hx), .nil, .nil, ?_⟩ ?_ ?_ ?_
    · exact Paired.mapP e3 fun v r hr => by
        cases r with
        | none => exact hr
        | some r => obtain ⟨a9, ea, ha⟩ := hr; exact ⟨a9, ea, by rw [upd_ne (np ha (fun _ _ _ z => nomatch z))]; exact ha⟩
    · intro i j r s hi hj _ _
      have := List.mem_of_getElem? hi
      rw [List.eq_of_mem_replicate this] at hi
      have h9 := List.eq_of_mem_replicate this
      cases h9
    · show [td, bd, ra, fa].Nodup
      have hrf : ra ≠ fa := fun z => by rw [z, e4] at e2; cases e2
      simp only [List.nodup_cons, List.mem_cons, List.not_mem_nil, or_false, not_or, not_false_eq_true, List.nodup_nil, and_true]
      exact ⟨⟨htb, (hta hra).1, (hta hfa).1⟩, ⟨(hta hra).2, (hta hfa).2⟩, hrf⟩
    · intro c o h n
      rw [upd_ne n]
      exact kp _ _ (st _ _ h n).1 (no1 (st _ _ h n).2)
    · intro c hc
      have hc : c ∈ [td, bd, ra, fa] := hc
      simp only [List.mem_cons, List.not_mem_nil, or_false] at hc
      rcases hc with rfl | rfl | rfl | rfl
      · exact d1 _ htd
      · exact d1 _ (same_none u2 (d3 _ hbd))
      · exact dm _ hra
      · exact dm _ hfa
    · intro c hc
      by_cases e9 : c = p
      · rw [e9, upd_same] at hc; cases hc
      · rw [upd_ne e9] at hc
        by_cases e8 : c = bk
        · rw [e8, e1] at hc; cases hc
        · refine dm c ?_
          cases e7 : G6 c with
          | none => rfl
          | some o => rw [kp _ _ e7 (no1 e8)] at hc; cases hc

theorem own_bmore {m : Nat} {e : En} {ts : List (Tb m)} {bs : List Bn} {b : Bn} : List.Perm (own e ts (bs ++ [b])) (b.a :: own e ts bs) := by
  have e1 : own e ts (bs ++ [b]) = (e.td :: e.bd :: e.ra :: e.fa :: bs.map Bn.a) ++ b.a :: adT ts := by unfold own; simp
  have e2 : own e ts bs = (e.td :: e.bd :: e.ra :: e.fa :: bs.map Bn.a) ++ adT ts := rfl
  rw [e1, e2]
  exact List.perm_middle
theorem bn_none {bs : List Bn} {n : Int} (h : n ∉ bs.map Bn.n) : valV (bnD bs) (Sum.inl n) = none := by
  induction bs with
  | nil => rfl
  | cons u r ih =>
    rw [List.map_cons, List.mem_cons, not_or] at h
    show valV ((Sum.inl u.n, V.ref u.a) :: bnD r) (Sum.inl n) = _
    rw [valV_neg (fun z => h.1 (Sum.inl.inj z).symm)]
    exact ih h.2
theorem bnD_more {bs : List Bn} {b : Bn} : bnD bs ++ [((Sum.inl b.n : Key), V.ref b.a)] = bnD (bs ++ [b]) := by
  unfold bnD
  rw [List.map_append]
  rfl
def sp_obanks (A : Adr) : Sp := fun vs H Q _ => ∃ (e : En) (l f g : Int) (m : Nat) (ts : List (Tb m)) (bs : List Bn) (rows : List (Option Rw)) (nb : Nat) (n k : Int), vs = [.ref e.p, .int n, .int k] ∧ EnAt A H e l f g m ts bs rows nb ∧ n ∉ bs.map Bn.n ∧ bs.length ≤ 1000 ∧ 0 ≤ k ∧ k ≤ 1000 ∧
  ∀ a H', EnAt A H' e l f g m ts (bs ++ [⟨n, a, List.replicate k.toNat .non⟩]) rows nb → H a = none → Ch (own e ts bs) H H' → (∀ c, H' c = none → H c = none) → Q .non H'
theorem h_obanks (T : Txt K mg A) : HaveM P w K mg base A.C_Entries "open_bank" 1 ["self", "bank", "many"] [] (sp_obanks A) := by
  refine T.r_Entries_open_bank.have sc_Entries_open_bank (fun vs H Q E z => ?_) ?_
  · obtain ⟨e, l, f, g, m, ts, bs, rows, nb, n, k, rfl, _⟩ := z; rfl
  · intro f cdv A' outer s H vs Q E hr z
    obtain ⟨e, l, f', g, m, ts, bs, rows, nb, n, k, rfl, hE, hnn, hbl, hk0, hk1, q⟩ := z
    obtain ⟨dx, h1⟩ := hE.me
    refine ⟨_, (pss_one (ps_dput (hu_of hr) (pe_fld (pvM 0) rfl) (pvM 1) (pe_op op_rep (pe_lst (pa_cons pe_non pa_nil)) (pvM 2)) rfl)), ?_⟩
    unfold sDPut rRep
    walk_at "wp"
    intro l1 hl1
    have b1 := same_upd (o := .lst [V.non]) (same_refl (H := H)) hl1
    refine ⟨[.non], rfl, by omega, by omega, by show 1 * k.toNat ≤ 16777216; omega, fun a ha => ?_⟩
    have ha0 : H a = none := same_none b1 ha
    have b2 := same_upd (o := .lst (List.replicate k.toNat [V.non]).flatten) b1 ha
    have g2 : upd (upd H l1 (.lst [V.non])) a (.lst (List.replicate k.toNat [V.non]).flatten) a = some (.lst (List.replicate k.toNat [V.non]).flatten) := upd_same
    generalize upd (upd H l1 (.lst [V.non])) a (.lst (List.replicate k.toNat [V.non]).flatten) = G at *
    have efl : ∀ k : Nat, (List.replicate k [V.non]).flatten = List.replicate k V.non := fun k => by
      induction k with
      | zero => rfl
      | succ k ih => rw [List.replicate_succ, List.flatten_cons, ih]; rfl
    rw [efl] at g2
    have hE1 := hE.same b2
    have hao : a ∉ own e ts bs := fun z => hE.ex a z ha0
    have hz := PySem.sizeLine_eq
    have nd2 : (own e ts (bs ++ [⟨n, a, List.replicate k.toNat .non⟩])).Nodup := own_bmore.nodup_iff.mpr (List.nodup_cons.mpr ⟨hao, hE.nd⟩)
    have hlb : (bnD bs).length = bs.length := by unfold bnD; rw [List.length_map]
    obtain ⟨hE2, ch2⟩ := hE1.rebd (bs' := bs ++ [⟨n, a, List.replicate k.toNat .non⟩]) (fun b hb => by
      rcases List.mem_append.mp hb with h | h
      · exact hE1.bl b h
      · rw [List.mem_singleton.mp h]; exact g2) (by
      rw [List.map_append, List.nodup_append]
      exact ⟨hE.kb, by simp, fun x hx y hy z => hnn (by rw [← show y = n from List.mem_singleton.mp hy, ← z]; exact hx)⟩) nd2
    refine ⟨_, dx, _, b2 _ _ h1, T.cl_Entries, T.na_Entries_banks, _, enF_banks, e.bd, rfl, _, .inl ⟨bnD bs, Sum.inl n, hE1.bd, rfl, by omega, rfl⟩, ?_⟩
    rw [putK_out (bn_none hnn), show bnD bs ++ [((Sum.inl n : Key), V.ref a)] = bnD (bs ++ [⟨n, a, List.replicate k.toNat .non⟩]) from bnD_more (b := ⟨n, a, _⟩)]
    refine q a _ hE2 ha0 ((Ch.same b2).trans ch2 fun c hc => .inl (by rw [List.mem_singleton.mp hc]; exact bd_own)) fun c hc => ?_
    by_cases e9 : c = e.bd
    · rw [e9, upd_same] at hc; cases hc
    · rw [upd_ne e9] at hc; exact same_none b2 hc

theorem uq_use {rows : List (Option Rw)} {t g : Int} (h : Uq rows) : Uq (useR rows t g) := by
  unfold useR
  cases c : bfnd rows t g with
  | none => exact h
  | some j =>
    obtain ⟨r, hr, e1, e2⟩ := bfnd_some c
    show Uq (match rows[j]? with | some (some r) => rows.set j (some ⟨t, g, r.e, true⟩) | _ => rows)
    rw [hr]
    exact uq_old (r' := ⟨t, g, r.e, true⟩) h hr e1.symm e2.symm
def ChB (b : Addr) (F : List Addr) (H H' : Hp) : Prop := ∀ c o, H c = some o → (c = b → ∀ C dx fs, o ≠ .ins C dx fs) → (c ∈ F → ¬ Mut o) → H' c = some o
theorem Ch.b {b : Addr} {F : List Addr} {H H' : Hp} (h : Ch F H H') : ChB b F H H' := fun c o ho _ n => h c o ho n
theorem ChB.trans {b : Addr} {F G : List Addr} {H H1 H2 : Hp} (x : ChB b F H H1) (y : ChB b G H1 H2) (h : ∀ c ∈ G, c ∈ F ∨ H c = none) : ChB b F H H2 := fun c o e m n => y c o (x c o e m n) m fun hg => (h c hg).elim n (fun z => by rw [z] at e; cases e)
theorem bk_hand {C : Addr} {H : Hp} {p ra fa : Addr} {rows : List (Option Rw)} {n : Nat} {hd : Int} (h : BkAt C H p ra fa rows n hd) {D dx : Addr} {fs : List (Str × V)} (e : H p = some (.ins D dx fs)) : fs.lookup ("hand" : Str) = some (.int hd) := by
  obtain ⟨dx', vs, kvs, e1, _⟩ := h
  rw [e1] at e
  cases e
  exact bkF_hand
theorem EnAt.chB {A : Adr} {F : List Addr} {H H' : Hp} {e : En} {l f g : Int} {m : Nat} {ts : List (Tb m)} {bs : List Bn} {rows : List (Option Rw)} {nb : Nat} {b : Addr} (h : EnAt A H e l f g m ts bs rows nb) (c : ChB b F H H') (d : ∀ a ∈ own e ts bs, a ∉ F) (hb : ∀ D dx fs, H b = some (.ins D dx fs) → ∃ v, fs.lookup ("hand" : Str) = some v) (hne : e.bk ≠ b) : EnAt A H' e l f g m ts bs rows nb := by
  have ins : ∀ {p D dx : Addr} {fs : List (Str × V)}, H p = some (.ins D dx fs) → fs.lookup ("hand" : Str) = none → H' p = some (.ins D dx fs) := fun hp hf => c _ _ hp (fun z => by
    subst z
    obtain ⟨v, hv⟩ := hb _ _ _ hp
    rw [hf] at hv
    cases hv) (fun _ => mut_ins)
  have obj : ∀ {p : Addr} {o : HO}, H p = some o → (∀ C dx fs, o ≠ .ins C dx fs) → p ∉ F → H' p = some o := fun hp n z => c _ _ hp (fun _ => n) fun w => absurd w z
  have sh : ∀ {S p : Addr}, ShapeAt S H p l f g → ShapeAt S H' p l f g := fun ⟨dx, q⟩ => ⟨dx, ins q (by rfl)⟩
  obtain ⟨dx, vs, kvs, e1, e2, e3, e4, e5, e6⟩ := h.bk
  refine ⟨let ⟨dx, q⟩ := h.me; ⟨dx, ins q (enF_no (by decide +kernel))⟩, sh h.sh, h.lm, h.gd, obj h.td (fun _ _ _ z => nomatch z) (d _ td_own), obj h.bd (fun _ _ _ z => nomatch z) (d _ bd_own), fun b hb => obj (h.bl b hb) (fun _ _ _ z => nomatch z) (d _ (bl_own hb)), ⟨dx, vs, kvs, c _ _ e1 (fun z => absurd z hne) (fun _ => mut_ins), obj e2 (fun _ _ _ z => nomatch z) (d _ ra_own), Paired.mapP e3 fun v r hr => ?_, obj e4 (fun _ _ _ z => nomatch z) (d _ fa_own), e5, e6⟩, h.uq, fun x hx => ?_, h.nk, h.kb, h.nd⟩
  · cases r with
    | none => exact hr
    | some r => obtain ⟨a, ea, ha⟩ := hr; exact ⟨a, ea, c _ _ ha (fun _ _ _ _ z => nomatch z) fun _ => mut_tup⟩
  · obtain ⟨h1, h2, ⟨dx, sp, h3, h4⟩, h5, h6⟩ := h.tab x hx
    exact ⟨h1, h2, ⟨dx, sp, ins h3 (tbF_no (by decide +kernel)), sh h4⟩, rep_stay h5 fun a ha o ho => by
      obtain ⟨kvs, hk⟩ := rep_dK2 h5 a ha
      rw [hk] at ho
      cases ho
      exact obj hk (fun _ _ _ z => nomatch z) (d a (ad_own hx ha)), h6⟩
theorem EnAt.bputF {A : Adr} {H H' : Hp} {e : En} {l f g : Int} {m : Nat} {ts : List (Tb m)} {bs : List Bn} {rows rows' : List (Option Rw)} {nb nb' : Nat} {hd' : Int} (h : EnAt A H e l f g m ts bs rows nb) (hB : BkAt A.C_Book H' e.bk e.ra e.fa rows' nb' hd') (hu : Uq rows') (k : Kp [e.bk, e.ra, e.fa] H H') :
    EnAt A H' { e with hd := hd' } l f g m ts bs rows' nb' ∧ ChB e.bk (own e ts bs) H H' := by
  obtain ⟨dx, vs, kvs, e1, e2, e3, e4, _⟩ := id h.bk
  have ch : ChB e.bk [e.ra, e.fa] H H' := fun c o ho m n => k c o ho fun z => by
    rcases List.mem_cons.mp z with z | z
    · rw [z, e1] at ho
      cases ho
      exact m z _ _ _ rfl
    · refine n z ?_
      rcases List.mem_cons.mp z with z | z
      · rw [z, e2] at ho; cases ho; exact mut_lst
      · rw [List.mem_singleton.mp z, e4] at ho; cases ho; exact ⟨(fun _ _ _ z => nomatch z), (fun _ z => nomatch z)⟩
  have nd := h.nd
  unfold own at nd
  simp only [List.nodup_cons, List.mem_cons, not_or] at nd
  obtain ⟨⟨n1, n2, n3, n4⟩, ⟨n5, n6, n7⟩, ⟨n8, n9⟩, n10, n11⟩ := nd
  have no : ∀ {a : Addr}, a ≠ e.ra → a ≠ e.fa → a ∉ [e.ra, e.fa] := fun h1 h2 z => by
    rcases List.mem_cons.mp z with z | z
    · exact h1 z
    · exact h2 (List.mem_singleton.mp z)
  have nin : ∀ {a : Addr}, a ∈ bs.map Bn.a ++ adT ts → a ∉ [e.ra, e.fa] := fun ha => no (fun z => n9 (by rw [← z]; exact ha)) (fun z => n10 (by rw [← z]; exact ha))
  have ins : ∀ {p D dx : Addr} {fs : List (Str × V)}, H p = some (.ins D dx fs) → fs.lookup ("hand" : Str) = none → H' p = some (.ins D dx fs) := fun hp hf => ch _ _ hp (fun z => by
    subst z
    have := bk_hand h.bk hp
    rw [hf] at this
    cases this) (fun _ => mut_ins)
  have obj : ∀ {p : Addr} {o : HO}, H p = some o → (∀ C dx fs, o ≠ .ins C dx fs) → p ∉ [e.ra, e.fa] → H' p = some o := fun hp n z => ch _ _ hp (fun _ => n) fun w => absurd w z
  have sh : ∀ {S p : Addr}, ShapeAt S H p l f g → ShapeAt S H' p l f g := fun ⟨dx, q⟩ => ⟨dx, ins q (by rfl)⟩
  refine ⟨⟨let ⟨dx, q⟩ := h.me; ⟨dx, ins q (enF_no (by decide +kernel))⟩, sh h.sh, h.lm, h.gd, obj h.td (fun _ _ _ z => nomatch z) (no n2 n3), obj h.bd (fun _ _ _ z => nomatch z) (no n5 n6), fun b hb => obj (h.bl b hb) (fun _ _ _ z => nomatch z) (nin (List.mem_append_left _ (List.mem_map.mpr ⟨b, hb, rfl⟩))), hB, hu, fun x hx => ?_, h.nk, h.kb, h.nd⟩, fun c o ho m n => ch c o ho m fun z => n ?_⟩
  · obtain ⟨h1, h2, ⟨dx, sp, h3, h4⟩, h5, h6⟩ := h.tab x hx
    exact ⟨h1, h2, ⟨dx, sp, ins h3 (tbF_no (by decide +kernel)), sh h4⟩, rep_stay h5 fun a ha o ho => by
      obtain ⟨kvs, hk⟩ := rep_dK2 h5 a ha
      rw [hk] at ho
      cases ho
      exact obj hk (fun _ _ _ z => nomatch z) (nin (List.mem_append_right _ (List.mem_flatMap.mpr ⟨x, hx, ha⟩))), h6⟩
  · rcases List.mem_cons.mp z with rfl | z
    · exact ra_own
    · rw [List.mem_singleton.mp z]; exact fa_own
def sp_euse (A : Adr) : Sp := fun vs H Q _ => ∃ (e : En) (l f g : Int) (m : Nat) (ts : List (Tb m)) (bs : List Bn) (rows : List (Option Rw)) (nb : Nat) (n y : Int), vs = [.ref e.p, .int n, .int y] ∧ EnAt A H e l f g m ts bs rows nb ∧ ∀ H', EnAt A H' e l f g m ts bs (useR rows n y) nb → Ch (own e ts bs) H H' → Q .non H'
theorem h_euse (T : Txt K mg A) : HaveM P w K mg base A.C_Entries "use" 2 ["self", "task", "page"] [] (sp_euse A) := by
  have H_Book_use := h_use (P := P) (w := w) (base := base) T
  refine T.r_Entries_use.have sc_Entries_use (fun vs H Q E z => ?_) ?_
  · obtain ⟨e, l, f, g, m, ts, bs, rows, nb, n, y, rfl, _⟩ := z; rfl
  · intro f cdv A' outer s H vs Q E hr z
    obtain ⟨e, l, f', g, m, ts, bs, rows, nb, n, y, rfl, hE, q⟩ := z
    obtain ⟨dx, h1⟩ := hE.me
    obtain ⟨dxb, vs, kvs, h2, _⟩ := id hE.bk
    refine ⟨_, (pss_one (ps_expr (pe_methE (pe_fld (pvM 0) rfl) T.cl_Book H_Book_use (hr.mono (by decide)) xw_def (pa_cons (pvM 1) (pa_cons (pvM 2) pa_nil))))), ?_⟩
    walk_at "wp"
    simp only [h1]
    walk_at "wp"
    refine ⟨T.cl_Entries, T.na_Entries_book, _, enF_book, e.bk, rfl, dxb, _, h2, bkF_no (by decide +kernel), e.bk, e.ra, e.fa, rows, nb, e.hd, n, y, rfl, hE.bk, fun H' hB k => ?_⟩
    obtain ⟨hE2, ch2⟩ := hE.bput hB (uq_use hE.uq) (fun c o h z => k c o h fun w => z (by rw [List.mem_singleton.mp w]; exact List.mem_cons_self ..))
    exact q H' hE2 ch2
def sp_erem (A : Adr) : Sp := fun vs H Q _ => ∃ (e : En) (l f g : Int) (m : Nat) (ts : List (Tb m)) (bs : List Bn) (rows : List (Option Rw)) (nb : Nat) (x : Tb m) (y : Int), vs = [.ref e.p, .int x.n, .int y] ∧ EnAt A H e l f g m ts bs rows nb ∧ x ∈ ts ∧ 0 ≤ y ∧ y < pw (l * f) ∧ nb < 1000000 ∧ rows.length ≤ 1000 ∧ (rows ≠ [] → 0 ≤ e.hd ∧ e.hd < rows.length) ∧
  (lk (m + 1) x.t (stp l f y) = none → ∀ H', Same H H' → Q .non H') ∧
  (∀ en, lk (m + 1) x.t (stp l f y) = some en → ∀ rows' hd' H', KeepTo rows e.hd x.n y en rows' hd' → EnAt A H' { e with hd := hd' } l f g m ts bs rows' (nb + 1) → ChB e.bk (own e ts bs) H H' → Q .non H')
theorem h_erem (T : Txt K mg A) : HaveM P w K mg base A.C_Entries "remember" 8 ["self", "task", "page"] [] (sp_erem A) := by
  have H_Table_look := h_tlook (P := P) (w := w) (base := base) T
  have H_Book_keep := h_keepG (P := P) (w := w) (base := base) T
  refine T.r_Entries_remember.have sc_Entries_remember (fun vs H Q E z => ?_) ?_
  · obtain ⟨e, l, f, g, m, ts, bs, rows, nb, x, y, rfl, _⟩ := z; rfl
  · intro f cdv A' outer s H vs Q E hr z
    obtain ⟨e, l, f', g, m, ts, bs, rows, nb, x, y, rfl, hE, hx, hy0, hy1, hnb, hrl, hhd, q1, q2⟩ := z
    obtain ⟨dx, h1⟩ := hE.me
    have hT := hE.tab x hx
    obtain ⟨_, _, ⟨dxt, sp, h2, _⟩, _⟩ := id hT
    obtain ⟨dxb, _, _, h3, _⟩ := id hE.bk
    have hv := tb_val hE.nk hx
    refine ⟨_, (pss_cons (ps_set (i := 3) sc_Entries_remember.nd rfl (Or.inl rfl) (pe_methE (pe_dget (hu_of hr) (pe_fld (pvM 0) rfl) (pvM 1) (fun _ _ => rfl)) T.cl_Table H_Table_look (hr.mono (by decide)) xw_def (pa_cons (pvM 2) pa_nil)))
      (pss_one (ps_if (pt_cmpR op_notN (pvM 3) pe_non (nomark _)) (pss_one (ps_expr (pe_methE (pe_fld (pvM 0) rfl) T.cl_Book H_Book_keep (hr.mono (by decide)) xw_def (pa_cons (pvM 1) (pa_cons (pvM 2) (pa_cons (pvM 3) pa_nil)))))) pss_nil))), ?_⟩
    unfold tDGet
    walk_at "wp"
    simp only [h1]
    walk_at "wp"
    refine ⟨T.cl_Entries, T.na_Entries_tables, _, enF_tables, e.td, rfl, _, .inl ⟨tbD ts, Sum.inl x.n, .inl hE.td, rfl, hv.symm⟩, x.p, rfl, dxt, _, h2, tbF_no (by decide +kernel), x.p, y, l, f', g, m, x.t, rfl, hT, ?_⟩
    rw [if_pos ⟨hy0, hy1⟩]
    intro H1 s1
    have hE1 := hE.same s1
    cases e9 : lk (m + 1) x.t (stp l f' y) with
    | none =>
      rw [decide_eq_true (show oV none = V.non from rfl)]
      exact iteF (q1 e9 H1 s1)
    | some en =>
      rw [decide_eq_false (show ¬ oV (some en) = V.non from fun z => nomatch z)]
      refine iteT ⟨_, dx, _, s1 _ _ h1, T.cl_Entries, T.na_Entries_book, _, enF_book, e.bk, rfl, dxb, _, s1 _ _ h3, bkF_no (by decide +kernel), e.bk, e.ra, e.fa, rows, nb, e.hd, x.n, y, en, rfl, hE1.bk, hE.uq, hrl, hhd, hnb, fun rows' hd' H2 hkt hB2 k2 => ?_⟩
      obtain ⟨hE2, ch2⟩ := hE1.bputF hB2 (hkt.facts hE.uq hhd).1 k2
      exact q2 en e9 rows' hd' H2 hkt hE2 ((Ch.same s1).b.trans ch2 fun _ h => .inl h)

def lfV : V → Bool
  | .non => true
  | .bl _ => true
  | .int _ => true
  | .str _ => true
  | _ => false
mutual
def Lks (H : Hp) : Dv → V → Prop
  | .leaf v, x => x = v ∧ lfV v = true
  | .seq t ds, x => ∃ a xs, x = .ref a ∧ H a = some (if t = true then .tup xs else .lst xs) ∧ ds.length < 16777216 ∧ LksL H ds xs
def LksL (H : Hp) : List Dv → List V → Prop
  | [], xs => xs = []
  | d :: ds, xs => ∃ x r, xs = x :: r ∧ Lks H d x ∧ LksL H ds r
end
theorem LksL.len {H : Hp} : ∀ {ds : List Dv} {xs : List V}, LksL H ds xs → xs.length = ds.length
  | [], xs, h => by unfold LksL at h; subst h; rfl
  | d :: ds, xs, h => by
    unfold LksL at h
    obtain ⟨x, r, rfl, _, h⟩ := h
    simp [h.len]
theorem LksL.at {H : Hp} : ∀ {ds : List Dv} {xs : List V} {i : Nat} {d : Dv}, LksL H ds xs → ds[i]? = some d → ∃ x, xs[i]? = some x ∧ Lks H d x
  | [], _, _, _, _, h => by simp at h
  | d :: ds, xs, 0, e, h, hi => by
    unfold LksL at h
    obtain ⟨x, r, rfl, hx, _⟩ := h
    simp at hi
    subst hi
    exact ⟨x, rfl, hx⟩
  | d :: ds, xs, i + 1, e, h, hi => by
    unfold LksL at h
    obtain ⟨x, r, rfl, _, h⟩ := h
    simp at hi
    obtain ⟨y, hy, hl⟩ := h.at hi
    exact ⟨y, by simpa using hy, hl⟩
theorem deepL_at : ∀ {ds : List Dv} {i : Nat} {d : Dv}, ds[i]? = some d → deep d ≤ deepL ds
  | [], _, _, h => by simp at h
  | d :: ds, 0, e, h => by
    simp at h
    subst h
    rw [deepL]; exact Nat.le_max_left ..
  | d :: ds, i + 1, e, h => by
    simp at h
    rw [deepL]; exact Nat.le_trans (deepL_at h) (Nat.le_max_right ..)
mutual
theorem Lks.same {H H' : Hp} : ∀ {d : Dv} {x : V}, Lks H d x → Same H H' → Lks H' d x
  | .leaf v, x, h, _ => by unfold Lks at h ⊢; exact h
  | .seq t ds, x, h, s => by
    unfold Lks at h ⊢
    obtain ⟨a, xs, e, ha, hz, hl⟩ := h
    exact ⟨a, xs, e, s _ _ ha, hz, hl.same s⟩
theorem LksL.same {H H' : Hp} : ∀ {ds : List Dv} {xs : List V}, LksL H ds xs → Same H H' → LksL H' ds xs
  | [], xs, h, _ => by unfold LksL at h ⊢; exact h
  | d :: ds, xs, h, s => by
    unfold LksL at h ⊢
    obtain ⟨x, r, e, hx, hl⟩ := h
    exact ⟨x, r, e, hx.same s, hl.same s⟩
end
def sp_like : Nat → Sp
  | 0 => fun _ _ _ _ => False
  | n + 1 => fun vs H Q _ => ∃ (x y : V) (d : Dv), vs = [x, y] ∧ Lks H d x ∧ Lks H d y ∧ deep d ≤ n ∧ ∀ H', Same H H' → Q (.bl true) H'
theorem ty_no {H : Hp} {a : Addr} {o : HO} {n : String} (h : H a = some o) (e : (kdO (some o) == n || (kdO (some o) == "bool" && n == "int")) = false) : isTy n H (.ref a) = false := by
  unfold isTy
  rw [show kd H (.ref a) = kdO (H a) from rfl, h]; exact e
theorem h_like (T : Txt K mg A) : ∀ n, Have P w K mg base "_law_like" (n + 1) ["_law_found", "_law_due"] [] (sp_like n) := by
  intro n
  induction n with
  | zero => exact T.r_l_like.have sc_l_like (fun vs H Q E z => z.elim) (fun _ _ _ _ _ _ _ _ _ _ z => z.elim)
  | succ n ih =>
    have H_l_like := ih
    refine T.r_l_like.have sc_l_like (fun vs H Q E z => ?_) ?_
    · obtain ⟨x, y, d, rfl, _⟩ := z; rfl
    · intro f cdv A' outer s H vs Q E hr z
      obtain ⟨x, y, d, rfl, hx, hy, hd, q⟩ := z
      refine ⟨_, (pss_cons (ps_if (pt_cmpR op_isN (pvM 1) pe_non (nomark _)) (pss_one (ps_ret (pe_cmpR op_isN (pvM 0) pe_non (nomark _)))) pss_nil)
      (pss_cons (ps_if (pt_val (pe_callB call_isi rfl T.b_isinstance PyProof.Rows.boot_isinstance (pa_cons (pvM 1) (pa_cons (pe_bltnE (n := "bool") rfl T.b_bool PyProof.Rows.boot_bool) pa_nil)))) (pss_one (ps_ret (pe_and (pe_callB call_isi rfl T.b_isinstance PyProof.Rows.boot_isinstance (pa_cons (pvM 0) (pa_cons (pe_bltnE (n := "bool") rfl T.b_bool PyProof.Rows.boot_bool) pa_nil))) (pe_one (pe_cmpR op_eq (pvM 0) (pvM 1) (nomark _)))))) pss_nil)
      (pss_cons (ps_if (pt_val (pe_callB call_isi rfl T.b_isinstance PyProof.Rows.boot_isinstance (pa_cons (pvM 1) (pa_cons (pe_bltnE (n := "int") rfl T.b_int PyProof.Rows.boot_int) pa_nil)))) (pss_one (ps_ret (pe_and (pe_callB call_isi rfl T.b_isinstance PyProof.Rows.boot_isinstance (pa_cons (pvM 0) (pa_cons (pe_bltnE (n := "int") rfl T.b_int PyProof.Rows.boot_int) pa_nil))) (pe_and (pe_not (pe_callB call_isi rfl T.b_isinstance PyProof.Rows.boot_isinstance (pa_cons (pvM 0) (pa_cons (pe_bltnE (n := "bool") rfl T.b_bool PyProof.Rows.boot_bool) pa_nil)))) (pe_one (pe_cmpR op_eq (pvM 0) (pvM 1) (nomark _))))))) pss_nil)
      (pss_cons (ps_if (pt_val (pe_callB call_isi rfl T.b_isinstance PyProof.Rows.boot_isinstance (pa_cons (pvM 1) (pa_cons (pe_bltnE (n := "str") rfl T.b_str PyProof.Rows.boot_str) pa_nil)))) (pss_one (ps_ret (pe_and (pe_callB call_isi rfl T.b_isinstance PyProof.Rows.boot_isinstance (pa_cons (pvM 0) (pa_cons (pe_bltnE (n := "str") rfl T.b_str PyProof.Rows.boot_str) pa_nil))) (pe_one (pe_cmpR op_eq (pvM 0) (pvM 1) (nomark _)))))) pss_nil)
      (pss_cut (ps_if (PW.pt (pw_and (pt_val (pe_callB call_isi rfl T.b_isinstance PyProof.Rows.boot_isinstance (pa_cons (pvM 1) (pa_cons (pe_bltnE (n := "list") rfl T.b_list PyProof.Rows.boot_list) pa_nil)))) (pw_and1 (pt_not (pt_val (pe_callB call_isi rfl T.b_isinstance PyProof.Rows.boot_isinstance (pa_cons (pvM 0) (pa_cons (pe_bltnE (n := "list") rfl T.b_list PyProof.Rows.boot_list) pa_nil)))))))) (pss_one (ps_ret pe_bl)) pss_nil)
      (pss_cut (ps_if (PW.pt (pw_and (pt_val (pe_callB call_isi rfl T.b_isinstance PyProof.Rows.boot_isinstance (pa_cons (pvM 1) (pa_cons (pe_bltnE (n := "tuple") rfl T.b_tuple PyProof.Rows.boot_tuple) pa_nil)))) (pw_and1 (pt_not (pt_val (pe_callB call_isi rfl T.b_isinstance PyProof.Rows.boot_isinstance (pa_cons (pvM 0) (pa_cons (pe_bltnE (n := "tuple") rfl T.b_tuple PyProof.Rows.boot_tuple) pa_nil)))))))) (pss_one (ps_ret pe_bl)) pss_nil)
      (pss_cons (ps_if (pt_cmpR op_ne (pe_callB call_len rfl T.b_len PySem.boot_len (pa_cons (pvM 0) pa_nil)) (pe_callB call_len rfl T.b_len PySem.boot_len (pa_cons (pvM 1) pa_nil)) (nomark _)) (pss_one (ps_ret pe_bl)) pss_nil)
      (pss_cons (ps_forE PassesOwn.leaving rfl (pi_range1 rfl T.b_range (pa_cons (pe_callB call_len rfl T.b_len PySem.boot_len (pa_cons (pvM 1) pa_nil)) pa_nil)) (pg_name (i := 2) sc_l_like.nd rfl (Or.inl rfl)) (pss_one (ps_if (pt_not (pt_val (pe_callE H_l_like (hr.mono (by omega)) xw_def (pa_cons (pe_ix ix_two (pvM 0) (pvM 2) (fun _ _ => rfl)) (pa_cons (pe_ix ix_two (pvM 1) (pvM 2) (fun _ _ => rfl)) pa_nil))))) (pss_one (ps_ret pe_bl)) pss_nil)))
      (pss_one (ps_ret pe_bl)))))))))), ?_⟩
      cases d with
      | leaf v =>
        unfold Lks at hx hy
        obtain ⟨ex, hv⟩ := hx
        obtain ⟨ey, _⟩ := hy
        subst ex
        subst ey
        cases y with
        | non =>
          walk_at "wp"
          exact q _ same_refl
        | bl b =>
          walk_at "wp"
          rw [if_neg (fun z => nomatch z)]
          exact ⟨by decide, iteT ⟨by decide, iteT (q _ same_refl)⟩⟩
        | int i =>
          walk_at "wp"
          rw [if_neg (fun z => nomatch z)]
          exact ⟨by decide, iteF ⟨by decide, iteT ⟨by decide, iteT ⟨by decide, iteT (q _ same_refl)⟩⟩⟩⟩
        | str t =>
          walk_at "wp"
          rw [if_neg (fun z => nomatch z)]
          exact ⟨by decide, iteF ⟨by decide, iteF ⟨by decide, iteT ⟨by decide, iteT (q _ same_refl)⟩⟩⟩⟩
        | _ => cases hv
      | seq t ds =>
        unfold Lks at hx hy
        obtain ⟨a, xs, rfl, ha, hzl, hxs⟩ := hx
        obtain ⟨b, ys, rfl, hb, _, hys⟩ := hy
        have hlx := hxs.len
        have hly := hys.len
        have hdl : deepL ds + 1 ≤ n := by rw [deep] at hd; exact hd
        have step : ∀ (i : Nat) (H' : Hp) (Q' : VK) (E' : XK), i < ds.length → Same H H' → (∀ H'', Same H H'' → Q' (.bl true) H'') → ∃ x y, xs[i]? = some x ∧ ys[i]? = some y ∧ sp_like n [x, y] H' Q' E' := fun i H' Q' E' hi s1 hq => by
          obtain ⟨x, hx1, hx2⟩ := hxs.at (List.getElem?_eq_getElem hi)
          obtain ⟨y, hy1, hy2⟩ := hys.at (List.getElem?_eq_getElem hi)
          refine ⟨x, y, hx1, hy1, ?_⟩
          cases n with
          | zero => omega
          | succ n => exact ⟨x, y, ds[i], rfl, hx2.same s1, hy2.same s1, by have := deepL_at (List.getElem?_eq_getElem hi); omega, fun H'' s2 => hq _ (s1.trans s2)⟩
        walk_at "wp"
        rw [if_neg (fun z => nomatch z)]
        cases t with
        | false =>
          have ha : H a = some (.lst xs) := ha
          have hb : H b = some (.lst ys) := hb
          rw [ty_no hb rfl, ty_no hb rfl, ty_no hb rfl]
          refine ⟨by decide, kn_lst hb, iteF ⟨by decide, kn_lst hb, iteF ⟨by decide, kn_lst hb, iteF ⟨fun σ H' => σ = [some (.ref a), some (.ref b), none] ∧ H' = H, ?_, fun σ' H' => ?_⟩⟩⟩⟩
          · walk_at "wp"
            rw [isTy_lst hb, isTy_lst ha]
            exact ⟨by decide, kn_lst hb, iteT ⟨by decide, kn_lst ha, iteF trivial⟩⟩
          rintro ⟨rfl, rfl⟩
          refine ⟨fun σ H'' => σ = [some (.ref a), some (.ref b), none] ∧ H'' = H', ?_, fun σ' H'' => ?_⟩
          · walk_at "wp"
            rw [ty_no hb rfl]
            exact ⟨by decide, kn_lst hb, iteF (iteF trivial)⟩
          rintro ⟨rfl, rfl⟩
          walk_at "wp"
          refine ⟨_, .inl ⟨_, SqL.of ha, rfl⟩, _, .inl ⟨_, SqL.of hb, rfl⟩, ?_⟩
          rw [decide_eq_true (by omega)]
          refine iteF ⟨_, .inl ⟨_, SqL.of hb, rfl⟩, by omega, by omega, ?_⟩
          refine loop_range (fun i σ H1 => ∃ v2, σ = [some (.ref a), some (.ref b), v2] ∧ Same H'' H1) ⟨_, rfl, same_refl⟩ (fun i σ H1 hi => ?_) (fun σ H1 => ?_)
          · rintro ⟨v2, rfl, s1⟩
            walk_at "wp"
            obtain ⟨x, y, hx1, hy1, hsp⟩ := step i H1 (fun x H2 => ∃ c, x = V.bl c ∧ if (!c) = true then Q (V.bl false) H2 else Same H'' H2) (fun c x H' => E c none H') (by omega) s1 (fun H'' s2 => ⟨true, rfl, iteF s2⟩)
            exact .inl ⟨_, SqL.of (s1 _ _ ha), x, by rw [Int.zero_add]; exact atI_nat hx1, .inl ⟨_, SqL.of (s1 _ _ hb), y, by rw [Int.zero_add]; exact atI_nat hy1, hsp⟩⟩
          · rintro ⟨v2, rfl, s1⟩
            walk_at "wp"
            exact q _ s1
        | true =>
          have ha : H a = some (.tup xs) := ha
          have hb : H b = some (.tup ys) := hb
          rw [ty_no hb rfl, ty_no hb rfl, ty_no hb rfl]
          refine ⟨by decide, kn_tup hb, iteF ⟨by decide, kn_tup hb, iteF ⟨by decide, kn_tup hb, iteF ⟨fun σ H' => σ = [some (.ref a), some (.ref b), none] ∧ H' = H, ?_, fun σ' H' => ?_⟩⟩⟩⟩
          · walk_at "wp"
            rw [ty_no hb rfl]
            exact ⟨by decide, kn_tup hb, iteF (iteF trivial)⟩
          rintro ⟨rfl, rfl⟩
          refine ⟨fun σ H'' => σ = [some (.ref a), some (.ref b), none] ∧ H'' = H', ?_, fun σ' H'' => ?_⟩
          · walk_at "wp"
            rw [isTy_tup hb, isTy_tup ha]
            exact ⟨by decide, kn_tup hb, iteT ⟨by decide, kn_tup ha, iteF trivial⟩⟩
          rintro ⟨rfl, rfl⟩
          walk_at "wp"
          refine ⟨_, .inr ⟨_, SqT.of ha, rfl⟩, _, .inr ⟨_, SqT.of hb, rfl⟩, ?_⟩
          rw [decide_eq_true (by omega)]
          refine iteF ⟨_, .inr ⟨_, SqT.of hb, rfl⟩, by omega, by omega, ?_⟩
          refine loop_range (fun i σ H1 => ∃ v2, σ = [some (.ref a), some (.ref b), v2] ∧ Same H'' H1) ⟨_, rfl, same_refl⟩ (fun i σ H1 hi => ?_) (fun σ H1 => ?_)
          · rintro ⟨v2, rfl, s1⟩
            walk_at "wp"
            obtain ⟨x, y, hx1, hy1, hsp⟩ := step i H1 (fun x H2 => ∃ c, x = V.bl c ∧ if (!c) = true then Q (V.bl false) H2 else Same H'' H2) (fun c x H' => E c none H') (by omega) s1 (fun H'' s2 => ⟨true, rfl, iteF s2⟩)
            exact .inr ⟨_, SqT.of (s1 _ _ ha), x, by rw [Int.zero_add]; exact atI_nat hx1, .inr ⟨_, SqT.of (s1 _ _ hb), y, by rw [Int.zero_add]; exact atI_nat hy1, hsp⟩⟩
          · rintro ⟨v2, rfl, s1⟩
            walk_at "wp"
            exact q _ s1

def T3 (n : Int) : Prop := n = 0 ∨ n = 1 ∨ n = 2
theorem new_at {H : Hp} {p : Addr} {o : HO} (h : H p = none) : Same H (upd H p o) ∧ upd H p o p = some o := ⟨same_upd same_refl h, upd_same⟩
def sp_mix : Sp := fun vs H Q _ => ∃ c k m : Int, vs = [.int c, .int k, .int m] ∧ 0 ≤ k ∧ k ≤ 4 ∧ 0 < m ∧ m ≤ 1000 ∧ ∀ z H', 0 ≤ z → z < m → Same H H' → Q (.int z) H'
theorem h_mix (T : Txt K mg A) : Have P w K mg base "_law_mix" 1 ["_law_cell", "_law_k", "_law_many"] [] sp_mix := by
  refine T.r_l_mix.have sc_l_mix (fun vs H Q E z => ?_) ?_
  · obtain ⟨c, k, m, rfl, _⟩ := z; rfl
  · intro fa cdv A' outer s H vs Q E hr z
    obtain ⟨c, k, m, rfl, hk0, hk1, hm, hm1, q⟩ := z
    refine ⟨_, (pss_cons (ps_if (pt_cmpR op_eq (pe_op op_mod (pe_op op_fdiv (pvM 0) pe_int) pe_int) pe_int (nomark _)) (pss_one (ps_ret (pe_op op_mod (pe_op op_and (pe_op op_shr (pe_op op_fdiv (pvM 0) pe_int) (pe_op op_mul pe_int (pvM 1))) pe_int) (pvM 2)))) pss_nil)
      (@pss_cons _ _ _ _ _ (@ps_set _ _ 3 _ _ _ _ sc_l_mix.nd rfl (Or.inl rfl) (@pe_ix _ _ _ _ _ _ _ ix_lst (@pe_lst _ _ _ _ (@pa_cons _ _ _ _ _ pe_int (@pa_cons _ _ _ _ _ pe_int (@pa_cons _ _ _ _ _ pe_int (@pa_cons _ _ _ _ _ pe_int (@pa_cons _ _ _ _ _ pe_int (@pa_cons _ _ _ _ _ pe_int (@pa_cons _ _ _ _ _ pe_int (@pa_cons _ _ _ _ _ pe_int pa_nil rfl) rfl) rfl) rfl) rfl) rfl) rfl) rfl)) (pe_op op_mod (pvM 1) pe_int) (fun _ _ => rfl)) rfl (Or.inl rfl))
      (pss_cons (ps_set (i := 4) sc_l_mix.nd rfl (Or.inl rfl) (pe_op op_fdiv (pe_op op_mod (pe_op op_add (pe_op op_mul (pvM 0) (pvM 3)) (pe_op op_mul (pe_op op_mul pe_int (pvM 1)) (pvM 1))) pe_int) pe_int))
      (pss_one (ps_ret (pe_op op_mod (pe_op op_fdiv (pe_op op_mod (pe_op op_add (pe_op op_mul (pvM 4) pe_int) (pe_op op_mul pe_int (pvM 1))) pe_int) pe_int) (pvM 2))))))), ?_⟩
    walk_at "wp"
    have em : ∀ z : Int, 0 ≤ z % m ∧ z % m < m := fun z => ⟨Int.emod_nonneg _ (by omega), Int.emod_lt_of_pos _ hm⟩
    refine ite2 (fun _ => ⟨by omega, hm, q _ _ (em _).1 (em _).2 same_refl⟩) (fun _ p hp => ?_)
    obtain ⟨j, rfl⟩ : ∃ j : Nat, k = (j : Int) := ⟨k.toNat, by omega⟩
    have hj8 : ((j : Int)) % 8 = (j : Int) := by omega
    rw [hj8]
    have hx : ∃ x : Int, ([V.int 48271, V.int 69621, V.int 16807, V.int 39373, V.int 30323, V.int 40692, V.int 52774, V.int 45991] : List V)[j]? = some (.int x) ∧ 0 < x ∧ x < 100000 := by
      rcases (by omega : j = 0 ∨ j = 1 ∨ j = 2 ∨ j = 3 ∨ j = 4) with rfl | rfl | rfl | rfl | rfl <;> exact ⟨_, rfl, by decide, by decide⟩
    obtain ⟨x, hx, hx0, hx1⟩ := hx
    exact ⟨_, atI_nat hx, x, rfl, .inr ⟨by omega, by omega⟩, .inr ⟨by omega, by omega⟩, hm, q _ _ (em _).1 (em _).2 (same_upd same_refl hp)⟩
def sp_value : Sp := fun vs H Q _ => ∃ c : Int, vs = [.int c] ∧ ∀ z : Int, Q (.int z) H
theorem h_value (T : Txt K mg A) : Have P w K mg base "_law_value" 1 ["_law_cell"] [] sp_value := by
  refine T.r_l_value.have sc_l_value (fun vs H Q E z => ?_) ?_
  · obtain ⟨c, rfl, _⟩ := z; rfl
  · intro fa cdv A' outer s H vs Q E hr z
    obtain ⟨c, rfl, q⟩ := z
    refine ⟨_, (pss_cons (ps_if (pt_cmpR op_eq (pe_op op_mod (pe_op op_fdiv (pvM 0) pe_int) pe_int) pe_int (nomark _)) (pss_one (ps_ret (pe_op op_mod (pe_op op_shr (pe_op op_fdiv (pvM 0) pe_int) pe_int) (pe_op op_pow pe_int pe_int)))) pss_nil)
      (pss_one (ps_ret (pe_op op_mod (pvM 0) (pe_op op_pow pe_int pe_int))))), ?_⟩
    walk_at "wp"
    exact ite2 (fun _ => q _) (fun _ => q _)
theorem len_put {kvs : List (List Key × V)} {k : List Key} {v : V} : (putK kvs k v).length ≤ kvs.length + 1 := by
  unfold putK
  split
  · rw [List.length_map]; omega
  · rw [List.length_append]; exact Nat.le_refl _
theorem putK_keys {kvs : List (List Key × V)} {k : List Key} {v : V} : (∀ z, z ∈ (putK kvs k v).map (·.1) ↔ z = k ∨ z ∈ kvs.map (·.1)) ∧ ((kvs.map (·.1)).Nodup → ((putK kvs k v).map (·.1)).Nodup) := by
  by_cases c : valV kvs k = none
  · rw [putK_new _ c]
    have hk : k ∉ kvs.map (·.1) := fun h => by
      obtain ⟨p, hp, e⟩ := List.mem_map.mp h
      induction kvs with
      | nil => cases hp
      | cons q r ih =>
        by_cases c1 : q.1 = k
        · rw [valV_pos c1] at c; cases c
        · rw [valV_neg c1] at c
          rcases List.mem_cons.mp hp with rfl | hp
          · exact c1 e
          · exact ih c (List.mem_map.mpr ⟨p, hp, e⟩) hp
    refine ⟨fun z => ?_, fun h => ?_⟩
    · rw [List.map_append, List.mem_append]
      exact ⟨fun h => h.elim .inr fun h => .inl (List.mem_singleton.mp h), fun h => h.elim (fun h => .inr (List.mem_singleton.mpr h)) .inl⟩
    · rw [List.map_append, List.nodup_append]
      exact ⟨h, by simp, fun x hx y hy e => hk (by have hy : y = k := List.mem_singleton.mp hy; rw [← hy, ← e]; exact hx)⟩
  · have hs : (valV kvs k).isSome = true := by cases e : valV kvs k with
      | none => exact absurd e c
      | some _ => rfl
    have e : (putK kvs k v).map (·.1) = kvs.map (·.1) := by
      unfold putK
      rw [valV_any, if_pos hs, List.map_map]
      refine List.map_congr_left fun p _ => ?_
      show (if p.1 = k then (p.1, v) else p).1 = p.1
      split <;> rfl
    have hk : k ∈ kvs.map (·.1) := by
      clear e hs
      induction kvs with
      | nil => exact absurd rfl c
      | cons q r ih =>
        by_cases c1 : q.1 = k
        · rw [List.map_cons, c1]; exact List.mem_cons_self ..
        · rw [valV_neg c1] at c
          exact List.mem_cons_of_mem _ (ih c)
    rw [e]
    exact ⟨fun z => ⟨.inr, fun h => h.elim (fun h => by rw [h]; exact hk) id⟩, id⟩

abbrev Kvt := List (List Key × V)
structure Pt (A : Adr) (H : Hp) (e : En) (l f : Int) (m : Nat) (ts : List (Tb m)) (bs : List Bn) (rows : List (Option Rw)) (nb : Nat) (b2 ra2 fa2 : Addr) (rowsB : List (Option Rw)) (n2 : Nat) (hdB : Int) (kd : Addr) (kvs : Kvt) (sl : Addr) (xs : List V) : Prop where
  en : EnAt A H e l f 0 m ts bs rows nb
  bk2 : BkAt A.C_Book H b2 ra2 fa2 rowsB n2 hdB
  tk : (∀ n, T3 n → ∃ x ∈ ts, x.n = n) ∧ ts.length ≤ 3
  bk : ∀ n, T3 n → ∃ b ∈ bs, b.n = n
  bx : ∀ b ∈ bs, b.xs.length = 64 ∧ ∀ v ∈ b.xs, v = .non ∨ ∃ w, v = V.int w
  ht : H kd = some (.dT kvs)
  hs : H sl = some (.lst xs)
  a1 : kd ∉ own e ts bs
  a2 : ra2 ∉ own e ts bs
  a3 : fa2 ∉ own e ts bs
  a4 : kd ≠ fa2
  a5 : e.bk ≠ b2
  a6 : sl ∉ own e ts bs
  a7 : sl ≠ ra2
section
variable {H H2 : Hp} {e e' : En} {l f : Int} {m : Nat} {ts ts' : List (Tb m)} {bs bs' : List Bn} {rows rows' rowsB rowsB' : List (Option Rw)} {nb nb' n2 n2' : Nat} {hdB hdB' : Int} {b2 ra2 fa2 kd sl : Addr} {kvs kvs' : Kvt} {xs : List V}
theorem Pt.same (h : Pt A H e l f m ts bs rows nb b2 ra2 fa2 rowsB n2 hdB kd kvs sl xs) (s : Same H H2) : Pt A H2 e l f m ts bs rows nb b2 ra2 fa2 rowsB n2 hdB kd kvs sl xs :=
  ⟨h.en.same s, h.bk2.same s, h.tk, h.bk, h.bx, s _ _ h.ht, s _ _ h.hs, h.a1, h.a2, h.a3, h.a4, h.a5, h.a6, h.a7⟩
theorem bk_chB {C b : Addr} {F : List Addr} {p ra fa : Addr} {rows : List (Option Rw)} {n : Nat} {hd : Int} (h : BkAt C H p ra fa rows n hd) (c : ChB b F H H2) (hp : p ≠ b) (h1 : ra ∉ F) (h2 : fa ∉ F) : BkAt C H2 p ra fa rows n hd := by
  obtain ⟨dx, vs, kvs, e1, e2, e3, e4, e5, e6⟩ := h
  refine ⟨dx, vs, kvs, c _ _ e1 (fun z => absurd z hp) fun _ => mut_ins, c _ _ e2 (fun _ _ _ _ z => nomatch z) fun z => absurd z h1, Paired.mapP e3 fun v r hr => ?_, c _ _ e4 (fun _ _ _ _ z => nomatch z) fun z => absurd z h2, e5, e6⟩
  cases r with
  | none => exact hr
  | some r => obtain ⟨a, ea, ha⟩ := hr; exact ⟨a, ea, c _ _ ha (fun _ _ _ _ z => nomatch z) fun _ => mut_tup⟩
theorem Pt.ent (h : Pt A H e l f m ts bs rows nb b2 ra2 fa2 rowsB n2 hdB kd kvs sl xs) (hE : EnAt A H2 e' l f 0 m ts' bs' rows' nb') (c : ChB e.bk (own e ts bs) H H2) (sub : ∀ a ∈ own e' ts' bs', a ∈ own e ts bs ∨ H a = none) (hbk : e'.bk = e.bk)
    (tk : (∀ n, T3 n → ∃ x ∈ ts', x.n = n) ∧ ts'.length ≤ 3) (bk : ∀ n, T3 n → ∃ b ∈ bs', b.n = n) (bx : ∀ b ∈ bs', b.xs.length = 64 ∧ ∀ v ∈ b.xs, v = .non ∨ ∃ w, v = V.int w) : Pt A H2 e' l f m ts' bs' rows' nb' b2 ra2 fa2 rowsB n2 hdB kd kvs sl xs := by
  obtain ⟨dx, vs, kv2, e1, e2, e3, e4, _⟩ := id h.bk2
  have nin : ∀ {a : Addr} {o : HO}, H a = some o → a ∉ own e ts bs → a ∉ own e' ts' bs' := fun ho hn z => (sub _ z).elim hn fun w => by rw [w] at ho; cases ho
  exact ⟨hE, bk_chB h.bk2 c (fun z => h.a5 z.symm) h.a2 h.a3, tk, bk, bx, c _ _ h.ht (fun _ _ _ _ z => nomatch z) fun z => absurd z h.a1, c _ _ h.hs (fun _ _ _ _ z => nomatch z) fun z => absurd z h.a6, nin h.ht h.a1, nin e2 h.a2, nin e4 h.a3, h.a4, by rw [hbk]; exact h.a5, nin h.hs h.a6, h.a7⟩
theorem Pt.bes (h : Pt A H e l f m ts bs rows nb b2 ra2 fa2 rowsB n2 hdB kd kvs sl xs) (hB : BkAt A.C_Book H2 b2 ra2 fa2 rowsB' n2' hdB') (k : Kp [b2, ra2, fa2] H H2) : Pt A H2 e l f m ts bs rows nb b2 ra2 fa2 rowsB' n2' hdB' kd kvs sl xs := by
  obtain ⟨dx, vs, kv2, e1, e2, e3, e4, _⟩ := id h.bk2
  have c : ChB b2 [ra2, fa2] H H2 := fun a o ho m n => k a o ho fun z => by
    rcases List.mem_cons.mp z with z | z
    · rw [z, e1] at ho
      cases ho
      exact m z _ _ _ rfl
    · refine n z ?_
      rcases List.mem_cons.mp z with z | z
      · rw [z, e2] at ho; cases ho; exact mut_lst
      · rw [List.mem_singleton.mp z, e4] at ho; cases ho; exact ⟨(fun _ _ _ z => nomatch z), (fun _ z => nomatch z)⟩
  have nr : ∀ a ∈ own e ts bs, a ∉ [ra2, fa2] := fun a ha z => by
    rcases List.mem_cons.mp z with z | z
    · exact h.a2 (by rw [← z]; exact ha)
    · exact h.a3 (by rw [← List.mem_singleton.mp z]; exact ha)
  refine ⟨h.en.chB c nr (fun D dx fs hp => ⟨_, bk_hand h.bk2 hp⟩) h.a5, hB, h.tk, h.bk, h.bx, c _ _ h.ht (fun _ _ _ _ z => nomatch z) fun z => ?_, c _ _ h.hs (fun _ _ _ _ z => nomatch z) fun z => ?_, h.a1, h.a2, h.a3, h.a4, h.a5, h.a6, h.a7⟩
  · rcases List.mem_cons.mp z with z | z
    · have := h.ht; rw [z, e2] at this; cases this
    · exact absurd (List.mem_singleton.mp z) h.a4
  · rcases List.mem_cons.mp z with z | z
    · exact absurd z h.a7
    · have := h.hs; rw [List.mem_singleton.mp z, e4] at this; cases this
theorem mut_dt {kvs : Kvt} : Mut (.dT kvs) := ⟨(fun _ _ _ z => nomatch z), (fun _ z => nomatch z)⟩
theorem Pt.kep (h : Pt A H e l f m ts bs rows nb b2 ra2 fa2 rowsB n2 hdB kd kvs sl xs) : Pt A (upd H kd (.dT kvs')) e l f m ts bs rows nb b2 ra2 fa2 rowsB n2 hdB kd kvs' sl xs := by
  obtain ⟨dx, vs, kv2, e1, e2, e3, e4, _⟩ := id h.bk2
  have c : Ch [kd] H (upd H kd (.dT kvs')) := ch_upd h.ht mut_dt
  refine ⟨h.en.ch c fun a ha z => h.a1 (by rw [← List.mem_singleton.mp z]; exact ha), bk_ch h.bk2 c (fun z => ?_) (fun z => h.a4 (List.mem_singleton.mp z).symm), h.tk, h.bk, h.bx, upd_same, c _ _ h.hs fun z => ?_, h.a1, h.a2, h.a3, h.a4, h.a5, h.a6, h.a7⟩
  · rw [List.mem_singleton.mp z, h.ht] at e2; cases e2
  · have := h.hs; rw [List.mem_singleton.mp z, h.ht] at this; cases this
end
theorem val_iff : ∀ {kvs : Kvt}, (kvs.map (·.1)).Nodup → ∀ {k : List Key} {v : V}, valV kvs k = some v ↔ (k, v) ∈ kvs
  | [], _, k, v => by constructor <;> intro h <;> cases h
  | p :: r, nd, k, v => by
    rw [List.map_cons, List.nodup_cons] at nd
    by_cases c : p.1 = k
    · rw [valV_pos c]
      constructor
      · intro h
        cases h
        rw [← c]
        exact List.mem_cons_self ..
      · intro h
        rcases List.mem_cons.mp h with rfl | h
        · rfl
        · exact absurd (List.mem_map.mpr ⟨_, h, c.symm⟩) nd.1
    · rw [valV_neg c, val_iff nd.2]
      constructor
      · exact fun h => List.mem_cons_of_mem _ h
      · intro h
        rcases List.mem_cons.mp h with rfl | h
        · exact absurd rfl c
        · exact h
theorem ky_inj {t g t' g' : Int} (h : ky t g = ky t' g') : t = t' ∧ g = g' := by
  unfold ky at h
  simp only [List.cons.injEq, Sum.inl.injEq, and_true] at h
  exact h
def Ag (l f : Int) (m : Nat) (ts : List (Tb m)) (kvs : Kvt) : Prop := ∀ x ∈ ts, ∀ y, 0 ≤ y → y < pw (l * f) → (lk (m + 1) x.t (stp l f y)).map V.int = valV kvs (ky x.n y)
def Tr (rows : List (Option Rw)) (kvs : Kvt) : Prop := ∀ (j : Nat) (r : Rw), rows[j]? = some (some r) → valV kvs (ky r.t r.g) = some (.int r.e)
structure Wf (kvs : Kvt) : Prop where
  nk : (kvs.map (·.1)).Nodup
  wf : ∀ p ∈ kvs, ∃ n y w, p = (ky n y, V.int w)
theorem Wf.val {kvs : Kvt} (h : Wf kvs) {k : List Key} {v : V} (hv : valV kvs k = some v) : ∃ w, v = .int w := by
  obtain ⟨n, y, w, e9⟩ := h.wf _ ((val_iff h.nk).mp hv)
  exact ⟨w, (Prod.mk.inj e9).2⟩
def Wt (A : Adr) (l f : Int) (m : Nat) (p b2 ra2 fa2 kd sl : Addr) (xs : List V) (i : Nat) (H : Hp) : Prop := ∃ (e : En) (ts : List (Tb m)) (bs : List Bn) (rows : List (Option Rw)) (nb n2 : Nat) (kvs : Kvt), e.p = p ∧ Pt A H e l f m ts bs rows nb b2 ra2 fa2 rows n2 e.hd kd kvs sl xs ∧ Ag l f m ts kvs ∧ Tr rows kvs ∧ Wf kvs ∧ rows.length ≤ 64 ∧ (rows ≠ [] → 0 ≤ e.hd ∧ e.hd < rows.length) ∧ nb ≤ i ∧ n2 ≤ i ∧ kvs.length ≤ i
theorem Wt.same {l f : Int} {m : Nat} {p b2 ra2 fa2 kd sl : Addr} {xs : List V} {i : Nat} {H H2 : Hp} (h : Wt A l f m p b2 ra2 fa2 kd sl xs i H) (s : Same H H2) : Wt A l f m p b2 ra2 fa2 kd sl xs i H2 := by
  obtain ⟨e, ts, bs, rows, nb, n2, kvs, e1, hP, r⟩ := h
  exact ⟨e, ts, bs, rows, nb, n2, kvs, e1, hP.same s, r⟩
theorem Wt.more {l f : Int} {m : Nat} {p b2 ra2 fa2 kd sl : Addr} {xs : List V} {i : Nat} {H : Hp} (h : Wt A l f m p b2 ra2 fa2 kd sl xs i H) : Wt A l f m p b2 ra2 fa2 kd sl xs (i + 1) H := by
  obtain ⟨e, ts, bs, rows, nb, n2, kvs, e1, hP, h1, h2, h3, h4, h5, h6, h7, h8⟩ := h
  exact ⟨e, ts, bs, rows, nb, n2, kvs, e1, hP, h1, h2, h3, h4, h5, by omega, by omega, by omega⟩
theorem strike_row {rows : List (Option Rw)} {t g : Int} {j : Nat} {r : Rw} (hu : Uq rows) (h : (strikeR rows t g)[j]? = some (some r)) : rows[j]? = some (some r) ∧ ¬ (r.t = t ∧ r.g = g) := by
  unfold strikeR at h
  cases c : bfnd rows t g with
  | none =>
    rw [c] at h
    exact ⟨h, bfnd_key c h⟩
  | some i =>
    rw [c] at h
    have h : (rows.set i none)[j]? = some (some r) := h
    rw [List.getElem?_set] at h
    split at h
    · split at h <;> cases h
    · rename_i ne
      obtain ⟨s, hs, e1, e2⟩ := bfnd_some c
      exact ⟨h, fun z => ne (hu i j s r hs h (by rw [e1, z.1]) (by rw [e2, z.2]))⟩
theorem strike_len {rows : List (Option Rw)} {t g : Int} : (strikeR rows t g).length = rows.length := by
  unfold strikeR
  cases bfnd rows t g with
  | none => rfl
  | some j => exact List.length_set
theorem len_ne {a b : List (Option Rw)} (h : a.length = b.length) (z : a ≠ []) : b ≠ [] := fun w => z (List.length_eq_zero_iff.mp (by rw [h, w]; rfl))
theorem drop_nd {kvs : Kvt} {k : List Key} (h : (kvs.map (·.1)).Nodup) : ((dropK kvs k).map (·.1)).Nodup := h.sublist (List.Sublist.map _ List.filter_sublist)
theorem put_mem {kvs : Kvt} {k : List Key} {v : V} {p : List Key × V} (h : p ∈ putK kvs k v) : p = (k, v) ∨ p ∈ kvs := by
  unfold putK at h
  split at h
  · obtain ⟨q, hq, rfl⟩ := List.mem_map.mp h
    split
    · rename_i c
      exact .inl (by rw [c])
    · exact .inr hq
  · rcases List.mem_append.mp h with h | h
    · exact .inr h
    · exact .inl (List.mem_singleton.mp h)
theorem upd_self {H : Hp} {a : Addr} {o : HO} (h : H a = some o) : upd H a o = H := by
  funext b
  by_cases hb : b = a
  · rw [hb, upd_same]; exact h.symm
  · rw [upd_ne hb]
theorem Wf.put {kvs : Kvt} {n y w : Int} (h : Wf kvs) : Wf (putK kvs (ky n y) (.int w)) := ⟨putK_keys.2 h.nk, fun p hp => (put_mem hp).elim (fun e => ⟨n, y, w, e⟩) (h.wf p)⟩
theorem Wf.drop {kvs : Kvt} {k : List Key} (h : Wf kvs) : Wf (dropK kvs k) := ⟨drop_nd h.nk, fun p hp => h.wf p (List.mem_filter.mp hp).1⟩
theorem Ag.upd {l f : Int} {m : Nat} {ts : List (Tb m)} {kvs kvs' : Kvt} {x : Tb m} {y : Int} {o : Option Int} {t' : TT (m + 1)} (h : Ag l f m ts kvs) (nk : (ts.map Tb.n).Nodup) (hg : gd l f 0) (hx : x ∈ ts) (hy : 0 ≤ y ∧ y < pw (l * f)) (hl : ∀ r, lk (m + 1) t' r = if r = stp l f y then o else lk (m + 1) x.t r) (hv : ∀ k, valV kvs' k = if k = ky x.n y then o.map V.int else valV kvs k) : Ag l f m (setTb x.n t' ts) kvs' := fun z hz y' h0 h1 => by
  rw [hv]
  obtain ⟨q, hq, ⟨e9, rfl⟩ | ⟨e9, rfl⟩⟩ := setTb_mem hz
  · obtain rfl := tb_inj nk hq hx e9
    show (lk (m + 1) t' (stp l f y')).map V.int = if ky q.n y' = ky q.n y then _ else valV kvs (ky q.n y')
    rw [hl]
    by_cases c : y' = y
    · rw [c, if_pos rfl, if_pos rfl]
    · rw [if_neg (fun z => c (stp_inj hg ⟨h0, h1⟩ hy z)), if_neg (fun z => c (ky_inj z).2)]
      exact h q hx y' h0 h1
  · rw [if_neg (fun w => e9 (ky_inj w).1)]
    exact h z hq y' h0 h1
theorem tk_set {m : Nat} {ts : List (Tb m)} {n : Int} {t' : TT (m + 1)} (h : (∀ k, T3 k → ∃ x ∈ ts, x.n = k) ∧ ts.length ≤ 3) : (∀ k, T3 k → ∃ x ∈ setTb n t' ts, x.n = k) ∧ (setTb n t' ts).length ≤ 3 := by
  refine ⟨fun k hk => ?_, by unfold setTb; rw [List.length_map]; exact h.2⟩
  obtain ⟨x, hx, e⟩ := h.1 k hk
  have : k ∈ (setTb n t' ts).map Tb.n := by rw [setTb_n]; exact List.mem_map.mpr ⟨x, hx, e⟩
  obtain ⟨y, hy, e2⟩ := List.mem_map.mp this
  exact ⟨y, hy, e2⟩

section
variable {H H2 : Hp} {e : En} {l f : Int} {m : Nat} {ts ts' : List (Tb m)} {bs bs' : List Bn} {rows rows' : List (Option Rw)} {nb n2 i : Nat} {b2 ra2 fa2 kd sl : Addr} {kvs kvs' : Kvt} {xs : List V}
theorem Pt.changed {x : Tb m} {y : Int} {o : Option Int} {t' : TT (m + 1)} (hP : Pt A H e l f m (setTb x.n t' ts) bs (strikeR rows x.n y) nb b2 ra2 fa2 (strikeR rows x.n y) n2 e.hd kd kvs' sl xs) (hAg : Ag l f m ts kvs) (hTr : Tr rows kvs) (hu : Uq rows) (nk : (ts.map Tb.n).Nodup) (hx : x ∈ ts) (hy : 0 ≤ y ∧ y < pw (l * f)) (hl : ∀ r, lk (m + 1) t' r = if r = stp l f y then o else lk (m + 1) x.t r) (hv : ∀ k, valV kvs' k = if k = ky x.n y then o.map V.int else valV kvs k) (hWf : Wf kvs') (hkl : kvs'.length ≤ i + 1) (hrl : rows.length ≤ 64) (hhd : rows ≠ [] → 0 ≤ e.hd ∧ e.hd < rows.length) (hnb : nb ≤ i) (hn2 : n2 ≤ i) : Wt A l f m e.p b2 ra2 fa2 kd sl xs (i + 1) H := by
  refine ⟨e, _, bs, _, nb, n2, kvs', rfl, hP, hAg.upd nk hP.en.gd hx hy hl hv, fun j r hj => ?_, hWf, by rw [strike_len]; exact hrl, fun z => ?_, by omega, by omega, hkl⟩
  · obtain ⟨h1, h2⟩ := strike_row hu hj
    rw [hv, if_neg (fun z => h2 (ky_inj z))]
    exact hTr j r h1
  · rw [strike_len]
    exact hhd (len_ne strike_len z)
theorem Pt.idle (hP : Pt A H e l f m ts bs rows nb b2 ra2 fa2 rows n2 e.hd kd kvs' sl xs) (hAg : Ag l f m ts kvs) (hTr : Tr rows kvs) (hv : ∀ k, valV kvs' k = valV kvs k) (hWf : Wf kvs') (hkl : kvs'.length ≤ i + 1) (hrl : rows.length ≤ 64) (hhd : rows ≠ [] → 0 ≤ e.hd ∧ e.hd < rows.length) (hnb : nb ≤ i) (hn2 : n2 ≤ i) : Wt A l f m e.p b2 ra2 fa2 kd sl xs (i + 1) H :=
  ⟨e, ts, bs, rows, nb, n2, kvs', rfl, hP, fun x hx y h0 h1 => by rw [hv]; exact hAg x hx y h0 h1, fun j r hj => by rw [hv]; exact hTr j r hj, hWf, hrl, hhd, by omega, by omega, hkl⟩
end
theorem ifn {p q : Prop} {b : Bool} (h : b = false) (x : q) : if b = true then p else q := by rw [h]; exact x
theorem ifp {p q : Prop} {b : Bool} (h : b = true) (x : p) : if b = true then p else q := by rw [h]; exact x
def sp_change (A : Adr) : Sp := fun vs H Q _ => ∃ (l f : Int) (m : Nat) (p b2 ra2 fa2 kd sl : Addr) (xs : List V) (i : Nat) (n y c : Int), vs = [.ref p, .ref kd, .ref b2, .int n, .int y, .int c] ∧ Wt A l f m p b2 ra2 fa2 kd sl xs i H ∧ T3 n ∧ 0 ≤ y ∧ y < pw (l * f) ∧ i < 1000 ∧ ∀ H', Wt A l f m p b2 ra2 fa2 kd sl xs (i + 1) H' → Q .non H'
theorem h_change (T : Txt K mg A) : Have P w K mg base "_law_change" 9 ["_law_entries", "_law_kept", "_law_beside", "_law_task", "_law_page", "_law_cell"] [] (sp_change A) := by
  have H_l_value := h_value (P := P) (w := w) (base := base) T
  have H_Entries_take := h_etake (P := P) (w := w) (base := base) T
  have H_Entries_put := h_eputs (P := P) (w := w) (base := base) T
  have H_Book_strike := h_strk (P := P) (w := w) (base := base) T
  refine T.r_l_change.have sc_l_change (fun vs H Q E z => ?_) ?_
  · obtain ⟨l, f, m, p, b2, ra2, fa2, kd, sl, xs, i, n, y, c, rfl, _⟩ := z; rfl
  · intro fa cdv A' outer s H vs Q E hr z
    obtain ⟨l, f, m, p, b2, ra2, fa2, kd, sl, xs, i, n, y, c, rfl, hW, hn, hy0, hy1, hi, q⟩ := z
    obtain ⟨e, ts, bs, rows, nb, n2, kvs, rfl, hP, hAg, hTr, hWf, hrl, hhd, hnb, hn2, hkl⟩ := hW
    obtain ⟨x, hx, rfl⟩ := hP.tk.1 n hn
    refine ⟨_, (pss_cons (ps_set (i := 6) sc_l_change.nd rfl (Or.inl rfl) (pe_tup (pa_cons pe_str (pa_cons (pvM 3) (pa_cons (pvM 4) pa_nil)))))
      (pss_cons (ps_set (i := 7) sc_l_change.nd rfl (Or.inl rfl) (pe_op op_mod (pvM 5) pe_int))
      (pss_cons (ps_set (i := 8) sc_l_change.nd rfl (Or.inl rfl) (pe_callE H_l_value (hr.mono (by decide)) xw_def (pa_cons (pvM 5) pa_nil)))
      (pss_cons (ps_set (i := 9) sc_l_change.nd rfl (Or.inl rfl) (pe_dget2 (hu_of hr) (pvM 1) (pe_tup (pa_cons (pvM 3) (pa_cons (pvM 4) pa_nil))) pe_non ⟨rfl, rfl, rfl, rfl⟩))
      (pss_cons (ps_if (pt_cmpR op_eq (pvM 7) pe_int (nomark _)) (pss_cons (ps_expr (pe_methE (pvM 0) T.cl_Entries H_Entries_take (hr.mono (by decide)) xw_def (pa_cons (pvM 6) pa_nil)))
      (pss_cons (ps_expr (pe_methE (pvM 2) T.cl_Book H_Book_strike (hr.mono (by decide)) xw_def (pa_cons (pvM 3) (pa_cons (pvM 4) pa_nil))))
      (pss_cons (ps_if (pt_cmpR op_notN (pvM 9) pe_non (nomark _)) (pss_one (ps_expr (pe_dpopT (hu_of hr) (pvM 1) (pe_tup (pa_cons (pvM 3) (pa_cons (pvM 4) pa_nil))) ⟨rfl, rfl, rfl, rfl⟩))) pss_nil)
      (pss_one ps_retN)))) pss_nil)
      (pss_cut (ps_if (PW.pt (pw_and (pt_cmpR op_eq (pvM 7) pe_int (nomark _)) (pw_and1 (pt_cmpR op_notN (pvM 9) pe_non (nomark _))))) (pss_one (ps_set (i := 8) sc_l_change.nd rfl (Or.inl rfl) (pvM 9))) pss_nil)
      (pss_cons (ps_expr (pe_methE (pvM 0) T.cl_Entries H_Entries_put (hr.mono (by decide)) xw_def (pa_cons (pvM 6) (pa_cons (pvM 8) pa_nil))))
      (pss_cons (ps_dput (hu_of hr) (pvM 1) (pe_tup (pa_cons (pvM 3) (pa_cons (pvM 4) pa_nil))) (pvM 8) rfl)
      (pss_one (ps_if (pt_cmpR op_ne (pvM 9) (pvM 8) (nomark _)) (pss_one (ps_expr (pe_methE (pvM 2) T.cl_Book H_Book_strike (hr.mono (by decide)) xw_def (pa_cons (pvM 3) (pa_cons (pvM 4) pa_nil))))) pss_nil)))))))))), ?_⟩
    unfold sp_value tDGet2 tDPopT
    walk_at "wp"
    intro h hh
    obtain ⟨s1, g1⟩ := new_at (o := .tup [V.str (Str.ofString "task"), V.int x.n, V.int y]) hh
    generalize upd H h _ = H1 at *
    intro z
    have hP1 := hP.same s1
    refine ⟨.inr ⟨_, .inl hP1.ht⟩, fun k hk0 => ?_⟩
    obtain ⟨s2, g2⟩ := new_at (o := .tup [V.int x.n, V.int y]) hk0
    generalize upd H1 k _ = H2 at *
    have hP2 := hP1.same s2
    have gh2 := s2 _ _ g1
    refine ⟨_, .inr ⟨kvs, ky x.n y, k, .inl hP2.ht, rfl, g2, rfl⟩, ?_⟩
    clear hP hP1 s1 s2 hh hk0 g1
    obtain ⟨dx, he1⟩ := hP2.en.me
    have huq := hP2.en.uq
    have hsz := PySem.sizeLine_eq
    have hag := hAg x hx y hy0 hy1
    refine ite2 (fun _ => ?_) (fun _ => ?_)
    · refine ⟨dx, _, he1, enF_no (by decide +kernel), .inl ⟨e, l, f, 0, m, ts, bs, rows, nb, h, x, y, rfl, hP2.en, gh2, hx, hy0, hy1, fun H3 t' hE3 hlk ch sub => ?_⟩⟩
      have hP3 := hP2.ent hE3 ch.b sub rfl (tk_set hP2.tk) hP2.bk hP2.bx
      obtain ⟨dxb, vb, kb, hb1, _⟩ := id hP3.bk2
      refine ⟨dxb, _, hb1, bkF_no (by decide +kernel), b2, ra2, fa2, rows, n2, e.hd, x.n, y, rfl, hP3.bk2, huq, fun H4 hB4 k4 => ?_⟩
      have hP4 := hP3.bes hB4 (fun c o ho z => k4 c o ho fun w => z (List.mem_cons_of_mem _ w))
      have hdl : (dropK kvs (ky x.n y)).length ≤ kvs.length := List.length_filter_le ..
      cases e9 : valV kvs (ky x.n y) with
      | some v =>
        obtain ⟨u, rfl⟩ := hWf.val e9
        refine iteT ⟨.inr ⟨_, .inl hP4.ht⟩, fun k5 hk5 => ?_⟩
        obtain ⟨s5, g5⟩ := new_at (o := .tup [V.int x.n, V.int y]) hk5
        generalize upd H4 k5 _ = H5 at *
        have hP5 := hP4.same s5
        exact ⟨kvs, hP5.ht, ky x.n y, rfl, _, e9, q _ (hP5.kep.changed (o := none) hAg hTr huq hP2.en.nk hx ⟨hy0, hy1⟩ hlk (fun j => valV_drop) hWf.drop (by omega) hrl hhd hnb hn2)⟩
      | none =>
        refine iteF (q _ (hP4.changed (o := none) hAg hTr huq hP2.en.nk hx ⟨hy0, hy1⟩ hlk (fun j => ?_) hWf (by omega) hrl hhd hnb hn2))
        split
        · rename_i c9; rw [c9, e9]; rfl
        · rfl
    · refine ⟨fun σ G => ∃ u, σ = [some (.ref e.p), some (.ref kd), some (.ref b2), some (.int x.n), some (.int y), some (.int c), some (.ref h), some (.int (c % 10)), some (.int u), some ((valV kvs (ky x.n y)).getD .non)] ∧ G = H2, ?_, fun σ3 G3 => ?_⟩
      · walk_at "wp"
        cases e9 : valV kvs (ky x.n y) with
        | none => exact ite2 (fun _ => iteF trivial) (fun _ => iteF trivial)
        | some v =>
          obtain ⟨w9, rfl⟩ := hWf.val e9
          exact ite2 (fun _ => iteT ⟨w9, rfl⟩) (fun _ => iteF trivial)
      rintro ⟨u, rfl, rfl⟩
      unfold sDPut
      walk_at "wp"
      refine ⟨dx, _, he1, enF_no (by decide +kernel), .inl ⟨e, l, f, 0, m, ts, bs, rows, nb, h, x, y, u, rfl, hP2.en, gh2, hx, hy0, hy1, ?_⟩⟩
      split
      · rename_i c9
        intro H3 s3 k5 hk5
        obtain ⟨s5, g5⟩ := new_at (o := .tup [V.int x.n, V.int y]) hk5
        generalize upd H3 k5 _ = H5 at *
        have hP5 := (hP2.same s3).same s5
        rw [c9] at hag
        have hag : valV kvs (ky x.n y) = some (.int u) := hag.symm
        rw [hag]
        have L1 := len_put (kvs := kvs) (k := ky x.n y) (v := V.int u)
        refine ⟨_, .inr ⟨kvs, ky x.n y, k5, hP5.ht, rfl, g5, by omega, rfl⟩, rfl, ifn (by simp) (q _ (hP5.kep.idle hAg hTr (fun j => ?_) hWf.put (by omega) hrl hhd hnb hn2))⟩
        rw [valV_put]
        split
        · rename_i c8; rw [c8, hag]
        · rfl
      · rename_i c9
        intro H3 t' hE3 hlk ch sub
        have hP3 := hP2.ent hE3 ch.b sub rfl (tk_set hP2.tk) hP2.bk hP2.bx
        intro k5 hk5
        obtain ⟨s5, g5⟩ := new_at (o := .tup [V.int x.n, V.int y]) hk5
        generalize upd H3 k5 _ = H5 at *
        have hP5 := hP3.same s5
        have L1 := len_put (kvs := kvs) (k := ky x.n y) (v := V.int u)
        have hP6 := hP5.kep (kvs' := putK kvs (ky x.n y) (.int u))
        refine ⟨_, .inr ⟨kvs, ky x.n y, k5, hP5.ht, rfl, g5, by omega, rfl⟩, ?_, ?_⟩
        · cases e9 : valV kvs (ky x.n y) with
          | none => rfl
          | some v => obtain ⟨w9, rfl⟩ := hWf.val e9; rfl
        · have hne : ¬ (valV kvs (ky x.n y)).getD V.non = V.int u := fun z => c9 (by
            rw [← hag] at z
            cases e9 : lk (m + 1) x.t (stp l f y) with
            | none => rw [e9] at z; cases z
            | some w9 => rw [e9] at z; cases z; rfl)
          obtain ⟨dxb, vb, kb, hb1, _⟩ := id hP6.bk2
          refine ifp (by simp [hne]) ⟨dxb, _, hb1, bkF_no (by decide +kernel), b2, ra2, fa2, rows, n2, e.hd, x.n, y, rfl, hP6.bk2, huq, fun H7 hB7 k7 => ?_⟩
          have hP7 := hP6.bes hB7 (fun c o ho z => k7 c o ho fun w => z (List.mem_cons_of_mem _ w))
          exact q _ (hP7.changed (o := some u) hAg hTr huq hP2.en.nk hx ⟨hy0, hy1⟩ hlk (fun j => valV_put _ _ _ _) hWf.put (by omega) hrl hhd hnb hn2)

def Tells (rows : List (Option Rw)) (t g e : Int) : Prop := ∃ (j : Nat) (r : Rw), rows[j]? = some (some r) ∧ r.t = t ∧ r.g = g ∧ r.e = e
theorem bfnd_has {rows : List (Option Rw)} {t g : Int} {j : Nat} {r : Rw} (h : rows[j]? = some (some r)) (e1 : r.t = t) (e2 : r.g = g) : ∃ i, bfnd rows t g = some i := by
  cases e : bfnd rows t g with
  | some i => exact ⟨i, rfl⟩
  | none => exact absurd ⟨e1, e2⟩ (bfnd_key e h)
theorem look_tells {rows : List (Option Rw)} {t g e : Int} (hu : Uq rows) (h : Tells rows t g e) : lookE rows t g = .int e := by
  obtain ⟨j, r, hr, e1, e2, e3⟩ := h
  obtain ⟨i, hi⟩ := bfnd_has hr e1 e2
  obtain ⟨s, hs, e4, e5⟩ := bfnd_some hi
  have : i = j := hu i j s r hs hr (by rw [e4, e1]) (by rw [e5, e2])
  subst this
  rw [hr] at hs
  cases hs
  unfold lookE
  rw [hi]
  show (match rows[i]? with | some (some r) => V.int r.e | _ => .non) = _
  rw [hr]
  show V.int r.e = V.int e
  rw [e3]
theorem look_none {rows : List (Option Rw)} {t g : Int} (h : ∀ (j : Nat) (r : Rw), rows[j]? = some (some r) → ¬ (r.t = t ∧ r.g = g)) : lookE rows t g = .non := by
  unfold lookE
  cases e : bfnd rows t g with
  | none => rfl
  | some i =>
    obtain ⟨r, hr, e1, e2⟩ := bfnd_some e
    exact absurd ⟨e1, e2⟩ (h i r hr)
theorem off_key {t : Int} {rows : List (Option Rw)} {j : Nat} {r : Rw} (h : (offT t rows)[j]? = some (some r)) : rows[j]? = some (some r) ∧ r.t ≠ t := by
  unfold offT at h
  rw [List.getElem?_map] at h
  cases e : rows[j]? with
  | none => rw [e] at h; cases h
  | some v =>
    rw [e] at h
    cases v with
    | none => cases h
    | some v =>
      have h : some (if v.t = t then none else some v) = some (some r) := h
      split at h
      · cases h
      · cases h; exact ⟨rfl, ‹_›⟩

theorem bk_set {bs : List Bn} {n : Int} {xs : List V} (h : ∀ k, T3 k → ∃ b ∈ bs, b.n = k) : ∀ k, T3 k → ∃ b ∈ setBn n xs bs, b.n = k := fun k hk => by
  obtain ⟨x, hx, e⟩ := h k hk
  have : k ∈ (setBn n xs bs).map Bn.n := by rw [setBn_n]; exact List.mem_map.mpr ⟨x, hx, e⟩
  obtain ⟨y, hy, e2⟩ := List.mem_map.mp this
  exact ⟨y, hy, e2⟩
theorem bx_set {bs : List Bn} {b : Bn} {j : Nat} {u : V} (h : ∀ b ∈ bs, b.xs.length = 64 ∧ ∀ v ∈ b.xs, v = .non ∨ ∃ w, v = V.int w) (hb : b ∈ bs) (hu : u = .non ∨ ∃ w, u = V.int w) : ∀ c ∈ setBn b.n (b.xs.set j u) bs, c.xs.length = 64 ∧ ∀ v ∈ c.xs, v = .non ∨ ∃ w, v = V.int w := fun c hc => by
  obtain ⟨q, hq, ⟨e9, rfl⟩ | ⟨e9, rfl⟩⟩ := setBn_mem hc
  · refine ⟨by show (b.xs.set j u).length = 64; rw [List.length_set]; exact (h b hb).1, fun v hv => ?_⟩
    rcases List.mem_or_eq_of_mem_set (show v ∈ b.xs.set j u from hv) with z | z
    · exact (h b hb).2 v z
    · rw [z]; exact hu
  · exact h c hq
def sp_bdeed (A : Adr) : Sp := fun vs H Q _ => ∃ (l f : Int) (m : Nat) (p b2 ra2 fa2 kd sl : Addr) (xs : List V) (i : Nat) (n j c : Int), vs = [.ref p, .int n, .int j, .int c] ∧ Wt A l f m p b2 ra2 fa2 kd sl xs i H ∧ T3 n ∧ 0 ≤ j ∧ j < 64 ∧ ∀ H', Wt A l f m p b2 ra2 fa2 kd sl xs (i + 1) H' → Q .non H'
theorem h_bdeed (T : Txt K mg A) : Have P w K mg base "_law_bank_deed" 9 ["_law_entries", "_law_bank", "_law_page", "_law_cell"] [] (sp_bdeed A) := by
  have H_l_value := h_value (P := P) (w := w) (base := base) T
  have H_l_mix := h_mix (P := P) (w := w) (base := base) T
  have H_Entries_take := h_etake (P := P) (w := w) (base := base) T
  have H_Entries_put := h_eputs (P := P) (w := w) (base := base) T
  refine T.r_l_bank_deed.have sc_l_bank_deed (fun vs H Q E z => ?_) ?_
  · obtain ⟨l, f, m, p, b2, ra2, fa2, kd, sl, xs, i, n, j, c, rfl, _⟩ := z; rfl
  · intro fa cdv A' outer s H vs Q E hr z
    obtain ⟨l, f, m, p, b2, ra2, fa2, kd, sl, xs, i, n, j, c, rfl, hW, hn, hj0, hj1, q⟩ := z
    refine ⟨_, (pss_one (ps_if (pt_cmpR op_eq (pe_callE H_l_mix (hr.mono (by decide)) xw_def (pa_cons (pvM 3) (pa_cons pe_int (pa_cons pe_int pa_nil)))) pe_int (nomark _)) (pss_one (ps_expr (pe_methE (pvM 0) T.cl_Entries H_Entries_take (hr.mono (by decide)) xw_def (pa_cons (pe_tup (pa_cons pe_str (pa_cons (pvM 1) (pa_cons (pvM 2) pa_nil)))) pa_nil)))) (pss_one (ps_expr (pe_methE (pvM 0) T.cl_Entries H_Entries_put (hr.mono (by decide)) xw_def (pa_cons (pe_tup (pa_cons pe_str (pa_cons (pvM 1) (pa_cons (pvM 2) pa_nil)))) (pa_cons (pe_callE H_l_value (hr.mono (by decide)) xw_def (pa_cons (pvM 3) pa_nil)) pa_nil))))))), ?_⟩
    unfold sp_value sp_mix
    walk_at "wp"
    intro z H1 _ _ s1
    have hW1 := hW.same s1
    obtain ⟨e, ts, bs, rows, nb, n2, kvs, rfl, hP, hr⟩ := hW1
    obtain ⟨b, hb, rfl⟩ := hP.bk n hn
    obtain ⟨j, rfl⟩ : ∃ k : Nat, j = (k : Int) := ⟨j.toNat, by omega⟩
    have hlt : j < b.xs.length := by rw [(hP.bx b hb).1]; omega
    have fin : ∀ {H3 : Hp} {u : V}, (u = .non ∨ ∃ w, u = V.int w) → EnAt A H3 e l f 0 m ts (setBn b.n (b.xs.set j u) bs) rows nb → ∀ {H2 : Hp}, Same H1 H2 → Ch (own e ts bs) H2 H3 → Q .non H3 := fun hu hE3 _ s2 ch => by
      have hP3 := (hP.same s2).ent hE3 ch.b (fun a ha => by rw [setBn_own] at ha; exact .inl ha) rfl hP.tk (bk_set hP.bk) (bx_set hP.bx hb hu)
      exact q _ (Wt.more ⟨e, ts, _, rows, nb, n2, kvs, rfl, hP3, hr⟩)
    obtain ⟨dx, h1⟩ := hP.en.me
    refine ite2 (fun _ => ⟨dx, _, h1, enF_no (by decide +kernel), fun h hh => ?_⟩) (fun _ => ⟨dx, _, h1, enF_no (by decide +kernel), fun h hh u => ?_⟩)
    · obtain ⟨s2, g2⟩ := new_at (o := .tup [V.str (Str.ofString "bank"), V.int b.n, V.int (j : Int)]) hh
      generalize upd H1 h _ = H2 at *
      exact .inr ⟨e, l, f, 0, m, ts, bs, b, rows, nb, h, j, rfl, (hP.same s2).en, hb, g2, hlt, fun H3 hE3 ch => fin (.inl rfl) hE3 s2 ch⟩
    · obtain ⟨s2, g2⟩ := new_at (o := .tup [V.str (Str.ofString "bank"), V.int b.n, V.int (j : Int)]) hh
      generalize upd H1 h _ = H2 at *
      have hv := (hP.bx b hb).2 b.xs[j] (List.getElem_mem hlt)
      refine .inr ⟨e, l, f, 0, m, ts, bs, b, rows, nb, h, j, b.xs[j], u, rfl, (hP.same s2).en, hb, g2, List.getElem?_eq_getElem hlt, ?_, ?_⟩
      · rcases hv with z | ⟨w9, z⟩ <;> rw [z] <;> rfl
      · split
        · exact q _ (Wt.more ⟨e, ts, bs, rows, nb, n2, kvs, rfl, hP.same s2, hr⟩)
        · exact fun H3 hE3 ch => fin (.inr ⟨u, rfl⟩) hE3 s2 ch
def Cl (n : Int) (done : List (List Key)) (kvs ks : Kvt) : Prop := (∀ y, ky n y ∈ done → valV ks (ky n y) = none) ∧ ∀ k, (∀ y, k = ky n y → k ∉ done) → valV ks k = valV kvs k
def sp_close (A : Adr) : Sp := fun vs H Q _ => ∃ (l f : Int) (m : Nat) (p b2 ra2 fa2 kd sl : Addr) (xs : List V) (i : Nat) (n : Int), vs = [.ref p, .ref kd, .ref b2, .int n] ∧ Wt A l f m p b2 ra2 fa2 kd sl xs i H ∧ T3 n ∧ i < 1000 ∧ ∀ H', Wt A l f m p b2 ra2 fa2 kd sl xs (i + 1) H' → Q .non H'
theorem off_len {t : Int} {rows : List (Option Rw)} : (offT t rows).length = rows.length := by unfold offT; rw [List.length_map]
theorem h_close (T : Txt K mg A) : Have P w K mg base "_law_close" 4 ["_law_entries", "_law_kept", "_law_beside", "_law_task"] [] (sp_close A) := by
  have H_Entries_close_task := h_eclose (P := P) (w := w) (base := base) T
  have H_Entries_open_task := h_eopen (P := P) (w := w) (base := base) T
  have H_Book_strike_task := h_stask (P := P) (w := w) (base := base) T
  refine T.r_l_close.have sc_l_close (fun vs H Q E z => ?_) ?_
  · obtain ⟨l, f, m, p, b2, ra2, fa2, kd, sl, xs, i, n, rfl, _⟩ := z; rfl
  · intro fa cdv A' outer s H vs Q E hr z
    obtain ⟨l, f, m, p, b2, ra2, fa2, kd, sl, xs, i, n, rfl, hW, hn, hi, q⟩ := z
    obtain ⟨e, ts, bs, rows, nb, n2, kvs, rfl, hP, hAg, hTr, hWf, hrl, hhd, hnb, hn2, hkl⟩ := hW
    obtain ⟨x, hx, rfl⟩ := hP.tk.1 n hn
    obtain ⟨dx, h1⟩ := hP.en.me
    refine ⟨_, (pss_cons (ps_expr (pe_methE (pvM 0) T.cl_Entries H_Entries_close_task (hr.mono (by decide)) xw_def (pa_cons (pvM 3) pa_nil)))
      (pss_cons (ps_expr (pe_methE (pvM 0) T.cl_Entries H_Entries_open_task (hr.mono (by decide)) xw_def (pa_cons (pvM 3) pa_nil)))
      (pss_cut (ps_expr (pe_methE (pvM 2) T.cl_Book H_Book_strike_task (hr.mono (by decide)) xw_def (pa_cons (pvM 3) pa_nil)))
      (pss_one (ps_forE PassesOwn.leaving rfl (pi_list (pe_callTy (call_listDT rfl) rfl T.b_list PyProof.Rows.boot_list (pa_cons (pvM 1) pa_nil))) (pg_name (i := 4) sc_l_close.nd rfl (Or.inl rfl)) (pss_one (ps_if (pt_cmpR op_eq (pe_ix ix_tup (pvM 4) pe_int (fun _ _ => rfl)) (pvM 3) (nomark _)) (pss_one (ps_expr (pe_dpopT (hu_of hr) (pvM 1) (pvM 4) ⟨rfl, rfl, rfl, rfl⟩))) pss_nil))))))), ?_⟩
    walk_at "wp"
    refine ⟨dx, _, h1, enF_no (by decide +kernel), e, l, f, 0, m, ts, bs, rows, nb, x, rfl, hP.en, hx, by omega, fun H1 hE1 ch1 d1 => ?_⟩
    obtain ⟨dx1, h11⟩ := hE1.me
    have hnx : x.n ∉ (ts.filter fun y => decide (y.n ≠ x.n)).map Tb.n := fun z => by
      obtain ⟨y, hy, e9⟩ := List.mem_map.mp z
      exact (of_decide_eq_true (List.mem_filter.mp hy).2) e9
    have hfl : (ts.filter fun y => decide (y.n ≠ x.n)).length < ts.length := List.length_filter_lt_length_iff_exists.mpr ⟨x, hx, by simp⟩
    have htl := hP.tk.2
    refine ⟨dx1, _, h11, enF_no (by decide +kernel), e, l, f, 0, m, _, bs, _, nb, x.n, rfl, hE1, hnx, by omega, fun tp top H2 hE2 htop ch2 d2 => ?_⟩
    have sub1 : ∀ c ∈ own e (ts.filter fun y => decide (y.n ≠ x.n)) bs, c ∈ own e ts bs := fun c hc => by
      rw [own_cut] at hc ⊢
      exact (List.Sublist.append_left adT_sub _).subset hc
    have ch12 := ch1.trans ch2 fun c hc => .inl (sub1 c hc)
    have sub2 : ∀ c ∈ own e ((ts.filter fun y => decide (y.n ≠ x.n)) ++ [⟨x.n, tp, nw m top⟩]) bs, c ∈ own e ts bs ∨ H c = none := fun c hc => by
      rw [own_cut] at hc
      unfold adT at hc
      rw [List.flatMap_append, ← List.append_assoc] at hc
      rcases List.mem_append.mp hc with h | h
      · exact .inl (sub1 c (by rw [own_cut]; exact h))
      · right
        have h : c ∈ [top] := h
        rw [List.mem_singleton.mp h]
        exact d1 _ htop
    have hP2 := hP.ent hE2 ch12.b sub2 rfl ⟨fun k hk => by
      by_cases c : k = x.n
      · exact ⟨_, List.mem_append_right _ (List.mem_singleton.mpr rfl), c.symm⟩
      · obtain ⟨y, hy, e9⟩ := hP.tk.1 k hk
        exact ⟨y, List.mem_append_left _ (List.mem_filter.mpr ⟨hy, decide_eq_true (by rw [e9]; exact c)⟩), e9⟩, by rw [List.length_append]; show _ + 1 ≤ 3; omega⟩ hP.bk hP.bx
    obtain ⟨dxb, vb, kb, hb1, _⟩ := id hP2.bk2
    refine ⟨fun σ G => σ = [some (.ref e.p), some (.ref kd), some (.ref b2), some (.int x.n), none] ∧ Pt A G e l f m ((ts.filter fun y => decide (y.n ≠ x.n)) ++ [⟨x.n, tp, nw m top⟩]) bs (offT x.n rows) nb b2 ra2 fa2 (offT x.n rows) n2 e.hd kd kvs sl xs, ?_, fun σ3 G3 => ?_⟩
    · walk_at "wp"
      exact ⟨dxb, _, hb1, bkF_no (by decide +kernel), b2, ra2, fa2, rows, n2, e.hd, x.n, rfl, hP2.bk2, hP.en.uq, by omega, fun H4 hB4 k4 => hP2.bes hB4 (fun c o ho z => k4 c o ho fun w => z (List.mem_cons_of_mem _ w))⟩
    rintro ⟨rfl, hP3⟩
    clear hP hP2 hE1 hE2 ch1 ch2 ch12 sub2 sub1 d1 d2 htop h1 h11 hb1
    unfold tDPopT
    walk_at "wp"
    refine ⟨kvs, hP3.ht, fun kl us hl hk => ?_⟩
    obtain ⟨s5, g5⟩ := new_at (o := .lst us) hl
    have hk : KysAt (upd G3 kl (.lst us)) (kvs.map (·.1)) us := Paired.mapP hk fun _ _ ⟨a, e, h⟩ => ⟨a, e, s5 _ _ h⟩
    generalize upd G3 kl (.lst us) = G5 at *
    have hP5 := hP3.same s5
    have nkd : ∀ {a : Addr} {o : HO}, G5 a = some o → (∀ ks, o ≠ .dT ks) → a ≠ kd := fun ho n z => by rw [z, hP5.ht] at ho; exact n _ (Option.some.inj ho).symm
    refine ⟨⟨_, SqL.of g5⟩, loop_list (K := K) (xs := us) (fun j σ G => ∃ v4 ks, σ = [some (.ref e.p), some (.ref kd), some (.ref b2), some (.int x.n), v4] ∧ G = upd G5 kd (.dT ks) ∧ Cl x.n ((kvs.map (·.1)).take j) kvs ks ∧ Wf ks ∧ ks.length ≤ kvs.length) ⟨_, kvs, rfl, (upd_self hP5.ht).symm, ⟨fun y z => ?_, fun k _ => rfl⟩, hWf, Nat.le_refl _⟩ (fun j σ G _ ⟨_, ks, _, e, _⟩ => SqL.of (by rw [e, upd_ne (nkd g5 (fun _ z => nomatch z))]; exact g5)) (fun j u σ G hj => ?_) (fun σ G => ?_)⟩
    · rw [List.take_zero] at z
      cases z
    · rintro ⟨v4, ks, rfl, rfl, hv, hwf, hlen⟩
      obtain ⟨k, hk1, a, rfl, ha⟩ := prd_get2 hk hj
      obtain ⟨y, hy, rfl⟩ := List.mem_map.mp (List.mem_of_getElem? hk1)
      obtain ⟨n', y', w', ey⟩ := hWf.wf y hy
      subst ey
      have ha' : upd G5 kd (.dT ks) a = some (.tup [V.int n', V.int y']) := by rw [upd_ne (nkd ha (fun _ z => nomatch z))]; exact ha
      have htk : (kvs.map (·.1)).take (j + 1) = (kvs.map (·.1)).take j ++ [ky n' y'] := by rw [List.take_add_one, hk1]; rfl
      have hnin : ky n' y' ∉ (kvs.map (·.1)).take j := fun z => by
        have h1 : ((kvs.map (·.1)).take (j + 1)).Nodup := hWf.nk.sublist (List.take_sublist ..)
        rw [htk, List.nodup_append] at h1
        exact h1.2.2 _ z _ (List.mem_singleton.mpr rfl) rfl
      walk_at "wp"
      refine ⟨_, SqT.of ha', _, rfl, rfl, ?_⟩
      by_cases c : n' = x.n
      · subst c
        rw [if_pos rfl]
        refine ⟨.inr ⟨_, .inl upd_same⟩, ks, rfl, ky x.n y', ha', .int w', by rw [hv.2 _ fun _ _ => hnin]; exact (val_iff hWf.nk).mpr hy, dropK ks (ky x.n y'), rfl, ⟨fun y9 hy9 => ?_, fun k9 hk9 => ?_⟩, hwf.drop, Nat.le_trans (List.length_filter_le ..) hlen⟩
        · rw [valV_drop]
          split
          · rfl
          · rename_i ne
            rw [htk] at hy9
            rcases List.mem_append.mp hy9 with z | z
            · exact hv.1 y9 z
            · exact absurd (List.mem_singleton.mp z) ne
        · rw [valV_drop, if_neg (fun z => hk9 y' z (by rw [z, htk]; exact List.mem_append_right _ (List.mem_singleton.mpr rfl)))]
          exact hv.2 k9 fun y9 z9 w9 => hk9 y9 z9 (by rw [htk]; exact List.mem_append_left _ w9)
      · rw [if_neg (fun z => c (V.int.inj z))]
        refine ⟨ks, rfl, ⟨fun y9 hy9 => ?_, fun k9 hk9 => ?_⟩, hwf, hlen⟩
        · rw [htk] at hy9
          rcases List.mem_append.mp hy9 with z | z
          · exact hv.1 y9 z
          · exact absurd (ky_inj (List.mem_singleton.mp z)).1.symm c
        · exact hv.2 k9 fun y9 z9 w9 => hk9 y9 z9 (by rw [htk]; exact List.mem_append_left _ w9)
    · rintro ⟨v4, ks, rfl, rfl, hv, hwf, hlen⟩
      walk_at "wp"
      rw [List.take_of_length_le (by rw [Paired.length hk]; exact Nat.le_refl _)] at hv
      have v1 : ∀ y, valV ks (ky x.n y) = none := fun y => by
        by_cases c : ky x.n y ∈ kvs.map (·.1)
        · exact hv.1 y c
        · rw [hv.2 _ fun _ _ => c]
          cases e9 : valV kvs (ky x.n y) with
          | none => rfl
          | some v => exact absurd (val_mem e9) c
      have v2 : ∀ n y, n ≠ x.n → valV ks (ky n y) = valV kvs (ky n y) := fun n y ne => hv.2 _ fun y9 z => absurd (ky_inj z).1 ne
      refine q _ ⟨e, _, bs, _, nb, n2, ks, rfl, hP5.kep, fun z hz y h0 h1 => ?_, fun j r hj => ?_, hwf, by rw [off_len]; exact hrl, fun z => ?_, by omega, by omega, by omega⟩
      · rcases List.mem_append.mp hz with h | h
        · obtain ⟨h2, h3⟩ := List.mem_filter.mp h
          rw [v2 _ _ (of_decide_eq_true h3)]
          exact hAg z h2 y h0 h1
        · rw [List.mem_singleton.mp h, v1]
          show (lk (m + 1) (nw m top) (stp l f y)).map V.int = none
          rw [lk_new]
          rfl
      · obtain ⟨h2, h3⟩ := off_key hj
        rw [v2 _ _ h3]
        exact hTr j r h2
      · rw [off_len]
        exact hhd (len_ne off_len z)

theorem use_row {rows : List (Option Rw)} {t g : Int} {j : Nat} {r : Rw} (h : (useR rows t g)[j]? = some (some r)) : ∃ (i : Nat) (s : Rw), rows[i]? = some (some s) ∧ s.t = r.t ∧ s.g = r.g ∧ s.e = r.e := by
  unfold useR at h
  cases c : bfnd rows t g with
  | none => rw [c] at h; exact ⟨j, r, h, rfl, rfl, rfl⟩
  | some i =>
    obtain ⟨s, hs, e1, e2⟩ := bfnd_some c
    rw [c] at h
    have h : (match rows[i]? with | some (some r) => rows.set i (some ⟨t, g, r.e, true⟩) | _ => rows)[j]? = some (some r) := h
    rw [hs] at h
    have h : (rows.set i (some ⟨t, g, s.e, true⟩))[j]? = some (some r) := h
    rw [List.getElem?_set] at h
    split at h
    · split at h
      · cases h; exact ⟨i, s, hs, e1, e2, rfl⟩
      · cases h
    · exact ⟨j, r, h, rfl, rfl, rfl⟩
theorem use_len {rows : List (Option Rw)} {t g : Int} : (useR rows t g).length = rows.length := by
  unfold useR
  cases bfnd rows t g with
  | none => rfl
  | some j =>
    show (match rows[j]? with | some (some r) => rows.set j (some ⟨t, g, r.e, true⟩) | _ => rows).length = _
    split
    · exact List.length_set
    · rfl
theorem Wt.rem {l f : Int} {m : Nat} {p b2 ra2 fa2 kd sl : Addr} {xs : List V} {i : Nat} {n y : Int} {G : Hp} {Q : VK} {E E2 : XK} (hW : Wt A l f m p b2 ra2 fa2 kd sl xs i G) (hn : T3 n) (hy0 : 0 ≤ y) (hy1 : y < pw (l * f)) (hi : i < 1000) (q : ∀ H', Wt A l f m p b2 ra2 fa2 kd sl xs (i + 1) H' → Q .non H') :
    ∃ x x_1, G p = some (HO.ins A.C_Entries x x_1) ∧ List.lookup (Str.ofString "remember") x_1 = none ∧ sp_erem A [V.ref p, V.int n, V.int y] G (fun _ H1 => ∀ (p : Addr), H1 p = none → ∃ x, DGet (upd H1 p (HO.tup [V.int n, V.int y])) kd (V.ref p) x ∧
      if x.isSome = true then ∃ x x_2, upd H1 p (HO.tup [V.int n, V.int y]) b2 = some (HO.ins A.C_Book x x_2) ∧ List.lookup (Str.ofString "keep") x_2 = none ∧ ∀ (p_1 : Addr), upd H1 p (HO.tup [V.int n, V.int y]) p_1 = none →
        ∃ x, DGet (upd (upd H1 p (HO.tup [V.int n, V.int y])) p_1 (HO.tup [V.int n, V.int y])) kd (V.ref p_1) (some x) ∧ sp_keepG A.C_Book [V.ref b2, V.int n, V.int y, x] (upd (upd H1 p (HO.tup [V.int n, V.int y])) p_1 (HO.tup [V.int n, V.int y])) (fun _ H1 => Q V.non H1) E
      else Q V.non (upd H1 p (HO.tup [V.int n, V.int y]))) E2 := by
  obtain ⟨e, ts, bs, rows, nb, n2, kvs, rfl, hP, hAg, hTr, hWf, hrl, hhd, hnb, hn2, hkl⟩ := hW
  obtain ⟨x, hx, rfl⟩ := hP.tk.1 n hn
  obtain ⟨dx, h1⟩ := hP.en.me
  have hag := hAg x hx y hy0 hy1
  refine ⟨dx, _, h1, enF_no (by decide +kernel), e, l, f, 0, m, ts, bs, rows, nb, x, y, rfl, hP.en, hx, hy0, hy1, by omega, by omega, hhd, fun e9 H1 s1 k hk => ?_, fun u e9 rows' hd' H1 hkt hE1 ch1 k hk => ?_⟩
  · obtain ⟨s2, g2⟩ := new_at (o := .tup [V.int x.n, V.int y]) hk
    generalize upd H1 k _ = H2 at *
    have hP2 := (hP.same s1).same s2
    rw [e9] at hag
    have hag : valV kvs (ky x.n y) = none := hag.symm
    refine ⟨_, .inr ⟨kvs, ky x.n y, k, .inl hP2.ht, rfl, g2, rfl⟩, ?_⟩
    rw [hag]
    exact iteF (q _ (Wt.more ⟨e, ts, bs, rows, nb, n2, kvs, rfl, hP2, hAg, hTr, hWf, hrl, hhd, hnb, hn2, hkl⟩))
  · have hP1 := hP.ent hE1 ch1 (fun a ha => .inl ha) rfl hP.tk hP.bk hP.bx
    obtain ⟨s2, g2⟩ := new_at (o := .tup [V.int x.n, V.int y]) hk
    generalize upd H1 k _ = H2 at *
    have hP2 := hP1.same s2
    rw [e9] at hag
    have hag : valV kvs (ky x.n y) = some (.int u) := hag.symm
    refine ⟨_, .inr ⟨kvs, ky x.n y, k, .inl hP2.ht, rfl, g2, rfl⟩, ?_⟩
    rw [hag]
    obtain ⟨dxb, vb, kb, hb1, _⟩ := id hP2.bk2
    refine iteT ⟨dxb, _, hb1, bkF_no (by decide +kernel), fun k3 hk3 => ?_⟩
    obtain ⟨s3, g3⟩ := new_at (o := .tup [V.int x.n, V.int y]) hk3
    generalize upd H2 k3 _ = H3 at *
    have hP3 := hP2.same s3
    refine ⟨.int u, .inr ⟨kvs, ky x.n y, k3, .inl hP3.ht, rfl, g3, hag.symm⟩, b2, ra2, fa2, rows, n2, e.hd, x.n, y, u, rfl, hP3.bk2, hP.en.uq, by omega, hhd, by omega, fun r2 d2 H4 hk2 hB4 kp4 => ?_⟩
    obtain ⟨rfl, rfl⟩ := hkt.same hk2
    obtain ⟨f1, f2, f3, f4⟩ := hkt.facts hP.en.uq hhd
    have hP4 := hP3.bes hB4 kp4
    refine q _ ⟨{ e with hd := hd' }, ts, bs, rows', nb + 1, n2 + 1, kvs, rfl, hP4, hAg, fun j r hj => ?_, hWf, by omega, f3, by omega, by omega, by omega⟩
    rcases f4 j r hj with ⟨a1, a2, a3⟩ | ⟨i9, s9, a1, a2, a3, a4⟩
    · rw [a1, a2, a3]; exact hag
    · rw [← a2, ← a3, ← a4]; exact hTr i9 s9 a1
def sp_deed (A : Adr) : Sp := fun vs H Q _ => ∃ (l f : Int) (m : Nat) (p b2 ra2 fa2 kd sl : Addr) (xs : List V) (i : Nat) (n y c : Int), vs = [.ref p, .ref kd, .ref b2, .int n, .int y, .int c] ∧ Wt A l f m p b2 ra2 fa2 kd sl xs i H ∧ T3 n ∧ 0 ≤ y ∧ y < pw (l * f) ∧ i < 1000 ∧ ∀ H', Wt A l f m p b2 ra2 fa2 kd sl xs (i + 1) H' → Q .non H'
theorem h_deed (T : Txt K mg A) : Have P w K mg base "_law_deed" 10 ["_law_entries", "_law_kept", "_law_beside", "_law_task", "_law_page", "_law_cell"] [] (sp_deed A) := by
  have H_l_mix := h_mix (P := P) (w := w) (base := base) T
  have H_l_change := h_change (P := P) (w := w) (base := base) T
  have H_l_bank_deed := h_bdeed (P := P) (w := w) (base := base) T
  have H_l_close := h_close (P := P) (w := w) (base := base) T
  have H_Entries_use := h_euse (P := P) (w := w) (base := base) T
  have H_Book_use := h_use (P := P) (w := w) (base := base) T
  have H_Entries_remember := h_erem (P := P) (w := w) (base := base) T
  have H_Book_keep := h_keepG (P := P) (w := w) (base := base) T
  refine T.r_l_deed.have sc_l_deed (fun vs H Q E z => ?_) ?_
  · obtain ⟨l, f, m, p, b2, ra2, fa2, kd, sl, xs, i, n, y, c, rfl, _⟩ := z; rfl
  · intro fa cdv A' outer s H vs Q E hr z
    obtain ⟨l, f, m, p, b2, ra2, fa2, kd, sl, xs, i, n, y, c, rfl, hW, hn, hy0, hy1, hi, q⟩ := z
    refine ⟨_, (pss_cons (ps_set (i := 6) sc_l_deed.nd rfl (Or.inl rfl) (pe_op op_mod (pvM 5) pe_int))
      (pss_one (ps_if (PW.pt (pw_or (pt_cmpR op_lt (pvM 6) pe_int (nomark _)) (pw_or1 (PW.pt (pw_and (pt_cmpR op_eq (pvM 6) pe_int (nomark _)) (pw_and1 (pt_cmp (pc_dnotin (hu_of hr) (pe_tup (pa_cons (pvM 3) (pa_cons (pvM 4) pa_nil))) (pvM 1))))))))) (pss_one (ps_expr (pe_callE H_l_change (hr.mono (by decide)) xw_def (@pa_cons _ _ _ _ _ (pvM 0) (@pa_cons _ _ _ _ _ (pvM 1) (@pa_cons _ _ _ _ _ (pvM 2) (@pa_cons _ _ _ _ _ (pvM 3) (@pa_cons _ _ _ _ _ (pvM 4) (@pa_cons _ _ _ _ _ (pvM 5) pa_nil rfl) rfl) rfl) rfl) rfl) rfl)))) (pss_one (ps_if (PW.pt (pw_and (pt_cmpR op_eq (pvM 6) pe_int (nomark _)) (pw_and1 (pt_cmpR op_eq (pe_callE H_l_mix (hr.mono (by decide)) xw_def (pa_cons (pvM 5) (pa_cons pe_int (pa_cons pe_int pa_nil)))) pe_int (nomark _))))) (pss_one (ps_expr (pe_callE H_l_bank_deed (hr.mono (by decide)) xw_def (pa_cons (pvM 0) (pa_cons (pvM 3) (pa_cons (pe_op op_mod (pvM 4) pe_int) (pa_cons (pvM 5) pa_nil))))))) (pss_one (ps_if (pt_cmpR op_eq (pvM 6) pe_int (nomark _)) (pss_one (ps_expr (pe_callE H_l_close (hr.mono (by decide)) xw_def (pa_cons (pvM 0) (pa_cons (pvM 1) (pa_cons (pvM 2) (pa_cons (pvM 3) pa_nil))))))) (pss_one (ps_if (pt_cmpR op_eq (pvM 6) pe_int (nomark _)) (pss_cons (ps_expr (pe_methE (pvM 0) T.cl_Entries H_Entries_use (hr.mono (by decide)) xw_def (pa_cons (pvM 3) (pa_cons (pvM 4) pa_nil))))
      (pss_one (ps_expr (pe_methE (pvM 2) T.cl_Book H_Book_use (hr.mono (by decide)) xw_def (pa_cons (pvM 3) (pa_cons (pvM 4) pa_nil)))))) (pss_cons (ps_expr (pe_methE (pvM 0) T.cl_Entries H_Entries_remember (hr.mono (by decide)) xw_def (pa_cons (pvM 3) (pa_cons (pvM 4) pa_nil))))
      (pss_one (ps_if (pt_cmp (pc_din (hu_of hr) (pe_tup (pa_cons (pvM 3) (pa_cons (pvM 4) pa_nil))) (pvM 1))) (pss_one (ps_expr (pe_methE (pvM 2) T.cl_Book H_Book_keep (hr.mono (by decide)) xw_def (pa_cons (pvM 3) (pa_cons (pvM 4) (pa_cons (pe_dget (hu_of hr) (pvM 1) (pe_tup (pa_cons (pvM 3) (pa_cons (pvM 4) pa_nil))) (fun _ _ => rfl)) pa_nil)))))) pss_nil)))))))))))), ?_⟩
    unfold tDIn tDGet tDNotIn
    walk_at "wp"
    have hsz := PySem.sizeLine_eq
    have hc : c % 10 < 5 ∨ c % 10 = 5 ∨ c % 10 = 6 ∨ c % 10 = 7 ∨ c % 10 = 8 ∨ c % 10 = 9 := by omega
    rcases hc with hc | hc | hc | hc | hc | hc
    · rw [if_pos hc]
      exact ⟨l, f, m, p, b2, ra2, fa2, kd, sl, xs, i, n, y, c, rfl, hW, hn, hy0, hy1, hi, q⟩
    · rw [if_neg (by omega), if_neg (by omega)]
      refine iteF ?_
      rw [if_neg (by omega)]
      refine iteF ?_
      rw [if_neg (by omega), if_neg (by omega)]
      exact hW.rem hn hy0 hy1 hi q
    · rw [if_neg (by omega), if_pos hc]
      intro k hk
      obtain ⟨s2, g2⟩ := new_at (o := .tup [V.int n, V.int y]) hk
      generalize upd H k _ = H2 at *
      have hW2 := hW.same s2
      obtain ⟨e, ts, bs, rows, nb, n2, kvs, rfl, hP, _⟩ := id hW2
      refine ⟨_, .inr ⟨kvs, ky n y, k, .inl hP.ht, rfl, g2, rfl⟩, ?_⟩
      cases valV kvs (ky n y) with
      | none => exact iteT ⟨l, f, m, e.p, b2, ra2, fa2, kd, sl, xs, i, n, y, c, rfl, hW2, hn, hy0, hy1, hi, q⟩
      | some v =>
        refine iteF ?_
        rw [if_neg (by omega)]
        refine iteF ?_
        rw [if_neg (by omega), if_neg (by omega)]
        exact hW2.rem hn hy0 hy1 hi q
    · rw [if_neg (by omega), if_neg (by omega)]
      refine iteF ?_
      rw [if_neg (by omega)]
      refine iteF ?_
      rw [if_neg (by omega), if_pos hc]
      obtain ⟨e, ts, bs, rows, nb, n2, kvs, rfl, hP, hAg, hTr, hWf, hrl, hhd, hnb, hn2, hkl⟩ := hW
      obtain ⟨dx, h1⟩ := hP.en.me
      refine ⟨dx, _, h1, enF_no (by decide +kernel), e, l, f, 0, m, ts, bs, rows, nb, n, y, rfl, hP.en, fun H1 hE1 ch1 => ?_⟩
      have hP1 := hP.ent hE1 ch1.b (fun a ha => .inl ha) rfl hP.tk hP.bk hP.bx
      obtain ⟨dxb, vb, kb, hb1, _⟩ := id hP1.bk2
      refine ⟨dxb, _, hb1, bkF_no (by decide +kernel), b2, ra2, fa2, rows, n2, e.hd, n, y, rfl, hP1.bk2, fun H2 hB2 k2 => ?_⟩
      have hP2 := hP1.bes hB2 (fun c o ho z => k2 c o ho fun w => z (by rw [List.mem_singleton.mp w]; simp))
      refine q _ ⟨e, ts, bs, _, nb, n2, kvs, rfl, hP2, hAg, fun j r hj => ?_, hWf, by rw [use_len]; exact hrl, fun z => ?_, by omega, by omega, by omega⟩
      · obtain ⟨i9, s9, a1, a2, a3, a4⟩ := use_row hj
        rw [← a2, ← a3, ← a4]; exact hTr i9 s9 a1
      · rw [use_len]; exact hhd (len_ne use_len z)
    · rw [if_neg (by omega), if_neg (by omega)]
      refine iteF ?_
      rw [if_neg (by omega)]
      refine iteF ?_
      rw [if_pos hc]
      exact ⟨l, f, m, p, b2, ra2, fa2, kd, sl, xs, i, n, rfl, hW, hn, hi, q⟩
    · rw [if_neg (by omega), if_neg (by omega)]
      refine iteF ?_
      rw [if_pos hc]
      refine ⟨c, 3, 2, rfl, by omega, by omega, by omega, by omega, fun z H1 _ _ s1 => ⟨rfl, ?_⟩⟩
      refine ite2 (fun _ => ⟨l, f, m, p, b2, ra2, fa2, kd, sl, xs, i, n, y % 64, c, rfl, hW.same s1, hn, by omega, by omega, q⟩) (fun _ => ?_)
      rw [if_neg (by omega), if_neg (by omega)]
      exact (hW.same s1).rem hn hy0 hy1 hi q

def sp_true (A : Adr) : Sp := fun vs H Q _ => ∃ (l f : Int) (m : Nat) (p b2 ra2 fa2 kd sl : Addr) (xs : List V) (i : Nat), vs = [.ref p, .ref kd] ∧ Wt A l f m p b2 ra2 fa2 kd sl xs i H ∧ ∀ H', Same H H' → Q (.bl true) H'
theorem h_true (T : Txt K mg A) : Have P w K mg base "_law_true" 4 ["_law_entries", "_law_kept"] [] (sp_true A) := by
  have H_l_like := h_like (P := P) (w := w) (base := base) T 1
  have H_Entries_told_book := h_tbook (P := P) (w := w) (base := base) T
  have H_Entries_recall := h_recall (P := P) (w := w) (base := base) T
  refine T.r_l_true.have sc_l_true (fun vs H Q E z => ?_) ?_
  · obtain ⟨l, f, m, p, b2, ra2, fa2, kd, sl, xs, i, rfl, _⟩ := z; rfl
  · intro fa cdv A' outer s H vs Q E hr z
    obtain ⟨l, f, m, p, b2, ra2, fa2, kd, sl, xs, i, rfl, hW, q⟩ := z
    obtain ⟨e, ts, bs, rows, nb, n2, kvs, rfl, hP, hAg, hTr, hWf, hrl, hhd, hnb, hn2, hkl⟩ := hW
    obtain ⟨dx, h1⟩ := hP.en.me
    refine ⟨_, (pss_cons (ps_forE PassesOwn.leaving rfl (pi_list (pe_methE0 (pvM 0) T.cl_Entries H_Entries_told_book (hr.mono (by decide)) xw_def)) (pg_name (i := 2) sc_l_true.nd rfl (Or.inl rfl)) (pss_one (ps_if (pt_cmpR op_notN (pvM 2) pe_non (nomark _)) (pss_cut (ps_if (PW.pt (pw_or (pt_cmp (pc_dnotin (hu_of hr) (pe_tup (pa_cons (pe_ix ix_tup (pvM 2) pe_int (fun _ _ => rfl)) (pa_cons (pe_ix ix_tup (pvM 2) pe_int (fun _ _ => rfl)) pa_nil))) (pvM 1))) (pw_or1 (pt_not (pt_val (pe_callE H_l_like (hr.mono (by decide)) xw_def (pa_cons (pe_ix ix_tup (pvM 2) pe_int (fun _ _ => rfl)) (pa_cons (pe_dget (hu_of hr) (pvM 1) (pe_tup (pa_cons (pe_ix ix_tup (pvM 2) pe_int (fun _ _ => rfl)) (pa_cons (pe_ix ix_tup (pvM 2) pe_int (fun _ _ => rfl)) pa_nil))) (fun _ _ => rfl)) pa_nil)))))))) (pss_one (ps_ret pe_bl)) pss_nil)
      (pss_one (ps_if (pt_not (pt_val (pe_callE H_l_like (hr.mono (by decide)) xw_def (pa_cons (pe_methE (pvM 0) T.cl_Entries H_Entries_recall (hr.mono (by decide)) xw_def (pa_cons (pe_ix ix_tup (pvM 2) pe_int (fun _ _ => rfl)) (pa_cons (pe_ix ix_tup (pvM 2) pe_int (fun _ _ => rfl)) pa_nil))) (pa_cons (pe_ix ix_tup (pvM 2) pe_int (fun _ _ => rfl)) pa_nil))))) (pss_one (ps_ret pe_bl)) pss_nil))) pss_nil)))
      (pss_one (ps_ret pe_bl))), ?_⟩
    walk_at "wp"
    refine ⟨dx, _, h1, enF_no (by decide +kernel), e, l, f, 0, m, ts, bs, rows, nb, rfl, hP.en, fun t us ht hR => ?_⟩
    obtain ⟨s1, g1⟩ := new_at (o := .lst us) ht
    walk_at "wp"
    generalize upd H t (.lst us) = H1 at *
    refine ⟨⟨_, SqL.of g1⟩, loop_list (K := K) (xs := us) (fun j σ G => ∃ v2, σ = [some (.ref e.p), some (.ref kd), v2] ∧ Same H1 G) ⟨_, rfl, same_refl⟩ (fun j σ G _ ⟨_, _, s⟩ => SqL.of (s _ _ g1)) (fun j u σ G hj => ?_) (fun σ G => ?_)⟩
    · rintro ⟨v2, rfl, s2⟩
      obtain ⟨r, hr1, hr2⟩ := prd_get hR hj
      have hP2 := (hP.same s1).same s2
      unfold tDNotIn tDGet
      walk_at "wp"
      cases r with
      | none =>
        have hr2 : u = .non := hr2
        refine ifn (by rw [hr2]; rfl) s2
      | some r =>
        obtain ⟨a, rfl, ha⟩ := hr2
        have ha2 := s2 _ _ ha
        have hv := hTr j r hr1
        refine ifp rfl ⟨fun σ G' => σ = [some (.ref e.p), some (.ref kd), some (.ref a)] ∧ Same G G', ?_, fun σ3 G3 => ?_⟩
        · walk_at "wp"
          refine ⟨_, SqT.of ha2, .int r.t, atI_nat (j := 0) rfl, _, SqT.of ha2, .int r.g, atI_nat (j := 1) rfl, fun k hk => ?_⟩
          obtain ⟨s4, g4⟩ := new_at (o := .tup [V.int r.t, V.int r.g]) hk
          generalize upd G k _ = G4 at *
          refine ⟨_, .inr ⟨kvs, ky r.t r.g, k, .inl (s4 _ _ hP2.ht), rfl, g4, rfl⟩, ?_⟩
          rw [hv]
          refine iteF ⟨_, SqT.of (s4 _ _ ha2), .int r.e, atI_nat (j := 2) rfl, _, SqT.of (s4 _ _ ha2), .int r.t, atI_nat (j := 0) rfl, _, SqT.of (s4 _ _ ha2), .int r.g, atI_nat (j := 1) rfl, fun k5 hk5 => ?_⟩
          obtain ⟨s5, g5⟩ := new_at (o := .tup [V.int r.t, V.int r.g]) hk5
          generalize upd G4 k5 _ = G5 at *
          exact ⟨.int r.e, .inr ⟨kvs, ky r.t r.g, k5, .inl (s5 _ _ (s4 _ _ hP2.ht)), rfl, g5, hv.symm⟩, _, _, .leaf (.int r.e), rfl, by unfold Lks; exact ⟨rfl, rfl⟩, by unfold Lks; exact ⟨rfl, rfl⟩, by rw [deep]; exact Nat.zero_le _, fun G6 s6 => ⟨true, rfl, iteF (s4.trans (s5.trans s6))⟩⟩
        rintro ⟨rfl, s3⟩
        have hP3 := hP2.same s3
        have ha3 := s3 _ _ ha2
        obtain ⟨dx3, h13⟩ := hP3.en.me
        walk_at "wp"
        refine ⟨dx3, _, h13, enF_no (by decide +kernel), _, SqT.of ha3, .int r.t, atI_nat (j := 0) rfl, _, SqT.of ha3, .int r.g, atI_nat (j := 1) rfl, e, l, f, 0, m, ts, bs, rows, nb, r.t, r.g, rfl, hP3.en, fun G4 s4 => ?_⟩
        rw [look_tells hP.en.uq ⟨j, r, hr1, rfl, rfl, rfl⟩]
        exact ⟨_, SqT.of (s4 _ _ ha3), .int r.e, atI_nat (j := 2) rfl, _, _, .leaf (.int r.e), rfl, by unfold Lks; exact ⟨rfl, rfl⟩, by unfold Lks; exact ⟨rfl, rfl⟩, by rw [deep]; exact Nat.zero_le _, fun G6 s6 => ⟨true, rfl, iteF (s2.trans (s3.trans (s4.trans s6)))⟩⟩
    · rintro ⟨v2, rfl, s2⟩
      walk_at "wp"
      exact q _ (s1.trans s2)

def dRw : Option Rw → Dv
  | none => .leaf .non
  | some r => .seq true [.leaf (.int r.t), .leaf (.int r.g), .leaf (.int r.e), .leaf (.bl r.u)]
def dBk (rows : List (Option Rw)) : Dv := .seq false (rows.map dRw)
theorem lks_row {H : Hp} {v : V} : ∀ {r : Option Rw}, RowAt H v r → Lks H (dRw r) v
  | none, h => by unfold dRw Lks; exact ⟨h, rfl⟩
  | some r, ⟨a, e, h⟩ => by
    unfold dRw Lks
    refine ⟨a, _, e, h, by show 4 < 16777216; decide, ?_⟩
    unfold LksL
    refine ⟨_, _, rfl, by unfold Lks; exact ⟨rfl, rfl⟩, ?_⟩
    unfold LksL
    refine ⟨_, _, rfl, by unfold Lks; exact ⟨rfl, rfl⟩, ?_⟩
    unfold LksL
    refine ⟨_, _, rfl, by unfold Lks; exact ⟨rfl, rfl⟩, ?_⟩
    unfold LksL
    exact ⟨_, _, rfl, by unfold Lks; exact ⟨rfl, rfl⟩, by unfold LksL; rfl⟩
theorem lks_rows {H : Hp} : ∀ {us : List V} {rows : List (Option Rw)}, RsAt H us rows → LksL H (rows.map dRw) us
  | _, _, .nil => by unfold LksL; rfl
  | _, _, .cons h r => by
    show LksL H (_ :: _) _
    unfold LksL
    exact ⟨_, _, rfl, lks_row h, lks_rows r⟩
theorem lks_bk {H : Hp} {t : Addr} {us : List V} {rows : List (Option Rw)} (h : H t = some (.lst us)) (hr : RsAt H us rows) (hl : rows.length ≤ 64) : Lks H (dBk rows) (.ref t) := by
  unfold dBk Lks
  exact ⟨t, us, rfl, h, by rw [List.length_map]; omega, lks_rows hr⟩
theorem deep_rows : ∀ (rows : List (Option Rw)), deepL (rows.map dRw) ≤ 1
  | [] => by rw [List.map_nil, deepL]; omega
  | p :: r => by
    have := deep_rows r
    rw [List.map_cons, deepL]
    have h2 : deep (dRw p) ≤ 1 := by cases p <;> simp [dRw, deep, deepL]
    omega
theorem deep_bk (rows : List (Option Rw)) : deep (dBk rows) ≤ 2 := by
  have := deep_rows rows
  unfold dBk
  rw [deep]
  omega
theorem nd_takeI {Ls : List Int} (nd : Ls.Nodup) {i : Nat} {n : Int} (h : Ls[i]? = some n) : n ∉ Ls.take i := fun z => by
  have h1 : (Ls.take (i + 1)).Nodup := nd.sublist (List.take_sublist ..)
  rw [List.take_add_one, h, List.nodup_append] at h1
  exact h1.2.2 n z n (List.mem_singleton.mpr rfl) rfl
theorem Wt.alike {l f : Int} {m : Nat} {p b2 ra2 fa2 kd sl : Addr} {xs : List V} {i : Nat} {G : Hp} {Q : VK} {E1 E2 E3 : XK} (hW : Wt A l f m p b2 ra2 fa2 kd sl xs i G) (q : ∀ H', Same G H' → Q (.bl true) H') :
    ∃ x x_1, G p = some (HO.ins A.C_Entries x x_1) ∧ List.lookup (Str.ofString "told_book") x_1 = none ∧ sp_tbook A [V.ref p] G (fun x H1 => ∃ x_2 x_3, H1 b2 = some (HO.ins A.C_Book x_2 x_3) ∧ List.lookup (Str.ofString "told") x_3 = none ∧ sp_told A.C_Book [V.ref b2] H1 (fun x_4 H1 => sp_like 4 [x, x_4] H1 Q E1) E2) E3 := by
  obtain ⟨e, ts, bs, rows, nb, n2, kvs, rfl, hP, hAg, hTr, hWf, hrl, hhd, hnb, hn2, hkl⟩ := hW
  obtain ⟨dx, h1⟩ := hP.en.me
  refine ⟨dx, _, h1, enF_no (by decide +kernel), e, l, f, 0, m, ts, bs, rows, nb, rfl, hP.en, fun t us ht hR => ?_⟩
  obtain ⟨s1, g1⟩ := new_at (o := .lst us) ht
  show (fun x H1 => _) (V.ref t) (upd G t (.lst us))
  generalize upd G t (.lst us) = G1 at *
  have hP1 := hP.same s1
  obtain ⟨dxb, vb, kb, hb1, _⟩ := id hP1.bk2
  refine ⟨dxb, _, hb1, bkF_no (by decide +kernel), b2, ra2, fa2, rows, n2, e.hd, rfl, hP1.bk2, fun t2 us2 ht2 hR2 => ?_⟩
  obtain ⟨s2, g2⟩ := new_at (o := .lst us2) ht2
  show (fun x H1 => _) (V.ref t2) (upd G1 t2 (.lst us2))
  generalize upd G1 t2 (.lst us2) = G2 at *
  refine ⟨_, _, _, rfl, lks_bk (s2 _ _ g1) (Paired.mapP hR fun _ _ h => h.same s2) hrl, lks_bk g2 hR2 hrl, ?_, fun H' s3 => q H' (s1.trans (s2.trans s3))⟩
  exact Nat.le_trans (deep_bk rows) (by decide)
def spLaw (K : PySem.W.Frag) : Sp := fun vs H Q _ => ∃ (a : Addr) (ns : List Int), vs = [.ref a] ∧ SqL K H a (ns.map V.int) ∧ ns.length ≤ 63 ∧ ∀ H', Q (.bl true) H'
theorem body_law (T : Txt K mg A) : Body P w K mg base "law" s_law ["_law_script", "_law_levels", "_law_fan", "_law_pages", "_law_places", "_law_entries", "_law_beside", "_law_task", "_law_kept", "_law_cell", "_law_page"] 14 (spLaw K) := by
  intro f cdv A' outer s H vs Q E hr z
  obtain ⟨a, ns, rfl, hs, hn, qq⟩ := z
  have H_l_cell_at := h_cell (P := P) (w := w) (base := base) T a ns
  have H_l_doubled := h_l_doubled (P := P) (w := w) (base := base) T
  have H_l_like := h_like (P := P) (w := w) (base := base) T 4
  have H_l_mix := h_mix (P := P) (w := w) (base := base) T
  have H_l_true := h_true (P := P) (w := w) (base := base) T
  have H_l_deed := h_deed (P := P) (w := w) (base := base) T
  have H_Shape_init := h_init (P := P) (w := w) (base := base) T
  have H_Book_init := h_binit (P := P) (w := w) (base := base) T
  have H_Book_told := h_told (P := P) (w := w) (base := base) T
  have H_Entries_init := h_einit (P := P) (w := w) (base := base) T
  have H_Entries_open_task := h_eopen (P := P) (w := w) (base := base) T
  have H_Entries_open_bank := h_obanks (P := P) (w := w) (base := base) T
  have H_Entries_told_book := h_tbook (P := P) (w := w) (base := base) T
  have H_Entries_recall := h_recall (P := P) (w := w) (base := base) T
  refine ⟨_, (pss_cons (ps_set (i := 1) sc_law.nd rfl (Or.inl rfl) (pe_op op_add pe_int (pe_op op_mod (pe_callE H_l_cell_at (hr.mono (by decide)) xw_def (pa_cons (pvM 0) (pa_cons pe_int pa_nil))) pe_int)))
      (pss_cons (ps_set (i := 2) sc_law.nd rfl (Or.inl rfl) (pe_op op_add pe_int (pe_op op_mod (pe_callE H_l_cell_at (hr.mono (by decide)) xw_def (pa_cons (pvM 0) (pa_cons pe_int pa_nil))) pe_int)))
      (pss_cons (ps_set (i := 3) sc_law.nd rfl (Or.inl rfl) (pe_callE H_l_doubled (hr.mono (by decide)) xw_def (pa_cons (pe_op op_mul (pvM 1) (pvM 2)) pa_nil)))
      (pss_cons (ps_set (i := 4) sc_law.nd rfl (Or.inl rfl) (pe_op op_mod (pe_op op_fdiv (pe_callE H_l_cell_at (hr.mono (by decide)) xw_def (pa_cons (pvM 0) (pa_cons pe_int pa_nil))) pe_int) pe_int))
      (pss_cut (ps_if (pt_cmpR op_eq (pe_op op_mod (pe_callE H_l_cell_at (hr.mono (by decide)) xw_def (pa_cons (pvM 0) (pa_cons pe_int pa_nil))) pe_int) pe_int (nomark _)) (pss_one (ps_set (i := 4) sc_law.nd rfl (Or.inl rfl) (pe_op op_mod (pe_op op_fdiv (pe_callE H_l_cell_at (hr.mono (by decide)) xw_def (pa_cons (pvM 0) (pa_cons pe_int pa_nil))) pe_int) pe_int))) pss_nil)
      (pss_cut (ps_set (i := 5) sc_law.nd rfl (Or.inl rfl) (pe_makeE H_Entries_init (hr.mono (by decide)) xw_def (pa_cons (pe_makeE H_Shape_init (hr.mono (by decide)) xw_def (pa_cons (pvM 1) (pa_cons (pvM 2) (pa_cons pe_int pa_nil)))) (pa_cons (pvM 4) pa_nil))))
      (pss_cut (ps_set (i := 6) sc_law.nd rfl (Or.inl rfl) (pe_makeE H_Book_init (hr.mono (by decide)) xw_def (pa_cons (pvM 4) pa_nil)))
      (pss_cut (ps_forE PassesOwn.leaving rfl (pi_list (pe_lst (pa_cons pe_int (pa_cons pe_int (pa_cons pe_int pa_nil))))) (pg_name (i := 7) sc_law.nd rfl (Or.inl rfl)) (pss_cons (ps_expr (pe_methE (pvM 5) T.cl_Entries H_Entries_open_task (hr.mono (by decide)) xw_def (pa_cons (pvM 7) pa_nil)))
      (pss_one (ps_expr (pe_methE (pvM 5) T.cl_Entries H_Entries_open_bank (hr.mono (by decide)) xw_def (pa_cons (pvM 7) (pa_cons pe_int pa_nil)))))))
      (pss_cons (ps_set (i := 8) sc_law.nd rfl (Or.inl rfl) pe_dnewT)
      (pss_cons (ps_forE PassesOwn.leaving rfl (pi_list (pe_slice sl_list (pvM 0) (po_some pe_int) (po_some pe_int))) (pg_name (i := 9) sc_law.nd rfl (Or.inl rfl)) (pss_cons (ps_set (i := 7) sc_law.nd rfl (Or.inl rfl) (pe_callE H_l_mix (hr.mono (by decide)) xw_def (pa_cons (pvM 9) (pa_cons pe_int (pa_cons pe_int pa_nil)))))
      (pss_cut (ps_set (i := 10) sc_law.nd rfl (Or.inl rfl) (pe_op op_mod (pe_op op_mul (pe_callE H_l_mix (hr.mono (by decide)) xw_def (pa_cons (pvM 9) (pa_cons pe_int (pa_cons pe_int pa_nil)))) pe_int) (pvM 3)))
      (pss_cut (ps_expr (pe_callE H_l_deed (hr.mono (by decide)) xw_def (@pa_cons _ _ _ _ _ (pvM 5) (@pa_cons _ _ _ _ _ (pvM 8) (@pa_cons _ _ _ _ _ (pvM 6) (@pa_cons _ _ _ _ _ (pvM 7) (@pa_cons _ _ _ _ _ (pvM 10) (@pa_cons _ _ _ _ _ (pvM 9) pa_nil rfl) rfl) rfl) rfl) rfl) rfl)))
      (pss_cut (ps_if (PW.pt (pw_or (pt_not (pt_val (pe_callE H_l_like (hr.mono (by decide)) xw_def (pa_cons (pe_methE0 (pvM 5) T.cl_Entries H_Entries_told_book (hr.mono (by decide)) xw_def) (pa_cons (pe_methE0 (pvM 6) T.cl_Book H_Book_told (hr.mono (by decide)) xw_def) pa_nil))))) (pw_or1 (pt_not (pt_val (pe_callE H_l_true (hr.mono (by decide)) xw_def (pa_cons (pvM 5) (pa_cons (pvM 8) pa_nil)))))))) (pss_one (ps_ret pe_bl)) pss_nil)
      (pss_one (ps_if (PW.pt (pw_and (pt_cmpR op_notN (pe_methE (pvM 5) T.cl_Entries H_Entries_recall (hr.mono (by decide)) xw_def (pa_cons (pvM 7) (pa_cons (pvM 10) pa_nil))) pe_non (nomark _)) (pw_and1 (pt_cmp (pc_dnotin (hu_of hr) (pe_tup (pa_cons (pvM 7) (pa_cons (pvM 10) pa_nil))) (pvM 8)))))) (pss_one (ps_ret pe_bl)) pss_nil)))))))
      (pss_one (ps_ret (pe_callE H_l_like (hr.mono (by decide)) xw_def (pa_cons (pe_methE0 (pvM 5) T.cl_Entries H_Entries_told_book (hr.mono (by decide)) xw_def) (pa_cons (pe_methE0 (pvM 6) T.cl_Book H_Book_told (hr.mono (by decide)) xw_def) pa_nil))))))))))))))), ?_⟩
  walk_at "wp"
  refine ⟨0, rfl, hs, by omega, _, rfl, 1, rfl, hs, by omega, _, rfl, ?_⟩
  have hl2 : 2 + ns.getD (0 : Int).toNat 0 % 2 = 2 ∨ 2 + ns.getD (0 : Int).toNat 0 % 2 = 3 := by omega
  have hf4 : 1 ≤ 1 + ns.getD (1 : Int).toNat 0 % 4 ∧ 1 + ns.getD (1 : Int).toNat 0 % 4 ≤ 4 := by omega
  generalize 2 + ns.getD (0 : Int).toNat 0 % 2 = l at *
  generalize 1 + ns.getD (1 : Int).toNat 0 % 4 = fn at *
  have hlf : 0 ≤ l * fn ∧ l * fn ≤ 12 := by rcases hl2 with h | h <;> rw [h] <;> omega
  refine ⟨.inl ⟨by omega, by omega⟩, l * fn, rfl, by omega, by omega, 2, rfl, hs, by omega, _, rfl, ?_⟩
  have g1 : gd l fn 0 := ⟨by omega, by omega, hf4.1, by omega, by decide, by decide⟩
  obtain ⟨m, hm⟩ : ∃ m : Nat, l = (m : Int) + 1 := ⟨(l - 1).toNat, by omega⟩
  refine ⟨fun σ G => ∃ k : Int, σ = [some (.ref a), some (.int l), some (.int fn), some (.int (pw (l * fn))), some (.int k), none, none, none, none, none, none] ∧ G = H ∧ 0 ≤ k ∧ k ≤ 64, ?_, fun σ1 G1 => ?_⟩
  · walk_at "wp"
    exact ⟨2, rfl, hs, by omega, _, rfl, ite2 (fun _ => ⟨2, rfl, hs, by omega, _, rfl, rfl, by omega, by omega⟩) (fun _ => ⟨rfl, by omega, by omega⟩)⟩
  rintro ⟨k0, rfl, rfl, hk0, hk1⟩
  refine ⟨fun σ G => ∃ (e : En), σ = [some (.ref a), some (.int l), some (.int fn), some (.int (pw (l * fn))), some (.int k0), some (.ref e.p), none, none, none, none, none] ∧ Same G1 G ∧ e.hd = 0 ∧ EnAt A G e l fn 0 m [] [] (List.replicate k0.toNat none) 0 ∧ ∀ c ∈ own (m := m) e [] [], G1 c = none, ?_, fun σ2 G2 => ?_⟩
  · walk_at "wp"
    intro sp dx hp hd hne
    refine ⟨sp, dx, .int l, .int fn, .int 0, rfl, upd_same, kn_int.mpr trivial, kn_int.mpr trivial, kn_int.mpr trivial, ?_⟩
    rw [if_pos (good_of g1)]
    refine ⟨l, fn, 0, rfl, rfl, rfl, rfl, ?_⟩
    have b1 : Same G1 (upd (upd (upd G1 dx (.own sp)) sp (.ins A.C_Shape dx [])) sp (.ins A.C_Shape dx (shF l fn 0))) := fun c o h => by rw [upd_ne (ne_of_none h hp), upd_ne (ne_of_none h hp), upd_ne (ne_of_none h hd)]; exact h
    have hS1 : ShapeAt A.C_Shape (upd (upd (upd G1 dx (.own sp)) sp (.ins A.C_Shape dx [])) sp (.ins A.C_Shape dx (shF l fn 0))) sp l fn 0 := ⟨dx, upd_same⟩
    generalize upd (upd (upd G1 dx (.own sp)) sp (.ins A.C_Shape dx [])) sp (.ins A.C_Shape dx (shF l fn 0)) = J1 at *
    intro x dx2 hx hdx2 hne2
    have b2 : Same J1 (upd (upd J1 dx2 (.own x)) x (.ins A.C_Entries dx2 [])) := fun c o h => by rw [upd_ne (ne_of_none h hx), upd_ne (ne_of_none h hdx2)]; exact h
    refine ⟨x, dx2, sp, l, fn, 0, k0, rfl, upd_same, hS1.same b2, g1, by omega, by omega, fun e H2 hbp hhd hEb kb nb0 db => ⟨rfl, ?_⟩⟩
    subst hbp
    have hm2 : (l - 1).toNat = m := by omega
    rw [hm2] at hEb nb0
    exact ⟨e, rfl, fun c o h => kb c o (b2 c o (b1 c o h)) (ne_of_none (b1 c o h) hx), hhd, hEb, fun c hc => same_none b1 (same_none b2 (nb0 c hc))⟩
  rintro ⟨e, rfl, s2, hhd, hE2, no2⟩
  refine ⟨fun σ G => ∃ (b2 ra2 fa2 : Addr), σ = [some (.ref a), some (.int l), some (.int fn), some (.int (pw (l * fn))), some (.int k0), some (.ref e.p), some (.ref b2), none, none, none, none] ∧ Same G2 G ∧ BkAt A.C_Book G b2 ra2 fa2 (List.replicate k0.toNat none) 0 0 ∧ G2 b2 = none ∧ G2 ra2 = none ∧ G2 fa2 = none, ?_, fun σ3 G3 => ?_⟩
  · walk_at "wp"
    intro x dx hx hdx hne
    have b2 : Same G2 (upd (upd G2 dx (.own x)) x (.ins A.C_Book dx [])) := fun c o h => by rw [upd_ne (ne_of_none h hx), upd_ne (ne_of_none h hdx)]; exact h
    refine ⟨x, dx, k0, rfl, by omega, by omega, upd_same, fun H' ra fa kp hB hra hfa => ⟨rfl, (fun c o h => kp c o (b2 c o h) fun z => (ne_of_none h hx) (List.mem_singleton.mp z)), ra, fa, hB, hx, same_none b2 hra, same_none b2 hfa⟩⟩
  rintro ⟨b2, ra2, fa2, rfl, s3, hB3, nb2, nra, nfa⟩
  have hE3 := hE2.same s3
  have hbk : e.bk ≠ b2 := fun z => by
    obtain ⟨_, _, _, h, _⟩ := hE2.bk
    rw [z, nb2] at h; cases h
  have or3 : ra2 ∉ own (m := m) e [] [] := fun z => hE2.ex ra2 z nra
  have of3 : fa2 ∉ own (m := m) e [] [] := fun z => hE2.ex fa2 z nfa
  have nra1 := same_none s2 nra
  have nfa1 := same_none s2 nfa
  have s13 := s2.trans s3
  clear hE2 s2 s3 nra nfa nb2
  refine ⟨fun σ G => ∃ v7 ts bs, σ = [some (.ref a), some (.int l), some (.int fn), some (.int (pw (l * fn))), some (.int k0), some (.ref e.p), some (.ref b2), v7, none, none, none] ∧ Same G1 G ∧ EnAt A G e l fn 0 m ts bs (List.replicate k0.toNat none) 0 ∧ BkAt A.C_Book G b2 ra2 fa2 (List.replicate k0.toNat none) 0 0 ∧ ra2 ∉ own e ts bs ∧ fa2 ∉ own e ts bs ∧ ts.map Tb.n = [0, 1, 2] ∧ bs.map Bn.n = [0, 1, 2] ∧ (∀ x ∈ ts, ∃ top, x.t = nw m top) ∧ ∀ b ∈ bs, b.xs = List.replicate 64 .non, ?_, fun σ4 G4 => ?_⟩
  · walk_at "wp"
    intro p hp
    obtain ⟨s4, gp4⟩ := new_at (o := .lst (([0, 1, 2] : List Int).map V.int)) hp
    show (∃ xs, SqL K (upd G3 p (.lst (([0, 1, 2] : List Int).map V.int))) p xs) ∧ Loop _ _ _ _ _ _ (upd G3 p (.lst (([0, 1, 2] : List Int).map V.int)))
    generalize upd G3 p _ = G4 at *
    have po4 : p ∉ own (m := m) e [] [] := fun z => hE3.ex p z hp
    have hnd : ([0, 1, 2] : List Int).Nodup := by decide
    have hlen : ([0, 1, 2] : List Int).length = 3 := rfl
    generalize ([0, 1, 2] : List Int) = Ls at *
    refine ⟨⟨_, SqL.of gp4⟩, loop_list (K := K) (xs := Ls.map V.int) (fun i σ G => ∃ v7 ts bs, σ = [some (.ref a), some (.int l), some (.int fn), some (.int (pw (l * fn))), some (.int k0), some (.ref e.p), some (.ref b2), v7, none, none, none] ∧ Same G1 G ∧ EnAt A G e l fn 0 m ts bs (List.replicate k0.toNat none) 0 ∧ BkAt A.C_Book G b2 ra2 fa2 (List.replicate k0.toNat none) 0 0 ∧ ra2 ∉ own e ts bs ∧ fa2 ∉ own e ts bs ∧ ts.map Tb.n = Ls.take i ∧ bs.map Bn.n = Ls.take i ∧ (∀ x ∈ ts, ∃ top, x.t = nw m top) ∧ (∀ b ∈ bs, b.xs = List.replicate 64 .non) ∧ (∀ c ∈ own e ts bs, G1 c = none) ∧ G p = some (.lst (Ls.map V.int)) ∧ p ∉ own e ts bs) ⟨_, [], [], rfl, s13.trans s4, hE3.same s4, hB3.same s4, or3, of3, by rw [List.take_zero]; rfl, by rw [List.take_zero]; rfl, (fun x hx => by cases hx), (fun x hx => by cases hx), no2, gp4, po4⟩ (fun i σ G _ ⟨_, _, _, _, _, _, _, _, _, _, _, _, _, _, e, _⟩ => SqL.of e) (fun i v σ G hi => ?_) (fun σ G => ?_)⟩
    · rintro ⟨v7, ts, bs, rfl, t1, hE, hB, hro, hfo, htn, hbn, htp, hbp, hno, hpp, hpo⟩
      rw [List.getElem?_map] at hi
      obtain ⟨n, hn9, rfl⟩ : ∃ n, Ls[i]? = some n ∧ v = V.int n := by
        cases e9 : Ls[i]? with
        | none => rw [e9] at hi; cases hi
        | some n => rw [e9] at hi; exact ⟨n, rfl, (Option.some.inj hi).symm⟩
      have htl : ts.length ≤ 3 := by
        have := congrArg List.length htn
        rw [List.length_map, List.length_take] at this
        omega
      have hbl : bs.length ≤ 3 := by
        have := congrArg List.length hbn
        rw [List.length_map, List.length_take] at this
        omega
      obtain ⟨dx7, h17⟩ := hE.me
      walk_at "wp"
      refine ⟨dx7, _, h17, enF_no (by decide +kernel), e, l, fn, 0, m, ts, bs, _, 0, n, rfl, hE, by rw [htn]; exact nd_takeI hnd hn9, by omega, fun tp top H' hE' htop ch d1 => ?_⟩
      obtain ⟨dx8, h18⟩ := hE'.me
      refine ⟨dx8, _, h18, enF_no (by decide +kernel), e, l, fn, 0, m, _, bs, _, 0, n, 64, rfl, hE', by rw [hbn]; exact nd_takeI hnd hn9, by omega, by omega, by omega, fun ba H2 hE2 hba ch2 _ => ?_⟩
      have own1 : ∀ c ∈ own e (ts ++ [⟨n, tp, nw m top⟩]) bs, c ∈ own e ts bs ∨ c = top := fun c hc => by
        rw [own_more] at hc
        rcases List.mem_append.mp hc with h | h
        · exact .inl h
        · exact .inr (List.mem_singleton.mp (show c ∈ [top] from h))
      have own' : ∀ c ∈ own e (ts ++ [⟨n, tp, nw m top⟩]) (bs ++ [⟨n, ba, List.replicate (64 : Int).toNat .non⟩]), c ∈ own e ts bs ∨ G c = none := fun c hc => by
        rcases List.mem_cons.mp (own_bmore.mem_iff.mp hc) with h | h
        · right; rw [h]; exact d1 _ hba
        · rcases own1 c h with h | h
          · exact .inl h
          · right; rw [h]; exact htop
      have ch12 : Ch (own e ts bs) G H2 := ch.trans ch2 fun c hc => (own1 c hc).elim .inl fun h => .inr (by rw [h]; exact htop)
      have keep : ∀ {c : Addr} {o : HO}, G c = some o → c ∉ own e ts bs → c ∉ own e (ts ++ [⟨n, tp, nw m top⟩]) (bs ++ [⟨n, ba, List.replicate (64 : Int).toNat .non⟩]) := fun hc hno z => (own' _ z).elim hno fun e9 => by rw [e9] at hc; cases hc
      obtain ⟨_, _, _, _, q2, _, q4, _⟩ := id hB
      refine ⟨(fun c o h => ch12 c o (t1 c o h) fun z => by rw [hno c z] at h; cases h), _, _, hE2, bk_ch hB ch12 hro hfo, keep q2 hro, keep q4 hfo, by rw [List.map_append, htn, List.take_add_one, hn9]; rfl, by rw [List.map_append, hbn, List.take_add_one, hn9]; rfl, fun x hx => ?_, fun x hx => ?_, fun c hc => (own' c hc).elim (hno c) fun h => same_none t1 h, ch12 _ _ hpp fun z => absurd z hpo, keep hpp hpo⟩
      · rcases List.mem_append.mp hx with h | h
        · exact htp x h
        · rw [List.mem_singleton.mp h]; exact ⟨top, rfl⟩
      · rcases List.mem_append.mp hx with h | h
        · exact hbp x h
        · rw [List.mem_singleton.mp h]; rfl
    · rintro ⟨v7, ts, bs, rfl, t1, hE, hB, hro, hfo, htn, hbn, htp, hbp, hno, hpp, hpo⟩
      rw [List.length_map, List.take_length] at htn hbn
      exact ⟨v7, rfl, t1, ts, bs, hE, hB, hro, hfo, htn, hbn, htp, hbp⟩
  rintro ⟨v7, ts, bs, rfl, s4, hE4, hB4, or4, of4, htn, hbn, htp, hbp⟩
  clear hE3 hB3 no2 or3 of3 s13
  unfold tDNewT
  walk_at "wp"
  intro kd hkd
  obtain ⟨s5, gk5⟩ := new_at (o := .dT []) hkd
  generalize upd G4 kd _ = G5 at *
  refine ⟨_, (s4.trans s5).seq hs, fun sl hsl => ?_⟩
  have hcut : cutV (ns.map V.int) (some 3) (some 63) = ((ns.take 63).drop 3).map V.int := by rw [show cutV (ns.map V.int) (some 3) (some 63) = ((ns.map V.int).take 63).drop 3 from cutV_nat (lo := 3) (hi := 63), ← List.map_take, ← List.map_drop]
  rw [hcut]
  have hcl : ((ns.take 63).drop 3).length ≤ 60 := by rw [List.length_drop, List.length_take]; omega
  generalize (ns.take 63).drop 3 = zc at *
  obtain ⟨s6, g6⟩ := new_at (o := .lst (zc.map V.int)) hsl
  generalize upd G5 sl _ = G6 at *
  have hW6 : Wt A l fn m e.p b2 ra2 fa2 kd sl (zc.map V.int) 0 G6 := by
    obtain ⟨_, _, _, q1, q2, _, q4, _⟩ := id hB4
    have ext : ∀ {n : Int}, T3 n → n ∈ ([0, 1, 2] : List Int) := fun h => by rcases h with rfl | rfl | rfl <;> simp
    refine ⟨e, ts, bs, _, 0, 0, [], rfl, ⟨(hE4.same s5).same s6, by rw [hhd]; exact (hB4.same s5).same s6, ⟨fun n hn3 => ?_, ?_⟩, fun n hn3 => ?_, fun b hb => ?_, s6 _ _ gk5, g6, fun z => hE4.ex kd z hkd, or4, of4, fun z => ?_, hbk, fun z => (hE4.same s5).ex sl z hsl, fun z => ?_⟩, fun x hx y h0 h1 => ?_, fun j r hj => ?_, ⟨.nil, (fun p hp => by cases hp)⟩, ?_, fun z => ?_, Nat.le_refl _, Nat.le_refl _, Nat.le_refl _⟩
    · have : n ∈ ts.map Tb.n := by rw [htn]; exact ext hn3
      obtain ⟨x, hx, e9⟩ := List.mem_map.mp this
      exact ⟨x, hx, e9⟩
    · have := congrArg List.length htn
      rw [List.length_map] at this
      exact Nat.le_of_eq this
    · have : n ∈ bs.map Bn.n := by rw [hbn]; exact ext hn3
      obtain ⟨x, hx, e9⟩ := List.mem_map.mp this
      exact ⟨x, hx, e9⟩
    · rw [hbp b hb]
      exact ⟨List.length_replicate, fun v hv => .inl (List.eq_of_mem_replicate hv)⟩
    · rw [z, q4] at hkd; cases hkd
    · rw [z, s5 _ _ q2] at hsl; cases hsl
    · obtain ⟨top, e9⟩ := htp x hx
      rw [e9, lk_new]; rfl
    · have := List.mem_of_getElem? hj
      have := List.eq_of_mem_replicate this
      cases this
    · rw [List.length_replicate]; omega
    · rw [hhd, List.length_replicate]
      have hpos := List.length_pos_iff.mpr z
      rw [List.length_replicate] at hpos
      omega
  clear hE4 hB4 or4 of4 htn hbn htp hbp s4 s5 gk5 hkd hs nra1 nfa1 hbk hhd
  have hPw : 0 < pw (l * fn) := pw_pos _
  have hz := PySem.sizeLine_eq
  have list_at : ∀ {i : Nat} {G : Hp}, Wt A l fn m e.p b2 ra2 fa2 kd sl (zc.map V.int) i G → G sl = some (.lst (zc.map V.int)) := fun ⟨_, _, _, _, _, _, _, _, hP, _⟩ => hP.hs
  refine ⟨⟨_, SqL.of g6⟩, loop_list (K := K) (xs := zc.map V.int) (fun i σ G => ∃ v7 v9 v10, σ = [some (.ref a), some (.int l), some (.int fn), some (.int (pw (l * fn))), some (.int k0), some (.ref e.p), some (.ref b2), v7, some (.ref kd), v9, v10] ∧ Wt A l fn m e.p b2 ra2 fa2 kd sl (zc.map V.int) i G) ⟨_, _, _, rfl, hW6⟩ (fun i σ G _ ⟨_, _, _, _, h⟩ => SqL.of (list_at h)) (fun i v σ G hi => ?_) (fun σ G => ?_)⟩
  · clear hW6 s6 g6 hsl
    rintro ⟨v7, v9, v10, rfl, hW⟩
    rw [List.getElem?_map] at hi
    obtain ⟨c, hc, rfl⟩ : ∃ c, zc[i]? = some c ∧ v = V.int c := by
      cases e9 : zc[i]? with
      | none => rw [e9] at hi; cases hi
      | some c => rw [e9] at hi; exact ⟨c, rfl, (Option.some.inj hi).symm⟩
    have hil := (List.getElem?_eq_some_iff.mp hc).1
    walk_at "wp"
    refine ⟨c, 1, 3, rfl, by omega, by omega, by omega, by omega, fun n G7 hn0 hn1 s7 => ?_⟩
    have hT : T3 n := by unfold T3; omega
    have hW7 := hW.same s7
    clear hW s7
    refine ⟨fun σ G => ∃ y : Int, σ = [some (.ref a), some (.int l), some (.int fn), some (.int (pw (l * fn))), some (.int k0), some (.ref e.p), some (.ref b2), some (.int n), some (.ref kd), some (.int c), some (.int y)] ∧ Same G7 G ∧ 0 ≤ y ∧ y < pw (l * fn), ?_, fun σ8 G8 => ?_⟩
    · walk_at "wp"
      refine ⟨c, 2, 8, rfl, by omega, by omega, by omega, by omega, fun z G8 hz0 hz1 s8 => ?_⟩
      exact ⟨z, rfl, hPw, s8, Int.emod_nonneg _ (by omega), Int.emod_lt_of_pos _ hPw⟩
    rintro ⟨y, rfl, s8, hy0, hy1⟩
    have hW8 := hW7.same s8
    clear hW7 s8
    refine ⟨fun σ G => σ = [some (.ref a), some (.int l), some (.int fn), some (.int (pw (l * fn))), some (.int k0), some (.ref e.p), some (.ref b2), some (.int n), some (.ref kd), some (.int c), some (.int y)] ∧ Wt A l fn m e.p b2 ra2 fa2 kd sl (zc.map V.int) (i + 1) G, ?_, fun σ9 G9 => ?_⟩
    · walk_at "wp"
      exact ⟨l, fn, m, e.p, b2, ra2, fa2, kd, sl, _, i, n, y, c, rfl, hW8, hT, hy0, hy1, by omega, fun H' h => h⟩
    rintro ⟨rfl, hW9⟩
    clear hW8
    refine ⟨fun σ G => σ = [some (.ref a), some (.int l), some (.int fn), some (.int (pw (l * fn))), some (.int k0), some (.ref e.p), some (.ref b2), some (.int n), some (.ref kd), some (.int c), some (.int y)] ∧ Wt A l fn m e.p b2 ra2 fa2 kd sl (zc.map V.int) (i + 1) G, ?_, fun σ10 G10 => ?_⟩
    · walk_at "wp"
      refine hW9.alike fun H' s9 => ⟨true, rfl, iteF ?_⟩
      have hW10 := hW9.same s9
      exact ⟨l, fn, m, e.p, b2, ra2, fa2, kd, sl, _, _, rfl, hW10, fun H2 s10 => ⟨true, rfl, iteF (hW10.same s10)⟩⟩
    rintro ⟨rfl, hW10⟩
    clear hW9
    have hW11 := hW10
    obtain ⟨e', ts, bs, rows, nb, n2, kvs, he, hP, hAg, hTr, hWf, hrl, hhd, hnb, hn2, hkl⟩ := hW11
    obtain ⟨dx, h1⟩ := hP.en.me
    unfold tDNotIn
    walk_at "wp"
    rw [← he]
    refine ⟨dx, _, h1, enF_no (by decide +kernel), e', l, fn, 0, m, ts, bs, rows, nb, n, y, rfl, hP.en, fun G11 s11 => ?_⟩
    by_cases c9 : ∃ (j : Nat) (r : Rw), rows[j]? = some (some r) ∧ r.t = n ∧ r.g = y
    · obtain ⟨j, r, hj, rfl, rfl⟩ := c9
      have hv := hTr j r hj
      rw [look_tells hP.en.uq ⟨j, r, hj, rfl, rfl, rfl⟩]
      refine ifp rfl fun k hk => ?_
      obtain ⟨s12, g12⟩ := new_at (o := .tup [V.int r.t, V.int r.g]) hk
      generalize upd G11 k _ = G12 at *
      refine ⟨_, .inr ⟨kvs, ky r.t r.g, k, .inl (s12 _ _ (s11 _ _ hP.ht)), rfl, g12, rfl⟩, ?_⟩
      rw [hv]
      refine iteF ?_
      rw [he]
      exact (hW10.same s11).same s12
    · rw [look_none fun j r hj z => c9 ⟨j, r, hj, z⟩]
      refine ifn rfl (iteF ?_)
      rw [he]
      exact hW10.same s11
  · rintro ⟨v7, v9, v10, rfl, hW⟩
    walk_at "wp"
    exact hW.alike fun H' _ => qq H'

end

theorem walk {l : PySem.W.OpenLaw} {q : Program} {loose : List Str} {XP : (Str → Option Value) → Heap → Prop} {YP : World → Heap → Prop} {d : DefRec} {K : Params → PySem.W.Frag} (hn : l.most = some 63) (hdf : d.params.defaults = []) (hdn : d.name = "law")
    (hY : ∀ (w : World) (h : Heap), YP w h → (K w.params).In h)
    (F : ∀ (w : World) (mg : Str → Option Value) (h : Heap), (K w.params).In h → h.Ns mainGlobals mg → ∃ A : Adr, Txt (K w.params) mg A) :
    PySem.W.WalkO q loose XP YP l.row.toRowW d [] (fun f vs => PySem.call f vs) := by
  refine L2.walk_of (n := 63) (k := 14 + 1) (x := "_law_script") (CX := fun w => CXe l.prog w) (sp := fun w => spLaw (K w.params)) hn (by decide) hdf ⟨rfl, by decide, by decide⟩ hY ?_ (fun _ _ a ns hl _ hS => ⟨a, ns, rfl, hS, hl, fun _ => rfl⟩) fun _ _ _ _ _ ⟨_, _, _, _, _, _, _, _, _, _, z⟩ => z
  intro w mg fa h KX G hmg
  rw [hdn] at hmg
  obtain ⟨A, T⟩ := F w mg h KX G
  obtain ⟨f, fd, e, Fn, hb⟩ := T.r_law
  have e0 := hmg.symm.trans e
  cases e0
  exact ⟨fd, hb, fun base _ _ => Fn.okE sc_law (fun vs H Q E z => by obtain ⟨a, ns, rfl, _⟩ := z; rfl) (body_law (P := l.prog) (w := w) (base := base) T)⟩

section
open Hd
noncomputable def o2 (_ : Params) : Obj := ⟨.none, none, .dict ⟨[]⟩ 0, #[]⟩
noncomputable def o3 (P : Params) : Obj := dO 37 [ent P (S 6944663249689206880) 165 (.str (S 42150709645680082068968208975651626554211192314753116866747064941) 787), ent P (S 27127582262911072) 166 .none, ent P (S 116512114954948911152848992) 167 .none, ent P (S 455126385231797511086176) 168 (.builtin "__main__.__loader__#opaque"), ent P (S 6944661016558198880) 169 .none, ent P (S 500416834696884185539869749159288928) 170 (.ref 6), ent P (S 29827167671303893903271485536) 171 (.ref 4), ent P (S 6944663245527933024) 173 (.str (S 9700865007064396754801562313776) 172), ent P (S 455125376429887381069920) 174 .none, ent P (S 469986605152) 193 (.ref 21), ent P (S 504413714548) 205 (.ref 28), ent P (S 1819308099) 301 (.ref 92), ent P (S 33040738550837357) 313 (.ref 103), ent P (S 129065385555569) 324 (.ref 110), ent P (S 33040738634724197) 333 (.ref 117), ent P (S 29115481922039925) 345 (.ref 124), ent P (S 439921893973) 423 (.ref 181), ent P (S 32763704688078662) 575 (.ref 300), ent P (S 545146499936607105348423) 595 (.ref 314), ent P (S 28835115112362063) 611 (.ref 327), ent P (S 2037243915540886812240) 627 (.ref 339), ent P (S 7380678962623575146) 636 (.ref 348), ent P (S 2055256381122481779818) 645 (.ref 355), ent P (S 34807946493563893454802022513) 656 (.ref 362), ent P (S 2360876520579034574696528942098788) 665 (.ref 369), ent P (S 439988939092) 786 (.ref 456), ent P (S 36328676245180164783460216160) 796 (.ref 467), ent P (S 8748926586736242016) 807 (.ref 474), ent P (S 483865979046955610959200) 814 (.ref 481), ent P (S 31381812998265272964474891616) 823 (.ref 488), ent P (S 1889380072283105815904) 832 (.ref 495), ent P (S 1890103190294368513376) 841 (.ref 502), ent P (S 123803614394812254453394784) 857 (.ref 509), ent P (S 483829304806924328529248) 868 (.ref 516), ent P (S 2056636332573130690329968923274592) 878 (.ref 523), ent P (S 1870499847949168831840) 891 (.ref 530), ent P (S 7889517) 908 (.ref 537)]
noncomputable def o15 (_ : Params) : Obj := tO []
noncomputable def o17 (_ : Params) : Obj := tO [(.str (S 108) 190)]
noncomputable def o20 (_ : Params) : Obj := cO [(.str (S 469986605152) 187), (.str (S 469986605152) 188), (.str (S 9700865007064396754801562313776) 189), (.int (1) 0), (.int (1) 0), (.int (0) 0), (.int (0) 0), (.int (3) 0), (.ref 15), (.bool true), (.int (181) 0), (.ref 16), .none, (.ref 17), (.ref 18), (.ref 19), (.int (191) 0), (.int (1) 0), (.str (S 9700865007064396754801562313776) 192)]
noncomputable def o21 (_ : Params) : Obj := ⟨(.type "function"), none, .func (PySem.W.fnOf (Str.ofString "_wall") (Str.ofString "_wall") (defArgs (top 0)) (defBody (top 0)) (defScope (top 0)) .none .none .none (.str (S 6944673128113922144) 164) none (.ref 20) .none), #[]⟩
noncomputable def o24 (_ : Params) : Obj := tO [(.str (S 500035707502) 199), (.str (S 1701798505) 200), (.str (S 111490714854001) 201), (.str (S 439770836337) 202)]
noncomputable def o27 (_ : Params) : Obj := cO [(.str (S 504413714548) 196), (.str (S 504413714548) 197), (.str (S 9700865007064396754801562313776) 198), (.int (5) 0), (.int (2) 0), (.int (0) 0), (.int (0) 0), (.int (3) 0), (.ref 22), (.bool true), (.int (181) 0), (.ref 23), .none, (.ref 24), (.ref 25), (.ref 26), (.int (203) 0), (.int (5) 0), (.str (S 9700865007064396754801562313776) 204)]
noncomputable def o28 (_ : Params) : Obj := ⟨(.type "function"), none, .func (PySem.W.fnOf (Str.ofString "swept") (Str.ofString "swept") (defArgs (top 2)) (defBody (top 2)) (defScope (top 2)) .none .none .none (.str (S 604424633459520194665304702243205991) 194) none (.ref 27) .none), #[]⟩
noncomputable def o38 (_ : Params) : Obj := tO [(.str (S 1735222900) 223), (.str (S 2054120046) 224)]
noncomputable def o41 (_ : Params) : Obj := cO [(.str (S 6944679725401530464) 220), (.str (S 7635756109259221455877975339075) 221), (.str (S 9700865007064396754801562313776) 222), (.int (15) 0), (.int (2) 0), (.int (0) 0), (.int (0) 0), (.int (3) 0), (.ref 36), (.bool true), (.int (181) 0), (.ref 37), .none, (.ref 38), (.ref 39), (.ref 40), (.int (225) 0), (.int (15) 0), (.str (S 9700865007064396754801562313776) 226)]
noncomputable def o42 (_ : Params) : Obj := ⟨(.type "function"), none, .func (PySem.W.fnOf (Str.ofString "__init__") (Str.ofString "Book.__init__") (defArgs (inClass (top 4) 0)) (defBody (inClass (top 4) 0)) (defScope (inClass (top 4) 0)) .none .none .none (.str (S 2199408573624556516036856156156775) 206) none (.ref 41) .none), #[]⟩
noncomputable def o45 (_ : Params) : Obj := tO [(.str (S 1735222900) 231), (.str (S 1819566709) 232), (.str (S 1718116977) 233), (.str (S 439770836337) 234)]
noncomputable def o48 (_ : Params) : Obj := cO [(.str (S 1819308141) 228), (.str (S 2000350455740721295427) 229), (.str (S 9700865007064396754801562313776) 230), (.int (20) 0), (.int (3) 0), (.int (0) 0), (.int (0) 0), (.int (3) 0), (.ref 43), (.bool true), (.int (181) 0), (.ref 44), .none, (.ref 45), (.ref 46), (.ref 47), (.int (235) 0), (.int (20) 0), (.str (S 9700865007064396754801562313776) 236)]
noncomputable def o49 (_ : Params) : Obj := ⟨(.type "function"), none, .func (PySem.W.fnOf (Str.ofString "look") (Str.ofString "Book.look") (defArgs (inClass (top 4) 1)) (defBody (inClass (top 4) 1)) (defScope (inClass (top 4) 1)) .none .none .none (.str (S 2199408573624556516036856156156775) 206) none (.ref 48) .none), #[]⟩
noncomputable def o52 (_ : Params) : Obj := tO [(.str (S 1735222900) 241), (.str (S 1819566709) 242), (.str (S 1718116977) 243), (.str (S 439770836337) 244)]
noncomputable def o55 (_ : Params) : Obj := cO [(.str (S 6714486) 238), (.str (S 7382655635221934147) 239), (.str (S 9700865007064396754801562313776) 240), (.int (24) 0), (.int (3) 0), (.int (0) 0), (.int (0) 0), (.int (3) 0), (.ref 50), (.bool true), (.int (181) 0), (.ref 51), .none, (.ref 52), (.ref 53), (.ref 54), (.int (245) 0), (.int (24) 0), (.str (S 9700865007064396754801562313776) 246)]
noncomputable def o56 (_ : Params) : Obj := ⟨(.type "function"), none, .func (PySem.W.fnOf (Str.ofString "use") (Str.ofString "Book.use") (defArgs (inClass (top 4) 2)) (defBody (inClass (top 4) 2)) (defScope (inClass (top 4) 2)) .none .none .none (.str (S 2199408573624556516036856156156775) 206) none (.ref 55) .none), #[]⟩
noncomputable def o59 (_ : Params) : Obj := tO [(.str (S 1735222900) 251), (.str (S 1819566709) 252), (.str (S 1718116977) 253), (.str (S 525923086182) 254), (.str (S 439770836337) 255)]
noncomputable def o62 (_ : Params) : Obj := cO [(.str (S 1902536300) 248), (.str (S 2091860784319611039811) 249), (.str (S 9700865007064396754801562313776) 250), (.int (29) 0), (.int (4) 0), (.int (0) 0), (.int (0) 0), (.int (3) 0), (.ref 57), (.bool true), (.int (181) 0), (.ref 58), .none, (.ref 59), (.ref 60), (.ref 61), (.int (256) 0), (.int (29) 0), (.str (S 9700865007064396754801562313776) 257)]
noncomputable def o63 (_ : Params) : Obj := ⟨(.type "function"), none, .func (PySem.W.fnOf (Str.ofString "keep") (Str.ofString "Book.keep") (defArgs (inClass (top 4) 3)) (defBody (inClass (top 4) 3)) (defScope (inClass (top 4) 3)) .none .none .none (.str (S 2199408573624556516036856156156775) 206) none (.ref 62) .none), #[]⟩
noncomputable def o66 (_ : Params) : Obj := tO [(.str (S 1735222900) 262), (.str (S 1819566709) 263), (.str (S 1718116977) 264), (.str (S 439770836337) 265)]
noncomputable def o69 (_ : Params) : Obj := cO [(.str (S 112615828452724) 259), (.str (S 123822412855397544384032835) 260), (.str (S 9700865007064396754801562313776) 261), (.int (40) 0), (.int (3) 0), (.int (0) 0), (.int (0) 0), (.int (3) 0), (.ref 64), (.bool true), (.int (181) 0), (.ref 65), .none, (.ref 66), (.ref 67), (.ref 68), (.int (266) 0), (.int (40) 0), (.str (S 9700865007064396754801562313776) 267)]
noncomputable def o70 (_ : Params) : Obj := ⟨(.type "function"), none, .func (PySem.W.fnOf (Str.ofString "strike") (Str.ofString "Book.strike") (defArgs (inClass (top 4) 4)) (defBody (inClass (top 4) 4)) (defScope (inClass (top 4) 4)) .none .none .none (.str (S 2199408573624556516036856156156775) 206) none (.ref 69) .none), #[]⟩
noncomputable def o73 (_ : Params) : Obj := tO [(.str (S 1735222900) 272), (.str (S 1819566709) 273), (.str (S 8021612) 274)]
noncomputable def o76 (_ : Params) : Obj := cO [(.str (S 131113599269184769279358324) 269), (.str (S 144160926956031509666854269501697978435) 270), (.str (S 9700865007064396754801562313776) 271), (.int (45) 0), (.int (2) 0), (.int (0) 0), (.int (0) 0), (.int (3) 0), (.ref 71), (.bool true), (.int (181) 0), (.ref 72), .none, (.ref 73), (.ref 74), (.ref 75), (.int (275) 0), (.int (45) 0), (.str (S 9700865007064396754801562313776) 276)]
noncomputable def o77 (_ : Params) : Obj := ⟨(.type "function"), none, .func (PySem.W.fnOf (Str.ofString "strike_task") (Str.ofString "Book.strike_task") (defArgs (inClass (top 4) 5)) (defBody (inClass (top 4) 5)) (defScope (inClass (top 4) 5)) .none .none .none (.str (S 2199408573624556516036856156156775) 206) none (.ref 76) .none), #[]⟩
noncomputable def o80 (_ : Params) : Obj := tO [(.str (S 1735222900) 281)]
noncomputable def o83 (_ : Params) : Obj := cO [(.str (S 1701671029) 278), (.str (S 1871007083238733672515) 279), (.str (S 9700865007064396754801562313776) 280), (.int (50) 0), (.int (1) 0), (.int (0) 0), (.int (0) 0), (.int (3) 0), (.ref 78), (.bool true), (.int (181) 0), (.ref 79), .none, (.ref 80), (.ref 81), (.ref 82), (.int (282) 0), (.int (50) 0), (.str (S 9700865007064396754801562313776) 283)]
noncomputable def o84 (_ : Params) : Obj := ⟨(.type "function"), none, .func (PySem.W.fnOf (Str.ofString "told") (Str.ofString "Book.told") (defArgs (inClass (top 4) 6)) (defBody (inClass (top 4) 6)) (defScope (inClass (top 4) 6)) .none .none .none (.str (S 2199408573624556516036856156156775) 206) none (.ref 83) .none), #[]⟩
noncomputable def o88 (_ : Params) : Obj := cO [(.str (S 9539081618956132404483869273457) 285), (.str (S 10488331158346578517991439945993700223512643) 286), (.str (S 9700865007064396754801562313776) 287), (.int (53) 0), (.int (1) 0), (.int (0) 0), (.int (0) 0), (.int (3) 0), (.ref 85), (.bool true), (.int (181) 0), (.ref 86), .none, .none, .none, (.ref 87), (.int (288) 0), (.int (53) 0), (.str (S 9700865007064396754801562313776) 289)]
noncomputable def o89 (_ : Params) : Obj := ⟨(.type "function"), none, .func (PySem.W.fnOf (Str.ofString "place_for_new") (Str.ofString "Book.place_for_new") (defArgs (inClass (top 4) 7)) (defBody (inClass (top 4) 7)) (defScope (inClass (top 4) 7)) .none .none .none (.str (S 2199408573624556516036856156156775) 206) none (.ref 88) .none), #[]⟩
noncomputable def o90 (_ : Params) : Obj := ⟨(.type "tuple"), none, .seq #[(.str (Str.ofString "found") 291), (.str (Str.ofString "hand") 292), (.str (Str.ofString "rows") 293)] 0, #[]⟩
noncomputable def o91 (P : Params) : Obj := dO 4 [ent P (S 455125450472104437637216) 215 (.str (S 2199408573624556516036856156156775) 206), ent P (S 500416517772168279997240570217455712) 219 (.int (13) 218), ent P (S 6944679725401530464) 227 (.ref 42), ent P (S 1819308141) 237 (.ref 49), ent P (S 6714486) 247 (.ref 56), ent P (S 1902536300) 258 (.ref 63), ent P (S 112615828452724) 268 (.ref 70), ent P (S 131113599269184769279358324) 277 (.ref 77), ent P (S 1701671029) 284 (.ref 84), ent P (S 9539081618956132404483869273457) 290 (.ref 89), ent P (S 140854816109632365363434125429399349832812124725344) 294 (.ref 90), ent P (S 6944679699547512928) 296 (.ref 93), ent P (S 116512133262362862868258912) 298 (.ref 94), ent P (S 27127582262911072) 299 .none]
noncomputable def o92 (_ : Params) : Obj := ⟨(.type "type"), none, .cls { name := (Str.ofString "Book"), bases := [(.type "object")], mro := [(.ref 92), (.type "object")], ns := 91, qualname := (Str.ofString "Book"), hasDict := true, slotNames := [], subclasses := [], abstract := false, collection := none, hasDel := false }, #[none, none, (some (.str (S 1819308099) 208)), (some (.str (S 1819308099) 216)), (some (.builtin "object.__new__")), (some (.bool true))]⟩
noncomputable def o93 (_ : Params) : Obj := ⟨(.type "getset_descriptor"), none, .fields ⟨[(.str (S 6944679699547512928) 295), (.ref 92), (.builtin "function.__dict__"), (.builtin "function.__dict__#set")]⟩, #[]⟩
noncomputable def o94 (_ : Params) : Obj := ⟨(.type "getset_descriptor"), none, .fields ⟨[(.str (S 116512133262362862868258912) 297), (.ref 92), (.builtin "ExceptionGroup.__weakref__"), .none]⟩, #[]⟩
noncomputable def o99 (_ : Params) : Obj := tO [(.str (S 7434357) 307), (.str (S 500118746484) 308), (.str (S 435661729895) 309), (.str (S 1902540148) 310)]
noncomputable def o102 (_ : Params) : Obj := cO [(.str (S 33040738550837357) 304), (.str (S 33040738550837357) 305), (.str (S 9700865007064396754801562313776) 306), (.int (65) 0), (.int (2) 0), (.int (0) 0), (.int (0) 0), (.int (3) 0), (.ref 97), (.bool true), (.int (181) 0), (.ref 98), .none, (.ref 99), (.ref 100), (.ref 101), (.int (311) 0), (.int (65) 0), (.str (S 9700865007064396754801562313776) 312)]
noncomputable def o103 (_ : Params) : Obj := ⟨(.type "function"), none, .func (PySem.W.fnOf (Str.ofString "look_at") (Str.ofString "look_at") (defArgs (top 6)) (defBody (top 6)) (defScope (top 6)) .none .none .none (.str (S 154758486134260916874677995024360305511) 302) none (.ref 102) .none), #[]⟩
noncomputable def o106 (_ : Params) : Obj := tO [(.str (S 7434357) 317), (.str (S 500118746484) 318), (.str (S 525923086182) 319), (.str (S 469870536301) 320), (.str (S 1902540148) 321)]
noncomputable def o109 (_ : Params) : Obj := cO [(.str (S 129065385555569) 314), (.str (S 129065385555569) 315), (.str (S 9700865007064396754801562313776) 316), (.int (72) 0), (.int (3) 0), (.int (0) 0), (.int (0) 0), (.int (3) 0), (.ref 104), (.bool true), (.int (181) 0), (.ref 105), .none, (.ref 106), (.ref 107), (.ref 108), (.int (322) 0), (.int (72) 0), (.str (S 9700865007064396754801562313776) 323)]
noncomputable def o110 (_ : Params) : Obj := ⟨(.type "function"), none, .func (PySem.W.fnOf (Str.ofString "put_at") (Str.ofString "put_at") (defArgs (top 7)) (defBody (top 7)) (defScope (top 7)) .none .none .none (.str (S 154758486134260916874677995024360305511) 302) none (.ref 109) .none), #[]⟩
noncomputable def o113 (_ : Params) : Obj := tO [(.str (S 469870536301) 328), (.str (S 500118746484) 329), (.str (S 1902540148) 330)]
noncomputable def o116 (_ : Params) : Obj := cO [(.str (S 33040738634724197) 325), (.str (S 33040738634724197) 326), (.str (S 9700865007064396754801562313776) 327), (.int (77) 0), (.int (2) 0), (.int (0) 0), (.int (0) 0), (.int (3) 0), (.ref 111), (.bool true), (.int (181) 0), (.ref 112), .none, (.ref 113), (.ref 114), (.ref 115), (.int (331) 0), (.int (77) 0), (.str (S 9700865007064396754801562313776) 332)]
noncomputable def o117 (_ : Params) : Obj := ⟨(.type "function"), none, .func (PySem.W.fnOf (Str.ofString "drop_at") (Str.ofString "drop_at") (defArgs (top 8)) (defBody (top 8)) (defScope (top 8)) .none .none .none (.str (S 154758486134260916874677995024360305511) 302) none (.ref 116) .none), #[]⟩
noncomputable def o120 (_ : Params) : Obj := tO [(.str (S 469870536301) 337), (.str (S 128013219358317) 338), (.str (S 435442575714) 339), (.str (S 1701671029) 340), (.str (S 1902540148) 341), (.str (S 500118746484) 342)]
noncomputable def o123 (_ : Params) : Obj := cO [(.str (S 29115481922039925) 334), (.str (S 29115481922039925) 335), (.str (S 9700865007064396754801562313776) 336), (.int (86) 0), (.int (3) 0), (.int (0) 0), (.int (0) 0), (.int (3) 0), (.ref 118), (.bool true), (.int (181) 0), (.ref 119), .none, (.ref 120), (.ref 121), (.ref 122), (.int (343) 0), (.int (86) 0), (.str (S 9700865007064396754801562313776) 344)]
noncomputable def o124 (_ : Params) : Obj := ⟨(.type "function"), none, .func (PySem.W.fnOf (Str.ofString "told_of") (Str.ofString "told_of") (defArgs (top 9)) (defBody (top 9)) (defScope (top 9)) .none .none .none (.str (S 154758486134260916874677995024360305511) 302) none (.ref 123) .none), #[]⟩
noncomputable def o134 (_ : Params) : Obj := tO [(.str (S 1735222900) 363), (.str (S 439988939124) 364)]
noncomputable def o137 (_ : Params) : Obj := cO [(.str (S 6944679725401530464) 360), (.str (S 1954753563970360692704735865823829) 361), (.str (S 9700865007064396754801562313776) 362), (.int (98) 0), (.int (2) 0), (.int (0) 0), (.int (0) 0), (.int (3) 0), (.ref 132), (.bool true), (.int (181) 0), (.ref 133), .none, (.ref 134), (.ref 135), (.ref 136), (.int (365) 0), (.int (98) 0), (.str (S 9700865007064396754801562313776) 366)]
noncomputable def o138 (_ : Params) : Obj := ⟨(.type "function"), none, .func (PySem.W.fnOf (Str.ofString "__init__") (Str.ofString "Table.__init__") (defArgs (inClass (top 11) 0)) (defBody (inClass (top 11) 0)) (defScope (inClass (top 11) 0)) .none .none .none (.str (S 154722280447326879724956034068434285415) 346) none (.ref 137) .none), #[]⟩
noncomputable def o141 (_ : Params) : Obj := tO [(.str (S 1735222900) 371), (.str (S 1718116977) 372), (.str (S 525923086182) 373)]
noncomputable def o144 (_ : Params) : Obj := cO [(.str (S 7698033) 368), (.str (S 2166803711509829739093) 369), (.str (S 9700865007064396754801562313776) 370), (.int (102) 0), (.int (3) 0), (.int (0) 0), (.int (0) 0), (.int (3) 0), (.ref 139), (.bool true), (.int (181) 0), (.ref 140), .none, (.ref 141), (.ref 142), (.ref 143), (.int (374) 0), (.int (102) 0), (.str (S 9700865007064396754801562313776) 375)]
noncomputable def o145 (_ : Params) : Obj := ⟨(.type "function"), none, .func (PySem.W.fnOf (Str.ofString "put") (Str.ofString "Table.put") (defArgs (inClass (top 11) 1)) (defBody (inClass (top 11) 1)) (defScope (inClass (top 11) 1)) .none .none .none (.str (S 154722280447326879724956034068434285415) 346) none (.ref 144) .none), #[]⟩
noncomputable def o148 (_ : Params) : Obj := tO [(.str (S 1735222900) 380), (.str (S 1718116977) 381)]
noncomputable def o151 (_ : Params) : Obj := cO [(.str (S 1819308141) 377), (.str (S 512089716669598830649941) 378), (.str (S 9700865007064396754801562313776) 379), (.int (105) 0), (.int (2) 0), (.int (0) 0), (.int (0) 0), (.int (3) 0), (.ref 146), (.bool true), (.int (181) 0), (.ref 147), .none, (.ref 148), (.ref 149), (.ref 150), (.int (382) 0), (.int (105) 0), (.str (S 9700865007064396754801562313776) 383)]
noncomputable def o152 (_ : Params) : Obj := ⟨(.type "function"), none, .func (PySem.W.fnOf (Str.ofString "look") (Str.ofString "Table.look") (defArgs (inClass (top 11) 2)) (defBody (inClass (top 11) 2)) (defScope (inClass (top 11) 2)) .none .none .none (.str (S 154722280447326879724956034068434285415) 346) none (.ref 151) .none), #[]⟩
noncomputable def o155 (_ : Params) : Obj := tO [(.str (S 1735222900) 388), (.str (S 1718116977) 389)]
noncomputable def o158 (_ : Params) : Obj := cO [(.str (S 1903194981) 385), (.str (S 535701763004929356816981) 386), (.str (S 9700865007064396754801562313776) 387), (.int (108) 0), (.int (2) 0), (.int (0) 0), (.int (0) 0), (.int (3) 0), (.ref 153), (.bool true), (.int (181) 0), (.ref 154), .none, (.ref 155), (.ref 156), (.ref 157), (.int (390) 0), (.int (108) 0), (.str (S 9700865007064396754801562313776) 391)]
noncomputable def o159 (_ : Params) : Obj := ⟨(.type "function"), none, .func (PySem.W.fnOf (Str.ofString "drop") (Str.ofString "Table.drop") (defArgs (inClass (top 11) 3)) (defBody (inClass (top 11) 3)) (defScope (inClass (top 11) 3)) .none .none .none (.str (S 154722280447326879724956034068434285415) 346) none (.ref 158) .none), #[]⟩
noncomputable def o163 (_ : Params) : Obj := cO [(.str (S 1701671029) 393), (.str (S 478977813309089999184469) 394), (.str (S 9700865007064396754801562313776) 395), (.int (111) 0), (.int (1) 0), (.int (0) 0), (.int (0) 0), (.int (3) 0), (.ref 160), (.bool true), (.int (181) 0), (.ref 161), .none, .none, .none, (.ref 162), (.int (396) 0), (.int (111) 0), (.str (S 9700865007064396754801562313776) 397)]
noncomputable def o164 (_ : Params) : Obj := ⟨(.type "function"), none, .func (PySem.W.fnOf (Str.ofString "told") (Str.ofString "Table.told") (defArgs (inClass (top 11) 4)) (defBody (inClass (top 11) 4)) (defScope (inClass (top 11) 4)) .none .none .none (.str (S 154722280447326879724956034068434285415) 346) none (.ref 163) .none), #[]⟩
noncomputable def o167 (_ : Params) : Obj := tO [(.str (S 1735222900) 402)]
noncomputable def o170 (_ : Params) : Obj := cO [(.str (S 141970688389014864743588469) 399), (.str (S 39961196207893759245128558236988319425109) 400), (.str (S 9700865007064396754801562313776) 401), (.int (114) 0), (.int (1) 0), (.int (0) 0), (.int (0) 0), (.int (3) 0), (.ref 165), (.bool true), (.int (181) 0), (.ref 166), .none, (.ref 167), (.ref 168), (.ref 169), (.int (403) 0), (.int (114) 0), (.str (S 9700865007064396754801562313776) 404)]
noncomputable def o171 (_ : Params) : Obj := ⟨(.type "function"), none, .func (PySem.W.fnOf (Str.ofString "table_count") (Str.ofString "Table.table_count") (defArgs (inClass (top 11) 5)) (defBody (inClass (top 11) 5)) (defScope (inClass (top 11) 5)) .none .none .none (.str (S 154722280447326879724956034068434285415) 346) none (.ref 170) .none), #[]⟩
noncomputable def o174 (_ : Params) : Obj := tO [(.str (S 1735222900) 409), (.str (S 1718116977) 410)]
noncomputable def o177 (_ : Params) : Obj := cO [(.str (S 452941932133) 406), (.str (S 127491819798467822498308693) 407), (.str (S 9700865007064396754801562313776) 408), (.int (117) 0), (.int (2) 0), (.int (0) 0), (.int (0) 0), (.int (3) 0), (.ref 172), (.bool true), (.int (181) 0), (.ref 173), .none, (.ref 174), (.ref 175), (.ref 176), (.int (411) 0), (.int (117) 0), (.str (S 9700865007064396754801562313776) 412)]
noncomputable def o178 (_ : Params) : Obj := ⟨(.type "function"), none, .func (PySem.W.fnOf (Str.ofString "depth") (Str.ofString "Table.depth") (defArgs (inClass (top 11) 6)) (defBody (inClass (top 11) 6)) (defScope (inClass (top 11) 6)) .none .none .none (.str (S 154722280447326879724956034068434285415) 346) none (.ref 177) .none), #[]⟩
noncomputable def o179 (_ : Params) : Obj := ⟨(.type "tuple"), none, .seq #[(.str (Str.ofString "shape") 414), (.str (Str.ofString "top") 415)] 0, #[]⟩
noncomputable def o180 (P : Params) : Obj := dO 4 [ent P (S 455125450472104437637216) 355 (.str (S 154722280447326879724956034068434285415) 346), ent P (S 500416517772168279997240570217455712) 359 (.int (96) 358), ent P (S 6944679725401530464) 367 (.ref 138), ent P (S 7698033) 376 (.ref 145), ent P (S 1819308141) 384 (.ref 152), ent P (S 1903194981) 392 (.ref 159), ent P (S 1701671029) 398 (.ref 164), ent P (S 141970688389014864743588469) 405 (.ref 171), ent P (S 452941932133) 413 (.ref 178), ent P (S 140854816109632365363434125429399349832812124725344) 416 (.ref 179), ent P (S 6944679699547512928) 418 (.ref 182), ent P (S 116512133262362862868258912) 420 (.ref 183), ent P (S 27127582262911072) 421 .none]
noncomputable def o181 (_ : Params) : Obj := ⟨(.type "type"), none, .cls { name := (Str.ofString "Table"), bases := [(.type "object")], mro := [(.ref 181), (.type "object")], ns := 180, qualname := (Str.ofString "Table"), hasDict := true, slotNames := [], subclasses := [], abstract := false, collection := none, hasDel := false }, #[none, none, (some (.str (S 439921893973) 348)), (some (.str (S 439921893973) 356)), (some (.builtin "object.__new__")), (some (.bool true))]⟩
noncomputable def o182 (_ : Params) : Obj := ⟨(.type "getset_descriptor"), none, .fields ⟨[(.str (S 6944679699547512928) 417), (.ref 181), (.builtin "function.__dict__"), (.builtin "function.__dict__#set")]⟩, #[]⟩
noncomputable def o183 (_ : Params) : Obj := ⟨(.type "getset_descriptor"), none, .fields ⟨[(.str (S 116512133262362862868258912) 419), (.ref 181), (.builtin "ExceptionGroup.__weakref__"), .none]⟩, #[]⟩
noncomputable def o195 (_ : Params) : Obj := tO [(.str (S 1735222900) 441), (.str (S 439988939124) 442), (.str (S 127983119658353) 443)]
noncomputable def o198 (_ : Params) : Obj := cO [(.str (S 6944679725401530464) 438), (.str (S 128106729568361558357101502686075121478) 439), (.str (S 9700865007064396754801562313776) 440), (.int (122) 0), (.int (3) 0), (.int (0) 0), (.int (0) 0), (.int (3) 0), (.ref 193), (.bool true), (.int (181) 0), (.ref 194), .none, (.ref 195), (.ref 196), (.ref 197), (.int (444) 0), (.int (122) 0), (.str (S 9700865007064396754801562313776) 445)]
noncomputable def o199 (_ : Params) : Obj := ⟨(.type "function"), none, .func (PySem.W.fnOf (Str.ofString "__init__") (Str.ofString "Entries.__init__") (defArgs (inClass (top 13) 0)) (defBody (inClass (top 13) 0)) (defScope (inClass (top 13) 0)) .none .none .none (.str (S 39608888543647203676973435206118039253863) 424) none (.ref 198) .none), #[]⟩
noncomputable def o202 (_ : Params) : Obj := tO [(.str (S 1735222900) 450), (.str (S 1819566709) 451)]
noncomputable def o205 (_ : Params) : Obj := cO [(.str (S 2000634754473795154288) 447), (.str (S 36905197300746844619244348587026490421062) 448), (.str (S 9700865007064396754801562313776) 449), (.int (128) 0), (.int (2) 0), (.int (0) 0), (.int (0) 0), (.int (3) 0), (.ref 200), (.bool true), (.int (181) 0), (.ref 201), .none, (.ref 202), (.ref 203), (.ref 204), (.int (452) 0), (.int (128) 0), (.str (S 9700865007064396754801562313776) 453)]
noncomputable def o206 (_ : Params) : Obj := ⟨(.type "function"), none, .func (PySem.W.fnOf (Str.ofString "open_task") (Str.ofString "Entries.open_task") (defArgs (inClass (top 13) 1)) (defBody (inClass (top 13) 1)) (defScope (inClass (top 13) 1)) .none .none .none (.str (S 39608888543647203676973435206118039253863) 424) none (.ref 205) .none), #[]⟩
noncomputable def o209 (_ : Params) : Obj := tO [(.str (S 1735222900) 458), (.str (S 1819566709) 459)]
noncomputable def o212 (_ : Params) : Obj := cO [(.str (S 512162497145253139606884) 455), (.str (S 9447730508990483500631942148406294617616198) 456), (.str (S 9700865007064396754801562313776) 457), (.int (131) 0), (.int (2) 0), (.int (0) 0), (.int (0) 0), (.int (3) 0), (.ref 207), (.bool true), (.int (181) 0), (.ref 208), .none, (.ref 209), (.ref 210), (.ref 211), (.int (460) 0), (.int (131) 0), (.str (S 9700865007064396754801562313776) 461)]
noncomputable def o213 (_ : Params) : Obj := ⟨(.type "function"), none, .func (PySem.W.fnOf (Str.ofString "close_task") (Str.ofString "Entries.close_task") (defArgs (inClass (top 13) 2)) (defBody (inClass (top 13) 2)) (defScope (inClass (top 13) 2)) .none .none .none (.str (S 39608888543647203676973435206118039253863) 424) none (.ref 212) .none), #[]⟩
noncomputable def o216 (_ : Params) : Obj := tO [(.str (S 1735222900) 466), (.str (S 1819239011) 467), (.str (S 2054120046) 468)]
noncomputable def o219 (_ : Params) : Obj := cO [(.str (S 2000274446712396214640) 463), (.str (S 36898550795684547174149761920674565549894) 464), (.str (S 9700865007064396754801562313776) 465), (.int (135) 0), (.int (3) 0), (.int (0) 0), (.int (0) 0), (.int (3) 0), (.ref 214), (.bool true), (.int (181) 0), (.ref 215), .none, (.ref 216), (.ref 217), (.ref 218), (.int (469) 0), (.int (135) 0), (.str (S 9700865007064396754801562313776) 470)]
noncomputable def o220 (_ : Params) : Obj := ⟨(.type "function"), none, .func (PySem.W.fnOf (Str.ofString "open_bank") (Str.ofString "Entries.open_bank") (defArgs (inClass (top 13) 3)) (defBody (inClass (top 13) 3)) (defScope (inClass (top 13) 3)) .none .none .none (.str (S 39608888543647203676973435206118039253863) 424) none (.ref 219) .none), #[]⟩
noncomputable def o223 (_ : Params) : Obj := tO [(.str (S 1735222900) 475), (.str (S 1819239011) 476)]
noncomputable def o226 (_ : Params) : Obj := cO [(.str (S 512070258358335011056996) 472), (.str (S 9446029003694535354687727961820201850597190) 473), (.str (S 9700865007064396754801562313776) 474), (.int (138) 0), (.int (2) 0), (.int (0) 0), (.int (0) 0), (.int (3) 0), (.ref 221), (.bool true), (.int (181) 0), (.ref 222), .none, (.ref 223), (.ref 224), (.ref 225), (.int (477) 0), (.int (138) 0), (.str (S 9700865007064396754801562313776) 478)]
noncomputable def o227 (_ : Params) : Obj := ⟨(.type "function"), none, .func (PySem.W.fnOf (Str.ofString "close_bank") (Str.ofString "Entries.close_bank") (defArgs (inClass (top 13) 4)) (defBody (inClass (top 13) 4)) (defScope (inClass (top 13) 4)) .none .none .none (.str (S 39608888543647203676973435206118039253863) 424) none (.ref 226) .none), #[]⟩
noncomputable def o230 (_ : Params) : Obj := tO [(.str (S 1735222900) 483), (.str (S 126883625529449) 484)]
noncomputable def o233 (_ : Params) : Obj := cO [(.str (S 1819308141) 480), (.str (S 33560311671662761948919197510) 481), (.str (S 9700865007064396754801562313776) 482), (.int (141) 0), (.int (2) 0), (.int (0) 0), (.int (0) 0), (.int (3) 0), (.ref 228), (.bool true), (.int (181) 0), (.ref 229), .none, (.ref 230), (.ref 231), (.ref 232), (.int (485) 0), (.int (141) 0), (.str (S 9700865007064396754801562313776) 486)]
noncomputable def o234 (_ : Params) : Obj := ⟨(.type "function"), none, .func (PySem.W.fnOf (Str.ofString "look") (Str.ofString "Entries.look") (defArgs (inClass (top 13) 5)) (defBody (inClass (top 13) 5)) (defScope (inClass (top 13) 5)) .none .none .none (.str (S 39608888543647203676973435206118039253863) 424) none (.ref 233) .none), #[]⟩
noncomputable def o237 (_ : Params) : Obj := tO [(.str (S 1735222900) 491), (.str (S 126883625529449) 492), (.str (S 525923086182) 493)]
noncomputable def o240 (_ : Params) : Obj := cO [(.str (S 7698033) 488), (.str (S 142003648041441185225862982) 489), (.str (S 9700865007064396754801562313776) 490), (.int (146) 0), (.int (3) 0), (.int (0) 0), (.int (0) 0), (.int (3) 0), (.ref 235), (.bool true), (.int (181) 0), (.ref 236), .none, (.ref 237), (.ref 238), (.ref 239), (.int (494) 0), (.int (146) 0), (.str (S 9700865007064396754801562313776) 495)]
noncomputable def o241 (_ : Params) : Obj := ⟨(.type "function"), none, .func (PySem.W.fnOf (Str.ofString "put") (Str.ofString "Entries.put") (defArgs (inClass (top 13) 6)) (defBody (inClass (top 13) 6)) (defScope (inClass (top 13) 6)) .none .none .none (.str (S 39608888543647203676973435206118039253863) 424) none (.ref 240) .none), #[]⟩
noncomputable def o244 (_ : Params) : Obj := tO [(.str (S 1735222900) 500), (.str (S 126883625529449) 501)]
noncomputable def o247 (_ : Params) : Obj := cO [(.str (S 1718379125) 497), (.str (S 31698499943899425434515107654) 498), (.str (S 9700865007064396754801562313776) 499), (.int (155) 0), (.int (2) 0), (.int (0) 0), (.int (0) 0), (.int (3) 0), (.ref 242), (.bool true), (.int (181) 0), (.ref 243), .none, (.ref 244), (.ref 245), (.ref 246), (.int (502) 0), (.int (155) 0), (.str (S 9700865007064396754801562313776) 503)]
noncomputable def o248 (_ : Params) : Obj := ⟨(.type "function"), none, .func (PySem.W.fnOf (Str.ofString "take") (Str.ofString "Entries.take") (defArgs (inClass (top 13) 7)) (defBody (inClass (top 13) 7)) (defScope (inClass (top 13) 7)) .none .none .none (.str (S 39608888543647203676973435206118039253863) 424) none (.ref 247) .none), #[]⟩
noncomputable def o251 (_ : Params) : Obj := tO [(.str (S 1735222900) 508), (.str (S 1819566709) 509), (.str (S 1718116977) 510), (.str (S 525923086182) 511)]
noncomputable def o254 (_ : Params) : Obj := cO [(.str (S 8315443087802263155) 505), (.str (S 153392850500185452534608126649558200134) 506), (.str (S 9700865007064396754801562313776) 507), (.int (162) 0), (.int (3) 0), (.int (0) 0), (.int (0) 0), (.int (3) 0), (.ref 249), (.bool true), (.int (181) 0), (.ref 250), .none, (.ref 251), (.ref 252), (.ref 253), (.int (512) 0), (.int (162) 0), (.str (S 9700865007064396754801562313776) 513)]
noncomputable def o255 (_ : Params) : Obj := ⟨(.type "function"), none, .func (PySem.W.fnOf (Str.ofString "remember") (Str.ofString "Entries.remember") (defArgs (inClass (top 13) 8)) (defBody (inClass (top 13) 8)) (defScope (inClass (top 13) 8)) .none .none .none (.str (S 39608888543647203676973435206118039253863) 424) none (.ref 254) .none), #[]⟩
noncomputable def o258 (_ : Params) : Obj := tO [(.str (S 1735222900) 518), (.str (S 1819566709) 519), (.str (S 1718116977) 520)]
noncomputable def o261 (_ : Params) : Obj := cO [(.str (S 120316569609843) 515), (.str (S 2219448967419437518579404060847942) 516), (.str (S 9700865007064396754801562313776) 517), (.int (167) 0), (.int (3) 0), (.int (0) 0), (.int (0) 0), (.int (3) 0), (.ref 256), (.bool true), (.int (181) 0), (.ref 257), .none, (.ref 258), (.ref 259), (.ref 260), (.int (521) 0), (.int (167) 0), (.str (S 9700865007064396754801562313776) 522)]
noncomputable def o262 (_ : Params) : Obj := ⟨(.type "function"), none, .func (PySem.W.fnOf (Str.ofString "recall") (Str.ofString "Entries.recall") (defArgs (inClass (top 13) 9)) (defBody (inClass (top 13) 9)) (defScope (inClass (top 13) 9)) .none .none .none (.str (S 39608888543647203676973435206118039253863) 424) none (.ref 261) .none), #[]⟩
noncomputable def o265 (_ : Params) : Obj := tO [(.str (S 1735222900) 527), (.str (S 1819566709) 528), (.str (S 1718116977) 529)]
noncomputable def o268 (_ : Params) : Obj := cO [(.str (S 6714486) 524), (.str (S 123860408247976376862601030) 525), (.str (S 9700865007064396754801562313776) 526), (.int (170) 0), (.int (3) 0), (.int (0) 0), (.int (0) 0), (.int (3) 0), (.ref 263), (.bool true), (.int (181) 0), (.ref 264), .none, (.ref 265), (.ref 266), (.ref 267), (.int (530) 0), (.int (170) 0), (.str (S 9700865007064396754801562313776) 531)]
noncomputable def o269 (_ : Params) : Obj := ⟨(.type "function"), none, .func (PySem.W.fnOf (Str.ofString "use") (Str.ofString "Entries.use") (defArgs (inClass (top 13) 10)) (defBody (inClass (top 13) 10)) (defScope (inClass (top 13) 10)) .none .none .none (.str (S 39608888543647203676973435206118039253863) 424) none (.ref 268) .none), #[]⟩
noncomputable def o272 (_ : Params) : Obj := tO [(.str (S 1735222900) 536), (.str (S 1819566709) 537)]
noncomputable def o275 (_ : Params) : Obj := cO [(.str (S 2000634754473627840629) 533), (.str (S 36905197300743758226996739676242368098118) 534), (.str (S 9700865007064396754801562313776) 535), (.int (173) 0), (.int (2) 0), (.int (0) 0), (.int (0) 0), (.int (3) 0), (.ref 270), (.bool true), (.int (181) 0), (.ref 271), .none, (.ref 272), (.ref 273), (.ref 274), (.int (538) 0), (.int (173) 0), (.str (S 9700865007064396754801562313776) 539)]
noncomputable def o276 (_ : Params) : Obj := ⟨(.type "function"), none, .func (PySem.W.fnOf (Str.ofString "told_task") (Str.ofString "Entries.told_task") (defArgs (inClass (top 13) 11)) (defBody (inClass (top 13) 11)) (defScope (inClass (top 13) 11)) .none .none .none (.str (S 39608888543647203676973435206118039253863) 424) none (.ref 275) .none), #[]⟩
noncomputable def o279 (_ : Params) : Obj := tO [(.str (S 1735222900) 544), (.str (S 1819239011) 545)]
noncomputable def o282 (_ : Params) : Obj := cO [(.str (S 2000274446712228900981) 541), (.str (S 36898550795681460781902153009890443226950) 542), (.str (S 9700865007064396754801562313776) 543), (.int (176) 0), (.int (2) 0), (.int (0) 0), (.int (0) 0), (.int (3) 0), (.ref 277), (.bool true), (.int (181) 0), (.ref 278), .none, (.ref 279), (.ref 280), (.ref 281), (.int (546) 0), (.int (176) 0), (.str (S 9700865007064396754801562313776) 547)]
noncomputable def o283 (_ : Params) : Obj := ⟨(.type "function"), none, .func (PySem.W.fnOf (Str.ofString "told_bank") (Str.ofString "Entries.told_bank") (defArgs (inClass (top 13) 12)) (defBody (inClass (top 13) 12)) (defScope (inClass (top 13) 12)) .none .none .none (.str (S 39608888543647203676973435206118039253863) 424) none (.ref 282) .none), #[]⟩
noncomputable def o286 (_ : Params) : Obj := tO [(.str (S 1735222900) 552), (.str (S 1819566709) 553)]
noncomputable def o289 (_ : Params) : Obj := cO [(.str (S 141970688389014864743588469) 549), (.str (S 2618896954680525405888745192623199485288607558) 550), (.str (S 9700865007064396754801562313776) 551), (.int (179) 0), (.int (2) 0), (.int (0) 0), (.int (0) 0), (.int (3) 0), (.ref 284), (.bool true), (.int (181) 0), (.ref 285), .none, (.ref 286), (.ref 287), (.ref 288), (.int (554) 0), (.int (179) 0), (.str (S 9700865007064396754801562313776) 555)]
noncomputable def o290 (_ : Params) : Obj := ⟨(.type "function"), none, .func (PySem.W.fnOf (Str.ofString "table_count") (Str.ofString "Entries.table_count") (defArgs (inClass (top 13) 13)) (defBody (inClass (top 13) 13)) (defScope (inClass (top 13) 13)) .none .none .none (.str (S 39608888543647203676973435206118039253863) 424) none (.ref 289) .none), #[]⟩
noncomputable def o293 (_ : Params) : Obj := tO [(.str (S 1735222900) 560)]
noncomputable def o296 (_ : Params) : Obj := cO [(.str (S 2000350444955940778101) 557), (.str (S 36899952715833265185361856243899332652870) 558), (.str (S 9700865007064396754801562313776) 559), (.int (182) 0), (.int (1) 0), (.int (0) 0), (.int (0) 0), (.int (3) 0), (.ref 291), (.bool true), (.int (181) 0), (.ref 292), .none, (.ref 293), (.ref 294), (.ref 295), (.int (561) 0), (.int (182) 0), (.str (S 9700865007064396754801562313776) 562)]
noncomputable def o297 (_ : Params) : Obj := ⟨(.type "function"), none, .func (PySem.W.fnOf (Str.ofString "told_book") (Str.ofString "Entries.told_book") (defArgs (inClass (top 13) 14)) (defBody (inClass (top 13) 14)) (defScope (inClass (top 13) 14)) .none .none .none (.str (S 39608888543647203676973435206118039253863) 424) none (.ref 296) .none), #[]⟩
noncomputable def o298 (_ : Params) : Obj := ⟨(.type "tuple"), none, .seq #[(.str (Str.ofString "banks") 564), (.str (Str.ofString "book") 565), (.str (Str.ofString "shape") 566), (.str (Str.ofString "tables") 567)] 0, #[]⟩
noncomputable def o299 (P : Params) : Obj := dO 4 [ent P (S 455125450472104437637216) 433 (.str (S 39608888543647203676973435206118039253863) 424), ent P (S 500416517772168279997240570217455712) 437 (.int (120) 436), ent P (S 6944679725401530464) 446 (.ref 199), ent P (S 2000634754473795154288) 454 (.ref 206), ent P (S 512162497145253139606884) 462 (.ref 213), ent P (S 2000274446712396214640) 471 (.ref 220), ent P (S 512070258358335011056996) 479 (.ref 227), ent P (S 1819308141) 487 (.ref 234), ent P (S 7698033) 496 (.ref 241), ent P (S 1718379125) 504 (.ref 248), ent P (S 8315443087802263155) 514 (.ref 255), ent P (S 120316569609843) 523 (.ref 262), ent P (S 6714486) 532 (.ref 269), ent P (S 2000634754473627840629) 540 (.ref 276), ent P (S 2000274446712228900981) 548 (.ref 283), ent P (S 141970688389014864743588469) 556 (.ref 290), ent P (S 2000350444955940778101) 563 (.ref 297), ent P (S 140854816109632365363434125429399349832812124725344) 568 (.ref 298), ent P (S 6944679699547512928) 570 (.ref 301), ent P (S 116512133262362862868258912) 572 (.ref 302), ent P (S 27127582262911072) 573 .none]
noncomputable def o300 (_ : Params) : Obj := ⟨(.type "type"), none, .cls { name := (Str.ofString "Entries"), bases := [(.type "object")], mro := [(.ref 300), (.type "object")], ns := 299, qualname := (Str.ofString "Entries"), hasDict := true, slotNames := [], subclasses := [], abstract := false, collection := none, hasDel := false }, #[none, none, (some (.str (S 32763704688078662) 426)), (some (.str (S 32763704688078662) 434)), (some (.builtin "object.__new__")), (some (.bool true))]⟩
noncomputable def o301 (_ : Params) : Obj := ⟨(.type "getset_descriptor"), none, .fields ⟨[(.str (S 6944679699547512928) 569), (.ref 300), (.builtin "function.__dict__"), (.builtin "function.__dict__#set")]⟩, #[]⟩
noncomputable def o302 (_ : Params) : Obj := ⟨(.type "getset_descriptor"), none, .fields ⟨[(.str (S 116512133262362862868258912) 571), (.ref 300), (.builtin "ExceptionGroup.__weakref__"), .none]⟩, #[]⟩
noncomputable def o305 (_ : Params) : Obj := ⟨(.type "tuple"), none, .seq #[(.type "ValueError")] 0, #[]⟩
noncomputable def o312 (_ : Params) : Obj := ⟨(.type "tuple"), none, .seq #[] 0, #[]⟩
noncomputable def o313 (P : Params) : Obj := dO 3 [ent P (S 455125450472104437637216) 585 (.str (S 154789842426610354947036250589871895399) 576), ent P (S 500416517772168279997240570217455712) 589 (.int (185) 588), ent P (S 140854816109632365363434125429399349832812124725344) 590 (.ref 312), ent P (S 116512133262362862868258912) 592 (.ref 315), ent P (S 27127582262911072) 593 .none]
noncomputable def o314 (_ : Params) : Obj := ⟨(.type "type"), none, .cls { name := (Str.ofString "FrameError"), bases := [(.type "ValueError")], mro := [(.ref 314), (.type "ValueError"), (.type "Exception"), (.type "BaseException"), (.type "object")], ns := 313, qualname := (Str.ofString "FrameError"), hasDict := true, slotNames := [], subclasses := [(.ref 327), (.ref 339)], abstract := false, collection := none, hasDel := false }, #[(some (.ref 305)), none, (some (.str (S 545146499936607105348423) 578)), (some (.str (S 545146499936607105348423) 586)), (some (.builtin "ValueError.__new__")), (some (.bool true))]⟩
noncomputable def o315 (_ : Params) : Obj := ⟨(.type "getset_descriptor"), none, .fields ⟨[(.str (S 116512133262362862868258912) 591), (.ref 314), (.builtin "ExceptionGroup.__weakref__"), .none]⟩, #[]⟩
noncomputable def o318 (_ : Params) : Obj := ⟨(.type "tuple"), none, .seq #[(.ref 314)] 0, #[]⟩
noncomputable def o326 (P : Params) : Obj := dO 2 [ent P (S 455125450472104437637216) 603 (.str (S 154789842426610354947036250589871895399) 576), ent P (S 500416517772168279997240570217455712) 607 (.int (187) 606), ent P (S 140854816109632365363434125429399349832812124725344) 608 (.ref 325), ent P (S 27127582262911072) 609 .none]
noncomputable def o327 (_ : Params) : Obj := ⟨(.type "type"), none, .cls { name := (Str.ofString "NoShape"), bases := [(.ref 314)], mro := [(.ref 327), (.ref 314), (.type "ValueError"), (.type "Exception"), (.type "BaseException"), (.type "object")], ns := 326, qualname := (Str.ofString "NoShape"), hasDict := true, slotNames := [], subclasses := [], abstract := false, collection := none, hasDel := false }, #[(some (.ref 318)), none, (some (.str (S 28835115112362063) 596)), (some (.str (S 28835115112362063) 604)), (some (.builtin "ValueError.__new__")), (some (.bool true))]⟩
noncomputable def o338 (P : Params) : Obj := dO 2 [ent P (S 455125450472104437637216) 619 (.str (S 154789842426610354947036250589871895399) 576), ent P (S 500416517772168279997240570217455712) 623 (.int (189) 622), ent P (S 140854816109632365363434125429399349832812124725344) 624 (.ref 337), ent P (S 27127582262911072) 625 .none]
noncomputable def o339 (_ : Params) : Obj := ⟨(.type "type"), none, .cls { name := (Str.ofString "OutOfRoom"), bases := [(.ref 314)], mro := [(.ref 339), (.ref 314), (.type "ValueError"), (.type "Exception"), (.type "BaseException"), (.type "object")], ns := 338, qualname := (Str.ofString "OutOfRoom"), hasDict := true, slotNames := [], subclasses := [], abstract := false, collection := none, hasDel := false }, #[(some (.ref 330)), none, (some (.str (S 2037243915540886812240) 612)), (some (.str (S 2037243915540886812240) 620)), (some (.builtin "ValueError.__new__")), (some (.bool true))]⟩
noncomputable def o344 (_ : Params) : Obj := tO [(.str (S 448545843573) 633)]
noncomputable def o347 (_ : Params) : Obj := cO [(.str (S 7380678962623575146) 630), (.str (S 7380678962623575146) 631), (.str (S 9700865007064396754801562313776) 632), (.int (192) 0), (.int (1) 0), (.int (0) 0), (.int (0) 0), (.int (3) 0), (.ref 342), (.bool true), (.int (181) 0), (.ref 343), .none, (.ref 344), (.ref 345), (.ref 346), (.int (634) 0), (.int (192) 0), (.str (S 9700865007064396754801562313776) 635)]
noncomputable def o348 (_ : Params) : Obj := ⟨(.type "function"), none, .func (PySem.W.fnOf (Str.ofString "is_whole") (Str.ofString "is_whole") (defArgs (top 19)) (defBody (top 19)) (defScope (top 19)) .none .none .none (.str (S 154722281479463014256600682153103225703) 628) none (.ref 347) .none), #[]⟩
noncomputable def o351 (_ : Params) : Obj := tO [(.str (S 448545843573) 640), (.str (S 7893101) 641), (.str (S 1768450665) 642)]
noncomputable def o354 (_ : Params) : Obj := cO [(.str (S 2055256381122481779818) 637), (.str (S 2055256381122481779818) 638), (.str (S 9700865007064396754801562313776) 639), (.int (194) 0), (.int (3) 0), (.int (0) 0), (.int (0) 0), (.int (3) 0), (.ref 349), (.bool true), (.int (181) 0), (.ref 350), .none, (.ref 351), (.ref 352), (.ref 353), (.int (643) 0), (.int (194) 0), (.str (S 9700865007064396754801562313776) 644)]
noncomputable def o355 (_ : Params) : Obj := ⟨(.type "function"), none, .func (PySem.W.fnOf (Str.ofString "is_within") (Str.ofString "is_within") (defArgs (top 20)) (defBody (top 20)) (defScope (top 20)) .none .none .none (.str (S 154722281479463014256600682153103225703) 628) none (.ref 354) .none), #[]⟩
noncomputable def o358 (_ : Params) : Obj := tO [(.str (S 8462094853666339174) 651), (.str (S 495640408177) 652), (.str (S 7525350520412074085) 653)]
noncomputable def o361 (_ : Params) : Obj := cO [(.str (S 34807946493563893454802022513) 648), (.str (S 34807946493563893454802022513) 649), (.str (S 9700865007064396754801562313776) 650), (.int (197) 0), (.int (1) 0), (.int (0) 0), (.int (0) 0), (.int (3) 0), (.ref 356), (.bool true), (.int (181) 0), (.ref 357), .none, (.ref 358), (.ref 359), (.ref 360), (.int (654) 0), (.int (197) 0), (.str (S 9700865007064396754801562313776) 655)]
noncomputable def o362 (_ : Params) : Obj := ⟨(.type "function"), none, .func (PySem.W.fnOf (Str.ofString "power_of_two") (Str.ofString "power_of_two") (defArgs (top 22)) (defBody (top 22)) (defScope (top 22)) .none .none .none (.str (S 154722361499902317960303193115794240359) 646) none (.ref 361) .none), #[]⟩
noncomputable def o365 (_ : Params) : Obj := tO [(.str (S 128013219358317) 660), (.str (S 7299687) 661), (.str (S 478526206824) 662)]
noncomputable def o368 (_ : Params) : Obj := cO [(.str (S 2360876520579034574696528942098788) 657), (.str (S 2360876520579034574696528942098788) 658), (.str (S 9700865007064396754801562313776) 659), (.int (202) 0), (.int (3) 0), (.int (0) 0), (.int (0) 0), (.int (3) 0), (.ref 363), (.bool true), (.int (181) 0), (.ref 364), .none, (.ref 365), (.ref 366), (.ref 367), (.int (663) 0), (.int (202) 0), (.str (S 9700865007064396754801562313776) 664)]
noncomputable def o369 (_ : Params) : Obj := ⟨(.type "function"), none, .func (PySem.W.fnOf (Str.ofString "check_measures") (Str.ofString "check_measures") (defArgs (top 23)) (defBody (top 23)) (defScope (top 23)) .none .none .none (.str (S 154722361499902317960303193115794240359) 646) none (.ref 368) .none), #[]⟩
noncomputable def o379 (_ : Params) : Obj := tO [(.str (S 1735222900) 681), (.str (S 128013219358317) 682), (.str (S 7299687) 683), (.str (S 478526206824) 684)]
noncomputable def o382 (_ : Params) : Obj := cO [(.str (S 6944679725401530464) 678), (.str (S 1954753563970360692704735932868948) 679), (.str (S 9700865007064396754801562313776) 680), (.int (211) 0), (.int (4) 0), (.int (0) 0), (.int (0) 0), (.int (3) 0), (.ref 377), (.bool true), (.int (181) 0), (.ref 378), .none, (.ref 379), (.ref 380), (.ref 381), (.int (685) 0), (.int (211) 0), (.str (S 9700865007064396754801562313776) 686)]
noncomputable def o383 (_ : Params) : Obj := ⟨(.type "function"), none, .func (PySem.W.fnOf (Str.ofString "__init__") (Str.ofString "Shape.__init__") (defArgs (inClass (top 24) 0)) (defBody (inClass (top 24) 0)) (defScope (inClass (top 24) 0)) .none .none .none (.str (S 154722361499902317960303193115794240359) 646) none (.ref 382) .none), #[]⟩
noncomputable def o386 (_ : Params) : Obj := tO [(.str (S 1735222900) 691)]
noncomputable def o389 (_ : Params) : Obj := cO [(.str (S 483958001635892750870900) 688), (.str (S 136222067239398530400517607478345754964) 689), (.str (S 9700865007064396754801562313776) 690), (.int (220) 0), (.int (1) 0), (.int (0) 0), (.int (0) 0), (.int (3) 0), (.ref 384), (.bool true), (.int (181) 0), (.ref 385), .none, (.ref 386), (.ref 387), (.ref 388), (.int (692) 0), (.int (220) 0), (.str (S 9700865007064396754801562313776) 693)]
noncomputable def o390 (_ : Params) : Obj := ⟨(.type "function"), none, .func (PySem.W.fnOf (Str.ofString "sheet_size") (Str.ofString "Shape.sheet_size") (defArgs (inClass (top 24) 1)) (defBody (inClass (top 24) 1)) (defScope (inClass (top 24) 1)) .none .none .none (.str (S 154722361499902317960303193115794240359) 646) none (.ref 389) .none), #[]⟩
noncomputable def o393 (_ : Params) : Obj := tO [(.str (S 1735222900) 698)]
noncomputable def o396 (_ : Params) : Obj := cO [(.str (S 554573001519589315076721) 695), (.str (S 156098422687084996958981798045893683540) 696), (.str (S 9700865007064396754801562313776) 697), (.int (223) 0), (.int (1) 0), (.int (0) 0), (.int (0) 0), (.int (3) 0), (.ref 391), (.bool true), (.int (181) 0), (.ref 392), .none, (.ref 393), (.ref 394), (.ref 395), (.int (699) 0), (.int (223) 0), (.str (S 9700865007064396754801562313776) 700)]
noncomputable def o397 (_ : Params) : Obj := ⟨(.type "function"), none, .func (PySem.W.fnOf (Str.ofString "page_count") (Str.ofString "Shape.page_count") (defArgs (inClass (top 24) 2)) (defBody (inClass (top 24) 2)) (defScope (inClass (top 24) 2)) .none .none .none (.str (S 154722361499902317960303193115794240359) 646) none (.ref 396) .none), #[]⟩
noncomputable def o400 (_ : Params) : Obj := tO [(.str (S 1735222900) 705), (.str (S 1718116977) 706)]
noncomputable def o403 (_ : Params) : Obj := cO [(.str (S 7379256228535624297) 702), (.str (S 2077075975069028078541421527853396) 703), (.str (S 9700865007064396754801562313776) 704), (.int (226) 0), (.int (2) 0), (.int (0) 0), (.int (0) 0), (.int (3) 0), (.ref 398), (.bool true), (.int (181) 0), (.ref 399), .none, (.ref 400), (.ref 401), (.ref 402), (.int (707) 0), (.int (226) 0), (.str (S 9700865007064396754801562313776) 708)]
noncomputable def o404 (_ : Params) : Obj := ⟨(.type "function"), none, .func (PySem.W.fnOf (Str.ofString "has_page") (Str.ofString "Shape.has_page") (defArgs (inClass (top 24) 3)) (defBody (inClass (top 24) 3)) (defScope (inClass (top 24) 3)) .none .none .none (.str (S 154722361499902317960303193115794240359) 646) none (.ref 403) .none), #[]⟩
noncomputable def o407 (_ : Params) : Obj := tO [(.str (S 1735222900) 713), (.str (S 1718116977) 714)]
noncomputable def o410 (_ : Params) : Obj := cO [(.str (S 483606936193276347574628) 710), (.str (S 136123251102114162142305122687958280532) 711), (.str (S 9700865007064396754801562313776) 712), (.int (229) 0), (.int (2) 0), (.int (0) 0), (.int (0) 0), (.int (3) 0), (.ref 405), (.bool true), (.int (181) 0), (.ref 406), .none, (.ref 407), (.ref 408), (.ref 409), (.int (715) 0), (.int (229) 0), (.str (S 9700865007064396754801562313776) 716)]
noncomputable def o411 (_ : Params) : Obj := ⟨(.type "function"), none, .func (PySem.W.fnOf (Str.ofString "check_page") (Str.ofString "Shape.check_page") (defArgs (inClass (top 24) 4)) (defBody (inClass (top 24) 4)) (defScope (inClass (top 24) 4)) .none .none .none (.str (S 154722361499902317960303193115794240359) 646) none (.ref 410) .none), #[]⟩
noncomputable def o414 (_ : Params) : Obj := tO [(.str (S 1735222900) 721), (.str (S 32779080669947234) 722)]
noncomputable def o417 (_ : Params) : Obj := cO [(.str (S 140785079470369141693899369) 718), (.str (S 39627476965130008305525577047426929420628) 719), (.str (S 9700865007064396754801562313776) 720), (.int (233) 0), (.int (2) 0), (.int (0) 0), (.int (0) 0), (.int (3) 0), (.ref 412), (.bool true), (.int (181) 0), (.ref 413), .none, (.ref 414), (.ref 415), (.ref 416), (.int (723) 0), (.int (233) 0), (.str (S 9700865007064396754801562313776) 724)]
noncomputable def o418 (_ : Params) : Obj := ⟨(.type "function"), none, .func (PySem.W.fnOf (Str.ofString "has_address") (Str.ofString "Shape.has_address") (defArgs (inClass (top 24) 5)) (defBody (inClass (top 24) 5)) (defScope (inClass (top 24) 5)) .none .none .none (.str (S 154722361499902317960303193115794240359) 646) none (.ref 417) .none), #[]⟩
noncomputable def o421 (_ : Params) : Obj := tO [(.str (S 1735222900) 729), (.str (S 32779080669947234) 730)]
noncomputable def o424 (_ : Params) : Obj := cO [(.str (S 111490731565681) 726), (.str (S 31381851070904111347232041300) 727), (.str (S 9700865007064396754801562313776) 728), (.int (236) 0), (.int (2) 0), (.int (0) 0), (.int (0) 0), (.int (3) 0), (.ref 419), (.bool true), (.int (181) 0), (.ref 420), .none, (.ref 421), (.ref 422), (.ref 423), (.int (731) 0), (.int (236) 0), (.str (S 9700865007064396754801562313776) 732)]
noncomputable def o425 (_ : Params) : Obj := ⟨(.type "function"), none, .func (PySem.W.fnOf (Str.ofString "parted") (Str.ofString "Shape.parted") (defArgs (inClass (top 24) 6)) (defBody (inClass (top 24) 6)) (defScope (inClass (top 24) 6)) .none .none .none (.str (S 154722361499902317960303193115794240359) 646) none (.ref 424) .none), #[]⟩
noncomputable def o428 (_ : Params) : Obj := tO [(.str (S 1735222900) 737), (.str (S 1718116977) 738), (.str (S 7958627) 739)]
noncomputable def o431 (_ : Params) : Obj := cO [(.str (S 32779080669947234) 734), (.str (S 9226490968170112016115440970068) 735), (.str (S 9700865007064396754801562313776) 736), (.int (239) 0), (.int (3) 0), (.int (0) 0), (.int (0) 0), (.int (3) 0), (.ref 426), (.bool true), (.int (181) 0), (.ref 427), .none, (.ref 428), (.ref 429), (.ref 430), (.int (740) 0), (.int (239) 0), (.str (S 9700865007064396754801562313776) 741)]
noncomputable def o432 (_ : Params) : Obj := ⟨(.type "function"), none, .func (PySem.W.fnOf (Str.ofString "address") (Str.ofString "Shape.address") (defArgs (inClass (top 24) 7)) (defBody (inClass (top 24) 7)) (defScope (inClass (top 24) 7)) .none .none .none (.str (S 154722361499902317960303193115794240359) 646) none (.ref 431) .none), #[]⟩
noncomputable def o435 (_ : Params) : Obj := tO [(.str (S 1735222900) 746), (.str (S 1718116977) 747), (.str (S 32763743392262759) 748), (.str (S 1970562675) 749), (.str (S 469870536301) 750)]
noncomputable def o438 (_ : Params) : Obj := cO [(.str (S 500118746484) 743), (.str (S 140770912519198489320778068) 744), (.str (S 9700865007064396754801562313776) 745), (.int (242) 0), (.int (2) 0), (.int (0) 0), (.int (0) 0), (.int (3) 0), (.ref 433), (.bool true), (.int (181) 0), (.ref 434), .none, (.ref 435), (.ref 436), (.ref 437), (.int (751) 0), (.int (242) 0), (.str (S 9700865007064396754801562313776) 752)]
noncomputable def o439 (_ : Params) : Obj := ⟨(.type "function"), none, .func (PySem.W.fnOf (Str.ofString "steps") (Str.ofString "Shape.steps") (defArgs (inClass (top 24) 8)) (defBody (inClass (top 24) 8)) (defScope (inClass (top 24) 8)) .none .none .none (.str (S 154722361499902317960303193115794240359) 646) none (.ref 438) .none), #[]⟩
noncomputable def o442 (_ : Params) : Obj := tO [(.str (S 1735222900) 757), (.str (S 500118746484) 758), (.str (S 1718116977) 759), (.str (S 1902540148) 760)]
noncomputable def o445 (_ : Params) : Obj := cO [(.str (S 29115481938485873) 754), (.str (S 8195279600554836563607700007252) 755), (.str (S 9700865007064396754801562313776) 756), (.int (252) 0), (.int (2) 0), (.int (0) 0), (.int (0) 0), (.int (3) 0), (.ref 440), (.bool true), (.int (181) 0), (.ref 441), .none, (.ref 442), (.ref 443), (.ref 444), (.int (761) 0), (.int (252) 0), (.str (S 9700865007064396754801562313776) 762)]
noncomputable def o446 (_ : Params) : Obj := ⟨(.type "function"), none, .func (PySem.W.fnOf (Str.ofString "page_of") (Str.ofString "Shape.page_of") (defArgs (inClass (top 24) 9)) (defBody (inClass (top 24) 9)) (defScope (inClass (top 24) 9)) .none .none .none (.str (S 154722361499902317960303193115794240359) 646) none (.ref 445) .none), #[]⟩
noncomputable def o449 (_ : Params) : Obj := tO [(.str (S 1735222900) 767), (.str (S 504464894567) 768), (.str (S 2054120046) 769)]
noncomputable def o452 (_ : Params) : Obj := cO [(.str (S 1953852007) 764), (.str (S 549960448218510519331156) 765), (.str (S 9700865007064396754801562313776) 766), (.int (262) 0), (.int (3) 0), (.int (0) 0), (.int (0) 0), (.int (3) 0), (.ref 447), (.bool true), (.int (181) 0), (.ref 448), .none, (.ref 449), (.ref 450), (.ref 451), (.int (770) 0), (.int (262) 0), (.str (S 9700865007064396754801562313776) 771)]
noncomputable def o453 (_ : Params) : Obj := ⟨(.type "function"), none, .func (PySem.W.fnOf (Str.ofString "fits") (Str.ofString "Shape.fits") (defArgs (inClass (top 24) 10)) (defBody (inClass (top 24) 10)) (defScope (inClass (top 24) 10)) .none .none .none (.str (S 154722361499902317960303193115794240359) 646) none (.ref 452) .none), #[]⟩
noncomputable def o454 (_ : Params) : Obj := ⟨(.type "tuple"), none, .seq #[(.str (Str.ofString "boxes") 773), (.str (Str.ofString "fan") 774), (.str (Str.ofString "grain") 775), (.str (Str.ofString "levels") 776), (.str (Str.ofString "pages") 777), (.str (Str.ofString "ways") 778)] 0, #[]⟩
noncomputable def o455 (P : Params) : Obj := dO 4 [ent P (S 455125450472104437637216) 673 (.str (S 154722361499902317960303193115794240359) 646), ent P (S 500416517772168279997240570217455712) 677 (.int (209) 676), ent P (S 6944679725401530464) 687 (.ref 383), ent P (S 483958001635892750870900) 694 (.ref 390), ent P (S 554573001519589315076721) 701 (.ref 397), ent P (S 7379256228535624297) 709 (.ref 404), ent P (S 483606936193276347574628) 717 (.ref 411), ent P (S 140785079470369141693899369) 725 (.ref 418), ent P (S 111490731565681) 733 (.ref 425), ent P (S 32779080669947234) 742 (.ref 432), ent P (S 500118746484) 753 (.ref 439), ent P (S 29115481938485873) 763 (.ref 446), ent P (S 1953852007) 772 (.ref 453), ent P (S 140854816109632365363434125429399349832812124725344) 779 (.ref 454), ent P (S 6944679699547512928) 781 (.ref 457), ent P (S 116512133262362862868258912) 783 (.ref 458), ent P (S 27127582262911072) 784 .none]
noncomputable def o456 (_ : Params) : Obj := ⟨(.type "type"), none, .cls { name := (Str.ofString "Shape"), bases := [(.type "object")], mro := [(.ref 456), (.type "object")], ns := 455, qualname := (Str.ofString "Shape"), hasDict := true, slotNames := [], subclasses := [], abstract := false, collection := none, hasDel := false }, #[none, none, (some (.str (S 439988939092) 666)), (some (.str (S 439988939092) 674)), (some (.builtin "object.__new__")), (some (.bool true))]⟩
noncomputable def o457 (_ : Params) : Obj := ⟨(.type "getset_descriptor"), none, .fields ⟨[(.str (S 6944679699547512928) 780), (.ref 456), (.builtin "function.__dict__"), (.builtin "function.__dict__#set")]⟩, #[]⟩
noncomputable def o458 (_ : Params) : Obj := ⟨(.type "getset_descriptor"), none, .fields ⟨[(.str (S 116512133262362862868258912) 782), (.ref 456), (.builtin "ExceptionGroup.__weakref__"), .none]⟩, #[]⟩
noncomputable def o463 (_ : Params) : Obj := tO [(.str (S 141979911977246466280418656) 792), (.str (S 119161592376672) 793)]
noncomputable def o466 (_ : Params) : Obj := cO [(.str (S 36328676245180164783460216160) 789), (.str (S 36328676245180164783460216160) 790), (.str (S 9700865007064396754801562313776) 791), (.int (265) 0), (.int (2) 0), (.int (0) 0), (.int (0) 0), (.int (3) 0), (.ref 461), (.bool true), (.int (181) 0), (.ref 462), .none, (.ref 463), (.ref 464), (.ref 465), (.int (794) 0), (.int (265) 0), (.str (S 9700865007064396754801562313776) 795)]
noncomputable def o467 (_ : Params) : Obj := ⟨(.type "function"), none, .func (PySem.W.fnOf (Str.ofString "_law_cell_at") (Str.ofString "_law_cell_at") (defArgs (top 26)) (defBody (top 26)) (defScope (top 26)) .none .none .none (.str (S 42150709645680082068968208975651626554211192314753116866747064941) 787) none (.ref 466) .none), #[]⟩
noncomputable def o470 (_ : Params) : Obj := tO [(.str (S 2018578202597599112544) 800), (.str (S 119161592376672) 801), (.str (S 2258528875839108574560) 802), (.str (S 483718193700061355076960) 803), (.str (S 478849331591939277090144) 804)]
noncomputable def o473 (_ : Params) : Obj := cO [(.str (S 8748926586736242016) 797), (.str (S 8748926586736242016) 798), (.str (S 9700865007064396754801562313776) 799), (.int (269) 0), (.int (3) 0), (.int (0) 0), (.int (0) 0), (.int (3) 0), (.ref 468), (.bool true), (.int (181) 0), (.ref 469), .none, (.ref 470), (.ref 471), (.ref 472), (.int (805) 0), (.int (269) 0), (.str (S 9700865007064396754801562313776) 806)]
noncomputable def o474 (_ : Params) : Obj := ⟨(.type "function"), none, .func (PySem.W.fnOf (Str.ofString "_law_mix") (Str.ofString "_law_mix") (defArgs (top 27)) (defBody (top 27)) (defScope (top 27)) .none .none .none (.str (S 42150709645680082068968208975651626554211192314753116866747064941) 787) none (.ref 473) .none), #[]⟩
noncomputable def o477 (_ : Params) : Obj := tO [(.str (S 2018578202597599112544) 811)]
noncomputable def o480 (_ : Params) : Obj := cO [(.str (S 483865979046955610959200) 808), (.str (S 483865979046955610959200) 809), (.str (S 9700865007064396754801562313776) 810), (.int (275) 0), (.int (1) 0), (.int (0) 0), (.int (0) 0), (.int (3) 0), (.ref 475), (.bool true), (.int (181) 0), (.ref 476), .none, (.ref 477), (.ref 478), (.ref 479), (.int (812) 0), (.int (275) 0), (.str (S 9700865007064396754801562313776) 813)]
noncomputable def o481 (_ : Params) : Obj := ⟨(.type "function"), none, .func (PySem.W.fnOf (Str.ofString "_law_value") (Str.ofString "_law_value") (defArgs (top 28)) (defBody (top 28)) (defScope (top 28)) .none .none .none (.str (S 42150709645680082068968208975651626554211192314753116866747064941) 787) none (.ref 480) .none), #[]⟩
noncomputable def o484 (_ : Params) : Obj := tO [(.str (S 549684036209146119482720) 818), (.str (S 2258528875839108574560) 819), (.str (S 119161592376672) 820)]
noncomputable def o487 (_ : Params) : Obj := cO [(.str (S 31381812998265272964474891616) 815), (.str (S 31381812998265272964474891616) 816), (.str (S 9700865007064396754801562313776) 817), (.int (279) 0), (.int (1) 0), (.int (0) 0), (.int (0) 0), (.int (3) 0), (.ref 482), (.bool true), (.int (181) 0), (.ref 483), .none, (.ref 484), (.ref 485), (.ref 486), (.int (821) 0), (.int (279) 0), (.str (S 9700865007064396754801562313776) 822)]
noncomputable def o488 (_ : Params) : Obj := ⟨(.type "function"), none, .func (PySem.W.fnOf (Str.ofString "_law_doubled") (Str.ofString "_law_doubled") (defArgs (top 29)) (defBody (top 29)) (defScope (top 29)) .none .none .none (.str (S 42150709645680082068968208975651626554211192314753116866747064941) 787) none (.ref 487) .none), #[]⟩
noncomputable def o491 (_ : Params) : Obj := tO [(.str (S 479015137796973828140384) 827), (.str (S 7383200104131489120) 828), (.str (S 119161592376672) 829)]
noncomputable def o494 (_ : Params) : Obj := cO [(.str (S 1889380072283105815904) 824), (.str (S 1889380072283105815904) 825), (.str (S 9700865007064396754801562313776) 826), (.int (284) 0), (.int (2) 0), (.int (0) 0), (.int (0) 0), (.int (3) 0), (.ref 489), (.bool true), (.int (181) 0), (.ref 490), .none, (.ref 491), (.ref 492), (.ref 493), (.int (830) 0), (.int (284) 0), (.str (S 9700865007064396754801562313776) 831)]
noncomputable def o495 (_ : Params) : Obj := ⟨(.type "function"), none, .func (PySem.W.fnOf (Str.ofString "_law_like") (Str.ofString "_law_like") (defArgs (top 30)) (defBody (top 30)) (defScope (top 30)) .none .none .none (.str (S 42150709645680082068968208975651626554211192314753116866747064941) 787) none (.ref 494) .none), #[]⟩
noncomputable def o498 (_ : Params) : Obj := tO [(.str (S 36024074273561567596260781408) 836), (.str (S 2166440394359520259424) 837), (.str (S 8678563340116716896) 838)]
noncomputable def o501 (_ : Params) : Obj := cO [(.str (S 1890103190294368513376) 833), (.str (S 1890103190294368513376) 834), (.str (S 9700865007064396754801562313776) 835), (.int (303) 0), (.int (2) 0), (.int (0) 0), (.int (0) 0), (.int (3) 0), (.ref 496), (.bool true), (.int (181) 0), (.ref 497), .none, (.ref 498), (.ref 499), (.ref 500), (.int (839) 0), (.int (303) 0), (.str (S 9700865007064396754801562313776) 840)]
noncomputable def o502 (_ : Params) : Obj := ⟨(.type "function"), none, .func (PySem.W.fnOf (Str.ofString "_law_true") (Str.ofString "_law_true") (defArgs (top 31)) (defBody (top 31)) (defScope (top 31)) .none .none .none (.str (S 42150709645680082068968208975651626554211192314753116866747064941) 787) none (.ref 501) .none), #[]⟩
noncomputable def o505 (_ : Params) : Obj := tO [(.str (S 36024074273561567596260781408) 845), (.str (S 2166440394359520259424) 846), (.str (S 123789356357834445210938720) 847), (.str (S 2000634754473945886048) 848), (.str (S 1889089594505186930016) 849), (.str (S 2018578202597599112544) 850), (.str (S 139510021644005314150952288) 851), (.str (S 1871149499891998420320) 852), (.str (S 578258548573362689568096) 853), (.str (S 123855579232310340008176992) 854)]
noncomputable def o508 (_ : Params) : Obj := cO [(.str (S 123803614394812254453394784) 842), (.str (S 123803614394812254453394784) 843), (.str (S 9700865007064396754801562313776) 844), (.int (311) 0), (.int (6) 0), (.int (0) 0), (.int (0) 0), (.int (3) 0), (.ref 503), (.bool true), (.int (181) 0), (.ref 504), .none, (.ref 505), (.ref 506), (.ref 507), (.int (855) 0), (.int (311) 0), (.str (S 9700865007064396754801562313776) 856)]
noncomputable def o509 (_ : Params) : Obj := ⟨(.type "function"), none, .func (PySem.W.fnOf (Str.ofString "_law_change") (Str.ofString "_law_change") (defArgs (top 32)) (defBody (top 32)) (defScope (top 32)) .none .none .none (.str (S 42150709645680082068968208975651626554211192314753116866747064941) 787) none (.ref 508) .none), #[]⟩
noncomputable def o512 (_ : Params) : Obj := tO [(.str (S 36024074273561567596260781408) 861), (.str (S 2166440394359520259424) 862), (.str (S 123789356357834445210938720) 863), (.str (S 2000634754473945886048) 864), (.str (S 8819856081844071776) 865)]
noncomputable def o515 (_ : Params) : Obj := cO [(.str (S 483829304806924328529248) 858), (.str (S 483829304806924328529248) 859), (.str (S 9700865007064396754801562313776) 860), (.int (328) 0), (.int (4) 0), (.int (0) 0), (.int (0) 0), (.int (3) 0), (.ref 510), (.bool true), (.int (181) 0), (.ref 511), .none, (.ref 512), (.ref 513), (.ref 514), (.int (866) 0), (.int (328) 0), (.str (S 9700865007064396754801562313776) 867)]
noncomputable def o516 (_ : Params) : Obj := ⟨(.type "function"), none, .func (PySem.W.fnOf (Str.ofString "_law_close") (Str.ofString "_law_close") (defArgs (top 33)) (defBody (top 33)) (defScope (top 33)) .none .none .none (.str (S 42150709645680082068968208975651626554211192314753116866747064941) 787) none (.ref 515) .none), #[]⟩
noncomputable def o519 (_ : Params) : Obj := tO [(.str (S 36024074273561567596260781408) 872), (.str (S 2000274446712546946400) 873), (.str (S 1889089594505186930016) 874), (.str (S 2018578202597599112544) 875)]
noncomputable def o522 (_ : Params) : Obj := cO [(.str (S 2056636332573130690329968923274592) 869), (.str (S 2056636332573130690329968923274592) 870), (.str (S 9700865007064396754801562313776) 871), (.int (335) 0), (.int (4) 0), (.int (0) 0), (.int (0) 0), (.int (3) 0), (.ref 517), (.bool true), (.int (181) 0), (.ref 518), .none, (.ref 519), (.ref 520), (.ref 521), (.int (876) 0), (.int (335) 0), (.str (S 9700865007064396754801562313776) 877)]
noncomputable def o523 (_ : Params) : Obj := ⟨(.type "function"), none, .func (PySem.W.fnOf (Str.ofString "_law_bank_deed") (Str.ofString "_law_bank_deed") (defArgs (top 34)) (defBody (top 34)) (defScope (top 34)) .none .none .none (.str (S 42150709645680082068968208975651626554211192314753116866747064941) 787) none (.ref 522) .none), #[]⟩
noncomputable def o526 (_ : Params) : Obj := tO [(.str (S 36024074273561567596260781408) 882), (.str (S 2166440394359520259424) 883), (.str (S 123789356357834445210938720) 884), (.str (S 2000634754473945886048) 885), (.str (S 1889089594505186930016) 886), (.str (S 2018578202597599112544) 887), (.str (S 1871149499891998420320) 888)]
noncomputable def o529 (_ : Params) : Obj := cO [(.str (S 1870499847949168831840) 879), (.str (S 1870499847949168831840) 880), (.str (S 9700865007064396754801562313776) 881), (.int (340) 0), (.int (6) 0), (.int (0) 0), (.int (0) 0), (.int (3) 0), (.ref 524), (.bool true), (.int (181) 0), (.ref 525), .none, (.ref 526), (.ref 527), (.ref 528), (.int (889) 0), (.int (340) 0), (.str (S 9700865007064396754801562313776) 890)]
noncomputable def o530 (_ : Params) : Obj := ⟨(.type "function"), none, .func (PySem.W.fnOf (Str.ofString "_law_deed") (Str.ofString "_law_deed") (defArgs (top 35)) (defBody (top 35)) (defScope (top 35)) .none .none .none (.str (S 42150709645680082068968208975651626554211192314753116866747064941) 787) none (.ref 529) .none), #[]⟩
noncomputable def o533 (_ : Params) : Obj := tO [(.str (S 141979911977246466280418656) 895), (.str (S 140752023193509693210389856) 896), (.str (S 8026091149961882976) 897), (.str (S 549683601607384031718752) 898), (.str (S 140718928223406706361789792) 899), (.str (S 36024074273561567596260781408) 900), (.str (S 123789356357834445210938720) 901), (.str (S 2000634754473945886048) 902), (.str (S 2166440394359520259424) 903), (.str (S 2018578202597599112544) 904), (.str (S 1889089594505186930016) 905)]
noncomputable def o536 (_ : Params) : Obj := cO [(.str (S 7889517) 892), (.str (S 7889517) 893), (.str (S 9700865007064396754801562313776) 894), (.int (355) 0), (.int (1) 0), (.int (0) 0), (.int (0) 0), (.int (3) 0), (.ref 531), (.bool true), (.int (181) 0), (.ref 532), .none, (.ref 533), (.ref 534), (.ref 535), (.int (906) 0), (.int (355) 0), (.str (S 9700865007064396754801562313776) 907)]
noncomputable def o537 (_ : Params) : Obj := ⟨(.type "function"), none, .func (PySem.W.fnOf (Str.ofString "law") (Str.ofString "law") (defArgs (top 36)) (defBody (top 36)) (defScope (top 36)) .none .none .none (.str (S 42150709645680082068968208975651626554211192314753116866747064941) 787) none (.ref 536) .none), #[]⟩
noncomputable def Kf : Params → PySem.W.Frag := fun P => (nat_lit 2, o2 P) :: (nat_lit 3, o3 P) :: (nat_lit 15, o15 P) :: (nat_lit 17, o17 P) :: (nat_lit 18, o15 P) :: (nat_lit 20, o20 P) :: (nat_lit 21, o21 P) :: (nat_lit 22, o15 P) :: (nat_lit 24, o24 P) :: (nat_lit 25, o15 P) :: (nat_lit 27, o27 P) :: (nat_lit 28, o28 P) :: (nat_lit 36, o15 P) :: (nat_lit 38, o38 P) :: (nat_lit 39, o15 P) :: (nat_lit 41, o41 P) :: (nat_lit 42, o42 P) :: (nat_lit 43, o15 P) :: (nat_lit 45, o45 P) :: (nat_lit 46, o15 P) :: (nat_lit 48, o48 P) :: (nat_lit 49, o49 P) :: (nat_lit 50, o15 P) :: (nat_lit 52, o52 P) :: (nat_lit 53, o15 P) :: (nat_lit 55, o55 P) :: (nat_lit 56, o56 P) :: (nat_lit 57, o15 P) :: (nat_lit 59, o59 P) :: (nat_lit 60, o15 P) :: (nat_lit 62, o62 P) :: (nat_lit 63, o63 P) :: (nat_lit 64, o15 P) :: (nat_lit 66, o66 P) :: (nat_lit 67, o15 P) :: (nat_lit 69, o69 P) :: (nat_lit 70, o70 P) :: (nat_lit 71, o15 P) :: (nat_lit 73, o73 P) :: (nat_lit 74, o15 P) :: (nat_lit 76, o76 P) :: (nat_lit 77, o77 P) :: (nat_lit 78, o15 P) :: (nat_lit 80, o80 P) :: (nat_lit 81, o15 P) :: (nat_lit 83, o83 P) :: (nat_lit 84, o84 P) :: (nat_lit 85, o15 P) :: (nat_lit 88, o88 P) :: (nat_lit 89, o89 P) :: (nat_lit 90, o90 P) :: (nat_lit 91, o91 P) :: (nat_lit 92, o92 P) :: (nat_lit 93, o93 P) :: (nat_lit 94, o94 P) :: (nat_lit 97, o15 P) :: (nat_lit 99, o99 P) :: (nat_lit 100, o15 P) :: (nat_lit 102, o102 P) :: (nat_lit 103, o103 P) :: (nat_lit 104, o15 P) :: (nat_lit 106, o106 P) :: (nat_lit 107, o15 P) :: (nat_lit 109, o109 P) :: (nat_lit 110, o110 P) :: (nat_lit 111, o15 P) :: (nat_lit 113, o113 P) :: (nat_lit 114, o15 P) :: (nat_lit 116, o116 P) :: (nat_lit 117, o117 P) :: (nat_lit 118, o15 P) :: (nat_lit 120, o120 P) :: (nat_lit 121, o15 P) :: (nat_lit 123, o123 P) :: (nat_lit 124, o124 P) :: (nat_lit 132, o15 P) :: (nat_lit 134, o134 P) :: (nat_lit 135, o15 P) :: (nat_lit 137, o137 P) :: (nat_lit 138, o138 P) :: (nat_lit 139, o15 P) :: (nat_lit 141, o141 P) :: (nat_lit 142, o15 P) :: (nat_lit 144, o144 P) :: (nat_lit 145, o145 P) :: (nat_lit 146, o15 P) :: (nat_lit 148, o148 P) :: (nat_lit 149, o15 P) :: (nat_lit 151, o151 P) :: (nat_lit 152, o152 P) :: (nat_lit 153, o15 P) :: (nat_lit 155, o155 P) :: (nat_lit 156, o15 P) :: (nat_lit 158, o158 P) :: (nat_lit 159, o159 P) :: (nat_lit 160, o15 P) :: (nat_lit 163, o163 P) :: (nat_lit 164, o164 P) :: (nat_lit 165, o15 P) :: (nat_lit 167, o167 P) :: (nat_lit 168, o15 P) :: (nat_lit 170, o170 P) :: (nat_lit 171, o171 P) :: (nat_lit 172, o15 P) :: (nat_lit 174, o174 P) :: (nat_lit 175, o15 P) :: (nat_lit 177, o177 P) :: (nat_lit 178, o178 P) :: (nat_lit 179, o179 P) :: (nat_lit 180, o180 P) :: (nat_lit 181, o181 P) :: (nat_lit 182, o182 P) :: (nat_lit 183, o183 P) :: (nat_lit 193, o15 P) :: (nat_lit 195, o195 P) :: (nat_lit 196, o15 P) :: (nat_lit 198, o198 P) :: (nat_lit 199, o199 P) :: (nat_lit 200, o15 P) :: (nat_lit 202, o202 P) :: (nat_lit 203, o15 P) :: (nat_lit 205, o205 P) :: (nat_lit 206, o206 P) :: (nat_lit 207, o15 P) :: (nat_lit 209, o209 P) :: (nat_lit 210, o15 P) :: (nat_lit 212, o212 P) :: (nat_lit 213, o213 P) :: (nat_lit 214, o15 P) :: (nat_lit 216, o216 P) :: (nat_lit 217, o15 P) :: (nat_lit 219, o219 P) :: (nat_lit 220, o220 P) :: (nat_lit 221, o15 P) :: (nat_lit 223, o223 P) :: (nat_lit 224, o15 P) :: (nat_lit 226, o226 P) :: (nat_lit 227, o227 P) :: (nat_lit 228, o15 P) :: (nat_lit 230, o230 P) :: (nat_lit 231, o15 P) :: (nat_lit 233, o233 P) :: (nat_lit 234, o234 P) :: (nat_lit 235, o15 P) :: (nat_lit 237, o237 P) :: (nat_lit 238, o15 P) :: (nat_lit 240, o240 P) :: (nat_lit 241, o241 P) :: (nat_lit 242, o15 P) :: (nat_lit 244, o244 P) :: (nat_lit 245, o15 P) :: (nat_lit 247, o247 P) :: (nat_lit 248, o248 P) :: (nat_lit 249, o15 P) :: (nat_lit 251, o251 P) :: (nat_lit 252, o15 P) :: (nat_lit 254, o254 P) :: (nat_lit 255, o255 P) :: (nat_lit 256, o15 P) :: (nat_lit 258, o258 P) :: (nat_lit 259, o15 P) :: (nat_lit 261, o261 P) :: (nat_lit 262, o262 P) :: (nat_lit 263, o15 P) :: (nat_lit 265, o265 P) :: (nat_lit 266, o15 P) :: (nat_lit 268, o268 P) :: (nat_lit 269, o269 P) :: (nat_lit 270, o15 P) :: (nat_lit 272, o272 P) :: (nat_lit 273, o15 P) :: (nat_lit 275, o275 P) :: (nat_lit 276, o276 P) :: (nat_lit 277, o15 P) :: (nat_lit 279, o279 P) :: (nat_lit 280, o15 P) :: (nat_lit 282, o282 P) :: (nat_lit 283, o283 P) :: (nat_lit 284, o15 P) :: (nat_lit 286, o286 P) :: (nat_lit 287, o15 P) :: (nat_lit 289, o289 P) :: (nat_lit 290, o290 P) :: (nat_lit 291, o15 P) :: (nat_lit 293, o293 P) :: (nat_lit 294, o15 P) :: (nat_lit 296, o296 P) :: (nat_lit 297, o297 P) :: (nat_lit 298, o298 P) :: (nat_lit 299, o299 P) :: (nat_lit 300, o300 P) :: (nat_lit 301, o301 P) :: (nat_lit 302, o302 P) :: (nat_lit 305, o305 P) :: (nat_lit 312, o312 P) :: (nat_lit 313, o313 P) :: (nat_lit 314, o314 P) :: (nat_lit 315, o315 P) :: (nat_lit 318, o318 P) :: (nat_lit 325, o312 P) :: (nat_lit 326, o326 P) :: (nat_lit 327, o327 P) :: (nat_lit 330, o318 P) :: (nat_lit 337, o312 P) :: (nat_lit 338, o338 P) :: (nat_lit 339, o339 P) :: (nat_lit 342, o15 P) :: (nat_lit 344, o344 P) :: (nat_lit 345, o15 P) :: (nat_lit 347, o347 P) :: (nat_lit 348, o348 P) :: (nat_lit 349, o15 P) :: (nat_lit 351, o351 P) :: (nat_lit 352, o15 P) :: (nat_lit 354, o354 P) :: (nat_lit 355, o355 P) :: (nat_lit 356, o15 P) :: (nat_lit 358, o358 P) :: (nat_lit 359, o15 P) :: (nat_lit 361, o361 P) :: (nat_lit 362, o362 P) :: (nat_lit 363, o15 P) :: (nat_lit 365, o365 P) :: (nat_lit 366, o15 P) :: (nat_lit 368, o368 P) :: (nat_lit 369, o369 P) :: (nat_lit 377, o15 P) :: (nat_lit 379, o379 P) :: (nat_lit 380, o15 P) :: (nat_lit 382, o382 P) :: (nat_lit 383, o383 P) :: (nat_lit 384, o15 P) :: (nat_lit 386, o386 P) :: (nat_lit 387, o15 P) :: (nat_lit 389, o389 P) :: (nat_lit 390, o390 P) :: (nat_lit 391, o15 P) :: (nat_lit 393, o393 P) :: (nat_lit 394, o15 P) :: (nat_lit 396, o396 P) :: (nat_lit 397, o397 P) :: (nat_lit 398, o15 P) :: (nat_lit 400, o400 P) :: (nat_lit 401, o15 P) :: (nat_lit 403, o403 P) :: (nat_lit 404, o404 P) :: (nat_lit 405, o15 P) :: (nat_lit 407, o407 P) :: (nat_lit 408, o15 P) :: (nat_lit 410, o410 P) :: (nat_lit 411, o411 P) :: (nat_lit 412, o15 P) :: (nat_lit 414, o414 P) :: (nat_lit 415, o15 P) :: (nat_lit 417, o417 P) :: (nat_lit 418, o418 P) :: (nat_lit 419, o15 P) :: (nat_lit 421, o421 P) :: (nat_lit 422, o15 P) :: (nat_lit 424, o424 P) :: (nat_lit 425, o425 P) :: (nat_lit 426, o15 P) :: (nat_lit 428, o428 P) :: (nat_lit 429, o15 P) :: (nat_lit 431, o431 P) :: (nat_lit 432, o432 P) :: (nat_lit 433, o15 P) :: (nat_lit 435, o435 P) :: (nat_lit 436, o15 P) :: (nat_lit 438, o438 P) :: (nat_lit 439, o439 P) :: (nat_lit 440, o15 P) :: (nat_lit 442, o442 P) :: (nat_lit 443, o15 P) :: (nat_lit 445, o445 P) :: (nat_lit 446, o446 P) :: (nat_lit 447, o15 P) :: (nat_lit 449, o449 P) :: (nat_lit 450, o15 P) :: (nat_lit 452, o452 P) :: (nat_lit 453, o453 P) :: (nat_lit 454, o454 P) :: (nat_lit 455, o455 P) :: (nat_lit 456, o456 P) :: (nat_lit 457, o457 P) :: (nat_lit 458, o458 P) :: (nat_lit 461, o15 P) :: (nat_lit 463, o463 P) :: (nat_lit 464, o15 P) :: (nat_lit 466, o466 P) :: (nat_lit 467, o467 P) :: (nat_lit 468, o15 P) :: (nat_lit 470, o470 P) :: (nat_lit 471, o15 P) :: (nat_lit 473, o473 P) :: (nat_lit 474, o474 P) :: (nat_lit 475, o15 P) :: (nat_lit 477, o477 P) :: (nat_lit 478, o15 P) :: (nat_lit 480, o480 P) :: (nat_lit 481, o481 P) :: (nat_lit 482, o15 P) :: (nat_lit 484, o484 P) :: (nat_lit 485, o15 P) :: (nat_lit 487, o487 P) :: (nat_lit 488, o488 P) :: (nat_lit 489, o15 P) :: (nat_lit 491, o491 P) :: (nat_lit 492, o15 P) :: (nat_lit 494, o494 P) :: (nat_lit 495, o495 P) :: (nat_lit 496, o15 P) :: (nat_lit 498, o498 P) :: (nat_lit 499, o15 P) :: (nat_lit 501, o501 P) :: (nat_lit 502, o502 P) :: (nat_lit 503, o15 P) :: (nat_lit 505, o505 P) :: (nat_lit 506, o15 P) :: (nat_lit 508, o508 P) :: (nat_lit 509, o509 P) :: (nat_lit 510, o15 P) :: (nat_lit 512, o512 P) :: (nat_lit 513, o15 P) :: (nat_lit 515, o515 P) :: (nat_lit 516, o516 P) :: (nat_lit 517, o15 P) :: (nat_lit 519, o519 P) :: (nat_lit 520, o15 P) :: (nat_lit 522, o522 P) :: (nat_lit 523, o523 P) :: (nat_lit 524, o15 P) :: (nat_lit 526, o526 P) :: (nat_lit 527, o15 P) :: (nat_lit 529, o529 P) :: (nat_lit 530, o530 P) :: (nat_lit 531, o15 P) :: (nat_lit 533, o533 P) :: (nat_lit 534, o15 P) :: (nat_lit 536, o536 P) :: (nat_lit 537, o537 P) :: []
noncomputable def Kc0 (P : Params) : List (Option Obj) := [some (o2 P), some (o3 P), some (o15 P), some (o17 P), some (o15 P), some (o20 P), some (o21 P), some (o15 P), some (o24 P), some (o15 P), some (o27 P), some (o28 P), some (o15 P), some (o38 P)]
noncomputable def Kc1 (P : Params) : List (Option Obj) := [some (o15 P), some (o41 P), some (o42 P), some (o15 P), some (o45 P), some (o15 P), some (o48 P), some (o49 P), some (o15 P), some (o52 P), some (o15 P), some (o55 P), some (o56 P), some (o15 P)]
noncomputable def Kc2 (P : Params) : List (Option Obj) := [some (o59 P), some (o15 P), some (o62 P), some (o63 P), some (o15 P), some (o66 P), some (o15 P), some (o69 P), some (o70 P), some (o15 P), some (o73 P), some (o15 P), some (o76 P), some (o77 P)]
noncomputable def Kc3 (P : Params) : List (Option Obj) := [some (o15 P), some (o80 P), some (o15 P), some (o83 P), some (o84 P), some (o15 P), some (o88 P), some (o89 P), some (o90 P), some (o91 P), some (o92 P), some (o93 P), some (o94 P), some (o15 P)]
noncomputable def Kc4 (P : Params) : List (Option Obj) := [some (o99 P), some (o15 P), some (o102 P), some (o103 P), some (o15 P), some (o106 P), some (o15 P), some (o109 P), some (o110 P), some (o15 P), some (o113 P), some (o15 P), some (o116 P), some (o117 P)]
noncomputable def Kc5 (P : Params) : List (Option Obj) := [some (o15 P), some (o120 P), some (o15 P), some (o123 P), some (o124 P), some (o15 P), some (o134 P), some (o15 P), some (o137 P), some (o138 P), some (o15 P), some (o141 P), some (o15 P), some (o144 P)]
noncomputable def Kc6 (P : Params) : List (Option Obj) := [some (o145 P), some (o15 P), some (o148 P), some (o15 P), some (o151 P), some (o152 P), some (o15 P), some (o155 P), some (o15 P), some (o158 P), some (o159 P), some (o15 P), some (o163 P), some (o164 P)]
noncomputable def Kc7 (P : Params) : List (Option Obj) := [some (o15 P), some (o167 P), some (o15 P), some (o170 P), some (o171 P), some (o15 P), some (o174 P), some (o15 P), some (o177 P), some (o178 P), some (o179 P), some (o180 P), some (o181 P), some (o182 P)]
noncomputable def Kc8 (P : Params) : List (Option Obj) := [some (o183 P), some (o15 P), some (o195 P), some (o15 P), some (o198 P), some (o199 P), some (o15 P), some (o202 P), some (o15 P), some (o205 P), some (o206 P), some (o15 P), some (o209 P), some (o15 P)]
noncomputable def Kc9 (P : Params) : List (Option Obj) := [some (o212 P), some (o213 P), some (o15 P), some (o216 P), some (o15 P), some (o219 P), some (o220 P), some (o15 P), some (o223 P), some (o15 P), some (o226 P), some (o227 P), some (o15 P), some (o230 P)]
noncomputable def Kc10 (P : Params) : List (Option Obj) := [some (o15 P), some (o233 P), some (o234 P), some (o15 P), some (o237 P), some (o15 P), some (o240 P), some (o241 P), some (o15 P), some (o244 P), some (o15 P), some (o247 P), some (o248 P), some (o15 P)]
noncomputable def Kc11 (P : Params) : List (Option Obj) := [some (o251 P), some (o15 P), some (o254 P), some (o255 P), some (o15 P), some (o258 P), some (o15 P), some (o261 P), some (o262 P), some (o15 P), some (o265 P), some (o15 P), some (o268 P), some (o269 P)]
noncomputable def Kc12 (P : Params) : List (Option Obj) := [some (o15 P), some (o272 P), some (o15 P), some (o275 P), some (o276 P), some (o15 P), some (o279 P), some (o15 P), some (o282 P), some (o283 P), some (o15 P), some (o286 P), some (o15 P), some (o289 P)]
noncomputable def Kc13 (P : Params) : List (Option Obj) := [some (o290 P), some (o15 P), some (o293 P), some (o15 P), some (o296 P), some (o297 P), some (o298 P), some (o299 P), some (o300 P), some (o301 P), some (o302 P), some (o305 P), some (o312 P), some (o313 P)]
noncomputable def Kc14 (P : Params) : List (Option Obj) := [some (o314 P), some (o315 P), some (o318 P), some (o312 P), some (o326 P), some (o327 P), some (o318 P), some (o312 P), some (o338 P), some (o339 P), some (o15 P), some (o344 P), some (o15 P), some (o347 P)]
noncomputable def Kc15 (P : Params) : List (Option Obj) := [some (o348 P), some (o15 P), some (o351 P), some (o15 P), some (o354 P), some (o355 P), some (o15 P), some (o358 P), some (o15 P), some (o361 P), some (o362 P), some (o15 P), some (o365 P), some (o15 P)]
noncomputable def Kc16 (P : Params) : List (Option Obj) := [some (o368 P), some (o369 P), some (o15 P), some (o379 P), some (o15 P), some (o382 P), some (o383 P), some (o15 P), some (o386 P), some (o15 P), some (o389 P), some (o390 P), some (o15 P), some (o393 P)]
noncomputable def Kc17 (P : Params) : List (Option Obj) := [some (o15 P), some (o396 P), some (o397 P), some (o15 P), some (o400 P), some (o15 P), some (o403 P), some (o404 P), some (o15 P), some (o407 P), some (o15 P), some (o410 P), some (o411 P), some (o15 P)]
noncomputable def Kc18 (P : Params) : List (Option Obj) := [some (o414 P), some (o15 P), some (o417 P), some (o418 P), some (o15 P), some (o421 P), some (o15 P), some (o424 P), some (o425 P), some (o15 P), some (o428 P), some (o15 P), some (o431 P), some (o432 P)]
noncomputable def Kc19 (P : Params) : List (Option Obj) := [some (o15 P), some (o435 P), some (o15 P), some (o438 P), some (o439 P), some (o15 P), some (o442 P), some (o15 P), some (o445 P), some (o446 P), some (o15 P), some (o449 P), some (o15 P), some (o452 P)]
noncomputable def Kc20 (P : Params) : List (Option Obj) := [some (o453 P), some (o454 P), some (o455 P), some (o456 P), some (o457 P), some (o458 P), some (o15 P), some (o463 P), some (o15 P), some (o466 P), some (o467 P), some (o15 P), some (o470 P), some (o15 P)]
noncomputable def Kc21 (P : Params) : List (Option Obj) := [some (o473 P), some (o474 P), some (o15 P), some (o477 P), some (o15 P), some (o480 P), some (o481 P), some (o15 P), some (o484 P), some (o15 P), some (o487 P), some (o488 P), some (o15 P), some (o491 P)]
noncomputable def Kc22 (P : Params) : List (Option Obj) := [some (o15 P), some (o494 P), some (o495 P), some (o15 P), some (o498 P), some (o15 P), some (o501 P), some (o502 P), some (o15 P), some (o505 P), some (o15 P), some (o508 P), some (o509 P), some (o15 P)]
noncomputable def Kc23 (P : Params) : List (Option Obj) := [some (o512 P), some (o15 P), some (o515 P), some (o516 P), some (o15 P), some (o519 P), some (o15 P), some (o522 P), some (o523 P), some (o15 P), some (o526 P), some (o15 P), some (o529 P), some (o530 P)]
noncomputable def Kc24 (P : Params) : List (Option Obj) := [some (o15 P), some (o533 P), some (o15 P), some (o536 P), some (o537 P)]
noncomputable def Kc (P : Params) : List (Option Obj) := Kc0 P ++ (Kc1 P ++ (Kc2 P ++ (Kc3 P ++ (Kc4 P ++ (Kc5 P ++ (Kc6 P ++ (Kc7 P ++ (Kc8 P ++ (Kc9 P ++ (Kc10 P ++ (Kc11 P ++ (Kc12 P ++ (Kc13 P ++ (Kc14 P ++ (Kc15 P ++ (Kc16 P ++ (Kc17 P ++ (Kc18 P ++ (Kc19 P ++ (Kc20 P ++ (Kc21 P ++ (Kc22 P ++ (Kc23 P ++ (Kc24 P))))))))))))))))))))))))
def adr : List Addr := nat_lit 2 :: nat_lit 3 :: nat_lit 15 :: nat_lit 17 :: nat_lit 18 :: nat_lit 20 :: nat_lit 21 :: nat_lit 22 :: nat_lit 24 :: nat_lit 25 :: nat_lit 27 :: nat_lit 28 :: nat_lit 36 :: nat_lit 38 :: nat_lit 39 :: nat_lit 41 :: nat_lit 42 :: nat_lit 43 :: nat_lit 45 :: nat_lit 46 :: nat_lit 48 :: nat_lit 49 :: nat_lit 50 :: nat_lit 52 :: nat_lit 53 :: nat_lit 55 :: nat_lit 56 :: nat_lit 57 :: nat_lit 59 :: nat_lit 60 :: nat_lit 62 :: nat_lit 63 :: nat_lit 64 :: nat_lit 66 :: nat_lit 67 :: nat_lit 69 :: nat_lit 70 :: nat_lit 71 :: nat_lit 73 :: nat_lit 74 :: nat_lit 76 :: nat_lit 77 :: nat_lit 78 :: nat_lit 80 :: nat_lit 81 :: nat_lit 83 :: nat_lit 84 :: nat_lit 85 :: nat_lit 88 :: nat_lit 89 :: nat_lit 90 :: nat_lit 91 :: nat_lit 92 :: nat_lit 93 :: nat_lit 94 :: nat_lit 97 :: nat_lit 99 :: nat_lit 100 :: nat_lit 102 :: nat_lit 103 :: nat_lit 104 :: nat_lit 106 :: nat_lit 107 :: nat_lit 109 :: nat_lit 110 :: nat_lit 111 :: nat_lit 113 :: nat_lit 114 :: nat_lit 116 :: nat_lit 117 :: nat_lit 118 :: nat_lit 120 :: nat_lit 121 :: nat_lit 123 :: nat_lit 124 :: nat_lit 132 :: nat_lit 134 :: nat_lit 135 :: nat_lit 137 :: nat_lit 138 :: nat_lit 139 :: nat_lit 141 :: nat_lit 142 :: nat_lit 144 :: nat_lit 145 :: nat_lit 146 :: nat_lit 148 :: nat_lit 149 :: nat_lit 151 :: nat_lit 152 :: nat_lit 153 :: nat_lit 155 :: nat_lit 156 :: nat_lit 158 :: nat_lit 159 :: nat_lit 160 :: nat_lit 163 :: nat_lit 164 :: nat_lit 165 :: nat_lit 167 :: nat_lit 168 :: nat_lit 170 :: nat_lit 171 :: nat_lit 172 :: nat_lit 174 :: nat_lit 175 :: nat_lit 177 :: nat_lit 178 :: nat_lit 179 :: nat_lit 180 :: nat_lit 181 :: nat_lit 182 :: nat_lit 183 :: nat_lit 193 :: nat_lit 195 :: nat_lit 196 :: nat_lit 198 :: nat_lit 199 :: nat_lit 200 :: nat_lit 202 :: nat_lit 203 :: nat_lit 205 :: nat_lit 206 :: nat_lit 207 :: nat_lit 209 :: nat_lit 210 :: nat_lit 212 :: nat_lit 213 :: nat_lit 214 :: nat_lit 216 :: nat_lit 217 :: nat_lit 219 :: nat_lit 220 :: nat_lit 221 :: nat_lit 223 :: nat_lit 224 :: nat_lit 226 :: nat_lit 227 :: nat_lit 228 :: nat_lit 230 :: nat_lit 231 :: nat_lit 233 :: nat_lit 234 :: nat_lit 235 :: nat_lit 237 :: nat_lit 238 :: nat_lit 240 :: nat_lit 241 :: nat_lit 242 :: nat_lit 244 :: nat_lit 245 :: nat_lit 247 :: nat_lit 248 :: nat_lit 249 :: nat_lit 251 :: nat_lit 252 :: nat_lit 254 :: nat_lit 255 :: nat_lit 256 :: nat_lit 258 :: nat_lit 259 :: nat_lit 261 :: nat_lit 262 :: nat_lit 263 :: nat_lit 265 :: nat_lit 266 :: nat_lit 268 :: nat_lit 269 :: nat_lit 270 :: nat_lit 272 :: nat_lit 273 :: nat_lit 275 :: nat_lit 276 :: nat_lit 277 :: nat_lit 279 :: nat_lit 280 :: nat_lit 282 :: nat_lit 283 :: nat_lit 284 :: nat_lit 286 :: nat_lit 287 :: nat_lit 289 :: nat_lit 290 :: nat_lit 291 :: nat_lit 293 :: nat_lit 294 :: nat_lit 296 :: nat_lit 297 :: nat_lit 298 :: nat_lit 299 :: nat_lit 300 :: nat_lit 301 :: nat_lit 302 :: nat_lit 305 :: nat_lit 312 :: nat_lit 313 :: nat_lit 314 :: nat_lit 315 :: nat_lit 318 :: nat_lit 325 :: nat_lit 326 :: nat_lit 327 :: nat_lit 330 :: nat_lit 337 :: nat_lit 338 :: nat_lit 339 :: nat_lit 342 :: nat_lit 344 :: nat_lit 345 :: nat_lit 347 :: nat_lit 348 :: nat_lit 349 :: nat_lit 351 :: nat_lit 352 :: nat_lit 354 :: nat_lit 355 :: nat_lit 356 :: nat_lit 358 :: nat_lit 359 :: nat_lit 361 :: nat_lit 362 :: nat_lit 363 :: nat_lit 365 :: nat_lit 366 :: nat_lit 368 :: nat_lit 369 :: nat_lit 377 :: nat_lit 379 :: nat_lit 380 :: nat_lit 382 :: nat_lit 383 :: nat_lit 384 :: nat_lit 386 :: nat_lit 387 :: nat_lit 389 :: nat_lit 390 :: nat_lit 391 :: nat_lit 393 :: nat_lit 394 :: nat_lit 396 :: nat_lit 397 :: nat_lit 398 :: nat_lit 400 :: nat_lit 401 :: nat_lit 403 :: nat_lit 404 :: nat_lit 405 :: nat_lit 407 :: nat_lit 408 :: nat_lit 410 :: nat_lit 411 :: nat_lit 412 :: nat_lit 414 :: nat_lit 415 :: nat_lit 417 :: nat_lit 418 :: nat_lit 419 :: nat_lit 421 :: nat_lit 422 :: nat_lit 424 :: nat_lit 425 :: nat_lit 426 :: nat_lit 428 :: nat_lit 429 :: nat_lit 431 :: nat_lit 432 :: nat_lit 433 :: nat_lit 435 :: nat_lit 436 :: nat_lit 438 :: nat_lit 439 :: nat_lit 440 :: nat_lit 442 :: nat_lit 443 :: nat_lit 445 :: nat_lit 446 :: nat_lit 447 :: nat_lit 449 :: nat_lit 450 :: nat_lit 452 :: nat_lit 453 :: nat_lit 454 :: nat_lit 455 :: nat_lit 456 :: nat_lit 457 :: nat_lit 458 :: nat_lit 461 :: nat_lit 463 :: nat_lit 464 :: nat_lit 466 :: nat_lit 467 :: nat_lit 468 :: nat_lit 470 :: nat_lit 471 :: nat_lit 473 :: nat_lit 474 :: nat_lit 475 :: nat_lit 477 :: nat_lit 478 :: nat_lit 480 :: nat_lit 481 :: nat_lit 482 :: nat_lit 484 :: nat_lit 485 :: nat_lit 487 :: nat_lit 488 :: nat_lit 489 :: nat_lit 491 :: nat_lit 492 :: nat_lit 494 :: nat_lit 495 :: nat_lit 496 :: nat_lit 498 :: nat_lit 499 :: nat_lit 501 :: nat_lit 502 :: nat_lit 503 :: nat_lit 505 :: nat_lit 506 :: nat_lit 508 :: nat_lit 509 :: nat_lit 510 :: nat_lit 512 :: nat_lit 513 :: nat_lit 515 :: nat_lit 516 :: nat_lit 517 :: nat_lit 519 :: nat_lit 520 :: nat_lit 522 :: nat_lit 523 :: nat_lit 524 :: nat_lit 526 :: nat_lit 527 :: nat_lit 529 :: nat_lit 530 :: nat_lit 531 :: nat_lit 533 :: nat_lit 534 :: nat_lit 536 :: nat_lit 537 :: []
theorem adr_eq (P : Params) : adr = (Kf P).map (·.1) := by kernel_rfl
theorem kc_eq (P : Params) : Kc P = (Kf P).map fun p => some p.2 := by kernel_rfl
noncomputable def vw : Program := PySem.W.view PySem.Challenge.pw_frameland_k72_book_true [0, 2, 4, 6, 7, 8, 9, 11, 13, 15, 16, 17, 19, 20, 22, 23, 24, 26, 27, 28, 29, 30, 31, 32, 33, 34, 35, 36]
noncomputable def lhs := once PySem.Challenge.pw_frameland_k72_book_true (fun s => adr.map s.heap.get?) 7056
noncomputable def rhs (w : World) := some (true, Kc w.params)
noncomputable def lht := seen PySem.Challenge.pw_frameland_k72_book_true vw [] (fun s => PySem.W.xlAt vw [] s && PySem.W.recOk (PySem.W.RowW.records (PySem.Challenge.rw_frameland_k72_book_true).row.toRowW) s) 7056
noncomputable def rht := some (PySem.W.openGood vw [])
theorem twins : (fun (_ : World → OsState → _) (_ : World → _) (_ : World → OsState → _) (_ : Option _) => true) lhs rhs lht rht = true := by k_qdec
theorem run_one : ∀ (w : World) (os : OsState), PySem.W.Fast.tw7128866508377749982 w os = PySem.W.Fast.tw12590348191598281069 w := by intro w os; kernel_rfl
theorem run_two : ∀ (w : World) (os : OsState), PySem.W.Fast.tw7374437481920917934 w os = PySem.W.Fast.tw10733892774512676622 := by intro w os; kernel_rfl
theorem left : PySem.W.LeftO PySem.Challenge.pw_frameland_k72_book_true vw [] (fun s => PySem.W.xlAt vw [] s && PySem.W.recOk (PySem.W.RowW.records (PySem.Challenge.rw_frameland_k72_book_true).row.toRowW) s) (fun s => adr.map s.heap.get?) (fun w => (Kf w.params).map fun p => some p.2) (7056) := by
  refine left_once (by kernel_rfl) (by kernel_rfl) (by intro s; kernel_rfl) (fun w os => ?_) fun w os => ?_
  · rw [← kc_eq]; exact (congrFun (congrFun PySem.W.Fast.te7128866508377749982 w) os).trans ((run_one w os).trans (congrFun PySem.W.Fast.te12590348191598281069 w).symm)
  · exact (congrFun (congrFun PySem.W.Fast.te7374437481920917934 w) os).trans ((run_two w os).trans PySem.W.Fast.te10733892774512676622.symm)
end

end Pf
open PySem PySem.W PyProof.Rows
set_option maxRecDepth 100000 in
set_option maxHeartbeats 0 in
theorem PySem.Challenge.cw_frameland_k72_book_true_holds : PySem.Challenge.rw_frameland_k72_book_true.Holds := by
  w_on; o_law
  refine holds_open (q := Pf.vw) (loose := []) (Xt := fun s => xlAt Pf.vw [] s && recOk (RowW.records (PySem.Challenge.rw_frameland_k72_book_true).row.toRowW) s) (XP := XL Pf.vw []) (Yf := Hook.obs (kHook Pf.Kf Pf.adr Pf.adr_eq)) (Ya := Hook.val (kHook Pf.Kf Pf.adr Pf.adr_eq)) (YP := Hook.says (kHook Pf.Kf Pf.adr Pf.adr_eq)) (N := (7056)) Pf.left (Hook.of (kHook Pf.Kf Pf.adr Pf.adr_eq)) (Hook.keeps (kHook Pf.Kf Pf.adr Pf.adr_eq)) (fun s e => xl_of s (Bool.and_eq_true_iff.mp e).1) XL.keeps (by rfl) (by rfl) (by rfl) (fun s e => recFacts_of (Bool.and_eq_true_iff.mp e).2) (by rfl) (by first | assumption | decide +kernel) (by decide +kernel) ⟨rfl, rfl, rfl, rfl, rfl, by decide +kernel⟩ ?hw ?hc
  case hw => w_witness2
  k_fill
  refine Pf.walk (l := PySem.Challenge.rw_frameland_k72_book_true) rfl rfl rfl (fun w h Y => PySem.W.kIn_of Y) ?F
  case F =>
    intro w mg h KX G
    refine' Pf.txt_mk KX G ?g0 ?g1 ?g2 ?g3 ?g4 ?g5 ?g6 ?g7 ?g8 ?g9 ?g10 ?g11 ?g12 ?g13 ?g14 ?g15 ?g16 ?g17 ?g18 ?g19 ?g20 ?g21 ?g22 ?g23 ?g24 ?g25 ?g26 ?g27 ?g28 ?g29 ?g30 ?g31 ?g32 ?g33 ?g34 ?g35 ?g36 ?g37 ?g38 ?g39 ?g40 ?g41 ?g42 ?g43 ?g44 ?g45 ?g46 ?g47 ?g48 ?g49 ?g50 ?g51 ?g52 ?g53 ?g54 ?g55 ?g56 ?g57 ?g58 ?g59 ?g60 ?g61 ?g62 ?g63 ?g64 ?g65 ?g66 ?g67 ?g68 ?g69 ?g70 ?g71 ?g72 ?g73 ?g74 ?g75 ?g76 ?g77 ?g78 ?g79 ?g80 ?g81 ?g82 ?g83 ?g84 ?g85 ?g86 ?g87 ?g88 ?g89 ?g90 ?g91 ?g92 ?g93 ?g94 ?g95 ?g96 ?g97 ?g98 ?g99 ?g100 ?g101 ?g102 ?g103 ?g104 ?g105 ?g106 ?g107 ?g108 ?g109 ?g110 ?g111 ?g112 ?g113 ?g114 ?g115 ?g116 ?g117 ?g118 ?g119 ?g120 ?g121 ?g122 ?g123 ?g124 ?g125 ?g126 ?g127 ?g128 ?g129 ?g130 ?g131 ?g132 ?g133 ?g134 ?g135 ?g136 ?g137 ?g138 ?g139 ?g140 ?g141 ?g142 ?g143 ?g144 ?g145 ?g146 ?g147 ?g148 ?g149 ?g150 ?g151 ?g152 ?g153 ?g154 ?g155 ?g156 ?g157 ?g158 ?g159 ?g160 ?g161 ?g162 ?g163 ?g164 ?g165 ?g166 ?g167 ?g168 ?g169 ?g170 ?g171 ?g172 ?g173 ?g174 ?g175 ?g176 ?g177 ?g178 ?g179 ?g180 ?g181 ?g182 ?g183 ?g184 ?g185 ?g186 ?g187 ?g188 ?g189 ?g190 ?g191 ?g192 ?g193 ?g194 ?g195 ?g196 ?g197 ?g198 ?g199 ?g200 ?g201 ?g202 ?g203 ?g204 ?g205 ?g206 ?g207 ?g208 ?g209 ?g210 ?g211 ?g212 ?g213 ?g214 ?g215 ?g216 ?g217 ?g218 ?g219 ?g220 ?g221 ?g222 ?g223 ?g224 ?g225 ?g226 ?g227 ?g228 ?g229 ?g230 ?g231 ?g232 ?g233 ?g234 ?g235 ?g236 ?g237 ?g238 ?g239 ?g240 ?g241 ?g242 ?g243 ?g244 ?g245 ?g246 ?g247 ?g248 ?g249 ?g250 ?g251 ?g252 ?g253 ?g254 ?g255 ?g256 ?g257 ?g258 ?g259 ?g260 ?g261 ?g262 ?g263 ?g264 ?g265
    (case g0 => k_is); (case g1 => k_is); (case g2 => k_is); (case g3 => k_is); (case g4 => k_is); (case g5 => k_is)
    (case g6 => k_is); (case g7 => k_is); (case g8 => k_is); (case g9 => k_is); (case g10 => k_is); (case g11 => k_is)
    (case g12 => k_is); (case g13 => k_is); (case g14 => k_is); (case g15 => k_is); (case g16 => k_is); (case g17 => k_is)
    (case g18 => k_is); (case g19 => k_is); (case g20 => k_is); (case g21 => k_is); (case g22 => k_is); (case g23 => k_is)
    (case g24 => k_is); (case g25 => k_is); (case g26 => k_is); (case g27 => k_is); (case g28 => k_is); (case g29 => k_is)
    (case g30 => k_is); (case g31 => k_is); (case g32 => k_is); (case g33 => k_is); (case g34 => k_is); (case g35 => k_is)
    (case g36 => k_is); (case g37 => k_is); (case g38 => k_is); (case g39 => k_is); (case g40 => k_is); (case g41 => k_is)
    (case g42 => k_is); (case g43 => k_is); (case g44 => k_is); (case g45 => k_is); (case g46 => k_is); (case g47 => k_is)
    (case g48 => k_is); (case g49 => k_is); (case g50 => k_is); (case g51 => k_is); (case g52 => k_is); (case g53 => k_is)
    (case g54 => k_is); (case g55 => k_is); (case g56 => k_is); (case g57 => k_is); (case g58 => k_is); (case g59 => k_is)
    (case g60 => k_is); (case g61 => k_is); (case g62 => k_is); (case g63 => k_is); (case g64 => k_is); (case g65 => k_is)
    (case g66 => k_is); (case g67 => k_is); (case g68 => k_is); (case g69 => k_is); (case g70 => k_is); (case g71 => k_is)
    (case g72 => k_is); (case g73 => k_is); (case g74 => k_is); (case g75 => k_is); (case g76 => k_is); (case g77 => k_is)
    (case g78 => k_is); (case g79 => k_is); (case g80 => k_is); (case g81 => k_is); (case g82 => k_is); (case g83 => k_is)
    (case g84 => k_is); (case g85 => k_is); (case g86 => k_is); (case g87 => k_is); (case g88 => k_is); (case g89 => k_is)
    (case g90 => k_is); (case g91 => k_is); (case g92 => k_is); (case g93 => k_is); (case g94 => k_is); (case g95 => k_is)
    (case g96 => k_is); (case g97 => k_is); (case g98 => k_is); (case g99 => k_is); (case g100 => k_is); (case g101 => k_is)
    (case g102 => k_is); (case g103 => k_is); (case g104 => k_is); (case g105 => k_is); (case g106 => k_is); (case g107 => k_is)
    (case g108 => k_is); (case g109 => k_is); (case g110 => k_is); (case g111 => k_is); (case g112 => k_is); (case g113 => k_is)
    (case g114 => k_is); (case g115 => k_is); (case g116 => k_is); (case g117 => k_is); (case g118 => k_is); (case g119 => k_is)
    (case g120 => k_is); (case g121 => k_is); (case g122 => k_is); (case g123 => k_is); (case g124 => k_is); (case g125 => k_is)
    (case g126 => k_is); (case g127 => k_is); (case g128 => k_is); (case g129 => k_is); (case g130 => k_is); (case g131 => k_is)
    (case g132 => k_is); (case g133 => k_is); (case g134 => k_is); (case g135 => k_is); (case g136 => k_is); (case g137 => k_is)
    (case g138 => k_is); (case g139 => k_is); (case g140 => k_is); (case g141 => k_is); (case g142 => k_is); (case g143 => k_is)
    (case g144 => k_is); (case g145 => k_is); (case g146 => k_is); (case g147 => k_is); (case g148 => k_is); (case g149 => k_is)
    (case g150 => k_is); (case g151 => k_is); (case g152 => k_is); (case g153 => k_is); (case g154 => k_is); (case g155 => k_is)
    (case g156 => k_is); (case g157 => k_is); (case g158 => k_is); (case g159 => k_is); (case g160 => k_is); (case g161 => k_is)
    (case g162 => k_is); (case g163 => k_is); (case g164 => k_is); (case g165 => k_is); (case g166 => k_is); (case g167 => k_is)
    (case g168 => k_is); (case g169 => k_is); (case g170 => k_is); (case g171 => k_is); (case g172 => k_is); (case g173 => k_is)
    (case g174 => k_is); (case g175 => k_is); (case g176 => k_is); (case g177 => k_is); (case g178 => k_is); (case g179 => k_is)
    (case g180 => k_is); (case g181 => k_is); (case g182 => k_is); (case g183 => k_is); (case g184 => k_is); (case g185 => k_is)
    (case g186 => k_is); (case g187 => k_is); (case g188 => k_is); (case g189 => k_is); (case g190 => k_is); (case g191 => k_is)
    (case g192 => k_is); (case g193 => k_is); (case g194 => k_is); (case g195 => k_is); (case g196 => k_is); (case g197 => k_is)
    (case g198 => k_is); (case g199 => k_is); (case g200 => k_is); (case g201 => k_is); (case g202 => k_is); (case g203 => k_is)
    (case g204 => k_is); (case g205 => k_is); (case g206 => k_is); (case g207 => k_is); (case g208 => k_is); (case g209 => k_is)
    (case g210 => k_is); (case g211 => k_is); (case g212 => k_is); (case g213 => k_is); (case g214 => k_is); (case g215 => k_is)
    (case g216 => k_is); (case g217 => k_is); (case g218 => k_is); (case g219 => k_is); (case g220 => k_is); (case g221 => k_is)
    (case g222 => k_is); (case g223 => k_is); (case g224 => k_is); (case g225 => k_is); (case g226 => k_is); (case g227 => k_is)
    (case g228 => k_is); (case g229 => k_is); (case g230 => k_is); (case g231 => k_is); (case g232 => k_is); (case g233 => k_is)
    (case g234 => k_is); (case g235 => k_is); (case g236 => k_is); (case g237 => k_is); (case g238 => k_is); (case g239 => k_is)
    (case g240 => k_is); (case g241 => k_is); (case g242 => k_is); (case g243 => k_is); (case g244 => k_is); (case g245 => k_is)
    (case g246 => k_is); (case g247 => k_is); (case g248 => k_is); (case g249 => k_is); (case g250 => k_is); (case g251 => k_is)
    (case g252 => k_is); (case g253 => k_is); (case g254 => k_is); (case g255 => k_is); (case g256 => k_is); (case g257 => k_is)
    (case g258 => k_is); (case g259 => k_is); (case g260 => k_exc); (case g261 => k_exc); (case g262 => k_is); (case g263 => k_is)
    (case g264 => k_is); (case g265 => k_is)
